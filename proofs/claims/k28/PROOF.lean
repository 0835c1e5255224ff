import PyProof.Rows.All
import Wide.All
import OpenK.AllK
import Wide.FinOn
import HandS.Base
import HandS.Call
import HandS.List
import HandS.Comp
import HandS.Ends
import HandS.EndBits
import HandS.Dict
import HandS.Iter
import HandS.Text
import HandS.Words
import HandS.WordsList
import HandS.WordsDict
import HandS.Wide
import HandS.WideBits
import HandS.RaiseMore
import HandS.IsInst
import HandS.Conv
import HandS.Style
import HandS.Zip
import PyProof.ReprRoads
import HandS.Steps
import HandS.ExcInit
import HandS.ExcField
import KE.KExcIs
import PyProof.EnumMake
import PyProof.Draws
import KE.KDictList
import KE.KDictZip
import KE.GoesZip
import KE.GoesMore
import HandS.Deep
import HandS.StrMore
import HandS.FStr
import HandS.Property
import HandS.Walk
import KE.KTupSum
import HandS.TupAny
import HandS.More
import HandS.DictComp
import PySem.Challenge.RW_anyasked_k28_halves_by_hand
set_option Elab.async false
set_option linter.all false
set_option maxRecDepth 100000
set_option maxHeartbeats 2000000
namespace Uq
open PySem PySem.Spec PyProof.Rows L2

/-! ### what a caller knows of a def -/
structure Cal (P : Program) (w : World) (K : PySem.W.Frag) (mg : Str → Option Value) (base : Heap) (k : Nat) (x : Str) (ps : List Str) (sp : Sp) where
  a : Addr
  d : FuncData
  G : FnOk P w K mg base CX0 k a d ps sp
  kp : PySem.W.keepIn K (.ref a) = true
  b : Binds K d ps []
  g : mg x = some (.ref a)

/-! ### heaps -/
/-- all that was tracked, but at p, is as it was -/
def But (p : Addr) (H H' : Hp) : Prop := ∀ b o, b ≠ p → H b = some o → H' b = some o
theorem But.refl (p : Addr) (H : Hp) : But p H H := fun _ _ _ h => h
theorem But.trans {p : Addr} {H H1 H2 : Hp} (a : But p H H1) (b : But p H1 H2) : But p H H2 := fun c o n h => b c o n (a c o n h)
theorem But.of {p : Addr} {H H' : Hp} (a : Same H H') : But p H H' := fun c o _ h => a c o h
theorem But.new {p q : Addr} {H H1 : Hp} {o : HO} (a : But p H H1) (h : H1 q = none) : But p H (upd H1 q o) := fun c u n e => by
  have e1 := a c u n e
  rw [upd_ne (ne_of_none e1 h)]
  exact e1
theorem But.put {p : Addr} {H H1 : Hp} {o : HO} (a : But p H H1) : But p H (upd H1 p o) := fun c u n e => by
  rw [upd_ne n]
  exact a c u n e
theorem But.seqL {K : PySem.W.Frag} {p a : Addr} {H H' : Hp} {xs : List V} (e : But p H H') (n : a ≠ p) (h : SqL K H a xs) : SqL K H' a xs := by
  rcases h with (h | ⟨o, h⟩) | h
  · exact .inl (.inl (e _ _ n h))
  · exact .inl (.inr ⟨o, e _ _ n h⟩)
  · exact .inr h
theorem But.seqT {K : PySem.W.Frag} {p a : Addr} {H H' : Hp} {xs : List V} (e : But p H H') (n : a ≠ p) (h : SqT K H a xs) : SqT K H' a xs := by
  rcases h with (h | ⟨o, h⟩) | h
  · exact .inl (.inl (e _ _ n h))
  · exact .inl (.inr ⟨o, e _ _ n h⟩)
  · exact .inr h
theorem sameU {H : Hp} {p : Addr} {o : HO} (h : H p = none) : Same H (upd H p o) := fun b x e => by
  rw [upd_ne (ne_of_none e h)]
  exact e
theorem Same.tup {K : PySem.W.Frag} {a : Addr} {H H' : Hp} {xs : List V} (e : Same H H') (h : SqT K H a xs) : SqT K H' a xs := by
  rcases h with (h | ⟨o, h⟩) | h
  · exact .inl (.inl (e _ _ h))
  · exact .inl (.inr ⟨o, e _ _ h⟩)
  · exact .inr h
theorem Same.lst {K : PySem.W.Frag} {a : Addr} {H H' : Hp} {xs : List V} (e : Same H H') (h : SqL K H a xs) : SqL K H' a xs := Same.seq e h

/-! ### great powers -/
def CPowW (i j : Int) : Prop := 0 ≤ j ∧ (Builtin.Int.intBits i : Int) * j ≤ 2 ^ 27
theorem op_powW {X : Cx} : OpR X (binaryOp .Pow) (rI CPowW fun i j => .int (i ^ j.toNat)) := opI fun _ _ _ _ _ _ _ hc q => PyProof.Rows.pow_int hc.1 hc.2 q
theorem powW_ok {i : Int} {j n : Nat} (h : i.natAbs < 2 ^ n) (hn : n * j ≤ 134217728) : CPowW i (j : Int) := by
  have b := PyProof.Rows.intBits_le h
  have e : (2 : Int) ^ 27 = 134217728 := by decide
  refine ⟨Int.natCast_nonneg _, ?_⟩
  rw [e]
  have c : Builtin.Int.intBits i * j ≤ n * j := Nat.mul_le_mul_right j b
  have d : ((Builtin.Int.intBits i * j : Nat) : Int) ≤ ((n * j : Nat) : Int) := Int.ofNat_le.mpr c
  rw [Int.natCast_mul] at d
  omega

/-! ### the drawing of numbers: a list of three ints at p -/
/-- own digits, a seed, how often it was drawn (at most c times) -/
def Pot (H : Hp) (p : Addr) (c : Nat) : Prop := ∃ o s n : Int, H p = some (.lst [.int o, .int s, .int n]) ∧ 0 ≤ o ∧ o < 10 ^ 300 ∧ 0 ≤ s ∧ s < 2305843009213693951 ∧ 0 ≤ n ∧ n ≤ c
theorem Pot.mono {H : Hp} {p : Addr} {c d : Nat} (h : Pot H p c) (e : c ≤ d) : Pot H p d := by
  obtain ⟨o, s, n, h0, h1, h2, h3, h4, h5, h6⟩ := h
  exact ⟨o, s, n, h0, h1, h2, h3, h4, h5, by omega⟩
theorem Pot.same {H H' : Hp} {p : Addr} {c : Nat} (e : Same H H') (h : Pot H p c) : Pot H' p c := by
  obtain ⟨o, s, n, h0, h1⟩ := h
  exact ⟨o, s, n, e _ _ h0, h1⟩
theorem Pot.new {H : Hp} {p q : Addr} {c : Nat} {o : HO} (h : Pot H p c) (hq : H q = none) : Pot (upd H q o) p c := h.same (sameU hq)
theorem Pot.some {H : Hp} {p : Addr} {c : Nat} (h : Pot H p c) : H p ≠ none := by
  obtain ⟨o, s, n, h0, _⟩ := h
  rw [h0]
  exact fun z => nomatch z
theorem Pot.upd {H : Hp} {p q : Addr} {c : Nat} {o : HO} (h : Pot H p c) (n : p ≠ q) : Pot (upd H q o) p c := by
  obtain ⟨o', s, k, h0, h1⟩ := h
  exact ⟨o', s, k, by rw [upd_ne n]; exact h0, h1⟩
/-- a new place is not p -/
theorem Pot.ne {H : Hp} {p q : Addr} {c : Nat} (h : Pot H p c) (hq : H q = none) : q ≠ p := fun z => h.some (z ▸ hq)
/-- a draw below u -/
def sp_law_take (K : PySem.W.Frag) : Sp := fun vs H Q _ => ∃ (p : Addr) (c : Nat) (u : Int), vs = [.ref p, .int u] ∧ Pot H p c ∧ c < 100000 ∧ 1 ≤ u ∧ u < 2 ^ 62 ∧
  ∀ H' d, But p H H' → Pot H' p (c + 1) → 0 ≤ d → d < u → Q (.int d) H'
/-- one of a list -/
def sp_law_of (K : PySem.W.Frag) : Sp := fun vs H Q _ => ∃ (p l : Addr) (c : Nat) (xs : List V), vs = [.ref p, .ref l] ∧ Pot H p c ∧ c < 100000 ∧ l ≠ p ∧ SqL K H l xs ∧ 0 < xs.length ∧ xs.length ≤ 100000 ∧
  ∀ H' (i : Nat) v, But p H H' → Pot H' p (c + 1) → xs[i]? = some v → Q v H'
/-- the places of the cells -/
def sp_law_cells (K : PySem.W.Frag) : Sp := fun vs H Q _ => ∃ (a : Addr) (ns : List Int) (m : Int), vs = [.ref a, .int m] ∧ SqL K H a (ns.map V.int) ∧ ns.length ≤ 63 ∧ 1 ≤ m ∧ m ≤ 63 ∧
  ∀ H' l (k : Nat), H l = none → Same H H' → H' l = some (.lst (rgV 0 (k : Int))) → 1 ≤ k → k ≤ 63 → Q (.ref l) H'
def sp_law_pot (K : PySem.W.Frag) : Sp := fun vs H Q _ => ∃ (a : Addr) (ns : List Int) (m : Int), vs = [.ref a, .int m] ∧ SqL K H a (ns.map V.int) ∧ ns.length ≤ 63 ∧ 0 ≤ m ∧ m ≤ 63 ∧
  ∀ H' p, H p = none → Same H H' → Pot H' p 0 → Q (.ref p) H'
/-- what is asked of a cell's turn -/
def sp_law_right (K : PySem.W.Frag) : Sp := fun vs H Q _ => ∃ p : Addr, vs = [.ref p] ∧ Pot H p 0 ∧ ∀ H', But p H H' → Q (.bl true) H'
def sp_law (K : PySem.W.Frag) : Sp := fun vs H Q _ => ∃ (a : Addr) (ns : List Int), vs = [.ref a] ∧ SqL K H a (ns.map V.int) ∧ ns.length ≤ 63 ∧ ∀ H', Q (.bl true) H'
end Uq
namespace Uq
open PySem PySem.Spec PyProof.Rows L2
/-- the cell at a place, or what stands for it -/
theorem rd_cell {K : PySem.W.Frag} {σ : L2.St} {H : Hp} {Q : VK} {a : Addr} {ns : List Int} {m c1 c2 : Int} (hl : SqL K H a (ns.map V.int)) (hm : 0 ≤ m) (hc : -(2 ^ 64) < c1 ∧ c1 < 2 ^ 64) (h0 : σ[0]? = some (some (.ref a))) (h1 : σ[1]? = some (some (.int m))) (q : ∀ z : Int, Q (.int z) H) :
    tIf (tTest (tOp (rI0 fun i j => .bl (decide (i < j))) (tVar 1) (tCB (fun xs H Q => ∃ p ys, xs = [.ref p] ∧ (SqL K H p ys ∨ SqT K H p ys) ∧ Q (.int ys.length) H) (tCons (tVar 0) tNil)))) (tOp (rIxL K) (tVar 0) (tVar 1))
      (tOp (rI0 fun i j => .int (i + j)) (tOp (rI CMul fun i j => .int (i * j)) (tC (.int c1)) (tVar 1)) (tC (.int c2))) σ H Q := by
  refine ⟨.int m, h1, .ref a, h0, a, _, rfl, .inl hl, m, _, rfl, rfl, _, rfl, ite2 (fun e => ?_) (fun e => ?_)⟩
  · have e1 : m < (ns.map V.int).length := of_decide_eq_true e
    have e2 : m.toNat < ns.length := by
      rw [List.length_map] at e1
      omega
    exact ⟨.ref a, h0, .int m, h1, a, _, m, .int ns[m.toNat], rfl, rfl, hl, at_of (j := m.toNat) (by omega) (by rw [List.getElem?_map, List.getElem?_eq_getElem e2]; rfl), q _⟩
  · exact ⟨.int m, h1, _, m, rfl, rfl, .inl hc, _, _, rfl, rfl, q _⟩
theorem big_pos : (0 : Int) < ((10 : Int) ^ (60 : Int).toNat) ^ (5 : Int).toNat := by decide +kernel
theorem big_eq : ((10 : Int) ^ (60 : Int).toNat) ^ (5 : Int).toNat = 10 ^ 300 := by decide +kernel
theorem bigA : CPowW ((10 : Int) ^ (60 : Int).toNat) 5 := powW_ok (j := 5) (n := 300) (by decide +kernel) (by decide)
theorem bigB : CPowW 10 60 := powW_ok (j := 60) (n := 8) (by decide) (by decide)
theorem bigC : CPowW 10 18 := powW_ok (j := 18) (n := 8) (by decide) (by decide)
end Uq
namespace Uq
open PySem PySem.Spec PyProof.Rows L2
theorem b01 (b : Bool) : -(2 ^ 64) < (if b = true then (1 : Int) else 0) ∧ (if b = true then (1 : Int) else 0) < 2 ^ 64 := by cases b <;> decide
theorem own_ok (z : Int) (b : Bool) : 0 ≤ z % ((10 : Int) ^ (60 : Int).toNat) ^ (5 : Int).toNat * (if b = true then 1 else 0) ∧ z % ((10 : Int) ^ (60 : Int).toNat) ^ (5 : Int).toNat * (if b = true then 1 else 0) < 10 ^ 300 := by
  have a0 := Int.emod_nonneg z (Int.ne_of_gt big_pos)
  have a1 := Int.emod_lt_of_pos z big_pos
  rw [big_eq] at a0 a1 ⊢
  cases b with
  | true =>
    rw [if_pos rfl, Int.mul_one]
    exact ⟨a0, a1⟩
  | false =>
    rw [if_neg Bool.false_ne_true, Int.mul_zero]
    exact ⟨by decide, by decide +kernel⟩
theorem sqL_same {K : PySem.W.Frag} {a : Addr} {H H' : Hp} {xs : List V} (e : Same H H') (h : SqL K H a xs) : SqL K H' a xs := Same.seq e h
theorem sqT_same {K : PySem.W.Frag} {a : Addr} {H H' : Hp} {xs : List V} (e : Same H H') (h : SqT K H a xs) : SqT K H' a xs := Uq.Same.tup e h
end Uq
namespace Uq
open PySem PySem.Spec PyProof.Rows L2
theorem iteY {c A B : Prop} [Decidable c] (h : c) (x : A) : if c then A else B := by
  rw [if_pos h]
  exact x
theorem iteN {c A B : Prop} [Decidable c] (h : ¬ c) (x : B) : if c then A else B := by
  rw [if_neg h]
  exact x
/-- a test whose answer is known -/
theorem iteDY {c A B : Prop} [Decidable c] (h : c) (x : A) : if decide c = true then A else B := iteY (decide_eq_true h) x
theorem iteDN {c A B : Prop} [Decidable c] (h : ¬ c) (x : B) : if decide c = true then A else B := iteN (fun z => h (of_decide_eq_true z)) x
end Uq

namespace Uq
open PySem PySem.Spec PyProof.Rows L2

/-! ### defs that are called where no text of an object is under way -/
structure FnG (P : Program) (w : World) (K : PySem.W.Frag) (mg : Str → Option Value) (base : Heap) (k : Nat) (f : Addr) (fd : FuncData) (ps : List Str) (sp : Sp) : Prop where
  len : ∀ vs H Q E, sp vs H Q E → vs.length = ps.length
  run : ∀ (A : Around) (outer : List Env) (s : Shared) (H : Hp) (args : Args) (us : List Value) (vs : List V) (Q : VK) (E : XK),
    A.guards = some [] → Room k A → Env0 P w K mg base A outer s H → BindsTo s fd args (ps.zip us) → Vals vs us → sp vs H Q E →
    codeAny (model P w) A (.call (.ref f) args) (CR CX0 outer P w H s Q E) s

structure CalG (P : Program) (w : World) (K : PySem.W.Frag) (mg : Str → Option Value) (base : Heap) (k : Nat) (x : Str) (ps : List Str) (sp : Sp) where
  a : Addr
  d : FuncData
  G : FnG P w K mg base k a d ps sp
  kp : PySem.W.keepIn K (.ref a) = true
  b : Binds K d ps []
  g : mg x = some (.ref a)

section
variable {P : Program} {w : World} {K : PySem.W.Frag} {mg : Str → Option Value} {base : Heap}
theorem Fun_okG {x qual : Str} {st : Stmt} {f : Addr} {fd : FuncData} {N ps : List Str} {k : Nat} {sp : Sp} (F : Fun K x qual st f fd) (S : FnScope N ps (defScope st))
    (len : ∀ vs H Q E, sp vs H Q E → vs.length = ps.length)
    (hbody : ∀ (cdv : Value) (A : Around) (outer : List Env) (s : Shared) (H : Hp) (vs : List V) (Q : VK) (E : XK), A.guards = some [] →
      Room k (A.deeper (envOfC qual (defScope st) s.heap.objs.size f cdv)) → sp vs H Q E →
      ∃ t, PSs (cxOf CX0 P w K mg base N qual (defScope st) f cdv A outer s H E).nox (defBody st) t ∧ t { nx := fun _ H' => Q .non H', rt := Q } (start N vs) H) :
    FnG P w K mg base (k + 1) f fd ps sp := by
  obtain ⟨oc, od, kV, doc, pm, an, cdv, ct, osl, rfl, lk, hcd⟩ := F.ex
  constructor
  · exact len
  intro A outer s H args us vs Q E hg hr e0 hb r hsp
  have hkeep : ∀ b o, base.get? b = some o → s.heap.get? b = some o := fun b o e => (e0.bs b o e).1
  have KX : K.In s.heap := e0.mod.kin.keeps hkeep
  have hpar : ∀ y ∈ ps.zip us, (defScope st).names.lookup y.1 = some .local ∨ ((defScope st).names.lookup y.1 = some .cell ∧ ((cellsFrom (s.heap.objs.size + 1) (defScope st).names []).lookup y.1).isSome = true) := by
    intro y hy
    have hm : y.1 ∈ ps := (List.of_mem_zip (show (y.1, y.2) ∈ ps.zip us from hy)).1
    cases S.par y.1 hm with
    | inl q => exact Or.inl q
    | inr q => exact Or.inr ⟨q, PySem.W.cellsFrom_some _ _ _ (Or.inl q)⟩
  apply codeAny_call_function hr.depth (KX _ _ lk) rfl S.co S.gen rfl (PySem.W.codeRec_of KX hcd)
  apply hb
  apply wpAny_newFunctionEnv_cells S.kind hpar
  rintro env rfl s1 x
  refine ⟨(e0.mod.nolimit.keeps hkeep).keeps x.toInCall.keep, codeAny_func ?_⟩
  obtain ⟨t, ht, hq⟩ := hbody cdv A outer s H vs Q E hg (hr.deeper _) hsp
  have J0 := inv_start (CX := CX0) (E := E) S hr.hd e0 (len _ _ _ _ hsp) r x
  have run := ht.nox.run [] s1 (start N vs) H _ J0 hq
  refine wpAny_mono run (fun fl s' hs => ?_) (fun _ _ hs => hs)
  cases fl with
  | ret u =>
    obtain ⟨v, σ', H', J, rv, q⟩ := hs
    exact ⟨v, H', J.os, J.bare, J.base, J.hok, rv, q⟩
  | next =>
    obtain ⟨σ', H', J, q⟩ := hs
    exact ⟨.non, H', J.os, J.bare, J.base, J.hok, rfl, q⟩
  | brk => exact hs.elim (fun _ h => h.elim fun _ h => h.2.elim)
  | cont => exact hs.elim (fun _ h => h.elim fun _ h => h.2.elim)
end

section
variable {X : Cx} {k : Nat} {f : Addr} {fd : FuncData} {ps : List Str} {sp : Sp} {x : Str} {p pos : Pos} {e : Expr} {es : List Expr} {t : TA}
theorem pe_callG (F : FnG X.prog X.w X.K X.mg X.base k f fd ps sp) (hgd : X.A.guards = some []) (hr : Room k X.A) (hg : Gl X x) (hm : X.mg x = some (.ref f)) (hk : PySem.W.keepIn X.K (.ref f) = true) (hb : Binds X.K fd ps [])
    (ha : PA X (e :: es) t) (hdb : (x == ("__debug__" : Str)) = false := by decide) (he : starEach (e :: es) X.env = (false, eval e X.env) :: starEach es X.env := by rfl) (hpl : (backTo pos (starEach es X.env)).any (·.1) = false := by rfl) :
    PE X (.Call (.Name x p) (e :: es) [] pos) (tCall sp [] E0 t) := by
  constructor
  intro pins s σ H Q I h
  apply wpAny_Call_Name_kw
  refine ld_glob I hg hm ?_ hdb
  have args := thn (ha.run pos pins s σ H _ I h) (Q' := fun us s1 => X.K.In s1.heap ∧ wpAny (model X.prog X.w) X.A (call (.ref f) us) (EP X pins σ Q) X.xe s1) ?_
  · exact PySem.W.callWith_K (h₀ := X.base) I.ok.mod.kin hk args he hpl
  rintro us s1 ⟨vs, H1, I1, r, q⟩
  refine ⟨I1.kIn, ?_⟩
  have q0 : sp vs H1 Q E0 := by
    have z := q
    rw [List.append_nil] at z
    exact z
  have hl : (us ++ ([] : List Value)).length = ps.length := by
    rw [List.append_nil, ← r.length]
    exact F.len _ _ _ _ q0
  have bd := hb s1 us I1.kIn hl
  rw [List.append_nil] at bd
  have code := F.run X.A X.stack s1 H1 ⟨us, []⟩ us vs Q E0 hgd hr I1.env0 bd r q0
  refine wpAny_call (codeAny_mono code ?_)
  intro res s' hq
  cases res with
  | error e => exact False.elim hq
  | ok fl =>
    cases fl with
    | ret u => exact I1.after hq
    | next => exact False.elim hq
    | brk => exact False.elim hq
    | cont => exact False.elim hq
end
end Uq

namespace Uq
open PySem PySem.Spec PyProof.Rows L2

section
variable {P : Program} {w : World} {K : PySem.W.Frag} {mg mb : Str → Option Value} {k : Nat} {fa a : Addr} {fd : FuncData} {x : Str} {sp : Sp} {s₁ : Shared} {vs : List Value} {ns : List Int}
/-- the law's call from a heap of which at most the script is tracked -/
theorem core_callG (KX : K.In s₁.heap) (hns : s₁.heap.Ns mainGlobals mg) (hb : s₁.heap.Ns builtinsNs mb) (hbb : ∀ x : Str, x ≠ "__name__" → mb x = bootBuiltins x) (hlim : s₁.heap.NoLimit) (hg : s₁.gens = #[])
    (ha : s₁.heap.get? a = some { cls := .type "list", data := .seq vs.toArray }) (hr : Room k callerA)
    (F : ∀ base : Heap, K.In base → base.Ns mainGlobals mg → FnG P w K mg base k fa fd [x] sp) (hbind : ∀ (s : Shared) (u : Value), BindsTo s fd ⟨[u], []⟩ [(x, u)])
    (H : Hp) (hO : Only H) (hok : HOk P w H s₁.heap) (hA : ∀ b, H b ≠ none → b = a) (hK : H a ≠ none → K.lookup a = none) (hsp : sp [.ref a] H (fun v _ => v = .bl true) (fun _ _ _ => False)) :
    codeAny (model P w) callerA (.call (.ref fa) ⟨[.ref a], []⟩) (fun r s' => r = .ok (.ret (.bool true)) ∧ OldK s₁.heap s'.heap ∧ s'.os = s₁.os ∧ AllBare s'.gens) s₁ := by
  have noA : ∀ {b : Addr} {o : Obj} {es : Array DictEntry} {ep : Nat}, s₁.heap.get? b = some o → o.data = .dict es ep → H b = none := by
    intro b o es ep e d
    by_cases q : H b = none
    · exact q
    · have eb := hA b q
      subst eb
      rw [ha] at e
      cases e
      exact nomatch (show Data.seq vs.toArray _ = Data.dict es ep from d)
  have nsH : ∀ {b : Addr} {m : Str → Option Value}, s₁.heap.Ns b m → (hidT s₁.heap H).Ns b m := by
    rintro b m ⟨o, es, ep, e, d, r⟩
    exact ⟨o, es, ep, hidT_get e (noA e d), d, r⟩
  have KH : K.In (hidT s₁.heap H) := by
    intro b o e
    refine hidT_get (KX b o e) ?_
    by_cases q : H b = none
    · exact q
    · have eb := hA b q
      subst eb
      rw [hK q] at e
      cases e
  obtain ⟨mc, l1, l2⟩ := hlim
  have e0 : Env0 P w K mg (hidT s₁.heap H) callerA [] s₁ H := by
    refine { frames := rfl, mod := ⟨KH, nsH hns, ⟨mb, nsH hb, hbb⟩, ⟨mc, nsH l1, l2⟩⟩, bs := fun b o e => of_hidT e, bsz := Nat.le_of_eq (hidT_size _ _), funs := trivial, frf := ?_, hok := hok, bare := .of_eq hg }
    intro b z
    exact nomatch (show b ∈ ([] : List Addr) from z)
  have go := (F _ KH (nsH hns)).run callerA [] s₁ H ⟨[.ref a], []⟩ [.ref a] [.ref a] _ _ rfl hr e0 (hbind s₁ (.ref a)) (.cons rfl .nil) hsp
  refine codeAny_mono go ?_
  intro r s' h
  cases r with
  | error e => exact False.elim h
  | ok fl =>
    cases fl with
    | next => exact False.elim h
    | brk => exact False.elim h
    | cont => exact False.elim h
    | ret u =>
      obtain ⟨v, H', os, bare, un, hok', rv, q⟩ := h
      have ev : v = .bl true := q
      subst ev
      have eu : u = Value.bool true := rv
      subst eu
      refine ⟨rfl, OldK.of_keep ?_, os, bare⟩
      intro b o e
      rcases hO b with z | ⟨ob, xs, z⟩
      · exact un.keep b o e z (fun y => nomatch (show b ∈ ([] : List Addr) from y)) (fun y => nomatch (show b ∈ ([] : List Addr) from y))
      · obtain ⟨y1, _⟩ := hok b _ z
        obtain ⟨y2, _⟩ := hok' b _ (un.frzs b ob _ z)
        rw [e] at y1
        cases y1
        exact y2
end

theorem walk_ofG {l : PySem.W.OpenLaw} {n k : Nat} {q : Program} {loose : List Str} {XP : (Str → Option Value) → Heap → Prop} {YP : World → Heap → Prop} {d : DefRec} {K : Params → PySem.W.Frag} {sp : World → Sp} {x : Str}
    (hn : l.most = some n) (hn2 : n ≤ sizeLine) (hdf : d.params.defaults = []) (hr : Room k callerA)
    (hY : ∀ (w : World) (h : Heap), YP w h → (K w.params).In h)
    (F : ∀ (w : World) (mg : Str → Option Value) (fa : Addr) (h : Heap), (K w.params).In h → h.Ns mainGlobals mg → mg d.name = some (.ref fa) →
      ∃ fd : FuncData, (∀ (s : Shared) (u : Value), BindsTo s fd ⟨[u], []⟩ [(x, u)]) ∧ ∀ base : Heap, (K w.params).In base → base.Ns mainGlobals mg → FnG l.prog w (K w.params) mg base k fa fd [x] (sp w))
    (hsp : ∀ (w : World) (H : Hp) (a : Addr) (ns : List Int), ns.length ≤ n → SqL (K w.params) H a (ns.map V.int) → sp w [.ref a] H (fun v _ => v = .bl true) (fun _ _ _ => False)) :
    PySem.W.WalkO q loose XP YP l.row.toRowW d [] (fun f vs => PySem.call f vs) := by
  apply Att.attach_call hn hdf
  intro w s₀ s₁ mg mb fa o pm cd doc a vs ns G Y ho hd hcd hmg ha hi hlen hg
  have KX := hY w _ Y
  obtain ⟨fd, hb, hF⟩ := F w mg fa _ KX G.T.g hmg
  have rv := vals_ints hi
  have len := hi.length
  have hl : ns.length ≤ sizeLine := Nat.le_trans hlen hn2
  by_cases hk : K w.params |>.lookup a |>.isSome
  · obtain ⟨ob, hob⟩ := Option.isSome_iff_exists.mp hk
    have e := KX a ob hob
    rw [ha] at e
    cases e
    refine core_callG (H := fun _ => none) KX G.T.g G.T.b G.T.builtins G.T.nolimit hg ha hr hF hb (fun _ => .inl rfl) (fun b u z => nomatch (show (none : Option HO) = some u from z)) (fun b z => absurd rfl z) (fun z => absurd rfl z) ?_
    refine hsp w _ a ns hlen (.inr ⟨_, vs.toArray, _, hob, rfl, rfl, rfl, ?_, ?_⟩)
    · rw [List.size_toArray, len]
      exact hl
    · exact rv
  · have hk' : (K w.params).lookup a = none := Option.not_isSome_iff_eq_none.mp hk
    let H0 : Hp := fun b => if b = a then some (.frz { cls := .type "list", data := .seq vs.toArray } (.lst (ns.map V.int))) else none
    have h0 : H0 a = some (.frz { cls := .type "list", data := .seq vs.toArray } (.lst (ns.map V.int))) := if_pos rfl
    have h1 : ∀ b, b ≠ a → H0 b = none := fun b z => if_neg z
    refine core_callG (H := H0) KX G.T.g G.T.b G.T.builtins G.T.nolimit hg ha hr hF hb ?_ ?_ ?_ (fun _ => hk') ?_
    · intro b
      by_cases z : b = a
      · subst z
        exact .inr ⟨_, _, h0⟩
      · exact .inl (h1 b z)
    · intro b u e
      by_cases z : b = a
      · subst z
        rw [h0] at e
        cases e
        exact ⟨ha, by rw [List.length_map]; exact hl, vs, _, rv, ha⟩
      · rw [h1 b z] at e
        cases e
    · intro b z
      by_cases y : b = a
      · exact y
      · exact absurd (h1 b y) z
    · exact hsp w _ a ns hlen (.inl (.inr ⟨_, h0⟩))

/-! ### the text of data -/
theorem dp_same {K : PySem.W.Frag} {H H' : Hp} (e : Same H H') : ∀ (d : PyData) (v : V), Dp K H v d → Dp K H' v d
  | .none, _, h => by cases h; exact .non
  | .bool _, _, h => by cases h; exact .bl _
  | .int _, _, h => by cases h; exact .int _
  | .str _, _, h => by cases h; exact .str _
  | .list ds, _, h => by
    cases h with
    | lst h1 h2 => exact .lst (sqL_same e h1) (all ds _ h2)
  | .tuple ds, _, h => by
    cases h with
    | tup h1 h2 => exact .tup (sqT_same e h1) (all ds _ h2)
  | .dict _, _, h => nomatch h
where all : ∀ (ds : List PyData) (vs : List V), DpAll K H vs ds → DpAll K H' vs ds
  | [], _, h => by cases h; exact .nil
  | d :: ds, _, h => by
    cases h with
    | cons h1 h2 => exact .cons (dp_same e d _ h1) (all ds _ h2)
/-- repr(x), x data of any depth -/
def rRepr (K : PySem.W.Frag) : List V → Hp → VK → Prop := fun xs H Q => ∃ (x : V) (d : PyData), xs = [x] ∧ Dp K H x d ∧ d.showable = true ∧ d.hasDict = false ∧ d.depth ≤ 60 ∧ d.shown.length ≤ sizeLine ∧ Q (.str d.shown) H
theorem call_repr_data {X : Cx} (hg : X.A.guards = some []) (hu : X.A.units + 100 < cLine) : CallR X (.builtin "repr") (rRepr X.K) := by
  intro pins s σ H xs us Q I r h
  obtain ⟨x, d, rfl, dp, hs, hd, hdep, hz, q⟩ := h
  obtain ⟨u, rfl, ru⟩ := vals1 r
  obtain ⟨as, rd⟩ := Dp.reads I d x u dp ru
  cases d with
  | none =>
    cases dp
    cases ru
    exact PySem.P.repr_of_none ⟨.str _, H, I.tok _, ⟨_, rfl⟩, q⟩
  | bool b =>
    cases dp
    cases ru
    exact PySem.P.repr_of_bool ⟨.str _, H, I.tok _, ⟨_, rfl⟩, q⟩
  | int i =>
    cases dp
    obtain ⟨t, rfl⟩ := ru
    exact PySem.P.repr_of_int (of_decide_eq_true hs) ⟨.str _, H, I.tok _, ⟨_, rfl⟩, q⟩
  | str y =>
    cases dp
    obtain ⟨t, rfl⟩ := ru
    exact PySem.P.repr_of_str ⟨.str _, H, I.tok _, ⟨_, rfl⟩, q⟩ hz
  | list ds =>
    cases dp with
    | @lst a _ _ h1 h2 =>
      cases ru
      exact repr_of_reads' rd hs (PyData.noDict_hsm hd) hg (by omega) (fun _ _ e => e) (fun h' u tk hk => ⟨.str _, H, I.kept (h' := h') (t' := tk) hk, ⟨_, rfl⟩, q⟩) hz
  | tuple ds =>
    cases dp with
    | @tup a _ _ h1 h2 =>
      cases ru
      exact repr_of_reads' rd hs (PyData.noDict_hsm hd) hg (by omega) (fun _ _ e => e) (fun h' u tk hk => ⟨.str _, H, I.kept (h' := h') (t' := tk) hk, ⟨_, rfl⟩, q⟩) hz
  | dict kvs => cases dp
end Uq
namespace Uq
open PySem PySem.Spec PyProof.Rows L2
theorem ru {k : Nat} {A : Around} (hr : Room k A) : A.units + 100 < cLine := by
  have := hr.un
  omega
end Uq

namespace Uq
open PySem PySem.Spec PyProof.Rows L2
section
variable {σ : L2.St} {H : Hp} {ta tb tc te : TE} {c d : Bool} {x y z : V} {i j n : Int} {K : PySem.W.Frag}
theorem val_orV (ha : Val ta σ H (.bl c)) (hb : c = false → Val tb σ H (.bl d)) : Val (tOrV ta tb) σ H (.bl (c || d)) := fun Q q => ha _ ⟨c, rfl, by
  cases c with
  | true => exact iteT q
  | false => exact iteF (hb rfl _ q)⟩
theorem val_andV (ha : Val ta σ H (.bl c)) (hb : c = true → Val tb σ H (.bl d)) : Val (tAndV ta tb) σ H (.bl (c && d)) := fun Q q => ha _ ⟨c, rfl, by
  cases c with
  | true => exact iteT (hb rfl _ q)
  | false => exact iteF q⟩
theorem val_notV (ha : Val ta σ H (.bl c)) : Val (tNotV ta) σ H (.bl (!c)) := fun Q q => ha _ ⟨c, rfl, q⟩
theorem val_I0 {g : Int → Int → V} (ha : Val ta σ H (.int i)) (hb : Val tb σ H (.int j)) : Val (tOp (rI0 g) ta tb) σ H (g i j) := fun Q q => ha _ (hb _ ⟨i, j, rfl, rfl, q⟩)
theorem val_I {C : Int → Int → Prop} {g : Int → Int → V} (hc : C i j) (ha : Val ta σ H (.int i)) (hb : Val tb σ H (.int j)) : Val (tOp (rI C g) ta tb) σ H (g i j) := fun Q q => ha _ (hb _ ⟨i, j, rfl, rfl, hc, q⟩)
theorem dec_ii : decide (V.int i = V.int j) = decide (i = j) := by
  rw [decide_eq_decide]
  exact ⟨fun z => V.int.inj z, fun z => by rw [z]⟩
theorem dec_ss {a b : Str} : decide (V.str a = V.str b) = decide (a = b) := by
  rw [decide_eq_decide]
  exact ⟨fun z => V.str.inj z, fun z => by rw [z]⟩
theorem val_eqI (ha : Val ta σ H (.int i)) (hb : Val tb σ H (.int j)) : Val (tOp rEq ta tb) σ H (.bl (decide (i = j))) := fun Q q => ha _ (hb _ ⟨rfl, by rw [dec_ii]; exact q⟩)
theorem val_eqS {a b : Str} (ha : Val ta σ H (.str a)) (hb : Val tb σ H (.str b)) : Val (tOp rEq ta tb) σ H (.bl (decide (a = b))) := fun Q q => ha _ (hb _ ⟨rfl, by rw [dec_ss]; exact q⟩)
theorem val_eqV (ha : Val ta σ H x) (hb : Val tb σ H y) (hs : scal x y = true) : Val (tOp rEq ta tb) σ H (.bl (decide (x = y))) := fun Q q => ha _ (hb _ ⟨hs, q⟩)
theorem val_neV (ha : Val ta σ H x) (hb : Val tb σ H y) (hs : scal x y = true) : Val (tOp rNe ta tb) σ H (.bl (!decide (x = y))) := fun Q q => ha _ (hb _ ⟨hs, q⟩)
theorem val_ixL {p : Addr} {xs : List V} (ha : Val ta σ H (.ref p)) (hb : Val tb σ H (.int i)) (h : SqL K H p xs) (hi : atI xs i = some z) : Val (tOp (rIxL K) ta tb) σ H z := fun Q q => ha _ (hb _ ⟨p, xs, i, z, rfl, rfl, h, hi, q⟩)
theorem val_ixT {p : Addr} {xs : List V} (ha : Val ta σ H (.ref p)) (hb : Val tb σ H (.int i)) (h : SqT K H p xs) (hi : atI xs i = some z) : Val (tOp (rIxT K) ta tb) σ H z := fun Q q => ha _ (hb _ ⟨p, xs, i, z, rfl, rfl, h, hi, q⟩)
theorem val_chain {g g' : Int → Int → Bool} (ha : Val ta σ H (.int i)) (hb : Val tb σ H (.int j)) (hc : g i j = true → Val tc σ H (.int n)) :
    Val (tChain (rI0 fun i j => .bl (g i j)) (rI0 fun i j => .bl (g' i j)) ta tb tc) σ H (.bl (g i j && g' j n)) := fun Q q => ha _ (hb _ ⟨i, j, rfl, rfl, g i j, rfl, by
  cases e : g i j with
  | true =>
    rw [e] at q
    exact iteT (hc e _ ⟨j, n, rfl, rfl, q⟩)
  | false =>
    rw [e] at q
    exact iteF q⟩)
theorem val_if {tt : TT} (h : Ans tt σ H c) (h1 : c = true → Val ta σ H x) (h2 : c = false → Val tb σ H x) : Val (tIf tt ta tb) σ H x := fun Q q => h _ (by
  cases c with
  | true => exact iteT (h1 rfl _ q)
  | false => exact iteF (h2 rfl _ q))
theorem ans_val2 (h : Val te σ H (.bl c)) : Ans (tTest te) σ H c := fun Q q => h _ ⟨c, rfl, q⟩
theorem val_to (h : Val te σ H x) (e : x = y) : Val te σ H y := e ▸ h
end
end Uq

namespace Uq
open PySem PySem.Spec PyProof.Rows L2
def keyD : Key → PyData
  | .inl i => .int i
  | .inr x => .str x
mutual
/-- data of any depth, dicts with int and text keys among it; its lists and dicts are tracked -/
inductive Dx (K : PySem.W.Frag) (H : Hp) : V → PyData → Prop
  | non : Dx K H .non .none
  | bl (b : Bool) : Dx K H (.bl b) (.bool b)
  | int (i : Int) : Dx K H (.int i) (.int i)
  | str (x : Str) : Dx K H (.str x) (.str x)
  | lst {a : Addr} {xs : List V} {ds : List PyData} : H a = some (.lst xs) → a ≠ sysModules → DxAll K H xs ds → Dx K H (.ref a) (.list ds)
  | tup {a : Addr} {xs : List V} {ds : List PyData} : SqT K H a xs → DxAll K H xs ds → Dx K H (.ref a) (.tuple ds)
  | dct {a : Addr} {kvs : List (Key × V)} {es : List (PyData × PyData)} : H a = some (.dK kvs) → es.map (·.1) = kvs.map (fun kv => keyD kv.1) → DxAll K H (kvs.map (·.2)) (es.map (·.2)) → Dx K H (.ref a) (.dict es)
inductive DxAll (K : PySem.W.Frag) (H : Hp) : List V → List PyData → Prop
  | nil : DxAll K H [] []
  | cons {v : V} {vs : List V} {d : PyData} {ds : List PyData} : Dx K H v d → DxAll K H vs ds → DxAll K H (v :: vs) (d :: ds)
end
theorem keys_reads {P : Program} {w : World} {h : Heap} : ∀ {es : List DictEntry} {vs : List (Key × Value)} {kvs : List (Key × V)}, Pairs (mixKind P w) es vs → KV kvs vs → ReadsAll h (es.map (·.key)) (kvs.map fun kv => keyD kv.1) [] := by
  intro es vs kvs hp
  induction hp generalizing kvs with
  | nil =>
    intro r
    cases r
    exact .nil
  | @cons e kv es vs hk hv hp ih =>
    intro r
    cases r with
    | @cons a b l1 l2 r1 r2 =>
      have q : Reads h e.key (keyD a.1) [] := by
        rw [r1.1]
        rcases keyIs_shape hk with ⟨i, t, e1, e2⟩ | ⟨x, t, e1, e2⟩
        · rw [e1, e2]
          exact .int i t
        · rw [e1, e2]
          exact .str x t
      exact ReadsAll.cons (as := []) (bs := []) q (ih r2)
theorem vals_pairs {P : Program} {w : World} : ∀ {es : List DictEntry} {vs : List (Key × Value)} {kvs : List (Key × V)}, Pairs (mixKind P w) es vs → KV kvs vs → Vals (kvs.map (·.2)) (es.map (·.val)) := by
  intro es vs kvs hp
  induction hp generalizing kvs with
  | nil =>
    intro r
    cases r
    exact .nil
  | @cons e kv es vs hk hv hp ih =>
    intro r
    cases r with
    | @cons a b l1 l2 r1 r2 =>
      have q : RelV a.2 e.val := by
        rw [hv]
        exact r1.2
      exact .cons q (ih r2)
section
variable {X : Cx} {pins : List (Addr × Obj)} {σ : L2.St} {H : Hp} {s : Shared}
mutual
theorem Dx.reads (I : Inv X pins σ H s) : ∀ {d : PyData} {v : V} (h : Dx X.K H v d) {u : Value}, RelV v u → ∃ as, Reads s.heap u d as ∧ sysModules ∉ as
  | _, _, .non, _, r => by
    cases r
    exact ⟨[], Reads.none, fun z => nomatch z⟩
  | _, _, .bl b, _, r => by
    cases r
    exact ⟨[], Reads.bool b, fun z => nomatch z⟩
  | _, _, .int i, _, r => by
    obtain ⟨t, rfl⟩ := r
    exact ⟨[], Reads.int i t, fun z => nomatch z⟩
  | _, _, .str x, _, r => by
    obtain ⟨t, rfl⟩ := r
    exact ⟨[], Reads.str x t, fun z => nomatch z⟩
  | _, _, .lst e ns ha, _, r => by
    cases r
    obtain ⟨its, rv, ⟨o, n, ho, hc, _, hd⟩, _⟩ := I.list (SqL.of e)
    obtain ⟨as, hr, hn⟩ := DxAll.reads I ha rv
    exact ⟨_, Reads.list ho hc hd hr, fun z => (List.mem_cons.mp z).elim (fun y => ns y.symm) hn⟩
  | _, _, .tup e ha, _, r => by
    cases r
    obtain ⟨its, rv, ⟨o, ho, hc, n, hd⟩, _⟩ := I.tuple e
    obtain ⟨as, hr, hn⟩ := DxAll.reads I ha rv
    exact ⟨_, Reads.tuple ho hc hd hr, hn⟩
  | _, _, .dct e he ha, _, r => by
    cases r
    obtain ⟨_, hsys, vs, kv, o, es, ep, ho, hx, hd, _, hp, _⟩ := (show ObjOk X.prog X.w H s.heap _ (.dK _) from I.hok _ _ e)
    obtain ⟨bs, hr, hn⟩ := DxAll.reads I ha (vals_pairs hp kv)
    have k := keys_reads (h := s.heap) hp kv
    rw [← he] at k
    refine ⟨_, Reads.dict ho hx.1 hd k hr, fun z => ?_⟩
    rcases List.mem_cons.mp z with y | y
    · rw [← y] at hsys
      simp at hsys
    · exact hn y
theorem DxAll.reads (I : Inv X pins σ H s) : ∀ {ds : List PyData} {vs : List V} (h : DxAll X.K H vs ds) {us : List Value}, Vals vs us → ∃ as, ReadsAll s.heap us ds as ∧ sysModules ∉ as
  | _, _, .nil, _, r => by
    cases r
    exact ⟨_, ReadsAll.nil, fun z => nomatch z⟩
  | _, _, .cons h1 h2, _, r => by
    cases r with
    | cons r1 r2 =>
      obtain ⟨as, q1, n1⟩ := Dx.reads I h1 r1
      obtain ⟨bs, q2, n2⟩ := DxAll.reads I h2 r2
      exact ⟨_, ReadsAll.cons q1 q2, fun z => (List.mem_append.mp z).elim n1 n2⟩
end
end
/-! what is tracked stays -/
mutual
theorem Dx.same {K : PySem.W.Frag} {H H' : Hp} (e : Same H H') : ∀ {d : PyData} {v : V}, Dx K H v d → Dx K H' v d
  | _, _, .non => .non
  | _, _, .bl b => .bl b
  | _, _, .int i => .int i
  | _, _, .str x => .str x
  | _, _, .lst h ns ha => .lst (e _ _ h) ns (DxAll.same e ha)
  | _, _, .tup h ha => .tup (sqT_same e h) (DxAll.same e ha)
  | _, _, .dct h he ha => .dct (e _ _ h) he (DxAll.same e ha)
theorem DxAll.same {K : PySem.W.Frag} {H H' : Hp} (e : Same H H') : ∀ {ds : List PyData} {vs : List V}, DxAll K H vs ds → DxAll K H' vs ds
  | _, _, .nil => .nil
  | _, _, .cons h1 h2 => .cons (Dx.same e h1) (DxAll.same e h2)
end
/-- data that is short enough to be written -/
def Shows (d : PyData) : Prop := d.showable = true ∧ d.depth ≤ 60 ∧ d.shown.length ≤ sizeLine
def rReprX (K : PySem.W.Frag) : List V → Hp → VK → Prop := fun xs H Q => ∃ (x : V) (d : PyData), xs = [x] ∧ Dx K H x d ∧ Shows d ∧ Q (.str d.shown) H
theorem call_reprX {X : Cx} (hg : X.A.guards = some []) (hu : X.A.units + 100 < cLine) : CallR X (.builtin "repr") (rReprX X.K) := by
  intro pins s σ H xs us Q I r h
  obtain ⟨x, d, rfl, dp, ⟨hs, hdep, hz⟩, q⟩ := h
  obtain ⟨u, rfl, ru⟩ := vals1 r
  obtain ⟨as, rd, hsm⟩ := Dx.reads I dp ru
  cases dp with
  | non =>
    cases ru
    exact PySem.P.repr_of_none ⟨.str _, H, I.tok _, ⟨_, rfl⟩, q⟩
  | bl b =>
    cases ru
    exact PySem.P.repr_of_bool ⟨.str _, H, I.tok _, ⟨_, rfl⟩, q⟩
  | int i =>
    obtain ⟨t, rfl⟩ := ru
    exact PySem.P.repr_of_int (of_decide_eq_true hs) ⟨.str _, H, I.tok _, ⟨_, rfl⟩, q⟩
  | str y =>
    obtain ⟨t, rfl⟩ := ru
    exact PySem.P.repr_of_str ⟨.str _, H, I.tok _, ⟨_, rfl⟩, q⟩ hz
  | lst =>
    cases ru
    exact repr_of_reads' rd hs (fun _ => hsm) hg (by omega) (fun _ _ e => e) (fun h' u tk hk => ⟨.str _, H, I.kept (h' := h') (t' := tk) hk, ⟨_, rfl⟩, q⟩) hz
  | tup =>
    cases ru
    exact repr_of_reads' rd hs (fun _ => hsm) hg (by omega) (fun _ _ e => e) (fun h' u tk hk => ⟨.str _, H, I.kept (h' := h') (t' := tk) hk, ⟨_, rfl⟩, q⟩) hz
  | dct =>
    cases ru
    exact repr_of_reads' rd hs (fun _ => hsm) hg (by omega) (fun _ _ e => e) (fun h' u tk hk => ⟨.str _, H, I.kept (h' := h') (t' := tk) hk, ⟨_, rfl⟩, q⟩) hz
/-! ### a list's place is beyond what the top has laid -/
section
variable {X : Cx} {t : TA} {es : List Expr} {pos : Pos}
def tLstB (t : TA) : TE := fun σ H Q => t σ H fun xs H1 => xs.length ≤ sizeLine ∧ ∀ p, H1 p = none → p ≠ sysModules → Q (.ref p) (upd H1 p (.lst xs))
theorem pe_lstB (hb : sysModules < X.base.objs.size) (h : PA X es t) : PE X (.List es pos) (tLstB t) := by
  constructor
  intro pins s σ H Q I hq
  apply wpAny_List_spliced
  apply thn (h.run pos pins s σ H _ I hq)
  rintro us s1 ⟨xs, H1, I1, r, z, q⟩
  rw [r.length] at z
  refine ⟨z, ?_⟩
  have hf : H1 s1.heap.objs.size = none := I1.hok.fresh (Nat.le_refl _)
  have low : s1.heap.objs.size ≠ sysModules := Nat.ne_of_gt (Nat.lt_of_lt_of_le hb (Nat.le_trans I1.ok.bsz I1.sz))
  have new : ObjOk X.prog X.w (upd H1 s1.heap.objs.size (.lst xs)) (s1.heap.push { cls := .type "list", data := .seq us.toArray }) s1.heap.objs.size (.lst xs) := ⟨by rw [r.length]; exact z, us, 0, r, Heap.get?_push_size _ rfl⟩
  exact ⟨.ref s1.heap.objs.size, _, I1.laid (t' := s1.toks) (fun b u e => Heap.get?_push_of_some _ e) (Nat.le_refl _) new, rfl, q _ hf low⟩
end
end Uq

namespace Uq
open PySem PySem.Spec PyProof.Rows L2
/-! ### own exceptions as values: their __init__ walked as a def, they and their dict tracked -/
/-- what is asked of a class of exceptions -/
structure Xcl (K : PySem.W.Frag) (C : Addr) : Prop where
  T : OexC K C
  ga : PySem.W.findIn K (.ref C) "__getattribute__" = some (some (.builtin "BaseException.__getattribute__"))
  gg : PySem.W.findIn K (.ref C) "__getattr__" = some none
  hd : PySem.W.hasDictIn K C = true
  cl : PySem.W.findIn K (.ref C) "__class__" = some (some (.builtin "object.__class__"))
  sp : PySem.W.specialIn K (.builtin "object.__class__") "__get__" = some (some (.builtin "getset_descriptor.__get__"))
  tk : PySem.W.takesIn K (.builtin "object.__class__") = some true
  mo : PySem.W.mroIn K C (.type "object") = some true
  va : PySem.W.findIn K (.ref C) "value" = some none
/-- at a: an exception of the class C that keeps v -/
def Exc (H : Hp) (a C : Addr) (v : V) : Prop := ∃ dx : Addr, H a = some (exo a C (some dx)) ∧ H dx = some (exd dx [("value", v)])
theorem Exc.same {H H' : Hp} {a C : Addr} {v : V} (e : Same H H') (h : Exc H a C v) : Exc H' a C v := by
  obtain ⟨dx, h1, h2⟩ := h
  exact ⟨dx, e _ _ h1, e _ _ h2⟩
theorem Exc.but {H H' : Hp} {a C p : Addr} {v : V} {xs : List V} (e : But p H H') (hp : H p = some (.lst xs)) (h : Exc H a C v) : Exc H' a C v := by
  obtain ⟨dx, h1, h2⟩ := h
  refine ⟨dx, e _ _ (fun z => ?_) h1, e _ _ (fun z => ?_) h2⟩
  · rw [z, hp] at h1
    cases h1
  · rw [z, hp] at h2
    cases h2
/-- C(e), C's own __init__ keeping sp, the exception kept as a value -/
def tMkV (C : Addr) (sp : Sp) (ta : TA) : TE := fun σ H Q => ta σ H fun vs H1 => vs.length ≤ 1000 ∧ ∀ a, H1 a = none → sp (.ref a :: vs) (upd H1 a (exo a C none)) (fun v H2 => v = .non ∧ Q (.ref a) H2) (fun _ _ _ => False)
section
variable {X : Cx} {p pos : Pos} {e : Expr} {es : List Expr} {ta : TA}
theorem pe_oexV {x : Str} {C fI : Addr} {k : Nat} {fd : FuncData} {ps : List Str} {sp : Sp} (T : OexC X.K C) (iC : PySem.W.findIn X.K (.ref C) "__init__" = some (some (.ref fI))) (tI : PySem.W.typeIn X.K (.ref fI) = some (.type "function"))
    (F1 : FnOk X.prog X.w X.K X.mg X.base CX0 k fI fd ps sp) (hr : Room (k + 1) X.A) (hb : Binds X.K fd ps []) (hg : Gl X x) (hm : X.mg x = some (.ref C)) (ha : PA X (e :: es) ta)
    (hdb : (x == ("__debug__" : Str)) = false := by decide) (he : starEach (e :: es) X.env = (false, eval e X.env) :: starEach es X.env := by rfl) (hpl : (backTo pos (starEach es X.env)).any (·.1) = false := by rfl) :
    PE X (.Call (.Name x p) (e :: es) [] pos) (tMkV C sp ta) := by
  constructor
  intro pins s σ H Q I h
  apply wpAny_Call_Name_kw
  refine ld_glob I hg hm ?_ hdb
  have given := thn (ha.run pos pins s σ H _ I h) (Q' := fun us s1 => X.K.In s1.heap ∧ wpAny (model X.prog X.w) X.A (call (.ref C) us) (EP X pins σ Q) X.xe s1) ?_
  · exact PySem.W.callWith_K (h₀ := X.base) I.ok.mod.kin T.kC given he hpl
  rintro us ⟨h0, gens, drawn, toks, os⟩ ⟨vs, H1, I1, rel, small, cont⟩
  refine ⟨I1.kIn, ?_⟩
  -- its class
  have T' := T
  obtain ⟨⟨_, _, _, _, bm, _, _, _, _, _, _, _, _, _, _, cls, tail⟩, _, _, _, _⟩ := T'
  -- the heap when it is made, the place of the exception
  generalize ea : h0.objs.size + 1 = a
  have above : h0.objs.size ≤ a := by omega
  have new : H1 a = none := I1.hok.fresh above
  have stays : ∀ b o, h0.get? b = some o → ((h0.push (PySem.W.kdv_tup us)).push (PySem.HandSPX.excO C h0.objs.size)).get? b = some o := by
    intro b o e
    exact Heap.get?_push_of_some _ (Heap.get?_push_of_some _ e)
  have there : ((h0.push (PySem.W.kdv_tup us)).push (PySem.HandSPX.excO C h0.objs.size)).get? a = some (PySem.HandSPX.excO C h0.objs.size) := by
    rw [← ea]
    heap_get
  have J := I1.laid (t' := toks) (o := exo a C none) stays above (exo_ok there)
  have rel' : Vals (.ref a :: vs) (.ref a :: us) := .cons rfl rel
  have run := cont a new
  have count : (Value.ref a :: us).length = ps.length := rel'.length.symm.trans (F1.len _ _ _ _ run)
  have bound := hb _ (.ref a :: us) J.kIn (by rw [List.append_nil]; exact count)
  rw [List.append_nil] at bound
  have few : us.length ≤ sizeLine := Nat.le_trans (Nat.le_of_eq rel.length.symm) (Nat.le_trans small (by decide))
  have body := F1.run _ X.stack _ _ ⟨.ref a :: us, []⟩ (.ref a :: us) _ _ (fun _ _ _ => False) (hr.make C us []) (J.env0.make C us []) bound rel' run
  subst ea
  have back := fun Y => PySem.HandSPX.refsVE_contains Y bm tail
  refine wpAny_call (PySem.HandSPX.call_own F.excBase_ValueError back (I1.kIn _ _ cls) (PySem.W.looks_findIn I1.kIn iC) (fun self => PySem.W.bind_fn I1.kIn self tI) few ?_)
  refine codeAny_mono body ?_
  rintro (_ | (_ | _ | _ | u)) s' got
  all_goals first
    | exact False.elim got
    | (obtain ⟨v, H', J', rv, ev, q⟩ := J.after got
       subst ev
       exact ⟨rv, .ref _, H', J', rfl, q⟩)
end
/-! ### isinstance and .value of such an exception -/
theorem exc_inst {P : Program} {w : World} {H : Hp} {h : Heap} {a C : Addr} {v : V} (hok : HOk P w H h) (e : Exc H a C v) : ∃ (ox od : Obj) (mA : Str → Option Value) (dx : Addr), PySem.W.InstAt h a ox C (some od) ∧ h.Ns1 dx mA ∧ h.get? dx = some od := by
  obtain ⟨dx, h1, h2⟩ := e
  obtain ⟨t1, ho⟩ := exo_at hok h1
  obtain ⟨mA, hns, rel⟩ := exd_at hok h2
  obtain ⟨od, hod, hl⟩ := lookIn_ns hns
  exact ⟨_, od, mA, dx, ⟨ho, rfl, rfl, hod⟩, hns, hod⟩
def rIsX (K : PySem.W.Frag) : List V → Hp → VK → Prop := fun xs H Q => ∃ (a C : Addr) (v c : V) (u : Value) (b : Bool), xs = [.ref a, c] ∧ ClsV c u ∧ Xcl K C ∧ Exc H a C v ∧ PySem.W.kitOne K (.ref C) u = some b ∧ Q (.bl b) H
theorem call_isX {X : Cx} : CallR X (.builtin "isinstance") (rIsX X.K) := by
  intro pins s σ H xs us Q I r h
  obtain ⟨a, C, v, c, u, b, rfl, k, T, E, e, q⟩ := h
  obtain ⟨u1, u2, rfl, r1, r2⟩ := vals2 r
  cases (show u1 = Value.ref a from r1)
  have e2 := k.eq r2
  subst e2
  obtain ⟨ox, od, mA, dx, J, _⟩ := exc_inst I.hok E
  have hcl : (PySem.W.clsIn X.K C).isSome = true := by
    obtain ⟨cd, hc, _⟩ := PySem.W.any_some T.hd
    rw [hc]
    rfl
  exact PySem.W.kia_one (PySem.W.kitx_exc (x := a) (ox := ox) (od := some od) hcl T.ga T.gg T.T.exC T.cl T.sp T.tk T.mo) I.kIn J e (fun z => nomatch z) fun tk => ⟨.bl b, H, I.tok tk, rfl, q⟩
/-- x.value -/
def tXv (K : PySem.W.Frag) (te : TE) : TE := fun σ H Q => te σ H fun x H1 => ∃ (a C : Addr) (v : V), x = .ref a ∧ Xcl K C ∧ Exc H1 a C v ∧ Q v H1
theorem pe_xv {X : Cx} {e : Expr} {te : TE} {pos : Pos} (he : PE X e te) (hb : attributeBase e "value" X.env (eval e X.env) = eval e X.env := by rfl) : PE X (.Attribute e "value" pos) (tXv X.K te) := by
  refine ⟨fun pins s σ H Q I h => ?_⟩
  refine attr_of hb (thn (he.run pins s σ H _ I h) fun u s1 hh => ?_)
  obtain ⟨x, H1, I1, rx, a, C, v, ex, T, E, q⟩ := hh
  subst ex
  obtain rfl : u = Value.ref a := rx
  obtain ⟨dx, h1, h2⟩ := E
  obtain ⟨t1, ho⟩ := exo_at I1.hok h1
  obtain ⟨mA, hns, rel⟩ := exd_at I1.hok h2
  obtain ⟨od, hod, hl⟩ := lookIn_ns hns
  obtain ⟨u, hu, ru⟩ := RelO.some_of (v := v) (o := mA "value") (rel "value")
  have J : PySem.W.InstAt s1.heap a _ C (some od) := ⟨ho, rfl, rfl, hod⟩
  exact PySem.HandSPX.exc_get I1.kIn J T.ga T.gg T.T.exC (PySem.W.findObj_own T.hd T.va rfl (by rw [hl, hu])) (handed_of ru) ⟨v, H1, I1.tok _, ru, q⟩
/-- AskedError.__init__ -/
def sp_init (K : PySem.W.Frag) : Sp := fun vs H Q _ => ∃ (a C : Addr) (v : V), vs = [.ref a, v] ∧ Xcl K C ∧ H a = some (exo a C none) ∧ ∀ dx, H dx = none → dx ≠ a → Q .non (upd (upd H dx (exd dx [("value", v)])) a (exo a C (some dx)))
/-- C(e), C's __init__ being that one -/
theorem mkV_of {K : PySem.W.Frag} {C : Addr} {ta : TA} {σ : L2.St} {H : Hp} {Q : VK} (T : Xcl K C) (h : ta σ H fun vs H1 => ∃ v, vs = [v] ∧ ∀ a H2, H1 a = none → Same H1 H2 → Exc H2 a C v → Q (.ref a) H2) (m : ∀ {P P' : List V → Hp → Prop}, (∀ vs H1, P vs H1 → P' vs H1) → ta σ H P → ta σ H P') : tMkV C (sp_init K) ta σ H Q := by
  refine m (fun vs H1 hh => ?_) h
  obtain ⟨v, rfl, q⟩ := hh
  refine ⟨by simp, fun a ha => ⟨a, C, v, rfl, T, upd_same, fun dx hd hn => ⟨rfl, q a _ ha (fun b o e => ?_) ⟨dx, upd_same, ?_⟩⟩⟩⟩
  · have n1 : b ≠ a := ne_of_none e ha
    have n2 : b ≠ dx := fun z => by
      rw [upd_ne hn] at hd
      rw [z, hd] at e
      cases e
    rw [upd_ne n1, upd_ne n2, upd_ne n1]
    exact e
  · rw [upd_ne hn, upd_same]
end Uq

namespace Uq
open PySem PySem.Spec PyProof.Rows L2
/-! ### own classes: len, in, an index -/
section
variable {X : Cx} {C f : Addr} {k : Nat} {fd : FuncData} {ps : List Str} {sp : Sp}
/-- a def called one level further in -/
theorem run_in {pins : List (Addr × Obj)} {σ : L2.St} {H : Hp} {s : Shared} {Q : VK} {us : List Value} {vs : List V} {A : Around} (F : FnOk X.prog X.w X.K X.mg X.base CX0 k f fd ps sp) (hr : Room k A) (e0 : Env0 X.prog X.w X.K X.mg X.base A X.stack s H) (hb : Binds X.K fd ps [])
    (I : Inv X pins σ H s) (r : Vals vs us) (h : sp vs H Q E0) : wpAny (model X.prog X.w) A (call (.ref f) us) (EP X pins σ Q) X.xe s := by
  have n := r.length.symm.trans (F.len _ _ _ _ h)
  have bd := hb s us I.kIn (by rw [List.append_nil]; exact n)
  rw [List.append_nil] at bd
  refine wpAny_call (codeAny_mono (F.run A X.stack s H ⟨us, []⟩ us vs Q E0 hr e0 bd r h) ?_)
  rintro (_ | (_ | _ | _ | u)) s' got
  all_goals first
    | exact False.elim got
    | exact I.after got
theorem at_ins {pins : List (Addr × Obj)} {σ : L2.St} {H : Hp} {s : Shared} {a dx : Addr} {fs : List (Str × V)} (I : Inv X pins σ H s) (e : H a = some (.ins C dx fs)) : ∃ ox od, PySem.W.InstAt s.heap a ox C (some od) := by
  obtain ⟨mA, O, _⟩ := ins_get I.hok e
  obtain ⟨od, J, _⟩ := O.look
  exact ⟨_, _, J⟩
/-- what a class must tell of one of its own dunders -/
structure Dun (K : PySem.W.Frag) (C f : Addr) (n : Str) : Prop where
  at_ : PySem.W.findIn K (.ref C) n = some (some (.ref f))
  fn : PySem.W.isFn K (.ref f) = true
def rLenO (C : Addr) (sp : Sp) : List V → Hp → VK → Prop := fun xs H Q => ∃ a dx fs, xs = [.ref a] ∧ H a = some (.ins C dx fs) ∧ sp [.ref a] H (fun v H1 => ∃ n : Int, v = .int n ∧ 0 ≤ n ∧ n < 2 ^ 63 ∧ Q (.int n) H1) E0
theorem call_lenO (d : Dun X.K C f "__len__") (F : FnOk X.prog X.w X.K X.mg X.base CX0 k f fd ps sp) (hr : Room (k + 1) X.A) (hb : Binds X.K fd ps []) : CallR X (.builtin "len") (rLenO C sp) := by
  intro pins s σ H xs us Q I r h
  obtain ⟨a, dx, fs, rfl, e, q⟩ := h
  obtain ⟨u, rfl, ru⟩ := vals1 r
  cases (show u = Value.ref a from ru)
  obtain ⟨ox, od, J⟩ := at_ins I e
  obtain ⟨m, fr⟩ := I.fr
  refine PySem.W.len_K fr I.ok.mod.kin J d.at_ d.fn ?_
  refine wpAny_mono (run_in F hr.in1 I.env0.in1 hb I (.cons (a := V.ref a) rfl .nil) q) ?_ (fun _ _ z => z)
  rintro v s' ⟨x, H1, I1, rx, n, rfl, n0, n1, q1⟩
  obtain ⟨t, rfl⟩ := rx
  exact ⟨⟨n0, n1⟩, .int n, H1, I1.tok _, ⟨_, rfl⟩, q1⟩
def rInO (C : Addr) (sp : Sp) (neg : Bool) : R2 := fun x y H Q => ∃ a dx fs, y = .ref a ∧ H a = some (.ins C dx fs) ∧ sp [.ref a, x] H (fun v H1 => ∃ b, v = .bl b ∧ Q (.bl (if neg then !b else b)) H1) E0
theorem op_inO (d : Dun X.K C f "__contains__") (F : FnOk X.prog X.w X.K X.mg X.base CX0 k f fd ps sp) (hr : Room k X.A) (hb : Binds X.K fd ps []) : OpR X (compareOp .In) (rInO C sp false) := by
  intro pins s σ H x y v u Q I rx ry h
  obtain ⟨a, dx, fs, rfl, e, q⟩ := h
  cases (show u = Value.ref a from ry)
  obtain ⟨ox, od, J⟩ := at_ins I e
  obtain ⟨m, fr⟩ := I.fr
  refine PySem.W.in_K fr I.ok.mod.kin J d.at_ d.fn ?_
  refine wpAny_mono (run_in F hr I.env0 hb I (.cons (a := V.ref a) rfl (.cons rx .nil)) q) ?_ (fun _ _ z => z)
  rintro w s' ⟨z, H1, I1, rz, b, rfl, q1⟩
  cases (show w = Value.bool b from rz)
  exact wpAny_truthy_bool ⟨.bl b, H1, I1, rfl, q1⟩
theorem op_notInO (d : Dun X.K C f "__contains__") (F : FnOk X.prog X.w X.K X.mg X.base CX0 k f fd ps sp) (hr : Room k X.A) (hb : Binds X.K fd ps []) : OpR X (compareOp .NotIn) (rInO C sp true) := by
  intro pins s σ H x y v u Q I rx ry h
  obtain ⟨a, dx, fs, rfl, e, q⟩ := h
  cases (show u = Value.ref a from ry)
  obtain ⟨ox, od, J⟩ := at_ins I e
  obtain ⟨m, fr⟩ := I.fr
  refine PySem.W.notIn_K fr I.ok.mod.kin J d.at_ d.fn ?_
  refine wpAny_mono (run_in F hr I.env0 hb I (.cons (a := V.ref a) rfl (.cons rx .nil)) q) ?_ (fun _ _ z => z)
  rintro w s' ⟨z, H1, I1, rz, b, rfl, q1⟩
  cases (show w = Value.bool b from rz)
  exact wpAny_truthy_bool ⟨.bl (!b), H1, I1, rfl, q1⟩
/-- x[i], x of an own class -/
def tIxO (C : Addr) (sp : Sp) (ta tb : TE) : TE := fun σ H Q => ta σ H fun x H1 => tb σ H1 fun y H2 => ∃ a dx fs, x = .ref a ∧ H2 a = some (.ins C dx fs) ∧ sp [.ref a, y] H2 Q E0
theorem pe_ixO {e i : Expr} {ta tb : TE} {pos : Pos} (d : Dun X.K C f "__getitem__") (hf : PySem.W.fnIn X.K f = true) (F : FnOk X.prog X.w X.K X.mg X.base CX0 k f fd ps sp) (hr : Room (k + 1) X.A) (hb : Binds X.K fd ps []) (ha : PE X e ta) (hi : PE X i tb)
    (hsl : ∀ a u, subscripted i true (.ref a) u = runValue (.builtin "lifetime.subscript" ⟨[.ref a, u], []⟩) := by intros; with_unfolding_all rfl) : PE X (.Subscript e i pos) (tIxO C sp ta tb) := by
  refine ⟨fun pins s σ H Q I h => ?_⟩
  refine Subscript_ (binT ha hi I h fun v u s2 x y H2 I2 rx ry q => ?_)
  obtain ⟨a, dx, fs, rfl, e, q⟩ := q
  cases (show v = Value.ref a from rx)
  obtain ⟨ox, od, J⟩ := at_ins I2 e
  obtain ⟨m, fr⟩ := I2.fr
  exact PySem.W.sub_K fr I2.ok.mod.kin J d.at_ hf d.fn (run_in F hr.in1 I2.env0.in1 hb I2 (.cons (a := V.ref a) rfl (.cons ry .nil)) q) (hsl _ _)
end
/-! ### slices with a step -/
def pickV {α : Type} (xs : List α) (lo hi st : Option Int) : List α := (sliceRange (sliceBounds lo hi st xs.length).1 (sliceBounds lo hi st xs.length).2.1 (sliceBounds lo hi st xs.length).2.2).filterMap (xs[·]?)
theorem vals_pick {xs : List V} {its : List Value} (r : Vals xs its) : ∀ l : List Nat, Vals (l.filterMap (xs[·]?)) (l.filterMap (its[·]?))
  | [] => .nil
  | i :: l => by
    rw [List.filterMap_cons, List.filterMap_cons]
    cases e : xs[i]? with
    | none =>
      have e2 : its[i]? = none := by
        rw [List.getElem?_eq_none_iff] at e ⊢
        rw [← r.length]
        exact e
      rw [e2]
      exact vals_pick r l
    | some x =>
      obtain ⟨u, e2, ru⟩ := r.get e
      rw [e2]
      exact .cons ru (vals_pick r l)
def tSlS (K : PySem.W.Frag) (te : TE) (tl th ts : L2.St → Hp → (Option Int → Hp → Prop) → Prop) : TE := fun σ H Q => te σ H fun x H1 => tl σ H1 fun l H2 => th σ H2 fun u H3 => ts σ H3 fun k H4 => ∃ a xs, x = .ref a ∧ SqL K H4 a xs ∧ k ≠ some 0 ∧ (pickV xs l u k).length ≤ sizeLine ∧ ∀ p, H4 p = none → Q (.ref p) (upd H4 p (.lst (pickV xs l u k)))
theorem pe_sliceS {X : Cx} {e st : Expr} {lo hi : Option Expr} {te : TE} {tl th ts : L2.St → Hp → (Option Int → Hp → Prop) → Prop} {p2 pos : Pos} (he : PE X e te) (hl : PO X lo tl) (hu : PO X hi th) (hs : PO X (some st) ts) : PE X (.Subscript e (.Slice lo hi (some st) p2) pos) (tSlS X.K te tl th ts) := by
  constructor
  intro pins s σ H Q I h
  apply Subscript_
  refine thn (he.run pins s σ H _ I h) ?_
  rintro v s1 ⟨x, H1, I1, rx, q1⟩
  apply wpAny_Slice
  refine thn (hl.run pins s1 σ H1 _ I1 q1) ?_
  rintro vl s2 ⟨l, H2, I2, pl, q2⟩
  refine thn (hu.run pins s2 σ H2 _ I2 q2) ?_
  rintro vu s3 ⟨u, H3, I3, pu, q3⟩
  refine thn (hs.run pins s3 σ H3 _ I3 q3) ?_
  rintro vk s4 ⟨k, H4, I4, pk, a, xs, rfl, hx, hk, hz, q⟩
  cases (show v = Value.ref a from rx)
  have I5 : Inv X pins σ H4 { s4 with heap := s4.heap.push { cls := .type "slice", data := .fields #[vl, vu, vk] } } := I4.kept (t' := s4.toks) fun b ob z => Heap.get?_push_of_some _ z
  obtain ⟨its, r, ht, hsz⟩ := I5.list hx
  have hlen := r.length
  have hT : typeLookup (.type "list") "__getitem__" = pure (some (.builtin _)) := slot_list_getitem.lookup
  refine tail_any (ops := [.ref a, .ref s4.heap.objs.size]) ht.isList.typeIs hT ?_ (by with_unfolding_all rfl)
  refine wpAny_getItem_list_slice ht.isList (Heap.IsSliceOf.new ..) pl pu pk hk ?_ (by rw [List.size_toArray] <;> omega)
  have es : slicePick its.toArray l u k = (pickV its l u k).toArray := by
    unfold slicePick pickV
    simp
  rw [es]
  have rel : Vals (pickV xs l u k) (pickV its l u k) := by
    unfold pickV
    rw [hlen]
    exact vals_pick r _
  refine ⟨.ref _, _, I5.laid (o := .lst (pickV xs l u k)) (fun b ob z => Heap.get?_push_of_some _ z) (Nat.le_refl _) ?_, rfl, q _ (I5.hok.fresh (Nat.le_refl _))⟩
  exact ⟨hz, _, 0, rel, Heap.get?_push_size _ rfl⟩
end Uq

namespace Uq
open PySem PySem.Spec PyProof.Rows
/-! ### enumerate(list, start=3) -/
/-- what the call hands on -/
abbrev kw3 (t : Tok) : List (Str × Value) := [("start", .int 3 t)]
theorem typeCall3 (a : Value) (t : Tok) : checkTypeCall "enumerate" ⟨[a], kw3 t⟩ = pure () := by kernel_rfl
theorem newCall3 (a : Value) (t : Tok) : checkBuiltinCall "enumerate.__new__" ⟨[.type "enumerate", a], kw3 t⟩ = pure () := by kernel_rfl
theorem initArgs3 (obj a : Value) (t : Tok) : argsOk "object.__init__" ⟨[obj, a], kw3 t⟩ := by
  first
    | exact F.args_object_init_2 obj a
    | (unfold argsOk; kernel_rfl)
    | decide +kernel
/-- the iterator and the enumerate that stand behind it -/
abbrev it0 (l : Addr) : Obj := { cls := .type "list_iterator", data := .fields #[.ref l, .int 0 0] }
abbrev en0 (it : Addr) (n : Int) : Obj := { cls := .type "enumerate", data := .fields #[.none, .bool false, .ref it, rawInt n, .none, .none] }
theorem new3 (l : Addr) (t : Tok) (items : Array Value) (n : Nat) (dct : Option Addr) (sl : Array (Option Value)) :
    Meets (Builtin.«enumerate.__new__» ⟨[.type "enumerate", .ref l], kw3 t⟩) (fun _ R s => s.heap.get? l = some { cls := .type "list", dict := dct, data := .seq items n, slots := sl } ∧
      R (.ok (.ret (.ref (s.heap.push (it0 l)).objs.size))) { s with heap := (s.heap.push (it0 l)).push (en0 s.heap.objs.size 3) }) := by
  refine .of_wp ?_
  rintro prog w A R ⟨h0, g, d, tk, os⟩ ⟨hl, q⟩
  have sub := PySem.sub_enumerate
  have isl : Heap.IsList (Shared.heap ⟨h0, g, d, tk, os⟩) l items := ⟨_, hl, rfl, n, rfl⟩
  wp_walk using AutoSeq1.wpAny_loadPart' hl
  refine wpAny_stack_any fun st => wpAny_pure ?_
  split
  · rename_i c _ _ _ _ _
    cases (c == Value.type "enumerate")
    · wp_walk using AutoSeq1.wpAny_loadPart' hl, wpAny_pyIter_list isl
      exact ⟨_, rfl, q⟩
    · wp_walk using AutoSeq1.wpAny_loadPart' hl, wpAny_pyIter_list isl
      exact ⟨_, rfl, q⟩
  · wp_walk using AutoSeq1.wpAny_loadPart' hl, wpAny_pyIter_list isl
    exact ⟨_, rfl, q⟩
end Uq

namespace Uq
open PySem PySem.Spec PyProof.Rows
section
variable {prog : Program} {w : World} {A : Around} {E : Value → Shared → Prop} {s : Shared}
theorem init3 {obj a : Value} (t : Tok) :
    Meets (Builtin.«object.__init__» ⟨[obj, a], kw3 t⟩) (fun _ R s => s.TypeIs obj "enumerate" ∧ R (.ok (.ret .none)) s) := by
  refine .of_wp ?_
  rintro prog w A R s ⟨ht, q⟩
  have hl := F.called_enumerate.init.lookup
  have hm := F.called_enumerate.made
  repeat (any_goals (first | assumption | wp_step))
  all_goals exact ⟨_, rfl, q⟩
theorem call_enum3 {l : Addr} {items : Array Value} {t : Tok} {Q : Value → Shared → Prop} (hL : s.heap.IsList l items)
    (h : ∀ h', IsEnum h' (s.heap.objs.size + 1) s.heap.objs.size 3 .none → h'.IsListIter s.heap.objs.size l 0 → h'.objs.size = s.heap.objs.size + 2 →
      (∀ b o, s.heap.get? b = some o → h'.get? b = some o) → Q (.ref (s.heap.objs.size + 1)) { s with heap := h' }) :
    wpAny (model prog w) A (call (.type "enumerate") [.ref l] (kw3 t)) Q E s := by
  obtain ⟨⟨c, dct, dt, sl⟩, hl, hc, n, hd⟩ := hL
  replace hc : c = .type "list" := hc
  replace hd : dt = .seq items n := hd
  subst hc hd
  have ft := F.called_enumerate
  obtain ⟨c, tl, hmro⟩ := ft.mro
  have hmade := ft.made
  have hsub := ft.sub
  have h1 := ft.notType
  have h2 := ft.canCreate
  refine wpAny_call (codeAny_of_tree ?_)
  show wpAny _ _ (callAny (.type "enumerate") _) _ _ _
  refine wpAny_pure ⟨Code.quiet_builtin _ (by decide +kernel), codeAny_builtin F.entry_type_call ?_⟩
  rw [Around.under_plain (weight_type_call_type "enumerate" [.ref l] (kw3 t)) (units_type_call_type "enumerate" [.ref l] (kw3 t))]
  have hct := typeCall3 (.ref l) t
  repeat (any_goals (first | assumption | wp_step))
  have hz : (s.heap.push (it0 l)).objs.size = s.heap.objs.size + 1 := Heap.size_push ..
  have made := codeAny_call_builtin (A := A.in1) (R := wants (fun obj s₁ => obj = .ref (s.heap.objs.size + 1) ∧ s₁ = { s with heap := (s.heap.push (it0 l)).push (en0 s.heap.objs.size 3) }) E) ft.plain F.entry_enumerate_new (wpAny_of_eq (newCall3 (.ref l) t) (new3 l t items n dct sl prog w A.in1 _ s ⟨hl, by rw [hz]; exact ⟨rfl, rfl⟩⟩))
  refine codeAny_mono made fun r s₁ hr => ?_
  cases r with
  | error e => exact hr
  | ok fl =>
    cases fl with
    | ret obj =>
      obtain ⟨rfl, rfl⟩ := hr
      have he : IsEnum ((s.heap.push (it0 l)).push (en0 s.heap.objs.size 3)) (s.heap.objs.size + 1) s.heap.objs.size 3 .none := by
        have z := Heap.get?_push_size (s.heap.push (it0 l)) (o := en0 s.heap.objs.size 3) rfl
        rw [hz] at z
        exact z
      have hT : (Shared.mk ((s.heap.push (it0 l)).push (en0 s.heap.objs.size 3)) s.gens s.drawn s.toks s.os).TypeIs (.ref (s.heap.objs.size + 1)) "enumerate" := ⟨_, he, rfl⟩
      have hli := ft.init.lookup
      have hbi := ft.init.bind (.ref (s.heap.objs.size + 1))
      repeat (any_goals (first | assumption | wp_step))
      have fin : Q (.ref (s.heap.objs.size + 1)) { s with heap := (s.heap.push (it0 l)).push (en0 s.heap.objs.size 3) } := h _ he ⟨_, Heap.get?_push_of_some _ (Heap.get?_push_size _ rfl), rfl, rfl⟩ (by rw [Heap.size_push, hz]) fun b o x => Heap.get?_push_of_some _ (Heap.get?_push_of_some _ x)
      refine codeAny_mono (codeAny_call_builtin ft.init.plain F.entry_object_init (ft.init.check _ _ _ _ _ _ _ _ hT (initArgs3 _ _ t) (init3 t prog w A.in1 (wants (fun r s₂ => r = .none ∧ s₂ = { s with heap := (s.heap.push (it0 l)).push (en0 s.heap.objs.size 3) }) E) _ ⟨hT, rfl, rfl⟩))) fun r₂ s₂ hr₂ => ?_
      cases r₂ with
      | error e => exact hr₂
      | ok fl₂ =>
        cases fl₂ with
        | ret r =>
          obtain ⟨rfl, rfl⟩ := hr₂
          repeat (any_goals (first | assumption | wp_step))
        | _ => exact hr₂.elim
    | _ => exact hr.elim
end
end Uq

namespace Uq
open PySem PySem.Spec PyProof.Rows L2
/-- enumerate(list, start=3): the list as it stands at each turn, each item in a new pair -/
def Ite3 (K : PySem.W.Frag) (a : Addr) : It :=
  ⟨fun i H => ∃ (xs : List V) (x : V), SqL K H a xs ∧ xs[i]? = some x,
   fun i H v H' => ∃ T x, v = .ref T ∧ H T = none ∧ H' = upd H T (.tup [.int ((i : Int) + 3), x]) ∧ ∀ xs, SqL K H a xs → xs[i]? = some x,
   fun i H => ∃ xs : List V, SqL K H a xs ∧ xs.length ≤ i⟩
theorem draws3 {prog : Program} {w : World} {A : Around} {it l : Addr} {items : Array Value} (hh : A.handled = none) (hn : l ≠ it) :
    Draws prog w A it [it, l] (items.size + 3) (fun i x => items[i - 3]? = some x) (fun i h => 3 ≤ i ∧ h.IsListIter it l (i - 3) ∧ h.IsList l items) where
  live := fun i h st => by
    obtain ⟨_, ⟨o, e, _⟩, _⟩ := st
    exact ⟨o, e⟩
  frame := fun i h h' st k => by
    obtain ⟨g, ⟨o, e, r⟩, ⟨ol, el, rl⟩⟩ := st
    exact ⟨g, ⟨o, k it (by simp) _ e, r⟩, ⟨ol, k l (by simp) _ el, rl⟩⟩
  item := fun i s Q E hi st q => by
    obtain ⟨g, hit, hl⟩ := st
    obtain ⟨x, hx⟩ : ∃ x, items[i - 3]? = some x := ⟨items[i - 3]'(by omega), Array.getElem?_eq_getElem (by omega)⟩
    refine wpAny_nextOf_list_item hit hl hx fun h' hit' sb => ?_
    have e : i + 1 - 3 = i - 3 + 1 := by omega
    refine q x h' s.toks hx ⟨by omega, by rw [e]; exact hit', ?_⟩ sb
    obtain ⟨ol, el, rl⟩ := hl
    exact ⟨ol, (sb.2 l hn).trans el, rl⟩
  done := fun s Q E st q => by
    obtain ⟨_, hit, hl⟩ := st
    exact wpAny_nextOf_list_end hh hit hl (Array.getElem?_eq_none (by omega)) q
theorem list_ne_iter {h : Heap} {it l : Addr} {i : Nat} {items : Array Value} (a : h.IsListIter it l i) (b : h.IsList l items) : l ≠ it := by
  obtain ⟨o, e, c, _⟩ := a
  obtain ⟨ol, el, cl, _⟩ := b
  intro z
  rw [z, e] at el
  cases el
  rw [c] at cl
  exact absurd (Value.type.inj cl) (by decide)
/-- the end: nothing is behind it -/
theorem draws_end {prog : Program} {w : World} {A : Around} {it l : Addr} {items : Array Value} {i : Nat} (hh : A.handled = none) (hz : items.size ≤ i) :
    Draws prog w A it [it, l] i (fun _ _ => False) (fun j h => j = i ∧ h.IsListIter it l i ∧ h.IsList l items) where
  live := fun j h st => by
    obtain ⟨_, ⟨o, e, _⟩, _⟩ := st
    exact ⟨o, e⟩
  frame := fun j h h' st k => by
    obtain ⟨g, ⟨o, e, r⟩, ⟨ol, el, rl⟩⟩ := st
    exact ⟨g, ⟨o, k it (by simp) _ e, r⟩, ⟨ol, k l (by simp) _ el, rl⟩⟩
  item := fun j s Q E hj st q => absurd hj (by rw [st.1]; exact Nat.lt_irrefl _)
  done := fun s Q E st q => by
    obtain ⟨_, hit, hl⟩ := st
    exact wpAny_nextOf_list_end hh hit hl (Array.getElem?_eq_none hz) q
theorem turn3 {P : Program} {w : World} {K : PySem.W.Frag} {elts : List Expr} {kk : Nat} {tpos : Pos} (a e it : Addr) :
    Turn P w K (.Tuple elts kk tpos) (Ite3 K a) [e, it] e (fun i h => (∃ old, IsEnum h e it ((i + 3 : Nat) : Int) old) ∧ h.IsListIter it a i ∧ e ≠ it) where
  mem := by simp
  obj := fun i h st b hb => by
    obtain ⟨⟨old, he⟩, ⟨o, ho, hc, hd⟩, _⟩ := st
    simp only [List.mem_cons, List.not_mem_nil, or_false] at hb
    rcases hb with z | z
    · rw [z]
      exact ⟨_, he, fun v q => nomatch q⟩
    · rw [z]
      refine ⟨o, ho, fun v q => ?_⟩
      rw [hd] at q
      cases q
  keep := fun i h h' st k => by
    obtain ⟨⟨old, he⟩, hi, hne⟩ := st
    exact ⟨⟨old, k e (by simp) _ he⟩, hi.at fun o q => k it (by simp) o q, hne⟩
  item := by
    intro X hP hw hK hc i pins s σ H E I hf st hg
    subst hP hw hK
    obtain ⟨⟨old, he⟩, hit, hne⟩ := st
    obtain ⟨xs, x, hq, hx⟩ := hg
    obtain ⟨its, rv, p, hz⟩ := I.list hq
    obtain ⟨u, hu, ru⟩ := rv.get hx
    have hel : e < s.heap.objs.size := Heap.lt_size he
    have hil : it < s.heap.objs.size := by
      obtain ⟨_, q, _⟩ := hit
      exact Heap.lt_size q
    have hi : i < its.length := (List.getElem?_eq_some_iff.mp hu).1
    have ea : e ≠ a := by
      intro z
      obtain ⟨ol, el, cl, _⟩ := p.isList
      have he2 : s.heap.get? e = _ := he
      rw [z, el] at he2
      cases he2
      exact absurd (Value.type.inj cl) (by decide)
    have D := draws3 (prog := X.prog) (w := X.w) (A := X.A.in1) (items := its.toArray) (I.ok.hd hc) (list_ne_iter hit p.isList)
    refine wpAny_pyNext_enum_itemD D he ⟨by omega, hit, p.isList⟩ (by simp only [List.size_toArray]; omega) hne (by simp [hne, ea]) fun y h' tk hy ho st' hT hsz hk => ?_
    have ey : y = u := by
      have z : (its.toArray)[i + 3 - 3]? = some y := hy
      rw [Nat.add_sub_cancel, List.getElem?_toArray, hu] at z
      exact (Option.some.inj z).symm
    subst ey
    obtain ⟨_, hit', _⟩ := st'
    refine ⟨_, rfl, wpAny_letOwnedTupleGo_enum (s := { s with heap := h', toks := tk + 1 }) ho fun h'' he' sb => ?_⟩
    have hT2 : h''.get? s.heap.objs.size = some { cls := .type "tuple", data := .seq #[.int ((i + 3 : Nat) : Int) tk, y] } := (sb.2 _ (Nat.ne_of_gt hel)).trans hT
    have ei : ((i + 3 : Nat) : Int) = (i : Int) + 3 := by omega
    have new : ObjOk X.prog X.w (upd H s.heap.objs.size (.tup [.int ((i : Int) + 3), x])) h'' s.heap.objs.size (.tup [.int ((i : Int) + 3), x]) :=
      ⟨by show 2 ≤ sizeLine; decide, [.int ((i : Int) + 3) tk, y], .cons ⟨_, rfl⟩ (.cons ru .nil), ⟨_, hT2, rfl, _, by rw [ei]⟩⟩
    have stays : ∀ b ob, b ∉ [e, it] → s.heap.get? b = some ob → h''.get? b = some ob := fun b ob hb q =>
      (sb.2 b (fun z => hb (by simp [z]))).trans (hk b ob (fun z => hb (by simp [z])) (fun z => hb (by simp [z])) q)
    have I1 : Inv X pins σ (upd H s.heap.objs.size (.tup [.int ((i : Int) + 3), x])) { s with heap := h'', toks := tk + 1 } := I.turnedNew (ch := [e, it]) stays hf (Nat.le_refl _) new
    refine ⟨.ref s.heap.objs.size, _, I1, rfl, ⟨_, x, rfl, I.hok.fresh (Nat.le_refl _), rfl, fun ys hy => ?_⟩, ⟨⟨y, ?_⟩, ?_, hne⟩, fun b hb => ?_⟩
    · rw [I.list_inj hy hq]
      exact hx
    · have e1 : ((i + 1 + 3 : Nat) : Int) = ((i + 3 : Nat) : Int) + 1 := by omega
      rw [e1]
      exact he'
    · have e2 : i + 3 + 1 - 3 = i + 1 := by omega
      rw [e2] at hit'
      exact hit'.at fun o q => (sb.2 it (Ne.symm hne)).trans q
    · have hb' : b < s.heap.objs.size := by
        simp only [List.mem_cons, List.not_mem_nil, or_false] at hb
        rcases hb with z | z
        · rw [z]
          exact hel
        · rw [z]
          exact hil
      rw [upd_ne (Nat.ne_of_lt hb')]
      exact (hf b hb).1
  done := by
    intro X hP hw hK hc i pins s σ H E I hf st hg
    subst hP hw hK
    obtain ⟨⟨old, he⟩, hit, hne⟩ := st
    obtain ⟨xs, hq, hx⟩ := hg
    obtain ⟨its, rv, p, hz⟩ := I.list hq
    obtain ⟨f0, f1, f2, f3, f4, f5⟩ := hf it (by simp)
    have hl := rv.length
    have D := draws_end (prog := X.prog) (w := X.w) (A := X.A.in1) (it := it) (l := a) (items := its.toArray) (i := i) (I.ok.hd hc) (by simp only [List.size_toArray]; omega)
    exact wpAny_pyNext_enum_endD D he ⟨rfl, hit, p.isList⟩ fun h' eb => ⟨rfl, I.turned (t' := s.toks) (fun b o hb q => eb b o hb q) f0 f1 f3 f4 f5⟩
  self := fun A i s Q E st h => by
    obtain ⟨⟨_, he⟩, _⟩ := st
    exact wpAny_pyIter_enum he h
/-! ### the call -/
theorem callWith_tyK {M : Model} {A : Around} {E : Value → Shared → Prop} {s : Shared} {env : Env} {pos : Pos} {T : String} {e : Expr} {rest : List Expr} {kws : List Keyword} {Q : Value → Shared → Prop}
    (h : wpAny M A (spliced (backTo pos (starEach (e :: rest) env))) (fun vs s₁ => wpAny M A (evalAll ((backToKw pos (keywordEach kws env)).map (·.2)))
      (fun kvs s₂ => wpAny M A (call (.type T) vs (((backToKw pos (keywordEach kws env)).filterMap (·.1)).zip kvs)) Q E s₂) E s₁) E s)
    (he : backTo pos (starEach (e :: rest) env) = (false, eval e env) :: backTo pos (starEach rest env)) (hp : (backTo pos (starEach (e :: rest) env)).any (·.1) = false)
    (ha : (backToKw pos (keywordEach kws env)).all (·.1.isSome) = true) (hn : (backToKw pos (keywordEach kws env)).any (·.1.isNone) = false) :
    wpAny M A (callWith pos (.type T) [] (backTo pos (starEach (e :: rest) env)) (backToKw pos (keywordEach kws env))) Q E s := by
  have args := h
  rw [he] at args
  have a2 := evalArgs_kwB (f := .type T) (Q := fun a s₁ => wpAny M A (call (.type T) ([] ++ a.pos) a.kw) Q E s₁) ha args
  rw [← he] at a2
  unfold callWith
  refine wpAny_bind (wpAny_holding (wpAny_mono a2 (fun a s₁ h₁ => wpAny_bind (wpAny_standAt ?_)) fun _ _ x => x))
  simp only [hp, hn, Bool.or_false]
  refine wpAny_bind (wpAny_pure ?_)
  exact wpAny_bind (wpAny_mono h₁ (fun r s₂ hr => wpAny_bind (wpAny_holding (wpAny_point (wpAny_pure hr)))) fun _ _ x => x)
def iEnum3 (K : PySem.W.Frag) (ta : TA) : TI := fun σ H R => ta σ H fun vs H1 => ∃ a xs, vs = [.ref a] ∧ SqL K H1 a xs ∧ R (Ite3 K a) H1
theorem pi_enum3 {X : Cx} {e : Expr} {ta : TA} {p pos tpos kp cp : Pos} {j : Nat} {elts : List Expr} {kk : Nat} (hg : Gl X "enumerate") (hm : X.mg "enumerate" = none) (ha : PA X [e] ta) (hs : starEach [e] X.env = [(false, eval e X.env)] := by rfl) :
    PI X (.Tuple elts kk tpos) (.Call (.Name "enumerate" p) [e] [⟨some "start", .Constant (.int 3) j cp, kp⟩] pos) (iEnum3 X.K ta) := by
  refine ⟨fun pins s σ H R I h => ?_⟩
  refine wpAny_Call_Name_kw (ld_blt I hg hm boot_enumerate (callWith_tyK (thn (ha.run pos pins s σ H _ I h) ?_) (he := by rw [hs]; rfl) (hp := by rw [hs]; rfl) rfl rfl) (by decide) (by decide))
  rintro us s1 ⟨vs, H1, I1, r1, a, xs, rfl, hq, q⟩
  obtain ⟨u, rfl, ru⟩ := vals1 r1
  cases (show u = Value.ref a from ru)
  refine kws_cons (thn (pe_int.run pins s1 σ H1 (fun v H2 => v = .int 3 ∧ H2 = H1) I1 ⟨rfl, rfl⟩) ?_)
  rintro k s2 ⟨y, H2, I2, rk, rfl, rfl⟩
  obtain ⟨t, rfl⟩ := rk
  refine kws_nil ?_
  obtain ⟨its, rv, p', hz⟩ := I2.list hq
  show wpAny _ _ (call (.type "enumerate") [.ref a] (kw3 t)) _ _ _
  refine call_enum3 p'.isList fun h' he hit hsz hk => wpAny_pyIter_enum he ?_
  have I3 := I2.kept (t' := s2.toks) hk
  refine ⟨s2.heap.objs.size + 1, [s2.heap.objs.size + 1, s2.heap.objs.size], _, _, H2, rfl, I3, turn3 a (s2.heap.objs.size + 1) s2.heap.objs.size, ⟨⟨.none, he⟩, hit, Nat.succ_ne_self _⟩, fun b hb => ?_, q⟩
  have hle : s2.heap.objs.size ≤ b := by
    simp only [List.mem_cons, List.not_mem_nil, or_false] at hb
    rcases hb with z | z
    · rw [z]
      exact Nat.le_add_right _ _
    · rw [z]
      exact Nat.le_refl _
  exact I2.fpOk hle (I2.hok.fresh hle)
end Uq

namespace Uq
open PySem PySem.Spec PyProof.Rows L2 PySem.W
/-! ### tuple(d): the keys of a dict -/
section
variable {prog : Program} {w : World} {A : Around} {E : Value → Shared → Prop} {s : Shared} {d : Addr} {n : Nat} {P : Nat → Value → Prop} {OK : Heap → Prop}
theorem collect_src {T : String} {Q : List Value → Shared → Prop} (K : KdlSrc prog w T d d n P OK) (hh : A.handled = none) (hok : OK s.heap) (hn : n ≤ sizeLine)
    (q : ∀ (h' : Heap) (tk : Nat) (acc : Array Value), (∀ b o, s.heap.get? b = some o → h'.get? b = some o) → ItemsOf P acc n → Q acc.toList { s with heap := h', toks := tk }) :
    wpAny (model prog w) A (collect (.ref d)) Q E s := by
  have below := (K.there _ hok).1
  unfold collect
  refine wpAny_bind (wpAny_runValue (codeAny_builtin F.entry_proto_collect ?_))
  rw [Around.under_plainId F.plain_proto_collect _]
  show wpAny _ A.in1 (newList [] >>= fun l => again (.builtin "list.__iadd__" ⟨[l, .ref d], []⟩)) _ _ s
  refine wpAny_bind (wpAny_newObj_type ?_)
  refine wpAny_pure ⟨plainId_quiet F.plain_list_iadd _, codeAny_builtin F.entry_list_iadd ?_⟩
  rw [Around.under_plainId F.plain_list_iadd _]
  show wpAny _ A.in1 (Builtin.List.listExtendWith (.ref s.heap.objs.size) (.ref d) (.ref s.heap.objs.size)) _ _ _
  generalize eh : s.heap.push { cls := .type "list", data := .seq ([] : List Value).toArray } = h1
  have there : h1.get? s.heap.objs.size = some { cls := .type "list", data := .seq #[] 0 } := by
    rw [← eh]
    exact Heap.get?_push_size _ rfl
  have old : ∀ b o, s.heap.get? b = some o → h1.get? b = some o := fun b o e => by
    rw [← eh]
    exact Heap.get?_push_of_some _ e
  have ok1 : OK h1 := K.keep _ _ hok fun b _ o e => old b o e
  have ends := kdl_extend (A := A) (s := { s with heap := h1 }) (R := fun r s' => r = .ok (.ret (.ref s.heap.objs.size)) ∧ ∃ (h' : Heap) (tk : Nat) (acc : Array Value) (c : Nat), s' = { s with heap := h', toks := tk } ∧
      (∀ b o, s.heap.get? b = some o → h'.get? b = some o) ∧ h'.get? s.heap.objs.size = some { cls := .type "list", dict := none, data := .seq acc c, slots := #[] } ∧ ItemsOf P acc n)
    K hh ok1 s.heap.objs.size (Nat.ne_of_gt below) (Nat.ne_of_gt below) (.ref s.heap.objs.size) 0 there
    (fun h' tk acc c hk e hi => ⟨rfl, h', tk, acc, c, rfl, fun b o z => hk b o (Nat.ne_of_lt (Heap.lt_size z)) (old b o z), e, hi⟩) hn
  refine wpAny_mono ends (fun fin s' h => ?_) (fun e s' h => absurd h.1 (by simp))
  cases fin with
  | done f =>
    obtain ⟨e, h', tk, acc, c, rfl, hk, hS, hi⟩ := h
    cases e
    show wpAny _ A (load s.heap.objs.size >>= _) _ _ _
    exact wpAny_bind (wpAny_load hS (wpAny_pure (q h' tk acc hk hi)))
  | again c' =>
    refine ⟨h.1, codeAny_mono h.2 fun r s'' hr => ?_⟩
    obtain ⟨rfl, h', tk, acc, c, rfl, hk, hS, hi⟩ := hr
    show wpAny _ A (load s.heap.objs.size >>= _) _ _ _
    exact wpAny_bind (wpAny_load hS (wpAny_pure (q h' tk acc hk hi)))
theorem new_tuple_src {Q : Value → Shared → Prop} (K : KdlSrc prog w "dict" d d n P OK) (hh : A.handled = none) (hok : OK s.heap) (hn : n ≤ sizeLine)
    (q : ∀ (h' : Heap) (tk : Nat) (acc : Array Value), (∀ b o, s.heap.get? b = some o → h'.get? b = some o) → ItemsOf P acc n → Q (.ref h'.objs.size) { s with heap := h'.push { cls := .type "tuple", data := .seq acc }, toks := tk }) :
    codeAny (model prog w) A (.call (.builtin "tuple.__new__") ⟨[.type "tuple", .ref d], []⟩) (wants Q E) s := by
  refine codeAny_of_tree ?_
  show wpAny _ A.in1 (do checkBuiltinCall "tuple.__new__" ⟨[.type "tuple", .ref d], []⟩; again (.builtin "tuple.__new__" ⟨[.type "tuple", .ref d], []⟩)) _ _ s
  refine wpAny_bind (wpAny_of_eq (F.newCall_tuple_1 _) (wpAny_pure ⟨plainId_quiet F.plain_tuple_new _, codeAny_builtin F.entry_tuple_new ?_⟩))
  rw [Around.under_plainId F.plain_tuple_new _]
  have f1 := sub_tuple_self
  have f2 := init_tuple_lookup
  have f3 := madeHere_tuple
  have ty := K.type s hok
  have calm : A.in1.handled = none := hh
  wp_walk using wpAny_typeOf ty, collect_src (A := A.in1) K calm hok hn
  intro h' tk acc hk hi
  show wpAny _ _ (Builtin.Tuple.tupleExact acc.toList.toArray >>= fun v => ret v) _ _ _
  unfold Builtin.Tuple.tupleExact
  have e : acc.toList.toArray = acc := by simp
  rw [e]
  refine wpAny_bind (wpAny_newObj_type ?_ (by show acc.size ≤ sizeLine; rw [hi.1]; exact hn))
  exact wpAny_pure (q h' tk acc hk hi)
theorem call_tuple_src {Q : Value → Shared → Prop} (K : KdlSrc prog w "dict" d d n P OK) (hh : A.handled = none) (hok : OK s.heap) (hn : n ≤ sizeLine)
    (q : ∀ (h' : Heap) (tk : Nat) (acc : Array Value), (∀ b o, s.heap.get? b = some o → h'.get? b = some o) → ItemsOf P acc n → Q (.ref h'.objs.size) { s with heap := h'.push { cls := .type "tuple", data := .seq acc }, toks := tk }) :
    wpAny (model prog w) A (call (.type "tuple") [.ref d]) Q E s := by
  refine callType_codes (Q₁ := fun obj s₁ => s₁.TypeIs obj "tuple" ∧ Q obj s₁) F.called_tuple (F.typeCall_tuple_1 _) F.entry_object_init
    (new_tuple_src (A := A.in1) K hh hok hn fun h' tk acc hk hi => ⟨⟨_, Heap.get?_push_size _ rfl, rfl⟩, q h' tk acc hk hi⟩) ?_
  rintro obj s₁ ⟨ty, z⟩
  exact ⟨ty, F.args_object_init_2 obj _, object_init_meets F.called_tuple.init.lookup F.called_tuple.made (by decide) prog w A.in1 _ s₁ ⟨ty, rfl, z⟩⟩
end
def keysV (kvs : List (Key × V)) : List V := kvs.map fun kv => kV kv.1
/-- tuple(d) -/
def rTupD : List V → Hp → VK → Prop := fun xs H Q => ∃ p kvs, xs = [.ref p] ∧ Rd H p (.dK kvs) ∧ ∀ q, H q = none → Q (.ref q) (upd H q (.tup (keysV kvs)))
theorem call_tuple_dK {X : Cx} (hc : X.calm = true) : CallR X (.type "tuple") rTupD := by
  intro pins s σ H xs us Q I r h
  obtain ⟨p, kvs, rfl, hk, q⟩ := h
  obtain ⟨u, rfl, rx⟩ := vals1 r
  cases (show u = Value.ref p from rx)
  obtain ⟨z, lo, vs, rk, hd⟩ := (show ObjOk X.prog X.w H s.heap p (.dK kvs) from hk.ok I.hok)
  obtain ⟨ep, hat⟩ := hd.dictAt
  have hl : kvs.length = vs.length := Paired.length rk
  refine call_tuple_src (kdl_dict (knd := mixKind X.prog X.w) (kvs := vs) (ep := ep) lo) (I.ok.hd hc) hat (by rw [← hl]; exact z) fun h' tk acc keep hacc => ?_
  have rel : Vals (keysV kvs) acc.toList := by
    have el : acc.toList.length = acc.size := by simp
    refine vals_of_at (by rw [keysV, List.length_map, el, hacc.1, hl]) fun j x v h1 h2 => ?_
    obtain ⟨k, y, hky, hi⟩ := hacc.2 j v (by rw [← Array.getElem?_toList]; exact h2)
    have e1 : (kvs.map (·.1))[j]? = some k := by
      rw [KV.keys rk, List.getElem?_map, hky]
      rfl
    have e2 : (keysV kvs)[j]? = some (kV k) := by
      have e3 : keysV kvs = (kvs.map (·.1)).map kV := by
        rw [List.map_map]
        rfl
      rw [e3, List.getElem?_map, e1]
      rfl
    rw [e2] at h1
    cases h1
    exact keyIs_rel hi
  have I1 : Inv X pins σ H { s with heap := h', toks := tk } := I.kept (t' := tk) keep
  refine ⟨.ref h'.objs.size, _, I1.laid (t' := tk) (o := .tup (keysV kvs)) (fun b ob e => Heap.get?_push_of_some _ e) (Nat.le_refl _) ⟨?_, acc.toList, rel, ⟨_, Heap.get?_push_size _ rfl, rfl, 0, by rw [Array.toArray_toList]⟩⟩, rfl, q _ (I1.hok.fresh (Nat.le_refl _))⟩
  rw [keysV, List.length_map]
  exact z
/-- the same; what the new tuple is, is handed on (it has no dict) -/
def rTupF : List V → Hp → VK → Prop := fun xs H Q => ∃ p kvs, xs = [.ref p] ∧ Rd H p (.dK kvs) ∧ ∀ t ob, H t = none → ob.dict = none → Q (.ref t) (upd H t (.frz ob (.tup (keysV kvs))))
theorem call_tuple_dF {X : Cx} (hc : X.calm = true) : CallR X (.type "tuple") rTupF := by
  intro pins s σ H xs us Q I r h
  obtain ⟨p, kvs, rfl, hk, q⟩ := h
  obtain ⟨u, rfl, rx⟩ := vals1 r
  cases (show u = Value.ref p from rx)
  obtain ⟨z, lo, vs, rk, hd⟩ := (show ObjOk X.prog X.w H s.heap p (.dK kvs) from hk.ok I.hok)
  obtain ⟨ep, hat⟩ := hd.dictAt
  have hl : kvs.length = vs.length := Paired.length rk
  refine call_tuple_src (kdl_dict (knd := mixKind X.prog X.w) (kvs := vs) (ep := ep) lo) (I.ok.hd hc) hat (by rw [← hl]; exact z) fun h' tk acc keep hacc => ?_
  have rel : Vals (keysV kvs) acc.toList := by
    have el : acc.toList.length = acc.size := by simp
    refine vals_of_at (by rw [keysV, List.length_map, el, hacc.1, hl]) fun j x v h1 h2 => ?_
    obtain ⟨k, y, hky, hi⟩ := hacc.2 j v (by rw [← Array.getElem?_toList]; exact h2)
    have e1 : (kvs.map (·.1))[j]? = some k := by
      rw [KV.keys rk, List.getElem?_map, hky]
      rfl
    have e2 : (keysV kvs)[j]? = some (kV k) := by
      have e3 : keysV kvs = (kvs.map (·.1)).map kV := by
        rw [List.map_map]
        rfl
      rw [e3, List.getElem?_map, e1]
      rfl
    rw [e2] at h1
    cases h1
    exact keyIs_rel hi
  have I1 : Inv X pins σ H { s with heap := h', toks := tk } := I.kept (t' := tk) keep
  refine ⟨.ref h'.objs.size, _, I1.laid (t' := tk) (o := .frz _ (.tup (keysV kvs))) (fun b ob e => Heap.get?_push_of_some _ e) (Nat.le_refl _) ⟨Heap.get?_push_size _ rfl, ?_, acc.toList, rel, ⟨_, Heap.get?_push_size _ rfl, rfl, 0, by rw [Array.toArray_toList]⟩⟩, rfl, q _ _ (I1.hok.fresh (Nat.le_refl _)) rfl⟩
  rw [keysV, List.length_map]
  exact z
end Uq

namespace Uq
open PySem PySem.Spec PyProof.Rows
/-! ### zip over iterators of any kind whose last tuple is still held -/
section
variable {prog : Program} {w : World} {A : Around} {E : Value → Shared → Prop} {s : Shared} {z TI TO i1 i2 T : Addr} {f : Bool} {oT : Obj} {fp1 fp2 : List Addr} {n1 n2 i : Nat} {P1 P2 : Nat → Value → Prop} {St1 St2 : Nat → Heap → Prop}
theorem held_item {Q : Value → Shared → Prop} (S : ZipSep2 z TI TO i1 i2 fp1 fp2) (D1 : Draws prog w A i1 fp1 n1 P1 St1) (D2 : Draws prog w A i2 fp2 n2 P2 St2) (hz : IsZipHeld s.heap z TI TO T f) (hT : s.heap.get? T = some oT)
    (hTI : IsTupOf2 s.heap TI (.ref i1) (.ref i2)) (st1 : St1 i s.heap) (st2 : St2 i s.heap) (l1 : i < n1) (l2 : i < n2)
    (q : ∀ x y h' tk, P1 i x → P2 i y → IsZipHeld h' z TI TO T true → St1 (i + 1) h' → St2 (i + 1) h' → IsTupOf2 h' s.heap.objs.size x y → h'.objs.size = s.heap.objs.size + 1 →
      (∀ c o, c ≠ z → c ≠ i1 → c ≠ i2 → s.heap.get? c = some o → h'.get? c = some o) → Q (.ref s.heap.objs.size) { s with heap := h', toks := tk }) :
    wpAny (model prog w) A (Builtin.«zip.__next__» ⟨[.ref z], []⟩) (fun fin s' => ∃ v, fin = .done (.ret v) ∧ Q v s') E s := by
  obtain ⟨h0, g, d, tk0, os⟩ := s
  show wpAny _ _ (field (.ref z) 2 >>= _) _ _ _
  refine wpAny_bind (wpAny_field hz rfl (x := .bool false) rfl ?_)
  show wpAny _ _ (field (.ref z) 3 >>= _) _ _ _
  refine wpAny_bind (wpAny_field hz rfl (x := .ref TI) rfl ?_)
  refine wpAny_bind (wpAny_seqItems hTI rfl ?_)
  show wpAny _ _ (Builtin.SmallTypes.ownedTupleIsFree (.ref z) >>= _) _ _ _
  refine wpAny_bind (wpAny_tupleHeld_zip hz hT fun h1 z1 b1 => ?_)
  replace b1 : Heap.SameBut z h0 h1 := b1
  simp only [Bool.false_eq_true, if_false]
  refine wpAny_bind ?_
  rw [← Array.forIn_toList]
  simp only [List.forIn_cons, List.forIn_nil]
  refine wpAny_bind (wpAny_bind (wpAny_holding ?_))
  show wpAny _ _ (Builtin.SmallTypes.nextOf (.ref i1) >>= _) _ _ _
  refine wpAny_bind (D1.item i _ _ _ l1 (D1.over st1 b1 S.zf1) fun x h2 tk2 px j1 b2 => wpAny_pure ?_)
  replace b2 : Heap.SameBut i1 h1 h2 := b2
  refine wpAny_pure ?_
  refine wpAny_bind (wpAny_bind (wpAny_holding ?_))
  show wpAny _ _ (Builtin.SmallTypes.nextOf (.ref i2) >>= _) _ _ _
  refine wpAny_bind (D2.item i _ _ _ l2 (D2.over (D2.over st2 b1 S.zf2) b2 S.sep1_2) fun y h3 tk3 py j2 b3 => wpAny_pure ?_)
  replace b3 : Heap.SameBut i2 h2 h3 := b3
  refine wpAny_pure (wpAny_pure ?_)
  show wpAny _ _ (newTuple [x, y] >>= _) _ _ _
  refine wpAny_bind (wpAny_newTuple ?_)
  have size : h3.objs.size = h0.objs.size := by rw [b3.1, b2.1, b1.1]
  have keeps : ∀ c o, c ≠ z → c ≠ i1 → c ≠ i2 → h0.get? c = some o → h3.get? c = some o := fun c o c1 c2 c3 e => b3.extBut _ _ c3 (b2.extBut _ _ c2 (b1.extBut _ _ c1 e))
  have z3 : IsZipHeld h3 z TI TO T true := b3.extBut _ _ S.zi2 (b2.extBut _ _ S.zi1 z1)
  have k1 := D1.over j1 b3 S.sep2_1
  refine wpAny_pure ⟨_, rfl, ?_⟩
  show Q (.ref h3.objs.size) _
  have new : IsTupOf2 (h3.push { cls := .type "tuple", data := .seq #[x, y] }) h3.objs.size x y := Heap.get?_push_size _ rfl
  have size4 : (h3.push { cls := .type "tuple", data := .seq #[x, y] }).objs.size = h3.objs.size + 1 := Heap.size_push ..
  rw [size] at new size4 ⊢
  exact q x y _ tk3 px py (Heap.get?_push_of_some _ z3) (D1.frame _ _ _ k1 fun b _ o e => Heap.get?_push_of_some _ e) (D2.frame _ _ _ j2 fun b _ o e => Heap.get?_push_of_some _ e) new size4 fun c o c1 c2 c3 e => Heap.get?_push_of_some _ (keeps c o c1 c2 c3 e)
theorem held_end {Q : Fin → Shared → Prop} (S : ZipSep2 z TI TO i1 i2 fp1 fp2) (D1 : Draws prog w A i1 fp1 n1 P1 St1) (D2 : Draws prog w A i2 fp2 n2 P2 St2) (hz : IsZipHeld s.heap z TI TO T f) (hT : s.heap.get? T = some oT)
    (hTI : IsTupOf2 s.heap TI (.ref i1) (.ref i2)) (st1 : St1 i s.heap) (st2 : St2 i s.heap) (l1 : i ≤ n1) (l2 : i ≤ n2) (fin : i = n1 ∨ i = n2)
    (q : ∀ h' tk e, (∀ c o, c ≠ z → c ≠ i1 → c ≠ i2 → s.heap.get? c = some o → h'.get? c = some o) → (∃ o, h'.get? e = some o ∧ o.cls = .type "StopIteration") → E (.ref e) { s with heap := h', toks := tk }) :
    wpAny (model prog w) A (Builtin.«zip.__next__» ⟨[.ref z], []⟩) Q E s := by
  obtain ⟨h0, g, d, tk0, os⟩ := s
  show wpAny _ _ (field (.ref z) 2 >>= _) _ _ _
  refine wpAny_bind (wpAny_field hz rfl (x := .bool false) rfl ?_)
  show wpAny _ _ (field (.ref z) 3 >>= _) _ _ _
  refine wpAny_bind (wpAny_field hz rfl (x := .ref TI) rfl ?_)
  refine wpAny_bind (wpAny_seqItems hTI rfl ?_)
  show wpAny _ _ (Builtin.SmallTypes.ownedTupleIsFree (.ref z) >>= _) _ _ _
  refine wpAny_bind (wpAny_tupleHeld_zip hz hT fun h1 z1 b1 => ?_)
  replace b1 : Heap.SameBut z h0 h1 := b1
  simp only [Bool.false_eq_true, if_false]
  refine wpAny_bind ?_
  rw [← Array.forIn_toList]
  simp only [List.forIn_cons, List.forIn_nil]
  refine wpAny_bind (wpAny_bind (wpAny_holding ?_))
  show wpAny _ _ (Builtin.SmallTypes.nextOf (.ref i1) >>= _) _ _ _
  have t1 := D1.over st1 b1 S.zf1
  by_cases e1 : i = n1
  · subst e1
    refine wpAny_bind (D1.done _ _ _ t1 fun h2 e b2 he => ?_)
    exact q h2 tk0 e (fun c o c1 c2 _ x => b2 _ _ c2 (b1.extBut _ _ c1 x)) he
  · have e2 : i = n2 := fin.resolve_left e1
    subst e2
    refine wpAny_bind (D1.item i _ _ _ (by omega) t1 fun x h2 tk2 px j1 b2 => wpAny_pure ?_)
    replace b2 : Heap.SameBut i1 h1 h2 := b2
    refine wpAny_pure ?_
    refine wpAny_bind (wpAny_bind (wpAny_holding ?_))
    show wpAny _ _ (Builtin.SmallTypes.nextOf (.ref i2) >>= _) _ _ _
    refine wpAny_bind (D2.done _ _ _ (D2.over (D2.over st2 b1 S.zf2) b2 S.sep1_2) fun h3 e b3 he => ?_)
    exact q h3 tk2 e (fun c o c1 c2 c3 x => b3 _ _ c3 (b2.extBut _ _ c2 (b1.extBut _ _ c1 x))) he
theorem next_held {Q : Option Value → Shared → Prop} (S : ZipSep2 z TI TO i1 i2 fp1 fp2) (D1 : Draws prog w A.in1 i1 fp1 n1 P1 St1) (D2 : Draws prog w A.in1 i2 fp2 n2 P2 St2) (hz : IsZipHeld s.heap z TI TO T f) (hT : s.heap.get? T = some oT)
    (hTI : IsTupOf2 s.heap TI (.ref i1) (.ref i2)) (st1 : St1 i s.heap) (st2 : St2 i s.heap) (l1 : i < n1) (l2 : i < n2)
    (q : ∀ x y h' tk, P1 i x → P2 i y → IsZipHeld h' z TI TO T true → St1 (i + 1) h' → St2 (i + 1) h' → IsTupOf2 h' s.heap.objs.size x y → h'.objs.size = s.heap.objs.size + 1 →
      (∀ c o, c ≠ z → c ≠ i1 → c ≠ i2 → s.heap.get? c = some o → h'.get? c = some o) → Q (some (.ref s.heap.objs.size)) { s with heap := h', toks := tk }) :
    wpAny (model prog w) A (pyNext (.ref z)) Q E s := by
  have ty : s.TypeIs (.ref z) "zip" := ⟨_, hz, rfl⟩
  unfold pyNext
  refine wpAny_bind (wpAny_attempt (wpAny_callSpecial?_slot (name := Str.ofString "__next__") ty F.slot_zip_next (wpAny_call_entry F.slot_zip_next ty F.entry_zip_next ?_ (F.args_zip_next_1 _))))
  exact held_item S D1 D2 hz hT hTI st1 st2 l1 l2 fun x y h' tk a1 a2 a3 a4 a5 a6 a7 a8 => wpAny_pure (q x y h' tk a1 a2 a3 a4 a5 a6 a7 a8)
theorem stop_held {Q : Option Value → Shared → Prop} (S : ZipSep2 z TI TO i1 i2 fp1 fp2) (D1 : Draws prog w A.in1 i1 fp1 n1 P1 St1) (D2 : Draws prog w A.in1 i2 fp2 n2 P2 St2) (hz : IsZipHeld s.heap z TI TO T f) (hT : s.heap.get? T = some oT)
    (hTI : IsTupOf2 s.heap TI (.ref i1) (.ref i2)) (st1 : St1 i s.heap) (st2 : St2 i s.heap) (l1 : i ≤ n1) (l2 : i ≤ n2) (fin : i = n1 ∨ i = n2)
    (q : ∀ h' tk, (∀ c o, c ≠ z → c ≠ i1 → c ≠ i2 → s.heap.get? c = some o → h'.get? c = some o) → Q none { s with heap := h', toks := tk }) : wpAny (model prog w) A (pyNext (.ref z)) Q E s := by
  have ty : s.TypeIs (.ref z) "zip" := ⟨_, hz, rfl⟩
  unfold pyNext
  refine wpAny_bind (wpAny_attempt (wpAny_callSpecial?_slot (name := Str.ofString "__next__") ty F.slot_zip_next (wpAny_call_entry F.slot_zip_next ty F.entry_zip_next (held_end S D1 D2 hz hT hTI st1 st2 l1 l2 fin ?_) (F.args_zip_next_1 _))))
  rintro h' tk e keeps ⟨o, ho, hc⟩
  refine wpAny_bind (wpAny_isInstance (T := "StopIteration") (b := true) ⟨o, ho, hc⟩ isSubtype_stop ?_)
  exact wpAny_pure (q _ _ keeps)
end
/-! ### such a zip as the argument of dict() -/
theorem zip_pairs {prog : Program} {w : World} {z TI TO i1 i2 : Addr} {fp1 fp2 : List Addr} {n1 n2 : Nat} {P1 P2 : Nat → Value → Prop} {St1 St2 : Nat → Heap → Prop} (S : ZipSep2 z TI TO i1 i2 fp1 fp2)
    (D1 : ∀ A : Around, A.handled = none → Draws prog w A i1 fp1 n1 P1 St1) (D2 : ∀ A : Around, A.handled = none → Draws prog w A i2 fp2 n2 P2 St2) (h1 : ∀ i h, St1 i h → ∀ b ∈ fp1, ∃ o, h.get? b = some o) (h2 : ∀ i h, St2 i h → ∀ b ∈ fp2, ∃ o, h.get? b = some o) (A0 : Around) (hA0 : A0.handled = none) :
    PairArg prog w "zip" z ([z, TI, TO] ++ (fp1 ++ fp2)) [z, TO, i1, i2] (min n1 n2) (fun i k v => P1 i k ∧ P2 i v) (fun h => IsZip h z TI TO .none ∧ IsTupOf2 h TI (.ref i1) (.ref i2) ∧ (∃ a b, IsTupOf2 h TO a b) ∧ St1 0 h ∧ St2 0 h) where
  type := fun s ok => ⟨_, ok.1, rfl⟩
  notDict := by decide
  keep := fun h h' ok k => by
    obtain ⟨hz, hTI, ⟨a, b, hTO⟩, s1, s2⟩ := ok
    exact ⟨k _ _ hz, k _ _ hTI, ⟨a, b, k _ _ hTO⟩, (D1 A0 hA0).frame _ _ _ s1 fun b _ o e => k b o e, (D2 A0 hA0).frame _ _ _ s2 fun b _ o e => k b o e⟩
  there := fun h ok b hb => by
    obtain ⟨hz, hTI, ⟨a, c, hTO⟩, s1, s2⟩ := ok
    rcases List.mem_append.mp hb with hb | hb
    · simp only [List.mem_cons, List.not_mem_nil, or_false] at hb
      rcases hb with e | e | e
      · exact ⟨_, e ▸ hz⟩
      · exact ⟨_, e ▸ hTI⟩
      · exact ⟨_, e ▸ hTO⟩
    · rcases List.mem_append.mp hb with hb | hb
      · exact h1 _ _ s1 b hb
      · exact h2 _ _ s2 b hb
  sub := fun b hb => by
    simp only [List.mem_cons, List.not_mem_nil, or_false] at hb
    rcases hb with e | e | e | e
    · rw [e]; simp
    · rw [e]; simp
    · rw [e]; exact List.mem_append_right _ (List.mem_append_left _ S.mem1)
    · rw [e]; exact List.mem_append_right _ (List.mem_append_right _ S.mem2)
  noKeys := fun A s Q E hA ok h => getAttrOr_miss_zip ok.1 rfl rfl rfl zip_no_keys (by decide +kernel) hA h
  iter := fun A s d Q E hA ok hd hdf h => by
    obtain ⟨hz, hTI, ⟨a, b, hTO⟩, s1, s2⟩ := ok
    have dz : d ≠ z := fun e => hdf (by rw [e]; simp)
    have dTI : d ≠ TI := fun e => hdf (by rw [e]; simp)
    have dTO : d ≠ TO := fun e => hdf (by rw [e]; simp)
    have d1 : d ∉ fp1 := fun e => hdf (List.mem_append_right _ (List.mem_append_left _ e))
    have d2 : d ∉ fp2 := fun e => hdf (List.mem_append_right _ (List.mem_append_right _ e))
    have di1 : d ≠ i1 := fun e => d1 (by rw [e]; exact S.mem1)
    have di2 : d ≠ i2 := fun e => d2 (by rw [e]; exact S.mem2)
    refine wpAny_pyIter_zip hz (h z [z, TO, i1, i2] (fun i h => IsTupOf2 h TI (.ref i1) (.ref i2) ∧ St1 i h ∧ St2 i h ∧
      ((IsZip h z TI TO .none ∧ ∃ a b, IsTupOf2 h TO a b) ∨ ∃ T f oT, IsZipHeld h z TI TO T f ∧ h.get? T = some oT ∧ T ≠ z ∧ T ≠ i1 ∧ T ≠ i2 ∧ T ≠ d)) s.heap s.toks ?_
      ⟨hTI, s1, s2, .inl ⟨hz, a, b, hTO⟩⟩ (fun _ _ e => e) fun b hb => .inl hb)
    exact {
      off := fun hm => by
        simp only [List.mem_cons, List.not_mem_nil, or_false] at hm
        rcases hm with e | e | e | e
        · exact dz e
        · exact dTO e
        · exact di1 e
        · exact di2 e
      frame := fun i ha hb st k => by
        obtain ⟨hTI, s1, s2, hz⟩ := st
        refine ⟨k _ _ (Ne.symm dTI) hTI, (D1 A0 hA0).frame _ _ _ s1 fun b m o e => k b o (fun q => d1 (q ▸ m)) e, (D2 A0 hA0).frame _ _ _ s2 fun b m o e => k b o (fun q => d2 (q ▸ m)) e, ?_⟩
        rcases hz with ⟨hz, a, b, hTO⟩ | ⟨T, f, oT, hz, hT, r1, r2, r3, r4⟩
        · exact .inl ⟨k _ _ (Ne.symm dz) hz, a, b, k _ _ (Ne.symm dTO) hTO⟩
        · exact .inr ⟨T, f, oT, k _ _ (Ne.symm dz) hz, k _ _ r4 hT, r1, r2, r3, r4⟩
      item := fun i sa Qa Ea hi st hds hQ => by
        obtain ⟨hTI, s1, s2, hz⟩ := st
        have l1 : i < n1 := Nat.lt_of_lt_of_le hi (Nat.min_le_left ..)
        have l2 : i < n2 := Nat.lt_of_lt_of_le hi (Nat.min_le_right ..)
        have lt : ∀ {c o}, sa.heap.get? c = some o → sa.heap.objs.size ≠ c := fun e => Nat.ne_of_gt (Heap.lt_size e)
        obtain ⟨o1, e1⟩ := h1 _ _ s1 i1 S.mem1
        obtain ⟨o2, e2⟩ := h2 _ _ s2 i2 S.mem2
        rcases hz with ⟨hz, a, b, hTO⟩ | ⟨T, f, oT, hz, hT, r1, r2, r3, r4⟩
        · refine wpAny_pyNext_zipD2_item S (D1 A.in1 hA) (D2 A.in1 hA) hz hTI hTO s1 s2 l1 l2 fun x y h' tk px py a1 a2 t1 t2 a5 a6 k => ?_
          exact hQ sa.heap.objs.size x y h' tk ⟨px, py⟩ (.inl ⟨_, a5, rfl, _, rfl⟩)
            ⟨k _ _ S.TIz S.TITO S.TIi1 S.TIi2 hTI, t1, t2, .inr ⟨sa.heap.objs.size, false, _, a1, a5, lt hz, lt e1, lt e2, Nat.ne_of_gt hds⟩⟩
            fun c o hc e => k c o (fun x => hc (by simp [x])) (fun x => hc (by simp [x])) (fun x => hc (by simp [x])) (fun x => hc (by simp [x])) e
        · refine next_held S (D1 A.in1 hA) (D2 A.in1 hA) hz hT hTI s1 s2 l1 l2 fun x y h' tk px py a1 t1 t2 a5 a6 k => ?_
          exact hQ sa.heap.objs.size x y h' tk ⟨px, py⟩ (.inl ⟨_, a5, rfl, _, rfl⟩)
            ⟨k _ _ S.TIz S.TIi1 S.TIi2 hTI, t1, t2, .inr ⟨T, true, oT, a1, k _ _ r1 r2 r3 hT, r1, r2, r3, r4⟩⟩
            fun c o hc e => k c o (fun x => hc (by simp [x])) (fun x => hc (by simp [x])) (fun x => hc (by simp [x])) e
      done := fun sa Qa Ea st hQ => by
        obtain ⟨hTI, s1, s2, hz⟩ := st
        have fin : min n1 n2 = n1 ∨ min n1 n2 = n2 := by omega
        rcases hz with ⟨hz, a, b, hTO⟩ | ⟨T, f, oT, hz, hT, r1, r2, r3, r4⟩
        · exact wpAny_pyNext_zipD2_end S (D1 A.in1 hA) (D2 A.in1 hA) hz hTI hTO s1 s2 (Nat.min_le_left ..) (Nat.min_le_right ..) fin fun h' tk k => hQ h' tk fun c o hc e => k c o (fun x => hc (by simp [x])) (fun x => hc (by simp [x])) (fun x => hc (by simp [x])) (fun x => hc (by simp [x])) e
        · exact stop_held S (D1 A.in1 hA) (D2 A.in1 hA) hz hT hTI s1 s2 (Nat.min_le_left ..) (Nat.min_le_right ..) fin fun h' tk k => hQ h' tk fun c o hc e => k c o (fun x => hc (by simp [x])) (fun x => hc (by simp [x])) (fun x => hc (by simp [x])) e }
end Uq

namespace Uq
open PySem PySem.Spec PyProof.Rows L2
/-! ### dict(zip(t, l)), t a tuple of keys, l a list -/
theorem rel_key : ∀ {k : Key} {u : Value}, RelV (kV k) u → keyIs k u = true
  | .inl i, _, ⟨t, e⟩ => by
    rw [e]
    exact keyIs_int i t
  | .inr x, _, ⟨t, e⟩ => by
    rw [e]
    exact keyIs_str x t
theorem kv_zip : ∀ {ks : List Key} {ys : List V} {us : List Value}, Vals ys us → KV (ks.zip ys) (ks.zip us)
  | [], _, _, _ => .nil
  | _ :: _, _, _, .nil => .nil
  | k :: ks, _, _, .cons r rs => .cons ⟨rfl, r⟩ (kv_zip rs)
def tDz (K : PySem.W.Frag) (ta : TA) : TE := fun σ H Q => ta σ H fun vs H1 => ∃ (a b : Addr) (ks : List Key) (ys : List V), vs = [.ref a, .ref b] ∧ SqT K H1 a (ks.map kV) ∧ SqL K H1 b ys ∧ ∀ p, H1 p = none → Q (.ref p) (upd H1 p (.dK (mergeK [] (ks.zip ys))))
theorem ltA {x y : Nat} (h : x < y) : ¬ (show Addr from x) = y := Nat.ne_of_lt h
theorem gtA {x y : Nat} (h : y < x) : ¬ (show Addr from x) = y := Nat.ne_of_gt h
theorem notin2 {x u v : Addr} (h1 : ¬ x = u) (h2 : ¬ x = v) : x ∉ [u, v] := by
  simp only [List.mem_cons, List.not_mem_nil, or_false, not_or]
  exact ⟨h1, h2⟩
theorem apart5 {a b n : Nat} (ha : a < n) (hb : b < n) : ZipSep2 (n + 4) (n + 2) (n + 3) n (n + 1) [n, a] [n + 1, b] where
  TIz := ltA (by omega)
  TOz := ltA (by omega)
  TITO := ltA (by omega)
  TIi1 := gtA (by omega)
  mem1 := List.mem_cons_self
  zf1 := notin2 (gtA (by omega)) (gtA (by omega))
  Tf1 := notin2 (gtA (by omega)) (gtA (by omega))
  TIi2 := gtA (by omega)
  mem2 := List.mem_cons_self
  zf2 := notin2 (gtA (by omega)) (gtA (by omega))
  Tf2 := notin2 (gtA (by omega)) (gtA (by omega))
  sep1_2 := notin2 (ltA (by omega)) (gtA (by omega))
  sep2_1 := notin2 (gtA (by omega)) (gtA (by omega))
theorem pe_dz {X : Cx} {e1 e2 : Expr} {ta : TA} {p1 p2 q1 q2 : Pos} (hc : X.calm = true) (hgd : Gl X "dict") (hmd : X.mg "dict" = none) (hgz : Gl X "zip") (hmz : X.mg "zip" = none) (ha : PA X [e1, e2] ta)
    (hs : starEach [e1, e2] X.env = (false, eval e1 X.env) :: starEach [e2] X.env := by rfl) (hpl : ∀ pos : Pos, (backTo pos (starEach [e2] X.env)).any (·.1) = false := by intro _; rfl) :
    PE X (.Call (.Name "dict" p1) [.Call (.Name "zip" p2) [e1, e2] [] q2] [] q1) (tDz X.K ta) := by
  refine ⟨fun pins s σ H Q I h => ?_⟩
  refine wpAny_Call_Name_kw (ld_blt I hgd hmd boot_dict ?_ (by decide) (by decide))
  refine PyProof.Rows.callWith_type1 ?_ rfl rfl
  refine args_cons ?_ rfl
  refine Call_ (ld_blt I hgz hmz boot_zip (PyProof.Rows.callWith_type1 (thn (ha.run q2 pins s σ H _ I h) ?_) hs (hpl q2)))
  rintro us s1 ⟨vs, H1, I1, r1, a, b, ks, ys, rfl, ht, hl, q⟩
  obtain ⟨u1, u2, rfl, ra, rb⟩ := vals2 r1
  cases (show u1 = Value.ref a from ra)
  cases (show u2 = Value.ref b from rb)
  obtain ⟨its, rv, pt, hz⟩ := I1.tuple ht
  obtain ⟨its2, rv2, pl, hz2⟩ := I1.list hl
  have isT : s1.heap.IsTuple a its.toArray := pt
  have isL := pl.isList
  have la : a < s1.heap.objs.size := by
    obtain ⟨o, e, _⟩ := isT
    exact Heap.lt_size e
  have lb : b < s1.heap.objs.size := by
    obtain ⟨o, e, _⟩ := isL
    exact Heap.lt_size e
  refine zip_begins2 (begins_tuple a its.toArray) (begins_list b its2.toArray) isT isL fun h' hz' hTI hTO g1 g2 hsz hk => ?_
  refine args_nil ?_
  generalize en : s1.heap.objs.size = n at *
  have isT' : h'.IsTuple a its.toArray := isT.at fun o e => hk _ o e
  have isL' : h'.IsList b its2.toArray := isL.at fun o e => hk _ o e
  have P := zip_pairs (prog := X.prog) (w := X.w) (apart5 la lb) (n1 := its.toArray.size) (n2 := its2.toArray.size)
    (fun A hA => Draws.tuple hA n a (Nat.ne_of_lt la) its.toArray) (fun A hA => Draws.list hA (n + 1) b (Nat.ne_of_lt (Nat.lt_succ_of_lt lb)) its2.toArray)
    (fun i h st c hcm => by
      obtain ⟨⟨o, e, _⟩, o2, e2, _⟩ := st
      simp only [List.mem_cons, List.not_mem_nil, or_false] at hcm
      rcases hcm with z | z
      · exact ⟨o, z ▸ e⟩
      · exact ⟨o2, z ▸ e2⟩)
    (fun i h st c hcm => by
      obtain ⟨⟨o, e, _⟩, o2, e2, _⟩ := st
      simp only [List.mem_cons, List.not_mem_nil, or_false] at hcm
      rcases hcm with z | z
      · exact ⟨o, z ▸ e⟩
      · exact ⟨o2, z ▸ e2⟩) X.A (I1.ok.hd hc)
  have lk : ks.length = its.length := by
    have z := rv.length
    rw [List.length_map] at z
    exact z
  have have' : PairsHave (mixKind X.prog X.w) (min its.toArray.size its2.toArray.size) (fun i k v => its.toArray[i]? = some k ∧ its2.toArray[i]? = some v) (ks.zip its2) := by
    refine ⟨by rw [List.length_zip, List.size_toArray, List.size_toArray, lk], fun i key v r => ?_⟩
    obtain ⟨e1, e2⟩ := r
    rw [List.getElem?_toArray] at e1 e2
    have hi : i < ks.length := by
      rw [lk]
      exact (List.getElem?_eq_some_iff.mp e1).1
    have ek : ks[i]? = some ks[i] := List.getElem?_eq_getElem hi
    refine ⟨ks[i], ?_, ?_⟩
    · rw [List.getElem?_zip_eq_some]
      exact ⟨ek, e2⟩
    · have em : (ks.map kV)[i]? = some (kV ks[i]) := by
        rw [List.getElem?_map, ek]
        rfl
      obtain ⟨u, eu, ru⟩ := rv.get em
      rw [e1] at eu
      cases eu
      exact rel_key ru
  have small : min its.toArray.size its2.toArray.size ≤ sizeLine := by
    rw [List.size_toArray, List.size_toArray, ← rv2.length]
    exact Nat.le_trans (Nat.min_le_right ..) hz2
  refine PySem.call_dict_pairs (knd := mixKind X.prog X.w) P (I1.ok.hd hc) ⟨hz', hTI, ⟨_, _, hTO⟩, ⟨⟨_, g1, rfl, rfl⟩, isT'⟩, ⟨⟨_, g2, rfl, rfl⟩, isL'⟩⟩ have' small fun h'' tk hd' k => ?_
  have old : ∀ c o, s1.heap.get? c = some o → h''.get? c = some o := fun c o e => by
    have lc : c < n := en ▸ Heap.lt_size e
    have lc' : (c : Nat) < n := lc
    refine k c o ?_ (hk c o e)
    simp only [List.mem_cons, List.not_mem_nil, or_false, not_or]
    exact ⟨ltA (Nat.lt_of_lt_of_le lc' (Nat.le_add_right _ _)), ltA (Nat.lt_of_lt_of_le lc' (Nat.le_add_right _ _)), ltA lc', ltA (Nat.lt_of_lt_of_le lc' (Nat.le_add_right _ _))⟩
  have big := I1.big
  rw [en] at big
  have below : s1.heap.objs.size ≤ h'.objs.size := by
    rw [en, hsz]
    exact Nat.le_add_right _ _
  have hm : (h'.objs.size == sysModules) = false := by
    rw [hsz]
    exact beq_eq_false_iff_ne.mpr (Nat.ne_of_gt (Nat.lt_of_lt_of_le big (Nat.le_add_right _ _)))
  have rel := kv_zip (ks := ks) rv2
  have hlen : (mergeK [] (ks.zip ys)).length ≤ sizeLine := by
    refine Nat.le_trans (length_mergeK (ks.zip ys) []) ?_
    rw [List.length_nil, Nat.zero_add, List.length_zip]
    exact Nat.le_trans (Nat.min_le_right ..) hz2
  exact ⟨.ref h'.objs.size, _, I1.laid (t' := tk) (a := h'.objs.size) (o := .dK (mergeK [] (ks.zip ys))) old below (show ObjOk X.prog X.w _ _ _ (.dK (mergeK [] (ks.zip ys))) from ⟨hlen, hm, merged [] (ks.zip its2), KV.merge rel .nil, hd'⟩), rfl, q _ (I1.hok.fresh below)⟩
end Uq

namespace Uq
open PySem PySem.Spec PyProof.Rows L2
/-! ### in, not in: data within a tuple of data -/
section
variable {X : Cx}
def rInTp (K : PySem.W.Frag) (neg : Bool) : R2 := fun x y H Q => ∃ d ds, Dp K H x d ∧ Dp K H y (.tuple ds) ∧ SeqAt.shaped d = true ∧ SeqAt.shaped (.tuple ds) = true ∧ Q (.bl (if neg then !(ds.any fun z => PyData.eqv z d) else ds.any fun z => PyData.eqv z d)) H
theorem op_inTp (hu : X.A.units + 65 < cLine) : OpR X (compareOp .In) (rInTp X.K false) := by
  intro pins s σ H x y v u Q I rx ry ⟨d, ds, hd, he, sd, se, q⟩
  obtain ⟨as, r1⟩ := Dp.reads I d x v hd rx
  obtain ⟨bs, r2⟩ := Dp.reads I (.tuple ds) y u he ry
  exact SeqAt.in_tuple_reads r2 r1 (SeqAt.canLay_of_shaped se) (SeqAt.canLay_of_shaped sd) (room_in_shaped sd hu) ⟨.bl _, H, I, rfl, q⟩
theorem op_notInTp (hu : X.A.units + 65 < cLine) : OpR X (compareOp .NotIn) (rInTp X.K true) := by
  intro pins s σ H x y v u Q I rx ry ⟨d, ds, hd, he, sd, se, q⟩
  obtain ⟨as, r1⟩ := Dp.reads I d x v hd rx
  obtain ⟨bs, r2⟩ := Dp.reads I (.tuple ds) y u he ry
  exact SeqAt.notIn_tuple_reads r2 r1 (SeqAt.canLay_of_shaped se) (SeqAt.canLay_of_shaped sd) (room_in_shaped sd hu) ⟨.bl _, H, I, rfl, q⟩
end
/-- a list display: its place is none of the top's -/
theorem pe_lstN {X : Cx} {es : List Expr} {t : TA} {pos : Pos} (h : PA X es t) : PE X (.List es pos) (tLstB t) := by
  constructor
  intro pins s σ H Q I hq
  apply wpAny_List_spliced
  apply thn (h.run pos pins s σ H _ I hq)
  rintro us s1 ⟨xs, H1, I1, r, z, q⟩
  rw [r.length] at z
  refine ⟨z, ?_⟩
  have hf : H1 s1.heap.objs.size = none := I1.hok.fresh (Nat.le_refl _)
  have new : ObjOk X.prog X.w (upd H1 s1.heap.objs.size (.lst xs)) (s1.heap.push { cls := .type "list", data := .seq us.toArray }) s1.heap.objs.size (.lst xs) := ⟨by rw [r.length]; exact z, us, 0, r, Heap.get?_push_size _ rfl⟩
  exact ⟨.ref s1.heap.objs.size, _, I1.laid (t' := s1.toks) (fun b u e => Heap.get?_push_of_some _ e) (Nat.le_refl _) new, rfl, q _ hf (Nat.ne_of_gt I1.big)⟩
end Uq

namespace Uq
open PySem PySem.Spec PyProof.Rows L2
theorem all_rep (k : Nat) : (List.replicate k true).all id = true := by
  rw [List.all_eq_true]
  intro x hx
  exact (List.mem_replicate.mp hx).2
def topS (i : Nat) : Stmt := PySem.Challenge.pw_anyasked_k28_halves_by_hand.main.body.getD i (.Pass ⟨0, 0, 0, 0⟩)
abbrev s_wall : Stmt := topS 1
abbrev N_wall : List Str := ["k"]
theorem sc_wall : FnScope N_wall ["k"] (defScope s_wall) := ⟨rfl, rfl, rfl, by decide +kernel, rfl, by decide +kernel, by decide +kernel⟩
abbrev s_is_integer : Stmt := topS 14
abbrev N_is_integer : List Str := ["value"]
theorem sc_is_integer : FnScope N_is_integer ["value"] (defScope s_is_integer) := ⟨rfl, rfl, rfl, by decide +kernel, rfl, by decide +kernel, by decide +kernel⟩
abbrev s_is_name : Stmt := topS 15
abbrev N_is_name : List Str := ["value"]
theorem sc_is_name : FnScope N_is_name ["value"] (defScope s_is_name) := ⟨rfl, rfl, rfl, by decide +kernel, rfl, by decide +kernel, by decide +kernel⟩
abbrev s_least_terms : Stmt := topS 16
abbrev N_least_terms : List Str := ["over", "under", "common"]
theorem sc_least_terms : FnScope N_least_terms ["over", "under"] (defScope s_least_terms) := ⟨rfl, rfl, rfl, by decide +kernel, rfl, by decide +kernel, by decide +kernel⟩
abbrev s_read_number : Stmt := topS 17
abbrev N_read_number : List Str := ["word", "most", "number"]
theorem sc_read_number : FnScope N_read_number ["word", "most"] (defScope s_read_number) := ⟨rfl, rfl, rfl, by decide +kernel, rfl, by decide +kernel, by decide +kernel⟩
abbrev s_is_units : Stmt := topS 21
abbrev N_is_units : List Str := ["value", "base", "how"]
theorem sc_is_units : FnScope N_is_units ["value"] (defScope s_is_units) := ⟨rfl, rfl, rfl, by decide +kernel, rfl, by decide +kernel, by decide +kernel⟩
abbrev s_is_share : Stmt := topS 22
abbrev N_is_share : List Str := ["units", "value"]
theorem sc_is_share : FnScope N_is_share ["units", "value"] (defScope s_is_share) := ⟨rfl, rfl, rfl, by decide +kernel, rfl, by decide +kernel, by decide +kernel⟩
abbrev s_rounded : Stmt := topS 23
abbrev N_rounded : List Str := ["how", "many", "whole", "below", "rest"]
theorem sc_rounded : FnScope N_rounded ["how", "many", "whole"] (defScope s_rounded) := ⟨rfl, rfl, rfl, by decide +kernel, rfl, by decide +kernel, by decide +kernel⟩
abbrev s_shown : Stmt := topS 24
abbrev N_shown : List Str := ["units", "many", "whole", "base", "how"]
theorem sc_shown : FnScope N_shown ["units", "many", "whole"] (defScope s_shown) := ⟨rfl, rfl, rfl, by decide +kernel, rfl, by decide +kernel, by decide +kernel⟩
abbrev s_is_counts : Stmt := topS 28
abbrev N_is_counts : List Str := ["page", "value", "count"]
theorem sc_is_counts : FnScope N_is_counts ["page", "value"] (defScope s_is_counts) := ⟨rfl, rfl, rfl, by decide +kernel, rfl, by decide +kernel, by decide +kernel⟩
abbrev s_many_in : Stmt := topS 29
abbrev N_many_in : List Str := ["page", "counts", "part", "among", "end", "count"]
theorem sc_many_in : FnScope N_many_in ["page", "counts", "part"] (defScope s_many_in) := ⟨rfl, rfl, rfl, by decide +kernel, rfl, by decide +kernel, by decide +kernel⟩
abbrev s_is_right : Stmt := topS 30
abbrev N_is_right : List Str := ["units", "share", "many", "whole"]
theorem sc_is_right : FnScope N_is_right ["units", "share", "many", "whole"] (defScope s_is_right) := ⟨rfl, rfl, rfl, by decide +kernel, rfl, by decide +kernel, by decide +kernel⟩
abbrev s_way_up : Stmt := topS 37
abbrev N_way_up : List Str := ["lines", "part", "way"]
theorem sc_way_up : FnScope N_way_up ["lines", "part"] (defScope s_way_up) := ⟨rfl, rfl, rfl, by decide +kernel, rfl, by decide +kernel, by decide +kernel⟩
abbrev s_ends_among : Stmt := topS 38
abbrev N_ends_among : List Str := ["lines", "wholes", "line", "part"]
theorem sc_ends_among : FnScope N_ends_among ["lines"] (defScope s_ends_among) := ⟨rfl, rfl, rfl, by decide +kernel, rfl, by decide +kernel, by decide +kernel⟩
abbrev s_read_page : Stmt := topS 39
abbrev N_read_page : List Str := ["text", "rows", "units", "row"]
theorem sc_read_page : FnScope N_read_page ["text"] (defScope s_read_page) := ⟨rfl, rfl, rfl, by decide +kernel, rfl, by decide +kernel, by decide +kernel⟩
abbrev s_read_units : Stmt := topS 40
abbrev N_read_units : List Str := ["words", "units"]
theorem sc_read_units : FnScope N_read_units ["words"] (defScope s_read_units) := ⟨rfl, rfl, rfl, by decide +kernel, rfl, by decide +kernel, by decide +kernel⟩
abbrev s_is_asked : Stmt := topS 41
abbrev N_is_asked : List Str := ["words"]
theorem sc_is_asked : FnScope N_is_asked ["words"] (defScope s_is_asked) := ⟨rfl, rfl, rfl, by decide +kernel, rfl, by decide +kernel, by decide +kernel⟩
abbrev s_read_parts : Stmt := topS 42
abbrev N_read_parts : List Str := ["units", "first", "rows", "lines", "number", "words", "line", "part"]
theorem sc_read_parts : FnScope N_read_parts ["units", "first", "rows"] (defScope s_read_parts) := ⟨rfl, rfl, rfl, by decide +kernel, rfl, by decide +kernel, by decide +kernel⟩
abbrev s_read_part : Stmt := topS 43
abbrev N_read_part : List Str := ["units", "lines", "words", "part", "above", "marks", "shares", "told", "word"]
theorem sc_read_part : FnScope N_read_part ["units", "lines", "words"] (defScope s_read_part) := ⟨rfl, rfl, rfl, by decide +kernel, rfl, by decide +kernel, by decide +kernel⟩
abbrev s_read_share : Stmt := topS 44
abbrev N_read_share : List Str := ["units", "word"]
theorem sc_read_share : FnScope N_read_share ["units", "word"] (defScope s_read_share) := ⟨rfl, rfl, rfl, by decide +kernel, rfl, by decide +kernel, by decide +kernel⟩
abbrev s_is_too_much : Stmt := topS 45
abbrev N_is_too_much : List Str := ["lines", "part"]
theorem sc_is_too_much : FnScope N_is_too_much ["lines", "part"] (defScope s_is_too_much) := ⟨rfl, rfl, rfl, by decide +kernel, rfl, by decide +kernel, by decide +kernel⟩
abbrev s_write_page : Stmt := topS 46
abbrev N_write_page : List Str := ["units", "lines", "base", "how", "rows", "part"]
theorem sc_write_page : FnScope N_write_page ["units", "lines"] (defScope s_write_page) := ⟨rfl, rfl, rfl, by decide +kernel, rfl, by decide +kernel, by decide +kernel⟩
abbrev s_write_line : Stmt := topS 47
abbrev N_write_line : List Str := ["part", "line", "above", "share", "far", "row"]
theorem sc_write_line : FnScope N_write_line ["part", "line"] (defScope s_write_line) := ⟨rfl, rfl, rfl, by decide +kernel, rfl, by decide +kernel, by decide +kernel⟩
abbrev s_law_pot : Stmt := topS 49
abbrev N_law_pot : List Str := ["_law_script", "_law_place", "_law_cell", "_law_own", "_law_small"]
theorem sc_law_pot : FnScope N_law_pot ["_law_script", "_law_place"] (defScope s_law_pot) := ⟨rfl, rfl, rfl, by decide +kernel, rfl, by decide +kernel, by decide +kernel⟩
abbrev s_law_take : Stmt := topS 50
abbrev N_law_take : List Str := ["_law_pot_here", "_law_upto", "_law_digit", "_law_prime", "_law_mixed"]
theorem sc_law_take : FnScope N_law_take ["_law_pot_here", "_law_upto"] (defScope s_law_take) := ⟨rfl, rfl, rfl, by decide +kernel, rfl, by decide +kernel, by decide +kernel⟩
abbrev s_law_of : Stmt := topS 51
abbrev N_law_of : List Str := ["_law_pot_here", "_law_some_here"]
theorem sc_law_of : FnScope N_law_of ["_law_pot_here", "_law_some_here"] (defScope s_law_of) := ⟨rfl, rfl, rfl, by decide +kernel, rfl, by decide +kernel, by decide +kernel⟩
abbrev s_law_some : Stmt := topS 52
abbrev N_law_some : List Str := ["_law_pot_here", "_law_pool", "_law_many", "_law_left", "_law_found", "_law_lap"]
theorem sc_law_some : FnScope N_law_some ["_law_pot_here", "_law_pool", "_law_many"] (defScope s_law_some) := ⟨rfl, rfl, rfl, by decide +kernel, rfl, by decide +kernel, by decide +kernel⟩
abbrev s_law_cells : Stmt := topS 53
abbrev N_law_cells : List Str := ["_law_script", "_law_most"]
theorem sc_law_cells : FnScope N_law_cells ["_law_script", "_law_most"] (defScope s_law_cells) := ⟨rfl, rfl, rfl, by decide +kernel, rfl, by decide +kernel, by decide +kernel⟩
abbrev s_law_names : Stmt := topS 54
abbrev N_law_names : List Str := ["_law_pot_here", "_law_many", "_law_pool"]
theorem sc_law_names : FnScope N_law_names ["_law_pot_here", "_law_many"] (defScope s_law_names) := ⟨rfl, rfl, rfl, by decide +kernel, rfl, by decide +kernel, by decide +kernel⟩
abbrev s_law_fits_due : Stmt := topS 55
abbrev N_law_fits_due : List Str := ["_law_how", "_law_share", "_law_parts", "_law_hops", "_law_side", "_law_place", "_law_low", "_law_high"]
theorem sc_law_fits_due : FnScope N_law_fits_due ["_law_how", "_law_share", "_law_parts", "_law_hops", "_law_side"] (defScope s_law_fits_due) := ⟨rfl, rfl, rfl, by decide +kernel, rfl, by decide +kernel, by decide +kernel⟩
abbrev s_law_share_right : Stmt := topS 56
abbrev N_law_share_right : List Str := ["_law_pot_here", "_law_names_here", "_law_parts", "_law_how", "_law_share", "_law_lines", "_law_page", "_law_size", "_law_about", "_law_hops", "_law_side", "_law_many", "_law_whole", "_law_fits"]
theorem sc_law_share_right : FnScope N_law_share_right ["_law_pot_here", "_law_names_here", "_law_parts", "_law_how", "_law_share"] (defScope s_law_share_right) := ⟨rfl, rfl, rfl, by decide +kernel, rfl, by decide +kernel, by decide +kernel⟩
abbrev s_law_right : Stmt := topS 57
abbrev N_law_right : List Str := ["_law_pot_here", "_law_names_here", "_law_parts", "_law_some_here", "_law_how", "_law_share"]
theorem sc_law_right : FnScope N_law_right ["_law_pot_here"] (defScope s_law_right) := ⟨rfl, rfl, rfl, by decide +kernel, rfl, by decide +kernel, by decide +kernel⟩
abbrev s_law : Stmt := topS 58
abbrev N_law : List Str := ["_law_script", "_law_place"]
theorem sc_law : FnScope N_law ["_law_script"] (defScope s_law) := ⟨rfl, rfl, rfl, by decide +kernel, rfl, by decide +kernel, by decide +kernel⟩

section
variable {P : Program} {w : World} {K : PySem.W.Frag} {mg : Str → Option Value} {base : Heap}
theorem ok_law_take {f : Addr} {fd : FuncData} (F : Fun K "_law_take" "_law_take" s_law_take f fd) (m_int : mg "int" = none) : FnOk P w K mg base CX0 1 f fd ["_law_pot_here", "_law_upto"] (sp_law_take K) := by
  refine F.ok sc_law_take (fun vs H Q E h => ?_) (fun cdv A outer s H vs Q E hr h => ?_)
  · obtain ⟨p, c, u, rfl, _⟩ := h
    rfl
  · refine ⟨_, (pss_cons (ps_if (pt_cmpR op_gt (pe_ix ix_list (pv 0) pe_int (fun _ _ => rfl)) pe_int (nomark _)) (pss_cons (ps_set (i := 2) sc_law_take.nd rfl (.inl rfl) (pe_op op_mod (pe_callTy call_int1 (by rfl) m_int (by decide +kernel) (pa_cons (pe_ix ix_list (pv 0) pe_int (fun _ _ => rfl)) pa_nil)) (pv 1)))
        (pss_cons (ps_asg (pe_op op_fdivW (pe_ix ix_list (pv 0) pe_int (fun _ _ => rfl)) (pv 1)) (pg_sub (pv 0) pe_int set_list))
        (pss_one (ps_ret (pv 2))))) pss_nil)
      (pss_cons (ps_asg (pe_op op_add (pe_ix ix_list (pv 0) pe_int (fun _ _ => rfl)) pe_int) (pg_sub (pv 0) pe_int set_list))
      (pss_cons (ps_set (i := 3) sc_law_take.nd rfl (.inl rfl) (pe_ix ix_list (pe_lst (pa_cons pe_int (pa_cons pe_int (pa_cons pe_int (pa_cons pe_int (pa_cons pe_int pa_nil)))))) (pe_op op_mod (pe_callTy call_int1 (by rfl) m_int (by decide +kernel) (pa_cons (pe_ix ix_list (pv 0) pe_int (fun _ _ => rfl)) pa_nil)) pe_int) (fun _ _ => rfl)))
      (pss_cons (ps_set (i := 4) sc_law_take.nd rfl (.inl rfl) (pe_op op_mod (pe_callTy call_int1 (by rfl) m_int (by decide +kernel) (pa_cons (pe_op op_powW (pe_callTy call_int1 (by rfl) m_int (by decide +kernel) (pa_cons (pe_op op_add (pe_op op_add (pe_ix ix_list (pv 0) pe_int (fun _ _ => rfl)) (pe_op op_mul (pe_op op_mul pe_int (pe_ix ix_list (pv 0) pe_int (fun _ _ => rfl))) (pe_ix ix_list (pv 0) pe_int (fun _ _ => rfl)))) pe_int) pa_nil)) pe_int) pa_nil)) (pv 3)))
      (pss_cons (ps_set (i := 4) sc_law_take.nd rfl (.inl rfl) (pe_op op_mod (pe_callTy call_int1 (by rfl) m_int (by decide +kernel) (pa_cons (pe_op op_mul (pv 4) (pe_op op_add (pe_op op_mod (pe_callTy call_int1 (by rfl) m_int (by decide +kernel) (pa_cons (pv 4) pa_nil)) pe_int) (pe_op op_mul pe_int (pe_ix ix_list (pv 0) pe_int (fun _ _ => rfl))))) pa_nil)) pe_int))
      (pss_one (ps_ret (pe_op op_mod (pe_callTy call_int1 (by rfl) m_int (by decide +kernel) (pa_cons (pe_op op_fdivW (pv 4) pe_int) pa_nil)) (pv 1))))))))), ?_⟩
    obtain ⟨p, c, u, rfl, ⟨o, sd, n, hp, o0, o1, s0, s1, n0, n1⟩, hc, hu, hu2, q⟩ := h
    refine ⟨.ref p, rfl, p, _, 0, .int o, rfl, rfl, SqL.of hp, atI_nat (j := 0) rfl, o, 0, rfl, rfl, _, rfl, ite2 (fun e => ?_) (fun e => ?_)⟩
    · have e0 : 0 < o := of_decide_eq_true e
      -- the digit
      refine ⟨.ref p, rfl, p, _, 0, .int o, rfl, rfl, SqL.of hp, atI_nat (j := 0) rfl, .inl ⟨o, rfl, .int u, rfl, o, u, rfl, rfl, (by show (0 : Int) < u; omega), ?_⟩⟩
      refine ⟨.ref p, rfl, p, _, 0, .int o, rfl, rfl, SqL.of hp, atI_nat (j := 0) rfl, .int u, rfl, o, u, rfl, rfl, wide_div (b := 62) (by omega) (by omega) (by decide) (by decide), ?_⟩
      refine ⟨.ref p, rfl, p, _, 0, 0, rfl, rfl, hp, rfl, ?_⟩
      refine ⟨.int (o % u), rfl, ?_⟩
      refine q _ _ (But.refl _ _).put ⟨o / u, sd, n, upd_same, Int.ediv_nonneg (by omega) (by omega), Int.lt_of_le_of_lt (Int.ediv_le_self _ o0) o1, s0, s1, n0, by omega⟩ (Int.emod_nonneg _ (by omega)) (Int.emod_lt_of_pos _ (by omega))
    · -- the count
      refine ⟨.ref p, rfl, p, _, 2, .int n, rfl, rfl, SqL.of hp, atI_nat (j := 2) rfl, n, 1, rfl, rfl, .ref p, rfl, p, _, 2, 2, rfl, rfl, hp, rfl, ?_⟩
      generalize hG : L2.upd H p _ = G
      have hg : G p = some (.lst [.int o, .int sd, .int (n + 1)]) := by
        rw [← hG]
        exact upd_same
      have hB : But p H G := by
        rw [← hG]
        exact (But.refl _ _).put
      refine ⟨by show 5 ≤ sizeLine; decide, fun l nl => ?_⟩
      have hg2 : (upd G l (.lst [.int 2147483647, .int 2147483629, .int 2147483587, .int 2147483579, .int 2147483563])) p = some (.lst [.int o, .int sd, .int (n + 1)]) := by
        rw [upd_ne (ne_of_none hg nl)]
        exact hg
      have hB2 : But p H (upd G l (.lst [.int 2147483647, .int 2147483629, .int 2147483587, .int 2147483579, .int 2147483563])) := hB.new nl
      refine ⟨.ref p, rfl, p, _, 2, .int (n + 1), rfl, rfl, SqL.of hg2, atI_nat (j := 2) rfl, .inl ⟨n + 1, rfl, n + 1, 5, rfl, rfl, (by show (0 : Int) < 5; decide), ?_⟩⟩
      have hpr : ∃ (k : Nat) (z : Int), (n + 1) % 5 = (k : Int) ∧ [V.int 2147483647, .int 2147483629, .int 2147483587, .int 2147483579, .int 2147483563][k]? = some (.int z) ∧ 1 ≤ z ∧ z < 2147483648 := by
        have a0 : 0 ≤ (n + 1) % 5 := Int.emod_nonneg _ (by decide)
        have a1 : (n + 1) % 5 < 5 := Int.emod_lt_of_pos _ (by decide)
        obtain e | e | e | e | e : (n + 1) % 5 = 0 ∨ (n + 1) % 5 = 1 ∨ (n + 1) % 5 = 2 ∨ (n + 1) % 5 = 3 ∨ (n + 1) % 5 = 4 := by omega
        · exact ⟨0, _, e, rfl, by decide, by decide⟩
        · exact ⟨1, _, e, rfl, by decide, by decide⟩
        · exact ⟨2, _, e, rfl, by decide, by decide⟩
        · exact ⟨3, _, e, rfl, by decide, by decide⟩
        · exact ⟨4, _, e, rfl, by decide, by decide⟩
      obtain ⟨k, z, ek, ez, z1, z2⟩ := hpr
      refine ⟨l, _, _, .int z, rfl, rfl, SqL.of upd_same, at_of ek ez, ?_⟩
      generalize hG2 : L2.upd G l _ = G2 at hg2 hB2 ⊢
      -- the stir
      refine ⟨.ref p, rfl, p, _, 1, .int sd, rfl, rfl, SqL.of hg2, atI_nat (j := 1) rfl, .ref p, rfl, p, _, 2, .int (n + 1), rfl, rfl, SqL.of hg2, atI_nat (j := 2) rfl, _, n + 1, rfl, rfl, .inl ⟨by decide, by decide⟩,
        .ref p, rfl, p, _, 2, .int (n + 1), rfl, rfl, SqL.of hg2, atI_nat (j := 2) rfl, _, n + 1, rfl, rfl, .inl ⟨by omega, by omega⟩, sd, _, rfl, rfl, _, _, rfl, rfl, .inl ⟨_, rfl, ?_⟩⟩
      generalize hx : sd + _ = x
      have hx1 : (x + 61).natAbs < 2 ^ 200 := by
        have h9 : (n + 1) * (n + 1) ≤ 100000 * 100000 := Int.mul_le_mul (by omega) (by omega) (by omega) (by decide)
        have h8 : 0 ≤ (n + 1) * (n + 1) := Int.mul_nonneg (by omega) (by omega)
        have h7 := Int.mul_assoc 110017 (n + 1) (n + 1)
        omega
      refine ⟨_, 3, rfl, rfl, powW_ok (j := 3) hx1 (by decide), .inl ⟨_, rfl, .int z, rfl, _, z, rfl, rfl, (by show (0 : Int) < z; omega), ?_⟩⟩
      dsimp only
      generalize hy : (x + 61) ^ _ % z = y
      have y0 : 0 ≤ y := by
        rw [← hy]
        exact Int.emod_nonneg _ (by omega)
      have y1 : y < z := by
        rw [← hy]
        exact Int.emod_lt_of_pos _ (by omega)
      refine ⟨.int y, rfl, .int y, rfl, .inl ⟨y, rfl, y, _, rfl, rfl, (by show (0 : Int) < 10037; decide), .ref p, rfl, p, _, 2, .int (n + 1), rfl, rfl, SqL.of hg2, atI_nat (j := 2) rfl, _, n + 1, rfl, rfl, .inl ⟨by decide, by decide⟩, _, _, rfl, rfl, y, _, rfl, rfl, .inl ⟨by omega, by omega⟩,
        .inl ⟨_, rfl, _, _, rfl, rfl, (by show (0 : Int) < 2305843009213693907; decide), ?_⟩⟩⟩
      dsimp only
      generalize ht : _ % (2305843009213693907 : Int) = t
      refine ⟨.int t, rfl, t, _, rfl, rfl, wide_div (b := 62) (by decide) (by decide) (by decide) (by decide), .inl ⟨_, rfl, .int u, rfl, _, u, rfl, rfl, (by show (0 : Int) < u; omega), ?_⟩⟩
      exact q _ _ hB2 ⟨o, sd, n + 1, hg2, o0, o1, s0, s1, by omega, by omega⟩ (Int.emod_nonneg _ (by omega)) (Int.emod_lt_of_pos _ (by omega))

theorem ok_law_of {f : Addr} {fd : FuncData} (F : Fun K "_law_of" "_law_of" s_law_of f fd) (m_len : mg "len" = none) (c_law_take : Cal P w K mg base 1 "_law_take" ["_law_pot_here", "_law_upto"] (sp_law_take K)) : FnOk P w K mg base CX0 2 f fd ["_law_pot_here", "_law_some_here"] (sp_law_of K) := by
  refine F.ok sc_law_of (fun vs H Q E h => ?_) (fun cdv A outer s H vs Q E hr h => ?_)
  · obtain ⟨p, l, c, xs, rfl, _⟩ := h
    rfl
  · refine ⟨_, (pss_one (ps_ret (pe_ix ix_list (pv 1) (pe_call c_law_take.G (hr.mono (by decide)) (by rfl) c_law_take.g c_law_take.kp c_law_take.b .nil pass0 (pa_cons (pv 0) (pa_cons (pe_callB call_len_seq (by rfl) m_len (by decide +kernel) (pa_cons (pv 1) pa_nil)) pa_nil))) (fun _ _ => rfl)))), ?_⟩
    obtain ⟨p, l, c, xs, rfl, hp, hc, hlp, hl, h0, h1, q⟩ := h
    refine ⟨.ref l, rfl, .ref p, rfl, .ref l, rfl, l, xs, rfl, .inl hl, p, c, xs.length, rfl, hp, hc, by omega, by omega, fun H' d hB hP d0 d1 => ?_⟩
    have hd : d.toNat < xs.length := by omega
    have ed : d = (d.toNat : Int) := by omega
    exact ⟨l, xs, d, xs[d.toNat], rfl, rfl, hB.seqL hlp hl, at_of ed (List.getElem?_eq_getElem hd), q H' d.toNat _ hB hP (List.getElem?_eq_getElem hd)⟩

theorem ok_law_cells {f : Addr} {fd : FuncData} (F : Fun K "_law_cells" "_law_cells" s_law_cells f fd) (m_range : mg "range" = none) (m_max : mg "max" = none) (m_min : mg "min" = none) (m_len : mg "len" = none) (m_list : mg "list" = none) : FnOk P w K mg base CX0 1 f fd ["_law_script", "_law_most"] (sp_law_cells K) := by
  refine F.ok sc_law_cells (fun vs H Q E h => ?_) (fun cdv A outer s H vs Q E hr h => ?_)
  · obtain ⟨a, ns, m, rfl, _⟩ := h
    rfl
  · refine ⟨_, (pss_one (ps_ret (pe_listRg rfl (by rfl) m_list (prg_1 (by rfl) m_range (pe_callB (call_max2 rfl) (by rfl) m_max (by decide +kernel) (pa_cons pe_int (pa_cons (pe_callB (call_min2 rfl) (by rfl) m_min (by decide +kernel) (pa_cons (pv 1) (pa_cons (pe_callB call_len_seq (by rfl) m_len (by decide +kernel) (pa_cons (pv 0) pa_nil)) pa_nil))) pa_nil))))))), ?_⟩
    obtain ⟨a, ns, m, rfl, hl, hn, hm, hm2, q⟩ := h
    refine ⟨.int m, rfl, .ref a, rfl, a, _, rfl, .inl hl, m, _, rfl, 1, _, rfl, _, rfl, ?_, ?_⟩
    · refine RgOk.of_le (by decide) ?_ (by decide) ?_ <;> (rw [List.length_map]; split <;> split <;> omega)
    · intro l nl
      have ek : ∃ k : Nat, (if (if ((ns.map V.int).length : Int) < m then ((ns.map V.int).length : Int) else m) > 1 then (if ((ns.map V.int).length : Int) < m then ((ns.map V.int).length : Int) else m) else 1) = (k : Int) ∧ 1 ≤ k ∧ k ≤ 63 := by
        rw [List.length_map]
        refine ⟨(if (if (ns.length : Int) < m then (ns.length : Int) else m) > 1 then (if (ns.length : Int) < m then (ns.length : Int) else m) else 1).toNat, ?_, ?_, ?_⟩ <;> (split <;> split <;> omega)
      obtain ⟨k, e1, k1, k2⟩ := ek
      rw [e1]
      exact q _ l k nl (sameU nl) upd_same k1 k2

theorem ok_law_pot {f : Addr} {fd : FuncData} (F : Fun K "_law_pot" "_law_pot" s_law_pot f fd) (m_len : mg "len" = none) (m_int : mg "int" = none) (m_abs : mg "abs" = none) : FnOk P w K mg base CX0 1 f fd ["_law_script", "_law_place"] (sp_law_pot K) := by
  refine F.ok sc_law_pot (fun vs H Q E h => ?_) (fun cdv A outer s H vs Q E hr h => ?_)
  · obtain ⟨a, ns, m, rfl, _⟩ := h
    rfl
  · refine ⟨_, (pss_cons (ps_set (i := 2) sc_law_pot.nd rfl (.inl rfl) (pe_ifExp (pt_cmpR op_lt (pv 1) (pe_callB call_len_seq (by rfl) m_len (by decide +kernel) (pa_cons (pv 0) pa_nil)) (nomark _)) (pe_ix ix_list (pv 0) (pv 1) (fun _ _ => rfl)) (pe_op op_add (pe_op op_mul pe_int (pv 1)) pe_int)))
      (pss_cons (ps_set (i := 3) sc_law_pot.nd rfl (.inl rfl) (pe_op op_mul (pe_op op_mod (pe_callTy call_int1 (by rfl) m_int (by decide +kernel) (pa_cons (pe_callB call_abs (by rfl) m_abs (by decide +kernel) (pa_cons (pv 2) pa_nil)) pa_nil)) (pe_op op_powW (pe_op op_powW pe_int pe_int) pe_int)) (pe_callTy call_int1 (by rfl) m_int (by decide +kernel) (pa_cons (pe_cmpR op_ge (pe_callB call_abs (by rfl) m_abs (by decide +kernel) (pa_cons (pv 2) pa_nil)) (pe_op op_powW pe_int pe_int) (nomark _)) pa_nil))))
      (pss_cons (ps_set (i := 4) sc_law_pot.nd rfl (.inl rfl) (pe_op op_mod (pe_callTy call_int1 (by rfl) m_int (by decide +kernel) (pa_cons (pv 2) pa_nil)) pe_int))
      (pss_one (ps_ret (pe_lst (pa_cons (pv 3) (pa_cons (pe_op op_mod (pe_callTy call_int1 (by rfl) m_int (by decide +kernel) (pa_cons (pe_op op_add (pe_op op_add (pe_op op_mul (pv 4) pe_int) (pe_op op_mul (pe_op op_mul pe_int (pv 1)) (pv 1))) pe_int) pa_nil)) pe_int) (pa_cons pe_int pa_nil))))))))), ?_⟩
    obtain ⟨a, ns, m, rfl, hl, hn, hm, hm2, q⟩ := h
    refine rd_cell hl hm ⟨by decide, by decide⟩ rfl rfl fun z => ?_
    refine ⟨.int z, rfl, z, rfl, .inl ⟨_, rfl, 10, 60, rfl, rfl, bigB, _, 5, rfl, rfl, bigA, _, _, rfl, rfl, big_pos, .int z, rfl, z, rfl, 10, 18, rfl, rfl, bigC, _, _, rfl, rfl, .inr ⟨_, rfl, _, _, rfl, rfl, .inr (b01 _), ?_⟩⟩⟩
    · dsimp only
      have o0 := own_ok (if z < 0 then -z else z) (decide ((10 : Int) ^ (18 : Int).toNat ≤ if z < 0 then -z else z))
      generalize ((if z < 0 then -z else z) % ((10 : Int) ^ (60 : Int).toNat) ^ (5 : Int).toNat) * (if decide ((10 : Int) ^ (18 : Int).toNat ≤ if z < 0 then -z else z) = true then (1 : Int) else 0) = o at o0 ⊢
      refine ⟨.int z, rfl, .inl ⟨z, rfl, z, _, rfl, rfl, (by show (0 : Int) < 2305843009213693951; decide), ?_⟩⟩
      dsimp only
      generalize hz : z % 2305843009213693951 = y
      refine ⟨.int o, rfl, .int y, rfl, y, _, rfl, rfl, .inr ⟨by decide, by decide⟩, .int m, rfl, _, m, rfl, rfl, .inl ⟨by decide, by decide⟩, .int m, rfl, _, m, rfl, rfl, .inr ⟨by omega, by omega⟩, _, _, rfl, rfl, _, _, rfl, rfl, .inl ⟨_, rfl, _, _, rfl, rfl, (by show (0 : Int) < 2305843009213693921; decide), ?_⟩⟩
      refine ⟨by show 3 ≤ sizeLine; decide, fun p np => ?_⟩
      refine q _ p np (sameU np) ⟨o, _, 0, upd_same, o0.1, o0.2, Int.emod_nonneg _ (by decide), ?_, by decide, by decide⟩
      exact Int.lt_trans (Int.emod_lt_of_pos _ (by decide)) (by decide)

theorem ok_law {f : Addr} {fd : FuncData} (F : Fun K "law" "law" s_law f fd) (m_all : mg "all" = none) (c_law_cells : Cal P w K mg base 1 "_law_cells" ["_law_script", "_law_most"] (sp_law_cells K)) (c_law_right : CalG P w K mg base 4 "_law_right" ["_law_pot_here"] (sp_law_right K)) (c_law_pot : Cal P w K mg base 1 "_law_pot" ["_law_script", "_law_place"] (sp_law_pot K)) : FnG P w K mg base 5 f fd ["_law_script"] (sp_law K) := by
  refine Fun_okG F sc_law (fun vs H Q E h => ?_) (fun cdv A outer s H vs Q E hg hr h => ?_)
  · obtain ⟨a, ns, rfl, _⟩ := h
    rfl
  · refine ⟨_, (pss_one (ps_ret (pe_callB (cr_all rfl) (by rfl) m_all (by decide +kernel) (pa_cons (pe_lc (own := [("_law_place", 1)]) (g := gName 1) rfl sc_law.nd (pi_list (pe_call c_law_cells.G (hr.mono (by decide)) (by rfl) c_law_cells.g c_law_cells.kp c_law_cells.b .nil pass0 (pa_cons (pv 0) (pa_cons pe_int pa_nil)))) (blkOk_by (own := [("_law_place", 1)]) (N := N_law) (sc := defScope s_law) (by decide +kernel)) (fun _ _ _ _ _ => (pg_name (i := 1) sc_law.nd rfl (.inl rfl))) (fun _ _ _ _ _ => pts_nil) (fun _ _ _ _ _ => (pe_callG c_law_right.G hg (hr.mono (by decide)) (by rfl) c_law_right.g c_law_right.kp c_law_right.b (pa_cons (pe_call c_law_pot.G (hr.mono (by decide)) (by rfl) c_law_pot.g c_law_pot.kp c_law_pot.b .nil pass0 (pa_cons (pv 0) (pa_cons (pv 1) pa_nil))) pa_nil)))) pa_nil)))), ?_⟩
    obtain ⟨a, ns, rfl, hl, hn, q⟩ := h
    refine ⟨.ref a, rfl, a, ns, 6, rfl, hl, hn, by decide, by decide, fun H1 l k nl sm hk k1 k2 => ?_⟩
    refine ⟨l, rfl, ⟨_, SqL.of hk⟩, fun D nD => ?_⟩
    have nDl : D ≠ l := fun z => by
      rw [z, hk] at nD
      cases nD
    refine lc_list (K := K) (a := l) (xs := rgV 0 (k : Int)) (fun i H' => Same H1 H' ∧ H' D = some (.lst (List.replicate i (.bl true)))) ⟨sameU nD, upd_same⟩ (fun i H' _ hP => sqL_same hP.1 (SqL.of hk)) ?_ ?_
    · intro i x H2 hx hP
      have hi : i < k := by
        have e := (List.getElem?_eq_some_iff.mp hx).1
        rw [rgV_length] at e
        omega
      have ex : x = .int (i : Int) := by
        unfold rgV at hx
        rw [List.getElem?_map, List.getElem?_range (by omega)] at hx
        have e := Option.some.inj hx
        rw [← e]
        show V.int (0 + (i : Int)) = V.int (i : Int)
        rw [Int.zero_add]
      subst ex
      refine ⟨rfl, .ref a, rfl, .int (i : Int), rfl, a, ns, (i : Int), rfl, sqL_same (sm.trans hP.1) hl, hn, by omega, by omega, fun H3 p np sm3 hp => ?_⟩
      refine ⟨p, rfl, hp, fun H4 hB => ?_⟩
      have pD : D ≠ p := ne_of_none hP.2 np
      refine ⟨List.replicate i (.bl true), hB _ _ pD (sm3 _ _ hP.2), ?_, ?_, ?_⟩
      · rw [List.length_replicate]
        exact small1000 (by omega)
      · intro b o e
        have nb : b ≠ D := ne_of_none e nD
        have nbp : b ≠ p := ne_of_none (hP.1 b o e) np
        rw [upd_ne nb]
        exact hB b o nbp (sm3 b o (hP.1 b o e))
      · rw [upd_same, List.replicate_succ']
    · intro H2 hP
      rw [rgV_length] at hP
      have hD := hP.2
      refine ⟨D, List.replicate ((k : Int) - 0).toNat true, rfl, SqL.of (by rw [hD, List.map_replicate]), ?_⟩
      rw [all_rep]
      exact q _
end
end Uq

namespace Uq
open PySem PySem.Spec PyProof.Rows L2

/-! ### units -/
def How (h : Str) : Prop := h = "near" ∨ h = "even" ∨ h = "down" ∨ h = "up"
def Un (K : PySem.W.Frag) (H : Hp) (u : Addr) (b : Int) (h : Str) : Prop := SqT K H u [.int b, .str h] ∧ 2 ≤ b ∧ b ≤ 100 ∧ How h
theorem Un.same {K : PySem.W.Frag} {H H' : Hp} {u : Addr} {b : Int} {h : Str} (e : Same H H') (x : Un K H u b h) : Un K H' u b h := ⟨sqT_same e x.1, x.2⟩
theorem Un.but {K : PySem.W.Frag} {H H' : Hp} {p u : Addr} {b : Int} {h : Str} (e : But p H H') (n : u ≠ p) (x : Un K H u b h) : Un K H' u b h := ⟨e.seqT n x.1, x.2⟩
/-- a tuple of the module's own -/
def TupK (K : PySem.W.Frag) (a : Addr) (xs : List V) : Prop := ∃ (o : Obj) (its : Array Value) (n : Nat), K.lookup a = some o ∧ o.cls = .type "tuple" ∧ o.data = .seq its n ∧ its.size ≤ sizeLine ∧ Vals xs its.toList
def hows : List V := [.str "near", .str "even", .str "down", .str "up"]
theorem in_hows {h : Str} (x : How h) : inV (.str h) hows = true := by
  rcases x with rfl | rfl | rfl | rfl <;> decide +kernel
theorem ty_tup {K : PySem.W.Frag} {H : Hp} {a : Addr} {xs : List V} (h : SqT K H a xs) : TyX K H (.ref a) (.type "tuple") := by
  rcases h with (h | ⟨o, h⟩) | ⟨o, its, n, h, hc, _⟩
  · exact .base (.tup h)
  · exact .fTuple h
  · exact .kTuple h hc
def sp_is_integer (K : PySem.W.Frag) : Sp := fun vs H Q _ => ∃ i : Int, vs = [.int i] ∧ Q (.bl true) H
def sp_is_units (K : PySem.W.Frag) : Sp := fun vs H Q _ => ∃ (u : Addr) (b : Int) (h : Str), vs = [.ref u] ∧ Un K H u b h ∧ Q (.bl true) H
/-- many / whole rounded -/
def rnd (h : Str) (a b : Int) : Int := if h = "down" ∨ a % b = 0 then a / b else if h = "up" ∨ b < 2 * (a % b) then a / b + 1 else if 2 * (a % b) < b then a / b else if h = "near" then a / b + 1 else a / b + a / b % 2
def sp_rounded (K : PySem.W.Frag) : Sp := fun vs H Q _ => ∃ (h : Str) (a b : Int), vs = [.str h, .int a, .int b] ∧ 0 < b ∧ b < 2 ^ 62 ∧ ∀ H', Same H H' → Q (.int (rnd h a b)) H'
def sp_shown (K : PySem.W.Frag) : Sp := fun vs H Q _ => ∃ (u : Addr) (b : Int) (h : Str) (a c : Int), vs = [.ref u, .int a, .int c] ∧ Un K H u b h ∧ 0 < c ∧ c < 2 ^ 62 ∧ 0 ≤ a ∧ a ≤ c ∧ ∀ H', Same H H' → Q (.int (rnd h (b * a) c)) H'
def sp_law_rounded (K : PySem.W.Frag) : Sp := fun vs H Q _ => ∃ (h : Str) (a b : Int), vs = [.str h, .int a, .int b] ∧ How h ∧ 0 < b ∧ b < 2 ^ 62 ∧ Q (.int (rnd h a b)) H
/-- drawn units -/
def sp_law_units (K : PySem.W.Frag) : Sp := fun vs H Q _ => ∃ (p : Addr) (c : Nat) (m : Int), vs = [.ref p, .int m] ∧ Pot H p c ∧ c < 90000 ∧ 2 ≤ m ∧ m ≤ 100 ∧
  ∀ H' u b h, H p ≠ none → But p H H' → Pot H' p (c + 2) → H u = none → u ≠ p → Un K H' u b h → b ≤ m → H' u = some (.tup [.int b, .str h]) → Q (.ref u) H'
theorem str_of {h x : Str} (e : decide (V.str h = V.str x) = true) : h = x := V.str.inj (of_decide_eq_true e)
theorem str_not {h x : Str} (e : ¬ decide (V.str h = V.str x) = true) : h ≠ x := fun z => e (decide_eq_true (by rw [z]))
theorem int_of {i j : Int} (e : decide (V.int i = V.int j) = true) : i = j := V.int.inj (of_decide_eq_true e)
theorem int_not {i j : Int} (e : ¬ decide (V.int i = V.int j) = true) : i ≠ j := fun z => e (decide_eq_true (by rw [z]))
theorem no_pylong {a b : Int} (h : 0 < b) (h2 : b < 2 ^ 62) : CDivP a b := ⟨h, PyProof.noPylong_of_log2 (Nat.lt_of_lt_of_le (PySem.Flt.log2_lt_of (show 0 < 62 by decide) (show b.natAbs < 2 ^ 62 by omega)) (by decide))⟩
section
variable {P : Program} {w : World} {K : PySem.W.Frag} {mg : Str → Option Value} {base : Heap}
theorem ok_is_integer {f : Addr} {fd : FuncData} (F : Fun K "is_integer" "is_integer" s_is_integer f fd) (m_isinstance : mg "isinstance" = none) (m_int : mg "int" = none) (m_bool : mg "bool" = none) : FnOk P w K mg base CX0 1 f fd ["value"] (sp_is_integer K) := by
  refine F.ok sc_is_integer (fun vs H Q E h => ?_) (fun cdv A outer s H vs Q E hr h => ?_)
  · obtain ⟨i, rfl, _⟩ := h
    rfl
  · refine ⟨_, (pss_one (ps_ret (pe_and (pe_callB call_isi (by rfl) m_isinstance (by decide +kernel) (pa_cons (pv 0) (pa_cons (pe_bltn (v := .ty "int") (by rfl) m_int (by decide +kernel) rfl) pa_nil))) (pe_one (pe_not (pe_callB call_isi (by rfl) m_isinstance (by decide +kernel) (pa_cons (pv 0) (pa_cons (pe_bltn (v := .ty "bool") (by rfl) m_bool (by decide +kernel) rfl) pa_nil)))))))), ?_⟩
    obtain ⟨i, rfl, q⟩ := h
    exact ⟨.int i, rfl, .int i, .ty "int", _, _, true, rfl, .ty "int", .base (.int i), kit_ty (by decide +kernel), true, rfl, .int i, rfl, .int i, .ty "bool", _, _, false, rfl, .ty "bool", .base (.int i), kit_ty (by decide +kernel), false, rfl, q⟩

theorem ok_is_units {f : Addr} {fd : FuncData} (F : Fun K "is_units" "is_units" s_is_units f fd) (m_isinstance : mg "isinstance" = none) (m_tuple : mg "tuple" = none) (m_len : mg "len" = none) (m_str : mg "str" = none) {a_HOWS : Addr} (g_HOWS : mg "HOWS" = some (.ref a_HOWS)) (t_HOWS : TupK K a_HOWS hows) (c_is_integer : Cal P w K mg base 1 "is_integer" ["value"] (sp_is_integer K)) : FnOk P w K mg base CX0 2 f fd ["value"] (sp_is_units K) := by
  refine F.ok sc_is_units (fun vs H Q E h => ?_) (fun cdv A outer s H vs Q E hr h => ?_)
  · obtain ⟨u, b, h, rfl, _⟩ := h
    rfl
  · refine ⟨_, (pss_cons (ps_if (PW.pt (pw_or (pt_not (pt_val (pe_callB call_isi (by rfl) m_isinstance (by decide +kernel) (pa_cons (pv 0) (pa_cons (pe_bltn (v := .ty "tuple") (by rfl) m_tuple (by decide +kernel) rfl) pa_nil))))) (pw_or1 (pt_cmpR op_ne (pe_callB call_len_seq (by rfl) m_len (by decide +kernel) (pa_cons (pv 0) pa_nil)) pe_int (nomark _))))) (pss_one (ps_ret pe_bl)) pss_nil)
      (pss_cons (ps_asg (pv 0) (pg_tup rfl (pgs_cons (pg_name (i := 1) sc_is_units.nd rfl (.inl rfl)) (pgs_cons (pg_name (i := 2) sc_is_units.nd rfl (.inl rfl)) pgs_nil))))
      (pss_cons (ps_if (PW.pt (pw_or (pt_not (pt_val (pe_call c_is_integer.G (hr.mono (by decide)) (by rfl) c_is_integer.g c_is_integer.kp c_is_integer.b .nil pass0 (pa_cons (pv 1) pa_nil)))) (pw_or1 (pt_not (pt_val (pe_callB call_isi (by rfl) m_isinstance (by decide +kernel) (pa_cons (pv 2) (pa_cons (pe_bltn (v := .ty "str") (by rfl) m_str (by decide +kernel) rfl) pa_nil)))))))) (pss_one (ps_ret pe_bl)) pss_nil)
      (pss_one (ps_ret (pe_and (pe_chain op_le op_le pe_int (pv 1) pe_int) (pe_one (pe_cmpR op_in_seq (pv 2) (pe_glob (v := .ref a_HOWS) (by rfl) g_HOWS rfl) rfl)))))))), ?_⟩
    obtain ⟨u, b, h, rfl, ⟨hu, b0, b1, hh⟩, q⟩ := h
    refine ⟨.ref u, rfl, .ref u, .ty "tuple", _, _, true, rfl, .ty "tuple", ty_tup hu, kit_ty (by decide +kernel), true, rfl, ?_⟩
    refine iteF ⟨.ref u, rfl, u, _, rfl, .inr hu, rfl, _, rfl, iteF ?_⟩
    refine ⟨.ref u, rfl, u, _, rfl, hu, rfl, _, _, rfl, _, _, rfl, rfl, ?_⟩
    refine ⟨.int b, rfl, b, rfl, true, rfl, iteF ⟨.str h, rfl, .str h, .ty "str", _, _, true, rfl, .ty "str", .base (.str h), kit_ty (by decide +kernel), true, rfl, iteF ?_⟩⟩
    refine ⟨.int b, rfl, 2, b, rfl, rfl, _, rfl, iteDY b0 ?_⟩
    refine ⟨b, 100, rfl, rfl, _, rfl, iteDY b1 ?_⟩
    refine ⟨.str h, rfl, a_HOWS, hows, rfl, .inr (.inr t_HOWS), rfl, by decide +kernel, ?_⟩
    rw [in_hows hh]
    exact q

end
end Uq

namespace Uq
open PySem PySem.Spec PyProof.Rows L2

/-! ### numbers and names as words -/
def nS (n : Nat) : Str := Str.ofString (toString (n : Int))
theorem num_facts : ∀ n : Nat, n < 101 → Txt.isdecimal (nS n) = true ∧ PySem.intText? (nS n) = some (n : Int) ∧ (nS n).length = (if n < 10 then 1 else if n < 100 then 2 else 3) ∧ nS n ≠ Str.ofString "none" ∧ nS n ≠ Str.ofString "some" := by decide +kernel
theorem num_len {n m : Nat} (h : n ≤ m) (hm : m < 101) : (nS n).length ≤ (nS m).length := by
  rw [(num_facts n (by omega)).2.2.1, (num_facts m hm).2.2.1]
  repeat' split
  all_goals omega
theorem small_log {n : Nat} (h : n < 101) : (n : Int).natAbs.log2 < 1920 := by
  have e : ∀ n : Nat, n < 101 → (n : Int).natAbs.log2 < 1920 := by decide +kernel
  exact e n h
structure Nm (x : Str) : Prop where
  low : 1 ≤ x.length
  up : x.length ≤ 8
  asc : Txt.isascii x = true
  alp : Txt.isalpha x = true
  lwr : Txt.islower x = true
/-- a share as it is told by units b -/
inductive Shw (b : Nat) : V → Str → Prop
  | none : Shw b (.str "none") "none"
  | some : Shw b (.str "some") "some"
  | num (n : Nat) (h : n ≤ b) : Shw b (.int n) (nS n)
def wordsV : List V := [.str "none", .str "some"]
def sp_read_number (K : PySem.W.Frag) : Sp := fun vs H Q _ => ∃ n m : Nat, vs = [.str (nS n), .int m] ∧ n ≤ m ∧ m ≤ 100 ∧ Q (.int n) H
def sp_is_name (K : PySem.W.Frag) : Sp := fun vs H Q _ => ∃ x : Str, vs = [.str x] ∧ Nm x ∧ Q (.bl true) H
def sp_read_share (K : PySem.W.Frag) : Sp := fun vs H Q _ => ∃ (u : Addr) (b : Nat) (h w : Str) (v : V), vs = [.ref u, .str w] ∧ Un K H u b h ∧ Shw b v w ∧ Q v H
def sp_read_units (K : PySem.W.Frag) : Sp := fun vs H Q _ => ∃ (l : Addr) (b : Nat) (h : Str), vs = [.ref l] ∧ SqL K H l [.str "in", .str (nS b), .str h] ∧ 2 ≤ b ∧ b ≤ 100 ∧ How h ∧ ∀ H' u, Same H H' → H u = none → H' u = some (.tup [.int b, .str h]) → Q (.ref u) H'
def sp_is_asked (K : PySem.W.Frag) : Sp := fun vs H Q _ => ∃ (l : Addr) (x : Str), vs = [.ref l] ∧ SqL K H l [.str "asked", .str x] ∧ Nm x ∧ Q (.bl true) H
section
variable {P : Program} {w : World} {K : PySem.W.Frag} {mg : Str → Option Value} {base : Heap}
theorem ok_is_name {f : Addr} {fd : FuncData} (F : Fun K "is_name" "is_name" s_is_name f fd) (m_isinstance : mg "isinstance" = none) (m_str : mg "str" = none) (m_len : mg "len" = none) : FnOk P w K mg base CX0 1 f fd ["value"] (sp_is_name K) := by
  refine F.ok sc_is_name (fun vs H Q E h => ?_) (fun cdv A outer s H vs Q E hr h => ?_)
  · obtain ⟨x, rfl, _⟩ := h
    rfl
  · refine ⟨_, (pss_cons (ps_if (PW.pt (pw_or (pt_not (pt_val (pe_callB call_isi (by rfl) m_isinstance (by decide +kernel) (pa_cons (pv 0) (pa_cons (pe_bltn (v := .ty "str") (by rfl) m_str (by decide +kernel) rfl) pa_nil))))) (pw_or1 (pt_not (pt_chain op_le op_le pe_int (pe_callB call_len_str (by rfl) m_len (by decide +kernel) (pa_cons (pv 0) pa_nil)) pe_int))))) (pss_one (ps_ret pe_bl)) pss_nil)
      (pss_one (ps_ret (pe_and (pe_bm0 PySem.F.plainAttrs_str PySem.F.slot_str_isascii PySem.F.type_str_isascii mt_isascii (pv 0)) (pe_and (pe_bm0 PySem.F.plainAttrs_str PySem.F.slot_str_isalpha PySem.F.type_str_isalpha mt_isalpha (pv 0)) (pe_one (pe_bm0 PySem.F.plainAttrs_str PySem.F.slot_str_islower PySem.F.type_str_islower mt_islower (pv 0)))))))), ?_⟩
    obtain ⟨x, rfl, ⟨h1, h2, h3, h4, h5⟩, q⟩ := h
    have z : x.length ≤ sizeLine := Nat.le_trans h2 (by decide)
    refine ⟨.str x, rfl, .str x, .ty "str", _, _, true, rfl, .ty "str", .base (.str x), kit_ty (by decide +kernel), true, rfl, iteF ?_⟩
    refine ⟨.str x, rfl, x, rfl, z, 1, _, rfl, rfl, _, rfl, iteDY (by omega) ⟨_, 8, rfl, rfl, _, rfl, ?_⟩⟩
    rw [decide_eq_true (show ((x.length : Nat) : Int) ≤ 8 by omega)]
    refine iteF ⟨.str x, rfl, rfl, x, rfl, rfl, trivial, _, rfl, ?_⟩
    rw [h3]
    refine iteT ⟨.str x, rfl, rfl, x, rfl, rfl, trivial, _, rfl, ?_⟩
    rw [h4]
    refine iteT ⟨.str x, rfl, rfl, x, rfl, rfl, trivial, ?_⟩
    rw [h5]
    exact q

theorem ok_read_number {f : Addr} {fd : FuncData} (F : Fun K "read_number" "read_number" s_read_number f fd) (m_len : mg "len" = none) (m_str : mg "str" = none) (m_int : mg "int" = none) : FnOk P w K mg base CX0 1 f fd ["word", "most"] (sp_read_number K) := by
  refine F.ok sc_read_number (fun vs H Q E h => ?_) (fun cdv A outer s H vs Q E hr h => ?_)
  · obtain ⟨n, m, rfl, _⟩ := h
    rfl
  · refine ⟨_, (pss_cons (ps_if (PW.pt (pw_or (pt_not (pt_val (pe_bm0 PySem.F.plainAttrs_str PySem.F.slot_str_isdecimal PySem.F.type_str_isdecimal mt_isdecimal (pv 0)))) (pw_or1 (pt_cmpR op_gt (pe_callB call_len_str (by rfl) m_len (by decide +kernel) (pa_cons (pv 0) pa_nil)) (pe_callB call_len_str (by rfl) m_len (by decide +kernel) (pa_cons (pe_callTy call_str_int (by rfl) m_str (by decide +kernel) (pa_cons (pv 1) pa_nil)) pa_nil)) (nomark _))))) (pss_one (ps_ret pe_non)) pss_nil)
      (pss_cons (ps_set (i := 2) sc_read_number.nd rfl (.inl rfl) (pe_callTy call_int_str (by rfl) m_int (by decide +kernel) (pa_cons (pv 0) pa_nil)))
      (pss_cons (ps_if (PW.pt (pw_or (pt_cmpR op_ne (pe_callTy call_str_int (by rfl) m_str (by decide +kernel) (pa_cons (pv 2) pa_nil)) (pv 0) (nomark _)) (pw_or1 (pt_cmpR op_gt (pv 2) (pv 1) (nomark _))))) (pss_one (ps_ret pe_non)) pss_nil)
      (pss_one (ps_ret (pv 2)))))), ?_⟩
    obtain ⟨n, m, rfl, hn, hm, q⟩ := h
    obtain ⟨f1, f2, f3, _⟩ := num_facts n (by omega)
    have fl := num_len hn (show m < 101 by omega)
    have f3m := (num_facts m (by omega)).2.2.1
    have zn : (nS n).length ≤ 3 := by
      rw [f3]
      split <;> (try split) <;> omega
    have zm : (nS m).length ≤ 3 := by
      rw [f3m]
      split <;> (try split) <;> omega
    refine ⟨.str (nS n), rfl, rfl, nS n, rfl, rfl, trivial, _, rfl, ?_⟩
    rw [f1]
    refine iteF ⟨.str (nS n), rfl, nS n, rfl, Nat.le_trans zn (by decide), .int m, rfl, m, rfl, small_log (by omega), nS m, rfl, Nat.le_trans zm (by decide), _, _, rfl, rfl, _, rfl, ?_⟩
    refine iteDN (by omega) ?_
    refine ⟨.str (nS n), rfl, nS n, n, rfl, f2, Nat.le_trans zn (by decide), ?_⟩
    refine ⟨.int n, rfl, n, rfl, small_log (by omega), .str (nS n), rfl, rfl, _, rfl, ?_⟩
    rw [show decide (V.str (Str.ofString (toString (n : Int))) = V.str (nS n)) = true from decide_eq_true rfl]
    refine iteF ⟨.int n, rfl, .int m, rfl, _, _, rfl, rfl, _, rfl, iteDN (by omega) ?_⟩
    exact ⟨.int n, rfl, q⟩

theorem ok_read_share {f : Addr} {fd : FuncData} (F : Fun K "read_share" "read_share" s_read_share f fd) {a_WORDS : Addr} (g_WORDS : mg "WORDS" = some (.ref a_WORDS)) (t_WORDS : TupK K a_WORDS wordsV) (c_read_number : Cal P w K mg base 1 "read_number" ["word", "most"] (sp_read_number K)) : FnOk P w K mg base CX0 2 f fd ["units", "word"] (sp_read_share K) := by
  refine F.ok sc_read_share (fun vs H Q E h => ?_) (fun cdv A outer s H vs Q E hr h => ?_)
  · obtain ⟨u, b, h, w, v, rfl, _⟩ := h
    rfl
  · refine ⟨_, (pss_cons (ps_if (pt_cmpR op_in_seq (pv 1) (pe_glob (v := .ref a_WORDS) (by rfl) g_WORDS rfl) rfl) (pss_one (ps_ret (pv 1))) pss_nil)
      (pss_one (ps_ret (pe_call c_read_number.G (hr.mono (by decide)) (by rfl) c_read_number.g c_read_number.kp c_read_number.b .nil pass0 (pa_cons (pv 1) (pa_cons (pe_ix ix_tup (pv 0) pe_int (fun _ _ => rfl)) pa_nil)))))), ?_⟩
    obtain ⟨u, b, h, w, v, rfl, hu, hs, q⟩ := h
    have hb : b ≤ 100 := by
      have z := hu.2.2.1
      omega
    refine ⟨.str w, rfl, a_WORDS, wordsV, rfl, .inr (.inr t_WORDS), rfl, rfl, _, rfl, ?_⟩
    cases hs with
    | none => exact iteT ⟨.str "none", rfl, q⟩
    | some => exact iteT ⟨.str "some", rfl, q⟩
    | num n hn =>
      obtain ⟨_, _, _, f4, f5⟩ := num_facts n (by omega)
      have e : inV (.str (nS n)) wordsV = false := by
        show ((Str.ofString "none" == nS n) || ((Str.ofString "some" == nS n) || false)) = false
        rw [beq_eq_false_iff_ne.mpr (Ne.symm f4), beq_eq_false_iff_ne.mpr (Ne.symm f5)]
        rfl
      show (if (if false = true then !inV (.str (nS n)) wordsV else inV (.str (nS n)) wordsV) = true then _ else _)
      rw [if_neg Bool.false_ne_true, e]
      refine iteF ⟨.str (nS n), rfl, .ref u, rfl, u, _, 0, .int b, rfl, rfl, hu.1, atI_nat (j := 0) rfl, n, b, rfl, hn, hb, q⟩

theorem ok_read_units {f : Addr} {fd : FuncData} (F : Fun K "read_units" "read_units" s_read_units f fd) (m_len : mg "len" = none) (c_read_number : Cal P w K mg base 1 "read_number" ["word", "most"] (sp_read_number K)) (c_is_units : Cal P w K mg base 2 "is_units" ["value"] (sp_is_units K)) : FnOk P w K mg base CX0 3 f fd ["words"] (sp_read_units K) := by
  refine F.ok sc_read_units (fun vs H Q E h => ?_) (fun cdv A outer s H vs Q E hr h => ?_)
  · obtain ⟨l, b, h, rfl, _⟩ := h
    rfl
  · refine ⟨_, (pss_cons (ps_if (PW.pt (pw_or (pt_cmpR op_ne (pe_callB call_len_seq (by rfl) m_len (by decide +kernel) (pa_cons (pv 0) pa_nil)) pe_int (nomark _)) (pw_or1 (pt_cmpR op_ne (pe_ix ix_list (pv 0) pe_int (fun _ _ => rfl)) pe_str (nomark _))))) (pss_one (ps_ret pe_non)) pss_nil)
      (pss_cons (ps_set (i := 1) sc_read_units.nd rfl (.inl rfl) (pe_tup (pa_cons (pe_call c_read_number.G (hr.mono (by decide)) (by rfl) c_read_number.g c_read_number.kp c_read_number.b .nil pass0 (pa_cons (pe_ix ix_list (pv 0) pe_int (fun _ _ => rfl)) (pa_cons pe_int pa_nil))) (pa_cons (pe_ix ix_list (pv 0) pe_int (fun _ _ => rfl)) pa_nil))))
      (pss_cons (ps_if (pt_not (pt_val (pe_call c_is_units.G (hr.mono (by decide)) (by rfl) c_is_units.g c_is_units.kp c_is_units.b .nil pass0 (pa_cons (pv 1) pa_nil)))) (pss_one (ps_ret pe_non)) pss_nil)
      (pss_one (ps_ret (pv 1)))))), ?_⟩
    obtain ⟨l, b, h, rfl, hl, b1, b2, hh, q⟩ := h
    refine ⟨.ref l, rfl, l, _, rfl, .inl hl, rfl, _, rfl, iteF ?_⟩
    refine ⟨.ref l, rfl, l, _, 0, .str "in", rfl, rfl, hl, atI_nat (j := 0) rfl, rfl, _, rfl, iteF ?_⟩
    refine ⟨.ref l, rfl, l, _, 1, .str (nS b), rfl, rfl, hl, atI_nat (j := 1) rfl, b, 100, rfl, b2, by decide, .ref l, rfl, l, _, 2, .str h, rfl, rfl, hl, atI_nat (j := 2) rfl, by show 2 ≤ sizeLine; decide, fun u nu => ?_⟩
    refine ⟨.ref u, rfl, u, b, h, rfl, ⟨SqT.of upd_same, by omega, by omega, hh⟩, _, rfl, iteF ?_⟩
    exact ⟨.ref u, rfl, q _ u (sameU nu) nu upd_same⟩

theorem ok_is_asked {f : Addr} {fd : FuncData} (F : Fun K "is_asked" "is_asked" s_is_asked f fd) (m_len : mg "len" = none) (c_is_name : Cal P w K mg base 1 "is_name" ["value"] (sp_is_name K)) : FnOk P w K mg base CX0 2 f fd ["words"] (sp_is_asked K) := by
  refine F.ok sc_is_asked (fun vs H Q E h => ?_) (fun cdv A outer s H vs Q E hr h => ?_)
  · obtain ⟨l, x, rfl, _⟩ := h
    rfl
  · refine ⟨_, (pss_one (ps_ret (pe_and (pe_cmpR op_eq (pe_callB call_len_seq (by rfl) m_len (by decide +kernel) (pa_cons (pv 0) pa_nil)) pe_int (nomark _)) (pe_and (pe_cmpR op_eq (pe_ix ix_list (pv 0) pe_int (fun _ _ => rfl)) pe_str (nomark _)) (pe_one (pe_call c_is_name.G (hr.mono (by decide)) (by rfl) c_is_name.g c_is_name.kp c_is_name.b .nil pass0 (pa_cons (pe_ix ix_list (pv 0) pe_int (fun _ _ => rfl)) pa_nil))))))), ?_⟩
    obtain ⟨l, x, rfl, hl, hx, q⟩ := h
    refine ⟨.ref l, rfl, l, _, rfl, .inl hl, rfl, _, rfl, iteT ?_⟩
    refine ⟨.ref l, rfl, l, _, 0, .str "asked", rfl, rfl, hl, atI_nat (j := 0) rfl, rfl, _, rfl, iteT ?_⟩
    exact ⟨.ref l, rfl, l, _, 1, .str x, rfl, rfl, hl, atI_nat (j := 1) rfl, x, rfl, hx, q⟩
end
end Uq

namespace Uq
open PySem PySem.Spec PyProof.Rows L2
/-! ### data beside the pot -/
/-- all that is tracked but at p -/
def off (p : Addr) (H : Hp) : Hp := fun b => if b = p then none else H b
theorem off_ne {p b : Addr} {H : Hp} (h : b ≠ p) : off p H b = H b := if_neg h
theorem off_same {p : Addr} {H : Hp} : off p H p = none := if_pos rfl
theorem off_sub {p : Addr} {H : Hp} : Same (off p H) H := fun b o e => by
  by_cases z : b = p
  · rw [z, off_same] at e
    cases e
  · rw [off_ne z] at e
    exact e
theorem But.off {p : Addr} {H H' : Hp} (e : But p H H') : Same (off p H) (off p H') := fun b o h => by
  by_cases z : b = p
  · rw [z, off_same] at h
    cases h
  · rw [off_ne z] at h ⊢
    exact e b o z h
theorem DxAll.length {K : PySem.W.Frag} {H : Hp} : ∀ {ds : List PyData} {vs : List V}, DxAll K H vs ds → vs.length = ds.length
  | _, _, .nil => rfl
  | _, _, .cons _ h => congrArg (· + 1) (DxAll.length h)
theorem DxAll.append {K : PySem.W.Frag} {H : Hp} {es : List PyData} {us : List V} (g : DxAll K H us es) : ∀ {ds : List PyData} {vs : List V}, DxAll K H vs ds → DxAll K H (vs ++ us) (ds ++ es)
  | _, _, .nil => g
  | _, _, .cons a h => .cons a (DxAll.append g h)
theorem DxAll.at {K : PySem.W.Frag} {H : Hp} : ∀ {ds : List PyData} {vs : List V} {i : Nat} {v : V}, DxAll K H vs ds → vs[i]? = some v → ∃ d, d ∈ ds ∧ Dx K H v d
  | _, _, i, _, .nil, e => by simp at e
  | _, _, 0, _, .cons a h, e => by
    cases Option.some.inj e
    exact ⟨_, List.mem_cons_self, a⟩
  | _, _, i + 1, _, .cons a h, e => by
    obtain ⟨d, m, x⟩ := DxAll.at (i := i) h e
    exact ⟨d, List.mem_cons_of_mem _ m, x⟩
section
variable {K : PySem.W.Frag} {p : Addr} {c c1 c2 : Nat} {σ : L2.St} {H0 : Hp}
/-- a display: from wherever on, it gives new data, one of S -/
def Disp (K : PySem.W.Frag) (p : Addr) (c c' : Nat) (σ : L2.St) (H0 : Hp) (te : TE) (S : PyData → Prop) : Prop := ∀ H Q, But p H0 H → Pot H p c → (∀ v H1 d, S d → But p H H1 → Pot H1 p c' → Dx K (off p H1) v d → Q v H1) → te σ H Q
def DispA (K : PySem.W.Frag) (p : Addr) (c c' : Nat) (σ : L2.St) (H0 : Hp) (ta : TA) (S : List PyData → Prop) : Prop := ∀ H Q, But p H0 H → Pot H p c → (∀ vs H1 ds, S ds → But p H H1 → Pot H1 p c' → DxAll K (off p H1) vs ds → Q vs H1) → ta σ H Q
theorem disp_v {te : TE} {v : V} {d : PyData} (h : ∀ H Q, Q v H → te σ H Q) (x : ∀ H, Dx K H v d) : Disp K p c c σ H0 te (· = d) := fun H Q hB hP q => h H Q (q v H d rfl (But.refl _ _) hP (x _))
theorem disp_c {v : V} {d : PyData} (x : ∀ H, Dx K H v d) : Disp K p c c σ H0 (tC v) (· = d) := disp_v (fun _ _ q => q) x
theorem disp_var {i : Nat} {v : V} {d : PyData} (e : σ[i]? = some (some v)) (x : Dx K (off p H0) v d) : Disp K p c c σ H0 (tVar i) (· = d) := fun H Q hB hP q => ⟨v, e, q v H d rfl (But.refl _ _) hP (x.same hB.off)⟩
theorem disp_nil : DispA K p c c σ H0 tNil (· = []) := fun H Q hB hP q => q [] H [] rfl (But.refl _ _) hP .nil
theorem disp_cons {te : TE} {ta : TA} {d : PyData} {ds : List PyData} (h : Disp K p c c1 σ H0 te (· = d)) (g : DispA K p c1 c2 σ H0 ta (· = ds)) : DispA K p c c2 σ H0 (tCons te ta) (· = d :: ds) := by
  intro H Q hB hP q
  refine h H _ hB hP fun v H1 d1 e1 hB1 hP1 x1 => ?_
  cases e1
  refine g H1 _ (hB.trans hB1) hP1 fun vs H2 ds2 e2 hB2 hP2 x2 => ?_
  cases e2
  exact q (v :: vs) H2 _ rfl (hB1.trans hB2) hP2 (.cons (x1.same hB2.off) x2)
/-- the same, of some of many -/
theorem disp_consS {te : TE} {ta : TA} {S : PyData → Prop} {SA SB : List PyData → Prop} (h : Disp K p c c1 σ H0 te S) (g : DispA K p c1 c2 σ H0 ta SA) (m : ∀ d ds, S d → SA ds → SB (d :: ds)) : DispA K p c c2 σ H0 (tCons te ta) SB := by
  intro H Q hB hP q
  refine h H _ hB hP fun v H1 d1 e1 hB1 hP1 x1 => ?_
  refine g H1 _ (hB.trans hB1) hP1 fun vs H2 ds2 e2 hB2 hP2 x2 => ?_
  exact q (v :: vs) H2 _ (m _ _ e1 e2) (hB1.trans hB2) hP2 (.cons (x1.same hB2.off) x2)
theorem disp_tupS {ta : TA} {SA : List PyData → Prop} {S : PyData → Prop} (h : DispA K p c c1 σ H0 ta SA) (m : ∀ ds, SA ds → ds.length ≤ sizeLine ∧ S (.tuple ds)) : Disp K p c c1 σ H0 (tTup ta) S := by
  intro H Q hB hP q
  refine h H _ hB hP fun vs H1 ds e hB1 hP1 x => ⟨by rw [x.length]; exact (m ds e).1, fun a ha => ?_⟩
  have n : a ≠ p := hP1.ne ha
  exact q _ _ (.tuple ds) (m ds e).2 (hB1.new ha) (hP1.new ha) (.tup (.inl (.inl (by rw [off_ne n, upd_same]))) (x.same (But.refl p H1 |>.new ha |>.off)))
theorem disp_lstS {ta : TA} {SA : List PyData → Prop} {S : PyData → Prop} (h : DispA K p c c1 σ H0 ta SA) (m : ∀ ds, SA ds → ds.length ≤ sizeLine ∧ S (.list ds)) : Disp K p c c1 σ H0 (tLstB ta) S := by
  intro H Q hB hP q
  refine h H _ hB hP fun vs H1 ds e hB1 hP1 x => ⟨by rw [x.length]; exact (m ds e).1, fun a ha hs => ?_⟩
  have n : a ≠ p := hP1.ne ha
  exact q _ _ (.list ds) (m ds e).2 (hB1.new ha) (hP1.new ha) (.lst (by rw [off_ne n, upd_same]) hs (x.same (But.refl p H1 |>.new ha |>.off)))
theorem disp_tup {ta : TA} {ds : List PyData} (h : DispA K p c c1 σ H0 ta (· = ds)) (z : ds.length ≤ sizeLine := by decide) : Disp K p c c1 σ H0 (tTup ta) (· = .tuple ds) := disp_tupS h fun es e => by
  cases e
  exact ⟨z, rfl⟩
theorem disp_lst {ta : TA} {ds : List PyData} (h : DispA K p c c1 σ H0 ta (· = ds)) (z : ds.length ≤ sizeLine := by decide) : Disp K p c c1 σ H0 (tLstB ta) (· = .list ds) := disp_lstS h fun es e => by
  cases e
  exact ⟨z, rfl⟩
theorem disp_dct0 : Disp K p c c σ H0 tDNewK (· = .dict []) := by
  intro H Q hB hP q a ha
  have n : a ≠ p := hP.ne ha
  exact q _ _ _ rfl ((But.refl _ _).new ha) (hP.new ha) (.dct (kvs := []) (by rw [off_ne n, upd_same]) rfl .nil)
/-- {x: e}, a text as its key, e a name -/
theorem disp_dct1 {i : Nat} {v : V} {d : PyData} {x : Str} (e : σ[i]? = some (some v)) (dx : Dx K (off p H0) v d) : Disp K p c c σ H0 (tDisp [(tC (.str x), tVar i)]) (· = .dict [(.str x, d)]) := by
  intro H Q hB hP q a ha
  have n : a ≠ p := hP.ne ha
  refine ⟨v, e, upd_same, [(.inr x, v)], rfl, by show 1 ≤ 15; decide, ?_⟩
  have hB2 : But p H (upd (upd H a (.dK [])) a (.dK (mergeK [] [(.inr x, v)]))) := fun b o nb eb => by
    have nba : b ≠ a := ne_of_none eb ha
    rw [upd_ne nba, upd_ne nba]
    exact eb
  exact q _ _ _ rfl hB2 ((hP.upd (Ne.symm n)).upd (Ne.symm n)) (.dct (kvs := [(.inr x, v)]) (by rw [off_ne n, upd_same]; rfl) rfl (.cons (dx.same (hB.trans hB2).off) .nil))
/-! ### steps -/
theorem seq_set {te : TE} {i : Nat} {u : TS} {D : Ends} {σ : L2.St} {H : Hp} (h : te σ H fun x H1 => u D (σ.set i (some x)) H1) : tSeq (tAsg te (gName i)) u D σ H := h
theorem lst_in {ta : TA} {σ : L2.St} {H : Hp} {Q : VK} (h : ta σ H fun xs H1 => xs.length ≤ sizeLine ∧ ∀ p, H1 p = none → Q (.ref p) (upd H1 p (.lst xs))) : tLst ta σ H Q := h
theorem op_in {r : R2} {ta tb : TE} {σ : L2.St} {H : Hp} {Q : VK} (h : ta σ H fun x H1 => tb σ H1 fun y H2 => r x y H2 Q) : tOp r ta tb σ H Q := h
theorem call_in {sp : Sp} {ta : TA} {E : XK} {σ : L2.St} {H : Hp} {Q : VK} (h : ta σ H fun vs H1 => sp (vs ++ []) H1 Q E) : tCall sp [] E ta σ H Q := h
theorem ret_in {te : TE} {D : Ends} {σ : L2.St} {H : Hp} (h : te σ H D.rt) : tRet te D σ H := h
theorem cb_in {r : List V → Hp → VK → Prop} {ta : TA} {σ : L2.St} {H : Hp} {Q : VK} (h : ta σ H fun vs H1 => r vs H1 Q) : tCB r ta σ H Q := h
/-! ### values of any kind -/
def odds1 : List PyData := [.none, .bool true, .bool false, .int 0, .int 1, .int (-1), .int 100000000, .str "", .str "a", .str "some", .str "near", .tuple [], .list [], .dict [], .tuple [.int 0], .tuple [.tuple []], .list [.int 0]]
def odds2 : List PyData := [.tuple [.int 100, .str "near"], .tuple [.tuple [.str "a", .int 1]], .tuple [.tuple [.tuple [.str "a", .int 1]], .str "more"], .tuple [.int 0, .int 1], .tuple [.tuple [.int 0, .tuple [.int 1, .int 1]]], .str "never", .tuple [.int 1, .int 1, .int 1]]
def odds : List PyData := odds1 ++ odds2
def sp_law_odd (K : PySem.W.Frag) : Sp := fun vs H Q _ => ∃ (p : Addr) (c : Nat), vs = [.ref p] ∧ Pot H p c ∧ c < 90000 ∧ ∀ H' v d, d ∈ odds → But p H H' → Pot H' p (c + 1) → Dx K (off p H') v d → Q v H'
end
end Uq

namespace Uq
open PySem PySem.Spec PyProof.Rows L2
/-- a class of exceptions, by its name -/
structure Kls (K : PySem.W.Frag) (mg : Str → Option Value) (fI : Addr) (x : Str) (C : Addr) : Prop where
  g : mg x = some (.ref C)
  X : Xcl K C
  i : PySem.W.findIn K (.ref C) "__init__" = some (some (.ref fI))
/-- what all of them are made by -/
structure Ini (P : Program) (w : World) (K : PySem.W.Frag) (mg : Str → Option Value) (base : Heap) (fI : Addr) where
  d : FuncData
  G : FnOk P w K mg base CX0 1 fI d ["self", "value"] (sp_init K)
  t : PySem.W.typeIn K (.ref fI) = some (.type "function")
  b : Binds K d ["self", "value"] []
section
variable {X : Cx} {p pos : Pos} {e : Expr} {es : List Expr} {ta : TA}
theorem pe_mk {x : Str} {C fI : Addr} (k : Kls X.K X.mg fI x C) (c : Ini X.prog X.w X.K X.mg X.base fI) (hr : Room 2 X.A) (hg : Gl X x) (ha : PA X (e :: es) ta)
    (hdb : (x == ("__debug__" : Str)) = false := by decide) (he : starEach (e :: es) X.env = (false, eval e X.env) :: starEach es X.env := by rfl) (hpl : (backTo pos (starEach es X.env)).any (·.1) = false := by rfl) :
    PE X (.Call (.Name x p) (e :: es) [] pos) (tMkV C (sp_init X.K) ta) := pe_oexV k.X.T k.i c.t c.G hr c.b hg k.g ha hdb he hpl
end
inductive Errs (H : Hp) (v : V) : List Addr → List V → Prop
  | nil : Errs H v [] []
  | cons {a C : Addr} {Cs : List Addr} {xs : List V} : Exc H a C v → Errs H v Cs xs → Errs H v (C :: Cs) (.ref a :: xs)
section
variable {H H' : Hp} {v : V} {Cs Ds : List Addr} {xs ys : List V}
theorem Errs.same (e : Same H H') : ∀ {Cs : List Addr} {xs : List V}, Errs H v Cs xs → Errs H' v Cs xs
  | _, _, .nil => .nil
  | _, _, .cons a h => .cons (a.same e) (Errs.same e h)
theorem Errs.but {p : Addr} {zs : List V} (e : But p H H') (hp : H p = some (.lst zs)) : ∀ {Cs : List Addr} {xs : List V}, Errs H v Cs xs → Errs H' v Cs xs
  | _, _, .nil => .nil
  | _, _, .cons a h => .cons (a.but e hp) (Errs.but e hp h)
theorem Errs.append (g : Errs H v Ds ys) : ∀ {Cs : List Addr} {xs : List V}, Errs H v Cs xs → Errs H v (Cs ++ Ds) (xs ++ ys)
  | _, _, .nil => g
  | _, _, .cons a h => .cons a (Errs.append g h)
theorem Errs.length : ∀ {Cs : List Addr} {xs : List V}, Errs H v Cs xs → xs.length = Cs.length
  | _, _, .nil => rfl
  | _, _, .cons _ h => congrArg (· + 1) (Errs.length h)
theorem Errs.at : ∀ {Cs : List Addr} {xs : List V} {i : Nat} {x : V}, Errs H v Cs xs → xs[i]? = some x → ∃ a C, x = .ref a ∧ Cs[i]? = some C ∧ Exc H a C v
  | _, _, i, _, .nil, e => by simp at e
  | _, _, 0, _, .cons a h, e => by
    cases Option.some.inj e
    exact ⟨_, _, rfl, rfl, a⟩
  | _, _, i + 1, _, .cons a h, e => Errs.at (i := i) h e
end
/-- the displays -/
def tMks (K : PySem.W.Frag) : List Addr → TA
  | [] => tNil
  | C :: r => tCons (tMkV C (sp_init K) (tCons (tVar 0) tNil)) (tMks K r)
def tIss (K : PySem.W.Frag) : List Addr → TA
  | [] => tNil
  | D :: r => tCons (tCB (rIsX K) (tCons (tVar 0) (tCons (tC (.ref D)) tNil))) (tIss K r)
section
variable {K : PySem.W.Frag} {σ : L2.St} {v : V}
theorem mk1 {i : Nat} {C : Addr} {H : Hp} {Q : VK} (T : Xcl K C) (e : σ[i]? = some (some v)) (q : ∀ a H1, H a = none → Same H H1 → Exc H1 a C v → Q (.ref a) H1) : tMkV C (sp_init K) (tCons (tVar i) tNil) σ H Q :=
  mkV_of T ⟨v, e, v, rfl, fun a H2 n s x => q a H2 n s x⟩ fun m h => by
    obtain ⟨y, e, h⟩ := h
    exact ⟨y, e, m _ _ h⟩
theorem cons_in {te : TE} {ta : TA} {H : Hp} {Q : List V → Hp → Prop} (h : te σ H fun x H1 => ta σ H1 fun xs H2 => Q (x :: xs) H2) : tCons te ta σ H Q := h
theorem mks (e : σ[0]? = some (some v)) : ∀ (Cs : List Addr) (H : Hp) (Q : List V → Hp → Prop), (∀ C ∈ Cs, Xcl K C) → (∀ xs H1, Same H H1 → Errs H1 v Cs xs → Q xs H1) → tMks K Cs σ H Q
  | [], H, Q, _, q => q [] H (fun _ _ e => e) .nil
  | C :: Cs, H, Q, hX, q => show tCons (tMkV C (sp_init K) (tCons (tVar 0) tNil)) (tMks K Cs) σ H Q from cons_in <| mk1 (hX C List.mem_cons_self) e fun a H1 na s x => mks e Cs H1 _ (fun D hD => hX D (List.mem_cons_of_mem _ hD)) fun xs H2 s2 xs2 => q _ H2 (fun b o h => s2 _ _ (s _ _ h)) (.cons (x.same s2) xs2)
/-- which classes an exception of the class C is of -/
def kinds (C : Addr) (Ds : List Addr) : List V := Ds.map fun D => .bl (decide (D = C))
theorem iss {a C : Addr} {y : V} (e : σ[0]? = some (some (.ref a))) (T : Xcl K C) : ∀ (Ds : List Addr) (H : Hp) (Q : List V → Hp → Prop), Exc H a C y → (∀ D ∈ Ds, PySem.W.kitOne K (.ref C) (.ref D) = some (decide (D = C))) → Q (kinds C Ds) H → tIss K Ds σ H Q
  | [], H, Q, _, _, q => q
  | D :: Ds, H, Q, x, k, q => ⟨.ref a, e, a, C, y, .ref D, .ref D, _, rfl, .own D, T, x, k D List.mem_cons_self, iss e T Ds H _ x (fun E hE => k E (List.mem_cons_of_mem _ hE)) q⟩
end
def sp_law_created (K : PySem.W.Frag) (Cs : List Addr) : Sp := fun vs H Q _ => ∃ v, vs = [v] ∧ ∀ H' l xs, Same H H' → H l = none → H' l = some (.lst xs) → Errs H' v Cs xs → Q (.ref l) H'
def sp_law_kinds (K : PySem.W.Frag) (Cs : List Addr) : Sp := fun vs H Q _ => ∃ (a C : Addr) (v : V), vs = [.ref a] ∧ Xcl K C ∧ Exc H a C v ∧ (∀ D ∈ Cs, PySem.W.kitOne K (.ref C) (.ref D) = some (decide (D = C))) ∧
  ∀ H' l, Same H H' → H l = none → H' l = some (.lst (kinds C Cs)) → Q (.ref l) H'
/-- what was new and is changed -/
theorem Same.chg {H H1 H2 : Hp} {l : Addr} (s : Same H H1) (n : H l = none) (b : But l H1 H2) : Same H H2 := fun c o e => b c o (ne_of_none e n) (s c o e)
end Uq
namespace Uq
open PySem PySem.Spec PyProof.Rows L2
theorem none_of {H H1 : Hp} {l : Addr} (s : Same H H1) (n : H1 l = none) : H l = none := by
  cases e : H l with
  | none => rfl
  | some o => rw [s _ _ e] at n; cases n
/-- l.extend([..]), and on -/
theorem ext_in {K : PySem.W.Frag} {i : Nat} {l : Addr} {xs : List V} {ta : TA} {u : TS} {D : Ends} {σ : L2.St} {H : Hp} (e : σ[i]? = some (some (.ref l))) (hl : H l = some (.lst xs))
    (h : ta σ H fun zs H1 => zs.length ≤ sizeLine ∧ ∀ b, H1 b = none → rExtend (.ref l) [.ref b] (upd H1 b (.lst zs)) (fun _ H2 => u D σ H2)) :
    tSeq (tDrop (tBM K "list" rExtend (tVar i) (tCons (tLst ta) tNil))) u D σ H := ⟨_, e, .inl ⟨rfl, xs, SqL.of hl⟩, h⟩
theorem ext_do {l b : Addr} {xs zs : List V} {H1 : Hp} {Q : VK} (e1 : H1 l = some (.lst xs)) (nb : H1 b = none) (z2 : xs.length + zs.length ≤ sizeLine) (q : ∀ G, G l = some (.lst (xs ++ zs)) → But l H1 G → Q .non G) : rExtend (.ref l) [.ref b] (upd H1 b (.lst zs)) Q := by
  have n : l ≠ b := ne_of_none e1 nb
  refine ⟨l, b, xs, zs, rfl, rfl, by rw [upd_ne n]; exact e1, upd_same, z2, q _ upd_same fun c o nc ec => ?_⟩
  rw [upd_ne nc, upd_ne (ne_of_none ec nb)]
  exact ec
end Uq

namespace Uq
open PySem PySem.Spec PyProof.Rows L2

/-! ### the lines of a page: a dict from names to (above, share, far) -/
structure Ln where
  nm : Str
  ab : V
  sh : V
  fa : V
def Lat (K : PySem.W.Frag) (H : Hp) (l : Ln) (kv : Key × V) : Prop := kv.1 = .inr l.nm ∧ ∃ t : Addr, kv.2 = .ref t ∧ SqT K H t [l.ab, l.sh, l.fa]
def Lns (K : PySem.W.Frag) (H : Hp) (d : Addr) (ls : List Ln) : Prop := ∃ kvs : List (Key × V), H d = some (.dK kvs) ∧ Paired (Lat K H) ls kvs
theorem Lat.same {K : PySem.W.Frag} {H H' : Hp} {l : Ln} {kv : Key × V} (e : Same H H') (h : Lat K H l kv) : Lat K H' l kv := by
  obtain ⟨h1, t, h2, h3⟩ := h
  exact ⟨h1, t, h2, sqT_same e h3⟩
theorem paired_mono {α β : Type} {R R' : α → β → Prop} (m : ∀ a b, R a b → R' a b) : ∀ {xs : List α} {ys : List β}, Paired R xs ys → Paired R' xs ys
  | _, _, .nil => .nil
  | _, _, .cons a h => .cons (m _ _ a) (paired_mono m h)
theorem paired_at {α β : Type} {R : α → β → Prop} : ∀ {xs : List α} {ys : List β} {i : Nat} {y : β}, Paired R xs ys → ys[i]? = some y → ∃ x, xs[i]? = some x ∧ R x y
  | _, _, i, _, .nil, e => by simp at e
  | _, _, 0, _, .cons a h, e => by
    cases Option.some.inj e
    exact ⟨_, rfl, a⟩
  | _, _, i + 1, _, .cons a h, e => paired_at (i := i) h e
theorem Lns.same {K : PySem.W.Frag} {H H' : Hp} {d : Addr} {ls : List Ln} (e : Same H H') (h : Lns K H d ls) : Lns K H' d ls := by
  obtain ⟨kvs, h1, h2⟩ := h
  exact ⟨kvs, e _ _ h1, paired_mono (fun _ _ x => x.same e) h2⟩
theorem sqT_upd {K : PySem.W.Frag} {H : Hp} {t d : Addr} {xs : List V} {kvs : List (Key × V)} {o : HO} (h : SqT K H t xs) (hd : H d = some (.dK kvs)) : SqT K (upd H d o) t xs := by
  rcases h with (h | ⟨ob, h⟩) | h
  · have n : t ≠ d := fun z => by
      rw [z, hd] at h
      cases h
    exact .inl (.inl (by rw [upd_ne n]; exact h))
  · have n : t ≠ d := fun z => by
      rw [z, hd] at h
      cases h
    exact .inl (.inr ⟨ob, by rw [upd_ne n]; exact h⟩)
  · exact .inr h
theorem Lat.lock {K : PySem.W.Frag} {H : Hp} {l : Ln} {kv : Key × V} {d : Addr} {kvs : List (Key × V)} {o : HO} (h : Lat K H l kv) (hd : H d = some (.dK kvs)) : Lat K (upd H d o) l kv := by
  obtain ⟨h1, t, h2, h3⟩ := h
  exact ⟨h1, t, h2, sqT_upd h3 hd⟩
/-- a dict locked, walked over and let go -/
theorem unlocked {H H1 : Hp} {d : Addr} {kvs : List (Key × V)} {od : Obj} (hd : H d = some (.dK kvs)) (s : Same (upd H d (.frz od (.dK kvs))) H1) : Same H (upd H1 d (.dK kvs)) := fun b o e => by
  by_cases z : b = d
  · subst z
    rw [upd_same, ← e, hd]
  · rw [upd_ne z]
    exact s b o (by rw [upd_ne z]; exact e)
def wholes (ls : List Ln) : List V := ls.map (·.ab)
def isEnd (ls : List Ln) (l : Ln) : Bool := !inV (.str l.nm) (wholes ls)
def ends (ls : List Ln) : List Str := (ls.filter (isEnd ls)).map (·.nm)
def sp_ends_among (K : PySem.W.Frag) : Sp := fun vs H Q _ => ∃ (d : Addr) (ls : List Ln), vs = [.ref d] ∧ Lns K H d ls ∧ ls.length ≤ 100 ∧ (wholes ls).all flatV = true ∧ ∀ H' t, Same H H' → H t = none → H' t = some (.tup ((ends ls).map V.str)) → Q (.ref t) H'
section
variable {P : Program} {w : World} {K : PySem.W.Frag} {mg : Str → Option Value} {base : Heap}
theorem ok_ends_among {f : Addr} {fd : FuncData} (F : Fun K "ends_among" "ends_among" s_ends_among f fd) (m_tuple : mg "tuple" = none) : FnOk P w K mg base CX0 1 f fd ["lines"] (sp_ends_among K) := by
  refine F.ok sc_ends_among (fun vs H Q E h => ?_) (fun cdv A outer s H vs Q E hr h => ?_)
  · obtain ⟨d, ls, rfl, _⟩ := h
    rfl
  · refine ⟨_, (pss_cons (ps_set (i := 1) sc_ends_among.nd rfl (.inr rfl) (pe_lock (pe_lc (own := [("line", 2)]) (g := gName 2) rfl sc_ends_among.nd (pi_values (pv 0)) (blkOk_by (own := [("line", 2)]) (N := N_ends_among) (sc := defScope s_ends_among) (by decide +kernel)) (fun _ _ _ _ _ => (pg_name (i := 2) sc_ends_among.nd rfl (.inl rfl))) (fun _ _ _ _ _ => pts_nil) (fun _ _ _ _ _ => (pe_ix (r := rIxT K) ix_tup (pv 2) pe_int (fun _ _ => rfl))))))
      (pss_one (ps_ret (pe_callTy call_tuple_of (by rfl) m_tuple (by decide +kernel) (pa_cons (pe_lock (pe_lc (own := [("part", 3)]) (g := gName 3) rfl sc_ends_among.nd (pi_keys (pv 0)) (blkOk_by (own := [("part", 3)]) (N := N_ends_among) (sc := defScope s_ends_among) (by decide +kernel)) (fun _ _ _ _ _ => (pg_name (i := 3) sc_ends_among.nd rfl (.inl rfl))) (fun _ _ _ _ _ => (pts_one (pt_cmpR (r := rIn K true) op_notIn_seq (pv 3) (pv 1) rfl))) (fun _ _ _ _ _ => (pv 3)))) pa_nil))))), ?_⟩
    obtain ⟨d, ls, rfl, ⟨kvs, hd, hp⟩, hz, hf, q⟩ := h
    have hl : ls.length = kvs.length := hp.length
    refine seq_set ⟨d, .dK kvs, hd, trivial, fun od => ?_⟩
    refine ⟨.ref d, rfl, d, od, kvs, rfl, upd_same, fun D nD => ?_⟩
    have nDd : D ≠ d := fun z => by
      rw [z, upd_same] at nD
      cases nD
    have nD0 : H D = none := by
      rw [upd_ne nDd] at nD
      exact nD
    refine lc_it walk_values (fun i H' => Same (upd H d (.frz od (.dK kvs))) H' ∧ H' D = some (.lst ((wholes ls).take i))) ⟨sameU nD, upd_same⟩ (fun i H' _ h => h.1 _ _ upd_same) ?_ ?_
    · rintro i x H1 H2 hi ⟨s1, hD⟩ ⟨rfl, k, hk⟩
      obtain ⟨l, el, _, t, et, ht⟩ := paired_at hp hk
      cases et
      have ht1 := sqT_same s1 (sqT_upd (o := .frz od (.dK kvs)) ht hd)
      refine ⟨rfl, .ref t, rfl, t, _, 0, l.ab, rfl, rfl, ht1, atI_nat (j := 0) rfl, _, hD, ?_, ?_, ?_⟩
      · rw [List.length_take]
        exact small1000 (Nat.le_trans (Nat.min_le_left _ _) (by omega))
      · intro b o e
        rw [upd_ne (ne_of_none e nD)]
        exact s1 _ _ e
      · rw [upd_same, List.take_add_one]
        have e : (wholes ls)[i]? = some l.ab := by
          unfold wholes
          rw [List.getElem?_map, el]
          rfl
        rw [e]
        rfl
    rintro H1 ⟨s1, hD⟩
    refine ⟨s1 _ _ upd_same, ?_⟩
    have sG : Same H (upd H1 d (.dK kvs)) := unlocked hd s1
    have hGD : (upd H1 d (.dK kvs)) D = some (.lst (wholes ls)) := by
      rw [upd_ne nDd, hD, List.take_of_length_le]
      unfold wholes
      rw [List.length_map, hl]
      exact Nat.le_refl _
    have hGd : (upd H1 d (.dK kvs)) d = some (.dK kvs) := upd_same
    generalize L2.upd H1 d (.dK kvs) = G at sG hGD hGd ⊢
    refine ret_in (cb_in (cons_in ⟨d, .dK kvs, hGd, trivial, fun od2 => ?_⟩))
    refine ⟨.ref d, rfl, d, od2, rfl, .inl ⟨kvs, upd_same, fun T nT => ?_⟩⟩
    have nTd : T ≠ d := fun z => by
      rw [z, upd_same] at nT
      cases nT
    have hLD : (upd G d (.frz od2 (.dK kvs))) D = some (.lst (wholes ls)) := by
      rw [upd_ne nDd]
      exact hGD
    refine lc_it walk_keys (fun i H' => Same (upd G d (.frz od2 (.dK kvs))) H' ∧ H' T = some (.lst (((ls.take i).filter (isEnd ls)).map fun l => .str l.nm))) ⟨sameU nT, upd_same⟩ (fun i H' _ h => h.1 _ _ upd_same) ?_ ?_
    · rintro i x H2 H3 hi ⟨s2, hT⟩ ⟨rfl, k, v, hk, rfl⟩
      obtain ⟨l, el, ek, _⟩ := paired_at hp hk
      have ek' : k = .inr l.nm := ek
      subst ek'
      have tk : ls.take (i + 1) = ls.take i ++ [l] := by
        rw [List.take_add_one, el]
        rfl
      refine ⟨rfl, .str l.nm, rfl, .ref D, rfl, D, wholes ls, rfl, .inl (SqL.of (s2 _ _ hLD)), rfl, hf, _, rfl, ?_⟩
      show if isEnd ls l = true then _ else _
      refine ite2 (fun e => ?_) (fun e => ?_)
      · refine ⟨.str l.nm, rfl, _, hT, ?_, ?_, ?_⟩
        · rw [List.length_map]
          refine small1000 (Nat.le_trans (List.length_filter_le _ _) ?_)
          rw [List.length_take]
          exact Nat.le_trans (Nat.min_le_right _ _) (by omega)
        · intro b o eb
          rw [upd_ne (ne_of_none eb nT)]
          exact s2 _ _ eb
        · rw [upd_same, tk, List.filter_append, List.map_append, List.filter_cons_of_pos e]
          rfl
      · refine ⟨s2, ?_⟩
        rw [hT, tk, List.filter_append, List.filter_cons_of_neg e]
        simp
    rintro H2 ⟨s2, hT⟩
    refine ⟨s2 _ _ upd_same, ?_⟩
    have sA : Same H (upd H2 d (.dK kvs)) := sG.trans (unlocked hGd s2)
    have hE : (upd H2 d (.dK kvs)) T = some (.lst ((ends ls).map V.str)) := by
      rw [upd_ne nTd, hT, ← hl, List.take_length]
      unfold ends
      rw [List.map_map]
      rfl
    refine ⟨T, _, rfl, .inl ⟨SqL.of hE, fun r nr => ?_⟩⟩
    exact q _ r (sA.trans (sameU nr)) (none_of sA nr) upd_same
end
end Uq

namespace Uq
open PySem PySem.Spec PyProof.Rows L2

/-! ### from a part up to the first one -/
inductive Way (ls : List Ln) : Str → List Str → Prop
  | top {l : Ln} : l ∈ ls → l.ab = .non → Way ls l.nm [l.nm]
  | up {l : Ln} {q : Str} {w : List Str} : l ∈ ls → l.ab = .str q → Way ls q w → Way ls l.nm (l.nm :: w)
theorem lns_get {K : PySem.W.Frag} {H : Hp} {l : Ln} : ∀ {ls : List Ln} {kvs : List (Key × V)}, Paired (Lat K H) ls kvs → (ls.map (·.nm)).Nodup → l ∈ ls → ∃ t : Addr, valV kvs (.inr l.nm) = some (.ref t) ∧ SqT K H t [l.ab, l.sh, l.fa]
  | _, _, .nil, _, h => nomatch h
  | l0 :: ls, kv :: kvs, .cons a r, nd, h => by
    obtain ⟨e1, t, e2, ht⟩ := a
    rw [List.map_cons, List.nodup_cons] at nd
    rcases List.mem_cons.mp h with z | z
    · subst z
      exact ⟨t, by rw [valV_pos e1, e2], ht⟩
    · obtain ⟨t', v, ht'⟩ := lns_get r nd.2 z
      refine ⟨t', ?_, ht'⟩
      rw [valV_neg]
      · exact v
      · intro e
        rw [e1] at e
        exact nd.1 (List.mem_map.mpr ⟨l, z, (Sum.inr.inj e).symm⟩)
def sp_way_up (K : PySem.W.Frag) : Sp := fun vs H Q _ => ∃ (d : Addr) (ls : List Ln) (p : Str) (w : List Str) (kvs : List (Key × V)), vs = [.ref d, .str p] ∧ Rd H d (.dK kvs) ∧ Paired (Lat K H) ls kvs ∧ (ls.map (·.nm)).Nodup ∧ Way ls p w ∧ w.length ≤ 100 ∧
  ∀ H' r, Same H H' → H r = none → H' r = some (.lst (w.map V.str)) → Q (.ref r) H'
section
variable {P : Program} {w : World} {K : PySem.W.Frag} {mg : Str → Option Value} {base : Heap}
theorem ok_way_up {f : Addr} {fd : FuncData} (F : Fun K "way_up" "way_up" s_way_up f fd) : FnOk P w K mg base CX0 1 f fd ["lines", "part"] (sp_way_up K) := by
  refine F.ok sc_way_up (fun vs H Q E h => ?_) (fun cdv A outer s H vs Q E hr h => ?_)
  · obtain ⟨d, ls, p, w, kvs, rfl, _⟩ := h
    rfl
  · refine ⟨_, (pss_cons (ps_set (i := 2) sc_way_up.nd rfl (.inl rfl) (pe_lst (pa_cons (pv 1) pa_nil)))
      (pss_cons (ps_while PassesOwn.never (pt_cmpR op_notN (pe_ix ix_tup (pe_dget (hu_of hr) (pv 0) (pe_ix ix_list (pv 2) (pe_un un_neg pe_int) (fun _ _ => rfl)) (fun _ _ => rfl)) pe_int (fun _ _ => rfl)) pe_non (nomark _)) (pss_one (ps_expr (pe_bm PySem.F.plainAttrs_list PySem.F.slot_list_append PySem.F.type_list_append mt_append (pv 2) (pa_cons (pe_ix ix_tup (pe_dget (hu_of hr) (pv 0) (pe_ix ix_list (pv 2) (pe_un un_neg pe_int) (fun _ _ => rfl)) (fun _ _ => rfl)) pe_int (fun _ _ => rfl)) pa_nil)))))
      (pss_one (ps_ret (pv 2))))), ?_⟩
    obtain ⟨d, ls, p0, w0, kvs, rfl, hd, hp, nd, hw0, hz, q⟩ := h
    refine seq_set ⟨.str p0, rfl, by show 1 ≤ sizeLine; decide, fun L nL => ?_⟩
    refine ⟨fun m σ H' => ∃ (ws w : List Str) (p : Str), m = w.length ∧ σ = [some (.ref d), some (.str p0), some (.ref L)] ∧ Same H H' ∧ H' L = some (.lst (ws.map V.str ++ [.str p])) ∧ Way ls p w ∧ ws ++ w = w0, ⟨_, [], w0, p0, rfl, rfl, sameU nL, upd_same, hw0, rfl⟩, ?_⟩
    rintro m σ H1 ⟨ws, w, p, rfl, rfl, s1, hL, hw, ew⟩
    have look : ∀ l : Ln, l ∈ ls → ∃ t : Addr, DGet H1 d (.str l.nm) (some (.ref t)) ∧ SqT K H1 t [l.ab, l.sh, l.fa] := fun l hl => by
      obtain ⟨t, ev, ht⟩ := lns_get hp nd hl
      refine ⟨t, .inl ⟨kvs, .inr l.nm, ?_, rfl, ev.symm⟩, sqT_same s1 ht⟩
      rcases hd with hd | ⟨ob, hd⟩
      · exact .inl (s1 _ _ hd)
      · exact .inr ⟨ob, s1 _ _ hd⟩
    have lz : ws.length + w.length ≤ 100 := by
      have z := congrArg List.length ew
      rw [List.length_append] at z
      omega
    cases hw with
    | @top l hl e =>
      obtain ⟨t, hg, ht⟩ := look l hl
      refine ⟨.ref d, rfl, .ref L, rfl, 1, rfl, L, _, -1, .str l.nm, rfl, rfl, SqL.of hL, atI_last _ _, d, .ref t, rfl, hg, t, _, 0, l.ab, rfl, rfl, ht, atI_nat (j := 0) rfl, rfl, _, rfl, ?_⟩
      rw [e]
      refine iteF ⟨.ref L, rfl, q H1 L s1 (by exact nL) ?_⟩
      rw [hL, ← ew, List.map_append]
      rfl
    | @up l pq w hl e hw =>
      obtain ⟨t, hg, ht⟩ := look l hl
      refine ⟨.ref d, rfl, .ref L, rfl, 1, rfl, L, _, -1, .str l.nm, rfl, rfl, SqL.of hL, atI_last _ _, d, .ref t, rfl, hg, t, _, 0, l.ab, rfl, rfl, ht, atI_nat (j := 0) rfl, rfl, _, rfl, ?_⟩
      rw [e]
      refine iteT ⟨fun σ' H' => ∃ (ws' w' : List Str) (p' : Str), w.length = w'.length ∧ σ' = [some (.ref d), some (.str p0), some (.ref L)] ∧ Same H H' ∧ H' L = some (.lst (ws'.map V.str ++ [.str p'])) ∧ Way ls p' w' ∧ ws' ++ w' = w0, fun σ' H' h => ⟨w.length, by simp, h⟩, ?_⟩
      refine ⟨.ref L, rfl, .inl ⟨rfl, _, SqL.of hL⟩, .ref d, rfl, .ref L, rfl, 1, rfl, L, _, -1, .str l.nm, rfl, rfl, SqL.of hL, atI_last _ _, d, .ref t, rfl, hg, t, _, 0, l.ab, rfl, rfl, ht, atI_nat (j := 0) rfl, L, _, _, rfl, rfl, hL, ?_, ?_⟩
      · rw [List.length_append, List.length_map]
        exact small1000 (by simp; omega)
      · refine ⟨ws ++ [l.nm], w, pq, rfl, rfl, fun b o eb => ?_, ?_, hw, ?_⟩
        · rw [upd_ne (ne_of_none eb nL)]
          exact s1 _ _ eb
        · rw [upd_same, e, List.map_append]
          rfl
        · rw [List.append_assoc]
          exact ew
end
end Uq

namespace Uq
open PySem PySem.Spec PyProof.Rows L2

theorem next_in {t : L2.St → Hp → Prop} {r : VK} {b c : L2.St → Hp → Prop} {σ : L2.St} {H : Hp} (h : t σ H) : tNext { nx := t, rt := r, bk := b, ct := c } σ H := h
/-! ### the line of a part -/
/-- shares, and the words that tell them: marks, share words, shares -/
inductive Opts (b : Nat) : V → V → List Str → List Str → List V → Prop
  | none : Opts b .non .non [] [] []
  | sh {v : V} {x : Str} : Shw b v x → Opts b v .non ["is"] [x] [v]
  | fa {v : V} {x : Str} : Shw b v x → Opts b .non v ["all"] [x] [v]
  | both {v u : V} {x y : Str} : Shw b v x → Shw b u y → Opts b v u ["is", "all"] [x, y] [v, u]
def weave : List Str → List Str → List Str
  | m :: ms, w :: ws => m :: w :: weave ms ws
  | _, _ => []
def lineW (nm ab : Str) (ms ws : List Str) : List Str := Str.ofString "part" :: nm :: Str.ofString "of" :: ab :: weave ms ws
theorem u65 {k : Nat} {A : Around} (r : Room k A) : A.units + 65 < cLine := by
  have := r.un
  omega
theorem shw_flat {b : Nat} {v : V} {x : Str} (h : Shw b v x) : flatV v = true ∧ v ≠ .non ∧ eqV v .non = false := by
  cases h <;> exact ⟨rfl, (fun z => nomatch z), rfl⟩
def idx (lo : Int) (n : Nat) : List Nat := sliceRange (sliceBounds (some lo) none (some 2) n).1 (sliceBounds (some lo) none (some 2) n).2.1 (sliceBounds (some lo) none (some 2) n).2.2
theorem idx_all : idx 4 4 = [] ∧ idx 5 4 = [] ∧ idx 4 6 = [4] ∧ idx 5 6 = [5] ∧ idx 4 8 = [4, 6] ∧ idx 5 8 = [5, 7] := by decide +kernel
theorem pick_idx {xs : List V} {lo : Int} {n : Nat} {is : List Nat} (e : xs.length = n) (h : idx lo n = is) : pickV xs (some lo) none (some 2) = is.filterMap (xs[·]?) := by
  subst e
  subst h
  rfl
theorem opts_marks {b : Nat} {sh fa : V} {ms ws : List Str} {vs : List V} (h : Opts b sh fa ms ws vs) (nm ab : Str) : pickV ((lineW nm ab ms ws).map V.str) (some 4) none (some 2) = ms.map V.str := by
  cases h with
  | none => exact pick_idx (n := 4) rfl idx_all.1
  | sh a => exact pick_idx (n := 6) rfl idx_all.2.2.1
  | fa a => exact pick_idx (n := 6) rfl idx_all.2.2.1
  | both a c => exact pick_idx (n := 8) rfl idx_all.2.2.2.2.1
theorem opts_words {b : Nat} {sh fa : V} {ms ws : List Str} {vs : List V} (h : Opts b sh fa ms ws vs) (nm ab : Str) : pickV ((lineW nm ab ms ws).map V.str) (some 5) none (some 2) = ws.map V.str := by
  cases h with
  | none => exact pick_idx (n := 4) rfl idx_all.2.1
  | sh a => exact pick_idx (n := 6) rfl idx_all.2.2.2.1
  | fa a => exact pick_idx (n := 6) rfl idx_all.2.2.2.1
  | both a c => exact pick_idx (n := 8) rfl idx_all.2.2.2.2.2
theorem opts_len {b : Nat} {sh fa : V} {ms ws : List Str} {vs : List V} (h : Opts b sh fa ms ws vs) : ms.length ≤ 2 ∧ ws.length = ms.length ∧ vs.length = ms.length ∧ 4 ≤ (lineW nm ab ms ws).length := by
  cases h <;> exact ⟨by decide, rfl, rfl, by show 4 ≤ _; simp [lineW, weave]⟩
theorem opts_flat {b : Nat} {sh fa : V} {ms ws : List Str} {vs : List V} (h : Opts b sh fa ms ws vs) : vs.all flatV = true ∧ inV .non vs = false := by
  cases h with
  | none => exact ⟨rfl, rfl⟩
  | sh a => exact ⟨by simp [(shw_flat a).1], by simp [inV, (shw_flat a).2.2]⟩
  | fa a => exact ⟨by simp [(shw_flat a).1], by simp [inV, (shw_flat a).2.2]⟩
  | both a c => exact ⟨by simp [(shw_flat a).1, (shw_flat c).1], by simp [inV, (shw_flat a).2.2, (shw_flat c).2.2]⟩
theorem opts_shw {b : Nat} {sh fa : V} {ms ws : List Str} {vs : List V} (h : Opts b sh fa ms ws vs) {i : Nat} {w : Str} (e : ws[i]? = some w) : ∃ v, vs[i]? = some v ∧ Shw b v w := by
  cases h with
  | none => simp at e
  | sh a =>
    match i, e with
    | 0, e => cases Option.some.inj e; exact ⟨_, rfl, a⟩
  | fa a =>
    match i, e with
    | 0, e => cases Option.some.inj e; exact ⟨_, rfl, a⟩
  | both a c =>
    match i, e with
    | 0, e => cases Option.some.inj e; exact ⟨_, rfl, a⟩
    | 1, e => cases Option.some.inj e; exact ⟨_, rfl, c⟩
def marksD : List PyData := [.tuple [], .tuple [.str "is"], .tuple [.str "all"], .tuple [.str "is", .str "all"]]
theorem opts_in {b : Nat} {sh fa : V} {ms ws : List Str} {vs : List V} (h : Opts b sh fa ms ws vs) : (marksD.any fun z => PyData.eqv z (.tuple (ms.map PyData.str))) = true := by
  cases h <;> decide +kernel
theorem opts_shaped {b : Nat} {sh fa : V} {ms ws : List Str} {vs : List V} (h : Opts b sh fa ms ws vs) : SeqAt.shaped (.tuple (ms.map PyData.str)) = true := by
  cases h <;> decide +kernel
theorem marks_shaped : SeqAt.shaped (.tuple marksD) = true := by decide +kernel
theorem opts_get {b : Nat} {sh fa : V} {ms ws : List Str} {vs : List V} (h : Opts b sh fa ms ws vs) : (valV (mergeK [] ((ms.map Sum.inr).zip vs)) (.inr "is")).getD .non = sh ∧ (valV (mergeK [] ((ms.map Sum.inr).zip vs)) (.inr "all")).getD .non = fa := by
  cases h <;> exact ⟨rfl, rfl⟩
theorem dp_strs {K : PySem.W.Frag} {H : Hp} : ∀ l : List Str, DpAll K H (l.map V.str) (l.map PyData.str)
  | [] => .nil
  | x :: l => .cons (.str x) (dp_strs l)
def sp_read_part (K : PySem.W.Frag) : Sp := fun vs H Q _ => ∃ (u d l : Addr) (b : Nat) (h nm ab : Str) (kvs : List (Key × V)) (ls : List Ln) (sh fa : V) (ms ws : List Str) (xs : List V), vs = [.ref u, .ref d, .ref l] ∧ Un K H u b h ∧ H d = some (.dK kvs) ∧
  SqL K H l ((lineW nm ab ms ws).map V.str) ∧ Opts b sh fa ms ws xs ∧ Nm nm ∧ valV kvs (.inr nm) = none ∧ (valV kvs (.inr ab)).isSome = true ∧ ∀ H' t, Same H H' → H t = none → H' t = some (.tup [.str ab, sh, fa]) → Q (.ref t) H'
def sp_is_too_much (K : PySem.W.Frag) : Sp := fun vs H Q _ => ∃ (d : Addr) (ls : List Ln) (p : Str) (w : List Str), vs = [.ref d, .str p] ∧ Lns K H d ls ∧ (wholes ls).all flatV = true ∧ (ls.map (·.nm)).Nodup ∧ Way ls p w ∧ ls.length ≤ 10 ∧ (ends ls).length ≤ 6 ∧ w.length ≤ 4 ∧ ∀ H', Same H H' → Q (.bl false) H'
section
variable {P : Program} {w : World} {K : PySem.W.Frag} {mg : Str → Option Value} {base : Heap}
theorem ok_is_too_much {f : Addr} {fd : FuncData} (F : Fun K "is_too_much" "is_too_much" s_is_too_much f fd) {t9 t6 t3 : Tok} (g_MOST_PARTS : mg "MOST_PARTS" = some (.int 9 t9)) (g_MOST_ENDS : mg "MOST_ENDS" = some (.int 6 t6)) (g_MOST_STEPS : mg "MOST_STEPS" = some (.int 3 t3)) (m_len : mg "len" = none) (c_ends_among : Cal P w K mg base 1 "ends_among" ["lines"] (sp_ends_among K)) (c_way_up : Cal P w K mg base 1 "way_up" ["lines", "part"] (sp_way_up K)) : FnOk P w K mg base CX0 2 f fd ["lines", "part"] (sp_is_too_much K) := by
  refine F.ok sc_is_too_much (fun vs H Q E h => ?_) (fun cdv A outer s H vs Q E hr h => ?_)
  · obtain ⟨d, ls, p, w, rfl, _⟩ := h
    rfl
  · refine ⟨_, (pss_cons (ps_if (PW.pt (pw_or (pt_cmpR op_gt (pe_callB call_lenD (by rfl) m_len (by decide +kernel) (pa_cons (pv 0) pa_nil)) (pe_op op_add (pe_glob (v := .int 9) (by rfl) g_MOST_PARTS ⟨_, rfl⟩) pe_int) (nomark _)) (pw_or1 (pt_cmpR op_gt (pe_callB call_len_seq (by rfl) m_len (by decide +kernel) (pa_cons (pe_call c_ends_among.G (hr.mono (by decide)) (by rfl) c_ends_among.g c_ends_among.kp c_ends_among.b .nil pass0 (pa_cons (pv 0) pa_nil)) pa_nil)) (pe_glob (v := .int 6) (by rfl) g_MOST_ENDS ⟨_, rfl⟩) (nomark _))))) (pss_one (ps_ret pe_bl)) pss_nil)
      (pss_one (ps_ret (pe_cmpR op_gt (pe_callB call_len_seq (by rfl) m_len (by decide +kernel) (pa_cons (pe_call c_way_up.G (hr.mono (by decide)) (by rfl) c_way_up.g c_way_up.kp c_way_up.b .nil pass0 (pa_cons (pv 0) (pa_cons (pv 1) pa_nil))) pa_nil)) (pe_op op_add (pe_glob (v := .int 3) (by rfl) g_MOST_STEPS ⟨_, rfl⟩) pe_int) (nomark _))))), ?_⟩
    obtain ⟨d, ls, p, w, rfl, hL, hf, nd, hw, z1, z2, z3, q⟩ := h
    have hL' := hL
    obtain ⟨kvs, hd, hp⟩ := hL'
    have el : ls.length = kvs.length := hp.length
    refine ⟨.ref d, rfl, d, kvs, rfl, hd, 9, 1, rfl, rfl, _, _, rfl, rfl, _, rfl, iteDN (by omega) ?_⟩
    refine ⟨.ref d, rfl, d, ls, rfl, hL, by omega, hf, fun H1 t s1 nt ht => ?_⟩
    refine ⟨t, _, rfl, .inr (SqT.of ht), _, 6, rfl, rfl, _, rfl, ?_⟩
    refine iteDN (by rw [List.length_map]; omega) ?_
    refine ⟨.ref d, rfl, .str p, rfl, d, ls, p, w, kvs, rfl, .inl (s1 _ _ hd), paired_mono (fun _ _ x => x.same s1) hp, nd, hw, by omega, fun H2 r s2 nr hr2 => ?_⟩
    refine ⟨r, _, rfl, .inl (SqL.of hr2), 3, 1, rfl, rfl, _, _, rfl, rfl, ?_⟩
    show Q (.bl (decide ((3 + 1 : Int) < ((w.map V.str).length : Int)))) H2
    rw [decide_eq_false (by rw [List.length_map]; omega)]
    exact q H2 (s1.trans s2)

theorem ok_read_part {f : Addr} {fd : FuncData} (F : Fun K "read_part" "read_part" s_read_part f fd) (m_dict : mg "dict" = none) (m_zip : mg "zip" = none) {a_MARKS : Addr} (g_MARKS : mg "MARKS" = some (.ref a_MARKS)) (t_MARKS : ∀ H, Dp K H (.ref a_MARKS) (.tuple marksD)) (m_len : mg "len" = none) (m_tuple : mg "tuple" = none) (c_is_name : Cal P w K mg base 1 "is_name" ["value"] (sp_is_name K)) (c_read_share : Cal P w K mg base 2 "read_share" ["units", "word"] (sp_read_share K)) : FnOk P w K mg base CX0 3 f fd ["units", "lines", "words"] (sp_read_part K) := by
  refine F.ok sc_read_part (fun vs H Q E h => ?_) (fun cdv A outer s H vs Q E hr h => ?_)
  · obtain ⟨u, d, l, b, h, nm, ab, kvs, ls, sh, fa, ms, ws, xs, rfl, _⟩ := h
    rfl
  · refine ⟨_, (pss_cons (ps_if (PW.pt (pw_or (pt_cmpR op_lt (pe_callB call_len_seq (by rfl) m_len (by decide +kernel) (pa_cons (pv 2) pa_nil)) pe_int (nomark _)) (pw_or (pt_cmpR op_ne (pe_ix ix_list (pv 2) pe_int (fun _ _ => rfl)) pe_str (nomark _)) (pw_or1 (pt_cmpR op_ne (pe_ix ix_list (pv 2) pe_int (fun _ _ => rfl)) pe_str (nomark _)))))) (pss_one (ps_ret pe_non)) pss_nil)
      (pss_cons (ps_par (i := 3) (j := 4) (by rfl) sc_read_part.nd rfl rfl (by decide) rfl rfl (pa_cons (pe_ix ix_list (pv 2) pe_int (fun _ _ => rfl)) (pa_cons (pe_ix ix_list (pv 2) pe_int (fun _ _ => rfl)) pa_nil)) (by rfl))
      (pss_cons (ps_if (PW.pt (pw_or (pt_not (pt_val (pe_call c_is_name.G (hr.mono (by decide)) (by rfl) c_is_name.g c_is_name.kp c_is_name.b .nil pass0 (pa_cons (pv 3) pa_nil)))) (pw_or (pt_cmp (pc_din (hu_of hr) (pv 3) (pv 1))) (pw_or1 (pt_cmp (pc_dnotin (hu_of hr) (pv 4) (pv 1))))))) (pss_one (ps_ret pe_non)) pss_nil)
      (pss_cons (ps_set (i := 5) sc_read_part.nd rfl (.inl rfl) (pe_callTy call_tuple_of (by rfl) m_tuple (by decide +kernel) (pa_cons (pe_sliceS (pv 2) (po_some pe_int) po_none (po_some pe_int)) pa_nil)))
      (pss_cons (ps_setLc (i := 6) (own := [("word", 8)]) (g := gName 8) rfl sc_read_part.nd rfl rfl (sw_true rfl rfl rfl (by decide +kernel)) (pi_list (pe_sliceS (pv 2) (po_some pe_int) po_none (po_some pe_int))) (blkOk_by (own := [("word", 8)]) (N := N_read_part) (sc := defScope s_read_part) (by decide +kernel)) (fun _ _ _ _ _ => (pg_name (i := 8) sc_read_part.nd rfl (.inl rfl))) (fun _ _ _ _ _ => pts_nil) (fun _ _ _ _ _ => (pe_call c_read_share.G (hr.mono (by decide)) (by rfl) c_read_share.g c_read_share.kp c_read_share.b .nil pass0 (pa_cons (pv 0) (pa_cons (pv 8) pa_nil)))))
      (pss_cons (ps_if (PW.pt (pw_or (pt_cmpR (op_notInTp (u65 hr)) (pv 5) (pe_glob (v := .ref a_MARKS) (by rfl) g_MARKS rfl) rfl) (pw_or (pt_cmpR op_ne (pe_callB call_len_seq (by rfl) m_len (by decide +kernel) (pa_cons (pv 6) pa_nil)) (pe_callB call_len_seq (by rfl) m_len (by decide +kernel) (pa_cons (pv 5) pa_nil)) (nomark _)) (pw_or1 (pt_cmpR op_in_seq pe_non (pv 6) rfl))))) (pss_one (ps_ret pe_non)) pss_nil)
      (pss_cons (ps_set (i := 7) sc_read_part.nd rfl (.inl rfl) (pe_dz rfl (by rfl) m_dict (by rfl) m_zip (pa_cons (pv 5) (pa_cons (pv 6) pa_nil))))
      (pss_one (ps_ret (pe_tup (pa_cons (pv 4) (pa_cons (pe_dget1 (hu_of hr) (pv 7) pe_str ⟨rfl, rfl, rfl, rfl⟩) (pa_cons (pe_dget1 (hu_of hr) (pv 7) pe_str ⟨rfl, rfl, rfl, rfl⟩) pa_nil))))))))))))), ?_⟩
    obtain ⟨u, d, l, b, h, nm, ab, kvs, ls, sh, fa, ms, ws, xs, rfl, hu, hd, hl, ho, hn, h0, h1, q⟩ := h
    obtain ⟨z1, z2, z3, z4⟩ := opts_len (nm := nm) (ab := ab) ho
    refine ⟨.ref l, rfl, l, _, rfl, .inl hl, _, 4, rfl, rfl, _, rfl, iteDN (by rw [List.length_map]; omega) ?_⟩
    refine ⟨.ref l, rfl, l, _, 0, .str "part", rfl, rfl, hl, atI_nat (j := 0) rfl, rfl, _, rfl, iteF ?_⟩
    refine ⟨.ref l, rfl, l, _, 2, .str "of", rfl, rfl, hl, atI_nat (j := 2) rfl, rfl, _, rfl, iteF ?_⟩
    refine ⟨.ref l, rfl, l, _, 1, .str nm, rfl, rfl, hl, atI_nat (j := 1) rfl, .ref l, rfl, l, _, 3, .str ab, rfl, rfl, hl, atI_nat (j := 3) rfl, _, _, rfl, ?_⟩
    obtain ⟨va, hva⟩ := Option.isSome_iff_exists.mp h1
    refine ⟨.str nm, rfl, nm, rfl, hn, true, rfl, iteF ⟨.str nm, rfl, .ref d, rfl, d, none, rfl, .inl ⟨kvs, .inr nm, .inl hd, rfl, h0.symm⟩, _, rfl, iteF ⟨.str ab, rfl, .ref d, rfl, d, some va, rfl, .inl ⟨kvs, .inr ab, .inl hd, rfl, hva.symm⟩, _, rfl, iteF ?_⟩⟩⟩
    -- the marks
    have em := opts_marks ho nm ab
    have ew := opts_words ho nm ab
    refine next_in (seq_set ?_)
    refine ⟨.ref l, rfl, 4, rfl, 2, rfl, l, _, rfl, hl, by decide, by rw [em, List.length_map]; exact Nat.le_trans z1 (by decide), fun m0 n0 => ?_⟩
    rw [em]
    refine ⟨m0, _, rfl, .inl ⟨SqL.of upd_same, fun M nM => ?_⟩⟩
    have s2 : Same H (upd (upd H m0 (.lst (ms.map V.str))) M (.tup (ms.map V.str))) := (sameU n0).trans (sameU nM)
    have hM : (upd (upd H m0 (.lst (ms.map V.str))) M (.tup (ms.map V.str))) M = some (.tup (ms.map V.str)) := upd_same
    generalize L2.upd (L2.upd H m0 (.lst (ms.map V.str))) M (.tup (ms.map V.str)) = H2 at s2 hM ⊢
    -- the shares
    refine seq_set ?_
    refine ⟨.ref l, rfl, 5, rfl, 2, rfl, l, _, rfl, sqL_same s2 hl, by decide, by rw [ew, List.length_map, z2]; exact Nat.le_trans z1 (by decide), fun w0 n1 => ?_⟩
    rw [ew]
    have s3 : Same H2 (upd H2 w0 (.lst (ws.map V.str))) := sameU n1
    have hW : (upd H2 w0 (.lst (ws.map V.str))) w0 = some (.lst (ws.map V.str)) := upd_same
    generalize L2.upd H2 w0 (.lst (ws.map V.str)) = H3 at s3 hW ⊢
    refine ⟨w0, rfl, ⟨_, SqL.of hW⟩, fun D nD => ?_⟩
    refine lc_it (walk_list (xs := ws.map V.str)) (fun i H' => Same H3 H' ∧ H' D = some (.lst (xs.take i))) ⟨sameU nD, upd_same⟩ (fun i H' _ h => SqL.of (h.1 _ _ hW)) ?_ ?_
    · rintro i x H4 H5 hi ⟨s4, hD⟩ ⟨rfl, hx⟩
      rw [List.getElem?_map] at hx
      obtain ⟨w1, e1, rfl⟩ := Option.map_eq_some_iff.mp hx
      obtain ⟨v, ev, hv⟩ := opts_shw ho e1
      refine ⟨rfl, .ref u, rfl, .str w1, rfl, u, b, h, w1, v, rfl, hu.same ((s2.trans s3).trans s4), hv, _, hD, ?_, ?_, ?_⟩
      · rw [List.length_take]
        exact small1000 (Nat.le_trans (Nat.min_le_right _ _) (by omega))
      · intro b' o eb
        rw [upd_ne (ne_of_none eb nD)]
        exact s4 _ _ eb
      · rw [upd_same, List.take_add_one, ev]
        rfl
    rintro H4 ⟨s4, hD⟩
    have sA : Same H2 H4 := s3.trans s4
    have hD' : H4 D = some (.lst xs) := by
      rw [hD, List.take_of_length_le]
      rw [List.length_map]
      omega
    have hM' := sA _ _ hM
    obtain ⟨f1, f2⟩ := opts_flat ho
    refine ⟨.ref M, rfl, .tuple (ms.map PyData.str), marksD, .tup (SqT.of hM') (dp_strs ms), t_MARKS _, opts_shaped ho, marks_shaped, _, rfl, ?_⟩
    show if (!(marksD.any fun z => PyData.eqv z (.tuple (ms.map PyData.str)))) = true then _ else _
    rw [opts_in ho]
    refine iteF ⟨.ref D, rfl, D, xs, rfl, .inl (SqL.of hD'), .ref M, rfl, M, _, rfl, .inr (SqT.of hM'), rfl, _, rfl, ?_⟩
    rw [show decide (V.int (xs.length : Int) = V.int ((ms.map V.str).length : Int)) = true from decide_eq_true (by rw [List.length_map, z3])]
    refine iteF ⟨.ref D, rfl, D, xs, rfl, .inl (SqL.of hD'), rfl, f1, _, rfl, ?_⟩
    show if inV .non xs = true then _ else _
    rw [f2]
    refine iteF ?_
    -- what is told
    have ek : (ms.map Sum.inr).map kV = ms.map V.str := by
      rw [List.map_map]
      rfl
    refine next_in (seq_set ?_)
    refine ⟨.ref M, rfl, .ref D, rfl, M, D, ms.map Sum.inr, xs, rfl, SqT.of (by rw [ek]; exact hM'), SqL.of hD', fun T nT => ?_⟩
    obtain ⟨g1, g2⟩ := opts_get ho
    refine ret_in ?_
    refine ⟨.str ab, rfl, .ref T, rfl, T, rfl, .inl ⟨_, .inl upd_same⟩, _, .inl ⟨_, .inr "is", .inl upd_same, rfl, rfl⟩, .ref T, rfl, T, rfl, .inl ⟨_, .inl upd_same⟩, _, .inl ⟨_, .inr "all", .inl upd_same, rfl, rfl⟩, by show 3 ≤ sizeLine; decide, fun r nr => ?_⟩
    rw [g1, g2]
    have sT := (s2.trans sA).trans (sameU (o := .dK (mergeK [] ((ms.map Sum.inr).zip xs))) nT)
    exact q _ r (sT.trans (sameU nr)) (none_of sT nr) upd_same
end
end Uq

namespace Uq
open PySem PySem.Spec PyProof.Rows L2

theorem walk3 {K : PySem.W.Frag} {a : Addr} {xs : List V} : Walk (Ite3 K a) xs.length (fun H => SqL K H a xs) (YPair (fun i => some (.int ((i : Nat) + 3 : Int))) (fun i => xs[i]?)) := by
  refine ⟨fun i _ hi q => ⟨xs, xs[i], q, List.getElem?_eq_getElem hi⟩, fun _ q => ⟨xs, q, Nat.le_refl _⟩, fun i H v H' _ q y => ?_⟩
  obtain ⟨T, x, h1, h2, h3, h4⟩ := y
  exact ⟨T, .int ((i : Int) + 3), x, h1, h2, h3, rfl, h4 xs q⟩
/-! ### the rows of a page -/
structure Rw where
  nm : Str
  ab : Str
  sh : V
  fa : V
  ms : List Str
  ws : List Str
  xs : List V
def lnOf (r : Rw) : Ln := ⟨r.nm, .str r.ab, r.sh, r.fa⟩
def top (x : Str) : Ln := ⟨x, .non, .non, .non⟩
def linesOf (x : Str) (rs : List Rw) : List Ln := top x :: rs.map lnOf
/-- a row that may stand beneath these lines -/
structure GoodAt (b : Nat) (ls : List Ln) (r : Rw) : Prop where
  opts : Opts b r.sh r.fa r.ms r.ws r.xs
  nam : Nm r.nm
  new : r.nm ∉ ls.map (·.nm)
  abo : r.ab ∈ ls.map (·.nm)
  few : ls.length + 1 ≤ 10
  end_ : (ends (ls ++ [lnOf r])).length ≤ 6
  way : ∃ w, Way (ls ++ [lnOf r]) r.nm w ∧ w.length ≤ 4
def Good (b : Nat) (x : Str) (rs : List Rw) : Prop := ∀ k r, rs[k]? = some r → GoodAt b (linesOf x (rs.take k)) r
theorem lns_none {K : PySem.W.Frag} {H : Hp} {nm : Str} : ∀ {ls : List Ln} {kvs : List (Key × V)}, Paired (Lat K H) ls kvs → nm ∉ ls.map (·.nm) → valV kvs (.inr nm) = none
  | _, _, .nil, _ => rfl
  | l :: ls, kv :: kvs, .cons a r, h => by
    rw [valV_neg]
    · exact lns_none r fun z => h (List.mem_cons_of_mem _ z)
    · intro e
      rw [a.1] at e
      exact h (by rw [List.map_cons, Sum.inr.inj e]; exact List.mem_cons_self)
theorem lns_some {K : PySem.W.Frag} {H : Hp} {nm : Str} : ∀ {ls : List Ln} {kvs : List (Key × V)}, Paired (Lat K H) ls kvs → nm ∈ ls.map (·.nm) → (valV kvs (.inr nm)).isSome = true
  | _, _, .nil, h => nomatch h
  | l :: ls, kv :: kvs, .cons a r, h => by
    by_cases e : kv.1 = Sum.inr nm
    · rw [valV_pos e]
      rfl
    · rw [valV_neg e]
      refine lns_some r ?_
      rcases List.mem_cons.mp h with z | z
      · exact absurd (by rw [a.1, z]) e
      · exact z
theorem put_new {kvs : List (Key × V)} {k : Key} {v : V} (h : valV kvs k = none) : putK kvs k v = kvs ++ [(k, v)] := by
  unfold putK
  rw [valV_any, h]
  rfl
theorem paired_snoc {α β : Type} {R : α → β → Prop} {x : α} {y : β} (r : R x y) : ∀ {xs : List α} {ys : List β}, Paired R xs ys → Paired R (xs ++ [x]) (ys ++ [y])
  | _, _, .nil => .cons r .nil
  | _, _, .cons a h => .cons a (paired_snoc r h)
theorem lines_take {x : Str} {rs : List Rw} {i : Nat} {r : Rw} (e : rs[i]? = some r) : linesOf x (rs.take (i + 1)) = linesOf x (rs.take i) ++ [lnOf r] := by
  unfold linesOf
  rw [List.take_add_one, e, List.map_append]
  rfl
theorem lines_flat (x : Str) (rs : List Rw) : (wholes (linesOf x rs)).all flatV = true := by
  unfold wholes linesOf
  rw [List.all_eq_true]
  intro v hv
  simp only [List.map_cons, List.map_map, List.mem_cons, List.mem_map] at hv
  rcases hv with rfl | ⟨r, _, rfl⟩ <;> rfl
theorem lines_nodup {b : Nat} {x : Str} {rs : List Rw} (h : Good b x rs) : ∀ i, i ≤ rs.length → ((linesOf x (rs.take i)).map (·.nm)).Nodup
  | 0, _ => by simp [linesOf]
  | i + 1, hi => by
    have e : rs[i]? = some rs[i] := List.getElem?_eq_getElem hi
    rw [lines_take e, List.map_append, List.nodup_append]
    refine ⟨lines_nodup h i (by omega), by simp, fun a ha c hc => ?_⟩
    simp only [List.map_cons, List.map_nil, List.mem_singleton] at hc
    subst hc
    intro z
    exact (h i _ e).new (show (lnOf rs[i]).nm ∈ _ from z ▸ ha)
def RowsAt (K : PySem.W.Frag) (H : Hp) (l : V) (r : Rw) : Prop := ∃ a : Addr, l = .ref a ∧ SqL K H a ((lineW r.nm r.ab r.ms r.ws).map V.str)
def sp_read_parts (K : PySem.W.Frag) : Sp := fun vs H Q _ => ∃ (u R : Addr) (b : Nat) (h x : Str) (Ls : List V) (rs : List Rw), vs = [.ref u, .str x, .ref R] ∧ Un K H u b h ∧ SqL K H R Ls ∧ Paired (RowsAt K H) Ls rs ∧ Good b x rs ∧
  ∀ H' d, Same H H' → H d = none → Lns K H' d (linesOf x rs) → Q (.ref d) H'
section
variable {P : Program} {w : World} {K : PySem.W.Frag} {mg : Str → Option Value} {base : Heap}
theorem ok_read_parts {f : Addr} {fd : FuncData} (F : Fun K "read_parts" "read_parts" s_read_parts f fd) (m_enumerate : mg "enumerate" = none) (c_read_part : Cal P w K mg base 3 "read_part" ["units", "lines", "words"] (sp_read_part K)) (c_is_too_much : Cal P w K mg base 2 "is_too_much" ["lines", "part"] (sp_is_too_much K)) : FnOk P w K mg base CX0 4 f fd ["units", "first", "rows"] (sp_read_parts K) := by
  refine F.ok sc_read_parts (fun vs H Q E h => ?_) (fun cdv A outer s H vs Q E hr h => ?_)
  · obtain ⟨u, R, b, h, x, Ls, rs, rfl, _⟩ := h
    rfl
  · refine ⟨_, (pss_cons (ps_set (i := 3) sc_read_parts.nd rfl (.inl rfl) (pe_disp (pps_cons (pv 1) (pe_tup (pa_cons pe_non (pa_cons pe_non (pa_cons pe_non pa_nil)))) pps_nil) rfl rfl (fun z => nomatch z) (by decide)))
      (pss_cons (ps_for PassesOwn.never rfl (pi_enum3 (by rfl) m_enumerate (pa_cons (pv 2) pa_nil)) (pg_tup rfl (pgs_cons (pg_name (i := 4) sc_read_parts.nd rfl (.inl rfl)) (pgs_cons (pg_name (i := 5) sc_read_parts.nd rfl (.inl rfl)) pgs_nil)))
        (pss_cons (ps_set (i := 6) sc_read_parts.nd rfl (.inl rfl) (pe_call c_read_part.G (hr.mono (by decide)) (by rfl) c_read_part.g c_read_part.kp c_read_part.b .nil pass0 (pa_cons (pv 0) (pa_cons (pv 3) (pa_cons (pv 5) pa_nil)))))
        (pss_cons (ps_if (pt_cmpR op_isN (pv 6) pe_non (nomark _)) (pss_one ps_never) pss_nil)
        (pss_cons (ps_set (i := 7) sc_read_parts.nd rfl (.inl rfl) (pe_ix ix_list (pv 5) pe_int (fun _ _ => rfl)))
        (pss_cons (ps_dput (hu_of hr) (pv 3) (pv 7) (pv 6) rfl)
        (pss_one (ps_if (pt_val (pe_call c_is_too_much.G (hr.mono (by decide)) (by rfl) c_is_too_much.g c_is_too_much.kp c_is_too_much.b .nil pass0 (pa_cons (pv 3) (pa_cons (pv 7) pa_nil)))) (pss_one ps_never) pss_nil)))))))
      (pss_one (ps_ret (pv 3))))), ?_⟩
    obtain ⟨u, R, b, h, x, Ls, rs, rfl, hu, hR, hL, hg, q⟩ := h
    have hlen : Ls.length = rs.length := hL.length
    refine seq_set fun d nd => ⟨.str x, rfl, by show 3 ≤ sizeLine; decide, fun t0 nt => ?_⟩
    have ntd : t0 ≠ d := fun z => by
      rw [z, upd_same] at nt
      cases nt
    refine ⟨by rw [upd_ne (Ne.symm ntd)]; exact upd_same, [(.inr x, .ref t0)], rfl, by show 1 ≤ 15; decide, ?_⟩
    have n0 : H t0 = none := by
      rw [upd_ne ntd] at nt
      exact nt
    have hk0 : mergeK [] [((.inr x : Key), V.ref t0)] = [(.inr x, .ref t0)] := rfl
    rw [hk0]
    have sG : Same H (upd (upd (upd H d (.dK [])) t0 (.tup [.non, .non, .non])) d (.dK [(.inr x, .ref t0)])) := fun c o e => by
      rw [upd_ne (ne_of_none e nd), upd_ne (ne_of_none e n0), upd_ne (ne_of_none e nd)]
      exact e
    have hGd : (upd (upd (upd H d (.dK [])) t0 (.tup [.non, .non, .non])) d (.dK [(.inr x, .ref t0)])) d = some (.dK [(.inr x, .ref t0)]) := upd_same
    have hGt : (upd (upd (upd H d (.dK [])) t0 (.tup [.non, .non, .non])) d (.dK [(.inr x, .ref t0)])) t0 = some (.tup [.non, .non, .non]) := by
      rw [upd_ne ntd, upd_same]
    generalize L2.upd (L2.upd (L2.upd H d (.dK [])) t0 (.tup [.non, .non, .non])) d (.dK [(.inr x, .ref t0)]) = G at sG hGd hGt ⊢
    refine ⟨.ref R, rfl, R, Ls, rfl, sqL_same sG hR, for_it (walk3 (xs := Ls)) (fun i σ H' => Same H H' ∧ (∃ kvs, H' d = some (.dK kvs) ∧ Paired (Lat K H') (linesOf x (rs.take i)) kvs) ∧ ∃ s4 s5 s6 s7, σ = [some (.ref u), some (.str x), some (.ref R), some (.ref d), s4, s5, s6, s7]) ⟨sG, ⟨_, hGd, .cons ⟨rfl, t0, rfl, SqT.of hGt⟩ .nil⟩, none, none, none, none, rfl⟩ (fun i σ H' _ h => sqL_same h.1 hR) ?_ ?_⟩
    · rintro i xv σ H1 H2 hi ⟨s1, ⟨kvs, hd, hp⟩, t4, t5, t6, t7, rfl⟩ ⟨T, y, z, rfl, nT, rfl, ey, ez⟩
      cases ey
      have hi2 : i < rs.length := by omega
      have er : rs[i]? = some rs[i] := List.getElem?_eq_getElem hi2
      have hz : RowsAt K H z rs[i] := by
        have e2 : ∀ {xs : List V} {ys : List Rw} {i : Nat} {x : V} {y : Rw}, Paired (RowsAt K H) xs ys → xs[i]? = some x → ys[i]? = some y → RowsAt K H x y := by
          intro xs ys i x y h
          induction h generalizing i with
          | nil => intro a; simp at a
          | cons a r ih =>
            cases i with
            | zero =>
              intro e1 e2
              cases Option.some.inj e1
              cases Option.some.inj e2
              exact a
            | succ i => exact fun e1 e2 => ih e1 e2
        exact e2 hL ez er
      obtain ⟨a, rfl, hw⟩ := hz
      have ga := hg i _ er
      generalize rs[i] = r at er hw ga
      have s2 := s1.trans (sameU (o := .tup [.int ((i : Nat) + 3 : Int), .ref a]) nT)
      have nTd : d ≠ T := ne_of_none hd nT
      have hd2 : (upd H1 T (.tup [.int ((i : Nat) + 3 : Int), .ref a])) d = some (.dK kvs) := by
        rw [upd_ne nTd]
        exact hd
      have hp2 := paired_mono (fun _ _ y => Lat.same (sameU (o := .tup [.int ((i : Nat) + 3 : Int), .ref a]) nT) y) hp
      refine ⟨T, _, rfl, SqT.of upd_same, rfl, _, _, rfl, _, _, rfl, rfl, ?_⟩
      generalize L2.upd H1 T _ = H2 at s2 hd2 hp2 ⊢
      refine seq_set ?_
      refine ⟨.ref u, rfl, .ref d, rfl, .ref a, rfl, u, d, a, b, h, r.nm, r.ab, kvs, linesOf x (rs.take i), r.sh, r.fa, r.ms, r.ws, r.xs, rfl, hu.same s2, hd2, sqL_same s2 hw, ga.opts, ga.nam, lns_none hp2 ga.new, lns_some hp2 ga.abo, fun H3 t s3 nt3 ht3 => ?_⟩
      refine ⟨.ref t, rfl, rfl, _, rfl, ?_⟩
      rw [show decide (V.ref t = V.non) = false from decide_eq_false fun z => nomatch z]
      refine iteF ?_
      refine next_in (seq_set ?_)
      have s23 := s2.trans s3
      refine ⟨.ref a, rfl, a, _, 1, .str r.nm, rfl, rfl, sqL_same s23 hw, atI_nat (j := 1) rfl, ?_⟩
      have hd3 := s3 _ _ hd2
      have hp3 := paired_mono (fun _ _ y => Lat.same s3 y) hp2
      have hz3 : kvs.length < sizeLine := by
        rw [← hp3.length]
        have z := ga.few
        exact small1000 (by omega)
      refine ⟨.ref t, rfl, .ref d, rfl, .str r.nm, rfl, d, _, rfl, .inl ⟨kvs, .inr r.nm, hd3, rfl, hz3, rfl⟩, ?_⟩
      rw [put_new (lns_none hp3 ga.new)]
      have ntd3 : t ≠ d := fun z => by
        rw [z, hd2] at nt3
        cases nt3
      have s4 : Same H (upd H3 d (.dK (kvs ++ [(.inr r.nm, .ref t)]))) := fun c o e => by
        rw [upd_ne (ne_of_none e nd)]
        exact s23 _ _ e
      have hd4 : (upd H3 d (.dK (kvs ++ [(.inr r.nm, .ref t)]))) d = some (.dK (kvs ++ [(.inr r.nm, .ref t)])) := upd_same
      have hp4 : Paired (Lat K (upd H3 d (.dK (kvs ++ [(.inr r.nm, .ref t)])))) (linesOf x (rs.take (i + 1))) (kvs ++ [(.inr r.nm, .ref t)]) := by
        rw [lines_take er]
        exact paired_snoc ⟨rfl, t, rfl, sqT_upd (SqT.of ht3) hd3⟩ (paired_mono (fun _ _ y => Lat.lock y hd3) hp3)
      generalize L2.upd H3 d (.dK (kvs ++ [(.inr r.nm, .ref t)])) = H4 at s4 hd4 hp4 ⊢
      obtain ⟨w, hw1, hw2⟩ := ga.way
      have few := ga.few
      have nd' := lines_nodup hg (i + 1) (by omega)
      refine ⟨.ref d, rfl, .str r.nm, rfl, d, linesOf x (rs.take (i + 1)), r.nm, w, rfl, ⟨_, hd4, hp4⟩, lines_flat _ _, nd', by rw [lines_take er]; exact hw1, ?_, by rw [lines_take er]; exact ga.end_, hw2, fun H5 s5 => ?_⟩
      · rw [lines_take er, List.length_append]
        simp only [List.length_cons, List.length_nil]
        omega
      · refine ⟨_, rfl, iteF ?_⟩
        exact ⟨s4.trans s5, ⟨_, s5 _ _ hd4, paired_mono (fun _ _ y => Lat.same s5 y) hp4⟩, _, _, _, _, rfl⟩
    · rintro σ H1 ⟨s1, ⟨kvs, hd, hp⟩, t4, t5, t6, t7, rfl⟩
      refine ⟨.ref d, rfl, q H1 d s1 nd ⟨kvs, hd, ?_⟩⟩
      rw [hlen, List.take_length] at hp
      exact hp
end
end Uq

namespace Uq
open PySem PySem.Spec PyProof.Rows L2
open TL

/-! ### the text of a page -/
structure Wd (x : Str) : Prop where
  len : x.length ≤ 8
  sp : (32 : Nat) ∉ tl x
  nl : (10 : Nat) ∉ tl x
theorem tl_len (x : Str) : (tl x).length = x.length := by
  show x.cps.toList.length = x.cps.size
  simp
theorem mem_joinL {c : Nat} {y : List Nat} : ∀ {ps : List (List Nat)}, c ∈ joinL y ps → c ∈ y ∨ ∃ p ∈ ps, c ∈ p
  | [], h => nomatch h
  | [p], h => .inr ⟨p, List.mem_cons_self, h⟩
  | p :: q :: r, h => by
    have h' : c ∈ p ++ (y ++ joinL y (q :: r)) := h
    rcases List.mem_append.mp h' with h | h
    · exact .inr ⟨p, List.mem_cons_self, h⟩
    · rcases List.mem_append.mp h with h | h
      · exact .inl h
      · rcases mem_joinL h with h | ⟨p', m, h⟩
        · exact .inl h
        · exact .inr ⟨p', List.mem_cons_of_mem _ m, h⟩
theorem len_joinL {y : List Nat} {n : Nat} : ∀ {ps : List (List Nat)}, (∀ p ∈ ps, p.length + y.length ≤ n) → (joinL y ps).length ≤ n * ps.length
  | [], _ => Nat.zero_le _
  | [p], h => by
    have z := h p List.mem_cons_self
    show p.length ≤ n * 1
    omega
  | p :: q :: r, h => by
    have z := h p List.mem_cons_self
    have i := len_joinL (y := y) (n := n) (ps := q :: r) fun p m => h p (List.mem_cons_of_mem _ m)
    show (p ++ (y ++ joinL y (q :: r))).length ≤ n * ((q :: r).length + 1)
    rw [List.length_append, List.length_append, Nat.mul_succ]
    omega
def spS : Str := Str.ofString " "
def nlS : Str := Str.ofString "\n"
def lineS (ws : List Str) : Str := Txt.join spS ws
def textS (ls : List (List Str)) : Str := Txt.join nlS (ls.map lineS)
theorem line_split {ws : List Str} (hne : ws ≠ []) (h : ∀ w ∈ ws, Wd w) : Txt.split (lineS ws) spS = ws := split_join (s := 32) (S := []) (by decide +kernel) (by decide +kernel) hne fun p m => (h p m).sp
theorem line_nl {ws : List Str} (h : ∀ w ∈ ws, Wd w) : (10 : Nat) ∉ tl (lineS ws) := by
  intro z
  unfold lineS at z
  rw [join_eq, tl_join] at z
  rcases mem_joinL z with z | ⟨p, m, z⟩
  · revert z
    decide +kernel
  · obtain ⟨w, mw, rfl⟩ := List.mem_map.mp m
    exact (h w mw).nl z
theorem line_len {ws : List Str} (h : ∀ w ∈ ws, Wd w) : (lineS ws).length ≤ 9 * ws.length := by
  rw [← tl_len]
  unfold lineS
  rw [join_eq, tl_join]
  have e : (tl spS).length = 1 := by decide +kernel
  have z := len_joinL (y := tl spS) (n := 9) (ps := ws.map tl) fun p m => by
    obtain ⟨w, mw, rfl⟩ := List.mem_map.mp m
    rw [tl_len, e]
    exact Nat.succ_le_succ (h w mw).len
  rw [List.length_map] at z
  exact z
theorem text_split {ls : List (List Str)} (hne : ls ≠ []) (h : ∀ ws ∈ ls, ∀ w ∈ ws, Wd w) : Txt.split (textS ls) nlS = ls.map lineS := by
  refine split_join (s := 10) (S := []) (by decide +kernel) (by decide +kernel) (fun e => hne (List.map_eq_nil_iff.mp e)) fun p m => ?_
  obtain ⟨ws, mw, rfl⟩ := List.mem_map.mp m
  exact line_nl (h ws mw)
theorem text_len {ls : List (List Str)} (h : ∀ ws ∈ ls, (∀ w ∈ ws, Wd w) ∧ ws.length ≤ 8) : (textS ls).length ≤ 73 * ls.length := by
  rw [← tl_len]
  unfold textS
  rw [join_eq, tl_join]
  have e : (tl nlS).length = 1 := by decide +kernel
  have z := len_joinL (y := tl nlS) (n := 73) (ps := (ls.map lineS).map tl) fun p m => by
    obtain ⟨q, mq, rfl⟩ := List.mem_map.mp m
    obtain ⟨ws, mw, rfl⟩ := List.mem_map.mp mq
    have a := line_len (h ws mw).1
    have c := (h ws mw).2
    rw [tl_len, e]
    omega
  rw [List.length_map, List.length_map] at z
  exact z
def rowW (r : Rw) : List Str := lineW r.nm r.ab r.ms r.ws
def pageW (b : Nat) (h x : Str) (rs : List Rw) : List (List Str) := [Str.ofString "in", nS b, h] :: [Str.ofString "asked", x] :: rs.map rowW
def pageT (b : Nat) (h x : Str) (rs : List Rw) : Str := textS (pageW b h x rs)
theorem opts_weave {b : Nat} {sh fa : V} {ms ws : List Str} {vs : List V} (h : Opts b sh fa ms ws vs) : (weave ms ws).length ≤ 4 := by
  cases h <;> simp [weave]
/-- all that a right page is -/
structure Pg (b : Nat) (h x : Str) (rs : List Rw) : Prop where
  b0 : 2 ≤ b
  b1 : b ≤ 100
  how : How h
  nam : Nm x
  good : Good b x rs
  some : rs ≠ []
  wds : ∀ ws ∈ pageW b h x rs, ∀ w ∈ ws, Wd w
theorem Pg.few {b : Nat} {h x : Str} {rs : List Rw} (P : Pg b h x rs) : rs.length ≤ 9 := by
  rcases Nat.lt_or_ge 0 rs.length with z | z
  · have e : rs[rs.length - 1]? = Option.some rs[rs.length - 1] := List.getElem?_eq_getElem (by omega)
    have f := (P.good _ _ e).few
    unfold linesOf at f
    rw [List.length_cons, List.length_map, List.length_take] at f
    omega
  · omega
theorem Pg.len {b : Nat} {h x : Str} {rs : List Rw} (P : Pg b h x rs) : (pageT b h x rs).length ≤ 1000 := by
  have f := P.few
  have z := text_len (ls := pageW b h x rs) fun ws m => ⟨P.wds ws m, by
    unfold pageW at m
    simp only [List.mem_cons, List.mem_map] at m
    rcases m with rfl | rfl | ⟨r, mr, rfl⟩
    · simp
    · simp
    · obtain ⟨k, hk, e⟩ := List.getElem_of_mem mr
      have g := (P.good k r (by rw [List.getElem?_eq_getElem hk, e])).opts
      have w := opts_weave g
      unfold rowW lineW
      simp only [List.length_cons]
      omega⟩
  unfold pageT
  have l : (pageW b h x rs).length = rs.length + 2 := by simp [pageW]
  rw [l] at z
  omega
theorem cut_from {xs : List V} {k : Nat} (hk : k ≤ xs.length) : cutV xs (some (k : Int)) none = xs.drop k := by
  unfold cutV
  rw [show HT.sIx xs.length 0 (some (k : Int)) = min k xs.length from HT.sIx_nat xs.length 0 k, HT.sIx_none, Nat.min_eq_left hk]
  exact List.take_of_length_le (by rw [List.length_drop]; omega)
theorem paired_map {α β γ : Type} {R : α → γ → Prop} {f : β → γ} : ∀ {ys : List α} {xs : List β}, Paired R ys (xs.map f) → Paired (fun y x => R y (f x)) ys xs
  | _, [], .nil => .nil
  | _, _ :: _, .cons a h => .cons a (paired_map h)
def WordsAt (K : PySem.W.Frag) (H : Hp) (y : V) (ws : List Str) : Prop := ∃ a : Addr, y = .ref a ∧ SqL K H a (ws.map V.str)

def sp_read_page (K : PySem.W.Frag) : Sp := fun vs H Q _ => ∃ (b : Nat) (h x : Str) (rs : List Rw), vs = [.str (pageT b h x rs)] ∧ Pg b h x rs ∧
  ∀ H' t u d, Same H H' → H t = none → H u = none → H d = none → H' t = some (.tup [.ref u, .ref d]) → H' u = some (.tup [.int b, .str h]) → Lns K H' d (linesOf x rs) → Q (.ref t) H'
section
variable {P : Program} {w : World} {K : PySem.W.Frag} {mg : Str → Option Value} {base : Heap}
theorem ok_read_page {f : Addr} {fd : FuncData} (F : Fun K "read_page" "read_page" s_read_page f fd) (m_isinstance : mg "isinstance" = none) (m_str : mg "str" = none) (m_len : mg "len" = none) (c_read_units : Cal P w K mg base 3 "read_units" ["words"] (sp_read_units K)) (c_is_asked : Cal P w K mg base 2 "is_asked" ["words"] (sp_is_asked K)) (c_read_parts : Cal P w K mg base 4 "read_parts" ["units", "first", "rows"] (sp_read_parts K)) : FnOk P w K mg base CX0 5 f fd ["text"] (sp_read_page K) := by
  refine F.ok sc_read_page (fun vs H Q E h => ?_) (fun cdv A outer s H vs Q E hr h => ?_)
  · obtain ⟨b, h, x, rs, rfl, _⟩ := h
    rfl
  · refine ⟨_, (pss_cons (ps_if (pt_not (pt_val (pe_callB call_isi (by rfl) m_isinstance (by decide +kernel) (pa_cons (pv 0) (pa_cons (pe_bltn (v := .ty "str") (by rfl) m_str (by decide +kernel) rfl) pa_nil))))) (pss_one ps_never) pss_nil)
      (pss_cons (ps_setLc (i := 1) (own := [("row", 3)]) (g := gName 3) rfl sc_read_page.nd rfl rfl (sw_true rfl rfl rfl (by decide +kernel)) (pi_list (pe_split (pv 0) pe_str)) (blkOk_by (own := [("row", 3)]) (N := N_read_page) (sc := defScope s_read_page) (by decide +kernel)) (fun _ _ _ _ _ => (pg_name (i := 3) sc_read_page.nd rfl (.inl rfl))) (fun _ _ _ _ _ => pts_nil) (fun _ _ _ _ _ => (pe_split (pv 3) pe_str)))
      (pss_cons (ps_set (i := 2) sc_read_page.nd rfl (.inl rfl) (pe_call c_read_units.G (hr.mono (by decide)) (by rfl) c_read_units.g c_read_units.kp c_read_units.b .nil pass0 (pa_cons (pe_ix ix_list (pv 1) pe_int (fun _ _ => rfl)) pa_nil)))
      (pss_cons (ps_if (pt_cmpR op_isN (pv 2) pe_non (nomark _)) (pss_one ps_never) pss_nil)
      (pss_cons (ps_if (PW.pt (pw_or (pt_cmpR op_lt (pe_callB call_len_seq (by rfl) m_len (by decide +kernel) (pa_cons (pv 1) pa_nil)) pe_int (nomark _)) (pw_or1 (pt_not (pt_val (pe_call c_is_asked.G (hr.mono (by decide)) (by rfl) c_is_asked.g c_is_asked.kp c_is_asked.b .nil pass0 (pa_cons (pe_ix ix_list (pv 1) pe_int (fun _ _ => rfl)) pa_nil))))))) (pss_one ps_never) pss_nil)
      (pss_cons (ps_if (pt_cmpR op_lt (pe_callB call_len_seq (by rfl) m_len (by decide +kernel) (pa_cons (pv 1) pa_nil)) pe_int (nomark _)) (pss_one ps_never) pss_nil)
      (pss_one (ps_ret (pe_tup (pa_cons (pv 2) (pa_cons (pe_call c_read_parts.G (hr.mono (by decide)) (by rfl) c_read_parts.g c_read_parts.kp c_read_parts.b .nil pass0 (pa_cons (pv 2) (pa_cons (pe_ix ix_list (pe_ix ix_list (pv 1) pe_int (fun _ _ => rfl)) pe_int (fun _ _ => rfl)) (pa_cons (pe_slice sl_list (pv 1) (po_some pe_int) po_none) pa_nil)))) pa_nil))))))))))), ?_⟩
    obtain ⟨b, h, x, rs, rfl, P, q⟩ := h
    have zt : (pageT b h x rs).length + 2 ≤ sizeLine := Nat.le_trans (Nat.add_le_add_right P.len 2) (by decide)
    have esp : Txt.split (pageT b h x rs) nlS = (pageW b h x rs).map lineS := text_split (by unfold pageW; simp) P.wds
    refine ⟨.str (pageT b h x rs), rfl, .str _, .ty "str", _, _, true, rfl, .ty "str", .base (.str _), kit_ty (by decide +kernel), true, rfl, iteF ?_⟩
    refine next_in (seq_set ?_)
    refine ⟨.str (pageT b h x rs), rfl, ⟨_, rfl⟩, _, nlS, rfl, rfl, by decide +kernel, zt, fun L nL => ?_⟩
    rw [esp]
    have sL : Same H (upd H L (.lst (((pageW b h x rs).map lineS).map V.str))) := sameU nL
    have hL : (upd H L (.lst (((pageW b h x rs).map lineS).map V.str))) L = some (.lst (((pageW b h x rs).map lineS).map V.str)) := upd_same
    generalize L2.upd H L (.lst (((pageW b h x rs).map lineS).map V.str)) = H1 at sL hL ⊢
    refine ⟨L, rfl, ⟨_, SqL.of hL⟩, fun D nD => ?_⟩
    refine lc_it (walk_list (xs := ((pageW b h x rs).map lineS).map V.str)) (fun i H' => Same H1 H' ∧ ∃ ys, H' D = some (.lst ys) ∧ Paired (fun y ws => ∃ a : Addr, y = .ref a ∧ a ≠ D ∧ H' a = some (.lst (ws.map V.str))) ys ((pageW b h x rs).take i)) ⟨sameU nD, [], upd_same, .nil⟩ (fun i H' _ h => SqL.of (h.1 _ _ hL)) ?_ ?_
    · rintro i y H2 H3 hi ⟨s2, ys, hD, hp⟩ ⟨rfl, hy⟩
      rw [List.getElem?_map, List.getElem?_map] at hy
      obtain ⟨sx, e1, rfl⟩ := Option.map_eq_some_iff.mp hy
      obtain ⟨ws, e2, rfl⟩ := Option.map_eq_some_iff.mp e1
      have mw : ws ∈ pageW b h x rs := List.mem_of_getElem? e2
      have hw := P.wds ws mw
      have ne : ws ≠ [] := by
        unfold pageW at mw
        simp only [List.mem_cons, List.mem_map] at mw
        rcases mw with rfl | rfl | ⟨r, _, rfl⟩
        · simp
        · simp
        · simp [rowW, lineW]
      have es := line_split ne hw
      have few := P.few
      have l8 : ws.length ≤ 8 := by
        unfold pageW at mw
        simp only [List.mem_cons, List.mem_map] at mw
        rcases mw with rfl | rfl | ⟨r, mr, rfl⟩
        · simp
        · simp
        · obtain ⟨k, hk, e⟩ := List.getElem_of_mem mr
          have gd := (P.good k r (by rw [List.getElem?_eq_getElem hk, e])).opts
          have wv := opts_weave gd
          unfold rowW lineW
          simp only [List.length_cons]
          omega
      have zl : (lineS ws).length + 2 ≤ sizeLine := by
        have z := line_len hw
        exact Nat.le_trans (show (lineS ws).length + 2 ≤ 74 by omega) (by decide)
      refine ⟨rfl, .str (lineS ws), rfl, ⟨_, rfl⟩, _, spS, rfl, rfl, by decide +kernel, zl, fun a na => ?_⟩
      rw [es]
      have naD : a ≠ D := fun z => by
        rw [z, hD] at na
        cases na
      refine ⟨ys, by rw [upd_ne (Ne.symm naD)]; exact hD, ?_, ?_, _, upd_same, ?_⟩
      · rw [hp.length, List.length_take]
        refine small1000 (Nat.le_trans (Nat.min_le_right _ _) ?_)
        simp [pageW]
        omega
      · intro c o eb
        rw [upd_ne (ne_of_none eb nD), upd_ne (ne_of_none (s2 _ _ eb) na)]
        exact s2 _ _ eb
      · rw [List.take_add_one, e2]
        refine paired_snoc ⟨a, rfl, naD, by rw [upd_ne naD, upd_same]⟩ (paired_mono (fun y w ⟨c, e, n, hc⟩ => ⟨c, e, n, ?_⟩) hp)
        rw [upd_ne n, upd_ne (ne_of_none hc na)]
        exact hc
    rintro H2 ⟨s2, ys, hD, hp⟩
    rw [List.length_map, List.length_map, List.take_length] at hp
    unfold pageW at hp
    cases hp with
    | @cons y0 _ _ _ r0 hp =>
      cases hp with
      | @cons y1 _ yr _ r1 hp =>
        obtain ⟨a0, rfl, _, h0⟩ := r0
        obtain ⟨a1, rfl, _, h1⟩ := r1
        have hrs := paired_map hp
        have zr := hrs.length
        have z1 : 1 ≤ rs.length := by
          rcases Nat.lt_or_ge 0 rs.length with z | z
          · exact z
          · exact absurd (List.length_eq_zero_iff.mp (by omega)) P.some
        refine seq_set ?_
        refine ⟨.ref D, rfl, D, _, 0, .ref a0, rfl, rfl, SqL.of hD, atI_nat (j := 0) rfl, a0, b, h, rfl, SqL.of h0, P.b0, P.b1, P.how, fun H3 u s3 nu hu => ?_⟩
        have hD3 := s3 _ _ hD
        have h13 := s3 _ _ h1
        refine ⟨.ref u, rfl, rfl, _, rfl, ?_⟩
        rw [show decide (V.ref u = V.non) = false from decide_eq_false fun z => nomatch z]
        refine iteF ?_
        refine next_in ?_
        refine ⟨.ref D, rfl, D, _, rfl, .inl (SqL.of hD3), _, 2, rfl, rfl, _, rfl, iteDN (by simp only [List.length_cons]; omega) ?_⟩
        refine ⟨.ref D, rfl, D, _, 1, .ref a1, rfl, rfl, SqL.of hD3, atI_nat (j := 1) rfl, a1, x, rfl, SqL.of h13, P.nam, true, rfl, iteF ?_⟩
        refine next_in ?_
        refine ⟨.ref D, rfl, D, _, rfl, .inl (SqL.of hD3), _, 3, rfl, rfl, _, rfl, iteDN (by simp only [List.length_cons]; omega) ?_⟩
        refine next_in (ret_in ?_)
        refine ⟨.ref u, rfl, .ref u, rfl, .ref D, rfl, D, _, 1, .ref a1, rfl, rfl, SqL.of hD3, atI_nat (j := 1) rfl, a1, _, 1, .str x, rfl, rfl, SqL.of h13, atI_nat (j := 1) rfl, .ref D, rfl, 2, rfl, D, _, rfl, SqL.of hD3, fun R nR => ?_⟩
        have ec : cutV (V.ref a0 :: V.ref a1 :: yr) (some (2 : Int)) none = yr := by
          exact cut_from (k := 2) (by simp)
        rw [ec]
        have s4 : Same H3 (upd H3 R (.lst yr)) := sameU nR
        have hR : (upd H3 R (.lst yr)) R = some (.lst yr) := upd_same
        generalize L2.upd H3 R (.lst yr) = H4 at s4 hR ⊢
        have sH3 : Same H H3 := (sL.trans s2).trans s3
        have s34 := s3.trans s4
        refine ⟨u, R, b, h, x, yr, rs, rfl, ⟨SqT.of (s4 _ _ hu), by have z := P.b0; omega, by have z := P.b1; omega, P.how⟩, SqL.of hR, paired_mono (fun y r ⟨c, e, _, hc⟩ => ⟨c, e, SqL.of (s34 _ _ hc)⟩) hrs, P.good, fun H5 d s5 nd hd => ?_⟩
        refine ⟨by show 2 ≤ sizeLine; decide, fun t nt => ?_⟩
        have sA : Same H H5 := (sH3.trans s4).trans s5
        have nt' : Same H5 (upd H5 t (.tup [.ref u, .ref d])) := sameU nt
        exact q _ t u d (sA.trans nt') (none_of sA nt) (none_of (sL.trans s2) nu) (none_of (sH3.trans s4) nd) upd_same (nt' _ _ (s5 _ _ (s4 _ _ hu))) (hd.same nt')
end
end Uq

namespace Uq
open PySem PySem.Spec PyProof.Rows L2

/-! ### a page, as an object -/
abbrev s_Page__init_ : Stmt := inClass (topS 36) 0
abbrev N_Page__init_ : List Str := ["self", "text", "units", "lines"]
theorem sc_Page__init_ : FnScope N_Page__init_ ["self", "text"] (defScope s_Page__init_) := ⟨rfl, rfl, rfl, by decide +kernel, rfl, by decide +kernel, by decide +kernel⟩
abbrev s_Page_parts : Stmt := inClass (topS 36) 3
abbrev N_Page_parts : List Str := ["self"]
theorem sc_Page_parts : FnScope N_Page_parts ["self"] (defScope s_Page_parts) := ⟨rfl, rfl, rfl, by decide +kernel, rfl, by decide +kernel, by decide +kernel⟩
abbrev s_Page_ends : Stmt := inClass (topS 36) 4
abbrev N_Page_ends : List Str := ["self"]
theorem sc_Page_ends : FnScope N_Page_ends ["self"] (defScope s_Page_ends) := ⟨rfl, rfl, rfl, by decide +kernel, rfl, by decide +kernel, by decide +kernel⟩
abbrev s_Page__len_ : Stmt := inClass (topS 36) 5
abbrev N_Page__len_ : List Str := ["self"]
theorem sc_Page__len_ : FnScope N_Page__len_ ["self"] (defScope s_Page__len_) := ⟨rfl, rfl, rfl, by decide +kernel, rfl, by decide +kernel, by decide +kernel⟩
abbrev s_Page__contains_ : Stmt := inClass (topS 36) 6
abbrev N_Page__contains_ : List Str := ["self", "x"]
theorem sc_Page__contains_ : FnScope N_Page__contains_ ["self", "x"] (defScope s_Page__contains_) := ⟨rfl, rfl, rfl, by decide +kernel, rfl, by decide +kernel, by decide +kernel⟩
/-- what the class must tell of its instances' attributes -/
structure PgC (K : PySem.W.Frag) (C : Addr) : Prop where
  cls : Cls K C
  text : NoAttr K C "_text"
  units : NoAttr K C "_units"
  lines : NoAttr K C "_lines"
  ends : NoAttr K C "_ends"
def pgF (b : Nat) (h x : Str) (rs : List Rw) (u d e : Addr) : List (Str × V) := [("_text", .str (pageT b h x rs)), ("_units", .ref u), ("_lines", .ref d), ("_ends", .ref e)]
structure PgO (K : PySem.W.Frag) (C : Addr) (b : Nat) (h x : Str) (rs : List Rw) (H : Hp) (a dx u d e : Addr) : Prop where
  at_ : H a = some (.ins C dx (pgF b h x rs u d e))
  units : H u = some (.tup [.int b, .str h])
  lines : Lns K H d (linesOf x rs)
  ends : H e = some (.tup ((ends (linesOf x rs)).map V.str))
theorem PgO.same {K : PySem.W.Frag} {C : Addr} {b : Nat} {h x : Str} {rs : List Rw} {H H' : Hp} {a dx u d e : Addr} (s : Same H H') (p : PgO K C b h x rs H a dx u d e) : PgO K C b h x rs H' a dx u d e := ⟨s _ _ p.at_, s _ _ p.units, p.lines.same s, s _ _ p.ends⟩
theorem linesOf_len {x : Str} {rs : List Rw} : (linesOf x rs).length = rs.length + 1 := by simp [linesOf]
def sp_Page_parts (K : PySem.W.Frag) (C : Addr) : Sp := fun vs H Q _ => ∃ (b : Nat) (h x : Str) (rs : List Rw) (a dx u d e : Addr), vs = [.ref a] ∧ PgO K C b h x rs H a dx u d e ∧
  ∀ H' t ob, Same H H' → H t = none → H' t = some (.frz ob (.tup (((linesOf x rs).map (·.nm)).map V.str))) → ob.dict = none → Q (.ref t) H'
def sp_Page_ends (K : PySem.W.Frag) (C : Addr) : Sp := fun vs H Q _ => ∃ (b : Nat) (h x : Str) (rs : List Rw) (a dx u d e : Addr), vs = [.ref a] ∧ PgO K C b h x rs H a dx u d e ∧ Q (.ref e) H
def sp_Page__len_ (K : PySem.W.Frag) (C : Addr) : Sp := fun vs H Q _ => ∃ (b : Nat) (h x : Str) (rs : List Rw) (a dx u d e : Addr), vs = [.ref a] ∧ PgO K C b h x rs H a dx u d e ∧ Q (.int (linesOf x rs).length) H
def sp_Page__contains_ (K : PySem.W.Frag) (C : Addr) : Sp := fun vs H Q _ => ∃ (b : Nat) (h x : Str) (rs : List Rw) (a dx u d e : Addr) (p : Str), vs = [.ref a, .str p] ∧ PgO K C b h x rs H a dx u d e ∧ Q (.bl (decide (p ∈ (linesOf x rs).map (·.nm)))) H
theorem keys_lns {K : PySem.W.Frag} {H : Hp} : ∀ {ls : List Ln} {kvs : List (Key × V)}, Paired (Lat K H) ls kvs → keysV kvs = ls.map fun l => V.str l.nm
  | _, _, .nil => rfl
  | l :: ls, kv :: kvs, .cons a r => by
    show kV kv.1 :: keysV kvs = V.str l.nm :: _
    rw [keys_lns r, a.1]
    rfl
theorem lns_isSome {K : PySem.W.Frag} {H : Hp} {nm : Str} {ls : List Ln} {kvs : List (Key × V)} (hp : Paired (Lat K H) ls kvs) : (valV kvs (.inr nm)).isSome = decide (nm ∈ ls.map (·.nm)) := by
  by_cases e : nm ∈ ls.map (·.nm)
  · rw [lns_some hp e, decide_eq_true e]
  · rw [lns_none hp e, decide_eq_false e]
    rfl
section
variable {P : Program} {w : World} {K : PySem.W.Frag} {mg : Str → Option Value} {base : Heap} {C : Addr}
theorem ok_Page_parts (c : PgC K C) {f : Addr} {fd : FuncData} (F : Fun K "parts" "Page.parts" s_Page_parts f fd) (m_tuple : mg "tuple" = none) : FnOk P w K mg base CX0 1 f fd ["self"] (sp_Page_parts K C) := by
  refine F.ok sc_Page_parts (fun vs H Q E h => ?_) (fun cdv A outer s H vs Q E hr h => ?_)
  · obtain ⟨b, h, x, rs, a, dx, u, d, e, rfl, _⟩ := h
    rfl
  · refine ⟨_, (pss_one (ps_ret (pe_callTy (call_tuple_dF rfl) (by rfl) m_tuple (by decide +kernel) (pa_cons (pe_fld (pv 0) (by rfl)) pa_nil)))), ?_⟩
    obtain ⟨b, h, x, rs, a, dx, u, d, e, rfl, O, q⟩ := h
    obtain ⟨kvs, hd, hp⟩ := O.lines
    refine ret_in ?_
    refine ⟨.ref a, rfl, a, C, dx, _, .ref d, rfl, O.at_, c.cls, c.lines, rfl, d, kvs, rfl, .inl hd, fun t ob nt eo => ?_⟩
    exact q _ t ob (sameU nt) nt (by rw [upd_same, keys_lns hp, List.map_map]; rfl) eo
theorem ok_Page_ends (c : PgC K C) {f : Addr} {fd : FuncData} (F : Fun K "ends" "Page.ends" s_Page_ends f fd) : FnOk P w K mg base CX0 1 f fd ["self"] (sp_Page_ends K C) := by
  refine F.ok sc_Page_ends (fun vs H Q E h => ?_) (fun cdv A outer s H vs Q E hr h => ?_)
  · obtain ⟨b, h, x, rs, a, dx, u, d, e, rfl, _⟩ := h
    rfl
  · refine ⟨_, (pss_one (ps_ret (pe_fld (pv 0) (by rfl)))), ?_⟩
    obtain ⟨b, h, x, rs, a, dx, u, d, e, rfl, O, q⟩ := h
    refine ret_in ?_
    exact ⟨.ref a, rfl, a, C, dx, _, .ref e, rfl, O.at_, c.cls, c.ends, rfl, q⟩
theorem ok_Page__len_ (c : PgC K C) {f : Addr} {fd : FuncData} (F : Fun K "__len__" "Page.__len__" s_Page__len_ f fd) (m_len : mg "len" = none) : FnOk P w K mg base CX0 1 f fd ["self"] (sp_Page__len_ K C) := by
  refine F.ok sc_Page__len_ (fun vs H Q E h => ?_) (fun cdv A outer s H vs Q E hr h => ?_)
  · obtain ⟨b, h, x, rs, a, dx, u, d, e, rfl, _⟩ := h
    rfl
  · refine ⟨_, (pss_one (ps_ret (pe_callB call_lenD (by rfl) m_len (by decide +kernel) (pa_cons (pe_fld (pv 0) (by rfl)) pa_nil)))), ?_⟩
    obtain ⟨b, h, x, rs, a, dx, u, d, e, rfl, O, q⟩ := h
    obtain ⟨kvs, hd, hp⟩ := O.lines
    refine ret_in ?_
    refine ⟨.ref a, rfl, a, C, dx, _, .ref d, rfl, O.at_, c.cls, c.lines, rfl, d, kvs, rfl, hd, ?_⟩
    rw [← hp.length]
    exact q
theorem ok_Page__contains_ (c : PgC K C) {f : Addr} {fd : FuncData} (F : Fun K "__contains__" "Page.__contains__" s_Page__contains_ f fd) (m_isinstance : mg "isinstance" = none) (m_str : mg "str" = none) : FnOk P w K mg base CX0 1 f fd ["self", "x"] (sp_Page__contains_ K C) := by
  refine F.ok sc_Page__contains_ (fun vs H Q E h => ?_) (fun cdv A outer s H vs Q E hr h => ?_)
  · obtain ⟨b, h, x, rs, a, dx, u, d, e, p, rfl, _⟩ := h
    rfl
  · refine ⟨_, (pss_one (ps_ret (pe_and (pe_callB call_isi (by rfl) m_isinstance (by decide +kernel) (pa_cons (pv 1) (pa_cons (pe_bltn (v := .ty "str") (by rfl) m_str (by decide +kernel) rfl) pa_nil))) (pe_one (pe_cmp (pc_din (hu_of hr) (pv 1) (pe_fld (pv 0) (by rfl)))))))), ?_⟩
    obtain ⟨b, h, x, rs, a, dx, u, d, e, p, rfl, O, q⟩ := h
    obtain ⟨kvs, hd, hp⟩ := O.lines
    refine ret_in ?_
    refine ⟨.str p, rfl, .str p, .ty "str", _, _, true, rfl, .ty "str", .base (.str p), kit_ty (by decide +kernel), true, rfl, iteT ?_⟩
    refine ⟨.str p, rfl, .ref a, rfl, a, C, dx, _, .ref d, rfl, O.at_, c.cls, c.lines, rfl, d, _, rfl, .inl ⟨kvs, .inr p, .inl hd, rfl, rfl⟩, ?_⟩
    rw [lns_isSome hp]
    exact q
end

/-! ### its making -/
theorem nodup_lines {b : Nat} {x : Str} {rs : List Rw} (h : Good b x rs) : ((linesOf x rs).map (·.nm)).Nodup := by
  have z := lines_nodup h rs.length (Nat.le_refl _)
  rw [List.take_length] at z
  exact z
theorem sqT_ins {K : PySem.W.Frag} {H : Hp} {t a C dx : Addr} {xs : List V} {fs : List (Str × V)} {o : HO} (h : SqT K H t xs) (ha : H a = some (.ins C dx fs)) : SqT K (upd H a o) t xs := by
  rcases h with (h | ⟨ob, h⟩) | h
  · have n : t ≠ a := fun z => by
      rw [z, ha] at h
      cases h
    exact .inl (.inl (by rw [upd_ne n]; exact h))
  · have n : t ≠ a := fun z => by
      rw [z, ha] at h
      cases h
    exact .inl (.inr ⟨ob, by rw [upd_ne n]; exact h⟩)
  · exact .inr h
theorem Lns.ins {K : PySem.W.Frag} {H : Hp} {d a C dx : Addr} {ls : List Ln} {fs : List (Str × V)} {o : HO} (h : Lns K H d ls) (ha : H a = some (.ins C dx fs)) : Lns K (upd H a o) d ls := by
  obtain ⟨kvs, h1, h2⟩ := h
  have n : d ≠ a := fun z => by
    rw [z, ha] at h1
    cases h1
  exact ⟨kvs, by rw [upd_ne n]; exact h1, paired_mono (fun _ _ ⟨e1, t, e2, e3⟩ => ⟨e1, t, e2, sqT_ins e3 ha⟩) h2⟩
theorem upd_twice {H : Hp} {a : Addr} {o o' : HO} : upd (upd H a o) a o' = upd H a o' := by
  funext b
  by_cases z : b = a
  · subst z
    rw [upd_same, upd_same]
  · rw [upd_ne z, upd_ne z, upd_ne z]
theorem putF_len (f : Str) (v : V) : ∀ fs : List (Str × V), (putF f v fs).length ≤ fs.length + 1
  | [] => Nat.le_refl _
  | (g, x) :: r => by
    unfold putF
    by_cases z : g = f
    · rw [if_pos z]
      exact Nat.le_succ _
    · rw [if_neg z]
      exact Nat.succ_le_succ (putF_len f v r)
theorem flat_wholes {x : Str} {rs : List Rw} : (wholes (linesOf x rs)).all flatV = true := by
  simp [wholes, linesOf, top, lnOf, flatV]
def sp_Page__init_ (K : PySem.W.Frag) (C : Addr) : Sp := fun vs H Q _ => ∃ (b : Nat) (h x : Str) (rs : List Rw) (a dx : Addr), vs = [.ref a, .str (pageT b h x rs)] ∧ Pg b h x rs ∧ H a = some (.ins C dx []) ∧
  ∀ H' u d e, (∀ c o, c ≠ a → H c = some o → H' c = some o) → PgO K C b h x rs H' a dx u d e → Q .non H'
section
variable {P : Program} {w : World} {K : PySem.W.Frag} {mg : Str → Option Value} {base : Heap} {C : Addr}
theorem ok_Page__init_ (c : PgC K C) {f : Addr} {fd : FuncData} (F : Fun K "__init__" "Page.__init__" s_Page__init_ f fd) (c_read_page : Cal P w K mg base 5 "read_page" ["text"] (sp_read_page K)) (c_ends_among : Cal P w K mg base 1 "ends_among" ["lines"] (sp_ends_among K)) : FnOk P w K mg base CX0 6 f fd ["self", "text"] (sp_Page__init_ K C) := by
  refine F.ok sc_Page__init_ (fun vs H Q E h => ?_) (fun cdv A outer s H vs Q E hr h => ?_)
  · obtain ⟨b, h, x, rs, a, dx, rfl, _⟩ := h
    rfl
  · refine ⟨_, (pss_cons (ps_asg (pe_call c_read_page.G (hr.mono (by decide)) (by rfl) c_read_page.g c_read_page.kp c_read_page.b .nil pass0 (pa_cons (pv 1) pa_nil)) (pg_tup rfl (pgs_cons (pg_name (i := 2) sc_Page__init_.nd rfl (.inl rfl)) (pgs_cons (pg_name (i := 3) sc_Page__init_.nd rfl (.inl rfl)) pgs_nil))))
      (pss_cons (ps_fld (pv 0) (pv 1) rfl)
      (pss_cons (ps_fld (pv 0) (pv 2) rfl)
      (pss_cons (ps_fld (pv 0) (pv 3) rfl)
      (pss_one (ps_fld (pv 0) (pe_call c_ends_among.G (hr.mono (by decide)) (by rfl) c_ends_among.g c_ends_among.kp c_ends_among.b .nil pass0 (pa_cons (pv 3) pa_nil)) rfl)))))), ?_⟩
    obtain ⟨b, h, x, rs, a, dx, rfl, hP, ha, q⟩ := h
    refine ⟨.str (pageT b h x rs), rfl, b, h, x, rs, rfl, hP, fun H1 t u d s1 nt nu nd ht hu hd => ?_⟩
    refine ⟨t, _, rfl, SqT.of ht, rfl, ?_⟩
    refine ⟨.ref u, [.ref d], rfl, .ref d, [], rfl, rfl, ?_⟩
    have hA1 : H1 a = some (.ins C dx []) := s1 _ _ ha
    refine ⟨.str (pageT b h x rs), rfl, .ref a, rfl, a, C, dx, _, rfl, hA1, c.cls, c.text, Nat.zero_lt_succ _, ?_⟩
    refine ⟨.ref u, rfl, .ref a, rfl, a, C, dx, _, rfl, upd_same, c.cls, c.units, Nat.lt_of_le_of_lt (putF_len _ _ _) (by decide : 0 + 1 < 1000), ?_⟩
    rw [upd_twice]
    refine ⟨.ref d, rfl, .ref a, rfl, a, C, dx, _, rfl, upd_same, c.cls, c.lines, Nat.lt_of_le_of_lt (Nat.le_trans (putF_len _ _ _) (Nat.succ_le_succ (putF_len _ _ _))) (by decide : 0 + 1 + 1 < 1000), ?_⟩
    rw [upd_twice]
    have au : u ≠ a := (ne_of_none ha nu).symm
    have ad : d ≠ a := (ne_of_none ha nd).symm
    have hF := Nat.lt_of_le_of_lt (Nat.le_trans (putF_len "_lines" (V.ref d) (putF "_units" (V.ref u) (putF "_text" (V.str (pageT b h x rs)) []))) (Nat.succ_le_succ (Nat.le_trans (putF_len _ _ _) (Nat.succ_le_succ (putF_len _ _ _))))) (show 0 + 1 + 1 + 1 < 1000 by decide)
    generalize eF : putF "_lines" (V.ref d) _ = F3 at hF ⊢
    have hd2 : Lns K (upd H1 a (.ins C dx F3)) d (linesOf x rs) := hd.ins hA1
    have hu2 : (upd H1 a (.ins C dx F3)) u = _ := (upd_ne au).trans hu
    have o2 : ∀ c o, c ≠ a → H c = some o → (upd H1 a (.ins C dx F3)) c = some o := fun c o n e => by
      rw [upd_ne n]
      exact s1 _ _ e
    have na2 : (upd H1 a (.ins C dx F3)) a = _ := upd_same
    generalize L2.upd H1 a (.ins C dx F3) = G at hd2 hu2 o2 na2 ⊢
    refine ⟨.ref d, rfl, d, linesOf x rs, rfl, hd2, ?_, ?_, fun G2 e s2 ne he => ?_⟩
    · have := hP.few
      rw [linesOf_len]
      omega
    · exact flat_wholes
    refine ⟨.ref a, rfl, a, C, dx, _, rfl, s2 _ _ na2, c.cls, c.ends, hF, ?_⟩
    have ea : e ≠ a := (ne_of_none na2 ne).symm
    refine q _ u d e (fun c o n ec => ?_) ⟨?_, ?_, ?_, ?_⟩
    · rw [upd_ne n]
      exact s2 _ _ (o2 _ _ n ec)
    · rw [upd_same, ← eF]
      rfl
    · rw [upd_ne au]
      exact s2 _ _ hu2
    · exact (hd2.same s2).ins (s2 _ _ na2)
    · rw [upd_ne ea]
      exact he
end
end Uq

namespace Uq
open PySem PySem.Spec PyProof.Rows L2

/-! ### a page, asked -/
abbrev s_Page__getitem_ : Stmt := inClass (topS 36) 7
abbrev N_Page__getitem_ : List Str := ["self", "at"]
theorem sc_Page__getitem_ : FnScope N_Page__getitem_ ["self", "at"] (defScope s_Page__getitem_) := ⟨rfl, rfl, rfl, by decide +kernel, rfl, by decide +kernel, by decide +kernel⟩
abbrev s_Page_beneath : Stmt := inClass (topS 36) 10
abbrev N_Page_beneath : List Str := ["self", "part", "name"]
theorem sc_Page_beneath : FnScope N_Page_beneath ["self", "part"] (defScope s_Page_beneath) := ⟨rfl, rfl, rfl, by decide +kernel, rfl, by decide +kernel, by decide +kernel⟩
abbrev s_Page_ends_of : Stmt := inClass (topS 36) 11
abbrev N_Page_ends_of : List Str := ["self", "part", "end"]
theorem sc_Page_ends_of : FnScope N_Page_ends_of ["self", "part"] (defScope s_Page_ends_of) := ⟨rfl, rfl, rfl, by decide +kernel, rfl, by decide +kernel, by decide +kernel⟩
def sp_Page__getitem_ (K : PySem.W.Frag) (C : Addr) : Sp := fun vs H Q _ => ∃ (b : Nat) (h x : Str) (rs : List Rw) (a dx u d e : Addr) (l : Ln), vs = [.ref a, .str l.nm] ∧ PgO K C b h x rs H a dx u d e ∧ Good b x rs ∧ l ∈ linesOf x rs ∧
  ∀ t, SqT K H t [l.ab, l.sh, l.fa] → Q (.ref t) H
section
variable {P : Program} {w : World} {K : PySem.W.Frag} {mg : Str → Option Value} {base : Heap} {C fC : Addr} {fdC : FuncData}
theorem ok_Page__getitem_ (c : PgC K C) {f : Addr} {fd : FuncData} (F : Fun K "__getitem__" "Page.__getitem__" s_Page__getitem_ f fd) (dC : Dun K C fC "__contains__") (FC : FnOk P w K mg base CX0 1 fC fdC ["self", "x"] (sp_Page__contains_ K C)) (bC : Binds K fdC ["self", "x"] []) : FnOk P w K mg base CX0 2 f fd ["self", "at"] (sp_Page__getitem_ K C) := by
  refine F.ok sc_Page__getitem_ (fun vs H Q E h => ?_) (fun cdv A outer s H vs Q E hr h => ?_)
  · obtain ⟨b, h, x, rs, a, dx, u, d, e, l, rfl, _⟩ := h
    rfl
  · refine ⟨_, (pss_cons (ps_if (pt_cmpR (op_notInO dC FC (hr.mono (by decide)) bC) (pv 1) (pv 0) rfl) (pss_one ps_never) pss_nil)
      (pss_one (ps_ret (pe_dget (hu_of hr) (pe_fld (pv 0) (by rfl)) (pv 1) (fun _ _ => rfl))))), ?_⟩
    obtain ⟨b, h, x, rs, a, dx, u, d, e, l, rfl, O, g, hl, q⟩ := h
    have hm : l.nm ∈ (linesOf x rs).map (·.nm) := List.mem_map.mpr ⟨l, hl, rfl⟩
    refine ⟨.str l.nm, rfl, .ref a, rfl, a, dx, _, rfl, O.at_, ⟨b, h, x, rs, a, dx, u, d, e, l.nm, rfl, O, ?_⟩⟩
    rw [decide_eq_true hm]
    refine ⟨true, rfl, false, rfl, iteF ?_⟩
    refine next_in (ret_in ?_)
    obtain ⟨kvs, hd, hp⟩ := O.lines
    obtain ⟨t, hv, ht⟩ := lns_get hp (nodup_lines g) hl
    exact ⟨.ref a, rfl, a, C, dx, _, .ref d, rfl, O.at_, c.cls, c.lines, rfl, .str l.nm, rfl, d, .ref t, rfl, .inl ⟨kvs, .inr l.nm, .inl hd, rfl, hv.symm⟩, q t ht⟩
end
end Uq

namespace Uq
open PySem PySem.Spec PyProof.Rows L2

def under (ls : List Ln) (p : Str) : List Str := (ls.filter fun l => decide (l.ab = .str p)).map (·.nm)
def sp_Page_under (K : PySem.W.Frag) (C : Addr) : Sp := fun vs H Q _ => ∃ (b : Nat) (h x : Str) (rs : List Rw) (a dx u d e : Addr) (p : Str), vs = [.ref a, .str p] ∧ PgO K C b h x rs H a dx u d e ∧ Pg b h x rs ∧ p ∈ (linesOf x rs).map (·.nm) ∧
  ∀ H' t, Same H H' → H t = none → H' t = some (.tup ((under (linesOf x rs) p).map V.str)) → Q (.ref t) H'
theorem scal_ab {x p : Str} {rs : List Rw} {l : Ln} (h : l ∈ linesOf x rs) : scal l.ab (.str p) = true := by
  rcases List.mem_cons.mp h with z | z
  · subst z
    rfl
  · obtain ⟨r, _, rfl⟩ := List.mem_map.mp z
    rfl
theorem pe_fldK {X : Cx} {K : PySem.W.Frag} {e : Expr} {f : Str} {pos : Pos} {ta : TE} (hK : X.K = K) (he : PE X e ta) (hb : attributeBase e f X.env (eval e X.env) = eval e X.env) : PE X (.Attribute e f pos) (tFld K ta f) := hK ▸ pe_fld he hb
section
variable {P : Program} {w : World} {K : PySem.W.Frag} {mg : Str → Option Value} {base : Heap} {C fC : Addr} {fdC : FuncData}
theorem ok_Page_beneath (c : PgC K C) {f : Addr} {fd : FuncData} (F : Fun K "beneath" "Page.beneath" s_Page_beneath f fd) (m_tuple : mg "tuple" = none) (dC : Dun K C fC "__contains__") (FC : FnOk P w K mg base CX0 1 fC fdC ["self", "x"] (sp_Page__contains_ K C)) (bC : Binds K fdC ["self", "x"] []) : FnOk P w K mg base CX0 2 f fd ["self", "part"] (sp_Page_under K C) := by
  refine F.ok sc_Page_beneath (fun vs H Q E h => ?_) (fun cdv A outer s H vs Q E hr h => ?_)
  · obtain ⟨b, h, x, rs, a, dx, u, d, e, p, rfl, _⟩ := h
    rfl
  · refine ⟨_, (pss_cons (ps_if (pt_cmpR (op_notInO dC FC (hr.mono (by decide)) bC) (pv 1) (pv 0) rfl) (pss_one ps_never) pss_nil)
      (pss_one (ps_ret (pe_callTy call_tuple_of (by rfl) m_tuple (by decide +kernel) (pa_cons (pe_lock (pe_lc (own := [("name", 2)]) (g := gName 2) rfl sc_Page_beneath.nd (pi_keys (pe_fld (pv 0) (by rfl))) (blkOk_by (own := [("name", 2)]) (N := N_Page_beneath) (sc := defScope s_Page_beneath) (by decide +kernel)) (fun _ _ _ _ _ => (pg_name (i := 2) sc_Page_beneath.nd rfl (.inl rfl))) (fun _ _ _ _ _ => (pts_one (pt_cmpR (r := rEq) op_eq (pe_ix (r := rIxT K) ix_tup (pe_dget (hu_of hr) (pe_fldK (K := K) rfl (pv 0) (by rfl)) (pv 2) (fun _ _ => rfl)) pe_int (fun _ _ => rfl)) (pv 1) (nomark _)))) (fun _ _ _ _ _ => (pv 2)))) pa_nil))))), ?_⟩
    obtain ⟨b, h, x, rs, a, dx, u, d, e, p, rfl, O, hP, hm, q⟩ := h
    refine ⟨.str p, rfl, .ref a, rfl, a, dx, _, rfl, O.at_, ⟨b, h, x, rs, a, dx, u, d, e, p, rfl, O, ?_⟩⟩
    rw [decide_eq_true hm]
    refine ⟨true, rfl, false, rfl, iteF ?_⟩
    obtain ⟨kvs, hd, hp⟩ := O.lines
    have hl := hp.length
    have hz := hP.few
    have hz' := linesOf_len (x := x) (rs := rs)
    have nd := nodup_lines hP.good
    have had : a ≠ d := fun z => by
      have z2 := O.at_
      rw [z, hd] at z2
      cases z2
    have ha := O.at_
    have hsc : ∀ l ∈ linesOf x rs, scal l.ab (.str p) = true := fun l hl => scal_ab hl
    generalize linesOf x rs = ls at hp hl hz' nd hsc q
    refine next_in (ret_in (cb_in (cons_in ⟨d, .dK kvs, hd, trivial, fun od => ?_⟩)))
    have hLa : (upd H d (.frz od (.dK kvs))) a = _ := (upd_ne had).trans ha
    refine ⟨.ref a, rfl, a, C, dx, _, .ref d, rfl, hLa, c.cls, c.lines, rfl, ?_⟩
    refine ⟨d, od, rfl, .inl ⟨kvs, upd_same, fun T nT => ?_⟩⟩
    have nTd : T ≠ d := fun z => by
      rw [z, upd_same] at nT
      cases nT
    refine lc_it walk_keys (fun i H' => Same (upd H d (.frz od (.dK kvs))) H' ∧ H' T = some (.lst (((ls.take i).filter fun l => decide (l.ab = .str p)).map fun l => .str l.nm))) ⟨sameU nT, upd_same⟩ (fun i H' _ h => h.1 _ _ upd_same) ?_ ?_
    · rintro i y H2 H3 hi ⟨s2, hT⟩ ⟨rfl, k, v, hk, rfl⟩
      obtain ⟨l, el, ek, _⟩ := paired_at hp hk
      have ek' : k = .inr l.nm := ek
      subst ek'
      have tk : ls.take (i + 1) = ls.take i ++ [l] := by
        rw [List.take_add_one, el]
        rfl
      have lm : l ∈ ls := List.mem_of_getElem? el
      obtain ⟨t, ev, ht⟩ := lns_get hp nd lm
      have ht2 := sqT_same s2 (sqT_upd (o := .frz od (.dK kvs)) ht hd)
      refine ⟨rfl, .ref a, rfl, a, C, dx, _, .ref d, rfl, s2 _ _ hLa, c.cls, c.lines, rfl, .str l.nm, rfl, d, .ref t, rfl, .inl ⟨kvs, .inr l.nm, .inr ⟨od, s2 _ _ upd_same⟩, rfl, ev.symm⟩, t, _, 0, l.ab, rfl, rfl, ht2, atI_nat (j := 0) rfl, .str p, rfl, hsc l lm, _, rfl, ?_⟩
      refine ite2 (fun e => ?_) (fun e => ?_)
      · refine ⟨.str l.nm, rfl, _, hT, ?_, ?_, ?_⟩
        · rw [List.length_map]
          refine small1000 (Nat.le_trans (List.length_filter_le _ _) ?_)
          rw [List.length_take]
          exact Nat.le_trans (Nat.min_le_right _ _) (by omega)
        · intro b o eb
          rw [upd_ne (ne_of_none eb nT)]
          exact s2 _ _ eb
        · rw [upd_same, tk, List.filter_append, List.map_append, List.filter_cons_of_pos (p := fun l : Ln => decide (l.ab = V.str p)) e]
          rfl
      · refine ⟨s2, ?_⟩
        rw [hT, tk, List.filter_append, List.filter_cons_of_neg (p := fun l : Ln => decide (l.ab = V.str p)) e]
        simp
    rintro H2 ⟨s2, hT⟩
    refine ⟨s2 _ _ upd_same, ?_⟩
    have sA : Same H (upd H2 d (.dK kvs)) := unlocked hd s2
    have hE : (upd H2 d (.dK kvs)) T = some (.lst ((under ls p).map V.str)) := by
      rw [upd_ne nTd, hT, ← hl, List.take_length]
      unfold under
      rw [List.map_map]
      rfl
    refine ⟨T, _, rfl, .inl ⟨SqL.of hE, fun r nr => ?_⟩⟩
    exact q _ r (sA.trans (sameU nr)) (none_of sA nr) upd_same
end
end Uq

namespace Uq
open PySem PySem.Spec PyProof.Rows L2

/-! ### the ends of a part -/
theorem Way.mono {ls ls' : List Ln} (m : ∀ l ∈ ls, l ∈ ls') {p : Str} {w : List Str} (h : Way ls p w) : Way ls' p w := by
  induction h with
  | top a b => exact .top (m _ a) b
  | up a b _ i => exact .up (m _ a) b i
/-- every part has its way up -/
theorem good_way {b : Nat} {x : Str} {rs : List Rw} (g : Good b x rs) : ∀ l ∈ linesOf x rs, ∃ w, Way (linesOf x rs) l.nm w ∧ w.length ≤ 4 := by
  intro l hl
  rcases List.mem_cons.mp hl with z | z
  · subst z
    exact ⟨[x], .top (l := top x) hl rfl, by show 1 ≤ 4; decide⟩
  · obtain ⟨r, hr, rfl⟩ := List.mem_map.mp z
    obtain ⟨k, hk, e⟩ := List.mem_iff_getElem.mp hr
    have ek : rs[k]? = some r := by rw [List.getElem?_eq_getElem hk, e]
    obtain ⟨w, hw, lw⟩ := (g k r ek).way
    refine ⟨w, hw.mono fun l' h' => ?_, lw⟩
    rcases List.mem_append.mp h' with h' | h'
    · rcases List.mem_cons.mp h' with z | z
      · subst z
        exact List.mem_cons_self
      · obtain ⟨r', m, rfl⟩ := List.mem_map.mp z
        exact List.mem_cons_of_mem _ (List.mem_map.mpr ⟨r', List.mem_of_mem_take m, rfl⟩)
    · cases List.mem_singleton.mp h'
      exact hl
def onWay (W : Str → List Str) (p e : Str) : Bool := inV (.str p) ((W e).map V.str)
theorem onWay_iff {W : Str → List Str} {p e : Str} : onWay W p e = true ↔ p ∈ W e := by
  unfold onWay inV
  rw [List.any_eq_true]
  constructor
  · rintro ⟨y, m, h⟩
    obtain ⟨q, mq, rfl⟩ := List.mem_map.mp m
    cases eq_of_beq (show (q == p) = true from h)
    exact mq
  · intro m
    exact ⟨.str p, List.mem_map.mpr ⟨p, m, rfl⟩, show (p == p) = true from beq_self_eq_true p⟩
theorem flat_strs : ∀ ws : List Str, (ws.map V.str).all flatV = true
  | [] => rfl
  | _ :: ws => flat_strs ws
theorem ends_few {ls : List Ln} : (ends ls).length ≤ ls.length := by
  unfold ends
  rw [List.length_map]
  exact List.length_filter_le _ _
def sp_Page_ends_of (K : PySem.W.Frag) (C : Addr) : Sp := fun vs H Q _ => ∃ (b : Nat) (h x : Str) (rs : List Rw) (a dx u d e : Addr) (p : Str) (W : Str → List Str), vs = [.ref a, .str p] ∧ PgO K C b h x rs H a dx u d e ∧ Pg b h x rs ∧ p ∈ (linesOf x rs).map (·.nm) ∧
  (∀ q ∈ ends (linesOf x rs), Way (linesOf x rs) q (W q) ∧ (W q).length ≤ 4) ∧
  ∀ H' t, Same H H' → H t = none → H' t = some (.tup (((ends (linesOf x rs)).filter (onWay W p)).map V.str)) → Q (.ref t) H'
section
variable {P : Program} {w : World} {K : PySem.W.Frag} {mg : Str → Option Value} {base : Heap} {C fC : Addr} {fdC : FuncData}
theorem ok_Page_ends_of (c : PgC K C) {f : Addr} {fd : FuncData} (F : Fun K "ends_of" "Page.ends_of" s_Page_ends_of f fd) (m_tuple : mg "tuple" = none) (c_way_up : Cal P w K mg base 1 "way_up" ["lines", "part"] (sp_way_up K)) (dC : Dun K C fC "__contains__") (FC : FnOk P w K mg base CX0 1 fC fdC ["self", "x"] (sp_Page__contains_ K C)) (bC : Binds K fdC ["self", "x"] []) : FnOk P w K mg base CX0 2 f fd ["self", "part"] (sp_Page_ends_of K C) := by
  refine F.ok sc_Page_ends_of (fun vs H Q E h => ?_) (fun cdv A outer s H vs Q E hr h => ?_)
  · obtain ⟨b, h, x, rs, a, dx, u, d, e, p, W, rfl, _⟩ := h
    rfl
  · refine ⟨_, (pss_cons (ps_if (pt_cmpR (op_notInO dC FC (hr.mono (by decide)) bC) (pv 1) (pv 0) rfl) (pss_one ps_never) pss_nil)
      (pss_one (ps_ret (pe_callTy call_tuple_of (by rfl) m_tuple (by decide +kernel) (pa_cons (pe_lc (own := [("end", 2)]) (g := gName 2) rfl sc_Page_ends_of.nd (pi_tup (pe_fld (pv 0) (by rfl))) (blkOk_by (own := [("end", 2)]) (N := N_Page_ends_of) (sc := defScope s_Page_ends_of) (by decide +kernel)) (fun _ _ _ _ _ => (pg_name (i := 2) sc_Page_ends_of.nd rfl (.inl rfl))) (fun _ _ _ _ _ => (pts_one (pt_cmpR (r := rIn K false) op_in_seq (pv 1) (pe_call c_way_up.G (hr.mono (by decide)) (by rfl) c_way_up.g c_way_up.kp c_way_up.b .nil pass0 (pa_cons (pe_fldK (K := K) rfl (pv 0) (by rfl)) (pa_cons (pv 2) pa_nil))) rfl))) (fun _ _ _ _ _ => (pv 2))) pa_nil))))), ?_⟩
    obtain ⟨b, h, x, rs, a, dx, u, d, e, p, W, rfl, O, hP, hm, hW, q⟩ := h
    refine ⟨.str p, rfl, .ref a, rfl, a, dx, _, rfl, O.at_, ⟨b, h, x, rs, a, dx, u, d, e, p, rfl, O, ?_⟩⟩
    rw [decide_eq_true hm]
    refine ⟨true, rfl, false, rfl, iteF ?_⟩
    obtain ⟨kvs, hd, hp⟩ := O.lines
    have he := O.ends
    have hz := hP.few
    have hz' := linesOf_len (x := x) (rs := rs)
    have nd := nodup_lines hP.good
    have ha := O.at_
    generalize linesOf x rs = ls at hp hz' nd he hW q
    have hef := ends_few (ls := ls)
    generalize ends ls = es at he hW q hef
    refine next_in (ret_in (cb_in (cons_in ?_)))
    refine ⟨.ref a, rfl, a, C, dx, _, .ref e, rfl, ha, c.cls, c.ends, rfl, ?_⟩
    refine ⟨e, rfl, ⟨_, SqT.of he⟩, fun T nT => ?_⟩
    refine lc_it walk_tup (fun i H' => Same H H' ∧ H' T = some (.lst (((es.take i).filter (onWay W p)).map V.str))) ⟨sameU nT, upd_same⟩ (fun i H' _ h => SqT.of (h.1 _ _ he)) ?_ ?_
    · rintro i y H2 H3 hi ⟨s2, hT⟩ ⟨rfl, hk⟩
      rw [List.getElem?_map] at hk
      obtain ⟨z, ez, rfl⟩ := Option.map_eq_some_iff.mp hk
      have tk : es.take (i + 1) = es.take i ++ [z] := by
        rw [List.take_add_one, ez]
        rfl
      have zm : z ∈ es := List.mem_of_getElem? ez
      obtain ⟨hw, lw⟩ := hW z zm
      refine ⟨rfl, .str p, rfl, .ref a, rfl, a, C, dx, _, .ref d, rfl, s2 _ _ ha, c.cls, c.lines, rfl, .str z, rfl, d, ls, z, W z, kvs, rfl, .inl (s2 _ _ hd), paired_mono (fun _ _ r => r.same s2) hp, nd, hw, Nat.le_trans lw (by decide), fun H4 r s4 nr hr4 => ?_⟩
      refine ⟨r, _, rfl, .inl (SqL.of hr4), rfl, flat_strs _, _, rfl, ?_⟩
      show if onWay W p z = true then _ else _
      have s24 := s2.trans s4
      have hT4 := s4 _ _ hT
      refine ite2 (fun e => ?_) (fun e => ?_)
      · refine ⟨.str z, rfl, _, hT4, ?_, ?_, ?_⟩
        · rw [List.length_map]
          refine small1000 (Nat.le_trans (List.length_filter_le _ _) ?_)
          rw [List.length_take]
          exact Nat.le_trans (Nat.min_le_right _ _) (by omega)
        · intro b o eb
          rw [upd_ne (ne_of_none eb nT)]
          exact s24 _ _ eb
        · rw [upd_same, tk, List.filter_append, List.map_append, List.filter_cons_of_pos e]
          rfl
      · refine ⟨s24, ?_⟩
        rw [hT4, tk, List.filter_append, List.filter_cons_of_neg e]
        simp
    rintro H2 ⟨s2, hT⟩
    rw [List.length_map, List.take_length] at hT
    refine ⟨T, _, rfl, .inl ⟨SqL.of hT, fun r nr => ?_⟩⟩
    exact q _ r (s2.trans (sameU nr)) (none_of s2 nr) upd_same
end
end Uq

namespace Uq
open PySem PySem.Spec PyProof.Rows L2

/-! ### some of a pool, each once -/
def sp_law_some (K : PySem.W.Frag) : Sp := fun vs H Q _ => ∃ (p l : Addr) (c m : Nat) (xs : List V), vs = [.ref p, .ref l, .int m] ∧ Pot H p c ∧ c + m < 100000 ∧ SqL K H l xs ∧ m ≤ xs.length ∧ xs.length ≤ 100 ∧
  ∀ H' r ys zs, But p H H' → Pot H' p (c + m) → H r = none → H' r = some (.lst ys) → ys.length = m → (ys ++ zs).Perm xs → Q (.ref r) H'
theorem perm_erase {y : V} : ∀ {zs : List V} {k : Nat}, zs[k]? = some y → (y :: zs.eraseIdx k).Perm zs
  | [], k, e => by simp at e
  | z :: zs, 0, e => by
    cases Option.some.inj e
    exact List.Perm.refl _
  | z :: zs, k + 1, e => (List.Perm.swap _ _ _).trans (List.Perm.cons _ (perm_erase (k := k) e))
theorem perm_pick {ys zs xs : List V} {y : V} {k : Nat} (h : (ys ++ zs).Perm xs) (e : zs[k]? = some y) : ((ys ++ [y]) ++ zs.eraseIdx k).Perm xs := by
  rw [List.append_assoc]
  exact (List.Perm.append_left ys (perm_erase e)).trans h
theorem But.offL {p L : Addr} {H H' : Hp} {o : HO} (h : But p H H') (e : H L = none) : But p H (upd H' L o) := fun b x n eb => by
  rw [upd_ne (ne_of_none eb e)]
  exact h b x n eb
section
variable {P : Program} {w : World} {K : PySem.W.Frag} {mg : Str → Option Value} {base : Heap}
theorem ok_law_some {f : Addr} {fd : FuncData} (F : Fun K "_law_some" "_law_some" s_law_some f fd) (m_list : mg "list" = none) (m_range : mg "range" = none) (m_len : mg "len" = none) (c_law_take : Cal P w K mg base 1 "_law_take" ["_law_pot_here", "_law_upto"] (sp_law_take K)) : FnOk P w K mg base CX0 2 f fd ["_law_pot_here", "_law_pool", "_law_many"] (sp_law_some K) := by
  refine F.ok sc_law_some (fun vs H Q E h => ?_) (fun cdv A outer s H vs Q E hr h => ?_)
  · obtain ⟨p, l, c, m, xs, rfl, _⟩ := h
    rfl
  · refine ⟨_, (pss_cons (ps_par (i := 3) (j := 4) (by rfl) sc_law_some.nd rfl rfl (by decide) rfl rfl (pa_cons (pe_callTy call_list_of (by rfl) m_list (by decide +kernel) (pa_cons (pv 1) pa_nil)) (pa_cons (pe_lst pa_nil) pa_nil)) (by rfl))
      (pss_cons (ps_for PassesOwn.never rfl (pi_range1 (by rfl) m_range (pa_cons (pv 2) pa_nil)) (pg_name (i := 5) sc_law_some.nd rfl (.inl rfl))
        (pss_one (ps_expr (pe_bm PySem.F.plainAttrs_list PySem.F.slot_list_append PySem.F.type_list_append mt_append (pv 4) (pa_cons (pe_bm PySem.F.plainAttrs_list PySem.F.slot_list_pop PySem.F.type_list_pop mt_popAt (pv 3) (pa_cons (pe_call c_law_take.G (hr.mono (by decide)) (by rfl) c_law_take.g c_law_take.kp c_law_take.b .nil pass0 (pa_cons (pv 0) (pa_cons (pe_callB call_len_seq (by rfl) m_len (by decide +kernel) (pa_cons (pv 3) pa_nil)) pa_nil))) pa_nil)) pa_nil)))))
      (pss_one (ps_ret (pv 4))))), ?_⟩
    obtain ⟨p, l, c, m, xs, rfl, hp, hc, hl, hm, hz, q⟩ := h
    have hp' := hp
    obtain ⟨o0, s0, n0, hpa, _⟩ := hp'
    refine ⟨.ref l, rfl, l, xs, rfl, .inl hl, fun L nL => ?_⟩
    refine ⟨Nat.zero_le _, fun R nR => ?_⟩
    have nRL : R ≠ L := fun z => by
      rw [z, upd_same] at nR
      cases nR
    have nR0 : H R = none := by
      rw [upd_ne nRL] at nR
      exact nR
    have npL : p ≠ L := ne_of_none hpa nL
    have npR : p ≠ R := ne_of_none hpa nR0
    refine ⟨_, _, rfl, ?_⟩
    refine ⟨.int m, rfl, m, rfl, ?_⟩
    refine ⟨by omega, by omega, ?_⟩
    refine for_it (walk_range (lo := 0) (n := m)) (fun i σ H' => But p H H' ∧ Pot H' p (c + i) ∧ (∃ x5, σ = [some (.ref p), some (.ref l), some (.int m), some (.ref L), some (.ref R), x5]) ∧ ∃ ys zs, H' R = some (.lst ys) ∧ H' L = some (.lst zs) ∧ ys.length = i ∧ zs.length + i = xs.length ∧ (ys ++ zs).Perm xs) ?_ ?_ ?_ ?_
    · refine ⟨But.of ((sameU nL).trans (sameU nR)), (hp.same (sameU nL)).same (sameU nR), ⟨none, rfl⟩, [], xs, upd_same, by rw [upd_ne (Ne.symm nRL), upd_same], rfl, rfl, List.Perm.refl _⟩
    · intro i σ H' _ _
      trivial
    · rintro i x σ H1 H2 hi ⟨hB, hP, ⟨x5, rfl⟩, ys, zs, hR, hL, ly, lz, pm⟩ ⟨rfl, rfl⟩
      have zlen : 0 < zs.length := by omega
      refine ⟨.ref R, rfl, .inl ⟨rfl, _, SqL.of hR⟩, .ref L, rfl, .inl ⟨rfl, _, SqL.of hL⟩, .ref p, rfl, .ref L, rfl, L, zs, rfl, .inl (SqL.of hL), p, c + i, zs.length, rfl, hP, by omega, by omega, by omega, fun H3 d hB3 hP3 d0 d1 => ?_⟩
      have hR3 := hB3 R _ (Ne.symm npR) hR
      have hL3 := hB3 L _ (Ne.symm npL) hL
      have hd : d.toNat < zs.length := by omega
      have ed : seqIndex? d zs.length = some d.toNat := by
        have h1 : ¬ d < 0 := by omega
        have h2 : d < (zs.length : Int) := by omega
        unfold seqIndex?
        simp [h1, h2, d0]
      refine ⟨L, zs, d, d.toNat, zs[d.toNat], rfl, rfl, hL3, by omega, by omega, ed, List.getElem?_eq_getElem hd, ?_⟩
      refine ⟨R, ys, zs[d.toNat], rfl, rfl, by rw [upd_ne nRL]; exact hR3, small1000 (by omega), ?_⟩
      obtain ⟨o1, s1, n1, hp3, hrest⟩ := hP3
      refine ⟨((hB.trans hB3).offL nL).offL nR0, ⟨o1, s1, n1, ?_, ?_⟩, ⟨_, rfl⟩, ys ++ [zs[d.toNat]], zs.eraseIdx d.toNat, upd_same, ?_, ?_, ?_, perm_pick pm (List.getElem?_eq_getElem hd)⟩
      · rw [upd_ne npR, upd_ne npL]
        exact hp3
      · rw [show c + (i + 1) = c + i + 1 by omega]
        exact hrest
      · rw [upd_ne (Ne.symm nRL), upd_same]
      · rw [List.length_append, ly]
        rfl
      · rw [List.length_eraseIdx_of_lt hd]
        omega
    · rintro σ H1 ⟨hB, hP, ⟨x5, rfl⟩, ys, zs, hR, hL, ly, lz, pm⟩
      exact ⟨.ref R, rfl, q H1 R ys zs hB hP nR0 hR ly pm⟩
end
end Uq

namespace Uq
open PySem PySem.Spec PyProof.Rows L2

/-! ### names, and a shape -/
def pool : List Str := ["a", "b", "all", "is", "of", "part", "some", "none", "told", "in", "zzzzzzzz", "x"]
theorem pool_nodup : pool.Nodup := by decide +kernel
theorem pool_nm : ∀ n ∈ pool, Nm n := by
  intro n h
  have z : ∀ n ∈ pool, 1 ≤ n.length ∧ n.length ≤ 8 ∧ Txt.isascii n = true ∧ Txt.isalpha n = true ∧ Txt.islower n = true := by decide +kernel
  obtain ⟨a, b, c, d, e⟩ := z n h
  exact ⟨a, b, c, d, e⟩
theorem of_pool : ∀ {ys : List V}, (∀ y ∈ ys, y ∈ pool.map V.str) → ∃ ns : List Str, ys = ns.map V.str ∧ ∀ n ∈ ns, n ∈ pool
  | [], _ => ⟨[], rfl, fun _ h => nomatch h⟩
  | y :: ys, h => by
    obtain ⟨ns, rfl, hn⟩ := of_pool (ys := ys) fun z m => h z (List.mem_cons_of_mem _ m)
    obtain ⟨n, m, e⟩ := List.mem_map.mp (h y List.mem_cons_self)
    refine ⟨n :: ns, by rw [← e]; rfl, fun z hz => ?_⟩
    rcases List.mem_cons.mp hz with rfl | hz
    · exact m
    · exact hn z hz
theorem nodup_of_map {ns : List Str} (h : (ns.map V.str).Nodup) : ns.Nodup := by
  unfold List.Nodup at h ⊢
  rw [List.pairwise_map] at h
  exact h.imp fun a e => a (congrArg V.str e)
theorem nodup_strs {ns : List Str} (h : ns.Nodup) : (ns.map V.str).Nodup := by
  unfold List.Nodup at h ⊢
  rw [List.pairwise_map]
  exact h.imp fun a e => a (V.str.inj e)
def sp_law_names (K : PySem.W.Frag) : Sp := fun vs H Q _ => ∃ (p : Addr) (c m : Nat), vs = [.ref p, .int m] ∧ Pot H p c ∧ c + m < 100000 ∧ m ≤ 12 ∧
  ∀ H' r (ns : List Str), But p H H' → Pot H' p (c + m) → H r = none → H' r = some (.lst (ns.map V.str)) → ns.length = m → ns.Nodup → (∀ n ∈ ns, n ∈ pool) → Q (.ref r) H'
def natsV (s : List Nat) : List V := s.map fun n : Nat => V.int (n : Int)
/-- shapes as they lie in the store -/
def ShsAt (H : Hp) (p : Addr) (v : V) (s : List Nat) : Prop := ∃ a, v = .ref a ∧ a ≠ p ∧ H a = some (.lst (natsV s))
def sp_law_tree (K : PySem.W.Frag) : Sp := fun vs H Q _ => ∃ (p S : Addr) (c : Nat) (xs : List V) (ss : List (List Nat)), vs = [.ref p, .ref S] ∧ Pot H p c ∧ c + 20 < 100000 ∧ S ≠ p ∧ SqL K H S xs ∧ Paired (ShsAt H p) xs ss ∧ 0 < ss.length ∧ ss.length ≤ 100 ∧ (∀ s ∈ ss, s.length ≤ 9) ∧
  ∀ H' t r a (ns : List Str) (s : List Nat), But p H H' → Pot H' p (c + 20) → H t = none → H' t = some (.tup [.ref r, .ref a]) → H r = none → H' r = some (.lst (ns.map V.str)) → H' a = some (.lst (natsV s)) → s ∈ ss → ns.length = s.length + 1 → ns.Nodup → (∀ n ∈ ns, n ∈ pool) → a ≠ p → r ≠ p → Q (.ref t) H'
theorem paired_at' {α β : Type} {R : α → β → Prop} : ∀ {xs : List α} {ys : List β} {i : Nat} {x : α}, Paired R xs ys → xs[i]? = some x → ∃ y, ys[i]? = some y ∧ R x y
  | _, _, i, _, .nil, e => by simp at e
  | _, _, 0, _, .cons a h, e => by
    cases Option.some.inj e
    exact ⟨_, rfl, a⟩
  | _, _, i + 1, _, .cons a h, e => paired_at' (i := i) h e
section
variable {P : Program} {w : World} {K : PySem.W.Frag} {mg : Str → Option Value} {base : Heap}
theorem ok_law_names {f : Addr} {fd : FuncData} (F : Fun K "_law_names" "_law_names" s_law_names f fd) (c_law_some : Cal P w K mg base 2 "_law_some" ["_law_pot_here", "_law_pool", "_law_many"] (sp_law_some K)) : FnOk P w K mg base CX0 3 f fd ["_law_pot_here", "_law_many"] (sp_law_names K) := by
  refine F.ok sc_law_names (fun vs H Q E h => ?_) (fun cdv A outer s H vs Q E hr h => ?_)
  · obtain ⟨p, c, m, rfl, _⟩ := h
    rfl
  · refine ⟨_, (pss_cons (ps_set (i := 2) sc_law_names.nd rfl (.inl rfl) (pe_lst (pa_cons pe_str (pa_cons pe_str (pa_cons pe_str (pa_cons pe_str (pa_cons pe_str (pa_cons pe_str (pa_cons pe_str (pa_cons pe_str (pa_cons pe_str (pa_cons pe_str (pa_cons pe_str (pa_cons pe_str pa_nil))))))))))))))
      (pss_one (ps_ret (pe_call c_law_some.G (hr.mono (by decide)) (by rfl) c_law_some.g c_law_some.kp c_law_some.b .nil pass0 (pa_cons (pv 0) (pa_cons (pv 2) (pa_cons (pv 1) pa_nil))))))), ?_⟩
    obtain ⟨p, c, m, rfl, hp, hc, hm, q⟩ := h
    refine seq_set (lst_in ⟨by show 12 ≤ sizeLine; decide, fun L nL => ?_⟩)
    refine ret_in ?_
    refine ⟨.ref p, rfl, .ref L, rfl, .int m, rfl, p, L, c, m, pool.map V.str, rfl, hp.same (sameU nL), hc, SqL.of upd_same, by show m ≤ 12; exact hm, by show 12 ≤ 100; decide, fun H' r ys zs hB hP nr hr2 ly pm => ?_⟩
    have hsub : ∀ y ∈ ys, y ∈ pool.map V.str := fun y hy => pm.mem_iff.mp (List.mem_append_left _ hy)
    have hnd : (ys ++ zs).Nodup := pm.nodup_iff.mpr (nodup_strs pool_nodup)
    obtain ⟨ns, rfl, hn⟩ := of_pool hsub
    rw [List.length_map] at ly
    exact q H' r ns ((But.of (sameU nL)).trans hB) hP (none_of (sameU nL) nr) hr2 ly (nodup_of_map (List.nodup_append.mp hnd).1) hn
end
end Uq

namespace Uq
open PySem PySem.Spec PyProof.Rows L2

/-! ### from shapes to pages, without a lore -/
def shapes : List (List Nat) := [[0, 0], [0, 0, 0], [0, 0, 1, 1], [0], [0, 1, 1], [0, 0, 0, 0], [0, 0, 1, 1, 2], [0, 0, 1, 1, 3, 3]]
def wide1 : List (List Nat) := [[0, 1, 2], [0, 0, 0, 0, 0, 0], [0, 0, 1, 1, 2, 2, 3, 3, 4], [0, 1, 1, 2, 2, 3, 0]]
def wide2 : List (List Nat) := [[0, 0, 0, 0, 0, 1, 1, 6], [0, 1, 2, 0, 4, 5, 0]]
def wide : List (List Nat) := shapes ++ wide1 ++ wide2
structure R4 where
  nm : Str
  ab : Str
  sh : V
  fa : V
def ShV (b : Nat) (v : V) : Prop := v = .non ∨ ∃ w, Shw b v w
open TL
theorem line_tl (ws : List Str) : tl (lineS ws) = joinL (tl spS) (ws.map tl) := by
  unfold lineS
  rw [join_eq, tl_join]
theorem c_part : tl "part " = tl "part" ++ tl spS := by decide +kernel
theorem c_of : tl " of " = tl spS ++ tl "of" ++ tl spS := by decide +kernel
theorem c_is : tl " is " = tl spS ++ tl "is" ++ tl spS := by decide +kernel
theorem c_nil : tl "" = [] := by decide +kernel
theorem len_app (a b : Str) : (a ++ b).length = a.length + b.length := by
  rw [← tl_len, tl_append, List.length_append, tl_len, tl_len]
def rStr : List V → Hp → VK → Prop := fun xs H Q => (∃ i, xs = [V.int i] ∧ i.natAbs.log2 < 1920 ∧ Q (.str (toString i)) H) ∨ ∃ a, xs = [V.str a] ∧ Q (.str a) H
theorem call_strV {X : Cx} : CallR X (.type "str") rStr := call_str_int.or SkE.call_str_str
theorem str_in {b : Nat} {v : V} {w : Str} {H : Hp} {Q : VK} (h : Shw b v w) (hb : b ≤ 100) (q : Q (.str w) H) : rStr [v] H Q := by
  cases h with
  | none => exact .inr ⟨_, rfl, q⟩
  | some => exact .inr ⟨_, rfl, q⟩
  | num n hn =>
    refine .inl ⟨n, rfl, ?_, q⟩
    have z : (n : Int).natAbs = n := rfl
    rw [z]
    refine Nat.lt_of_le_of_lt (Nat.log2_le_self n) (by omega)
open TL
def r4 (r : Rw) : R4 := ⟨r.nm, r.ab, r.sh, r.fa⟩
structure RwOk (b : Nat) (r : Rw) : Prop where
  opts : Opts b r.sh r.fa r.ms r.ws r.xs
  nm : r.nm.length ≤ 8
  ab : r.ab.length ≤ 8
  len : (lineS (rowW r)).length ≤ 100
theorem head_1 (b : Nat) (h : Str) : (("in " : Str) ++ nS b ++ " " ++ h : Str) = lineS [Str.ofString "in", nS b, h] := by
  refine ext_tl ?_
  rw [line_tl]
  have c1 : tl "in " = tl "in" ++ tl spS := by decide +kernel
  have c2 : tl " " = tl spS := rfl
  simp only [tl_append, c1, c2, List.map_cons, List.map_nil, joinL, List.append_assoc]
theorem head_2 (x : Str) : (("asked " : Str) ++ x : Str) = lineS [Str.ofString "asked", x] := by
  refine ext_tl ?_
  rw [line_tl]
  have c1 : tl "asked " = tl "asked" ++ tl spS := by decide +kernel
  simp only [tl_append, c1, List.map_cons, List.map_nil, joinL, List.append_assoc]
def depths (s : List Nat) : List Nat := s.foldl (fun ds v => ds ++ [ds.getD v 0 + 1]) [0]
def endsN (s : List Nat) (k : Nat) : List Nat := (List.range (k + 1)).filter fun i => !(s.take k).contains i
structure Shp (s : List Nat) : Prop where
  one : 1 ≤ s.length
  nine : s.length ≤ 9
  abo : ∀ k, k < s.length → s.getD k 0 ≤ k
  dep : ∀ k, k < s.length → (depths s).getD (k + 1) 0 = (depths s).getD (s.getD k 0) 0 + 1
  top : (depths s).getD 0 0 = 0
  far : ∀ k, k < s.length → (depths s).getD (k + 1) 0 ≤ 3
  end_ : ∀ k, k < s.length + 1 → (endsN s k).length ≤ 6
theorem shp_of {s : List Nat} (h : (1 ≤ s.length ∧ s.length ≤ 9 ∧ (∀ k, k < s.length → s.getD k 0 ≤ k) ∧ (∀ k, k < s.length → (depths s).getD (k + 1) 0 = (depths s).getD (s.getD k 0) 0 + 1) ∧ (depths s).getD 0 0 = 0 ∧ (∀ k, k < s.length → (depths s).getD (k + 1) 0 ≤ 3) ∧ (∀ k, k < s.length + 1 → (endsN s k).length ≤ 6))) : Shp s :=
  ⟨h.1, h.2.1, h.2.2.1, h.2.2.2.1, h.2.2.2.2.1, h.2.2.2.2.2.1, h.2.2.2.2.2.2⟩
theorem wide_shp : ∀ s ∈ wide, Shp s := by
  have z : ∀ s ∈ wide, (1 ≤ s.length ∧ s.length ≤ 9 ∧ (∀ k, k < s.length → s.getD k 0 ≤ k) ∧ (∀ k, k < s.length → (depths s).getD (k + 1) 0 = (depths s).getD (s.getD k 0) 0 + 1) ∧ (depths s).getD 0 0 = 0 ∧ (∀ k, k < s.length → (depths s).getD (k + 1) 0 ≤ 3) ∧ (∀ k, k < s.length + 1 → (endsN s k).length ≤ 6)) := by decide +kernel
  exact fun s m => shp_of (z s m)
theorem shapes_shp : ∀ s ∈ shapes, Shp s := fun s m => wide_shp s (List.mem_append_left _ (List.mem_append_left _ m))
structure RowsOf {α : Type} (nm ab : α → Str) (ns : List Str) (s : List Nat) (rs : List α) : Prop where
  len : rs.length = s.length
  all : ∀ k r, rs[k]? = some r → ns[k + 1]? = some (nm r) ∧ ns[s.getD k 0]? = some (ab r)
theorem nodup_at {ns : List Str} (h : ns.Nodup) {i j : Nat} {x : Str} (hi : ns[i]? = some x) (hj : ns[j]? = some x) : i = j := by
  obtain ⟨li, ei⟩ := List.getElem?_eq_some_iff.mp hi
  obtain ⟨lj, ej⟩ := List.getElem?_eq_some_iff.mp hj
  exact (List.getElem_inj h).mp (ei.trans ej.symm)
open TL
theorem wd_pool : ∀ n ∈ pool, Wd n := by
  intro n h
  have z : ∀ n ∈ pool, n.length ≤ 8 ∧ (32 : Nat) ∉ TL.tl n ∧ (10 : Nat) ∉ TL.tl n := by decide +kernel
  exact ⟨(z n h).1, (z n h).2.1, (z n h).2.2⟩
theorem wd_num : ∀ n : Nat, n < 101 → Wd (nS n) := by
  intro n h
  have z : ∀ n : Nat, n < 101 → (nS n).length ≤ 8 ∧ (32 : Nat) ∉ TL.tl (nS n) ∧ (10 : Nat) ∉ TL.tl (nS n) := by decide +kernel
  exact ⟨(z n h).1, (z n h).2.1, (z n h).2.2⟩
theorem wd_word : ∀ n ∈ (["in", "asked", "part", "of", "is", "all", "none", "some", "near", "even", "down", "up"] : List Str), Wd n := by
  intro n h
  have z : ∀ n ∈ (["in", "asked", "part", "of", "is", "all", "none", "some", "near", "even", "down", "up"] : List Str), n.length ≤ 8 ∧ (32 : Nat) ∉ TL.tl n ∧ (10 : Nat) ∉ TL.tl n := by decide +kernel
  exact ⟨(z n h).1, (z n h).2.1, (z n h).2.2⟩
theorem wd_how {h : Str} (x : How h) : Wd h := by
  refine wd_word h ?_
  rcases x with rfl | rfl | rfl | rfl <;> decide +kernel
theorem wd_shw {b : Nat} {v : V} {w : Str} (h : Shw b v w) (hb : b ≤ 100) : Wd w := by
  cases h with
  | none => exact wd_word _ (by decide +kernel)
  | some => exact wd_word _ (by decide +kernel)
  | num n hn => exact wd_num n (by omega)
theorem wd_line {b : Nat} {nm ab : Str} {sh fa : V} {ms ws : List Str} {xs : List V} (o : Opts b sh fa ms ws xs) (hb : b ≤ 100) (h1 : Wd nm) (h2 : Wd ab) : ∀ w ∈ lineW nm ab ms ws, Wd w := by
  have p1 : Wd (Str.ofString "part") := wd_word _ (by decide +kernel)
  have p2 : Wd (Str.ofString "of") := wd_word _ (by decide +kernel)
  have p3 : Wd "is" := wd_word _ (by decide +kernel)
  have p4 : Wd "all" := wd_word _ (by decide +kernel)
  intro w m
  unfold lineW at m
  cases o with
  | none =>
    simp only [weave, List.mem_cons, List.not_mem_nil, or_false] at m
    rcases m with rfl | rfl | rfl | rfl <;> assumption
  | sh a =>
    have := wd_shw a hb
    simp only [weave, List.mem_cons, List.not_mem_nil, or_false] at m
    rcases m with rfl | rfl | rfl | rfl | rfl | rfl <;> assumption
  | fa a =>
    have := wd_shw a hb
    simp only [weave, List.mem_cons, List.not_mem_nil, or_false] at m
    rcases m with rfl | rfl | rfl | rfl | rfl | rfl <;> assumption
  | both a c =>
    have := wd_shw a hb
    have := wd_shw c hb
    simp only [weave, List.mem_cons, List.not_mem_nil, or_false] at m
    rcases m with rfl | rfl | rfl | rfl | rfl | rfl | rfl | rfl <;> assumption
theorem opts_of {b : Nat} {v u : V} (hv : ShV b v) (hu : ShV b u) : ∃ ms ws xs, Opts b v u ms ws xs := by
  rcases hv with rfl | ⟨w, hw⟩
  · rcases hu with rfl | ⟨y, hy⟩
    · exact ⟨_, _, _, .none⟩
    · exact ⟨_, _, _, .fa hy⟩
  · rcases hu with rfl | ⟨y, hy⟩
    · exact ⟨_, _, _, .sh hw⟩
    · exact ⟨_, _, _, .both hw hy⟩
theorem rows_of {b : Nat} : ∀ {qs : List R4}, (∀ q ∈ qs, ShV b q.sh ∧ ShV b q.fa) → ∃ rs : List Rw, rs.map r4 = qs ∧ ∀ r ∈ rs, Opts b r.sh r.fa r.ms r.ws r.xs
  | [], _ => ⟨[], rfl, fun _ h => nomatch h⟩
  | q :: qs, h => by
    obtain ⟨rs, e, ho⟩ := rows_of (qs := qs) fun r m => h r (List.mem_cons_of_mem _ m)
    obtain ⟨h1, h2⟩ := h q List.mem_cons_self
    obtain ⟨ms, ws, xs, o⟩ := opts_of h1 h2
    refine ⟨⟨q.nm, q.ab, q.sh, q.fa, ms, ws, xs⟩ :: rs, by rw [List.map_cons, e]; rfl, fun r m => ?_⟩
    rcases List.mem_cons.mp m with rfl | m
    · exact o
    · exact ho r m
section
variable {ns : List Str} {s : List Nat} {rs : List Rw} {x : Str} {b : Nat}
theorem names_take (R : RowsOf Rw.nm Rw.ab ns s rs) (ln : ns.length = s.length + 1) (hx : ns[0]? = some x) {k : Nat} (hk : k ≤ rs.length) : (linesOf x (rs.take k)).map (·.nm) = ns.take (k + 1) := by
  refine List.ext_getElem? fun i => ?_
  unfold linesOf
  rw [List.map_cons]
  cases i with
  | zero =>
    rw [List.getElem?_take, if_pos (Nat.zero_lt_succ _), hx]
    rfl
  | succ i =>
    rw [List.getElem?_cons_succ, List.map_map, List.getElem?_map]
    rcases Nat.lt_or_ge i k with z | z
    · have li : i < rs.length := by omega
      rw [List.getElem?_take, if_pos z, List.getElem?_take, if_pos (by omega), List.getElem?_eq_getElem li, (R.all i _ (List.getElem?_eq_getElem li)).1]
      rfl
    · rw [List.getElem?_take, if_neg (by omega), List.getElem?_take, if_neg (by omega)]
      rfl
theorem whole_iff (R : RowsOf Rw.nm Rw.ab ns s rs) (nd : ns.Nodup) {k i : Nat} {n : Str} (hk : k ≤ rs.length) (e : ns[i]? = some n) : inV (.str n) (wholes (linesOf x (rs.take k))) = (s.take k).contains i := by
  rw [Bool.eq_iff_iff, List.contains_iff_mem]
  unfold inV
  rw [List.any_eq_true]
  unfold wholes linesOf
  rw [List.map_cons, List.map_map]
  have ls := R.len
  constructor
  · rintro ⟨y, m, h⟩
    rcases List.mem_cons.mp m with rfl | m
    · exact nomatch h
    · obtain ⟨r, mr, rfl⟩ := List.mem_map.mp m
      obtain ⟨j, lj, ej⟩ := List.getElem_of_mem mr
      rw [List.length_take] at lj
      rw [List.getElem_take] at ej
      have lj2 : j < rs.length := by omega
      have h2 : r.ab = n := eq_of_beq (show (r.ab == n) = true from h)
      have a := (R.all j r (by rw [← ej]; exact List.getElem?_eq_getElem _)).2
      rw [h2] at a
      have z := nodup_at nd a e
      rw [← z, List.getD_eq_getElem?_getD, List.getElem?_eq_getElem (show j < s.length by omega)]
      show s[j] ∈ _
      refine List.mem_of_getElem? (i := j) ?_
      rw [List.getElem?_take, if_pos (by omega), List.getElem?_eq_getElem]
  · intro m
    obtain ⟨j, lj, ej⟩ := List.getElem_of_mem m
    rw [List.length_take] at lj
    rw [List.getElem_take] at ej
    have lj2 : j < rs.length := by omega
    have a := (R.all j _ (List.getElem?_eq_getElem lj2)).2
    rw [List.getD_eq_getElem?_getD, List.getElem?_eq_getElem (show j < s.length by omega)] at a
    replace a : ns[s[j]]? = some rs[j].ab := a
    rw [ej, e] at a
    refine ⟨.str rs[j].ab, List.mem_cons_of_mem _ (List.mem_map.mpr ⟨rs[j], ?_, rfl⟩), ?_⟩
    · refine List.mem_of_getElem? (i := j) ?_
      rw [List.getElem?_take, if_pos (by omega), List.getElem?_eq_getElem]
    · rw [← Option.some.inj a]
      exact beq_self_eq_true n
theorem ends_take (R : RowsOf Rw.nm Rw.ab ns s rs) (nd : ns.Nodup) (ln : ns.length = s.length + 1) (hx : ns[0]? = some x) {k : Nat} (hk : k ≤ rs.length) : (ends (linesOf x (rs.take k))).length = (endsN s k).length := by
  have nt := names_take R ln hx hk
  have ll : (linesOf x (rs.take k)).length = k + 1 := by
    rw [linesOf_len, List.length_take]
    omega
  unfold ends endsN
  rw [List.length_map]
  have e : linesOf x (rs.take k) = (List.range (k + 1)).map fun i => (linesOf x (rs.take k)).getD i (top x) := by
    refine List.ext_getElem? fun i => ?_
    rw [List.getElem?_map]
    rcases Nat.lt_or_ge i (k + 1) with z | z
    · rw [List.getElem?_range z]
      show _ = some ((linesOf x (rs.take k)).getD i (top x))
      rw [List.getD_eq_getElem?_getD, List.getElem?_eq_getElem (by omega)]
      rfl
    · rw [List.getElem?_eq_none (by omega), List.getElem?_eq_none (by rw [List.length_range]; omega)]
      rfl
  generalize hL : linesOf x (rs.take k) = L at e ll nt ⊢
  have e2 : L.filter (isEnd L) = (((List.range (k + 1)).filter ((isEnd L) ∘ fun i => L.getD i (top x))).map fun i => L.getD i (top x)) := by
    conv => lhs; rw [e]
    rw [List.filter_map]
    rw [← e]
  rw [e2, List.length_map]
  refine congrArg List.length (List.filter_congr fun i m => ?_)
  have hi : i < k + 1 := List.mem_range.mp m
  show (!inV (.str (L.getD i (top x)).nm) (wholes L)) = !(s.take k).contains i
  refine congrArg (fun c => !c) ?_
  rw [← hL]
  refine whole_iff R nd hk ?_
  rw [hL]
  have a : (L.map (·.nm))[i]? = some (L.getD i (top x)).nm := by
    rw [List.getElem?_map, List.getD_eq_getElem?_getD, List.getElem?_eq_getElem (by omega)]
    rfl
  rw [nt, List.getElem?_take, if_pos hi] at a
  exact a
theorem ways (R : RowsOf Rw.nm Rw.ab ns s rs) (S : Shp s) (hx : ns[0]? = some x) {j : Nat} (hj : j ≤ rs.length) : ∀ (m i : Nat), i ≤ m → i ≤ j → ∀ n, ns[i]? = some n → ∃ w, Way (linesOf x (rs.take j)) n w ∧ w.length = (depths s).getD i 0 + 1 := by
  intro m
  induction m with
  | zero =>
    intro i hi hij n e
    have z : i = 0 := by omega
    subst z
    rw [hx] at e
    cases Option.some.inj e
    refine ⟨[x], Way.top (l := top x) List.mem_cons_self rfl, ?_⟩
    rw [S.top]
    rfl
  | succ m ih =>
    intro i hi hij n e
    cases i with
    | zero => exact ih 0 (by omega) hij n e
    | succ i =>
      have li : i < rs.length := by omega
      have hs : i < s.length := by rw [← R.len]; exact li
      have a := R.all i _ (List.getElem?_eq_getElem li)
      have v := S.abo i hs
      obtain ⟨w, hw, lw⟩ := ih (s.getD i 0) (by omega) (by omega) _ a.2
      have en := a.1
      rw [e] at en
      cases Option.some.inj en
      refine ⟨rs[i].nm :: w, Way.up (l := lnOf rs[i]) ?_ rfl hw, ?_⟩
      · refine List.mem_cons_of_mem _ (List.mem_map.mpr ⟨rs[i], List.mem_of_getElem? (i := i) ?_, rfl⟩)
        rw [List.getElem?_take, if_pos (by omega), List.getElem?_eq_getElem]
      · rw [List.length_cons, lw, S.dep i hs]
theorem good_of (R : RowsOf Rw.nm Rw.ab ns s rs) (S : Shp s) (nd : ns.Nodup) (hn : ∀ n ∈ ns, n ∈ pool) (ln : ns.length = s.length + 1) (hx : ns[0]? = some x) (ho : ∀ r ∈ rs, Opts b r.sh r.fa r.ms r.ws r.xs) : Good b x rs := by
  intro k r e
  obtain ⟨lk, ek⟩ := List.getElem?_eq_some_iff.mp e
  have ks : k < s.length := by rw [← R.len]; exact lk
  have nt := names_take R ln hx (k := k) (by omega)
  have a := R.all k r e
  have lt := lines_take (x := x) e
  refine ⟨ho r (List.mem_of_getElem? e), pool_nm _ (hn _ (List.mem_of_getElem? a.1)), ?_, ?_, ?_, ?_, ?_⟩
  · rw [nt]
    intro m
    obtain ⟨i, li, ei⟩ := List.getElem_of_mem m
    rw [List.length_take] at li
    rw [List.getElem_take] at ei
    have z := nodup_at nd (i := i) (by rw [← ei]; exact List.getElem?_eq_getElem _) a.1
    omega
  · rw [nt]
    refine List.mem_of_getElem? (i := s.getD k 0) ?_
    rw [List.getElem?_take, if_pos (by have := S.abo k ks; omega)]
    exact a.2
  · rw [linesOf_len, List.length_take]
    have := S.nine
    omega
  · rw [← lt, ends_take R nd ln hx (by omega)]
    exact S.end_ _ (by omega)
  · rw [← lt]
    obtain ⟨w, hw, lw⟩ := ways R S hx (j := k + 1) (by omega) (k + 1) (k + 1) (Nat.le_refl _) (Nat.le_refl _) _ a.1
    refine ⟨w, hw, ?_⟩
    rw [lw]
    have := S.far k ks
    omega
theorem pg_of {h : Str} (R : RowsOf Rw.nm Rw.ab ns s rs) (S : Shp s) (nd : ns.Nodup) (hn : ∀ n ∈ ns, n ∈ pool) (ln : ns.length = s.length + 1) (hx : ns[0]? = some x) (ho : ∀ r ∈ rs, Opts b r.sh r.fa r.ms r.ws r.xs) (b0 : 2 ≤ b) (b1 : b ≤ 100) (hh : How h) : Pg b h x rs := by
  have mx : x ∈ pool := hn _ (List.mem_of_getElem? hx)
  refine ⟨b0, b1, hh, pool_nm _ mx, good_of R S nd hn ln hx ho, ?_, ?_⟩
  · intro z
    have := S.one
    rw [← R.len, z] at this
    simp at this
  · intro ws m w mw
    unfold pageW at m
    rcases List.mem_cons.mp m with rfl | m
    · simp only [List.mem_cons, List.not_mem_nil, or_false] at mw
      rcases mw with rfl | rfl | rfl
      · exact wd_word _ (by decide +kernel)
      · exact wd_num b (by omega)
      · exact wd_how hh
    · rcases List.mem_cons.mp m with rfl | m
      · simp only [List.mem_cons, List.not_mem_nil, or_false] at mw
        rcases mw with rfl | rfl
        · exact wd_word _ (by decide +kernel)
        · exact wd_pool _ mx
      · obtain ⟨r, mr, rfl⟩ := List.mem_map.mp m
        obtain ⟨k, lk, ek⟩ := List.getElem_of_mem mr
        have a := R.all k r (by rw [← ek]; exact List.getElem?_eq_getElem _)
        exact wd_line (ho r mr) b1 (wd_pool _ (hn _ (List.mem_of_getElem? a.1))) (wd_pool _ (hn _ (List.mem_of_getElem? a.2))) w mw
theorem rwok_of (hn : ∀ n ∈ ns, n ∈ pool) (R : RowsOf Rw.nm Rw.ab ns s rs) (ho : ∀ r ∈ rs, Opts b r.sh r.fa r.ms r.ws r.xs) (b1 : b ≤ 100) : ∀ r ∈ rs, RwOk b r := by
  intro r mr
  obtain ⟨k, lk, ek⟩ := List.getElem_of_mem mr
  have a := R.all k r (by rw [← ek]; exact List.getElem?_eq_getElem _)
  have w1 := wd_pool _ (hn _ (List.mem_of_getElem? a.1))
  have w2 := wd_pool _ (hn _ (List.mem_of_getElem? a.2))
  refine ⟨ho r mr, w1.len, w2.len, ?_⟩
  have z := line_len (wd_line (ho r mr) b1 w1 w2)
  have y := opts_weave (ho r mr)
  refine Nat.le_trans z ?_
  unfold lineW
  simp only [List.length_cons]
  omega
end
theorem strs_at {ns : List Str} {i : Nat} {n : Str} (e : ns[i]? = some n) : atI (ns.map V.str) (i : Int) = some (.str n) := atI_nat (j := i) (by rw [List.getElem?_map, e]; rfl)
theorem gname_in {i : Nat} {v : V} {σ : L2.St} {H : Hp} {N : L2.St → Hp → Prop} (h : N (σ.set i (some v)) H) : gName i v σ H N := h
theorem cut_one {xs : List V} (h : 1 ≤ xs.length) : cutV xs (some (1 : Int)) none = xs.drop 1 := cut_from (k := 1) h
theorem seq_setQ {te : TE} {i : Nat} {u : TS} {D : Ends} {σ : L2.St} {H : Hp} (Post : V → Hp → Prop) (h : ∀ Q : VK, (∀ x H1, Post x H1 → Q x H1) → te σ H Q) (g : ∀ x H1, Post x H1 → u D (σ.set i (some x)) H1) : tSeq (tAsg te (gName i)) u D σ H := seq_set (h _ g)
theorem seq_join {t u : TS} {D : Ends} {σ : L2.St} {H : Hp} (Post : L2.St → Hp → Prop) (h : ∀ N : L2.St → Hp → Prop, (∀ σ' H', Post σ' H' → N σ' H') → t { D with nx := N } σ H) (g : ∀ σ' H', Post σ' H' → u D σ' H') : tSeq t u D σ H := h _ g
section
variable {ls : List Ln}
theorem line_one (nd : (ls.map (·.nm)).Nodup) {l l' : Ln} (h : l ∈ ls) (h' : l' ∈ ls) (e : l.nm = l'.nm) : l = l' := by
  obtain ⟨i, hi, rfl⟩ := List.getElem_of_mem h
  obtain ⟨j, hj, rfl⟩ := List.getElem_of_mem h'
  have z : i = j := by
    refine (List.getElem_inj (h₀ := by rw [List.length_map]; exact hi) (h₁ := by rw [List.length_map]; exact hj) nd).mp ?_
    rw [List.getElem_map, List.getElem_map, e]
  subst z
  rfl
theorem way_head {p : Str} {w : List Str} (h : Way ls p w) : p ∈ w := by
  cases h <;> exact List.mem_cons_self
theorem way_unique (nd : (ls.map (·.nm)).Nodup) {p : Str} {w : List Str} (h : Way ls p w) : ∀ {w'}, Way ls p w' → w = w' := by
  induction h with
  | @top l a b =>
    intro w' h'
    generalize e : l.nm = q at h'
    cases h' with
    | @top l' a' b' => rfl
    | @up l' q' w1 a' b' c' =>
      have z := line_one nd a a' e
      rw [← z, b] at b'
      cases b'
  | @up l q w1 a b c ih =>
    intro w' h'
    generalize e : l.nm = n at h'
    cases h' with
    | @top l' a' b' =>
      have z := line_one nd a a' e
      rw [← z, b] at b'
      cases b'
    | @up l' q' w1' a' b' c' =>
      have z := line_one nd a a' e
      rw [← z, b] at b'
      cases b'
      rw [ih c']
theorem way_len (nd : (ls.map (·.nm)).Nodup) {e q : Str} {w v : List Str} (h : Way ls e w) (m : q ∈ w) (g : Way ls q v) : v.length ≤ w.length := by
  induction h with
  | @top l a b =>
    cases List.mem_singleton.mp m
    rw [way_unique nd g (.top a b)]
    exact Nat.le_refl _
  | @up l q' w1 a b c ih =>
    rcases List.mem_cons.mp m with rfl | m
    · rw [way_unique nd g (.up a b c)]
      exact Nat.le_refl _
    · exact Nat.le_succ_of_le (ih m)
end
theorem isEnd_iff {ls : List Ln} {l : Ln} : isEnd ls l = true ↔ ∀ l' ∈ ls, l'.ab ≠ .str l.nm := by
  unfold isEnd
  rw [Bool.not_eq_true', Bool.eq_false_iff]
  unfold inV wholes
  rw [Ne, List.any_eq_true]
  constructor
  · intro h l' hl' e
    refine h ⟨l'.ab, List.mem_map.mpr ⟨l', hl', rfl⟩, ?_⟩
    rw [e]
    exact beq_self_eq_true l.nm
  · rintro h ⟨v, m, e⟩
    obtain ⟨l', hl', rfl⟩ := List.mem_map.mp m
    refine h l' hl' ?_
    revert e
    cases l'.ab <;> intro e <;> first | exact congrArg V.str (eq_of_beq e) | exact nomatch e
theorem mem_ends {ls : List Ln} {p : Str} : p ∈ ends ls ↔ ∃ l ∈ ls, l.nm = p ∧ ∀ l' ∈ ls, l'.ab ≠ .str p := by
  unfold ends
  rw [List.mem_map]
  constructor
  · rintro ⟨l, m, rfl⟩
    obtain ⟨hl, he⟩ := List.mem_filter.mp m
    exact ⟨l, hl, rfl, isEnd_iff.mp he⟩
  · rintro ⟨l, hl, rfl, he⟩
    exact ⟨l, List.mem_filter.mpr ⟨hl, isEnd_iff.mpr he⟩, rfl⟩
section
variable {b : Nat} {h x : Str} {rs : List Rw} {W : Str → List Str}
theorem nm_at {k : Nat} {r : Rw} (e : rs[k]? = some r) : ((linesOf x rs).map (·.nm))[k + 1]? = some r.nm := by
  unfold linesOf
  rw [List.map_cons, List.getElem?_cons_succ, List.map_map, List.getElem?_map, e]
  rfl
theorem above_at (g : Good b x rs) {k : Nat} {r : Rw} (e : rs[k]? = some r) : ∃ j, j ≤ k ∧ ((linesOf x rs).map (·.nm))[j]? = some r.ab := by
  obtain ⟨j, lj, ej⟩ := List.getElem_of_mem (g k r e).abo
  have lj2 := lj
  rw [List.length_map, linesOf_len, List.length_take] at lj2
  refine ⟨j, by omega, ?_⟩
  have z : ((linesOf x (rs.take k)).map (·.nm))[j]? = some r.ab := by rw [List.getElem?_eq_getElem lj, ej]
  unfold linesOf at z ⊢
  rw [List.map_cons, List.map_map] at z ⊢
  cases j with
  | zero => exact z
  | succ j =>
    rw [List.getElem?_cons_succ, List.getElem?_map, List.getElem?_take, if_pos (by omega)] at z
    rw [List.getElem?_cons_succ, List.getElem?_map]
    exact z
theorem last_end (P : Pg b h x rs) : 1 ≤ (ends (linesOf x rs)).length ∧ (ends (linesOf x rs)).length ≤ 6 := by
  have g := P.good
  have l0 : 0 < rs.length := List.length_pos_iff.mpr P.some
  have e : rs[rs.length - 1]? = some rs[rs.length - 1] := List.getElem?_eq_getElem (by omega)
  constructor
  · refine List.length_pos_of_mem (a := rs[rs.length - 1].nm) (mem_ends.mpr ⟨lnOf rs[rs.length - 1], List.mem_cons_of_mem _ (List.mem_map.mpr ⟨_, List.getElem_mem _, rfl⟩), rfl, fun l hl ha => ?_⟩)
    rcases List.mem_cons.mp hl with z | z
    · rw [z] at ha
      cases ha
    · obtain ⟨r, mr, rfl⟩ := List.mem_map.mp z
      obtain ⟨k, lk, ek⟩ := List.getElem_of_mem mr
      obtain ⟨j, hj, ej⟩ := above_at g (k := k) (r := r) (by rw [← ek]; exact List.getElem?_eq_getElem lk)
      have c : r.ab = rs[rs.length - 1].nm := V.str.inj ha
      rw [c] at ej
      have := nodup_at (nodup_lines g) ej (nm_at e)
      omega
  · have z := (g _ _ e).end_
    rw [← lines_take e, List.take_of_length_le (by omega)] at z
    exact z
end
end Uq

namespace Uq
open PySem PySem.Spec PyProof.Rows L2
/-! ### the sum of a tuple of ints -/
def rSumT (K : PySem.W.Frag) : List V → Hp → VK → Prop := fun vs H Q => ∃ (a : Addr) (ns : List Int), vs = [V.ref a] ∧ SqT K H a (ns.map V.int) ∧ Q (.int ns.sum) H
theorem cr_sumT {X : Cx} (hc : X.calm = true) : CallR X (.builtin "sum") (rSumT X.K) := by
  intro pins s σ H vs us Q I r h
  obtain ⟨a, ns, rfl, hs, q⟩ := h
  obtain ⟨its, rv, hl, _⟩ := I.tuple hs
  rw [Vals.ref1 r]
  have hi := rv.ints
  obtain ⟨xs, e⟩ := hi.allInts.items
  have hn : numsOf (intItems xs).toList = ns := by rw [← e]; exact hi.numsOf
  rw [nums_intItems] at hn
  have hl2 : s.heap.IsTuple a (intItems xs) := by rw [← e]; exact hl
  refine PySem.W.ktm_sumG (I.ok.hd hc) hl2 fun h' tk t' hk => ?_
  rw [preSum_eq, List.take_of_length_le (by simp), hn]
  exact ⟨.int _, H, I.kept hk, ⟨_, rfl⟩, q⟩
end Uq

namespace Uq
open PySem PySem.Spec PyProof.Rows L2

/-! ### shown, right shares, counts -/
theorem walk_zipT {K : PySem.W.Frag} {a b : Addr} {xs ys : List V} {n : Nat} (hn : n = min xs.length ys.length) : Walk (RZ.ItzT K a b) n (fun H => SqT K H a xs ∧ SqT K H b ys) (YPair (fun i => xs[i]?) (fun i => ys[i]?)) := by
  subst hn
  refine ⟨fun i H hi q => ?_, fun H q => ⟨xs, ys, q.1, q.2, by omega⟩, fun i H v H' hi q y => ?_⟩
  · have h1 : i < xs.length := by omega
    have h2 : i < ys.length := by omega
    exact ⟨xs, ys, xs[i], ys[i], q.1, q.2, List.getElem?_eq_getElem h1, List.getElem?_eq_getElem h2⟩
  · obtain ⟨T, x, z, h1, h2, h3, h4, h5⟩ := y
    exact ⟨T, x, z, h1, h2, h3, h4 xs q.1, h5 ys q.2⟩
/-- whether a share is right of so many of so many -/
def rightV (h : Str) (b : Nat) (v : V) (m w : Int) : Bool :=
  if v = .non then true else if w = 0 then false else if v = .str "none" then decide (m = 0) else if v = .str "some" then decide (0 < b * m) && decide (b * m < w) else decide (V.int (rnd h (b * m) w) = v)
def sp_is_right (K : PySem.W.Frag) : Sp := fun vs H Q _ => ∃ (u : Addr) (b : Nat) (h : Str) (v : V) (m w : Int), vs = [.ref u, v, .int m, .int w] ∧ Un K H u b h ∧ ShV b v ∧ 0 ≤ m ∧ m ≤ w ∧ w < 2 ^ 40 ∧ ∀ H', Same H H' → Q (.bl (rightV h b v m w)) H'
def sp_is_counts (K : PySem.W.Frag) (C : Addr) : Sp := fun vs H Q _ => ∃ (b : Nat) (h x : Str) (rs : List Rw) (a dx u d e T : Addr) (cs : List Int), vs = [.ref a, .ref T] ∧ PgO K C b h x rs H a dx u d e ∧ SqT K H T (cs.map V.int) ∧ cs.length = (ends (linesOf x rs)).length ∧ cs.length ≤ 6 ∧ (∀ c ∈ cs, 0 ≤ c) ∧ 0 < cs.sum ∧ ∀ H', Same H H' → Q (.bl true) H'
/-- how many are in a part -/
def manyL (x : Str) (rs : List Rw) (W : Str → List Str) (cs : List Int) (p : Str) : Int := (((ends (linesOf x rs)).zip cs).filterMap fun ec => if onWay W p ec.1 = true then some ec.2 else none).sum
def sp_many_in (K : PySem.W.Frag) (C : Addr) : Sp := fun vs H Q _ => ∃ (b : Nat) (h x : Str) (rs : List Rw) (a dx u d e T : Addr) (cs : List Int) (p : Str) (W : Str → List Str), vs = [.ref a, .ref T, .str p] ∧ PgO K C b h x rs H a dx u d e ∧ Pg b h x rs ∧ (∀ q ∈ ends (linesOf x rs), Way (linesOf x rs) q (W q) ∧ (W q).length ≤ 4) ∧ p ∈ (linesOf x rs).map (·.nm) ∧ SqT K H T (cs.map V.int) ∧ cs.length = (ends (linesOf x rs)).length ∧ ∀ H', Same H H' → Q (.int (manyL x rs W cs p)) H'
theorem scal_shv {b : Nat} {v : V} {s : Str} (h : ShV b v) : scal v (.str s) = true := by
  rcases h with rfl | ⟨w, h⟩
  · rfl
  · cases h <;> rfl
theorem scal_shi {b : Nat} {v : V} {i : Int} (h : ShV b v) : scal (.int i) v = true := by
  rcases h with rfl | ⟨w, h⟩
  · rfl
  · cases h <;> rfl
theorem dec_int0 {m : Int} : decide (V.int m = V.int 0) = decide (m = 0) := by
  rw [Bool.eq_iff_iff]
  simp
section
variable {P : Program} {w : World} {K : PySem.W.Frag} {mg : Str → Option Value} {base : Heap} {C : Addr}
theorem ok_rounded {f : Addr} {fd : FuncData} (F : Fun K "rounded" "rounded" s_rounded f fd) (m_divmod : mg "divmod" = none) : FnOk P w K mg base CX0 1 f fd ["how", "many", "whole"] (sp_rounded K) := by
  refine F.ok sc_rounded (fun vs H Q E h => ?_) (fun cdv A outer s H vs Q E hr h => ?_)
  · obtain ⟨h, a, b, rfl, _⟩ := h
    rfl
  · refine ⟨_, (pss_cons (ps_asg (pe_callB call_divmodW (by rfl) m_divmod (by decide +kernel) (pa_cons (pv 1) (pa_cons (pv 2) pa_nil))) (pg_tup rfl (pgs_cons (pg_name (i := 3) sc_rounded.nd rfl (.inl rfl)) (pgs_cons (pg_name (i := 4) sc_rounded.nd rfl (.inl rfl)) pgs_nil))))
      (pss_cons (ps_if (PW.pt (pw_or (pt_cmpR op_eq (pv 0) pe_str (nomark _)) (pw_or1 (pt_cmpR op_eq (pv 4) pe_int (nomark _))))) (pss_one (ps_ret (pv 3))) pss_nil)
      (pss_cons (ps_if (PW.pt (pw_or (pt_cmpR op_eq (pv 0) pe_str (nomark _)) (pw_or1 (pt_cmpR op_gt (pe_op op_mul pe_int (pv 4)) (pv 2) (nomark _))))) (pss_one (ps_ret (pe_op op_add (pv 3) pe_int))) pss_nil)
      (pss_cons (ps_if (pt_cmpR op_lt (pe_op op_mul pe_int (pv 4)) (pv 2) (nomark _)) (pss_one (ps_ret (pv 3))) pss_nil)
      (pss_cons (ps_if (pt_cmpR op_eq (pv 0) pe_str (nomark _)) (pss_one (ps_ret (pe_op op_add (pv 3) pe_int))) pss_nil)
      (pss_one (ps_ret (pe_op op_add (pv 3) (pe_op op_mod (pv 3) pe_int))))))))), ?_⟩
    obtain ⟨h, a, b, rfl, b0, b1, q⟩ := h
    refine ⟨.int a, rfl, .int b, rfl, a, b, rfl, no_pylong b0 b1, fun t nt => ?_⟩
    refine ⟨t, _, rfl, SqT.of upd_same, rfl, _, _, rfl, _, _, rfl, rfl, ?_⟩
    have Q' : ∀ z, rnd h a b = z → Q (.int z) (upd H t (.tup [.int (a / b), .int (a % b)])) := fun z e => e ▸ q _ (sameU nt)
    unfold rnd at Q'
    refine ⟨.str h, rfl, rfl, _, rfl, ite2 (fun e => ?_) (fun e => ⟨.int (a % b), rfl, rfl, _, rfl, ite2 (fun e2 => ?_) (fun e2 => ?_)⟩)⟩
    · exact iteT ⟨.int (a / b), rfl, Q' _ (if_pos (.inl (str_of e)))⟩
    · exact ⟨.int (a / b), rfl, Q' _ (if_pos (.inr (int_of e2)))⟩
    · have n1 : ¬ (h = "down" ∨ a % b = 0) := fun z => z.elim (str_not e) (int_not e2)
      refine ⟨.str h, rfl, rfl, _, rfl, ite2 (fun e3 => ?_) (fun e3 => ⟨.int (a % b), rfl, _, _, rfl, rfl, .inl ⟨by decide, by decide⟩, .int b, rfl, _, b, rfl, rfl, _, rfl, ite2 (fun e4 => ?_) (fun e4 => ?_)⟩)⟩
      · exact iteT ⟨.int (a / b), rfl, _, _, rfl, rfl, Q' _ (by rw [if_neg n1, if_pos (.inl (str_of e3))])⟩
      · exact ⟨.int (a / b), rfl, _, _, rfl, rfl, Q' _ (by rw [if_neg n1, if_pos (.inr (of_decide_eq_true e4))])⟩
      · have n2 : ¬ (h = "up" ∨ b < 2 * (a % b)) := fun z => z.elim (str_not e3) (fun y => e4 (decide_eq_true y))
        refine ⟨.int (a % b), rfl, _, _, rfl, rfl, .inl ⟨by decide, by decide⟩, .int b, rfl, _, b, rfl, rfl, _, rfl, ite2 (fun e5 => ?_) (fun e5 => ?_)⟩
        · exact ⟨.int (a / b), rfl, Q' _ (by rw [if_neg n1, if_neg n2, if_pos (of_decide_eq_true e5)])⟩
        · have n3 : ¬ (2 * (a % b) < b) := fun y => e5 (decide_eq_true y)
          refine ⟨.str h, rfl, rfl, _, rfl, ite2 (fun e6 => ?_) (fun e6 => ?_)⟩
          · exact ⟨.int (a / b), rfl, _, _, rfl, rfl, Q' _ (by rw [if_neg n1, if_neg n2, if_neg n3, if_pos (str_of e6)])⟩
          · exact ⟨.int (a / b), rfl, .int (a / b), rfl, _, _, rfl, rfl, (by show (0 : Int) < 2; decide), _, _, rfl, rfl, Q' _ (by rw [if_neg n1, if_neg n2, if_neg n3, if_neg (str_not e6)])⟩

theorem ok_shown {f : Addr} {fd : FuncData} (F : Fun K "shown" "shown" s_shown f fd) (c_is_units : Cal P w K mg base 2 "is_units" ["value"] (sp_is_units K)) (c_is_integer : Cal P w K mg base 1 "is_integer" ["value"] (sp_is_integer K)) (c_rounded : Cal P w K mg base 1 "rounded" ["how", "many", "whole"] (sp_rounded K)) : FnOk P w K mg base CX0 3 f fd ["units", "many", "whole"] (sp_shown K) := by
  refine F.ok sc_shown (fun vs H Q E h => ?_) (fun cdv A outer s H vs Q E hr h => ?_)
  · obtain ⟨u, b, h, a, c, rfl, _⟩ := h
    rfl
  · refine ⟨_, (pss_cons (ps_if (pt_not (pt_val (pe_call c_is_units.G (hr.mono (by decide)) (by rfl) c_is_units.g c_is_units.kp c_is_units.b .nil pass0 (pa_cons (pv 0) pa_nil)))) (pss_one ps_never) pss_nil)
      (pss_cons (ps_if (PW.pt (pw_or (pt_not (pt_val (pe_call c_is_integer.G (hr.mono (by decide)) (by rfl) c_is_integer.g c_is_integer.kp c_is_integer.b .nil pass0 (pa_cons (pv 2) pa_nil)))) (pw_or1 (pt_cmpR op_lt (pv 2) pe_int (nomark _))))) (pss_one ps_never) pss_nil)
      (pss_cons (ps_if (PW.pt (pw_or (pt_not (pt_val (pe_call c_is_integer.G (hr.mono (by decide)) (by rfl) c_is_integer.g c_is_integer.kp c_is_integer.b .nil pass0 (pa_cons (pv 1) pa_nil)))) (pw_or1 (pt_not (pt_chain op_le op_le pe_int (pv 1) (pv 2)))))) (pss_one ps_never) pss_nil)
      (pss_cons (ps_asg (pv 0) (pg_tup rfl (pgs_cons (pg_name (i := 3) sc_shown.nd rfl (.inl rfl)) (pgs_cons (pg_name (i := 4) sc_shown.nd rfl (.inl rfl)) pgs_nil))))
      (pss_one (ps_ret (pe_call c_rounded.G (hr.mono (by decide)) (by rfl) c_rounded.g c_rounded.kp c_rounded.b .nil pass0 (pa_cons (pv 4) (pa_cons (pe_op op_mul (pv 3) (pv 1)) (pa_cons (pv 2) pa_nil)))))))))), ?_⟩
    obtain ⟨u, b, h, a, c, rfl, hu, c0, c1, a0, a1, q⟩ := h
    refine ⟨.ref u, rfl, u, b, h, rfl, hu, true, rfl, iteF ?_⟩
    refine ⟨.int c, rfl, c, rfl, true, rfl, iteF ⟨.int c, rfl, c, 1, rfl, rfl, _, rfl, iteDN (by omega) ?_⟩⟩
    refine ⟨.int a, rfl, a, rfl, true, rfl, iteF ⟨.int a, rfl, 0, a, rfl, rfl, _, rfl, iteDY a0 ?_⟩⟩
    refine ⟨.int c, rfl, a, c, rfl, rfl, _, rfl, iteNS a1 ?_⟩
    refine ⟨.ref u, rfl, u, _, rfl, hu.1, rfl, _, _, rfl, _, _, rfl, rfl, ?_⟩
    have hb := hu.2
    exact ⟨.str h, rfl, .int b, rfl, .int a, rfl, b, a, rfl, rfl, .inl ⟨by omega, by omega⟩, .int c, rfl, h, b * a, c, rfl, c0, c1, q⟩
theorem ok_is_right {f : Addr} {fd : FuncData} (F : Fun K "is_right" "is_right" s_is_right f fd) (c_shown : Cal P w K mg base 3 "shown" ["units", "many", "whole"] (sp_shown K)) : FnOk P w K mg base CX0 4 f fd ["units", "share", "many", "whole"] (sp_is_right K) := by
  refine F.ok sc_is_right (fun vs H Q E h => ?_) (fun cdv A outer s H vs Q E hr h => ?_)
  · obtain ⟨u, b, h, v, m, W0, rfl, _⟩ := h
    rfl
  · refine ⟨_, (pss_cons (ps_if (pt_cmpR op_isN (pv 1) pe_non (nomark _)) (pss_one (ps_ret pe_bl)) pss_nil)
      (pss_cons (ps_if (pt_cmpR op_eq (pv 3) pe_int (nomark _)) (pss_one (ps_ret pe_bl)) pss_nil)
      (pss_cons (ps_if (pt_cmpR op_eq (pv 1) pe_str (nomark _)) (pss_one (ps_ret (pe_cmpR op_eq (pv 2) pe_int (nomark _)))) pss_nil)
      (pss_cons (ps_if (pt_cmpR op_eq (pv 1) pe_str (nomark _)) (pss_one (ps_ret (pe_chain op_lt op_lt pe_int (pe_op op_mul (pe_ix ix_tup (pv 0) pe_int (fun _ _ => rfl)) (pv 2)) (pv 3)))) pss_nil)
      (pss_one (ps_ret (pe_cmpR op_eq (pe_call c_shown.G (hr.mono (by decide)) (by rfl) c_shown.g c_shown.kp c_shown.b .nil pass0 (pa_cons (pv 0) (pa_cons (pv 2) (pa_cons (pv 3) pa_nil)))) (pv 1) (nomark _)))))))), ?_⟩
    obtain ⟨u, b, h, v, m, W0, rfl, hu, hv, m0, m1, w1, q⟩ := h
    have sv : ∀ s, scal v (.str s) = true := fun s => scal_shv hv
    have Q' : ∀ z H', rightV h b v m W0 = z → Same H H' → Q (.bl z) H' := fun z H' e s => e ▸ q H' s
    have s0 : Same H H := fun _ _ e => e
    have hb := hu.2
    have bm : 0 ≤ (b : Int) * m := Int.mul_nonneg (by omega) m0
    unfold rightV at Q'
    refine ⟨v, rfl, rfl, _, rfl, ite2 (fun e => ?_) (fun e => ?_)⟩
    · exact Q' _ H (if_pos (of_decide_eq_true e)) s0
    have nv : v ≠ .non := fun z => e (decide_eq_true z)
    refine ⟨.int W0, rfl, rfl, _, rfl, ite2 (fun e2 => ?_) (fun e2 => ?_)⟩
    · exact Q' _ H (by rw [if_neg nv, if_pos (int_of e2)]) s0
    have nw := int_not e2
    refine ⟨v, rfl, sv _, _, rfl, ite2 (fun e3 => ?_) (fun e3 => ?_)⟩
    · exact ⟨.int m, rfl, rfl, Q' _ H (by rw [if_neg nv, if_neg nw, if_pos (of_decide_eq_true e3)]; exact dec_int0.symm) s0⟩
    have n3 : v ≠ .str "none" := fun z => e3 (decide_eq_true z)
    refine ⟨v, rfl, sv _, _, rfl, ite2 (fun e4 => ?_) (fun e4 => ?_)⟩
    · have e4' : v = .str "some" := of_decide_eq_true e4
      refine ⟨.ref u, rfl, u, _, 0, .int b, rfl, rfl, hu.1, rfl, .int m, rfl, b, m, rfl, rfl, .inl ⟨by omega, by omega⟩, 0, _, rfl, rfl, _, rfl, ite2 (fun a => ?_) (fun a => ?_)⟩
      · exact ⟨.int W0, rfl, _, W0, rfl, rfl, Q' _ H (by rw [if_neg nv, if_neg nw, if_neg n3, if_pos e4', decide_eq_true (of_decide_eq_true a)]; rfl) s0⟩
      · exact Q' _ H (by rw [if_neg nv, if_neg nw, if_neg n3, if_pos e4', decide_eq_false (fun z => a (decide_eq_true z))]; rfl) s0
    have n4 : v ≠ .str "some" := fun z => e4 (decide_eq_true z)
    refine ⟨.ref u, rfl, .int m, rfl, .int W0, rfl, u, b, h, m, W0, rfl, hu, by omega, by omega, m0, m1, fun H' s' => ?_⟩
    exact ⟨v, rfl, scal_shi hv, Q' _ H' (by rw [if_neg nv, if_neg nw, if_neg n3, if_neg n4]) s'⟩
theorem ok_is_counts (c : PgC K C) {pE fEn : Addr} {dfEn : FuncData} (rE : PropOf K C "ends" pE fEn) (FEn : FnOk P w K mg base CX0 1 fEn dfEn ["self"] (sp_Page_ends K C)) (bEn : Binds K dfEn ["self"] []) {f : Addr} {fd : FuncData} (F : Fun K "is_counts" "is_counts" s_is_counts f fd) (m_isinstance : mg "isinstance" = none) (m_tuple : mg "tuple" = none) (m_len : mg "len" = none) (m_all : mg "all" = none) (m_sum : mg "sum" = none) (c_is_integer : Cal P w K mg base 1 "is_integer" ["value"] (sp_is_integer K)) : FnOk P w K mg base CX0 3 f fd ["page", "value"] (sp_is_counts K C) := by
  refine F.ok sc_is_counts (fun vs H Q E h => ?_) (fun cdv A outer s H vs Q E hr h => ?_)
  · obtain ⟨b, h, x, rs, a, dx, u, d, e, T, cs, rfl, _⟩ := h
    rfl
  · refine ⟨_, (pss_cons (ps_if (PW.pt (pw_or (pt_not (pt_val (pe_callB call_isi (by rfl) m_isinstance (by decide +kernel) (pa_cons (pv 1) (pa_cons (pe_bltn (v := .ty "tuple") (by rfl) m_tuple (by decide +kernel) rfl) pa_nil))))) (pw_or1 (pt_cmpR op_ne (pe_callB call_len_seq (by rfl) m_len (by decide +kernel) (pa_cons (pv 1) pa_nil)) (pe_callB call_len_seq (by rfl) m_len (by decide +kernel) (pa_cons (pe_prop (pv 0) c.cls rE FEn (hr.mono (by decide)) bEn .nil pass0 (by rfl)) pa_nil)) (nomark _))))) (pss_one (ps_ret pe_bl)) pss_nil)
      (pss_cons (ps_if (pt_not (pt_val (pe_callB (cr_all rfl) (by rfl) m_all (by decide +kernel) (pa_cons (pe_lc (own := [("count", 2)]) (g := gName 2) rfl sc_is_counts.nd (pi_tup (pv 1)) (blkOk_by (own := [("count", 2)]) (N := N_is_counts) (sc := defScope s_is_counts) (by decide +kernel)) (fun _ _ _ _ _ => (pg_name (i := 2) sc_is_counts.nd rfl (.inl rfl))) (fun _ _ _ _ _ => pts_nil) (fun _ _ _ _ _ => (pe_and (pe_call c_is_integer.G (hr.mono (by decide)) (by rfl) c_is_integer.g c_is_integer.kp c_is_integer.b .nil pass0 (pa_cons (pv 2) pa_nil)) (pe_one (pe_cmpR op_ge (pv 2) pe_int (nomark _)))))) pa_nil)))) (pss_one (ps_ret pe_bl)) pss_nil)
      (pss_one (ps_ret (pe_cmpR op_gt (pe_callB (cr_sumT rfl) (by rfl) m_sum (by decide +kernel) (pa_cons (pv 1) pa_nil)) pe_int (nomark _)))))), ?_⟩
    obtain ⟨b, h, x, rs, a, dx, u, d, e, T, cs, rfl, O, hT, hl, l6, c0, cp, q⟩ := h
    refine ⟨.ref T, rfl, .ref T, .ty "tuple", _, _, true, rfl, .ty "tuple", ty_tup hT, kit_ty (by decide +kernel), true, rfl, ?_⟩
    refine iteF ⟨.ref T, rfl, T, _, rfl, .inr hT, ?_⟩
    refine ⟨.ref a, rfl, a, dx, _, rfl, O.at_, b, h, x, rs, a, dx, u, d, e, rfl, O, ?_⟩
    refine ⟨e, _, rfl, .inr (SqT.of O.ends), rfl, _, rfl, ?_⟩
    have le : (cs.map V.int).length = ((ends (linesOf x rs)).map V.str).length := by rw [List.length_map, List.length_map, hl]
    rw [le]
    refine ite2 (fun z => ?_) (fun _ => ?_)
    · simp at z
    refine next_in ?_
    refine ⟨.ref T, rfl, T, rfl, ⟨_, hT⟩, fun Z nZ => ?_⟩
    refine lc_it (walk_tup (xs := cs.map V.int)) (fun i H' => Same H H' ∧ H' Z = some (.lst (List.replicate i (.bl true)))) ⟨sameU nZ, upd_same⟩ (fun i H' _ z => sqT_same z.1 hT) ?_ ?_
    · rintro i y H1 H2 hi ⟨s2, hZ⟩ ⟨rfl, hk⟩
      rw [List.length_map] at hi
      rw [List.getElem?_map] at hk
      obtain ⟨n, kn, rfl⟩ := Option.map_eq_some_iff.mp hk
      have n0 := c0 n (List.mem_of_getElem? kn)
      refine ⟨rfl, .int n, rfl, n, rfl, true, rfl, .int n, rfl, n, 0, rfl, rfl, ?_⟩
      rw [show (fun i j : Int => V.bl (decide (j ≤ i))) n 0 = V.bl true from congrArg V.bl (decide_eq_true n0)]
      refine ⟨_, hZ, ?_, ?_, ?_⟩
      · rw [List.length_replicate]
        exact small1000 (by omega)
      · intro c' o eb
        rw [upd_ne (ne_of_none eb nZ)]
        exact s2 _ _ eb
      · rw [upd_same, List.replicate_succ']
    rintro H1 ⟨s1, hZ⟩
    refine ⟨Z, List.replicate _ true, rfl, SqL.of (by rw [List.map_replicate]; exact hZ), ?_⟩
    rw [all_rep]
    refine ⟨true, rfl, iteF ?_⟩
    refine ⟨.ref T, rfl, T, cs, rfl, sqT_same s1 hT, _, 0, rfl, rfl, ?_⟩
    show Q (V.bl (decide (0 < cs.sum))) H1
    rw [decide_eq_true cp]
    exact q _ s1
theorem ok_many_in (c : PgC K C) {pE fEn : Addr} {dfEn : FuncData} (rE : PropOf K C "ends" pE fEn) (FEn : FnOk P w K mg base CX0 1 fEn dfEn ["self"] (sp_Page_ends K C)) (bEn : Binds K dfEn ["self"] []) {fN : Addr} {dfN : FuncData} (mN : Meth K C "ends_of" fN) (FN : FnOk P w K mg base CX0 2 fN dfN ["self", "part"] (sp_Page_ends_of K C)) (bN : Binds K dfN ["self", "part"] []) {f : Addr} {fd : FuncData} (F : Fun K "many_in" "many_in" s_many_in f fd) (m_sum : mg "sum" = none) (m_zip : mg "zip" = none) : FnOk P w K mg base CX0 4 f fd ["page", "counts", "part"] (sp_many_in K C) := by
  refine F.ok sc_many_in (fun vs H Q E h => ?_) (fun cdv A outer s H vs Q E hr h => ?_)
  · obtain ⟨b, h, x, rs, a, dx, u, d, e, T, cs, p, W, rfl, _⟩ := h
    rfl
  · refine ⟨_, (pss_cons (ps_set (i := 3) sc_many_in.nd rfl (.inr rfl) (pe_meth (pv 0) c.cls mN FN (hr.mono (by decide)) bN .nil pass0 (pa_cons (pv 2) pa_nil)))
      (pss_one (ps_ret (pe_callB (cr_sum rfl) (by rfl) m_sum (by decide +kernel) (pa_cons (pe_lc (own := [("end", 4), ("count", 5)]) (g := gTup K 2 (gCons (gName 4) (gCons (gName 5) gNil))) rfl sc_many_in.nd (RZ.pi_zipA (by rfl) m_zip (pa_cons (pe_prop (pv 0) c.cls rE FEn (hr.mono (by decide)) bEn .nil pass0 (by rfl)) (pa_cons (pv 1) pa_nil))) (blkOk_by (own := [("end", 4), ("count", 5)]) (N := N_many_in) (sc := defScope s_many_in) (by decide +kernel)) (fun _ _ _ _ _ => (pg_tup rfl (pgs_cons (pg_name (i := 4) sc_many_in.nd rfl (.inl rfl)) (pgs_cons (pg_name (i := 5) sc_many_in.nd rfl (.inl rfl)) pgs_nil)))) (fun _ _ _ _ _ => pts_one (pt_cmpR (r := rIn K false) op_in_seq (pv 4) (pv 3) rfl)) (fun _ _ _ _ _ => (pv 5))) pa_nil))))), ?_⟩
    obtain ⟨b, h, x, rs, a, dx, u, d, e, T, cs, p, W, rfl, O, hg, hW, hp, hT, hl, q⟩ := h
    refine seq_set ⟨.ref a, rfl, a, dx, _, rfl, O.at_, rfl, .str p, rfl, b, h, x, rs, a, dx, u, d, e, p, W, rfl, O, hg, hp, hW, fun H1 t s1 n1 h1 => ?_⟩
    have O1 := O.same s1
    have hT1 := sqT_same s1 hT
    have hef := (last_end hg).2
    refine ret_in (cb_in (cons_in ?_))
    refine ⟨.ref a, rfl, a, dx, _, rfl, O1.at_, b, h, x, rs, a, dx, u, d, e, rfl, O1, .ref T, rfl, e, T, _, _, rfl, .inr ⟨SqT.of O1.ends, hT1, fun Z nZ => ?_⟩⟩
    have hE := O1.ends
    have q0 : ∀ H', Same H1 H' → Q (.int (((ends (linesOf x rs)).zip cs).filterMap fun ec => if onWay W p ec.1 = true then some ec.2 else none).sum) H' := fun H' s' => q H' (s1.trans s')
    clear q
    generalize ends (linesOf x rs) = es at h1 hE hl q0 hef
    refine lc_it (walk_zipT (n := es.length) (xs := es.map V.str) (ys := cs.map V.int) (by rw [List.length_map, List.length_map, hl]; omega)) (fun i H' => Same H1 H' ∧ H' Z = some (.lst ((((es.zip cs).take i).filterMap fun ec => if onWay W p ec.1 = true then some ec.2 else none).map V.int))) ⟨sameU nZ, upd_same⟩ (fun i H' _ z => ⟨SqT.of (z.1 _ _ hE), sqT_same z.1 hT1⟩) ?_ ?_
    · rintro i y H4 H5 hi ⟨s4, hZ⟩ ⟨B, ya, yc, rfl, nB, rfl, ea, ec⟩
      replace ea : (es.map V.str)[i]? = some ya := ea
      replace ec : (cs.map V.int)[i]? = some yc := ec
      rw [List.getElem?_map] at ea ec
      obtain ⟨en, ea', rfl⟩ := Option.map_eq_some_iff.mp ea
      obtain ⟨c', ec', rfl⟩ := Option.map_eq_some_iff.mp ec
      have s45 := s4.trans (sameU (o := .tup [.str en, .int c']) nB)
      have hZ5 := (sameU (o := .tup [.str en, .int c']) nB) _ _ hZ
      have ez : (es.zip cs)[i]? = some (en, c') := by
        rw [List.getElem?_zip_eq_some]
        exact ⟨ea', ec'⟩
      have tk : (es.zip cs).take (i + 1) = (es.zip cs).take i ++ [(en, c')] := by rw [List.take_add_one, ez]; rfl
      have io : inV (.str en) ((es.filter (onWay W p)).map V.str) = onWay W p en := by
        rw [Bool.eq_iff_iff]
        refine (onWay_iff (W := fun _ => es.filter (onWay W p)) (e := en)).trans ?_
        rw [List.mem_filter]
        exact ⟨fun z => z.2, fun z => ⟨List.mem_of_getElem? ea', z⟩⟩
      refine ⟨B, _, rfl, SqT.of upd_same, rfl, _, _, rfl, _, _, rfl, rfl, rfl, .str en, rfl, .ref t, rfl, t, _, rfl, .inr (SqT.of (s45 _ _ h1)), rfl, (by rw [List.all_map]; exact List.all_eq_true.mpr fun _ _ => rfl), ?_⟩
      rw [io]
      refine ⟨_, rfl, ite2 (fun z => ?_) (fun z => ?_)⟩
      · refine ⟨.int c', rfl, _, hZ5, ?_, ?_, ?_⟩
        · rw [List.length_map]
          refine small1000 (Nat.le_trans (List.length_filterMap_le _ _) ?_)
          rw [List.length_take]
          exact Nat.le_trans (Nat.min_le_left _ _) (by omega)
        · intro c2 o eb
          rw [upd_ne (ne_of_none eb nZ)]
          exact s45 _ _ eb
        · rw [upd_same, tk, List.filterMap_append, List.map_append]
          have z2 : onWay W p en = true := z
          simp [List.filterMap, z2]
      · refine ⟨s45, ?_⟩
        rw [hZ5, tk, List.filterMap_append]
        have z2 : onWay W p en = false := Bool.eq_false_iff.mpr z
        simp [List.filterMap, z2]
    rintro H4 ⟨s4, hZ⟩
    have lz : es.length = (es.zip cs).length := by rw [List.length_zip]; omega
    rw [lz, List.take_length] at hZ
    exact ⟨Z, _, rfl, SqL.of hZ, q0 _ s4⟩
end
end Uq

namespace Uq
open PySem PySem.Spec PyProof.Rows L2

/-! ### class Table -/
abbrev s_Table__init_ : Stmt := inClass (topS 27) 0
abbrev N_Table__init_ : List Str := ["self", "page", "counts", "part"]
theorem sc_Table__init_ : FnScope N_Table__init_ ["self", "page", "counts"] (defScope s_Table__init_) := ⟨rfl, rfl, rfl, by decide +kernel, rfl, by decide +kernel, by decide +kernel⟩
abbrev s_Table_total : Stmt := inClass (topS 27) 3
abbrev N_Table_total : List Str := ["self"]
theorem sc_Table_total : FnScope N_Table_total ["self"] (defScope s_Table_total) := ⟨rfl, rfl, rfl, by decide +kernel, rfl, by decide +kernel, by decide +kernel⟩
abbrev s_Table__getitem_ : Stmt := inClass (topS 27) 5
abbrev N_Table__getitem_ : List Str := ["self", "at"]
theorem sc_Table__getitem_ : FnScope N_Table__getitem_ ["self", "at"] (defScope s_Table__getitem_) := ⟨rfl, rfl, rfl, by decide +kernel, rfl, by decide +kernel, by decide +kernel⟩
structure TbC (K : PySem.W.Frag) (C : Addr) : Prop where
  cls : Cls K C
  page : NoAttr K C "_page"
  counts : NoAttr K C "_counts"
  many : NoAttr K C "_many"
def tbF (pa T M : Addr) : List (Str × V) := [("_page", .ref pa), ("_counts", .ref T), ("_many", .ref M)]
/-- the numbers of these parts -/
def manyKV (x : Str) (rs : List Rw) (W : Str → List Str) (cs : List Int) (ps : List Str) : List (Key × V) := ps.map fun p => (.inr p, .int (manyL x rs W cs p))
structure TbO (K : PySem.W.Frag) (C Ct : Addr) (b : Nat) (h x : Str) (rs : List Rw) (W : Str → List Str) (cs : List Int) (H : Hp) (a dx pa dp u d e T M : Addr) : Prop where
  at_ : H a = some (.ins Ct dx (tbF pa T M))
  page : PgO K C b h x rs H pa dp u d e
  counts : SqT K H T (cs.map V.int)
  many : H M = some (.dK (manyKV x rs W cs ((linesOf x rs).map (·.nm))))
theorem TbO.same {K : PySem.W.Frag} {C Ct : Addr} {b : Nat} {h x : Str} {rs : List Rw} {W : Str → List Str} {cs : List Int} {H H' : Hp} {a dx pa dp u d e T M : Addr} (s : Same H H') (p : TbO K C Ct b h x rs W cs H a dx pa dp u d e T M) : TbO K C Ct b h x rs W cs H' a dx pa dp u d e T M :=
  ⟨s _ _ p.at_, p.page.same s, sqT_same s p.counts, s _ _ p.many⟩
/-- counts that are right ones of a page -/
structure TbR (b : Nat) (h x : Str) (rs : List Rw) (W : Str → List Str) (cs : List Int) : Prop where
  pg : Pg b h x rs
  way : ∀ q ∈ ends (linesOf x rs), Way (linesOf x rs) q (W q) ∧ (W q).length ≤ 4
  len : cs.length = (ends (linesOf x rs)).length
  pos : ∀ c ∈ cs, 0 ≤ c
  some_ : 0 < cs.sum
theorem manyKV_none {x : Str} {rs : List Rw} {W : Str → List Str} {cs : List Int} {p : Str} : ∀ {ps : List Str}, p ∉ ps → valV (manyKV x rs W cs ps) (.inr p) = none
  | [], _ => rfl
  | q :: ps, h => by
    rw [List.mem_cons, not_or] at h
    show valV ((Sum.inr q, V.int _) :: manyKV x rs W cs ps) (.inr p) = none
    rw [valV_neg fun e => h.1 (Sum.inr.inj e).symm]
    exact manyKV_none h.2
theorem manyKV_some {x : Str} {rs : List Rw} {W : Str → List Str} {cs : List Int} {p : Str} : ∀ {ps : List Str}, p ∈ ps → valV (manyKV x rs W cs ps) (.inr p) = some (.int (manyL x rs W cs p))
  | q :: ps, h => by
    show valV ((Sum.inr q, V.int _) :: manyKV x rs W cs ps) (.inr p) = _
    by_cases e : q = p
    · subst e
      exact valV_pos rfl
    · rw [valV_neg fun z => e (Sum.inr.inj z)]
      exact manyKV_some ((List.mem_cons.mp h).resolve_left fun z => e z.symm)
theorem PgO.ins {K : PySem.W.Frag} {C : Addr} {b : Nat} {h x : Str} {rs : List Rw} {H : Hp} {a dx u d e g C2 dx2 : Addr} {fs : List (Str × V)} {o : HO} (p : PgO K C b h x rs H a dx u d e) (hg : H g = some (.ins C2 dx2 fs)) (n : a ≠ g) : PgO K C b h x rs (upd H g o) a dx u d e := by
  have n1 : u ≠ g := fun z => by
    have := p.units
    rw [z, hg] at this
    cases this
  have n2 : e ≠ g := fun z => by
    have := p.ends
    rw [z, hg] at this
    cases this
  exact ⟨by rw [upd_ne n]; exact p.at_, by rw [upd_ne n1]; exact p.units, p.lines.ins hg, by rw [upd_ne n2]; exact p.ends⟩
def sp_Table__init_ (K : PySem.W.Frag) (C Ct : Addr) : Sp := fun vs H Q _ => ∃ (b : Nat) (h x : Str) (rs : List Rw) (W : Str → List Str) (cs : List Int) (a dx pa dp u d e T : Addr), vs = [.ref a, .ref pa, .ref T] ∧ PgO K C b h x rs H pa dp u d e ∧ TbR b h x rs W cs ∧ SqT K H T (cs.map V.int) ∧ H a = some (.ins Ct dx []) ∧
  ∀ H' M, (∀ c o, c ≠ a → H c = some o → H' c = some o) → TbO K C Ct b h x rs W cs H' a dx pa dp u d e T M → Q .non H'
def sp_Table_total (K : PySem.W.Frag) (C Ct : Addr) : Sp := fun vs H Q _ => ∃ (b : Nat) (h x : Str) (rs : List Rw) (W : Str → List Str) (cs : List Int) (a dx pa dp u d e T M : Addr), vs = [.ref a] ∧ TbO K C Ct b h x rs W cs H a dx pa dp u d e T M ∧ Q (.int cs.sum) H
def sp_Table__getitem_ (K : PySem.W.Frag) (C Ct : Addr) : Sp := fun vs H Q _ => ∃ (b : Nat) (h x : Str) (rs : List Rw) (W : Str → List Str) (cs : List Int) (a dx pa dp u d e T M : Addr) (p : Str), vs = [.ref a, .str p] ∧ TbO K C Ct b h x rs W cs H a dx pa dp u d e T M ∧ p ∈ (linesOf x rs).map (·.nm) ∧ Q (.int (manyL x rs W cs p)) H
section
variable {P : Program} {w : World} {K : PySem.W.Frag} {mg : Str → Option Value} {base : Heap} {C Ct fC : Addr} {fdC : FuncData}
theorem ok_Table_total (c : TbC K Ct) {f : Addr} {fd : FuncData} (F : Fun K "total" "Table.total" s_Table_total f fd) (m_sum : mg "sum" = none) : FnOk P w K mg base CX0 1 f fd ["self"] (sp_Table_total K C Ct) := by
  refine F.ok sc_Table_total (fun vs H Q E h => ?_) (fun cdv A outer s H vs Q E hr h => ?_)
  · obtain ⟨b, h, x, rs, W, cs, a, dx, pa, dp, u, d, e, T, M, rfl, _⟩ := h
    rfl
  · refine ⟨_, (pss_one (ps_ret (pe_callB (cr_sumT rfl) (by rfl) m_sum (by decide +kernel) (pa_cons (pe_fld (pv 0) (by rfl)) pa_nil)))), ?_⟩
    obtain ⟨b, h, x, rs, W, cs, a, dx, pa, dp, u, d, e, T, M, rfl, O, q⟩ := h
    exact ⟨.ref a, rfl, a, Ct, dx, _, .ref T, rfl, O.at_, c.cls, c.counts, rfl, T, cs, rfl, O.counts, q⟩
theorem ok_Table__getitem_ (c : TbC K Ct) {f : Addr} {fd : FuncData} (F : Fun K "__getitem__" "Table.__getitem__" s_Table__getitem_ f fd) (dC : Dun K C fC "__contains__") (FC : FnOk P w K mg base CX0 1 fC fdC ["self", "x"] (sp_Page__contains_ K C)) (bC : Binds K fdC ["self", "x"] []) : FnOk P w K mg base CX0 2 f fd ["self", "at"] (sp_Table__getitem_ K C Ct) := by
  refine F.ok sc_Table__getitem_ (fun vs H Q E h => ?_) (fun cdv A outer s H vs Q E hr h => ?_)
  · obtain ⟨b, h, x, rs, W, cs, a, dx, pa, dp, u, d, e, T, M, p, rfl, _⟩ := h
    rfl
  · refine ⟨_, (pss_cons (ps_if (pt_cmpR (op_notInO dC FC (hr.mono (by decide)) bC) (pv 1) (pe_fld (pv 0) (by rfl)) rfl) (pss_one ps_never) pss_nil)
      (pss_one (ps_ret (pe_dget (hu_of hr) (pe_fld (pv 0) (by rfl)) (pv 1) (fun _ _ => rfl))))), ?_⟩
    obtain ⟨b, h, x, rs, W, cs, a, dx, pa, dp, u, d, e, T, M, p, rfl, O, hp, q⟩ := h
    refine ⟨.str p, rfl, .ref a, rfl, a, Ct, dx, _, .ref pa, rfl, O.at_, c.cls, c.page, rfl, pa, dp, _, rfl, O.page.at_, ⟨b, h, x, rs, pa, dp, u, d, e, p, rfl, O.page, ?_⟩⟩
    rw [decide_eq_true hp]
    refine ⟨true, rfl, false, rfl, iteF ?_⟩
    refine next_in (ret_in ?_)
    exact ⟨.ref a, rfl, a, Ct, dx, _, .ref M, rfl, O.at_, c.cls, c.many, rfl, .str p, rfl, M, _, rfl, .inl ⟨_, .inr p, .inl O.many, rfl, (manyKV_some hp).symm⟩, q⟩
theorem ok_Table__init_ (cP : PgC K C) (c : TbC K Ct) {pP fP : Addr} {dfP : FuncData} (rP : PropOf K C "parts" pP fP) (FP : FnOk P w K mg base CX0 1 fP dfP ["self"] (sp_Page_parts K C)) (bP : Binds K dfP ["self"] []) {f : Addr} {fd : FuncData} (F : Fun K "__init__" "Table.__init__" s_Table__init_ f fd) (c_is_counts : Cal P w K mg base 3 "is_counts" ["page", "value"] (sp_is_counts K C)) (c_many_in : Cal P w K mg base 4 "many_in" ["page", "counts", "part"] (sp_many_in K C)) : FnOk P w K mg base CX0 5 f fd ["self", "page", "counts"] (sp_Table__init_ K C Ct) := by
  refine F.ok sc_Table__init_ (fun vs H Q E h => ?_) (fun cdv A outer s H vs Q E hr h => ?_)
  · obtain ⟨b, h, x, rs, W, cs, a, dx, pa, dp, u, d, e, T, rfl, _⟩ := h
    rfl
  · refine ⟨_, (pss_cons (ps_if (pt_not (pt_val (pe_call c_is_counts.G (hr.mono (by decide)) (by rfl) c_is_counts.g c_is_counts.kp c_is_counts.b .nil pass0 (pa_cons (pv 1) (pa_cons (pv 2) pa_nil))))) (pss_one ps_never) pss_nil)
      (pss_cons (ps_fld (pv 0) (pv 1) rfl)
      (pss_cons (ps_fld (pv 0) (pv 2) rfl)
      (pss_one (ps_fld (pv 0) (pe_dc (own := [("part", 3)]) (g := gName 3) rfl sc_Table__init_.nd (pi_tup (pe_prop (pv 1) cP.cls rP FP (hr.mono (by decide)) bP .nil pass0 (by rfl))) (blkOk_by (own := [("part", 3)]) (N := N_Table__init_) (sc := defScope s_Table__init_) (by decide +kernel)) (fun _ _ _ _ _ => (pg_name (i := 3) sc_Table__init_.nd rfl (.inl rfl))) (fun _ _ _ _ _ => pts_nil) (fun _ _ _ _ _ => pv 3) (fun _ _ _ _ _ => (pe_call c_many_in.G (hr.mono (by decide)) (by rfl) c_many_in.g c_many_in.kp c_many_in.b .nil pass0 (pa_cons (pv 1) (pa_cons (pv 2) (pa_cons (pv 3) pa_nil)))))) rfl))))), ?_⟩
    obtain ⟨b, h, x, rs, W, cs, a, dx, pa, dp, u, d, e, T, rfl, O, R, hT, hA, q⟩ := h
    have l6 : cs.length ≤ 6 := by
      rw [R.len]
      exact (last_end R.pg).2
    have nA : pa ≠ a := fun z => by
      have := O.at_
      rw [z, hA] at this
      cases this
    refine ⟨.ref pa, rfl, .ref T, rfl, b, h, x, rs, pa, dp, u, d, e, T, cs, rfl, O, hT, R.len, l6, R.pos, R.some_, fun H1 s1 => ⟨true, rfl, iteF ?_⟩⟩
    have hA1 := s1 _ _ hA
    have O1 := O.same s1
    have hT1 := sqT_same s1 hT
    refine next_in ?_
    refine ⟨.ref pa, rfl, .ref a, rfl, a, Ct, dx, _, rfl, hA1, c.cls, c.page, Nat.zero_lt_succ _, ?_⟩
    refine ⟨.ref T, rfl, .ref a, rfl, a, Ct, dx, _, rfl, upd_same, c.cls, c.counts, Nat.lt_of_le_of_lt (putF_len _ _ _) (by decide : 0 + 1 < 1000), ?_⟩
    rw [upd_twice]
    have hF := Nat.lt_of_le_of_lt (Nat.le_trans (putF_len "_counts" (V.ref T) (putF "_page" (V.ref pa) [])) (Nat.succ_le_succ (putF_len _ _ _))) (show 0 + 1 + 1 < 1000 by decide)
    generalize eF : putF "_counts" (V.ref T) _ = F2 at hF ⊢
    have O2 : PgO K C b h x rs (upd H1 a (.ins Ct dx F2)) pa dp u d e := O1.ins hA1 nA
    have hT2 : SqT K (upd H1 a (.ins Ct dx F2)) T (cs.map V.int) := sqT_ins hT1 hA1
    have o2 : ∀ c o, c ≠ a → H c = some o → (upd H1 a (.ins Ct dx F2)) c = some o := fun c o n e => by
      rw [upd_ne n]
      exact s1 _ _ e
    have na2 : (upd H1 a (.ins Ct dx F2)) a = _ := upd_same
    generalize L2.upd H1 a (.ins Ct dx F2) = G at O2 hT2 o2 na2 ⊢
    refine ⟨.ref pa, rfl, pa, dp, _, rfl, O2.at_, b, h, x, rs, pa, dp, u, d, e, rfl, O2, fun G1 t ob s3 n3 h3 f3 => ?_⟩
    refine ⟨t, rfl, ⟨_, .inl (.inr ⟨ob, h3⟩)⟩, fun M nM => ?_⟩
    have O3 := O2.same s3
    have hT3 := sqT_same s3 hT2
    have nd := nodup_lines R.pg.good
    have few := R.pg.few
    have ln : ((linesOf x rs).map (·.nm)).length = rs.length + 1 := by rw [List.length_map, linesOf_len]
    have ms : ∀ p ∈ (linesOf x rs).map (·.nm), p ∈ (linesOf x rs).map (·.nm) := fun _ m => m
    generalize hns : (linesOf x rs).map (·.nm) = ns at h3 nd ln
    refine dc_tup (xs := ns.map V.str) (fun i H' => Same G1 H' ∧ H' M = some (.dK (manyKV x rs W cs (ns.take i)))) ⟨sameU nM, upd_same⟩ (fun i H' _ z => .inl (.inr ⟨ob, z.1 _ _ h3⟩)) ?_ ?_
    · rintro i y H2 hk ⟨s2, hM⟩
      rw [List.getElem?_map] at hk
      obtain ⟨p, kp, rfl⟩ := Option.map_eq_some_iff.mp hk
      have ip : i < ns.length := (List.getElem?_eq_some_iff.mp kp).1
      have tk : ns.take (i + 1) = ns.take i ++ [p] := by rw [List.take_add_one, kp]; rfl
      have pn : p ∉ ns.take i := fun m => by
        obtain ⟨j, lj, ej⟩ := List.getElem_of_mem m
        rw [List.getElem_take] at ej
        rw [List.length_take] at lj
        have := nodup_at nd (List.getElem?_eq_some_iff.mpr ⟨by omega, ej⟩) kp
        omega
      refine ⟨rfl, .str p, rfl, .ref pa, rfl, .ref T, rfl, .str p, rfl, b, h, x, rs, pa, dp, u, d, e, T, cs, p, W, rfl, O3.same s2, R.pg, R.way, hns ▸ List.mem_of_getElem? kp, sqT_same s2 hT3, R.len, fun H4 s4 => ?_⟩
      refine ⟨_, .inr p, rfl, s4 _ _ hM, ?_, ?_, ?_⟩
      · unfold manyKV
        rw [List.length_map, List.length_take]
        exact small1000 (Nat.le_trans (Nat.min_le_left _ _) (by omega))
      · intro c' o eb
        rw [upd_ne (ne_of_none eb nM)]
        exact s4 _ _ (s2 _ _ eb)
      · rw [upd_same, putK_new _ (manyKV_none pn), tk]
        unfold manyKV
        rw [List.map_append]
        rfl
    rintro H2 ⟨s2, hM⟩
    rw [List.length_map, List.take_length] at hM
    have na3 := s2 _ _ (s3 _ _ na2)
    have na : M ≠ a := (ne_of_none (s3 _ _ na2) nM).symm
    refine ⟨.ref a, rfl, a, Ct, dx, _, rfl, na3, c.cls, c.many, hF, ?_⟩
    refine q _ M (fun c o n ec => ?_) ⟨?_, ?_, ?_, ?_⟩
    · rw [upd_ne n]
      exact s2 _ _ (s3 _ _ (o2 _ _ n ec))
    · rw [upd_same, ← eF]
      rfl
    · exact (O3.same s2).ins na3 nA
    · exact sqT_ins (sqT_same s2 hT3) na3
    · rw [upd_ne na, hns]
      exact hM
end
end Uq

namespace Uq
open PySem PySem.Spec PyProof.Rows L2

/-! ### how many are in a part, and in what is above it -/
theorem way_above {ls : List Ln} (nd : (ls.map (·.nm)).Nodup) {e : Str} {w : List Str} (h : Way ls e w) {l : Ln} {z : Str} (hl : l ∈ ls) (ha : l.ab = .str z) (m : l.nm ∈ w) : z ∈ w := by
  induction h with
  | @top l0 a b =>
    have e := line_one nd hl a (List.mem_singleton.mp m)
    rw [e, b] at ha
    cases ha
  | @up l0 q w1 a b c ih =>
    rcases List.mem_cons.mp m with e | m
    · have e := line_one nd hl a e
      rw [e, b] at ha
      cases ha
      exact List.mem_cons_of_mem _ (way_head c)
    · exact List.mem_cons_of_mem _ (ih m)
def filtS (f : Str → Bool) (L : List (Str × Int)) : Int := (L.filterMap fun ec => if f ec.1 = true then some ec.2 else none).sum
theorem filtS_cons {f : Str → Bool} {e : Str × Int} {L : List (Str × Int)} : filtS f (e :: L) = (if f e.1 = true then e.2 else 0) + filtS f L := by
  unfold filtS
  by_cases a : f e.1 = true
  · rw [List.filterMap_cons, if_pos a, if_pos a, List.sum_cons]
  · rw [List.filterMap_cons, if_neg a, if_neg a, Int.zero_add]
theorem filtS_le {f g : Str → Bool} : ∀ {L : List (Str × Int)}, (∀ ec ∈ L, 0 ≤ ec.2) → (∀ ec ∈ L, f ec.1 = true → g ec.1 = true) → filtS f L ≤ filtS g L
  | [], _, _ => Int.le_refl _
  | ec :: L, h0, hi => by
    have ih := filtS_le (f := f) (g := g) (L := L) (fun c m => h0 c (List.mem_cons_of_mem _ m)) (fun c m => hi c (List.mem_cons_of_mem _ m))
    have c0 := h0 ec List.mem_cons_self
    have ci := hi ec List.mem_cons_self
    rw [filtS_cons, filtS_cons]
    by_cases a : f ec.1 = true
    · rw [if_pos a, if_pos (ci a)]
      omega
    · rw [if_neg a]
      split <;> omega
theorem filtS_pos {f : Str → Bool} : ∀ {L : List (Str × Int)}, (∀ ec ∈ L, 0 ≤ ec.2) → 0 ≤ filtS f L
  | [], _ => Int.le_refl _
  | ec :: L, h0 => by
    have ih := filtS_pos (f := f) (L := L) (fun c m => h0 c (List.mem_cons_of_mem _ m))
    have c0 := h0 ec List.mem_cons_self
    rw [filtS_cons]
    split <;> omega
theorem filtS_all : ∀ {es : List Str} {cs : List Int}, cs.length = es.length → filtS (fun _ => true) (es.zip cs) = cs.sum
  | [], [], _ => rfl
  | e :: es, c :: cs, h => by
    rw [List.zip_cons_cons, filtS_cons, if_pos rfl, List.sum_cons, filtS_all (Nat.succ.inj h)]
theorem manyL_eq {x : Str} {rs : List Rw} {W : Str → List Str} {cs : List Int} {p : Str} : manyL x rs W cs p = filtS (onWay W p) ((ends (linesOf x rs)).zip cs) := rfl
section
variable {b : Nat} {h x : Str} {rs : List Rw} {W : Str → List Str} {cs : List Int}
theorem TbR.zip0 (R : TbR b h x rs W cs) : ∀ ec ∈ (ends (linesOf x rs)).zip cs, 0 ≤ ec.2 := fun ec m => R.pos _ (List.of_mem_zip (a := ec.1) (b := ec.2) m).2
theorem TbR.many0 (R : TbR b h x rs W cs) {p : Str} : 0 ≤ manyL x rs W cs p := filtS_pos R.zip0
theorem TbR.manyS (R : TbR b h x rs W cs) {p : Str} : manyL x rs W cs p ≤ cs.sum := by
  rw [manyL_eq, ← filtS_all R.len]
  exact filtS_le R.zip0 fun _ _ _ => rfl
theorem TbR.manyA (R : TbR b h x rs W cs) {l : Ln} {z : Str} (hl : l ∈ linesOf x rs) (ha : l.ab = .str z) : manyL x rs W cs l.nm ≤ manyL x rs W cs z := by
  rw [manyL_eq, manyL_eq]
  refine filtS_le R.zip0 fun ec m o => ?_
  have me := (List.of_mem_zip (a := ec.1) (b := ec.2) m).1
  exact onWay_iff.mpr (way_above (nodup_lines R.pg.good) (R.way _ me).1 hl ha (onWay_iff.mp o))
theorem above_in (g : Good b x rs) {r : Rw} (m : r ∈ rs) : r.ab ∈ (linesOf x rs).map (·.nm) := by
  obtain ⟨k, lk, rfl⟩ := List.getElem_of_mem m
  have z := (g k _ (List.getElem?_eq_getElem lk)).abo
  unfold linesOf at z ⊢
  rw [List.map_cons, List.mem_cons] at z ⊢
  refine z.imp id fun z => ?_
  rw [List.map_map] at z ⊢
  obtain ⟨r', m', e⟩ := List.mem_map.mp z
  exact List.mem_map.mpr ⟨r', List.mem_of_mem_take m', e⟩
end
/-- shares that may be told, and no more than can be reckoned -/
structure TbS (b : Nat) (rs : List Rw) (cs : List Int) : Prop where
  shv : ∀ r ∈ rs, ShV b r.sh ∧ ShV b r.fa
  big : cs.sum < 2 ^ 40
/-- whether what a line tells is right -/
def toldR (h : Str) (b : Nat) (x : Str) (rs : List Rw) (W : Str → List Str) (cs : List Int) (l : Ln) : Bool :=
  match l.ab with
  | .str z => rightV h b l.sh (manyL x rs W cs l.nm) (manyL x rs W cs z) && rightV h b l.fa (manyL x rs W cs l.nm) cs.sum
  | _ => true
abbrev s_Page_units : Stmt := inClass (topS 36) 2
abbrev N_Page_units : List Str := ["self"]
theorem sc_Page_units : FnScope N_Page_units ["self"] (defScope s_Page_units) := ⟨rfl, rfl, rfl, by decide +kernel, rfl, by decide +kernel, by decide +kernel⟩
abbrev s_Table_fits : Stmt := inClass (topS 27) 4
abbrev N_Table_fits : List Str := ["self", "part"]
theorem sc_Table_fits : FnScope N_Table_fits ["self"] (defScope s_Table_fits) := ⟨rfl, rfl, rfl, by decide +kernel, rfl, by decide +kernel, by decide +kernel⟩
abbrev s_Table_is_told_rightly : Stmt := inClass (topS 27) 14
abbrev N_Table_is_told_rightly : List Str := ["self", "part", "above", "share", "far", "units", "many"]
theorem sc_Table_is_told_rightly : FnScope N_Table_is_told_rightly ["self", "part"] (defScope s_Table_is_told_rightly) := ⟨rfl, rfl, rfl, by decide +kernel, rfl, by decide +kernel, by decide +kernel⟩
def sp_Page_units (K : PySem.W.Frag) (C : Addr) : Sp := fun vs H Q _ => ∃ (b : Nat) (h x : Str) (rs : List Rw) (a dx u d e : Addr), vs = [.ref a] ∧ PgO K C b h x rs H a dx u d e ∧ Q (.ref u) H
def sp_Table_is_told_rightly (K : PySem.W.Frag) (C Ct : Addr) : Sp := fun vs H Q _ => ∃ (b : Nat) (h x : Str) (rs : List Rw) (W : Str → List Str) (cs : List Int) (a dx pa dp u d e T M : Addr) (l : Ln), vs = [.ref a, .str l.nm] ∧ TbO K C Ct b h x rs W cs H a dx pa dp u d e T M ∧ TbR b h x rs W cs ∧ TbS b rs cs ∧ l ∈ linesOf x rs ∧ ∀ H', Same H H' → Q (.bl (toldR h b x rs W cs l)) H'
def sp_Table_fits (K : PySem.W.Frag) (C Ct : Addr) : Sp := fun vs H Q _ => ∃ (b : Nat) (h x : Str) (rs : List Rw) (W : Str → List Str) (cs : List Int) (a dx pa dp u d e T M : Addr), vs = [.ref a] ∧ TbO K C Ct b h x rs W cs H a dx pa dp u d e T M ∧ TbR b h x rs W cs ∧ TbS b rs cs ∧ ∀ H', Same H H' → Q (.bl ((linesOf x rs).all (toldR h b x rs W cs))) H'
section
variable {P : Program} {w : World} {K : PySem.W.Frag} {mg : Str → Option Value} {base : Heap} {C Ct : Addr}
theorem ok_Page_units (c : PgC K C) {f : Addr} {fd : FuncData} (F : Fun K "units" "Page.units" s_Page_units f fd) : FnOk P w K mg base CX0 1 f fd ["self"] (sp_Page_units K C) := by
  refine F.ok sc_Page_units (fun vs H Q E h => ?_) (fun cdv A outer s H vs Q E hr h => ?_)
  · obtain ⟨b, h, x, rs, a, dx, u, d, e, rfl, _⟩ := h
    rfl
  · refine ⟨_, (pss_one (ps_ret (pe_fld (pv 0) (by rfl)))), ?_⟩
    obtain ⟨b, h, x, rs, a, dx, u, d, e, rfl, O, q⟩ := h
    exact ret_in ⟨.ref a, rfl, a, C, dx, _, .ref u, rfl, O.at_, c.cls, c.units, rfl, q⟩
theorem ok_Table_is_told_rightly (cP : PgC K C) (c : TbC K Ct) {pU fU : Addr} {dfU : FuncData} (rU : PropOf K C "units" pU fU) (FU : FnOk P w K mg base CX0 1 fU dfU ["self"] (sp_Page_units K C)) (bU : Binds K dfU ["self"] []) {fG : Addr} {fdG : FuncData} (dG : Dun K C fG "__getitem__") (hG : PySem.W.fnIn K fG = true) (FG : FnOk P w K mg base CX0 2 fG fdG ["self", "at"] (sp_Page__getitem_ K C)) (bG : Binds K fdG ["self", "at"] [])
    {fT : Addr} {fdT : FuncData} (dT : Dun K Ct fT "__getitem__") (hT : PySem.W.fnIn K fT = true) (FT : FnOk P w K mg base CX0 2 fT fdT ["self", "at"] (sp_Table__getitem_ K C Ct)) (bT : Binds K fdT ["self", "at"] [])
    {pO fO : Addr} {dfO : FuncData} (rO : PropOf K Ct "total" pO fO) (FO : FnOk P w K mg base CX0 1 fO dfO ["self"] (sp_Table_total K C Ct)) (bO : Binds K dfO ["self"] [])
    {f : Addr} {fd : FuncData} (F : Fun K "_is_told_rightly" "Table._is_told_rightly" s_Table_is_told_rightly f fd) (c_is_right : Cal P w K mg base 4 "is_right" ["units", "share", "many", "whole"] (sp_is_right K)) : FnOk P w K mg base CX0 5 f fd ["self", "part"] (sp_Table_is_told_rightly K C Ct) := by
  refine F.ok sc_Table_is_told_rightly (fun vs H Q E h => ?_) (fun cdv A outer s H vs Q E hr h => ?_)
  · obtain ⟨b, h, x, rs, W, cs, a, dx, pa, dp, u, d, e, T, M, l, rfl, _⟩ := h
    rfl
  · refine ⟨_, (pss_cons (ps_asg (pe_ixO dG hG FG (hr.mono (by decide)) bG (pe_fld (pv 0) (by rfl)) (pv 1)) (pg_tup rfl (pgs_cons (pg_name (i := 2) sc_Table_is_told_rightly.nd rfl (.inl rfl)) (pgs_cons (pg_name (i := 3) sc_Table_is_told_rightly.nd rfl (.inl rfl)) (pgs_cons (pg_name (i := 4) sc_Table_is_told_rightly.nd rfl (.inl rfl)) pgs_nil)))))
      (pss_cons (ps_if (pt_cmpR op_isN (pv 2) pe_non (nomark _)) (pss_one (ps_ret pe_bl)) pss_nil)
      (pss_cons (ps_par (i := 5) (j := 6) (by rfl) sc_Table_is_told_rightly.nd rfl rfl (by decide) rfl rfl (pa_cons (pe_prop (pe_fld (pv 0) (by rfl)) cP.cls rU FU (hr.mono (by decide)) bU .nil pass0 (by rfl)) (pa_cons (pe_ixO dT hT FT (hr.mono (by decide)) bT (pv 0) (pv 1)) pa_nil)) (by rfl))
      (pss_one (ps_ret (pe_and (pe_call c_is_right.G (hr.mono (by decide)) (by rfl) c_is_right.g c_is_right.kp c_is_right.b .nil pass0 (pa_cons (pv 5) (pa_cons (pv 3) (pa_cons (pv 6) (pa_cons (pe_ixO dT hT FT (hr.mono (by decide)) bT (pv 0) (pv 2)) pa_nil))))) (pe_one (pe_call c_is_right.G (hr.mono (by decide)) (by rfl) c_is_right.g c_is_right.kp c_is_right.b .nil pass0 (pa_cons (pv 5) (pa_cons (pv 4) (pa_cons (pv 6) (pa_cons (pe_prop (pv 0) c.cls rO FO (hr.mono (by decide)) bO .nil pass0 (by rfl)) pa_nil)))))))))))), ?_⟩
    obtain ⟨b, h, x, rs, W, cs, a, dx, pa, dp, u, d, e, T, M, l, rfl, O, R, S, hl, q⟩ := h
    have hn : l.nm ∈ (linesOf x rs).map (·.nm) := List.mem_map.mpr ⟨l, hl, rfl⟩
    have q' : ∀ z H', toldR h b x rs W cs l = z → Same H H' → Q (.bl z) H' := fun z H' e s => e ▸ q H' s
    unfold toldR at q'
    refine ⟨.ref a, rfl, a, Ct, dx, _, .ref pa, rfl, O.at_, c.cls, c.page, rfl, .str l.nm, rfl, pa, dp, _, rfl, O.page.at_, b, h, x, rs, pa, dp, u, d, e, l, rfl, O.page, R.pg.good, hl, fun t ht => ?_⟩
    refine ⟨t, _, rfl, ht, rfl, _, _, rfl, _, _, rfl, _, _, rfl, rfl, ?_⟩
    refine ⟨l.ab, rfl, rfl, _, rfl, ite2 (fun z => ?_) (fun z => ?_)⟩
    · refine q' true H ?_ (fun _ _ e => e)
      rw [show l.ab = .non from of_decide_eq_true z]
    rcases List.mem_cons.mp hl with e0 | m
    · exact absurd (by rw [e0]; rfl) z
    obtain ⟨r, mr, er⟩ := List.mem_map.mp m
    have ea : l.ab = .str r.ab := by rw [← er]; rfl
    have h0 : 0 ≤ manyL x rs W cs l.nm := R.many0
    have h1 : manyL x rs W cs l.nm ≤ manyL x rs W cs r.ab := R.manyA hl ea
    have h2 : manyL x rs W cs r.ab ≤ cs.sum := R.manyS
    have sv := S.shv r mr
    have es : l.sh = r.sh := by rw [← er]; rfl
    have ef : l.fa = r.fa := by rw [← er]; rfl
    have hU : Un K H u b h := ⟨SqT.of O.page.units, by have := R.pg.b0; omega, by have := R.pg.b1; omega, R.pg.how⟩
    refine next_in ?_
    refine ⟨.ref a, rfl, a, Ct, dx, _, .ref pa, rfl, O.at_, c.cls, c.page, rfl, pa, dp, _, rfl, O.page.at_, b, h, x, rs, pa, dp, u, d, e, rfl, O.page, ?_⟩
    refine ⟨.ref a, rfl, .str l.nm, rfl, a, dx, _, rfl, O.at_, b, h, x, rs, W, cs, a, dx, pa, dp, u, d, e, T, M, l.nm, rfl, O, hn, _, _, rfl, ?_⟩
    refine ⟨.ref u, rfl, l.sh, rfl, .int (manyL x rs W cs l.nm), rfl, .ref a, rfl, l.ab, rfl, a, dx, _, rfl, O.at_, b, h, x, rs, W, cs, a, dx, pa, dp, u, d, e, T, M, r.ab, by rw [ea], O, above_in R.pg.good mr, ?_⟩
    refine ⟨u, b, h, l.sh, _, _, rfl, hU, es ▸ sv.1, h0, h1, Int.lt_of_le_of_lt h2 S.big, fun H1 s1 => ⟨_, rfl, ite2 (fun y => ?_) (fun y => ?_)⟩⟩
    · have O1 := O.same s1
      refine ⟨.ref u, rfl, l.fa, rfl, .int (manyL x rs W cs l.nm), rfl, .ref a, rfl, a, dx, _, rfl, O1.at_, b, h, x, rs, W, cs, a, dx, pa, dp, u, d, e, T, M, rfl, O1, ?_⟩
      refine ⟨u, b, h, l.fa, _, _, rfl, hU.same s1, ef ▸ sv.2, h0, Int.le_trans h1 h2, S.big, fun H2 s2 => ?_⟩
      refine q' _ H2 ?_ (s1.trans s2)
      rw [ea]
      show (rightV h b l.sh _ _ && _) = _
      rw [y, Bool.true_and]
    · refine q' _ H1 ?_ s1
      rw [ea]
      show (rightV h b l.sh _ _ && _) = _
      rw [Bool.eq_false_iff.mpr y, Bool.false_and]
end
end Uq

namespace Uq
open PySem PySem.Spec PyProof.Rows L2

/-! ### whether a table fits -/
section
variable {P : Program} {w : World} {K : PySem.W.Frag} {mg : Str → Option Value} {base : Heap} {C Ct : Addr}
theorem ok_Table_fits (cP : PgC K C) (c : TbC K Ct) {pP fP : Addr} {dfP : FuncData} (rP : PropOf K C "parts" pP fP) (FP : FnOk P w K mg base CX0 1 fP dfP ["self"] (sp_Page_parts K C)) (bP : Binds K dfP ["self"] []) {fR : Addr} {dfR : FuncData} (mR : Meth K Ct "_is_told_rightly" fR) (FR : FnOk P w K mg base CX0 5 fR dfR ["self", "part"] (sp_Table_is_told_rightly K C Ct)) (bR : Binds K dfR ["self", "part"] []) {f : Addr} {fd : FuncData} (F : Fun K "fits" "Table.fits" s_Table_fits f fd) (m_all : mg "all" = none) : FnOk P w K mg base CX0 6 f fd ["self"] (sp_Table_fits K C Ct) := by
  refine F.ok sc_Table_fits (fun vs H Q E h => ?_) (fun cdv A outer s H vs Q E hr h => ?_)
  · obtain ⟨b, h, x, rs, W, cs, a, dx, pa, dp, u, d, e, T, M, rfl, _⟩ := h
    rfl
  · refine ⟨_, (pss_one (ps_ret (pe_callB (cr_all rfl) (by rfl) m_all (by decide +kernel) (pa_cons (pe_lc (own := [("part", 1)]) (g := gName 1) rfl sc_Table_fits.nd (pi_tup (pe_prop (pe_fld (pv 0) (by rfl)) cP.cls rP FP (hr.mono (by decide)) bP .nil pass0 (by rfl))) (blkOk_by (own := [("part", 1)]) (N := N_Table_fits) (sc := defScope s_Table_fits) (by decide +kernel)) (fun _ _ _ _ _ => (pg_name (i := 1) sc_Table_fits.nd rfl (.inl rfl))) (fun _ _ _ _ _ => pts_nil) (fun _ _ _ _ _ => (pe_meth (pv 0) c.cls mR FR (hr.mono (by decide)) bR .nil pass0 (pa_cons (pv 1) pa_nil)))) pa_nil)))), ?_⟩
    obtain ⟨b, h, x, rs, W, cs, a, dx, pa, dp, u, d, e, T, M, rfl, O, R, S, q⟩ := h
    refine ret_in (cb_in (cons_in ?_))
    refine ⟨.ref a, rfl, a, Ct, dx, _, .ref pa, rfl, O.at_, c.cls, c.page, rfl, pa, dp, _, rfl, O.page.at_, b, h, x, rs, pa, dp, u, d, e, rfl, O.page, fun H1 t ob s1 n1 h1 f1 => ?_⟩
    refine ⟨t, rfl, ⟨_, .inl (.inr ⟨ob, h1⟩)⟩, fun D nD => ?_⟩
    have O1 := O.same s1
    have few := R.pg.few
    have ln : (linesOf x rs).length = rs.length + 1 := linesOf_len
    refine lc_it (walk_tup (xs := ((linesOf x rs).map (·.nm)).map V.str)) (fun i H' => Same H1 H' ∧ H' D = some (.lst (((linesOf x rs).take i).map fun l => V.bl (toldR h b x rs W cs l)))) ⟨sameU nD, upd_same⟩ (fun i H' _ z => .inl (.inr ⟨ob, z.1 _ _ h1⟩)) ?_ ?_
    · rintro i y H2 H3 hi ⟨s2, hD⟩ ⟨rfl, hk⟩
      rw [List.getElem?_map, List.getElem?_map] at hk
      obtain ⟨n, kn, rfl⟩ := Option.map_eq_some_iff.mp hk
      obtain ⟨l, kl, rfl⟩ := Option.map_eq_some_iff.mp kn
      have tk : (linesOf x rs).take (i + 1) = (linesOf x rs).take i ++ [l] := by rw [List.take_add_one, kl]; rfl
      have O2 := O1.same s2
      refine ⟨rfl, .ref a, rfl, a, dx, _, rfl, O2.at_, rfl, .str l.nm, rfl, b, h, x, rs, W, cs, a, dx, pa, dp, u, d, e, T, M, l, rfl, O2, R, S, List.mem_of_getElem? kl, fun H4 s4 => ?_⟩
      refine ⟨_, s4 _ _ hD, ?_, ?_, ?_⟩
      · rw [List.length_map, List.length_take]
        exact small1000 (Nat.le_trans (Nat.min_le_right _ _) (by omega))
      · intro c' o eb
        rw [upd_ne (ne_of_none eb nD)]
        exact s4 _ _ (s2 _ _ eb)
      · rw [upd_same, tk, List.map_append]
        rfl
    rintro H2 ⟨s2, hD⟩
    rw [List.length_map, List.length_map, List.take_length] at hD
    refine ⟨D, (linesOf x rs).map (toldR h b x rs W cs), rfl, SqL.of (by rw [List.map_map]; exact hD), ?_⟩
    rw [List.all_map]
    exact q _ (s1.trans s2)
end
end Uq

namespace Uq
open PySem PySem.Spec PyProof.Rows L2

/-! ### halves -/
/-- what this law's own look tells -/
def dueV (h : Str) (v : V) (hops side : Int) : Bool :=
  if v = .str "none" then decide (hops = 0) && decide (side = 0)
  else if v = .str "some" then (decide (0 < hops) || decide (0 < side)) && (decide (hops < 2) || (decide (hops = 2) && decide (side < 0)))
  else match v with
  | .int s =>
    if h = "down" then decide (8 * s ≤ 4 * hops + side) && decide (4 * hops + side < 8 * s + 8)
    else if h = "up" then decide (8 * s - 8 < 4 * hops + side) && decide (4 * hops + side ≤ 8 * s)
    else if h = "near" then decide (8 * s - 4 ≤ 4 * hops + side) && decide (4 * hops + side < 8 * s + 4)
    else if s % 2 = 0 then decide (8 * s - 4 ≤ 4 * hops + side) && decide (4 * hops + side ≤ 8 * s + 4)
    else decide (8 * s - 4 < 4 * hops + side) && decide (4 * hops + side < 8 * s + 4)
  | _ => false
theorem rnd_scale {h : Str} {b a c : Int} (b0 : 0 < b) (c0 : 0 < c) : rnd h (b * a) (b * c) = rnd h a c := by
  have e1 : b * a / (b * c) = a / c := Int.mul_ediv_mul_of_pos _ _ b0
  have e2 : b * a % (b * c) = b * (a % c) := Int.mul_emod_mul_of_pos _ _ b0
  unfold rnd
  rw [e1, e2]
  have k0 : (b * (a % c) = 0) = (a % c = 0) := propext ⟨fun z => (Int.mul_eq_zero.mp z).resolve_left (by omega), fun z => by rw [z, Int.mul_zero]⟩
  have k1 : (b * c < 2 * (b * (a % c))) = (c < 2 * (a % c)) := propext (by
    rw [show 2 * (b * (a % c)) = b * (2 * (a % c)) by rw [Int.mul_left_comm]]
    exact Int.mul_lt_mul_left b0)
  have k2 : (2 * (b * (a % c)) < b * c) = (2 * (a % c) < c) := propext (by
    rw [show 2 * (b * (a % c)) = b * (2 * (a % c)) by rw [Int.mul_left_comm]]
    exact Int.mul_lt_mul_left b0)
  simp only [k0, k1, k2]
/-- the sign of so many halves and a little -/
theorem sgn0 {S d k : Int} (s0 : 2 ≤ S) (k0 : -1 ≤ k) (k1 : k ≤ 1) : 0 ≤ S * d + k ↔ 0 ≤ 4 * d + k := by
  rcases Int.lt_trichotomy d 0 with z | rfl | z
  · have : S * d ≤ S * (-1) := Int.mul_le_mul_of_nonneg_left (by omega) (by omega)
    constructor <;> intro y <;> omega
  · rw [Int.mul_zero, Int.mul_zero]
  · have : S * 1 ≤ S * d := Int.mul_le_mul_of_nonneg_left (by omega) (by omega)
    constructor <;> intro y <;> omega
theorem sgn1 {S d k : Int} (s0 : 2 ≤ S) (k0 : -1 ≤ k) (k1 : k ≤ 1) : 0 < S * d + k ↔ 0 < 4 * d + k := by
  rcases Int.lt_trichotomy d 0 with z | rfl | z
  · have : S * d ≤ S * (-1) := Int.mul_le_mul_of_nonneg_left (by omega) (by omega)
    constructor <;> intro y <;> omega
  · rw [Int.mul_zero, Int.mul_zero]
  · have : S * 1 ≤ S * d := Int.mul_le_mul_of_nonneg_left (by omega) (by omega)
    constructor <;> intro y <;> omega
/-- when so much of twice S is rounded to s -/
theorem rnd_is {h : Str} {S a s : Int} (s0 : 1 ≤ S) : rnd h a (2 * S) = s ↔
    (if h = "down" then 0 ≤ a - S * (2 * s) ∧ a - S * (2 * s) < 2 * S
    else if h = "up" then -(2 * S) < a - S * (2 * s) ∧ a - S * (2 * s) ≤ 0
    else if h = "near" then -S ≤ a - S * (2 * s) ∧ a - S * (2 * s) < S
    else if s % 2 = 0 then -S ≤ a - S * (2 * s) ∧ a - S * (2 * s) ≤ S else -S < a - S * (2 * s) ∧ a - S * (2 * s) < S) := by
  have r0 := Int.emod_nonneg a (show 2 * S ≠ 0 by omega)
  have r1 := Int.emod_lt_of_pos a (show 0 < 2 * S by omega)
  have ed := Int.mul_ediv_add_emod a (2 * S)
  unfold rnd
  generalize a / (2 * S) = q at ed ⊢
  generalize a % (2 * S) = r at ed r0 r1 ⊢
  obtain ⟨t, rfl⟩ : ∃ t, s = q + t := ⟨s - q, by omega⟩
  have e1 : a - S * (2 * (q + t)) = r - 2 * (S * t) := by
    rw [← ed, Int.mul_add 2, Int.mul_add S, show S * (2 * q) = 2 * S * q by rw [← Int.mul_assoc, Int.mul_comm S 2], show S * (2 * t) = 2 * (S * t) by rw [Int.mul_left_comm]]
    omega
  rw [e1]
  clear ed e1
  have tt : (t ≤ -1 ∧ S * t ≤ -S) ∨ (t = 0 ∧ S * t = 0) ∨ (t = 1 ∧ S * t = S) ∨ (2 ≤ t ∧ 2 * S ≤ S * t) := by
    rcases Int.lt_trichotomy t 0 with z | rfl | z
    · refine .inl ⟨by omega, ?_⟩
      have : S * t ≤ S * (-1) := Int.mul_le_mul_of_nonneg_left (by omega) (by omega)
      omega
    · exact .inr (.inl ⟨rfl, Int.mul_zero _⟩)
    · rcases Int.lt_or_le 1 t with y | y
      · refine .inr (.inr (.inr ⟨by omega, ?_⟩))
        have : S * 2 ≤ S * t := Int.mul_le_mul_of_nonneg_left (by omega) (by omega)
        omega
      · have e : t = 1 := by omega
        subst e
        exact .inr (.inr (.inl ⟨rfl, Int.mul_one _⟩))
  generalize S * t = T at tt ⊢
  by_cases h1 : h = "down"
  · rw [if_pos (.inl h1), if_pos h1]
    omega
  rw [if_neg h1]
  by_cases h2 : h = "up"
  · rw [if_pos h2]
    by_cases z : r = 0
    · rw [if_pos (.inr z)]
      omega
    · rw [if_neg (fun y => y.elim h1 z), if_pos (.inl h2)]
      omega
  rw [if_neg h2]
  by_cases h3 : h = "near"
  · rw [if_pos h3, if_pos h3]
    by_cases z : r = 0
    · rw [if_pos (.inr z)]
      omega
    rw [if_neg (fun y => y.elim h1 z)]
    by_cases z2 : 2 * S < 2 * r
    · rw [if_pos (.inr z2)]
      omega
    rw [if_neg (fun y => y.elim h2 z2)]
    split <;> omega
  rw [if_neg h3, if_neg h3]
  by_cases z : r = 0
  · rw [if_pos (.inr z)]
    split <;> omega
  rw [if_neg (fun y => y.elim h1 z)]
  by_cases z2 : 2 * S < 2 * r
  · rw [if_pos (.inr z2)]
    split <;> omega
  rw [if_neg (fun y => y.elim h2 z2)]
  split <;> split <;> omega
/-- both looks tell the same -/
theorem right_due {h : Str} {b : Nat} {v : V} {size hops side : Int} (hv : ShV b v) (nv : v ≠ .non) (b0 : 1 ≤ b) (z0 : 1 ≤ size) (k0 : -1 ≤ side) (k1 : side ≤ 1) (m0 : 0 ≤ hops * 9 * size + side) :
    rightV h b v (hops * 9 * size + side) (2 * b * 9 * size) = dueV h v hops side := by
  have eS : hops * 9 * size + side = (9 * size) * hops + side := by
    rw [Int.mul_assoc, Int.mul_comm hops]
  have ew : 2 * (b : Int) * 9 * size = (b : Int) * (2 * (9 * size)) := by
    rw [Int.mul_comm 2 (b : Int), Int.mul_assoc, Int.mul_assoc, show (2 : Int) * (9 * size) = 2 * 9 * size from (Int.mul_assoc _ _ _).symm, Int.mul_assoc]
  rw [eS] at m0 ⊢
  rw [ew]
  have S9 : 9 ≤ 9 * size := by omega
  generalize 9 * size = S at m0 S9 ⊢
  have bS : 0 < (b : Int) * (2 * S) := Int.mul_pos (by omega) (by omega)
  have nw : ¬ ((b : Int) * (2 * S) = 0) := by omega
  have sg := @sgn1 S hops side (by omega) k0 k1
  have sg0 := @sgn0 S hops side (by omega) k0 k1
  unfold rightV dueV
  rw [if_neg nv, if_neg nw]
  by_cases n1 : v = .str "none"
  · rw [if_pos n1, if_pos n1, Bool.eq_iff_iff, Bool.and_eq_true, decide_eq_true_iff, decide_eq_true_iff, decide_eq_true_iff]
    omega
  rw [if_neg n1, if_neg n1]
  by_cases n2 : v = .str "some"
  · have l1 : 0 < (b : Int) * (S * hops + side) ↔ 0 < S * hops + side := ⟨fun z => by
      rcases Int.lt_or_le 0 (S * hops + side) with y | y
      · exact y
      · have := Int.mul_le_mul_of_nonneg_left y (show (0 : Int) ≤ b by omega)
        omega, fun z => Int.mul_pos (by omega) z⟩
    have l2 : (b : Int) * (S * hops + side) < b * (2 * S) ↔ S * hops + side < 2 * S := Int.mul_lt_mul_left (by omega)
    have sg2 := @sgn1 S (2 - hops) (-side) (by omega) (by omega) (by omega)
    rw [Int.mul_sub] at sg2
    rw [if_pos n2, if_pos n2, Bool.eq_iff_iff]
    simp only [Bool.and_eq_true, Bool.or_eq_true, decide_eq_true_iff, l1, l2]
    omega
  rw [if_neg n2, if_neg n2]
  obtain ⟨s, rfl⟩ : ∃ s : Int, v = .int s := by
    rcases hv with e | ⟨w, e⟩
    · exact absurd e nv
    · cases e <;> first | exact ⟨_, rfl⟩ | exact absurd rfl n1 | exact absurd rfl n2
  show decide (V.int (rnd h ((b : Int) * (S * hops + side)) (b * (2 * S))) = V.int s) = _
  rw [rnd_scale (by omega) (by omega)]
  have ri := @rnd_is h S (S * hops + side) s (by omega)
  have e1 : S * hops + side - S * (2 * s) = S * (hops - 2 * s) + side := by
    rw [Int.mul_sub]
    omega
  rw [e1] at ri
  have g0 := @sgn0 S (hops - 2 * s) side (by omega) k0 k1
  have g1 := @sgn0 S (2 * s - hops) (-side) (by omega) (by omega) (by omega)
  have a1 := @sgn1 S (2 * s + 2 - hops) (-side) (by omega) (by omega) (by omega)
  have a2 := @sgn1 S (hops - 2 * s + 2) side (by omega) k0 k1
  have a3 := @sgn0 S (hops - 2 * s + 1) side (by omega) k0 k1
  have a4 := @sgn1 S (hops - 2 * s + 1) side (by omega) k0 k1
  have a5 := @sgn0 S (2 * s + 1 - hops) (-side) (by omega) (by omega) (by omega)
  have a6 := @sgn1 S (2 * s + 1 - hops) (-side) (by omega) (by omega) (by omega)
  have f1 : S * (2 * s - hops) = -(S * (hops - 2 * s)) := by rw [← Int.mul_neg]; congr 1; omega
  have f2 : S * (2 * s + 2 - hops) = 2 * S - S * (hops - 2 * s) := by
    rw [show 2 * s + 2 - hops = 2 - (hops - 2 * s) by omega, Int.mul_sub, Int.mul_comm S 2]
  have f3 : S * (hops - 2 * s + 2) = S * (hops - 2 * s) + 2 * S := by rw [Int.mul_add, Int.mul_comm S 2]
  have f4 : S * (hops - 2 * s + 1) = S * (hops - 2 * s) + S := by rw [Int.mul_add, Int.mul_one]
  have f5 : S * (2 * s + 1 - hops) = S - S * (hops - 2 * s) := by
    rw [show 2 * s + 1 - hops = 1 - (hops - 2 * s) by omega, Int.mul_sub, Int.mul_one]
  rw [f1] at g1
  rw [f2] at a1
  rw [f3] at a2
  rw [f4] at a3 a4
  rw [f5] at a5 a6
  generalize S * (hops - 2 * s) = T at ri g0 g1 a1 a2 a3 a4 a5 a6
  rw [Bool.eq_iff_iff, decide_eq_true_iff, V.int.injEq, ri]
  clear ri f1 f2 f3 f4 f5 e1
  show _ ↔ (if h = "down" then _ else _ : Bool) = true
  by_cases h1 : h = "down"
  · rw [if_pos h1, if_pos h1, Bool.and_eq_true, decide_eq_true_iff, decide_eq_true_iff]
    omega
  rw [if_neg h1, if_neg h1]
  by_cases h2 : h = "up"
  · rw [if_pos h2, if_pos h2, Bool.and_eq_true, decide_eq_true_iff, decide_eq_true_iff]
    omega
  rw [if_neg h2, if_neg h2]
  by_cases h3 : h = "near"
  · rw [if_pos h3, if_pos h3, Bool.and_eq_true, decide_eq_true_iff, decide_eq_true_iff]
    omega
  rw [if_neg h3, if_neg h3]
  by_cases h4 : s % 2 = 0
  · rw [if_pos h4, if_pos h4, Bool.and_eq_true, decide_eq_true_iff, decide_eq_true_iff]
    omega
  rw [if_neg h4, if_neg h4, Bool.and_eq_true, decide_eq_true_iff, decide_eq_true_iff]
  omega
end Uq

namespace Uq
open PySem PySem.Spec PyProof.Rows L2

/-! ### the law's own look at halves -/
theorem dec_intI {m n : Int} : decide (V.int m = V.int n) = decide (m = n) := by
  rw [Bool.eq_iff_iff]
  simp
def sp_law_fits_due (K : PySem.W.Frag) : Sp := fun vs H Q _ => ∃ (b : Nat) (h : Str) (v : V) (n hops side : Int), vs = [.str h, v, .int n, .int hops, .int side] ∧ ShV b v ∧ v ≠ .non ∧ Q (.bl (dueV h v hops side)) H
section
variable {P : Program} {w : World} {K : PySem.W.Frag} {mg : Str → Option Value} {base : Heap}
theorem ok_law_fits_due {f : Addr} {fd : FuncData} (F : Fun K "_law_fits_due" "_law_fits_due" s_law_fits_due f fd) (m_int : mg "int" = none) : FnOk P w K mg base CX0 1 f fd ["_law_how", "_law_share", "_law_parts", "_law_hops", "_law_side"] (sp_law_fits_due K) := by
  refine F.ok sc_law_fits_due (fun vs H Q E h => ?_) (fun cdv A outer s H vs Q E hr h => ?_)
  · obtain ⟨b, h, v, n, hops, side, rfl, _⟩ := h
    rfl
  · refine ⟨_, (pss_cons (ps_if (pt_cmpR op_eq (pv 1) pe_str (nomark _)) (pss_one (ps_ret (pe_and (pe_cmpR op_eq (pv 3) pe_int (nomark _)) (pe_one (pe_cmpR op_eq (pv 4) pe_int (nomark _)))))) pss_nil)
      (pss_cons (ps_if (pt_cmpR op_eq (pv 1) pe_str (nomark _)) (pss_one (ps_ret (pe_and (pe_or (pe_cmpR op_gt (pv 3) pe_int (nomark _)) (pe_one (pe_cmpR op_gt (pv 4) pe_int (nomark _)))) (pe_one (pe_or (pe_cmpR op_lt (pv 3) pe_int (nomark _)) (pe_one (pe_and (pe_cmpR op_eq (pv 3) pe_int (nomark _)) (pe_one (pe_cmpR op_lt (pv 4) pe_int (nomark _)))))))))) pss_nil)
      (pss_cons (ps_set (i := 5) sc_law_fits_due.nd rfl (.inl rfl) (pe_op op_add (pe_op op_mul pe_int (pv 3)) (pv 4)))
      (pss_cons (ps_par (i := 6) (j := 7) (by rfl) sc_law_fits_due.nd rfl rfl (by decide) rfl rfl (pa_cons (pe_op op_sub (pe_op op_mul pe_int (pv 1)) pe_int) (pa_cons (pe_op op_add (pe_op op_mul pe_int (pv 1)) pe_int) pa_nil)) (by rfl))
      (pss_cons (ps_if (pt_cmpR op_eq (pv 0) pe_str (nomark _)) (pss_one (ps_ret (pe_chain op_le op_lt (pe_op op_mul pe_int (pv 1)) (pv 5) (pe_op op_add (pe_op op_mul pe_int (pv 1)) pe_int)))) pss_nil)
      (pss_cons (ps_if (pt_cmpR op_eq (pv 0) pe_str (nomark _)) (pss_one (ps_ret (pe_chain op_lt op_le (pe_op op_sub (pe_op op_mul pe_int (pv 1)) pe_int) (pv 5) (pe_op op_mul pe_int (pv 1))))) pss_nil)
      (pss_cons (ps_if (pt_cmpR op_eq (pv 0) pe_str (nomark _)) (pss_one (ps_ret (pe_chain op_le op_lt (pv 6) (pv 5) (pv 7)))) pss_nil)
      (pss_one (ps_ret (pe_ifExp (pt_cmpR op_eq (pe_op op_mod (pe_callTy call_int1 (by rfl) m_int (by decide +kernel) (pa_cons (pv 1) pa_nil)) pe_int) pe_int (nomark _)) (pe_chain op_le op_le (pv 6) (pv 5) (pv 7)) (pe_chain op_lt op_lt (pv 6) (pv 5) (pv 7)))))))))))), ?_⟩
    obtain ⟨b, h, v, n, hops, side, rfl, hv, nv, q⟩ := h
    have q' : ∀ z, dueV h v hops side = z → Q (.bl z) H := fun z e => e ▸ q
    have sv : ∀ s, scal v (.str s) = true := fun s => scal_shv hv
    unfold dueV at q'
    clear q
    refine ⟨v, rfl, sv _, _, rfl, ite2 (fun n1 => ?_) (fun n1 => ?_)⟩
    · replace n1 : v = .str "none" := of_decide_eq_true n1
      rw [if_pos n1] at q'
      refine ⟨.int hops, rfl, rfl, _, rfl, ite2 (fun y => ?_) (fun y => ?_)⟩
      · refine ⟨.int side, rfl, rfl, q' _ ?_⟩
        rw [dec_intI] at y ⊢
        rw [y, Bool.true_and]
      · refine q' _ ?_
        rw [dec_intI] at y
        rw [Bool.eq_false_iff.mpr y, Bool.false_and]
    replace n1 : v ≠ .str "none" := fun z => n1 (decide_eq_true z)
    rw [if_neg n1] at q'
    refine ⟨v, rfl, sv _, _, rfl, ite2 (fun n2 => ?_) (fun n2 => ?_)⟩
    · replace n2 : v = .str "some" := of_decide_eq_true n2
      rw [if_pos n2] at q'
      by_cases p1 : 0 < hops
      · refine ⟨.int hops, rfl, hops, 0, rfl, rfl, _, rfl, iteDY p1 ⟨_, rfl, iteT ?_⟩⟩
        by_cases p3 : hops < 2
        · exact ⟨.int hops, rfl, hops, 2, rfl, rfl, _, rfl, iteDY p3 (q' _ (by simp [p1, p3]))⟩
        · refine ⟨.int hops, rfl, hops, 2, rfl, rfl, _, rfl, iteDN p3 ⟨.int hops, rfl, rfl, _, rfl, ite2 (fun e => ⟨.int side, rfl, side, 0, rfl, rfl, q' _ ?_⟩) (fun e => q' _ ?_)⟩⟩
          · have e2 := int_of e
            simp [p1, p3, e2]
          · have e2 := int_not e
            simp [p1, p3, e2]
      · refine ⟨.int hops, rfl, hops, 0, rfl, rfl, _, rfl, iteDN p1 ⟨.int side, rfl, side, 0, rfl, rfl, _, rfl, ?_⟩⟩
        by_cases p2 : 0 < side
        · refine iteDY p2 ?_
          have p3 : hops < 2 := by omega
          exact ⟨.int hops, rfl, hops, 2, rfl, rfl, _, rfl, iteDY p3 (q' _ (by simp [p2, p3]))⟩
        · exact iteDN p2 (q' _ (by simp [p1, p2]))
    replace n2 : v ≠ .str "some" := fun z => n2 (decide_eq_true z)
    rw [if_neg n2] at q'
    obtain ⟨s, rfl⟩ : ∃ s : Int, v = .int s := by
      rcases hv with e | ⟨w, e⟩
      · exact absurd e nv
      · cases e <;> first | exact ⟨_, rfl⟩ | exact absurd rfl n1 | exact absurd rfl n2
    refine next_in ?_
    refine seq_set ⟨.int hops, rfl, 4, hops, rfl, rfl, .inl ⟨by decide, by decide⟩, .int side, rfl, _, _, rfl, rfl, ?_⟩
    refine ⟨.int s, rfl, 8, s, rfl, rfl, .inl ⟨by decide, by decide⟩, _, 4, rfl, rfl, .int s, rfl, 8, s, rfl, rfl, .inl ⟨by decide, by decide⟩, _, 4, rfl, rfl, _, _, rfl, ?_⟩
    refine ⟨.str h, rfl, rfl, _, rfl, ite2 (fun e => ?_) (fun e => ?_)⟩
    · replace e := str_of e
      replace q' : ∀ z, (decide (8 * s ≤ 4 * hops + side) && decide (4 * hops + side < 8 * s + 8)) = z → Q (.bl z) H := fun z y => q' z ((if_pos e).trans y)
      refine ⟨.int s, rfl, 8, s, rfl, rfl, .inl ⟨by decide, by decide⟩, .int (4 * hops + side), rfl, _, _, rfl, rfl, _, rfl, ite2 (fun y => ?_) (fun y => ?_)⟩
      · exact ⟨.int s, rfl, 8, s, rfl, rfl, .inl ⟨by decide, by decide⟩, _, 8, rfl, rfl, _, _, rfl, rfl, q' _ (by rw [y, Bool.true_and])⟩
      · exact q' _ (by rw [Bool.eq_false_iff.mpr y, Bool.false_and])
    replace e := str_not e
    replace q' := fun z y => q' z ((if_neg e).trans y)
    refine ⟨.str h, rfl, rfl, _, rfl, ite2 (fun e2 => ?_) (fun e2 => ?_)⟩
    · replace e2 := str_of e2
      replace q' : ∀ z, (decide (8 * s - 8 < 4 * hops + side) && decide (4 * hops + side ≤ 8 * s)) = z → Q (.bl z) H := fun z y => q' z ((if_pos e2).trans y)
      refine ⟨.int s, rfl, 8, s, rfl, rfl, .inl ⟨by decide, by decide⟩, _, 8, rfl, rfl, .int (4 * hops + side), rfl, _, _, rfl, rfl, _, rfl, ite2 (fun y => ?_) (fun y => ?_)⟩
      · exact ⟨.int s, rfl, 8, s, rfl, rfl, .inl ⟨by decide, by decide⟩, _, _, rfl, rfl, q' _ (by rw [y, Bool.true_and])⟩
      · exact q' _ (by rw [Bool.eq_false_iff.mpr y, Bool.false_and])
    replace e2 := str_not e2
    replace q' := fun z y => q' z ((if_neg e2).trans y)
    refine ⟨.str h, rfl, rfl, _, rfl, ite2 (fun e3 => ?_) (fun e3 => ?_)⟩
    · replace e3 := str_of e3
      replace q' : ∀ z, (decide (8 * s - 4 ≤ 4 * hops + side) && decide (4 * hops + side < 8 * s + 4)) = z → Q (.bl z) H := fun z y => q' z ((if_pos e3).trans y)
      refine ⟨.int (8 * s - 4), rfl, .int (4 * hops + side), rfl, _, _, rfl, rfl, _, rfl, ite2 (fun y => ?_) (fun y => ?_)⟩
      · exact ⟨.int (8 * s + 4), rfl, _, _, rfl, rfl, q' _ (by rw [y, Bool.true_and])⟩
      · exact q' _ (by rw [Bool.eq_false_iff.mpr y, Bool.false_and])
    replace e3 := str_not e3
    replace q' := fun z y => q' z ((if_neg e3).trans y)
    refine next_in (ret_in ?_)
    refine ⟨.int s, rfl, .inl ⟨s, rfl, s, 2, rfl, rfl, (by show (0 : Int) < 2; decide), rfl, _, rfl, ite2 (fun e4 => ?_) (fun e4 => ?_)⟩⟩
    · have e4 := int_of e4
      replace q' : ∀ z, (decide (8 * s - 4 ≤ 4 * hops + side) && decide (4 * hops + side ≤ 8 * s + 4)) = z → Q (.bl z) H := fun z y => q' z ((if_pos e4).trans y)
      refine ⟨.int (8 * s - 4), rfl, .int (4 * hops + side), rfl, _, _, rfl, rfl, _, rfl, ite2 (fun y => ?_) (fun y => ?_)⟩
      · exact ⟨.int (8 * s + 4), rfl, _, _, rfl, rfl, q' _ (by rw [y, Bool.true_and])⟩
      · exact q' _ (by rw [Bool.eq_false_iff.mpr y, Bool.false_and])
    · have e4 := int_not e4
      replace q' : ∀ z, (decide (8 * s - 4 < 4 * hops + side) && decide (4 * hops + side < 8 * s + 4)) = z → Q (.bl z) H := fun z y => q' z ((if_neg e4).trans y)
      refine ⟨.int (8 * s - 4), rfl, .int (4 * hops + side), rfl, _, _, rfl, rfl, _, rfl, ite2 (fun y => ?_) (fun y => ?_)⟩
      · exact ⟨.int (8 * s + 4), rfl, _, _, rfl, rfl, q' _ (by rw [y, Bool.true_and])⟩
      · exact q' _ (by rw [Bool.eq_false_iff.mpr y, Bool.false_and])
end
end Uq

namespace Uq
open PySem PySem.Spec PyProof.Rows L2
open TL

/-! ### a page of two parts, by hand -/
def rs2 (x n1 n2 : Str) (v : V) (w : Str) : List Rw := [⟨n1, x, v, .non, [Str.ofString "is"], [w], [v]⟩, ⟨n2, x, .non, .non, [], [], []⟩]
def way2 (x n : Str) : List Str := if n = x then [x] else [n, x]
section
variable {b : Nat} {h x n1 n2 w : Str} {v : V}
theorem rows2 : RowsOf Rw.nm Rw.ab [x, n1, n2] [0, 0] (rs2 x n1 n2 v w) := by
  refine ⟨rfl, fun k r e => ?_⟩
  match k, e with
  | 0, e =>
    cases Option.some.inj e
    exact ⟨rfl, rfl⟩
  | 1, e =>
    cases Option.some.inj e
    exact ⟨rfl, rfl⟩
theorem opts2 (hv : Shw b v w) : ∀ r ∈ rs2 x n1 n2 v w, Opts b r.sh r.fa r.ms r.ws r.xs := by
  intro r m
  rcases List.mem_cons.mp m with rfl | m
  · exact .sh hv
  · cases List.mem_singleton.mp m
    exact .none
theorem pg2 (nd : [x, n1, n2].Nodup) (hn : ∀ n ∈ [x, n1, n2], n ∈ pool) (hv : Shw b v w) (b0 : 2 ≤ b) (b1 : b ≤ 100) (hh : How h) : Pg b h x (rs2 x n1 n2 v w) :=
  pg_of rows2 (shapes_shp [0, 0] (by decide)) nd hn rfl rfl (opts2 hv) b0 b1 hh
theorem text2 : pageT b h x (rs2 x n1 n2 v w) = Txt.join nlS [("in " : Str) ++ nS b ++ " " ++ h, ("asked " : Str) ++ x, ("part " : Str) ++ n1 ++ " of " ++ x ++ " is " ++ w, ("part " : Str) ++ n2 ++ " of " ++ x] := by
  rw [head_1, head_2]
  have e1 : (("part " : Str) ++ n1 ++ " of " ++ x ++ " is " ++ w : Str) = lineS (lineW n1 x [Str.ofString "is"] [w]) := by
    refine ext_tl ?_
    rw [line_tl]
    simp only [tl_append, c_part, c_of, c_is, c_nil, lineW, weave, List.map_cons, List.map_nil, joinL, List.append_assoc, List.append_nil]
  have e2 : (("part " : Str) ++ n2 ++ " of " ++ x : Str) = lineS (lineW n2 x [] []) := by
    refine ext_tl ?_
    rw [line_tl]
    simp only [tl_append, c_part, c_of, c_nil, lineW, weave, List.map_cons, List.map_nil, joinL, List.append_assoc, List.append_nil]
  rw [e1, e2]
  rfl
theorem ne2 (nd : [x, n1, n2].Nodup) : n1 ≠ x ∧ n2 ≠ x ∧ n1 ≠ n2 := by
  simp at nd
  exact ⟨fun e => nd.1.1 e.symm, fun e => nd.1.2 e.symm, nd.2⟩
theorem ends2w (nd : [x, n1, n2].Nodup) : ends (linesOf x (rs2 x n1 n2 v w)) = [n1, n2] := by
  obtain ⟨a, c, d⟩ := ne2 nd
  simp [ends, wholes, linesOf, lnOf, top, rs2, List.filter_cons, isEnd, inV, eqV, a, c, a.symm, c.symm]
theorem ways2 (nd : [x, n1, n2].Nodup) : ∀ q ∈ ends (linesOf x (rs2 x n1 n2 v w)), Way (linesOf x (rs2 x n1 n2 v w)) q (way2 x q) ∧ (way2 x q).length ≤ 4 := by
  obtain ⟨a, c, d⟩ := ne2 nd
  rw [ends2w nd]
  intro q m
  have top_ : Way (linesOf x (rs2 x n1 n2 v w)) x [x] := Way.top (l := top x) List.mem_cons_self rfl
  rcases List.mem_cons.mp m with rfl | m
  · unfold way2
    rw [if_neg a]
    exact ⟨Way.up (l := lnOf ⟨q, x, v, .non, [Str.ofString "is"], [w], [v]⟩) (List.mem_cons_of_mem _ List.mem_cons_self) rfl top_, (by show 2 ≤ 4; decide)⟩
  · cases List.mem_singleton.mp m
    unfold way2
    rw [if_neg c]
    exact ⟨Way.up (l := lnOf ⟨n2, x, .non, .non, [], [], []⟩) (List.mem_cons_of_mem _ (List.mem_cons_of_mem _ List.mem_cons_self)) rfl top_, (by show 2 ≤ 4; decide)⟩
theorem on2 {p e : Str} : onWay (way2 x) p e = decide (p = e ∨ p = x) := by
  rw [Bool.eq_iff_iff, decide_eq_true_iff, onWay_iff]
  unfold way2
  split
  · rename_i z
    subst z
    simp
  · simp
theorem many2 (nd : [x, n1, n2].Nodup) {m k : Int} : manyL x (rs2 x n1 n2 v w) (way2 x) [m, k] n1 = m ∧ manyL x (rs2 x n1 n2 v w) (way2 x) [m, k] x = m + k := by
  obtain ⟨a, c, d⟩ := ne2 nd
  rw [manyL_eq, manyL_eq, ends2w nd]
  refine ⟨?_, ?_⟩
  · show filtS _ [(n1, m), (n2, k)] = m
    rw [filtS_cons, filtS_cons, on2, on2]
    simp [a, d, filtS]
  · show filtS _ [(n1, m), (n2, k)] = m + k
    rw [filtS_cons, filtS_cons, on2, on2]
    simp [filtS]
theorem fits2 (nd : [x, n1, n2].Nodup) {m k : Int} : (linesOf x (rs2 x n1 n2 v w)).all (toldR h b x (rs2 x n1 n2 v w) (way2 x) [m, k]) = rightV h b v m (m + k) := by
  have z := many2 (v := v) (w := w) nd (m := m) (k := k)
  show (true && ((rightV h b v (manyL x (rs2 x n1 n2 v w) (way2 x) [m, k] n1) (manyL x (rs2 x n1 n2 v w) (way2 x) [m, k] x) && true) && ((true && true) && true))) = _
  rw [z.1, z.2]
  simp
theorem tbR2 (nd : [x, n1, n2].Nodup) (hn : ∀ n ∈ [x, n1, n2], n ∈ pool) (hv : Shw b v w) (b0 : 2 ≤ b) (b1 : b ≤ 100) (hh : How h) {m k : Int} (m0 : 0 ≤ m) (k0 : 0 ≤ k) (s0 : 0 < m + k) : TbR b h x (rs2 x n1 n2 v w) (way2 x) [m, k] :=
  ⟨pg2 nd hn hv b0 b1 hh, ways2 nd, by rw [ends2w nd]; rfl, by
    intro c hc
    rcases List.mem_cons.mp hc with rfl | hc
    · exact m0
    · cases List.mem_singleton.mp hc
      exact k0, by show 0 < m + (k + 0); omega⟩
theorem tbS2 (hv : Shw b v w) {m k : Int} (s : m + k < 2 ^ 40) : TbS b (rs2 x n1 n2 v w) [m, k] :=
  ⟨by
    intro r hr
    rcases List.mem_cons.mp hr with rfl | hr
    · exact ⟨.inr ⟨w, hv⟩, .inl rfl⟩
    · cases List.mem_singleton.mp hr
      exact ⟨.inl rfl, .inl rfl⟩, by show m + (k + 0) < _; omega⟩
end
end Uq

namespace Uq
open PySem PySem.Spec PyProof.Rows L2
open TL

/-! ### each share is right just where the law tells so -/
def sp_law_share_right (K : PySem.W.Frag) : Sp := fun vs H Q _ => ∃ (p : Addr) (c : Nat) (Na : Addr) (ns : List Str) (b : Nat) (h : Str) (v : V) (w x n1 n2 : Str), vs = [.ref p, .ref Na, .int b, .str h, v] ∧ Pot H p c ∧ c + 10 < 90000 ∧ Na ≠ p ∧ H Na = some (.lst (ns.map V.str)) ∧ ns = [x, n1, n2] ∧ ns.Nodup ∧ (∀ n ∈ ns, n ∈ pool) ∧ 2 ≤ b ∧ b ≤ 100 ∧ How h ∧ Shw b v w ∧
  ∀ H', But p H H' → Pot H' p (c + 1) → Q (.bl true) H'
theorem sqT_pot {K : PySem.W.Frag} {H H' : Hp} {t p : Addr} {c : Nat} {xs : List V} (h : SqT K H t xs) (hp : Pot H p c) (hB : But p H H') : SqT K H' t xs := by
  obtain ⟨o, s, n, h0, _⟩ := hp
  rcases h with (h | ⟨ob, h⟩) | h
  · have n : t ≠ p := fun z => by
      rw [z, h0] at h
      cases h
    exact .inl (.inl (hB _ _ n h))
  · have n : t ≠ p := fun z => by
      rw [z, h0] at h
      cases h
    exact .inl (.inr ⟨ob, hB _ _ n h⟩)
  · exact .inr h
theorem Lns.pot {K : PySem.W.Frag} {H H' : Hp} {d p : Addr} {c : Nat} {ls : List Ln} (h : Lns K H d ls) (hp : Pot H p c) (s : But p H H') : Lns K H' d ls := by
  obtain ⟨kvs, e, ps⟩ := h
  refine ⟨kvs, s _ _ ?_ e, paired_mono (fun _ _ ⟨h1, t, h2, h3⟩ => ⟨h1, t, h2, sqT_pot h3 hp s⟩) ps⟩
  rintro rfl
  obtain ⟨_, _, _, h0, _⟩ := hp
  rw [h0] at e
  cases e
theorem PgO.pot {K : PySem.W.Frag} {C : Addr} {b : Nat} {h x : Str} {rs : List Rw} {H H' : Hp} {a dx u d e p : Addr} {c : Nat} (O : PgO K C b h x rs H a dx u d e) (hp : Pot H p c) (s : But p H H') : PgO K C b h x rs H' a dx u d e := by
  have hp0 := hp
  obtain ⟨_, _, _, h0, _⟩ := hp0
  have ne : ∀ z o, H z = some o → (∀ ys, o ≠ .lst ys) → z ≠ p := fun z o e n k => by
    rw [k, h0] at e
    exact n _ (Option.some.inj e).symm
  exact ⟨s _ _ (ne _ _ O.at_ fun _ k => by cases k) O.at_, s _ _ (ne _ _ O.units fun _ k => by cases k) O.units, O.lines.pot hp s, s _ _ (ne _ _ O.ends fun _ k => by cases k) O.ends⟩
theorem repr_in {K : PySem.W.Frag} {z : Bool} {H : Hp} {Q : VK} (q : Q (.str (PyData.bool z).shown) H) : rRepr K [.bl z] H Q :=
  ⟨.bl z, .bool z, rfl, .bl z, rfl, rfl, by cases z <;> decide, by cases z <;> decide +kernel, q⟩
theorem bigD : CPowW 10 5 := powW_ok (j := 5) (n := 8) (by decide) (by decide)
section
variable {P : Program} {w : World} {K : PySem.W.Frag} {mg : Str → Option Value} {base : Heap} {C Ct : Addr}
theorem ok_law_share_right (c : TbC K Ct) {fI : Addr} {dfI : FuncData} (M : Mk K C fI) (FI : FnOk P w K mg base CX0 6 fI dfI ["self", "text"] (sp_Page__init_ K C)) (bI : Binds K dfI ["self", "text"] []) (gC : mg "Page" = some (.ref C))
    {fT : Addr} {dfT : FuncData} (MT : Mk K Ct fT) (FT : FnOk P w K mg base CX0 5 fT dfT ["self", "page", "counts"] (sp_Table__init_ K C Ct)) (bT : Binds K dfT ["self", "page", "counts"] []) (gT : mg "Table" = some (.ref Ct))
    {pF fF : Addr} {dfF : FuncData} (rF : PropOf K Ct "fits" pF fF) (FF : FnOk P w K mg base CX0 6 fF dfF ["self"] (sp_Table_fits K C Ct)) (bF : Binds K dfF ["self"] []) {f : Addr} {fd : FuncData} (F : Fun K "_law_share_right" "_law_share_right" s_law_share_right f fd) (m_str : mg "str" = none) (m_isinstance : mg "isinstance" = none) (m_range : mg "range" = none) (m_repr : mg "repr" = none) (c_law_of : Cal P w K mg base 2 "_law_of" ["_law_pot_here", "_law_some_here"] (sp_law_of K)) (c_law_fits_due : Cal P w K mg base 1 "_law_fits_due" ["_law_how", "_law_share", "_law_parts", "_law_hops", "_law_side"] (sp_law_fits_due K)) : FnG P w K mg base 8 f fd ["_law_pot_here", "_law_names_here", "_law_parts", "_law_how", "_law_share"] (sp_law_share_right K) := by
  refine Fun_okG F sc_law_share_right (fun vs H Q E h => ?_) (fun cdv A outer s H vs Q E hg hr h => ?_)
  · obtain ⟨p, c0, Na, ns, b, h, v, wd, x, n1, n2, rfl, _⟩ := h
    rfl
  · refine ⟨_, (pss_cons (ps_set (i := 5) sc_law_share_right.nd rfl (.inl rfl) (pe_lst (pa_cons (pe_op op_add_str (pe_op op_add_str (pe_op op_add_str pe_str (pe_callTy call_strV (by rfl) m_str (by decide +kernel) (pa_cons (pv 2) pa_nil))) pe_str) (pv 3)) (pa_cons (pe_op op_add_str pe_str (pe_ix ix_list (pv 1) pe_int (fun _ _ => rfl))) pa_nil))))
      (pss_cons (ps_expr (pe_bm PySem.F.plainAttrs_list PySem.F.slot_list_append PySem.F.type_list_append mt_append (pv 5) (pa_cons (pe_op op_add_str (pe_op op_add_str (pe_op op_add_str (pe_op op_add_str (pe_op op_add_str pe_str (pe_ix ix_list (pv 1) pe_int (fun _ _ => rfl))) pe_str) (pe_ix ix_list (pv 1) pe_int (fun _ _ => rfl))) pe_str) (pe_callTy call_strV (by rfl) m_str (by decide +kernel) (pa_cons (pv 4) pa_nil))) pa_nil)))
      (pss_cons (ps_expr (pe_bm PySem.F.plainAttrs_list PySem.F.slot_list_append PySem.F.type_list_append mt_append (pv 5) (pa_cons (pe_op op_add_str (pe_op op_add_str (pe_op op_add_str pe_str (pe_ix ix_list (pv 1) pe_int (fun _ _ => rfl))) pe_str) (pe_ix ix_list (pv 1) pe_int (fun _ _ => rfl))) pa_nil)))
      (pss_cons (ps_par (i := 6) (j := 7) (by rfl) sc_law_share_right.nd rfl rfl (by decide) rfl rfl (pa_cons (pe_make M FI (hr.mono (by decide)) (by rfl) gC bI .nil pass0 (pa_cons (pe_bm PySem.F.plainAttrs_str PySem.F.slot_str_join PySem.F.type_str_join mt_join pe_str (pa_cons (pv 5) pa_nil)) pa_nil)) (pa_cons (pe_call c_law_of.G (hr.mono (by decide)) (by rfl) c_law_of.g c_law_of.kp c_law_of.b .nil pass0 (pa_cons (pv 0) (pa_cons (pe_lst (pa_cons pe_int (pa_cons pe_int (pa_cons pe_int (pa_cons (pe_op op_powW pe_int pe_int) pa_nil))))) pa_nil))) pa_nil)) (by rfl))
      (pss_cons (ps_set (i := 8) sc_law_share_right.nd rfl (.inl rfl) (pe_ifExp (pt_not (pt_val (pe_callB call_isi (by rfl) m_isinstance (by decide +kernel) (pa_cons (pv 4) (pa_cons (pe_bltn (v := .ty "str") (by rfl) m_str (by decide +kernel) rfl) pa_nil))))) (pe_op op_mul pe_int (pv 4)) pe_int))
      (pss_cons (ps_for PassesOwn.never rfl (pi_range2 (by rfl) m_range (pa_cons (pe_op op_sub (pv 8) pe_int) (pa_cons (pe_op op_add (pv 8) pe_int) pa_nil))) (pg_name (i := 9) sc_law_share_right.nd rfl (.inl rfl))
        (pss_one (ps_for PassesOwn.never rfl (pi_tup (pe_tup (pa_cons (pe_un un_neg pe_int) (pa_cons pe_int (pa_cons pe_int pa_nil))))) (pg_name (i := 10) sc_law_share_right.nd rfl (.inl rfl))
          (pss_cons (ps_set (i := 11) sc_law_share_right.nd rfl (.inl rfl) (pe_op op_add (pe_op op_mul (pe_op op_mul (pv 9) pe_int) (pv 7)) (pv 10)))
          (pss_cons (ps_set (i := 12) sc_law_share_right.nd rfl (.inl rfl) (pe_op op_mul (pe_op op_mul (pe_op op_mul pe_int (pv 2)) pe_int) (pv 7)))
          (pss_one (ps_if (pt_chain op_le op_le pe_int (pv 11) (pv 12)) (pss_cons (ps_set (i := 13) sc_law_share_right.nd rfl (.inl rfl) (pe_prop (pe_make MT FT (hr.mono (by decide)) (by rfl) gT bT .nil pass0 (pa_cons (pv 6) (pa_cons (pe_tup (pa_cons (pv 11) (pa_cons (pe_op op_sub (pv 12) (pv 11)) pa_nil))) pa_nil))) c.cls rF FF (hr.mono (by decide)) bF .nil pass0 (by rfl)))
            (pss_one (ps_if (pt_cmpR op_ne (pe_callB (call_repr_data hg (ru hr)) (by rfl) m_repr (by decide +kernel) (pa_cons (pv 13) pa_nil)) (pe_callB (call_repr_data hg (ru hr)) (by rfl) m_repr (by decide +kernel) (pa_cons (pe_call c_law_fits_due.G (hr.mono (by decide)) (by rfl) c_law_fits_due.g c_law_fits_due.kp c_law_fits_due.b .nil pass0 (pa_cons (pv 3) (pa_cons (pv 4) (pa_cons (pv 2) (pa_cons (pv 9) (pa_cons (pv 10) pa_nil)))))) pa_nil)) (nomark _)) (pss_one (ps_ret pe_bl)) pss_nil))) pss_nil)))))))
      (pss_one (ps_ret pe_bl)))))))), ?_⟩
    obtain ⟨p, c0, Na, ns, b, h, v, wd, x, n1, n2, rfl, hp, hc, hNp, hNa, rfl, nd, hn, b0, b1, hh, hv, q⟩ := h
    have big : 1000 ≤ sizeLine := by decide
    have nl := (num_facts b (by omega)).2.2.1
    have nl4 : (nS b).length ≤ 3 := by
      rw [nl]
      split
      · decide
      · split <;> decide
    have hh8 : h.length ≤ 8 := (wd_how hh).len
    have x8 : x.length ≤ 8 := (pool_nm _ (hn x (by simp))).up
    have n18 : n1.length ≤ 8 := (pool_nm _ (hn n1 (by simp))).up
    have n28 : n2.length ≤ 8 := (pool_nm _ (hn n2 (by simp))).up
    have w8 : wd.length ≤ 8 := (wd_shw hv b1).len
    obtain ⟨i3, i1, i6, i5, i4, i44⟩ := (show ("in " : Str).length = 3 ∧ (" " : Str).length = 1 ∧ ("asked " : Str).length = 6 ∧ ("part " : Str).length = 5 ∧ (" of " : Str).length = 4 ∧ (" is " : Str).length = 4 by decide +kernel)
    refine seq_set (lst_in ?_)
    refine ⟨.int b, rfl, ?_⟩
    try unfold tNil
    refine str_in (b := b) (.num b (Nat.le_refl _)) b1 ?_
    refine ⟨_, _, rfl, rfl, by omega, _, _, rfl, rfl, by rw [len_app]; omega, .str h, rfl, _, _, rfl, rfl, by rw [len_app, len_app]; omega, .ref Na, rfl, Na, _, 0, .str x, rfl, rfl, SqL.of hNa, atI_nat (j := 0) rfl, _, _, rfl, rfl, by omega, by show 2 ≤ sizeLine; decide, fun A1 nA1 => ?_⟩
    have s1 := sameU (o := .lst [.str (("in " : Str) ++ nS b ++ " " ++ h), .str (("asked " : Str) ++ x)]) nA1
    have h1 : (upd H A1 (.lst [.str (("in " : Str) ++ nS b ++ " " ++ h), .str (("asked " : Str) ++ x)])) A1 = _ := upd_same
    have hNa1 := s1 _ _ hNa
    generalize L2.upd H A1 (.lst [.str (("in " : Str) ++ nS b ++ " " ++ h), .str (("asked " : Str) ++ x)]) = H1 at s1 h1 hNa1 ⊢
    refine ⟨.ref A1, rfl, .inl ⟨rfl, _, SqL.of h1⟩, ?_⟩
    refine ⟨.ref Na, rfl, Na, _, 1, .str n1, rfl, rfl, SqL.of hNa1, atI_nat (j := 1) rfl, _, _, rfl, rfl, by omega, _, _, rfl, rfl, by rw [len_app]; omega, .ref Na, rfl, Na, _, 0, .str x, rfl, rfl, SqL.of hNa1, atI_nat (j := 0) rfl, _, _, rfl, rfl, by simp only [len_app]; omega, _, _, rfl, rfl, by simp only [len_app]; omega, v, rfl, ?_⟩
    refine str_in (b := b) hv b1 ?_
    refine ⟨_, _, rfl, rfl, by simp only [len_app]; omega, A1, _, _, rfl, rfl, h1, by show 2 < sizeLine; decide, ?_⟩
    have s2 : ∀ o, Same H (upd H1 A1 o) := fun o z o' ez => by
      rw [upd_ne (ne_of_none ez nA1)]
      exact s1 _ _ ez
    have h2 : ∀ o, (upd H1 A1 o) A1 = some o := fun o => upd_same
    refine next_in ?_
    refine ⟨.ref A1, rfl, .inl ⟨rfl, _, SqL.of (h2 _)⟩, ?_⟩
    refine ⟨.ref Na, rfl, Na, _, 2, .str n2, rfl, rfl, SqL.of (s2 _ _ _ hNa), atI_nat (j := 2) rfl, _, _, rfl, rfl, by omega, _, _, rfl, rfl, by rw [len_app]; omega, .ref Na, rfl, Na, _, 0, .str x, rfl, rfl, SqL.of (s2 _ _ _ hNa), atI_nat (j := 0) rfl, _, _, rfl, rfl, by simp only [len_app]; omega, A1, _, _, rfl, rfl, h2 _, by show 3 < sizeLine; decide, ?_⟩
    refine next_in ?_
    rw [upd_twice]
    have s12 := s2 (.lst ([.str (("in " : Str) ++ nS b ++ " " ++ h), .str (("asked " : Str) ++ x)] ++ [.str (("part " : Str) ++ n1 ++ " of " ++ x ++ " is " ++ wd)] ++ [.str (("part " : Str) ++ n2 ++ " of " ++ x)]))
    have h12 := h2 (.lst ([.str (("in " : Str) ++ nS b ++ " " ++ h), .str (("asked " : Str) ++ x)] ++ [.str (("part " : Str) ++ n1 ++ " of " ++ x ++ " is " ++ wd)] ++ [.str (("part " : Str) ++ n2 ++ " of " ++ x)]))
    clear s2 h2
    show tSeq _ _ _ _ (upd H1 A1 (.lst ([.str (("in " : Str) ++ nS b ++ " " ++ h), .str (("asked " : Str) ++ x)] ++ [.str (("part " : Str) ++ n1 ++ " of " ++ x ++ " is " ++ wd)] ++ [.str (("part " : Str) ++ n2 ++ " of " ++ x)])))
    generalize L2.upd H1 A1 _ = H2 at s12 h12 ⊢
    have nn : (Str.ofString "\n").length = 1 := by decide +kernel
    refine ⟨rfl, .ref A1, rfl, _, A1, [("in " : Str) ++ nS b ++ " " ++ h, ("asked " : Str) ++ x, ("part " : Str) ++ n1 ++ " of " ++ x ++ " is " ++ wd, ("part " : Str) ++ n2 ++ " of " ++ x], rfl, rfl, .inl (SqL.of h12), ?_, ?_⟩
    · simp only [List.map_cons, List.map_nil, List.sum_cons, List.sum_nil, len_app, List.length_cons, List.length_nil, nn]
      omega
    refine fun a dx na ndx ndxa => ?_
    have hP : Pg b h x (rs2 x n1 n2 v wd) := pg2 nd hn hv b0 b1 hh
    refine ⟨b, h, x, rs2 x n1 n2 v wd, a, dx, by rw [text2]; rfl, hP, upd_same, fun H3 u d e o3 O3 => ⟨rfl, ?_⟩⟩
    have s3 : Same H2 H3 := fun c' o ec => by
      refine o3 c' o (ne_of_none ec na) ?_
      rw [upd_ne (ne_of_none ec na), upd_ne (ne_of_none ec ndx)]
      exact ec
    have s13 := s12.trans s3
    have hp3 := hp.same s13
    clear o3
    refine ⟨.ref p, rfl, 10, 5, rfl, rfl, bigD, by show 4 ≤ sizeLine; decide, fun L nL => ?_⟩
    have s4 := sameU (o := .lst [.int 1, .int 3, .int 40, .int ((10 : Int) ^ (5 : Int).toNat)]) nL
    refine ⟨p, L, c0, [.int 1, .int 3, .int 40, .int ((10 : Int) ^ (5 : Int).toNat)], rfl, hp3.same s4, by omega, fun z => hp3.some (z ▸ nL), SqL.of upd_same, by decide, by decide, fun H4 i sz hB4 hP4 hi => ?_⟩
    obtain ⟨size, rfl, z0, z1⟩ : ∃ size : Int, sz = .int size ∧ 1 ≤ size ∧ size ≤ 100000 := by
      match i, hi with
      | 0, hi => exact ⟨1, (Option.some.inj hi).symm, by decide, by decide⟩
      | 1, hi => exact ⟨3, (Option.some.inj hi).symm, by decide, by decide⟩
      | 2, hi => exact ⟨40, (Option.some.inj hi).symm, by decide, by decide⟩
      | 3, hi => exact ⟨_, (Option.some.inj hi).symm, by decide, by decide⟩
    refine ⟨_, _, rfl, ?_⟩
    have O4 : PgO K C b h x (rs2 x n1 n2 v wd) H4 a dx u d e := PgO.pot (O3.same s4) (hp3.same s4) hB4
    have hB04 : But p H H4 := (But.of (s13.trans s4)).trans hB4
    have q4 : ∀ H', Same H4 H' → Q (.bl true) H' := fun H' s' => q H' (hB04.trans (But.of s')) (hP4.same s')
    clear q hB04 hB4 hP4 hp3 O3 s3 s4 s13 s12 h12 na ndx hNa hNa1 h1 s1
    dsimp only
    refine seq_setQ (fun y H' => H' = H4 ∧ ∃ ab : Int, y = .int ab ∧ 0 ≤ ab ∧ ab ≤ 200) (fun Q' hQ => ?_) ?_
    · cases hv with
      | none => exact ⟨_, rfl, _, .ty "str", _, _, true, rfl, .ty "str", .base (.str _), kit_ty (by decide +kernel), true, rfl, iteF (hQ _ _ ⟨rfl, 1, rfl, by decide, by decide⟩)⟩
      | some => exact ⟨_, rfl, _, .ty "str", _, _, true, rfl, .ty "str", .base (.str _), kit_ty (by decide +kernel), true, rfl, iteF (hQ _ _ ⟨rfl, 1, rfl, by decide, by decide⟩)⟩
      | num n hn => exact ⟨_, rfl, _, .ty "str", _, _, false, rfl, .ty "str", .base (.int _), kit_ty (by decide +kernel), false, rfl, iteT ⟨.int n, rfl, 2, n, rfl, rfl, .inl ⟨by decide, by decide⟩, hQ _ _ ⟨rfl, 2 * n, rfl, by omega, by omega⟩⟩⟩
    rintro y H' ⟨rfl, ab, rfl, a0, a1⟩
    have hvS : ShV b v := .inr ⟨wd, hv⟩
    have nvn : v ≠ .non := by cases hv <;> (intro z; cases z)
    have bw : 0 < 2 * (b : Int) * 9 * size := Int.mul_pos (by omega) (by omega)
    have bl : 2 * (b : Int) * 9 * size < 2 ^ 40 := by
      have := Int.mul_le_mul (show 2 * (b : Int) * 9 ≤ 1800 by omega) z1 (by omega) (by omega)
      omega
    refine ⟨.int ab, rfl, ab, 3, rfl, rfl, .int ab, rfl, ab, 4, rfl, rfl, ab - 3, ab + 4, rfl, ⟨by omega, by omega, by omega, by omega⟩, ?_⟩
    refine for_it (walk_range (lo := ab - 3) (n := (ab + 4 - (ab - 3)).toNat)) (fun i σ G => Same H' G ∧ ∃ x9 x10 x11 x12 x13, σ = [some (.ref p), some (.ref Na), some (.int b), some (.str h), some v, some (.ref A1), some (.ref a), some (.int size), some (.int ab), x9, x10, x11, x12, x13]) ⟨fun _ _ z => z, _, _, _, _, _, rfl⟩ (fun _ _ _ _ _ => True.intro) ?_ ?_
    · rintro i y σ G G' hi ⟨sG, x9, x10, x11, x12, x13, rfl⟩ ⟨eG, ey⟩
      cases eG
      obtain ⟨hops, eh⟩ : ∃ hops : Int, y = .int hops := ⟨_, ey⟩
      cases eh
      clear ey
      refine ⟨1, rfl, by show 3 ≤ sizeLine; decide, fun T nT => ?_⟩
      refine ⟨T, rfl, ⟨_, SqT.of upd_same⟩, ?_⟩
      have sT := sG.trans (sameU (o := .tup [.int (-1), .int 0, .int 1]) nT)
      have hT : (upd G T (.tup [.int (-1), .int 0, .int 1])) T = some (.tup [.int (-1), .int 0, .int 1]) := upd_same
      generalize hG : L2.upd G T _ = G2 at sT hT ⊢
      clear hG
      refine for_it (walk_tup (xs := [.int (-1), .int 0, .int 1])) (fun j σ G3 => Same H' G3 ∧ G3 T = some (.tup [.int (-1), .int 0, .int 1]) ∧ ∃ x10 x11 x12 x13, σ = [some (.ref p), some (.ref Na), some (.int b), some (.str h), some v, some (.ref A1), some (.ref a), some (.int size), some (.int ab), some (.int hops), x10, x11, x12, x13]) ⟨sT, hT, _, _, _, _, rfl⟩ (fun _ _ _ _ z => SqT.of z.2.1) ?_ ?_
      · rintro j y σ G3 G4 hj ⟨sG3, hT3, y10, y11, y12, y13, rfl⟩ ⟨rfl, hk⟩
        obtain ⟨side, rfl, k0, k1⟩ : ∃ side : Int, y = .int side ∧ -1 ≤ side ∧ side ≤ 1 := by
          match j, hk with
          | 0, hk => exact ⟨-1, (Option.some.inj hk).symm, by decide, by decide⟩
          | 1, hk => exact ⟨0, (Option.some.inj hk).symm, by decide, by decide⟩
          | 2, hk => exact ⟨1, (Option.some.inj hk).symm, by decide, by decide⟩
        refine ⟨.int hops, rfl, hops, 9, rfl, rfl, .inr ⟨by decide, by decide⟩, .int size, rfl, _, size, rfl, rfl, .inr ⟨by omega, by omega⟩, .int side, rfl, _, side, rfl, rfl, ?_⟩
        refine ⟨.int b, rfl, 2, b, rfl, rfl, .inl ⟨by decide, by decide⟩, _, 9, rfl, rfl, .inr ⟨by decide, by decide⟩, .int size, rfl, _, size, rfl, rfl, .inr ⟨by omega, by omega⟩, ?_⟩
        have rd := right_due (size := size) (hops := hops) (side := side) (h := h) hvS nvn (show 1 ≤ b by omega) z0 k0 k1
        refine ⟨.int (hops * 9 * size + side), rfl, 0, hops * 9 * size + side, rfl, rfl, _, rfl, ite2 (fun m0 => ⟨.int (2 * b * 9 * size), rfl, hops * 9 * size + side, 2 * b * 9 * size, rfl, rfl, _, rfl, ite2 (fun m1 => ?_) (fun _ => ?_)⟩) (fun _ => ?_)⟩
        · replace m0 := of_decide_eq_true m0
          replace m1 := of_decide_eq_true m1
          replace rd := rd m0
          dsimp only
          generalize hops * 9 * size + side = many at m0 m1 rd ⊢
          generalize 2 * (b : Int) * 9 * size = whole at m1 rd bw bl ⊢
          refine seq_set ⟨.ref a, rfl, .int many, rfl, .int whole, rfl, .int many, rfl, whole, many, rfl, rfl, by show 2 ≤ sizeLine; decide, fun T2 nT2 => ?_⟩
          have sT2 := sG3.trans (sameU (o := .tup [.int many, .int (whole - many)]) nT2)
          have hT2 : (upd G4 T2 (.tup [.int many, .int (whole - many)])) T2 = some (.tup [.int many, .int (whole - many)]) := upd_same
          have kT := (sameU (o := .tup [.int many, .int (whole - many)]) nT2) _ _ hT3
          generalize hG5 : L2.upd G4 T2 _ = G5 at sT2 hT2 kT ⊢
          clear hG5
          refine fun tb dtb ntb ndtb ne => ?_
          have s5 : Same G5 (upd (upd G5 dtb (.own tb)) tb (.ins Ct dtb [])) := fun z o ez => by
            rw [upd_ne (ne_of_none ez ntb), upd_ne (ne_of_none ez ndtb)]
            exact ez
          have R := tbR2 (v := v) (w := wd) nd hn hv b0 b1 hh m0 (show 0 ≤ whole - many by omega) (show 0 < many + (whole - many) by omega)
          refine ⟨b, h, x, rs2 x n1 n2 v wd, way2 x, [many, whole - many], tb, dtb, a, dx, u, d, e, T2, rfl, (O4.same sT2).same s5, R, SqT.of (s5 _ _ hT2), upd_same, fun G6 M o6 O6 => ⟨rfl, ?_⟩⟩
          have s6 : Same G5 G6 := fun z o ez => o6 _ _ (ne_of_none ez ntb) (s5 _ _ ez)
          refine ⟨tb, dtb, _, rfl, O6.at_, b, h, x, rs2 x n1 n2 v wd, way2 x, [many, whole - many], tb, dtb, a, dx, u, d, e, T2, M, rfl, O6, R, tbS2 hv (by omega), fun G7 s7 => ?_⟩
          rw [fits2 nd, show many + (whole - many) = whole by omega, rd]
          have s67 := s6.trans s7
          refine ⟨.bl (dueV h v hops side), rfl, repr_in ?_⟩
          refine ⟨.str h, rfl, v, rfl, .int b, rfl, .int hops, rfl, .int side, rfl, b, h, v, b, hops, side, rfl, hvS, nvn, repr_in ?_⟩
          exact ⟨rfl, _, rfl, iteNS rfl ⟨sT2.trans s67, s67 _ _ kT, _, _, _, _, rfl⟩⟩
        · exact ⟨sG3, hT3, _, _, _, _, rfl⟩
        · exact ⟨_, rfl, iteF ⟨sG3, hT3, _, _, _, _, rfl⟩⟩
      · rintro σ G3 ⟨sG3, hT3, y10, y11, y12, y13, rfl⟩
        exact ⟨sG3, _, _, _, _, _, rfl⟩
    rintro σ G ⟨sG, x9, x10, x11, x12, x13, rfl⟩
    exact q4 _ sG
end
end Uq

namespace Uq
open PySem PySem.Spec PyProof.Rows L2

/-! ### all ways to round -/
section
variable {P : Program} {w : World} {K : PySem.W.Frag} {mg : Str → Option Value} {base : Heap}
theorem ok_law_right {f : Addr} {fd : FuncData} (F : Fun K "_law_right" "_law_right" s_law_right f fd) (m_all : mg "all" = none) (c_law_take : Cal P w K mg base 1 "_law_take" ["_law_pot_here", "_law_upto"] (sp_law_take K)) (c_law_names : Cal P w K mg base 3 "_law_names" ["_law_pot_here", "_law_many"] (sp_law_names K)) (c_law_share_right : CalG P w K mg base 8 "_law_share_right" ["_law_pot_here", "_law_names_here", "_law_parts", "_law_how", "_law_share"] (sp_law_share_right K)) : FnG P w K mg base 9 f fd ["_law_pot_here"] (sp_law_right K) := by
  refine Fun_okG F sc_law_right (fun vs H Q E h => ?_) (fun cdv A outer s H vs Q E hg hr h => ?_)
  · obtain ⟨p, rfl, _⟩ := h
    rfl
  · refine ⟨_, (pss_cons (ps_asg (pe_tup (pa_cons (pe_call c_law_names.G (hr.mono (by decide)) (by rfl) c_law_names.g c_law_names.kp c_law_names.b .nil pass0 (pa_cons (pv 0) (pa_cons pe_int pa_nil))) (pa_cons (pe_op op_add pe_int (pe_call c_law_take.G (hr.mono (by decide)) (by rfl) c_law_take.g c_law_take.kp c_law_take.b .nil pass0 (pa_cons (pv 0) (pa_cons pe_int pa_nil)))) pa_nil))) (pg_tup rfl (pgs_cons (pg_name (i := 1) sc_law_right.nd rfl (.inr rfl)) (pgs_cons (pg_name (i := 2) sc_law_right.nd rfl (.inr rfl)) pgs_nil))))
      (pss_cons (ps_set (i := 3) sc_law_right.nd rfl (.inl rfl) (pe_lst (pa_cons pe_int (pa_cons pe_int (pa_cons (pe_op op_sub (pv 2) pe_int) (pa_cons (pv 2) (pa_cons pe_str (pa_cons pe_str (pa_cons (pe_call c_law_take.G (hr.mono (by decide)) (by rfl) c_law_take.g c_law_take.kp c_law_take.b .nil pass0 (pa_cons (pv 0) (pa_cons (pe_op op_add (pv 2) pe_int) pa_nil))) pa_nil)))))))))
      (pss_cons (ps_for PassesOwn.never rfl (pi_tup (pe_tup (pa_cons pe_str (pa_cons pe_str (pa_cons pe_str (pa_cons pe_str pa_nil)))))) (pg_name (i := 4) sc_law_right.nd rfl (.inr rfl))
        (pss_one (ps_if (pt_not (pt_val (pe_callB (cr_all rfl) (by rfl) m_all (by decide +kernel) (pa_cons (pe_lc (own := [("_law_share", 5)]) (g := gName 5) rfl sc_law_right.nd (pi_list (pv 3)) (blkOk_by (own := [("_law_share", 5)]) (N := N_law_right) (sc := defScope s_law_right) (by decide +kernel)) (fun _ _ _ _ _ => (pg_name (i := 5) sc_law_right.nd rfl (.inl rfl))) (fun _ _ _ _ _ => pts_nil) (fun _ _ _ _ _ => (pe_callG c_law_share_right.G hg (hr.mono (by decide)) (by rfl) c_law_share_right.g c_law_share_right.kp c_law_share_right.b (pa_cons (pv 0) (pa_cons (pv 1) (pa_cons (pv 2) (pa_cons (pv 4) (pa_cons (pv 5) pa_nil)))))))) pa_nil)))) (pss_one (ps_ret pe_bl)) pss_nil)))
      (pss_one (ps_ret pe_bl))))), ?_⟩
    obtain ⟨p, rfl, hp, q⟩ := h
    refine ⟨.ref p, rfl, p, 0, 3, rfl, hp, by omega, by decide, fun H1 r ns hB1 hP1 nr hr ln nd hn => ?_⟩
    refine ⟨.ref p, rfl, p, 0 + 3, 99, rfl, hP1, by omega, by decide, by decide, fun H2 t hB2 hP2 t0 t1 => ?_⟩
    refine ⟨2, t, rfl, rfl, by show 2 ≤ sizeLine; decide, fun T nT => ?_⟩
    refine ⟨T, _, rfl, SqT.of upd_same, rfl, _, _, rfl, _, _, rfl, rfl, ?_⟩
    have rp : r ≠ p := fun z => hp.some (z ▸ nr)
    have hr2 := hB2 _ _ rp hr
    have sT := sameU (o := .tup [.ref r, .int (2 + t)]) nT
    have hB3 := (hB1.trans hB2).trans (But.of sT)
    have hP3 := hP2.same sT
    have hr3 := sT _ _ hr2
    dsimp only
    obtain ⟨b, eb⟩ : ∃ b : Nat, 2 + t = (b : Int) := ⟨(2 + t).toNat, by omega⟩
    rw [eb] at hB3 hP3 hr3 ⊢
    generalize hG : L2.upd H2 T _ = H3 at hB3 hP3 hr3 ⊢
    clear hG
    have b0 : 2 ≤ b := by omega
    have b1 : b ≤ 100 := by omega
    refine seq_set (lst_in ?_)
    refine ⟨.int b, rfl, b, 1, rfl, rfl, .int b, rfl, .ref p, rfl, .int b, rfl, b, 1, rfl, rfl, p, 0 + 3 + 1, b + 1, rfl, hP3, by omega, by omega, by omega, fun H4 s hB4 hP4 s0 s1 => ⟨by show 7 ≤ sizeLine; decide, fun L nL => ?_⟩⟩
    have sL := sameU (o := .lst [.int 0, .int 1, .int (b - 1), .int b, .str "none", .str "some", .int s]) nL
    have hL : (upd H4 L (.lst [.int 0, .int 1, .int (b - 1), .int b, .str "none", .str "some", .int s])) L = some (.lst [.int 0, .int 1, .int (b - 1), .int b, .str "none", .str "some", .int s]) := upd_same
    have Lp : L ≠ p := fun z => hP4.some (z ▸ nL)
    have hr5 := sL _ _ (hB4 _ _ rp hr3)
    have hP5 := hP4.same sL
    have hB5 := (hB3.trans hB4).trans (But.of sL)
    dsimp only
    have hws : ∀ v ∈ [V.int 0, .int 1, .int (b - 1), .int b, .str "none", .str "some", .int s], ∃ w, Shw b v w := by
      have num : ∀ i : Int, 0 ≤ i → i ≤ b → ∃ w, Shw b (.int i) w := fun i i0 i1 => by
        obtain ⟨n, rfl⟩ : ∃ n : Nat, i = (n : Int) := ⟨i.toNat, by omega⟩
        exact ⟨_, .num n (by omega)⟩
      intro v m
      simp only [List.mem_cons, List.not_mem_nil, or_false] at m
      rcases m with rfl | rfl | rfl | rfl | rfl | rfl | rfl
      · exact num _ (by decide) (by omega)
      · exact num _ (by decide) (by omega)
      · exact num _ (by omega) (by omega)
      · exact num _ (by omega) (by omega)
      · exact ⟨_, .none⟩
      · exact ⟨_, .some⟩
      · exact num _ (by omega) (by omega)
    obtain ⟨x, n1, n2, rfl⟩ : ∃ x n1 n2, ns = [x, n1, n2] := by
      match ns, ln with
      | [x, n1, n2], _ => exact ⟨x, n1, n2, rfl⟩
    generalize hG : L2.upd H4 L _ = H5 at hL hr5 hP5 hB5 ⊢
    generalize hlen : [V.int 0, .int 1, .int (b - 1), .int b, .str "none", .str "some", .int s] = vs7 at hL hws
    have l7 : vs7.length = 7 := by rw [← hlen]; rfl
    clear hG hlen hB3 hP3 hr3 hB4 hP4 sL sT hB1 hB2 hP1 hP2 hr2 hr hp
    refine ⟨by show 4 ≤ sizeLine; decide, fun T2 nT2 => ?_⟩
    refine ⟨T2, rfl, ⟨_, SqT.of upd_same⟩, ?_⟩
    have sT2 := sameU (o := .tup [.str "near", .str "even", .str "down", .str "up"]) nT2
    have hT2 : (upd H5 T2 (.tup [.str "near", .str "even", .str "down", .str "up"])) T2 = some (.tup [.str "near", .str "even", .str "down", .str "up"]) := upd_same
    have Tp : T2 ≠ p := fun z => hP5.some (z ▸ nT2)
    have hP6 := hP5.same sT2
    have hB6 := hB5.trans (But.of sT2)
    have hL6 := sT2 _ _ hL
    have hr6 := sT2 _ _ hr5
    generalize hG : L2.upd H5 T2 _ = H6 at hT2 hP6 hB6 hL6 hr6 ⊢
    clear hG sT2 hP5 hB5 hr5 hL
    refine for_it (walk_tup (xs := [.str "near", .str "even", .str "down", .str "up"])) (fun i σ G => But p H6 G ∧ Pot G p (10 + 7 * i) ∧ ∃ x4 x5, σ = [some (.ref p), some (.ref r), some (.int b), some (.ref L), x4, x5]) ⟨fun _ _ _ z => z, hP6.mono (by omega), _, _, rfl⟩ (fun _ _ G _ z => SqT.of (z.1 _ _ Tp hT2)) ?_ ?_
    · rintro i y σ G G' hi ⟨hB7, hP7, x4, x5, rfl⟩ ⟨rfl, hk⟩
      obtain ⟨h, rfl, hh⟩ : ∃ h, y = .str h ∧ How h := by
        match i, hk with
        | 0, hk => exact ⟨_, (Option.some.inj hk).symm, .inl rfl⟩
        | 1, hk => exact ⟨_, (Option.some.inj hk).symm, .inr (.inl rfl)⟩
        | 2, hk => exact ⟨_, (Option.some.inj hk).symm, .inr (.inr (.inl rfl))⟩
        | 3, hk => exact ⟨_, (Option.some.inj hk).symm, .inr (.inr (.inr rfl))⟩
      have hi4 : i < 4 := hi
      have hL7 := hB7 _ _ Lp hL6
      have hr7 := hB7 _ _ rp hr6
      refine ⟨.ref L, rfl, L, rfl, ⟨_, SqL.of hL7⟩, fun D nD => ?_⟩
      have Dp : D ≠ p := fun z => hP7.some (z ▸ nD)
      refine lc_it (walk_list (xs := vs7)) (fun j H' => But p G' H' ∧ Pot H' p (10 + 7 * i + j) ∧ H' D = some (.lst (List.replicate j (.bl true)))) ⟨But.of (sameU nD), hP7.same (sameU nD), upd_same⟩ (fun j H' _ z => SqL.of (z.1 _ _ Lp hL7)) ?_ ?_
      · rintro j y H8 H9 hj ⟨hB8, hP8, hD8⟩ ⟨rfl, hkj⟩
        obtain ⟨wd, hv⟩ := hws _ (List.mem_of_getElem? hkj)
        refine ⟨rfl, .ref p, rfl, .ref r, rfl, .int b, rfl, .str h, rfl, y, rfl, p, 10 + 7 * i + j, r, [x, n1, n2], b, h, y, wd, x, n1, n2, rfl, hP8, by omega, rp, hB8 _ _ rp hr7, rfl, nd, hn, b0, b1, hh, hv, fun H10 hB10 hP10 => ?_⟩
        refine ⟨_, hB10 _ _ Dp hD8, ?_, ?_, ?_, ?_⟩
        · rw [List.length_replicate]
          exact small1000 (by omega)
        · exact But.offL (hB8.trans hB10) nD
        · obtain ⟨o1, o2, o3, e1, e2⟩ := hP10
          exact ⟨o1, o2, o3, by rw [upd_ne Dp.symm]; exact e1, e2⟩
        · rw [upd_same, List.replicate_succ']
      rintro H8 ⟨hB8, hP8, hD8⟩
      refine ⟨D, List.replicate _ true, rfl, SqL.of (by rw [List.map_replicate]; exact hD8), ?_⟩
      rw [all_rep]
      exact ⟨true, rfl, iteF ⟨hB7.trans hB8, hP8.mono (by omega), _, _, rfl⟩⟩
    rintro σ G ⟨hB7, hP7, x4, x5, rfl⟩
    exact q _ (hB6.trans hB7)
theorem ok_lawT {f : Addr} {fd : FuncData} (F : Fun K "law" "law" s_law f fd) (m_all : mg "all" = none) (c_law_cells : Cal P w K mg base 1 "_law_cells" ["_law_script", "_law_most"] (sp_law_cells K)) (c_law_right : CalG P w K mg base 9 "_law_right" ["_law_pot_here"] (sp_law_right K)) (c_law_pot : Cal P w K mg base 1 "_law_pot" ["_law_script", "_law_place"] (sp_law_pot K)) : FnG P w K mg base 10 f fd ["_law_script"] (sp_law K) := by
  refine Fun_okG F sc_law (fun vs H Q E h => ?_) (fun cdv A outer s H vs Q E hg hr h => ?_)
  · obtain ⟨a, ns, rfl, _⟩ := h
    rfl
  · refine ⟨_, (pss_one (ps_ret (pe_callB (cr_all rfl) (by rfl) m_all (by decide +kernel) (pa_cons (pe_lc (own := [("_law_place", 1)]) (g := gName 1) rfl sc_law.nd (pi_list (pe_call c_law_cells.G (hr.mono (by decide)) (by rfl) c_law_cells.g c_law_cells.kp c_law_cells.b .nil pass0 (pa_cons (pv 0) (pa_cons pe_int pa_nil)))) (blkOk_by (own := [("_law_place", 1)]) (N := N_law) (sc := defScope s_law) (by decide +kernel)) (fun _ _ _ _ _ => (pg_name (i := 1) sc_law.nd rfl (.inl rfl))) (fun _ _ _ _ _ => pts_nil) (fun _ _ _ _ _ => (pe_callG c_law_right.G hg (hr.mono (by decide)) (by rfl) c_law_right.g c_law_right.kp c_law_right.b (pa_cons (pe_call c_law_pot.G (hr.mono (by decide)) (by rfl) c_law_pot.g c_law_pot.kp c_law_pot.b .nil pass0 (pa_cons (pv 0) (pa_cons (pv 1) pa_nil))) pa_nil)))) pa_nil)))), ?_⟩
    obtain ⟨a, ns, rfl, hl, hn, q⟩ := h
    refine ⟨.ref a, rfl, a, ns, 6, rfl, hl, hn, by decide, by decide, fun H1 l k nl sm hk k1 k2 => ?_⟩
    refine ⟨l, rfl, ⟨_, SqL.of hk⟩, fun D nD => ?_⟩
    have nDl : D ≠ l := fun z => by
      rw [z, hk] at nD
      cases nD
    refine lc_list (K := K) (a := l) (xs := rgV 0 (k : Int)) (fun i H' => Same H1 H' ∧ H' D = some (.lst (List.replicate i (.bl true)))) ⟨sameU nD, upd_same⟩ (fun i H' _ hP => sqL_same hP.1 (SqL.of hk)) ?_ ?_
    · intro i x H2 hx hP
      have hi : i < k := by
        have e := (List.getElem?_eq_some_iff.mp hx).1
        rw [rgV_length] at e
        omega
      have ex : x = .int (i : Int) := by
        unfold rgV at hx
        rw [List.getElem?_map, List.getElem?_range (by omega)] at hx
        have e := Option.some.inj hx
        rw [← e]
        show V.int (0 + (i : Int)) = V.int (i : Int)
        rw [Int.zero_add]
      subst ex
      refine ⟨rfl, .ref a, rfl, .int (i : Int), rfl, a, ns, (i : Int), rfl, sqL_same (sm.trans hP.1) hl, hn, by omega, by omega, fun H3 p np sm3 hp => ?_⟩
      refine ⟨p, rfl, hp, fun H4 hB => ?_⟩
      have pD : D ≠ p := ne_of_none hP.2 np
      refine ⟨List.replicate i (.bl true), hB _ _ pD (sm3 _ _ hP.2), ?_, ?_, ?_⟩
      · rw [List.length_replicate]
        exact small1000 (by omega)
      · intro b o e
        have nb : b ≠ D := ne_of_none e nD
        have nbp : b ≠ p := ne_of_none (hP.1 b o e) np
        rw [upd_ne nb]
        exact hB b o nbp (sm3 b o (hP.1 b o e))
      · rw [upd_same, List.replicate_succ']
    · intro H2 hP
      rw [rgV_length] at hP
      have hD := hP.2
      refine ⟨D, List.replicate ((k : Int) - 0).toNat true, rfl, SqL.of (by rw [hD, List.map_replicate]), ?_⟩
      rw [all_rep]
      exact q _
end
end Uq

namespace Uq
open PySem PySem.Spec PyProof.Rows L2
theorem marks_at {K : PySem.W.Frag} {e m0 m1 m2 m3 : Addr} {d d0 d1 d2 d3 : Option Addr} {n n0 n1 n2 n3 : Nat} {s s0 s1 s2 s3 : Array (Option Value)} {t1 t2 t3 t4 : Tok}
    (l : K.lookup e = some ⟨.type "tuple", d, .seq #[.ref m0, .ref m1, .ref m2, .ref m3] n, s⟩) (l0 : K.lookup m0 = some ⟨.type "tuple", d0, .seq #[] n0, s0⟩) (l1 : K.lookup m1 = some ⟨.type "tuple", d1, .seq #[.str "is" t1] n1, s1⟩) (l2 : K.lookup m2 = some ⟨.type "tuple", d2, .seq #[.str "all" t2] n2, s2⟩) (l3 : K.lookup m3 = some ⟨.type "tuple", d3, .seq #[.str "is" t3, .str "all" t4] n3, s3⟩) : ∀ H, Dp K H (.ref e) (.tuple marksD) := fun H => by
  have a0 : Dp K H (.ref m0) (.tuple []) := .tup (.inr ⟨_, _, _, l0, rfl, rfl, by decide, .nil⟩) .nil
  have a1 : Dp K H (.ref m1) (.tuple [.str "is"]) := .tup (xs := [.str "is"]) (.inr ⟨_, _, _, l1, rfl, rfl, (by show 1 ≤ sizeLine; decide), .cons ⟨_, rfl⟩ .nil⟩) (.cons (.str _) .nil)
  have a2 : Dp K H (.ref m2) (.tuple [.str "all"]) := .tup (xs := [.str "all"]) (.inr ⟨_, _, _, l2, rfl, rfl, (by show 1 ≤ sizeLine; decide), .cons ⟨_, rfl⟩ .nil⟩) (.cons (.str _) .nil)
  have a3 : Dp K H (.ref m3) (.tuple [.str "is", .str "all"]) := .tup (xs := [.str "is", .str "all"]) (.inr ⟨_, _, _, l3, rfl, rfl, (by show 2 ≤ sizeLine; decide), .cons ⟨_, rfl⟩ (.cons ⟨_, rfl⟩ .nil)⟩) (.cons (.str _) (.cons (.str _) .nil))
  exact .tup (xs := [.ref m0, .ref m1, .ref m2, .ref m3]) (.inr ⟨_, _, _, l, rfl, rfl, (by show 4 ≤ sizeLine; decide), .cons rfl (.cons rfl (.cons rfl (.cons rfl .nil)))⟩) (.cons a0 (.cons a1 (.cons a2 (.cons a3 .nil))))
theorem all_mk {l : PySem.W.OpenLaw} {w : World} {K : PySem.W.Frag} {h : Heap} {mg : Str → Option Value} {fa : Addr} (X : K.In h) (G : h.Ns mainGlobals mg) (hfa : mg "law" = some (.ref fa))
    {f_law_cells : Addr} {od_law_cells an_law_cells : Option Addr} {sl_law_cells : Array (Option Value)} {oc_law_cells kV_law_cells dc_law_cells pm_law_cells cd_law_cells ct_law_cells : Value}
    (a_law_cells : PySem.W.nsIn K mainGlobals "_law_cells" = some (some (.ref f_law_cells)))
    (l_law_cells : K.lookup f_law_cells = some ⟨oc_law_cells, od_law_cells, .func (PySem.W.fnOf "_law_cells" "_law_cells" (defArgs s_law_cells) (defBody s_law_cells) (defScope s_law_cells) .none kV_law_cells dc_law_cells pm_law_cells an_law_cells cd_law_cells ct_law_cells), sl_law_cells⟩)
    (k_law_cells : PySem.W.codeIn K cd_law_cells "_law_cells" = true)
    (p_law_cells : PySem.W.keepIn K (.ref f_law_cells) = true)
    {f_law_take : Addr} {od_law_take an_law_take : Option Addr} {sl_law_take : Array (Option Value)} {oc_law_take kV_law_take dc_law_take pm_law_take cd_law_take ct_law_take : Value}
    (a_law_take : PySem.W.nsIn K mainGlobals "_law_take" = some (some (.ref f_law_take)))
    (l_law_take : K.lookup f_law_take = some ⟨oc_law_take, od_law_take, .func (PySem.W.fnOf "_law_take" "_law_take" (defArgs s_law_take) (defBody s_law_take) (defScope s_law_take) .none kV_law_take dc_law_take pm_law_take an_law_take cd_law_take ct_law_take), sl_law_take⟩)
    (k_law_take : PySem.W.codeIn K cd_law_take "_law_take" = true)
    (p_law_take : PySem.W.keepIn K (.ref f_law_take) = true)
    {f_law_some : Addr} {od_law_some an_law_some : Option Addr} {sl_law_some : Array (Option Value)} {oc_law_some kV_law_some dc_law_some pm_law_some cd_law_some ct_law_some : Value}
    (a_law_some : PySem.W.nsIn K mainGlobals "_law_some" = some (some (.ref f_law_some)))
    (l_law_some : K.lookup f_law_some = some ⟨oc_law_some, od_law_some, .func (PySem.W.fnOf "_law_some" "_law_some" (defArgs s_law_some) (defBody s_law_some) (defScope s_law_some) .none kV_law_some dc_law_some pm_law_some an_law_some cd_law_some ct_law_some), sl_law_some⟩)
    (k_law_some : PySem.W.codeIn K cd_law_some "_law_some" = true)
    (p_law_some : PySem.W.keepIn K (.ref f_law_some) = true)
    {f_law_names : Addr} {od_law_names an_law_names : Option Addr} {sl_law_names : Array (Option Value)} {oc_law_names kV_law_names dc_law_names pm_law_names cd_law_names ct_law_names : Value}
    (a_law_names : PySem.W.nsIn K mainGlobals "_law_names" = some (some (.ref f_law_names)))
    (l_law_names : K.lookup f_law_names = some ⟨oc_law_names, od_law_names, .func (PySem.W.fnOf "_law_names" "_law_names" (defArgs s_law_names) (defBody s_law_names) (defScope s_law_names) .none kV_law_names dc_law_names pm_law_names an_law_names cd_law_names ct_law_names), sl_law_names⟩)
    (k_law_names : PySem.W.codeIn K cd_law_names "_law_names" = true)
    (p_law_names : PySem.W.keepIn K (.ref f_law_names) = true)
    {f_read_number : Addr} {od_read_number an_read_number : Option Addr} {sl_read_number : Array (Option Value)} {oc_read_number kV_read_number dc_read_number pm_read_number cd_read_number ct_read_number : Value}
    (a_read_number : PySem.W.nsIn K mainGlobals "read_number" = some (some (.ref f_read_number)))
    (l_read_number : K.lookup f_read_number = some ⟨oc_read_number, od_read_number, .func (PySem.W.fnOf "read_number" "read_number" (defArgs s_read_number) (defBody s_read_number) (defScope s_read_number) .none kV_read_number dc_read_number pm_read_number an_read_number cd_read_number ct_read_number), sl_read_number⟩)
    (k_read_number : PySem.W.codeIn K cd_read_number "read_number" = true)
    (p_read_number : PySem.W.keepIn K (.ref f_read_number) = true)
    {f_is_integer : Addr} {od_is_integer an_is_integer : Option Addr} {sl_is_integer : Array (Option Value)} {oc_is_integer kV_is_integer dc_is_integer pm_is_integer cd_is_integer ct_is_integer : Value}
    (a_is_integer : PySem.W.nsIn K mainGlobals "is_integer" = some (some (.ref f_is_integer)))
    (l_is_integer : K.lookup f_is_integer = some ⟨oc_is_integer, od_is_integer, .func (PySem.W.fnOf "is_integer" "is_integer" (defArgs s_is_integer) (defBody s_is_integer) (defScope s_is_integer) .none kV_is_integer dc_is_integer pm_is_integer an_is_integer cd_is_integer ct_is_integer), sl_is_integer⟩)
    (k_is_integer : PySem.W.codeIn K cd_is_integer "is_integer" = true)
    (p_is_integer : PySem.W.keepIn K (.ref f_is_integer) = true)
    {f_is_units : Addr} {od_is_units an_is_units : Option Addr} {sl_is_units : Array (Option Value)} {oc_is_units kV_is_units dc_is_units pm_is_units cd_is_units ct_is_units : Value}
    (a_is_units : PySem.W.nsIn K mainGlobals "is_units" = some (some (.ref f_is_units)))
    (l_is_units : K.lookup f_is_units = some ⟨oc_is_units, od_is_units, .func (PySem.W.fnOf "is_units" "is_units" (defArgs s_is_units) (defBody s_is_units) (defScope s_is_units) .none kV_is_units dc_is_units pm_is_units an_is_units cd_is_units ct_is_units), sl_is_units⟩)
    (k_is_units : PySem.W.codeIn K cd_is_units "is_units" = true)
    (p_is_units : PySem.W.keepIn K (.ref f_is_units) = true)
    {f_read_units : Addr} {od_read_units an_read_units : Option Addr} {sl_read_units : Array (Option Value)} {oc_read_units kV_read_units dc_read_units pm_read_units cd_read_units ct_read_units : Value}
    (a_read_units : PySem.W.nsIn K mainGlobals "read_units" = some (some (.ref f_read_units)))
    (l_read_units : K.lookup f_read_units = some ⟨oc_read_units, od_read_units, .func (PySem.W.fnOf "read_units" "read_units" (defArgs s_read_units) (defBody s_read_units) (defScope s_read_units) .none kV_read_units dc_read_units pm_read_units an_read_units cd_read_units ct_read_units), sl_read_units⟩)
    (k_read_units : PySem.W.codeIn K cd_read_units "read_units" = true)
    (p_read_units : PySem.W.keepIn K (.ref f_read_units) = true)
    {f_is_name : Addr} {od_is_name an_is_name : Option Addr} {sl_is_name : Array (Option Value)} {oc_is_name kV_is_name dc_is_name pm_is_name cd_is_name ct_is_name : Value}
    (a_is_name : PySem.W.nsIn K mainGlobals "is_name" = some (some (.ref f_is_name)))
    (l_is_name : K.lookup f_is_name = some ⟨oc_is_name, od_is_name, .func (PySem.W.fnOf "is_name" "is_name" (defArgs s_is_name) (defBody s_is_name) (defScope s_is_name) .none kV_is_name dc_is_name pm_is_name an_is_name cd_is_name ct_is_name), sl_is_name⟩)
    (k_is_name : PySem.W.codeIn K cd_is_name "is_name" = true)
    (p_is_name : PySem.W.keepIn K (.ref f_is_name) = true)
    {f_is_asked : Addr} {od_is_asked an_is_asked : Option Addr} {sl_is_asked : Array (Option Value)} {oc_is_asked kV_is_asked dc_is_asked pm_is_asked cd_is_asked ct_is_asked : Value}
    (a_is_asked : PySem.W.nsIn K mainGlobals "is_asked" = some (some (.ref f_is_asked)))
    (l_is_asked : K.lookup f_is_asked = some ⟨oc_is_asked, od_is_asked, .func (PySem.W.fnOf "is_asked" "is_asked" (defArgs s_is_asked) (defBody s_is_asked) (defScope s_is_asked) .none kV_is_asked dc_is_asked pm_is_asked an_is_asked cd_is_asked ct_is_asked), sl_is_asked⟩)
    (k_is_asked : PySem.W.codeIn K cd_is_asked "is_asked" = true)
    (p_is_asked : PySem.W.keepIn K (.ref f_is_asked) = true)
    {f_read_share : Addr} {od_read_share an_read_share : Option Addr} {sl_read_share : Array (Option Value)} {oc_read_share kV_read_share dc_read_share pm_read_share cd_read_share ct_read_share : Value}
    (a_read_share : PySem.W.nsIn K mainGlobals "read_share" = some (some (.ref f_read_share)))
    (l_read_share : K.lookup f_read_share = some ⟨oc_read_share, od_read_share, .func (PySem.W.fnOf "read_share" "read_share" (defArgs s_read_share) (defBody s_read_share) (defScope s_read_share) .none kV_read_share dc_read_share pm_read_share an_read_share cd_read_share ct_read_share), sl_read_share⟩)
    (k_read_share : PySem.W.codeIn K cd_read_share "read_share" = true)
    (p_read_share : PySem.W.keepIn K (.ref f_read_share) = true)
    {f_read_part : Addr} {od_read_part an_read_part : Option Addr} {sl_read_part : Array (Option Value)} {oc_read_part kV_read_part dc_read_part pm_read_part cd_read_part ct_read_part : Value}
    (a_read_part : PySem.W.nsIn K mainGlobals "read_part" = some (some (.ref f_read_part)))
    (l_read_part : K.lookup f_read_part = some ⟨oc_read_part, od_read_part, .func (PySem.W.fnOf "read_part" "read_part" (defArgs s_read_part) (defBody s_read_part) (defScope s_read_part) .none kV_read_part dc_read_part pm_read_part an_read_part cd_read_part ct_read_part), sl_read_part⟩)
    (k_read_part : PySem.W.codeIn K cd_read_part "read_part" = true)
    (p_read_part : PySem.W.keepIn K (.ref f_read_part) = true)
    {f_ends_among : Addr} {od_ends_among an_ends_among : Option Addr} {sl_ends_among : Array (Option Value)} {oc_ends_among kV_ends_among dc_ends_among pm_ends_among cd_ends_among ct_ends_among : Value}
    (a_ends_among : PySem.W.nsIn K mainGlobals "ends_among" = some (some (.ref f_ends_among)))
    (l_ends_among : K.lookup f_ends_among = some ⟨oc_ends_among, od_ends_among, .func (PySem.W.fnOf "ends_among" "ends_among" (defArgs s_ends_among) (defBody s_ends_among) (defScope s_ends_among) .none kV_ends_among dc_ends_among pm_ends_among an_ends_among cd_ends_among ct_ends_among), sl_ends_among⟩)
    (k_ends_among : PySem.W.codeIn K cd_ends_among "ends_among" = true)
    (p_ends_among : PySem.W.keepIn K (.ref f_ends_among) = true)
    {f_way_up : Addr} {od_way_up an_way_up : Option Addr} {sl_way_up : Array (Option Value)} {oc_way_up kV_way_up dc_way_up pm_way_up cd_way_up ct_way_up : Value}
    (a_way_up : PySem.W.nsIn K mainGlobals "way_up" = some (some (.ref f_way_up)))
    (l_way_up : K.lookup f_way_up = some ⟨oc_way_up, od_way_up, .func (PySem.W.fnOf "way_up" "way_up" (defArgs s_way_up) (defBody s_way_up) (defScope s_way_up) .none kV_way_up dc_way_up pm_way_up an_way_up cd_way_up ct_way_up), sl_way_up⟩)
    (k_way_up : PySem.W.codeIn K cd_way_up "way_up" = true)
    (p_way_up : PySem.W.keepIn K (.ref f_way_up) = true)
    {f_is_too_much : Addr} {od_is_too_much an_is_too_much : Option Addr} {sl_is_too_much : Array (Option Value)} {oc_is_too_much kV_is_too_much dc_is_too_much pm_is_too_much cd_is_too_much ct_is_too_much : Value}
    (a_is_too_much : PySem.W.nsIn K mainGlobals "is_too_much" = some (some (.ref f_is_too_much)))
    (l_is_too_much : K.lookup f_is_too_much = some ⟨oc_is_too_much, od_is_too_much, .func (PySem.W.fnOf "is_too_much" "is_too_much" (defArgs s_is_too_much) (defBody s_is_too_much) (defScope s_is_too_much) .none kV_is_too_much dc_is_too_much pm_is_too_much an_is_too_much cd_is_too_much ct_is_too_much), sl_is_too_much⟩)
    (k_is_too_much : PySem.W.codeIn K cd_is_too_much "is_too_much" = true)
    (p_is_too_much : PySem.W.keepIn K (.ref f_is_too_much) = true)
    {f_read_parts : Addr} {od_read_parts an_read_parts : Option Addr} {sl_read_parts : Array (Option Value)} {oc_read_parts kV_read_parts dc_read_parts pm_read_parts cd_read_parts ct_read_parts : Value}
    (a_read_parts : PySem.W.nsIn K mainGlobals "read_parts" = some (some (.ref f_read_parts)))
    (l_read_parts : K.lookup f_read_parts = some ⟨oc_read_parts, od_read_parts, .func (PySem.W.fnOf "read_parts" "read_parts" (defArgs s_read_parts) (defBody s_read_parts) (defScope s_read_parts) .none kV_read_parts dc_read_parts pm_read_parts an_read_parts cd_read_parts ct_read_parts), sl_read_parts⟩)
    (k_read_parts : PySem.W.codeIn K cd_read_parts "read_parts" = true)
    (p_read_parts : PySem.W.keepIn K (.ref f_read_parts) = true)
    {f_read_page : Addr} {od_read_page an_read_page : Option Addr} {sl_read_page : Array (Option Value)} {oc_read_page kV_read_page dc_read_page pm_read_page cd_read_page ct_read_page : Value}
    (a_read_page : PySem.W.nsIn K mainGlobals "read_page" = some (some (.ref f_read_page)))
    (l_read_page : K.lookup f_read_page = some ⟨oc_read_page, od_read_page, .func (PySem.W.fnOf "read_page" "read_page" (defArgs s_read_page) (defBody s_read_page) (defScope s_read_page) .none kV_read_page dc_read_page pm_read_page an_read_page cd_read_page ct_read_page), sl_read_page⟩)
    (k_read_page : PySem.W.codeIn K cd_read_page "read_page" = true)
    (p_read_page : PySem.W.keepIn K (.ref f_read_page) = true)
    {f_Page__init_ : Addr} {od_Page__init_ an_Page__init_ : Option Addr} {sl_Page__init_ : Array (Option Value)} {oc_Page__init_ kV_Page__init_ dc_Page__init_ pm_Page__init_ cd_Page__init_ ct_Page__init_ : Value}
    (l_Page__init_ : K.lookup f_Page__init_ = some ⟨oc_Page__init_, od_Page__init_, .func (PySem.W.fnOf "__init__" "Page.__init__" (defArgs s_Page__init_) (defBody s_Page__init_) (defScope s_Page__init_) .none kV_Page__init_ dc_Page__init_ pm_Page__init_ an_Page__init_ cd_Page__init_ ct_Page__init_), sl_Page__init_⟩)
    (k_Page__init_ : PySem.W.codeIn K cd_Page__init_ "Page.__init__" = true)
    (p_Page__init_ : PySem.W.keepIn K (.ref f_Page__init_) = true)
    {f_Page_parts : Addr} {od_Page_parts an_Page_parts : Option Addr} {sl_Page_parts : Array (Option Value)} {oc_Page_parts kV_Page_parts dc_Page_parts pm_Page_parts cd_Page_parts ct_Page_parts : Value}
    (l_Page_parts : K.lookup f_Page_parts = some ⟨oc_Page_parts, od_Page_parts, .func (PySem.W.fnOf "parts" "Page.parts" (defArgs s_Page_parts) (defBody s_Page_parts) (defScope s_Page_parts) .none kV_Page_parts dc_Page_parts pm_Page_parts an_Page_parts cd_Page_parts ct_Page_parts), sl_Page_parts⟩)
    (k_Page_parts : PySem.W.codeIn K cd_Page_parts "Page.parts" = true)
    (p_Page_parts : PySem.W.keepIn K (.ref f_Page_parts) = true)
    {f_Page_ends : Addr} {od_Page_ends an_Page_ends : Option Addr} {sl_Page_ends : Array (Option Value)} {oc_Page_ends kV_Page_ends dc_Page_ends pm_Page_ends cd_Page_ends ct_Page_ends : Value}
    (l_Page_ends : K.lookup f_Page_ends = some ⟨oc_Page_ends, od_Page_ends, .func (PySem.W.fnOf "ends" "Page.ends" (defArgs s_Page_ends) (defBody s_Page_ends) (defScope s_Page_ends) .none kV_Page_ends dc_Page_ends pm_Page_ends an_Page_ends cd_Page_ends ct_Page_ends), sl_Page_ends⟩)
    (k_Page_ends : PySem.W.codeIn K cd_Page_ends "Page.ends" = true)
    (p_Page_ends : PySem.W.keepIn K (.ref f_Page_ends) = true)
    {f_is_counts : Addr} {od_is_counts an_is_counts : Option Addr} {sl_is_counts : Array (Option Value)} {oc_is_counts kV_is_counts dc_is_counts pm_is_counts cd_is_counts ct_is_counts : Value}
    (a_is_counts : PySem.W.nsIn K mainGlobals "is_counts" = some (some (.ref f_is_counts)))
    (l_is_counts : K.lookup f_is_counts = some ⟨oc_is_counts, od_is_counts, .func (PySem.W.fnOf "is_counts" "is_counts" (defArgs s_is_counts) (defBody s_is_counts) (defScope s_is_counts) .none kV_is_counts dc_is_counts pm_is_counts an_is_counts cd_is_counts ct_is_counts), sl_is_counts⟩)
    (k_is_counts : PySem.W.codeIn K cd_is_counts "is_counts" = true)
    (p_is_counts : PySem.W.keepIn K (.ref f_is_counts) = true)
    {f_Page__contains_ : Addr} {od_Page__contains_ an_Page__contains_ : Option Addr} {sl_Page__contains_ : Array (Option Value)} {oc_Page__contains_ kV_Page__contains_ dc_Page__contains_ pm_Page__contains_ cd_Page__contains_ ct_Page__contains_ : Value}
    (l_Page__contains_ : K.lookup f_Page__contains_ = some ⟨oc_Page__contains_, od_Page__contains_, .func (PySem.W.fnOf "__contains__" "Page.__contains__" (defArgs s_Page__contains_) (defBody s_Page__contains_) (defScope s_Page__contains_) .none kV_Page__contains_ dc_Page__contains_ pm_Page__contains_ an_Page__contains_ cd_Page__contains_ ct_Page__contains_), sl_Page__contains_⟩)
    (k_Page__contains_ : PySem.W.codeIn K cd_Page__contains_ "Page.__contains__" = true)
    (p_Page__contains_ : PySem.W.keepIn K (.ref f_Page__contains_) = true)
    {f_Page_ends_of : Addr} {od_Page_ends_of an_Page_ends_of : Option Addr} {sl_Page_ends_of : Array (Option Value)} {oc_Page_ends_of kV_Page_ends_of dc_Page_ends_of pm_Page_ends_of cd_Page_ends_of ct_Page_ends_of : Value}
    (l_Page_ends_of : K.lookup f_Page_ends_of = some ⟨oc_Page_ends_of, od_Page_ends_of, .func (PySem.W.fnOf "ends_of" "Page.ends_of" (defArgs s_Page_ends_of) (defBody s_Page_ends_of) (defScope s_Page_ends_of) .none kV_Page_ends_of dc_Page_ends_of pm_Page_ends_of an_Page_ends_of cd_Page_ends_of ct_Page_ends_of), sl_Page_ends_of⟩)
    (k_Page_ends_of : PySem.W.codeIn K cd_Page_ends_of "Page.ends_of" = true)
    (p_Page_ends_of : PySem.W.keepIn K (.ref f_Page_ends_of) = true)
    {f_many_in : Addr} {od_many_in an_many_in : Option Addr} {sl_many_in : Array (Option Value)} {oc_many_in kV_many_in dc_many_in pm_many_in cd_many_in ct_many_in : Value}
    (a_many_in : PySem.W.nsIn K mainGlobals "many_in" = some (some (.ref f_many_in)))
    (l_many_in : K.lookup f_many_in = some ⟨oc_many_in, od_many_in, .func (PySem.W.fnOf "many_in" "many_in" (defArgs s_many_in) (defBody s_many_in) (defScope s_many_in) .none kV_many_in dc_many_in pm_many_in an_many_in cd_many_in ct_many_in), sl_many_in⟩)
    (k_many_in : PySem.W.codeIn K cd_many_in "many_in" = true)
    (p_many_in : PySem.W.keepIn K (.ref f_many_in) = true)
    {f_Table__init_ : Addr} {od_Table__init_ an_Table__init_ : Option Addr} {sl_Table__init_ : Array (Option Value)} {oc_Table__init_ kV_Table__init_ dc_Table__init_ pm_Table__init_ cd_Table__init_ ct_Table__init_ : Value}
    (l_Table__init_ : K.lookup f_Table__init_ = some ⟨oc_Table__init_, od_Table__init_, .func (PySem.W.fnOf "__init__" "Table.__init__" (defArgs s_Table__init_) (defBody s_Table__init_) (defScope s_Table__init_) .none kV_Table__init_ dc_Table__init_ pm_Table__init_ an_Table__init_ cd_Table__init_ ct_Table__init_), sl_Table__init_⟩)
    (k_Table__init_ : PySem.W.codeIn K cd_Table__init_ "Table.__init__" = true)
    (p_Table__init_ : PySem.W.keepIn K (.ref f_Table__init_) = true)
    {f_Page_units : Addr} {od_Page_units an_Page_units : Option Addr} {sl_Page_units : Array (Option Value)} {oc_Page_units kV_Page_units dc_Page_units pm_Page_units cd_Page_units ct_Page_units : Value}
    (l_Page_units : K.lookup f_Page_units = some ⟨oc_Page_units, od_Page_units, .func (PySem.W.fnOf "units" "Page.units" (defArgs s_Page_units) (defBody s_Page_units) (defScope s_Page_units) .none kV_Page_units dc_Page_units pm_Page_units an_Page_units cd_Page_units ct_Page_units), sl_Page_units⟩)
    (k_Page_units : PySem.W.codeIn K cd_Page_units "Page.units" = true)
    (p_Page_units : PySem.W.keepIn K (.ref f_Page_units) = true)
    {f_Page__getitem_ : Addr} {od_Page__getitem_ an_Page__getitem_ : Option Addr} {sl_Page__getitem_ : Array (Option Value)} {oc_Page__getitem_ kV_Page__getitem_ dc_Page__getitem_ pm_Page__getitem_ cd_Page__getitem_ ct_Page__getitem_ : Value}
    (l_Page__getitem_ : K.lookup f_Page__getitem_ = some ⟨oc_Page__getitem_, od_Page__getitem_, .func (PySem.W.fnOf "__getitem__" "Page.__getitem__" (defArgs s_Page__getitem_) (defBody s_Page__getitem_) (defScope s_Page__getitem_) .none kV_Page__getitem_ dc_Page__getitem_ pm_Page__getitem_ an_Page__getitem_ cd_Page__getitem_ ct_Page__getitem_), sl_Page__getitem_⟩)
    (k_Page__getitem_ : PySem.W.codeIn K cd_Page__getitem_ "Page.__getitem__" = true)
    (p_Page__getitem_ : PySem.W.keepIn K (.ref f_Page__getitem_) = true)
    {f_Table__getitem_ : Addr} {od_Table__getitem_ an_Table__getitem_ : Option Addr} {sl_Table__getitem_ : Array (Option Value)} {oc_Table__getitem_ kV_Table__getitem_ dc_Table__getitem_ pm_Table__getitem_ cd_Table__getitem_ ct_Table__getitem_ : Value}
    (l_Table__getitem_ : K.lookup f_Table__getitem_ = some ⟨oc_Table__getitem_, od_Table__getitem_, .func (PySem.W.fnOf "__getitem__" "Table.__getitem__" (defArgs s_Table__getitem_) (defBody s_Table__getitem_) (defScope s_Table__getitem_) .none kV_Table__getitem_ dc_Table__getitem_ pm_Table__getitem_ an_Table__getitem_ cd_Table__getitem_ ct_Table__getitem_), sl_Table__getitem_⟩)
    (k_Table__getitem_ : PySem.W.codeIn K cd_Table__getitem_ "Table.__getitem__" = true)
    (p_Table__getitem_ : PySem.W.keepIn K (.ref f_Table__getitem_) = true)
    {f_Table_total : Addr} {od_Table_total an_Table_total : Option Addr} {sl_Table_total : Array (Option Value)} {oc_Table_total kV_Table_total dc_Table_total pm_Table_total cd_Table_total ct_Table_total : Value}
    (l_Table_total : K.lookup f_Table_total = some ⟨oc_Table_total, od_Table_total, .func (PySem.W.fnOf "total" "Table.total" (defArgs s_Table_total) (defBody s_Table_total) (defScope s_Table_total) .none kV_Table_total dc_Table_total pm_Table_total an_Table_total cd_Table_total ct_Table_total), sl_Table_total⟩)
    (k_Table_total : PySem.W.codeIn K cd_Table_total "Table.total" = true)
    (p_Table_total : PySem.W.keepIn K (.ref f_Table_total) = true)
    {f_rounded : Addr} {od_rounded an_rounded : Option Addr} {sl_rounded : Array (Option Value)} {oc_rounded kV_rounded dc_rounded pm_rounded cd_rounded ct_rounded : Value}
    (a_rounded : PySem.W.nsIn K mainGlobals "rounded" = some (some (.ref f_rounded)))
    (l_rounded : K.lookup f_rounded = some ⟨oc_rounded, od_rounded, .func (PySem.W.fnOf "rounded" "rounded" (defArgs s_rounded) (defBody s_rounded) (defScope s_rounded) .none kV_rounded dc_rounded pm_rounded an_rounded cd_rounded ct_rounded), sl_rounded⟩)
    (k_rounded : PySem.W.codeIn K cd_rounded "rounded" = true)
    (p_rounded : PySem.W.keepIn K (.ref f_rounded) = true)
    {f_shown : Addr} {od_shown an_shown : Option Addr} {sl_shown : Array (Option Value)} {oc_shown kV_shown dc_shown pm_shown cd_shown ct_shown : Value}
    (a_shown : PySem.W.nsIn K mainGlobals "shown" = some (some (.ref f_shown)))
    (l_shown : K.lookup f_shown = some ⟨oc_shown, od_shown, .func (PySem.W.fnOf "shown" "shown" (defArgs s_shown) (defBody s_shown) (defScope s_shown) .none kV_shown dc_shown pm_shown an_shown cd_shown ct_shown), sl_shown⟩)
    (k_shown : PySem.W.codeIn K cd_shown "shown" = true)
    (p_shown : PySem.W.keepIn K (.ref f_shown) = true)
    {f_is_right : Addr} {od_is_right an_is_right : Option Addr} {sl_is_right : Array (Option Value)} {oc_is_right kV_is_right dc_is_right pm_is_right cd_is_right ct_is_right : Value}
    (a_is_right : PySem.W.nsIn K mainGlobals "is_right" = some (some (.ref f_is_right)))
    (l_is_right : K.lookup f_is_right = some ⟨oc_is_right, od_is_right, .func (PySem.W.fnOf "is_right" "is_right" (defArgs s_is_right) (defBody s_is_right) (defScope s_is_right) .none kV_is_right dc_is_right pm_is_right an_is_right cd_is_right ct_is_right), sl_is_right⟩)
    (k_is_right : PySem.W.codeIn K cd_is_right "is_right" = true)
    (p_is_right : PySem.W.keepIn K (.ref f_is_right) = true)
    {f_Table_is_told_rightly : Addr} {od_Table_is_told_rightly an_Table_is_told_rightly : Option Addr} {sl_Table_is_told_rightly : Array (Option Value)} {oc_Table_is_told_rightly kV_Table_is_told_rightly dc_Table_is_told_rightly pm_Table_is_told_rightly cd_Table_is_told_rightly ct_Table_is_told_rightly : Value}
    (l_Table_is_told_rightly : K.lookup f_Table_is_told_rightly = some ⟨oc_Table_is_told_rightly, od_Table_is_told_rightly, .func (PySem.W.fnOf "_is_told_rightly" "Table._is_told_rightly" (defArgs s_Table_is_told_rightly) (defBody s_Table_is_told_rightly) (defScope s_Table_is_told_rightly) .none kV_Table_is_told_rightly dc_Table_is_told_rightly pm_Table_is_told_rightly an_Table_is_told_rightly cd_Table_is_told_rightly ct_Table_is_told_rightly), sl_Table_is_told_rightly⟩)
    (k_Table_is_told_rightly : PySem.W.codeIn K cd_Table_is_told_rightly "Table._is_told_rightly" = true)
    (p_Table_is_told_rightly : PySem.W.keepIn K (.ref f_Table_is_told_rightly) = true)
    {f_Table_fits : Addr} {od_Table_fits an_Table_fits : Option Addr} {sl_Table_fits : Array (Option Value)} {oc_Table_fits kV_Table_fits dc_Table_fits pm_Table_fits cd_Table_fits ct_Table_fits : Value}
    (l_Table_fits : K.lookup f_Table_fits = some ⟨oc_Table_fits, od_Table_fits, .func (PySem.W.fnOf "fits" "Table.fits" (defArgs s_Table_fits) (defBody s_Table_fits) (defScope s_Table_fits) .none kV_Table_fits dc_Table_fits pm_Table_fits an_Table_fits cd_Table_fits ct_Table_fits), sl_Table_fits⟩)
    (k_Table_fits : PySem.W.codeIn K cd_Table_fits "Table.fits" = true)
    (p_Table_fits : PySem.W.keepIn K (.ref f_Table_fits) = true)
    {f_law_of : Addr} {od_law_of an_law_of : Option Addr} {sl_law_of : Array (Option Value)} {oc_law_of kV_law_of dc_law_of pm_law_of cd_law_of ct_law_of : Value}
    (a_law_of : PySem.W.nsIn K mainGlobals "_law_of" = some (some (.ref f_law_of)))
    (l_law_of : K.lookup f_law_of = some ⟨oc_law_of, od_law_of, .func (PySem.W.fnOf "_law_of" "_law_of" (defArgs s_law_of) (defBody s_law_of) (defScope s_law_of) .none kV_law_of dc_law_of pm_law_of an_law_of cd_law_of ct_law_of), sl_law_of⟩)
    (k_law_of : PySem.W.codeIn K cd_law_of "_law_of" = true)
    (p_law_of : PySem.W.keepIn K (.ref f_law_of) = true)
    {f_law_fits_due : Addr} {od_law_fits_due an_law_fits_due : Option Addr} {sl_law_fits_due : Array (Option Value)} {oc_law_fits_due kV_law_fits_due dc_law_fits_due pm_law_fits_due cd_law_fits_due ct_law_fits_due : Value}
    (a_law_fits_due : PySem.W.nsIn K mainGlobals "_law_fits_due" = some (some (.ref f_law_fits_due)))
    (l_law_fits_due : K.lookup f_law_fits_due = some ⟨oc_law_fits_due, od_law_fits_due, .func (PySem.W.fnOf "_law_fits_due" "_law_fits_due" (defArgs s_law_fits_due) (defBody s_law_fits_due) (defScope s_law_fits_due) .none kV_law_fits_due dc_law_fits_due pm_law_fits_due an_law_fits_due cd_law_fits_due ct_law_fits_due), sl_law_fits_due⟩)
    (k_law_fits_due : PySem.W.codeIn K cd_law_fits_due "_law_fits_due" = true)
    (p_law_fits_due : PySem.W.keepIn K (.ref f_law_fits_due) = true)
    {f_law_share_right : Addr} {od_law_share_right an_law_share_right : Option Addr} {sl_law_share_right : Array (Option Value)} {oc_law_share_right kV_law_share_right dc_law_share_right pm_law_share_right cd_law_share_right ct_law_share_right : Value}
    (a_law_share_right : PySem.W.nsIn K mainGlobals "_law_share_right" = some (some (.ref f_law_share_right)))
    (l_law_share_right : K.lookup f_law_share_right = some ⟨oc_law_share_right, od_law_share_right, .func (PySem.W.fnOf "_law_share_right" "_law_share_right" (defArgs s_law_share_right) (defBody s_law_share_right) (defScope s_law_share_right) .none kV_law_share_right dc_law_share_right pm_law_share_right an_law_share_right cd_law_share_right ct_law_share_right), sl_law_share_right⟩)
    (k_law_share_right : PySem.W.codeIn K cd_law_share_right "_law_share_right" = true)
    (p_law_share_right : PySem.W.keepIn K (.ref f_law_share_right) = true)
    {f_law_right : Addr} {od_law_right an_law_right : Option Addr} {sl_law_right : Array (Option Value)} {oc_law_right kV_law_right dc_law_right pm_law_right cd_law_right ct_law_right : Value}
    (a_law_right : PySem.W.nsIn K mainGlobals "_law_right" = some (some (.ref f_law_right)))
    (l_law_right : K.lookup f_law_right = some ⟨oc_law_right, od_law_right, .func (PySem.W.fnOf "_law_right" "_law_right" (defArgs s_law_right) (defBody s_law_right) (defScope s_law_right) .none kV_law_right dc_law_right pm_law_right an_law_right cd_law_right ct_law_right), sl_law_right⟩)
    (k_law_right : PySem.W.codeIn K cd_law_right "_law_right" = true)
    (p_law_right : PySem.W.keepIn K (.ref f_law_right) = true)
    {f_law_pot : Addr} {od_law_pot an_law_pot : Option Addr} {sl_law_pot : Array (Option Value)} {oc_law_pot kV_law_pot dc_law_pot pm_law_pot cd_law_pot ct_law_pot : Value}
    (a_law_pot : PySem.W.nsIn K mainGlobals "_law_pot" = some (some (.ref f_law_pot)))
    (l_law_pot : K.lookup f_law_pot = some ⟨oc_law_pot, od_law_pot, .func (PySem.W.fnOf "_law_pot" "_law_pot" (defArgs s_law_pot) (defBody s_law_pot) (defScope s_law_pot) .none kV_law_pot dc_law_pot pm_law_pot an_law_pot cd_law_pot ct_law_pot), sl_law_pot⟩)
    (k_law_pot : PySem.W.codeIn K cd_law_pot "_law_pot" = true)
    (p_law_pot : PySem.W.keepIn K (.ref f_law_pot) = true)
    {f_law : Addr} {od_law an_law : Option Addr} {sl_law : Array (Option Value)} {oc_law kV_law dc_law pm_law cd_law ct_law : Value}
    (a_law : PySem.W.nsIn K mainGlobals "law" = some (some (.ref f_law)))
    (l_law : K.lookup f_law = some ⟨oc_law, od_law, .func (PySem.W.fnOf "law" "law" (defArgs s_law) (defBody s_law) (defScope s_law) .none kV_law dc_law pm_law an_law cd_law ct_law), sl_law⟩)
    (k_law : PySem.W.codeIn K cd_law "law" = true)
    (p_law : PySem.W.keepIn K (.ref f_law) = true)
    (z_range : PySem.W.nsIn K mainGlobals "range" = some none)
    (z_max : PySem.W.nsIn K mainGlobals "max" = some none)
    (z_min : PySem.W.nsIn K mainGlobals "min" = some none)
    (z_len : PySem.W.nsIn K mainGlobals "len" = some none)
    (z_list : PySem.W.nsIn K mainGlobals "list" = some none)
    (z_int : PySem.W.nsIn K mainGlobals "int" = some none)
    (z_str : PySem.W.nsIn K mainGlobals "str" = some none)
    (z_isinstance : PySem.W.nsIn K mainGlobals "isinstance" = some none)
    (z_bool : PySem.W.nsIn K mainGlobals "bool" = some none)
    (z_tuple : PySem.W.nsIn K mainGlobals "tuple" = some none)
    (z_dict : PySem.W.nsIn K mainGlobals "dict" = some none)
    (z_zip : PySem.W.nsIn K mainGlobals "zip" = some none)
    (z_enumerate : PySem.W.nsIn K mainGlobals "enumerate" = some none)
    (z_all : PySem.W.nsIn K mainGlobals "all" = some none)
    (z_sum : PySem.W.nsIn K mainGlobals "sum" = some none)
    (z_divmod : PySem.W.nsIn K mainGlobals "divmod" = some none)
    (z_repr : PySem.W.nsIn K mainGlobals "repr" = some none)
    (z_abs : PySem.W.nsIn K mainGlobals "abs" = some none)
    {C : Addr}
    (a_C : PySem.W.nsIn K mainGlobals "Page" = some (some (.ref C)))
    (c_pg : PySem.W.plainGet K C Str.empty = true)
    (c_hd : PySem.W.hasDictIn K C = true)
    (c_po : PySem.W.plainOver K C = true)
    (c_sa : PySem.W.findIn K (.ref C) "__setattr__" = some (some (.builtin "object.__setattr__")))
    (n_text : PySem.W.findIn K (.ref C) "_text" = some none)
    (n_units : PySem.W.findIn K (.ref C) "_units" = some none)
    (n_lines : PySem.W.findIn K (.ref C) "_lines" = some none)
    (n_ends : PySem.W.findIn K (.ref C) "_ends" = some none)
    (at_Page__init_ : PySem.W.findIn K (.ref C) "__init__" = some (some (.ref f_Page__init_)))
    (fn_Page__init_ : PySem.W.isFn K (.ref f_Page__init_) = true)
    {pp_Page_parts : Addr} {rest_Page_parts : List Value}
    (at_Page_parts : PySem.W.findIn K (.ref C) "parts" = some (some (.ref pp_Page_parts)))
    (ge_Page_parts : PySem.W.specialIn K (.ref pp_Page_parts) "__get__" = some (some (.builtin "property.__get__")))
    (ta_Page_parts : PySem.W.takesIn K (.ref pp_Page_parts) = some true)
    (re_Page_parts : PySem.W.recIn K pp_Page_parts "property" = some (.ref f_Page_parts :: rest_Page_parts))
    {pp_Page_ends : Addr} {rest_Page_ends : List Value}
    (at_Page_ends : PySem.W.findIn K (.ref C) "ends" = some (some (.ref pp_Page_ends)))
    (ge_Page_ends : PySem.W.specialIn K (.ref pp_Page_ends) "__get__" = some (some (.builtin "property.__get__")))
    (ta_Page_ends : PySem.W.takesIn K (.ref pp_Page_ends) = some true)
    (re_Page_ends : PySem.W.recIn K pp_Page_ends "property" = some (.ref f_Page_ends :: rest_Page_ends))
    (at_Page__contains_ : PySem.W.findIn K (.ref C) "__contains__" = some (some (.ref f_Page__contains_)))
    (fn_Page__contains_ : PySem.W.isFn K (.ref f_Page__contains_) = true)
    (at_Page_ends_of : PySem.W.findIn K (.ref C) "ends_of" = some (some (.ref f_Page_ends_of)))
    (fn_Page_ends_of : PySem.W.isFn K (.ref f_Page_ends_of) = true)
    {pp_Page_units : Addr} {rest_Page_units : List Value}
    (at_Page_units : PySem.W.findIn K (.ref C) "units" = some (some (.ref pp_Page_units)))
    (ge_Page_units : PySem.W.specialIn K (.ref pp_Page_units) "__get__" = some (some (.builtin "property.__get__")))
    (ta_Page_units : PySem.W.takesIn K (.ref pp_Page_units) = some true)
    (re_Page_units : PySem.W.recIn K pp_Page_units "property" = some (.ref f_Page_units :: rest_Page_units))
    (at_Page__getitem_ : PySem.W.findIn K (.ref C) "__getitem__" = some (some (.ref f_Page__getitem_)))
    (fn_Page__getitem_ : PySem.W.isFn K (.ref f_Page__getitem_) = true)
    (fi_Page__getitem_ : PySem.W.fnIn K f_Page__getitem_ = true)
    (mk_C : PySem.W.makesIn K C = true)
    (kp_C : PySem.W.keepIn K (.ref C) = true)
    {Ct : Addr}
    (a_Ct : PySem.W.nsIn K mainGlobals "Table" = some (some (.ref Ct)))
    (tc_pg : PySem.W.plainGet K Ct Str.empty = true)
    (tc_hd : PySem.W.hasDictIn K Ct = true)
    (tc_po : PySem.W.plainOver K Ct = true)
    (tc_sa : PySem.W.findIn K (.ref Ct) "__setattr__" = some (some (.builtin "object.__setattr__")))
    (tn_page : PySem.W.findIn K (.ref Ct) "_page" = some none)
    (tn_counts : PySem.W.findIn K (.ref Ct) "_counts" = some none)
    (tn_many : PySem.W.findIn K (.ref Ct) "_many" = some none)
    (at_Table__init_ : PySem.W.findIn K (.ref Ct) "__init__" = some (some (.ref f_Table__init_)))
    (fn_Table__init_ : PySem.W.isFn K (.ref f_Table__init_) = true)
    (at_Table__getitem_ : PySem.W.findIn K (.ref Ct) "__getitem__" = some (some (.ref f_Table__getitem_)))
    (fn_Table__getitem_ : PySem.W.isFn K (.ref f_Table__getitem_) = true)
    (fi_Table__getitem_ : PySem.W.fnIn K f_Table__getitem_ = true)
    {pp_Table_total : Addr} {rest_Table_total : List Value}
    (at_Table_total : PySem.W.findIn K (.ref Ct) "total" = some (some (.ref pp_Table_total)))
    (ge_Table_total : PySem.W.specialIn K (.ref pp_Table_total) "__get__" = some (some (.builtin "property.__get__")))
    (ta_Table_total : PySem.W.takesIn K (.ref pp_Table_total) = some true)
    (re_Table_total : PySem.W.recIn K pp_Table_total "property" = some (.ref f_Table_total :: rest_Table_total))
    (at_Table_is_told_rightly : PySem.W.findIn K (.ref Ct) "_is_told_rightly" = some (some (.ref f_Table_is_told_rightly)))
    (fn_Table_is_told_rightly : PySem.W.isFn K (.ref f_Table_is_told_rightly) = true)
    {pp_Table_fits : Addr} {rest_Table_fits : List Value}
    (at_Table_fits : PySem.W.findIn K (.ref Ct) "fits" = some (some (.ref pp_Table_fits)))
    (ge_Table_fits : PySem.W.specialIn K (.ref pp_Table_fits) "__get__" = some (some (.builtin "property.__get__")))
    (ta_Table_fits : PySem.W.takesIn K (.ref pp_Table_fits) = some true)
    (re_Table_fits : PySem.W.recIn K pp_Table_fits "property" = some (.ref f_Table_fits :: rest_Table_fits))
    (mk_Ct : PySem.W.makesIn K Ct = true)
    (kp_Ct : PySem.W.keepIn K (.ref Ct) = true)
    {e_HOWS : Addr} {ed_HOWS : Option Addr} {ei_HOWS : Array Value} {en_HOWS : Nat} {es_HOWS : Array (Option Value)}
    (a_HOWS : PySem.W.nsIn K mainGlobals "HOWS" = some (some (.ref e_HOWS)))
    (l_HOWS : K.lookup e_HOWS = some ⟨.type "tuple", ed_HOWS, .seq ei_HOWS en_HOWS, es_HOWS⟩)
    (v_HOWS : ei_HOWS.size ≤ sizeLine ∧ Vals hows ei_HOWS.toList)
    {e_WORDS : Addr} {ed_WORDS : Option Addr} {ei_WORDS : Array Value} {en_WORDS : Nat} {es_WORDS : Array (Option Value)}
    (a_WORDS : PySem.W.nsIn K mainGlobals "WORDS" = some (some (.ref e_WORDS)))
    (l_WORDS : K.lookup e_WORDS = some ⟨.type "tuple", ed_WORDS, .seq ei_WORDS en_WORDS, es_WORDS⟩)
    (v_WORDS : ei_WORDS.size ≤ sizeLine ∧ Vals wordsV ei_WORDS.toList)
    {t9 : Tok}
    (a_MOST_PARTS : PySem.W.nsIn K mainGlobals "MOST_PARTS" = some (some (.int 9 t9)))
    {t6 : Tok}
    (a_MOST_ENDS : PySem.W.nsIn K mainGlobals "MOST_ENDS" = some (some (.int 6 t6)))
    {t3 : Tok}
    (a_MOST_STEPS : PySem.W.nsIn K mainGlobals "MOST_STEPS" = some (some (.int 3 t3)))
    {e_MARKS mk0 mk1 mk2 mk3 : Addr} {mkd mkd0 mkd1 mkd2 mkd3 : Option Addr} {mkn mkn0 mkn1 mkn2 mkn3 : Nat} {mks mks0 mks1 mks2 mks3 : Array (Option Value)} {mkt1 mkt2 mkt3 mkt4 : Tok}
    (a_MARKS : PySem.W.nsIn K mainGlobals "MARKS" = some (some (.ref e_MARKS)))
    (l_MARKS : K.lookup e_MARKS = some ⟨.type "tuple", mkd, .seq #[.ref mk0, .ref mk1, .ref mk2, .ref mk3] mkn, mks⟩)
    (l_MARK0 : K.lookup mk0 = some ⟨.type "tuple", mkd0, .seq #[] mkn0, mks0⟩)
    (l_MARK1 : K.lookup mk1 = some ⟨.type "tuple", mkd1, .seq #[.str "is" mkt1] mkn1, mks1⟩)
    (l_MARK2 : K.lookup mk2 = some ⟨.type "tuple", mkd2, .seq #[.str "all" mkt2] mkn2, mks2⟩)
    (l_MARK3 : K.lookup mk3 = some ⟨.type "tuple", mkd3, .seq #[.str "is" mkt3, .str "all" mkt4] mkn3, mks3⟩)
    : ∃ fd : FuncData, (∀ (s : Shared) (v : Value), BindsTo s fd ⟨[v], []⟩ [("_law_script", v)]) ∧ ∀ base : Heap, K.In base → base.Ns mainGlobals mg → FnG l.prog w K mg base 10 fa fd ["_law_script"] (sp_law K) := by
  have e := hfa.symm.trans (PySem.W.mg_of X G a_law)
  cases e
  refine ⟨PySem.W.fnOf "law" "law" (defArgs s_law) (defBody s_law) (defScope s_law) .none kV_law dc_law pm_law an_law cd_law ct_law, fun s v => .of_eq rfl, fun base _ _ => ?_⟩
  have m_range : mg "range" = none := PySem.W.mg_none_of X G z_range
  have m_max : mg "max" = none := PySem.W.mg_none_of X G z_max
  have m_min : mg "min" = none := PySem.W.mg_none_of X G z_min
  have m_len : mg "len" = none := PySem.W.mg_none_of X G z_len
  have m_list : mg "list" = none := PySem.W.mg_none_of X G z_list
  have m_int : mg "int" = none := PySem.W.mg_none_of X G z_int
  have m_str : mg "str" = none := PySem.W.mg_none_of X G z_str
  have m_isinstance : mg "isinstance" = none := PySem.W.mg_none_of X G z_isinstance
  have m_bool : mg "bool" = none := PySem.W.mg_none_of X G z_bool
  have m_tuple : mg "tuple" = none := PySem.W.mg_none_of X G z_tuple
  have m_dict : mg "dict" = none := PySem.W.mg_none_of X G z_dict
  have m_zip : mg "zip" = none := PySem.W.mg_none_of X G z_zip
  have m_enumerate : mg "enumerate" = none := PySem.W.mg_none_of X G z_enumerate
  have m_all : mg "all" = none := PySem.W.mg_none_of X G z_all
  have m_sum : mg "sum" = none := PySem.W.mg_none_of X G z_sum
  have m_divmod : mg "divmod" = none := PySem.W.mg_none_of X G z_divmod
  have m_repr : mg "repr" = none := PySem.W.mg_none_of X G z_repr
  have m_abs : mg "abs" = none := PySem.W.mg_none_of X G z_abs
  have g_HOWS : mg "HOWS" = some (.ref e_HOWS) := PySem.W.mg_of X G a_HOWS
  have t_HOWS : TupK K e_HOWS hows := ⟨_, _, _, l_HOWS, rfl, rfl, v_HOWS.1, v_HOWS.2⟩
  have g_WORDS : mg "WORDS" = some (.ref e_WORDS) := PySem.W.mg_of X G a_WORDS
  have t_WORDS : TupK K e_WORDS wordsV := ⟨_, _, _, l_WORDS, rfl, rfl, v_WORDS.1, v_WORDS.2⟩
  have g_MOST_PARTS : mg "MOST_PARTS" = some (.int 9 t9) := PySem.W.mg_of X G a_MOST_PARTS
  have g_MOST_ENDS : mg "MOST_ENDS" = some (.int 6 t6) := PySem.W.mg_of X G a_MOST_ENDS
  have g_MOST_STEPS : mg "MOST_STEPS" = some (.int 3 t3) := PySem.W.mg_of X G a_MOST_STEPS
  have g_MARKS : mg "MARKS" = some (.ref e_MARKS) := PySem.W.mg_of X G a_MARKS
  have t_MARKS : ∀ H, Dp K H (.ref e_MARKS) (.tuple marksD) := marks_at l_MARKS l_MARK0 l_MARK1 l_MARK2 l_MARK3
  have c : PgC K C := ⟨⟨c_pg, c_hd, c_po, c_sa⟩, n_text, n_units, n_lines, n_ends⟩
  have gC : mg "Page" = some (.ref C) := PySem.W.mg_of X G a_C
  have ct : TbC K Ct := ⟨⟨tc_pg, tc_hd, tc_po, tc_sa⟩, tn_page, tn_counts, tn_many⟩
  have gCt : mg "Table" = some (.ref Ct) := PySem.W.mg_of X G a_Ct
  have F_law_cells := fun_mk (st := s_law_cells) l_law_cells k_law_cells p_law_cells
  let c_law_cells : Cal l.prog w K mg base 1 "_law_cells" ["_law_script", "_law_most"] (sp_law_cells K) := ⟨f_law_cells, _, ok_law_cells (F := F_law_cells) (m_range := m_range) (m_max := m_max) (m_min := m_min) (m_len := m_len) (m_list := m_list), p_law_cells, F_law_cells.binds (ps := ["_law_script", "_law_most"]) (fun _ _ _ _ _ _ us hl => match us, hl with | [_, _], _ => rfl), PySem.W.mg_of X G a_law_cells⟩
  have F_law_take := fun_mk (st := s_law_take) l_law_take k_law_take p_law_take
  let c_law_take : Cal l.prog w K mg base 1 "_law_take" ["_law_pot_here", "_law_upto"] (sp_law_take K) := ⟨f_law_take, _, ok_law_take (F := F_law_take) (m_int := m_int), p_law_take, F_law_take.binds (ps := ["_law_pot_here", "_law_upto"]) (fun _ _ _ _ _ _ us hl => match us, hl with | [_, _], _ => rfl), PySem.W.mg_of X G a_law_take⟩
  have F_law_some := fun_mk (st := s_law_some) l_law_some k_law_some p_law_some
  let c_law_some : Cal l.prog w K mg base 2 "_law_some" ["_law_pot_here", "_law_pool", "_law_many"] (sp_law_some K) := ⟨f_law_some, _, ok_law_some (F := F_law_some) (m_list := m_list) (m_range := m_range) (m_len := m_len) (c_law_take := c_law_take), p_law_some, F_law_some.binds (ps := ["_law_pot_here", "_law_pool", "_law_many"]) (fun _ _ _ _ _ _ us hl => match us, hl with | [_, _, _], _ => rfl), PySem.W.mg_of X G a_law_some⟩
  have F_law_names := fun_mk (st := s_law_names) l_law_names k_law_names p_law_names
  let c_law_names : Cal l.prog w K mg base 3 "_law_names" ["_law_pot_here", "_law_many"] (sp_law_names K) := ⟨f_law_names, _, ok_law_names (F := F_law_names) (c_law_some := c_law_some), p_law_names, F_law_names.binds (ps := ["_law_pot_here", "_law_many"]) (fun _ _ _ _ _ _ us hl => match us, hl with | [_, _], _ => rfl), PySem.W.mg_of X G a_law_names⟩
  have F_read_number := fun_mk (st := s_read_number) l_read_number k_read_number p_read_number
  let c_read_number : Cal l.prog w K mg base 1 "read_number" ["word", "most"] (sp_read_number K) := ⟨f_read_number, _, ok_read_number (F := F_read_number) (m_len := m_len) (m_str := m_str) (m_int := m_int), p_read_number, F_read_number.binds (ps := ["word", "most"]) (fun _ _ _ _ _ _ us hl => match us, hl with | [_, _], _ => rfl), PySem.W.mg_of X G a_read_number⟩
  have F_is_integer := fun_mk (st := s_is_integer) l_is_integer k_is_integer p_is_integer
  let c_is_integer : Cal l.prog w K mg base 1 "is_integer" ["value"] (sp_is_integer K) := ⟨f_is_integer, _, ok_is_integer (F := F_is_integer) (m_isinstance := m_isinstance) (m_int := m_int) (m_bool := m_bool), p_is_integer, F_is_integer.binds (ps := ["value"]) (fun _ _ _ _ _ _ us hl => match us, hl with | [_], _ => rfl), PySem.W.mg_of X G a_is_integer⟩
  have F_is_units := fun_mk (st := s_is_units) l_is_units k_is_units p_is_units
  let c_is_units : Cal l.prog w K mg base 2 "is_units" ["value"] (sp_is_units K) := ⟨f_is_units, _, ok_is_units (F := F_is_units) (m_isinstance := m_isinstance) (m_tuple := m_tuple) (m_len := m_len) (m_str := m_str) (g_HOWS := g_HOWS) (t_HOWS := t_HOWS) (c_is_integer := c_is_integer), p_is_units, F_is_units.binds (ps := ["value"]) (fun _ _ _ _ _ _ us hl => match us, hl with | [_], _ => rfl), PySem.W.mg_of X G a_is_units⟩
  have F_read_units := fun_mk (st := s_read_units) l_read_units k_read_units p_read_units
  let c_read_units : Cal l.prog w K mg base 3 "read_units" ["words"] (sp_read_units K) := ⟨f_read_units, _, ok_read_units (F := F_read_units) (m_len := m_len) (c_read_number := c_read_number) (c_is_units := c_is_units), p_read_units, F_read_units.binds (ps := ["words"]) (fun _ _ _ _ _ _ us hl => match us, hl with | [_], _ => rfl), PySem.W.mg_of X G a_read_units⟩
  have F_is_name := fun_mk (st := s_is_name) l_is_name k_is_name p_is_name
  let c_is_name : Cal l.prog w K mg base 1 "is_name" ["value"] (sp_is_name K) := ⟨f_is_name, _, ok_is_name (F := F_is_name) (m_isinstance := m_isinstance) (m_str := m_str) (m_len := m_len), p_is_name, F_is_name.binds (ps := ["value"]) (fun _ _ _ _ _ _ us hl => match us, hl with | [_], _ => rfl), PySem.W.mg_of X G a_is_name⟩
  have F_is_asked := fun_mk (st := s_is_asked) l_is_asked k_is_asked p_is_asked
  let c_is_asked : Cal l.prog w K mg base 2 "is_asked" ["words"] (sp_is_asked K) := ⟨f_is_asked, _, ok_is_asked (F := F_is_asked) (m_len := m_len) (c_is_name := c_is_name), p_is_asked, F_is_asked.binds (ps := ["words"]) (fun _ _ _ _ _ _ us hl => match us, hl with | [_], _ => rfl), PySem.W.mg_of X G a_is_asked⟩
  have F_read_share := fun_mk (st := s_read_share) l_read_share k_read_share p_read_share
  let c_read_share : Cal l.prog w K mg base 2 "read_share" ["units", "word"] (sp_read_share K) := ⟨f_read_share, _, ok_read_share (F := F_read_share) (g_WORDS := g_WORDS) (t_WORDS := t_WORDS) (c_read_number := c_read_number), p_read_share, F_read_share.binds (ps := ["units", "word"]) (fun _ _ _ _ _ _ us hl => match us, hl with | [_, _], _ => rfl), PySem.W.mg_of X G a_read_share⟩
  have F_read_part := fun_mk (st := s_read_part) l_read_part k_read_part p_read_part
  let c_read_part : Cal l.prog w K mg base 3 "read_part" ["units", "lines", "words"] (sp_read_part K) := ⟨f_read_part, _, ok_read_part (F := F_read_part) (m_dict := m_dict) (m_zip := m_zip) (g_MARKS := g_MARKS) (t_MARKS := t_MARKS) (m_len := m_len) (m_tuple := m_tuple) (c_is_name := c_is_name) (c_read_share := c_read_share), p_read_part, F_read_part.binds (ps := ["units", "lines", "words"]) (fun _ _ _ _ _ _ us hl => match us, hl with | [_, _, _], _ => rfl), PySem.W.mg_of X G a_read_part⟩
  have F_ends_among := fun_mk (st := s_ends_among) l_ends_among k_ends_among p_ends_among
  let c_ends_among : Cal l.prog w K mg base 1 "ends_among" ["lines"] (sp_ends_among K) := ⟨f_ends_among, _, ok_ends_among (F := F_ends_among) (m_tuple := m_tuple), p_ends_among, F_ends_among.binds (ps := ["lines"]) (fun _ _ _ _ _ _ us hl => match us, hl with | [_], _ => rfl), PySem.W.mg_of X G a_ends_among⟩
  have F_way_up := fun_mk (st := s_way_up) l_way_up k_way_up p_way_up
  let c_way_up : Cal l.prog w K mg base 1 "way_up" ["lines", "part"] (sp_way_up K) := ⟨f_way_up, _, ok_way_up (F := F_way_up) , p_way_up, F_way_up.binds (ps := ["lines", "part"]) (fun _ _ _ _ _ _ us hl => match us, hl with | [_, _], _ => rfl), PySem.W.mg_of X G a_way_up⟩
  have F_is_too_much := fun_mk (st := s_is_too_much) l_is_too_much k_is_too_much p_is_too_much
  let c_is_too_much : Cal l.prog w K mg base 2 "is_too_much" ["lines", "part"] (sp_is_too_much K) := ⟨f_is_too_much, _, ok_is_too_much (F := F_is_too_much) (g_MOST_PARTS := g_MOST_PARTS) (g_MOST_ENDS := g_MOST_ENDS) (g_MOST_STEPS := g_MOST_STEPS) (m_len := m_len) (c_ends_among := c_ends_among) (c_way_up := c_way_up), p_is_too_much, F_is_too_much.binds (ps := ["lines", "part"]) (fun _ _ _ _ _ _ us hl => match us, hl with | [_, _], _ => rfl), PySem.W.mg_of X G a_is_too_much⟩
  have F_read_parts := fun_mk (st := s_read_parts) l_read_parts k_read_parts p_read_parts
  let c_read_parts : Cal l.prog w K mg base 4 "read_parts" ["units", "first", "rows"] (sp_read_parts K) := ⟨f_read_parts, _, ok_read_parts (F := F_read_parts) (m_enumerate := m_enumerate) (c_read_part := c_read_part) (c_is_too_much := c_is_too_much), p_read_parts, F_read_parts.binds (ps := ["units", "first", "rows"]) (fun _ _ _ _ _ _ us hl => match us, hl with | [_, _, _], _ => rfl), PySem.W.mg_of X G a_read_parts⟩
  have F_read_page := fun_mk (st := s_read_page) l_read_page k_read_page p_read_page
  let c_read_page : Cal l.prog w K mg base 5 "read_page" ["text"] (sp_read_page K) := ⟨f_read_page, _, ok_read_page (F := F_read_page) (m_isinstance := m_isinstance) (m_str := m_str) (m_len := m_len) (c_read_units := c_read_units) (c_is_asked := c_is_asked) (c_read_parts := c_read_parts), p_read_page, F_read_page.binds (ps := ["text"]) (fun _ _ _ _ _ _ us hl => match us, hl with | [_], _ => rfl), PySem.W.mg_of X G a_read_page⟩
  have F_Page__init_ := fun_mk (st := s_Page__init_) l_Page__init_ k_Page__init_ p_Page__init_
  have FM_Page__init_ := ok_Page__init_ (P := l.prog) (w := w) (mg := mg) (base := base) (F := F_Page__init_) (c := c) (c_read_page := c_read_page) (c_ends_among := c_ends_among)
  have b_Page__init_ := F_Page__init_.binds (ps := ["self", "text"]) (fun _ _ _ _ _ _ us hl => match us, hl with | [_, _], _ => rfl)
  have M : Mk K C f_Page__init_ := ⟨mk_C, at_Page__init_, fn_Page__init_, kp_C⟩
  have FI := FM_Page__init_
  have bI := b_Page__init_
  have F_Page_parts := fun_mk (st := s_Page_parts) l_Page_parts k_Page_parts p_Page_parts
  have FM_Page_parts := ok_Page_parts (P := l.prog) (w := w) (mg := mg) (base := base) (F := F_Page_parts) (c := c) (m_tuple := m_tuple)
  have b_Page_parts := F_Page_parts.binds (ps := ["self"]) (fun _ _ _ _ _ _ us hl => match us, hl with | [_], _ => rfl)
  have rP : PropOf K C "parts" pp_Page_parts f_Page_parts := ⟨at_Page_parts, ge_Page_parts, ta_Page_parts, _, re_Page_parts⟩
  have FP := FM_Page_parts
  have bP := b_Page_parts
  have F_Page_ends := fun_mk (st := s_Page_ends) l_Page_ends k_Page_ends p_Page_ends
  have FM_Page_ends := ok_Page_ends (P := l.prog) (w := w) (mg := mg) (base := base) (F := F_Page_ends) (c := c)
  have b_Page_ends := F_Page_ends.binds (ps := ["self"]) (fun _ _ _ _ _ _ us hl => match us, hl with | [_], _ => rfl)
  have rE : PropOf K C "ends" pp_Page_ends f_Page_ends := ⟨at_Page_ends, ge_Page_ends, ta_Page_ends, _, re_Page_ends⟩
  have FEn := FM_Page_ends
  have bEn := b_Page_ends
  have F_is_counts := fun_mk (st := s_is_counts) l_is_counts k_is_counts p_is_counts
  let c_is_counts : Cal l.prog w K mg base 3 "is_counts" ["page", "value"] (sp_is_counts K C) := ⟨f_is_counts, _, ok_is_counts (F := F_is_counts) (c := c) (rE := rE) (FEn := FEn) (bEn := bEn) (m_isinstance := m_isinstance) (m_tuple := m_tuple) (m_len := m_len) (m_all := m_all) (m_sum := m_sum) (c_is_integer := c_is_integer), p_is_counts, F_is_counts.binds (ps := ["page", "value"]) (fun _ _ _ _ _ _ us hl => match us, hl with | [_, _], _ => rfl), PySem.W.mg_of X G a_is_counts⟩
  have F_Page__contains_ := fun_mk (st := s_Page__contains_) l_Page__contains_ k_Page__contains_ p_Page__contains_
  have FM_Page__contains_ := ok_Page__contains_ (P := l.prog) (w := w) (mg := mg) (base := base) (F := F_Page__contains_) (c := c) (m_isinstance := m_isinstance) (m_str := m_str)
  have b_Page__contains_ := F_Page__contains_.binds (ps := ["self", "x"]) (fun _ _ _ _ _ _ us hl => match us, hl with | [_, _], _ => rfl)
  have dC : Dun K C f_Page__contains_ "__contains__" := ⟨at_Page__contains_, fn_Page__contains_⟩
  have FC := FM_Page__contains_
  have bC := b_Page__contains_
  have F_Page_ends_of := fun_mk (st := s_Page_ends_of) l_Page_ends_of k_Page_ends_of p_Page_ends_of
  have FM_Page_ends_of := ok_Page_ends_of (P := l.prog) (w := w) (mg := mg) (base := base) (F := F_Page_ends_of) (c := c) (m_tuple := m_tuple) (c_way_up := c_way_up) (dC := dC) (FC := FC) (bC := bC)
  have b_Page_ends_of := F_Page_ends_of.binds (ps := ["self", "part"]) (fun _ _ _ _ _ _ us hl => match us, hl with | [_, _], _ => rfl)
  have mN : Meth K C "ends_of" f_Page_ends_of := ⟨at_Page_ends_of, fn_Page_ends_of, p_Page_ends_of⟩
  have FN := FM_Page_ends_of
  have bN := b_Page_ends_of
  have F_many_in := fun_mk (st := s_many_in) l_many_in k_many_in p_many_in
  let c_many_in : Cal l.prog w K mg base 4 "many_in" ["page", "counts", "part"] (sp_many_in K C) := ⟨f_many_in, _, ok_many_in (F := F_many_in) (c := c) (rE := rE) (FEn := FEn) (bEn := bEn) (mN := mN) (FN := FN) (bN := bN) (m_sum := m_sum) (m_zip := m_zip), p_many_in, F_many_in.binds (ps := ["page", "counts", "part"]) (fun _ _ _ _ _ _ us hl => match us, hl with | [_, _, _], _ => rfl), PySem.W.mg_of X G a_many_in⟩
  have F_Table__init_ := fun_mk (st := s_Table__init_) l_Table__init_ k_Table__init_ p_Table__init_
  have FM_Table__init_ := ok_Table__init_ (P := l.prog) (w := w) (mg := mg) (base := base) (F := F_Table__init_) (cP := c) (c := ct) (rP := rP) (FP := FP) (bP := bP) (c_is_counts := c_is_counts) (c_many_in := c_many_in) (C := C) (Ct := Ct)
  have b_Table__init_ := F_Table__init_.binds (ps := ["self", "page", "counts"]) (fun _ _ _ _ _ _ us hl => match us, hl with | [_, _, _], _ => rfl)
  have Mt : Mk K Ct f_Table__init_ := ⟨mk_Ct, at_Table__init_, fn_Table__init_, kp_Ct⟩
  have FIt := FM_Table__init_
  have bIt := b_Table__init_
  have F_Page_units := fun_mk (st := s_Page_units) l_Page_units k_Page_units p_Page_units
  have FM_Page_units := ok_Page_units (P := l.prog) (w := w) (mg := mg) (base := base) (F := F_Page_units) (c := c)
  have b_Page_units := F_Page_units.binds (ps := ["self"]) (fun _ _ _ _ _ _ us hl => match us, hl with | [_], _ => rfl)
  have rU : PropOf K C "units" pp_Page_units f_Page_units := ⟨at_Page_units, ge_Page_units, ta_Page_units, _, re_Page_units⟩
  have FU := FM_Page_units
  have bU := b_Page_units
  have F_Page__getitem_ := fun_mk (st := s_Page__getitem_) l_Page__getitem_ k_Page__getitem_ p_Page__getitem_
  have FM_Page__getitem_ := ok_Page__getitem_ (P := l.prog) (w := w) (mg := mg) (base := base) (F := F_Page__getitem_) (c := c) (dC := dC) (FC := FC) (bC := bC)
  have b_Page__getitem_ := F_Page__getitem_.binds (ps := ["self", "at"]) (fun _ _ _ _ _ _ us hl => match us, hl with | [_, _], _ => rfl)
  have dG : Dun K C f_Page__getitem_ "__getitem__" := ⟨at_Page__getitem_, fn_Page__getitem_⟩
  have hG := fi_Page__getitem_
  have FG := FM_Page__getitem_
  have bG := b_Page__getitem_
  have F_Table__getitem_ := fun_mk (st := s_Table__getitem_) l_Table__getitem_ k_Table__getitem_ p_Table__getitem_
  have FM_Table__getitem_ := ok_Table__getitem_ (P := l.prog) (w := w) (mg := mg) (base := base) (F := F_Table__getitem_) (c := ct) (dC := dC) (FC := FC) (bC := bC) (C := C) (Ct := Ct)
  have b_Table__getitem_ := F_Table__getitem_.binds (ps := ["self", "at"]) (fun _ _ _ _ _ _ us hl => match us, hl with | [_, _], _ => rfl)
  have dGt : Dun K Ct f_Table__getitem_ "__getitem__" := ⟨at_Table__getitem_, fn_Table__getitem_⟩
  have hGt := fi_Table__getitem_
  have FGt := FM_Table__getitem_
  have bGt := b_Table__getitem_
  have F_Table_total := fun_mk (st := s_Table_total) l_Table_total k_Table_total p_Table_total
  have FM_Table_total := ok_Table_total (P := l.prog) (w := w) (mg := mg) (base := base) (F := F_Table_total) (c := ct) (m_sum := m_sum) (C := C) (Ct := Ct)
  have b_Table_total := F_Table_total.binds (ps := ["self"]) (fun _ _ _ _ _ _ us hl => match us, hl with | [_], _ => rfl)
  have FO := FM_Table_total
  have bO := b_Table_total
  have rO : PropOf K Ct "total" pp_Table_total f_Table_total := ⟨at_Table_total, ge_Table_total, ta_Table_total, _, re_Table_total⟩
  have FO := FM_Table_total
  have bO := b_Table_total
  have F_rounded := fun_mk (st := s_rounded) l_rounded k_rounded p_rounded
  let c_rounded : Cal l.prog w K mg base 1 "rounded" ["how", "many", "whole"] (sp_rounded K) := ⟨f_rounded, _, ok_rounded (F := F_rounded) (m_divmod := m_divmod), p_rounded, F_rounded.binds (ps := ["how", "many", "whole"]) (fun _ _ _ _ _ _ us hl => match us, hl with | [_, _, _], _ => rfl), PySem.W.mg_of X G a_rounded⟩
  have F_shown := fun_mk (st := s_shown) l_shown k_shown p_shown
  let c_shown : Cal l.prog w K mg base 3 "shown" ["units", "many", "whole"] (sp_shown K) := ⟨f_shown, _, ok_shown (F := F_shown) (c_is_units := c_is_units) (c_is_integer := c_is_integer) (c_rounded := c_rounded), p_shown, F_shown.binds (ps := ["units", "many", "whole"]) (fun _ _ _ _ _ _ us hl => match us, hl with | [_, _, _], _ => rfl), PySem.W.mg_of X G a_shown⟩
  have F_is_right := fun_mk (st := s_is_right) l_is_right k_is_right p_is_right
  let c_is_right : Cal l.prog w K mg base 4 "is_right" ["units", "share", "many", "whole"] (sp_is_right K) := ⟨f_is_right, _, ok_is_right (F := F_is_right) (c_shown := c_shown), p_is_right, F_is_right.binds (ps := ["units", "share", "many", "whole"]) (fun _ _ _ _ _ _ us hl => match us, hl with | [_, _, _, _], _ => rfl), PySem.W.mg_of X G a_is_right⟩
  have F_Table_is_told_rightly := fun_mk (st := s_Table_is_told_rightly) l_Table_is_told_rightly k_Table_is_told_rightly p_Table_is_told_rightly
  have FM_Table_is_told_rightly := ok_Table_is_told_rightly (P := l.prog) (w := w) (mg := mg) (base := base) (F := F_Table_is_told_rightly) (cP := c) (c := ct) (rU := rU) (FU := FU) (bU := bU) (dG := dG) (hG := hG) (FG := FG) (bG := bG) (dT := dGt) (hT := hGt) (FT := FGt) (bT := bGt) (rO := rO) (FO := FO) (bO := bO) (c_is_right := c_is_right) (C := C) (Ct := Ct)
  have b_Table_is_told_rightly := F_Table_is_told_rightly.binds (ps := ["self", "part"]) (fun _ _ _ _ _ _ us hl => match us, hl with | [_, _], _ => rfl)
  have FR := FM_Table_is_told_rightly
  have bR := b_Table_is_told_rightly
  have mR : Meth K Ct "_is_told_rightly" f_Table_is_told_rightly := ⟨at_Table_is_told_rightly, fn_Table_is_told_rightly, p_Table_is_told_rightly⟩
  have FR := FM_Table_is_told_rightly
  have bR := b_Table_is_told_rightly
  have F_Table_fits := fun_mk (st := s_Table_fits) l_Table_fits k_Table_fits p_Table_fits
  have FM_Table_fits := ok_Table_fits (P := l.prog) (w := w) (mg := mg) (base := base) (F := F_Table_fits) (cP := c) (c := ct) (rP := rP) (FP := FP) (bP := bP) (mR := mR) (FR := FR) (bR := bR) (m_all := m_all) (C := C) (Ct := Ct)
  have b_Table_fits := F_Table_fits.binds (ps := ["self"]) (fun _ _ _ _ _ _ us hl => match us, hl with | [_], _ => rfl)
  have FF := FM_Table_fits
  have bF := b_Table_fits
  have rF : PropOf K Ct "fits" pp_Table_fits f_Table_fits := ⟨at_Table_fits, ge_Table_fits, ta_Table_fits, _, re_Table_fits⟩
  have FF := FM_Table_fits
  have bF := b_Table_fits
  have F_law_of := fun_mk (st := s_law_of) l_law_of k_law_of p_law_of
  let c_law_of : Cal l.prog w K mg base 2 "_law_of" ["_law_pot_here", "_law_some_here"] (sp_law_of K) := ⟨f_law_of, _, ok_law_of (F := F_law_of) (m_len := m_len) (c_law_take := c_law_take), p_law_of, F_law_of.binds (ps := ["_law_pot_here", "_law_some_here"]) (fun _ _ _ _ _ _ us hl => match us, hl with | [_, _], _ => rfl), PySem.W.mg_of X G a_law_of⟩
  have F_law_fits_due := fun_mk (st := s_law_fits_due) l_law_fits_due k_law_fits_due p_law_fits_due
  let c_law_fits_due : Cal l.prog w K mg base 1 "_law_fits_due" ["_law_how", "_law_share", "_law_parts", "_law_hops", "_law_side"] (sp_law_fits_due K) := ⟨f_law_fits_due, _, ok_law_fits_due (F := F_law_fits_due) (m_int := m_int), p_law_fits_due, F_law_fits_due.binds (ps := ["_law_how", "_law_share", "_law_parts", "_law_hops", "_law_side"]) (fun _ _ _ _ _ _ us hl => match us, hl with | [_, _, _, _, _], _ => rfl), PySem.W.mg_of X G a_law_fits_due⟩
  have F_law_share_right := fun_mk (st := s_law_share_right) l_law_share_right k_law_share_right p_law_share_right
  let c_law_share_right : CalG l.prog w K mg base 8 "_law_share_right" ["_law_pot_here", "_law_names_here", "_law_parts", "_law_how", "_law_share"] (sp_law_share_right K) := ⟨f_law_share_right, _, ok_law_share_right (F := F_law_share_right) (c := ct) (M := M) (FI := FI) (bI := bI) (gC := gC) (MT := Mt) (FT := FIt) (bT := bIt) (gT := gCt) (rF := rF) (FF := FF) (bF := bF) (m_str := m_str) (m_isinstance := m_isinstance) (m_range := m_range) (m_repr := m_repr) (c_law_of := c_law_of) (c_law_fits_due := c_law_fits_due), p_law_share_right, F_law_share_right.binds (ps := ["_law_pot_here", "_law_names_here", "_law_parts", "_law_how", "_law_share"]) (fun _ _ _ _ _ _ us hl => match us, hl with | [_, _, _, _, _], _ => rfl), PySem.W.mg_of X G a_law_share_right⟩
  have F_law_right := fun_mk (st := s_law_right) l_law_right k_law_right p_law_right
  let c_law_right : CalG l.prog w K mg base 9 "_law_right" ["_law_pot_here"] (sp_law_right K) := ⟨f_law_right, _, ok_law_right (F := F_law_right) (m_all := m_all) (c_law_take := c_law_take) (c_law_names := c_law_names) (c_law_share_right := c_law_share_right), p_law_right, F_law_right.binds (ps := ["_law_pot_here"]) (fun _ _ _ _ _ _ us hl => match us, hl with | [_], _ => rfl), PySem.W.mg_of X G a_law_right⟩
  have F_law_pot := fun_mk (st := s_law_pot) l_law_pot k_law_pot p_law_pot
  let c_law_pot : Cal l.prog w K mg base 1 "_law_pot" ["_law_script", "_law_place"] (sp_law_pot K) := ⟨f_law_pot, _, ok_law_pot (F := F_law_pot) (m_len := m_len) (m_int := m_int) (m_abs := m_abs), p_law_pot, F_law_pot.binds (ps := ["_law_script", "_law_place"]) (fun _ _ _ _ _ _ us hl => match us, hl with | [_, _], _ => rfl), PySem.W.mg_of X G a_law_pot⟩
  have F_law := fun_mk (st := s_law) l_law k_law p_law
  exact ok_lawT (F := F_law) (m_all := m_all) (c_law_cells := c_law_cells) (c_law_right := c_law_right) (c_law_pot := c_law_pot)
end Uq
open PySem PySem.W PyProof.Rows
set_option maxHeartbeats 0 in
theorem PySem.Challenge.cw_anyasked_k28_halves_by_hand_holds : PySem.Challenge.rw_anyasked_k28_halves_by_hand.Holds := by
  w_on; o_law; k_head; (case hw => w_witness2)
  k_fill
  refine Uq.walk_ofG (l := PySem.Challenge.rw_anyasked_k28_halves_by_hand) (n := 63) (k := 10) (x := "_law_script") (sp := fun w => Uq.sp_law _) rfl (by decide) rfl ⟨rfl, by decide, by decide⟩ (fun w h Y => PySem.W.kIn_of Y) ?F (fun _ _ a ns hl hS => ⟨a, ns, rfl, hS, hl, fun _ => rfl⟩)
  case F =>
    intro w mg fa h KX G hmg
    refine' Uq.all_mk KX G hmg (a_law_cells := ?q_a_law_cells) (l_law_cells := ?q_l_law_cells) (k_law_cells := ?q_k_law_cells) (p_law_cells := ?q_p_law_cells) (a_law_take := ?q_a_law_take) (l_law_take := ?q_l_law_take) (k_law_take := ?q_k_law_take) (p_law_take := ?q_p_law_take) (a_law_some := ?q_a_law_some) (l_law_some := ?q_l_law_some) (k_law_some := ?q_k_law_some) (p_law_some := ?q_p_law_some) (a_law_names := ?q_a_law_names) (l_law_names := ?q_l_law_names) (k_law_names := ?q_k_law_names) (p_law_names := ?q_p_law_names) (a_read_number := ?q_a_read_number) (l_read_number := ?q_l_read_number) (k_read_number := ?q_k_read_number) (p_read_number := ?q_p_read_number) (a_is_integer := ?q_a_is_integer) (l_is_integer := ?q_l_is_integer) (k_is_integer := ?q_k_is_integer) (p_is_integer := ?q_p_is_integer) (a_is_units := ?q_a_is_units) (l_is_units := ?q_l_is_units) (k_is_units := ?q_k_is_units) (p_is_units := ?q_p_is_units) (a_read_units := ?q_a_read_units) (l_read_units := ?q_l_read_units) (k_read_units := ?q_k_read_units) (p_read_units := ?q_p_read_units) (a_is_name := ?q_a_is_name) (l_is_name := ?q_l_is_name) (k_is_name := ?q_k_is_name) (p_is_name := ?q_p_is_name) (a_is_asked := ?q_a_is_asked) (l_is_asked := ?q_l_is_asked) (k_is_asked := ?q_k_is_asked) (p_is_asked := ?q_p_is_asked) (a_read_share := ?q_a_read_share) (l_read_share := ?q_l_read_share) (k_read_share := ?q_k_read_share) (p_read_share := ?q_p_read_share) (a_read_part := ?q_a_read_part) (l_read_part := ?q_l_read_part) (k_read_part := ?q_k_read_part) (p_read_part := ?q_p_read_part) (a_ends_among := ?q_a_ends_among) (l_ends_among := ?q_l_ends_among) (k_ends_among := ?q_k_ends_among) (p_ends_among := ?q_p_ends_among) (a_way_up := ?q_a_way_up) (l_way_up := ?q_l_way_up) (k_way_up := ?q_k_way_up) (p_way_up := ?q_p_way_up) (a_is_too_much := ?q_a_is_too_much) (l_is_too_much := ?q_l_is_too_much) (k_is_too_much := ?q_k_is_too_much) (p_is_too_much := ?q_p_is_too_much) (a_read_parts := ?q_a_read_parts) (l_read_parts := ?q_l_read_parts) (k_read_parts := ?q_k_read_parts) (p_read_parts := ?q_p_read_parts) (a_read_page := ?q_a_read_page) (l_read_page := ?q_l_read_page) (k_read_page := ?q_k_read_page) (p_read_page := ?q_p_read_page) (l_Page__init_ := ?q_l_Page__init_) (k_Page__init_ := ?q_k_Page__init_) (p_Page__init_ := ?q_p_Page__init_) (l_Page_parts := ?q_l_Page_parts) (k_Page_parts := ?q_k_Page_parts) (p_Page_parts := ?q_p_Page_parts) (l_Page_ends := ?q_l_Page_ends) (k_Page_ends := ?q_k_Page_ends) (p_Page_ends := ?q_p_Page_ends) (a_is_counts := ?q_a_is_counts) (l_is_counts := ?q_l_is_counts) (k_is_counts := ?q_k_is_counts) (p_is_counts := ?q_p_is_counts) (l_Page__contains_ := ?q_l_Page__contains_) (k_Page__contains_ := ?q_k_Page__contains_) (p_Page__contains_ := ?q_p_Page__contains_) (l_Page_ends_of := ?q_l_Page_ends_of) (k_Page_ends_of := ?q_k_Page_ends_of) (p_Page_ends_of := ?q_p_Page_ends_of) (a_many_in := ?q_a_many_in) (l_many_in := ?q_l_many_in) (k_many_in := ?q_k_many_in) (p_many_in := ?q_p_many_in) (l_Table__init_ := ?q_l_Table__init_) (k_Table__init_ := ?q_k_Table__init_) (p_Table__init_ := ?q_p_Table__init_) (l_Page_units := ?q_l_Page_units) (k_Page_units := ?q_k_Page_units) (p_Page_units := ?q_p_Page_units) (l_Page__getitem_ := ?q_l_Page__getitem_) (k_Page__getitem_ := ?q_k_Page__getitem_) (p_Page__getitem_ := ?q_p_Page__getitem_) (l_Table__getitem_ := ?q_l_Table__getitem_) (k_Table__getitem_ := ?q_k_Table__getitem_) (p_Table__getitem_ := ?q_p_Table__getitem_) (l_Table_total := ?q_l_Table_total) (k_Table_total := ?q_k_Table_total) (p_Table_total := ?q_p_Table_total) (a_rounded := ?q_a_rounded) (l_rounded := ?q_l_rounded) (k_rounded := ?q_k_rounded) (p_rounded := ?q_p_rounded) (a_shown := ?q_a_shown) (l_shown := ?q_l_shown) (k_shown := ?q_k_shown) (p_shown := ?q_p_shown) (a_is_right := ?q_a_is_right) (l_is_right := ?q_l_is_right) (k_is_right := ?q_k_is_right) (p_is_right := ?q_p_is_right) (l_Table_is_told_rightly := ?q_l_Table_is_told_rightly) (k_Table_is_told_rightly := ?q_k_Table_is_told_rightly) (p_Table_is_told_rightly := ?q_p_Table_is_told_rightly) (l_Table_fits := ?q_l_Table_fits) (k_Table_fits := ?q_k_Table_fits) (p_Table_fits := ?q_p_Table_fits) (a_law_of := ?q_a_law_of) (l_law_of := ?q_l_law_of) (k_law_of := ?q_k_law_of) (p_law_of := ?q_p_law_of) (a_law_fits_due := ?q_a_law_fits_due) (l_law_fits_due := ?q_l_law_fits_due) (k_law_fits_due := ?q_k_law_fits_due) (p_law_fits_due := ?q_p_law_fits_due) (a_law_share_right := ?q_a_law_share_right) (l_law_share_right := ?q_l_law_share_right) (k_law_share_right := ?q_k_law_share_right) (p_law_share_right := ?q_p_law_share_right) (a_law_right := ?q_a_law_right) (l_law_right := ?q_l_law_right) (k_law_right := ?q_k_law_right) (p_law_right := ?q_p_law_right) (a_law_pot := ?q_a_law_pot) (l_law_pot := ?q_l_law_pot) (k_law_pot := ?q_k_law_pot) (p_law_pot := ?q_p_law_pot) (a_law := ?q_a_law) (l_law := ?q_l_law) (k_law := ?q_k_law) (p_law := ?q_p_law) (z_range := ?q_z_range) (z_max := ?q_z_max) (z_min := ?q_z_min) (z_len := ?q_z_len) (z_list := ?q_z_list) (z_int := ?q_z_int) (z_str := ?q_z_str) (z_isinstance := ?q_z_isinstance) (z_bool := ?q_z_bool) (z_tuple := ?q_z_tuple) (z_dict := ?q_z_dict) (z_zip := ?q_z_zip) (z_enumerate := ?q_z_enumerate) (z_all := ?q_z_all) (z_sum := ?q_z_sum) (z_divmod := ?q_z_divmod) (z_repr := ?q_z_repr) (z_abs := ?q_z_abs) (a_C := ?q_a_C) (c_pg := ?q_c_pg) (c_hd := ?q_c_hd) (c_po := ?q_c_po) (c_sa := ?q_c_sa) (n_text := ?q_n_text) (n_units := ?q_n_units) (n_lines := ?q_n_lines) (n_ends := ?q_n_ends) (at_Page__init_ := ?q_at_Page__init_) (fn_Page__init_ := ?q_fn_Page__init_) (at_Page_parts := ?q_at_Page_parts) (ge_Page_parts := ?q_ge_Page_parts) (ta_Page_parts := ?q_ta_Page_parts) (re_Page_parts := ?q_re_Page_parts) (at_Page_ends := ?q_at_Page_ends) (ge_Page_ends := ?q_ge_Page_ends) (ta_Page_ends := ?q_ta_Page_ends) (re_Page_ends := ?q_re_Page_ends) (at_Page__contains_ := ?q_at_Page__contains_) (fn_Page__contains_ := ?q_fn_Page__contains_) (at_Page_ends_of := ?q_at_Page_ends_of) (fn_Page_ends_of := ?q_fn_Page_ends_of) (at_Page_units := ?q_at_Page_units) (ge_Page_units := ?q_ge_Page_units) (ta_Page_units := ?q_ta_Page_units) (re_Page_units := ?q_re_Page_units) (at_Page__getitem_ := ?q_at_Page__getitem_) (fn_Page__getitem_ := ?q_fn_Page__getitem_) (fi_Page__getitem_ := ?q_fi_Page__getitem_) (mk_C := ?q_mk_C) (kp_C := ?q_kp_C) (a_Ct := ?q_a_Ct) (tc_pg := ?q_tc_pg) (tc_hd := ?q_tc_hd) (tc_po := ?q_tc_po) (tc_sa := ?q_tc_sa) (tn_page := ?q_tn_page) (tn_counts := ?q_tn_counts) (tn_many := ?q_tn_many) (at_Table__init_ := ?q_at_Table__init_) (fn_Table__init_ := ?q_fn_Table__init_) (at_Table__getitem_ := ?q_at_Table__getitem_) (fn_Table__getitem_ := ?q_fn_Table__getitem_) (fi_Table__getitem_ := ?q_fi_Table__getitem_) (at_Table_total := ?q_at_Table_total) (ge_Table_total := ?q_ge_Table_total) (ta_Table_total := ?q_ta_Table_total) (re_Table_total := ?q_re_Table_total) (at_Table_is_told_rightly := ?q_at_Table_is_told_rightly) (fn_Table_is_told_rightly := ?q_fn_Table_is_told_rightly) (at_Table_fits := ?q_at_Table_fits) (ge_Table_fits := ?q_ge_Table_fits) (ta_Table_fits := ?q_ta_Table_fits) (re_Table_fits := ?q_re_Table_fits) (mk_Ct := ?q_mk_Ct) (kp_Ct := ?q_kp_Ct) (a_HOWS := ?q_a_HOWS) (l_HOWS := ?q_l_HOWS) (a_WORDS := ?q_a_WORDS) (l_WORDS := ?q_l_WORDS) (a_MOST_PARTS := ?q_a_MOST_PARTS) (a_MOST_ENDS := ?q_a_MOST_ENDS) (a_MOST_STEPS := ?q_a_MOST_STEPS) (a_MARKS := ?q_a_MARKS) (l_MARKS := ?q_l_MARKS) (l_MARK0 := ?q_l_MARK0) (l_MARK1 := ?q_l_MARK1) (l_MARK2 := ?q_l_MARK2) (l_MARK3 := ?q_l_MARK3) (v_HOWS := ?q_v_HOWS) (v_WORDS := ?q_v_WORDS)
    (case q_a_C => k_is)
    (case q_c_pg => k_is)
    (case q_c_hd => k_is)
    (case q_c_po => k_is)
    (case q_c_sa => k_is)
    (case q_n_text => k_is)
    (case q_n_units => k_is)
    (case q_n_lines => k_is)
    (case q_n_ends => k_is)
    (case q_at_Page__init_ => k_is)
    (case q_fn_Page__init_ => k_is)
    (case q_at_Page_parts => k_is)
    (case q_ge_Page_parts => k_is)
    (case q_ta_Page_parts => k_is)
    (case q_re_Page_parts => k_is)
    (case q_at_Page_ends => k_is)
    (case q_ge_Page_ends => k_is)
    (case q_ta_Page_ends => k_is)
    (case q_re_Page_ends => k_is)
    (case q_at_Page__contains_ => k_is)
    (case q_fn_Page__contains_ => k_is)
    (case q_at_Page_ends_of => k_is)
    (case q_fn_Page_ends_of => k_is)
    (case q_at_Page_units => k_is)
    (case q_ge_Page_units => k_is)
    (case q_ta_Page_units => k_is)
    (case q_re_Page_units => k_is)
    (case q_at_Page__getitem_ => k_is)
    (case q_fn_Page__getitem_ => k_is)
    (case q_fi_Page__getitem_ => k_is)
    (case q_mk_C => k_is)
    (case q_kp_C => k_is)
    (case q_a_Ct => k_is)
    (case q_tc_pg => k_is)
    (case q_tc_hd => k_is)
    (case q_tc_po => k_is)
    (case q_tc_sa => k_is)
    (case q_tn_page => k_is)
    (case q_tn_counts => k_is)
    (case q_tn_many => k_is)
    (case q_at_Table__init_ => k_is)
    (case q_fn_Table__init_ => k_is)
    (case q_at_Table__getitem_ => k_is)
    (case q_fn_Table__getitem_ => k_is)
    (case q_fi_Table__getitem_ => k_is)
    (case q_at_Table_total => k_is)
    (case q_ge_Table_total => k_is)
    (case q_ta_Table_total => k_is)
    (case q_re_Table_total => k_is)
    (case q_at_Table_is_told_rightly => k_is)
    (case q_fn_Table_is_told_rightly => k_is)
    (case q_at_Table_fits => k_is)
    (case q_ge_Table_fits => k_is)
    (case q_ta_Table_fits => k_is)
    (case q_re_Table_fits => k_is)
    (case q_mk_Ct => k_is)
    (case q_kp_Ct => k_is)
    (case q_a_law_cells => k_is)
    (case q_l_law_cells => k_is)
    (case q_k_law_cells => k_is)
    (case q_p_law_cells => k_is)
    (case q_a_law_take => k_is)
    (case q_l_law_take => k_is)
    (case q_k_law_take => k_is)
    (case q_p_law_take => k_is)
    (case q_a_law_some => k_is)
    (case q_l_law_some => k_is)
    (case q_k_law_some => k_is)
    (case q_p_law_some => k_is)
    (case q_a_law_names => k_is)
    (case q_l_law_names => k_is)
    (case q_k_law_names => k_is)
    (case q_p_law_names => k_is)
    (case q_a_read_number => k_is)
    (case q_l_read_number => k_is)
    (case q_k_read_number => k_is)
    (case q_p_read_number => k_is)
    (case q_a_is_integer => k_is)
    (case q_l_is_integer => k_is)
    (case q_k_is_integer => k_is)
    (case q_p_is_integer => k_is)
    (case q_a_is_units => k_is)
    (case q_l_is_units => k_is)
    (case q_k_is_units => k_is)
    (case q_p_is_units => k_is)
    (case q_a_read_units => k_is)
    (case q_l_read_units => k_is)
    (case q_k_read_units => k_is)
    (case q_p_read_units => k_is)
    (case q_a_is_name => k_is)
    (case q_l_is_name => k_is)
    (case q_k_is_name => k_is)
    (case q_p_is_name => k_is)
    (case q_a_is_asked => k_is)
    (case q_l_is_asked => k_is)
    (case q_k_is_asked => k_is)
    (case q_p_is_asked => k_is)
    (case q_a_read_share => k_is)
    (case q_l_read_share => k_is)
    (case q_k_read_share => k_is)
    (case q_p_read_share => k_is)
    (case q_a_read_part => k_is)
    (case q_l_read_part => k_is)
    (case q_k_read_part => k_is)
    (case q_p_read_part => k_is)
    (case q_a_ends_among => k_is)
    (case q_l_ends_among => k_is)
    (case q_k_ends_among => k_is)
    (case q_p_ends_among => k_is)
    (case q_a_way_up => k_is)
    (case q_l_way_up => k_is)
    (case q_k_way_up => k_is)
    (case q_p_way_up => k_is)
    (case q_a_is_too_much => k_is)
    (case q_l_is_too_much => k_is)
    (case q_k_is_too_much => k_is)
    (case q_p_is_too_much => k_is)
    (case q_a_read_parts => k_is)
    (case q_l_read_parts => k_is)
    (case q_k_read_parts => k_is)
    (case q_p_read_parts => k_is)
    (case q_a_read_page => k_is)
    (case q_l_read_page => k_is)
    (case q_k_read_page => k_is)
    (case q_p_read_page => k_is)
    (case q_l_Page__init_ => k_is)
    (case q_k_Page__init_ => k_is)
    (case q_p_Page__init_ => k_is)
    (case q_l_Page_parts => k_is)
    (case q_k_Page_parts => k_is)
    (case q_p_Page_parts => k_is)
    (case q_l_Page_ends => k_is)
    (case q_k_Page_ends => k_is)
    (case q_p_Page_ends => k_is)
    (case q_a_is_counts => k_is)
    (case q_l_is_counts => k_is)
    (case q_k_is_counts => k_is)
    (case q_p_is_counts => k_is)
    (case q_l_Page__contains_ => k_is)
    (case q_k_Page__contains_ => k_is)
    (case q_p_Page__contains_ => k_is)
    (case q_l_Page_ends_of => k_is)
    (case q_k_Page_ends_of => k_is)
    (case q_p_Page_ends_of => k_is)
    (case q_a_many_in => k_is)
    (case q_l_many_in => k_is)
    (case q_k_many_in => k_is)
    (case q_p_many_in => k_is)
    (case q_l_Table__init_ => k_is)
    (case q_k_Table__init_ => k_is)
    (case q_p_Table__init_ => k_is)
    (case q_l_Page_units => k_is)
    (case q_k_Page_units => k_is)
    (case q_p_Page_units => k_is)
    (case q_l_Page__getitem_ => k_is)
    (case q_k_Page__getitem_ => k_is)
    (case q_p_Page__getitem_ => k_is)
    (case q_l_Table__getitem_ => k_is)
    (case q_k_Table__getitem_ => k_is)
    (case q_p_Table__getitem_ => k_is)
    (case q_l_Table_total => k_is)
    (case q_k_Table_total => k_is)
    (case q_p_Table_total => k_is)
    (case q_a_rounded => k_is)
    (case q_l_rounded => k_is)
    (case q_k_rounded => k_is)
    (case q_p_rounded => k_is)
    (case q_a_shown => k_is)
    (case q_l_shown => k_is)
    (case q_k_shown => k_is)
    (case q_p_shown => k_is)
    (case q_a_is_right => k_is)
    (case q_l_is_right => k_is)
    (case q_k_is_right => k_is)
    (case q_p_is_right => k_is)
    (case q_l_Table_is_told_rightly => k_is)
    (case q_k_Table_is_told_rightly => k_is)
    (case q_p_Table_is_told_rightly => k_is)
    (case q_l_Table_fits => k_is)
    (case q_k_Table_fits => k_is)
    (case q_p_Table_fits => k_is)
    (case q_a_law_of => k_is)
    (case q_l_law_of => k_is)
    (case q_k_law_of => k_is)
    (case q_p_law_of => k_is)
    (case q_a_law_fits_due => k_is)
    (case q_l_law_fits_due => k_is)
    (case q_k_law_fits_due => k_is)
    (case q_p_law_fits_due => k_is)
    (case q_a_law_share_right => k_is)
    (case q_l_law_share_right => k_is)
    (case q_k_law_share_right => k_is)
    (case q_p_law_share_right => k_is)
    (case q_a_law_right => k_is)
    (case q_l_law_right => k_is)
    (case q_k_law_right => k_is)
    (case q_p_law_right => k_is)
    (case q_a_law_pot => k_is)
    (case q_l_law_pot => k_is)
    (case q_k_law_pot => k_is)
    (case q_p_law_pot => k_is)
    (case q_a_law => k_is)
    (case q_l_law => k_is)
    (case q_k_law => k_is)
    (case q_p_law => k_is)
    (case q_z_range => k_is)
    (case q_z_max => k_is)
    (case q_z_min => k_is)
    (case q_z_len => k_is)
    (case q_z_list => k_is)
    (case q_z_int => k_is)
    (case q_z_str => k_is)
    (case q_z_isinstance => k_is)
    (case q_z_bool => k_is)
    (case q_z_tuple => k_is)
    (case q_z_dict => k_is)
    (case q_z_zip => k_is)
    (case q_z_enumerate => k_is)
    (case q_z_all => k_is)
    (case q_z_sum => k_is)
    (case q_z_divmod => k_is)
    (case q_z_repr => k_is)
    (case q_z_abs => k_is)
    (case q_a_HOWS => k_is)
    (case q_l_HOWS => k_is)
    (case q_a_WORDS => k_is)
    (case q_l_WORDS => k_is)
    (case q_a_MOST_PARTS => k_is)
    (case q_a_MOST_ENDS => k_is)
    (case q_a_MOST_STEPS => k_is)
    (case q_a_MARKS => k_is)
    (case q_l_MARKS => k_is)
    (case q_l_MARK0 => k_is)
    (case q_l_MARK1 => k_is)
    (case q_l_MARK2 => k_is)
    (case q_l_MARK3 => k_is)
    (case q_v_HOWS => exact ⟨by decide, .cons ⟨_, rfl⟩ (.cons ⟨_, rfl⟩ (.cons ⟨_, rfl⟩ (.cons ⟨_, rfl⟩ (.nil))))⟩)
    (case q_v_WORDS => exact ⟨by decide, .cons ⟨_, rfl⟩ (.cons ⟨_, rfl⟩ (.nil))⟩)
