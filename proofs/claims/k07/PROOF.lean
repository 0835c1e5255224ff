import PyProof.Rows.All
import Wide.All
import OpenK.AllK
import Wide.FinOn
import HandS.Base
import HandS.Call
import HandS.List
import HandS.Comp
import HandS.Ends
import HandS.EndBits
import HandS.Dict
import HandS.Iter
import HandS.Text
import HandS.Words
import HandS.WordsList
import HandS.WordsDict
import HandS.Wide
import HandS.WideBits
import HandS.RaiseMore
import HandS.IsInst
import HandS.Conv
import HandS.Style
import HandS.Zip
import PyProof.ReprRoads
import HandS.Steps
import HandS.ExcInit
import HandS.ExcField
import KE.KExcIs
import PyProof.EnumMake
import PyProof.Draws
import KE.KDictList
import KE.KDictZip
import KE.GoesZip
import KE.GoesMore
import HandS.Deep
import HandS.StrMore
import HandS.FStr
import HandS.Property
import HandS.Walk
import KE.IntTextLaws
import HandS.Exc
import HandS.WordsExc
import HandS.Lambda
import HandS.ExcIs
import HandS.OwnEq
import PyProof.CallFns
import KE.KFmtOwn
import PyProof.InstEq
import KE.KOpsOwn
import HandS.ForMost
import HandS.NoneIn
import PySem.Challenge.RW_anyasked_k07_pages_at_their_bounds
set_option Elab.async false
set_option linter.all false
set_option maxRecDepth 100000
set_option maxHeartbeats 2000000
namespace Uq
open PySem PySem.Spec PyProof.Rows L2

/-! ### what a caller knows of a def -/
structure Cal (P : Program) (w : World) (K : PySem.W.Frag) (mg : Str → Option Value) (base : Heap) (k : Nat) (x : Str) (ps : List Str) (sp : Sp) where
  a : Addr
  d : FuncData
  G : FnOk P w K mg base CX0 k a d ps sp
  kp : PySem.W.keepIn K (.ref a) = true
  b : Binds K d ps []
  g : mg x = some (.ref a)

/-! ### heaps -/
/-- all that was tracked, but at p, is as it was -/
def But (p : Addr) (H H' : Hp) : Prop := ∀ b o, b ≠ p → H b = some o → H' b = some o
theorem But.refl (p : Addr) (H : Hp) : But p H H := fun _ _ _ h => h
theorem But.trans {p : Addr} {H H1 H2 : Hp} (a : But p H H1) (b : But p H1 H2) : But p H H2 := fun c o n h => b c o n (a c o n h)
theorem But.of {p : Addr} {H H' : Hp} (a : Same H H') : But p H H' := fun c o _ h => a c o h
theorem But.new {p q : Addr} {H H1 : Hp} {o : HO} (a : But p H H1) (h : H1 q = none) : But p H (upd H1 q o) := fun c u n e => by
  have e1 := a c u n e
  rw [upd_ne (ne_of_none e1 h)]
  exact e1
theorem But.put {p : Addr} {H H1 : Hp} {o : HO} (a : But p H H1) : But p H (upd H1 p o) := fun c u n e => by
  rw [upd_ne n]
  exact a c u n e
theorem But.seqL {K : PySem.W.Frag} {p a : Addr} {H H' : Hp} {xs : List V} (e : But p H H') (n : a ≠ p) (h : SqL K H a xs) : SqL K H' a xs := by
  rcases h with (h | ⟨o, h⟩) | h
  · exact .inl (.inl (e _ _ n h))
  · exact .inl (.inr ⟨o, e _ _ n h⟩)
  · exact .inr h
theorem But.seqT {K : PySem.W.Frag} {p a : Addr} {H H' : Hp} {xs : List V} (e : But p H H') (n : a ≠ p) (h : SqT K H a xs) : SqT K H' a xs := by
  rcases h with (h | ⟨o, h⟩) | h
  · exact .inl (.inl (e _ _ n h))
  · exact .inl (.inr ⟨o, e _ _ n h⟩)
  · exact .inr h
theorem sameU {H : Hp} {p : Addr} {o : HO} (h : H p = none) : Same H (upd H p o) := fun b x e => by
  rw [upd_ne (ne_of_none e h)]
  exact e
theorem Same.tup {K : PySem.W.Frag} {a : Addr} {H H' : Hp} {xs : List V} (e : Same H H') (h : SqT K H a xs) : SqT K H' a xs := by
  rcases h with (h | ⟨o, h⟩) | h
  · exact .inl (.inl (e _ _ h))
  · exact .inl (.inr ⟨o, e _ _ h⟩)
  · exact .inr h
theorem Same.lst {K : PySem.W.Frag} {a : Addr} {H H' : Hp} {xs : List V} (e : Same H H') (h : SqL K H a xs) : SqL K H' a xs := Same.seq e h

/-! ### great powers -/
def CPowW (i j : Int) : Prop := 0 ≤ j ∧ (Builtin.Int.intBits i : Int) * j ≤ 2 ^ 27
theorem op_powW {X : Cx} : OpR X (binaryOp .Pow) (rI CPowW fun i j => .int (i ^ j.toNat)) := opI fun _ _ _ _ _ _ _ hc q => PyProof.Rows.pow_int hc.1 hc.2 q
theorem powW_ok {i : Int} {j n : Nat} (h : i.natAbs < 2 ^ n) (hn : n * j ≤ 134217728) : CPowW i (j : Int) := by
  have b := PyProof.Rows.intBits_le h
  have e : (2 : Int) ^ 27 = 134217728 := by decide
  refine ⟨Int.natCast_nonneg _, ?_⟩
  rw [e]
  have c : Builtin.Int.intBits i * j ≤ n * j := Nat.mul_le_mul_right j b
  have d : ((Builtin.Int.intBits i * j : Nat) : Int) ≤ ((n * j : Nat) : Int) := Int.ofNat_le.mpr c
  rw [Int.natCast_mul] at d
  omega

/-! ### the drawing of numbers: a list of three ints at p -/
/-- own digits, a seed, how often it was drawn (at most c times) -/
def Pot (H : Hp) (p : Addr) (c : Nat) : Prop := ∃ o s n : Int, H p = some (.lst [.int o, .int s, .int n]) ∧ 0 ≤ o ∧ o < 10 ^ 300 ∧ 0 ≤ s ∧ s < 2305843009213693951 ∧ 0 ≤ n ∧ n ≤ c
theorem Pot.mono {H : Hp} {p : Addr} {c d : Nat} (h : Pot H p c) (e : c ≤ d) : Pot H p d := by
  obtain ⟨o, s, n, h0, h1, h2, h3, h4, h5, h6⟩ := h
  exact ⟨o, s, n, h0, h1, h2, h3, h4, h5, by omega⟩
theorem Pot.same {H H' : Hp} {p : Addr} {c : Nat} (e : Same H H') (h : Pot H p c) : Pot H' p c := by
  obtain ⟨o, s, n, h0, h1⟩ := h
  exact ⟨o, s, n, e _ _ h0, h1⟩
theorem Pot.new {H : Hp} {p q : Addr} {c : Nat} {o : HO} (h : Pot H p c) (hq : H q = none) : Pot (upd H q o) p c := h.same (sameU hq)
theorem Pot.some {H : Hp} {p : Addr} {c : Nat} (h : Pot H p c) : H p ≠ none := by
  obtain ⟨o, s, n, h0, _⟩ := h
  rw [h0]
  exact fun z => nomatch z
theorem Pot.upd {H : Hp} {p q : Addr} {c : Nat} {o : HO} (h : Pot H p c) (n : p ≠ q) : Pot (upd H q o) p c := by
  obtain ⟨o', s, k, h0, h1⟩ := h
  exact ⟨o', s, k, by rw [upd_ne n]; exact h0, h1⟩
/-- a new place is not p -/
theorem Pot.ne {H : Hp} {p q : Addr} {c : Nat} (h : Pot H p c) (hq : H q = none) : q ≠ p := fun z => h.some (z ▸ hq)
/-- a draw below u -/
def sp_law_take (K : PySem.W.Frag) : Sp := fun vs H Q _ => ∃ (p : Addr) (c : Nat) (u : Int), vs = [.ref p, .int u] ∧ Pot H p c ∧ c < 100000 ∧ 1 ≤ u ∧ u < 2 ^ 62 ∧
  ∀ H' d, But p H H' → Pot H' p (c + 1) → 0 ≤ d → d < u → Q (.int d) H'
/-- one of a list -/
def sp_law_of (K : PySem.W.Frag) : Sp := fun vs H Q _ => ∃ (p l : Addr) (c : Nat) (xs : List V), vs = [.ref p, .ref l] ∧ Pot H p c ∧ c < 100000 ∧ l ≠ p ∧ SqL K H l xs ∧ 0 < xs.length ∧ xs.length ≤ 100000 ∧
  ∀ H' (i : Nat) v, But p H H' → Pot H' p (c + 1) → xs[i]? = some v → Q v H'
/-- the places of the cells -/
def sp_law_cells (K : PySem.W.Frag) : Sp := fun vs H Q _ => ∃ (a : Addr) (ns : List Int) (m : Int), vs = [.ref a, .int m] ∧ SqL K H a (ns.map V.int) ∧ ns.length ≤ 63 ∧ 1 ≤ m ∧ m ≤ 63 ∧
  ∀ H' l (k : Nat), H l = none → Same H H' → H' l = some (.lst (rgV 0 (k : Int))) → 1 ≤ k → k ≤ 63 → Q (.ref l) H'
def sp_law_pot (K : PySem.W.Frag) : Sp := fun vs H Q _ => ∃ (a : Addr) (ns : List Int) (m : Int), vs = [.ref a, .int m] ∧ SqL K H a (ns.map V.int) ∧ ns.length ≤ 63 ∧ 0 ≤ m ∧ m ≤ 63 ∧
  ∀ H' p, H p = none → Same H H' → Pot H' p 0 → Q (.ref p) H'
/-- what is asked of a cell's turn -/
def sp_law_right (K : PySem.W.Frag) : Sp := fun vs H Q _ => ∃ p : Addr, vs = [.ref p] ∧ Pot H p 0 ∧ ∀ H', But p H H' → Q (.bl true) H'
def sp_law (K : PySem.W.Frag) : Sp := fun vs H Q _ => ∃ (a : Addr) (ns : List Int), vs = [.ref a] ∧ SqL K H a (ns.map V.int) ∧ ns.length ≤ 63 ∧ ∀ H', Q (.bl true) H'
end Uq
namespace Uq
open PySem PySem.Spec PyProof.Rows L2
/-- the cell at a place, or what stands for it -/
theorem rd_cell {K : PySem.W.Frag} {σ : L2.St} {H : Hp} {Q : VK} {a : Addr} {ns : List Int} {m c1 c2 : Int} (hl : SqL K H a (ns.map V.int)) (hm : 0 ≤ m) (hc : -(2 ^ 64) < c1 ∧ c1 < 2 ^ 64) (h0 : σ[0]? = some (some (.ref a))) (h1 : σ[1]? = some (some (.int m))) (q : ∀ z : Int, Q (.int z) H) :
    tIf (tTest (tOp (rI0 fun i j => .bl (decide (i < j))) (tVar 1) (tCB (fun xs H Q => ∃ p ys, xs = [.ref p] ∧ (SqL K H p ys ∨ SqT K H p ys) ∧ Q (.int ys.length) H) (tCons (tVar 0) tNil)))) (tOp (rIxL K) (tVar 0) (tVar 1))
      (tOp (rI0 fun i j => .int (i + j)) (tOp (rI CMul fun i j => .int (i * j)) (tC (.int c1)) (tVar 1)) (tC (.int c2))) σ H Q := by
  refine ⟨.int m, h1, .ref a, h0, a, _, rfl, .inl hl, m, _, rfl, rfl, _, rfl, ite2 (fun e => ?_) (fun e => ?_)⟩
  · have e1 : m < (ns.map V.int).length := of_decide_eq_true e
    have e2 : m.toNat < ns.length := by
      rw [List.length_map] at e1
      omega
    exact ⟨.ref a, h0, .int m, h1, a, _, m, .int ns[m.toNat], rfl, rfl, hl, at_of (j := m.toNat) (by omega) (by rw [List.getElem?_map, List.getElem?_eq_getElem e2]; rfl), q _⟩
  · exact ⟨.int m, h1, _, m, rfl, rfl, .inl hc, _, _, rfl, rfl, q _⟩
theorem big_pos : (0 : Int) < ((10 : Int) ^ (60 : Int).toNat) ^ (5 : Int).toNat := by decide +kernel
theorem big_eq : ((10 : Int) ^ (60 : Int).toNat) ^ (5 : Int).toNat = 10 ^ 300 := by decide +kernel
theorem bigA : CPowW ((10 : Int) ^ (60 : Int).toNat) 5 := powW_ok (j := 5) (n := 300) (by decide +kernel) (by decide)
theorem bigB : CPowW 10 60 := powW_ok (j := 60) (n := 8) (by decide) (by decide)
theorem bigC : CPowW 10 18 := powW_ok (j := 18) (n := 8) (by decide) (by decide)
end Uq
namespace Uq
open PySem PySem.Spec PyProof.Rows L2
theorem b01 (b : Bool) : -(2 ^ 64) < (if b = true then (1 : Int) else 0) ∧ (if b = true then (1 : Int) else 0) < 2 ^ 64 := by cases b <;> decide
theorem own_ok (z : Int) (b : Bool) : 0 ≤ z % ((10 : Int) ^ (60 : Int).toNat) ^ (5 : Int).toNat * (if b = true then 1 else 0) ∧ z % ((10 : Int) ^ (60 : Int).toNat) ^ (5 : Int).toNat * (if b = true then 1 else 0) < 10 ^ 300 := by
  have a0 := Int.emod_nonneg z (Int.ne_of_gt big_pos)
  have a1 := Int.emod_lt_of_pos z big_pos
  rw [big_eq] at a0 a1 ⊢
  cases b with
  | true =>
    rw [if_pos rfl, Int.mul_one]
    exact ⟨a0, a1⟩
  | false =>
    rw [if_neg Bool.false_ne_true, Int.mul_zero]
    exact ⟨by decide, by decide +kernel⟩
theorem sqL_same {K : PySem.W.Frag} {a : Addr} {H H' : Hp} {xs : List V} (e : Same H H') (h : SqL K H a xs) : SqL K H' a xs := Same.seq e h
theorem sqT_same {K : PySem.W.Frag} {a : Addr} {H H' : Hp} {xs : List V} (e : Same H H') (h : SqT K H a xs) : SqT K H' a xs := Uq.Same.tup e h
end Uq
namespace Uq
open PySem PySem.Spec PyProof.Rows L2
theorem iteY {c A B : Prop} [Decidable c] (h : c) (x : A) : if c then A else B := by
  rw [if_pos h]
  exact x
theorem iteN {c A B : Prop} [Decidable c] (h : ¬ c) (x : B) : if c then A else B := by
  rw [if_neg h]
  exact x
/-- a test whose answer is known -/
theorem iteDY {c A B : Prop} [Decidable c] (h : c) (x : A) : if decide c = true then A else B := iteY (decide_eq_true h) x
theorem iteDN {c A B : Prop} [Decidable c] (h : ¬ c) (x : B) : if decide c = true then A else B := iteN (fun z => h (of_decide_eq_true z)) x
end Uq

namespace Uq
open PySem PySem.Spec PyProof.Rows L2

/-! ### defs that are called where no text of an object is under way -/
structure FnG (P : Program) (w : World) (K : PySem.W.Frag) (mg : Str → Option Value) (base : Heap) (k : Nat) (f : Addr) (fd : FuncData) (ps : List Str) (sp : Sp) : Prop where
  len : ∀ vs H Q E, sp vs H Q E → vs.length = ps.length
  run : ∀ (A : Around) (outer : List Env) (s : Shared) (H : Hp) (args : Args) (us : List Value) (vs : List V) (Q : VK) (E : XK),
    A.guards = some [] → Room k A → Env0 P w K mg base A outer s H → BindsTo s fd args (ps.zip us) → Vals vs us → sp vs H Q E →
    codeAny (model P w) A (.call (.ref f) args) (CR CX0 outer P w H s Q E) s

structure CalG (P : Program) (w : World) (K : PySem.W.Frag) (mg : Str → Option Value) (base : Heap) (k : Nat) (x : Str) (ps : List Str) (sp : Sp) where
  a : Addr
  d : FuncData
  G : FnG P w K mg base k a d ps sp
  kp : PySem.W.keepIn K (.ref a) = true
  b : Binds K d ps []
  g : mg x = some (.ref a)

section
variable {P : Program} {w : World} {K : PySem.W.Frag} {mg : Str → Option Value} {base : Heap}
theorem Fun_okG {x qual : Str} {st : Stmt} {f : Addr} {fd : FuncData} {N ps : List Str} {k : Nat} {sp : Sp} (F : Fun K x qual st f fd) (S : FnScope N ps (defScope st))
    (len : ∀ vs H Q E, sp vs H Q E → vs.length = ps.length)
    (hbody : ∀ (cdv : Value) (A : Around) (outer : List Env) (s : Shared) (H : Hp) (vs : List V) (Q : VK) (E : XK), A.guards = some [] →
      Room k (A.deeper (envOfC qual (defScope st) s.heap.objs.size f cdv)) → sp vs H Q E →
      ∃ t, PSs (cxOf CX0 P w K mg base N qual (defScope st) f cdv A outer s H E).nox (defBody st) t ∧ t { nx := fun _ H' => Q .non H', rt := Q } (start N vs) H) :
    FnG P w K mg base (k + 1) f fd ps sp := by
  obtain ⟨oc, od, kV, doc, pm, an, cdv, ct, osl, rfl, lk, hcd⟩ := F.ex
  constructor
  · exact len
  intro A outer s H args us vs Q E hg hr e0 hb r hsp
  have hkeep : ∀ b o, base.get? b = some o → s.heap.get? b = some o := fun b o e => (e0.bs b o e).1
  have KX : K.In s.heap := e0.mod.kin.keeps hkeep
  have hpar : ∀ y ∈ ps.zip us, (defScope st).names.lookup y.1 = some .local ∨ ((defScope st).names.lookup y.1 = some .cell ∧ ((cellsFrom (s.heap.objs.size + 1) (defScope st).names []).lookup y.1).isSome = true) := by
    intro y hy
    have hm : y.1 ∈ ps := (List.of_mem_zip (show (y.1, y.2) ∈ ps.zip us from hy)).1
    cases S.par y.1 hm with
    | inl q => exact Or.inl q
    | inr q => exact Or.inr ⟨q, PySem.W.cellsFrom_some _ _ _ (Or.inl q)⟩
  apply codeAny_call_function hr.depth (KX _ _ lk) rfl S.co S.gen rfl (PySem.W.codeRec_of KX hcd)
  apply hb
  apply wpAny_newFunctionEnv_cells S.kind hpar
  rintro env rfl s1 x
  refine ⟨(e0.mod.nolimit.keeps hkeep).keeps x.toInCall.keep, codeAny_func ?_⟩
  obtain ⟨t, ht, hq⟩ := hbody cdv A outer s H vs Q E hg (hr.deeper _) hsp
  have J0 := inv_start (CX := CX0) (E := E) S hr.hd e0 (len _ _ _ _ hsp) r x
  have run := ht.nox.run [] s1 (start N vs) H _ J0 hq
  refine wpAny_mono run (fun fl s' hs => ?_) (fun _ _ hs => hs)
  cases fl with
  | ret u =>
    obtain ⟨v, σ', H', J, rv, q⟩ := hs
    exact ⟨v, H', J.os, J.bare, J.base, J.hok, rv, q⟩
  | next =>
    obtain ⟨σ', H', J, q⟩ := hs
    exact ⟨.non, H', J.os, J.bare, J.base, J.hok, rfl, q⟩
  | brk => exact hs.elim (fun _ h => h.elim fun _ h => h.2.elim)
  | cont => exact hs.elim (fun _ h => h.elim fun _ h => h.2.elim)
end

section
variable {X : Cx} {k : Nat} {f : Addr} {fd : FuncData} {ps : List Str} {sp : Sp} {x : Str} {p pos : Pos} {e : Expr} {es : List Expr} {t : TA}
theorem pe_callG (F : FnG X.prog X.w X.K X.mg X.base k f fd ps sp) (hgd : X.A.guards = some []) (hr : Room k X.A) (hg : Gl X x) (hm : X.mg x = some (.ref f)) (hk : PySem.W.keepIn X.K (.ref f) = true) (hb : Binds X.K fd ps [])
    (ha : PA X (e :: es) t) (hdb : (x == ("__debug__" : Str)) = false := by decide) (he : starEach (e :: es) X.env = (false, eval e X.env) :: starEach es X.env := by rfl) (hpl : (backTo pos (starEach es X.env)).any (·.1) = false := by rfl) :
    PE X (.Call (.Name x p) (e :: es) [] pos) (tCall sp [] E0 t) := by
  constructor
  intro pins s σ H Q I h
  apply wpAny_Call_Name_kw
  refine ld_glob I hg hm ?_ hdb
  have args := thn (ha.run pos pins s σ H _ I h) (Q' := fun us s1 => X.K.In s1.heap ∧ wpAny (model X.prog X.w) X.A (call (.ref f) us) (EP X pins σ Q) X.xe s1) ?_
  · exact PySem.W.callWith_K (h₀ := X.base) I.ok.mod.kin hk args he hpl
  rintro us s1 ⟨vs, H1, I1, r, q⟩
  refine ⟨I1.kIn, ?_⟩
  have q0 : sp vs H1 Q E0 := by
    have z := q
    rw [List.append_nil] at z
    exact z
  have hl : (us ++ ([] : List Value)).length = ps.length := by
    rw [List.append_nil, ← r.length]
    exact F.len _ _ _ _ q0
  have bd := hb s1 us I1.kIn hl
  rw [List.append_nil] at bd
  have code := F.run X.A X.stack s1 H1 ⟨us, []⟩ us vs Q E0 hgd hr I1.env0 bd r q0
  refine wpAny_call (codeAny_mono code ?_)
  intro res s' hq
  cases res with
  | error e => exact False.elim hq
  | ok fl =>
    cases fl with
    | ret u => exact I1.after hq
    | next => exact False.elim hq
    | brk => exact False.elim hq
    | cont => exact False.elim hq
end
end Uq

namespace Uq
open PySem PySem.Spec PyProof.Rows L2

section
variable {P : Program} {w : World} {K : PySem.W.Frag} {mg mb : Str → Option Value} {k : Nat} {fa a : Addr} {fd : FuncData} {x : Str} {sp : Sp} {s₁ : Shared} {vs : List Value} {ns : List Int}
/-- the law's call from a heap of which at most the script is tracked -/
theorem core_callG (KX : K.In s₁.heap) (hns : s₁.heap.Ns mainGlobals mg) (hb : s₁.heap.Ns builtinsNs mb) (hbb : ∀ x : Str, x ≠ "__name__" → mb x = bootBuiltins x) (hlim : s₁.heap.NoLimit) (hg : s₁.gens = #[])
    (ha : s₁.heap.get? a = some { cls := .type "list", data := .seq vs.toArray }) (hr : Room k callerA)
    (F : ∀ base : Heap, K.In base → base.Ns mainGlobals mg → FnG P w K mg base k fa fd [x] sp) (hbind : ∀ (s : Shared) (u : Value), BindsTo s fd ⟨[u], []⟩ [(x, u)])
    (H : Hp) (hO : Only H) (hok : HOk P w H s₁.heap) (hA : ∀ b, H b ≠ none → b = a) (hK : H a ≠ none → K.lookup a = none) (hsp : sp [.ref a] H (fun v _ => v = .bl true) (fun _ _ _ => False)) :
    codeAny (model P w) callerA (.call (.ref fa) ⟨[.ref a], []⟩) (fun r s' => r = .ok (.ret (.bool true)) ∧ OldK s₁.heap s'.heap ∧ s'.os = s₁.os ∧ AllBare s'.gens) s₁ := by
  have noA : ∀ {b : Addr} {o : Obj} {es : Array DictEntry} {ep : Nat}, s₁.heap.get? b = some o → o.data = .dict es ep → H b = none := by
    intro b o es ep e d
    by_cases q : H b = none
    · exact q
    · have eb := hA b q
      subst eb
      rw [ha] at e
      cases e
      exact nomatch (show Data.seq vs.toArray _ = Data.dict es ep from d)
  have nsH : ∀ {b : Addr} {m : Str → Option Value}, s₁.heap.Ns b m → (hidT s₁.heap H).Ns b m := by
    rintro b m ⟨o, es, ep, e, d, r⟩
    exact ⟨o, es, ep, hidT_get e (noA e d), d, r⟩
  have KH : K.In (hidT s₁.heap H) := by
    intro b o e
    refine hidT_get (KX b o e) ?_
    by_cases q : H b = none
    · exact q
    · have eb := hA b q
      subst eb
      rw [hK q] at e
      cases e
  obtain ⟨mc, l1, l2⟩ := hlim
  have e0 : Env0 P w K mg (hidT s₁.heap H) callerA [] s₁ H := by
    refine { frames := rfl, mod := ⟨KH, nsH hns, ⟨mb, nsH hb, hbb⟩, ⟨mc, nsH l1, l2⟩⟩, bs := fun b o e => of_hidT e, bsz := Nat.le_of_eq (hidT_size _ _), funs := trivial, frf := ?_, hok := hok, bare := .of_eq hg }
    intro b z
    exact nomatch (show b ∈ ([] : List Addr) from z)
  have go := (F _ KH (nsH hns)).run callerA [] s₁ H ⟨[.ref a], []⟩ [.ref a] [.ref a] _ _ rfl hr e0 (hbind s₁ (.ref a)) (.cons rfl .nil) hsp
  refine codeAny_mono go ?_
  intro r s' h
  cases r with
  | error e => exact False.elim h
  | ok fl =>
    cases fl with
    | next => exact False.elim h
    | brk => exact False.elim h
    | cont => exact False.elim h
    | ret u =>
      obtain ⟨v, H', os, bare, un, hok', rv, q⟩ := h
      have ev : v = .bl true := q
      subst ev
      have eu : u = Value.bool true := rv
      subst eu
      refine ⟨rfl, OldK.of_keep ?_, os, bare⟩
      intro b o e
      rcases hO b with z | ⟨ob, xs, z⟩
      · exact un.keep b o e z (fun y => nomatch (show b ∈ ([] : List Addr) from y)) (fun y => nomatch (show b ∈ ([] : List Addr) from y))
      · obtain ⟨y1, _⟩ := hok b _ z
        obtain ⟨y2, _⟩ := hok' b _ (un.frzs b ob _ z)
        rw [e] at y1
        cases y1
        exact y2
end

theorem walk_ofG {l : PySem.W.OpenLaw} {n k : Nat} {q : Program} {loose : List Str} {XP : (Str → Option Value) → Heap → Prop} {YP : World → Heap → Prop} {d : DefRec} {K : Params → PySem.W.Frag} {sp : World → Sp} {x : Str}
    (hn : l.most = some n) (hn2 : n ≤ sizeLine) (hdf : d.params.defaults = []) (hr : Room k callerA)
    (hY : ∀ (w : World) (h : Heap), YP w h → (K w.params).In h)
    (F : ∀ (w : World) (mg : Str → Option Value) (fa : Addr) (h : Heap), (K w.params).In h → h.Ns mainGlobals mg → mg d.name = some (.ref fa) →
      ∃ fd : FuncData, (∀ (s : Shared) (u : Value), BindsTo s fd ⟨[u], []⟩ [(x, u)]) ∧ ∀ base : Heap, (K w.params).In base → base.Ns mainGlobals mg → FnG l.prog w (K w.params) mg base k fa fd [x] (sp w))
    (hsp : ∀ (w : World) (H : Hp) (a : Addr) (ns : List Int), ns.length ≤ n → SqL (K w.params) H a (ns.map V.int) → sp w [.ref a] H (fun v _ => v = .bl true) (fun _ _ _ => False)) :
    PySem.W.WalkO q loose XP YP l.row.toRowW d [] (fun f vs => PySem.call f vs) := by
  apply Att.attach_call hn hdf
  intro w s₀ s₁ mg mb fa o pm cd doc a vs ns G Y ho hd hcd hmg ha hi hlen hg
  have KX := hY w _ Y
  obtain ⟨fd, hb, hF⟩ := F w mg fa _ KX G.T.g hmg
  have rv := vals_ints hi
  have len := hi.length
  have hl : ns.length ≤ sizeLine := Nat.le_trans hlen hn2
  by_cases hk : K w.params |>.lookup a |>.isSome
  · obtain ⟨ob, hob⟩ := Option.isSome_iff_exists.mp hk
    have e := KX a ob hob
    rw [ha] at e
    cases e
    refine core_callG (H := fun _ => none) KX G.T.g G.T.b G.T.builtins G.T.nolimit hg ha hr hF hb (fun _ => .inl rfl) (fun b u z => nomatch (show (none : Option HO) = some u from z)) (fun b z => absurd rfl z) (fun z => absurd rfl z) ?_
    refine hsp w _ a ns hlen (.inr ⟨_, vs.toArray, _, hob, rfl, rfl, rfl, ?_, ?_⟩)
    · rw [List.size_toArray, len]
      exact hl
    · exact rv
  · have hk' : (K w.params).lookup a = none := Option.not_isSome_iff_eq_none.mp hk
    let H0 : Hp := fun b => if b = a then some (.frz { cls := .type "list", data := .seq vs.toArray } (.lst (ns.map V.int))) else none
    have h0 : H0 a = some (.frz { cls := .type "list", data := .seq vs.toArray } (.lst (ns.map V.int))) := if_pos rfl
    have h1 : ∀ b, b ≠ a → H0 b = none := fun b z => if_neg z
    refine core_callG (H := H0) KX G.T.g G.T.b G.T.builtins G.T.nolimit hg ha hr hF hb ?_ ?_ ?_ (fun _ => hk') ?_
    · intro b
      by_cases z : b = a
      · subst z
        exact .inr ⟨_, _, h0⟩
      · exact .inl (h1 b z)
    · intro b u e
      by_cases z : b = a
      · subst z
        rw [h0] at e
        cases e
        exact ⟨ha, by rw [List.length_map]; exact hl, vs, _, rv, ha⟩
      · rw [h1 b z] at e
        cases e
    · intro b z
      by_cases y : b = a
      · exact y
      · exact absurd (h1 b y) z
    · exact hsp w _ a ns hlen (.inl (.inr ⟨_, h0⟩))

/-! ### the text of data -/
theorem dp_same {K : PySem.W.Frag} {H H' : Hp} (e : Same H H') : ∀ (d : PyData) (v : V), Dp K H v d → Dp K H' v d
  | .none, _, h => by cases h; exact .non
  | .bool _, _, h => by cases h; exact .bl _
  | .int _, _, h => by cases h; exact .int _
  | .str _, _, h => by cases h; exact .str _
  | .list ds, _, h => by
    cases h with
    | lst h1 h2 => exact .lst (sqL_same e h1) (all ds _ h2)
  | .tuple ds, _, h => by
    cases h with
    | tup h1 h2 => exact .tup (sqT_same e h1) (all ds _ h2)
  | .dict _, _, h => nomatch h
where all : ∀ (ds : List PyData) (vs : List V), DpAll K H vs ds → DpAll K H' vs ds
  | [], _, h => by cases h; exact .nil
  | d :: ds, _, h => by
    cases h with
    | cons h1 h2 => exact .cons (dp_same e d _ h1) (all ds _ h2)
/-- repr(x), x data of any depth -/
def rRepr (K : PySem.W.Frag) : List V → Hp → VK → Prop := fun xs H Q => ∃ (x : V) (d : PyData), xs = [x] ∧ Dp K H x d ∧ d.showable = true ∧ d.hasDict = false ∧ d.depth ≤ 60 ∧ d.shown.length ≤ sizeLine ∧ Q (.str d.shown) H
theorem call_repr_data {X : Cx} (hg : X.A.guards = some []) (hu : X.A.units + 100 < cLine) : CallR X (.builtin "repr") (rRepr X.K) := by
  intro pins s σ H xs us Q I r h
  obtain ⟨x, d, rfl, dp, hs, hd, hdep, hz, q⟩ := h
  obtain ⟨u, rfl, ru⟩ := vals1 r
  obtain ⟨as, rd⟩ := Dp.reads I d x u dp ru
  cases d with
  | none =>
    cases dp
    cases ru
    exact PySem.P.repr_of_none ⟨.str _, H, I.tok _, ⟨_, rfl⟩, q⟩
  | bool b =>
    cases dp
    cases ru
    exact PySem.P.repr_of_bool ⟨.str _, H, I.tok _, ⟨_, rfl⟩, q⟩
  | int i =>
    cases dp
    obtain ⟨t, rfl⟩ := ru
    exact PySem.P.repr_of_int (of_decide_eq_true hs) ⟨.str _, H, I.tok _, ⟨_, rfl⟩, q⟩
  | str y =>
    cases dp
    obtain ⟨t, rfl⟩ := ru
    exact PySem.P.repr_of_str ⟨.str _, H, I.tok _, ⟨_, rfl⟩, q⟩ hz
  | list ds =>
    cases dp with
    | @lst a _ _ h1 h2 =>
      cases ru
      exact repr_of_reads' rd hs (PyData.noDict_hsm hd) hg (by omega) (fun _ _ e => e) (fun h' u tk hk => ⟨.str _, H, I.kept (h' := h') (t' := tk) hk, ⟨_, rfl⟩, q⟩) hz
  | tuple ds =>
    cases dp with
    | @tup a _ _ h1 h2 =>
      cases ru
      exact repr_of_reads' rd hs (PyData.noDict_hsm hd) hg (by omega) (fun _ _ e => e) (fun h' u tk hk => ⟨.str _, H, I.kept (h' := h') (t' := tk) hk, ⟨_, rfl⟩, q⟩) hz
  | dict kvs => cases dp
end Uq
namespace Uq
open PySem PySem.Spec PyProof.Rows L2
theorem ru {k : Nat} {A : Around} (hr : Room k A) : A.units + 100 < cLine := by
  have := hr.un
  omega
end Uq

namespace Uq
open PySem PySem.Spec PyProof.Rows L2
section
variable {σ : L2.St} {H : Hp} {ta tb tc te : TE} {c d : Bool} {x y z : V} {i j n : Int} {K : PySem.W.Frag}
theorem val_orV (ha : Val ta σ H (.bl c)) (hb : c = false → Val tb σ H (.bl d)) : Val (tOrV ta tb) σ H (.bl (c || d)) := fun Q q => ha _ ⟨c, rfl, by
  cases c with
  | true => exact iteT q
  | false => exact iteF (hb rfl _ q)⟩
theorem val_andV (ha : Val ta σ H (.bl c)) (hb : c = true → Val tb σ H (.bl d)) : Val (tAndV ta tb) σ H (.bl (c && d)) := fun Q q => ha _ ⟨c, rfl, by
  cases c with
  | true => exact iteT (hb rfl _ q)
  | false => exact iteF q⟩
theorem val_notV (ha : Val ta σ H (.bl c)) : Val (tNotV ta) σ H (.bl (!c)) := fun Q q => ha _ ⟨c, rfl, q⟩
theorem val_I0 {g : Int → Int → V} (ha : Val ta σ H (.int i)) (hb : Val tb σ H (.int j)) : Val (tOp (rI0 g) ta tb) σ H (g i j) := fun Q q => ha _ (hb _ ⟨i, j, rfl, rfl, q⟩)
theorem val_I {C : Int → Int → Prop} {g : Int → Int → V} (hc : C i j) (ha : Val ta σ H (.int i)) (hb : Val tb σ H (.int j)) : Val (tOp (rI C g) ta tb) σ H (g i j) := fun Q q => ha _ (hb _ ⟨i, j, rfl, rfl, hc, q⟩)
theorem dec_ii : decide (V.int i = V.int j) = decide (i = j) := by
  rw [decide_eq_decide]
  exact ⟨fun z => V.int.inj z, fun z => by rw [z]⟩
theorem dec_ss {a b : Str} : decide (V.str a = V.str b) = decide (a = b) := by
  rw [decide_eq_decide]
  exact ⟨fun z => V.str.inj z, fun z => by rw [z]⟩
theorem val_eqI (ha : Val ta σ H (.int i)) (hb : Val tb σ H (.int j)) : Val (tOp rEq ta tb) σ H (.bl (decide (i = j))) := fun Q q => ha _ (hb _ ⟨rfl, by rw [dec_ii]; exact q⟩)
theorem val_eqS {a b : Str} (ha : Val ta σ H (.str a)) (hb : Val tb σ H (.str b)) : Val (tOp rEq ta tb) σ H (.bl (decide (a = b))) := fun Q q => ha _ (hb _ ⟨rfl, by rw [dec_ss]; exact q⟩)
theorem val_eqV (ha : Val ta σ H x) (hb : Val tb σ H y) (hs : scal x y = true) : Val (tOp rEq ta tb) σ H (.bl (decide (x = y))) := fun Q q => ha _ (hb _ ⟨hs, q⟩)
theorem val_neV (ha : Val ta σ H x) (hb : Val tb σ H y) (hs : scal x y = true) : Val (tOp rNe ta tb) σ H (.bl (!decide (x = y))) := fun Q q => ha _ (hb _ ⟨hs, q⟩)
theorem val_ixL {p : Addr} {xs : List V} (ha : Val ta σ H (.ref p)) (hb : Val tb σ H (.int i)) (h : SqL K H p xs) (hi : atI xs i = some z) : Val (tOp (rIxL K) ta tb) σ H z := fun Q q => ha _ (hb _ ⟨p, xs, i, z, rfl, rfl, h, hi, q⟩)
theorem val_ixT {p : Addr} {xs : List V} (ha : Val ta σ H (.ref p)) (hb : Val tb σ H (.int i)) (h : SqT K H p xs) (hi : atI xs i = some z) : Val (tOp (rIxT K) ta tb) σ H z := fun Q q => ha _ (hb _ ⟨p, xs, i, z, rfl, rfl, h, hi, q⟩)
theorem val_chain {g g' : Int → Int → Bool} (ha : Val ta σ H (.int i)) (hb : Val tb σ H (.int j)) (hc : g i j = true → Val tc σ H (.int n)) :
    Val (tChain (rI0 fun i j => .bl (g i j)) (rI0 fun i j => .bl (g' i j)) ta tb tc) σ H (.bl (g i j && g' j n)) := fun Q q => ha _ (hb _ ⟨i, j, rfl, rfl, g i j, rfl, by
  cases e : g i j with
  | true =>
    rw [e] at q
    exact iteT (hc e _ ⟨j, n, rfl, rfl, q⟩)
  | false =>
    rw [e] at q
    exact iteF q⟩)
theorem val_if {tt : TT} (h : Ans tt σ H c) (h1 : c = true → Val ta σ H x) (h2 : c = false → Val tb σ H x) : Val (tIf tt ta tb) σ H x := fun Q q => h _ (by
  cases c with
  | true => exact iteT (h1 rfl _ q)
  | false => exact iteF (h2 rfl _ q))
theorem ans_val2 (h : Val te σ H (.bl c)) : Ans (tTest te) σ H c := fun Q q => h _ ⟨c, rfl, q⟩
theorem val_to (h : Val te σ H x) (e : x = y) : Val te σ H y := e ▸ h
end
end Uq

namespace Uq
open PySem PySem.Spec PyProof.Rows L2
def keyD : Key → PyData
  | .inl i => .int i
  | .inr x => .str x
mutual
/-- data of any depth, dicts with int and text keys among it; its lists and dicts are tracked -/
inductive Dx (K : PySem.W.Frag) (H : Hp) : V → PyData → Prop
  | non : Dx K H .non .none
  | bl (b : Bool) : Dx K H (.bl b) (.bool b)
  | int (i : Int) : Dx K H (.int i) (.int i)
  | str (x : Str) : Dx K H (.str x) (.str x)
  | lst {a : Addr} {xs : List V} {ds : List PyData} : H a = some (.lst xs) → a ≠ sysModules → DxAll K H xs ds → Dx K H (.ref a) (.list ds)
  | tup {a : Addr} {xs : List V} {ds : List PyData} : SqT K H a xs → DxAll K H xs ds → Dx K H (.ref a) (.tuple ds)
  | dct {a : Addr} {kvs : List (Key × V)} {es : List (PyData × PyData)} : H a = some (.dK kvs) → es.map (·.1) = kvs.map (fun kv => keyD kv.1) → DxAll K H (kvs.map (·.2)) (es.map (·.2)) → Dx K H (.ref a) (.dict es)
inductive DxAll (K : PySem.W.Frag) (H : Hp) : List V → List PyData → Prop
  | nil : DxAll K H [] []
  | cons {v : V} {vs : List V} {d : PyData} {ds : List PyData} : Dx K H v d → DxAll K H vs ds → DxAll K H (v :: vs) (d :: ds)
end
theorem keys_reads {P : Program} {w : World} {h : Heap} : ∀ {es : List DictEntry} {vs : List (Key × Value)} {kvs : List (Key × V)}, Pairs (mixKind P w) es vs → KV kvs vs → ReadsAll h (es.map (·.key)) (kvs.map fun kv => keyD kv.1) [] := by
  intro es vs kvs hp
  induction hp generalizing kvs with
  | nil =>
    intro r
    cases r
    exact .nil
  | @cons e kv es vs hk hv hp ih =>
    intro r
    cases r with
    | @cons a b l1 l2 r1 r2 =>
      have q : Reads h e.key (keyD a.1) [] := by
        rw [r1.1]
        rcases keyIs_shape hk with ⟨i, t, e1, e2⟩ | ⟨x, t, e1, e2⟩
        · rw [e1, e2]
          exact .int i t
        · rw [e1, e2]
          exact .str x t
      exact ReadsAll.cons (as := []) (bs := []) q (ih r2)
theorem vals_pairs {P : Program} {w : World} : ∀ {es : List DictEntry} {vs : List (Key × Value)} {kvs : List (Key × V)}, Pairs (mixKind P w) es vs → KV kvs vs → Vals (kvs.map (·.2)) (es.map (·.val)) := by
  intro es vs kvs hp
  induction hp generalizing kvs with
  | nil =>
    intro r
    cases r
    exact .nil
  | @cons e kv es vs hk hv hp ih =>
    intro r
    cases r with
    | @cons a b l1 l2 r1 r2 =>
      have q : RelV a.2 e.val := by
        rw [hv]
        exact r1.2
      exact .cons q (ih r2)
section
variable {X : Cx} {pins : List (Addr × Obj)} {σ : L2.St} {H : Hp} {s : Shared}
mutual
theorem Dx.reads (I : Inv X pins σ H s) : ∀ {d : PyData} {v : V} (h : Dx X.K H v d) {u : Value}, RelV v u → ∃ as, Reads s.heap u d as ∧ sysModules ∉ as
  | _, _, .non, _, r => by
    cases r
    exact ⟨[], Reads.none, fun z => nomatch z⟩
  | _, _, .bl b, _, r => by
    cases r
    exact ⟨[], Reads.bool b, fun z => nomatch z⟩
  | _, _, .int i, _, r => by
    obtain ⟨t, rfl⟩ := r
    exact ⟨[], Reads.int i t, fun z => nomatch z⟩
  | _, _, .str x, _, r => by
    obtain ⟨t, rfl⟩ := r
    exact ⟨[], Reads.str x t, fun z => nomatch z⟩
  | _, _, .lst e ns ha, _, r => by
    cases r
    obtain ⟨its, rv, ⟨o, n, ho, hc, _, hd⟩, _⟩ := I.list (SqL.of e)
    obtain ⟨as, hr, hn⟩ := DxAll.reads I ha rv
    exact ⟨_, Reads.list ho hc hd hr, fun z => (List.mem_cons.mp z).elim (fun y => ns y.symm) hn⟩
  | _, _, .tup e ha, _, r => by
    cases r
    obtain ⟨its, rv, ⟨o, ho, hc, n, hd⟩, _⟩ := I.tuple e
    obtain ⟨as, hr, hn⟩ := DxAll.reads I ha rv
    exact ⟨_, Reads.tuple ho hc hd hr, hn⟩
  | _, _, .dct e he ha, _, r => by
    cases r
    obtain ⟨_, hsys, vs, kv, o, es, ep, ho, hx, hd, _, hp, _⟩ := (show ObjOk X.prog X.w H s.heap _ (.dK _) from I.hok _ _ e)
    obtain ⟨bs, hr, hn⟩ := DxAll.reads I ha (vals_pairs hp kv)
    have k := keys_reads (h := s.heap) hp kv
    rw [← he] at k
    refine ⟨_, Reads.dict ho hx.1 hd k hr, fun z => ?_⟩
    rcases List.mem_cons.mp z with y | y
    · rw [← y] at hsys
      simp at hsys
    · exact hn y
theorem DxAll.reads (I : Inv X pins σ H s) : ∀ {ds : List PyData} {vs : List V} (h : DxAll X.K H vs ds) {us : List Value}, Vals vs us → ∃ as, ReadsAll s.heap us ds as ∧ sysModules ∉ as
  | _, _, .nil, _, r => by
    cases r
    exact ⟨_, ReadsAll.nil, fun z => nomatch z⟩
  | _, _, .cons h1 h2, _, r => by
    cases r with
    | cons r1 r2 =>
      obtain ⟨as, q1, n1⟩ := Dx.reads I h1 r1
      obtain ⟨bs, q2, n2⟩ := DxAll.reads I h2 r2
      exact ⟨_, ReadsAll.cons q1 q2, fun z => (List.mem_append.mp z).elim n1 n2⟩
end
end
/-! what is tracked stays -/
mutual
theorem Dx.same {K : PySem.W.Frag} {H H' : Hp} (e : Same H H') : ∀ {d : PyData} {v : V}, Dx K H v d → Dx K H' v d
  | _, _, .non => .non
  | _, _, .bl b => .bl b
  | _, _, .int i => .int i
  | _, _, .str x => .str x
  | _, _, .lst h ns ha => .lst (e _ _ h) ns (DxAll.same e ha)
  | _, _, .tup h ha => .tup (sqT_same e h) (DxAll.same e ha)
  | _, _, .dct h he ha => .dct (e _ _ h) he (DxAll.same e ha)
theorem DxAll.same {K : PySem.W.Frag} {H H' : Hp} (e : Same H H') : ∀ {ds : List PyData} {vs : List V}, DxAll K H vs ds → DxAll K H' vs ds
  | _, _, .nil => .nil
  | _, _, .cons h1 h2 => .cons (Dx.same e h1) (DxAll.same e h2)
end
/-- data that is short enough to be written -/
def Shows (d : PyData) : Prop := d.showable = true ∧ d.depth ≤ 60 ∧ d.shown.length ≤ sizeLine
def rReprX (K : PySem.W.Frag) : List V → Hp → VK → Prop := fun xs H Q => ∃ (x : V) (d : PyData), xs = [x] ∧ Dx K H x d ∧ Shows d ∧ Q (.str d.shown) H
theorem call_reprX {X : Cx} (hg : X.A.guards = some []) (hu : X.A.units + 100 < cLine) : CallR X (.builtin "repr") (rReprX X.K) := by
  intro pins s σ H xs us Q I r h
  obtain ⟨x, d, rfl, dp, ⟨hs, hdep, hz⟩, q⟩ := h
  obtain ⟨u, rfl, ru⟩ := vals1 r
  obtain ⟨as, rd, hsm⟩ := Dx.reads I dp ru
  cases dp with
  | non =>
    cases ru
    exact PySem.P.repr_of_none ⟨.str _, H, I.tok _, ⟨_, rfl⟩, q⟩
  | bl b =>
    cases ru
    exact PySem.P.repr_of_bool ⟨.str _, H, I.tok _, ⟨_, rfl⟩, q⟩
  | int i =>
    obtain ⟨t, rfl⟩ := ru
    exact PySem.P.repr_of_int (of_decide_eq_true hs) ⟨.str _, H, I.tok _, ⟨_, rfl⟩, q⟩
  | str y =>
    obtain ⟨t, rfl⟩ := ru
    exact PySem.P.repr_of_str ⟨.str _, H, I.tok _, ⟨_, rfl⟩, q⟩ hz
  | lst =>
    cases ru
    exact repr_of_reads' rd hs (fun _ => hsm) hg (by omega) (fun _ _ e => e) (fun h' u tk hk => ⟨.str _, H, I.kept (h' := h') (t' := tk) hk, ⟨_, rfl⟩, q⟩) hz
  | tup =>
    cases ru
    exact repr_of_reads' rd hs (fun _ => hsm) hg (by omega) (fun _ _ e => e) (fun h' u tk hk => ⟨.str _, H, I.kept (h' := h') (t' := tk) hk, ⟨_, rfl⟩, q⟩) hz
  | dct =>
    cases ru
    exact repr_of_reads' rd hs (fun _ => hsm) hg (by omega) (fun _ _ e => e) (fun h' u tk hk => ⟨.str _, H, I.kept (h' := h') (t' := tk) hk, ⟨_, rfl⟩, q⟩) hz
/-! ### a list's place is beyond what the top has laid -/
section
variable {X : Cx} {t : TA} {es : List Expr} {pos : Pos}
def tLstB (t : TA) : TE := fun σ H Q => t σ H fun xs H1 => xs.length ≤ sizeLine ∧ ∀ p, H1 p = none → p ≠ sysModules → Q (.ref p) (upd H1 p (.lst xs))
theorem pe_lstB (hb : sysModules < X.base.objs.size) (h : PA X es t) : PE X (.List es pos) (tLstB t) := by
  constructor
  intro pins s σ H Q I hq
  apply wpAny_List_spliced
  apply thn (h.run pos pins s σ H _ I hq)
  rintro us s1 ⟨xs, H1, I1, r, z, q⟩
  rw [r.length] at z
  refine ⟨z, ?_⟩
  have hf : H1 s1.heap.objs.size = none := I1.hok.fresh (Nat.le_refl _)
  have low : s1.heap.objs.size ≠ sysModules := Nat.ne_of_gt (Nat.lt_of_lt_of_le hb (Nat.le_trans I1.ok.bsz I1.sz))
  have new : ObjOk X.prog X.w (upd H1 s1.heap.objs.size (.lst xs)) (s1.heap.push { cls := .type "list", data := .seq us.toArray }) s1.heap.objs.size (.lst xs) := ⟨by rw [r.length]; exact z, us, 0, r, Heap.get?_push_size _ rfl⟩
  exact ⟨.ref s1.heap.objs.size, _, I1.laid (t' := s1.toks) (fun b u e => Heap.get?_push_of_some _ e) (Nat.le_refl _) new, rfl, q _ hf low⟩
end
end Uq

namespace Uq
open PySem PySem.Spec PyProof.Rows L2
/-! ### own exceptions as values: their __init__ walked as a def, they and their dict tracked -/
/-- what is asked of a class of exceptions -/
structure Xcl (K : PySem.W.Frag) (C : Addr) : Prop where
  T : OexC K C
  ga : PySem.W.findIn K (.ref C) "__getattribute__" = some (some (.builtin "BaseException.__getattribute__"))
  gg : PySem.W.findIn K (.ref C) "__getattr__" = some none
  hd : PySem.W.hasDictIn K C = true
  cl : PySem.W.findIn K (.ref C) "__class__" = some (some (.builtin "object.__class__"))
  sp : PySem.W.specialIn K (.builtin "object.__class__") "__get__" = some (some (.builtin "getset_descriptor.__get__"))
  tk : PySem.W.takesIn K (.builtin "object.__class__") = some true
  mo : PySem.W.mroIn K C (.type "object") = some true
  va : PySem.W.findIn K (.ref C) "value" = some none
/-- at a: an exception of the class C that keeps v -/
def Exc (H : Hp) (a C : Addr) (v : V) : Prop := ∃ dx : Addr, H a = some (exo a C (some dx)) ∧ H dx = some (exd dx [("value", v)])
theorem Exc.same {H H' : Hp} {a C : Addr} {v : V} (e : Same H H') (h : Exc H a C v) : Exc H' a C v := by
  obtain ⟨dx, h1, h2⟩ := h
  exact ⟨dx, e _ _ h1, e _ _ h2⟩
theorem Exc.but {H H' : Hp} {a C p : Addr} {v : V} {xs : List V} (e : But p H H') (hp : H p = some (.lst xs)) (h : Exc H a C v) : Exc H' a C v := by
  obtain ⟨dx, h1, h2⟩ := h
  refine ⟨dx, e _ _ (fun z => ?_) h1, e _ _ (fun z => ?_) h2⟩
  · rw [z, hp] at h1
    cases h1
  · rw [z, hp] at h2
    cases h2
/-- C(e), C's own __init__ keeping sp, the exception kept as a value -/
def tMkV (C : Addr) (sp : Sp) (ta : TA) : TE := fun σ H Q => ta σ H fun vs H1 => vs.length ≤ 1000 ∧ ∀ a, H1 a = none → sp (.ref a :: vs) (upd H1 a (exo a C none)) (fun v H2 => v = .non ∧ Q (.ref a) H2) (fun _ _ _ => False)
section
variable {X : Cx} {p pos : Pos} {e : Expr} {es : List Expr} {ta : TA}
theorem pe_oexV {x : Str} {C fI : Addr} {k : Nat} {fd : FuncData} {ps : List Str} {sp : Sp} (T : OexC X.K C) (iC : PySem.W.findIn X.K (.ref C) "__init__" = some (some (.ref fI))) (tI : PySem.W.typeIn X.K (.ref fI) = some (.type "function"))
    (F1 : FnOk X.prog X.w X.K X.mg X.base CX0 k fI fd ps sp) (hr : Room (k + 1) X.A) (hb : Binds X.K fd ps []) (hg : Gl X x) (hm : X.mg x = some (.ref C)) (ha : PA X (e :: es) ta)
    (hdb : (x == ("__debug__" : Str)) = false := by decide) (he : starEach (e :: es) X.env = (false, eval e X.env) :: starEach es X.env := by rfl) (hpl : (backTo pos (starEach es X.env)).any (·.1) = false := by rfl) :
    PE X (.Call (.Name x p) (e :: es) [] pos) (tMkV C sp ta) := by
  constructor
  intro pins s σ H Q I h
  apply wpAny_Call_Name_kw
  refine ld_glob I hg hm ?_ hdb
  have given := thn (ha.run pos pins s σ H _ I h) (Q' := fun us s1 => X.K.In s1.heap ∧ wpAny (model X.prog X.w) X.A (call (.ref C) us) (EP X pins σ Q) X.xe s1) ?_
  · exact PySem.W.callWith_K (h₀ := X.base) I.ok.mod.kin T.kC given he hpl
  rintro us ⟨h0, gens, drawn, toks, os⟩ ⟨vs, H1, I1, rel, small, cont⟩
  refine ⟨I1.kIn, ?_⟩
  -- its class
  have T' := T
  obtain ⟨⟨_, _, _, _, bm, _, _, _, _, _, _, _, _, _, _, cls, tail⟩, _, _, _, _⟩ := T'
  -- the heap when it is made, the place of the exception
  generalize ea : h0.objs.size + 1 = a
  have above : h0.objs.size ≤ a := by omega
  have new : H1 a = none := I1.hok.fresh above
  have stays : ∀ b o, h0.get? b = some o → ((h0.push (PySem.W.kdv_tup us)).push (PySem.HandSPX.excO C h0.objs.size)).get? b = some o := by
    intro b o e
    exact Heap.get?_push_of_some _ (Heap.get?_push_of_some _ e)
  have there : ((h0.push (PySem.W.kdv_tup us)).push (PySem.HandSPX.excO C h0.objs.size)).get? a = some (PySem.HandSPX.excO C h0.objs.size) := by
    rw [← ea]
    heap_get
  have J := I1.laid (t' := toks) (o := exo a C none) stays above (exo_ok there)
  have rel' : Vals (.ref a :: vs) (.ref a :: us) := .cons rfl rel
  have run := cont a new
  have count : (Value.ref a :: us).length = ps.length := rel'.length.symm.trans (F1.len _ _ _ _ run)
  have bound := hb _ (.ref a :: us) J.kIn (by rw [List.append_nil]; exact count)
  rw [List.append_nil] at bound
  have few : us.length ≤ sizeLine := Nat.le_trans (Nat.le_of_eq rel.length.symm) (Nat.le_trans small (by decide))
  have body := F1.run _ X.stack _ _ ⟨.ref a :: us, []⟩ (.ref a :: us) _ _ (fun _ _ _ => False) (hr.make C us []) (J.env0.make C us []) bound rel' run
  subst ea
  have back := fun Y => PySem.HandSPX.refsVE_contains Y bm tail
  refine wpAny_call (PySem.HandSPX.call_own F.excBase_ValueError back (I1.kIn _ _ cls) (PySem.W.looks_findIn I1.kIn iC) (fun self => PySem.W.bind_fn I1.kIn self tI) few ?_)
  refine codeAny_mono body ?_
  rintro (_ | (_ | _ | _ | u)) s' got
  all_goals first
    | exact False.elim got
    | (obtain ⟨v, H', J', rv, ev, q⟩ := J.after got
       subst ev
       exact ⟨rv, .ref _, H', J', rfl, q⟩)
end
/-! ### isinstance and .value of such an exception -/
theorem exc_inst {P : Program} {w : World} {H : Hp} {h : Heap} {a C : Addr} {v : V} (hok : HOk P w H h) (e : Exc H a C v) : ∃ (ox od : Obj) (mA : Str → Option Value) (dx : Addr), PySem.W.InstAt h a ox C (some od) ∧ h.Ns1 dx mA ∧ h.get? dx = some od := by
  obtain ⟨dx, h1, h2⟩ := e
  obtain ⟨t1, ho⟩ := exo_at hok h1
  obtain ⟨mA, hns, rel⟩ := exd_at hok h2
  obtain ⟨od, hod, hl⟩ := lookIn_ns hns
  exact ⟨_, od, mA, dx, ⟨ho, rfl, rfl, hod⟩, hns, hod⟩
def rIsX (K : PySem.W.Frag) : List V → Hp → VK → Prop := fun xs H Q => ∃ (a C : Addr) (v c : V) (u : Value) (b : Bool), xs = [.ref a, c] ∧ ClsV c u ∧ Xcl K C ∧ Exc H a C v ∧ PySem.W.kitOne K (.ref C) u = some b ∧ Q (.bl b) H
theorem call_isX {X : Cx} : CallR X (.builtin "isinstance") (rIsX X.K) := by
  intro pins s σ H xs us Q I r h
  obtain ⟨a, C, v, c, u, b, rfl, k, T, E, e, q⟩ := h
  obtain ⟨u1, u2, rfl, r1, r2⟩ := vals2 r
  cases (show u1 = Value.ref a from r1)
  have e2 := k.eq r2
  subst e2
  obtain ⟨ox, od, mA, dx, J, _⟩ := exc_inst I.hok E
  have hcl : (PySem.W.clsIn X.K C).isSome = true := by
    obtain ⟨cd, hc, _⟩ := PySem.W.any_some T.hd
    rw [hc]
    rfl
  exact PySem.W.kia_one (PySem.W.kitx_exc (x := a) (ox := ox) (od := some od) hcl T.ga T.gg T.T.exC T.cl T.sp T.tk T.mo) I.kIn J e (fun z => nomatch z) fun tk => ⟨.bl b, H, I.tok tk, rfl, q⟩
/-- x.value -/
def tXv (K : PySem.W.Frag) (te : TE) : TE := fun σ H Q => te σ H fun x H1 => ∃ (a C : Addr) (v : V), x = .ref a ∧ Xcl K C ∧ Exc H1 a C v ∧ Q v H1
theorem pe_xv {X : Cx} {e : Expr} {te : TE} {pos : Pos} (he : PE X e te) (hb : attributeBase e "value" X.env (eval e X.env) = eval e X.env := by rfl) : PE X (.Attribute e "value" pos) (tXv X.K te) := by
  refine ⟨fun pins s σ H Q I h => ?_⟩
  refine attr_of hb (thn (he.run pins s σ H _ I h) fun u s1 hh => ?_)
  obtain ⟨x, H1, I1, rx, a, C, v, ex, T, E, q⟩ := hh
  subst ex
  obtain rfl : u = Value.ref a := rx
  obtain ⟨dx, h1, h2⟩ := E
  obtain ⟨t1, ho⟩ := exo_at I1.hok h1
  obtain ⟨mA, hns, rel⟩ := exd_at I1.hok h2
  obtain ⟨od, hod, hl⟩ := lookIn_ns hns
  obtain ⟨u, hu, ru⟩ := RelO.some_of (v := v) (o := mA "value") (rel "value")
  have J : PySem.W.InstAt s1.heap a _ C (some od) := ⟨ho, rfl, rfl, hod⟩
  exact PySem.HandSPX.exc_get I1.kIn J T.ga T.gg T.T.exC (PySem.W.findObj_own T.hd T.va rfl (by rw [hl, hu])) (handed_of ru) ⟨v, H1, I1.tok _, ru, q⟩
/-- AskedError.__init__ -/
def sp_init (K : PySem.W.Frag) : Sp := fun vs H Q _ => ∃ (a C : Addr) (v : V), vs = [.ref a, v] ∧ Xcl K C ∧ H a = some (exo a C none) ∧ ∀ dx, H dx = none → dx ≠ a → Q .non (upd (upd H dx (exd dx [("value", v)])) a (exo a C (some dx)))
/-- C(e), C's __init__ being that one -/
theorem mkV_of {K : PySem.W.Frag} {C : Addr} {ta : TA} {σ : L2.St} {H : Hp} {Q : VK} (T : Xcl K C) (h : ta σ H fun vs H1 => ∃ v, vs = [v] ∧ ∀ a H2, H1 a = none → Same H1 H2 → Exc H2 a C v → Q (.ref a) H2) (m : ∀ {P P' : List V → Hp → Prop}, (∀ vs H1, P vs H1 → P' vs H1) → ta σ H P → ta σ H P') : tMkV C (sp_init K) ta σ H Q := by
  refine m (fun vs H1 hh => ?_) h
  obtain ⟨v, rfl, q⟩ := hh
  refine ⟨by simp, fun a ha => ⟨a, C, v, rfl, T, upd_same, fun dx hd hn => ⟨rfl, q a _ ha (fun b o e => ?_) ⟨dx, upd_same, ?_⟩⟩⟩⟩
  · have n1 : b ≠ a := ne_of_none e ha
    have n2 : b ≠ dx := fun z => by
      rw [upd_ne hn] at hd
      rw [z, hd] at e
      cases e
    rw [upd_ne n1, upd_ne n2, upd_ne n1]
    exact e
  · rw [upd_ne hn, upd_same]
end Uq

namespace Uq
open PySem PySem.Spec PyProof.Rows L2
/-! ### own classes: len, in, an index -/
section
variable {X : Cx} {C f : Addr} {k : Nat} {fd : FuncData} {ps : List Str} {sp : Sp}
/-- a def called one level further in -/
theorem run_in {pins : List (Addr × Obj)} {σ : L2.St} {H : Hp} {s : Shared} {Q : VK} {us : List Value} {vs : List V} {A : Around} (F : FnOk X.prog X.w X.K X.mg X.base CX0 k f fd ps sp) (hr : Room k A) (e0 : Env0 X.prog X.w X.K X.mg X.base A X.stack s H) (hb : Binds X.K fd ps [])
    (I : Inv X pins σ H s) (r : Vals vs us) (h : sp vs H Q E0) : wpAny (model X.prog X.w) A (call (.ref f) us) (EP X pins σ Q) X.xe s := by
  have n := r.length.symm.trans (F.len _ _ _ _ h)
  have bd := hb s us I.kIn (by rw [List.append_nil]; exact n)
  rw [List.append_nil] at bd
  refine wpAny_call (codeAny_mono (F.run A X.stack s H ⟨us, []⟩ us vs Q E0 hr e0 bd r h) ?_)
  rintro (_ | (_ | _ | _ | u)) s' got
  all_goals first
    | exact False.elim got
    | exact I.after got
theorem at_ins {pins : List (Addr × Obj)} {σ : L2.St} {H : Hp} {s : Shared} {a dx : Addr} {fs : List (Str × V)} (I : Inv X pins σ H s) (e : H a = some (.ins C dx fs)) : ∃ ox od, PySem.W.InstAt s.heap a ox C (some od) := by
  obtain ⟨mA, O, _⟩ := ins_get I.hok e
  obtain ⟨od, J, _⟩ := O.look
  exact ⟨_, _, J⟩
/-- what a class must tell of one of its own dunders -/
structure Dun (K : PySem.W.Frag) (C f : Addr) (n : Str) : Prop where
  at_ : PySem.W.findIn K (.ref C) n = some (some (.ref f))
  fn : PySem.W.isFn K (.ref f) = true
def rLenO (C : Addr) (sp : Sp) : List V → Hp → VK → Prop := fun xs H Q => ∃ a dx fs, xs = [.ref a] ∧ H a = some (.ins C dx fs) ∧ sp [.ref a] H (fun v H1 => ∃ n : Int, v = .int n ∧ 0 ≤ n ∧ n < 2 ^ 63 ∧ Q (.int n) H1) E0
theorem call_lenO (d : Dun X.K C f "__len__") (F : FnOk X.prog X.w X.K X.mg X.base CX0 k f fd ps sp) (hr : Room (k + 1) X.A) (hb : Binds X.K fd ps []) : CallR X (.builtin "len") (rLenO C sp) := by
  intro pins s σ H xs us Q I r h
  obtain ⟨a, dx, fs, rfl, e, q⟩ := h
  obtain ⟨u, rfl, ru⟩ := vals1 r
  cases (show u = Value.ref a from ru)
  obtain ⟨ox, od, J⟩ := at_ins I e
  obtain ⟨m, fr⟩ := I.fr
  refine PySem.W.len_K fr I.ok.mod.kin J d.at_ d.fn ?_
  refine wpAny_mono (run_in F hr.in1 I.env0.in1 hb I (.cons (a := V.ref a) rfl .nil) q) ?_ (fun _ _ z => z)
  rintro v s' ⟨x, H1, I1, rx, n, rfl, n0, n1, q1⟩
  obtain ⟨t, rfl⟩ := rx
  exact ⟨⟨n0, n1⟩, .int n, H1, I1.tok _, ⟨_, rfl⟩, q1⟩
def rInO (C : Addr) (sp : Sp) (neg : Bool) : R2 := fun x y H Q => ∃ a dx fs, y = .ref a ∧ H a = some (.ins C dx fs) ∧ sp [.ref a, x] H (fun v H1 => ∃ b, v = .bl b ∧ Q (.bl (if neg then !b else b)) H1) E0
theorem op_inO (d : Dun X.K C f "__contains__") (F : FnOk X.prog X.w X.K X.mg X.base CX0 k f fd ps sp) (hr : Room k X.A) (hb : Binds X.K fd ps []) : OpR X (compareOp .In) (rInO C sp false) := by
  intro pins s σ H x y v u Q I rx ry h
  obtain ⟨a, dx, fs, rfl, e, q⟩ := h
  cases (show u = Value.ref a from ry)
  obtain ⟨ox, od, J⟩ := at_ins I e
  obtain ⟨m, fr⟩ := I.fr
  refine PySem.W.in_K fr I.ok.mod.kin J d.at_ d.fn ?_
  refine wpAny_mono (run_in F hr I.env0 hb I (.cons (a := V.ref a) rfl (.cons rx .nil)) q) ?_ (fun _ _ z => z)
  rintro w s' ⟨z, H1, I1, rz, b, rfl, q1⟩
  cases (show w = Value.bool b from rz)
  exact wpAny_truthy_bool ⟨.bl b, H1, I1, rfl, q1⟩
theorem op_notInO (d : Dun X.K C f "__contains__") (F : FnOk X.prog X.w X.K X.mg X.base CX0 k f fd ps sp) (hr : Room k X.A) (hb : Binds X.K fd ps []) : OpR X (compareOp .NotIn) (rInO C sp true) := by
  intro pins s σ H x y v u Q I rx ry h
  obtain ⟨a, dx, fs, rfl, e, q⟩ := h
  cases (show u = Value.ref a from ry)
  obtain ⟨ox, od, J⟩ := at_ins I e
  obtain ⟨m, fr⟩ := I.fr
  refine PySem.W.notIn_K fr I.ok.mod.kin J d.at_ d.fn ?_
  refine wpAny_mono (run_in F hr I.env0 hb I (.cons (a := V.ref a) rfl (.cons rx .nil)) q) ?_ (fun _ _ z => z)
  rintro w s' ⟨z, H1, I1, rz, b, rfl, q1⟩
  cases (show w = Value.bool b from rz)
  exact wpAny_truthy_bool ⟨.bl (!b), H1, I1, rfl, q1⟩
/-- x[i], x of an own class -/
def tIxO (C : Addr) (sp : Sp) (ta tb : TE) : TE := fun σ H Q => ta σ H fun x H1 => tb σ H1 fun y H2 => ∃ a dx fs, x = .ref a ∧ H2 a = some (.ins C dx fs) ∧ sp [.ref a, y] H2 Q E0
theorem pe_ixO {e i : Expr} {ta tb : TE} {pos : Pos} (d : Dun X.K C f "__getitem__") (hf : PySem.W.fnIn X.K f = true) (F : FnOk X.prog X.w X.K X.mg X.base CX0 k f fd ps sp) (hr : Room (k + 1) X.A) (hb : Binds X.K fd ps []) (ha : PE X e ta) (hi : PE X i tb)
    (hsl : ∀ a u, subscripted i true (.ref a) u = runValue (.builtin "lifetime.subscript" ⟨[.ref a, u], []⟩) := by intros; with_unfolding_all rfl) : PE X (.Subscript e i pos) (tIxO C sp ta tb) := by
  refine ⟨fun pins s σ H Q I h => ?_⟩
  refine Subscript_ (binT ha hi I h fun v u s2 x y H2 I2 rx ry q => ?_)
  obtain ⟨a, dx, fs, rfl, e, q⟩ := q
  cases (show v = Value.ref a from rx)
  obtain ⟨ox, od, J⟩ := at_ins I2 e
  obtain ⟨m, fr⟩ := I2.fr
  exact PySem.W.sub_K fr I2.ok.mod.kin J d.at_ hf d.fn (run_in F hr.in1 I2.env0.in1 hb I2 (.cons (a := V.ref a) rfl (.cons ry .nil)) q) (hsl _ _)
end
/-! ### slices with a step -/
def pickV {α : Type} (xs : List α) (lo hi st : Option Int) : List α := (sliceRange (sliceBounds lo hi st xs.length).1 (sliceBounds lo hi st xs.length).2.1 (sliceBounds lo hi st xs.length).2.2).filterMap (xs[·]?)
theorem vals_pick {xs : List V} {its : List Value} (r : Vals xs its) : ∀ l : List Nat, Vals (l.filterMap (xs[·]?)) (l.filterMap (its[·]?))
  | [] => .nil
  | i :: l => by
    rw [List.filterMap_cons, List.filterMap_cons]
    cases e : xs[i]? with
    | none =>
      have e2 : its[i]? = none := by
        rw [List.getElem?_eq_none_iff] at e ⊢
        rw [← r.length]
        exact e
      rw [e2]
      exact vals_pick r l
    | some x =>
      obtain ⟨u, e2, ru⟩ := r.get e
      rw [e2]
      exact .cons ru (vals_pick r l)
def tSlS (K : PySem.W.Frag) (te : TE) (tl th ts : L2.St → Hp → (Option Int → Hp → Prop) → Prop) : TE := fun σ H Q => te σ H fun x H1 => tl σ H1 fun l H2 => th σ H2 fun u H3 => ts σ H3 fun k H4 => ∃ a xs, x = .ref a ∧ SqL K H4 a xs ∧ k ≠ some 0 ∧ (pickV xs l u k).length ≤ sizeLine ∧ ∀ p, H4 p = none → Q (.ref p) (upd H4 p (.lst (pickV xs l u k)))
theorem pe_sliceS {X : Cx} {e st : Expr} {lo hi : Option Expr} {te : TE} {tl th ts : L2.St → Hp → (Option Int → Hp → Prop) → Prop} {p2 pos : Pos} (he : PE X e te) (hl : PO X lo tl) (hu : PO X hi th) (hs : PO X (some st) ts) : PE X (.Subscript e (.Slice lo hi (some st) p2) pos) (tSlS X.K te tl th ts) := by
  constructor
  intro pins s σ H Q I h
  apply Subscript_
  refine thn (he.run pins s σ H _ I h) ?_
  rintro v s1 ⟨x, H1, I1, rx, q1⟩
  apply wpAny_Slice
  refine thn (hl.run pins s1 σ H1 _ I1 q1) ?_
  rintro vl s2 ⟨l, H2, I2, pl, q2⟩
  refine thn (hu.run pins s2 σ H2 _ I2 q2) ?_
  rintro vu s3 ⟨u, H3, I3, pu, q3⟩
  refine thn (hs.run pins s3 σ H3 _ I3 q3) ?_
  rintro vk s4 ⟨k, H4, I4, pk, a, xs, rfl, hx, hk, hz, q⟩
  cases (show v = Value.ref a from rx)
  have I5 : Inv X pins σ H4 { s4 with heap := s4.heap.push { cls := .type "slice", data := .fields #[vl, vu, vk] } } := I4.kept (t' := s4.toks) fun b ob z => Heap.get?_push_of_some _ z
  obtain ⟨its, r, ht, hsz⟩ := I5.list hx
  have hlen := r.length
  have hT : typeLookup (.type "list") "__getitem__" = pure (some (.builtin _)) := slot_list_getitem.lookup
  refine tail_any (ops := [.ref a, .ref s4.heap.objs.size]) ht.isList.typeIs hT ?_ (by with_unfolding_all rfl)
  refine wpAny_getItem_list_slice ht.isList (Heap.IsSliceOf.new ..) pl pu pk hk ?_ (by rw [List.size_toArray] <;> omega)
  have es : slicePick its.toArray l u k = (pickV its l u k).toArray := by
    unfold slicePick pickV
    simp
  rw [es]
  have rel : Vals (pickV xs l u k) (pickV its l u k) := by
    unfold pickV
    rw [hlen]
    exact vals_pick r _
  refine ⟨.ref _, _, I5.laid (o := .lst (pickV xs l u k)) (fun b ob z => Heap.get?_push_of_some _ z) (Nat.le_refl _) ?_, rfl, q _ (I5.hok.fresh (Nat.le_refl _))⟩
  exact ⟨hz, _, 0, rel, Heap.get?_push_size _ rfl⟩
end Uq

namespace Uq
open PySem PySem.Spec PyProof.Rows
/-! ### enumerate(list, start=3) -/
/-- what the call hands on -/
abbrev kw3 (t : Tok) : List (Str × Value) := [("start", .int 3 t)]
theorem typeCall3 (a : Value) (t : Tok) : checkTypeCall "enumerate" ⟨[a], kw3 t⟩ = pure () := by kernel_rfl
theorem newCall3 (a : Value) (t : Tok) : checkBuiltinCall "enumerate.__new__" ⟨[.type "enumerate", a], kw3 t⟩ = pure () := by kernel_rfl
theorem initArgs3 (obj a : Value) (t : Tok) : argsOk "object.__init__" ⟨[obj, a], kw3 t⟩ := by
  first
    | exact F.args_object_init_2 obj a
    | (unfold argsOk; kernel_rfl)
    | decide +kernel
/-- the iterator and the enumerate that stand behind it -/
abbrev it0 (l : Addr) : Obj := { cls := .type "list_iterator", data := .fields #[.ref l, .int 0 0] }
abbrev en0 (it : Addr) (n : Int) : Obj := { cls := .type "enumerate", data := .fields #[.none, .bool false, .ref it, rawInt n, .none, .none] }
theorem new3 (l : Addr) (t : Tok) (items : Array Value) (n : Nat) (dct : Option Addr) (sl : Array (Option Value)) :
    Meets (Builtin.«enumerate.__new__» ⟨[.type "enumerate", .ref l], kw3 t⟩) (fun _ R s => s.heap.get? l = some { cls := .type "list", dict := dct, data := .seq items n, slots := sl } ∧
      R (.ok (.ret (.ref (s.heap.push (it0 l)).objs.size))) { s with heap := (s.heap.push (it0 l)).push (en0 s.heap.objs.size 3) }) := by
  refine .of_wp ?_
  rintro prog w A R ⟨h0, g, d, tk, os⟩ ⟨hl, q⟩
  have sub := PySem.sub_enumerate
  have isl : Heap.IsList (Shared.heap ⟨h0, g, d, tk, os⟩) l items := ⟨_, hl, rfl, n, rfl⟩
  wp_walk using AutoSeq1.wpAny_loadPart' hl
  refine wpAny_stack_any fun st => wpAny_pure ?_
  split
  · rename_i c _ _ _ _ _
    cases (c == Value.type "enumerate")
    · wp_walk using AutoSeq1.wpAny_loadPart' hl, wpAny_pyIter_list isl
      exact ⟨_, rfl, q⟩
    · wp_walk using AutoSeq1.wpAny_loadPart' hl, wpAny_pyIter_list isl
      exact ⟨_, rfl, q⟩
  · wp_walk using AutoSeq1.wpAny_loadPart' hl, wpAny_pyIter_list isl
    exact ⟨_, rfl, q⟩
end Uq

namespace Uq
open PySem PySem.Spec PyProof.Rows
section
variable {prog : Program} {w : World} {A : Around} {E : Value → Shared → Prop} {s : Shared}
theorem init3 {obj a : Value} (t : Tok) :
    Meets (Builtin.«object.__init__» ⟨[obj, a], kw3 t⟩) (fun _ R s => s.TypeIs obj "enumerate" ∧ R (.ok (.ret .none)) s) := by
  refine .of_wp ?_
  rintro prog w A R s ⟨ht, q⟩
  have hl := F.called_enumerate.init.lookup
  have hm := F.called_enumerate.made
  repeat (any_goals (first | assumption | wp_step))
  all_goals exact ⟨_, rfl, q⟩
theorem call_enum3 {l : Addr} {items : Array Value} {t : Tok} {Q : Value → Shared → Prop} (hL : s.heap.IsList l items)
    (h : ∀ h', IsEnum h' (s.heap.objs.size + 1) s.heap.objs.size 3 .none → h'.IsListIter s.heap.objs.size l 0 → h'.objs.size = s.heap.objs.size + 2 →
      (∀ b o, s.heap.get? b = some o → h'.get? b = some o) → Q (.ref (s.heap.objs.size + 1)) { s with heap := h' }) :
    wpAny (model prog w) A (call (.type "enumerate") [.ref l] (kw3 t)) Q E s := by
  obtain ⟨⟨c, dct, dt, sl⟩, hl, hc, n, hd⟩ := hL
  replace hc : c = .type "list" := hc
  replace hd : dt = .seq items n := hd
  subst hc hd
  have ft := F.called_enumerate
  obtain ⟨c, tl, hmro⟩ := ft.mro
  have hmade := ft.made
  have hsub := ft.sub
  have h1 := ft.notType
  have h2 := ft.canCreate
  refine wpAny_call (codeAny_of_tree ?_)
  show wpAny _ _ (callAny (.type "enumerate") _) _ _ _
  refine wpAny_pure ⟨Code.quiet_builtin _ (by decide +kernel), codeAny_builtin F.entry_type_call ?_⟩
  rw [Around.under_plain (weight_type_call_type "enumerate" [.ref l] (kw3 t)) (units_type_call_type "enumerate" [.ref l] (kw3 t))]
  have hct := typeCall3 (.ref l) t
  repeat (any_goals (first | assumption | wp_step))
  have hz : (s.heap.push (it0 l)).objs.size = s.heap.objs.size + 1 := Heap.size_push ..
  have made := codeAny_call_builtin (A := A.in1) (R := wants (fun obj s₁ => obj = .ref (s.heap.objs.size + 1) ∧ s₁ = { s with heap := (s.heap.push (it0 l)).push (en0 s.heap.objs.size 3) }) E) ft.plain F.entry_enumerate_new (wpAny_of_eq (newCall3 (.ref l) t) (new3 l t items n dct sl prog w A.in1 _ s ⟨hl, by rw [hz]; exact ⟨rfl, rfl⟩⟩))
  refine codeAny_mono made fun r s₁ hr => ?_
  cases r with
  | error e => exact hr
  | ok fl =>
    cases fl with
    | ret obj =>
      obtain ⟨rfl, rfl⟩ := hr
      have he : IsEnum ((s.heap.push (it0 l)).push (en0 s.heap.objs.size 3)) (s.heap.objs.size + 1) s.heap.objs.size 3 .none := by
        have z := Heap.get?_push_size (s.heap.push (it0 l)) (o := en0 s.heap.objs.size 3) rfl
        rw [hz] at z
        exact z
      have hT : (Shared.mk ((s.heap.push (it0 l)).push (en0 s.heap.objs.size 3)) s.gens s.drawn s.toks s.os).TypeIs (.ref (s.heap.objs.size + 1)) "enumerate" := ⟨_, he, rfl⟩
      have hli := ft.init.lookup
      have hbi := ft.init.bind (.ref (s.heap.objs.size + 1))
      repeat (any_goals (first | assumption | wp_step))
      have fin : Q (.ref (s.heap.objs.size + 1)) { s with heap := (s.heap.push (it0 l)).push (en0 s.heap.objs.size 3) } := h _ he ⟨_, Heap.get?_push_of_some _ (Heap.get?_push_size _ rfl), rfl, rfl⟩ (by rw [Heap.size_push, hz]) fun b o x => Heap.get?_push_of_some _ (Heap.get?_push_of_some _ x)
      refine codeAny_mono (codeAny_call_builtin ft.init.plain F.entry_object_init (ft.init.check _ _ _ _ _ _ _ _ hT (initArgs3 _ _ t) (init3 t prog w A.in1 (wants (fun r s₂ => r = .none ∧ s₂ = { s with heap := (s.heap.push (it0 l)).push (en0 s.heap.objs.size 3) }) E) _ ⟨hT, rfl, rfl⟩))) fun r₂ s₂ hr₂ => ?_
      cases r₂ with
      | error e => exact hr₂
      | ok fl₂ =>
        cases fl₂ with
        | ret r =>
          obtain ⟨rfl, rfl⟩ := hr₂
          repeat (any_goals (first | assumption | wp_step))
        | _ => exact hr₂.elim
    | _ => exact hr.elim
end
end Uq

namespace Uq
open PySem PySem.Spec PyProof.Rows L2
/-- enumerate(list, start=3): the list as it stands at each turn, each item in a new pair -/
def Ite3 (K : PySem.W.Frag) (a : Addr) : It :=
  ⟨fun i H => ∃ (xs : List V) (x : V), SqL K H a xs ∧ xs[i]? = some x,
   fun i H v H' => ∃ T x, v = .ref T ∧ H T = none ∧ H' = upd H T (.tup [.int ((i : Int) + 3), x]) ∧ ∀ xs, SqL K H a xs → xs[i]? = some x,
   fun i H => ∃ xs : List V, SqL K H a xs ∧ xs.length ≤ i⟩
theorem draws3 {prog : Program} {w : World} {A : Around} {it l : Addr} {items : Array Value} (hh : A.handled = none) (hn : l ≠ it) :
    Draws prog w A it [it, l] (items.size + 3) (fun i x => items[i - 3]? = some x) (fun i h => 3 ≤ i ∧ h.IsListIter it l (i - 3) ∧ h.IsList l items) where
  live := fun i h st => by
    obtain ⟨_, ⟨o, e, _⟩, _⟩ := st
    exact ⟨o, e⟩
  frame := fun i h h' st k => by
    obtain ⟨g, ⟨o, e, r⟩, ⟨ol, el, rl⟩⟩ := st
    exact ⟨g, ⟨o, k it (by simp) _ e, r⟩, ⟨ol, k l (by simp) _ el, rl⟩⟩
  item := fun i s Q E hi st q => by
    obtain ⟨g, hit, hl⟩ := st
    obtain ⟨x, hx⟩ : ∃ x, items[i - 3]? = some x := ⟨items[i - 3]'(by omega), Array.getElem?_eq_getElem (by omega)⟩
    refine wpAny_nextOf_list_item hit hl hx fun h' hit' sb => ?_
    have e : i + 1 - 3 = i - 3 + 1 := by omega
    refine q x h' s.toks hx ⟨by omega, by rw [e]; exact hit', ?_⟩ sb
    obtain ⟨ol, el, rl⟩ := hl
    exact ⟨ol, (sb.2 l hn).trans el, rl⟩
  done := fun s Q E st q => by
    obtain ⟨_, hit, hl⟩ := st
    exact wpAny_nextOf_list_end hh hit hl (Array.getElem?_eq_none (by omega)) q
theorem list_ne_iter {h : Heap} {it l : Addr} {i : Nat} {items : Array Value} (a : h.IsListIter it l i) (b : h.IsList l items) : l ≠ it := by
  obtain ⟨o, e, c, _⟩ := a
  obtain ⟨ol, el, cl, _⟩ := b
  intro z
  rw [z, e] at el
  cases el
  rw [c] at cl
  exact absurd (Value.type.inj cl) (by decide)
/-- the end: nothing is behind it -/
theorem draws_end {prog : Program} {w : World} {A : Around} {it l : Addr} {items : Array Value} {i : Nat} (hh : A.handled = none) (hz : items.size ≤ i) :
    Draws prog w A it [it, l] i (fun _ _ => False) (fun j h => j = i ∧ h.IsListIter it l i ∧ h.IsList l items) where
  live := fun j h st => by
    obtain ⟨_, ⟨o, e, _⟩, _⟩ := st
    exact ⟨o, e⟩
  frame := fun j h h' st k => by
    obtain ⟨g, ⟨o, e, r⟩, ⟨ol, el, rl⟩⟩ := st
    exact ⟨g, ⟨o, k it (by simp) _ e, r⟩, ⟨ol, k l (by simp) _ el, rl⟩⟩
  item := fun j s Q E hj st q => absurd hj (by rw [st.1]; exact Nat.lt_irrefl _)
  done := fun s Q E st q => by
    obtain ⟨_, hit, hl⟩ := st
    exact wpAny_nextOf_list_end hh hit hl (Array.getElem?_eq_none hz) q
theorem turn3 {P : Program} {w : World} {K : PySem.W.Frag} {elts : List Expr} {kk : Nat} {tpos : Pos} (a e it : Addr) :
    Turn P w K (.Tuple elts kk tpos) (Ite3 K a) [e, it] e (fun i h => (∃ old, IsEnum h e it ((i + 3 : Nat) : Int) old) ∧ h.IsListIter it a i ∧ e ≠ it) where
  mem := by simp
  obj := fun i h st b hb => by
    obtain ⟨⟨old, he⟩, ⟨o, ho, hc, hd⟩, _⟩ := st
    simp only [List.mem_cons, List.not_mem_nil, or_false] at hb
    rcases hb with z | z
    · rw [z]
      exact ⟨_, he, fun v q => nomatch q⟩
    · rw [z]
      refine ⟨o, ho, fun v q => ?_⟩
      rw [hd] at q
      cases q
  keep := fun i h h' st k => by
    obtain ⟨⟨old, he⟩, hi, hne⟩ := st
    exact ⟨⟨old, k e (by simp) _ he⟩, hi.at fun o q => k it (by simp) o q, hne⟩
  item := by
    intro X hP hw hK hc i pins s σ H E I hf st hg
    subst hP hw hK
    obtain ⟨⟨old, he⟩, hit, hne⟩ := st
    obtain ⟨xs, x, hq, hx⟩ := hg
    obtain ⟨its, rv, p, hz⟩ := I.list hq
    obtain ⟨u, hu, ru⟩ := rv.get hx
    have hel : e < s.heap.objs.size := Heap.lt_size he
    have hil : it < s.heap.objs.size := by
      obtain ⟨_, q, _⟩ := hit
      exact Heap.lt_size q
    have hi : i < its.length := (List.getElem?_eq_some_iff.mp hu).1
    have ea : e ≠ a := by
      intro z
      obtain ⟨ol, el, cl, _⟩ := p.isList
      have he2 : s.heap.get? e = _ := he
      rw [z, el] at he2
      cases he2
      exact absurd (Value.type.inj cl) (by decide)
    have D := draws3 (prog := X.prog) (w := X.w) (A := X.A.in1) (items := its.toArray) (I.ok.hd hc) (list_ne_iter hit p.isList)
    refine wpAny_pyNext_enum_itemD D he ⟨by omega, hit, p.isList⟩ (by simp only [List.size_toArray]; omega) hne (by simp [hne, ea]) fun y h' tk hy ho st' hT hsz hk => ?_
    have ey : y = u := by
      have z : (its.toArray)[i + 3 - 3]? = some y := hy
      rw [Nat.add_sub_cancel, List.getElem?_toArray, hu] at z
      exact (Option.some.inj z).symm
    subst ey
    obtain ⟨_, hit', _⟩ := st'
    refine ⟨_, rfl, wpAny_letOwnedTupleGo_enum (s := { s with heap := h', toks := tk + 1 }) ho fun h'' he' sb => ?_⟩
    have hT2 : h''.get? s.heap.objs.size = some { cls := .type "tuple", data := .seq #[.int ((i + 3 : Nat) : Int) tk, y] } := (sb.2 _ (Nat.ne_of_gt hel)).trans hT
    have ei : ((i + 3 : Nat) : Int) = (i : Int) + 3 := by omega
    have new : ObjOk X.prog X.w (upd H s.heap.objs.size (.tup [.int ((i : Int) + 3), x])) h'' s.heap.objs.size (.tup [.int ((i : Int) + 3), x]) :=
      ⟨by show 2 ≤ sizeLine; decide, [.int ((i : Int) + 3) tk, y], .cons ⟨_, rfl⟩ (.cons ru .nil), ⟨_, hT2, rfl, _, by rw [ei]⟩⟩
    have stays : ∀ b ob, b ∉ [e, it] → s.heap.get? b = some ob → h''.get? b = some ob := fun b ob hb q =>
      (sb.2 b (fun z => hb (by simp [z]))).trans (hk b ob (fun z => hb (by simp [z])) (fun z => hb (by simp [z])) q)
    have I1 : Inv X pins σ (upd H s.heap.objs.size (.tup [.int ((i : Int) + 3), x])) { s with heap := h'', toks := tk + 1 } := I.turnedNew (ch := [e, it]) stays hf (Nat.le_refl _) new
    refine ⟨.ref s.heap.objs.size, _, I1, rfl, ⟨_, x, rfl, I.hok.fresh (Nat.le_refl _), rfl, fun ys hy => ?_⟩, ⟨⟨y, ?_⟩, ?_, hne⟩, fun b hb => ?_⟩
    · rw [I.list_inj hy hq]
      exact hx
    · have e1 : ((i + 1 + 3 : Nat) : Int) = ((i + 3 : Nat) : Int) + 1 := by omega
      rw [e1]
      exact he'
    · have e2 : i + 3 + 1 - 3 = i + 1 := by omega
      rw [e2] at hit'
      exact hit'.at fun o q => (sb.2 it (Ne.symm hne)).trans q
    · have hb' : b < s.heap.objs.size := by
        simp only [List.mem_cons, List.not_mem_nil, or_false] at hb
        rcases hb with z | z
        · rw [z]
          exact hel
        · rw [z]
          exact hil
      rw [upd_ne (Nat.ne_of_lt hb')]
      exact (hf b hb).1
  done := by
    intro X hP hw hK hc i pins s σ H E I hf st hg
    subst hP hw hK
    obtain ⟨⟨old, he⟩, hit, hne⟩ := st
    obtain ⟨xs, hq, hx⟩ := hg
    obtain ⟨its, rv, p, hz⟩ := I.list hq
    obtain ⟨f0, f1, f2, f3, f4, f5⟩ := hf it (by simp)
    have hl := rv.length
    have D := draws_end (prog := X.prog) (w := X.w) (A := X.A.in1) (it := it) (l := a) (items := its.toArray) (i := i) (I.ok.hd hc) (by simp only [List.size_toArray]; omega)
    exact wpAny_pyNext_enum_endD D he ⟨rfl, hit, p.isList⟩ fun h' eb => ⟨rfl, I.turned (t' := s.toks) (fun b o hb q => eb b o hb q) f0 f1 f3 f4 f5⟩
  self := fun A i s Q E st h => by
    obtain ⟨⟨_, he⟩, _⟩ := st
    exact wpAny_pyIter_enum he h
/-! ### the call -/
theorem callWith_tyK {M : Model} {A : Around} {E : Value → Shared → Prop} {s : Shared} {env : Env} {pos : Pos} {T : String} {e : Expr} {rest : List Expr} {kws : List Keyword} {Q : Value → Shared → Prop}
    (h : wpAny M A (spliced (backTo pos (starEach (e :: rest) env))) (fun vs s₁ => wpAny M A (evalAll ((backToKw pos (keywordEach kws env)).map (·.2)))
      (fun kvs s₂ => wpAny M A (call (.type T) vs (((backToKw pos (keywordEach kws env)).filterMap (·.1)).zip kvs)) Q E s₂) E s₁) E s)
    (he : backTo pos (starEach (e :: rest) env) = (false, eval e env) :: backTo pos (starEach rest env)) (hp : (backTo pos (starEach (e :: rest) env)).any (·.1) = false)
    (ha : (backToKw pos (keywordEach kws env)).all (·.1.isSome) = true) (hn : (backToKw pos (keywordEach kws env)).any (·.1.isNone) = false) :
    wpAny M A (callWith pos (.type T) [] (backTo pos (starEach (e :: rest) env)) (backToKw pos (keywordEach kws env))) Q E s := by
  have args := h
  rw [he] at args
  have a2 := evalArgs_kwB (f := .type T) (Q := fun a s₁ => wpAny M A (call (.type T) ([] ++ a.pos) a.kw) Q E s₁) ha args
  rw [← he] at a2
  unfold callWith
  refine wpAny_bind (wpAny_holding (wpAny_mono a2 (fun a s₁ h₁ => wpAny_bind (wpAny_standAt ?_)) fun _ _ x => x))
  simp only [hp, hn, Bool.or_false]
  refine wpAny_bind (wpAny_pure ?_)
  exact wpAny_bind (wpAny_mono h₁ (fun r s₂ hr => wpAny_bind (wpAny_holding (wpAny_point (wpAny_pure hr)))) fun _ _ x => x)
def iEnum3 (K : PySem.W.Frag) (ta : TA) : TI := fun σ H R => ta σ H fun vs H1 => ∃ a xs, vs = [.ref a] ∧ SqL K H1 a xs ∧ R (Ite3 K a) H1
theorem pi_enum3 {X : Cx} {e : Expr} {ta : TA} {p pos tpos kp cp : Pos} {j : Nat} {elts : List Expr} {kk : Nat} (hg : Gl X "enumerate") (hm : X.mg "enumerate" = none) (ha : PA X [e] ta) (hs : starEach [e] X.env = [(false, eval e X.env)] := by rfl) :
    PI X (.Tuple elts kk tpos) (.Call (.Name "enumerate" p) [e] [⟨some "start", .Constant (.int 3) j cp, kp⟩] pos) (iEnum3 X.K ta) := by
  refine ⟨fun pins s σ H R I h => ?_⟩
  refine wpAny_Call_Name_kw (ld_blt I hg hm boot_enumerate (callWith_tyK (thn (ha.run pos pins s σ H _ I h) ?_) (he := by rw [hs]; rfl) (hp := by rw [hs]; rfl) rfl rfl) (by decide) (by decide))
  rintro us s1 ⟨vs, H1, I1, r1, a, xs, rfl, hq, q⟩
  obtain ⟨u, rfl, ru⟩ := vals1 r1
  cases (show u = Value.ref a from ru)
  refine kws_cons (thn (pe_int.run pins s1 σ H1 (fun v H2 => v = .int 3 ∧ H2 = H1) I1 ⟨rfl, rfl⟩) ?_)
  rintro k s2 ⟨y, H2, I2, rk, rfl, rfl⟩
  obtain ⟨t, rfl⟩ := rk
  refine kws_nil ?_
  obtain ⟨its, rv, p', hz⟩ := I2.list hq
  show wpAny _ _ (call (.type "enumerate") [.ref a] (kw3 t)) _ _ _
  refine call_enum3 p'.isList fun h' he hit hsz hk => wpAny_pyIter_enum he ?_
  have I3 := I2.kept (t' := s2.toks) hk
  refine ⟨s2.heap.objs.size + 1, [s2.heap.objs.size + 1, s2.heap.objs.size], _, _, H2, rfl, I3, turn3 a (s2.heap.objs.size + 1) s2.heap.objs.size, ⟨⟨.none, he⟩, hit, Nat.succ_ne_self _⟩, fun b hb => ?_, q⟩
  have hle : s2.heap.objs.size ≤ b := by
    simp only [List.mem_cons, List.not_mem_nil, or_false] at hb
    rcases hb with z | z
    · rw [z]
      exact Nat.le_add_right _ _
    · rw [z]
      exact Nat.le_refl _
  exact I2.fpOk hle (I2.hok.fresh hle)
end Uq

namespace Uq
open PySem PySem.Spec PyProof.Rows L2 PySem.W
/-! ### tuple(d): the keys of a dict -/
section
variable {prog : Program} {w : World} {A : Around} {E : Value → Shared → Prop} {s : Shared} {d : Addr} {n : Nat} {P : Nat → Value → Prop} {OK : Heap → Prop}
theorem collect_src {T : String} {Q : List Value → Shared → Prop} (K : KdlSrc prog w T d d n P OK) (hh : A.handled = none) (hok : OK s.heap) (hn : n ≤ sizeLine)
    (q : ∀ (h' : Heap) (tk : Nat) (acc : Array Value), (∀ b o, s.heap.get? b = some o → h'.get? b = some o) → ItemsOf P acc n → Q acc.toList { s with heap := h', toks := tk }) :
    wpAny (model prog w) A (collect (.ref d)) Q E s := by
  have below := (K.there _ hok).1
  unfold collect
  refine wpAny_bind (wpAny_runValue (codeAny_builtin F.entry_proto_collect ?_))
  rw [Around.under_plainId F.plain_proto_collect _]
  show wpAny _ A.in1 (newList [] >>= fun l => again (.builtin "list.__iadd__" ⟨[l, .ref d], []⟩)) _ _ s
  refine wpAny_bind (wpAny_newObj_type ?_)
  refine wpAny_pure ⟨plainId_quiet F.plain_list_iadd _, codeAny_builtin F.entry_list_iadd ?_⟩
  rw [Around.under_plainId F.plain_list_iadd _]
  show wpAny _ A.in1 (Builtin.List.listExtendWith (.ref s.heap.objs.size) (.ref d) (.ref s.heap.objs.size)) _ _ _
  generalize eh : s.heap.push { cls := .type "list", data := .seq ([] : List Value).toArray } = h1
  have there : h1.get? s.heap.objs.size = some { cls := .type "list", data := .seq #[] 0 } := by
    rw [← eh]
    exact Heap.get?_push_size _ rfl
  have old : ∀ b o, s.heap.get? b = some o → h1.get? b = some o := fun b o e => by
    rw [← eh]
    exact Heap.get?_push_of_some _ e
  have ok1 : OK h1 := K.keep _ _ hok fun b _ o e => old b o e
  have ends := kdl_extend (A := A) (s := { s with heap := h1 }) (R := fun r s' => r = .ok (.ret (.ref s.heap.objs.size)) ∧ ∃ (h' : Heap) (tk : Nat) (acc : Array Value) (c : Nat), s' = { s with heap := h', toks := tk } ∧
      (∀ b o, s.heap.get? b = some o → h'.get? b = some o) ∧ h'.get? s.heap.objs.size = some { cls := .type "list", dict := none, data := .seq acc c, slots := #[] } ∧ ItemsOf P acc n)
    K hh ok1 s.heap.objs.size (Nat.ne_of_gt below) (Nat.ne_of_gt below) (.ref s.heap.objs.size) 0 there
    (fun h' tk acc c hk e hi => ⟨rfl, h', tk, acc, c, rfl, fun b o z => hk b o (Nat.ne_of_lt (Heap.lt_size z)) (old b o z), e, hi⟩) hn
  refine wpAny_mono ends (fun fin s' h => ?_) (fun e s' h => absurd h.1 (by simp))
  cases fin with
  | done f =>
    obtain ⟨e, h', tk, acc, c, rfl, hk, hS, hi⟩ := h
    cases e
    show wpAny _ A (load s.heap.objs.size >>= _) _ _ _
    exact wpAny_bind (wpAny_load hS (wpAny_pure (q h' tk acc hk hi)))
  | again c' =>
    refine ⟨h.1, codeAny_mono h.2 fun r s'' hr => ?_⟩
    obtain ⟨rfl, h', tk, acc, c, rfl, hk, hS, hi⟩ := hr
    show wpAny _ A (load s.heap.objs.size >>= _) _ _ _
    exact wpAny_bind (wpAny_load hS (wpAny_pure (q h' tk acc hk hi)))
theorem new_tuple_src {Q : Value → Shared → Prop} (K : KdlSrc prog w "dict" d d n P OK) (hh : A.handled = none) (hok : OK s.heap) (hn : n ≤ sizeLine)
    (q : ∀ (h' : Heap) (tk : Nat) (acc : Array Value), (∀ b o, s.heap.get? b = some o → h'.get? b = some o) → ItemsOf P acc n → Q (.ref h'.objs.size) { s with heap := h'.push { cls := .type "tuple", data := .seq acc }, toks := tk }) :
    codeAny (model prog w) A (.call (.builtin "tuple.__new__") ⟨[.type "tuple", .ref d], []⟩) (wants Q E) s := by
  refine codeAny_of_tree ?_
  show wpAny _ A.in1 (do checkBuiltinCall "tuple.__new__" ⟨[.type "tuple", .ref d], []⟩; again (.builtin "tuple.__new__" ⟨[.type "tuple", .ref d], []⟩)) _ _ s
  refine wpAny_bind (wpAny_of_eq (F.newCall_tuple_1 _) (wpAny_pure ⟨plainId_quiet F.plain_tuple_new _, codeAny_builtin F.entry_tuple_new ?_⟩))
  rw [Around.under_plainId F.plain_tuple_new _]
  have f1 := sub_tuple_self
  have f2 := init_tuple_lookup
  have f3 := madeHere_tuple
  have ty := K.type s hok
  have calm : A.in1.handled = none := hh
  wp_walk using wpAny_typeOf ty, collect_src (A := A.in1) K calm hok hn
  intro h' tk acc hk hi
  show wpAny _ _ (Builtin.Tuple.tupleExact acc.toList.toArray >>= fun v => ret v) _ _ _
  unfold Builtin.Tuple.tupleExact
  have e : acc.toList.toArray = acc := by simp
  rw [e]
  refine wpAny_bind (wpAny_newObj_type ?_ (by show acc.size ≤ sizeLine; rw [hi.1]; exact hn))
  exact wpAny_pure (q h' tk acc hk hi)
theorem call_tuple_src {Q : Value → Shared → Prop} (K : KdlSrc prog w "dict" d d n P OK) (hh : A.handled = none) (hok : OK s.heap) (hn : n ≤ sizeLine)
    (q : ∀ (h' : Heap) (tk : Nat) (acc : Array Value), (∀ b o, s.heap.get? b = some o → h'.get? b = some o) → ItemsOf P acc n → Q (.ref h'.objs.size) { s with heap := h'.push { cls := .type "tuple", data := .seq acc }, toks := tk }) :
    wpAny (model prog w) A (call (.type "tuple") [.ref d]) Q E s := by
  refine callType_codes (Q₁ := fun obj s₁ => s₁.TypeIs obj "tuple" ∧ Q obj s₁) F.called_tuple (F.typeCall_tuple_1 _) F.entry_object_init
    (new_tuple_src (A := A.in1) K hh hok hn fun h' tk acc hk hi => ⟨⟨_, Heap.get?_push_size _ rfl, rfl⟩, q h' tk acc hk hi⟩) ?_
  rintro obj s₁ ⟨ty, z⟩
  exact ⟨ty, F.args_object_init_2 obj _, object_init_meets F.called_tuple.init.lookup F.called_tuple.made (by decide) prog w A.in1 _ s₁ ⟨ty, rfl, z⟩⟩
end
def keysV (kvs : List (Key × V)) : List V := kvs.map fun kv => kV kv.1
/-- tuple(d) -/
def rTupD : List V → Hp → VK → Prop := fun xs H Q => ∃ p kvs, xs = [.ref p] ∧ Rd H p (.dK kvs) ∧ ∀ q, H q = none → Q (.ref q) (upd H q (.tup (keysV kvs)))
theorem call_tuple_dK {X : Cx} (hc : X.calm = true) : CallR X (.type "tuple") rTupD := by
  intro pins s σ H xs us Q I r h
  obtain ⟨p, kvs, rfl, hk, q⟩ := h
  obtain ⟨u, rfl, rx⟩ := vals1 r
  cases (show u = Value.ref p from rx)
  obtain ⟨z, lo, vs, rk, hd⟩ := (show ObjOk X.prog X.w H s.heap p (.dK kvs) from hk.ok I.hok)
  obtain ⟨ep, hat⟩ := hd.dictAt
  have hl : kvs.length = vs.length := Paired.length rk
  refine call_tuple_src (kdl_dict (knd := mixKind X.prog X.w) (kvs := vs) (ep := ep) lo) (I.ok.hd hc) hat (by rw [← hl]; exact z) fun h' tk acc keep hacc => ?_
  have rel : Vals (keysV kvs) acc.toList := by
    have el : acc.toList.length = acc.size := by simp
    refine vals_of_at (by rw [keysV, List.length_map, el, hacc.1, hl]) fun j x v h1 h2 => ?_
    obtain ⟨k, y, hky, hi⟩ := hacc.2 j v (by rw [← Array.getElem?_toList]; exact h2)
    have e1 : (kvs.map (·.1))[j]? = some k := by
      rw [KV.keys rk, List.getElem?_map, hky]
      rfl
    have e2 : (keysV kvs)[j]? = some (kV k) := by
      have e3 : keysV kvs = (kvs.map (·.1)).map kV := by
        rw [List.map_map]
        rfl
      rw [e3, List.getElem?_map, e1]
      rfl
    rw [e2] at h1
    cases h1
    exact keyIs_rel hi
  have I1 : Inv X pins σ H { s with heap := h', toks := tk } := I.kept (t' := tk) keep
  refine ⟨.ref h'.objs.size, _, I1.laid (t' := tk) (o := .tup (keysV kvs)) (fun b ob e => Heap.get?_push_of_some _ e) (Nat.le_refl _) ⟨?_, acc.toList, rel, ⟨_, Heap.get?_push_size _ rfl, rfl, 0, by rw [Array.toArray_toList]⟩⟩, rfl, q _ (I1.hok.fresh (Nat.le_refl _))⟩
  rw [keysV, List.length_map]
  exact z
/-- the same; what the new tuple is, is handed on (it has no dict) -/
def rTupF : List V → Hp → VK → Prop := fun xs H Q => ∃ p kvs, xs = [.ref p] ∧ Rd H p (.dK kvs) ∧ ∀ t ob, H t = none → ob.dict = none → Q (.ref t) (upd H t (.frz ob (.tup (keysV kvs))))
theorem call_tuple_dF {X : Cx} (hc : X.calm = true) : CallR X (.type "tuple") rTupF := by
  intro pins s σ H xs us Q I r h
  obtain ⟨p, kvs, rfl, hk, q⟩ := h
  obtain ⟨u, rfl, rx⟩ := vals1 r
  cases (show u = Value.ref p from rx)
  obtain ⟨z, lo, vs, rk, hd⟩ := (show ObjOk X.prog X.w H s.heap p (.dK kvs) from hk.ok I.hok)
  obtain ⟨ep, hat⟩ := hd.dictAt
  have hl : kvs.length = vs.length := Paired.length rk
  refine call_tuple_src (kdl_dict (knd := mixKind X.prog X.w) (kvs := vs) (ep := ep) lo) (I.ok.hd hc) hat (by rw [← hl]; exact z) fun h' tk acc keep hacc => ?_
  have rel : Vals (keysV kvs) acc.toList := by
    have el : acc.toList.length = acc.size := by simp
    refine vals_of_at (by rw [keysV, List.length_map, el, hacc.1, hl]) fun j x v h1 h2 => ?_
    obtain ⟨k, y, hky, hi⟩ := hacc.2 j v (by rw [← Array.getElem?_toList]; exact h2)
    have e1 : (kvs.map (·.1))[j]? = some k := by
      rw [KV.keys rk, List.getElem?_map, hky]
      rfl
    have e2 : (keysV kvs)[j]? = some (kV k) := by
      have e3 : keysV kvs = (kvs.map (·.1)).map kV := by
        rw [List.map_map]
        rfl
      rw [e3, List.getElem?_map, e1]
      rfl
    rw [e2] at h1
    cases h1
    exact keyIs_rel hi
  have I1 : Inv X pins σ H { s with heap := h', toks := tk } := I.kept (t' := tk) keep
  refine ⟨.ref h'.objs.size, _, I1.laid (t' := tk) (o := .frz _ (.tup (keysV kvs))) (fun b ob e => Heap.get?_push_of_some _ e) (Nat.le_refl _) ⟨Heap.get?_push_size _ rfl, ?_, acc.toList, rel, ⟨_, Heap.get?_push_size _ rfl, rfl, 0, by rw [Array.toArray_toList]⟩⟩, rfl, q _ _ (I1.hok.fresh (Nat.le_refl _)) rfl⟩
  rw [keysV, List.length_map]
  exact z
end Uq

namespace Uq
open PySem PySem.Spec PyProof.Rows
/-! ### zip over iterators of any kind whose last tuple is still held -/
section
variable {prog : Program} {w : World} {A : Around} {E : Value → Shared → Prop} {s : Shared} {z TI TO i1 i2 T : Addr} {f : Bool} {oT : Obj} {fp1 fp2 : List Addr} {n1 n2 i : Nat} {P1 P2 : Nat → Value → Prop} {St1 St2 : Nat → Heap → Prop}
theorem held_item {Q : Value → Shared → Prop} (S : ZipSep2 z TI TO i1 i2 fp1 fp2) (D1 : Draws prog w A i1 fp1 n1 P1 St1) (D2 : Draws prog w A i2 fp2 n2 P2 St2) (hz : IsZipHeld s.heap z TI TO T f) (hT : s.heap.get? T = some oT)
    (hTI : IsTupOf2 s.heap TI (.ref i1) (.ref i2)) (st1 : St1 i s.heap) (st2 : St2 i s.heap) (l1 : i < n1) (l2 : i < n2)
    (q : ∀ x y h' tk, P1 i x → P2 i y → IsZipHeld h' z TI TO T true → St1 (i + 1) h' → St2 (i + 1) h' → IsTupOf2 h' s.heap.objs.size x y → h'.objs.size = s.heap.objs.size + 1 →
      (∀ c o, c ≠ z → c ≠ i1 → c ≠ i2 → s.heap.get? c = some o → h'.get? c = some o) → Q (.ref s.heap.objs.size) { s with heap := h', toks := tk }) :
    wpAny (model prog w) A (Builtin.«zip.__next__» ⟨[.ref z], []⟩) (fun fin s' => ∃ v, fin = .done (.ret v) ∧ Q v s') E s := by
  obtain ⟨h0, g, d, tk0, os⟩ := s
  show wpAny _ _ (field (.ref z) 2 >>= _) _ _ _
  refine wpAny_bind (wpAny_field hz rfl (x := .bool false) rfl ?_)
  show wpAny _ _ (field (.ref z) 3 >>= _) _ _ _
  refine wpAny_bind (wpAny_field hz rfl (x := .ref TI) rfl ?_)
  refine wpAny_bind (wpAny_seqItems hTI rfl ?_)
  show wpAny _ _ (Builtin.SmallTypes.ownedTupleIsFree (.ref z) >>= _) _ _ _
  refine wpAny_bind (wpAny_tupleHeld_zip hz hT fun h1 z1 b1 => ?_)
  replace b1 : Heap.SameBut z h0 h1 := b1
  simp only [Bool.false_eq_true, if_false]
  refine wpAny_bind ?_
  rw [← Array.forIn_toList]
  simp only [List.forIn_cons, List.forIn_nil]
  refine wpAny_bind (wpAny_bind (wpAny_holding ?_))
  show wpAny _ _ (Builtin.SmallTypes.nextOf (.ref i1) >>= _) _ _ _
  refine wpAny_bind (D1.item i _ _ _ l1 (D1.over st1 b1 S.zf1) fun x h2 tk2 px j1 b2 => wpAny_pure ?_)
  replace b2 : Heap.SameBut i1 h1 h2 := b2
  refine wpAny_pure ?_
  refine wpAny_bind (wpAny_bind (wpAny_holding ?_))
  show wpAny _ _ (Builtin.SmallTypes.nextOf (.ref i2) >>= _) _ _ _
  refine wpAny_bind (D2.item i _ _ _ l2 (D2.over (D2.over st2 b1 S.zf2) b2 S.sep1_2) fun y h3 tk3 py j2 b3 => wpAny_pure ?_)
  replace b3 : Heap.SameBut i2 h2 h3 := b3
  refine wpAny_pure (wpAny_pure ?_)
  show wpAny _ _ (newTuple [x, y] >>= _) _ _ _
  refine wpAny_bind (wpAny_newTuple ?_)
  have size : h3.objs.size = h0.objs.size := by rw [b3.1, b2.1, b1.1]
  have keeps : ∀ c o, c ≠ z → c ≠ i1 → c ≠ i2 → h0.get? c = some o → h3.get? c = some o := fun c o c1 c2 c3 e => b3.extBut _ _ c3 (b2.extBut _ _ c2 (b1.extBut _ _ c1 e))
  have z3 : IsZipHeld h3 z TI TO T true := b3.extBut _ _ S.zi2 (b2.extBut _ _ S.zi1 z1)
  have k1 := D1.over j1 b3 S.sep2_1
  refine wpAny_pure ⟨_, rfl, ?_⟩
  show Q (.ref h3.objs.size) _
  have new : IsTupOf2 (h3.push { cls := .type "tuple", data := .seq #[x, y] }) h3.objs.size x y := Heap.get?_push_size _ rfl
  have size4 : (h3.push { cls := .type "tuple", data := .seq #[x, y] }).objs.size = h3.objs.size + 1 := Heap.size_push ..
  rw [size] at new size4 ⊢
  exact q x y _ tk3 px py (Heap.get?_push_of_some _ z3) (D1.frame _ _ _ k1 fun b _ o e => Heap.get?_push_of_some _ e) (D2.frame _ _ _ j2 fun b _ o e => Heap.get?_push_of_some _ e) new size4 fun c o c1 c2 c3 e => Heap.get?_push_of_some _ (keeps c o c1 c2 c3 e)
theorem held_end {Q : Fin → Shared → Prop} (S : ZipSep2 z TI TO i1 i2 fp1 fp2) (D1 : Draws prog w A i1 fp1 n1 P1 St1) (D2 : Draws prog w A i2 fp2 n2 P2 St2) (hz : IsZipHeld s.heap z TI TO T f) (hT : s.heap.get? T = some oT)
    (hTI : IsTupOf2 s.heap TI (.ref i1) (.ref i2)) (st1 : St1 i s.heap) (st2 : St2 i s.heap) (l1 : i ≤ n1) (l2 : i ≤ n2) (fin : i = n1 ∨ i = n2)
    (q : ∀ h' tk e, (∀ c o, c ≠ z → c ≠ i1 → c ≠ i2 → s.heap.get? c = some o → h'.get? c = some o) → (∃ o, h'.get? e = some o ∧ o.cls = .type "StopIteration") → E (.ref e) { s with heap := h', toks := tk }) :
    wpAny (model prog w) A (Builtin.«zip.__next__» ⟨[.ref z], []⟩) Q E s := by
  obtain ⟨h0, g, d, tk0, os⟩ := s
  show wpAny _ _ (field (.ref z) 2 >>= _) _ _ _
  refine wpAny_bind (wpAny_field hz rfl (x := .bool false) rfl ?_)
  show wpAny _ _ (field (.ref z) 3 >>= _) _ _ _
  refine wpAny_bind (wpAny_field hz rfl (x := .ref TI) rfl ?_)
  refine wpAny_bind (wpAny_seqItems hTI rfl ?_)
  show wpAny _ _ (Builtin.SmallTypes.ownedTupleIsFree (.ref z) >>= _) _ _ _
  refine wpAny_bind (wpAny_tupleHeld_zip hz hT fun h1 z1 b1 => ?_)
  replace b1 : Heap.SameBut z h0 h1 := b1
  simp only [Bool.false_eq_true, if_false]
  refine wpAny_bind ?_
  rw [← Array.forIn_toList]
  simp only [List.forIn_cons, List.forIn_nil]
  refine wpAny_bind (wpAny_bind (wpAny_holding ?_))
  show wpAny _ _ (Builtin.SmallTypes.nextOf (.ref i1) >>= _) _ _ _
  have t1 := D1.over st1 b1 S.zf1
  by_cases e1 : i = n1
  · subst e1
    refine wpAny_bind (D1.done _ _ _ t1 fun h2 e b2 he => ?_)
    exact q h2 tk0 e (fun c o c1 c2 _ x => b2 _ _ c2 (b1.extBut _ _ c1 x)) he
  · have e2 : i = n2 := fin.resolve_left e1
    subst e2
    refine wpAny_bind (D1.item i _ _ _ (by omega) t1 fun x h2 tk2 px j1 b2 => wpAny_pure ?_)
    replace b2 : Heap.SameBut i1 h1 h2 := b2
    refine wpAny_pure ?_
    refine wpAny_bind (wpAny_bind (wpAny_holding ?_))
    show wpAny _ _ (Builtin.SmallTypes.nextOf (.ref i2) >>= _) _ _ _
    refine wpAny_bind (D2.done _ _ _ (D2.over (D2.over st2 b1 S.zf2) b2 S.sep1_2) fun h3 e b3 he => ?_)
    exact q h3 tk2 e (fun c o c1 c2 c3 x => b3 _ _ c3 (b2.extBut _ _ c2 (b1.extBut _ _ c1 x))) he
theorem next_held {Q : Option Value → Shared → Prop} (S : ZipSep2 z TI TO i1 i2 fp1 fp2) (D1 : Draws prog w A.in1 i1 fp1 n1 P1 St1) (D2 : Draws prog w A.in1 i2 fp2 n2 P2 St2) (hz : IsZipHeld s.heap z TI TO T f) (hT : s.heap.get? T = some oT)
    (hTI : IsTupOf2 s.heap TI (.ref i1) (.ref i2)) (st1 : St1 i s.heap) (st2 : St2 i s.heap) (l1 : i < n1) (l2 : i < n2)
    (q : ∀ x y h' tk, P1 i x → P2 i y → IsZipHeld h' z TI TO T true → St1 (i + 1) h' → St2 (i + 1) h' → IsTupOf2 h' s.heap.objs.size x y → h'.objs.size = s.heap.objs.size + 1 →
      (∀ c o, c ≠ z → c ≠ i1 → c ≠ i2 → s.heap.get? c = some o → h'.get? c = some o) → Q (some (.ref s.heap.objs.size)) { s with heap := h', toks := tk }) :
    wpAny (model prog w) A (pyNext (.ref z)) Q E s := by
  have ty : s.TypeIs (.ref z) "zip" := ⟨_, hz, rfl⟩
  unfold pyNext
  refine wpAny_bind (wpAny_attempt (wpAny_callSpecial?_slot (name := Str.ofString "__next__") ty F.slot_zip_next (wpAny_call_entry F.slot_zip_next ty F.entry_zip_next ?_ (F.args_zip_next_1 _))))
  exact held_item S D1 D2 hz hT hTI st1 st2 l1 l2 fun x y h' tk a1 a2 a3 a4 a5 a6 a7 a8 => wpAny_pure (q x y h' tk a1 a2 a3 a4 a5 a6 a7 a8)
theorem stop_held {Q : Option Value → Shared → Prop} (S : ZipSep2 z TI TO i1 i2 fp1 fp2) (D1 : Draws prog w A.in1 i1 fp1 n1 P1 St1) (D2 : Draws prog w A.in1 i2 fp2 n2 P2 St2) (hz : IsZipHeld s.heap z TI TO T f) (hT : s.heap.get? T = some oT)
    (hTI : IsTupOf2 s.heap TI (.ref i1) (.ref i2)) (st1 : St1 i s.heap) (st2 : St2 i s.heap) (l1 : i ≤ n1) (l2 : i ≤ n2) (fin : i = n1 ∨ i = n2)
    (q : ∀ h' tk, (∀ c o, c ≠ z → c ≠ i1 → c ≠ i2 → s.heap.get? c = some o → h'.get? c = some o) → Q none { s with heap := h', toks := tk }) : wpAny (model prog w) A (pyNext (.ref z)) Q E s := by
  have ty : s.TypeIs (.ref z) "zip" := ⟨_, hz, rfl⟩
  unfold pyNext
  refine wpAny_bind (wpAny_attempt (wpAny_callSpecial?_slot (name := Str.ofString "__next__") ty F.slot_zip_next (wpAny_call_entry F.slot_zip_next ty F.entry_zip_next (held_end S D1 D2 hz hT hTI st1 st2 l1 l2 fin ?_) (F.args_zip_next_1 _))))
  rintro h' tk e keeps ⟨o, ho, hc⟩
  refine wpAny_bind (wpAny_isInstance (T := "StopIteration") (b := true) ⟨o, ho, hc⟩ isSubtype_stop ?_)
  exact wpAny_pure (q _ _ keeps)
end
/-! ### such a zip as the argument of dict() -/
theorem zip_pairs {prog : Program} {w : World} {z TI TO i1 i2 : Addr} {fp1 fp2 : List Addr} {n1 n2 : Nat} {P1 P2 : Nat → Value → Prop} {St1 St2 : Nat → Heap → Prop} (S : ZipSep2 z TI TO i1 i2 fp1 fp2)
    (D1 : ∀ A : Around, A.handled = none → Draws prog w A i1 fp1 n1 P1 St1) (D2 : ∀ A : Around, A.handled = none → Draws prog w A i2 fp2 n2 P2 St2) (h1 : ∀ i h, St1 i h → ∀ b ∈ fp1, ∃ o, h.get? b = some o) (h2 : ∀ i h, St2 i h → ∀ b ∈ fp2, ∃ o, h.get? b = some o) (A0 : Around) (hA0 : A0.handled = none) :
    PairArg prog w "zip" z ([z, TI, TO] ++ (fp1 ++ fp2)) [z, TO, i1, i2] (min n1 n2) (fun i k v => P1 i k ∧ P2 i v) (fun h => IsZip h z TI TO .none ∧ IsTupOf2 h TI (.ref i1) (.ref i2) ∧ (∃ a b, IsTupOf2 h TO a b) ∧ St1 0 h ∧ St2 0 h) where
  type := fun s ok => ⟨_, ok.1, rfl⟩
  notDict := by decide
  keep := fun h h' ok k => by
    obtain ⟨hz, hTI, ⟨a, b, hTO⟩, s1, s2⟩ := ok
    exact ⟨k _ _ hz, k _ _ hTI, ⟨a, b, k _ _ hTO⟩, (D1 A0 hA0).frame _ _ _ s1 fun b _ o e => k b o e, (D2 A0 hA0).frame _ _ _ s2 fun b _ o e => k b o e⟩
  there := fun h ok b hb => by
    obtain ⟨hz, hTI, ⟨a, c, hTO⟩, s1, s2⟩ := ok
    rcases List.mem_append.mp hb with hb | hb
    · simp only [List.mem_cons, List.not_mem_nil, or_false] at hb
      rcases hb with e | e | e
      · exact ⟨_, e ▸ hz⟩
      · exact ⟨_, e ▸ hTI⟩
      · exact ⟨_, e ▸ hTO⟩
    · rcases List.mem_append.mp hb with hb | hb
      · exact h1 _ _ s1 b hb
      · exact h2 _ _ s2 b hb
  sub := fun b hb => by
    simp only [List.mem_cons, List.not_mem_nil, or_false] at hb
    rcases hb with e | e | e | e
    · rw [e]; simp
    · rw [e]; simp
    · rw [e]; exact List.mem_append_right _ (List.mem_append_left _ S.mem1)
    · rw [e]; exact List.mem_append_right _ (List.mem_append_right _ S.mem2)
  noKeys := fun A s Q E hA ok h => getAttrOr_miss_zip ok.1 rfl rfl rfl zip_no_keys (by decide +kernel) hA h
  iter := fun A s d Q E hA ok hd hdf h => by
    obtain ⟨hz, hTI, ⟨a, b, hTO⟩, s1, s2⟩ := ok
    have dz : d ≠ z := fun e => hdf (by rw [e]; simp)
    have dTI : d ≠ TI := fun e => hdf (by rw [e]; simp)
    have dTO : d ≠ TO := fun e => hdf (by rw [e]; simp)
    have d1 : d ∉ fp1 := fun e => hdf (List.mem_append_right _ (List.mem_append_left _ e))
    have d2 : d ∉ fp2 := fun e => hdf (List.mem_append_right _ (List.mem_append_right _ e))
    have di1 : d ≠ i1 := fun e => d1 (by rw [e]; exact S.mem1)
    have di2 : d ≠ i2 := fun e => d2 (by rw [e]; exact S.mem2)
    refine wpAny_pyIter_zip hz (h z [z, TO, i1, i2] (fun i h => IsTupOf2 h TI (.ref i1) (.ref i2) ∧ St1 i h ∧ St2 i h ∧
      ((IsZip h z TI TO .none ∧ ∃ a b, IsTupOf2 h TO a b) ∨ ∃ T f oT, IsZipHeld h z TI TO T f ∧ h.get? T = some oT ∧ T ≠ z ∧ T ≠ i1 ∧ T ≠ i2 ∧ T ≠ d)) s.heap s.toks ?_
      ⟨hTI, s1, s2, .inl ⟨hz, a, b, hTO⟩⟩ (fun _ _ e => e) fun b hb => .inl hb)
    exact {
      off := fun hm => by
        simp only [List.mem_cons, List.not_mem_nil, or_false] at hm
        rcases hm with e | e | e | e
        · exact dz e
        · exact dTO e
        · exact di1 e
        · exact di2 e
      frame := fun i ha hb st k => by
        obtain ⟨hTI, s1, s2, hz⟩ := st
        refine ⟨k _ _ (Ne.symm dTI) hTI, (D1 A0 hA0).frame _ _ _ s1 fun b m o e => k b o (fun q => d1 (q ▸ m)) e, (D2 A0 hA0).frame _ _ _ s2 fun b m o e => k b o (fun q => d2 (q ▸ m)) e, ?_⟩
        rcases hz with ⟨hz, a, b, hTO⟩ | ⟨T, f, oT, hz, hT, r1, r2, r3, r4⟩
        · exact .inl ⟨k _ _ (Ne.symm dz) hz, a, b, k _ _ (Ne.symm dTO) hTO⟩
        · exact .inr ⟨T, f, oT, k _ _ (Ne.symm dz) hz, k _ _ r4 hT, r1, r2, r3, r4⟩
      item := fun i sa Qa Ea hi st hds hQ => by
        obtain ⟨hTI, s1, s2, hz⟩ := st
        have l1 : i < n1 := Nat.lt_of_lt_of_le hi (Nat.min_le_left ..)
        have l2 : i < n2 := Nat.lt_of_lt_of_le hi (Nat.min_le_right ..)
        have lt : ∀ {c o}, sa.heap.get? c = some o → sa.heap.objs.size ≠ c := fun e => Nat.ne_of_gt (Heap.lt_size e)
        obtain ⟨o1, e1⟩ := h1 _ _ s1 i1 S.mem1
        obtain ⟨o2, e2⟩ := h2 _ _ s2 i2 S.mem2
        rcases hz with ⟨hz, a, b, hTO⟩ | ⟨T, f, oT, hz, hT, r1, r2, r3, r4⟩
        · refine wpAny_pyNext_zipD2_item S (D1 A.in1 hA) (D2 A.in1 hA) hz hTI hTO s1 s2 l1 l2 fun x y h' tk px py a1 a2 t1 t2 a5 a6 k => ?_
          exact hQ sa.heap.objs.size x y h' tk ⟨px, py⟩ (.inl ⟨_, a5, rfl, _, rfl⟩)
            ⟨k _ _ S.TIz S.TITO S.TIi1 S.TIi2 hTI, t1, t2, .inr ⟨sa.heap.objs.size, false, _, a1, a5, lt hz, lt e1, lt e2, Nat.ne_of_gt hds⟩⟩
            fun c o hc e => k c o (fun x => hc (by simp [x])) (fun x => hc (by simp [x])) (fun x => hc (by simp [x])) (fun x => hc (by simp [x])) e
        · refine next_held S (D1 A.in1 hA) (D2 A.in1 hA) hz hT hTI s1 s2 l1 l2 fun x y h' tk px py a1 t1 t2 a5 a6 k => ?_
          exact hQ sa.heap.objs.size x y h' tk ⟨px, py⟩ (.inl ⟨_, a5, rfl, _, rfl⟩)
            ⟨k _ _ S.TIz S.TIi1 S.TIi2 hTI, t1, t2, .inr ⟨T, true, oT, a1, k _ _ r1 r2 r3 hT, r1, r2, r3, r4⟩⟩
            fun c o hc e => k c o (fun x => hc (by simp [x])) (fun x => hc (by simp [x])) (fun x => hc (by simp [x])) e
      done := fun sa Qa Ea st hQ => by
        obtain ⟨hTI, s1, s2, hz⟩ := st
        have fin : min n1 n2 = n1 ∨ min n1 n2 = n2 := by omega
        rcases hz with ⟨hz, a, b, hTO⟩ | ⟨T, f, oT, hz, hT, r1, r2, r3, r4⟩
        · exact wpAny_pyNext_zipD2_end S (D1 A.in1 hA) (D2 A.in1 hA) hz hTI hTO s1 s2 (Nat.min_le_left ..) (Nat.min_le_right ..) fin fun h' tk k => hQ h' tk fun c o hc e => k c o (fun x => hc (by simp [x])) (fun x => hc (by simp [x])) (fun x => hc (by simp [x])) (fun x => hc (by simp [x])) e
        · exact stop_held S (D1 A.in1 hA) (D2 A.in1 hA) hz hT hTI s1 s2 (Nat.min_le_left ..) (Nat.min_le_right ..) fin fun h' tk k => hQ h' tk fun c o hc e => k c o (fun x => hc (by simp [x])) (fun x => hc (by simp [x])) (fun x => hc (by simp [x])) e }
end Uq

namespace Uq
open PySem PySem.Spec PyProof.Rows L2
/-! ### dict(zip(t, l)), t a tuple of keys, l a list -/
theorem rel_key : ∀ {k : Key} {u : Value}, RelV (kV k) u → keyIs k u = true
  | .inl i, _, ⟨t, e⟩ => by
    rw [e]
    exact keyIs_int i t
  | .inr x, _, ⟨t, e⟩ => by
    rw [e]
    exact keyIs_str x t
theorem kv_zip : ∀ {ks : List Key} {ys : List V} {us : List Value}, Vals ys us → KV (ks.zip ys) (ks.zip us)
  | [], _, _, _ => .nil
  | _ :: _, _, _, .nil => .nil
  | k :: ks, _, _, .cons r rs => .cons ⟨rfl, r⟩ (kv_zip rs)
def tDz (K : PySem.W.Frag) (ta : TA) : TE := fun σ H Q => ta σ H fun vs H1 => ∃ (a b : Addr) (ks : List Key) (ys : List V), vs = [.ref a, .ref b] ∧ SqT K H1 a (ks.map kV) ∧ SqL K H1 b ys ∧ ∀ p, H1 p = none → Q (.ref p) (upd H1 p (.dK (mergeK [] (ks.zip ys))))
theorem ltA {x y : Nat} (h : x < y) : ¬ (show Addr from x) = y := Nat.ne_of_lt h
theorem gtA {x y : Nat} (h : y < x) : ¬ (show Addr from x) = y := Nat.ne_of_gt h
theorem notin2 {x u v : Addr} (h1 : ¬ x = u) (h2 : ¬ x = v) : x ∉ [u, v] := by
  simp only [List.mem_cons, List.not_mem_nil, or_false, not_or]
  exact ⟨h1, h2⟩
theorem apart5 {a b n : Nat} (ha : a < n) (hb : b < n) : ZipSep2 (n + 4) (n + 2) (n + 3) n (n + 1) [n, a] [n + 1, b] where
  TIz := ltA (by omega)
  TOz := ltA (by omega)
  TITO := ltA (by omega)
  TIi1 := gtA (by omega)
  mem1 := List.mem_cons_self
  zf1 := notin2 (gtA (by omega)) (gtA (by omega))
  Tf1 := notin2 (gtA (by omega)) (gtA (by omega))
  TIi2 := gtA (by omega)
  mem2 := List.mem_cons_self
  zf2 := notin2 (gtA (by omega)) (gtA (by omega))
  Tf2 := notin2 (gtA (by omega)) (gtA (by omega))
  sep1_2 := notin2 (ltA (by omega)) (gtA (by omega))
  sep2_1 := notin2 (gtA (by omega)) (gtA (by omega))
theorem pe_dz {X : Cx} {e1 e2 : Expr} {ta : TA} {p1 p2 q1 q2 : Pos} (hc : X.calm = true) (hgd : Gl X "dict") (hmd : X.mg "dict" = none) (hgz : Gl X "zip") (hmz : X.mg "zip" = none) (ha : PA X [e1, e2] ta)
    (hs : starEach [e1, e2] X.env = (false, eval e1 X.env) :: starEach [e2] X.env := by rfl) (hpl : ∀ pos : Pos, (backTo pos (starEach [e2] X.env)).any (·.1) = false := by intro _; rfl) :
    PE X (.Call (.Name "dict" p1) [.Call (.Name "zip" p2) [e1, e2] [] q2] [] q1) (tDz X.K ta) := by
  refine ⟨fun pins s σ H Q I h => ?_⟩
  refine wpAny_Call_Name_kw (ld_blt I hgd hmd boot_dict ?_ (by decide) (by decide))
  refine PyProof.Rows.callWith_type1 ?_ rfl rfl
  refine args_cons ?_ rfl
  refine Call_ (ld_blt I hgz hmz boot_zip (PyProof.Rows.callWith_type1 (thn (ha.run q2 pins s σ H _ I h) ?_) hs (hpl q2)))
  rintro us s1 ⟨vs, H1, I1, r1, a, b, ks, ys, rfl, ht, hl, q⟩
  obtain ⟨u1, u2, rfl, ra, rb⟩ := vals2 r1
  cases (show u1 = Value.ref a from ra)
  cases (show u2 = Value.ref b from rb)
  obtain ⟨its, rv, pt, hz⟩ := I1.tuple ht
  obtain ⟨its2, rv2, pl, hz2⟩ := I1.list hl
  have isT : s1.heap.IsTuple a its.toArray := pt
  have isL := pl.isList
  have la : a < s1.heap.objs.size := by
    obtain ⟨o, e, _⟩ := isT
    exact Heap.lt_size e
  have lb : b < s1.heap.objs.size := by
    obtain ⟨o, e, _⟩ := isL
    exact Heap.lt_size e
  refine zip_begins2 (begins_tuple a its.toArray) (begins_list b its2.toArray) isT isL fun h' hz' hTI hTO g1 g2 hsz hk => ?_
  refine args_nil ?_
  generalize en : s1.heap.objs.size = n at *
  have isT' : h'.IsTuple a its.toArray := isT.at fun o e => hk _ o e
  have isL' : h'.IsList b its2.toArray := isL.at fun o e => hk _ o e
  have P := zip_pairs (prog := X.prog) (w := X.w) (apart5 la lb) (n1 := its.toArray.size) (n2 := its2.toArray.size)
    (fun A hA => Draws.tuple hA n a (Nat.ne_of_lt la) its.toArray) (fun A hA => Draws.list hA (n + 1) b (Nat.ne_of_lt (Nat.lt_succ_of_lt lb)) its2.toArray)
    (fun i h st c hcm => by
      obtain ⟨⟨o, e, _⟩, o2, e2, _⟩ := st
      simp only [List.mem_cons, List.not_mem_nil, or_false] at hcm
      rcases hcm with z | z
      · exact ⟨o, z ▸ e⟩
      · exact ⟨o2, z ▸ e2⟩)
    (fun i h st c hcm => by
      obtain ⟨⟨o, e, _⟩, o2, e2, _⟩ := st
      simp only [List.mem_cons, List.not_mem_nil, or_false] at hcm
      rcases hcm with z | z
      · exact ⟨o, z ▸ e⟩
      · exact ⟨o2, z ▸ e2⟩) X.A (I1.ok.hd hc)
  have lk : ks.length = its.length := by
    have z := rv.length
    rw [List.length_map] at z
    exact z
  have have' : PairsHave (mixKind X.prog X.w) (min its.toArray.size its2.toArray.size) (fun i k v => its.toArray[i]? = some k ∧ its2.toArray[i]? = some v) (ks.zip its2) := by
    refine ⟨by rw [List.length_zip, List.size_toArray, List.size_toArray, lk], fun i key v r => ?_⟩
    obtain ⟨e1, e2⟩ := r
    rw [List.getElem?_toArray] at e1 e2
    have hi : i < ks.length := by
      rw [lk]
      exact (List.getElem?_eq_some_iff.mp e1).1
    have ek : ks[i]? = some ks[i] := List.getElem?_eq_getElem hi
    refine ⟨ks[i], ?_, ?_⟩
    · rw [List.getElem?_zip_eq_some]
      exact ⟨ek, e2⟩
    · have em : (ks.map kV)[i]? = some (kV ks[i]) := by
        rw [List.getElem?_map, ek]
        rfl
      obtain ⟨u, eu, ru⟩ := rv.get em
      rw [e1] at eu
      cases eu
      exact rel_key ru
  have small : min its.toArray.size its2.toArray.size ≤ sizeLine := by
    rw [List.size_toArray, List.size_toArray, ← rv2.length]
    exact Nat.le_trans (Nat.min_le_right ..) hz2
  refine PySem.call_dict_pairs (knd := mixKind X.prog X.w) P (I1.ok.hd hc) ⟨hz', hTI, ⟨_, _, hTO⟩, ⟨⟨_, g1, rfl, rfl⟩, isT'⟩, ⟨⟨_, g2, rfl, rfl⟩, isL'⟩⟩ have' small fun h'' tk hd' k => ?_
  have old : ∀ c o, s1.heap.get? c = some o → h''.get? c = some o := fun c o e => by
    have lc : c < n := en ▸ Heap.lt_size e
    have lc' : (c : Nat) < n := lc
    refine k c o ?_ (hk c o e)
    simp only [List.mem_cons, List.not_mem_nil, or_false, not_or]
    exact ⟨ltA (Nat.lt_of_lt_of_le lc' (Nat.le_add_right _ _)), ltA (Nat.lt_of_lt_of_le lc' (Nat.le_add_right _ _)), ltA lc', ltA (Nat.lt_of_lt_of_le lc' (Nat.le_add_right _ _))⟩
  have big := I1.big
  rw [en] at big
  have below : s1.heap.objs.size ≤ h'.objs.size := by
    rw [en, hsz]
    exact Nat.le_add_right _ _
  have hm : (h'.objs.size == sysModules) = false := by
    rw [hsz]
    exact beq_eq_false_iff_ne.mpr (Nat.ne_of_gt (Nat.lt_of_lt_of_le big (Nat.le_add_right _ _)))
  have rel := kv_zip (ks := ks) rv2
  have hlen : (mergeK [] (ks.zip ys)).length ≤ sizeLine := by
    refine Nat.le_trans (length_mergeK (ks.zip ys) []) ?_
    rw [List.length_nil, Nat.zero_add, List.length_zip]
    exact Nat.le_trans (Nat.min_le_right ..) hz2
  exact ⟨.ref h'.objs.size, _, I1.laid (t' := tk) (a := h'.objs.size) (o := .dK (mergeK [] (ks.zip ys))) old below (show ObjOk X.prog X.w _ _ _ (.dK (mergeK [] (ks.zip ys))) from ⟨hlen, hm, merged [] (ks.zip its2), KV.merge rel .nil, hd'⟩), rfl, q _ (I1.hok.fresh below)⟩
end Uq

namespace Uq
open PySem PySem.Spec PyProof.Rows L2
/-! ### in, not in: data within a tuple of data -/
section
variable {X : Cx}
def rInTp (K : PySem.W.Frag) (neg : Bool) : R2 := fun x y H Q => ∃ d ds, Dp K H x d ∧ Dp K H y (.tuple ds) ∧ SeqAt.shaped d = true ∧ SeqAt.shaped (.tuple ds) = true ∧ Q (.bl (if neg then !(ds.any fun z => PyData.eqv z d) else ds.any fun z => PyData.eqv z d)) H
theorem op_inTp (hu : X.A.units + 65 < cLine) : OpR X (compareOp .In) (rInTp X.K false) := by
  intro pins s σ H x y v u Q I rx ry ⟨d, ds, hd, he, sd, se, q⟩
  obtain ⟨as, r1⟩ := Dp.reads I d x v hd rx
  obtain ⟨bs, r2⟩ := Dp.reads I (.tuple ds) y u he ry
  exact SeqAt.in_tuple_reads r2 r1 (SeqAt.canLay_of_shaped se) (SeqAt.canLay_of_shaped sd) (room_in_shaped sd hu) ⟨.bl _, H, I, rfl, q⟩
theorem op_notInTp (hu : X.A.units + 65 < cLine) : OpR X (compareOp .NotIn) (rInTp X.K true) := by
  intro pins s σ H x y v u Q I rx ry ⟨d, ds, hd, he, sd, se, q⟩
  obtain ⟨as, r1⟩ := Dp.reads I d x v hd rx
  obtain ⟨bs, r2⟩ := Dp.reads I (.tuple ds) y u he ry
  exact SeqAt.notIn_tuple_reads r2 r1 (SeqAt.canLay_of_shaped se) (SeqAt.canLay_of_shaped sd) (room_in_shaped sd hu) ⟨.bl _, H, I, rfl, q⟩
end
/-- a list display: its place is none of the top's -/
theorem pe_lstN {X : Cx} {es : List Expr} {t : TA} {pos : Pos} (h : PA X es t) : PE X (.List es pos) (tLstB t) := by
  constructor
  intro pins s σ H Q I hq
  apply wpAny_List_spliced
  apply thn (h.run pos pins s σ H _ I hq)
  rintro us s1 ⟨xs, H1, I1, r, z, q⟩
  rw [r.length] at z
  refine ⟨z, ?_⟩
  have hf : H1 s1.heap.objs.size = none := I1.hok.fresh (Nat.le_refl _)
  have new : ObjOk X.prog X.w (upd H1 s1.heap.objs.size (.lst xs)) (s1.heap.push { cls := .type "list", data := .seq us.toArray }) s1.heap.objs.size (.lst xs) := ⟨by rw [r.length]; exact z, us, 0, r, Heap.get?_push_size _ rfl⟩
  exact ⟨.ref s1.heap.objs.size, _, I1.laid (t' := s1.toks) (fun b u e => Heap.get?_push_of_some _ e) (Nat.le_refl _) new, rfl, q _ hf (Nat.ne_of_gt I1.big)⟩
end Uq

namespace Uq
open PySem PySem.Spec PyProof.Rows L2
theorem all_rep (k : Nat) : (List.replicate k true).all id = true := by
  rw [List.all_eq_true]
  intro x hx
  exact (List.mem_replicate.mp hx).2
def topS (i : Nat) : Stmt := PySem.Challenge.pw_anyasked_k07_pages_at_their_bounds.main.body.getD i (.Pass ⟨0, 0, 0, 0⟩)
abbrev s_wall : Stmt := topS 0
abbrev N_wall : List Str := ["k"]
theorem sc_wall : FnScope N_wall ["k"] (defScope s_wall) := ⟨rfl, rfl, rfl, by decide +kernel, rfl, by decide +kernel, by decide +kernel⟩
abbrev s_is_integer : Stmt := topS 8
abbrev N_is_integer : List Str := ["value"]
theorem sc_is_integer : FnScope N_is_integer ["value"] (defScope s_is_integer) := ⟨rfl, rfl, rfl, by decide +kernel, rfl, by decide +kernel, by decide +kernel⟩
abbrev s_is_name : Stmt := topS 9
abbrev N_is_name : List Str := ["value"]
theorem sc_is_name : FnScope N_is_name ["value"] (defScope s_is_name) := ⟨rfl, rfl, rfl, by decide +kernel, rfl, by decide +kernel, by decide +kernel⟩
abbrev s_read_number : Stmt := topS 10
abbrev N_read_number : List Str := ["word", "most", "number"]
theorem sc_read_number : FnScope N_read_number ["word", "most"] (defScope s_read_number) := ⟨rfl, rfl, rfl, by decide +kernel, rfl, by decide +kernel, by decide +kernel⟩
abbrev s_is_units : Stmt := topS 14
abbrev N_is_units : List Str := ["value", "base", "how"]
theorem sc_is_units : FnScope N_is_units ["value"] (defScope s_is_units) := ⟨rfl, rfl, rfl, by decide +kernel, rfl, by decide +kernel, by decide +kernel⟩
abbrev s_is_share : Stmt := topS 15
abbrev N_is_share : List Str := ["units", "value"]
theorem sc_is_share : FnScope N_is_share ["units", "value"] (defScope s_is_share) := ⟨rfl, rfl, rfl, by decide +kernel, rfl, by decide +kernel, by decide +kernel⟩
abbrev s_way_up : Stmt := topS 22
abbrev N_way_up : List Str := ["lines", "part", "way"]
theorem sc_way_up : FnScope N_way_up ["lines", "part"] (defScope s_way_up) := ⟨rfl, rfl, rfl, by decide +kernel, rfl, by decide +kernel, by decide +kernel⟩
abbrev s_ends_among : Stmt := topS 23
abbrev N_ends_among : List Str := ["lines", "wholes", "line", "part"]
theorem sc_ends_among : FnScope N_ends_among ["lines"] (defScope s_ends_among) := ⟨rfl, rfl, rfl, by decide +kernel, rfl, by decide +kernel, by decide +kernel⟩
abbrev s_read_page : Stmt := topS 24
abbrev N_read_page : List Str := ["text", "rows", "units", "row"]
theorem sc_read_page : FnScope N_read_page ["text"] (defScope s_read_page) := ⟨rfl, rfl, rfl, by decide +kernel, rfl, by decide +kernel, by decide +kernel⟩
abbrev s_read_units : Stmt := topS 25
abbrev N_read_units : List Str := ["words", "units"]
theorem sc_read_units : FnScope N_read_units ["words"] (defScope s_read_units) := ⟨rfl, rfl, rfl, by decide +kernel, rfl, by decide +kernel, by decide +kernel⟩
abbrev s_is_asked : Stmt := topS 26
abbrev N_is_asked : List Str := ["words"]
theorem sc_is_asked : FnScope N_is_asked ["words"] (defScope s_is_asked) := ⟨rfl, rfl, rfl, by decide +kernel, rfl, by decide +kernel, by decide +kernel⟩
abbrev s_read_parts : Stmt := topS 27
abbrev N_read_parts : List Str := ["units", "first", "rows", "lines", "number", "words", "line", "part"]
theorem sc_read_parts : FnScope N_read_parts ["units", "first", "rows"] (defScope s_read_parts) := ⟨rfl, rfl, rfl, by decide +kernel, rfl, by decide +kernel, by decide +kernel⟩
abbrev s_read_part : Stmt := topS 28
abbrev N_read_part : List Str := ["units", "lines", "words", "part", "above", "marks", "shares", "told", "word"]
theorem sc_read_part : FnScope N_read_part ["units", "lines", "words"] (defScope s_read_part) := ⟨rfl, rfl, rfl, by decide +kernel, rfl, by decide +kernel, by decide +kernel⟩
abbrev s_read_share : Stmt := topS 29
abbrev N_read_share : List Str := ["units", "word"]
theorem sc_read_share : FnScope N_read_share ["units", "word"] (defScope s_read_share) := ⟨rfl, rfl, rfl, by decide +kernel, rfl, by decide +kernel, by decide +kernel⟩
abbrev s_is_too_much : Stmt := topS 30
abbrev N_is_too_much : List Str := ["lines", "part"]
theorem sc_is_too_much : FnScope N_is_too_much ["lines", "part"] (defScope s_is_too_much) := ⟨rfl, rfl, rfl, by decide +kernel, rfl, by decide +kernel, by decide +kernel⟩
abbrev s_write_page : Stmt := topS 31
abbrev N_write_page : List Str := ["units", "lines", "base", "how", "rows", "part"]
theorem sc_write_page : FnScope N_write_page ["units", "lines"] (defScope s_write_page) := ⟨rfl, rfl, rfl, by decide +kernel, rfl, by decide +kernel, by decide +kernel⟩
abbrev s_write_line : Stmt := topS 32
abbrev N_write_line : List Str := ["part", "line", "above", "share", "far", "row"]
theorem sc_write_line : FnScope N_write_line ["part", "line"] (defScope s_write_line) := ⟨rfl, rfl, rfl, by decide +kernel, rfl, by decide +kernel, by decide +kernel⟩
abbrev s_law_pot : Stmt := topS 34
abbrev N_law_pot : List Str := ["_law_script", "_law_place", "_law_cell", "_law_own", "_law_small"]
theorem sc_law_pot : FnScope N_law_pot ["_law_script", "_law_place"] (defScope s_law_pot) := ⟨rfl, rfl, rfl, by decide +kernel, rfl, by decide +kernel, by decide +kernel⟩
abbrev s_law_take : Stmt := topS 35
abbrev N_law_take : List Str := ["_law_pot_here", "_law_upto", "_law_digit", "_law_prime", "_law_stir"]
theorem sc_law_take : FnScope N_law_take ["_law_pot_here", "_law_upto"] (defScope s_law_take) := ⟨rfl, rfl, rfl, by decide +kernel, rfl, by decide +kernel, by decide +kernel⟩
abbrev s_law_some : Stmt := topS 36
abbrev N_law_some : List Str := ["_law_pot_here", "_law_pool", "_law_many", "_law_left", "_law_found", "_law_lap"]
theorem sc_law_some : FnScope N_law_some ["_law_pot_here", "_law_pool", "_law_many"] (defScope s_law_some) := ⟨rfl, rfl, rfl, by decide +kernel, rfl, by decide +kernel, by decide +kernel⟩
abbrev s_law_cells : Stmt := topS 37
abbrev N_law_cells : List Str := ["_law_script", "_law_most"]
theorem sc_law_cells : FnScope N_law_cells ["_law_script", "_law_most"] (defScope s_law_cells) := ⟨rfl, rfl, rfl, by decide +kernel, rfl, by decide +kernel, by decide +kernel⟩
abbrev s_law_names : Stmt := topS 38
abbrev N_law_names : List Str := ["_law_pot_here", "_law_many", "_law_pool"]
theorem sc_law_names : FnScope N_law_names ["_law_pot_here", "_law_many"] (defScope s_law_names) := ⟨rfl, rfl, rfl, by decide +kernel, rfl, by decide +kernel, by decide +kernel⟩
abbrev s_law_told : Stmt := topS 39
abbrev N_law_told : List Str := ["_law_look", "_law_caught", "_law_back", "error"]
theorem sc_law_told : FnScope N_law_told ["_law_look"] (defScope s_law_told) := ⟨rfl, rfl, rfl, by decide +kernel, rfl, by decide +kernel, by decide +kernel⟩
abbrev s_law_head_cases : Stmt := topS 40
abbrev N_law_head_cases : List Str := ["_law_names_here", "_law_a", "_law_b", "_law_line", "_law_tail", "_law_found"]
theorem sc_law_head_cases : FnScope N_law_head_cases ["_law_names_here"] (defScope s_law_head_cases) := ⟨rfl, rfl, rfl, by decide +kernel, rfl, by decide +kernel, by decide +kernel⟩
abbrev s_law_share_cases : Stmt := topS 41
abbrev N_law_share_cases : List Str := ["_law_names_here", "_law_a", "_law_b", "_law_head", "_law_line", "_law_found", "_law_tail"]
theorem sc_law_share_cases : FnScope N_law_share_cases ["_law_names_here"] (defScope s_law_share_cases) := ⟨rfl, rfl, rfl, by decide +kernel, rfl, by decide +kernel, by decide +kernel⟩
abbrev s_law_tree_cases : Stmt := topS 42
abbrev N_law_tree_cases : List Str := ["_law_names_here", "_law_a", "_law_b", "_law_c", "_law_d", "_law_e", "_law_head", "_law_chain", "_law_wide", "_law_found", "_law_nine", "_law_name", "_law_at"]
theorem sc_law_tree_cases : FnScope N_law_tree_cases ["_law_names_here"] (defScope s_law_tree_cases) := ⟨rfl, rfl, rfl, by decide +kernel, rfl, by decide +kernel, by decide +kernel⟩
abbrev s_law_is_told : Stmt := topS 43
abbrev N_law_is_told : List Str := ["_law_lines", "_law_number", "_law_caught", "_law_page"]
theorem sc_law_is_told : FnScope N_law_is_told ["_law_lines", "_law_number"] (defScope s_law_is_told) := ⟨rfl, rfl, rfl, by decide +kernel, rfl, by decide +kernel, by decide +kernel⟩
abbrev s_law_right : Stmt := topS 44
abbrev N_law_right : List Str := ["_law_pot_here", "_law_names_here", "_law_cases", "_law_lines", "_law_number"]
theorem sc_law_right : FnScope N_law_right ["_law_pot_here"] (defScope s_law_right) := ⟨rfl, rfl, rfl, by decide +kernel, rfl, by decide +kernel, by decide +kernel⟩
abbrev s_law : Stmt := topS 45
abbrev N_law : List Str := ["_law_script", "_law_place"]
theorem sc_law : FnScope N_law ["_law_script"] (defScope s_law) := ⟨rfl, rfl, rfl, by decide +kernel, rfl, by decide +kernel, by decide +kernel⟩

section
variable {P : Program} {w : World} {K : PySem.W.Frag} {mg : Str → Option Value} {base : Heap}
theorem ok_law_take {f : Addr} {fd : FuncData} (F : Fun K "_law_take" "_law_take" s_law_take f fd) (m_int : mg "int" = none) : FnOk P w K mg base CX0 1 f fd ["_law_pot_here", "_law_upto"] (sp_law_take K) := by
  refine F.ok sc_law_take (fun vs H Q E h => ?_) (fun cdv A outer s H vs Q E hr h => ?_)
  · obtain ⟨p, c, u, rfl, _⟩ := h
    rfl
  · refine ⟨_, (pss_cons (ps_if (pt_cmpR op_gt (pe_ix ix_list (pv 0) pe_int (fun _ _ => rfl)) pe_int (nomark _)) (pss_cons (ps_set (i := 2) sc_law_take.nd rfl (.inl rfl) (pe_op op_mod (pe_callTy call_int1 (by rfl) m_int (by decide +kernel) (pa_cons (pe_ix ix_list (pv 0) pe_int (fun _ _ => rfl)) pa_nil)) (pv 1)))
        (pss_cons (ps_asg (pe_op op_fdivW (pe_ix ix_list (pv 0) pe_int (fun _ _ => rfl)) (pv 1)) (pg_sub (pv 0) pe_int set_list))
        (pss_one (ps_ret (pv 2))))) pss_nil)
      (pss_cons (ps_asg (pe_op op_add (pe_ix ix_list (pv 0) pe_int (fun _ _ => rfl)) pe_int) (pg_sub (pv 0) pe_int set_list))
      (pss_cons (ps_set (i := 3) sc_law_take.nd rfl (.inl rfl) (pe_ix ix_list (pe_lst (pa_cons pe_int (pa_cons pe_int (pa_cons pe_int (pa_cons pe_int (pa_cons pe_int pa_nil)))))) (pe_op op_mod (pe_callTy call_int1 (by rfl) m_int (by decide +kernel) (pa_cons (pe_ix ix_list (pv 0) pe_int (fun _ _ => rfl)) pa_nil)) pe_int) (fun _ _ => rfl)))
      (pss_cons (ps_set (i := 4) sc_law_take.nd rfl (.inl rfl) (pe_op op_mod (pe_callTy call_int1 (by rfl) m_int (by decide +kernel) (pa_cons (pe_op op_powW (pe_callTy call_int1 (by rfl) m_int (by decide +kernel) (pa_cons (pe_op op_add (pe_op op_add (pe_ix ix_list (pv 0) pe_int (fun _ _ => rfl)) (pe_op op_mul (pe_op op_mul pe_int (pe_ix ix_list (pv 0) pe_int (fun _ _ => rfl))) (pe_ix ix_list (pv 0) pe_int (fun _ _ => rfl)))) pe_int) pa_nil)) pe_int) pa_nil)) (pv 3)))
      (pss_cons (ps_set (i := 4) sc_law_take.nd rfl (.inl rfl) (pe_op op_mod (pe_callTy call_int1 (by rfl) m_int (by decide +kernel) (pa_cons (pe_op op_mul (pv 4) (pe_op op_add (pe_op op_mod (pe_callTy call_int1 (by rfl) m_int (by decide +kernel) (pa_cons (pv 4) pa_nil)) pe_int) (pe_op op_mul pe_int (pe_ix ix_list (pv 0) pe_int (fun _ _ => rfl))))) pa_nil)) pe_int))
      (pss_one (ps_ret (pe_op op_mod (pe_callTy call_int1 (by rfl) m_int (by decide +kernel) (pa_cons (pe_op op_fdivW (pv 4) pe_int) pa_nil)) (pv 1))))))))), ?_⟩
    obtain ⟨p, c, u, rfl, ⟨o, sd, n, hp, o0, o1, s0, s1, n0, n1⟩, hc, hu, hu2, q⟩ := h
    refine ⟨.ref p, rfl, p, _, 0, .int o, rfl, rfl, SqL.of hp, atI_nat (j := 0) rfl, o, 0, rfl, rfl, _, rfl, ite2 (fun e => ?_) (fun e => ?_)⟩
    · have e0 : 0 < o := of_decide_eq_true e
      -- the digit
      refine ⟨.ref p, rfl, p, _, 0, .int o, rfl, rfl, SqL.of hp, atI_nat (j := 0) rfl, .inl ⟨o, rfl, .int u, rfl, o, u, rfl, rfl, (by show (0 : Int) < u; omega), ?_⟩⟩
      refine ⟨.ref p, rfl, p, _, 0, .int o, rfl, rfl, SqL.of hp, atI_nat (j := 0) rfl, .int u, rfl, o, u, rfl, rfl, wide_div (b := 62) (by omega) (by omega) (by decide) (by decide), ?_⟩
      refine ⟨.ref p, rfl, p, _, 0, 0, rfl, rfl, hp, rfl, ?_⟩
      refine ⟨.int (o % u), rfl, ?_⟩
      refine q _ _ (But.refl _ _).put ⟨o / u, sd, n, upd_same, Int.ediv_nonneg (by omega) (by omega), Int.lt_of_le_of_lt (Int.ediv_le_self _ o0) o1, s0, s1, n0, by omega⟩ (Int.emod_nonneg _ (by omega)) (Int.emod_lt_of_pos _ (by omega))
    · -- the count
      refine ⟨.ref p, rfl, p, _, 2, .int n, rfl, rfl, SqL.of hp, atI_nat (j := 2) rfl, n, 1, rfl, rfl, .ref p, rfl, p, _, 2, 2, rfl, rfl, hp, rfl, ?_⟩
      generalize hG : L2.upd H p _ = G
      have hg : G p = some (.lst [.int o, .int sd, .int (n + 1)]) := by
        rw [← hG]
        exact upd_same
      have hB : But p H G := by
        rw [← hG]
        exact (But.refl _ _).put
      refine ⟨by show 5 ≤ sizeLine; decide, fun l nl => ?_⟩
      have hg2 : (upd G l (.lst [.int 2147483647, .int 2147483629, .int 2147483587, .int 2147483579, .int 2147483563])) p = some (.lst [.int o, .int sd, .int (n + 1)]) := by
        rw [upd_ne (ne_of_none hg nl)]
        exact hg
      have hB2 : But p H (upd G l (.lst [.int 2147483647, .int 2147483629, .int 2147483587, .int 2147483579, .int 2147483563])) := hB.new nl
      refine ⟨.ref p, rfl, p, _, 2, .int (n + 1), rfl, rfl, SqL.of hg2, atI_nat (j := 2) rfl, .inl ⟨n + 1, rfl, n + 1, 5, rfl, rfl, (by show (0 : Int) < 5; decide), ?_⟩⟩
      have hpr : ∃ (k : Nat) (z : Int), (n + 1) % 5 = (k : Int) ∧ [V.int 2147483647, .int 2147483629, .int 2147483587, .int 2147483579, .int 2147483563][k]? = some (.int z) ∧ 1 ≤ z ∧ z < 2147483648 := by
        have a0 : 0 ≤ (n + 1) % 5 := Int.emod_nonneg _ (by decide)
        have a1 : (n + 1) % 5 < 5 := Int.emod_lt_of_pos _ (by decide)
        obtain e | e | e | e | e : (n + 1) % 5 = 0 ∨ (n + 1) % 5 = 1 ∨ (n + 1) % 5 = 2 ∨ (n + 1) % 5 = 3 ∨ (n + 1) % 5 = 4 := by omega
        · exact ⟨0, _, e, rfl, by decide, by decide⟩
        · exact ⟨1, _, e, rfl, by decide, by decide⟩
        · exact ⟨2, _, e, rfl, by decide, by decide⟩
        · exact ⟨3, _, e, rfl, by decide, by decide⟩
        · exact ⟨4, _, e, rfl, by decide, by decide⟩
      obtain ⟨k, z, ek, ez, z1, z2⟩ := hpr
      refine ⟨l, _, _, .int z, rfl, rfl, SqL.of upd_same, at_of ek ez, ?_⟩
      generalize hG2 : L2.upd G l _ = G2 at hg2 hB2 ⊢
      -- the stir
      refine ⟨.ref p, rfl, p, _, 1, .int sd, rfl, rfl, SqL.of hg2, atI_nat (j := 1) rfl, .ref p, rfl, p, _, 2, .int (n + 1), rfl, rfl, SqL.of hg2, atI_nat (j := 2) rfl, _, n + 1, rfl, rfl, .inl ⟨by decide, by decide⟩,
        .ref p, rfl, p, _, 2, .int (n + 1), rfl, rfl, SqL.of hg2, atI_nat (j := 2) rfl, _, n + 1, rfl, rfl, .inl ⟨by omega, by omega⟩, sd, _, rfl, rfl, _, _, rfl, rfl, .inl ⟨_, rfl, ?_⟩⟩
      generalize hx : sd + _ = x
      have hx1 : (x + 75).natAbs < 2 ^ 200 := by
        have h9 : (n + 1) * (n + 1) ≤ 100000 * 100000 := Int.mul_le_mul (by omega) (by omega) (by omega) (by decide)
        have h8 : 0 ≤ (n + 1) * (n + 1) := Int.mul_nonneg (by omega) (by omega)
        have h7 := Int.mul_assoc 110157 (n + 1) (n + 1)
        omega
      refine ⟨_, 3, rfl, rfl, powW_ok (j := 3) hx1 (by decide), .inl ⟨_, rfl, .int z, rfl, _, z, rfl, rfl, (by show (0 : Int) < z; omega), ?_⟩⟩
      dsimp only
      generalize hy : (x + 75) ^ _ % z = y
      have y0 : 0 ≤ y := by
        rw [← hy]
        exact Int.emod_nonneg _ (by omega)
      have y1 : y < z := by
        rw [← hy]
        exact Int.emod_lt_of_pos _ (by omega)
      refine ⟨.int y, rfl, .int y, rfl, .inl ⟨y, rfl, y, _, rfl, rfl, (by show (0 : Int) < 10093; decide), .ref p, rfl, p, _, 2, .int (n + 1), rfl, rfl, SqL.of hg2, atI_nat (j := 2) rfl, _, n + 1, rfl, rfl, .inl ⟨by decide, by decide⟩, _, _, rfl, rfl, y, _, rfl, rfl, .inl ⟨by omega, by omega⟩,
        .inl ⟨_, rfl, _, _, rfl, rfl, (by show (0 : Int) < 2305843009213693907; decide), ?_⟩⟩⟩
      dsimp only
      generalize ht : _ % (2305843009213693907 : Int) = t
      refine ⟨.int t, rfl, t, _, rfl, rfl, wide_div (b := 62) (by decide) (by decide) (by decide) (by decide), .inl ⟨_, rfl, .int u, rfl, _, u, rfl, rfl, (by show (0 : Int) < u; omega), ?_⟩⟩
      exact q _ _ hB2 ⟨o, sd, n + 1, hg2, o0, o1, s0, s1, by omega, by omega⟩ (Int.emod_nonneg _ (by omega)) (Int.emod_lt_of_pos _ (by omega))


theorem ok_law_cells {f : Addr} {fd : FuncData} (F : Fun K "_law_cells" "_law_cells" s_law_cells f fd) (m_range : mg "range" = none) (m_max : mg "max" = none) (m_min : mg "min" = none) (m_len : mg "len" = none) (m_list : mg "list" = none) : FnOk P w K mg base CX0 1 f fd ["_law_script", "_law_most"] (sp_law_cells K) := by
  refine F.ok sc_law_cells (fun vs H Q E h => ?_) (fun cdv A outer s H vs Q E hr h => ?_)
  · obtain ⟨a, ns, m, rfl, _⟩ := h
    rfl
  · refine ⟨_, (pss_one (ps_ret (pe_listRg rfl (by rfl) m_list (prg_1 (by rfl) m_range (pe_callB (call_max2 rfl) (by rfl) m_max (by decide +kernel) (pa_cons pe_int (pa_cons (pe_callB (call_min2 rfl) (by rfl) m_min (by decide +kernel) (pa_cons (pv 1) (pa_cons (pe_callB call_len_seq (by rfl) m_len (by decide +kernel) (pa_cons (pv 0) pa_nil)) pa_nil))) pa_nil))))))), ?_⟩
    obtain ⟨a, ns, m, rfl, hl, hn, hm, hm2, q⟩ := h
    refine ⟨.int m, rfl, .ref a, rfl, a, _, rfl, .inl hl, m, _, rfl, 1, _, rfl, _, rfl, ?_, ?_⟩
    · refine RgOk.of_le (by decide) ?_ (by decide) ?_ <;> (rw [List.length_map]; split <;> split <;> omega)
    · intro l nl
      have ek : ∃ k : Nat, (if (if ((ns.map V.int).length : Int) < m then ((ns.map V.int).length : Int) else m) > 1 then (if ((ns.map V.int).length : Int) < m then ((ns.map V.int).length : Int) else m) else 1) = (k : Int) ∧ 1 ≤ k ∧ k ≤ 63 := by
        rw [List.length_map]
        refine ⟨(if (if (ns.length : Int) < m then (ns.length : Int) else m) > 1 then (if (ns.length : Int) < m then (ns.length : Int) else m) else 1).toNat, ?_, ?_, ?_⟩ <;> (split <;> split <;> omega)
      obtain ⟨k, e1, k1, k2⟩ := ek
      rw [e1]
      exact q _ l k nl (sameU nl) upd_same k1 k2

theorem ok_law_pot {f : Addr} {fd : FuncData} (F : Fun K "_law_pot" "_law_pot" s_law_pot f fd) (m_len : mg "len" = none) (m_int : mg "int" = none) (m_abs : mg "abs" = none) : FnOk P w K mg base CX0 1 f fd ["_law_script", "_law_place"] (sp_law_pot K) := by
  refine F.ok sc_law_pot (fun vs H Q E h => ?_) (fun cdv A outer s H vs Q E hr h => ?_)
  · obtain ⟨a, ns, m, rfl, _⟩ := h
    rfl
  · refine ⟨_, (pss_cons (ps_set (i := 2) sc_law_pot.nd rfl (.inl rfl) (pe_ifExp (pt_cmpR op_lt (pv 1) (pe_callB call_len_seq (by rfl) m_len (by decide +kernel) (pa_cons (pv 0) pa_nil)) (nomark _)) (pe_ix ix_list (pv 0) (pv 1) (fun _ _ => rfl)) (pe_op op_add (pe_op op_mul pe_int (pv 1)) pe_int)))
      (pss_cons (ps_set (i := 3) sc_law_pot.nd rfl (.inl rfl) (pe_op op_mul (pe_op op_mod (pe_callTy call_int1 (by rfl) m_int (by decide +kernel) (pa_cons (pe_callB call_abs (by rfl) m_abs (by decide +kernel) (pa_cons (pv 2) pa_nil)) pa_nil)) (pe_op op_powW (pe_op op_powW pe_int pe_int) pe_int)) (pe_callTy call_int1 (by rfl) m_int (by decide +kernel) (pa_cons (pe_cmpR op_ge (pe_callB call_abs (by rfl) m_abs (by decide +kernel) (pa_cons (pv 2) pa_nil)) (pe_op op_powW pe_int pe_int) (nomark _)) pa_nil))))
      (pss_cons (ps_set (i := 4) sc_law_pot.nd rfl (.inl rfl) (pe_op op_mod (pe_callTy call_int1 (by rfl) m_int (by decide +kernel) (pa_cons (pv 2) pa_nil)) pe_int))
      (pss_one (ps_ret (pe_lst (pa_cons (pv 3) (pa_cons (pe_op op_mod (pe_callTy call_int1 (by rfl) m_int (by decide +kernel) (pa_cons (pe_op op_add (pe_op op_add (pe_op op_mul (pv 4) pe_int) (pe_op op_mul (pe_op op_mul pe_int (pv 1)) (pv 1))) pe_int) pa_nil)) pe_int) (pa_cons pe_int pa_nil))))))))), ?_⟩
    obtain ⟨a, ns, m, rfl, hl, hn, hm, hm2, q⟩ := h
    refine rd_cell hl hm ⟨by decide, by decide⟩ rfl rfl fun z => ?_
    refine ⟨.int z, rfl, z, rfl, .inl ⟨_, rfl, 10, 60, rfl, rfl, bigB, _, 5, rfl, rfl, bigA, _, _, rfl, rfl, big_pos, .int z, rfl, z, rfl, 10, 18, rfl, rfl, bigC, _, _, rfl, rfl, .inr ⟨_, rfl, _, _, rfl, rfl, .inr (b01 _), ?_⟩⟩⟩
    · dsimp only
      have o0 := own_ok (if z < 0 then -z else z) (decide ((10 : Int) ^ (18 : Int).toNat ≤ if z < 0 then -z else z))
      generalize ((if z < 0 then -z else z) % ((10 : Int) ^ (60 : Int).toNat) ^ (5 : Int).toNat) * (if decide ((10 : Int) ^ (18 : Int).toNat ≤ if z < 0 then -z else z) = true then (1 : Int) else 0) = o at o0 ⊢
      refine ⟨.int z, rfl, .inl ⟨z, rfl, z, _, rfl, rfl, (by show (0 : Int) < 2305843009213693951; decide), ?_⟩⟩
      dsimp only
      generalize hz : z % 2305843009213693951 = y
      refine ⟨.int o, rfl, .int y, rfl, y, _, rfl, rfl, .inr ⟨by decide, by decide⟩, .int m, rfl, _, m, rfl, rfl, .inl ⟨by decide, by decide⟩, .int m, rfl, _, m, rfl, rfl, .inr ⟨by omega, by omega⟩, _, _, rfl, rfl, _, _, rfl, rfl, .inl ⟨_, rfl, _, _, rfl, rfl, (by show (0 : Int) < 2305843009213693921; decide), ?_⟩⟩
      refine ⟨by show 3 ≤ sizeLine; decide, fun p np => ?_⟩
      refine q _ p np (sameU np) ⟨o, _, 0, upd_same, o0.1, o0.2, Int.emod_nonneg _ (by decide), ?_, by decide, by decide⟩
      exact Int.lt_trans (Int.emod_lt_of_pos _ (by decide)) (by decide)
end
end Uq

namespace Uq
open PySem PySem.Spec PyProof.Rows L2

/-! ### units -/
def How (h : Str) : Prop := h = "near" ∨ h = "even" ∨ h = "down" ∨ h = "up"
def Un (K : PySem.W.Frag) (H : Hp) (u : Addr) (b : Int) (h : Str) : Prop := SqT K H u [.int b, .str h] ∧ 2 ≤ b ∧ b ≤ 100 ∧ How h
theorem Un.same {K : PySem.W.Frag} {H H' : Hp} {u : Addr} {b : Int} {h : Str} (e : Same H H') (x : Un K H u b h) : Un K H' u b h := ⟨sqT_same e x.1, x.2⟩
theorem Un.but {K : PySem.W.Frag} {H H' : Hp} {p u : Addr} {b : Int} {h : Str} (e : But p H H') (n : u ≠ p) (x : Un K H u b h) : Un K H' u b h := ⟨e.seqT n x.1, x.2⟩
/-- a tuple of the module's own -/
def TupK (K : PySem.W.Frag) (a : Addr) (xs : List V) : Prop := ∃ (o : Obj) (its : Array Value) (n : Nat), K.lookup a = some o ∧ o.cls = .type "tuple" ∧ o.data = .seq its n ∧ its.size ≤ sizeLine ∧ Vals xs its.toList
def hows : List V := [.str "near", .str "even", .str "down", .str "up"]
theorem in_hows {h : Str} (x : How h) : inV (.str h) hows = true := by
  rcases x with rfl | rfl | rfl | rfl <;> decide +kernel
theorem ty_tup {K : PySem.W.Frag} {H : Hp} {a : Addr} {xs : List V} (h : SqT K H a xs) : TyX K H (.ref a) (.type "tuple") := by
  rcases h with (h | ⟨o, h⟩) | ⟨o, its, n, h, hc, _⟩
  · exact .base (.tup h)
  · exact .fTuple h
  · exact .kTuple h hc
def sp_is_integer (K : PySem.W.Frag) : Sp := fun vs H Q _ => ∃ i : Int, vs = [.int i] ∧ Q (.bl true) H
def sp_is_units (K : PySem.W.Frag) : Sp := fun vs H Q _ => ∃ (u : Addr) (b : Int) (h : Str), vs = [.ref u] ∧ Un K H u b h ∧ Q (.bl true) H
/-- many / whole rounded -/
def rnd (h : Str) (a b : Int) : Int := if h = "down" ∨ a % b = 0 then a / b else if h = "up" ∨ b < 2 * (a % b) then a / b + 1 else if 2 * (a % b) < b then a / b else if h = "near" then a / b + 1 else a / b + a / b % 2
def sp_rounded (K : PySem.W.Frag) : Sp := fun vs H Q _ => ∃ (h : Str) (a b : Int), vs = [.str h, .int a, .int b] ∧ 0 < b ∧ b < 2 ^ 62 ∧ ∀ H', Same H H' → Q (.int (rnd h a b)) H'
def sp_shown (K : PySem.W.Frag) : Sp := fun vs H Q _ => ∃ (u : Addr) (b : Int) (h : Str) (a c : Int), vs = [.ref u, .int a, .int c] ∧ Un K H u b h ∧ 0 < c ∧ c < 2 ^ 62 ∧ 0 ≤ a ∧ a ≤ c ∧ ∀ H', Same H H' → Q (.int (rnd h (b * a) c)) H'
def sp_law_rounded (K : PySem.W.Frag) : Sp := fun vs H Q _ => ∃ (h : Str) (a b : Int), vs = [.str h, .int a, .int b] ∧ How h ∧ 0 < b ∧ b < 2 ^ 62 ∧ Q (.int (rnd h a b)) H
/-- drawn units -/
def sp_law_units (K : PySem.W.Frag) : Sp := fun vs H Q _ => ∃ (p : Addr) (c : Nat) (m : Int), vs = [.ref p, .int m] ∧ Pot H p c ∧ c < 90000 ∧ 2 ≤ m ∧ m ≤ 100 ∧
  ∀ H' u b h, H p ≠ none → But p H H' → Pot H' p (c + 2) → H u = none → u ≠ p → Un K H' u b h → b ≤ m → H' u = some (.tup [.int b, .str h]) → Q (.ref u) H'
theorem str_of {h x : Str} (e : decide (V.str h = V.str x) = true) : h = x := V.str.inj (of_decide_eq_true e)
theorem str_not {h x : Str} (e : ¬ decide (V.str h = V.str x) = true) : h ≠ x := fun z => e (decide_eq_true (by rw [z]))
theorem int_of {i j : Int} (e : decide (V.int i = V.int j) = true) : i = j := V.int.inj (of_decide_eq_true e)
theorem int_not {i j : Int} (e : ¬ decide (V.int i = V.int j) = true) : i ≠ j := fun z => e (decide_eq_true (by rw [z]))
theorem no_pylong {a b : Int} (h : 0 < b) (h2 : b < 2 ^ 62) : CDivP a b := ⟨h, PyProof.noPylong_of_log2 (Nat.lt_of_lt_of_le (PySem.Flt.log2_lt_of (show 0 < 62 by decide) (show b.natAbs < 2 ^ 62 by omega)) (by decide))⟩
section
variable {P : Program} {w : World} {K : PySem.W.Frag} {mg : Str → Option Value} {base : Heap}
end
end Uq

namespace Uq
open PySem PySem.Spec PyProof.Rows L2

/-! ### numbers and names as words -/
def nS (n : Nat) : Str := Str.ofString (toString (n : Int))
theorem num_facts : ∀ n : Nat, n < 101 → Txt.isdecimal (nS n) = true ∧ PySem.intText? (nS n) = some (n : Int) ∧ (nS n).length = (if n < 10 then 1 else if n < 100 then 2 else 3) ∧ nS n ≠ Str.ofString "none" ∧ nS n ≠ Str.ofString "some" := by decide +kernel
theorem num_len {n m : Nat} (h : n ≤ m) (hm : m < 101) : (nS n).length ≤ (nS m).length := by
  rw [(num_facts n (by omega)).2.2.1, (num_facts m hm).2.2.1]
  repeat' split
  all_goals omega
theorem small_log {n : Nat} (h : n < 101) : (n : Int).natAbs.log2 < 1920 := by
  have e : ∀ n : Nat, n < 101 → (n : Int).natAbs.log2 < 1920 := by decide +kernel
  exact e n h
structure Nm (x : Str) : Prop where
  low : 1 ≤ x.length
  up : x.length ≤ 8
  asc : Txt.isascii x = true
  alp : Txt.isalpha x = true
  lwr : Txt.islower x = true
/-- a share as it is told by units b -/
inductive Shw (b : Nat) : V → Str → Prop
  | none : Shw b (.str "none") "none"
  | some : Shw b (.str "some") "some"
  | num (n : Nat) (h : n ≤ b) : Shw b (.int n) (nS n)
def wordsV : List V := [.str "none", .str "some"]
section
variable {P : Program} {w : World} {K : PySem.W.Frag} {mg : Str → Option Value} {base : Heap}
end
end Uq

namespace Uq
open PySem PySem.Spec PyProof.Rows L2
/-! ### data beside the pot -/
/-- all that is tracked but at p -/
def off (p : Addr) (H : Hp) : Hp := fun b => if b = p then none else H b
theorem off_ne {p b : Addr} {H : Hp} (h : b ≠ p) : off p H b = H b := if_neg h
theorem off_same {p : Addr} {H : Hp} : off p H p = none := if_pos rfl
theorem off_sub {p : Addr} {H : Hp} : Same (off p H) H := fun b o e => by
  by_cases z : b = p
  · rw [z, off_same] at e
    cases e
  · rw [off_ne z] at e
    exact e
theorem But.off {p : Addr} {H H' : Hp} (e : But p H H') : Same (off p H) (off p H') := fun b o h => by
  by_cases z : b = p
  · rw [z, off_same] at h
    cases h
  · rw [off_ne z] at h ⊢
    exact e b o z h
theorem DxAll.length {K : PySem.W.Frag} {H : Hp} : ∀ {ds : List PyData} {vs : List V}, DxAll K H vs ds → vs.length = ds.length
  | _, _, .nil => rfl
  | _, _, .cons _ h => congrArg (· + 1) (DxAll.length h)
theorem DxAll.append {K : PySem.W.Frag} {H : Hp} {es : List PyData} {us : List V} (g : DxAll K H us es) : ∀ {ds : List PyData} {vs : List V}, DxAll K H vs ds → DxAll K H (vs ++ us) (ds ++ es)
  | _, _, .nil => g
  | _, _, .cons a h => .cons a (DxAll.append g h)
theorem DxAll.at {K : PySem.W.Frag} {H : Hp} : ∀ {ds : List PyData} {vs : List V} {i : Nat} {v : V}, DxAll K H vs ds → vs[i]? = some v → ∃ d, d ∈ ds ∧ Dx K H v d
  | _, _, i, _, .nil, e => by simp at e
  | _, _, 0, _, .cons a h, e => by
    cases Option.some.inj e
    exact ⟨_, List.mem_cons_self, a⟩
  | _, _, i + 1, _, .cons a h, e => by
    obtain ⟨d, m, x⟩ := DxAll.at (i := i) h e
    exact ⟨d, List.mem_cons_of_mem _ m, x⟩
section
variable {K : PySem.W.Frag} {p : Addr} {c c1 c2 : Nat} {σ : L2.St} {H0 : Hp}
/-- a display: from wherever on, it gives new data, one of S -/
def Disp (K : PySem.W.Frag) (p : Addr) (c c' : Nat) (σ : L2.St) (H0 : Hp) (te : TE) (S : PyData → Prop) : Prop := ∀ H Q, But p H0 H → Pot H p c → (∀ v H1 d, S d → But p H H1 → Pot H1 p c' → Dx K (off p H1) v d → Q v H1) → te σ H Q
def DispA (K : PySem.W.Frag) (p : Addr) (c c' : Nat) (σ : L2.St) (H0 : Hp) (ta : TA) (S : List PyData → Prop) : Prop := ∀ H Q, But p H0 H → Pot H p c → (∀ vs H1 ds, S ds → But p H H1 → Pot H1 p c' → DxAll K (off p H1) vs ds → Q vs H1) → ta σ H Q
theorem disp_v {te : TE} {v : V} {d : PyData} (h : ∀ H Q, Q v H → te σ H Q) (x : ∀ H, Dx K H v d) : Disp K p c c σ H0 te (· = d) := fun H Q hB hP q => h H Q (q v H d rfl (But.refl _ _) hP (x _))
theorem disp_c {v : V} {d : PyData} (x : ∀ H, Dx K H v d) : Disp K p c c σ H0 (tC v) (· = d) := disp_v (fun _ _ q => q) x
theorem disp_var {i : Nat} {v : V} {d : PyData} (e : σ[i]? = some (some v)) (x : Dx K (off p H0) v d) : Disp K p c c σ H0 (tVar i) (· = d) := fun H Q hB hP q => ⟨v, e, q v H d rfl (But.refl _ _) hP (x.same hB.off)⟩
theorem disp_nil : DispA K p c c σ H0 tNil (· = []) := fun H Q hB hP q => q [] H [] rfl (But.refl _ _) hP .nil
theorem disp_cons {te : TE} {ta : TA} {d : PyData} {ds : List PyData} (h : Disp K p c c1 σ H0 te (· = d)) (g : DispA K p c1 c2 σ H0 ta (· = ds)) : DispA K p c c2 σ H0 (tCons te ta) (· = d :: ds) := by
  intro H Q hB hP q
  refine h H _ hB hP fun v H1 d1 e1 hB1 hP1 x1 => ?_
  cases e1
  refine g H1 _ (hB.trans hB1) hP1 fun vs H2 ds2 e2 hB2 hP2 x2 => ?_
  cases e2
  exact q (v :: vs) H2 _ rfl (hB1.trans hB2) hP2 (.cons (x1.same hB2.off) x2)
/-- the same, of some of many -/
theorem disp_consS {te : TE} {ta : TA} {S : PyData → Prop} {SA SB : List PyData → Prop} (h : Disp K p c c1 σ H0 te S) (g : DispA K p c1 c2 σ H0 ta SA) (m : ∀ d ds, S d → SA ds → SB (d :: ds)) : DispA K p c c2 σ H0 (tCons te ta) SB := by
  intro H Q hB hP q
  refine h H _ hB hP fun v H1 d1 e1 hB1 hP1 x1 => ?_
  refine g H1 _ (hB.trans hB1) hP1 fun vs H2 ds2 e2 hB2 hP2 x2 => ?_
  exact q (v :: vs) H2 _ (m _ _ e1 e2) (hB1.trans hB2) hP2 (.cons (x1.same hB2.off) x2)
theorem disp_tupS {ta : TA} {SA : List PyData → Prop} {S : PyData → Prop} (h : DispA K p c c1 σ H0 ta SA) (m : ∀ ds, SA ds → ds.length ≤ sizeLine ∧ S (.tuple ds)) : Disp K p c c1 σ H0 (tTup ta) S := by
  intro H Q hB hP q
  refine h H _ hB hP fun vs H1 ds e hB1 hP1 x => ⟨by rw [x.length]; exact (m ds e).1, fun a ha => ?_⟩
  have n : a ≠ p := hP1.ne ha
  exact q _ _ (.tuple ds) (m ds e).2 (hB1.new ha) (hP1.new ha) (.tup (.inl (.inl (by rw [off_ne n, upd_same]))) (x.same (But.refl p H1 |>.new ha |>.off)))
theorem disp_lstS {ta : TA} {SA : List PyData → Prop} {S : PyData → Prop} (h : DispA K p c c1 σ H0 ta SA) (m : ∀ ds, SA ds → ds.length ≤ sizeLine ∧ S (.list ds)) : Disp K p c c1 σ H0 (tLstB ta) S := by
  intro H Q hB hP q
  refine h H _ hB hP fun vs H1 ds e hB1 hP1 x => ⟨by rw [x.length]; exact (m ds e).1, fun a ha hs => ?_⟩
  have n : a ≠ p := hP1.ne ha
  exact q _ _ (.list ds) (m ds e).2 (hB1.new ha) (hP1.new ha) (.lst (by rw [off_ne n, upd_same]) hs (x.same (But.refl p H1 |>.new ha |>.off)))
theorem disp_tup {ta : TA} {ds : List PyData} (h : DispA K p c c1 σ H0 ta (· = ds)) (z : ds.length ≤ sizeLine := by decide) : Disp K p c c1 σ H0 (tTup ta) (· = .tuple ds) := disp_tupS h fun es e => by
  cases e
  exact ⟨z, rfl⟩
theorem disp_lst {ta : TA} {ds : List PyData} (h : DispA K p c c1 σ H0 ta (· = ds)) (z : ds.length ≤ sizeLine := by decide) : Disp K p c c1 σ H0 (tLstB ta) (· = .list ds) := disp_lstS h fun es e => by
  cases e
  exact ⟨z, rfl⟩
theorem disp_dct0 : Disp K p c c σ H0 tDNewK (· = .dict []) := by
  intro H Q hB hP q a ha
  have n : a ≠ p := hP.ne ha
  exact q _ _ _ rfl ((But.refl _ _).new ha) (hP.new ha) (.dct (kvs := []) (by rw [off_ne n, upd_same]) rfl .nil)
/-- {x: e}, a text as its key, e a name -/
theorem disp_dct1 {i : Nat} {v : V} {d : PyData} {x : Str} (e : σ[i]? = some (some v)) (dx : Dx K (off p H0) v d) : Disp K p c c σ H0 (tDisp [(tC (.str x), tVar i)]) (· = .dict [(.str x, d)]) := by
  intro H Q hB hP q a ha
  have n : a ≠ p := hP.ne ha
  refine ⟨v, e, upd_same, [(.inr x, v)], rfl, by show 1 ≤ 15; decide, ?_⟩
  have hB2 : But p H (upd (upd H a (.dK [])) a (.dK (mergeK [] [(.inr x, v)]))) := fun b o nb eb => by
    have nba : b ≠ a := ne_of_none eb ha
    rw [upd_ne nba, upd_ne nba]
    exact eb
  exact q _ _ _ rfl hB2 ((hP.upd (Ne.symm n)).upd (Ne.symm n)) (.dct (kvs := [(.inr x, v)]) (by rw [off_ne n, upd_same]; rfl) rfl (.cons (dx.same (hB.trans hB2).off) .nil))
/-! ### steps -/
theorem seq_set {te : TE} {i : Nat} {u : TS} {D : Ends} {σ : L2.St} {H : Hp} (h : te σ H fun x H1 => u D (σ.set i (some x)) H1) : tSeq (tAsg te (gName i)) u D σ H := h
theorem lst_in {ta : TA} {σ : L2.St} {H : Hp} {Q : VK} (h : ta σ H fun xs H1 => xs.length ≤ sizeLine ∧ ∀ p, H1 p = none → Q (.ref p) (upd H1 p (.lst xs))) : tLst ta σ H Q := h
theorem op_in {r : R2} {ta tb : TE} {σ : L2.St} {H : Hp} {Q : VK} (h : ta σ H fun x H1 => tb σ H1 fun y H2 => r x y H2 Q) : tOp r ta tb σ H Q := h
theorem call_in {sp : Sp} {ta : TA} {E : XK} {σ : L2.St} {H : Hp} {Q : VK} (h : ta σ H fun vs H1 => sp (vs ++ []) H1 Q E) : tCall sp [] E ta σ H Q := h
theorem ret_in {te : TE} {D : Ends} {σ : L2.St} {H : Hp} (h : te σ H D.rt) : tRet te D σ H := h
theorem cb_in {r : List V → Hp → VK → Prop} {ta : TA} {σ : L2.St} {H : Hp} {Q : VK} (h : ta σ H fun vs H1 => r vs H1 Q) : tCB r ta σ H Q := h
/-! ### values of any kind -/
def odds1 : List PyData := [.none, .bool true, .bool false, .int 0, .int 1, .int (-1), .int 100000000, .str "", .str "a", .str "some", .str "near", .tuple [], .list [], .dict [], .tuple [.int 0], .tuple [.tuple []], .list [.int 0]]
def odds2 : List PyData := [.tuple [.int 100, .str "near"], .tuple [.tuple [.str "a", .int 1]], .tuple [.tuple [.tuple [.str "a", .int 1]], .str "more"], .tuple [.int 0, .int 1], .tuple [.tuple [.int 0, .tuple [.int 1, .int 1]]], .str "never", .tuple [.int 1, .int 1, .int 1]]
def odds : List PyData := odds1 ++ odds2
def sp_law_odd (K : PySem.W.Frag) : Sp := fun vs H Q _ => ∃ (p : Addr) (c : Nat), vs = [.ref p] ∧ Pot H p c ∧ c < 90000 ∧ ∀ H' v d, d ∈ odds → But p H H' → Pot H' p (c + 1) → Dx K (off p H') v d → Q v H'
end
end Uq

namespace Uq
open PySem PySem.Spec PyProof.Rows L2
/-- a class of exceptions, by its name -/
structure Kls (K : PySem.W.Frag) (mg : Str → Option Value) (fI : Addr) (x : Str) (C : Addr) : Prop where
  g : mg x = some (.ref C)
  X : Xcl K C
  i : PySem.W.findIn K (.ref C) "__init__" = some (some (.ref fI))
/-- what all of them are made by -/
structure Ini (P : Program) (w : World) (K : PySem.W.Frag) (mg : Str → Option Value) (base : Heap) (fI : Addr) where
  d : FuncData
  G : FnOk P w K mg base CX0 1 fI d ["self", "value"] (sp_init K)
  t : PySem.W.typeIn K (.ref fI) = some (.type "function")
  b : Binds K d ["self", "value"] []
section
variable {X : Cx} {p pos : Pos} {e : Expr} {es : List Expr} {ta : TA}
theorem pe_mk {x : Str} {C fI : Addr} (k : Kls X.K X.mg fI x C) (c : Ini X.prog X.w X.K X.mg X.base fI) (hr : Room 2 X.A) (hg : Gl X x) (ha : PA X (e :: es) ta)
    (hdb : (x == ("__debug__" : Str)) = false := by decide) (he : starEach (e :: es) X.env = (false, eval e X.env) :: starEach es X.env := by rfl) (hpl : (backTo pos (starEach es X.env)).any (·.1) = false := by rfl) :
    PE X (.Call (.Name x p) (e :: es) [] pos) (tMkV C (sp_init X.K) ta) := pe_oexV k.X.T k.i c.t c.G hr c.b hg k.g ha hdb he hpl
end
inductive Errs (H : Hp) (v : V) : List Addr → List V → Prop
  | nil : Errs H v [] []
  | cons {a C : Addr} {Cs : List Addr} {xs : List V} : Exc H a C v → Errs H v Cs xs → Errs H v (C :: Cs) (.ref a :: xs)
section
variable {H H' : Hp} {v : V} {Cs Ds : List Addr} {xs ys : List V}
theorem Errs.same (e : Same H H') : ∀ {Cs : List Addr} {xs : List V}, Errs H v Cs xs → Errs H' v Cs xs
  | _, _, .nil => .nil
  | _, _, .cons a h => .cons (a.same e) (Errs.same e h)
theorem Errs.but {p : Addr} {zs : List V} (e : But p H H') (hp : H p = some (.lst zs)) : ∀ {Cs : List Addr} {xs : List V}, Errs H v Cs xs → Errs H' v Cs xs
  | _, _, .nil => .nil
  | _, _, .cons a h => .cons (a.but e hp) (Errs.but e hp h)
theorem Errs.append (g : Errs H v Ds ys) : ∀ {Cs : List Addr} {xs : List V}, Errs H v Cs xs → Errs H v (Cs ++ Ds) (xs ++ ys)
  | _, _, .nil => g
  | _, _, .cons a h => .cons a (Errs.append g h)
theorem Errs.length : ∀ {Cs : List Addr} {xs : List V}, Errs H v Cs xs → xs.length = Cs.length
  | _, _, .nil => rfl
  | _, _, .cons _ h => congrArg (· + 1) (Errs.length h)
theorem Errs.at : ∀ {Cs : List Addr} {xs : List V} {i : Nat} {x : V}, Errs H v Cs xs → xs[i]? = some x → ∃ a C, x = .ref a ∧ Cs[i]? = some C ∧ Exc H a C v
  | _, _, i, _, .nil, e => by simp at e
  | _, _, 0, _, .cons a h, e => by
    cases Option.some.inj e
    exact ⟨_, _, rfl, rfl, a⟩
  | _, _, i + 1, _, .cons a h, e => Errs.at (i := i) h e
end
/-- the displays -/
def tMks (K : PySem.W.Frag) : List Addr → TA
  | [] => tNil
  | C :: r => tCons (tMkV C (sp_init K) (tCons (tVar 0) tNil)) (tMks K r)
def tIss (K : PySem.W.Frag) : List Addr → TA
  | [] => tNil
  | D :: r => tCons (tCB (rIsX K) (tCons (tVar 0) (tCons (tC (.ref D)) tNil))) (tIss K r)
section
variable {K : PySem.W.Frag} {σ : L2.St} {v : V}
theorem mk1 {i : Nat} {C : Addr} {H : Hp} {Q : VK} (T : Xcl K C) (e : σ[i]? = some (some v)) (q : ∀ a H1, H a = none → Same H H1 → Exc H1 a C v → Q (.ref a) H1) : tMkV C (sp_init K) (tCons (tVar i) tNil) σ H Q :=
  mkV_of T ⟨v, e, v, rfl, fun a H2 n s x => q a H2 n s x⟩ fun m h => by
    obtain ⟨y, e, h⟩ := h
    exact ⟨y, e, m _ _ h⟩
theorem cons_in {te : TE} {ta : TA} {H : Hp} {Q : List V → Hp → Prop} (h : te σ H fun x H1 => ta σ H1 fun xs H2 => Q (x :: xs) H2) : tCons te ta σ H Q := h
theorem mks (e : σ[0]? = some (some v)) : ∀ (Cs : List Addr) (H : Hp) (Q : List V → Hp → Prop), (∀ C ∈ Cs, Xcl K C) → (∀ xs H1, Same H H1 → Errs H1 v Cs xs → Q xs H1) → tMks K Cs σ H Q
  | [], H, Q, _, q => q [] H (fun _ _ e => e) .nil
  | C :: Cs, H, Q, hX, q => show tCons (tMkV C (sp_init K) (tCons (tVar 0) tNil)) (tMks K Cs) σ H Q from cons_in <| mk1 (hX C List.mem_cons_self) e fun a H1 na s x => mks e Cs H1 _ (fun D hD => hX D (List.mem_cons_of_mem _ hD)) fun xs H2 s2 xs2 => q _ H2 (fun b o h => s2 _ _ (s _ _ h)) (.cons (x.same s2) xs2)
/-- which classes an exception of the class C is of -/
def kinds (C : Addr) (Ds : List Addr) : List V := Ds.map fun D => .bl (decide (D = C))
theorem iss {a C : Addr} {y : V} (e : σ[0]? = some (some (.ref a))) (T : Xcl K C) : ∀ (Ds : List Addr) (H : Hp) (Q : List V → Hp → Prop), Exc H a C y → (∀ D ∈ Ds, PySem.W.kitOne K (.ref C) (.ref D) = some (decide (D = C))) → Q (kinds C Ds) H → tIss K Ds σ H Q
  | [], H, Q, _, _, q => q
  | D :: Ds, H, Q, x, k, q => ⟨.ref a, e, a, C, y, .ref D, .ref D, _, rfl, .own D, T, x, k D List.mem_cons_self, iss e T Ds H _ x (fun E hE => k E (List.mem_cons_of_mem _ hE)) q⟩
end
def sp_law_created (K : PySem.W.Frag) (Cs : List Addr) : Sp := fun vs H Q _ => ∃ v, vs = [v] ∧ ∀ H' l xs, Same H H' → H l = none → H' l = some (.lst xs) → Errs H' v Cs xs → Q (.ref l) H'
def sp_law_kinds (K : PySem.W.Frag) (Cs : List Addr) : Sp := fun vs H Q _ => ∃ (a C : Addr) (v : V), vs = [.ref a] ∧ Xcl K C ∧ Exc H a C v ∧ (∀ D ∈ Cs, PySem.W.kitOne K (.ref C) (.ref D) = some (decide (D = C))) ∧
  ∀ H' l, Same H H' → H l = none → H' l = some (.lst (kinds C Cs)) → Q (.ref l) H'
/-- what was new and is changed -/
theorem Same.chg {H H1 H2 : Hp} {l : Addr} (s : Same H H1) (n : H l = none) (b : But l H1 H2) : Same H H2 := fun c o e => b c o (ne_of_none e n) (s c o e)
end Uq
namespace Uq
open PySem PySem.Spec PyProof.Rows L2
theorem none_of {H H1 : Hp} {l : Addr} (s : Same H H1) (n : H1 l = none) : H l = none := by
  cases e : H l with
  | none => rfl
  | some o => rw [s _ _ e] at n; cases n
/-- l.extend([..]), and on -/
theorem ext_in {K : PySem.W.Frag} {i : Nat} {l : Addr} {xs : List V} {ta : TA} {u : TS} {D : Ends} {σ : L2.St} {H : Hp} (e : σ[i]? = some (some (.ref l))) (hl : H l = some (.lst xs))
    (h : ta σ H fun zs H1 => zs.length ≤ sizeLine ∧ ∀ b, H1 b = none → rExtend (.ref l) [.ref b] (upd H1 b (.lst zs)) (fun _ H2 => u D σ H2)) :
    tSeq (tDrop (tBM K "list" rExtend (tVar i) (tCons (tLst ta) tNil))) u D σ H := ⟨_, e, .inl ⟨rfl, xs, SqL.of hl⟩, h⟩
theorem ext_do {l b : Addr} {xs zs : List V} {H1 : Hp} {Q : VK} (e1 : H1 l = some (.lst xs)) (nb : H1 b = none) (z2 : xs.length + zs.length ≤ sizeLine) (q : ∀ G, G l = some (.lst (xs ++ zs)) → But l H1 G → Q .non G) : rExtend (.ref l) [.ref b] (upd H1 b (.lst zs)) Q := by
  have n : l ≠ b := ne_of_none e1 nb
  refine ⟨l, b, xs, zs, rfl, rfl, by rw [upd_ne n]; exact e1, upd_same, z2, q _ upd_same fun c o nc ec => ?_⟩
  rw [upd_ne nc, upd_ne (ne_of_none ec nb)]
  exact ec
end Uq

namespace Uq
open PySem PySem.Spec PyProof.Rows L2

/-! ### the lines of a page: a dict from names to (above, share, far) -/
structure Ln where
  nm : Str
  ab : V
  sh : V
  fa : V
def Lat (K : PySem.W.Frag) (H : Hp) (l : Ln) (kv : Key × V) : Prop := kv.1 = .inr l.nm ∧ ∃ t : Addr, kv.2 = .ref t ∧ SqT K H t [l.ab, l.sh, l.fa]
def Lns (K : PySem.W.Frag) (H : Hp) (d : Addr) (ls : List Ln) : Prop := ∃ kvs : List (Key × V), H d = some (.dK kvs) ∧ Paired (Lat K H) ls kvs
theorem Lat.same {K : PySem.W.Frag} {H H' : Hp} {l : Ln} {kv : Key × V} (e : Same H H') (h : Lat K H l kv) : Lat K H' l kv := by
  obtain ⟨h1, t, h2, h3⟩ := h
  exact ⟨h1, t, h2, sqT_same e h3⟩
theorem paired_mono {α β : Type} {R R' : α → β → Prop} (m : ∀ a b, R a b → R' a b) : ∀ {xs : List α} {ys : List β}, Paired R xs ys → Paired R' xs ys
  | _, _, .nil => .nil
  | _, _, .cons a h => .cons (m _ _ a) (paired_mono m h)
theorem paired_at {α β : Type} {R : α → β → Prop} : ∀ {xs : List α} {ys : List β} {i : Nat} {y : β}, Paired R xs ys → ys[i]? = some y → ∃ x, xs[i]? = some x ∧ R x y
  | _, _, i, _, .nil, e => by simp at e
  | _, _, 0, _, .cons a h, e => by
    cases Option.some.inj e
    exact ⟨_, rfl, a⟩
  | _, _, i + 1, _, .cons a h, e => paired_at (i := i) h e
theorem Lns.same {K : PySem.W.Frag} {H H' : Hp} {d : Addr} {ls : List Ln} (e : Same H H') (h : Lns K H d ls) : Lns K H' d ls := by
  obtain ⟨kvs, h1, h2⟩ := h
  exact ⟨kvs, e _ _ h1, paired_mono (fun _ _ x => x.same e) h2⟩
theorem sqT_upd {K : PySem.W.Frag} {H : Hp} {t d : Addr} {xs : List V} {kvs : List (Key × V)} {o : HO} (h : SqT K H t xs) (hd : H d = some (.dK kvs)) : SqT K (upd H d o) t xs := by
  rcases h with (h | ⟨ob, h⟩) | h
  · have n : t ≠ d := fun z => by
      rw [z, hd] at h
      cases h
    exact .inl (.inl (by rw [upd_ne n]; exact h))
  · have n : t ≠ d := fun z => by
      rw [z, hd] at h
      cases h
    exact .inl (.inr ⟨ob, by rw [upd_ne n]; exact h⟩)
  · exact .inr h
theorem Lat.lock {K : PySem.W.Frag} {H : Hp} {l : Ln} {kv : Key × V} {d : Addr} {kvs : List (Key × V)} {o : HO} (h : Lat K H l kv) (hd : H d = some (.dK kvs)) : Lat K (upd H d o) l kv := by
  obtain ⟨h1, t, h2, h3⟩ := h
  exact ⟨h1, t, h2, sqT_upd h3 hd⟩
/-- a dict locked, walked over and let go -/
theorem unlocked {H H1 : Hp} {d : Addr} {kvs : List (Key × V)} {od : Obj} (hd : H d = some (.dK kvs)) (s : Same (upd H d (.frz od (.dK kvs))) H1) : Same H (upd H1 d (.dK kvs)) := fun b o e => by
  by_cases z : b = d
  · subst z
    rw [upd_same, ← e, hd]
  · rw [upd_ne z]
    exact s b o (by rw [upd_ne z]; exact e)
def wholes (ls : List Ln) : List V := ls.map (·.ab)
def isEnd (ls : List Ln) (l : Ln) : Bool := !inV (.str l.nm) (wholes ls)
def ends (ls : List Ln) : List Str := (ls.filter (isEnd ls)).map (·.nm)
def sp_ends_among (K : PySem.W.Frag) : Sp := fun vs H Q _ => ∃ (d : Addr) (ls : List Ln), vs = [.ref d] ∧ Lns K H d ls ∧ ls.length ≤ 100 ∧ (wholes ls).all flatV = true ∧ ∀ H' t, Same H H' → H t = none → H' t = some (.tup ((ends ls).map V.str)) → Q (.ref t) H'
section
variable {P : Program} {w : World} {K : PySem.W.Frag} {mg : Str → Option Value} {base : Heap}
theorem ok_ends_among {f : Addr} {fd : FuncData} (F : Fun K "ends_among" "ends_among" s_ends_among f fd) (m_tuple : mg "tuple" = none) : FnOk P w K mg base CX0 1 f fd ["lines"] (sp_ends_among K) := by
  refine F.ok sc_ends_among (fun vs H Q E h => ?_) (fun cdv A outer s H vs Q E hr h => ?_)
  · obtain ⟨d, ls, rfl, _⟩ := h
    rfl
  · refine ⟨_, (pss_cons (ps_set (i := 1) sc_ends_among.nd rfl (.inr rfl) (pe_lock (pe_lc (own := [("line", 2)]) (g := gName 2) rfl sc_ends_among.nd (pi_values (pv 0)) (blkOk_by (own := [("line", 2)]) (N := N_ends_among) (sc := defScope s_ends_among) (by decide +kernel)) (fun _ _ _ _ _ => (pg_name (i := 2) sc_ends_among.nd rfl (.inl rfl))) (fun _ _ _ _ _ => pts_nil) (fun _ _ _ _ _ => (pe_ix (r := rIxT K) ix_tup (pv 2) pe_int (fun _ _ => rfl))))))
      (pss_one (ps_ret (pe_callTy call_tuple_of (by rfl) m_tuple (by decide +kernel) (pa_cons (pe_lock (pe_lc (own := [("part", 3)]) (g := gName 3) rfl sc_ends_among.nd (pi_keys (pv 0)) (blkOk_by (own := [("part", 3)]) (N := N_ends_among) (sc := defScope s_ends_among) (by decide +kernel)) (fun _ _ _ _ _ => (pg_name (i := 3) sc_ends_among.nd rfl (.inl rfl))) (fun _ _ _ _ _ => (pts_one (pt_cmpR (r := rIn K true) op_notIn_seq (pv 3) (pv 1) rfl))) (fun _ _ _ _ _ => (pv 3)))) pa_nil))))), ?_⟩
    obtain ⟨d, ls, rfl, ⟨kvs, hd, hp⟩, hz, hf, q⟩ := h
    have hl : ls.length = kvs.length := hp.length
    refine seq_set ⟨d, .dK kvs, hd, trivial, fun od => ?_⟩
    refine ⟨.ref d, rfl, d, od, kvs, rfl, upd_same, fun D nD => ?_⟩
    have nDd : D ≠ d := fun z => by
      rw [z, upd_same] at nD
      cases nD
    have nD0 : H D = none := by
      rw [upd_ne nDd] at nD
      exact nD
    refine lc_it walk_values (fun i H' => Same (upd H d (.frz od (.dK kvs))) H' ∧ H' D = some (.lst ((wholes ls).take i))) ⟨sameU nD, upd_same⟩ (fun i H' _ h => h.1 _ _ upd_same) ?_ ?_
    · rintro i x H1 H2 hi ⟨s1, hD⟩ ⟨rfl, k, hk⟩
      obtain ⟨l, el, _, t, et, ht⟩ := paired_at hp hk
      cases et
      have ht1 := sqT_same s1 (sqT_upd (o := .frz od (.dK kvs)) ht hd)
      refine ⟨rfl, .ref t, rfl, t, _, 0, l.ab, rfl, rfl, ht1, atI_nat (j := 0) rfl, _, hD, ?_, ?_, ?_⟩
      · rw [List.length_take]
        exact small1000 (Nat.le_trans (Nat.min_le_left _ _) (by omega))
      · intro b o e
        rw [upd_ne (ne_of_none e nD)]
        exact s1 _ _ e
      · rw [upd_same, List.take_add_one]
        have e : (wholes ls)[i]? = some l.ab := by
          unfold wholes
          rw [List.getElem?_map, el]
          rfl
        rw [e]
        rfl
    rintro H1 ⟨s1, hD⟩
    refine ⟨s1 _ _ upd_same, ?_⟩
    have sG : Same H (upd H1 d (.dK kvs)) := unlocked hd s1
    have hGD : (upd H1 d (.dK kvs)) D = some (.lst (wholes ls)) := by
      rw [upd_ne nDd, hD, List.take_of_length_le]
      unfold wholes
      rw [List.length_map, hl]
      exact Nat.le_refl _
    have hGd : (upd H1 d (.dK kvs)) d = some (.dK kvs) := upd_same
    generalize L2.upd H1 d (.dK kvs) = G at sG hGD hGd ⊢
    refine ret_in (cb_in (cons_in ⟨d, .dK kvs, hGd, trivial, fun od2 => ?_⟩))
    refine ⟨.ref d, rfl, d, od2, rfl, .inl ⟨kvs, upd_same, fun T nT => ?_⟩⟩
    have nTd : T ≠ d := fun z => by
      rw [z, upd_same] at nT
      cases nT
    have hLD : (upd G d (.frz od2 (.dK kvs))) D = some (.lst (wholes ls)) := by
      rw [upd_ne nDd]
      exact hGD
    refine lc_it walk_keys (fun i H' => Same (upd G d (.frz od2 (.dK kvs))) H' ∧ H' T = some (.lst (((ls.take i).filter (isEnd ls)).map fun l => .str l.nm))) ⟨sameU nT, upd_same⟩ (fun i H' _ h => h.1 _ _ upd_same) ?_ ?_
    · rintro i x H2 H3 hi ⟨s2, hT⟩ ⟨rfl, k, v, hk, rfl⟩
      obtain ⟨l, el, ek, _⟩ := paired_at hp hk
      have ek' : k = .inr l.nm := ek
      subst ek'
      have tk : ls.take (i + 1) = ls.take i ++ [l] := by
        rw [List.take_add_one, el]
        rfl
      refine ⟨rfl, .str l.nm, rfl, .ref D, rfl, D, wholes ls, rfl, .inl (SqL.of (s2 _ _ hLD)), rfl, hf, _, rfl, ?_⟩
      show if isEnd ls l = true then _ else _
      refine ite2 (fun e => ?_) (fun e => ?_)
      · refine ⟨.str l.nm, rfl, _, hT, ?_, ?_, ?_⟩
        · rw [List.length_map]
          refine small1000 (Nat.le_trans (List.length_filter_le _ _) ?_)
          rw [List.length_take]
          exact Nat.le_trans (Nat.min_le_right _ _) (by omega)
        · intro b o eb
          rw [upd_ne (ne_of_none eb nT)]
          exact s2 _ _ eb
        · rw [upd_same, tk, List.filter_append, List.map_append, List.filter_cons_of_pos e]
          rfl
      · refine ⟨s2, ?_⟩
        rw [hT, tk, List.filter_append, List.filter_cons_of_neg e]
        simp
    rintro H2 ⟨s2, hT⟩
    refine ⟨s2 _ _ upd_same, ?_⟩
    have sA : Same H (upd H2 d (.dK kvs)) := sG.trans (unlocked hGd s2)
    have hE : (upd H2 d (.dK kvs)) T = some (.lst ((ends ls).map V.str)) := by
      rw [upd_ne nTd, hT, ← hl, List.take_length]
      unfold ends
      rw [List.map_map]
      rfl
    refine ⟨T, _, rfl, .inl ⟨SqL.of hE, fun r nr => ?_⟩⟩
    exact q _ r (sA.trans (sameU nr)) (none_of sA nr) upd_same
end
end Uq

namespace Uq
open PySem PySem.Spec PyProof.Rows L2

/-! ### from a part up to the first one -/
inductive Way (ls : List Ln) : Str → List Str → Prop
  | top {l : Ln} : l ∈ ls → l.ab = .non → Way ls l.nm [l.nm]
  | up {l : Ln} {q : Str} {w : List Str} : l ∈ ls → l.ab = .str q → Way ls q w → Way ls l.nm (l.nm :: w)
theorem lns_get {K : PySem.W.Frag} {H : Hp} {l : Ln} : ∀ {ls : List Ln} {kvs : List (Key × V)}, Paired (Lat K H) ls kvs → (ls.map (·.nm)).Nodup → l ∈ ls → ∃ t : Addr, valV kvs (.inr l.nm) = some (.ref t) ∧ SqT K H t [l.ab, l.sh, l.fa]
  | _, _, .nil, _, h => nomatch h
  | l0 :: ls, kv :: kvs, .cons a r, nd, h => by
    obtain ⟨e1, t, e2, ht⟩ := a
    rw [List.map_cons, List.nodup_cons] at nd
    rcases List.mem_cons.mp h with z | z
    · subst z
      exact ⟨t, by rw [valV_pos e1, e2], ht⟩
    · obtain ⟨t', v, ht'⟩ := lns_get r nd.2 z
      refine ⟨t', ?_, ht'⟩
      rw [valV_neg]
      · exact v
      · intro e
        rw [e1] at e
        exact nd.1 (List.mem_map.mpr ⟨l, z, (Sum.inr.inj e).symm⟩)
def sp_way_up (K : PySem.W.Frag) : Sp := fun vs H Q _ => ∃ (d : Addr) (ls : List Ln) (p : Str) (w : List Str) (kvs : List (Key × V)), vs = [.ref d, .str p] ∧ Rd H d (.dK kvs) ∧ Paired (Lat K H) ls kvs ∧ (ls.map (·.nm)).Nodup ∧ Way ls p w ∧ w.length ≤ 100 ∧
  ∀ H' r, Same H H' → H r = none → H' r = some (.lst (w.map V.str)) → Q (.ref r) H'
section
variable {P : Program} {w : World} {K : PySem.W.Frag} {mg : Str → Option Value} {base : Heap}
theorem ok_way_up {f : Addr} {fd : FuncData} (F : Fun K "way_up" "way_up" s_way_up f fd) : FnOk P w K mg base CX0 1 f fd ["lines", "part"] (sp_way_up K) := by
  refine F.ok sc_way_up (fun vs H Q E h => ?_) (fun cdv A outer s H vs Q E hr h => ?_)
  · obtain ⟨d, ls, p, w, kvs, rfl, _⟩ := h
    rfl
  · refine ⟨_, (pss_cons (ps_set (i := 2) sc_way_up.nd rfl (.inl rfl) (pe_lst (pa_cons (pv 1) pa_nil)))
      (pss_cons (ps_while PassesOwn.never (pt_cmpR op_notN (pe_ix ix_tup (pe_dget (hu_of hr) (pv 0) (pe_ix ix_list (pv 2) (pe_un un_neg pe_int) (fun _ _ => rfl)) (fun _ _ => rfl)) pe_int (fun _ _ => rfl)) pe_non (nomark _)) (pss_one (ps_expr (pe_bm PySem.F.plainAttrs_list PySem.F.slot_list_append PySem.F.type_list_append mt_append (pv 2) (pa_cons (pe_ix ix_tup (pe_dget (hu_of hr) (pv 0) (pe_ix ix_list (pv 2) (pe_un un_neg pe_int) (fun _ _ => rfl)) (fun _ _ => rfl)) pe_int (fun _ _ => rfl)) pa_nil)))))
      (pss_one (ps_ret (pv 2))))), ?_⟩
    obtain ⟨d, ls, p0, w0, kvs, rfl, hd, hp, nd, hw0, hz, q⟩ := h
    refine seq_set ⟨.str p0, rfl, by show 1 ≤ sizeLine; decide, fun L nL => ?_⟩
    refine ⟨fun m σ H' => ∃ (ws w : List Str) (p : Str), m = w.length ∧ σ = [some (.ref d), some (.str p0), some (.ref L)] ∧ Same H H' ∧ H' L = some (.lst (ws.map V.str ++ [.str p])) ∧ Way ls p w ∧ ws ++ w = w0, ⟨_, [], w0, p0, rfl, rfl, sameU nL, upd_same, hw0, rfl⟩, ?_⟩
    rintro m σ H1 ⟨ws, w, p, rfl, rfl, s1, hL, hw, ew⟩
    have look : ∀ l : Ln, l ∈ ls → ∃ t : Addr, DGet H1 d (.str l.nm) (some (.ref t)) ∧ SqT K H1 t [l.ab, l.sh, l.fa] := fun l hl => by
      obtain ⟨t, ev, ht⟩ := lns_get hp nd hl
      refine ⟨t, .inl ⟨kvs, .inr l.nm, ?_, rfl, ev.symm⟩, sqT_same s1 ht⟩
      rcases hd with hd | ⟨ob, hd⟩
      · exact .inl (s1 _ _ hd)
      · exact .inr ⟨ob, s1 _ _ hd⟩
    have lz : ws.length + w.length ≤ 100 := by
      have z := congrArg List.length ew
      rw [List.length_append] at z
      omega
    cases hw with
    | @top l hl e =>
      obtain ⟨t, hg, ht⟩ := look l hl
      refine ⟨.ref d, rfl, .ref L, rfl, 1, rfl, L, _, -1, .str l.nm, rfl, rfl, SqL.of hL, atI_last _ _, d, .ref t, rfl, hg, t, _, 0, l.ab, rfl, rfl, ht, atI_nat (j := 0) rfl, rfl, _, rfl, ?_⟩
      rw [e]
      refine iteF ⟨.ref L, rfl, q H1 L s1 (by exact nL) ?_⟩
      rw [hL, ← ew, List.map_append]
      rfl
    | @up l pq w hl e hw =>
      obtain ⟨t, hg, ht⟩ := look l hl
      refine ⟨.ref d, rfl, .ref L, rfl, 1, rfl, L, _, -1, .str l.nm, rfl, rfl, SqL.of hL, atI_last _ _, d, .ref t, rfl, hg, t, _, 0, l.ab, rfl, rfl, ht, atI_nat (j := 0) rfl, rfl, _, rfl, ?_⟩
      rw [e]
      refine iteT ⟨fun σ' H' => ∃ (ws' w' : List Str) (p' : Str), w.length = w'.length ∧ σ' = [some (.ref d), some (.str p0), some (.ref L)] ∧ Same H H' ∧ H' L = some (.lst (ws'.map V.str ++ [.str p'])) ∧ Way ls p' w' ∧ ws' ++ w' = w0, fun σ' H' h => ⟨w.length, by simp, h⟩, ?_⟩
      refine ⟨.ref L, rfl, .inl ⟨rfl, _, SqL.of hL⟩, .ref d, rfl, .ref L, rfl, 1, rfl, L, _, -1, .str l.nm, rfl, rfl, SqL.of hL, atI_last _ _, d, .ref t, rfl, hg, t, _, 0, l.ab, rfl, rfl, ht, atI_nat (j := 0) rfl, L, _, _, rfl, rfl, hL, ?_, ?_⟩
      · rw [List.length_append, List.length_map]
        exact small1000 (by simp; omega)
      · refine ⟨ws ++ [l.nm], w, pq, rfl, rfl, fun b o eb => ?_, ?_, hw, ?_⟩
        · rw [upd_ne (ne_of_none eb nL)]
          exact s1 _ _ eb
        · rw [upd_same, e, List.map_append]
          rfl
        · rw [List.append_assoc]
          exact ew
end
end Uq

namespace Uq
open PySem PySem.Spec PyProof.Rows L2

theorem next_in {t : L2.St → Hp → Prop} {r : VK} {b c : L2.St → Hp → Prop} {σ : L2.St} {H : Hp} (h : t σ H) : tNext { nx := t, rt := r, bk := b, ct := c } σ H := h
/-! ### the line of a part -/
/-- shares, and the words that tell them: marks, share words, shares -/
inductive Opts (b : Nat) : V → V → List Str → List Str → List V → Prop
  | none : Opts b .non .non [] [] []
  | sh {v : V} {x : Str} : Shw b v x → Opts b v .non ["is"] [x] [v]
  | fa {v : V} {x : Str} : Shw b v x → Opts b .non v ["all"] [x] [v]
  | both {v u : V} {x y : Str} : Shw b v x → Shw b u y → Opts b v u ["is", "all"] [x, y] [v, u]
def weave : List Str → List Str → List Str
  | m :: ms, w :: ws => m :: w :: weave ms ws
  | _, _ => []
def lineW (nm ab : Str) (ms ws : List Str) : List Str := Str.ofString "part" :: nm :: Str.ofString "of" :: ab :: weave ms ws
theorem u65 {k : Nat} {A : Around} (r : Room k A) : A.units + 65 < cLine := by
  have := r.un
  omega
theorem shw_flat {b : Nat} {v : V} {x : Str} (h : Shw b v x) : flatV v = true ∧ v ≠ .non ∧ eqV v .non = false := by
  cases h <;> exact ⟨rfl, (fun z => nomatch z), rfl⟩
def idx (lo : Int) (n : Nat) : List Nat := sliceRange (sliceBounds (some lo) none (some 2) n).1 (sliceBounds (some lo) none (some 2) n).2.1 (sliceBounds (some lo) none (some 2) n).2.2
theorem idx_all : idx 4 4 = [] ∧ idx 5 4 = [] ∧ idx 4 6 = [4] ∧ idx 5 6 = [5] ∧ idx 4 8 = [4, 6] ∧ idx 5 8 = [5, 7] := by decide +kernel
theorem pick_idx {xs : List V} {lo : Int} {n : Nat} {is : List Nat} (e : xs.length = n) (h : idx lo n = is) : pickV xs (some lo) none (some 2) = is.filterMap (xs[·]?) := by
  subst e
  subst h
  rfl
theorem opts_marks {b : Nat} {sh fa : V} {ms ws : List Str} {vs : List V} (h : Opts b sh fa ms ws vs) (nm ab : Str) : pickV ((lineW nm ab ms ws).map V.str) (some 4) none (some 2) = ms.map V.str := by
  cases h with
  | none => exact pick_idx (n := 4) rfl idx_all.1
  | sh a => exact pick_idx (n := 6) rfl idx_all.2.2.1
  | fa a => exact pick_idx (n := 6) rfl idx_all.2.2.1
  | both a c => exact pick_idx (n := 8) rfl idx_all.2.2.2.2.1
theorem opts_words {b : Nat} {sh fa : V} {ms ws : List Str} {vs : List V} (h : Opts b sh fa ms ws vs) (nm ab : Str) : pickV ((lineW nm ab ms ws).map V.str) (some 5) none (some 2) = ws.map V.str := by
  cases h with
  | none => exact pick_idx (n := 4) rfl idx_all.2.1
  | sh a => exact pick_idx (n := 6) rfl idx_all.2.2.2.1
  | fa a => exact pick_idx (n := 6) rfl idx_all.2.2.2.1
  | both a c => exact pick_idx (n := 8) rfl idx_all.2.2.2.2.2
theorem opts_len {b : Nat} {sh fa : V} {ms ws : List Str} {vs : List V} (h : Opts b sh fa ms ws vs) : ms.length ≤ 2 ∧ ws.length = ms.length ∧ vs.length = ms.length ∧ 4 ≤ (lineW nm ab ms ws).length := by
  cases h <;> exact ⟨by decide, rfl, rfl, by show 4 ≤ _; simp [lineW, weave]⟩
theorem opts_flat {b : Nat} {sh fa : V} {ms ws : List Str} {vs : List V} (h : Opts b sh fa ms ws vs) : vs.all flatV = true ∧ inV .non vs = false := by
  cases h with
  | none => exact ⟨rfl, rfl⟩
  | sh a => exact ⟨by simp [(shw_flat a).1], by simp [inV, (shw_flat a).2.2]⟩
  | fa a => exact ⟨by simp [(shw_flat a).1], by simp [inV, (shw_flat a).2.2]⟩
  | both a c => exact ⟨by simp [(shw_flat a).1, (shw_flat c).1], by simp [inV, (shw_flat a).2.2, (shw_flat c).2.2]⟩
theorem opts_shw {b : Nat} {sh fa : V} {ms ws : List Str} {vs : List V} (h : Opts b sh fa ms ws vs) {i : Nat} {w : Str} (e : ws[i]? = some w) : ∃ v, vs[i]? = some v ∧ Shw b v w := by
  cases h with
  | none => simp at e
  | sh a =>
    match i, e with
    | 0, e => cases Option.some.inj e; exact ⟨_, rfl, a⟩
  | fa a =>
    match i, e with
    | 0, e => cases Option.some.inj e; exact ⟨_, rfl, a⟩
  | both a c =>
    match i, e with
    | 0, e => cases Option.some.inj e; exact ⟨_, rfl, a⟩
    | 1, e => cases Option.some.inj e; exact ⟨_, rfl, c⟩
def marksD : List PyData := [.tuple [], .tuple [.str "is"], .tuple [.str "all"], .tuple [.str "is", .str "all"]]
theorem opts_in {b : Nat} {sh fa : V} {ms ws : List Str} {vs : List V} (h : Opts b sh fa ms ws vs) : (marksD.any fun z => PyData.eqv z (.tuple (ms.map PyData.str))) = true := by
  cases h <;> decide +kernel
theorem opts_shaped {b : Nat} {sh fa : V} {ms ws : List Str} {vs : List V} (h : Opts b sh fa ms ws vs) : SeqAt.shaped (.tuple (ms.map PyData.str)) = true := by
  cases h <;> decide +kernel
theorem marks_shaped : SeqAt.shaped (.tuple marksD) = true := by decide +kernel
theorem opts_get {b : Nat} {sh fa : V} {ms ws : List Str} {vs : List V} (h : Opts b sh fa ms ws vs) : (valV (mergeK [] ((ms.map Sum.inr).zip vs)) (.inr "is")).getD .non = sh ∧ (valV (mergeK [] ((ms.map Sum.inr).zip vs)) (.inr "all")).getD .non = fa := by
  cases h <;> exact ⟨rfl, rfl⟩
theorem dp_strs {K : PySem.W.Frag} {H : Hp} : ∀ l : List Str, DpAll K H (l.map V.str) (l.map PyData.str)
  | [] => .nil
  | x :: l => .cons (.str x) (dp_strs l)
section
variable {P : Program} {w : World} {K : PySem.W.Frag} {mg : Str → Option Value} {base : Heap}
end
end Uq

namespace Uq
open PySem PySem.Spec PyProof.Rows L2

theorem walk3 {K : PySem.W.Frag} {a : Addr} {xs : List V} : Walk (Ite3 K a) xs.length (fun H => SqL K H a xs) (YPair (fun i => some (.int ((i : Nat) + 3 : Int))) (fun i => xs[i]?)) := by
  refine ⟨fun i _ hi q => ⟨xs, xs[i], q, List.getElem?_eq_getElem hi⟩, fun _ q => ⟨xs, q, Nat.le_refl _⟩, fun i H v H' _ q y => ?_⟩
  obtain ⟨T, x, h1, h2, h3, h4⟩ := y
  exact ⟨T, .int ((i : Int) + 3), x, h1, h2, h3, rfl, h4 xs q⟩
/-! ### the rows of a page -/
structure Rw where
  nm : Str
  ab : Str
  sh : V
  fa : V
  ms : List Str
  ws : List Str
  xs : List V
def lnOf (r : Rw) : Ln := ⟨r.nm, .str r.ab, r.sh, r.fa⟩
def top (x : Str) : Ln := ⟨x, .non, .non, .non⟩
def linesOf (x : Str) (rs : List Rw) : List Ln := top x :: rs.map lnOf
/-- a row that may stand beneath these lines -/
structure GoodAt (b : Nat) (ls : List Ln) (r : Rw) : Prop where
  opts : Opts b r.sh r.fa r.ms r.ws r.xs
  nam : Nm r.nm
  new : r.nm ∉ ls.map (·.nm)
  abo : r.ab ∈ ls.map (·.nm)
  few : ls.length + 1 ≤ 10
  end_ : (ends (ls ++ [lnOf r])).length ≤ 6
  way : ∃ w, Way (ls ++ [lnOf r]) r.nm w ∧ w.length ≤ 4
def Good (b : Nat) (x : Str) (rs : List Rw) : Prop := ∀ k r, rs[k]? = some r → GoodAt b (linesOf x (rs.take k)) r
theorem lns_none {K : PySem.W.Frag} {H : Hp} {nm : Str} : ∀ {ls : List Ln} {kvs : List (Key × V)}, Paired (Lat K H) ls kvs → nm ∉ ls.map (·.nm) → valV kvs (.inr nm) = none
  | _, _, .nil, _ => rfl
  | l :: ls, kv :: kvs, .cons a r, h => by
    rw [valV_neg]
    · exact lns_none r fun z => h (List.mem_cons_of_mem _ z)
    · intro e
      rw [a.1] at e
      exact h (by rw [List.map_cons, Sum.inr.inj e]; exact List.mem_cons_self)
theorem lns_some {K : PySem.W.Frag} {H : Hp} {nm : Str} : ∀ {ls : List Ln} {kvs : List (Key × V)}, Paired (Lat K H) ls kvs → nm ∈ ls.map (·.nm) → (valV kvs (.inr nm)).isSome = true
  | _, _, .nil, h => nomatch h
  | l :: ls, kv :: kvs, .cons a r, h => by
    by_cases e : kv.1 = Sum.inr nm
    · rw [valV_pos e]
      rfl
    · rw [valV_neg e]
      refine lns_some r ?_
      rcases List.mem_cons.mp h with z | z
      · exact absurd (by rw [a.1, z]) e
      · exact z
theorem put_new {kvs : List (Key × V)} {k : Key} {v : V} (h : valV kvs k = none) : putK kvs k v = kvs ++ [(k, v)] := by
  unfold putK
  rw [valV_any, h]
  rfl
theorem paired_snoc {α β : Type} {R : α → β → Prop} {x : α} {y : β} (r : R x y) : ∀ {xs : List α} {ys : List β}, Paired R xs ys → Paired R (xs ++ [x]) (ys ++ [y])
  | _, _, .nil => .cons r .nil
  | _, _, .cons a h => .cons a (paired_snoc r h)
theorem lines_take {x : Str} {rs : List Rw} {i : Nat} {r : Rw} (e : rs[i]? = some r) : linesOf x (rs.take (i + 1)) = linesOf x (rs.take i) ++ [lnOf r] := by
  unfold linesOf
  rw [List.take_add_one, e, List.map_append]
  rfl
theorem lines_flat (x : Str) (rs : List Rw) : (wholes (linesOf x rs)).all flatV = true := by
  unfold wholes linesOf
  rw [List.all_eq_true]
  intro v hv
  simp only [List.map_cons, List.map_map, List.mem_cons, List.mem_map] at hv
  rcases hv with rfl | ⟨r, _, rfl⟩ <;> rfl
theorem lines_nodup {b : Nat} {x : Str} {rs : List Rw} (h : Good b x rs) : ∀ i, i ≤ rs.length → ((linesOf x (rs.take i)).map (·.nm)).Nodup
  | 0, _ => by simp [linesOf]
  | i + 1, hi => by
    have e : rs[i]? = some rs[i] := List.getElem?_eq_getElem hi
    rw [lines_take e, List.map_append, List.nodup_append]
    refine ⟨lines_nodup h i (by omega), by simp, fun a ha c hc => ?_⟩
    simp only [List.map_cons, List.map_nil, List.mem_singleton] at hc
    subst hc
    intro z
    exact (h i _ e).new (show (lnOf rs[i]).nm ∈ _ from z ▸ ha)
def RowsAt (K : PySem.W.Frag) (H : Hp) (l : V) (r : Rw) : Prop := ∃ a : Addr, l = .ref a ∧ SqL K H a ((lineW r.nm r.ab r.ms r.ws).map V.str)
section
variable {P : Program} {w : World} {K : PySem.W.Frag} {mg : Str → Option Value} {base : Heap}
end
end Uq

namespace Uq
open PySem PySem.Spec PyProof.Rows L2
open TL

/-! ### the text of a page -/
structure Wd (x : Str) : Prop where
  len : x.length ≤ 8
  sp : (32 : Nat) ∉ tl x
  nl : (10 : Nat) ∉ tl x
theorem tl_len (x : Str) : (tl x).length = x.length := by
  show x.cps.toList.length = x.cps.size
  simp
theorem mem_joinL {c : Nat} {y : List Nat} : ∀ {ps : List (List Nat)}, c ∈ joinL y ps → c ∈ y ∨ ∃ p ∈ ps, c ∈ p
  | [], h => nomatch h
  | [p], h => .inr ⟨p, List.mem_cons_self, h⟩
  | p :: q :: r, h => by
    have h' : c ∈ p ++ (y ++ joinL y (q :: r)) := h
    rcases List.mem_append.mp h' with h | h
    · exact .inr ⟨p, List.mem_cons_self, h⟩
    · rcases List.mem_append.mp h with h | h
      · exact .inl h
      · rcases mem_joinL h with h | ⟨p', m, h⟩
        · exact .inl h
        · exact .inr ⟨p', List.mem_cons_of_mem _ m, h⟩
theorem len_joinL {y : List Nat} {n : Nat} : ∀ {ps : List (List Nat)}, (∀ p ∈ ps, p.length + y.length ≤ n) → (joinL y ps).length ≤ n * ps.length
  | [], _ => Nat.zero_le _
  | [p], h => by
    have z := h p List.mem_cons_self
    show p.length ≤ n * 1
    omega
  | p :: q :: r, h => by
    have z := h p List.mem_cons_self
    have i := len_joinL (y := y) (n := n) (ps := q :: r) fun p m => h p (List.mem_cons_of_mem _ m)
    show (p ++ (y ++ joinL y (q :: r))).length ≤ n * ((q :: r).length + 1)
    rw [List.length_append, List.length_append, Nat.mul_succ]
    omega
def spS : Str := Str.ofString " "
def nlS : Str := Str.ofString "\n"
def lineS (ws : List Str) : Str := Txt.join spS ws
def textS (ls : List (List Str)) : Str := Txt.join nlS (ls.map lineS)
theorem line_split {ws : List Str} (hne : ws ≠ []) (h : ∀ w ∈ ws, Wd w) : Txt.split (lineS ws) spS = ws := split_join (s := 32) (S := []) (by decide +kernel) (by decide +kernel) hne fun p m => (h p m).sp
theorem line_nl {ws : List Str} (h : ∀ w ∈ ws, Wd w) : (10 : Nat) ∉ tl (lineS ws) := by
  intro z
  unfold lineS at z
  rw [join_eq, tl_join] at z
  rcases mem_joinL z with z | ⟨p, m, z⟩
  · revert z
    decide +kernel
  · obtain ⟨w, mw, rfl⟩ := List.mem_map.mp m
    exact (h w mw).nl z
theorem line_len {ws : List Str} (h : ∀ w ∈ ws, Wd w) : (lineS ws).length ≤ 9 * ws.length := by
  rw [← tl_len]
  unfold lineS
  rw [join_eq, tl_join]
  have e : (tl spS).length = 1 := by decide +kernel
  have z := len_joinL (y := tl spS) (n := 9) (ps := ws.map tl) fun p m => by
    obtain ⟨w, mw, rfl⟩ := List.mem_map.mp m
    rw [tl_len, e]
    exact Nat.succ_le_succ (h w mw).len
  rw [List.length_map] at z
  exact z
theorem text_split {ls : List (List Str)} (hne : ls ≠ []) (h : ∀ ws ∈ ls, ∀ w ∈ ws, Wd w) : Txt.split (textS ls) nlS = ls.map lineS := by
  refine split_join (s := 10) (S := []) (by decide +kernel) (by decide +kernel) (fun e => hne (List.map_eq_nil_iff.mp e)) fun p m => ?_
  obtain ⟨ws, mw, rfl⟩ := List.mem_map.mp m
  exact line_nl (h ws mw)
theorem text_len {ls : List (List Str)} (h : ∀ ws ∈ ls, (∀ w ∈ ws, Wd w) ∧ ws.length ≤ 8) : (textS ls).length ≤ 73 * ls.length := by
  rw [← tl_len]
  unfold textS
  rw [join_eq, tl_join]
  have e : (tl nlS).length = 1 := by decide +kernel
  have z := len_joinL (y := tl nlS) (n := 73) (ps := (ls.map lineS).map tl) fun p m => by
    obtain ⟨q, mq, rfl⟩ := List.mem_map.mp m
    obtain ⟨ws, mw, rfl⟩ := List.mem_map.mp mq
    have a := line_len (h ws mw).1
    have c := (h ws mw).2
    rw [tl_len, e]
    omega
  rw [List.length_map, List.length_map] at z
  exact z
def rowW (r : Rw) : List Str := lineW r.nm r.ab r.ms r.ws
def pageW (b : Nat) (h x : Str) (rs : List Rw) : List (List Str) := [Str.ofString "in", nS b, h] :: [Str.ofString "asked", x] :: rs.map rowW
def pageT (b : Nat) (h x : Str) (rs : List Rw) : Str := textS (pageW b h x rs)
theorem opts_weave {b : Nat} {sh fa : V} {ms ws : List Str} {vs : List V} (h : Opts b sh fa ms ws vs) : (weave ms ws).length ≤ 4 := by
  cases h <;> simp [weave]
/-- all that a right page is -/
structure Pg (b : Nat) (h x : Str) (rs : List Rw) : Prop where
  b0 : 2 ≤ b
  b1 : b ≤ 100
  how : How h
  nam : Nm x
  good : Good b x rs
  some : rs ≠ []
  wds : ∀ ws ∈ pageW b h x rs, ∀ w ∈ ws, Wd w
theorem Pg.few {b : Nat} {h x : Str} {rs : List Rw} (P : Pg b h x rs) : rs.length ≤ 9 := by
  rcases Nat.lt_or_ge 0 rs.length with z | z
  · have e : rs[rs.length - 1]? = Option.some rs[rs.length - 1] := List.getElem?_eq_getElem (by omega)
    have f := (P.good _ _ e).few
    unfold linesOf at f
    rw [List.length_cons, List.length_map, List.length_take] at f
    omega
  · omega
theorem Pg.len {b : Nat} {h x : Str} {rs : List Rw} (P : Pg b h x rs) : (pageT b h x rs).length ≤ 1000 := by
  have f := P.few
  have z := text_len (ls := pageW b h x rs) fun ws m => ⟨P.wds ws m, by
    unfold pageW at m
    simp only [List.mem_cons, List.mem_map] at m
    rcases m with rfl | rfl | ⟨r, mr, rfl⟩
    · simp
    · simp
    · obtain ⟨k, hk, e⟩ := List.getElem_of_mem mr
      have g := (P.good k r (by rw [List.getElem?_eq_getElem hk, e])).opts
      have w := opts_weave g
      unfold rowW lineW
      simp only [List.length_cons]
      omega⟩
  unfold pageT
  have l : (pageW b h x rs).length = rs.length + 2 := by simp [pageW]
  rw [l] at z
  omega
theorem cut_from {xs : List V} {k : Nat} (hk : k ≤ xs.length) : cutV xs (some (k : Int)) none = xs.drop k := by
  unfold cutV
  rw [show HT.sIx xs.length 0 (some (k : Int)) = min k xs.length from HT.sIx_nat xs.length 0 k, HT.sIx_none, Nat.min_eq_left hk]
  exact List.take_of_length_le (by rw [List.length_drop]; omega)
theorem paired_map {α β γ : Type} {R : α → γ → Prop} {f : β → γ} : ∀ {ys : List α} {xs : List β}, Paired R ys (xs.map f) → Paired (fun y x => R y (f x)) ys xs
  | _, [], .nil => .nil
  | _, _ :: _, .cons a h => .cons a (paired_map h)
def WordsAt (K : PySem.W.Frag) (H : Hp) (y : V) (ws : List Str) : Prop := ∃ a : Addr, y = .ref a ∧ SqL K H a (ws.map V.str)

section
variable {P : Program} {w : World} {K : PySem.W.Frag} {mg : Str → Option Value} {base : Heap}
end
end Uq

namespace Uq
open PySem PySem.Spec PyProof.Rows L2

/-! ### a page, as an object: what is handed on -/
abbrev s_Page__init_ : Stmt := inClass (topS 21) 0
abbrev N_Page__init_ : List Str := ["self", "text", "units", "lines"]
theorem sc_Page__init_ : FnScope N_Page__init_ ["self", "text"] (defScope s_Page__init_) := ⟨rfl, rfl, rfl, by decide +kernel, rfl, by decide +kernel, by decide +kernel⟩
/-- what the class must tell of its instances' attributes -/
structure PgC (K : PySem.W.Frag) (C : Addr) : Prop where
  cls : Cls K C
  text : NoAttr K C "_text"
  units : NoAttr K C "_units"
  lines : NoAttr K C "_lines"
  ends : NoAttr K C "_ends"
theorem linesOf_len {x : Str} {rs : List Rw} : (linesOf x rs).length = rs.length + 1 := by simp [linesOf]
theorem keys_lns {K : PySem.W.Frag} {H : Hp} : ∀ {ls : List Ln} {kvs : List (Key × V)}, Paired (Lat K H) ls kvs → keysV kvs = ls.map fun l => V.str l.nm
  | _, _, .nil => rfl
  | l :: ls, kv :: kvs, .cons a r => by
    show kV kv.1 :: keysV kvs = V.str l.nm :: _
    rw [keys_lns r, a.1]
    rfl
theorem lns_isSome {K : PySem.W.Frag} {H : Hp} {nm : Str} {ls : List Ln} {kvs : List (Key × V)} (hp : Paired (Lat K H) ls kvs) : (valV kvs (.inr nm)).isSome = decide (nm ∈ ls.map (·.nm)) := by
  by_cases e : nm ∈ ls.map (·.nm)
  · rw [lns_some hp e, decide_eq_true e]
  · rw [lns_none hp e, decide_eq_false e]
    rfl
theorem nodup_lines {b : Nat} {x : Str} {rs : List Rw} (h : Good b x rs) : ((linesOf x rs).map (·.nm)).Nodup := by
  have z := lines_nodup h rs.length (Nat.le_refl _)
  rw [List.take_length] at z
  exact z
theorem sqT_ins {K : PySem.W.Frag} {H : Hp} {t a C dx : Addr} {xs : List V} {fs : List (Str × V)} {o : HO} (h : SqT K H t xs) (ha : H a = some (.ins C dx fs)) : SqT K (upd H a o) t xs := by
  rcases h with (h | ⟨ob, h⟩) | h
  · have n : t ≠ a := fun z => by
      rw [z, ha] at h
      cases h
    exact .inl (.inl (by rw [upd_ne n]; exact h))
  · have n : t ≠ a := fun z => by
      rw [z, ha] at h
      cases h
    exact .inl (.inr ⟨ob, by rw [upd_ne n]; exact h⟩)
  · exact .inr h
theorem Lns.ins {K : PySem.W.Frag} {H : Hp} {d a C dx : Addr} {ls : List Ln} {fs : List (Str × V)} {o : HO} (h : Lns K H d ls) (ha : H a = some (.ins C dx fs)) : Lns K (upd H a o) d ls := by
  obtain ⟨kvs, h1, h2⟩ := h
  have n : d ≠ a := fun z => by
    rw [z, ha] at h1
    cases h1
  exact ⟨kvs, by rw [upd_ne n]; exact h1, paired_mono (fun _ _ ⟨e1, t, e2, e3⟩ => ⟨e1, t, e2, sqT_ins e3 ha⟩) h2⟩
theorem upd_twice {H : Hp} {a : Addr} {o o' : HO} : upd (upd H a o) a o' = upd H a o' := by
  funext b
  by_cases z : b = a
  · subst z
    rw [upd_same, upd_same]
  · rw [upd_ne z, upd_ne z, upd_ne z]
theorem putF_len (f : Str) (v : V) : ∀ fs : List (Str × V), (putF f v fs).length ≤ fs.length + 1
  | [] => Nat.le_refl _
  | (g, x) :: r => by
    unfold putF
    by_cases z : g = f
    · rw [if_pos z]
      exact Nat.le_succ _
    · rw [if_neg z]
      exact Nat.succ_le_succ (putF_len f v r)
theorem flat_wholes {x : Str} {rs : List Rw} : (wholes (linesOf x rs)).all flatV = true := by
  simp [wholes, linesOf, top, lnOf, flatV]
theorem Way.mono {ls ls' : List Ln} (m : ∀ l ∈ ls, l ∈ ls') {p : Str} {w : List Str} (h : Way ls p w) : Way ls' p w := by
  induction h with
  | top a b => exact .top (m _ a) b
  | up a b _ i => exact .up (m _ a) b i
/-- every part has its way up -/
theorem good_way {b : Nat} {x : Str} {rs : List Rw} (g : Good b x rs) : ∀ l ∈ linesOf x rs, ∃ w, Way (linesOf x rs) l.nm w ∧ w.length ≤ 4 := by
  intro l hl
  rcases List.mem_cons.mp hl with z | z
  · subst z
    exact ⟨[x], .top (l := top x) hl rfl, by show 1 ≤ 4; decide⟩
  · obtain ⟨r, hr, rfl⟩ := List.mem_map.mp z
    obtain ⟨k, hk, e⟩ := List.mem_iff_getElem.mp hr
    have ek : rs[k]? = some r := by rw [List.getElem?_eq_getElem hk, e]
    obtain ⟨w, hw, lw⟩ := (g k r ek).way
    refine ⟨w, hw.mono fun l' h' => ?_, lw⟩
    rcases List.mem_append.mp h' with h' | h'
    · rcases List.mem_cons.mp h' with z | z
      · subst z
        exact List.mem_cons_self
      · obtain ⟨r', m, rfl⟩ := List.mem_map.mp z
        exact List.mem_cons_of_mem _ (List.mem_map.mpr ⟨r', List.mem_of_mem_take m, rfl⟩)
    · cases List.mem_singleton.mp h'
      exact hl
def onWay (W : Str → List Str) (p e : Str) : Bool := inV (.str p) ((W e).map V.str)
theorem onWay_iff {W : Str → List Str} {p e : Str} : onWay W p e = true ↔ p ∈ W e := by
  unfold onWay inV
  rw [List.any_eq_true]
  constructor
  · rintro ⟨y, m, h⟩
    obtain ⟨q, mq, rfl⟩ := List.mem_map.mp m
    cases eq_of_beq (show (q == p) = true from h)
    exact mq
  · intro m
    exact ⟨.str p, List.mem_map.mpr ⟨p, m, rfl⟩, show (p == p) = true from beq_self_eq_true p⟩
theorem flat_strs : ∀ ws : List Str, (ws.map V.str).all flatV = true
  | [] => rfl
  | _ :: ws => flat_strs ws
theorem ends_few {ls : List Ln} : (ends ls).length ≤ ls.length := by
  unfold ends
  rw [List.length_map]
  exact List.length_filter_le _ _
end Uq

namespace Uq
open PySem PySem.Spec PyProof.Rows L2
open TL

/-! ### any text: its lines, their words -/
def Asc (x : Str) : Prop := ∀ c ∈ tl x, c < 128
theorem spl1 {s : Nat} : ∀ (l acc : List Nat), (∀ p ∈ spl [s] 0 acc l, p.length ≤ acc.length + l.length ∧ ∀ c ∈ p, c ∈ acc ∨ c ∈ l) ∧ (spl [s] 0 acc l).length ≤ l.length + 1 ∧ spl [s] 0 acc l ≠ []
  | [], acc => by
    rw [spl_nil]
    refine ⟨fun p m => ?_, Nat.le_refl _, by simp⟩
    rw [List.mem_singleton.mp m]
    exact ⟨Nat.le_refl _, fun c h => .inl h⟩
  | c :: r, acc => by
    cases h : pre [s] (c :: r) with
    | true =>
      rw [spl_hit h]
      obtain ⟨h1, h2, _⟩ := spl1 (s := s) r []
      refine ⟨fun p m => ?_, by simp only [List.length_cons] at h2 ⊢; exact Nat.succ_le_succ h2, by simp⟩
      rcases List.mem_cons.mp m with rfl | m
      · exact ⟨Nat.le_add_right _ _, fun c h => .inl h⟩
      · obtain ⟨a, b⟩ := h1 p m
        refine ⟨by simp only [List.length_cons, List.length_nil] at a ⊢; omega, fun c hc => ?_⟩
        rcases b c hc with z | z
        · exact nomatch z
        · exact .inr (List.mem_cons_of_mem _ z)
    | false =>
      rw [spl_miss h]
      obtain ⟨h1, h2, h3⟩ := spl1 (s := s) r (acc ++ [c])
      refine ⟨fun p m => ?_, by simp only [List.length_cons]; omega, h3⟩
      obtain ⟨a, b⟩ := h1 p m
      refine ⟨by simp only [List.length_cons, List.length_append, List.length_nil] at a ⊢; omega, fun d hd => ?_⟩
      rcases b d hd with z | z
      · rcases List.mem_append.mp z with z | z
        · exact .inl z
        · rw [List.mem_singleton.mp z]
          exact .inr List.mem_cons_self
      · exact .inr (List.mem_cons_of_mem _ z)
theorem split_any {y : Str} {s : Nat} (ey : tl y = [s]) (hk : y.cps.all (· < 256) = true) (x : Str) : (∀ p ∈ Txt.split x y, p.length ≤ x.length ∧ (Asc x → Asc p)) ∧ (Txt.split x y).length ≤ x.length + 1 ∧ Txt.split x y ≠ [] := by
  have e := split_spl x y (by rw [ey]; simp) (kind_ok hk)
  rw [ey] at e
  obtain ⟨h1, h2, h3⟩ := spl1 (s := s) (tl x) []
  rw [← e] at h1 h2 h3
  refine ⟨fun p hp => ?_, ?_, fun z => h3 (by rw [z]; rfl)⟩
  · obtain ⟨a, b⟩ := h1 (tl p) (List.mem_map.mpr ⟨p, hp, rfl⟩)
    refine ⟨?_, fun hx c hc => ?_⟩
    · rw [len_tl p, len_tl x]
      simpa using a
    · rcases b c hc with z | z
      · exact nomatch z
      · exact hx c z
  · rw [List.length_map] at h2
    rw [len_tl x]
    exact h2
def rowsT (t : Str) : List (List Str) := (Txt.split t nlS).map fun r => Txt.split r spS
theorem lines_any (x : Str) : (∀ p ∈ Txt.split x nlS, p.length ≤ x.length ∧ (Asc x → Asc p)) ∧ (Txt.split x nlS).length ≤ x.length + 1 ∧ Txt.split x nlS ≠ [] := split_any (s := 10) (by decide +kernel) (by decide +kernel) x
theorem words_any (x : Str) : (∀ p ∈ Txt.split x spS, p.length ≤ x.length ∧ (Asc x → Asc p)) ∧ (Txt.split x spS).length ≤ x.length + 1 ∧ Txt.split x spS ≠ [] := split_any (s := 32) (by decide +kernel) (by decide +kernel) x
/-- what the rows of a text of at most n signs are -/
structure RwA (n : Nat) (ws : List Str) : Prop where
  ne : ws ≠ []
  few : ws.length ≤ n + 1
  wd : ∀ w ∈ ws, w.length ≤ n ∧ Asc w
theorem rowsT_any {t : Str} (ha : Asc t) : (∀ ws ∈ rowsT t, RwA t.length ws) ∧ (rowsT t).length ≤ t.length + 1 ∧ rowsT t ≠ [] := by
  obtain ⟨h1, h2, h3⟩ := lines_any t
  refine ⟨fun ws m => ?_, by unfold rowsT; rw [List.length_map]; exact h2, fun z => h3 (List.map_eq_nil_iff.mp z)⟩
  obtain ⟨r, mr, rfl⟩ := List.mem_map.mp m
  obtain ⟨a, b⟩ := h1 r mr
  obtain ⟨k1, k2, k3⟩ := words_any r
  exact ⟨k3, by omega, fun w mw => ⟨Nat.le_trans (k1 w mw).1 a, (k1 w mw).2 (b ha)⟩⟩

/-! ### numbers -/
theorem nS_inj {n k : Nat} (hn : n < 101) (hk : k < 101) (e : nS n = nS k) : n = k := by
  have a := (num_facts n hn).2.1
  have b := (num_facts k hk).2.1
  rw [e, b] at a
  exact (Int.ofNat.inj (Option.some.inj a)).symm
def numW (w : Str) (m : Nat) : Option Nat := (List.range (m + 1)).find? fun n => nS n == w
theorem numW_iff {w : Str} {m n : Nat} (hm : m < 101) : numW w m = some n ↔ n ≤ m ∧ nS n = w := by
  have fwd : ∀ k, numW w m = some k → k ≤ m ∧ nS k = w := fun k h => by
    have a := List.find?_some h
    have b := List.mem_of_find?_eq_some h
    exact ⟨Nat.le_of_lt_succ (List.mem_range.mp b), eq_of_beq a⟩
  refine ⟨fwd n, fun ⟨a, b⟩ => ?_⟩
  cases e : numW w m with
  | none =>
    have z := List.find?_eq_none.mp e n (List.mem_range.mpr (by omega))
    exact absurd (by rw [b]; exact beq_self_eq_true w) z
  | some k =>
    obtain ⟨c, d⟩ := fwd k e
    rw [nS_inj (by omega) (by omega) (d.trans b.symm)]
theorem numW_none {w : Str} {m : Nat} (hm : m < 101) (h : ∀ n, n ≤ m → nS n ≠ w) : numW w m = none := by
  cases e : numW w m with
  | none => rfl
  | some k =>
    obtain ⟨c, d⟩ := (numW_iff hm).mp e
    exact absurd d (h k c)
theorem dec_sign : ∀ c : Nat, c < 128 → Unicode.isDecimal c = true → 48 ≤ c ∧ c ≤ 57 := by decide +kernel
theorem all_tl (x : Str) (p : Nat → Bool) : x.cps.all p = (tl x).all p := by rw [Array.all_toList]
theorem any_tl (x : Str) (p : Nat → Bool) : x.cps.any p = (tl x).any p := by rw [Array.any_toList]
theorem dec_digits {w : Str} (ha : Asc w) (hd : Txt.isdecimal w = true) : NumText.AllDigits (tl w) ∧ tl w ≠ [] := by
  unfold Txt.isdecimal at hd
  rw [Bool.and_eq_true, all_tl] at hd
  have l := of_decide_eq_true hd.1
  rw [len_tl] at l
  refine ⟨fun c m => dec_sign c (ha c m) (List.all_eq_true.mp hd.2 c m), fun z => ?_⟩
  rw [z] at l
  exact absurd l (by decide)
theorem foldD_lt : ∀ (l : List Nat) (n : Nat), NumText.AllDigits l → l.foldl (fun acc c => acc * 10 + (c - 48)) n < (n + 1) * 10 ^ l.length
  | [], n, _ => by simp
  | c :: r, n, h => by
    have i := foldD_lt r (n * 10 + (c - 48)) h.tail
    have d := h.head
    refine Nat.lt_of_lt_of_le i ?_
    rw [List.length_cons, Nat.pow_succ]
    have e : (n + 1) * (10 ^ r.length * 10) = ((n + 1) * 10) * 10 ^ r.length := by
      rw [Nat.mul_comm (10 ^ r.length) 10, ← Nat.mul_assoc]
    rw [e]
    exact Nat.mul_le_mul_right _ (by omega)
theorem digits_lt {l : List Nat} (h : NumText.AllDigits l) : NumText.digitsVal l < 10 ^ l.length := by
  have z := foldD_lt l 0 h
  rw [Nat.zero_add, Nat.one_mul] at z
  exact z
theorem foldD_ge : ∀ (l : List Nat) (n : Nat), n ≤ l.foldl (fun acc c => acc * 10 + (c - 48)) n
  | [], n => Nat.le_refl _
  | c :: r, n => Nat.le_trans (by omega) (foldD_ge r (n * 10 + (c - 48)))
theorem foldD_num : ∀ (l : List Nat) (n : Nat), 1 ≤ n → NumText.AllDigits l → numL (l.foldl (fun acc c => acc * 10 + (c - 48)) n) = numL n ++ l
  | [], n, _, _ => by rw [List.append_nil]; rfl
  | c :: r, n, h0, h => by
    have d := h.head
    have i := foldD_num r (n * 10 + (c - 48)) (by omega) h.tail
    show numL (r.foldl (fun acc c => acc * 10 + (c - 48)) (n * 10 + (c - 48))) = _
    rw [i, numL_step (n := n * 10 + (c - 48)) (by omega), show (n * 10 + (c - 48)) / 10 = n by omega, show 48 + (n * 10 + (c - 48)) % 10 = c by omega, List.append_assoc]
    rfl
/-- digits without a zero ahead are what their number is written as -/
theorem digits_back {w : Str} {c : Nat} {r : List Nat} (e : tl w = c :: r) (c0 : c ≠ 48) (h : NumText.AllDigits (tl w)) : nS (NumText.digitsVal (tl w)) = w := by
  refine ext_tl ?_
  show tl (Str.ofString (toString ((NumText.digitsVal (tl w) : Nat) : Int))) = _
  rw [tl_num]
  rw [e] at h ⊢
  have d := h.head
  show numL (r.foldl (fun acc c => acc * 10 + (c - 48)) (0 * 10 + (c - 48))) = _
  rw [foldD_num r _ (by omega) h.tail, numL_lt (by omega)]
  show (48 + (0 * 10 + (c - 48))) :: r = c :: r
  rw [show 48 + (0 * 10 + (c - 48)) = c by omega]
theorem int_of_digits {w : Str} (h : NumText.AllDigits (tl w)) (h1 : tl w ≠ []) (h2 : w.length ≤ 640) : PySem.intText? w = some ((NumText.digitsVal (tl w) : Nat) : Int) := intText_digits h h1 (by omega)
/-- a number that a word of digits writes, read back -/
theorem num_val {n : Nat} {w : Str} (hn : n < 101) (e : nS n = w) (h : NumText.AllDigits (tl w)) (h1 : tl w ≠ []) (h2 : w.length ≤ 640) : NumText.digitsVal (tl w) = n := by
  have a := int_of_digits h h1 h2
  rw [← e, (num_facts n hn).2.1] at a
  have b := Int.ofNat.inj (Option.some.inj a)
  rw [e] at b
  exact b.symm
theorem num_shape : ∀ n : Nat, n < 101 → 1 ≤ (nS n).length ∧ (nS n).length ≤ 3 ∧ (tl (nS n)).all (fun c => decide (48 ≤ c) && decide (c ≤ 57)) = true ∧ ((tl (nS n)).head? = some 48 → n = 0) := by decide +kernel
/-- a number within bounds, as the law reads it -/
def figB (w : Str) (lo hi : Nat) : Bool := match numW w hi with
  | some n => decide (lo ≤ n)
  | none => false

/-! ### names -/
def rng (c : Nat) : Bool := decide (97 ≤ c) && decide (c ≤ 122)
def nameR (x : Str) : Bool := decide (1 ≤ x.length) && decide (x.length ≤ 8) && (tl x).all rng
theorem sign_facts : ∀ c : Nat, c < 128 → (rng c = true → Unicode.isAlpha c = true) ∧ (Unicode.isAlpha c = true → Unicode.isLower c = rng c ∧ Unicode.isUpper c = !rng c ∧ Unicode.isTitle c = false) := by decide +kernel
theorem alpha_no {x : Str} (ha : Asc x) (l : 1 ≤ x.length) (h : Txt.isalpha x = false) : (tl x).all rng = false := by
  cases e : (tl x).all rng with
  | false => rfl
  | true =>
    unfold Txt.isalpha at h
    rw [all_tl, decide_eq_true (show x.length > 0 by omega), Bool.true_and] at h
    rw [← h]
    symm
    rw [List.all_eq_true] at e ⊢
    exact fun c m => (sign_facts c (ha c m)).1 (e c m)
theorem lower_is {x : Str} (ha : Asc x) (l : 1 ≤ x.length) (h : Txt.isalpha x = true) : Txt.islower x = (tl x).all rng := by
  unfold Txt.isalpha at h
  rw [Bool.and_eq_true, all_tl, List.all_eq_true] at h
  unfold Txt.islower
  rw [any_tl, any_tl]
  have f := fun c (m : c ∈ tl x) => (sign_facts c (ha c m)).2 (h.2 c m)
  cases e : (tl x).all rng with
  | true =>
    rw [List.all_eq_true] at e
    rw [Bool.and_eq_true]
    constructor
    · have z : tl x ≠ [] := fun z => by
        rw [len_tl, z] at l
        exact absurd l (by decide)
      obtain ⟨c, r, er⟩ := List.exists_cons_of_ne_nil z
      have mc : c ∈ tl x := by rw [er]; exact List.mem_cons_self
      rw [List.any_eq_true]
      exact ⟨c, mc, by rw [(f c mc).1, e c mc]⟩
    · rw [Bool.not_eq_true', List.any_eq_false]
      intro c mc
      rw [(f c mc).2.1, (f c mc).2.2, e c mc]
      decide
  | false =>
    rw [List.all_eq_false] at e
    obtain ⟨c, mc, ec⟩ := e
    have ec' : rng c = false := by simpa using ec
    have z : ((tl x).any fun c => Unicode.isUpper c || Unicode.isTitle c) = true := by
      rw [List.any_eq_true]
      exact ⟨c, mc, by rw [(f c mc).2.1, ec']; rfl⟩
    rw [z]
    simp
theorem asc_of {x : Str} (h : Txt.isascii x = true) : Asc x := by
  unfold Txt.isascii at h
  rw [all_tl, List.all_eq_true] at h
  exact fun c m => of_decide_eq_true (h c m)
theorem asc_is {x : Str} (h : Asc x) : Txt.isascii x = true := by
  unfold Txt.isascii
  rw [all_tl, List.all_eq_true]
  exact fun c m => decide_eq_true (h c m)
theorem nm_name {x : Str} (h : Nm x) : nameR x = true := by
  unfold nameR
  rw [decide_eq_true h.low, decide_eq_true h.up, ← lower_is (asc_of h.asc) h.low h.alp, h.lwr]
  rfl
theorem name_nm {x : Str} (h : nameR x = true) : Nm x := by
  unfold nameR at h
  rw [Bool.and_eq_true, Bool.and_eq_true] at h
  obtain ⟨⟨a, b⟩, c⟩ := h
  have a := of_decide_eq_true a
  have b := of_decide_eq_true b
  have d : Asc x := fun i m => by
    have z := List.all_eq_true.mp c i m
    unfold rng at z
    rw [Bool.and_eq_true] at z
    have := of_decide_eq_true z.2
    omega
  have e : Txt.isalpha x = true := by
    cases e : Txt.isalpha x with
    | true => rfl
    | false => rw [alpha_no d a e] at c; cases c
  exact ⟨a, b, asc_is d, e, by rw [lower_is d a e]; exact c⟩
end Uq

namespace Uq
open PySem PySem.Spec PyProof.Rows L2
open TL

/-! ### the reader, as a function -/
def howB (h : Str) : Bool := inV (.str h) hows
theorem howB_iff {h : Str} : howB h = true ↔ How h := by
  refine ⟨fun z => ?_, in_hows⟩
  unfold howB inV hows at z
  simp only [List.any_cons, List.any_nil, Bool.or_false, Bool.or_eq_true] at z
  have f : ∀ y : Str, eqV (.str y) (.str h) = true → h = y := fun y e => by
    have e' : (y == h) = true := e
    exact (eq_of_beq e').symm
  rcases z with z | z | z | z
  · exact .inl (f _ z)
  · exact .inr (.inl (f _ z))
  · exact .inr (.inr (.inl (f _ z)))
  · exact .inr (.inr (.inr (f _ z)))
def unitsR (ws : List Str) : Option (Nat × Str) := match ws with
  | [a, w, h] => if a = "in" then (match numW w 100 with
    | some n => if 2 ≤ n ∧ howB h = true then some (n, h) else none
    | none => none) else none
  | _ => none
def askR (ws : List Str) : Option Str := match ws with
  | [a, x] => if a = "asked" ∧ nameR x = true then some x else none
  | _ => none
def shareR (b : Nat) (w : Str) : Option V := if inV (.str w) wordsV = true then some (.str w) else (numW w b).map fun n => .int n
/-- what stands at each second place -/
def evens {α : Type} : List α → List α
  | [] => []
  | [a] => [a]
  | a :: _ :: r => a :: evens r
def oddW {α : Type} (l : List α) : List α := evens (l.drop 1)
def tailR (b : Nat) (ws : List Str) : Option (V × V) := match ws with
  | [] => some (.non, .non)
  | [m, w] => match shareR b w with
    | some v => if m = "is" then some (v, .non) else if m = "all" then some (.non, v) else none
    | none => none
  | [m, w, n, y] => if m = "is" ∧ n = "all" then (match shareR b w, shareR b y with
    | some v, some u => some (v, u)
    | _, _ => none) else none
  | _ => none
structure Kn where
  ln : Ln
  dp : Nat
def lnsK (ks : List Kn) : List Ln := ks.map (·.ln)
def namesK (ks : List Kn) : List Str := (lnsK ks).map (·.nm)
def dpOf (ks : List Kn) (p : Str) : Nat := match ks.find? (fun k => k.ln.nm == p) with
  | some k => k.dp
  | none => 0
def lineR (b : Nat) (ks : List Kn) (ws : List Str) : Option Kn := match ws with
  | a :: nm :: o :: ab :: tl => if a = "part" ∧ o = "of" ∧ nameR nm = true ∧ nm ∉ namesK ks ∧ ab ∈ namesK ks then (tailR b tl).map fun sf => ⟨⟨nm, .str ab, sf.1, sf.2⟩, dpOf ks ab + 1⟩ else none
  | _ => none
def muchR (ks : List Kn) (k : Kn) : Bool := decide (10 < ks.length) || (decide (6 < (ends (lnsK ks)).length) || decide (4 < k.dp + 1))
def rowsR (b : Nat) : List Kn → Nat → List (List Str) → Nat ⊕ List Kn
  | ks, _, [] => .inr ks
  | ks, n, ws :: r => match lineR b ks ws with
    | none => .inl n
    | some k => if muchR (ks ++ [k]) k = true then .inl n else rowsR b (ks ++ [k]) (n + 1) r
def topK (x : Str) : Kn := ⟨top x, 0⟩
def pageR (rows : List (List Str)) : Nat ⊕ (Nat × Str × List Kn) := match rows with
  | [] => .inl 1
  | r0 :: rest => match unitsR r0 with
    | none => .inl 1
    | some (b, h) => match rest with
      | [] => .inl 2
      | r1 :: more => match askR r1 with
        | none => .inl 2
        | some x => match more with
          | [] => .inl 3
          | _ :: _ => match rowsR b [topK x] 3 more with
            | .inl n => .inl n
            | .inr ks => .inr (b, h, ks)

/-! ### each second word -/
theorem evens_range {α : Type} : ∀ l : List α, (List.range ((l.length + 1) / 2)).filterMap (fun k => l[2 * k]?) = evens l
  | [] => by simp [evens]
  | [a] => by simp [evens, List.range_succ]
  | a :: b :: r => by
    have i := evens_range r
    have e : ((a :: b :: r).length + 1) / 2 = (r.length + 1) / 2 + 1 := by
      simp only [List.length_cons]
      omega
    rw [e, List.range_succ_eq_map, List.filterMap_cons, List.filterMap_map]
    show a :: _ = a :: evens r
    rw [← i]
    congr 1
theorem pick_from {α : Type} (xs : List α) (k : Nat) (hk : k ≤ xs.length) : pickV xs (some (k : Int)) none (some 2) = evens (xs.drop k) := by
  have eb : sliceBounds (some (k : Int)) none (some 2) xs.length = ((k : Int), (xs.length : Int), 2) := by
    unfold sliceBounds
    simp only [Option.getD_some]
    simp only [show (2 : Int) > 0 from by decide, if_true]
    rw [if_neg (by omega)]
    congr 1
    omega
  unfold pickV
  rw [eb]
  show (sliceRange (k : Int) (xs.length : Int) 2).filterMap (xs[·]?) = _
  have er : sliceRange (k : Int) (xs.length : Int) 2 = (List.range (((xs.drop k).length + 1) / 2)).map fun i => k + 2 * i := by
    unfold sliceRange
    rw [if_pos (by decide : (2 : Int) > 0), List.length_drop]
    have ec : (if (k : Int) < (xs.length : Int) then ((xs.length : Int) - k + 2 - 1) / 2 else 0).toNat = (xs.length - k + 1) / 2 := by
      by_cases h : (k : Int) < (xs.length : Int)
      · rw [if_pos h]
        omega
      · rw [if_neg h]
        omega
    show List.map (fun j : Nat => ((k : Int) + 2 * (j : Int)).toNat) (List.range (if (k : Int) < (xs.length : Int) then ((xs.length : Int) - k + 2 - 1) / 2 else 0).toNat) = _
    rw [ec]
    refine List.map_congr_left fun i _ => ?_
    omega
  rw [er, List.filterMap_map, ← evens_range]
  congr 1
  funext i
  show xs[k + 2 * i]? = (xs.drop k)[2 * i]?
  rw [List.getElem?_drop]
theorem evens_map {α β : Type} (f : α → β) : ∀ l : List α, evens (l.map f) = (evens l).map f
  | [] => rfl
  | [_] => rfl
  | a :: b :: r => by
    show f a :: evens (r.map f) = f a :: (evens r).map f
    rw [evens_map f r]
theorem evens_len {α : Type} : ∀ l : List α, (evens l).length = (l.length + 1) / 2
  | [] => by simp [evens]
  | [_] => by simp [evens]
  | a :: b :: r => by
    show (evens r).length + 1 = _
    rw [evens_len r]
    simp only [List.length_cons]
    omega
theorem oddW_len {α : Type} (l : List α) : (oddW l).length = l.length / 2 := by
  unfold oddW
  rw [evens_len, List.length_drop]
  omega
theorem evens_mem {α : Type} : ∀ {l : List α} {x : α}, x ∈ evens l → x ∈ l
  | [], _, h => nomatch h
  | [a], x, h => h
  | a :: b :: r, x, h => by
    rcases List.mem_cons.mp h with rfl | h
    · exact List.mem_cons_self
    · exact List.mem_cons_of_mem _ (List.mem_cons_of_mem _ (evens_mem h))
theorem oddW_mem {α : Type} {l : List α} {x : α} (h : x ∈ oddW l) : x ∈ l := List.mem_of_mem_drop (evens_mem h)

/-! ### the marks -/
theorem eqv_strs : ∀ ms ns : List Str, PyData.eqvAll (ms.map PyData.str) (ns.map PyData.str) = decide (ms = ns)
  | [], [] => rfl
  | [], _ :: _ => rfl
  | _ :: _, [] => rfl
  | m :: ms, n :: ns => by
    show (PyData.eqv (.str m) (.str n) && PyData.eqvAll (ms.map PyData.str) (ns.map PyData.str)) = _
    rw [eqv_strs ms ns, show PyData.eqv (.str m) (.str n) = (m == n) by rw [PyData.eqv], Bool.eq_iff_iff]
    simp
theorem eqv_tup (ms ns : List Str) : PyData.eqv (.tuple (ms.map PyData.str)) (.tuple (ns.map PyData.str)) = decide (ms = ns) := by
  rw [PyData.eqv, eqv_strs]
def isMark (ms : List Str) : Bool := decide (ms = []) || (decide (ms = [("is" : Str)]) || (decide (ms = [("all" : Str)]) || decide (ms = [("is" : Str), "all"])))
theorem marks_in (ms : List Str) : (marksD.any fun z => PyData.eqv z (.tuple (ms.map PyData.str))) = isMark ms := by
  show (PyData.eqv (.tuple (([] : List Str).map PyData.str)) _ || (PyData.eqv (.tuple ((["is"] : List Str).map PyData.str)) _ || (PyData.eqv (.tuple ((["all"] : List Str).map PyData.str)) _ || (PyData.eqv (.tuple ((["is", "all"] : List Str).map PyData.str)) _ || false)))) = _
  rw [eqv_tup, eqv_tup, eqv_tup, eqv_tup, Bool.or_false]
  unfold isMark
  simp only [eq_comm (b := ms)]
theorem strs_shaped {ms : List Str} (hm : ∀ m ∈ ms, PyData.strOk m = true) : SeqAt.shaped (.tuple (ms.map PyData.str)) = true := by
  have a : ∀ ms : List Str, (∀ m ∈ ms, PyData.strOk m = true) → PyData.canLayAll0 (ms.map PyData.str) = true := by
    intro ms
    induction ms with
    | nil => exact fun _ => rfl
    | cons m ms ih =>
      intro h
      show PyData.canLayAll0 (.str m :: ms.map PyData.str) = true
      rw [PyData.canLayAll0, ih fun n hn => h n (List.mem_cons_of_mem _ hn), PyData.canLay0, h m List.mem_cons_self]
      rfl
  have d : ∀ ms : List Str, PyData.depthAll (ms.map PyData.str) = 0 := by
    intro ms
    induction ms with
    | nil => rfl
    | cons m ms ih =>
      show PyData.depthAll (.str m :: ms.map PyData.str) = 0
      rw [PyData.depthAll, ih, PyData.depth]
      rfl
  unfold SeqAt.shaped
  rw [PyData.canLay0, a ms hm, PyData.depth, d]
  rfl
/-- what the program asks of the words behind a part's place -/
theorem tail_is (b : Nat) (tl : List Str) : tailR b tl = (if isMark (evens tl) = true ∧ (oddW tl).length = (evens tl).length ∧ (∀ w ∈ oddW tl, (shareR b w).isSome = true) then
    some ((valV (mergeK [] (((evens tl).map Sum.inr).zip ((oddW tl).map fun w => (shareR b w).getD .non))) (.inr "is")).getD .non, (valV (mergeK [] (((evens tl).map Sum.inr).zip ((oddW tl).map fun w => (shareR b w).getD .non))) (.inr "all")).getD .non) else none) := by
  match tl with
  | [] => rfl
  | [a] =>
    rw [if_neg]
    · rfl
    · rintro ⟨_, h, _⟩
      exact absurd h (by show ¬ (0 = 1); decide)
  | [m, w] =>
    show (match shareR b w with
      | some v => if m = "is" then some (v, V.non) else if m = "all" then some (V.non, v) else none
      | none => none) = _
    cases e : shareR b w with
    | none =>
      rw [if_neg]
      rintro ⟨_, _, h⟩
      have := h w (by show w ∈ [w]; simp)
      rw [e] at this
      cases this
    | some v =>
      have eo : (oddW [m, w]).map (fun w => (shareR b w).getD .non) = [v] := by
        show [(shareR b w).getD .non] = [v]
        rw [e]
        rfl
      rw [eo]
      show (if m = "is" then some (v, V.non) else if m = "all" then some (V.non, v) else none) = _
      by_cases h1 : m = "is"
      · subst h1
        rw [if_pos rfl, if_pos ⟨by show isMark [_] = true; decide +kernel, rfl, fun y hy => by
          have hy' : y ∈ [w] := hy
          rw [List.mem_singleton.mp hy', e]
          rfl⟩]
        rfl
      · rw [if_neg h1]
        by_cases h2 : m = "all"
        · subst h2
          rw [if_pos rfl, if_pos ⟨by show isMark [_] = true; decide +kernel, rfl, fun y hy => by
            have hy' : y ∈ [w] := hy
            rw [List.mem_singleton.mp hy', e]
            rfl⟩]
          rfl
        · rw [if_neg h2, if_neg]
          rintro ⟨h, _, _⟩
          have h' : isMark [m] = true := h
          unfold isMark at h'
          simp [h1, h2] at h'
  | [a, m, c] =>
    rw [if_neg]
    · rfl
    · rintro ⟨_, h, _⟩
      exact absurd h (by show ¬ (1 = 2); decide)
  | [m, w, n, y] =>
    show (if m = "is" ∧ n = "all" then (match shareR b w, shareR b y with
      | some v, some u => some (v, u)
      | _, _ => none) else none) = _
    by_cases h : m = "is" ∧ n = "all"
    · obtain ⟨rfl, rfl⟩ := h
      rw [if_pos ⟨rfl, rfl⟩]
      cases e1 : shareR b w with
      | none =>
        rw [if_neg]
        rintro ⟨_, _, h⟩
        have := h w (by show w ∈ [w, y]; simp)
        rw [e1] at this
        cases this
      | some v =>
        cases e2 : shareR b y with
        | none =>
          rw [if_neg]
          rintro ⟨_, _, h⟩
          have := h y (by show y ∈ [w, y]; simp)
          rw [e2] at this
          cases this
        | some u =>
          have eo : (oddW [("is" : Str), w, "all", y]).map (fun w => (shareR b w).getD .non) = [v, u] := by
            show [(shareR b w).getD .non, (shareR b y).getD .non] = [v, u]
            rw [e1, e2]
            rfl
          rw [eo, if_pos ⟨by show isMark [_, _] = true; decide +kernel, rfl, fun z hz => by
            have hz' : z ∈ [w, y] := hz
            rcases List.mem_cons.mp hz' with rfl | hz'
            · rw [e1]; rfl
            · rw [List.mem_singleton.mp hz', e2]; rfl⟩]
          rfl
    · rw [if_neg h, if_neg]
      rintro ⟨g, _, _⟩
      have g' : isMark [m, n] = true := g
      unfold isMark at g'
      simp at g'
      exact h g'
  | a :: m :: c :: d :: e :: r =>
    rw [if_neg]
    · rfl
    · rintro ⟨g, _, _⟩
      have g' : isMark (a :: c :: evens (e :: r)) = true := g
      have l : 1 ≤ (evens (e :: r)).length := by
        rw [evens_len]
        simp only [List.length_cons]
        omega
      unfold isMark at g'
      simp only [Bool.or_eq_true, decide_eq_true_eq] at g'
      rcases g' with g | g | g | g
      · cases g
      · injection g with g1 g2
        cases g2
      · injection g with g1 g2
        cases g2
      · injection g with g1 g2
        injection g2 with g3 g4
        rw [g4] at l
        exact absurd l (by decide)
end Uq

namespace Uq
open PySem PySem.Spec PyProof.Rows L2

open TL
/-! ### numbers, names, shares, units of any words -/
theorem sqT_ty {K : PySem.W.Frag} {H : Hp} {a : Addr} {xs : List V} (h : SqT K H a xs) : TyX K H (.ref a) (.type "tuple") := ty_tup h
def isI : V → Bool
  | .int _ => true
  | _ => false
/-- units told by their data -/
def unitsD : PyData → Bool
  | .tuple [.int b, .str h] => decide (2 ≤ b) && (decide (b ≤ 100) && inV (.str h) hows)
  | _ => false
theorem how_of {h : Str} (e : inV (.str h) hows = true) : How h := by
  unfold inV hows at e
  simp only [List.any_cons, List.any_nil, Bool.or_false, Bool.or_eq_true] at e
  have k : ∀ s : Str, eqV (.str s) (.str h) = true → h = s := fun s z => by
    have y : s = h := by simpa [eqV] using z
    exact y.symm
  rcases e with e | e | e | e
  · exact .inl (k _ e)
  · exact .inr (.inl (k _ e))
  · exact .inr (.inr (.inl (k _ e)))
  · exact .inr (.inr (.inr (k _ e)))
theorem units_un {K : PySem.W.Frag} {H : Hp} {v : V} {d : PyData} (h : Dx K H v d) (e : unitsD d = true) : ∃ (u : Addr) (b : Int) (hw : Str), v = .ref u ∧ Un K H u b hw ∧ d = .tuple [.int b, .str hw] := by
  cases h with
  | @tup a xs ds hs ha =>
    cases ha with
    | nil => cases e
    | @cons v1 vs d1 ds1 h1 ha =>
      cases ha with
      | nil => cases h1 <;> cases e
      | @cons v2 vs2 d2 ds2 h2 ha =>
        cases ha with
        | nil =>
          cases h1 with
          | int b =>
            cases h2 with
            | str s =>
              have z : (decide (2 ≤ b) && (decide (b ≤ 100) && inV (.str s) hows)) = true := e
              rw [Bool.and_eq_true, Bool.and_eq_true] at z
              exact ⟨a, b, s, rfl, ⟨hs, of_decide_eq_true z.1, of_decide_eq_true z.2.1, how_of z.2.2⟩, rfl⟩
            | _ => cases e
          | _ => cases h2 <;> cases e
        | cons h3 ha => cases h1 <;> cases h2 <;> cases e
  | _ => cases e
def sp_is_integerX (K : PySem.W.Frag) : Sp := fun vs H Q _ => ∃ (v : V) (d : PyData), vs = [v] ∧ Dx K H v d ∧ Q (.bl (isI v)) H
def sp_is_unitsX (K : PySem.W.Frag) : Sp := fun vs H Q _ => ∃ (v : V) (d : PyData), vs = [v] ∧ Dx K H v d ∧ Q (.bl (unitsD d)) H
def numV : Option Nat → V
  | some n => .int n
  | none => .non
def shV (o : Option V) : V := o.getD .non
theorem log1000 {k : Nat} (h : k < 10 ^ 15) : (k : Int).natAbs.log2 < 1920 := Nat.lt_of_lt_of_le (PySem.Flt.log2_lt_of (show 0 < 60 by decide) (show (k : Int).natAbs < 2 ^ 60 by omega)) (by decide)
theorem num3 {m : Nat} (h : m ≤ 100) : (nS m).length ≤ 3 := (num_shape m (by omega)).2.1
def sp_read_number (K : PySem.W.Frag) : Sp := fun vs H Q _ => ∃ (w : Str) (m : Nat), vs = [.str w, .int m] ∧ Asc w ∧ w.length ≤ 100000 ∧ m ≤ 100 ∧ Q (numV (numW w m)) H
def sp_is_name (K : PySem.W.Frag) : Sp := fun vs H Q _ => ∃ x : Str, vs = [.str x] ∧ Asc x ∧ x.length ≤ 100000 ∧ Q (.bl (nameR x)) H
def sp_read_share (K : PySem.W.Frag) : Sp := fun vs H Q _ => ∃ (u : Addr) (b : Nat) (h w : Str), vs = [.ref u, .str w] ∧ Un K H u b h ∧ Asc w ∧ w.length ≤ 100000 ∧ Q (shV (shareR b w)) H
def sp_read_units (K : PySem.W.Frag) : Sp := fun vs H Q _ => ∃ (l : Addr) (ws : List Str), vs = [.ref l] ∧ SqL K H l (ws.map V.str) ∧ RwA 10000 ws ∧
  (unitsR ws = none → ∀ H', Same H H' → Q .non H') ∧ (∀ b h, unitsR ws = some (b, h) → ∀ H' u, Same H H' → H u = none → H' u = some (.tup [.int b, .str h]) → Un K H' u b h → Q (.ref u) H')
def sp_is_asked (K : PySem.W.Frag) : Sp := fun vs H Q _ => ∃ (l : Addr) (ws : List Str), vs = [.ref l] ∧ SqL K H l (ws.map V.str) ∧ RwA 10000 ws ∧ Q (.bl (askR ws).isSome) H
section
variable {P : Program} {w : World} {K : PySem.W.Frag} {mg : Str → Option Value} {base : Heap}
theorem ok_is_integerX {f : Addr} {fd : FuncData} (F : Fun K "is_integer" "is_integer" s_is_integer f fd) (m_isinstance : mg "isinstance" = none) (m_int : mg "int" = none) (m_bool : mg "bool" = none) : FnOk P w K mg base CX0 1 f fd ["value"] (sp_is_integerX K) := by
  refine F.ok sc_is_integer (fun vs H Q E h => ?_) (fun cdv A outer s H vs Q E hr h => ?_)
  · obtain ⟨v, d, rfl, _⟩ := h
    rfl
  · refine ⟨_, (pss_one (ps_ret (pe_and (pe_callB call_isi (by rfl) m_isinstance (by decide +kernel) (pa_cons (pv 0) (pa_cons (pe_bltn (v := .ty "int") (by rfl) m_int (by decide +kernel) rfl) pa_nil))) (pe_one (pe_not (pe_callB call_isi (by rfl) m_isinstance (by decide +kernel) (pa_cons (pv 0) (pa_cons (pe_bltn (v := .ty "bool") (by rfl) m_bool (by decide +kernel) rfl) pa_nil)))))))), ?_⟩
    obtain ⟨v, d, rfl, hd, q⟩ := h
    cases hd with
    | non => exact ⟨_, rfl, _, .ty "int", _, _, false, rfl, .ty "int", .base .non, kit_ty (by decide +kernel), false, rfl, q⟩
    | bl y => exact ⟨_, rfl, _, .ty "int", _, _, true, rfl, .ty "int", .base (.bl y), kit_ty (by decide +kernel), true, rfl, _, rfl, _, .ty "bool", _, _, true, rfl, .ty "bool", .base (.bl y), kit_ty (by decide +kernel), true, rfl, q⟩
    | int i => exact ⟨_, rfl, _, .ty "int", _, _, true, rfl, .ty "int", .base (.int i), kit_ty (by decide +kernel), true, rfl, _, rfl, _, .ty "bool", _, _, false, rfl, .ty "bool", .base (.int i), kit_ty (by decide +kernel), false, rfl, q⟩
    | str x => exact ⟨_, rfl, _, .ty "int", _, _, false, rfl, .ty "int", .base (.str x), kit_ty (by decide +kernel), false, rfl, q⟩
    | lst e _ _ => exact ⟨_, rfl, _, .ty "int", _, _, false, rfl, .ty "int", .base (.lst e), kit_ty (by decide +kernel), false, rfl, q⟩
    | tup e _ => exact ⟨_, rfl, _, .ty "int", _, _, false, rfl, .ty "int", sqT_ty e, kit_ty (by decide +kernel), false, rfl, q⟩
    | dct e _ _ => exact ⟨_, rfl, _, .ty "int", _, _, false, rfl, .ty "int", .base (.dK e), kit_ty (by decide +kernel), false, rfl, q⟩
theorem ok_is_unitsX {f : Addr} {fd : FuncData} (F : Fun K "is_units" "is_units" s_is_units f fd) (m_isinstance : mg "isinstance" = none) (m_tuple : mg "tuple" = none) (m_len : mg "len" = none) (m_str : mg "str" = none) {a_HOWS : Addr} (g_HOWS : mg "HOWS" = some (.ref a_HOWS)) (t_HOWS : TupK K a_HOWS hows) (c_is_integerX : Cal P w K mg base 1 "is_integer" ["value"] (sp_is_integerX K)) : FnOk P w K mg base CX0 2 f fd ["value"] (sp_is_unitsX K) := by
  refine F.ok sc_is_units (fun vs H Q E h => ?_) (fun cdv A outer s H vs Q E hr h => ?_)
  · obtain ⟨v, d, rfl, _⟩ := h
    rfl
  · refine ⟨_, (pss_cons (ps_if (PW.pt (pw_or (pt_not (pt_val (pe_callB call_isi (by rfl) m_isinstance (by decide +kernel) (pa_cons (pv 0) (pa_cons (pe_bltn (v := .ty "tuple") (by rfl) m_tuple (by decide +kernel) rfl) pa_nil))))) (pw_or1 (pt_cmpR op_ne (pe_callB call_len_seq (by rfl) m_len (by decide +kernel) (pa_cons (pv 0) pa_nil)) pe_int (nomark _))))) (pss_one (ps_ret pe_bl)) pss_nil)
      (pss_cons (ps_asg (pv 0) (pg_tup rfl (pgs_cons (pg_name (i := 1) sc_is_units.nd rfl (.inl rfl)) (pgs_cons (pg_name (i := 2) sc_is_units.nd rfl (.inl rfl)) pgs_nil))))
      (pss_cons (ps_if (PW.pt (pw_or (pt_not (pt_val (pe_call c_is_integerX.G (hr.mono (by decide)) (by rfl) c_is_integerX.g c_is_integerX.kp c_is_integerX.b .nil pass0 (pa_cons (pv 1) pa_nil)))) (pw_or1 (pt_not (pt_val (pe_callB call_isi (by rfl) m_isinstance (by decide +kernel) (pa_cons (pv 2) (pa_cons (pe_bltn (v := .ty "str") (by rfl) m_str (by decide +kernel) rfl) pa_nil)))))))) (pss_one (ps_ret pe_bl)) pss_nil)
      (pss_one (ps_ret (pe_and (pe_chain op_le op_le pe_int (pv 1) pe_int) (pe_one (pe_cmpR op_in_seq (pv 2) (pe_glob (v := .ref a_HOWS) (by rfl) g_HOWS rfl) rfl)))))))), ?_⟩
    obtain ⟨v, d, rfl, hd, q⟩ := h
    have hd0 := hd
    cases hd with
    | non => exact ⟨_, rfl, _, .ty "tuple", _, _, false, rfl, .ty "tuple", .base .non, kit_ty (by decide +kernel), false, rfl, iteT q⟩
    | bl y => exact ⟨_, rfl, _, .ty "tuple", _, _, false, rfl, .ty "tuple", .base (.bl y), kit_ty (by decide +kernel), false, rfl, iteT q⟩
    | int i => exact ⟨_, rfl, _, .ty "tuple", _, _, false, rfl, .ty "tuple", .base (.int i), kit_ty (by decide +kernel), false, rfl, iteT q⟩
    | str x => exact ⟨_, rfl, _, .ty "tuple", _, _, false, rfl, .ty "tuple", .base (.str x), kit_ty (by decide +kernel), false, rfl, iteT q⟩
    | lst e _ _ => exact ⟨_, rfl, _, .ty "tuple", _, _, false, rfl, .ty "tuple", .base (.lst e), kit_ty (by decide +kernel), false, rfl, iteT q⟩
    | dct e _ _ => exact ⟨_, rfl, _, .ty "tuple", _, _, false, rfl, .ty "tuple", .base (.dK e), kit_ty (by decide +kernel), false, rfl, iteT q⟩
    | @tup a xs ds e ha =>
      refine ⟨_, rfl, _, .ty "tuple", _, _, true, rfl, .ty "tuple", sqT_ty e, kit_ty (by decide +kernel), true, rfl, ?_⟩
      refine iteF ⟨.ref a, rfl, a, xs, rfl, .inr e, rfl, _, rfl, ?_⟩
      have no : ∀ (G : Hp), G = H → unitsD (.tuple ds) = false → Q (.bl false) G := fun G eG z => by
        rw [eG, ← z]
        exact q
      cases ha with
      | nil => exact iteY rfl (no _ rfl rfl)
      | @cons v1 vs d1 ds1 h1 ha =>
        cases ha with
        | nil => exact iteY rfl (no _ rfl (by cases d1 <;> rfl))
        | @cons v2 vs2 d2 ds2 h2 ha =>
          cases ha with
          | cons h3 ha =>
            refine iteY ?_ (no _ rfl (by cases d1 <;> cases d2 <;> rfl))
            rw [decide_eq_false (fun z => by
              have y := V.int.inj z
              simp only [List.length_cons] at y
              omega)]
            rfl
          | nil =>
            refine iteN (fun z => nomatch (show (false : Bool) = true from z)) ?_
            refine ⟨.ref a, rfl, a, _, rfl, e, rfl, _, _, rfl, _, _, rfl, rfl, ?_⟩
            refine ⟨v1, rfl, v1, d1, rfl, h1, ?_⟩
            cases h1 with
            | non => exact ⟨false, rfl, iteT (no _ rfl (by cases d2 <;> rfl))⟩
            | bl y => exact ⟨false, rfl, iteT (no _ rfl (by cases d2 <;> rfl))⟩
            | str x => exact ⟨false, rfl, iteT (no _ rfl (by cases d2 <;> rfl))⟩
            | lst e1 p1 p2 => exact ⟨false, rfl, iteT (no _ rfl (by cases d2 <;> rfl))⟩
            | tup e1 p1 => exact ⟨false, rfl, iteT (no _ rfl (by cases d2 <;> rfl))⟩
            | dct e1 p1 p2 => exact ⟨false, rfl, iteT (no _ rfl (by cases d2 <;> rfl))⟩
            | int i =>
              refine ⟨true, rfl, iteF ?_⟩
              cases h2 with
              | non => exact ⟨_, rfl, _, .ty "str", _, _, false, rfl, .ty "str", .base .non, kit_ty (by decide +kernel), false, rfl, iteT (no _ rfl rfl)⟩
              | bl y => exact ⟨_, rfl, _, .ty "str", _, _, false, rfl, .ty "str", .base (.bl y), kit_ty (by decide +kernel), false, rfl, iteT (no _ rfl rfl)⟩
              | int j => exact ⟨_, rfl, _, .ty "str", _, _, false, rfl, .ty "str", .base (.int j), kit_ty (by decide +kernel), false, rfl, iteT (no _ rfl rfl)⟩
              | lst e1 p1 p2 => exact ⟨_, rfl, _, .ty "str", _, _, false, rfl, .ty "str", .base (.lst e1), kit_ty (by decide +kernel), false, rfl, iteT (no _ rfl rfl)⟩
              | tup e1 p1 => exact ⟨_, rfl, _, .ty "str", _, _, false, rfl, .ty "str", sqT_ty e1, kit_ty (by decide +kernel), false, rfl, iteT (no _ rfl rfl)⟩
              | dct e1 p1 p2 => exact ⟨_, rfl, _, .ty "str", _, _, false, rfl, .ty "str", .base (.dK e1), kit_ty (by decide +kernel), false, rfl, iteT (no _ rfl rfl)⟩
              | str s =>
                refine ⟨_, rfl, _, .ty "str", _, _, true, rfl, .ty "str", .base (.str s), kit_ty (by decide +kernel), true, rfl, iteF ?_⟩
                have q2 : Q (.bl (decide (2 ≤ i) && (decide (i ≤ 100) && inV (.str s) hows))) H := q
                refine ⟨.int i, rfl, 2, i, rfl, rfl, _, rfl, ?_⟩
                by_cases z1 : 2 ≤ i
                · refine iteDY z1 ⟨i, 100, rfl, rfl, _, rfl, ?_⟩
                  rw [decide_eq_true z1] at q2
                  by_cases z2 : i ≤ 100
                  · refine iteDY z2 ⟨.str s, rfl, a_HOWS, hows, rfl, .inr (.inr t_HOWS), rfl, by decide +kernel, ?_⟩
                    rw [decide_eq_true z2] at q2
                    exact q2
                  · refine iteDN z2 ?_
                    rw [decide_eq_false z2] at q2
                    exact q2
                · refine iteDN z1 ⟨false, rfl, iteF ?_⟩
                  rw [decide_eq_false z1] at q2
                  exact q2
theorem ok_is_name {f : Addr} {fd : FuncData} (F : Fun K "is_name" "is_name" s_is_name f fd) (m_isinstance : mg "isinstance" = none) (m_str : mg "str" = none) (m_len : mg "len" = none) : FnOk P w K mg base CX0 1 f fd ["value"] (sp_is_name K) := by
  refine F.ok sc_is_name (fun vs H Q E h => ?_) (fun cdv A outer s H vs Q E hr h => ?_)
  · obtain ⟨x, rfl, _⟩ := h
    rfl
  · refine ⟨_, (pss_cons (ps_if (PW.pt (pw_or (pt_not (pt_val (pe_callB call_isi (by rfl) m_isinstance (by decide +kernel) (pa_cons (pv 0) (pa_cons (pe_bltn (v := .ty "str") (by rfl) m_str (by decide +kernel) rfl) pa_nil))))) (pw_or1 (pt_not (pt_chain op_le op_le pe_int (pe_callB call_len_str (by rfl) m_len (by decide +kernel) (pa_cons (pv 0) pa_nil)) pe_int))))) (pss_one (ps_ret pe_bl)) pss_nil)
      (pss_one (ps_ret (pe_and (pe_bm0 PySem.F.plainAttrs_str PySem.F.slot_str_isascii PySem.F.type_str_isascii mt_isascii (pv 0)) (pe_and (pe_bm0 PySem.F.plainAttrs_str PySem.F.slot_str_isalpha PySem.F.type_str_isalpha mt_isalpha (pv 0)) (pe_one (pe_bm0 PySem.F.plainAttrs_str PySem.F.slot_str_islower PySem.F.type_str_islower mt_islower (pv 0)))))))), ?_⟩
    obtain ⟨x, rfl, ha, hz, q⟩ := h
    have z : x.length ≤ sizeLine := Nat.le_trans hz (by decide)
    refine ⟨.str x, rfl, .str x, .ty "str", _, _, true, rfl, .ty "str", .base (.str x), kit_ty (by decide +kernel), true, rfl, iteF ?_⟩
    refine ⟨.str x, rfl, x, rfl, z, 1, _, rfl, rfl, _, rfl, ?_⟩
    by_cases l1 : 1 ≤ x.length
    · refine iteDY (by omega) ⟨_, 8, rfl, rfl, _, rfl, ?_⟩
      by_cases l8 : x.length ≤ 8
      · rw [decide_eq_true (show ((x.length : Nat) : Int) ≤ 8 by omega)]
        refine iteF ⟨.str x, rfl, rfl, x, rfl, rfl, trivial, _, rfl, ?_⟩
        rw [asc_is ha]
        refine iteT ⟨.str x, rfl, rfl, x, rfl, rfl, trivial, _, rfl, ?_⟩
        cases e : Txt.isalpha x with
        | false =>
          unfold nameR at q
          rw [decide_eq_true l1, decide_eq_true l8, alpha_no ha l1 e] at q
          exact iteF q
        | true =>
          unfold nameR at q
          rw [decide_eq_true l1, decide_eq_true l8, ← lower_is ha l1 e] at q
          exact iteT ⟨.str x, rfl, rfl, x, rfl, rfl, trivial, q⟩
      · rw [decide_eq_false (show ¬ ((x.length : Nat) : Int) ≤ 8 by omega)]
        unfold nameR at q
        rw [decide_eq_false l8, Bool.and_false] at q
        exact iteT q
    · refine iteDN (by omega) ?_
      unfold nameR at q
      rw [decide_eq_false l1] at q
      exact ⟨_, rfl, iteT q⟩

theorem ok_read_number {f : Addr} {fd : FuncData} (F : Fun K "read_number" "read_number" s_read_number f fd) (m_len : mg "len" = none) (m_str : mg "str" = none) (m_int : mg "int" = none) : FnOk P w K mg base CX0 1 f fd ["word", "most"] (sp_read_number K) := by
  refine F.ok sc_read_number (fun vs H Q E h => ?_) (fun cdv A outer s H vs Q E hr h => ?_)
  · obtain ⟨w0, m, rfl, _⟩ := h
    rfl
  · refine ⟨_, (pss_cons (ps_if (PW.pt (pw_or (pt_not (pt_val (pe_bm0 PySem.F.plainAttrs_str PySem.F.slot_str_isdecimal PySem.F.type_str_isdecimal mt_isdecimal (pv 0)))) (pw_or1 (pt_cmpR op_gt (pe_callB call_len_str (by rfl) m_len (by decide +kernel) (pa_cons (pv 0) pa_nil)) (pe_callB call_len_str (by rfl) m_len (by decide +kernel) (pa_cons (pe_callTy call_str_int (by rfl) m_str (by decide +kernel) (pa_cons (pv 1) pa_nil)) pa_nil)) (nomark _))))) (pss_one (ps_ret pe_non)) pss_nil)
      (pss_cons (ps_set (i := 2) sc_read_number.nd rfl (.inl rfl) (pe_callTy call_int_str (by rfl) m_int (by decide +kernel) (pa_cons (pv 0) pa_nil)))
      (pss_cons (ps_if (PW.pt (pw_or (pt_cmpR op_ne (pe_callTy call_str_int (by rfl) m_str (by decide +kernel) (pa_cons (pv 2) pa_nil)) (pv 0) (nomark _)) (pw_or1 (pt_cmpR op_gt (pv 2) (pv 1) (nomark _))))) (pss_one (ps_ret pe_non)) pss_nil)
      (pss_one (ps_ret (pv 2)))))), ?_⟩
    obtain ⟨w0, m, rfl, ha, hz, hm, q⟩ := h
    refine ⟨.str w0, rfl, rfl, w0, rfl, rfl, trivial, _, rfl, ?_⟩
    cases ed : Txt.isdecimal w0 with
    | false =>
      rw [numW_none (by omega) fun n hn e => by rw [← e, (num_facts n (by omega)).1] at ed; cases ed] at q
      exact iteT q
    | true =>
      refine iteF ⟨.str w0, rfl, w0, rfl, Nat.le_trans hz (by decide), .int m, rfl, m, rfl, small_log (by omega), nS m, rfl, Nat.le_trans (num3 hm) (by decide), _, _, rfl, rfl, _, rfl, ?_⟩
      by_cases lz : (nS m).length < w0.length
      · refine iteDY (by omega) ?_
        rw [numW_none (by omega) fun n hn e => by
          have := num_len hn (show m < 101 by omega)
          rw [e] at this
          omega] at q
        exact q
      refine iteDN (by omega) ?_
      obtain ⟨hd, hne⟩ := dec_digits ha ed
      have l3 : w0.length ≤ 3 := by have := num3 hm; omega
      have hi := int_of_digits hd hne (by omega)
      have hk := digits_lt hd
      have hk3 : NumText.digitsVal (tl w0) < 1000 := Nat.lt_of_lt_of_le hk (Nat.pow_le_pow_right (by decide) (by rw [← len_tl]; exact l3) : 10 ^ (tl w0).length ≤ 10 ^ 3)
      have back : ∀ n, n ≤ m → nS n = w0 → NumText.digitsVal (tl w0) = n := fun n hn e => num_val (by omega) e hd hne (by omega)
      generalize NumText.digitsVal (tl w0) = k at hi hk3 back
      refine next_in ?_
      refine seq_set ⟨.str w0, rfl, w0, k, rfl, hi, Nat.le_trans l3 (by decide), ?_⟩
      refine ⟨.int k, rfl, k, rfl, log1000 (by omega), .str w0, rfl, rfl, _, rfl, ?_⟩
      by_cases e1 : nS k = w0
      · rw [show decide (V.str (Str.ofString (toString (k : Int))) = V.str w0) = true from decide_eq_true (congrArg V.str e1)]
        refine iteF ⟨.int k, rfl, .int m, rfl, _, _, rfl, rfl, _, rfl, ?_⟩
        by_cases e2 : k ≤ m
        · refine iteDN (by omega) ?_
          rw [(numW_iff (by omega)).mpr ⟨e2, e1⟩] at q
          exact next_in (ret_in ⟨.int k, rfl, q⟩)
        · refine iteDY (by omega) ?_
          rw [numW_none (by omega) fun n hn e => by have := back n hn e; omega] at q
          exact q
      · rw [show decide (V.str (Str.ofString (toString (k : Int))) = V.str w0) = false from decide_eq_false fun z => e1 (V.str.inj z)]
        rw [numW_none (by omega) fun n hn e => by have := back n hn e; subst this; exact e1 e] at q
        exact iteT q

theorem ok_read_share {f : Addr} {fd : FuncData} (F : Fun K "read_share" "read_share" s_read_share f fd) {a_WORDS : Addr} (g_WORDS : mg "WORDS" = some (.ref a_WORDS)) (t_WORDS : TupK K a_WORDS wordsV) (c_read_number : Cal P w K mg base 1 "read_number" ["word", "most"] (sp_read_number K)) : FnOk P w K mg base CX0 2 f fd ["units", "word"] (sp_read_share K) := by
  refine F.ok sc_read_share (fun vs H Q E h => ?_) (fun cdv A outer s H vs Q E hr h => ?_)
  · obtain ⟨u, b, h, w0, rfl, _⟩ := h
    rfl
  · refine ⟨_, (pss_cons (ps_if (pt_cmpR op_in_seq (pv 1) (pe_glob (v := .ref a_WORDS) (by rfl) g_WORDS rfl) rfl) (pss_one (ps_ret (pv 1))) pss_nil)
      (pss_one (ps_ret (pe_call c_read_number.G (hr.mono (by decide)) (by rfl) c_read_number.g c_read_number.kp c_read_number.b .nil pass0 (pa_cons (pv 1) (pa_cons (pe_ix ix_tup (pv 0) pe_int (fun _ _ => rfl)) pa_nil)))))), ?_⟩
    obtain ⟨u, b, h, w0, rfl, hu, ha, hz, q⟩ := h
    have hb : b ≤ 100 := by
      have z := hu.2.2.1
      omega
    refine ⟨.str w0, rfl, a_WORDS, wordsV, rfl, .inr (.inr t_WORDS), rfl, rfl, _, rfl, ?_⟩
    show (if (if false = true then !inV (.str w0) wordsV else inV (.str w0) wordsV) = true then _ else _)
    rw [if_neg Bool.false_ne_true]
    unfold shareR at q
    cases e : inV (.str w0) wordsV with
    | true =>
      rw [if_pos e] at q
      exact iteT ⟨.str w0, rfl, q⟩
    | false =>
      rw [if_neg (by rw [e]; exact Bool.false_ne_true)] at q
      refine iteF (next_in (ret_in ⟨.str w0, rfl, .ref u, rfl, u, _, 0, .int b, rfl, rfl, hu.1, atI_nat (j := 0) rfl, w0, b, rfl, ha, hz, hb, ?_⟩))
      cases e2 : numW w0 b with
      | none => rw [e2] at q; exact q
      | some n => rw [e2] at q; exact q

end
end Uq

namespace Uq
open PySem PySem.Spec PyProof.Rows L2

open TL
theorem iteNB {b : Bool} {A B : Prop} (h : b = true) (x : B) : if (!b) = true then A else B := by rw [h]; exact x
theorem iteNA {b : Bool} {A B : Prop} (h : b = false) (x : A) : if (!b) = true then A else B := by rw [h]; exact x
theorem vs_eq {a b : Str} (h : a = b) : decide (V.str a = V.str b) = true := decide_eq_true (congrArg V.str h)
theorem vs_ne {a b : Str} (h : a ≠ b) : decide (V.str a = V.str b) = false := decide_eq_false fun z => h (V.str.inj z)
theorem vi_eq {a b : Int} (h : a = b) : decide (V.int a = V.int b) = true := decide_eq_true (congrArg V.int h)
theorem vi_ne {a b : Int} (h : a ≠ b) : decide (V.int a = V.int b) = false := decide_eq_false fun z => h (V.int.inj z)
theorem Same.refl' {H : Hp} : Same H H := fun _ _ e => e
theorem list3 {α : Type} {l : List α} (h : l.length = 3) : ∃ a b c, l = [a, b, c] := by
  match l, h with
  | [a, b, c], _ => exact ⟨a, b, c, rfl⟩
theorem list2 {α : Type} {l : List α} (h : l.length = 2) : ∃ a b, l = [a, b] := by
  match l, h with
  | [a, b], _ => exact ⟨a, b, rfl⟩
theorem unitsR_len {ws : List Str} (h : ws.length ≠ 3) : unitsR ws = none := by
  unfold unitsR
  split
  · exact absurd rfl h
  · rfl
theorem askR_len {ws : List Str} (h : ws.length ≠ 2) : askR ws = none := by
  unfold askR
  split
  · exact absurd rfl h
  · rfl
section
variable {P : Program} {w : World} {K : PySem.W.Frag} {mg : Str → Option Value} {base : Heap}
theorem ok_read_units {f : Addr} {fd : FuncData} (F : Fun K "read_units" "read_units" s_read_units f fd) (m_len : mg "len" = none) (c_read_number : Cal P w K mg base 1 "read_number" ["word", "most"] (sp_read_number K)) (c_is_unitsX : Cal P w K mg base 2 "is_units" ["value"] (sp_is_unitsX K)) : FnOk P w K mg base CX0 3 f fd ["words"] (sp_read_units K) := by
  refine F.ok sc_read_units (fun vs H Q E h => ?_) (fun cdv A outer s H vs Q E hr h => ?_)
  · obtain ⟨l, ws, rfl, _⟩ := h
    rfl
  · refine ⟨_, (pss_cons (ps_if (PW.pt (pw_or (pt_cmpR op_ne (pe_callB call_len_seq (by rfl) m_len (by decide +kernel) (pa_cons (pv 0) pa_nil)) pe_int (nomark _)) (pw_or1 (pt_cmpR op_ne (pe_ix ix_list (pv 0) pe_int (fun _ _ => rfl)) pe_str (nomark _))))) (pss_one (ps_ret pe_non)) pss_nil)
      (pss_cons (ps_set (i := 1) sc_read_units.nd rfl (.inl rfl) (pe_tup (pa_cons (pe_call c_read_number.G (hr.mono (by decide)) (by rfl) c_read_number.g c_read_number.kp c_read_number.b .nil pass0 (pa_cons (pe_ix ix_list (pv 0) pe_int (fun _ _ => rfl)) (pa_cons pe_int pa_nil))) (pa_cons (pe_ix ix_list (pv 0) pe_int (fun _ _ => rfl)) pa_nil))))
      (pss_cons (ps_if (pt_not (pt_val (pe_call c_is_unitsX.G (hr.mono (by decide)) (by rfl) c_is_unitsX.g c_is_unitsX.kp c_is_unitsX.b .nil pass0 (pa_cons (pv 1) pa_nil)))) (pss_one (ps_ret pe_non)) pss_nil)
      (pss_one (ps_ret (pv 1)))))), ?_⟩
    obtain ⟨l, ws, rfl, hl, hR, q0, q1⟩ := h
    refine ⟨.ref l, rfl, l, _, rfl, .inl hl, rfl, _, rfl, ?_⟩
    by_cases e3 : ws.length = 3
    · obtain ⟨a, y, hh, rfl⟩ := list3 e3
      have wd := hR.wd
      refine iteNB (vi_eq rfl) ?_
      refine ⟨.ref l, rfl, l, _, 0, .str a, rfl, rfl, hl, atI_nat (j := 0) rfl, rfl, _, rfl, ?_⟩
      by_cases ea : a = "in"
      · refine iteNB (vs_eq ea) ?_
        have wy := wd y (by simp)
        have e0 : unitsR [a, y, hh] = (match numW y 100 with | some n => if 2 ≤ n ∧ howB hh = true then some (n, hh) else none | none => none) := by
          exact if_pos ea
        refine next_in (seq_set ?_)
        refine ⟨.ref l, rfl, l, _, 1, .str y, rfl, rfl, hl, atI_nat (j := 1) rfl, y, 100, rfl, wy.2, Nat.le_trans wy.1 (by decide), by decide, .ref l, rfl, l, _, 2, .str hh, rfl, rfl, hl, atI_nat (j := 2) rfl, by show 2 ≤ sizeLine; decide, fun u nu => ?_⟩
        have sU : Same H (upd H u (.tup [numV (numW y 100), .str hh])) := sameU nu
        cases en : numW y 100 with
        | none =>
          rw [en] at e0 sU
          refine ⟨.ref u, rfl, _, .tuple [.none, .str hh], rfl, .tup (SqT.of upd_same) (.cons .non (.cons (.str _) .nil)), ?_⟩
          exact ⟨false, rfl, iteT (q0 e0 _ sU)⟩
        | some n =>
          rw [en] at e0 sU
          have hn := ((numW_iff (show 100 < 101 by decide)).mp en).1
          refine ⟨.ref u, rfl, _, .tuple [.int n, .str hh], rfl, .tup (SqT.of upd_same) (.cons (.int _) (.cons (.str _) .nil)), ?_⟩
          have ed : unitsD (.tuple [.int n, .str hh]) = (decide ((2 : Int) ≤ n) && (decide ((n : Int) ≤ 100) && howB hh)) := rfl
          rw [ed, decide_eq_true (show ((n : Int) ≤ 100) by omega), Bool.true_and]
          by_cases g : 2 ≤ n ∧ howB hh = true
          · have e0' : unitsR [a, y, hh] = some (n, hh) := e0.trans (if_pos g)
            rw [decide_eq_true (show (2 : Int) ≤ n by omega), g.2]
            refine ⟨true, rfl, iteF ?_⟩
            refine next_in (ret_in ⟨.ref u, rfl, ?_⟩)
            exact q1 n hh e0' _ u sU nu upd_same ⟨SqT.of upd_same, by omega, by omega, howB_iff.mp g.2⟩
          · have e0' : unitsR [a, y, hh] = none := e0.trans (if_neg g)
            refine ⟨false, congrArg V.bl ?_, iteT (q0 e0' _ sU)⟩
            by_cases g2 : 2 ≤ n
            · have g3 : howB hh = false := by
                cases z : howB hh with
                | false => rfl
                | true => exact absurd ⟨g2, z⟩ g
              rw [g3, Bool.and_false]
            · rw [decide_eq_false (show ¬ (2 : Int) ≤ n by omega)]
              rfl
      · refine iteNA (vs_ne ea) ?_
        exact q0 (if_neg ea) _ Same.refl'
    · refine iteNA (vi_ne (by rw [List.length_map]; omega)) ?_
      exact q0 (unitsR_len e3) _ Same.refl'

theorem ok_is_asked {f : Addr} {fd : FuncData} (F : Fun K "is_asked" "is_asked" s_is_asked f fd) (m_len : mg "len" = none) (c_is_name : Cal P w K mg base 1 "is_name" ["value"] (sp_is_name K)) : FnOk P w K mg base CX0 2 f fd ["words"] (sp_is_asked K) := by
  refine F.ok sc_is_asked (fun vs H Q E h => ?_) (fun cdv A outer s H vs Q E hr h => ?_)
  · obtain ⟨l, ws, rfl, _⟩ := h
    rfl
  · refine ⟨_, (pss_one (ps_ret (pe_and (pe_cmpR op_eq (pe_callB call_len_seq (by rfl) m_len (by decide +kernel) (pa_cons (pv 0) pa_nil)) pe_int (nomark _)) (pe_and (pe_cmpR op_eq (pe_ix ix_list (pv 0) pe_int (fun _ _ => rfl)) pe_str (nomark _)) (pe_one (pe_call c_is_name.G (hr.mono (by decide)) (by rfl) c_is_name.g c_is_name.kp c_is_name.b .nil pass0 (pa_cons (pe_ix ix_list (pv 0) pe_int (fun _ _ => rfl)) pa_nil))))))), ?_⟩
    obtain ⟨l, ws, rfl, hl, hR, q⟩ := h
    refine ret_in ⟨.ref l, rfl, l, _, rfl, .inl hl, rfl, _, rfl, ?_⟩
    by_cases e2 : ws.length = 2
    · obtain ⟨a, x, rfl⟩ := list2 e2
      have wx := hR.wd x (by simp)
      refine iteY (vi_eq rfl) ?_
      refine ⟨.ref l, rfl, l, _, 0, .str a, rfl, rfl, hl, atI_nat (j := 0) rfl, rfl, _, rfl, ?_⟩
      by_cases ea : a = "asked"
      · refine iteY (vs_eq ea) ?_
        refine ⟨.ref l, rfl, l, _, 1, .str x, rfl, rfl, hl, atI_nat (j := 1) rfl, x, rfl, wx.2, Nat.le_trans wx.1 (by decide), ?_⟩
        have e : (askR [a, x]).isSome = nameR x := by
          show (if a = "asked" ∧ nameR x = true then some x else none).isSome = _
          cases z : nameR x with
          | true => rw [if_pos ⟨ea, rfl⟩]; rfl
          | false => rw [if_neg fun y => nomatch y.2]; rfl
        rw [e] at q
        exact q
      · refine iteN (by rw [vs_ne ea]; exact Bool.false_ne_true) ?_
        have e : askR [a, x] = none := if_neg fun z => ea z.1
        rw [e] at q
        exact q
    · refine iteN (by rw [vi_ne (by rw [List.length_map]; omega)]; exact Bool.false_ne_true) ?_
      rw [askR_len e2] at q
      exact q

end
end Uq

namespace Uq
open PySem PySem.Spec PyProof.Rows L2

open TL
/-! ### lines, and what stands above one another -/
theorem lnsK_app (ks : List Kn) (k : Kn) : lnsK (ks ++ [k]) = lnsK ks ++ [k.ln] := by unfold lnsK; rw [List.map_append]; rfl
theorem namesK_app (ks : List Kn) (k : Kn) : namesK (ks ++ [k]) = namesK ks ++ [k.ln.nm] := by unfold namesK; rw [lnsK_app, List.map_append]; rfl
/-- what the lines told so far are -/
structure KsOk (ks : List Kn) : Prop where
  nd : (namesK ks).Nodup
  way : ∀ k ∈ ks, ∃ w, Way (lnsK ks) k.ln.nm w ∧ w.length = k.dp + 1 ∧ k.dp ≤ 3
  flat : (wholes (lnsK ks)).all flatV = true
  nam : ∀ n ∈ namesK ks, nameR n = true
  few : ks.length ≤ 10
  one : 1 ≤ ks.length
theorem dpOf_mem {ks : List Kn} (nd : (namesK ks).Nodup) {p : Str} (h : p ∈ namesK ks) : ∃ k ∈ ks, k.ln.nm = p ∧ dpOf ks p = k.dp := by
  unfold dpOf
  cases e : ks.find? (fun k => k.ln.nm == p) with
  | none =>
    unfold namesK lnsK at h
    rw [List.map_map] at h
    obtain ⟨k, mk, ek⟩ := List.mem_map.mp h
    have := List.find?_eq_none.mp e k mk
    exact absurd (by rw [← ek]; exact beq_self_eq_true _) this
  | some k => exact ⟨k, List.mem_of_find?_eq_some e, (by have z := List.find?_some e; exact eq_of_beq z), rfl⟩
theorem lineR_ab {b : Nat} {ks : List Kn} {ws : List Str} {k : Kn} (h : lineR b ks ws = some k) : ∃ a o ab tl sf, ws = a :: k.ln.nm :: o :: ab :: tl ∧ a = "part" ∧ o = "of" ∧ nameR k.ln.nm = true ∧ k.ln.nm ∉ namesK ks ∧ ab ∈ namesK ks ∧ tailR b tl = some sf ∧ k = ⟨⟨k.ln.nm, .str ab, sf.1, sf.2⟩, dpOf ks ab + 1⟩ := by
  unfold lineR at h
  split at h
  · rename_i a nm o ab tl
    by_cases g : a = "part" ∧ o = "of" ∧ nameR nm = true ∧ nm ∉ namesK ks ∧ ab ∈ namesK ks
    · rw [if_pos g] at h
      obtain ⟨sf, e1, e2⟩ := Option.map_eq_some_iff.mp h
      subst e2
      exact ⟨a, o, ab, tl, sf, rfl, g.1, g.2.1, g.2.2.1, g.2.2.2.1, g.2.2.2.2, e1, rfl⟩
    · rw [if_neg g] at h
      cases h
  · cases h
theorem KsOk.next {ks : List Kn} (O : KsOk ks) {b : Nat} {ws : List Str} {k : Kn} (h : lineR b ks ws = some k) : (namesK (ks ++ [k])).Nodup ∧ (∃ w, Way (lnsK (ks ++ [k])) k.ln.nm w ∧ w.length = k.dp + 1) ∧ (wholes (lnsK (ks ++ [k]))).all flatV = true ∧ k.dp ≤ 4 ∧ (∀ n ∈ namesK (ks ++ [k]), nameR n = true) := by
  obtain ⟨a, o, ab, tl, sf, _, _, _, hn, hnew, hab, _, ek⟩ := lineR_ab h
  obtain ⟨k0, m0, e0, ed⟩ := dpOf_mem O.nd hab
  obtain ⟨w0, hw0, lw0, d0⟩ := O.way k0 m0
  have eab : k.ln.ab = .str ab := by rw [ek]
  have edp : k.dp = k0.dp + 1 := by rw [ek]; show dpOf ks ab + 1 = _; rw [ed]
  refine ⟨?_, ⟨k.ln.nm :: w0, ?_, ?_⟩, ?_, by omega, ?_⟩
  · rw [namesK_app, List.nodup_append]
    refine ⟨O.nd, by simp, fun x hx y hy => ?_⟩
    rw [List.mem_singleton.mp hy]
    intro z
    rw [z] at hx
    exact hnew hx
  · rw [e0] at hw0
    rw [lnsK_app]
    exact .up (List.mem_append_right _ (List.mem_singleton.mpr rfl)) eab (hw0.mono fun l ml => List.mem_append_left _ ml)
  · rw [List.length_cons, lw0, edp]
  · rw [lnsK_app]
    unfold wholes
    rw [List.map_append, List.all_append]
    show ((wholes (lnsK ks)).all flatV && _) = true
    rw [O.flat]
    show (flatV k.ln.ab && true) = true
    rw [eab]
    rfl
  · intro n hn'
    rw [namesK_app] at hn'
    rcases List.mem_append.mp hn' with z | z
    · exact O.nam n z
    · rw [List.mem_singleton.mp z]
      exact hn
theorem muchR_no {ks : List Kn} {k : Kn} (h : muchR ks k = false) : ks.length ≤ 10 ∧ (ends (lnsK ks)).length ≤ 6 ∧ k.dp ≤ 3 := by
  unfold muchR at h
  rw [Bool.or_eq_false_iff, Bool.or_eq_false_iff] at h
  have a := of_decide_eq_false h.1
  have b := of_decide_eq_false h.2.1
  have c := of_decide_eq_false h.2.2
  omega
theorem KsOk.app {ks : List Kn} (O : KsOk ks) {b : Nat} {ws : List Str} {k : Kn} (h : lineR b ks ws = some k) (m : muchR (ks ++ [k]) k = false) : KsOk (ks ++ [k]) := by
  obtain ⟨h1, ⟨w, h2, h3⟩, h4, _, h6⟩ := O.next h
  obtain ⟨m1, m2, m3⟩ := muchR_no m
  refine ⟨h1, fun j mj => ?_, h4, h6, m1, by rw [List.length_append]; simp⟩
  rcases List.mem_append.mp mj with z | z
  · obtain ⟨w', a, c, d⟩ := O.way j z
    refine ⟨w', ?_, c, d⟩
    rw [lnsK_app]
    exact a.mono fun l ml => List.mem_append_left _ ml
  · rw [List.mem_singleton.mp z]
    exact ⟨w, h2, h3, m3⟩
theorem KsOk.top {x : Str} (h : nameR x = true) : KsOk [topK x] := by
  refine ⟨by simp [namesK, lnsK], fun k mk => ?_, rfl, fun n hn => ?_, (by show 1 ≤ 10; decide), (by show 1 ≤ 1; decide)⟩
  · rw [List.mem_singleton.mp mk]
    exact ⟨[x], .top (l := Uq.top x) (List.mem_singleton.mpr rfl) rfl, rfl, Nat.zero_le _⟩
  · have : n ∈ [x] := hn
    rw [List.mem_singleton.mp this]
    exact h
theorem list4 {α : Type} {l : List α} (h : ¬ l.length < 4) : ∃ a b c d r, l = a :: b :: c :: d :: r := by
  match l, h with
  | [], h => exact absurd (by show 0 < 4; decide) h
  | [_], h => exact absurd (by show 1 < 4; decide) h
  | [_, _], h => exact absurd (by show 2 < 4; decide) h
  | [_, _, _], h => exact absurd (by show 3 < 4; decide) h
  | a :: b :: c :: d :: r, _ => exact ⟨a, b, c, d, r, rfl⟩
theorem lineR_short {b : Nat} {ks : List Kn} {ws : List Str} (h : ws.length < 4) : lineR b ks ws = none := by
  unfold lineR
  split
  · simp only [List.length_cons] at h
    omega
  · rfl
theorem asc_ok {x : Str} (h : Asc x) : PyData.strOk x = true := by
  unfold PyData.strOk
  rw [all_tl, List.all_eq_true]
  exact fun c m => decide_eq_true (Nat.lt_trans (h c m) (by decide))
theorem shV_flat (b : Nat) (w : Str) : flatV (shV (shareR b w)) = true := by
  unfold shareR
  by_cases e : inV (.str w) wordsV = true
  · rw [if_pos e]; rfl
  · rw [if_neg e]
    cases numW w b <;> rfl
theorem shV_non (b : Nat) (w : Str) : eqV (shV (shareR b w)) .non = !(shareR b w).isSome := by
  unfold shareR
  by_cases e : inV (.str w) wordsV = true
  · rw [if_pos e]; rfl
  · rw [if_neg e]
    cases numW w b <;> rfl
def sp_is_too_much (K : PySem.W.Frag) : Sp := fun vs H Q _ => ∃ (d : Addr) (ks : List Kn) (k : Kn) (w : List Str), vs = [.ref d, .str k.ln.nm] ∧ Lns K H d (lnsK ks) ∧ (wholes (lnsK ks)).all flatV = true ∧ (namesK ks).Nodup ∧ Way (lnsK ks) k.ln.nm w ∧ w.length = k.dp + 1 ∧ ks.length ≤ 90 ∧ k.dp ≤ 90 ∧ ∀ H', Same H H' → Q (.bl (muchR ks k)) H'
def sp_read_part (K : PySem.W.Frag) : Sp := fun vs H Q _ => ∃ (u d l : Addr) (b : Nat) (h : Str) (kvs : List (Key × V)) (ks : List Kn) (ws : List Str), vs = [.ref u, .ref d, .ref l] ∧ Un K H u b h ∧ H d = some (.dK kvs) ∧ Paired (Lat K H) (lnsK ks) kvs ∧
  SqL K H l (ws.map V.str) ∧ RwA 10000 ws ∧ (lineR b ks ws = none → ∀ H', Same H H' → Q .non H') ∧ (∀ k, lineR b ks ws = some k → ∀ H' t, Same H H' → H t = none → H' t = some (.tup [k.ln.ab, k.ln.sh, k.ln.fa]) → Q (.ref t) H')
section
variable {P : Program} {w : World} {K : PySem.W.Frag} {mg : Str → Option Value} {base : Heap}
theorem ok_is_too_much {f : Addr} {fd : FuncData} (F : Fun K "is_too_much" "is_too_much" s_is_too_much f fd) {t9 t6 t3 : Tok} (g_MOST_PARTS : mg "MOST_PARTS" = some (.int 9 t9)) (g_MOST_ENDS : mg "MOST_ENDS" = some (.int 6 t6)) (g_MOST_STEPS : mg "MOST_STEPS" = some (.int 3 t3)) (m_len : mg "len" = none) (c_ends_among : Cal P w K mg base 1 "ends_among" ["lines"] (sp_ends_among K)) (c_way_up : Cal P w K mg base 1 "way_up" ["lines", "part"] (sp_way_up K)) : FnOk P w K mg base CX0 2 f fd ["lines", "part"] (sp_is_too_much K) := by
  refine F.ok sc_is_too_much (fun vs H Q E h => ?_) (fun cdv A outer s H vs Q E hr h => ?_)
  · obtain ⟨d, ks, k, w0, rfl, _⟩ := h
    rfl
  · refine ⟨_, (pss_cons (ps_if (PW.pt (pw_or (pt_cmpR op_gt (pe_callB call_lenD (by rfl) m_len (by decide +kernel) (pa_cons (pv 0) pa_nil)) (pe_op op_add (pe_glob (v := .int 9) (by rfl) g_MOST_PARTS ⟨_, rfl⟩) pe_int) (nomark _)) (pw_or1 (pt_cmpR op_gt (pe_callB call_len_seq (by rfl) m_len (by decide +kernel) (pa_cons (pe_call c_ends_among.G (hr.mono (by decide)) (by rfl) c_ends_among.g c_ends_among.kp c_ends_among.b .nil pass0 (pa_cons (pv 0) pa_nil)) pa_nil)) (pe_glob (v := .int 6) (by rfl) g_MOST_ENDS ⟨_, rfl⟩) (nomark _))))) (pss_one (ps_ret pe_bl)) pss_nil)
      (pss_one (ps_ret (pe_cmpR op_gt (pe_callB call_len_seq (by rfl) m_len (by decide +kernel) (pa_cons (pe_call c_way_up.G (hr.mono (by decide)) (by rfl) c_way_up.g c_way_up.kp c_way_up.b .nil pass0 (pa_cons (pv 0) (pa_cons (pv 1) pa_nil))) pa_nil)) (pe_op op_add (pe_glob (v := .int 3) (by rfl) g_MOST_STEPS ⟨_, rfl⟩) pe_int) (nomark _))))), ?_⟩
    obtain ⟨d, ks, k, w0, rfl, hL, hf, nd, hw, lw, z1, z3, q⟩ := h
    have hL' := hL
    obtain ⟨kvs, hd, hp⟩ := hL'
    have el : (lnsK ks).length = kvs.length := hp.length
    have el2 : (lnsK ks).length = ks.length := by unfold lnsK; rw [List.length_map]
    refine ⟨.ref d, rfl, d, kvs, rfl, hd, 9, 1, rfl, rfl, _, _, rfl, rfl, _, rfl, ?_⟩
    by_cases c1 : 10 < ks.length
    · refine iteDY (by omega) (iteT (ret_in ?_))
      have e : muchR ks k = true := by unfold muchR; rw [decide_eq_true c1]; rfl
      rw [e] at q
      exact q H Same.refl'
    refine iteDN (by omega) ?_
    refine ⟨.ref d, rfl, d, lnsK ks, rfl, hL, by omega, hf, fun H1 t s1 nt ht => ?_⟩
    refine ⟨t, _, rfl, .inr (SqT.of ht), _, 6, rfl, rfl, _, rfl, ?_⟩
    by_cases c2 : 6 < (ends (lnsK ks)).length
    · refine iteDY (by rw [List.length_map]; omega) (ret_in ?_)
      have e : muchR ks k = true := by unfold muchR; rw [decide_eq_true c2, Bool.true_or, Bool.or_true]
      rw [e] at q
      exact q H1 s1
    refine iteDN (by rw [List.length_map]; omega) (next_in (ret_in ?_))
    refine ⟨.ref d, rfl, .str k.ln.nm, rfl, d, lnsK ks, k.ln.nm, w0, kvs, rfl, .inl (s1 _ _ hd), paired_mono (fun _ _ x => x.same s1) hp, nd, hw, by omega, fun H2 r s2 nr hr2 => ?_⟩
    refine ⟨r, _, rfl, .inl (SqL.of hr2), 3, 1, rfl, rfl, _, _, rfl, rfl, ?_⟩
    have e : muchR ks k = decide ((3 + 1 : Int) < ((w0.map V.str).length : Int)) := by
      unfold muchR
      rw [decide_eq_false c1, decide_eq_false c2, Bool.false_or, Bool.false_or, List.length_map, lw, Bool.eq_iff_iff]
      simp only [decide_eq_true_eq]
      omega
    rw [e] at q
    exact q H2 (s1.trans s2)

theorem ok_read_part {f : Addr} {fd : FuncData} (F : Fun K "read_part" "read_part" s_read_part f fd) (m_dict : mg "dict" = none) (m_zip : mg "zip" = none) {a_MARKS : Addr} (g_MARKS : mg "MARKS" = some (.ref a_MARKS)) (t_MARKS : ∀ H, Dp K H (.ref a_MARKS) (.tuple marksD)) (m_len : mg "len" = none) (m_tuple : mg "tuple" = none) (c_is_name : Cal P w K mg base 1 "is_name" ["value"] (sp_is_name K)) (c_read_share : Cal P w K mg base 2 "read_share" ["units", "word"] (sp_read_share K)) : FnOk P w K mg base CX0 3 f fd ["units", "lines", "words"] (sp_read_part K) := by
  refine F.ok sc_read_part (fun vs H Q E h => ?_) (fun cdv A outer s H vs Q E hr h => ?_)
  · obtain ⟨u, d, l, b, h, kvs, ks, ws, rfl, _⟩ := h
    rfl
  · refine ⟨_, (pss_cons (ps_if (PW.pt (pw_or (pt_cmpR op_lt (pe_callB call_len_seq (by rfl) m_len (by decide +kernel) (pa_cons (pv 2) pa_nil)) pe_int (nomark _)) (pw_or (pt_cmpR op_ne (pe_ix ix_list (pv 2) pe_int (fun _ _ => rfl)) pe_str (nomark _)) (pw_or1 (pt_cmpR op_ne (pe_ix ix_list (pv 2) pe_int (fun _ _ => rfl)) pe_str (nomark _)))))) (pss_one (ps_ret pe_non)) pss_nil)
      (pss_cons (ps_par (i := 3) (j := 4) (by rfl) sc_read_part.nd rfl rfl (by decide) rfl rfl (pa_cons (pe_ix ix_list (pv 2) pe_int (fun _ _ => rfl)) (pa_cons (pe_ix ix_list (pv 2) pe_int (fun _ _ => rfl)) pa_nil)) (by rfl))
      (pss_cons (ps_if (PW.pt (pw_or (pt_not (pt_val (pe_call c_is_name.G (hr.mono (by decide)) (by rfl) c_is_name.g c_is_name.kp c_is_name.b .nil pass0 (pa_cons (pv 3) pa_nil)))) (pw_or (pt_cmp (pc_din (hu_of hr) (pv 3) (pv 1))) (pw_or1 (pt_cmp (pc_dnotin (hu_of hr) (pv 4) (pv 1))))))) (pss_one (ps_ret pe_non)) pss_nil)
      (pss_cons (ps_set (i := 5) sc_read_part.nd rfl (.inl rfl) (pe_callTy call_tuple_of (by rfl) m_tuple (by decide +kernel) (pa_cons (pe_sliceS (pv 2) (po_some pe_int) po_none (po_some pe_int)) pa_nil)))
      (pss_cons (ps_setLc (i := 6) (own := [("word", 8)]) (g := gName 8) rfl sc_read_part.nd rfl rfl (sw_true rfl rfl rfl (by decide +kernel)) (pi_list (pe_sliceS (pv 2) (po_some pe_int) po_none (po_some pe_int))) (blkOk_by (own := [("word", 8)]) (N := N_read_part) (sc := defScope s_read_part) (by decide +kernel)) (fun _ _ _ _ _ => (pg_name (i := 8) sc_read_part.nd rfl (.inl rfl))) (fun _ _ _ _ _ => pts_nil) (fun _ _ _ _ _ => (pe_call c_read_share.G (hr.mono (by decide)) (by rfl) c_read_share.g c_read_share.kp c_read_share.b .nil pass0 (pa_cons (pv 0) (pa_cons (pv 8) pa_nil)))))
      (pss_cons (ps_if (PW.pt (pw_or (pt_cmpR (op_notInTp (u65 hr)) (pv 5) (pe_glob (v := .ref a_MARKS) (by rfl) g_MARKS rfl) rfl) (pw_or (pt_cmpR op_ne (pe_callB call_len_seq (by rfl) m_len (by decide +kernel) (pa_cons (pv 6) pa_nil)) (pe_callB call_len_seq (by rfl) m_len (by decide +kernel) (pa_cons (pv 5) pa_nil)) (nomark _)) (pw_or1 (pt_cmpR op_in_seq pe_non (pv 6) rfl))))) (pss_one (ps_ret pe_non)) pss_nil)
      (pss_cons (ps_set (i := 7) sc_read_part.nd rfl (.inl rfl) (pe_dz rfl (by rfl) m_dict (by rfl) m_zip (pa_cons (pv 5) (pa_cons (pv 6) pa_nil))))
      (pss_one (ps_ret (pe_tup (pa_cons (pv 4) (pa_cons (pe_dget1 (hu_of hr) (pv 7) pe_str ⟨rfl, rfl, rfl, rfl⟩) (pa_cons (pe_dget1 (hu_of hr) (pv 7) pe_str ⟨rfl, rfl, rfl, rfl⟩) pa_nil))))))))))))), ?_⟩
    obtain ⟨u, d, l, b, h, kvs, ks, ws, rfl, hu, hd, hp, hl, hR, q0, q1⟩ := h
    refine ⟨.ref l, rfl, l, _, rfl, .inl hl, _, 4, rfl, rfl, _, rfl, ?_⟩
    by_cases l4 : ws.length < 4
    · exact iteDY (by rw [List.length_map]; omega) (iteT (ret_in (q0 (lineR_short l4) _ Same.refl')))
    refine iteDN (by rw [List.length_map]; omega) ?_
    obtain ⟨a, nm, o, ab, tl, rfl⟩ := list4 l4
    have none_if : ¬ (a = "part" ∧ o = "of" ∧ nameR nm = true ∧ nm ∉ namesK ks ∧ ab ∈ namesK ks) → lineR b ks (a :: nm :: o :: ab :: tl) = none := fun z => if_neg z
    have wd := hR.wd
    refine ⟨.ref l, rfl, l, _, 0, .str a, rfl, rfl, hl, atI_nat (j := 0) rfl, rfl, _, rfl, ?_⟩
    by_cases ea : a = "part"
    case neg => exact iteNA (vs_ne ea) (iteT (ret_in (q0 (none_if fun z => ea z.1) _ Same.refl')))
    refine iteNB (vs_eq ea) ?_
    refine ⟨.ref l, rfl, l, _, 2, .str o, rfl, rfl, hl, atI_nat (j := 2) rfl, rfl, _, rfl, ?_⟩
    by_cases eo : o = "of"
    case neg => exact iteNA (vs_ne eo) (ret_in (q0 (none_if fun z => eo z.2.1) _ Same.refl'))
    refine iteNB (vs_eq eo) (next_in ?_)
    refine ⟨.ref l, rfl, l, _, 1, .str nm, rfl, rfl, hl, atI_nat (j := 1) rfl, .ref l, rfl, l, _, 3, .str ab, rfl, rfl, hl, atI_nat (j := 3) rfl, _, _, rfl, ?_⟩
    have wn := wd nm (by simp)
    refine ⟨.str nm, rfl, nm, rfl, wn.2, Nat.le_trans wn.1 (by decide), nameR nm, rfl, ?_⟩
    cases en : nameR nm with
    | false => exact iteT (iteT (ret_in (q0 (none_if fun z => by rw [en] at z; cases z.2.2.1) _ Same.refl')))
    | true =>
    refine iteF ?_
    have m1 : (valV kvs (.inr nm)).isSome = decide (nm ∈ namesK ks) := lns_isSome hp
    have m2 : (valV kvs (.inr ab)).isSome = decide (ab ∈ namesK ks) := lns_isSome hp
    refine ⟨.str nm, rfl, .ref d, rfl, d, valV kvs (.inr nm), rfl, .inl ⟨kvs, .inr nm, .inl hd, rfl, rfl⟩, _, rfl, ?_⟩
    rw [m1]
    by_cases z1 : nm ∈ namesK ks
    · exact iteDY z1 (iteT (ret_in (q0 (none_if fun z => z.2.2.2.1 z1) _ Same.refl')))
    refine iteDN z1 ?_
    refine ⟨.str ab, rfl, .ref d, rfl, d, valV kvs (.inr ab), rfl, .inl ⟨kvs, .inr ab, .inl hd, rfl, rfl⟩, _, rfl, ?_⟩
    rw [m2]
    by_cases z2 : ab ∈ namesK ks
    case neg => exact iteNA (decide_eq_false z2) (ret_in (q0 (none_if fun z => z2 z.2.2.2.2) _ Same.refl'))
    refine iteNB (decide_eq_true z2) ?_
    have is_tail : lineR b ks (a :: nm :: o :: ab :: tl) = (tailR b tl).map fun sf => ⟨⟨nm, .str ab, sf.1, sf.2⟩, dpOf ks ab + 1⟩ := if_pos ⟨ea, eo, en, z1, z2⟩
    -- the marks
    have ln : ((a :: nm :: o :: ab :: tl).map V.str).length = tl.length + 4 := by simp
    have em : pickV ((a :: nm :: o :: ab :: tl).map V.str) (some 4) none (some 2) = (evens tl).map V.str := by
      rw [show (4 : Int) = ((4 : Nat) : Int) from rfl, pick_from _ 4 (by omega), ← evens_map]
      rfl
    have few := hR.few
    simp only [List.length_cons] at few
    have lm := evens_len tl
    have lw := oddW_len tl
    refine next_in (seq_set ?_)
    refine ⟨.ref l, rfl, 4, rfl, 2, rfl, l, _, rfl, hl, by decide, by rw [em, List.length_map]; exact Nat.le_trans (show _ ≤ 10001 by omega) (by decide), fun m0 n0 => ?_⟩
    rw [em]
    refine ⟨m0, _, rfl, .inl ⟨SqL.of upd_same, fun M nM => ?_⟩⟩
    have s2 : Same H (upd (upd H m0 (.lst ((evens tl).map V.str))) M (.tup ((evens tl).map V.str))) := (sameU n0).trans (sameU nM)
    have hM : (upd (upd H m0 (.lst ((evens tl).map V.str))) M (.tup ((evens tl).map V.str))) M = some (.tup ((evens tl).map V.str)) := upd_same
    generalize L2.upd (L2.upd H m0 (.lst ((evens tl).map V.str))) M (.tup ((evens tl).map V.str)) = H2 at s2 hM ⊢
    -- the shares
    have eo : pickV ((a :: nm :: o :: ab :: tl).map V.str) (some 5) none (some 2) = (oddW tl).map V.str := by
      unfold oddW
      by_cases z0 : tl = []
      · subst z0
        rfl
      · have z5 : 1 ≤ tl.length := List.length_pos_iff.mpr z0
        rw [show (5 : Int) = ((5 : Nat) : Int) from rfl, pick_from _ 5 (by omega), ← evens_map]
        congr 1
        show (tl.map V.str).drop 1 = _
        rw [List.map_drop]
    refine seq_set ?_
    refine ⟨.ref l, rfl, 5, rfl, 2, rfl, l, _, rfl, sqL_same s2 hl, by decide, by rw [eo, List.length_map]; exact Nat.le_trans (show _ ≤ 10001 by omega) (by decide), fun w0 n1 => ?_⟩
    rw [eo]
    have s3 : Same H2 (upd H2 w0 (.lst ((oddW tl).map V.str))) := sameU n1
    have hW : (upd H2 w0 (.lst ((oddW tl).map V.str))) w0 = some (.lst ((oddW tl).map V.str)) := upd_same
    generalize L2.upd H2 w0 (.lst ((oddW tl).map V.str)) = H3 at s3 hW ⊢
    generalize hxs : (oddW tl).map (fun w => shV (shareR b w)) = xs
    have lx : xs.length = (oddW tl).length := by rw [← hxs, List.length_map]
    have wo : ∀ y ∈ oddW tl, y.length ≤ 10000 ∧ Asc y := fun y m => wd y (by simp [oddW_mem m])
    refine ⟨w0, rfl, ⟨_, SqL.of hW⟩, fun D nD => ?_⟩
    refine lc_it (walk_list (xs := (oddW tl).map V.str)) (fun i H' => Same H3 H' ∧ H' D = some (.lst (xs.take i))) ⟨sameU nD, upd_same⟩ (fun i H' _ h => SqL.of (h.1 _ _ hW)) ?_ ?_
    · rintro i x H4 H5 hi ⟨s4, hD⟩ ⟨rfl, hx⟩
      rw [List.getElem?_map] at hx
      obtain ⟨w1, e1, rfl⟩ := Option.map_eq_some_iff.mp hx
      have w1m := wo w1 (List.mem_of_getElem? e1)
      have ev : xs[i]? = some (shV (shareR b w1)) := by rw [← hxs, List.getElem?_map, e1]; rfl
      refine ⟨rfl, .ref u, rfl, .str w1, rfl, u, b, h, w1, rfl, hu.same ((s2.trans s3).trans s4), w1m.2, Nat.le_trans w1m.1 (by decide), _, hD, ?_, ?_, ?_⟩
      · rw [List.length_take]
        exact Nat.le_trans (Nat.succ_le_succ (Nat.min_le_right _ _)) (Nat.le_trans (show _ ≤ 10002 by omega) (by decide))
      · intro b' o eb
        rw [upd_ne (ne_of_none eb nD)]
        exact s4 _ _ eb
      · rw [upd_same, List.take_add_one, ev]
        rfl
    rintro H4 ⟨s4, hD⟩
    have sA : Same H2 H4 := s3.trans s4
    have hD' : H4 D = some (.lst xs) := by
      rw [hD, List.take_of_length_le]
      rw [List.length_map]
      omega
    have hM' := sA _ _ hM
    have f1 : xs.all flatV = true := by
      rw [← hxs, List.all_map, List.all_eq_true]
      exact fun w _ => shV_flat b w
    have f2 : inV .non xs = !((oddW tl).all fun w => (shareR b w).isSome) := by
      rw [← hxs]
      unfold inV
      rw [List.any_map, List.not_all_eq_any_not]
      congr 1
      funext w
      exact shV_non b w
    refine ⟨.ref M, rfl, .tuple ((evens tl).map PyData.str), marksD, .tup (SqT.of hM') (dp_strs _), t_MARKS _, strs_shaped fun m mm => asc_ok (wd m (by simp [evens_mem mm])).2, marks_shaped, _, rfl, ?_⟩
    show if (!(marksD.any fun z => PyData.eqv z (.tuple ((evens tl).map PyData.str)))) = true then _ else _
    rw [marks_in]
    rw [tail_is] at is_tail
    have no : (¬ (isMark (evens tl) = true ∧ (oddW tl).length = (evens tl).length ∧ (∀ w ∈ oddW tl, (shareR b w).isSome = true))) → Q .non H4 := fun z => by
      rw [if_neg z] at is_tail
      exact q0 is_tail _ (s2.trans sA)
    cases c1 : isMark (evens tl) with
    | false => exact iteT (iteT (ret_in (no fun z => by rw [c1] at z; cases z.1)))
    | true =>
    refine iteF ⟨.ref D, rfl, D, xs, rfl, .inl (SqL.of hD'), .ref M, rfl, M, _, rfl, .inr (SqT.of hM'), rfl, _, rfl, ?_⟩
    rw [List.length_map]
    by_cases c2 : (oddW tl).length = (evens tl).length
    case neg => exact iteNA (vi_ne (by omega)) (iteT (ret_in (no fun z => c2 z.2.1)))
    refine iteNB (vi_eq (by omega)) ?_
    refine ⟨.ref D, rfl, D, xs, rfl, .inl (SqL.of hD'), rfl, f1, _, rfl, ?_⟩
    show if inV .non xs = true then _ else _
    rw [f2]
    cases c3 : (oddW tl).all fun w => (shareR b w).isSome with
    | false => exact iteT (ret_in (no fun z => by rw [List.all_eq_true.mpr z.2.2] at c3; cases c3))
    | true =>
    refine iteF ?_
    rw [if_pos ⟨c1, c2, List.all_eq_true.mp c3⟩] at is_tail
    -- what is told
    have ek : ((evens tl).map Sum.inr).map kV = (evens tl).map V.str := by
      rw [List.map_map]
      rfl
    refine next_in (seq_set ?_)
    refine ⟨.ref M, rfl, .ref D, rfl, M, D, (evens tl).map Sum.inr, xs, rfl, SqT.of (by rw [ek]; exact hM'), SqL.of hD', fun T nT => ?_⟩
    refine ret_in ?_
    refine ⟨.str ab, rfl, .ref T, rfl, T, rfl, .inl ⟨_, .inl upd_same⟩, _, .inl ⟨_, .inr "is", .inl upd_same, rfl, rfl⟩, .ref T, rfl, T, rfl, .inl ⟨_, .inl upd_same⟩, _, .inl ⟨_, .inr "all", .inl upd_same, rfl, rfl⟩, by show 3 ≤ sizeLine; decide, fun r nr => ?_⟩
    have sT := (s2.trans sA).trans (sameU (o := .dK (mergeK [] (((evens tl).map Sum.inr).zip xs))) nT)
    rw [← hxs] at sT nr ⊢
    exact q1 _ is_tail _ r (sT.trans (sameU nr)) (none_of sT nr) upd_same

end
end Uq

namespace Uq
open PySem PySem.Spec PyProof.Rows L2

/-! ### except C as e: an exception that is kept is tracked from the clause on -/
/-- at a: an exception of this class and dict -/
def exk (a : Addr) (cls : Value) (d : Option Addr) : HO := .ext fun h => ∃ (ob : Obj) (fv : Array Value), h.get? a = some ob ∧ Zc cls d ob ∧ ob.data = .fields fv
theorem exk_ok {P : Program} {w : World} {H : Hp} {h : Heap} {a : Addr} {cls : Value} {d : Option Addr} {ob : Obj} {fv : Array Value} (e : h.get? a = some ob) (z : Zc cls d ob) (y : ob.data = .fields fv) : ObjOk P w H h a (exk a cls d) :=
  ⟨⟨ob, fv, e, z, y⟩, ⟨ob, e⟩, fun _ _ ⟨o1, f1, e1, z1, y1⟩ k => ⟨o1, f1, k _ e1, z1, y1⟩⟩
theorem exk_at {P : Program} {w : World} {H : Hp} {h : Heap} {a : Addr} {cls : Value} {d : Option Addr} (ok : HOk P w H h) (e : H a = some (exk a cls d)) : ∃ (ob : Obj) (fv : Array Value), h.get? a = some ob ∧ Zc cls d ob ∧ ob.data = .fields fv := by
  have z : ObjOk P w H h a (.ext fun h => ∃ (ob : Obj) (fv : Array Value), h.get? a = some ob ∧ Zc cls d ob ∧ ob.data = .fields fv) := ok a _ e
  exact z.1
section
variable {X : Cx} {pins : List (Addr × Obj)} {σ : L2.St} {H : Hp} {s : Shared}
/-- what is new since the entry, and not tracked, may be tracked -/
theorem Inv.track {a : Addr} {o : HO} (I : Inv X pins σ H s) (n0 : X.s_0.heap.get? a = none) (na : H a = none) (nL : a ≠ X.env.locals) (nC : ∀ x c, X.env.cells.lookup x = some c → c ≠ a) (nP : ∀ p ∈ X.pn ++ pins, p.1 ≠ a)
    (new : ObjOk X.prog X.w (upd H a o) s.heap a o) : Inv X pins σ (upd H a o) s := by
  have B := I.base
  refine ⟨I.ok, I.os, I.bare, ⟨B.keep, B.slot, fun b u e n hx => ?_, B.there, fun b xs e => ?_, fun b u v e => ?_, fun b ps e => ?_⟩, I.loc, I.cell, ?_, fun x c e => ?_, fun p hp => ?_, fun b u e => ?_, I.len⟩
  · have ne : b ≠ a := fun z => by
      rw [z, n0] at e
      cases e
    rw [upd_ne ne]
    exact B.free b u e n hx
  · have z := B.tups b xs e
    rw [upd_ne (ne_of_none z na)]
    exact z
  · have z := B.frzs b u v e
    rw [upd_ne (ne_of_none z na)]
    exact z
  · obtain ⟨more, z⟩ := B.tbls b ps e
    refine ⟨more, ?_⟩
    rw [upd_ne (ne_of_none z na)]
    exact z
  · rw [upd_ne nL.symm]
    exact I.free
  · rw [upd_ne (nC x c e)]
    exact I.freeC x c e
  · obtain ⟨h1, h2, h3, h4, h5⟩ := I.pin p hp
    refine ⟨h1, ?_, h3, h4, h5⟩
    rw [upd_ne (nP p hp)]
    exact h2
  · by_cases z : b = a
    · subst z
      rw [upd_same] at e
      cases e
      exact new
    · rw [upd_ne z] at e
      refine (I.hok b u e).stay (fun _ _ _ q => q) (fun c q => ?_) fun c xs q => ?_
      · rw [upd_ne (ne_of_none q na)]
        exact q
      · rw [upd_ne (ne_of_none q na)]
        exact q
/-- into the clause's suite, with no pins of its own -/
theorem Inv.clause (I : Inv X pins σ H s) (a : Addr) : Inv (X.suite a (X.pn ++ pins)) [] σ H s := by
  have ok := I.ok.suite a (X.pn ++ pins)
  refine ⟨ok, I.os, I.bare, I.base, I.loc, I.cell, I.free, I.freeC, fun p hp => I.pin p ?_, I.hok, I.len⟩
  have hp' : p ∈ (X.pn ++ pins) ++ [] := hp
  rwa [List.append_nil] at hp'
theorem Inv.unclause {a : Addr} {pn' : List (Addr × Obj)} (I : Inv (X.suite a (X.pn ++ pins)) pn' σ H s) (ok : X.Ok) : Inv X pins σ H s := by
  refine ⟨ok, I.os, I.bare, I.base, I.loc, I.cell, I.free, I.freeC, fun p hp => I.pin p ?_, I.hok, I.len⟩
  exact List.mem_append_left _ hp
end
/-- what a clause that keeps its exception asks -/
def wKeep (K : PySem.W.Frag) (c : Value) (i : Nat) (ts : TS) (Wout : WX) (D : Ends) : WX := fun cls d σ H =>
  ∃ b, PySem.W.exmOne K cls c = some b ∧
    (b = true → ∀ a, H a = none → ts { nx := fun σ' H' => D.nx (σ'.set i none) H', rt := D.rt, bk := fun σ' H' => D.bk (σ'.set i none) H', ct := fun σ' H' => D.ct (σ'.set i none) H' } (σ.set i (some (.ref a))) (upd H a (exk a cls d))) ∧
    (b = false → Wout cls d σ H)
section
variable {X : Cx} {x n : Str} {c : Value} {i : Nat} {body suite : List Stmt} {b₀ : Stmt} {np pos pos' : Pos} {tb : WX → TS} {ts : TS} {Wout : WX}
theorem ps_try_keep (hs : X.stack = X.env :: X.outer) (hf : X.env.frame = some X.env.locals) (hex : X.ex = []) (hN : X.N.Nodup) (hi : X.N[i]? = some n) (hln : X.env.kindOf n = some .local) (hc : Names X x c) (tk : Takes X Wout)
    (hb : ∀ (W : WX) (pn : List (Addr × Obj)) (xe : Value → Shared → Prop), Takes (X.tr pn xe) W → PassesOwn (model X.prog X.w) X.A X.env xe → PSs (X.tr pn xe) body (tb W))
    (hsu : ∀ (a : Addr) (pn : List (Addr × Obj)), PSs (X.suite a pn) (b₀ :: suite) ts) :
    PS X (.Try body [.ExceptHandler (some (.Name x np)) (some n) (b₀ :: suite) pos'] [] [] pos) (fun D σ H => tb (wKeep X.K c i ts Wout D) D σ H) := by
  constructor
  intro pins s σ H D I h
  have ok := I.ok
  have frs_ : X.A.frames = some (X.env :: X.outer) := hs ▸ ok.frames
  refine wpAny_Try_except ?_
  have caught : ∀ (u : Value) (s' : Shared), XE (X.tr (X.pn ++ pins) fun e s₁ => wpAny (model X.prog X.w) X.A (noteFrame e X.env) (fun _ s₂ => wpAny (model X.prog X.w) X.A (setFlight e none) (fun _ s₃ =>
      wpAny (model X.prog X.w) X.A (handleBy e X.env [.ExceptHandler (some (.Name x np)) (some n) (b₀ :: suite) pos']) (SP X pins D) X.xe s₃) X.xe s₂) X.xe s₁) (wKeep X.K c i ts Wout D) u s' →
      wpAny (model X.prog X.w) X.A (noteFrame u X.env) (fun _ s₂ => wpAny (model X.prog X.w) X.A (setFlight u none) (fun _ s₃ =>
        wpAny (model X.prog X.w) X.A (handleBy u X.env [.ExceptHandler (some (.Name x np)) (some n) (b₀ :: suite) pos']) (SP X pins D) X.xe s₃) X.xe s₂) X.xe s' := by
    rintro u s' ⟨a, B, sI, pins', σ', H', cls, d, rfl, J', nb, up, sky, na, os, ag, b, hb1, yes, no⟩
    have J : Inv X pins σ' H' sI := J'.ofTry ok
    have sky2 : Sky B (X.env :: X.outer) a (Zc cls d) X.env.locals s'.heap := hs ▸ sky
    refine Sky.land Zc.steady frs_ hf sky2 fun h3 fly up3 => ?_
    have J3 : Inv X pins σ' H' { s' with heap := h3 } := J.landed nb fly.1 (up.trans up3) os ag
    obtain ⟨o3, v3, g3, z3, y3⟩ := fly.there
    -- where it stands
    have off : ∀ {h : Heap} {o : Obj} {vs : Array Value}, h.FunFrames B (X.env :: X.outer) → h.get? a = some o → o.data = .fields vs → a ∉ frs (X.env :: X.outer) := by
      intro h o vs ff e dd hm
      obtain ⟨_, o', e', nf⟩ := ff.mem hm
      rw [e] at e'
      cases e'
      exact nf _ dd
    have aOff := off fly.2.2.1 g3 y3
    have nL : a ≠ X.env.locals := by
      intro z
      refine aOff (List.mem_filterMap.mpr ⟨X.env, List.mem_cons_self, ?_⟩)
      rw [hf, z]
    have notIn : sI.heap.get? a = none := by
      cases q : sI.heap.get? a with
      | none => rfl
      | some o =>
        have y := nb a o q (by rw [hs]; exact aOff)
        rw [fly.2.1] at y
        cases y
    have n0 : X.s_0.heap.get? a = none := by
      cases q : X.s_0.heap.get? a with
      | none => rfl
      | some o =>
        obtain ⟨o', e1⟩ := J.base.there a o q (by rw [hex]; exact fun z => nomatch z)
        rw [notIn] at e1
        cases e1
    have nC : ∀ y c', X.env.cells.lookup y = some c' → c' ≠ a := by
      intro y c' e z
      obtain ⟨v, o, g, k⟩ := J3.cell y c' e
      rw [z, g3] at g
      cases g
      rw [y3] at k
      cases k
    have nP : ∀ p ∈ X.pn ++ pins, p.1 ≠ a := by
      intro p hp z
      have y := (J.pin p hp).1
      rw [z, notIn] at y
      cases y
    have S3 := Inv.clause J3 a
    refine wpAny_handleBy_cons ?_ (by intro q; cases q)
    refine codeAny_handlers_test ?_
    have kind : PySem.W.Looks (model X.prog X.w) h3 (typeOf (.ref a)) cls := by
      intro A Q E s k q
      refine wpAny_typeOf_ref (k _ _ g3) ?_
      rw [z3.1]
      exact q
    have fits := PySem.W.exm_one (M := model X.prog X.w) J3.kIn kind hb1
    have named : ∀ {Q : Value → Shared → Prop} {E : Value → Shared → Prop}, Q c { s' with heap := h3 } → wpAny (model X.prog X.w) (X.A.mark (some (.ref a))) (eval (.Name x np) X.env) Q E { s' with heap := h3 } := by
      intro Q E q
      rcases hc with ⟨hg, hdb, hm | ⟨hm, hv, hnn⟩⟩
      · exact ld_glob (X := X.suite a (X.pn ++ pins)) S3 hg hm q hdb
      · exact ld_blt (X := X.suite a (X.pn ++ pins)) S3 hg hm hv q hnn hdb
    refine named (fits.here ?_)
    cases b with
    | true =>
      refine codeAny_handlers_suite_as ?_
      refine HandSPX.lands_againZ fly fun h4 fly4 up4 => ?_
      have J4 : Inv X pins σ' H' { s' with heap := h4 } := J.landed nb fly4.1 ((up.trans up3).trans up4) os ag
      obtain ⟨o4, v4, g4, z4, y4⟩ := fly4.there
      have K4 : Inv X pins σ' (upd H' a (exk a cls d)) { s' with heap := h4 } := Inv.track J4 n0 na nL nC nP (exk_ok g4 z4 y4)
      refine store_ok (X := X.suite a (X.pn ++ pins)) (v := .ref a) (Inv.clause K4 a) hN hi (.inl hln) rfl (fun s5 S5 => ?_) (.inr hln)
      refine wpAny_mono ((hsu a (X.pn ++ pins)).run [] s5 _ _ _ S5 (yes rfl a na)) ?_ (fun _ _ z => False.elim z)
      have behind : ∀ {s6 : Shared} {σ6 : L2.St} {H6 : Hp} {Q : Shared → Prop}, Inv (X.suite a (X.pn ++ pins)) [] σ6 H6 s6 → (∀ s7, Inv X pins (σ6.set i none) H6 s7 → Q s7) →
          wpAny (model X.prog X.w) X.A (do bindName X.env n .none; unbindBehindTheSuite X.env n pos') (fun _ s7 => Q s7) X.xe s6 := by
        intro s6 σ6 H6 Q S6 hq
        exact gone_ok (Inv.unclause S6 ok) hN hi hln hq
      rintro (_ | _ | _ | u) s6 hsp
      · obtain ⟨σ6, H6, S6, q6⟩ := hsp
        exact behind S6 fun s7 J7 => ⟨_, _, J7, q6⟩
      · obtain ⟨σ6, H6, S6, q6⟩ := hsp
        exact behind S6 fun s7 J7 => ⟨_, _, J7, q6⟩
      · obtain ⟨σ6, H6, S6, q6⟩ := hsp
        exact behind S6 fun s7 J7 => ⟨_, _, J7, q6⟩
      · obtain ⟨v6, σ6, H6, S6, r6, q6⟩ := hsp
        exact behind S6 fun s7 J7 => ⟨_, _, _, J7, r6, q6⟩
    | false =>
      show wpAny _ X.A (handleBy (.ref a) X.env []) _ _ _
      refine wpAny_handleBy_nil ?_
      have fly_ := fly
      obtain ⟨k1, k2, k3, oe, vs, T, oT, ts', he, hz, hd, h1, hr⟩ := fly_
      unfold PySem.passOn
      refine wpAny_bind (wpAny_field he hd h1 ?_)
      rw [if_neg (by simp : ¬ ((Value.ref T == Value.none) = true))]
      have fin : wpAny (model X.prog X.w) X.A (setFlight (.ref a) X.env.frame) (fun _ s4 => wpAny (model X.prog X.w) X.A (throw (.ref a) : Sem Flow) (SP X pins D) X.xe s4) X.xe { s' with heap := h3 } := by
        rw [hf]
        refine HandSPX.setFlight_upZ fly fun h4 held up4 => ?_
        refine wpAny_throw (tk _ _ ⟨a, B, sI, pins, σ', H', cls, d, rfl, J, nb, (up.trans up3).trans up4, .inr (.inr ?_), na, os, ag, no rfl⟩)
        rw [hs]
        exact held
      first
        | exact wpAny_bind (wpAny_pure (wpAny_bind fin))
        | exact wpAny_bind fin
  have body_ := (hb (wKeep X.K c i ts Wout D) (X.pn ++ pins) _ caught PassesOwn.looking).run [] s σ H D (I.toTry _) h
  refine wpAny_mono body_ ?_ (fun _ _ z => z)
  rintro (_ | _ | _ | u) s1 hsp
  · obtain ⟨σ', H', J', q⟩ := hsp
    exact wpAny_execs_nil ⟨σ', H', J'.ofTry ok, q⟩
  · obtain ⟨σ', H', J', q⟩ := hsp
    exact ⟨σ', H', J'.ofTry ok, q⟩
  · obtain ⟨σ', H', J', q⟩ := hsp
    exact ⟨σ', H', J'.ofTry ok, q⟩
  · obtain ⟨v, σ', H', J', r, q⟩ := hsp
    exact ⟨v, σ', H', J'.ofTry ok, r, q⟩
end
end Uq

namespace Uq
open PySem PySem.Spec PyProof.Rows L2 LamX

/-! ### a lambda called where the slots are known, so that what it lets out is caught with them -/
section
variable {X : Cx} {pins : List (Addr × Obj)} {σ σ₀ : L2.St} {H : Hp} {s : Shared}
abbrev cxG (X : Cx) (Ng : List Str) (q : Str) (sg : Scope) (g : Addr) (cdg : Value) (s : Shared) (H : Hp) : Cx := cxOf C8.CX0 X.prog X.w X.K X.mg X.base Ng q sg g cdg X.A X.stack s H C8.E0
theorem pe_actS {Ng : List Str} {qg : Str} {sg : Scope} {g f c' : Addr} {cdg pm ctv : Value} {params : Arguments} {body : Expr} {scope : Scope} {k i : Nat} {a : Str} {pn : List (Addr × Obj)} {xe : Value → Shared → Prop} {W : WX} {E : XK} {tb : TE} {p1 p2 : Pos}
    (I : Inv X pins σ H s) (L : LamS X.env.scope scope) (hf : s.heap.get? f = some (PySem.W.kla_obj "<lambda>" (X.env.qual ++ "<lambda>") params body scope (cloFrom X.env.cells scope.names []) pm c' ctv)) (hfn : H f = none) (hfr : f ∉ frs X.stack)
    (hbind : bindArgs (PySem.W.kla_fn "<lambda>" (X.env.qual ++ "<lambda>") params body scope (cloFrom X.env.cells scope.names []) pm (.ref c') ctv) ⟨[], []⟩ = pure [])
    (tk : Takes ((cxG X Ng qg sg g cdg s H).tr pn xe) W) (hW : ∀ cls d H', E cls d H' → W cls d σ₀ H') (hr : Room (k + 1) (X.A.deeper (envOfC qg sg s.heap.objs.size g cdg)))
    (hbody : ∀ (A : Around) (outer : List Env) (s : Shared) (H : Hp), Room k (A.deeper (lamEnv X scope s.heap.objs.size f c')) → PE (lamCx X A outer s H E scope f c') body tb)
    (hN : Ng[i]? = some a) (hv : Vis sg a) (hd : (a == ("__debug__" : Str)) = false := by decide) (hcd : (a == ("__classdict__" : Str)) = false := by decide) :
    PE ((cxG X Ng qg sg g cdg s H).tr pn xe) (.Call (.Name a p1) [] [] p2) (fun σZ HZ Q => σZ = σ₀ ∧ σZ[i]? = some (some (.ref f)) ∧ HZ c' = some (CodeO c' (X.env.qual ++ "<lambda>")) ∧ tb σ HZ Q) := by
  constructor
  rintro pinsZ sZ σZ HZ Q IZ ⟨rfl, hs, hc, ht⟩
  have got := (pe_var (pos := p1) (i := i) hN hv hd hcd).run pinsZ sZ σZ HZ (fun v H1 => v = .ref f ∧ H1 = HZ) IZ ⟨.ref f, hs, rfl, rfl⟩
  refine wpAny_Call_Name_kw (thn got ?_)
  rintro u s1 ⟨v, H1, I1, r1, rfl, rfl⟩
  obtain rfl : u = Value.ref f := r1
  have at1 : s1.heap.get? f = some (PySem.W.kla_obj "<lambda>" (X.env.qual ++ "<lambda>") params body scope (cloFrom X.env.cells scope.names []) pm c' ctv) := by
    refine I1.base.keep f _ hf hfn hfr ?_
    intro z
    exact nomatch (show f ∈ ([] : List Addr) from z)
  refine PySem.W.callWith_F0 ⟨_, _, _, _, at1⟩ ?_
  have un : L2.Un (frs X.stack) [] H H1 s.heap s1.heap := I1.base
  have code := I1.hok c' _ hc
  obtain ⟨⟨oc, vs, t, hoc, hdc, hvc⟩, _, _⟩ := code
  have ran : codeAny (model X.prog X.w) (X.A.deeper (envOfC qg sg s.heap.objs.size g cdg)) (.call (.ref f) ⟨[], []⟩) (CR (L2.CX X.prog X.w) (envOfC qg sg s.heap.objs.size g cdg :: X.stack) X.prog X.w H1 s1 Q E) s1 := by
    refine PySem.W.kla_callFunE hr.depth at1 rfl L.co L.gen rfl ⟨c', oc, vs, t, rfl, hoc, hdc, hvc⟩ ?_
    rw [hbind]
    refine wpAny_pure ?_
    refine wpAny_newFunctionEnv (fun y hy => (L.own y hy).2) (fun y hy => nomatch hy) ?_ L.kind
    intro h₁ hns hsb
    refine ⟨I1.nolimit.fresh _ hsb, ?_⟩
    show codeAny _ _ (.expr body (lamEnv X scope s1.heap.objs.size f c')) _ _
    have stays : ∀ b o, s1.heap.get? b = some o → h₁.get? b = some o := by
      intro b o e
      exact hsb.extBut b o (Nat.ne_of_lt (Heap.lt_size e)) (Heap.get?_push_of_some _ e)
    have J : Inv (lamCx X (X.A.deeper (envOfC qg sg s.heap.objs.size g cdg)) (envOfC qg sg s.heap.objs.size g cdg :: X.stack) s1 H1 E scope f c') [] σ H1 { s1 with heap := h₁, toks := s1.toks + ([] : List (Str × Value)).length } := by
      exact lam_start2 I L I1.env0 hr.hd un hns stays
    have val := (hbody _ _ s1 H1 (hr.deeper _)).run [] _ _ H1 Q J ht
    refine PySem.W.kla_codeExpr (wpAny_mono val ?_ fun e s' hq => hq)
    rintro v s' ⟨w', H', J', rv, q⟩
    exact ⟨w', H', J'.os, J'.bare, J'.base, J'.hok, rv, q⟩
  refine wpAny_call (codeAny_mono ran ?_)
  rintro (e | (_ | _ | _ | u)) s' hq
  · exact tk e s' (XE.of_call I1 (fun cls d H' h => hW cls d H' h) hq)
  all_goals first
    | exact False.elim hq
    | exact I1.after hq
/-- the def that calls what it got, its slots known -/
def GivesS (X : Cx) (Ng : List Str) (x : Str) (sg : Scope) (g : Addr) (cdg : Value) (bg : List Stmt) (a : Str) (q : Str) (TT : (XK → Hp → VK → Prop) → Hp → VK → Prop) : Prop :=
  ∀ (f c' : Addr) (s : Shared) (H : Hp) (Q : VK) (tl : XK → Hp → VK → Prop),
    (∀ (W : WX) (pn : List (Addr × Obj)) (xe : Value → Shared → Prop) (E : XK) (σ₀ : L2.St) (p1 p2 : Pos), Takes ((cxG X Ng x sg g cdg s H).tr pn xe) W → (∀ cls d H', E cls d H' → W cls d σ₀ H') →
      PE ((cxG X Ng x sg g cdg s H).tr pn xe) (.Call (.Name a p1) [] [] p2) (fun σZ HZ Q => σZ = σ₀ ∧ σZ[0]? = some (some (.ref f)) ∧ HZ c' = some (CodeO c' q) ∧ tl E HZ Q)) →
    H c' = some (CodeO c' q) → TT tl H Q →
    ∃ t, PSs (cxG X Ng x sg g cdg s H).nox bg t ∧ t { nx := fun _ H' => Q .non H', rt := Q } (L2.start Ng [.ref f]) H
end
section
variable {X : Cx}
/-- x(lambda: body) -/
theorem pe_lamS {T : List (Addr × Str)} {TT : (XK → Hp → VK → Prop) → Hp → VK → Prop} {x a : Str} {g c P : Addr} {k : Nat} {pg : Arguments} {bg : List Stmt} {sg : Scope} {dV kV doc pm cdv ct oc : Value} {an od : Option Addr} {osl : Array (Option Value)} {Ng : List Str}
    {params : Arguments} {body : Expr} {scope : Scope} {t : XK → TE} {p lpos pos : Pos} (hg : Gl X x) (hm : X.mg x = some (.ref g)) (hk : PySem.W.keepIn X.K (.ref g) = true)
    (lk : X.K.lookup g = some ⟨oc, od, .func (PySem.W.fnOf x x pg bg sg dV kV doc pm an cdv ct), osl⟩) (hcg : PySem.W.codeIn X.K cdv x = true) (hb : L2.Binds X.K (PySem.W.fnOf x x pg bg sg dV kV doc pm an cdv ct) [a] []) (Sg : FnScope Ng [a] sg) (hNg : Ng[0]? = some a) (hva : Vis sg a)
    (hG : GivesS X Ng x sg g cdv bg a (X.env.qual ++ "<lambda>") TT)
    (TB : TabB X.base X.mg c P) (hcode : X.env.code = .ref c) (hmT : (P, X.env.qual ++ "<lambda>") ∈ T) (hu : ∀ p ∈ T, p.1 = P → p.2 = X.env.qual ++ "<lambda>") (hr : Room (k + 2) X.A) (L : LamS X.env.scope scope) (hdef : defaultsOf params X.env = ([], []))
    (hbind : ∀ (q : Str) (cl : List (Str × Addr)) (pm cv ctv : Value), bindArgs (PySem.W.kla_fn "<lambda>" q params body scope cl pm cv ctv) ⟨[], []⟩ = pure [])
    (hbody : ∀ (A : Around) (outer : List Env) (s : Shared) (H : Hp) (E : XK) (f c' : Addr), Room k (A.deeper (lamEnv X scope s.heap.objs.size f c')) → PE (lamCx X A outer s H E scope f c') body (t E))
    (hdb : (x == ("__debug__" : Str)) = false := by decide) (hd : (a == ("__debug__" : Str)) = false := by decide) (hcd : (a == ("__classdict__" : Str)) = false := by decide) :
    PE X (.Call (.Name x p) [.Lambda params body scope lpos] [] pos) (tLam T TT t) := by
  constructor
  rintro pins s σ H Q I ⟨hT, h⟩
  refine wpAny_Call_Name_kw (ld_glob I hg hm ?_ hdb)
  refine PySem.W.callWith_K (h₀ := X.base) I.ok.mod.kin hk ?_ (by rfl) (by rfl)
  show wpAny _ _ (spliced ((false, eval (.Lambda params body scope lpos) X.env) :: backTo pos (starEach [] X.env))) _ _ s
  refine Calls.spliced_cons (lam_make2 I TB hcode hmT hu hT hdef (L.has I.ok) ?_)
  intro f c' pm' ctv H1 s' I1 eN T1 hf hfn hfr hco
  refine Calls.spliced_nil ⟨I1.kIn, ?_⟩
  have ran : codeAny (model X.prog X.w) X.A (.call (.ref g) ⟨[.ref f], []⟩) (CR C8.CX0 X.stack X.prog X.w H1 s' Q C8.E0) s' := by
    refine run_ofS (N := Ng) (ps := [a]) (us := [.ref f]) (vs := [.ref f]) lk hcg Sg hr I1.env0 (hb s' [.ref f] I1.kIn rfl) (.cons rfl .nil) rfl ?_
    intro hr'
    have act := hG f c' s' H1 Q (fun E H' Q' => t E σ H' Q') (fun W pn xe E σ₀ p1 p2 tk hW => pe_actS (i := 0) (σ₀ := σ₀) (tb := t E) (p1 := p1) (p2 := p2) I1 L hf hfn hfr (hbind _ _ _ _ _) tk hW hr' (fun A outer s H hr2 => hbody A outer s H E f c' hr2) hNg hva hd hcd) hco (h H1 eN T1)
    obtain ⟨t', ht', hq'⟩ := act
    exact ⟨t', ht'.nox, hq'⟩
  refine wpAny_call (codeAny_mono ran ?_)
  rintro (e | (_ | _ | _ | u)) s2 hq
  all_goals first
    | exact False.elim hq
    | exact I1.after hq
end
end Uq

namespace Uq
open PySem PySem.Spec PyProof.Rows L2
/-! ### x == y by an own __eq__, both answers -/
section
variable {X : Cx} {C f : Addr} {k : Nat} {fd : FuncData} {ps : List Str} {sp : Sp}
def rEqO (C : Addr) (sp : Sp) : R2 := fun x y H Q => ∃ a dx fs b dy gs, x = .ref a ∧ y = .ref b ∧ H a = some (.ins C dx fs) ∧ H b = some (.ins C dy gs) ∧ sp [.ref a, .ref b] H (fun v H1 => ∃ c, v = .bl c ∧ Q (.bl c) H1) E0
theorem op_eqO (d : Dun X.K C f "__eq__") (F : FnOk X.prog X.w X.K X.mg X.base CX0 k f fd ps sp) (hr : Room k X.A) (hb : Binds X.K fd ps []) : OpR X (compareOp .Eq) (rEqO C sp) := by
  intro pins s σ H x y v u Q I rx ry h
  obtain ⟨a, dx, fs, b, dy, gs, rfl, rfl, e, e2, q⟩ := h
  cases (show v = Value.ref a from rx)
  cases (show u = Value.ref b from ry)
  obtain ⟨ox, od, J⟩ := at_ins I e
  obtain ⟨ox2, od2, J2⟩ := at_ins I e2
  obtain ⟨m, fr⟩ := I.fr
  show wpAny (model X.prog X.w) X.A (richCompare .Eq (.ref a) (.ref b)) (EP X pins σ Q) X.xe s
  refine PySem.W.cmp_K (op := .Eq) (tb := .ref C) hr.units0 fr I.ok.mod.kin J J2.type (by simp [PySem.W.notFirst]) d.at_ d.fn ?_
  refine wpAny_mono (run_in F hr I.env0 hb I (.cons (a := V.ref a) rfl (.cons (a := V.ref b) rfl .nil)) q) ?_ (fun _ _ z => z)
  rintro w s' ⟨z, H1, I1, rz, c, rfl, q1⟩
  cases (show w = Value.bool c from rz)
  exact ⟨.bl c, H1, I1, rfl, q1⟩
end
/-! ### the text of a text -/
theorem call_repr_str {X : Cx} : CallR X (.builtin "repr") (fun xs H Q => ∃ a, xs = [.str a] ∧ (reprText a).length ≤ sizeLine ∧ Q (.str (reprText a)) H) := by
  intro pins s σ H xs us Q I r h
  obtain ⟨a, rfl, hz, q⟩ := h
  obtain ⟨u, rfl, t, rfl⟩ := vals1 r
  exact PySem.P.repr_of_str ⟨.str _, H, I.tok _, ⟨_, rfl⟩, q⟩ hz
end Uq

namespace PySem.W
open PySem PySem.Spec PySem.Calls PyProof.Rows
section
variable {prog : Program} {w : World} {M : Model} {A : Around} {E : Value → Shared → Prop} {s : Shared} {K : Frag} {x C L f : Addr} {h₀ : Heap} {m : Str → Option Value} {ox : Obj} {od : Option Obj} {b tb : Value}
theorem ifBound_B {name : Str} {id : String} {args : List Value} {Q : Option Value → Shared → Prop} (X : K.In s.heap) (I : InstAt s.heap x ox C od) (hs : findIn K (.ref C) name = some (some (.builtin id)))
    (hb : ∀ self, bindSpecial (.builtin id) self = pure (.builtin id, [self])) (h : wpAny M A (call (.builtin id) (.ref x :: args)) (fun v => Q (some v)) E s) : wpAny M A (callSpecialIfBound? (.ref x) name args) Q E s := by
  simp only [callSpecialIfBound?, bindSpecialIfBound?]
  refine wpAny_holding (wpAny_bind (wpAny_bind (wpAny_bind (I.type.here ((looks_findIn X hs).here ?_)))))
  refine wpAny_bind (wpAny_askSetting (wpAny_ite ?_))
  have fin : wpAny M A (call (.builtin id) ([.ref x] ++ args) >>= fun v => pure (some v)) Q E s := wpAny_bind (wpAny_mono h (fun v s' h' => wpAny_pure h') fun _ _ h' => h')
  split
  · exact wpAny_bind ((Looks.of_pure (hb _)).here (wpAny_pure (by exact fin)))
  · exact wpAny_tryCatch (wpAny_bind ((Looks.of_pure (hb _)).here (wpAny_pure (by exact fin))))
open Builtin in
theorem one_ne {Q : Value → Shared → Prop} (hu1 : A.in1.units < cLine) (X : K.In s.heap) (I : InstAt s.heap x ox C od)
    (hs : findIn K (.ref C) "__ne__" = some (some (.builtin "object.__ne__"))) (hm : mroIn K C (.type "object") = some true) (he : findIn K (.ref C) "__eq__" = some (some (.ref f))) (hf : isFn K (.ref f) = true)
    (h : wpAny (model prog w) A.in1 (call (.ref f) [.ref x, b]) (fun v s' => ∃ c, v = .bool c ∧ Q (.bool (!c)) s') E s) :
    wpAny (model prog w) A (tryCompare (.ref x) "__ne__" b) (fun r s' => ∃ v, r = some v ∧ Q v s') E s := by
  unfold tryCompare
  refine wpAny_bind (ifBound_B X I hs PySem.F.cmp_object.ne.bind (wpAny_call (codeAny_call_builtin PySem.F.cmp_object.ne.plain PySem.F.cmpEntry_ne (check_slot (i := "object.__ne__") (owner := "object") (n := "__ne__") (by decide +kernel) (by decide +kernel) (I.type.andThen (looks_mroIn X hm)) (PySem.F.cmpArgs_ne _ _) ?_))))
  unfold Builtin.«object.__ne__»
  refine wpAny_bind (m := slotArgs "__ne__" 1 _) (wpAny_pure ?_)
  refine wpAny_bind (m := cRoomFor _ _) (wpAny_cRoomFor hu1 ?_)
  refine wpAny_bind (m := callSpecialIfBound? (.ref x) (Str.ofString "__eq__") _) (ifBound_K X I he hf (wpAny_mono h (fun r s' hq => ?_) fun _ _ y => y))
  obtain ⟨c, rfl, q⟩ := hq
  refine wpAny_bind (wpAny_truthy_bool ?_)
  refine wpAny_pure ?_
  exact wpAny_pure ⟨_, rfl, q⟩
theorem ne_K {Q : Value → Shared → Prop} (hu : A.units < cLine) (hu1 : A.in1.units < cLine) (F : Fr h₀ L s.heap m) (X₀ : K.In h₀) (I : InstAt s.heap x ox C od) (hb : Looks (model prog w) s.heap (typeOf b) tb) (hn : notFirst K C tb = true)
    (hs : findIn K (.ref C) "__ne__" = some (some (.builtin "object.__ne__"))) (hm : mroIn K C (.type "object") = some true) (he : findIn K (.ref C) "__eq__" = some (some (.ref f))) (hf : isFn K (.ref f) = true)
    (h : wpAny (model prog w) A.in1 (call (.ref f) [.ref x, b]) (fun v s' => ∃ c, v = .bool c ∧ Q (.bool (!c)) s') E s) : wpAny (model prog w) A (richCompare .NotEq (.ref x) b) Q E s := by
  have X := X₀.keeps F.keep
  have one := one_ne (A := A) (E := E) hu1 X I hs hm he hf h
  unfold richCompare
  simp only [oneThing_ref]
  refine wpAny_holding (wpAny_bind (wpAny_cRoomFor hu ?_))
  refine wpAny_bind (I.type.here (wpAny_bind (hb.here ?_)))
  split
  · rename_i q
    have e : subIn K tb (.ref C) = some false := by
      rcases Bool.or_eq_true_iff.mp hn with e | e
      · rw [beq_iff_eq.mp e] at q; simp at q
      · exact beq_iff_eq.mp e
    refine wpAny_bind ((looks_subIn X e).here ?_)
    simp only [Bool.false_eq_true, if_false]
    refine wpAny_bind (wpAny_mono one (fun r s' z => ?_) fun _ _ e => e)
    obtain ⟨v, rfl, hq⟩ := z
    exact wpAny_pure hq
  · refine wpAny_bind (wpAny_pure ?_)
    simp only [Bool.false_eq_true, if_false]
    refine wpAny_bind (wpAny_mono one (fun r s' z => ?_) fun _ _ e => e)
    obtain ⟨v, rfl, hq⟩ := z
    exact wpAny_pure hq
end
end PySem.W
namespace Uq
open PySem PySem.Spec PyProof.Rows L2
/-! ### x == y and x != y by an own __eq__, y of any kind -/
section
variable {X : Cx} {C f : Addr} {k : Nat} {fd : FuncData} {ps : List Str} {sp : Sp}
def rEqA (K : PySem.W.Frag) (C : Addr) (sp : Sp) (neg : Bool) : R2 := fun x y H Q => ∃ a dx fs t, x = .ref a ∧ H a = some (.ins C dx fs) ∧ TyX K H y t ∧ PySem.W.notFirst K C t = true ∧ sp [.ref a, y] H (fun v H1 => ∃ c, v = .bl c ∧ Q (.bl (if neg then !c else c)) H1) E0
theorem op_eqA (d : Dun X.K C f "__eq__") (F : FnOk X.prog X.w X.K X.mg X.base CX0 k f fd ps sp) (hr : Room k X.A) (hb : Binds X.K fd ps []) : OpR X (compareOp .Eq) (rEqA X.K C sp false) := by
  intro pins s σ H x y v u Q I rx ry h
  obtain ⟨a, dx, fs, t, rfl, e, ty, nf, q⟩ := h
  cases (show v = Value.ref a from rx)
  obtain ⟨ox, od, J⟩ := at_ins I e
  obtain ⟨PH, Z, p, _⟩ := kit_of I ry ty
  obtain ⟨m, fr⟩ := I.fr
  show wpAny (model X.prog X.w) X.A (richCompare .Eq (.ref a) u) (EP X pins σ Q) X.xe s
  refine PySem.W.cmp_K (op := .Eq) (tb := t) hr.units0 fr I.ok.mod.kin J (Z.ty _ _ I.kIn p) nf d.at_ d.fn ?_
  refine wpAny_mono (run_in F hr I.env0 hb I (.cons (a := V.ref a) rfl (.cons ry .nil)) q) ?_ (fun _ _ z => z)
  rintro w s' ⟨z, H1, I1, rz, c, rfl, q1⟩
  cases (show w = Value.bool c from rz)
  exact ⟨.bl c, H1, I1, rfl, q1⟩
structure NeC (K : PySem.W.Frag) (C : Addr) : Prop where
  ne : PySem.W.findIn K (.ref C) "__ne__" = some (some (.builtin "object.__ne__"))
  mro : PySem.W.mroIn K C (.type "object") = some true
theorem op_neA (N : NeC X.K C) (d : Dun X.K C f "__eq__") (F : FnOk X.prog X.w X.K X.mg X.base CX0 k f fd ps sp) (hr : Room (k + 1) X.A) (hb : Binds X.K fd ps []) : OpR X (compareOp .NotEq) (rEqA X.K C sp true) := by
  intro pins s σ H x y v u Q I rx ry h
  obtain ⟨a, dx, fs, t, rfl, e, ty, nf, q⟩ := h
  cases (show v = Value.ref a from rx)
  obtain ⟨ox, od, J⟩ := at_ins I e
  obtain ⟨PH, Z, p, _⟩ := kit_of I ry ty
  obtain ⟨m, fr⟩ := I.fr
  show wpAny (model X.prog X.w) X.A (richCompare .NotEq (.ref a) u) (EP X pins σ Q) X.xe s
  refine PySem.W.ne_K (tb := t) hr.units0 hr.in1.units0 fr I.ok.mod.kin J (Z.ty _ _ I.kIn p) nf N.ne N.mro d.at_ d.fn ?_
  refine wpAny_mono (run_in F hr.in1 I.env0.in1 hb I (.cons (a := V.ref a) rfl (.cons ry .nil)) q) ?_ (fun _ _ z => z)
  rintro w s' ⟨z, H1, I1, rz, c, rfl, q1⟩
  cases (show w = Value.bool c from rz)
  exact ⟨c, rfl, .bl (!c), H1, I1, rfl, q1⟩
end
end Uq

namespace Uq
open PySem PySem.Spec PyProof.Rows L2
/-! ### x + y of two own objects, x * i of one, by its own methods -/
section
variable {X : Cx} {C f : Addr} {k : Nat} {fd : FuncData} {ps : List Str} {sp : Sp}
/-- what is told back is an object -/
def Obj_ (Q : VK) : VK := fun v H1 => ∃ t : Addr, v = .ref t ∧ Q (.ref t) H1
def rAddO (C : Addr) (sp : Sp) : R2 := fun x y H Q => ∃ (a dx : Addr) (fs : List (Str × V)) (b db : Addr) (gs : List (Str × V)), x = .ref a ∧ H a = some (.ins C dx fs) ∧ y = .ref b ∧ H b = some (.ins C db gs) ∧ sp [.ref a, .ref b] H (Obj_ Q) E0
theorem op_addO (d : Dun X.K C f "__add__") (sf : PySem.W.selfFirst X.K C = true) (F : FnOk X.prog X.w X.K X.mg X.base CX0 k f fd ps sp) (hr : Room k X.A) (hb : Binds X.K fd ps []) : OpR X (binaryOp .Add) (rAddO C sp) := by
  intro pins s σ H x y v u Q I rx ry h
  obtain ⟨a, dx, fs, b, db, gs, rfl, e, rfl, e2, q⟩ := h
  cases (show v = Value.ref a from rx)
  cases (show u = Value.ref b from ry)
  obtain ⟨ox, od, J⟩ := at_ins I e
  obtain ⟨oy, od2, J2⟩ := at_ins I e2
  obtain ⟨m, fr⟩ := I.fr
  refine PySem.W.binop_K (op := .Add) fr I.ok.mod.kin J J2.type sf d.at_ d.fn ?_
  refine wpAny_mono (run_in F hr I.env0 hb I (.cons (a := V.ref a) rfl (.cons (a := V.ref b) rfl .nil)) q) ?_ (fun _ _ z => z)
  rintro w s' ⟨z, H1, I1, rz, t, rfl, q1⟩
  cases (show w = Value.ref t from rz)
  exact ⟨.ref t, H1, I1, rfl, q1⟩
/-- what is asked of the class, and of int, for x * i -/
structure MulC (K : PySem.W.Frag) (C : Addr) : Prop where
  sf : PySem.W.selfFirst K C = true
  r : ∃ g : Addr, PySem.W.findIn K (.ref C) "__rmul__" = some (some (.ref g))
  i1 : ∃ fo, PySem.W.findIn K (.type "int") "__mul__" = some fo
  i2 : ∃ ro, PySem.W.findIn K (.type "int") "__rmul__" = some ro
  sub : PySem.W.subIn K (.type "int") (.ref C) = some false
def rMulO (C : Addr) (sp : Sp) : R2 := fun x y H Q => ∃ (a dx : Addr) (fs : List (Str × V)) (i : Int), x = .ref a ∧ H a = some (.ins C dx fs) ∧ y = .int i ∧ sp [.ref a, .int i] H (Obj_ Q) E0
theorem op_mulO (M : MulC X.K C) (d : Dun X.K C f "__mul__") (F : FnOk X.prog X.w X.K X.mg X.base CX0 k f fd ps sp) (hr : Room k X.A) (hb : Binds X.K fd ps []) : OpR X (binaryOp .Mult) (rMulO C sp) := by
  intro pins s σ H x y v u Q I rx ry h
  obtain ⟨a, dx, fs, i, rfl, e, rfl, q⟩ := h
  cases (show v = Value.ref a from rx)
  obtain ⟨tk, rfl⟩ := (show ∃ tk, u = Value.int i tk from ry)
  obtain ⟨ox, od, J⟩ := at_ins I e
  obtain ⟨m, fr⟩ := I.fr
  obtain ⟨sf, ⟨g, hg⟩, ⟨fo, h1⟩, ⟨ro, h2⟩, sub⟩ := M
  refine PySem.W.ksp_binT (op := .Mult) (T := "int") fr I.ok.mod.kin J (by rfl) sf d.at_ d.fn hg (.inr ⟨g, rfl⟩) h1 h2 sub ?_
  refine wpAny_mono (run_in F hr I.env0 hb I (.cons (a := V.ref a) rfl (.cons (a := V.int i) ⟨tk, rfl⟩ .nil)) q) ?_ (fun _ _ z => z)
  rintro w s' ⟨z, H1, I1, rz, t, rfl, q1⟩
  cases (show w = Value.ref t from rz)
  exact ⟨.ref t, H1, I1, rfl, q1⟩
end
end Uq

namespace Uq
open PySem PySem.Spec PyProof.Rows L2 LamX

/-! ### an exception that was caught, as a value -/
def ExcK (H : Hp) (a C : Addr) (v : V) : Prop := ∃ dx : Addr, H a = some (exk a (.ref C) (some dx)) ∧ H dx = some (.xd [("value", v)])
theorem ExcK.same {H H' : Hp} {a C : Addr} {v : V} (s : Same H H') (e : ExcK H a C v) : ExcK H' a C v := by
  obtain ⟨dx, h1, h2⟩ := e
  exact ⟨dx, s _ _ h1, s _ _ h2⟩
theorem excK_inst {P : Program} {w : World} {H : Hp} {h : Heap} {a C : Addr} {v : V} (hok : HOk P w H h) (e : ExcK H a C v) : ∃ (ox od : Obj) (mA : Str → Option Value) (dx : Addr), PySem.W.InstAt h a ox C (some od) ∧ h.Ns1 dx mA ∧ h.get? dx = some od ∧ ox.dict = some dx ∧ ∀ f, RelO (([("value", v)] : List (Str × V)).lookup f) (mA f) := by
  obtain ⟨dx, h1, h2⟩ := e
  obtain ⟨ob, fv, g, z, y⟩ := exk_at hok h1
  obtain ⟨mA, hns, rel⟩ := hok dx _ h2
  obtain ⟨od, hod, hl⟩ := lookIn_ns hns
  have z1 := z.1
  have z2 := z.2
  cases ob
  dsimp only at z1 z2 y
  subst z1
  subst z2
  subst y
  exact ⟨_, od, mA, dx, ⟨g, rfl, rfl, hod⟩, hns, hod, rfl, rel⟩
def rIsK (K : PySem.W.Frag) : List V → Hp → VK → Prop := fun xs H Q => ∃ (a C : Addr) (v c : V) (u : Value) (b : Bool), xs = [.ref a, c] ∧ ClsV c u ∧ Xcl K C ∧ ExcK H a C v ∧ PySem.W.kitOne K (.ref C) u = some b ∧ Q (.bl b) H
theorem call_isK {X : Cx} : CallR X (.builtin "isinstance") (rIsK X.K) := by
  intro pins s σ H xs us Q I r h
  obtain ⟨a, C, v, c, u, b, rfl, k, T, E, e, q⟩ := h
  obtain ⟨u1, u2, rfl, r1, r2⟩ := vals2 r
  cases (show u1 = Value.ref a from r1)
  have e2 := k.eq r2
  subst e2
  obtain ⟨ox, od, mA, dx, J, _⟩ := excK_inst I.hok E
  have hcl : (PySem.W.clsIn X.K C).isSome = true := by
    obtain ⟨cd, hc, _⟩ := PySem.W.any_some T.hd
    rw [hc]
    rfl
  exact PySem.W.kia_one (PySem.W.kitx_exc (x := a) (ox := ox) (od := some od) hcl T.ga T.gg T.T.exC T.cl T.sp T.tk T.mo) I.kIn J e (fun z => nomatch z) fun tk => ⟨.bl b, H, I.tok tk, rfl, q⟩
/-- x.value -/
def tKv (K : PySem.W.Frag) (te : TE) : TE := fun σ H Q => te σ H fun x H1 => ∃ (a C : Addr) (v : V), x = .ref a ∧ Xcl K C ∧ ExcK H1 a C v ∧ Q v H1
theorem pe_kv {X : Cx} {e : Expr} {te : TE} {pos : Pos} (he : PE X e te) (hb : attributeBase e "value" X.env (eval e X.env) = eval e X.env := by rfl) : PE X (.Attribute e "value" pos) (tKv X.K te) := by
  refine ⟨fun pins s σ H Q I h => ?_⟩
  refine attr_of hb (thn (he.run pins s σ H _ I h) fun u s1 hh => ?_)
  obtain ⟨x, H1, I1, rx, a, C, v, ex, T, E, q⟩ := hh
  subst ex
  obtain rfl : u = Value.ref a := rx
  obtain ⟨ox, od, mA, dx, J, hns, hod, hdx, rel⟩ := excK_inst I1.hok E
  obtain ⟨od2, hod2, hl⟩ := lookIn_ns hns
  obtain rfl : od2 = od := by
    rw [hod] at hod2
    exact (Option.some.inj hod2).symm
  obtain ⟨u, hu, ru⟩ := RelO.some_of (v := v) (o := mA "value") (rel "value")
  exact PySem.HandSPX.exc_get I1.kIn J T.ga T.gg T.T.exC (PySem.W.findObj_own T.hd T.va rfl (by rw [hl, hu])) (handed_of ru) ⟨v, H1, I1.tok _, ru, q⟩
section
variable {X : Cx} {C f : Addr} {k : Nat} {fd : FuncData} {ps : List Str} {sp : Sp} {E : XK}
theorem run_inX {pins : List (Addr × Obj)} {σ : L2.St} {H : Hp} {s : Shared} {Q : VK} {us : List Value} {vs : List V} {A : Around} (F : FnOk X.prog X.w X.K X.mg X.base (L2.CX X.prog X.w) k f fd ps sp) (hx : Passes (L2.CX X.prog X.w) X E) (hr : Room k A) (e0 : Env0 X.prog X.w X.K X.mg X.base A X.stack s H) (hb : Binds X.K fd ps [])
    (I : Inv X pins σ H s) (r : Vals vs us) (h : sp vs H Q E) : wpAny (model X.prog X.w) A (call (.ref f) us) (EP X pins σ Q) X.xe s := by
  have n := r.length.symm.trans (F.len _ _ _ _ h)
  have bd := hb s us I.kIn (by rw [List.append_nil]; exact n)
  rw [List.append_nil] at bd
  refine wpAny_call (codeAny_mono (F.run A X.stack s H ⟨us, []⟩ us vs Q E hr e0 bd r h) ?_)
  rintro (e | (_ | _ | _ | u)) s' got
  · exact hx pins σ H s e s' I got
  all_goals first
    | exact False.elim got
    | exact I.after got
/-- x + y of two own objects, what __add__ raises let out -/
def rAddX (C : Addr) (sp : Sp) (E : XK) : R2 := fun x y H Q => ∃ (a dx : Addr) (fs : List (Str × V)) (b db : Addr) (gs : List (Str × V)), x = .ref a ∧ H a = some (.ins C dx fs) ∧ y = .ref b ∧ H b = some (.ins C db gs) ∧ sp [.ref a, .ref b] H (Obj_ Q) E
theorem op_addX (d : Dun X.K C f "__add__") (sf : PySem.W.selfFirst X.K C = true) (F : FnOk X.prog X.w X.K X.mg X.base (L2.CX X.prog X.w) k f fd ps sp) (hx : Passes (L2.CX X.prog X.w) X E) (hr : Room k X.A) (hb : Binds X.K fd ps []) : OpR X (binaryOp .Add) (rAddX C sp E) := by
  intro pins s σ H x y v u Q I rx ry h
  obtain ⟨a, dx, fs, b, db, gs, rfl, e, rfl, e2, q⟩ := h
  cases (show v = Value.ref a from rx)
  cases (show u = Value.ref b from ry)
  obtain ⟨ox, od, J⟩ := at_ins I e
  obtain ⟨oy, od2, J2⟩ := at_ins I e2
  obtain ⟨m, fr⟩ := I.fr
  refine PySem.W.binop_K (op := .Add) fr I.ok.mod.kin J J2.type sf d.at_ d.fn ?_
  refine wpAny_mono (run_inX F hx hr I.env0 hb I (.cons (a := V.ref a) rfl (.cons (a := V.ref b) rfl .nil)) q) ?_ (fun _ _ z => z)
  rintro w s' ⟨z, H1, I1, rz, t, rfl, q1⟩
  cases (show w = Value.ref t from rz)
  exact ⟨.ref t, H1, I1, rfl, q1⟩
end
/-- a lambda's body lets out what it is asked to -/
theorem lam_takes {X : Cx} {A : Around} {outer : List Env} {s : Shared} {H : Hp} {E : XK} {scope : Scope} {f c' : Addr} : Passes (L2.CX X.prog X.w) (lamCx X A outer s H E scope f c') E :=
  passes_call (takes_of (X := lamCx X A outer s H E scope f c') rfl rfl rfl rfl) fun _ _ _ _ h => h
end Uq

namespace Uq
open PySem PySem.Spec PyProof.Rows L2 LamX

/-! ### a lambda that is handed on: f(lambda: .., more), f's body calls g(it) -/
/-- what stays through two calls, one within the other -/
theorem un_in {fs fs' : List Addr} {H H1 H2 : Hp} {h h1 h2 : Heap} (a : L2.Un fs [] H H1 h h1) (b : L2.Un fs' [] H1 H2 h1 h2) (sub : ∀ c o, h.get? c = some o → c ∈ fs' → c ∈ fs) : L2.Un fs [] H H2 h h2 := by
  have nil : ∀ c : Addr, c ∉ ([] : List Addr) := fun c z => nomatch z
  refine ⟨fun c o e n hf _ => ?_, fun c o e n hf _ => ?_, fun c o e n _ => ?_, fun c o e _ => ?_, fun c xs e => b.tups c xs (a.tups c xs e), fun c o u e => b.frzs c o u (a.frzs c o u e), fun c ps e => ?_⟩
  · exact b.keep c o (a.keep c o e n hf (nil c)) (a.free c o e n (nil c)) (fun z => hf (sub c o e z)) (nil c)
  · obtain ⟨sl, e1⟩ := a.slot c o e n hf (nil c)
    have n1 := a.free c o e n (nil c)
    by_cases z : c ∈ fs'
    · obtain ⟨sl2, e2⟩ := b.slot c _ e1 n1 z (nil c)
      exact ⟨sl2, e2⟩
    · exact ⟨sl, b.keep c _ e1 n1 z (nil c)⟩
  · obtain ⟨o1, e1⟩ := a.there c o e (nil c)
    exact b.free c o1 e1 (a.free c o e n (nil c)) (nil c)
  · obtain ⟨o1, e1⟩ := a.there c o e (nil c)
    exact b.there c o1 e1 (nil c)
  · obtain ⟨m1, e1⟩ := a.tbls c ps e
    obtain ⟨m2, e2⟩ := b.tbls c _ e1
    exact ⟨m1 ++ m2, by rw [e2, Array.append_assoc]⟩
section
variable {X : Cx} {pins pinsY : List (Addr × Obj)} {σ σ₀ σY : L2.St} {H H2 : Hp} {s s2 : Shared}
/-- the context of a def that g's caller calls, s2 its entry -/
abbrev cxY (X : Cx) (Ny : List Str) (qy : Str) (sy : Scope) (gy : Addr) (cdy : Value) (s : Shared) (H : Hp) : Cx := (cxG X Ny qy sy gy cdy s H).nox
theorem pe_act2 {Ny Ng : List Str} {qy qg : Str} {sy sg : Scope} {gy g f c' : Addr} {cdy cdg pm ctv : Value} {params : Arguments} {body : Expr} {scope : Scope} {k i : Nat} {a : Str} {pn : List (Addr × Obj)} {xe : Value → Shared → Prop} {W : WX} {E : XK} {tb : TE} {p1 p2 : Pos}
    (I : Inv X pins σ H s) (IY : Inv (cxY X Ny qy sy gy cdy s H) pinsY σY H2 s2) (L : LamS X.env.scope scope) (hf : s.heap.get? f = some (PySem.W.kla_obj "<lambda>" (X.env.qual ++ "<lambda>") params body scope (cloFrom X.env.cells scope.names []) pm c' ctv)) (hfn : H f = none) (hfr : f ∉ frs X.stack)
    (hbind : bindArgs (PySem.W.kla_fn "<lambda>" (X.env.qual ++ "<lambda>") params body scope (cloFrom X.env.cells scope.names []) pm (.ref c') ctv) ⟨[], []⟩ = pure [])
    (tk : Takes ((cxG (cxY X Ny qy sy gy cdy s H) Ng qg sg g cdg s2 H2).tr pn xe) W) (hW : ∀ cls d H', E cls d H' → W cls d σ₀ H') (hr : Room (k + 1) ((cxY X Ny qy sy gy cdy s H).A.deeper (envOfC qg sg s2.heap.objs.size g cdg)))
    (hbody : ∀ (A : Around) (outer : List Env) (s : Shared) (H : Hp), Room k (A.deeper (lamEnv X scope s.heap.objs.size f c')) → PE (lamCx X A outer s H E scope f c') body tb)
    (hN : Ng[i]? = some a) (hv : Vis sg a) (hd : (a == ("__debug__" : Str)) = false := by decide) (hcd : (a == ("__classdict__" : Str)) = false := by decide) :
    PE ((cxG (cxY X Ny qy sy gy cdy s H) Ng qg sg g cdg s2 H2).tr pn xe) (.Call (.Name a p1) [] [] p2) (fun σZ HZ Q => σZ = σ₀ ∧ σZ[i]? = some (some (.ref f)) ∧ HZ c' = some (CodeO c' (X.env.qual ++ "<lambda>")) ∧ tb σ HZ Q) := by
  constructor
  rintro pinsZ sZ σZ HZ Q IZ ⟨rfl, hs, hc, ht⟩
  have got := (pe_var (pos := p1) (i := i) hN hv hd hcd).run pinsZ sZ σZ HZ (fun v H1 => v = .ref f ∧ H1 = HZ) IZ ⟨.ref f, hs, rfl, rfl⟩
  refine wpAny_Call_Name_kw (thn got ?_)
  rintro u s1 ⟨v, H1, I1, r1, rfl, rfl⟩
  obtain rfl : u = Value.ref f := r1
  have unY : L2.Un (frs X.stack) [] H H2 s.heap s2.heap := IY.base
  have unZ : L2.Un (frs (cxY X Ny qy sy gy cdy s H).stack) [] H2 H1 s2.heap s1.heap := I1.base
  have un : L2.Un (frs X.stack) [] H H1 s.heap s1.heap := un_in unY unZ fun c o e z => by
    obtain ⟨en, men, fr⟩ := List.mem_filterMap.mp z
    rcases List.mem_cons.mp men with rfl | men
    · have ec : s.heap.objs.size = c := Option.some.inj fr
      exact absurd (Heap.lt_size e) (by rw [← ec]; exact Nat.lt_irrefl _)
    · exact List.mem_filterMap.mpr ⟨en, men, fr⟩
  have at1 : s1.heap.get? f = some (PySem.W.kla_obj "<lambda>" (X.env.qual ++ "<lambda>") params body scope (cloFrom X.env.cells scope.names []) pm c' ctv) := un.keep f _ hf hfn hfr (fun z => nomatch z)
  refine PySem.W.callWith_F0 ⟨_, _, _, _, at1⟩ ?_
  have code := I1.hok c' _ hc
  obtain ⟨⟨oc, vs, t, hoc, hdc, hvc⟩, _, _⟩ := code
  have ran : codeAny (model X.prog X.w) ((cxY X Ny qy sy gy cdy s H).A.deeper (envOfC qg sg s2.heap.objs.size g cdg)) (.call (.ref f) ⟨[], []⟩) (CR (L2.CX X.prog X.w) (envOfC qg sg s2.heap.objs.size g cdg :: (cxY X Ny qy sy gy cdy s H).stack) X.prog X.w H1 s1 Q E) s1 := by
    refine PySem.W.kla_callFunE hr.depth at1 rfl L.co L.gen rfl ⟨c', oc, vs, t, rfl, hoc, hdc, hvc⟩ ?_
    rw [hbind]
    refine wpAny_pure ?_
    refine wpAny_newFunctionEnv (fun y hy => (L.own y hy).2) (fun y hy => nomatch hy) ?_ L.kind
    intro h₁ hns hsb
    refine ⟨I1.nolimit.fresh _ hsb, ?_⟩
    show codeAny _ _ (.expr body (lamEnv X scope s1.heap.objs.size f c')) _ _
    have stays : ∀ b o, s1.heap.get? b = some o → h₁.get? b = some o := by
      intro b o e
      exact hsb.extBut b o (Nat.ne_of_lt (Heap.lt_size e)) (Heap.get?_push_of_some _ e)
    have J : Inv (lamCx X ((cxY X Ny qy sy gy cdy s H).A.deeper (envOfC qg sg s2.heap.objs.size g cdg)) (envOfC qg sg s2.heap.objs.size g cdg :: (cxY X Ny qy sy gy cdy s H).stack) s1 H1 E scope f c') [] σ H1 { s1 with heap := h₁, toks := s1.toks + ([] : List (Str × Value)).length } := by
      exact lam_start2 I L I1.env0 hr.hd un hns stays
    have val := (hbody _ _ s1 H1 (hr.deeper _)).run [] _ _ H1 Q J ht
    refine PySem.W.kla_codeExpr (wpAny_mono val ?_ fun e s' hq => hq)
    rintro v s' ⟨w', H', J', rv, q⟩
    exact ⟨w', H', J'.os, J'.bare, J'.base, J'.hok, rv, q⟩
  refine wpAny_call (codeAny_mono ran ?_)
  rintro (e | (_ | _ | _ | u)) s' hq
  · exact tk e s' (XE.of_call I1 (fun cls d H' h => hW cls d H' h) hq)
  all_goals first
    | exact False.elim hq
    | exact I1.after hq
/-- x(y), y a name that holds the lambda, within the def that got it: x is given it -/
theorem pe_pass {Ny Ng : List Str} {qy x a an_ : Str} {sy sg : Scope} {gy g f c' : Addr} {cdy cdv dV kV doc pmg ct oc pm ctv : Value} {an od : Option Addr} {osl : Array (Option Value)} {pg : Arguments} {bg : List Stmt} {params : Arguments} {body : Expr} {scope : Scope} {k i : Nat} {TT : (XK → Hp → VK → Prop) → Hp → VK → Prop} {t : XK → TE} {p1 p2 p3 : Pos}
    (I : Inv X pins σ H s) (L : LamS X.env.scope scope) (hf : s.heap.get? f = some (PySem.W.kla_obj "<lambda>" (X.env.qual ++ "<lambda>") params body scope (cloFrom X.env.cells scope.names []) pm c' ctv)) (hfn : H f = none) (hfr : f ∉ frs X.stack)
    (hbind : ∀ (q : Str) (cl : List (Str × Addr)) (pm cv ctv : Value), bindArgs (PySem.W.kla_fn "<lambda>" q params body scope cl pm cv ctv) ⟨[], []⟩ = pure [])
    (hm : X.mg x = some (.ref g)) (hk : PySem.W.keepIn X.K (.ref g) = true)
    (lk : X.K.lookup g = some ⟨oc, od, .func (PySem.W.fnOf x x pg bg sg dV kV doc pmg an cdv ct), osl⟩) (hcg : PySem.W.codeIn X.K cdv x = true) (hb : L2.Binds X.K (PySem.W.fnOf x x pg bg sg dV kV doc pmg an cdv ct) [a] []) (Sg : FnScope Ng [a] sg) (hNg : Ng[0]? = some a) (hva : Vis sg a)
    (hG : GivesS (cxY X Ny qy sy gy cdy s H) Ng x sg g cdv bg a (X.env.qual ++ "<lambda>") TT)
    (hr : Room (k + 2) (cxY X Ny qy sy gy cdy s H).A) (hg : Gl (cxY X Ny qy sy gy cdy s H) x)
    (hbody : ∀ (A : Around) (outer : List Env) (s : Shared) (H : Hp) (E : XK), Room k (A.deeper (lamEnv X scope s.heap.objs.size f c')) → PE (lamCx X A outer s H E scope f c') body (t E))
    (hNy : Ny[i]? = some an_) (hvy : Vis sy an_)
    (hdb : (x == ("__debug__" : Str)) = false := by decide) (hd : (a == ("__debug__" : Str)) = false := by decide) (hcd : (a == ("__classdict__" : Str)) = false := by decide) (hd2 : (an_ == ("__debug__" : Str)) = false := by decide) (hcd2 : (an_ == ("__classdict__" : Str)) = false := by decide) :
    PE (cxY X Ny qy sy gy cdy s H) (.Call (.Name x p1) [.Name an_ p2] [] p3) (fun σZ HZ Q => σZ[i]? = some (some (.ref f)) ∧ HZ c' = some (CodeO c' (X.env.qual ++ "<lambda>")) ∧ TT (fun E H' Q' => t E σ H' Q') HZ Q) := by
  constructor
  rintro pinsY sY σY HY Q IY ⟨hs, hc, ht⟩
  refine wpAny_Call_Name_kw (ld_glob IY hg hm ?_ hdb)
  refine PySem.W.callWith_K (h₀ := X.base) IY.ok.mod.kin hk ?_ (by rfl) (by rfl)
  show wpAny _ _ (spliced ((false, eval (.Name an_ p2) (cxY X Ny qy sy gy cdy s H).env) :: backTo p3 (starEach [] (cxY X Ny qy sy gy cdy s H).env))) _ _ sY
  have got := (pe_var (pos := p2) (i := i) hNy hvy hd2 hcd2).run pinsY sY σY HY (fun v H1 => v = .ref f ∧ H1 = HY) IY ⟨.ref f, hs, rfl, rfl⟩
  refine Calls.spliced_cons (thn got ?_)
  rintro u s1 ⟨v, H1, I1, r1, rfl, rfl⟩
  obtain rfl : u = Value.ref f := r1
  refine Calls.spliced_nil ⟨I1.kIn, ?_⟩
  have ran : codeAny (model X.prog X.w) (cxY X Ny qy sy gy cdy s H).A (.call (.ref g) ⟨[.ref f], []⟩) (CR C8.CX0 (cxY X Ny qy sy gy cdy s H).stack X.prog X.w H1 s1 Q C8.E0) s1 := by
    refine run_ofS (N := Ng) (ps := [a]) (us := [.ref f]) (vs := [.ref f]) lk hcg Sg hr I1.env0 (hb s1 [.ref f] I1.kIn rfl) (.cons rfl .nil) rfl ?_
    intro hr'
    have act := hG f c' s1 H1 Q (fun E H' Q' => t E σ H' Q') (fun W pn xe E σ₀ p1 p2 tk hW => pe_act2 (i := 0) (σ₀ := σ₀) (tb := t E) (p1 := p1) (p2 := p2) I I1 L hf hfn hfr (hbind _ _ _ _ _) tk hW hr' (fun A outer s H hr2 => hbody A outer s H E hr2) hNg hva hd hcd) hc ht
    obtain ⟨t', ht', hq'⟩ := act
    exact ⟨t', ht'.nox, hq'⟩
  refine wpAny_call (codeAny_mono ran ?_)
  rintro (e | (_ | _ | _ | u)) s2 hq
  all_goals first
    | exact False.elim hq
    | exact I1.after hq
end
end Uq

namespace Uq
open PySem PySem.Spec PyProof.Rows L2 LamX

/-! ### f(lambda: .., more): f hands it on to g -/
section
variable {X : Cx} {pins : List (Addr × Obj)} {σ : L2.St} {H : Hp} {s : Shared}
theorem Inv.pinned {f : Addr} {ob : Obj} (I : Inv X pins σ H s) (e : s.heap.get? f = some ob) (n : H f = none) (nL : f ≠ X.env.locals) (nf : f ∉ X.fs) (nc : ∀ v, ob.data ≠ .cell v) : Inv X ((f, ob) :: pins) σ H s := by
  refine ⟨I.ok, I.os, I.bare, I.base, I.loc, I.cell, I.free, I.freeC, fun p hp => ?_, I.hok, I.len⟩
  rcases List.mem_append.mp hp with h | h
  · exact I.pin p (List.mem_append_left _ h)
  · rcases List.mem_cons.mp h with rfl | h
    · exact ⟨e, n, nL, nf, nc⟩
    · exact I.pin p (List.mem_append_right _ h)
theorem Inv.unpinned {p₀ : Addr × Obj} (I : Inv X (p₀ :: pins) σ H s) : Inv X pins σ H s := by
  refine ⟨I.ok, I.os, I.bare, I.base, I.loc, I.cell, I.free, I.freeC, fun p hp => ?_, I.hok, I.len⟩
  rcases List.mem_append.mp hp with h | h
  · exact I.pin p (List.mem_append_left _ h)
  · exact I.pin p (List.mem_append_right _ (List.mem_cons_of_mem _ h))
/-- the def that hands on what it got -/
def Gives2 (m : Nat) (X : Cx) (Ny : List Str) (qy : Str) (sy : Scope) (gy : Addr) (cdy : Value) (bdy : List Stmt) (x an_ : Str) (q : Str) (TT : (XK → Hp → VK → Prop) → Hp → VK → Prop) (TD : (XK → Hp → VK → Prop) → List V → Hp → VK → Prop) : Prop :=
  ∀ (f c' : Addr) (s : Shared) (H : Hp) (Q : VK) (tl : XK → Hp → VK → Prop) (vs : List V),
    (∀ (p1 p2 p3 : Pos), PE (cxY X Ny qy sy gy cdy s H) (.Call (.Name x p1) [.Name an_ p2] [] p3) (fun σZ HZ Q => σZ[0]? = some (some (.ref f)) ∧ HZ c' = some (CodeO c' q) ∧ TT tl HZ Q)) →
    H c' = some (CodeO c' q) → TD tl vs H Q → Room m (cxY X Ny qy sy gy cdy s H).A →
    ∃ t, PSs (cxY X Ny qy sy gy cdy s H) bdy t ∧ t { nx := fun _ H' => Q .non H', rt := Q } (L2.start Ny (.ref f :: vs)) H
/-- y(lambda: body, more); y hands it on to x -/
def tLam2 (T : List (Addr × Str)) (q : Str) (TD : (XK → Hp → VK → Prop) → List V → Hp → VK → Prop) (ta : TA) (n : Nat) (t : XK → TE) : TE := fun σ H Q => Tabs T H ∧ ∀ (c' : Addr) (H1 : Hp), ExtN H H1 → Tabs T H1 → H1 c' = some (CodeO c' q) →
  ta σ H1 fun vs H2 => vs.length = n ∧ H2 c' = some (CodeO c' q) ∧ TD (fun E H' Q' => t E σ H' Q') vs H2 Q
theorem pe_lam2 {T : List (Addr × Str)} {TT : (XK → Hp → VK → Prop) → Hp → VK → Prop} {TD : (XK → Hp → VK → Prop) → List V → Hp → VK → Prop} {ta : TA} {x y a an_ : Str} {g gy c P : Addr} {k : Nat} {pg pgy : Arguments} {bg bgy : List Stmt} {sg sy : Scope} {dV kV doc pmg cdv ct oc dVy kVy docy pmy cdy cty ocy : Value} {an od any ody : Option Addr} {osl osly : Array (Option Value)} {Ng Ny psy : List Str}
    {params : Arguments} {body : Expr} {scope : Scope} {t : XK → TE} {es : List Expr} {p lpos pos : Pos}
    (hgy : Gl X y) (hmy : X.mg y = some (.ref gy)) (hky : PySem.W.keepIn X.K (.ref gy) = true)
    (lky : X.K.lookup gy = some ⟨ocy, ody, .func (PySem.W.fnOf y y pgy bgy sy dVy kVy docy pmy any cdy cty), osly⟩) (hcy : PySem.W.codeIn X.K cdy y = true) (hby : L2.Binds X.K (PySem.W.fnOf y y pgy bgy sy dVy kVy docy pmy any cdy cty) (an_ :: psy) []) (Sy : FnScope Ny (an_ :: psy) sy)
    (hNy : Ny[0]? = some an_) (hvy : Vis sy an_)
    (hm : X.mg x = some (.ref g)) (hk : PySem.W.keepIn X.K (.ref g) = true)
    (lk : X.K.lookup g = some ⟨oc, od, .func (PySem.W.fnOf x x pg bg sg dV kV doc pmg an cdv ct), osl⟩) (hcg : PySem.W.codeIn X.K cdv x = true) (hb : L2.Binds X.K (PySem.W.fnOf x x pg bg sg dV kV doc pmg an cdv ct) [a] []) (Sg : FnScope Ng [a] sg) (hNg : Ng[0]? = some a) (hva : Vis sg a)
    (hG : ∀ (s : Shared) (H : Hp), GivesS (cxY X Ny y sy gy cdy s H) Ng x sg g cdv bg a (X.env.qual ++ "<lambda>") TT)
    (hgx : ∀ (s : Shared) (H : Hp), Gl (cxY X Ny y sy gy cdy s H) x)
    (hD : Gives2 (k + 2) X Ny y sy gy cdy bgy x an_ (X.env.qual ++ "<lambda>") TT TD)
    (TB : TabB X.base X.mg c P) (hcode : X.env.code = .ref c) (hmT : (P, X.env.qual ++ "<lambda>") ∈ T) (hu : ∀ p ∈ T, p.1 = P → p.2 = X.env.qual ++ "<lambda>") (hr : Room (k + 3) X.A) (L : LamS X.env.scope scope) (hdef : defaultsOf params X.env = ([], []))
    (hbind : ∀ (q : Str) (cl : List (Str × Addr)) (pm cv ctv : Value), bindArgs (PySem.W.kla_fn "<lambda>" q params body scope cl pm cv ctv) ⟨[], []⟩ = pure [])
    (hbody : ∀ (A : Around) (outer : List Env) (s : Shared) (H : Hp) (E : XK) (f c' : Addr), Room k (A.deeper (lamEnv X scope s.heap.objs.size f c')) → PE (lamCx X A outer s H E scope f c') body (t E))
    (ha : PA X es ta) (hst : X.stack = X.env :: X.outer) (hfr0 : X.env.frame = some X.env.locals)
    (hs1 : starEach (.Lambda params body scope lpos :: es) X.env = (false, eval (.Lambda params body scope lpos) X.env) :: starEach es X.env := by rfl) (hs2 : ((backTo pos (starEach es X.env)).any fun x => x.fst) = false := by rfl)
    (hdb : (x == ("__debug__" : Str)) = false := by decide) (hdy : (y == ("__debug__" : Str)) = false := by decide) (hd : (a == ("__debug__" : Str)) = false := by decide) (hcd : (a == ("__classdict__" : Str)) = false := by decide) (hd2 : (an_ == ("__debug__" : Str)) = false := by decide) (hcd2 : (an_ == ("__classdict__" : Str)) = false := by decide) :
    PE X (.Call (.Name y p) (.Lambda params body scope lpos :: es) [] pos) (tLam2 T (X.env.qual ++ "<lambda>") TD ta psy.length t) := by
  constructor
  rintro pins s σ H Q I ⟨hT, h⟩
  refine wpAny_Call_Name_kw (ld_glob I hgy hmy ?_ hdy)
  refine PySem.W.callWith_K (h₀ := X.base) I.ok.mod.kin hky ?_ hs1 hs2
  rw [hs1]
  show wpAny _ _ (spliced ((false, eval (.Lambda params body scope lpos) X.env) :: backTo pos (starEach es X.env))) _ _ s
  refine Calls.spliced_cons (lam_make2 I TB hcode hmT hu hT hdef (L.has I.ok) ?_)
  intro f c' pm' ctv H1 s' I1 eN T1 hf hfn hfr hco
  have fX : f ∉ X.fs := fun z => hfr (by rw [hst]; obtain ⟨e, m, e2⟩ := List.mem_filterMap.mp z; exact List.mem_filterMap.mpr ⟨e, List.mem_cons_of_mem _ m, e2⟩)
  have fL : f ≠ X.env.locals := fun z => hfr (by rw [hst]; exact List.mem_filterMap.mpr ⟨X.env, List.mem_cons_self, by rw [hfr0, z]⟩)
  have J1 := Inv.pinned I1 hf hfn fL fX (fun v z => nomatch z)
  refine wpAny_mono (ha.run pos _ s' σ H1 _ J1 (h c' H1 eN T1 hco)) ?_ (fun _ _ z => z)
  rintro us s2 ⟨vs, H2, I2, rv, ln, hc2, hTD⟩
  refine ⟨I2.kIn, ?_⟩
  obtain ⟨hf2, hfn2, _⟩ := I2.pin (f, _) (List.mem_append_right _ List.mem_cons_self)
  have ran : codeAny (model X.prog X.w) X.A (.call (.ref gy) ⟨.ref f :: us, []⟩) (CR C8.CX0 X.stack X.prog X.w H2 s2 Q C8.E0) s2 := by
    have lu : (Value.ref f :: us).length = (an_ :: psy).length := by
      rw [List.length_cons, List.length_cons, ← rv.length, ln]
    have bd := hby s2 (.ref f :: us) I2.kIn (by rw [List.append_nil]; exact lu)
    rw [List.append_nil] at bd
    refine run_ofS (N := Ny) (ps := an_ :: psy) (us := .ref f :: us) (vs := .ref f :: vs) lky hcy Sy hr I2.env0 bd (.cons rfl rv) (by rw [List.length_cons, List.length_cons, ln]) ?_
    intro hr'
    obtain ⟨t', ht', hq'⟩ := hD f c' s2 H2 Q (fun E H' Q' => t E σ H' Q') vs (fun p1 p2 p3 => pe_pass (i := 0) (TT := TT) (t := t) I2 L hf2 hfn2 hfr hbind hm hk lk hcg hb Sg hNg hva (hG s2 H2) hr' (hgx s2 H2) (fun A outer s H E hr2 => hbody A outer s H E f c' hr2) hNy hvy hdb hd hcd hd2 hcd2) hc2 hTD hr'
    exact ⟨t', ht'.nox, hq'⟩
  refine wpAny_call (codeAny_mono ran ?_)
  rintro (e | (_ | _ | _ | u)) s3 hq
  · exact False.elim hq
  · exact False.elim hq
  · exact False.elim hq
  · exact False.elim hq
  · obtain ⟨v, H3, I3, r3, q3⟩ := I2.after hq
    exact ⟨v, H3, Inv.unpinned I3, r3, q3⟩
end
end Uq

namespace Uq
open PySem PySem.Spec PyProof.Rows L2

open TL
/-! ### all lines, the page -/
structure CalX (P : Program) (w : World) (K : PySem.W.Frag) (mg : Str → Option Value) (base : Heap) (k : Nat) (x : Str) (ps : List Str) (sp : Sp) where
  a : Addr
  d : FuncData
  G : FnOk P w K mg base (L2.CX P w) k a d ps sp
  kp : PySem.W.keepIn K (.ref a) = true
  b : Binds K d ps []
  g : mg x = some (.ref a)
/-- an error that is raised: its class, the value that it keeps -/
def Raised (C : Addr) (v : V) (H : Hp) (E : XK) : Prop := ∀ (H' : Hp) (dd : Addr), Same H H' → H' dd = some (.xd [("value", v)]) → E (.ref C) (some dd) H'
theorem Raised.mono {C : Addr} {v : V} {H H' : Hp} {E : XK} (s : Same H H') (q : Raised C v H E) : Raised C v H' E := fun G dd s2 e => q G dd (s.trans s2) e
theorem raise_end {CB : Addr} {v : V} {H : Hp} {E : XK} {ae dd : Addr} {o : HO} (q : Raised CB v H E) (nae : H ae = none) (ndd : (upd H ae o) dd = none) (nda : dd ≠ ae) {o2 o3 : HO} : E (.ref CB) (some dd) (upd (del (upd (upd (upd H ae o) dd o2) ae o3) ae) dd (.xd [("value", v)])) := by
  refine q _ _ (fun z o ez => ?_) upd_same
  have n1 : z ≠ ae := ne_of_none ez nae
  have n2 : z ≠ dd := fun y => by
    rw [upd_ne nda] at ndd
    rw [y, ndd] at ez
    cases ez
  rw [upd_ne n2, del_ne n1, upd_ne n1, upd_ne n2, upd_ne n1]
  exact ez
/-- a value that is no string -/
def NoStr (K : PySem.W.Frag) (H : Hp) (v : V) : Prop := ∃ t, TyX K H v t ∧ PySem.W.kitOne K t (.type "str") = some false
def WordsA (K : PySem.W.Frag) (H : Hp) (y : V) (ws : List Str) : Prop := ∃ a : Addr, y = .ref a ∧ SqL K H a (ws.map V.str)
theorem WordsA.same {K : PySem.W.Frag} {H H' : Hp} {y : V} {ws : List Str} (s : Same H H') (h : WordsA K H y ws) : WordsA K H' y ws := by
  obtain ⟨a, e, q⟩ := h
  exact ⟨a, e, sqL_same s q⟩
theorem paired_nth {α β : Type} {R : α → β → Prop} : ∀ {xs : List α} {ys : List β} {i : Nat} {x : α} {y : β}, Paired R xs ys → xs[i]? = some x → ys[i]? = some y → R x y := by
  intro xs ys i x y h
  induction h generalizing i with
  | nil => intro a; simp at a
  | cons a r ih =>
    cases i with
    | zero =>
      intro e1 e2
      cases Option.some.inj e1
      cases Option.some.inj e2
      exact a
    | succ i => exact fun e1 e2 => ih e1 e2
theorem pageR_0 {r0 : List Str} {rest : List (List Str)} (h : unitsR r0 = none) : pageR (r0 :: rest) = .inl 1 := by
  unfold pageR
  simp only [h]
theorem pageR_1 {r0 : List Str} {b : Nat} {hh : Str} (h : unitsR r0 = some (b, hh)) : pageR [r0] = .inl 2 := by
  unfold pageR
  simp only [h]
theorem pageR_2 {r0 ra : List Str} {more : List (List Str)} {b : Nat} {hh : Str} (h : unitsR r0 = some (b, hh)) (ha : askR ra = none) : pageR (r0 :: ra :: more) = .inl 2 := by
  unfold pageR
  simp only [h, ha]
theorem pageR_3 {r0 ra : List Str} {b : Nat} {hh x : Str} (h : unitsR r0 = some (b, hh)) (ha : askR ra = some x) : pageR [r0, ra] = .inl 3 := by
  unfold pageR
  simp only [h, ha]
theorem pageR_4 {r0 ra rb : List Str} {more : List (List Str)} {b n : Nat} {hh x : Str} (h : unitsR r0 = some (b, hh)) (ha : askR ra = some x) (hr : rowsR b [topK x] 3 (rb :: more) = .inl n) : pageR (r0 :: ra :: rb :: more) = .inl n := by
  unfold pageR
  simp only [h, ha, hr]
theorem pageR_5 {r0 ra rb : List Str} {more : List (List Str)} {b : Nat} {ks : List Kn} {hh x : Str} (h : unitsR r0 = some (b, hh)) (ha : askR ra = some x) (hr : rowsR b [topK x] 3 (rb :: more) = .inr ks) : pageR (r0 :: ra :: rb :: more) = .inr (b, hh, ks) := by
  unfold pageR
  simp only [h, ha, hr]
theorem askR_some {ra : List Str} {x : Str} (ea : askR ra = some x) : ra = [("asked" : Str), x] ∧ nameR x = true := by
  unfold askR at ea
  split at ea
  · rename_i s0 x0
    by_cases g : s0 = "asked" ∧ nameR x0 = true
    · rw [if_pos g] at ea
      cases ea
      exact ⟨by rw [g.1], g.2⟩
    · rw [if_neg g] at ea
      cases ea
  · cases ea
def sp_read_parts (K : PySem.W.Frag) (BP : Addr) : Sp := fun vs H Q E => ∃ (u R : Addr) (b : Nat) (h x : Str) (Ls : List V) (rows : List (List Str)), vs = [.ref u, .str x, .ref R] ∧ Un K H u b h ∧ SqL K H R Ls ∧ Paired (WordsA K H) Ls rows ∧ (∀ ws ∈ rows, RwA 10000 ws) ∧ nameR x = true ∧
  (∀ n, rowsR b [topK x] 3 rows = .inl n → Raised BP (.int n) H E) ∧ (∀ ks, rowsR b [topK x] 3 rows = .inr ks → ∀ H' d, Same H H' → H d = none → Lns K H' d (lnsK ks) → KsOk ks → Q (.ref d) H')
def sp_read_page (K : PySem.W.Frag) (BP : Addr) : Sp := fun vs H Q E => (∃ v, vs = [v] ∧ NoStr K H v ∧ Raised BP (.int 0) H E) ∨ (∃ t : Str, vs = [.str t] ∧ Asc t ∧ t.length ≤ 10000 ∧
  (∀ n, pageR (rowsT t) = .inl n → Raised BP (.int n) H E) ∧ (∀ b h ks, pageR (rowsT t) = .inr (b, h, ks) → ∀ H' p u d, Same H H' → H p = none → H u = none → H d = none → H' p = some (.tup [.ref u, .ref d]) → H' u = some (.tup [.int b, .str h]) → Lns K H' d (lnsK ks) → KsOk ks → Un K H' u b h → Q (.ref p) H'))
section
variable {P : Program} {w : World} {K : PySem.W.Frag} {mg : Str → Option Value} {base : Heap} {BP : Addr}
theorem ok_read_parts {fi : Addr} {dfi : FuncData} (Fi : FnOk P w K mg base CX0 1 fi dfi ["self", "value"] (sp_init K)) (bi : Binds K dfi ["self", "value"] []) (tyI : PySem.W.typeIn K (.ref fi) = some (.type "function")) (XBP : Xcl K BP) (iBP : PySem.W.findIn K (.ref BP) "__init__" = some (some (.ref fi))) (gBP : mg "BadPage" = some (.ref BP)) {f : Addr} {fd : FuncData} (F : Fun K "read_parts" "read_parts" s_read_parts f fd) (m_enumerate : mg "enumerate" = none) (c_read_part : Cal P w K mg base 3 "read_part" ["units", "lines", "words"] (sp_read_part K)) (c_is_too_much : Cal P w K mg base 2 "is_too_much" ["lines", "part"] (sp_is_too_much K)) : FnOk P w K mg base (L2.CX P w) 4 f fd ["units", "first", "rows"] (sp_read_parts K BP) := by
  refine F.okX sc_read_parts (fun vs H Q E h => ?_) (fun cdv A outer s H vs Q E hr h => ?_)
  · obtain ⟨u, R, b, h, x, Ls, rows, rfl, _⟩ := h
    rfl
  · refine ⟨_, (pss_cons (ps_set (i := 3) sc_read_parts.nd rfl (.inl rfl) (pe_disp (pps_cons (pv 1) (pe_tup (pa_cons pe_non (pa_cons pe_non (pa_cons pe_non pa_nil)))) pps_nil) rfl rfl (fun z => nomatch z) (by decide)))
      (pss_cons (ps_for PassesOwn.leaving rfl (pi_enum3 (by rfl) m_enumerate (pa_cons (pv 2) pa_nil)) (pg_tup rfl (pgs_cons (pg_name (i := 4) sc_read_parts.nd rfl (.inl rfl)) (pgs_cons (pg_name (i := 5) sc_read_parts.nd rfl (.inl rfl)) pgs_nil)))
        (pss_cons (ps_set (i := 6) sc_read_parts.nd rfl (.inl rfl) (pe_call c_read_part.G (hr.mono (by decide)) (by rfl) c_read_part.g c_read_part.kp c_read_part.b .nil pass0 (pa_cons (pv 0) (pa_cons (pv 3) (pa_cons (pv 5) pa_nil)))))
        (pss_cons (ps_if (pt_cmpR op_isN (pv 6) pe_non (nomark _)) (pss_one (ps_raise rfl (takes_of rfl rfl rfl rfl) (pmk_oex XBP.T iBP tyI Fi (hr.mono (by decide)) bi .nil pass0 (by rfl) gBP (pa_cons (pv 4) pa_nil)))) pss_nil)
        (pss_cons (ps_set (i := 7) sc_read_parts.nd rfl (.inl rfl) (pe_ix ix_list (pv 5) pe_int (fun _ _ => rfl)))
        (pss_cons (ps_dput (hu_of hr) (pv 3) (pv 7) (pv 6) rfl)
        (pss_one (ps_if (pt_val (pe_call c_is_too_much.G (hr.mono (by decide)) (by rfl) c_is_too_much.g c_is_too_much.kp c_is_too_much.b .nil pass0 (pa_cons (pv 3) (pa_cons (pv 7) pa_nil)))) (pss_one (ps_raise rfl (takes_of rfl rfl rfl rfl) (pmk_oex XBP.T iBP tyI Fi (hr.mono (by decide)) bi .nil pass0 (by rfl) gBP (pa_cons (pv 4) pa_nil)))) pss_nil)))))))
      (pss_one (ps_ret (pv 3))))), ?_⟩
    obtain ⟨u, R, b, h, x, Ls, rows, rfl, hu, hR, hL, hA, hx, qe, q⟩ := h
    have hlen : Ls.length = rows.length := hL.length
    refine seq_set fun d nd => ⟨.str x, rfl, by show 3 ≤ sizeLine; decide, fun t0 nt => ?_⟩
    have ntd : t0 ≠ d := fun z => by
      rw [z, upd_same] at nt
      cases nt
    refine ⟨by rw [upd_ne (Ne.symm ntd)]; exact upd_same, [(.inr x, .ref t0)], rfl, by show 1 ≤ 15; decide, ?_⟩
    have n0 : H t0 = none := by
      rw [upd_ne ntd] at nt
      exact nt
    have hk0 : mergeK [] [((.inr x : Key), V.ref t0)] = [(.inr x, .ref t0)] := rfl
    rw [hk0]
    have sG : Same H (upd (upd (upd H d (.dK [])) t0 (.tup [.non, .non, .non])) d (.dK [(.inr x, .ref t0)])) := fun c o e => by
      rw [upd_ne (ne_of_none e nd), upd_ne (ne_of_none e n0), upd_ne (ne_of_none e nd)]
      exact e
    have hGd : (upd (upd (upd H d (.dK [])) t0 (.tup [.non, .non, .non])) d (.dK [(.inr x, .ref t0)])) d = some (.dK [(.inr x, .ref t0)]) := upd_same
    have hGt : (upd (upd (upd H d (.dK [])) t0 (.tup [.non, .non, .non])) d (.dK [(.inr x, .ref t0)])) t0 = some (.tup [.non, .non, .non]) := by
      rw [upd_ne ntd, upd_same]
    generalize L2.upd (L2.upd (L2.upd H d (.dK [])) t0 (.tup [.non, .non, .non])) d (.dK [(.inr x, .ref t0)]) = G at sG hGd hGt ⊢
    refine ⟨.ref R, rfl, R, Ls, rfl, sqL_same sG hR, for_it (walk3 (xs := Ls)) (fun i σ H' => Same H H' ∧ (∃ kvs ks, H' d = some (.dK kvs) ∧ Paired (Lat K H') (lnsK ks) kvs ∧ KsOk ks ∧ rowsR b [topK x] 3 rows = rowsR b ks (3 + i) (rows.drop i)) ∧ ∃ s4 s5 s6 s7, σ = [some (.ref u), some (.str x), some (.ref R), some (.ref d), s4, s5, s6, s7]) ⟨sG, ⟨_, [topK x], hGd, .cons ⟨rfl, t0, rfl, SqT.of hGt⟩ .nil, KsOk.top hx, rfl⟩, none, none, none, none, rfl⟩ (fun i σ H' _ h => sqL_same h.1 hR) ?_ ?_⟩
    · rintro i xv σ H1 H2 hi ⟨s1, ⟨kvs, ks, hd, hp, O, er⟩, t4, t5, t6, t7, rfl⟩ ⟨T, y, z, rfl, nT, rfl, ey, ez⟩
      cases ey
      have hi2 : i < rows.length := by omega
      have ei : rows[i]? = some rows[i] := List.getElem?_eq_getElem hi2
      have hz : WordsA K H z rows[i] := paired_nth hL ez ei
      obtain ⟨a, rfl, hw⟩ := hz
      have hai := hA rows[i] (List.getElem_mem hi2)
      rw [List.drop_eq_getElem_cons hi2] at er
      generalize rows[i] = ws at er hw hai ei
      have er' : rowsR b [topK x] 3 rows = (match lineR b ks ws with | none => .inl (3 + i) | some k => if muchR (ks ++ [k]) k = true then .inl (3 + i) else rowsR b (ks ++ [k]) (3 + i + 1) (rows.drop (i + 1))) := er
      have s2 := s1.trans (sameU (o := .tup [.int ((i : Nat) + 3 : Int), .ref a]) nT)
      have nTd : d ≠ T := ne_of_none hd nT
      have hd2 : (upd H1 T (.tup [.int ((i : Nat) + 3 : Int), .ref a])) d = some (.dK kvs) := by
        rw [upd_ne nTd]
        exact hd
      have hp2 := paired_mono (fun _ _ y => Lat.same (sameU (o := .tup [.int ((i : Nat) + 3 : Int), .ref a]) nT) y) hp
      refine ⟨T, _, rfl, SqT.of upd_same, rfl, _, _, rfl, _, _, rfl, rfl, ?_⟩
      generalize L2.upd H1 T _ = H2 at s2 hd2 hp2 ⊢
      have ni : ((i : Nat) + 3 : Int) = ((3 + i : Nat) : Int) := by omega
      refine seq_set ?_
      refine ⟨.ref u, rfl, .ref d, rfl, .ref a, rfl, u, d, a, b, h, kvs, ks, ws, rfl, hu.same s2, hd2, hp2, sqL_same s2 hw, hai, fun en H3 s3 => ?_, fun k ek H3 t s3 nt3 ht3 => ?_⟩
      · rw [en] at er'
        have qr : Raised BP (.int ((i : Nat) + 3 : Int)) H3 E := by
          rw [ni]
          exact (qe _ er').mono (s2.trans s3)
        refine ⟨.non, rfl, rfl, _, rfl, ?_⟩
        rw [show decide (V.non = V.non) = true from decide_eq_true rfl]
        refine iteT ?_
        exact ⟨_, rfl, ⟨by show 1 ≤ 1000; decide, fun ae nae => ⟨ae, BP, .int ((i : Nat) + 3 : Int), rfl, XBP, upd_same, fun dd ndd nda => ⟨rfl, dd, [("value", .int ((i : Nat) + 3 : Int))], upd_same, by rw [upd_ne nda, upd_same], by rwa [upd_ne nda] at ndd, raise_end qr nae ndd nda⟩⟩⟩⟩
      rw [ek] at er'
      replace er' : rowsR b [topK x] 3 rows = (if muchR (ks ++ [k]) k = true then .inl (3 + i) else rowsR b (ks ++ [k]) (3 + i + 1) (rows.drop (i + 1))) := er'
      refine ⟨.ref t, rfl, rfl, _, rfl, ?_⟩
      rw [show decide (V.ref t = V.non) = false from decide_eq_false fun z => nomatch z]
      refine iteF ?_
      refine next_in (seq_set ?_)
      have s23 := s2.trans s3
      obtain ⟨a1, o1, ab1, tl1, sf1, ews, _, _, hnm, hnew, _, _, ekk⟩ := lineR_ab ek
      obtain ⟨h1, ⟨w1, h2, h3⟩, h4, h5, h6⟩ := O.next ek
      have eab : k.ln.ab = .str ab1 := by rw [ekk]
      refine ⟨.ref a, rfl, a, _, 1, .str k.ln.nm, rfl, rfl, sqL_same s23 hw, by rw [ews]; exact atI_nat (j := 1) rfl, ?_⟩
      have hd3 := s3 _ _ hd2
      have hp3 := paired_mono (fun _ _ y => Lat.same s3 y) hp2
      have l3 : (lnsK ks).length = ks.length := by unfold lnsK; rw [List.length_map]
      have few := O.few
      have hz3 : kvs.length < sizeLine := by
        rw [← hp3.length]
        exact small1000 (by omega)
      refine ⟨.ref t, rfl, .ref d, rfl, .str k.ln.nm, rfl, d, _, rfl, .inl ⟨kvs, .inr k.ln.nm, hd3, rfl, hz3, rfl⟩, ?_⟩
      rw [put_new (lns_none hp3 hnew)]
      have ntd3 : t ≠ d := fun z => by
        rw [z, hd2] at nt3
        cases nt3
      have s4 : Same H (upd H3 d (.dK (kvs ++ [(.inr k.ln.nm, .ref t)]))) := fun c o e => by
        rw [upd_ne (ne_of_none e nd)]
        exact s23 _ _ e
      have hd4 : (upd H3 d (.dK (kvs ++ [(.inr k.ln.nm, .ref t)]))) d = some (.dK (kvs ++ [(.inr k.ln.nm, .ref t)])) := upd_same
      have hp4 : Paired (Lat K (upd H3 d (.dK (kvs ++ [(.inr k.ln.nm, .ref t)])))) (lnsK (ks ++ [k])) (kvs ++ [(.inr k.ln.nm, .ref t)]) := by
        rw [lnsK_app]
        exact paired_snoc ⟨rfl, t, rfl, sqT_upd (SqT.of ht3) hd3⟩ (paired_mono (fun _ _ y => Lat.lock y hd3) hp3)
      generalize L2.upd H3 d (.dK (kvs ++ [(.inr k.ln.nm, .ref t)])) = H4 at s4 hd4 hp4 ⊢
      refine ⟨.ref d, rfl, .str k.ln.nm, rfl, d, ks ++ [k], k, w1, rfl, ⟨_, hd4, hp4⟩, h4, h1, h2, h3, by rw [List.length_append]; simp; omega, by omega, fun H5 s5 => ?_⟩
      refine ⟨_, rfl, ?_⟩
      cases em : muchR (ks ++ [k]) k with
      | true =>
        rw [em] at er'
        have qr : Raised BP (.int ((i : Nat) + 3 : Int)) H5 E := by
          rw [ni]
          exact (qe _ er').mono (s4.trans s5)
        refine iteT ?_
        exact ⟨_, rfl, ⟨by show 1 ≤ 1000; decide, fun ae nae => ⟨ae, BP, .int ((i : Nat) + 3 : Int), rfl, XBP, upd_same, fun dd ndd nda => ⟨rfl, dd, [("value", .int ((i : Nat) + 3 : Int))], upd_same, by rw [upd_ne nda, upd_same], by rwa [upd_ne nda] at ndd, raise_end qr nae ndd nda⟩⟩⟩⟩
      | false =>
        rw [em] at er'
        refine iteF ?_
        exact ⟨s4.trans s5, ⟨_, ks ++ [k], s5 _ _ hd4, paired_mono (fun _ _ y => Lat.same s5 y) hp4, O.app ek em, er'⟩, _, _, _, _, rfl⟩
    · rintro σ H1 ⟨s1, ⟨kvs, ks, hd, hp, O, er⟩, t4, t5, t6, t7, rfl⟩
      rw [hlen, List.drop_length] at er
      exact ⟨.ref d, rfl, q ks er H1 d s1 nd ⟨kvs, hd, hp⟩ O⟩
theorem ok_read_page {fi : Addr} {dfi : FuncData} (Fi : FnOk P w K mg base CX0 1 fi dfi ["self", "value"] (sp_init K)) (bi : Binds K dfi ["self", "value"] []) (tyI : PySem.W.typeIn K (.ref fi) = some (.type "function")) (XBP : Xcl K BP) (iBP : PySem.W.findIn K (.ref BP) "__init__" = some (some (.ref fi))) (gBP : mg "BadPage" = some (.ref BP)) {f : Addr} {fd : FuncData} (F : Fun K "read_page" "read_page" s_read_page f fd) (m_isinstance : mg "isinstance" = none) (m_str : mg "str" = none) (m_len : mg "len" = none) (c_read_units : Cal P w K mg base 3 "read_units" ["words"] (sp_read_units K)) (c_is_asked : Cal P w K mg base 2 "is_asked" ["words"] (sp_is_asked K)) (c_read_parts : CalX P w K mg base 4 "read_parts" ["units", "first", "rows"] (sp_read_parts K BP)) : FnOk P w K mg base (L2.CX P w) 5 f fd ["text"] (sp_read_page K BP) := by
  refine F.okX sc_read_page (fun vs H Q E h => ?_) (fun cdv A outer s H vs Q E hr h => ?_)
  · have z : vs.length = 1 := by rcases h with ⟨v, rfl, _⟩ | ⟨t, rfl, _⟩ <;> rfl
    rw [z]
    rfl
  · refine ⟨_, (pss_cons (ps_if (pt_not (pt_val (pe_callB call_isi (by rfl) m_isinstance (by decide +kernel) (pa_cons (pv 0) (pa_cons (pe_bltn (v := .ty "str") (by rfl) m_str (by decide +kernel) rfl) pa_nil))))) (pss_one (ps_raise rfl (takes_of rfl rfl rfl rfl) (pmk_oex XBP.T iBP tyI Fi (hr.mono (by decide)) bi .nil pass0 (by rfl) gBP (pa_cons pe_int pa_nil)))) pss_nil)
      (pss_cons (ps_setLc (i := 1) (own := [("row", 3)]) (g := gName 3) rfl sc_read_page.nd rfl rfl (sw_true rfl rfl rfl (by decide +kernel)) (pi_list (pe_split (pv 0) pe_str)) (blkOk_by (own := [("row", 3)]) (N := N_read_page) (sc := defScope s_read_page) (by decide +kernel)) (fun _ _ _ _ _ => (pg_name (i := 3) sc_read_page.nd rfl (.inl rfl))) (fun _ _ _ _ _ => pts_nil) (fun _ _ _ _ _ => (pe_split (pv 3) pe_str)))
      (pss_cons (ps_set (i := 2) sc_read_page.nd rfl (.inl rfl) (pe_call c_read_units.G (hr.mono (by decide)) (by rfl) c_read_units.g c_read_units.kp c_read_units.b .nil pass0 (pa_cons (pe_ix ix_list (pv 1) pe_int (fun _ _ => rfl)) pa_nil)))
      (pss_cons (ps_if (pt_cmpR op_isN (pv 2) pe_non (nomark _)) (pss_one (ps_raise rfl (takes_of rfl rfl rfl rfl) (pmk_oex XBP.T iBP tyI Fi (hr.mono (by decide)) bi .nil pass0 (by rfl) gBP (pa_cons pe_int pa_nil)))) pss_nil)
      (pss_cons (ps_if (PW.pt (pw_or (pt_cmpR op_lt (pe_callB call_len_seq (by rfl) m_len (by decide +kernel) (pa_cons (pv 1) pa_nil)) pe_int (nomark _)) (pw_or1 (pt_not (pt_val (pe_call c_is_asked.G (hr.mono (by decide)) (by rfl) c_is_asked.g c_is_asked.kp c_is_asked.b .nil pass0 (pa_cons (pe_ix ix_list (pv 1) pe_int (fun _ _ => rfl)) pa_nil))))))) (pss_one (ps_raise rfl (takes_of rfl rfl rfl rfl) (pmk_oex XBP.T iBP tyI Fi (hr.mono (by decide)) bi .nil pass0 (by rfl) gBP (pa_cons pe_int pa_nil)))) pss_nil)
      (pss_cons (ps_if (pt_cmpR op_lt (pe_callB call_len_seq (by rfl) m_len (by decide +kernel) (pa_cons (pv 1) pa_nil)) pe_int (nomark _)) (pss_one (ps_raise rfl (takes_of rfl rfl rfl rfl) (pmk_oex XBP.T iBP tyI Fi (hr.mono (by decide)) bi .nil pass0 (by rfl) gBP (pa_cons pe_int pa_nil)))) pss_nil)
      (pss_one (ps_ret (pe_tup (pa_cons (pv 2) (pa_cons (pe_call c_read_parts.G (hr.mono (by decide)) (by rfl) c_read_parts.g c_read_parts.kp c_read_parts.b .nil (passes_call (takes_of rfl rfl rfl rfl) fun _ _ _ _ h => h) (pa_cons (pv 2) (pa_cons (pe_ix ix_list (pe_ix ix_list (pv 1) pe_int (fun _ _ => rfl)) pe_int (fun _ _ => rfl)) (pa_cons (pe_slice sl_list (pv 1) (po_some pe_int) po_none) pa_nil)))) pa_nil))))))))))), ?_⟩
    rcases h with ⟨v, rfl, ⟨tv, hv, kv⟩, qe⟩ | ⟨t, rfl, ha, hz, qe, q⟩
    · refine ⟨v, rfl, v, .ty "str", _, _, false, rfl, .ty "str", hv, kv, false, rfl, iteT ?_⟩
      exact ⟨by show 1 ≤ 1000; decide, fun ae nae => ⟨ae, BP, .int 0, rfl, XBP, upd_same, fun dd ndd nda => ⟨rfl, dd, [("value", .int 0)], upd_same, by rw [upd_ne nda, upd_same], by rwa [upd_ne nda] at ndd, raise_end qe nae ndd nda⟩⟩⟩
    have zt : t.length + 2 ≤ sizeLine := Nat.le_trans (Nat.add_le_add_right hz 2) (by decide)
    obtain ⟨r1, r2, r3⟩ := rowsT_any ha
    have r1 : ∀ ws ∈ rowsT t, RwA 10000 ws := fun ws m => ⟨(r1 ws m).ne, Nat.le_trans (r1 ws m).few (Nat.succ_le_succ hz), fun y my => ⟨Nat.le_trans ((r1 ws m).wd y my).1 hz, ((r1 ws m).wd y my).2⟩⟩
    obtain ⟨l1, l2, l3⟩ := lines_any t
    have erow : rowsT t = (Txt.split t nlS).map fun r => Txt.split r spS := rfl
    refine ⟨.str t, rfl, .str _, .ty "str", _, _, true, rfl, .ty "str", .base (.str _), kit_ty (by decide +kernel), true, rfl, iteF ?_⟩
    refine next_in (seq_set ?_)
    refine ⟨.str t, rfl, ⟨_, rfl⟩, _, nlS, rfl, rfl, by decide +kernel, zt, fun L nL => ?_⟩
    generalize hlin : Txt.split t nlS = lines at l1 l2 l3 erow ⊢
    have sL : Same H (upd H L (.lst (lines.map V.str))) := sameU nL
    have hL : (upd H L (.lst (lines.map V.str))) L = some (.lst (lines.map V.str)) := upd_same
    generalize L2.upd H L (.lst (lines.map V.str)) = H1 at sL hL ⊢
    refine ⟨L, rfl, ⟨_, SqL.of hL⟩, fun D nD => ?_⟩
    refine lc_it (walk_list (xs := lines.map V.str)) (fun i H' => Same H1 H' ∧ ∃ ys, H' D = some (.lst ys) ∧ Paired (fun y ws => ∃ a : Addr, y = .ref a ∧ a ≠ D ∧ H' a = some (.lst (ws.map V.str))) ys ((rowsT t).take i)) ⟨sameU nD, [], upd_same, .nil⟩ (fun i H' _ h => SqL.of (h.1 _ _ hL)) ?_ ?_
    · rintro i y H2 H3 hi ⟨s2, ys, hD, hp⟩ ⟨rfl, hy⟩
      rw [List.getElem?_map] at hy
      obtain ⟨ln, e1, rfl⟩ := Option.map_eq_some_iff.mp hy
      have ml := l1 ln (List.mem_of_getElem? e1)
      have e2 : (rowsT t)[i]? = some (Txt.split ln spS) := by rw [erow, List.getElem?_map, e1]; rfl
      have zl : ln.length + 2 ≤ sizeLine := by omega
      refine ⟨rfl, .str ln, rfl, ⟨_, rfl⟩, _, spS, rfl, rfl, by decide +kernel, zl, fun a na => ?_⟩
      have naD : a ≠ D := fun z => by
        rw [z, hD] at na
        cases na
      refine ⟨ys, by rw [upd_ne (Ne.symm naD)]; exact hD, ?_, ?_, _, upd_same, ?_⟩
      · rw [hp.length, List.length_take]
        exact Nat.le_trans (Nat.succ_le_succ (Nat.min_le_right _ _)) (Nat.le_trans (show _ ≤ 10002 by omega) (by decide))
      · intro c o eb
        rw [upd_ne (ne_of_none eb nD), upd_ne (ne_of_none (s2 _ _ eb) na)]
        exact s2 _ _ eb
      · rw [List.take_add_one, e2]
        refine paired_snoc ⟨a, rfl, naD, by rw [upd_ne naD, upd_same]⟩ (paired_mono (fun y w ⟨c, e, n, hc⟩ => ⟨c, e, n, ?_⟩) hp)
        rw [upd_ne n, upd_ne (ne_of_none hc na)]
        exact hc
    rintro H2 ⟨s2, ys, hD, hp⟩
    rw [List.length_map, List.take_of_length_le (by rw [erow, List.length_map]; exact Nat.le_refl _)] at hp
    replace hp : Paired (WordsA K H2) ys (rowsT t) := paired_mono (fun y ws ⟨a, e, _, k⟩ => ⟨a, e, SqL.of k⟩) hp
    have sH : Same H H2 := sL.trans s2
    generalize rowsT t = rows at qe q r1 r3 hp
    cases hp with
    | nil => exact absurd rfl r3
    | @cons y0 r0 yr rest w0 hp =>
    have u0 := r1 r0 List.mem_cons_self
    obtain ⟨a0, rfl, h0⟩ := w0
    refine seq_set ?_
    refine ⟨.ref D, rfl, D, _, 0, .ref a0, rfl, rfl, SqL.of hD, atI_nat (j := 0) rfl, a0, r0, rfl, h0, u0, fun eu H3 s3 => ?_, fun b h eu H3 u s3 nu hu hU => ?_⟩
    · have qr : Raised BP (.int 1) H3 E := (qe 1 (pageR_0 eu)).mono (sH.trans s3)
      refine ⟨.non, rfl, rfl, _, rfl, ?_⟩
      rw [show decide (V.non = V.non) = true from decide_eq_true rfl]
      refine iteT ?_
      exact ⟨by show 1 ≤ 1000; decide, fun ae nae => ⟨ae, BP, .int 1, rfl, XBP, upd_same, fun dd ndd nda => ⟨rfl, dd, [("value", .int 1)], upd_same, by rw [upd_ne nda, upd_same], by rwa [upd_ne nda] at ndd, raise_end qr nae ndd nda⟩⟩⟩
    have hD3 := s3 _ _ hD
    have sH3 := sH.trans s3
    refine ⟨.ref u, rfl, rfl, _, rfl, ?_⟩
    rw [show decide (V.ref u = V.non) = false from decide_eq_false fun z => nomatch z]
    refine iteF (next_in ?_)
    refine ⟨.ref D, rfl, D, _, rfl, .inl (SqL.of hD3), _, 2, rfl, rfl, _, rfl, ?_⟩
    cases hp with
    | nil =>
      have qr : Raised BP (.int 2) H3 E := (qe 2 (pageR_1 eu)).mono sH3
      refine iteDY (by show (1 : Int) < 2; decide) (iteT ?_)
      exact ⟨by show 1 ≤ 1000; decide, fun ae nae => ⟨ae, BP, .int 2, rfl, XBP, upd_same, fun dd ndd nda => ⟨rfl, dd, [("value", .int 2)], upd_same, by rw [upd_ne nda, upd_same], by rwa [upd_ne nda] at ndd, raise_end qr nae ndd nda⟩⟩⟩
    | @cons y1 ra yr more w1 hp =>
    obtain ⟨a1, rfl, h1⟩ := w1
    have u1 := r1 ra (List.mem_cons_of_mem _ List.mem_cons_self)
    refine iteDN (by simp only [List.length_cons]; omega) ?_
    refine ⟨.ref D, rfl, D, _, 1, .ref a1, rfl, rfl, SqL.of hD3, atI_nat (j := 1) rfl, a1, ra, rfl, sqL_same s3 h1, u1, _, rfl, ?_⟩
    cases ea : askR ra with
    | none =>
      have qr : Raised BP (.int 2) H3 E := (qe 2 (pageR_2 eu ea)).mono sH3
      refine iteT ?_
      exact ⟨by show 1 ≤ 1000; decide, fun ae nae => ⟨ae, BP, .int 2, rfl, XBP, upd_same, fun dd ndd nda => ⟨rfl, dd, [("value", .int 2)], upd_same, by rw [upd_ne nda, upd_same], by rwa [upd_ne nda] at ndd, raise_end qr nae ndd nda⟩⟩⟩
    | some x =>
    obtain ⟨rfl, hx⟩ := askR_some ea
    refine iteF (next_in ?_)
    refine ⟨.ref D, rfl, D, _, rfl, .inl (SqL.of hD3), _, 3, rfl, rfl, _, rfl, ?_⟩
    cases hp with
    | nil =>
      have qr : Raised BP (.int 3) H3 E := (qe 3 (pageR_3 eu ea)).mono sH3
      refine iteDY (by show (2 : Int) < 3; decide) ?_
      exact ⟨by show 1 ≤ 1000; decide, fun ae nae => ⟨ae, BP, .int 3, rfl, XBP, upd_same, fun dd ndd nda => ⟨rfl, dd, [("value", .int 3)], upd_same, by rw [upd_ne nda, upd_same], by rwa [upd_ne nda] at ndd, raise_end qr nae ndd nda⟩⟩⟩
    | @cons y2 rb yr more w2 hp =>
    have hp := Paired.cons w2 hp
    refine iteDN (by simp only [List.length_cons]; omega) ?_
    refine next_in (ret_in ?_)
    refine ⟨.ref u, rfl, .ref u, rfl, .ref D, rfl, D, _, 1, .ref a1, rfl, rfl, SqL.of hD3, atI_nat (j := 1) rfl, a1, _, 1, .str x, rfl, rfl, sqL_same s3 h1, atI_nat (j := 1) rfl, .ref D, rfl, 2, rfl, D, _, rfl, SqL.of hD3, fun R nR => ?_⟩
    have ec : cutV (V.ref a0 :: V.ref a1 :: y2 :: yr) (some (2 : Int)) none = y2 :: yr := cut_from (k := 2) (by simp)
    rw [ec]
    have s4 : Same H3 (upd H3 R (.lst (y2 :: yr))) := sameU nR
    have hR : (upd H3 R (.lst (y2 :: yr))) R = some (.lst (y2 :: yr)) := upd_same
    generalize L2.upd H3 R (.lst (y2 :: yr)) = H4 at s4 hR ⊢
    have s34 := s3.trans s4
    refine ⟨u, R, b, h, x, y2 :: yr, rb :: more, rfl, hU.same s4, SqL.of hR, paired_mono (fun _ _ z => WordsA.same s34 z) hp, fun ws m => r1 ws (List.mem_cons_of_mem _ (List.mem_cons_of_mem _ m)), hx, fun n en => ?_, fun ks ek H5 d s5 nd hd O => ?_⟩
    · exact (qe n (pageR_4 eu ea en)).mono (sH3.trans s4)
    refine ⟨by show 2 ≤ sizeLine; decide, fun p np => ?_⟩
    have sA : Same H H5 := (sH3.trans s4).trans s5
    have np' : Same H5 (upd H5 p (.tup [.ref u, .ref d])) := sameU np
    exact q b h ks (pageR_5 eu ea ek) _ p u d (sA.trans np') (none_of sA np) (none_of sH nu) (none_of (sH3.trans s4) nd) upd_same (np' _ _ (s5 _ _ (s4 _ _ hu))) (hd.same np') O ((hU.same (s4.trans s5)).same np')
end
end Uq

namespace Uq
open PySem PySem.Spec PyProof.Rows L2

open TL
/-! ### a page made of any text -/
abbrev s_Page_text : Stmt := inClass (topS 21) 1
abbrev N_Page_text : List Str := ["self"]
theorem sc_Page_text : FnScope N_Page_text ["self"] (defScope s_Page_text) := ⟨rfl, rfl, rfl, by decide +kernel, rfl, by decide +kernel, by decide +kernel⟩
/-- a page of a right text, as it lies -/
structure PgQ (K : PySem.W.Frag) (C : Addr) (t : Str) (H : Hp) (a dx : Addr) : Prop where
  ex : ∃ u d e b h ks, H a = some (.ins C dx [("_text", .str t), ("_units", .ref u), ("_lines", .ref d), ("_ends", .ref e)]) ∧ pageR (rowsT t) = .inr (b, h, ks) ∧ KsOk ks ∧ Lns K H d (lnsK ks) ∧ H e = some (.tup ((ends (lnsK ks)).map V.str)) ∧ H u = some (.tup [.int b, .str h])
theorem PgQ.same {K : PySem.W.Frag} {C : Addr} {t : Str} {H H' : Hp} {a dx : Addr} (s : Same H H') (h : PgQ K C t H a dx) : PgQ K C t H' a dx := by
  obtain ⟨u, d, e, b, hh, ks, h1, h2, h3, h4, h5, h6⟩ := h.ex
  exact ⟨u, d, e, b, hh, ks, s _ _ h1, h2, h3, h4.same s, s _ _ h5, s _ _ h6⟩
theorem PgQ.at_ {K : PySem.W.Frag} {C : Addr} {t : Str} {H : Hp} {a dx : Addr} (h : PgQ K C t H a dx) : ∃ u d e, H a = some (.ins C dx [("_text", .str t), ("_units", .ref u), ("_lines", .ref d), ("_ends", .ref e)]) := by
  obtain ⟨u, d, e, b, hh, ks, h1, _⟩ := h.ex
  exact ⟨u, d, e, h1⟩
def sp_Page__init_ (K : PySem.W.Frag) (C BP : Addr) : Sp := fun vs H Q E => ∃ (a dx : Addr) (v : V), vs = [.ref a, v] ∧ H a = some (.ins C dx []) ∧ ((NoStr K H v ∧ Raised BP (.int 0) H E) ∨ (∃ t : Str, v = .str t ∧ Asc t ∧ t.length ≤ 10000 ∧
  (∀ n, pageR (rowsT t) = .inl n → Raised BP (.int n) H E) ∧ (∀ r, pageR (rowsT t) = .inr r → ∀ H', (∀ c o, c ≠ a → H c = some o → H' c = some o) → PgQ K C t H' a dx → Q .non H')))
def sp_Page_text (K : PySem.W.Frag) (C : Addr) : Sp := fun vs H Q _ => ∃ (t : Str) (a dx : Addr), vs = [.ref a] ∧ PgQ K C t H a dx ∧ Q (.str t) H
section
variable {P : Program} {w : World} {K : PySem.W.Frag} {mg : Str → Option Value} {base : Heap} {C BP : Addr}
theorem ok_Page__init_ (c : PgC K C) {f : Addr} {fd : FuncData} (F : Fun K "__init__" "Page.__init__" s_Page__init_ f fd) (c_read_page : CalX P w K mg base 5 "read_page" ["text"] (sp_read_page K BP)) (c_ends_among : Cal P w K mg base 1 "ends_among" ["lines"] (sp_ends_among K)) : FnOk P w K mg base (L2.CX P w) 6 f fd ["self", "text"] (sp_Page__init_ K C BP) := by
  refine F.okX sc_Page__init_ (fun vs H Q E h => ?_) (fun cdv A outer s H vs Q E hr h => ?_)
  · obtain ⟨a, dx, v, rfl, _⟩ := h
    rfl
  · refine ⟨_, (pss_cons (ps_asg (pe_call c_read_page.G (hr.mono (by decide)) (by rfl) c_read_page.g c_read_page.kp c_read_page.b .nil (passes_call (takes_of rfl rfl rfl rfl) fun _ _ _ _ h => h) (pa_cons (pv 1) pa_nil)) (pg_tup rfl (pgs_cons (pg_name (i := 2) sc_Page__init_.nd rfl (.inl rfl)) (pgs_cons (pg_name (i := 3) sc_Page__init_.nd rfl (.inl rfl)) pgs_nil))))
      (pss_cons (ps_fld (pv 0) (pv 1) rfl)
      (pss_cons (ps_fld (pv 0) (pv 2) rfl)
      (pss_cons (ps_fld (pv 0) (pv 3) rfl)
      (pss_one (ps_fld (pv 0) (pe_call c_ends_among.G (hr.mono (by decide)) (by rfl) c_ends_among.g c_ends_among.kp c_ends_among.b .nil pass0 (pa_cons (pv 3) pa_nil)) rfl)))))), ?_⟩
    obtain ⟨a, dx, v, rfl, ha, q⟩ := h
    rcases q with ⟨nv, qe⟩ | ⟨t, rfl, hA, hz, qe, q⟩
    · exact ⟨v, rfl, .inl ⟨v, rfl, nv, qe⟩⟩
    refine ⟨.str t, rfl, .inr ⟨t, rfl, hA, hz, qe, fun b h ks ep H1 p u d s1 np nu nd hp hu hd O U => ?_⟩⟩
    refine ⟨p, _, rfl, SqT.of hp, rfl, ?_⟩
    refine ⟨.ref u, [.ref d], rfl, .ref d, [], rfl, rfl, ?_⟩
    have hA1 : H1 a = some (.ins C dx []) := s1 _ _ ha
    refine ⟨.str t, rfl, .ref a, rfl, a, C, dx, _, rfl, hA1, c.cls, c.text, Nat.zero_lt_succ _, ?_⟩
    refine ⟨.ref u, rfl, .ref a, rfl, a, C, dx, _, rfl, upd_same, c.cls, c.units, Nat.lt_of_le_of_lt (putF_len _ _ _) (by decide : 0 + 1 < 1000), ?_⟩
    rw [upd_twice]
    refine ⟨.ref d, rfl, .ref a, rfl, a, C, dx, _, rfl, upd_same, c.cls, c.lines, Nat.lt_of_le_of_lt (Nat.le_trans (putF_len _ _ _) (Nat.succ_le_succ (putF_len _ _ _))) (by decide : 0 + 1 + 1 < 1000), ?_⟩
    rw [upd_twice]
    have au : u ≠ a := (ne_of_none ha nu).symm
    have ad : d ≠ a := (ne_of_none ha nd).symm
    have hF := Nat.lt_of_le_of_lt (Nat.le_trans (putF_len "_lines" (V.ref d) (putF "_units" (V.ref u) (putF "_text" (V.str t) []))) (Nat.succ_le_succ (Nat.le_trans (putF_len _ _ _) (Nat.succ_le_succ (putF_len _ _ _))))) (show 0 + 1 + 1 + 1 < 1000 by decide)
    generalize eF : putF "_lines" (V.ref d) _ = F3 at hF ⊢
    have hd2 : Lns K (upd H1 a (.ins C dx F3)) d (lnsK ks) := hd.ins hA1
    have hu2 : (upd H1 a (.ins C dx F3)) u = _ := (upd_ne au).trans hu
    have o2 : ∀ c o, c ≠ a → H c = some o → (upd H1 a (.ins C dx F3)) c = some o := fun c o n e => by
      rw [upd_ne n]
      exact s1 _ _ e
    have na2 : (upd H1 a (.ins C dx F3)) a = _ := upd_same
    generalize L2.upd H1 a (.ins C dx F3) = G at hd2 hu2 o2 na2 ⊢
    refine ⟨.ref d, rfl, d, lnsK ks, rfl, hd2, ?_, O.flat, fun G2 e s2 ne he => ?_⟩
    · have := O.few
      unfold lnsK
      rw [List.length_map]
      omega
    refine ⟨.ref a, rfl, a, C, dx, _, rfl, s2 _ _ na2, c.cls, c.ends, hF, ?_⟩
    have ea : e ≠ a := (ne_of_none na2 ne).symm
    refine q _ ep _ (fun c o n ec => ?_) ⟨u, d, e, b, h, ks, ?_, ep, O, ?_, ?_, ?_⟩
    · rw [upd_ne n]
      exact s2 _ _ (o2 _ _ n ec)
    · rw [upd_same, ← eF]
      rfl
    · exact (hd2.same s2).ins (s2 _ _ na2)
    · rw [upd_ne ea]
      exact he
    · rw [upd_ne au]
      exact s2 _ _ hu2
theorem ok_Page_text (c : PgC K C) {f : Addr} {fd : FuncData} (F : Fun K "text" "Page.text" s_Page_text f fd) : FnOk P w K mg base CX0 1 f fd ["self"] (sp_Page_text K C) := by
  refine F.ok sc_Page_text (fun vs H Q E h => ?_) (fun cdv A outer s H vs Q E hr h => ?_)
  · obtain ⟨t, a, dx, rfl, _⟩ := h
    rfl
  · refine ⟨_, (pss_one (ps_ret (pe_fld (pv 0) (by rfl)))), ?_⟩
    obtain ⟨t, a, dx, rfl, O, q⟩ := h
    obtain ⟨u, d, e, h1⟩ := O.at_
    exact ret_in ⟨.ref a, rfl, a, C, dx, _, .str _, rfl, h1, c.cls, c.text, rfl, q⟩
end
end Uq

namespace Uq
open PySem PySem.Spec PyProof.Rows L2

/-! ### some of a pool, each once -/
def sp_law_some (K : PySem.W.Frag) : Sp := fun vs H Q _ => ∃ (p l : Addr) (c m : Nat) (xs : List V), vs = [.ref p, .ref l, .int m] ∧ Pot H p c ∧ c + m < 100000 ∧ SqL K H l xs ∧ m ≤ xs.length ∧ xs.length ≤ 100 ∧
  ∀ H' r ys zs, But p H H' → Pot H' p (c + m) → H r = none → H' r = some (.lst ys) → ys.length = m → (ys ++ zs).Perm xs → Q (.ref r) H'
theorem perm_erase {y : V} : ∀ {zs : List V} {k : Nat}, zs[k]? = some y → (y :: zs.eraseIdx k).Perm zs
  | [], k, e => by simp at e
  | z :: zs, 0, e => by
    cases Option.some.inj e
    exact List.Perm.refl _
  | z :: zs, k + 1, e => (List.Perm.swap _ _ _).trans (List.Perm.cons _ (perm_erase (k := k) e))
theorem perm_pick {ys zs xs : List V} {y : V} {k : Nat} (h : (ys ++ zs).Perm xs) (e : zs[k]? = some y) : ((ys ++ [y]) ++ zs.eraseIdx k).Perm xs := by
  rw [List.append_assoc]
  exact (List.Perm.append_left ys (perm_erase e)).trans h
theorem But.offL {p L : Addr} {H H' : Hp} {o : HO} (h : But p H H') (e : H L = none) : But p H (upd H' L o) := fun b x n eb => by
  rw [upd_ne (ne_of_none eb e)]
  exact h b x n eb
section
variable {P : Program} {w : World} {K : PySem.W.Frag} {mg : Str → Option Value} {base : Heap}
theorem ok_law_some {f : Addr} {fd : FuncData} (F : Fun K "_law_some" "_law_some" s_law_some f fd) (m_list : mg "list" = none) (m_range : mg "range" = none) (m_len : mg "len" = none) (c_law_take : Cal P w K mg base 1 "_law_take" ["_law_pot_here", "_law_upto"] (sp_law_take K)) : FnOk P w K mg base CX0 2 f fd ["_law_pot_here", "_law_pool", "_law_many"] (sp_law_some K) := by
  refine F.ok sc_law_some (fun vs H Q E h => ?_) (fun cdv A outer s H vs Q E hr h => ?_)
  · obtain ⟨p, l, c, m, xs, rfl, _⟩ := h
    rfl
  · refine ⟨_, (pss_cons (ps_par (i := 3) (j := 4) (by rfl) sc_law_some.nd rfl rfl (by decide) rfl rfl (pa_cons (pe_callTy call_list_of (by rfl) m_list (by decide +kernel) (pa_cons (pv 1) pa_nil)) (pa_cons (pe_lst pa_nil) pa_nil)) (by rfl))
      (pss_cons (ps_for PassesOwn.never rfl (pi_range1 (by rfl) m_range (pa_cons (pv 2) pa_nil)) (pg_name (i := 5) sc_law_some.nd rfl (.inl rfl))
        (pss_one (ps_expr (pe_bm PySem.F.plainAttrs_list PySem.F.slot_list_append PySem.F.type_list_append mt_append (pv 4) (pa_cons (pe_bm PySem.F.plainAttrs_list PySem.F.slot_list_pop PySem.F.type_list_pop mt_popAt (pv 3) (pa_cons (pe_call c_law_take.G (hr.mono (by decide)) (by rfl) c_law_take.g c_law_take.kp c_law_take.b .nil pass0 (pa_cons (pv 0) (pa_cons (pe_callB call_len_seq (by rfl) m_len (by decide +kernel) (pa_cons (pv 3) pa_nil)) pa_nil))) pa_nil)) pa_nil)))))
      (pss_one (ps_ret (pv 4))))), ?_⟩
    obtain ⟨p, l, c, m, xs, rfl, hp, hc, hl, hm, hz, q⟩ := h
    have hp' := hp
    obtain ⟨o0, s0, n0, hpa, _⟩ := hp'
    refine ⟨.ref l, rfl, l, xs, rfl, .inl hl, fun L nL => ?_⟩
    refine ⟨Nat.zero_le _, fun R nR => ?_⟩
    have nRL : R ≠ L := fun z => by
      rw [z, upd_same] at nR
      cases nR
    have nR0 : H R = none := by
      rw [upd_ne nRL] at nR
      exact nR
    have npL : p ≠ L := ne_of_none hpa nL
    have npR : p ≠ R := ne_of_none hpa nR0
    refine ⟨_, _, rfl, ?_⟩
    refine ⟨.int m, rfl, m, rfl, ?_⟩
    refine ⟨by omega, by omega, ?_⟩
    refine for_it (walk_range (lo := 0) (n := m)) (fun i σ H' => But p H H' ∧ Pot H' p (c + i) ∧ (∃ x5, σ = [some (.ref p), some (.ref l), some (.int m), some (.ref L), some (.ref R), x5]) ∧ ∃ ys zs, H' R = some (.lst ys) ∧ H' L = some (.lst zs) ∧ ys.length = i ∧ zs.length + i = xs.length ∧ (ys ++ zs).Perm xs) ?_ ?_ ?_ ?_
    · refine ⟨But.of ((sameU nL).trans (sameU nR)), (hp.same (sameU nL)).same (sameU nR), ⟨none, rfl⟩, [], xs, upd_same, by rw [upd_ne (Ne.symm nRL), upd_same], rfl, rfl, List.Perm.refl _⟩
    · intro i σ H' _ _
      trivial
    · rintro i x σ H1 H2 hi ⟨hB, hP, ⟨x5, rfl⟩, ys, zs, hR, hL, ly, lz, pm⟩ ⟨rfl, rfl⟩
      have zlen : 0 < zs.length := by omega
      refine ⟨.ref R, rfl, .inl ⟨rfl, _, SqL.of hR⟩, .ref L, rfl, .inl ⟨rfl, _, SqL.of hL⟩, .ref p, rfl, .ref L, rfl, L, zs, rfl, .inl (SqL.of hL), p, c + i, zs.length, rfl, hP, by omega, by omega, by omega, fun H3 d hB3 hP3 d0 d1 => ?_⟩
      have hR3 := hB3 R _ (Ne.symm npR) hR
      have hL3 := hB3 L _ (Ne.symm npL) hL
      have hd : d.toNat < zs.length := by omega
      have ed : seqIndex? d zs.length = some d.toNat := by
        have h1 : ¬ d < 0 := by omega
        have h2 : d < (zs.length : Int) := by omega
        unfold seqIndex?
        simp [h1, h2, d0]
      refine ⟨L, zs, d, d.toNat, zs[d.toNat], rfl, rfl, hL3, by omega, by omega, ed, List.getElem?_eq_getElem hd, ?_⟩
      refine ⟨R, ys, zs[d.toNat], rfl, rfl, by rw [upd_ne nRL]; exact hR3, small1000 (by omega), ?_⟩
      obtain ⟨o1, s1, n1, hp3, hrest⟩ := hP3
      refine ⟨((hB.trans hB3).offL nL).offL nR0, ⟨o1, s1, n1, ?_, ?_⟩, ⟨_, rfl⟩, ys ++ [zs[d.toNat]], zs.eraseIdx d.toNat, upd_same, ?_, ?_, ?_, perm_pick pm (List.getElem?_eq_getElem hd)⟩
      · rw [upd_ne npR, upd_ne npL]
        exact hp3
      · rw [show c + (i + 1) = c + i + 1 by omega]
        exact hrest
      · rw [upd_ne (Ne.symm nRL), upd_same]
      · rw [List.length_append, ly]
        rfl
      · rw [List.length_eraseIdx_of_lt hd]
        omega
    · rintro σ H1 ⟨hB, hP, ⟨x5, rfl⟩, ys, zs, hR, hL, ly, lz, pm⟩
      exact ⟨.ref R, rfl, q H1 R ys zs hB hP nR0 hR ly pm⟩
end
end Uq

namespace Uq
open PySem PySem.Spec PyProof.Rows L2

/-! ### displays of texts, of lists of texts, of cases (a list of texts and a number) -/
def rAddS : R2 := fun x y H Q => ∃ i j, x = .str i ∧ y = .str j ∧ i.length + j.length ≤ sizeLine ∧ Q (.str (i ++ j)) H
theorem op_addS {X : Cx} : OpR X (binaryOp .Add) rAddS := op_add_str
theorem sn_of {H H' : Hp} {a : Addr} (s : Same H H') (n : H' a = none) : H a = none := by
  cases e : H a with
  | none => rfl
  | some o => rw [s _ _ e] at n; cases n
theorem same_refl {H : Hp} : Same H H := fun _ _ e => e
section
variable {σ : L2.St} {H0 : Hp} {K : PySem.W.Frag}
def StT (te : TE) (σ : L2.St) (s : Str) : Prop := ∀ (H : Hp) (Q : VK), Q (.str s) H → te σ H Q
theorem st_c {s : Str} : StT (tC (.str s)) σ s := fun _ _ q => q
theorem st_v {i : Nat} {s : Str} (h : σ[i]? = some (some (.str s))) : StT (tVar i) σ s := fun _ _ q => ⟨_, h, q⟩
theorem st_add {a b : TE} {s t : Str} (ha : StT a σ s) (hb : StT b σ t) (z : s.length + t.length ≤ sizeLine) : StT (tOp rAddS a b) σ (s ++ t) := fun H Q q => ha H _ (hb H _ ⟨s, t, rfl, rfl, z, q⟩)
def SsT (ta : TA) (σ : L2.St) (ss : List Str) : Prop := ∀ (H : Hp) (Q : List V → Hp → Prop), Q (ss.map V.str) H → ta σ H Q
theorem ss_nil : SsT tNil σ [] := fun _ _ q => q
theorem ss_cons {te : TE} {ta : TA} {s : Str} {ss : List Str} (h : StT te σ s) (g : SsT ta σ ss) : SsT (tCons te ta) σ (s :: ss) := fun H Q q => h H _ (g H _ q)
def LsT (te : TE) (σ : L2.St) (H0 : Hp) (ys : List Str) : Prop := ∀ (H : Hp) (Q : VK), Same H0 H → (∀ H' L, Same H H' → H' L = some (.lst (ys.map V.str)) → Q (.ref L) H') → te σ H Q
def LsN (te : TE) (σ : L2.St) (H0 : Hp) (ys : List Str) : Prop := ∀ (H : Hp) (Q : VK), Same H0 H → (∀ H' L, Same H H' → H L = none → H' L = some (.lst (ys.map V.str)) → Q (.ref L) H') → te σ H Q
theorem LsN.t {te : TE} {ys : List Str} (h : LsN te σ H0 ys) : LsT te σ H0 ys := fun H Q s q => h H Q s fun H' L s1 _ e => q H' L s1 e
theorem ls_v {i : Nat} {L : Addr} {ys : List Str} (h : σ[i]? = some (some (.ref L))) (e : H0 L = some (.lst (ys.map V.str))) : LsT (tVar i) σ H0 ys := fun H Q s q => ⟨_, h, q H L same_refl (s _ _ e)⟩
theorem ls_lst {ta : TA} {ss : List Str} (h : SsT ta σ ss) (z : ss.length ≤ sizeLine := by simp only [List.length_cons, List.length_nil]; decide) : LsN (tLst ta) σ H0 ss := fun H Q s q => h H _ ⟨by rw [List.length_map]; exact z, fun L n => q _ L (sameU n) n upd_same⟩
theorem ls_cat {a b : TE} {ys zs : List Str} (ha : LsT a σ H0 ys) (hb : LsT b σ H0 zs) (z : ys.length + zs.length ≤ sizeLine) : LsN (tOp rCat a b) σ H0 (ys ++ zs) := fun H Q s q => ha H _ s fun H1 L1 s1 e1 => hb H1 _ (s.trans s1) fun H2 L2 s2 e2 =>
  ⟨L1, L2, _, _, rfl, rfl, s2 _ _ e1, e2, by rw [List.length_map, List.length_map]; exact z, fun p n => q _ p ((s1.trans s2).trans (sameU n)) (sn_of (s1.trans s2) n) (by rw [upd_same, List.map_append])⟩
theorem ls_rep {a : TE} {ys : List Str} (ha : LsT a σ H0 ys) (z : ys.length * 2 ≤ sizeLine) : LsN (tOp rRep a (tC (.int 2))) σ H0 (ys ++ ys) := fun H Q s q => ha H _ s fun H1 L1 s1 e1 =>
  ⟨L1, 2, _, rfl, rfl, e1, by decide, by decide, by rw [List.length_map]; exact z, fun p n => q _ p (s1.trans (sameU n)) (sn_of s1 n) (by
    rw [upd_same]
    show some (HO.lst (List.replicate 2 (ys.map V.str)).flatten) = _
    simp [List.replicate])⟩
theorem cutL_to {xs : List V} {k : Nat} (hk : k ≤ xs.length) : cutV xs none (some (k : Int)) = xs.take k := by
  unfold cutV
  rw [show HT.sIx xs.length 0 none = 0 from rfl, HT.sIx_nat, Nat.min_eq_left hk]
  rfl
theorem cutL_from {xs : List V} {k : Nat} (hk : k ≤ xs.length) : cutV xs (some (k : Int)) none = xs.drop k := by
  unfold cutV
  rw [show HT.sIx xs.length 0 (some (k : Int)) = min k xs.length from HT.sIx_nat xs.length 0 k, HT.sIx_none, Nat.min_eq_left hk]
  exact List.take_of_length_le (by rw [List.length_drop]; omega)
theorem ls_to {a : TE} {ys : List Str} (k : Nat) (ha : LsT a σ H0 ys) (hk : k ≤ ys.length) : LsN (tSl (rSlL K) a tNoPart (tPart (tC (.int k)))) σ H0 (ys.take k) := fun H Q s q => ha H _ s fun H1 L1 s1 e1 =>
  ⟨k, rfl, L1, _, rfl, SqL.of e1, fun p n => q _ p (s1.trans (sameU n)) (sn_of s1 n) (by rw [upd_same, cutL_to (by rw [List.length_map]; exact hk), List.map_take])⟩
theorem ls_from {a : TE} {ys : List Str} (k : Nat) (ha : LsT a σ H0 ys) (hk : k ≤ ys.length) : LsN (tSl (rSlL K) a (tPart (tC (.int k))) tNoPart) σ H0 (ys.drop k) := fun H Q s q => ha H _ s fun H1 L1 s1 e1 =>
  ⟨k, rfl, L1, _, rfl, SqL.of e1, fun p n => q _ p (s1.trans (sameU n)) (sn_of s1 n) (by rw [upd_same, cutL_from (by rw [List.length_map]; exact hk), List.map_drop])⟩
theorem tc_ln {te : TE} {ta : TA} {ys : List Str} {H : Hp} {P : List V → Hp → Prop} (h : LsN te σ H ys) (q : ∀ H' L, Same H H' → H L = none → H' L = some (.lst (ys.map V.str)) → ta σ H' (fun xs H2 => P (.ref L :: xs) H2)) : tCons te ta σ H P := h H _ same_refl q
theorem tc_st {te : TE} {ta : TA} {s : Str} {H : Hp} {P : List V → Hp → Prop} (h : StT te σ s) (q : ta σ H (fun xs H2 => P (.str s :: xs) H2)) : tCons te ta σ H P := h H _ q
theorem seq_ln {te : TE} {i : Nat} {u : TS} {D : Ends} {ys : List Str} {H : Hp} (h : LsN te σ H ys) (q : ∀ H' L, Same H H' → H L = none → H' L = some (.lst (ys.map V.str)) → u D (σ.set i (some (.ref L))) H') : tSeq (tAsg te (gName i)) u D σ H := seq_set (h H _ same_refl q)
abbrev Cs := List Str × Nat
def CaseN (H H' : Hp) (v : V) (c : Cs) : Prop := ∃ t L, v = .ref t ∧ H t = none ∧ H L = none ∧ H' t = some (.tup [.ref L, .int c.2]) ∧ H' L = some (.lst (c.1.map V.str))
def CaseF (F : Addr) (H' : Hp) (v : V) (c : Cs) : Prop := ∃ t L, v = .ref t ∧ t ≠ F ∧ L ≠ F ∧ H' t = some (.tup [.ref L, .int c.2]) ∧ H' L = some (.lst (c.1.map V.str))
theorem CaseF.but {F : Addr} {H H' : Hp} {v : V} {c : Cs} (b : But F H H') (h : CaseF F H v c) : CaseF F H' v c := by
  obtain ⟨t, L, e, n1, n2, h1, h2⟩ := h
  exact ⟨t, L, e, n1, n2, b _ _ n1 h1, b _ _ n2 h2⟩
def CaT (te : TE) (σ : L2.St) (H0 : Hp) (c : Cs) : Prop := ∀ (H : Hp) (Q : VK), Same H0 H → (∀ H' v, Same H H' → CaseN H H' v c → Q v H') → te σ H Q
theorem ca_tup {te : TE} {ys : List Str} {n : Nat} (h : LsN te σ H0 ys) : CaT (tTup (tCons te (tCons (tC (.int n)) tNil))) σ H0 (ys, n) := fun H Q s q => h H _ s fun H1 L s1 nL e =>
  ⟨by show 2 ≤ sizeLine; decide, fun t nt => q _ _ (s1.trans (sameU nt)) ⟨t, L, rfl, sn_of s1 nt, nL, upd_same, (sameU nt) _ _ e⟩⟩
def CasT (ta : TA) (σ : L2.St) (H0 : Hp) (cs : List Cs) : Prop := ∀ (H : Hp) (Q : List V → Hp → Prop), Same H0 H → (∀ H' vs, Same H H' → Paired (CaseN H H') vs cs → Q vs H') → ta σ H Q
theorem cas_nil : CasT tNil σ H0 [] := fun H Q s q => q H [] same_refl .nil
theorem pair_mono {α β : Type} {R R' : α → β → Prop} (m : ∀ a b, R a b → R' a b) : ∀ {xs : List α} {ys : List β}, Paired R xs ys → Paired R' xs ys
  | _, _, .nil => .nil
  | _, _, .cons a h => .cons (m _ _ a) (pair_mono m h)
theorem pair_app {α β : Type} {R : α → β → Prop} : ∀ {xs xs' : List α} {ys ys' : List β}, Paired R xs ys → Paired R xs' ys' → Paired R (xs ++ xs') (ys ++ ys')
  | _, _, _, _, .nil, h => h
  | _, _, _, _, .cons a g, h => .cons a (pair_app g h)
theorem cas_cons {te : TE} {ta : TA} {c : Cs} {cs : List Cs} (h : CaT te σ H0 c) (g : CasT ta σ H0 cs) : CasT (tCons te ta) σ H0 (c :: cs) := fun H Q s q => h H _ s fun H1 v s1 k => g H1 _ (s.trans s1) fun H2 vs s2 ks => q H2 (v :: vs) (s1.trans s2) (by
  refine .cons ?_ (pair_mono (fun _ _ z => ?_) ks)
  · obtain ⟨t, L, e, a, b, d, f⟩ := k
    exact ⟨t, L, e, a, b, s2 _ _ d, s2 _ _ f⟩
  · obtain ⟨t, L, e, a, b, d, f⟩ := z
    exact ⟨t, L, e, sn_of s1 a, sn_of s1 b, d, f⟩)
/-- a list of cases, as it lies -/
def FAt (F : Addr) (H : Hp) (cs : List Cs) : Prop := ∃ vs, H F = some (.lst vs) ∧ Paired (CaseF F H) vs cs
theorem FAt.but {F L : Addr} {H H' : Hp} {cs : List Cs} (f : FAt F H cs) (s : Same H H') : FAt F H' cs := by
  obtain ⟨vs, h, p⟩ := f
  exact ⟨vs, s _ _ h, pair_mono (fun _ _ z => CaseF.but (But.of s) z) p⟩
/-- [case, ..] -/
theorem fa_lst {ta : TA} {cs : List Cs} {H : Hp} {Q : VK} (h : CasT ta σ H cs) (z : cs.length ≤ sizeLine) (q : ∀ H' F, Same H H' → H F = none → FAt F H' cs → Q (.ref F) H') : tLst ta σ H Q := h H _ same_refl fun H1 vs s1 p =>
  ⟨by rw [p.length]; exact z, fun F n => q _ F (s1.trans (sameU n)) (sn_of s1 n) ⟨vs, upd_same, pair_mono (fun _ _ ⟨t, L, e, a, b, d, f⟩ => ⟨t, L, e, ne_of_none d n, ne_of_none f n, (sameU n) _ _ d, (sameU n) _ _ f⟩) p⟩⟩
/-- found.extend([case, ..]) -/
theorem fa_ext {ta : TA} {cs ds : List Cs} {i : Nat} {F : Addr} {H : Hp} {D : Ends} (hi : σ[i]? = some (some (.ref F))) (f : FAt F H cs) (h : CasT ta σ H ds) (z : cs.length + ds.length ≤ sizeLine) (q : ∀ H', But F H H' → FAt F H' (cs ++ ds) → D.nx σ H') :
    tBM K "list" rExtend (tVar i) (tCons (tLst ta) tNil) σ H (fun _ H' => D.nx σ H') := by
  obtain ⟨vs, hF, p⟩ := f
  refine ⟨_, hi, .inl ⟨rfl, _, SqL.of hF⟩, h H _ same_refl fun H1 ws s1 k => ⟨by rw [k.length]; omega, fun L n => ?_⟩⟩
  have nF : F ≠ L := ne_of_none (s1 _ _ hF) n
  refine ⟨F, L, vs, ws, rfl, rfl, by rw [upd_ne nF]; exact s1 _ _ hF, upd_same, by rw [p.length, k.length]; exact z, q _ ?_ ⟨vs ++ ws, upd_same, pair_app ?_ ?_⟩⟩
  · intro b o nb e
    rw [upd_ne nb]
    exact (sameU n) _ _ (s1 _ _ e)
  · exact pair_mono (fun _ _ z => CaseF.but (fun b o nb e => by rw [upd_ne nb]; exact (sameU n) _ _ (s1 _ _ e)) z) p
  · refine pair_mono (fun _ _ ⟨t, L', e, a, b, d, g⟩ => ?_) k
    have n1 : t ≠ F := fun z => by
      rw [z, hF] at a
      cases a
    have n2 : L' ≠ F := fun z => by
      rw [z, hF] at b
      cases b
    refine ⟨t, L', e, n1, n2, ?_, ?_⟩
    · rw [upd_ne n1]
      exact (sameU n) _ _ d
    · rw [upd_ne n2]
      exact (sameU n) _ _ g
/-- found.append(case) -/
theorem fa_app {te : TE} {cs : List Cs} {c : Cs} {i : Nat} {F : Addr} {H : Hp} {D : Ends} (hi : σ[i]? = some (some (.ref F))) (f : FAt F H cs) (h : CaT te σ H c) (z : cs.length < sizeLine) (q : ∀ H', But F H H' → FAt F H' (cs ++ [c]) → D.nx σ H') :
    tBM K "list" rAppend (tVar i) (tCons te tNil) σ H (fun _ H' => D.nx σ H') := by
  obtain ⟨vs, hF, p⟩ := f
  refine ⟨_, hi, .inl ⟨rfl, _, SqL.of hF⟩, h H _ same_refl fun H1 v s1 k => ?_⟩
  obtain ⟨t, L', e, a, b, d, g⟩ := k
  have na : t ≠ F := fun z => by rw [z, hF] at a; cases a
  have nb' : L' ≠ F := fun z => by rw [z, hF] at b; cases b
  refine ⟨F, vs, v, rfl, rfl, s1 _ _ hF, by rw [p.length]; exact z, q _ ?_ ⟨vs ++ [v], upd_same, pair_app ?_ (.cons ⟨t, L', e, na, nb', by rw [upd_ne na]; exact d, by rw [upd_ne nb']; exact g⟩ .nil)⟩⟩
  · intro b o nb e
    rw [upd_ne nb]
    exact s1 _ _ e
  · exact pair_mono (fun _ _ z => CaseF.but (fun b o nb e => by rw [upd_ne nb]; exact s1 _ _ e) z) p
/-- found + [case, ..] -/
theorem fa_cat {ta : TA} {cs ds : List Cs} {i : Nat} {F : Addr} {H : Hp} {Q : VK} (hi : σ[i]? = some (some (.ref F))) (f : FAt F H cs) (h : CasT ta σ H ds) (z : cs.length + ds.length ≤ sizeLine) (q : ∀ H' R, Same H H' → H R = none → FAt R H' (cs ++ ds) → Q (.ref R) H') :
    tOp rCat (tVar i) (tLst ta) σ H Q := by
  obtain ⟨vs, hF, p⟩ := f
  refine ⟨_, hi, h H _ same_refl fun H1 ws s1 k => ⟨by rw [k.length]; omega, fun L n => ?_⟩⟩
  have sL := s1.trans (sameU (o := .lst ws) n)
  refine ⟨F, L, vs, ws, rfl, rfl, sL _ _ hF, upd_same, by rw [p.length, k.length]; exact z, fun R nR => q _ R (sL.trans (sameU nR)) (sn_of sL nR) ⟨vs ++ ws, upd_same, pair_app ?_ ?_⟩⟩
  · refine pair_mono (fun _ _ ⟨t, L', e, a, b, d, g⟩ => ?_) p
    have d' := sL _ _ d
    have g' := sL _ _ g
    exact ⟨t, L', e, ne_of_none d' nR, ne_of_none g' nR, (sameU nR) _ _ d', (sameU nR) _ _ g'⟩
  · refine pair_mono (fun _ _ ⟨t, L', e, a, b, d, g⟩ => ?_) k
    have d' := (sameU (o := .lst ws) n) _ _ d
    have g' := (sameU (o := .lst ws) n) _ _ g
    exact ⟨t, L', e, ne_of_none d' nR, ne_of_none g' nR, (sameU nR) _ _ d', (sameU nR) _ _ g'⟩
end
end Uq

namespace Uq
open PySem PySem.Spec PyProof.Rows L2

open TL
/-! ### the cases by hand: the first two lines, shares -/
def askS (a : Str) : Str := ("asked " : Str) ++ a
def partS (b a : Str) : Str := ("part " : Str) ++ b ++ " of " ++ a
def headC (a b : Str) : List Cs := [([("in 2 near" : Str), askS a] ++ [partS b a], 0), ([("in 100 even" : Str), askS a] ++ [partS b a], 0), ([("in 1 near" : Str), askS a] ++ [partS b a], 1)] ++
  [([("in 101 up" : Str), askS a] ++ [partS b a], 1), ([("in 07 up" : Str), askS a] ++ [partS b a], 1), ([("in 10 Up" : Str), askS a] ++ [partS b a], 1)] ++
  [([("in 10" : Str), askS a] ++ [partS b a], 1), ([("in 10 up up" : Str), askS a] ++ [partS b a], 1), ([(" in 10 up" : Str), askS a] ++ [partS b a], 1)] ++
  [([("in 10 up" : Str)], 2), ([("in 10 up" : Str), askS a], 3), ([("in 10 up" : Str)] ++ [partS b a], 2), ([askS a] ++ [partS b a], 1)] ++ [([("" : Str)], 1)] ++
  [([("in 10 down" : Str), "asked"] ++ [partS b a], 2), ([("in 10 down" : Str), askS a ++ " " ++ b] ++ [partS b a], 2)] ++
  [([("in 10 down" : Str), "asked abcdefghi"] ++ [partS b a], 2), ([("in 10 down" : Str), "asked A"] ++ [partS b a], 2)] ++
  [([("in 10 down" : Str), askS a, askS a] ++ [partS b a], 3), ([("in 10 down" : Str), askS a] ++ [partS b a] ++ [("" : Str)], 4)]
def tails0 : List Str := ["", " is 0", " is 20", " is some", " all none", " all 20", " is 20 all 0", " is none all some"]
def tails1 : List Str := [" is 21", " all 21", " is 020", " is -1", " is None", " is", " all", " is 1 is 1", " all 1 is 1"]
def tails2 : List Str := [" is 1 all", " is 1 all 1 all 1", " 1", " is  1", " is 1 ", " all 1 all 1", " is 1 of 1"]
def shareC (a b : Str) : List Cs := (tails0.map fun t => ([("in 20 near" : Str), askS a] ++ [partS b a ++ t], 0)) ++ (tails1.map fun t => ([("in 20 near" : Str), askS a] ++ [partS b a ++ t], 3)) ++ (tails2.map fun t => ([("in 20 near" : Str), askS a] ++ [partS b a ++ t], 3))
/-- names drawn -/
structure NsOk (ns : List Str) : Prop where
  len : ns.length = 10
  nd : ns.Nodup
  wd : ∀ n ∈ ns, n.length ≤ 8
def sp_law_head_cases (K : PySem.W.Frag) : Sp := fun vs H Q _ => ∃ (N : Addr) (a b : Str) (ns : List Str), vs = [.ref N] ∧ H N = some (.lst (ns.map V.str)) ∧ NsOk ns ∧ ns.take 2 = [a, b] ∧ ∀ H' R, Same H H' → H R = none → FAt R H' (headC a b) → Q (.ref R) H'
def sp_law_share_cases (K : PySem.W.Frag) : Sp := fun vs H Q _ => ∃ (N : Addr) (a b : Str) (ns : List Str), vs = [.ref N] ∧ H N = some (.lst (ns.map V.str)) ∧ NsOk ns ∧ ns.take 2 = [a, b] ∧ ∀ H' R, Same H H' → H R = none → FAt R H' (shareC a b) → Q (.ref R) H'
theorem len_appS (a b : Str) : (a ++ b).length = a.length + b.length := by
  rw [len_tl, tl_append, List.length_append, ← len_tl, ← len_tl]
theorem lit5 : ("part " : Str).length = 5 ∧ (" of " : Str).length = 4 ∧ ("asked " : Str).length = 6 ∧ (" " : Str).length = 1 := by decide +kernel
theorem ask_len {a : Str} (h : a.length ≤ 8) : (askS a).length ≤ 14 := by
  unfold askS
  rw [len_appS, lit5.2.2.1]
  omega
theorem part_len {a b : Str} (h : a.length ≤ 8) (g : b.length ≤ 8) : (partS b a).length ≤ 25 := by
  unfold partS
  rw [len_appS, len_appS, len_appS, lit5.1, lit5.2.1]
  omega
theorem tails_len : ∀ t ∈ tails0 ++ tails1 ++ tails2, t.length ≤ 20 := by decide +kernel
theorem small_z : 1000 ≤ sizeLine := by decide
section
variable {P : Program} {w : World} {K : PySem.W.Frag} {mg : Str → Option Value} {base : Heap}
theorem st_part {σ : L2.St} {i j : Nat} {a b : Str} (hi : σ[i]? = some (some (.str b))) (hj : σ[j]? = some (some (.str a))) (la : a.length ≤ 8) (lb : b.length ≤ 8) : StT (tOp rAddS (tOp rAddS (tOp rAddS (tC (.str "part ")) (tVar i)) (tC (.str " of "))) (tVar j)) σ (partS b a) := by
  have z := small_z
  refine st_add (st_add (st_add st_c (st_v hi) ?_) st_c ?_) (st_v hj) ?_
  · rw [lit5.1]; omega
  · rw [len_appS, lit5.1, lit5.2.1]; omega
  · rw [len_appS, len_appS, lit5.1, lit5.2.1]; omega
theorem st_ask {σ : L2.St} {i : Nat} {a : Str} (hi : σ[i]? = some (some (.str a))) (la : a.length ≤ 8) : StT (tOp rAddS (tC (.str "asked ")) (tVar i)) σ (askS a) := by
  have z := small_z
  exact st_add st_c (st_v hi) (by rw [lit5.2.2.1]; omega)
theorem ok_law_head_cases {f : Addr} {fd : FuncData} (F : Fun K "_law_head_cases" "_law_head_cases" s_law_head_cases f fd) : FnOk P w K mg base CX0 1 f fd ["_law_names_here"] (sp_law_head_cases K) := by
  refine F.ok sc_law_head_cases (fun vs H Q E h => ?_) (fun cdv A outer s H vs Q E hr h => ?_)
  · obtain ⟨N, a, b, ns, rfl, _⟩ := h
    rfl
  · refine ⟨_, (pss_cons (ps_asg (pe_slice sl_list (pv 0) po_none (po_some pe_int)) (pg_unl rfl (pgs_cons (pg_name (i := 1) sc_law_head_cases.nd rfl (.inl rfl)) (pgs_cons (pg_name (i := 2) sc_law_head_cases.nd rfl (.inl rfl)) pgs_nil))))
      (pss_cons (ps_par (i := 3) (j := 4) (by rfl) sc_law_head_cases.nd rfl rfl (by decide) rfl rfl (pa_cons (pe_op op_addS pe_str (pv 1)) (pa_cons (pe_lst (pa_cons (pe_op op_addS (pe_op op_addS (pe_op op_addS pe_str (pv 2)) pe_str) (pv 1)) pa_nil)) pa_nil)) (by rfl))
      (pss_cons (ps_set (i := 5) sc_law_head_cases.nd rfl (.inl rfl) (pe_lst (pa_cons (pe_tup (pa_cons (pe_op op_cat (pe_lst (pa_cons pe_str (pa_cons (pv 3) pa_nil))) (pv 4)) (pa_cons pe_int pa_nil))) (pa_cons (pe_tup (pa_cons (pe_op op_cat (pe_lst (pa_cons pe_str (pa_cons (pv 3) pa_nil))) (pv 4)) (pa_cons pe_int pa_nil))) (pa_cons (pe_tup (pa_cons (pe_op op_cat (pe_lst (pa_cons pe_str (pa_cons (pv 3) pa_nil))) (pv 4)) (pa_cons pe_int pa_nil))) pa_nil)))))
      (pss_cons (ps_expr (pe_bm PySem.F.plainAttrs_list PySem.F.slot_list_extend PySem.F.type_list_extend mt_extend (pv 5) (pa_cons (pe_lst (pa_cons (pe_tup (pa_cons (pe_op op_cat (pe_lst (pa_cons pe_str (pa_cons (pv 3) pa_nil))) (pv 4)) (pa_cons pe_int pa_nil))) (pa_cons (pe_tup (pa_cons (pe_op op_cat (pe_lst (pa_cons pe_str (pa_cons (pv 3) pa_nil))) (pv 4)) (pa_cons pe_int pa_nil))) (pa_cons (pe_tup (pa_cons (pe_op op_cat (pe_lst (pa_cons pe_str (pa_cons (pv 3) pa_nil))) (pv 4)) (pa_cons pe_int pa_nil))) pa_nil)))) pa_nil)))
      (pss_cons (ps_expr (pe_bm PySem.F.plainAttrs_list PySem.F.slot_list_extend PySem.F.type_list_extend mt_extend (pv 5) (pa_cons (pe_lst (pa_cons (pe_tup (pa_cons (pe_op op_cat (pe_lst (pa_cons pe_str (pa_cons (pv 3) pa_nil))) (pv 4)) (pa_cons pe_int pa_nil))) (pa_cons (pe_tup (pa_cons (pe_op op_cat (pe_lst (pa_cons pe_str (pa_cons (pv 3) pa_nil))) (pv 4)) (pa_cons pe_int pa_nil))) (pa_cons (pe_tup (pa_cons (pe_op op_cat (pe_lst (pa_cons pe_str (pa_cons (pv 3) pa_nil))) (pv 4)) (pa_cons pe_int pa_nil))) pa_nil)))) pa_nil)))
      (pss_cons (ps_expr (pe_bm PySem.F.plainAttrs_list PySem.F.slot_list_extend PySem.F.type_list_extend mt_extend (pv 5) (pa_cons (pe_lst (pa_cons (pe_tup (pa_cons (pe_lst (pa_cons pe_str pa_nil)) (pa_cons pe_int pa_nil))) (pa_cons (pe_tup (pa_cons (pe_lst (pa_cons pe_str (pa_cons (pv 3) pa_nil))) (pa_cons pe_int pa_nil))) (pa_cons (pe_tup (pa_cons (pe_op op_cat (pe_lst (pa_cons pe_str pa_nil)) (pv 4)) (pa_cons pe_int pa_nil))) (pa_cons (pe_tup (pa_cons (pe_op op_cat (pe_lst (pa_cons (pv 3) pa_nil)) (pv 4)) (pa_cons pe_int pa_nil))) pa_nil))))) pa_nil)))
      (pss_cons (ps_expr (pe_bm PySem.F.plainAttrs_list PySem.F.slot_list_append PySem.F.type_list_append mt_append (pv 5) (pa_cons (pe_tup (pa_cons (pe_lst (pa_cons pe_str pa_nil)) (pa_cons pe_int pa_nil))) pa_nil)))
      (pss_cons (ps_expr (pe_bm PySem.F.plainAttrs_list PySem.F.slot_list_extend PySem.F.type_list_extend mt_extend (pv 5) (pa_cons (pe_lst (pa_cons (pe_tup (pa_cons (pe_op op_cat (pe_lst (pa_cons pe_str (pa_cons pe_str pa_nil))) (pv 4)) (pa_cons pe_int pa_nil))) (pa_cons (pe_tup (pa_cons (pe_op op_cat (pe_lst (pa_cons pe_str (pa_cons (pe_op op_addS (pe_op op_addS (pv 3) pe_str) (pv 2)) pa_nil))) (pv 4)) (pa_cons pe_int pa_nil))) pa_nil))) pa_nil)))
      (pss_cons (ps_expr (pe_bm PySem.F.plainAttrs_list PySem.F.slot_list_extend PySem.F.type_list_extend mt_extend (pv 5) (pa_cons (pe_lst (pa_cons (pe_tup (pa_cons (pe_op op_cat (pe_lst (pa_cons pe_str (pa_cons pe_str pa_nil))) (pv 4)) (pa_cons pe_int pa_nil))) (pa_cons (pe_tup (pa_cons (pe_op op_cat (pe_lst (pa_cons pe_str (pa_cons pe_str pa_nil))) (pv 4)) (pa_cons pe_int pa_nil))) pa_nil))) pa_nil)))
      (pss_one (ps_ret (pe_op op_cat (pv 5) (pe_lst (pa_cons (pe_tup (pa_cons (pe_op op_cat (pe_lst (pa_cons pe_str (pa_cons (pv 3) (pa_cons (pv 3) pa_nil)))) (pv 4)) (pa_cons pe_int pa_nil))) (pa_cons (pe_tup (pa_cons (pe_op op_cat (pe_op op_cat (pe_lst (pa_cons pe_str (pa_cons (pv 3) pa_nil))) (pv 4)) (pe_lst (pa_cons pe_str pa_nil))) (pa_cons pe_int pa_nil))) pa_nil))))))))))))))), ?_⟩
    obtain ⟨N, a, b, ns, rfl, hN, O, e2, q⟩ := h
    have zz := small_z
    have la : a.length ≤ 8 := O.wd a (List.mem_of_mem_take (by rw [e2]; simp))
    have lb : b.length ≤ 8 := O.wd b (List.mem_of_mem_take (by rw [e2]; simp))
    have lA := ask_len la
    have lP := part_len la lb
    refine ⟨.ref N, rfl, 2, rfl, N, _, rfl, SqL.of hN, fun P2 nP => ?_⟩
    rw [show (2 : Int) = ((2 : Nat) : Int) from rfl, cutL_to (by rw [List.length_map, O.len]; decide), ← List.map_take, e2]
    have sP : Same H (upd H P2 (.lst ([a, b].map V.str))) := sameU nP
    refine ⟨P2, _, rfl, SqL.of upd_same, rfl, _, _, rfl, _, _, rfl, rfl, ?_⟩
    generalize L2.upd H P2 (.lst ([a, b].map V.str)) = G0 at sP ⊢
    refine (st_ask (i := 1) rfl la) _ _ ?_
    refine (ls_lst (ss_cons (st_part (i := 2) (j := 1) rfl rfl la lb) ss_nil)) G0 _ same_refl fun G1 T s1 nT hT => ?_
    refine ⟨_, _, rfl, ?_⟩
    dsimp only
    refine seq_set (fa_lst (cas_cons (ca_tup (ls_cat (ls_lst (ss_cons st_c (ss_cons (st_v rfl) ss_nil))).t (ls_v rfl hT) (by show 2 + 1 ≤ sizeLine; decide))) (cas_cons (ca_tup (ls_cat (ls_lst (ss_cons st_c (ss_cons (st_v rfl) ss_nil))).t (ls_v rfl hT) (by show 2 + 1 ≤ sizeLine; decide))) (cas_cons (ca_tup (ls_cat (ls_lst (ss_cons st_c (ss_cons (st_v rfl) ss_nil))).t (ls_v rfl hT) (by show 2 + 1 ≤ sizeLine; decide))) cas_nil))) (by show 3 ≤ sizeLine; decide) fun G2 F s2 nF f2 => ?_)
    have nTF : T ≠ F := ne_of_none hT nF
    have hT2 := s2 _ _ hT
    have sH : Same H G1 := sP.trans s1
    have nFH : H F = none := sn_of sH nF
    refine fa_ext (i := 5) rfl f2 (cas_cons (ca_tup (ls_cat (ls_lst (ss_cons st_c (ss_cons (st_v rfl) ss_nil))).t (ls_v rfl hT2) (by show 2 + 1 ≤ sizeLine; decide))) (cas_cons (ca_tup (ls_cat (ls_lst (ss_cons st_c (ss_cons (st_v rfl) ss_nil))).t (ls_v rfl hT2) (by show 2 + 1 ≤ sizeLine; decide))) (cas_cons (ca_tup (ls_cat (ls_lst (ss_cons st_c (ss_cons (st_v rfl) ss_nil))).t (ls_v rfl hT2) (by show 2 + 1 ≤ sizeLine; decide))) cas_nil))) (by show 3 + 3 ≤ sizeLine; decide) fun G3 B3 f3 => ?_
    have hT3 := B3 _ _ nTF hT2
    refine fa_ext (i := 5) rfl f3 (cas_cons (ca_tup (ls_cat (ls_lst (ss_cons st_c (ss_cons (st_v rfl) ss_nil))).t (ls_v rfl hT3) (by show 2 + 1 ≤ sizeLine; decide))) (cas_cons (ca_tup (ls_cat (ls_lst (ss_cons st_c (ss_cons (st_v rfl) ss_nil))).t (ls_v rfl hT3) (by show 2 + 1 ≤ sizeLine; decide))) (cas_cons (ca_tup (ls_cat (ls_lst (ss_cons st_c (ss_cons (st_v rfl) ss_nil))).t (ls_v rfl hT3) (by show 2 + 1 ≤ sizeLine; decide))) cas_nil))) (by show 6 + 3 ≤ sizeLine; decide) fun G4 B4 f4 => ?_
    have hT4 := B4 _ _ nTF hT3
    refine fa_ext (i := 5) rfl f4 (cas_cons (ca_tup (ls_lst (ss_cons st_c ss_nil))) (cas_cons (ca_tup (ls_lst (ss_cons st_c (ss_cons (st_v rfl) ss_nil)))) (cas_cons (ca_tup (ls_cat (ls_lst (ss_cons st_c ss_nil)).t (ls_v rfl hT4) (by show 1 + 1 ≤ sizeLine; decide))) (cas_cons (ca_tup (ls_cat (ls_lst (ss_cons (st_v rfl) ss_nil)).t (ls_v rfl hT4) (by show 1 + 1 ≤ sizeLine; decide))) cas_nil)))) (by show 9 + 4 ≤ sizeLine; decide) fun G5 B5 f5 => ?_
    have hT5 := B5 _ _ nTF hT4
    refine fa_app (i := 5) rfl f5 (ca_tup (ls_lst (ss_cons st_c ss_nil))) (by show 13 < sizeLine; decide) fun G6 B6 f6 => ?_
    have hT6 := B6 _ _ nTF hT5
    refine fa_ext (i := 5) rfl f6 (cas_cons (ca_tup (ls_cat (ls_lst (ss_cons st_c (ss_cons st_c ss_nil))).t (ls_v rfl hT6) (by show 2 + 1 ≤ sizeLine; decide))) (cas_cons (ca_tup (ls_cat (ls_lst (ss_cons st_c (ss_cons (st_add (st_add (st_v rfl) st_c (by rw [lit5.2.2.2]; omega)) (st_v rfl) (by rw [len_appS, lit5.2.2.2]; omega)) ss_nil))).t (ls_v rfl hT6) (by show 2 + 1 ≤ sizeLine; decide))) cas_nil)) (by show 14 + 2 ≤ sizeLine; decide) fun G7 B7 f7 => ?_
    have hT7 := B7 _ _ nTF hT6
    refine fa_ext (i := 5) rfl f7 (cas_cons (ca_tup (ls_cat (ls_lst (ss_cons st_c (ss_cons st_c ss_nil))).t (ls_v rfl hT7) (by show 2 + 1 ≤ sizeLine; decide))) (cas_cons (ca_tup (ls_cat (ls_lst (ss_cons st_c (ss_cons st_c ss_nil))).t (ls_v rfl hT7) (by show 2 + 1 ≤ sizeLine; decide))) cas_nil)) (by show 16 + 2 ≤ sizeLine; decide) fun G8 B8 f8 => ?_
    have hT8 := B8 _ _ nTF hT7
    refine ret_in (fa_cat (i := 5) rfl f8 (cas_cons (ca_tup (ls_cat (ls_lst (ss_cons st_c (ss_cons (st_v rfl) (ss_cons (st_v rfl) ss_nil)))).t (ls_v rfl hT8) (by show 3 + 1 ≤ sizeLine; decide))) (cas_cons (ca_tup (ls_cat (ls_cat (ls_lst (ss_cons st_c (ss_cons (st_v rfl) ss_nil))).t (ls_v rfl hT8) (by show 2 + 1 ≤ sizeLine; decide)).t (ls_lst (ss_cons st_c ss_nil)).t (by show 3 + 1 ≤ sizeLine; decide))) cas_nil)) (by show 18 + 2 ≤ sizeLine; decide) fun G9 R s9 nR f9 => ?_)
    have BB : But F G2 G8 := fun c o n e => B8 _ _ n (B7 _ _ n (B6 _ _ n (B5 _ _ n (B4 _ _ n (B3 _ _ n e)))))
    refine q G9 R (fun c o e => s9 _ _ (BB _ _ (ne_of_none e nFH) (s2 _ _ (sH _ _ e)))) ?_ f9
    cases er : H R with
    | none => rfl
    | some o =>
      have z := BB _ _ (ne_of_none er nFH) (s2 _ _ (sH _ _ er))
      rw [nR] at z
      cases z
theorem ok_law_share_cases {f : Addr} {fd : FuncData} (F : Fun K "_law_share_cases" "_law_share_cases" s_law_share_cases f fd) : FnOk P w K mg base CX0 1 f fd ["_law_names_here"] (sp_law_share_cases K) := by
  refine F.ok sc_law_share_cases (fun vs H Q E h => ?_) (fun cdv A outer s H vs Q E hr h => ?_)
  · obtain ⟨N, a, b, ns, rfl, _⟩ := h
    rfl
  · refine ⟨_, (pss_cons (ps_asg (pe_slice sl_list (pv 0) po_none (po_some pe_int)) (pg_unl rfl (pgs_cons (pg_name (i := 1) sc_law_share_cases.nd rfl (.inl rfl)) (pgs_cons (pg_name (i := 2) sc_law_share_cases.nd rfl (.inl rfl)) pgs_nil))))
      (pss_cons (ps_par3 (i := 3) (j := 4) (l := 5) (by rfl) sc_law_share_cases.nd rfl rfl rfl (by decide) (by decide) (by decide) rfl rfl rfl (pa_cons (pe_lst (pa_cons pe_str (pa_cons (pe_op op_addS pe_str (pv 1)) pa_nil))) (pa_cons (pe_op op_addS (pe_op op_addS (pe_op op_addS pe_str (pv 2)) pe_str) (pv 1)) (pa_cons (pe_lst pa_nil) pa_nil))) (by rfl))
      (pss_cons (ps_for PassesOwn.never rfl (pi_tup (pe_tup (pa_cons pe_str (pa_cons pe_str (pa_cons pe_str (pa_cons pe_str (pa_cons pe_str (pa_cons pe_str (pa_cons pe_str (pa_cons pe_str pa_nil)))))))))) (pg_name (i := 6) sc_law_share_cases.nd rfl (.inl rfl))
        (pss_one (ps_expr (pe_bm PySem.F.plainAttrs_list PySem.F.slot_list_append PySem.F.type_list_append mt_append (pv 5) (pa_cons (pe_tup (pa_cons (pe_op op_cat (pv 3) (pe_lst (pa_cons (pe_op op_addS (pv 4) (pv 6)) pa_nil))) (pa_cons pe_int pa_nil))) pa_nil)))))
      (pss_cons (ps_for PassesOwn.never rfl (pi_tup (pe_tup (pa_cons pe_str (pa_cons pe_str (pa_cons pe_str (pa_cons pe_str (pa_cons pe_str (pa_cons pe_str (pa_cons pe_str (pa_cons pe_str (pa_cons pe_str pa_nil))))))))))) (pg_name (i := 6) sc_law_share_cases.nd rfl (.inl rfl))
        (pss_one (ps_expr (pe_bm PySem.F.plainAttrs_list PySem.F.slot_list_append PySem.F.type_list_append mt_append (pv 5) (pa_cons (pe_tup (pa_cons (pe_op op_cat (pv 3) (pe_lst (pa_cons (pe_op op_addS (pv 4) (pv 6)) pa_nil))) (pa_cons pe_int pa_nil))) pa_nil)))))
      (pss_cons (ps_for PassesOwn.never rfl (pi_tup (pe_tup (pa_cons pe_str (pa_cons pe_str (pa_cons pe_str (pa_cons pe_str (pa_cons pe_str (pa_cons pe_str (pa_cons pe_str pa_nil))))))))) (pg_name (i := 6) sc_law_share_cases.nd rfl (.inl rfl))
        (pss_one (ps_expr (pe_bm PySem.F.plainAttrs_list PySem.F.slot_list_append PySem.F.type_list_append mt_append (pv 5) (pa_cons (pe_tup (pa_cons (pe_op op_cat (pv 3) (pe_lst (pa_cons (pe_op op_addS (pv 4) (pv 6)) pa_nil))) (pa_cons pe_int pa_nil))) pa_nil)))))
      (pss_one (ps_ret (pv 5)))))))), ?_⟩
    obtain ⟨N, a, b, ns, rfl, hN, O, e2, q⟩ := h
    have zz := small_z
    have la : a.length ≤ 8 := O.wd a (List.mem_of_mem_take (by rw [e2]; simp))
    have lb : b.length ≤ 8 := O.wd b (List.mem_of_mem_take (by rw [e2]; simp))
    have lA := ask_len la
    have lP := part_len la lb
    have tails_len : ∀ t, t ∈ tails0 ∨ t ∈ tails1 ∨ t ∈ tails2 → t.length ≤ 20 := fun t m => tails_len t (by rcases m with m | m | m <;> simp [m])
    refine ⟨.ref N, rfl, 2, rfl, N, _, rfl, SqL.of hN, fun P2 nP => ?_⟩
    rw [show (2 : Int) = ((2 : Nat) : Int) from rfl, cutL_to (by rw [List.length_map, O.len]; decide), ← List.map_take, e2]
    have sP : Same H (upd H P2 (.lst ([a, b].map V.str))) := sameU nP
    refine ⟨P2, _, rfl, SqL.of upd_same, rfl, _, _, rfl, _, _, rfl, rfl, ?_⟩
    generalize L2.upd H P2 (.lst ([a, b].map V.str)) = G0 at sP ⊢
    dsimp only
    unfold tSeq tPar3
    refine tc_ln (σ := [some (.ref N), some (.str a), some (.str b), none, none, none, none]) (ls_lst (ss_cons st_c (ss_cons (st_ask (i := 1) rfl la) ss_nil))) fun G1 L s1 nL hL => ?_
    refine tc_st (st_part (i := 2) (j := 1) rfl rfl la lb) ?_
    refine ⟨by show 0 ≤ sizeLine; decide, fun F nF => ?_⟩
    refine ⟨_, _, _, rfl, ?_⟩
    dsimp only
    have sF : Same G1 (upd G1 F (.lst [])) := sameU nF
    have f0 : FAt F (upd G1 F (.lst [])) [] := ⟨[], upd_same, .nil⟩
    have nLF : L ≠ F := ne_of_none hL nF
    have hL0 := sF _ _ hL
    have sH : Same H (upd G1 F (.lst [])) := (sP.trans s1).trans sF
    have nFH : H F = none := sn_of (sP.trans s1) nF
    generalize L2.upd G1 F (.lst []) = G3 at f0 hL0 sH ⊢
    refine ⟨by show 8 ≤ sizeLine; decide, fun U1 nU1 => ?_⟩
    have sU1 : Same G3 (upd G3 U1 (.tup (tails0.map V.str))) := sameU nU1
    have hU1 : (upd G3 U1 (.tup (tails0.map V.str))) U1 = some (.tup (tails0.map V.str)) := upd_same
    have f1 : FAt F (upd G3 U1 (.tup (tails0.map V.str))) (([] : List Cs)) := FAt.but (L := F) f0 sU1
    have hL1 := sU1 _ _ hL0
    have nUF1 : U1 ≠ F := by
      obtain ⟨vs', hF', _⟩ := f0
      exact (ne_of_none hF' nU1).symm
    refine ⟨U1, rfl, ⟨_, SqT.of hU1⟩, ?_⟩
    refine for_it (walk_tup (xs := tails0.map V.str)) (fun i σ H' => But F (upd G3 U1 (.tup (tails0.map V.str))) H' ∧ FAt F H' (([] : List Cs) ++ ((tails0.take i).map fun t => (([("in 20 near" : Str), askS a] ++ [partS b a ++ t], 0) : Cs))) ∧ ∃ s6, σ = [some (.ref N), some (.str a), some (.str b), some (.ref L), some (.str (partS b a)), some (.ref F), s6]) ⟨fun _ _ _ e => e, by rw [List.take_zero, List.map_nil, List.append_nil]; exact f1, _, rfl⟩ (fun i σ H' _ z => SqT.of (z.1 _ _ nUF1 hU1)) ?_ ?_
    · rintro i y σ H1 H2 hi ⟨B, f, s6, rfl⟩ ⟨rfl, hk⟩
      rw [List.getElem?_map] at hk
      obtain ⟨tt, et, rfl⟩ := Option.map_eq_some_iff.mp hk
      have lt := tails_len _ (.inl (List.mem_of_getElem? et))
      refine fa_app (i := 5) rfl f (ca_tup (n := 0) (ls_cat (ls_v rfl (B _ _ nLF hL1)) (ls_lst (ss_cons (st_add (st_v rfl) (st_v rfl) (by omega)) ss_nil)).t (by show 2 + 1 ≤ sizeLine; decide))) ?_ fun H3 B3 f3 => ?_
      · rw [List.length_append, List.length_map, List.length_take]
        exact Nat.lt_of_lt_of_le (show _ < 1000 by show 0 + min i 8 < 1000; omega) zz
      · refine ⟨fun c o n e => B3 _ _ n (B _ _ n e), ?_, _, rfl⟩
        rw [List.take_add_one, et, List.map_append, ← List.append_assoc]
        exact f3
    rintro σ H1z ⟨B1, g1, s6, rfl⟩
    rw [List.length_map, List.take_length] at g1
    have hL1z := B1 _ _ nLF hL1
    have BG1 : But F G3 H1z := fun c o n e => B1 _ _ n (sU1 _ _ e)
    dsimp only
    refine ⟨by show 9 ≤ sizeLine; decide, fun U2 nU2 => ?_⟩
    have sU2 : Same H1z (upd H1z U2 (.tup (tails1.map V.str))) := sameU nU2
    have hU2 : (upd H1z U2 (.tup (tails1.map V.str))) U2 = some (.tup (tails1.map V.str)) := upd_same
    have f2 : FAt F (upd H1z U2 (.tup (tails1.map V.str))) (([] : List Cs) ++ (tails0.map fun t => (([("in 20 near" : Str), askS a] ++ [partS b a ++ t], 0) : Cs))) := FAt.but (L := F) g1 sU2
    have hL2 := sU2 _ _ hL1z
    have nUF2 : U2 ≠ F := by
      obtain ⟨vs', hF', _⟩ := g1
      exact (ne_of_none hF' nU2).symm
    refine ⟨U2, rfl, ⟨_, SqT.of hU2⟩, ?_⟩
    refine for_it (walk_tup (xs := tails1.map V.str)) (fun i σ H' => But F (upd H1z U2 (.tup (tails1.map V.str))) H' ∧ FAt F H' (([] : List Cs) ++ (tails0.map fun t => (([("in 20 near" : Str), askS a] ++ [partS b a ++ t], 0) : Cs)) ++ ((tails1.take i).map fun t => (([("in 20 near" : Str), askS a] ++ [partS b a ++ t], 3) : Cs))) ∧ ∃ s6, σ = [some (.ref N), some (.str a), some (.str b), some (.ref L), some (.str (partS b a)), some (.ref F), s6]) ⟨fun _ _ _ e => e, by rw [List.take_zero, List.map_nil, List.append_nil]; exact f2, _, rfl⟩ (fun i σ H' _ z => SqT.of (z.1 _ _ nUF2 hU2)) ?_ ?_
    · rintro i y σ H1 H2 hi ⟨B, f, s6, rfl⟩ ⟨rfl, hk⟩
      rw [List.getElem?_map] at hk
      obtain ⟨tt, et, rfl⟩ := Option.map_eq_some_iff.mp hk
      have lt := tails_len _ (.inr (.inl (List.mem_of_getElem? et)))
      refine fa_app (i := 5) rfl f (ca_tup (n := 3) (ls_cat (ls_v rfl (B _ _ nLF hL2)) (ls_lst (ss_cons (st_add (st_v rfl) (st_v rfl) (by omega)) ss_nil)).t (by show 2 + 1 ≤ sizeLine; decide))) ?_ fun H3 B3 f3 => ?_
      · rw [List.length_append, List.length_map, List.length_take]
        exact Nat.lt_of_lt_of_le (show _ < 1000 by show (0 + 8) + min i 9 < 1000; omega) zz
      · refine ⟨fun c o n e => B3 _ _ n (B _ _ n e), ?_, _, rfl⟩
        rw [List.take_add_one, et, List.map_append, ← List.append_assoc]
        exact f3
    rintro σ H2z ⟨B2, g2, s6, rfl⟩
    rw [List.length_map, List.take_length] at g2
    have hL2z := B2 _ _ nLF hL2
    have BG2 : But F H1z H2z := fun c o n e => B2 _ _ n (sU2 _ _ e)
    dsimp only
    refine ⟨by show 7 ≤ sizeLine; decide, fun U3 nU3 => ?_⟩
    have sU3 : Same H2z (upd H2z U3 (.tup (tails2.map V.str))) := sameU nU3
    have hU3 : (upd H2z U3 (.tup (tails2.map V.str))) U3 = some (.tup (tails2.map V.str)) := upd_same
    have f3 : FAt F (upd H2z U3 (.tup (tails2.map V.str))) ((([] : List Cs) ++ (tails0.map fun t => (([("in 20 near" : Str), askS a] ++ [partS b a ++ t], 0) : Cs))) ++ (tails1.map fun t => (([("in 20 near" : Str), askS a] ++ [partS b a ++ t], 3) : Cs))) := FAt.but (L := F) g2 sU3
    have hL3 := sU3 _ _ hL2z
    have nUF3 : U3 ≠ F := by
      obtain ⟨vs', hF', _⟩ := g2
      exact (ne_of_none hF' nU3).symm
    refine ⟨U3, rfl, ⟨_, SqT.of hU3⟩, ?_⟩
    refine for_it (walk_tup (xs := tails2.map V.str)) (fun i σ H' => But F (upd H2z U3 (.tup (tails2.map V.str))) H' ∧ FAt F H' ((([] : List Cs) ++ (tails0.map fun t => (([("in 20 near" : Str), askS a] ++ [partS b a ++ t], 0) : Cs))) ++ (tails1.map fun t => (([("in 20 near" : Str), askS a] ++ [partS b a ++ t], 3) : Cs)) ++ ((tails2.take i).map fun t => (([("in 20 near" : Str), askS a] ++ [partS b a ++ t], 3) : Cs))) ∧ ∃ s6, σ = [some (.ref N), some (.str a), some (.str b), some (.ref L), some (.str (partS b a)), some (.ref F), s6]) ⟨fun _ _ _ e => e, by rw [List.take_zero, List.map_nil, List.append_nil]; exact f3, _, rfl⟩ (fun i σ H' _ z => SqT.of (z.1 _ _ nUF3 hU3)) ?_ ?_
    · rintro i y σ H1 H2 hi ⟨B, f, s6, rfl⟩ ⟨rfl, hk⟩
      rw [List.getElem?_map] at hk
      obtain ⟨tt, et, rfl⟩ := Option.map_eq_some_iff.mp hk
      have lt := tails_len _ (.inr (.inr (List.mem_of_getElem? et)))
      refine fa_app (i := 5) rfl f (ca_tup (n := 3) (ls_cat (ls_v rfl (B _ _ nLF hL3)) (ls_lst (ss_cons (st_add (st_v rfl) (st_v rfl) (by omega)) ss_nil)).t (by show 2 + 1 ≤ sizeLine; decide))) ?_ fun H3 B3 f3 => ?_
      · rw [List.length_append, List.length_map, List.length_take]
        exact Nat.lt_of_lt_of_le (show _ < 1000 by show ((0 + 8) + 9) + min i 7 < 1000; omega) zz
      · refine ⟨fun c o n e => B3 _ _ n (B _ _ n e), ?_, _, rfl⟩
        rw [List.take_add_one, et, List.map_append, ← List.append_assoc]
        exact f3
    rintro σ H3z ⟨B3, g3, s6, rfl⟩
    rw [List.length_map, List.take_length] at g3
    have hL3z := B3 _ _ nLF hL3
    have BG3 : But F H2z H3z := fun c o n e => B3 _ _ n (sU3 _ _ e)
    have BB : But F G3 H3z := fun c o n e => BG3 _ _ n (BG2 _ _ n (BG1 _ _ n e))
    dsimp only
    refine ret_in ⟨.ref F, rfl, q H3z F (fun c o e => BB _ _ (ne_of_none e nFH) (sH _ _ e)) nFH ?_⟩
    exact g3
end
end Uq

namespace Uq
open PySem PySem.Spec PyProof.Rows L2

open TL
/-! ### the cases by hand: parts beneath one another -/
def headT (n0 : Str) : List Str := ["in 10 near", askS n0]
def chainT (n0 n1 n2 n3 : Str) : List Str := [partS n1 n0, partS n2 n1, partS n3 n2]
def wideT (n0 : Str) (ms : List Str) : List Str := ms.map fun n => partS n n0
def nineT (n0 n1 n2 n3 n4 n5 n6 n7 n8 n9 : Str) : List Str := (wideT n0 [n1, n2, n3, n4, n5, n6, n7, n8, n9]).take 5 ++ [partS n6 n1, partS n7 n2, partS n8 n3, partS n9 n4]
def treeC (n0 n1 n2 n3 n4 n5 n6 n7 n8 n9 : Str) : List Cs :=
  [(headT n0 ++ chainT n0 n1 n2 n3, 0), (headT n0 ++ chainT n0 n1 n2 n3 ++ [partS n4 n3], 6), (headT n0 ++ (wideT n0 [n1, n2, n3, n4, n5, n6, n7, n8, n9]).take 6, 0)] ++
  [(headT n0 ++ (wideT n0 [n1, n2, n3, n4, n5, n6, n7, n8, n9]).take 7, 9), (headT n0 ++ (chainT n0 n1 n2 n3).drop 1, 3), (headT n0 ++ ((chainT n0 n1 n2 n3).take 1 ++ (chainT n0 n1 n2 n3).take 1), 4)] ++
  [(headT n0 ++ [partS n0 n0], 3)] ++ [(headT n0 ++ [partS n1 n1], 3)] ++ [(headT n0 ++ [("part " : Str) ++ n1 ++ " of nobody"], 3)] ++
  [(headT n0 ++ nineT n0 n1 n2 n3 n4 n5 n6 n7 n8 n9, 0)] ++ [(headT n0 ++ nineT n0 n1 n2 n3 n4 n5 n6 n7 n8 n9 ++ [("part q of " : Str) ++ n0], 12)] ++
  [(headT n0 ++ (wideT n0 [n1, n2, n3, n4, n5, n6, n7, n8, n9]).take 6 ++ [partS n7 n1], 0)] ++
  [(headT n0 ++ (wideT n0 [n1, n2, n3, n4, n5, n6, n7, n8, n9]).take 6 ++ [partS n7 n1, partS n8 n1], 10)]
def sp_law_tree_cases (K : PySem.W.Frag) : Sp := fun vs H Q _ => ∃ (N : Addr) (n0 n1 n2 n3 n4 n5 n6 n7 n8 n9 : Str), vs = [.ref N] ∧ H N = some (.lst ([n0, n1, n2, n3, n4, n5, n6, n7, n8, n9].map V.str)) ∧ (∀ n ∈ [n0, n1, n2, n3, n4, n5, n6, n7, n8, n9], n.length ≤ 8) ∧ ∀ H' R, Same H H' → H R = none → FAt R H' (treeC n0 n1 n2 n3 n4 n5 n6 n7 n8 n9) → Q (.ref R) H'
theorem lit6 : (" of nobody" : Str).length = 10 ∧ ("part q of " : Str).length = 10 := by decide +kernel
section
variable {P : Program} {w : World} {K : PySem.W.Frag} {mg : Str → Option Value} {base : Heap}
theorem ok_law_tree_cases {f : Addr} {fd : FuncData} (F : Fun K "_law_tree_cases" "_law_tree_cases" s_law_tree_cases f fd) (m_range : mg "range" = none) : FnOk P w K mg base CX0 1 f fd ["_law_names_here"] (sp_law_tree_cases K) := by
  refine F.ok sc_law_tree_cases (fun vs H Q E h => ?_) (fun cdv A outer s H vs Q E hr h => ?_)
  · obtain ⟨N, n0, n1, n2, n3, n4, n5, n6, n7, n8, n9, rfl, _⟩ := h
    rfl
  · refine ⟨_, (pss_cons (ps_asg (pe_slice sl_list (pv 0) po_none (po_some pe_int)) (pg_unl rfl (pgs_cons (pg_name (i := 1) sc_law_tree_cases.nd rfl (.inr rfl)) (pgs_cons (pg_name (i := 2) sc_law_tree_cases.nd rfl (.inr rfl)) (pgs_cons (pg_name (i := 3) sc_law_tree_cases.nd rfl (.inl rfl)) (pgs_cons (pg_name (i := 4) sc_law_tree_cases.nd rfl (.inl rfl)) (pgs_cons (pg_name (i := 5) sc_law_tree_cases.nd rfl (.inl rfl)) pgs_nil)))))))
      (pss_cons (ps_set (i := 6) sc_law_tree_cases.nd rfl (.inl rfl) (pe_lst (pa_cons pe_str (pa_cons (pe_op op_addS pe_str (pv 1)) pa_nil))))
      (pss_cons (ps_set (i := 7) sc_law_tree_cases.nd rfl (.inl rfl) (pe_lst (pa_cons (pe_op op_addS (pe_op op_addS (pe_op op_addS pe_str (pv 2)) pe_str) (pv 1)) (pa_cons (pe_op op_addS (pe_op op_addS (pe_op op_addS pe_str (pv 3)) pe_str) (pv 2)) (pa_cons (pe_op op_addS (pe_op op_addS (pe_op op_addS pe_str (pv 4)) pe_str) (pv 3)) pa_nil)))))
      (pss_cons (ps_setLc (i := 8) (own := [("_law_name", 11)]) (g := gName 11) rfl sc_law_tree_cases.nd rfl rfl (sw_true rfl rfl rfl (by decide +kernel)) (pi_list (pe_slice sl_list (pv 0) (po_some pe_int) po_none)) (blkOk_by (own := [("_law_name", 11)]) (N := N_law_tree_cases) (sc := defScope s_law_tree_cases) (by decide +kernel)) (fun _ _ _ _ _ => (pg_name (i := 11) sc_law_tree_cases.nd rfl (.inl rfl))) (fun _ _ _ _ _ => pts_nil) (fun _ _ _ _ _ => (pe_op op_addS (pe_op op_addS (pe_op op_addS pe_str (pv 11)) pe_str) (pv 1))))
      (pss_cons (ps_set (i := 9) sc_law_tree_cases.nd rfl (.inl rfl) (pe_lst (pa_cons (pe_tup (pa_cons (pe_op op_cat (pv 6) (pv 7)) (pa_cons pe_int pa_nil))) (pa_cons (pe_tup (pa_cons (pe_op op_cat (pe_op op_cat (pv 6) (pv 7)) (pe_lst (pa_cons (pe_op op_addS (pe_op op_addS (pe_op op_addS pe_str (pv 5)) pe_str) (pv 4)) pa_nil))) (pa_cons pe_int pa_nil))) (pa_cons (pe_tup (pa_cons (pe_op op_cat (pv 6) (pe_slice sl_list (pv 8) po_none (po_some pe_int))) (pa_cons pe_int pa_nil))) pa_nil)))))
      (pss_cons (ps_expr (pe_bm PySem.F.plainAttrs_list PySem.F.slot_list_extend PySem.F.type_list_extend mt_extend (pv 9) (pa_cons (pe_lst (pa_cons (pe_tup (pa_cons (pe_op op_cat (pv 6) (pe_slice sl_list (pv 8) po_none (po_some pe_int))) (pa_cons pe_int pa_nil))) (pa_cons (pe_tup (pa_cons (pe_op op_cat (pv 6) (pe_slice sl_list (pv 7) (po_some pe_int) po_none)) (pa_cons pe_int pa_nil))) (pa_cons (pe_tup (pa_cons (pe_op op_cat (pv 6) (pe_op op_rep (pe_slice sl_list (pv 7) po_none (po_some pe_int)) pe_int)) (pa_cons pe_int pa_nil))) pa_nil)))) pa_nil)))
      (pss_cons (ps_expr (pe_bm PySem.F.plainAttrs_list PySem.F.slot_list_append PySem.F.type_list_append mt_append (pv 9) (pa_cons (pe_tup (pa_cons (pe_op op_cat (pv 6) (pe_lst (pa_cons (pe_op op_addS (pe_op op_addS (pe_op op_addS pe_str (pv 1)) pe_str) (pv 1)) pa_nil))) (pa_cons pe_int pa_nil))) pa_nil)))
      (pss_cons (ps_expr (pe_bm PySem.F.plainAttrs_list PySem.F.slot_list_append PySem.F.type_list_append mt_append (pv 9) (pa_cons (pe_tup (pa_cons (pe_op op_cat (pv 6) (pe_lst (pa_cons (pe_op op_addS (pe_op op_addS (pe_op op_addS pe_str (pv 2)) pe_str) (pv 2)) pa_nil))) (pa_cons pe_int pa_nil))) pa_nil)))
      (pss_cons (ps_expr (pe_bm PySem.F.plainAttrs_list PySem.F.slot_list_append PySem.F.type_list_append mt_append (pv 9) (pa_cons (pe_tup (pa_cons (pe_op op_cat (pv 6) (pe_lst (pa_cons (pe_op op_addS (pe_op op_addS pe_str (pv 2)) pe_str) pa_nil))) (pa_cons pe_int pa_nil))) pa_nil)))
      (pss_cons (ps_set (i := 10) sc_law_tree_cases.nd rfl (.inl rfl) (pe_op op_cat (pe_slice sl_list (pv 8) po_none (po_some pe_int)) (pe_lc (own := [("_law_at", 12)]) (g := gName 12) rfl sc_law_tree_cases.nd (pi_range1 (by rfl) m_range (pa_cons pe_int pa_nil)) (blkOk_by (own := [("_law_at", 12)]) (N := N_law_tree_cases) (sc := defScope s_law_tree_cases) (by decide +kernel)) (fun _ _ _ _ _ => (pg_name (i := 12) sc_law_tree_cases.nd rfl (.inl rfl))) (fun _ _ _ _ _ => pts_nil) (fun _ _ _ _ _ => (pe_op op_addS (pe_op op_addS (pe_op op_addS pe_str (pe_ix (r := rIxL K) ix_list (pv 0) (pe_op op_add (pv 12) pe_int) (fun _ _ => rfl))) pe_str) (pe_ix (r := rIxL K) ix_list (pv 0) (pe_op op_add (pv 12) pe_int) (fun _ _ => rfl)))))))
      (pss_cons (ps_expr (pe_bm PySem.F.plainAttrs_list PySem.F.slot_list_append PySem.F.type_list_append mt_append (pv 9) (pa_cons (pe_tup (pa_cons (pe_op op_cat (pv 6) (pv 10)) (pa_cons pe_int pa_nil))) pa_nil)))
      (pss_cons (ps_expr (pe_bm PySem.F.plainAttrs_list PySem.F.slot_list_append PySem.F.type_list_append mt_append (pv 9) (pa_cons (pe_tup (pa_cons (pe_op op_cat (pe_op op_cat (pv 6) (pv 10)) (pe_lst (pa_cons (pe_op op_addS pe_str (pv 1)) pa_nil))) (pa_cons pe_int pa_nil))) pa_nil)))
      (pss_cons (ps_expr (pe_bm PySem.F.plainAttrs_list PySem.F.slot_list_append PySem.F.type_list_append mt_append (pv 9) (pa_cons (pe_tup (pa_cons (pe_op op_cat (pe_op op_cat (pv 6) (pe_slice sl_list (pv 8) po_none (po_some pe_int))) (pe_lst (pa_cons (pe_op op_addS (pe_op op_addS (pe_op op_addS pe_str (pe_ix ix_list (pv 0) pe_int (fun _ _ => rfl))) pe_str) (pv 2)) pa_nil))) (pa_cons pe_int pa_nil))) pa_nil)))
      (pss_one (ps_ret (pe_op op_cat (pv 9) (pe_lst (pa_cons (pe_tup (pa_cons (pe_op op_cat (pe_op op_cat (pv 6) (pe_slice sl_list (pv 8) po_none (po_some pe_int))) (pe_lc (own := [("_law_at", 12)]) (g := gName 12) rfl sc_law_tree_cases.nd (pi_tup (pe_tup (pa_cons pe_int (pa_cons pe_int pa_nil)))) (blkOk_by (own := [("_law_at", 12)]) (N := N_law_tree_cases) (sc := defScope s_law_tree_cases) (by decide +kernel)) (fun _ _ _ _ _ => (pg_name (i := 12) sc_law_tree_cases.nd rfl (.inl rfl))) (fun _ _ _ _ _ => pts_nil) (fun _ _ _ _ _ => (pe_op op_addS (pe_op op_addS (pe_op op_addS pe_str (pe_ix (r := rIxL K) ix_list (pv 0) (pv 12) (fun _ _ => rfl))) pe_str) (pv 2))))) (pa_cons pe_int pa_nil))) pa_nil)))))))))))))))))), ?_⟩
    obtain ⟨N, n0, n1, n2, n3, n4, n5, n6, n7, n8, n9, rfl, hN, wd, q⟩ := h
    have zz := small_z
    have l : ∀ n ∈ [n0, n1, n2, n3, n4, n5, n6, n7, n8, n9], n.length ≤ 8 := wd
    have l0 : n0.length ≤ 8 := wd n0 (by simp)
    have l1 : n1.length ≤ 8 := wd n1 (by simp)
    have l2 : n2.length ≤ 8 := wd n2 (by simp)
    have l3 : n3.length ≤ 8 := wd n3 (by simp)
    have l4 : n4.length ≤ 8 := wd n4 (by simp)
    have l5 : n5.length ≤ 8 := wd n5 (by simp)
    have l6 : n6.length ≤ 8 := wd n6 (by simp)
    have l7 : n7.length ≤ 8 := wd n7 (by simp)
    have l8 : n8.length ≤ 8 := wd n8 (by simp)
    have l9 : n9.length ≤ 8 := wd n9 (by simp)
    clear wd
    refine ⟨.ref N, rfl, 5, rfl, N, _, rfl, SqL.of hN, fun P2 nP => ?_⟩
    rw [show (5 : Int) = ((5 : Nat) : Int) from rfl, cutL_to (by show 5 ≤ 10; decide), ← List.map_take]
    have sP : Same H (upd H P2 (.lst (([n0, n1, n2, n3, n4, n5, n6, n7, n8, n9].take 5).map V.str))) := sameU nP
    refine ⟨P2, _, rfl, SqL.of (xs := [n0, n1, n2, n3, n4].map V.str) upd_same, rfl, _, _, rfl, _, _, rfl, _, _, rfl, _, _, rfl, _, _, rfl, rfl, ?_⟩
    have hN0 := sP _ _ hN
    generalize L2.upd H P2 (HO.lst (([n0, n1, n2, n3, n4, n5, n6, n7, n8, n9].take 5).map V.str)) = G0 at sP hN0 ⊢
    dsimp only
    refine seq_ln (ls_lst (ss_cons st_c (ss_cons (st_ask (i := 1) rfl l0) ss_nil))) fun G1 Hd s1 nHd hHd => ?_
    refine seq_ln (ls_lst (ss_cons (st_part (i := 2) (j := 1) rfl rfl l0 l1) (ss_cons (st_part (i := 3) (j := 2) rfl rfl l1 l2) (ss_cons (st_part (i := 4) (j := 3) rfl rfl l2 l3) ss_nil)))) fun G2 Ch s2 nCh hCh => ?_
    have hHd2 := s2 _ _ hHd
    have hN2 := s2 _ _ (s1 _ _ hN0)
    -- wide
    refine seq_set ?_
    refine ⟨.ref N, rfl, 1, rfl, N, _, rfl, SqL.of hN2, fun P3 nP3 => ?_⟩
    rw [show (1 : Int) = ((1 : Nat) : Int) from rfl, cutL_from (by show 1 ≤ 10; decide), ← List.map_drop]
    have s3 : Same G2 (upd G2 P3 (.lst (([n0, n1, n2, n3, n4, n5, n6, n7, n8, n9].drop 1).map V.str))) := sameU nP3
    have hP3 : (upd G2 P3 (.lst (([n0, n1, n2, n3, n4, n5, n6, n7, n8, n9].drop 1).map V.str))) P3 = some (.lst (([n1, n2, n3, n4, n5, n6, n7, n8, n9]).map V.str)) := upd_same
    generalize L2.upd G2 P3 (.lst (([n0, n1, n2, n3, n4, n5, n6, n7, n8, n9].drop 1).map V.str)) = G3 at s3 hP3 ⊢
    have hHd3 := s3 _ _ hHd2
    have hCh3 := s3 _ _ hCh
    have hN3 := s3 _ _ hN2
    refine ⟨P3, rfl, ⟨_, SqL.of hP3⟩, fun Wd nWd => ?_⟩
    refine lc_it (walk_list (xs := ([n1, n2, n3, n4, n5, n6, n7, n8, n9]).map V.str)) (fun i H' => Same G3 H' ∧ H' Wd = some (.lst ((wideT n0 (([n1, n2, n3, n4, n5, n6, n7, n8, n9]).take i)).map V.str))) ⟨sameU nWd, upd_same⟩ (fun i H' _ z => SqL.of (z.1 _ _ hP3)) ?_ ?_
    · rintro i y H1 H2 hi ⟨sx, hD⟩ ⟨rfl, hk⟩
      rw [List.getElem?_map] at hk
      obtain ⟨n, en, rfl⟩ := Option.map_eq_some_iff.mp hk
      have ln : n.length ≤ 8 := l n (List.mem_cons_of_mem _ (List.mem_of_getElem? en))
      refine ⟨rfl, (st_part (i := 11) (j := 1) rfl rfl l0 ln) _ _ ⟨_, hD, ?_, ?_, ?_⟩⟩
      · rw [List.length_map]
        unfold wideT
        rw [List.length_map, List.length_take]
        exact Nat.lt_of_lt_of_le (show _ < 1000 by show min i 9 < 1000; omega) zz
      · intro c2 o eb
        rw [upd_ne (ne_of_none eb nWd)]
        exact sx _ _ eb
      · rw [upd_same, List.take_add_one, en]
        unfold wideT
        rw [List.map_append, List.map_append]
        rfl
    rintro G4 ⟨s4, hWd⟩
    rw [List.length_map, List.take_length] at hWd
    have hHd4 := s4 _ _ hHd3
    have hCh4 := s4 _ _ hCh3
    have hN4 := s4 _ _ hN3
    have lW : (wideT n0 [n1, n2, n3, n4, n5, n6, n7, n8, n9]).length = 9 := rfl
    have hWd4 := hWd
    refine seq_set (fa_lst (cas_cons (ca_tup (ls_cat (ls_v (i := 6) rfl hHd4) (ls_v (i := 7) rfl hCh4) (by show 2 + 3 ≤ sizeLine; decide))) (cas_cons (ca_tup (ls_cat (ls_cat (ls_v (i := 6) rfl hHd4) (ls_v (i := 7) rfl hCh4) (by show 2 + 3 ≤ sizeLine; decide)).t (ls_lst (ss_cons (st_part (i := 5) (j := 4) rfl rfl l3 l4) ss_nil)).t (by show 5 + 1 ≤ sizeLine; decide))) (cas_cons (ca_tup (ls_cat (ls_v (i := 6) rfl hHd4) (ls_to (K := K) 6 (ls_v (i := 8) rfl hWd4) (by rw [lW]; decide)).t (by show 2 + 6 ≤ sizeLine; decide))) cas_nil))) (by show 3 ≤ sizeLine; decide) fun G5 F s5 nF f5 => ?_)
    have hHd5 := s5 _ _ hHd4
    have hCh5 := s5 _ _ hCh4
    have hWd5 := s5 _ _ hWd4
    have hN5 := s5 _ _ hN4
    have nHdF : Hd ≠ F := ne_of_none hHd4 nF
    have nChF : Ch ≠ F := ne_of_none hCh4 nF
    have nWdF : Wd ≠ F := ne_of_none hWd4 nF
    have nNF : N ≠ F := ne_of_none hN4 nF
    have sH4 : Same H G4 := (((sP.trans s1).trans s2).trans s3).trans s4
    have sH : Same H G5 := sH4.trans s5
    have nFH : H F = none := sn_of sH4 nF
    have BB5 : But F G5 G5 := fun _ _ _ e => e
    refine fa_ext (i := 9) rfl f5 (cas_cons (ca_tup (ls_cat (ls_v (i := 6) rfl hHd5) (ls_to (K := K) 7 (ls_v (i := 8) rfl hWd5) (by rw [lW]; decide)).t (by show 2 + 7 ≤ sizeLine; decide))) (cas_cons (ca_tup (ls_cat (ls_v (i := 6) rfl hHd5) (ls_from (K := K) 1 (ls_v (i := 7) rfl hCh5) (by show 1 ≤ 3; decide)).t (by show 2 + 2 ≤ sizeLine; decide))) (cas_cons (ca_tup (ls_cat (ls_v (i := 6) rfl hHd5) (ls_rep (ls_to (K := K) 1 (ls_v (i := 7) rfl hCh5) (by show 1 ≤ 3; decide)).t (by show 1 * 2 ≤ sizeLine; decide)).t (by show 2 + 2 ≤ sizeLine; decide))) cas_nil))) (by show 3 + 3 ≤ sizeLine; decide) fun G6 B6 f6 => ?_
    have hHd6 := B6 _ _ nHdF hHd5
    have hCh6 := B6 _ _ nChF hCh5
    have hWd6 := B6 _ _ nWdF hWd5
    have hN6 := B6 _ _ nNF hN5
    have BB6 : But F G5 G6 := fun c o n e => B6 _ _ n (BB5 _ _ n e)
    refine fa_app (i := 9) rfl f6 (ca_tup (ls_cat (ls_v (i := 6) rfl hHd6) (ls_lst (ss_cons (st_part (i := 1) (j := 1) rfl rfl l0 l0) ss_nil)).t (by show 2 + 1 ≤ sizeLine; decide))) (by show 6 < sizeLine; decide) fun G7 B7 f7 => ?_
    have hHd7 := B7 _ _ nHdF hHd6
    have hCh7 := B7 _ _ nChF hCh6
    have hWd7 := B7 _ _ nWdF hWd6
    have hN7 := B7 _ _ nNF hN6
    have BB7 : But F G5 G7 := fun c o n e => B7 _ _ n (BB6 _ _ n e)
    refine fa_app (i := 9) rfl f7 (ca_tup (ls_cat (ls_v (i := 6) rfl hHd7) (ls_lst (ss_cons (st_part (i := 2) (j := 2) rfl rfl l1 l1) ss_nil)).t (by show 2 + 1 ≤ sizeLine; decide))) (by show 7 < sizeLine; decide) fun G8 B8 f8 => ?_
    have hHd8 := B8 _ _ nHdF hHd7
    have hCh8 := B8 _ _ nChF hCh7
    have hWd8 := B8 _ _ nWdF hWd7
    have hN8 := B8 _ _ nNF hN7
    have BB8 : But F G5 G8 := fun c o n e => B8 _ _ n (BB7 _ _ n e)
    refine fa_app (i := 9) rfl f8 (ca_tup (ls_cat (ls_v (i := 6) rfl hHd8) (ls_lst (ss_cons (st_add (st_add st_c (st_v (i := 2) rfl) (by rw [lit5.1]; omega)) st_c (by rw [len_appS, lit5.1, lit6.1]; omega)) ss_nil)).t (by show 2 + 1 ≤ sizeLine; decide))) (by show 8 < sizeLine; decide) fun G9 B9 f9 => ?_
    have hHd9 := B9 _ _ nHdF hHd8
    have hCh9 := B9 _ _ nChF hCh8
    have hWd9 := B9 _ _ nWdF hWd8
    have hN9 := B9 _ _ nNF hN8
    have BB9 : But F G5 G9 := fun c o n e => B9 _ _ n (BB8 _ _ n e)
    have lcS : ∀ (m : Str), m.length ≤ 8 → ("part " : Str).length + m.length ≤ sizeLine ∧ (("part " : Str) ++ m).length + (" of " : Str).length ≤ sizeLine ∧ ∀ p : Str, p.length ≤ 8 → (("part " : Str) ++ m ++ " of ").length + p.length ≤ sizeLine := fun m lm => by
      rw [len_appS, len_appS, lit5.1, lit5.2.1]
      exact ⟨by omega, by omega, fun p lp => by rw [len_appS, lit5.1]; omega⟩
    refine seq_ln (ls_cat (zs := [partS n6 n1, partS n7 n2, partS n8 n3, partS n9 n4]) (ls_to (K := K) 5 (ls_v (i := 8) rfl hWd9) (by rw [lW]; decide)).t (fun H1 Q1 sq1 q1 => ?_) (by show 5 + 4 ≤ sizeLine; decide)) fun G10 Nn s10 nNn hNn => ?_
    · refine ⟨4, rfl, by decide, by decide, fun D nD => ?_⟩
      refine lc_it (walk_range (lo := 0) (n := 4)) (fun i H' => Same H1 H' ∧ H' D = some (.lst ((([partS n6 n1, partS n7 n2, partS n8 n3, partS n9 n4]).take i).map V.str))) ⟨sameU nD, upd_same⟩ (fun _ _ _ _ => trivial) ?_ ?_
      · rintro i y H2 H3 hi ⟨sx, hD⟩ ⟨rfl, rfl⟩
        have hN' := sx _ _ (sq1 _ _ hN9)
        obtain ⟨m1, e1⟩ : ∃ m, ([n0, n1, n2, n3, n4, n5, n6, n7, n8, n9] : List Str)[i + 6]? = some m := ⟨_, List.getElem?_eq_getElem (by show i + 6 < 10; omega)⟩
        obtain ⟨m2, e2⟩ : ∃ m, ([n0, n1, n2, n3, n4, n5, n6, n7, n8, n9] : List Str)[i + 1]? = some m := ⟨_, List.getElem?_eq_getElem (by show i + 1 < 10; omega)⟩
        have eT : ([partS n6 n1, partS n7 n2, partS n8 n3, partS n9 n4] : List Str)[i]? = some (partS m1 m2) := by
          match i, hi, e1, e2 with
          | 0, _, e1, e2 => cases e1; cases e2; rfl
          | 1, _, e1, e2 => cases e1; cases e2; rfl
          | 2, _, e1, e2 => cases e1; cases e2; rfl
          | 3, _, e1, e2 => cases e1; cases e2; rfl
        have lm1 := l m1 (List.mem_of_getElem? e1)
        have lm2 := l m2 (List.mem_of_getElem? e2)
        obtain ⟨z1, z2, z3⟩ := lcS m1 lm1
        refine ⟨rfl, .ref N, rfl, .int (0 + (i : Nat)), rfl, _, 6, rfl, rfl, N, _, 0 + (i : Int) + 6, .str m1, rfl, rfl, SqL.of hN', by rw [show (0 + (i : Int) + 6) = ((i + 6 : Nat) : Int) by omega]; exact atI_nat (by rw [List.getElem?_map, e1]; rfl), _, _, rfl, rfl, z1, _, _, rfl, rfl, z2, .ref N, rfl, .int (0 + (i : Nat)), rfl, _, 1, rfl, rfl, N, _, 0 + (i : Int) + 1, .str m2, rfl, rfl, SqL.of hN', by rw [show (0 + (i : Int) + 1) = ((i + 1 : Nat) : Int) by omega]; exact atI_nat (by rw [List.getElem?_map, e2]; rfl), _, _, rfl, rfl, z3 m2 lm2, _, hD, ?_, ?_, ?_⟩
        · rw [List.length_map, List.length_take]
          exact Nat.lt_of_lt_of_le (show _ < 1000 by show min i 4 < 1000; omega) zz
        · intro c2 o eb
          rw [upd_ne (ne_of_none eb nD)]
          exact sx _ _ eb
        · rw [upd_same, List.take_add_one, eT, List.map_append]
          rfl
      rintro H2 ⟨sx, hD⟩
      exact q1 H2 D sx hD
    have hHd10 := s10 _ _ hHd9
    have hCh10 := s10 _ _ hCh9
    have hWd10 := s10 _ _ hWd9
    have hN10 := s10 _ _ hN9
    have f10 : FAt F G10 _ := FAt.but (L := F) f9 s10
    have BB10 : But F G5 G10 := fun c o n e => s10 _ _ (BB9 _ _ n e)
    have nNnF : Nn ≠ F := by
      obtain ⟨vs', hF', _⟩ := f9
      exact (ne_of_none hF' nNn).symm
    refine fa_app (i := 9) rfl f10 (ca_tup (ls_cat (ls_v (i := 6) rfl hHd10) (ls_v (i := 10) rfl hNn) (by show 2 + 9 ≤ sizeLine; decide))) (by show 9 < sizeLine; decide) fun G11 B11 f11 => ?_
    have hHd11 := B11 _ _ nHdF hHd10
    have hCh11 := B11 _ _ nChF hCh10
    have hWd11 := B11 _ _ nWdF hWd10
    have hN11 := B11 _ _ nNF hN10
    have BB11 : But F G5 G11 := fun c o n e => B11 _ _ n (BB10 _ _ n e)
    have hNn11 := B11 _ _ nNnF hNn
    refine fa_app (i := 9) rfl f11 (ca_tup (ls_cat (ls_cat (ls_v (i := 6) rfl hHd11) (ls_v (i := 10) rfl hNn11) (by show 2 + 9 ≤ sizeLine; decide)).t (ls_lst (ss_cons (st_add st_c (st_v (i := 1) rfl) (by rw [lit6.2]; omega)) ss_nil)).t (by show 11 + 1 ≤ sizeLine; decide))) (by show 10 < sizeLine; decide) fun G12 B12 f12 => ?_
    have hHd12 := B12 _ _ nHdF hHd11
    have hCh12 := B12 _ _ nChF hCh11
    have hWd12 := B12 _ _ nWdF hWd11
    have hN12 := B12 _ _ nNF hN11
    have BB12 : But F G5 G12 := fun c o n e => B12 _ _ n (BB11 _ _ n e)
    refine fa_app (i := 9) rfl f12 (ca_tup (ls_cat (ls_cat (ls_v (i := 6) rfl hHd12) (ls_to (K := K) 6 (ls_v (i := 8) rfl hWd12) (by rw [lW]; decide)).t (by show 2 + 6 ≤ sizeLine; decide)).t (zs := [partS n7 n1]) (fun H1 Q1 sq1 q1 => ⟨.ref N, rfl, N, _, 7, .str n7, rfl, rfl, SqL.of (sq1 _ _ hN12), atI_nat (j := 7) rfl, _, _, rfl, rfl, (lcS n7 l7).1, _, _, rfl, rfl, (lcS n7 l7).2.1, _, rfl, _, _, rfl, rfl, (lcS n7 l7).2.2 n1 l1, by show 1 ≤ sizeLine; decide, fun L nL => q1 _ L (sameU nL) upd_same⟩) (by show 8 + 1 ≤ sizeLine; decide))) (by show 11 < sizeLine; decide) fun G13 B13 f13 => ?_
    have hHd13 := B13 _ _ nHdF hHd12
    have hCh13 := B13 _ _ nChF hCh12
    have hWd13 := B13 _ _ nWdF hWd12
    have hN13 := B13 _ _ nNF hN12
    have BB13 : But F G5 G13 := fun c o n e => B13 _ _ n (BB12 _ _ n e)
    refine ret_in (fa_cat (i := 9) rfl f13 (cas_cons (ca_tup (ls_cat (ls_cat (ls_v (i := 6) rfl hHd13) (ls_to (K := K) 6 (ls_v (i := 8) rfl hWd13) (by rw [lW]; decide)).t (by show 2 + 6 ≤ sizeLine; decide)).t (zs := [partS n7 n1, partS n8 n1]) (fun H1 Q1 sq1 q1 => ?_) (by show 8 + 2 ≤ sizeLine; decide))) cas_nil) (by show 12 + 1 ≤ sizeLine; decide) fun G14 R s14 nR f14 => ?_)
    · refine ⟨by show 2 ≤ sizeLine; decide, fun U nU => ⟨U, rfl, ⟨_, SqT.of upd_same⟩, fun D nD => ?_⟩⟩
      have sU : Same H1 (upd H1 U (.tup [.int 7, .int 8])) := sameU nU
      have hU : (upd H1 U (.tup [.int 7, .int 8])) U = some (.tup [.int 7, .int 8]) := upd_same
      refine lc_it (walk_tup (xs := [.int 7, .int 8])) (fun i H' => Same (upd H1 U (.tup [.int 7, .int 8])) H' ∧ H' D = some (.lst ((([partS n7 n1, partS n8 n1]).take i).map V.str))) ⟨sameU nD, upd_same⟩ (fun i H' _ z => SqT.of (z.1 _ _ hU)) ?_ ?_
      · rintro i y H2 H3 hi ⟨sx, hD⟩ ⟨rfl, hk⟩
        have hN' := sx _ _ (sU _ _ (sq1 _ _ hN13))
        obtain ⟨j, m, rfl, em, eT⟩ : ∃ (j : Nat) (m : Str), y = .int (j : Int) ∧ ([n0, n1, n2, n3, n4, n5, n6, n7, n8, n9] : List Str)[j]? = some m ∧ ([partS n7 n1, partS n8 n1] : List Str)[i]? = some (partS m n1) := by
          match i, hi, hk with
          | 0, _, hk => cases hk; exact ⟨7, n7, rfl, rfl, rfl⟩
          | 1, _, hk => cases hk; exact ⟨8, n8, rfl, rfl, rfl⟩
        have lm := l m (List.mem_of_getElem? em)
        obtain ⟨z1, z2, z3⟩ := lcS m lm
        refine ⟨rfl, .ref N, rfl, .int (j : Int), rfl, N, _, (j : Int), .str m, rfl, rfl, SqL.of hN', atI_nat (by rw [List.getElem?_map, em]; rfl), _, _, rfl, rfl, z1, _, _, rfl, rfl, z2, _, rfl, _, _, rfl, rfl, z3 n1 l1, _, hD, ?_, ?_, ?_⟩
        · rw [List.length_map, List.length_take]
          exact Nat.lt_of_lt_of_le (show _ < 1000 by show min i 2 < 1000; omega) zz
        · intro c2 o eb
          rw [upd_ne (ne_of_none eb nD)]
          exact sx _ _ eb
        · rw [upd_same, List.take_add_one, eT, List.map_append]
          rfl
      rintro H2 ⟨sx, hD⟩
      exact q1 H2 D (sU.trans sx) hD
    refine q G14 R (fun c o e => s14 _ _ (BB13 _ _ (ne_of_none e nFH) (sH _ _ e))) ?_ f14
    cases er : H R with
    | none => rfl
    | some o =>
      have z := BB13 _ _ (ne_of_none er nFH) (sH _ _ er)
      rw [nR] at z
      cases z
end
end Uq

namespace Uq
open PySem PySem.Spec PyProof.Rows L2 LamX

/-! ### the end of a law over a state without guards, tables of code beside it -/
abbrev tab0 : Obj := { cls := .none, data := .fields #[] }
section
variable {P : Program} {w : World} {K : PySem.W.Frag} {mg mb : Str → Option Value} {k : Nat} {fa a : Addr} {fd : FuncData} {x : Str} {sp : Sp} {s₁ : Shared} {vs : List Value} {ns : List Int} {cs : List (Addr × Addr)}
theorem core_callGT (KX : K.In s₁.heap) (hns : s₁.heap.Ns mainGlobals mg) (hb : s₁.heap.Ns builtinsNs mb) (hbb : ∀ x : Str, x ≠ "__name__" → mb x = bootBuiltins x) (hlim : s₁.heap.NoLimit) (hg : s₁.gens = #[])
    (t0 : ∀ z ∈ cs, s₁.heap.get? z.2 = some tab0) (tK : ∀ z ∈ cs, K.lookup z.2 = none) (tC : ∀ z ∈ cs, PySem.W.CodeHd s₁.heap z.1 z.2)
    (bm : ∃ (m : Addr) (o : Obj), mg "__builtins__" = some (.ref m) ∧ m ≠ builtinsNs ∧ s₁.heap.get? m = some o ∧ o.cls = .type "module" ∧ o.dict = some builtinsNs ∧ o.data = .plain)
    (ha : s₁.heap.get? a = some { cls := .type "list", data := .seq vs.toArray }) (hr : Room k callerA)
    (F : ∀ base : Heap, K.In base → base.Ns mainGlobals mg → (∀ z ∈ cs, TabB base mg z.1 z.2) → FnG P w K mg base k fa fd [x] sp) (hbind : ∀ (s : Shared) (u : Value), BindsTo s fd ⟨[u], []⟩ [(x, u)])
    (H : Hp) (hT : ∀ z ∈ cs, H z.2 = some (.tbl #[])) (hok : HOk P w H s₁.heap)
    (hA : ∀ b u, H b = some u → (b = a ∧ K.lookup a = none ∧ ∃ ob xs, u = .frz ob (.lst xs)) ∨ ∃ z ∈ cs, b = z.2) (hsp : sp [.ref a] H (fun v _ => v = .bl true) (fun _ _ _ => False)) :
    codeAny (model P w) callerA (.call (.ref fa) ⟨[.ref a], []⟩) (fun r s' => r = .ok (.ret (.bool true)) ∧ OldK s₁.heap s'.heap ∧ s'.os = s₁.os ∧ AllBare s'.gens) s₁ := by
  have free : ∀ {b : Addr} {o : Obj}, s₁.heap.get? b = some o → (∀ us m, o.data ≠ .seq us m) → o.data ≠ .fields #[] → H b = none := by
    intro b o e d1 d2
    cases q : H b with
    | none => rfl
    | some u =>
      exfalso
      rcases hA b u q with ⟨y, _⟩ | ⟨z, mz, y⟩
      · rw [y, ha] at e
        cases e
        exact d1 _ _ rfl
      · rw [y, t0 z mz] at e
        cases e
        exact d2 rfl
  have freeD : ∀ {b : Addr} {o : Obj} {es : Array DictEntry} {ep : Nat}, s₁.heap.get? b = some o → o.data = .dict es ep → H b = none := fun e d => free e (fun _ _ y => by rw [d] at y; cases y) (fun y => by rw [d] at y; cases y)
  have toNs : ∀ {b : Addr} {m : Str → Option Value}, s₁.heap.Ns b m → (hidT s₁.heap H).Ns b m := by
    rintro b m ⟨o, es, ep, e, d, r⟩
    exact ⟨o, es, ep, hidT_get e (freeD e d), d, r⟩
  have KH : K.In (hidT s₁.heap H) := by
    intro b o e
    refine hidT_get (KX b o e) ?_
    cases q : H b with
    | none => rfl
    | some u =>
      exfalso
      rcases hA b u q with ⟨y, n, _⟩ | ⟨z, mz, y⟩
      · rw [y, n] at e
        cases e
      · rw [y, tK z mz] at e
        cases e
  have TB : ∀ z ∈ cs, TabB (hidT s₁.heap H) mg z.1 z.2 := by
    intro z mz
    obtain ⟨g0, ges, gep, ge, gd, _⟩ := hns
    refine ⟨?_, ?_, ?_⟩
    · obtain ⟨o, us, f1, f2, f3, f4, f5, f6, f7, e, rest⟩ := tC z mz
      have dd : o.data = .fields us := rest.2.1
      refine ⟨o, us, f1, f2, f3, f4, f5, f6, f7, hidT_get e (free e (fun _ _ y => by rw [dd] at y; cases y) (fun y => ?_)), rest⟩
      rw [dd] at y
      cases y
      have := rest.2.2.1
      simp at this
    · obtain ⟨m, o, m1, m2, m3, m4, m5, m6⟩ := bm
      refine ⟨m, o, m1, m2, ?_, ?_, hidT_get m3 (free m3 (fun _ _ y => by rw [m6] at y; cases y) (fun y => by rw [m6] at y; cases y)), m4, m5, m6⟩
      · intro y
        rw [y, ge] at m3
        cases m3
        rw [gd] at m6
        cases m6
      · intro y
        rw [y, t0 z mz] at m3
        cases m3
        cases m6
    · intro y
      rw [y, t0 z mz] at ge
      cases ge
      cases gd
  obtain ⟨mc, l1, l2⟩ := hlim
  have e0 : Env0 P w K mg (hidT s₁.heap H) callerA [] s₁ H := by
    refine { frames := rfl, mod := ⟨KH, toNs hns, ⟨mb, toNs hb, hbb⟩, ⟨mc, toNs l1, l2⟩⟩, bs := fun b o e => of_hidT e, bsz := Nat.le_of_eq (hidT_size _ _), funs := trivial, frf := ?_, hok := hok, bare := .of_eq hg }
    intro b z
    exact nomatch (show b ∈ ([] : List Addr) from z)
  have go := (F _ KH (toNs hns) TB).run callerA [] s₁ H ⟨[.ref a], []⟩ [.ref a] [.ref a] _ _ rfl hr e0 (hbind s₁ (.ref a)) (.cons rfl .nil) hsp
  refine codeAny_mono go ?_
  intro r s' h
  cases r with
  | error e => exact False.elim h
  | ok fl =>
    cases fl with
    | next => exact False.elim h
    | brk => exact False.elim h
    | cont => exact False.elim h
    | ret u =>
      obtain ⟨v, H', os, bare, un, hok', rv, q⟩ := h
      have ev : v = .bl true := q
      subst ev
      have eu : u = Value.bool true := rv
      subst eu
      have stay : ∀ b o, (∀ z ∈ cs, b ≠ z.2) → s₁.heap.get? b = some o → s'.heap.get? b = some o := by
        intro b o nz e
        cases hb : H b with
        | none => exact un.keep b o e hb (fun y => nomatch (show b ∈ ([] : List Addr) from y)) (fun y => nomatch (show b ∈ ([] : List Addr) from y))
        | some u =>
          rcases hA b u hb with ⟨_, _, ob, xs, rfl⟩ | ⟨z, mz, y⟩
          · obtain ⟨y1, _⟩ := hok b _ hb
            obtain ⟨y2, _⟩ := hok' b _ (un.frzs b ob _ hb)
            rw [e] at y1
            cases y1
            exact y2
          · exact absurd y (nz z mz)
      have grew : ∀ z ∈ cs, ∃ more : Array Value, s'.heap.get? z.2 = some { cls := .none, data := .fields (#[] ++ more) } := by
        intro z mz
        obtain ⟨more, e⟩ := un.tbls z.2 #[] (hT z mz)
        exact ⟨more, hok' z.2 _ e⟩
      refine ⟨rfl, ⟨fun b o e => ?_, fun b o e => ?_⟩, os, bare⟩
      · by_cases y : ∃ z ∈ cs, b = z.2
        · obtain ⟨z, mz, rfl⟩ := y
          obtain ⟨more, e2⟩ := grew z mz
          have ct := ((tC z mz).tab (ps := #[]) (t0 z mz)).isCodeTable
          rw [t0 z mz] at e
          cases e
          exact .inr (.inl ⟨ct, rfl, #[], more, rfl, e2⟩)
        · exact .inl (stay b o (fun z mz k => y ⟨z, mz, k⟩) e)
      · by_cases y : ∃ z ∈ cs, b = z.2
        · obtain ⟨z, mz, rfl⟩ := y
          obtain ⟨more, e2⟩ := grew z mz
          exact ⟨_, e2⟩
        · exact ⟨o, stay b o (fun z mz k => y ⟨z, mz, k⟩) e⟩
end
/-- what the end asks of the law at the heap h -/
def EndGT (l : PySem.W.OpenLaw) (w : World) (K : PySem.W.Frag) (k n : Nat) (x : Str) (mg : Str → Option Value) (fa : Addr) (h : Heap) : Prop := ∃ (fd : FuncData) (cs : List (Addr × Addr)) (sp : Sp),
  (∀ z ∈ cs, h.get? z.2 = some tab0) ∧ (∀ z ∈ cs, K.lookup z.2 = none) ∧ (∀ z ∈ cs, PySem.W.CodeHd h z.1 z.2) ∧ (∀ (s : Shared) (u : Value), BindsTo s fd ⟨[u], []⟩ [(x, u)]) ∧
  (∀ (H : Hp) (a : Addr) (ns : List Int), ns.length ≤ n → (∀ z ∈ cs, H z.2 = some (.tbl #[])) → SqL K H a (ns.map V.int) → sp [.ref a] H (fun v _ => v = .bl true) (fun _ _ _ => False)) ∧
  ∀ base : Heap, K.In base → base.Ns mainGlobals mg → (∀ z ∈ cs, TabB base mg z.1 z.2) → FnG l.prog w K mg base k fa fd [x] sp
theorem walk_ofGT {l : PySem.W.OpenLaw} {n k : Nat} {q : Program} {loose : List Str} {XP : (Str → Option Value) → Heap → Prop} {YP : World → Heap → Prop} {d : DefRec} {K : Params → PySem.W.Frag} {x : Str}
    (hn : l.most = some n) (hn2 : n ≤ sizeLine) (hdf : d.params.defaults = []) (hr : Room k callerA)
    (hY : ∀ (w : World) (h : Heap), YP w h → (K w.params).In h)
    (F : ∀ (w : World) (mg : Str → Option Value) (fa : Addr) (h : Heap), YP w h → (K w.params).In h → h.Ns mainGlobals mg → mg d.name = some (.ref fa) → EndGT l w (K w.params) k n x mg fa h) :
    PySem.W.WalkO q loose XP YP l.row.toRowW d [] (fun f vs => PySem.call f vs) := by
  apply Att.attach_call hn hdf
  intro w s₀ s₁ mg mb fa o pm cd doc a vs ns G Y ho hd hcd hmg ha hi hlen hg
  have KX := hY w _ Y
  obtain ⟨fd, cs, sp, t0, tK, tC, hb, hsp, hF⟩ := F w mg fa _ Y KX G.T.g hmg
  have rv := vals_ints hi
  have len := hi.length
  have hl : ns.length ≤ sizeLine := Nat.le_trans hlen hn2
  have notA : ∀ z ∈ cs, z.2 ≠ a := by
    intro z mz y
    have e := t0 z mz
    rw [y, ha] at e
    cases e
  let HT : Hp := fun b => if ∃ z ∈ cs, b = z.2 then some (.tbl #[]) else none
  have yes : ∀ z ∈ cs, HT z.2 = some (.tbl #[]) := fun z mz => if_pos ⟨z, mz, rfl⟩
  have at_ : ∀ b u, HT b = some u → (∃ z ∈ cs, b = z.2) ∧ u = .tbl #[] := by
    intro b u e
    by_cases y : ∃ z ∈ cs, b = z.2
    · have e2 : HT b = some (.tbl #[]) := if_pos y
      rw [e2] at e
      exact ⟨y, (Option.some.inj e).symm⟩
    · have e2 : HT b = none := if_neg y
      rw [e2] at e
      cases e
  by_cases hk : K w.params |>.lookup a |>.isSome
  · obtain ⟨ob, hob⟩ := Option.isSome_iff_exists.mp hk
    have e := KX a ob hob
    rw [ha] at e
    cases e
    refine core_callGT (H := HT) KX G.T.g G.T.b G.T.builtins G.T.nolimit hg t0 tK tC G.T.bmain ha hr hF hb yes (fun b u e => ?_) (fun b u e => .inr (at_ b u e).1) ?_
    · obtain ⟨⟨z, mz, rfl⟩, rfl⟩ := at_ b u e
      exact t0 z mz
    · refine hsp _ a ns hlen yes (.inr ⟨_, vs.toArray, _, hob, rfl, rfl, rfl, ?_, ?_⟩)
      · rw [List.size_toArray, len]
        exact hl
      · exact rv
  · have hk' : (K w.params).lookup a = none := Option.not_isSome_iff_eq_none.mp hk
    let H0 : Hp := fun b => if b = a then some (.frz { cls := .type "list", data := .seq vs.toArray } (.lst (ns.map V.int))) else HT b
    have h0 : H0 a = some (.frz { cls := .type "list", data := .seq vs.toArray } (.lst (ns.map V.int))) := if_pos rfl
    have h1 : ∀ b, b ≠ a → H0 b = HT b := fun b z => if_neg z
    have yes0 : ∀ z ∈ cs, H0 z.2 = some (.tbl #[]) := fun z mz => (h1 _ (notA z mz)).trans (yes z mz)
    refine core_callGT (H := H0) KX G.T.g G.T.b G.T.builtins G.T.nolimit hg t0 tK tC G.T.bmain ha hr hF hb yes0 ?_ ?_ ?_
    · intro b u e
      by_cases z : b = a
      · subst z
        rw [h0] at e
        cases e
        exact ⟨ha, by rw [List.length_map]; exact hl, vs, _, rv, ha⟩
      · rw [h1 b z] at e
        obtain ⟨⟨y, my, rfl⟩, rfl⟩ := at_ b u e
        exact t0 y my
    · intro b u e
      by_cases z : b = a
      · subst z
        rw [h0] at e
        exact .inl ⟨rfl, hk', _, _, (Option.some.inj e).symm⟩
      · rw [h1 b z] at e
        exact .inr (at_ b u e).1
    · exact hsp _ a ns hlen yes0 (.inl (.inr ⟨_, h0⟩))
end Uq

namespace Uq
open PySem PySem.Spec PyProof.Rows L2 LamX TL

/-! ### lambdas told; what stays where tables of code are written -/
def TTk (K : PySem.W.Frag) (CA : Addr) : (XK → Hp → VK → Prop) → Hp → VK → Prop := fun tl H Q => ∀ H0, Same H H0 → ∀ (E : XK) (Q' : VK),
  (∀ cls d H', PySem.W.exmOne K cls (.ref CA) = some true → (∀ a, H' a = none → ∀ T, (upd H' a (exk a cls d)) T = none → Q (.ref T) (upd (upd H' a (exk a cls d)) T (.tup [.ref a, .non]))) → E cls d H') →
  (∀ v H1, (∀ T, H1 T = none → Q (.ref T) (upd H1 T (.tup [.non, v]))) → Q' v H1) → tl E H0 Q'
theorem told_gives {X : Cx} {g CA : Addr} {cdg : Value} {q : Str} (gA : X.mg "AskedError" = some (.ref CA)) : GivesS X N_law_told "_law_told" (defScope s_law_told) g cdg (defBody s_law_told) "_law_look" q (TTk X.K CA) := by
  intro f c' s H Q tl act hc h
  have hgl : Gl (cxG X N_law_told "_law_told" (defScope s_law_told) g cdg s H).nox "AskedError" := by rfl
  refine ⟨_, pss_cons (ps_asg (pe_tup (pa_cons pe_non (pa_cons pe_non pa_nil))) (pg_tup rfl (pgs_cons (pg_name (i := 1) sc_law_told.nd rfl (.inl rfl)) (pgs_cons (pg_name (i := 2) sc_law_told.nd rfl (.inl rfl)) pgs_nil)))) (pss_cons (ps_try_keep (X := (cxG X N_law_told "_law_told" (defScope s_law_told) g cdg s H).nox) (c := .ref CA) (i := 3)
    (tb := fun W D σ H => ∃ (E : XK) (σ₀ : L2.St), (∀ cls d H', E cls d H' → W cls d σ₀ H') ∧ σ = σ₀ ∧ σ[0]? = some (some (.ref f)) ∧ H c' = some (CodeO c' q) ∧ tl E H (fun v H1 => D.nx (σ.set 2 (some v)) H1))
    rfl rfl rfl sc_law_told.nd rfl rfl ⟨hgl, by decide, .inl gA⟩ LamX.takes0 (fun W pn xe tk _ => ?_) (fun a pn => pss_one (ps_set (i := 1) sc_law_told.nd rfl (.inl rfl) (pv 3)))) (pss_one (ps_ret (pe_tup (pa_cons (pv 1) (pa_cons (pv 2) pa_nil)))))), ?_⟩
  · refine ⟨fun pins s' σ H' D I h' => ?_⟩
    obtain ⟨E, σ₀, hW, h1, h2, h3, h4⟩ := h'
    exact PSs.run (pss_one (ps_set (i := 2) sc_law_told.nd rfl (.inl rfl) (act W pn xe E σ₀ _ _ tk hW))) pins s' σ H' D I ⟨h1, h2, h3, h4⟩
  · refine ⟨by show 2 ≤ sizeLine; decide, fun T0 nT0 => ⟨T0, _, rfl, SqT.of upd_same, rfl, _, _, rfl, _, _, rfl, rfl, ?_⟩⟩
    have s0 := sameU (o := .tup [.non, .non]) nT0
    generalize L2.upd H T0 (.tup [.non, .non]) = H0 at s0 ⊢
    refine ⟨fun cls d H' => wKeep X.K (.ref CA) 3 (tAsg (tVar 3) (gName 1)) (fun _ _ _ _ => False) { nx := tRet (tTup (tCons (tVar 1) (tCons (tVar 2) tNil))) { nx := fun x H' => Q V.non H', rt := Q }, rt := Q } cls d [some (.ref f), some .non, some .non, none] H', _, fun cls d H' h => h, rfl, rfl, s0 _ _ hc, ?_⟩
    refine h H0 s0 _ _ (fun cls d H' hx hq => ⟨true, hx, fun _ a na => ?_, fun z => nomatch z⟩) (fun v H1 hq => ?_)
    · refine ⟨.ref a, rfl, ?_⟩
      refine ⟨.ref a, rfl, .non, rfl, by show 2 ≤ sizeLine; decide, fun T nT => ?_⟩
      exact hq a na T nT
    · refine ⟨.non, rfl, v, rfl, by show 2 ≤ sizeLine; decide, fun T nT => ?_⟩
      exact hq T nT
theorem u100 {k : Nat} {A : Around} (r : Room k A) : A.units + 100 < cLine := by
  have := r.un
  omega
theorem kit_own {K : PySem.W.Frag} {C : Addr} : PySem.W.kitOne K (.ref C) (.ref C) = some true := by
  unfold PySem.W.kitOne
  rw [if_pos]
  exact beq_self_eq_true _
theorem sqT_ext {K : PySem.W.Frag} {H H' : Hp} {t : Addr} {xs : List V} (e : ExtN H H') (h : SqT K H t xs) : SqT K H' t xs := by
  rcases h with (h | ⟨ob, h⟩) | h
  · exact .inl (.inl (e _ _ h (fun _ z => by cases z)))
  · exact .inl (.inr ⟨ob, e _ _ h (fun _ z => by cases z)⟩)
  · exact .inr h
theorem extN_same {H H' : Hp} (s : Same H H') : ExtN H H' := fun b o h _ => s b o h
theorem tabs_same {T : List (Addr × Str)} {H H' : Hp} (t : Tabs T H) (s : Same H H') : Tabs T H' := Tabs.ext t s

/-- all but the pot and the tables stay -/
def ButN (p : Addr) (H H' : Hp) : Prop := ∀ b o, b ≠ p → H b = some o → (∀ ps, o ≠ .tbl ps) → H' b = some o
theorem ButN.trans {p : Addr} {H H1 H2 : Hp} (a : ButN p H H1) (b : ButN p H1 H2) : ButN p H H2 := fun c o n h k => b c o n (a c o n h k) k
theorem ButN.of {p : Addr} {H H' : Hp} (a : But p H H') : ButN p H H' := fun c o n h _ => a c o n h
theorem ButN.ext {p : Addr} {H H' : Hp} (a : ExtN H H') : ButN p H H' := fun c o _ h k => a c o h k
theorem tabs_but {T : List (Addr × Str)} {p : Addr} {c : Nat} {H H' : Hp} (t : Tabs T H) (hp : Pot H p c) (s : But p H H') : Tabs T H' := by
  obtain ⟨o, sd, n, h0, _⟩ := hp
  intro k mk
  obtain ⟨ps, h1, h2, h3⟩ := t k mk
  refine ⟨ps, s _ _ (fun e => by rw [e, h0] at h1; cases h1) h1, h2, fun pos cv hc => ?_⟩
  obtain ⟨c, e1, e2⟩ := h3 pos cv hc
  exact ⟨c, e1, s _ _ (fun e => by rw [e, h0] at e2; cases e2) e2⟩
theorem Pot.extN {p : Addr} {c : Nat} {H H' : Hp} (hp : Pot H p c) (e : ExtN H H') : Pot H' p c := by
  obtain ⟨o, sd, n, h0, r⟩ := hp
  have z := e _ _ h0 (fun _ z => by cases z)
  exact ⟨o, sd, n, z, r⟩
theorem sqL_ext {K : PySem.W.Frag} {H H' : Hp} {t : Addr} {xs : List V} (e : ExtN H H') (h : SqL K H t xs) : SqL K H' t xs := by
  rcases h with (h | ⟨ob, h⟩) | h
  · exact .inl (.inl (e _ _ h (fun _ z => by cases z)))
  · exact .inl (.inr ⟨ob, e _ _ h (fun _ z => by cases z)⟩)
  · exact .inr h
mutual
theorem Dx.ext {K : PySem.W.Frag} {H H' : Hp} (e : ExtN H H') : ∀ {d : PyData} {v : V}, Dx K H v d → Dx K H' v d
  | _, _, .non => .non
  | _, _, .bl b => .bl b
  | _, _, .int i => .int i
  | _, _, .str x => .str x
  | _, _, .lst h ns ha => .lst (e _ _ h (fun _ z => by cases z)) ns (DxAll.ext e ha)
  | _, _, .tup h ha => .tup (sqT_ext e h) (DxAll.ext e ha)
  | _, _, .dct h he ha => .dct (e _ _ h (fun _ z => by cases z)) he (DxAll.ext e ha)
theorem DxAll.ext {K : PySem.W.Frag} {H H' : Hp} (e : ExtN H H') : ∀ {ds : List PyData} {vs : List V}, DxAll K H vs ds → DxAll K H' vs ds
  | _, _, .nil => .nil
  | _, _, .cons h1 h2 => .cons (Dx.ext e h1) (DxAll.ext e h2)
end
theorem ButN.off {p : Addr} {H H' : Hp} (a : ButN p H H') : ExtN (off p H) (off p H') := fun b o e n => by
  have ne : b ≠ p := fun z => by
    rw [z, off_same] at e
    cases e
  rw [off_ne ne] at e ⊢
  exact a b o ne e n
theorem but_off {p : Addr} {H : Hp} : But p H (off p H) := fun b o n e => by
  rw [off_ne n]
  exact e
theorem tabs_off {T : List (Addr × Str)} {p : Addr} {c : Nat} {H : Hp} (t : Tabs T H) (hp : Pot H p c) : Tabs T (off p H) := tabs_but t hp but_off
theorem tabs_list {T : List (Addr × Str)} {H : Hp} {D : Addr} {xs : List V} {o : HO} (hD : H D = some (.lst xs)) (t : Tabs T H) : Tabs T (upd H D o) := by
  intro z mz
  obtain ⟨ps, h1, h2, h3⟩ := t z mz
  refine ⟨ps, ?_, h2, fun pos cv hc => ?_⟩
  · rw [upd_ne (fun e => by rw [e, hD] at h1; cases h1)]
    exact h1
  · obtain ⟨c, e1, e2⟩ := h3 pos cv hc
    refine ⟨c, e1, ?_⟩
    rw [upd_ne (fun e => by rw [e, hD] at e2; cases e2)]
    exact e2
theorem funC_ok {P : Program} {w : World} {K : PySem.W.Frag} {mg : Str → Option Value} {base : Heap} {x qual : Str} {st : Stmt} {f : Addr} {fd : FuncData} {N ps : List Str} {k : Nat} {sp : Sp} (F : Fun K x qual st f fd) (S : FnScope N ps (defScope st)) (len : ∀ vs H Q E, sp vs H Q E → vs.length = ps.length)
    (hbody : ∀ (cdv : Value) (A : Around) (outer : List Env) (s : Shared) (H : Hp) (vs : List V) (Q : VK) (E : XK), fd.code = cdv → Room k (A.deeper (envOfC qual (defScope st) s.heap.objs.size f cdv)) → sp vs H Q E →
      ∃ t, PSs (cxOf CX0 P w K mg base N qual (defScope st) f cdv A outer s H E).nox (defBody st) t ∧ t { nx := fun _ H' => Q .non H', rt := Q } (start N vs) H) : FnOk P w K mg base CX0 (k + 1) f fd ps sp := by
  obtain ⟨oc, od, kV, doc, pm, an, cdv, ct, osl, rfl, lk, hcd⟩ := F.ex
  refine fn_of lk hcd S len fun A outer s H vs Q E hr hsp => ?_
  obtain ⟨t, h, q⟩ := hbody cdv A outer s H vs Q E rfl hr hsp
  exact ⟨t, h.nox, q⟩
section
variable {P : Program} {w : World} {K : PySem.W.Frag} {mg : Str → Option Value} {base : Heap}
theorem funC_okG {x qual : Str} {st : Stmt} {f : Addr} {fd : FuncData} {N ps : List Str} {k : Nat} {sp : Sp} (F : Fun K x qual st f fd) (S : FnScope N ps (defScope st))
    (len : ∀ vs H Q E, sp vs H Q E → vs.length = ps.length)
    (hbody : ∀ (cdv : Value) (A : Around) (outer : List Env) (s : Shared) (H : Hp) (vs : List V) (Q : VK) (E : XK), fd.code = cdv → A.guards = some [] →
      Room k (A.deeper (envOfC qual (defScope st) s.heap.objs.size f cdv)) → sp vs H Q E →
      ∃ t, PSs (cxOf CX0 P w K mg base N qual (defScope st) f cdv A outer s H E).nox (defBody st) t ∧ t { nx := fun _ H' => Q .non H', rt := Q } (start N vs) H) :
    FnG P w K mg base (k + 1) f fd ps sp := by
  obtain ⟨oc, od, kV, doc, pm, an, cdv, ct, osl, rfl, lk, hcd⟩ := F.ex
  constructor
  · exact len
  intro A outer s H args us vs Q E hg hr e0 hb r hsp
  have hkeep : ∀ b o, base.get? b = some o → s.heap.get? b = some o := fun b o e => (e0.bs b o e).1
  have KX : K.In s.heap := e0.mod.kin.keeps hkeep
  have hpar : ∀ y ∈ ps.zip us, (defScope st).names.lookup y.1 = some .local ∨ ((defScope st).names.lookup y.1 = some .cell ∧ ((cellsFrom (s.heap.objs.size + 1) (defScope st).names []).lookup y.1).isSome = true) := by
    intro y hy
    have hm : y.1 ∈ ps := (List.of_mem_zip (show (y.1, y.2) ∈ ps.zip us from hy)).1
    cases S.par y.1 hm with
    | inl q => exact Or.inl q
    | inr q => exact Or.inr ⟨q, PySem.W.cellsFrom_some _ _ _ (Or.inl q)⟩
  apply codeAny_call_function hr.depth (KX _ _ lk) rfl S.co S.gen rfl (PySem.W.codeRec_of KX hcd)
  apply hb
  apply wpAny_newFunctionEnv_cells S.kind hpar
  rintro env rfl s1 x
  refine ⟨(e0.mod.nolimit.keeps hkeep).keeps x.toInCall.keep, codeAny_func ?_⟩
  obtain ⟨t, ht, hq⟩ := hbody cdv A outer s H vs Q E rfl hg (hr.deeper _) hsp
  have J0 := inv_start (CX := CX0) (E := E) S hr.hd e0 (len _ _ _ _ hsp) r x
  have run := ht.nox.run [] s1 (start N vs) H _ J0 hq
  refine wpAny_mono run (fun fl s' hs => ?_) (fun _ _ hs => hs)
  cases fl with
  | ret u =>
    obtain ⟨v, σ', H', J, rv, q⟩ := hs
    exact ⟨v, H', J.os, J.bare, J.base, J.hok, rv, q⟩
  | next =>
    obtain ⟨σ', H', J, q⟩ := hs
    exact ⟨.non, H', J.os, J.bare, J.base, J.hok, rfl, q⟩
  | brk => exact hs.elim (fun _ h => h.elim fun _ h => h.2.elim)
  | cont => exact hs.elim (fun _ h => h.elim fun _ h => h.2.elim)
end
section
variable {X : Cx}
theorem pe_told {k : Nat} {CA gt c Pt : Addr} {fdT : FuncData} {params : Arguments} {body : Expr} {scope : Scope} {t : XK → TE} {p lpos pos : Pos} (FT : Fun X.K "_law_told" "_law_told" s_law_told gt fdT) (hm : X.mg "_law_told" = some (.ref gt)) (gA : X.mg "AskedError" = some (.ref CA)) (hg : Gl X "_law_told") (hb : Binds X.K fdT ["_law_look"] [])
    (TB : TabB X.base X.mg c Pt) (hcode : X.env.code = .ref c) (hr : Room (k + 2) X.A) (L : LamS X.env.scope scope) (hdef : defaultsOf params X.env = ([], []))
    (hbind : ∀ (q : Str) (cl : List (Str × Addr)) (pm cv ctv : Value), bindArgs (PySem.W.kla_fn "<lambda>" q params body scope cl pm cv ctv) ⟨[], []⟩ = pure [])
    (hbody : ∀ (A : Around) (outer : List Env) (s : Shared) (H : Hp) (E : XK) (f c' : Addr), Room k (A.deeper (lamEnv X scope s.heap.objs.size f c')) → PE (lamCx X A outer s H E scope f c') body (t E)) :
    PE X (.Call (.Name "_law_told" p) [.Lambda params body scope lpos] [] pos) (tLam [(Pt, X.env.qual ++ "<lambda>")] (TTk X.K CA) t) := by
  have h0 : N_law_told[0]? = some ("_law_look" : Str) := by rfl
  have hv : Vis (defScope s_law_told) "_law_look" := .inl rfl
  have hmT : (Pt, X.env.qual ++ "<lambda>") ∈ [(Pt, X.env.qual ++ "<lambda>")] := .head _
  have hu : ∀ p ∈ [(Pt, X.env.qual ++ "<lambda>")], p.1 = Pt → p.2 = X.env.qual ++ "<lambda>" := fun p hp _ => by rw [List.mem_singleton.mp hp]
  have kp := FT.kp
  obtain ⟨oc, od, kV, doc, pm, an, cdv, ct, osl, rfl, lk, hcd⟩ := FT.ex
  have hG := told_gives (X := X) (g := gt) (cdg := cdv) (q := X.env.qual ++ "<lambda>") gA
  exact @pe_lamS X [(Pt, X.env.qual ++ "<lambda>")] (TTk X.K CA) "_law_told" "_law_look" gt c Pt k (defArgs s_law_told) (defBody s_law_told) (defScope s_law_told) .none kV doc pm cdv ct oc an od osl N_law_told params body scope t p lpos pos hg hm kp lk hcd hb sc_law_told h0 hv hG TB hcode hmT hu hr L hdef hbind hbody (by decide) (by decide) (by decide)
end
end Uq

namespace Uq
open PySem PySem.Spec PyProof.Rows L2 LamX TL

theorem log_smallW {i : Int} (h : i.natAbs < 2 ^ 60) : i.natAbs.log2 < 1920 := Nat.lt_of_lt_of_le (PySem.Flt.log2_lt_of (show 0 < 60 by decide) h) (by decide)
structure OkW (d : PyData) (k n : Nat) : Prop where
  sho : d.showable = true
  dic : d.hasDict = false
  dep : d.depth ≤ k
  lea : d.leavesShort 16 = true
  bul : d.bulk ≤ n
theorem okw_int {i : Int} (h : i.natAbs < 10 ^ 15) : OkW (.int i) 0 0 := by
  refine ⟨?_, rfl, Nat.le_refl _, ?_, Nat.le_refl _⟩
  · show decide (i.natAbs.log2 < 1920) = true
    exact decide_eq_true (log_smallW (by omega))
  · show decide ((PyData.shown (.int i)).length ≤ 16) = true
    refine decide_eq_true ?_
    have e := PySem.int_text_length_le10 (a := i) (k := 15) (by decide) (by omega)
    show (Str.ofString (toString i)).length ≤ 16
    rw [PySem.ofString_length]
    exact e
theorem OkW.shown {d : PyData} {k n : Nat} (h : OkW d k n) (hk : k ≤ 60) (hn : n ≤ 2 ^ 19) : d.showable = true ∧ d.hasDict = false ∧ d.depth ≤ 60 ∧ d.shown.length ≤ sizeLine := by
  refine ⟨h.sho, h.dic, Nat.le_trans h.dep hk, ?_⟩
  have h1 := PyData.shown_le_bulk 16 (by decide) d h.lea
  have h2 : (16 + 2) * d.bulk ≤ 18 * 524288 := Nat.mul_le_mul (by decide) (Nat.le_trans h.bul hn)
  rw [sizeLine_eq]
  omega
theorem reprN_in {K : PySem.W.Frag} {i : Int} {H : Hp} {Q : VK} (l : i.natAbs < 10 ^ 15) (q : Q (.str (PyData.int i).shown) H) : rRepr K [.int i] H Q := by
  obtain ⟨k1, k2, k3, k4⟩ := (okw_int l).shown (by decide) (by decide)
  exact ⟨.int i, _, rfl, .int i, k1, k2, k3, k4, q⟩
/-! ### any value asked of the reader and of the law -/
theorem rowsR_le {b : Nat} : ∀ {rows : List (List Str)} {ks : List Kn} {n m : Nat}, rowsR b ks n rows = .inl m → m < n + rows.length
  | [], _, _, _, h => nomatch h
  | ws :: r, ks, n, m, h => by
    have h' : (match lineR b ks ws with | none => .inl n | some k => if muchR (ks ++ [k]) k = true then .inl n else rowsR b (ks ++ [k]) (n + 1) r) = (Sum.inl m : Nat ⊕ List Kn) := h
    rw [List.length_cons]
    cases e : lineR b ks ws with
    | none =>
      rw [e] at h'
      have := Sum.inl.inj h'
      omega
    | some k =>
      rw [e] at h'
      replace h' : (if muchR (ks ++ [k]) k = true then .inl n else rowsR b (ks ++ [k]) (n + 1) r) = (Sum.inl m : Nat ⊕ List Kn) := h'
      by_cases z : muchR (ks ++ [k]) k = true
      · rw [if_pos z] at h'
        have := Sum.inl.inj h'
        omega
      · rw [if_neg z] at h'
        have := rowsR_le h'
        omega
theorem pageR_le {rows : List (List Str)} {n : Nat} (h : pageR rows = .inl n) : n ≤ rows.length + 3 := by
  cases rows with
  | nil =>
    have := Sum.inl.inj h
    omega
  | cons r0 rest =>
  cases eu : unitsR r0 with
  | none =>
    rw [pageR_0 eu] at h
    have := Sum.inl.inj h
    omega
  | some bh =>
  obtain ⟨b, hh⟩ := bh
  cases rest with
  | nil =>
    rw [pageR_1 eu] at h
    have := Sum.inl.inj h
    omega
  | cons ra more =>
  cases ea : askR ra with
  | none =>
    rw [pageR_2 eu ea] at h
    have := Sum.inl.inj h
    omega
  | some x =>
  cases more with
  | nil =>
    rw [pageR_3 eu ea] at h
    have := Sum.inl.inj h
    omega
  | cons rb more =>
  cases er : rowsR b [topK x] 3 (rb :: more) with
  | inl m =>
    rw [pageR_4 eu ea er] at h
    have := Sum.inl.inj h
    have := rowsR_le er
    simp only [List.length_cons] at *
    omega
  | inr ks =>
    rw [pageR_5 eu ea er] at h
    cases h
theorem text_repr {t : Str} (a : Asc t) (z : t.length ≤ 10000) : (reprText t).length ≤ sizeLine := by
  have e := PySem.StrLaws.reprText_len t (fun c m => Nat.lt_trans (a c m) (by decide))
  have : 200000 ≤ sizeLine := by decide
  omega
abbrev lamIt : Str := "_law_is_told.<locals>.<lambda>"
/-- a case as it is due -/
structure CaseOk (c : Cs) : Prop where
  asc : ∀ y ∈ c.1, Asc y
  len : (c.1.map (·.length)).sum + c.1.length ≤ 9000
  yes : c.2 = 0 → ∃ r, pageR (rowsT (Txt.join nlS c.1)) = .inr r
  no : c.2 ≠ 0 → pageR (rowsT (Txt.join nlS c.1)) = .inl c.2
  few : c.2 ≤ 100
theorem case_text {c : Cs} (h : CaseOk c) : Asc (Txt.join nlS c.1) ∧ (Txt.join nlS c.1).length ≤ 10000 := by
  constructor
  · intro k hk
    rw [join_eq, tl_join] at hk
    rcases mem_joinL hk with z | ⟨p, m, z⟩
    · have : ∀ c ∈ tl nlS, c < 128 := by decide +kernel
      exact this k z
    · obtain ⟨y, my, rfl⟩ := List.mem_map.mp m
      exact h.asc y my k z
  · rw [join_eq]
    have z := PySem.StrLaws.join_length_le nlS c.1
    have e : nlS.length = 1 := by decide +kernel
    rw [e, Nat.mul_one] at z
    have := h.len
    omega
def sp_law_is_told (K : PySem.W.Frag) (Pt : Addr) : Sp := fun vs H Q _ => ∃ (L : Addr) (c : Cs), vs = [.ref L, .int c.2] ∧ H L = some (.lst (c.1.map V.str)) ∧ CaseOk c ∧ Tabs [(Pt, lamIt)] H ∧ ∀ H', ExtN H H' → Tabs [(Pt, lamIt)] H' → Q (.bl true) H'
section
variable {X : Cx} {A : Around} {outer : List Env} {s : Shared} {H : Hp} {E : XK} {scope : Scope} {f c' : Addr}
/-- a join in a lambda, its tree told by what is around -/
theorem pe_lamjoin {o e : Expr} {to te : TE} {apos pos : Pos} (ho : PE (lamCx X A outer s H E scope f c') o to) (he : PE (lamCx X A outer s H E scope f c') e te) (hs : starEach [e] (lamCx X A outer s H E scope f c').env = [(false, eval e (lamCx X A outer s H E scope f c').env)] := by rfl) (hbase : attributeBase o "join" (lamCx X A outer s H E scope f c').env (eval o (lamCx X A outer s H E scope f c').env) = eval o (lamCx X A outer s H E scope f c').env := by rfl) (hline : (apos.endLine == pos.line) = true := by rfl) : PE (lamCx X A outer s H E scope f c') (.Call (.Attribute o "join" apos) [e] [] pos) (tM1 (fun x xs H Q => ∃ a p, ∃ ys : List Str, x = .str a ∧ xs = [.ref p] ∧ (SqL X.K H p (ys.map V.str) ∨ SqT X.K H p (ys.map V.str)) ∧
      (ys.map (·.length)).sum + ys.length * a.length ≤ 16777216 ∧ Q (.str (Txt.join a ys)) H) to te) :=
  pe_join (X := lamCx X A outer s H E scope f c') ho he hs hbase hline
theorem pe_lammake {C fI : Addr} {dfI : FuncData} {k : Nat} {ps : List Str} {sp : Sp} {e : Expr} {t : TA} {p pos : Pos} (M : Mk X.K C fI) (F : FnOk X.prog X.w X.K X.mg X.base (L2.CX X.prog X.w) k fI dfI ps sp) (b : Binds X.K dfI ps []) (gC : X.mg "Page" = some (.ref C)) (hg : Gl (lamCx X A outer s H E scope f c') "Page") (hr : Room (k + 1) (A.deeper (lamEnv X scope s.heap.objs.size f c')))
    (ha : PA (lamCx X A outer s H E scope f c') [e] t) (he : starEach [e] (lamCx X A outer s H E scope f c').env = [(false, eval e (lamCx X A outer s H E scope f c').env)] := by rfl) : PE (lamCx X A outer s H E scope f c') (.Call (.Name "Page" p) [e] [] pos) (tMake C sp [] E t) :=
  pe_make (X := lamCx X A outer s H E scope f c') M F hr hg gC b .nil (@lam_takes X A outer s H E scope f c') ha (by decide) he (by rfl)
end
section
variable {P : Program} {w : World} {K : PySem.W.Frag} {mg : Str → Option Value} {base : Heap} {C BP CA : Addr}
theorem ok_law_is_told (c : PgC K C) (XBP : Xcl K BP) (gBP : mg "BadPage" = some (.ref BP)) (gA : mg "AskedError" = some (.ref CA)) (hBA : PySem.W.exmOne K (.ref BP) (.ref CA) = some true) (gC : mg "Page" = some (.ref C))
    {fI : Addr} {dfI : FuncData} (MP : Mk K C fI) (FI : FnOk P w K mg base (L2.CX P w) 6 fI dfI ["self", "text"] (sp_Page__init_ K C BP)) (bI : Binds K dfI ["self", "text"] [])
    {pX fX : Addr} {dfX : FuncData} (rX : PropOf K C "text" pX fX) (FX : FnOk P w K mg base CX0 1 fX dfX ["self"] (sp_Page_text K C)) (bX : Binds K dfX ["self"] [])
    {gt ct Pt : Addr} {fdT : FuncData} (FT : Fun K "_law_told" "_law_told" s_law_told gt fdT) (bT : Binds K fdT ["_law_look"] []) (gTold : mg "_law_told" = some (.ref gt)) (TB : TabB base mg ct Pt) {f : Addr} {fd : FuncData} (F : Fun K "_law_is_told" "_law_is_told" s_law_is_told f fd) (hcd : fd.code = .ref ct) (m_isinstance : mg "isinstance" = none) (m_repr : mg "repr" = none) : FnG P w K mg base 11 f fd ["_law_lines", "_law_number"] (sp_law_is_told K Pt) := by
  refine funC_okG F sc_law_is_told (fun vs H Q E h => ?_) (fun cdv A outer s H vs Q E hcv hg hr h => ?_)
  · obtain ⟨L, c, rfl, _⟩ := h
    rfl
  · refine ⟨_, (pss_cons (ps_asg (pe_told (k := 7) FT gTold gA (by rfl) bT TB (hcv.symm.trans hcd) (hr.mono (by decide)) (lamS_by (sc := defScope s_law_is_told) (by decide +kernel)) (by rfl) (fun _ _ _ _ _ => rfl) (fun A outer s H E f c' hr2 => pe_lammake MP FI bI gC (by rfl) hr2 (pa_cons (pe_lamjoin pe_str (pv 0)) pa_nil))) (pg_tup rfl (pgs_cons (pg_name (i := 2) sc_law_is_told.nd rfl (.inl rfl)) (pgs_cons (pg_name (i := 3) sc_law_is_told.nd rfl (.inl rfl)) pgs_nil))))
      (pss_cons (ps_if (pt_cmpR op_eq (pv 1) pe_int (nomark _)) (pss_one (ps_ret (pe_and (pe_cmpR op_isN (pv 2) pe_non (nomark _)) (pe_one (pe_cmpR op_eq (pe_prop (pv 3) c.cls rX FX (hr.mono (by decide)) bX .nil pass0 (by rfl)) (pe_join pe_str (pv 0)) (nomark _)))))) pss_nil)
      (pss_one (ps_ret (pe_and (pe_callB call_isK (by rfl) m_isinstance (by decide +kernel) (pa_cons (pv 2) (pa_cons (pe_glob (v := .ref BP) (by rfl) gBP rfl) pa_nil))) (pe_one (pe_cmpR op_eq (pe_callB (call_repr_data hg (ru hr)) (by rfl) m_repr (by decide +kernel) (pa_cons (pe_kv (pv 2)) pa_nil)) (pe_callB (call_repr_data hg (ru hr)) (by rfl) m_repr (by decide +kernel) (pa_cons (pv 1) pa_nil)) (nomark _)))))))), ?_⟩
    obtain ⟨L, cc, rfl, hL, O, TA, q⟩ := h
    obtain ⟨hA, hz⟩ := case_text O
    have mk : ∀ (H0 : Hp) (tb dtb : Addr), H0 tb = none → H0 dtb = none → Same H0 (upd (upd H0 dtb (.own tb)) tb (.ins C dtb [])) := fun H0 tb dtb n1 n2 z o ez => by
      rw [upd_ne (ne_of_none ez n1), upd_ne (ne_of_none ez n2)]
      exact ez
    have bnd : (cc.1.map (·.length)).sum + cc.1.length * nlS.length ≤ 16777216 := by
      rw [show nlS.length = 1 from by decide +kernel, Nat.mul_one]
      exact Nat.le_trans O.len (by decide)
    refine ⟨TA, fun H1 e1 T1 H0 s0 E' Q' hE hQ => ?_⟩
    have hL0 := s0 _ _ (e1 _ _ hL (fun _ z => by cases z))
    refine ⟨⟨_, rfl⟩, .ref L, rfl, nlS, L, cc.1, rfl, rfl, .inl (SqL.of hL0), bnd, fun tb dtb ntb ndtb ne => ?_⟩
    have s1 := mk H0 tb dtb ntb ndtb
    refine ⟨tb, dtb, .str (Txt.join nlS cc.1), rfl, upd_same, .inr ⟨Txt.join nlS cc.1, rfl, hA, hz, fun n en => ?_, fun r er H' o6 OP => ⟨rfl, ?_⟩⟩⟩
    · by_cases c0 : cc.2 = 0
      · obtain ⟨r, er⟩ := O.yes c0
        rw [er] at en
        cases en
      have e2 := O.no c0
      rw [en] at e2
      have e3 : n = cc.2 := Sum.inl.inj e2
      subst e3
      have fw := O.few
      intro H' dd s2 hdd
      refine hE _ _ _ hBA (fun ae nae R nR => ?_)
      have s2' : Same H' (upd (upd H' ae (exk ae (Value.ref BP) (some dd))) R (.tup [.ref ae, .non])) := (sameU nae).trans (sameU nR)
      have ek : ExcK (upd (upd H' ae (exk ae (Value.ref BP) (some dd))) R (.tup [.ref ae, .non])) ae BP (.int cc.2) := ⟨dd, (sameU nR) _ _ upd_same, s2' _ _ hdd⟩
      refine ⟨R, _, rfl, SqT.of upd_same, rfl, ?_⟩
      have eF : ExtN H _ := e1.trans (extN_same (((s0.trans s1).trans s2).trans s2'))
      have TF := tabs_same T1 (((s0.trans s1).trans s2).trans s2')
      generalize (upd (upd H' ae (exk ae (Value.ref BP) (some dd))) R (HO.tup [.ref ae, .non])) = G at ek eF TF ⊢
      refine ⟨.ref ae, [.non], rfl, .non, [], rfl, rfl, ?_⟩
      refine ⟨.int cc.2, rfl, rfl, _, rfl, iteN (by rw [vi_ne (by omega)]; exact Bool.false_ne_true) ?_⟩
      refine next_in (ret_in ?_)
      refine ⟨.ref ae, rfl, ae, BP, .int cc.2, .ref BP, _, true, rfl, .own BP, XBP, ek, kit_own, true, rfl, iteT ?_⟩
      refine ⟨.ref ae, rfl, ae, BP, .int cc.2, rfl, XBP, ek, ?_⟩
      dsimp only [tNil]
      refine reprN_in (i := (cc.2 : Int)) (by omega) ?_
      refine ⟨.int cc.2, rfl, ?_⟩
      dsimp only [tNil]
      refine reprN_in (i := (cc.2 : Int)) (by omega) ?_
      refine ⟨rfl, ?_⟩
      rw [decide_eq_true rfl]
      exact q G eF TF
    · by_cases c0 : cc.2 = 0
      case neg =>
        rw [O.no c0] at er
        cases er
      refine hQ _ _ (fun R nR => ?_)
      have s2 : Same H0 H' := fun z o ez => o6 _ _ (ne_of_none ez ntb) (s1 _ _ ez)
      have s3 := s2.trans (sameU (o := .tup [.non, .ref tb]) nR)
      have O3 := OP.same (sameU (o := .tup [.non, .ref tb]) nR)
      refine ⟨R, _, rfl, SqT.of upd_same, rfl, ?_⟩
      have eF : ExtN H _ := e1.trans (extN_same (s0.trans s3))
      have TF := tabs_same T1 (s0.trans s3)
      have hLF := s3 _ _ hL0
      generalize L2.upd H' R (HO.tup [.non, .ref tb]) = G at O3 eF TF hLF ⊢
      refine ⟨.non, [.ref tb], rfl, .ref tb, [], rfl, rfl, ?_⟩
      refine ⟨.int cc.2, rfl, rfl, _, rfl, iteY (vi_eq (by omega)) ?_⟩
      refine ret_in ?_
      refine ⟨.non, rfl, rfl, true, rfl, iteT ?_⟩
      obtain ⟨u', d', e', h1⟩ := O3.at_
      refine ⟨.ref tb, rfl, tb, dtb, _, rfl, h1, Txt.join nlS cc.1, tb, dtb, rfl, O3, ?_⟩
      refine ⟨⟨_, rfl⟩, .ref L, rfl, nlS, L, cc.1, rfl, rfl, .inl (SqL.of hLF), bnd, rfl, ?_⟩
      rw [decide_eq_true rfl]
      exact q G eF TF
end
end Uq

namespace Uq
open PySem PySem.Spec PyProof.Rows L2
open TL

/-! ### texts of lines of words -/
def NoSep (w : Str) : Prop := (32 : Nat) ∉ tl w ∧ (10 : Nat) ∉ tl w
theorem line_tl (ws : List Str) : tl (lineS ws) = joinL (tl spS) (ws.map tl) := by
  unfold lineS
  rw [join_eq, tl_join]
theorem line_split' {ws : List Str} (hne : ws ≠ []) (h : ∀ w ∈ ws, NoSep w) : Txt.split (lineS ws) spS = ws := split_join (s := 32) (S := []) (by decide +kernel) (by decide +kernel) hne fun p m => (h p m).1
theorem line_nl' {ws : List Str} (h : ∀ w ∈ ws, NoSep w) : (10 : Nat) ∉ tl (lineS ws) := by
  intro z
  rw [line_tl] at z
  rcases mem_joinL z with z | ⟨p, m, z⟩
  · revert z
    decide +kernel
  · obtain ⟨w, mw, rfl⟩ := List.mem_map.mp m
    exact (h w mw).2 z
theorem rows_text {ls : List (List Str)} (hne : ls ≠ []) (h : ∀ ws ∈ ls, ws ≠ [] ∧ ∀ w ∈ ws, NoSep w) : rowsT (Txt.join nlS (ls.map lineS)) = ls := by
  have e : Txt.split (Txt.join nlS (ls.map lineS)) nlS = ls.map lineS := by
    refine split_join (s := 10) (S := []) (by decide +kernel) (by decide +kernel) (fun e => hne (List.map_eq_nil_iff.mp e)) fun p m => ?_
    obtain ⟨ws, mw, rfl⟩ := List.mem_map.mp m
    exact line_nl' (h ws mw).2
  unfold rowsT
  rw [e, List.map_map]
  exact (List.map_congr_left fun ws m => line_split' (h ws m).1 (h ws m).2).trans (List.map_id _)
/-- words behind a line -/
def tS : List Str → List Nat
  | [] => []
  | w :: r => tl spS ++ (tl w ++ tS r)
theorem joinL_app : ∀ (x : Str) (xs ys : List Str), joinL (tl spS) ((x :: xs ++ ys).map tl) = joinL (tl spS) ((x :: xs).map tl) ++ tS ys
  | x, [], [] => by simp [tS]
  | x, [], y :: ys => by
    have i := joinL_app y [] ys
    show tl x ++ (tl spS ++ joinL (tl spS) ((y :: ys).map tl)) = tl x ++ (tl spS ++ (tl y ++ tS ys))
    have i' : joinL (tl spS) ((y :: ys).map tl) = tl y ++ tS ys := i
    rw [i']
  | x, z :: xs, ys => by
    have i := joinL_app z xs ys
    show tl x ++ (tl spS ++ joinL (tl spS) ((z :: xs ++ ys).map tl)) = (tl x ++ (tl spS ++ joinL (tl spS) ((z :: xs).map tl))) ++ tS ys
    rw [i]
    simp only [List.append_assoc]
theorem line_app {x t : Str} {xs ys : List Str} (h : tl t = tS ys) : lineS (x :: xs) ++ t = lineS (x :: xs ++ ys) := ext_tl (by rw [tl_append, line_tl, line_tl, joinL_app, h])
theorem ask_line (a : Str) : askS a = lineS ["asked", a] := ext_tl (by
  unfold askS
  rw [tl_append, line_tl, show tl ("asked " : Str) = tl "asked" ++ tl spS from by decide +kernel, List.append_assoc]
  rfl)
theorem part_line (b a : Str) : partS b a = lineS ["part", b, "of", a] := ext_tl (by
  unfold partS
  rw [tl_append, tl_append, tl_append, line_tl, show tl ("part " : Str) = tl "part" ++ tl spS from by decide +kernel, show tl (" of " : Str) = tl spS ++ (tl "of" ++ tl spS) from by decide +kernel]
  show _ = tl "part" ++ (tl spS ++ (tl b ++ (tl spS ++ (tl "of" ++ (tl spS ++ tl a)))))
  simp only [List.append_assoc])
theorem part_tail {b a t : Str} {tw : List Str} (h : tl t = tS tw) : partS b a ++ t = lineS (([("part" : Str), b, "of", a] : List Str) ++ tw) := by
  rw [part_line]
  exact line_app h
theorem ask_two (a b : Str) : askS a ++ " " ++ b = lineS ["asked", a, b] := by
  have h : tl ((" " : Str) ++ b) = tS [b] := by
    rw [tl_append]
    show _ = tl spS ++ (tl b ++ [])
    rw [List.append_nil]
    rfl
  have e : askS a ++ " " ++ b = askS a ++ (" " ++ b) := ext_tl (by simp only [tl_append, List.append_assoc])
  rw [e, ask_line]
  exact line_app h
theorem nobody_line (b : Str) : ("part " : Str) ++ b ++ " of nobody" = lineS ["part", b, "of", "nobody"] := by
  rw [← part_line]
  unfold partS
  refine ext_tl ?_
  simp only [tl_append, List.append_assoc]
  rw [show tl (" of nobody" : Str) = tl (" of " : Str) ++ tl "nobody" from by decide +kernel]
theorem q_line (a : Str) : ("part q of " : Str) ++ a = lineS ["part", "q", "of", a] := by
  rw [← part_line]
  unfold partS
  refine ext_tl ?_
  simp only [tl_append, List.append_assoc]
  rw [show tl ("part q of " : Str) = tl ("part " : Str) ++ (tl "q" ++ tl (" of " : Str)) from by decide +kernel]
  simp only [List.append_assoc]
/-- a word of a case -/
structure Wk (w : Str) : Prop where
  sep : NoSep w
  asc : Asc w
  len : w.length ≤ 9
theorem wk_of {w : Str} (h : ((tl w).all fun c => decide (c < 128) && (c != 32) && (c != 10)) = true) (l : w.length ≤ 9) : Wk w := by
  rw [List.all_eq_true] at h
  refine ⟨⟨fun m => ?_, fun m => ?_⟩, fun c m => ?_, l⟩
  · have := h _ m
    simp at this
  · have := h _ m
    simp at this
  · have := h _ m
    simp at this
    exact this.1.1
theorem wk_name {w : Str} (h : nameR w = true) : Wk w := by
  unfold nameR at h
  rw [Bool.and_eq_true, Bool.and_eq_true] at h
  refine wk_of ?_ (Nat.le_succ_of_le (of_decide_eq_true h.1.2))
  rw [List.all_eq_true]
  intro c m
  have z := List.all_eq_true.mp h.2 c m
  unfold rng at z
  rw [Bool.and_eq_true] at z
  have a := of_decide_eq_true z.1
  have b := of_decide_eq_true z.2
  simp
  omega
def wkB (w : Str) : Bool := ((tl w).all fun c => decide (c < 128) && (c != 32) && (c != 10)) && decide (w.length ≤ 9)
theorem wk_b {w : Str} (h : wkB w = true) : Wk w := by
  unfold wkB at h
  rw [Bool.and_eq_true] at h
  exact wk_of h.1 (of_decide_eq_true h.2)

/-! ### rows by their numbers -/
abbrev IK := Nat × Option Nat × Nat
def idI (ks : List IK) : List Nat := ks.map (·.1)
def abI (ks : List IK) : List Nat := ks.filterMap (·.2.1)
def dpI (ks : List IK) (j : Nat) : Nat := match ks.find? (fun k => k.1 == j) with
  | some k => k.2.2
  | none => 0
def endsI (ks : List IK) : List Nat := (idI ks).filter fun i => !(abI ks).contains i
def muchI (ks : List IK) (d : Nat) : Bool := decide (10 < ks.length) || (decide (6 < (endsI ks).length) || decide (4 < d + 1))
def rowsI : List IK → Nat → List (Nat × Nat) → Nat
  | _, _, [] => 0
  | ks, n, (i, j) :: r => if i ∈ idI ks ∨ j ∉ idI ks then n else
    if muchI (ks ++ [(i, some j, dpI ks j + 1)]) (dpI ks j + 1) = true then n else rowsI (ks ++ [(i, some j, dpI ks j + 1)]) (n + 1) r
section
variable {ns : Nat → Str}
def kI (ns : Nat → Str) (k : IK) : Kn := ⟨⟨ns k.1, (match k.2.1 with | some j => V.str (ns j) | none => .non), .non, .non⟩, k.2.2⟩
def rowI (ns : Nat → Str) (p : Nat × Nat) : List Str := ["part", ns p.1, "of", ns p.2]
structure Inj (ns : Nat → Str) : Prop where
  inj : ∀ i j, i < 12 → j < 12 → ns i = ns j → i = j
  nam : ∀ i, i < 12 → nameR (ns i) = true
def InK (ks : List IK) : Prop := ∀ k ∈ ks, k.1 < 12 ∧ ∀ j, k.2.1 = some j → j < 12
theorem names_mem (J : Inj ns) {ks : List IK} (h : InK ks) {i : Nat} (hi : i < 12) : ns i ∈ namesK (ks.map (kI ns)) ↔ i ∈ idI ks := by
  unfold namesK lnsK idI
  rw [List.map_map, List.map_map]
  constructor
  · intro m
    obtain ⟨k, mk, ek⟩ := List.mem_map.mp m
    have := J.inj _ _ (h k mk).1 hi ek
    exact List.mem_map.mpr ⟨k, mk, this⟩
  · intro m
    obtain ⟨k, mk, ek⟩ := List.mem_map.mp m
    exact List.mem_map.mpr ⟨k, mk, by rw [← ek]; rfl⟩
theorem dpI_same (J : Inj ns) : ∀ {ks : List IK}, InK ks → ∀ {j : Nat}, j < 12 → dpOf (ks.map (kI ns)) (ns j) = dpI ks j
  | [], _, _, _ => rfl
  | k :: ks, h, j, hj => by
    have i := dpI_same J (ks := ks) (fun z m => h z (List.mem_cons_of_mem _ m)) hj
    unfold dpOf dpI at i ⊢
    rw [List.map_cons, List.find?_cons, List.find?_cons]
    by_cases e : k.1 = j
    · rw [show ((kI ns k).ln.nm == ns j) = true from by rw [← e]; exact beq_self_eq_true _, show (k.1 == j) = true from by rw [e]; exact beq_self_eq_true _]
      rfl
    · have ne : ((kI ns k).ln.nm == ns j) = false := by
        rw [beq_eq_false_iff_ne]
        exact fun z => e (J.inj _ _ (h k List.mem_cons_self).1 hj z)
      rw [ne, show (k.1 == j) = false from beq_eq_false_iff_ne.mpr e]
      exact i
theorem ab_same (J : Inj ns) {i : Nat} (hi : i < 12) : ∀ {ks : List IK}, InK ks → inV (.str (ns i)) (wholes (lnsK (ks.map (kI ns)))) = (abI ks).contains i
  | [], _ => rfl
  | k :: ks, h => by
    have r := ab_same J hi (ks := ks) (fun z m => h z (List.mem_cons_of_mem _ m))
    show (eqV (kI ns k).ln.ab (.str (ns i)) || inV (.str (ns i)) (wholes (lnsK (ks.map (kI ns))))) = _
    rw [r]
    obtain ⟨a, ab, d⟩ := k
    cases ab with
    | none => rfl
    | some j =>
      have hj := (h _ List.mem_cons_self).2 j rfl
      show ((ns j == ns i) || (abI ks).contains i) = (j :: abI ks).contains i
      rw [List.contains_cons]
      congr 1
      rw [Bool.eq_iff_iff, beq_iff_eq, beq_iff_eq]
      exact ⟨fun z => (J.inj _ _ hj hi z).symm, fun z => by rw [z]⟩
theorem ends_same (J : Inj ns) {ks : List IK} (h : InK ks) : (ends (lnsK (ks.map (kI ns)))).length = (endsI ks).length := by
  have e : ends (lnsK (ks.map (kI ns))) = ((idI ks).filter fun i => !(abI ks).contains i).map ns := by
    unfold ends idI
    have a : lnsK (ks.map (kI ns)) = ks.map fun k => (kI ns k).ln := by unfold lnsK; rw [List.map_map]; rfl
    rw [List.filter_map, List.map_map]
    have b : (lnsK (ks.map (kI ns))).filter (isEnd (lnsK (ks.map (kI ns)))) = (ks.filter fun k => isEnd (lnsK (ks.map (kI ns))) (kI ns k).ln).map fun k => (kI ns k).ln := by
      conv => lhs; rw [a]
      rw [List.filter_map]
      rw [a]
      rfl
    rw [b, List.map_map]
    have c : (ks.filter fun k => isEnd (lnsK (ks.map (kI ns))) (kI ns k).ln) = ks.filter ((fun i => !(abI ks).contains i) ∘ fun x => x.1) := by
      refine List.filter_congr fun k m => ?_
      show (!inV (.str (ns k.1)) (wholes (lnsK (ks.map (kI ns))))) = !(abI ks).contains k.1
      rw [ab_same J (h k m).1 h]
    rw [c]
    rfl
  rw [e, List.length_map]
  rfl
theorem rows_same (J : Inj ns) (b : Nat) : ∀ (l : List (Nat × Nat)) (ks : List IK) (n : Nat), 0 < n → InK ks → (∀ p ∈ l, p.1 < 12 ∧ p.2 < 12) →
    (rowsI ks n l = 0 → ∃ r, rowsR b (ks.map (kI ns)) n (l.map (rowI ns)) = .inr r) ∧ (rowsI ks n l ≠ 0 → rowsR b (ks.map (kI ns)) n (l.map (rowI ns)) = .inl (rowsI ks n l))
  | [], ks, n, _, _, _ => ⟨fun _ => ⟨_, rfl⟩, fun h => absurd rfl h⟩
  | (i, j) :: r, ks, n, n0, h, hl => by
    obtain ⟨hi, hj⟩ := hl (i, j) List.mem_cons_self
    have eR : rowsR b (ks.map (kI ns)) n (((i, j) :: r).map (rowI ns)) = (match lineR b (ks.map (kI ns)) (rowI ns (i, j)) with | none => .inl n | some k => if muchR (ks.map (kI ns) ++ [k]) k = true then .inl n else rowsR b (ks.map (kI ns) ++ [k]) (n + 1) (r.map (rowI ns))) := rfl
    have eL : lineR b (ks.map (kI ns)) (rowI ns (i, j)) = (if (Str.ofString "part" = "part" ∧ Str.ofString "of" = "of" ∧ nameR (ns i) = true ∧ ns i ∉ namesK (ks.map (kI ns)) ∧ ns j ∈ namesK (ks.map (kI ns))) then some (kI ns (i, some j, dpI ks j + 1)) else none) := by
      show (if _ then (tailR b []).map _ else none) = _
      rw [dpI_same J h hj]
      rfl
    by_cases c : i ∈ idI ks ∨ j ∉ idI ks
    · have e0 : rowsI ks n ((i, j) :: r) = n := if_pos c
      rw [e0]
      have eN : lineR b (ks.map (kI ns)) (rowI ns (i, j)) = none := by
        rw [eL, if_neg]
        rintro ⟨_, _, _, z1, z2⟩
        rcases c with c | c
        · exact z1 ((names_mem J h hi).mpr c)
        · exact c ((names_mem J h hj).mp z2)
      rw [eR, eN]
      exact ⟨fun z => absurd z (by omega), fun _ => rfl⟩
    · have c1 : i ∉ idI ks := fun z => c (.inl z)
      have c2 : j ∈ idI ks := Classical.byContradiction fun z => c (.inr z)
      have eS : lineR b (ks.map (kI ns)) (rowI ns (i, j)) = some (kI ns (i, some j, dpI ks j + 1)) := by
        rw [eL, if_pos ⟨rfl, rfl, J.nam i hi, fun z => c1 ((names_mem J h hi).mp z), (names_mem J h hj).mpr c2⟩]
      have hk : InK (ks ++ [(i, some j, dpI ks j + 1)]) := fun k m => by
        rcases List.mem_append.mp m with z | z
        · exact h k z
        · rw [List.mem_singleton.mp z]
          exact ⟨hi, fun j' e => by cases e; exact hj⟩
      have eK : ks.map (kI ns) ++ [kI ns (i, some j, dpI ks j + 1)] = (ks ++ [(i, some j, dpI ks j + 1)]).map (kI ns) := by rw [List.map_append]; rfl
      have eM : muchR ((ks ++ [(i, some j, dpI ks j + 1)]).map (kI ns)) (kI ns (i, some j, dpI ks j + 1)) = muchI (ks ++ [(i, some j, dpI ks j + 1)]) (dpI ks j + 1) := by
        unfold muchR muchI
        rw [ends_same J hk, List.length_map]
        rfl
      have e0 : rowsI ks n ((i, j) :: r) = (if muchI (ks ++ [(i, some j, dpI ks j + 1)]) (dpI ks j + 1) = true then n else rowsI (ks ++ [(i, some j, dpI ks j + 1)]) (n + 1) r) := if_neg c
      have eR2 : rowsR b (ks.map (kI ns)) n (((i, j) :: r).map (rowI ns)) = (if muchI (ks ++ [(i, some j, dpI ks j + 1)]) (dpI ks j + 1) = true then .inl n else rowsR b ((ks ++ [(i, some j, dpI ks j + 1)]).map (kI ns)) (n + 1) (r.map (rowI ns))) := by
        rw [eR, eS]
        show (if muchR (ks.map (kI ns) ++ [kI ns (i, some j, dpI ks j + 1)]) (kI ns (i, some j, dpI ks j + 1)) = true then _ else _) = _
        rw [eK, eM]
      rw [e0, eR2]
      by_cases m : muchI (ks ++ [(i, some j, dpI ks j + 1)]) (dpI ks j + 1) = true
      · rw [if_pos m, if_pos m]
        exact ⟨fun z => absurd z (by omega), fun _ => rfl⟩
      · rw [if_neg m, if_neg m]
        exact rows_same J b r _ (n + 1) (Nat.succ_pos _) hk fun p mp => hl p (List.mem_cons_of_mem _ mp)
end
end Uq

namespace Uq
open PySem PySem.Spec PyProof.Rows L2 TL

/-! ### every case is as it is due -/
def RowOk (ws : List Str) : Prop := ws ≠ [] ∧ ws.length ≤ 12 ∧ ∀ w ∈ ws, Wk w
def rowB (ws : List Str) : Bool := !ws.isEmpty && decide (ws.length ≤ 12) && ws.all wkB
theorem rk_b {ws : List Str} (h : rowB ws = true) : RowOk ws := by
  unfold rowB at h
  rw [Bool.and_eq_true, Bool.and_eq_true] at h
  refine ⟨fun e => ?_, of_decide_eq_true h.1.2, fun w m => wk_b (List.all_eq_true.mp h.2 w m)⟩
  subst e
  exact absurd h.1.1 (by decide)
theorem wk_l : Wk "asked" ∧ Wk "part" ∧ Wk "of" := ⟨wk_b (by decide +kernel), wk_b (by decide +kernel), wk_b (by decide +kernel)⟩
theorem rk_ask {a : Str} (h : nameR a = true) : RowOk ["asked", a] := by
  refine ⟨by simp, Nat.le_of_ble_eq_true rfl, fun w m => ?_⟩
  rcases List.mem_cons.mp m with rfl | m
  · exact wk_l.1
  rw [List.mem_singleton.mp m]
  exact wk_name h
theorem rk_pt {a b : Str} {tw : List Str} (hb : nameR b = true) (ha : nameR a = true) (l : tw.length ≤ 6) (h : tw.all wkB = true) : RowOk (([("part" : Str), b, "of", a] : List Str) ++ tw) := by
  refine ⟨by simp, by show tw.length + 4 ≤ 12; omega, fun w m => ?_⟩
  rcases List.mem_append.mp m with m | m
  · rcases List.mem_cons.mp m with rfl | m
    · exact wk_l.2.1
    rcases List.mem_cons.mp m with rfl | m
    · exact wk_name hb
    rcases List.mem_cons.mp m with rfl | m
    · exact wk_l.2.2
    rw [List.mem_singleton.mp m]
    exact wk_name ha
  · exact wk_b (List.all_eq_true.mp h w m)
theorem rk_p {a b : Str} (hb : nameR b = true) (ha : nameR a = true) : RowOk ["part", b, "of", a] := rk_pt (tw := []) hb ha (Nat.zero_le _) rfl
theorem rs_nil : ∀ ws ∈ ([] : List (List Str)), RowOk ws := fun _ m => nomatch m
theorem rs_cons {x : List Str} {r : List (List Str)} (h : RowOk x) (g : ∀ ws ∈ r, RowOk ws) : ∀ ws ∈ x :: r, RowOk ws := fun ws m => by
  rcases List.mem_cons.mp m with rfl | m
  · exact h
  · exact g ws m
theorem sum_le {l : List Str} {k : Nat} (h : ∀ x ∈ l, x.length ≤ k) : (l.map (·.length)).sum ≤ l.length * k := by
  induction l with
  | nil => exact Nat.zero_le _
  | cons x r i =>
    have a := h x List.mem_cons_self
    have b := i fun z m => h z (List.mem_cons_of_mem _ m)
    rw [List.map_cons, List.sum_cons, List.length_cons, Nat.succ_mul]
    omega
theorem row_len {ws : List Str} (h : RowOk ws) : (lineS ws).length ≤ 120 := by
  unfold lineS
  rw [join_eq]
  have z := PySem.StrLaws.join_length_le spS ws
  have e : spS.length = 1 := by decide +kernel
  rw [e, Nat.mul_one] at z
  have := sum_le fun x m => (h.2.2 x m).len
  have := h.2.1
  omega
theorem line_asc {ws : List Str} (h : RowOk ws) : Asc (lineS ws) := by
  intro k hk
  rw [line_tl] at hk
  rcases mem_joinL hk with z | ⟨p, m, z⟩
  · have : ∀ c ∈ tl spS, c < 128 := by decide +kernel
    exact this k z
  · obtain ⟨y, my, rfl⟩ := List.mem_map.mp m
    exact (h.2.2 y my).asc k z
theorem case_no {c : Cs} {rows : List (List Str)} (e : c.1 = rows.map lineS) (h : ∀ ws ∈ rows, RowOk ws) (ne : rows ≠ []) (l : rows.length ≤ 20) (n0 : c.2 ≠ 0) (few : c.2 ≤ 100) (p : pageR rows = .inl c.2) : CaseOk c := by
  have et := rows_text ne fun ws m => ⟨(h ws m).1, fun w mw => ((h ws m).2.2 w mw).sep⟩
  refine ⟨fun y m => ?_, ?_, fun z => absurd z n0, fun _ => by rw [e, et]; exact p, few⟩
  · rw [e] at m
    obtain ⟨ws, mw, rfl⟩ := List.mem_map.mp m
    exact line_asc (h ws mw)
  · rw [e]
    have := sum_le (l := rows.map lineS) (k := 120) fun x m => by
      obtain ⟨ws, mw, rfl⟩ := List.mem_map.mp m
      exact row_len (h ws mw)
    rw [List.length_map] at *
    omega
theorem case_yes {c : Cs} {rows : List (List Str)} (e : c.1 = rows.map lineS) (h : ∀ ws ∈ rows, RowOk ws) (ne : rows ≠ []) (l : rows.length ≤ 20) (n0 : c.2 = 0) (p : ∃ r, pageR rows = .inr r) : CaseOk c := by
  have et := rows_text ne fun ws m => ⟨(h ws m).1, fun w mw => ((h ws m).2.2 w mw).sep⟩
  refine ⟨fun y m => ?_, ?_, fun _ => by rw [e, et]; exact p, fun z => absurd n0 z, by omega⟩
  · rw [e] at m
    obtain ⟨ws, mw, rfl⟩ := List.mem_map.mp m
    exact line_asc (h ws mw)
  · rw [e]
    have := sum_le (l := rows.map lineS) (k := 120) fun x m => by
      obtain ⟨ws, mw, rfl⟩ := List.mem_map.mp m
      exact row_len (h ws mw)
    rw [List.length_map] at *
    omega
theorem e1 {x : Str} {a : List Str} (h : x = lineS a) : [x] = [a].map lineS := by rw [h]; rfl
theorem ec {x : Str} {a : List Str} {r : List Str} {s : List (List Str)} (h : x = lineS a) (g : r = s.map lineS) : x :: r = (a :: s).map lineS := by rw [h, g]; rfl
theorem en : ([] : List Str) = ([] : List (List Str)).map lineS := rfl
theorem ask_of {a : Str} (h : nameR a = true) : askR ["asked", a] = some a := if_pos ⟨rfl, h⟩
/-- the line of one part below the one asked for -/
def k1 (a b : Str) (sf : V × V) : Kn := ⟨⟨b, .str a, sf.1, sf.2⟩, dpOf [topK a] a + 1⟩
theorem line_one {N : Nat} {a b : Str} {tw : List Str} (hb : nameR b = true) (ne : b ≠ a) : lineR N [topK a] (([("part" : Str), b, "of", a] : List Str) ++ tw) = (tailR N tw).map (k1 a b) := by
  show (if _ then _ else none) = _
  refine if_pos ⟨rfl, rfl, hb, fun m => ?_, List.mem_singleton.mpr rfl⟩
  exact ne (List.mem_singleton.mp m)
theorem dp_top {a : Str} : dpOf [topK a] a = 0 := by
  unfold dpOf
  rw [List.find?_cons]
  rw [show ((topK a).ln.nm == a) = true from beq_self_eq_true a]
  rfl
theorem much_one {a b : Str} {sf : V × V} : muchR ([topK a] ++ [k1 a b sf]) (k1 a b sf) = false := by
  have z : (ends (lnsK ([topK a] ++ [k1 a b sf]))).length ≤ 2 := by
    unfold ends
    rw [List.length_map]
    exact Nat.le_trans (List.length_filter_le _ _) (Nat.le_refl 2)
  unfold muchR
  rw [show (k1 a b sf).dp = 1 from congrArg (· + 1) dp_top]
  rw [decide_eq_false (show ¬ 10 < ([topK a] ++ [k1 a b sf]).length from by show ¬ 10 < 2; decide), decide_eq_false (show ¬ 6 < _ by omega)]
  rfl
theorem rows_no {N : Nat} {a b : Str} {tw : List Str} {r : List (List Str)} (hb : nameR b = true) (ne : b ≠ a) (h : tailR N tw = none) : rowsR N [topK a] 3 ((([("part" : Str), b, "of", a] : List Str) ++ tw) :: r) = .inl 3 := by
  show (match lineR N [topK a] _ with | none => (Sum.inl 3 : Nat ⊕ List Kn) | some k => if muchR ([topK a] ++ [k]) k = true then (Sum.inl 3 : Nat ⊕ List Kn) else rowsR N ([topK a] ++ [k]) 4 r) = _
  rw [line_one hb ne, h]
  rfl
theorem rows_yes {N : Nat} {a b : Str} {tw : List Str} {r : List (List Str)} {sf : V × V} (hb : nameR b = true) (ne : b ≠ a) (h : tailR N tw = some sf) : rowsR N [topK a] 3 ((([("part" : Str), b, "of", a] : List Str) ++ tw) :: r) = rowsR N ([topK a] ++ [k1 a b sf]) 4 r := by
  show (match lineR N [topK a] _ with | none => (Sum.inl 3 : Nat ⊕ List Kn) | some k => if muchR ([topK a] ++ [k]) k = true then (Sum.inl 3 : Nat ⊕ List Kn) else rowsR N ([topK a] ++ [k]) 4 r) = _
  rw [line_one hb ne, h]
  show (if muchR ([topK a] ++ [k1 a b sf]) (k1 a b sf) = true then _ else _) = _
  rw [much_one]
  rfl
theorem page_yes {r0 : List Str} {N : Nat} {hw : Str} {a b : Str} {tw : List Str} (eu : unitsR r0 = some (N, hw)) (ha : nameR a = true) (hb : nameR b = true) (ne : b ≠ a) (h : (tailR N tw).isSome = true) : ∃ r, pageR [r0, ["asked", a], ([("part" : Str), b, "of", a] : List Str) ++ tw] = .inr r := by
  obtain ⟨sf, es⟩ := Option.isSome_iff_exists.mp h
  exact ⟨_, pageR_5 eu (ask_of ha) (rows_yes hb ne es)⟩
theorem page_no {r0 : List Str} {N : Nat} {hw : Str} {a b : Str} {tw : List Str} (eu : unitsR r0 = some (N, hw)) (ha : nameR a = true) (hb : nameR b = true) (ne : b ≠ a) (h : (tailR N tw).isSome = false) : pageR [r0, ["asked", a], ([("part" : Str), b, "of", a] : List Str) ++ tw] = .inl 3 := by
  refine pageR_4 eu (ask_of ha) (rows_no hb ne ?_)
  cases e : tailR N tw with
  | none => rfl
  | some sf =>
    rw [e] at h
    cases h
theorem tails0_w : ∀ t ∈ tails0, ∃ tw : List Str, tl t = tS tw ∧ tw.length ≤ 6 ∧ tw.all wkB = true ∧ (tailR 20 tw).isSome = true := by
  intro t m
  simp only [tails0, List.mem_cons, List.not_mem_nil, or_false] at m
  rcases m with rfl | rfl | rfl | rfl | rfl | rfl | rfl | rfl
  · exact ⟨[], by decide +kernel⟩
  · exact ⟨["is", "0"], by decide +kernel⟩
  · exact ⟨["is", "20"], by decide +kernel⟩
  · exact ⟨["is", "some"], by decide +kernel⟩
  · exact ⟨["all", "none"], by decide +kernel⟩
  · exact ⟨["all", "20"], by decide +kernel⟩
  · exact ⟨["is", "20", "all", "0"], by decide +kernel⟩
  · exact ⟨["is", "none", "all", "some"], by decide +kernel⟩
theorem tails1_w : ∀ t ∈ tails1 ++ tails2, ∃ tw : List Str, tl t = tS tw ∧ tw.length ≤ 6 ∧ tw.all wkB = true ∧ (tailR 20 tw).isSome = false := by
  intro t m
  simp only [tails1, tails2, List.cons_append, List.nil_append, List.mem_cons, List.not_mem_nil, or_false] at m
  rcases m with rfl | rfl | rfl | rfl | rfl | rfl | rfl | rfl | rfl | rfl | rfl | rfl | rfl | rfl | rfl | rfl
  · exact ⟨["is", "21"], by decide +kernel⟩
  · exact ⟨["all", "21"], by decide +kernel⟩
  · exact ⟨["is", "020"], by decide +kernel⟩
  · exact ⟨["is", "-1"], by decide +kernel⟩
  · exact ⟨["is", "None"], by decide +kernel⟩
  · exact ⟨["is"], by decide +kernel⟩
  · exact ⟨["all"], by decide +kernel⟩
  · exact ⟨["is", "1", "is", "1"], by decide +kernel⟩
  · exact ⟨["all", "1", "is", "1"], by decide +kernel⟩
  · exact ⟨["is", "1", "all"], by decide +kernel⟩
  · exact ⟨["is", "1", "all", "1", "all", "1"], by decide +kernel⟩
  · exact ⟨["1"], by decide +kernel⟩
  · exact ⟨["is", "", "1"], by decide +kernel⟩
  · exact ⟨["is", "1", ""], by decide +kernel⟩
  · exact ⟨["all", "1", "all", "1"], by decide +kernel⟩
  · exact ⟨["is", "1", "of", "1"], by decide +kernel⟩
theorem units20 : unitsR ["in", "20", "near"] = some (20, ("near" : Str)) := by decide +kernel
theorem in20 : ("in 20 near" : Str) = lineS ["in", "20", "near"] := by decide +kernel
theorem share_ok {a b : Str} (ha : nameR a = true) (hb : nameR b = true) (ne : b ≠ a) : ∀ c ∈ shareC a b, CaseOk c := by
  intro c m
  unfold shareC at m
  have yes : c ∈ (tails0.map fun t => ([("in 20 near" : Str), askS a] ++ [partS b a ++ t], 0)) → CaseOk c := fun m => by
    obtain ⟨t, mt, rfl⟩ := List.mem_map.mp m
    obtain ⟨tw, et, l, w, s⟩ := tails0_w t mt
    exact case_yes (ec in20 (ec (ask_line a) (ec (part_tail et) en))) (rs_cons (rk_b (by decide +kernel)) (rs_cons (rk_ask ha) (rs_cons (rk_pt hb ha l w) rs_nil))) (by simp) (Nat.le_of_ble_eq_true rfl) rfl (page_yes units20 ha hb ne s)
  have no : ∀ ts : List Str, (∀ t ∈ ts, t ∈ tails1 ++ tails2) → c ∈ (ts.map fun t => ([("in 20 near" : Str), askS a] ++ [partS b a ++ t], 3)) → CaseOk c := fun ts hs m => by
    obtain ⟨t, mt, rfl⟩ := List.mem_map.mp m
    obtain ⟨tw, et, l, w, s⟩ := tails1_w t (hs t mt)
    exact case_no (ec in20 (ec (ask_line a) (ec (part_tail et) en))) (rs_cons (rk_b (by decide +kernel)) (rs_cons (rk_ask ha) (rs_cons (rk_pt hb ha l w) rs_nil))) (by simp) (Nat.le_of_ble_eq_true rfl) (show (3 : Nat) ≠ 0 by decide) (show (3 : Nat) ≤ 100 by decide) (page_no units20 ha hb ne s)
  rcases List.mem_append.mp m with m | m
  · rcases List.mem_append.mp m with m | m
    · exact yes m
    · exact no tails1 (fun t mt => List.mem_append_left _ mt) m
  · exact no tails2 (fun t mt => List.mem_append_right _ mt) m
theorem rk_two {a b : Str} (ha : nameR a = true) (hb : nameR b = true) : RowOk ["asked", a, b] := by
  refine ⟨by simp, Nat.le_of_ble_eq_true rfl, fun w m => ?_⟩
  rcases List.mem_cons.mp m with rfl | m
  · exact wk_l.1
  rcases List.mem_cons.mp m with rfl | m
  · exact wk_name ha
  rw [List.mem_singleton.mp m]
  exact wk_name hb
theorem head_ok {a b : Str} (ha : nameR a = true) (hb : nameR b = true) (ne : b ≠ a) : ∀ c ∈ headC a b, CaseOk c := by
  intro c m
  replace m : c ∈ ([([("in 2 near" : Str), askS a, partS b a], 0), ([("in 100 even" : Str), askS a, partS b a], 0), ([("in 1 near" : Str), askS a, partS b a], 1), ([("in 101 up" : Str), askS a, partS b a], 1), ([("in 07 up" : Str), askS a, partS b a], 1), ([("in 10 Up" : Str), askS a, partS b a], 1), ([("in 10" : Str), askS a, partS b a], 1), ([("in 10 up up" : Str), askS a, partS b a], 1), ([(" in 10 up" : Str), askS a, partS b a], 1), ([("in 10 up" : Str)], 2), ([("in 10 up" : Str), askS a], 3), ([("in 10 up" : Str), partS b a], 2), ([askS a, partS b a], 1), ([("" : Str)], 1), ([("in 10 down" : Str), ("asked" : Str), partS b a], 2), ([("in 10 down" : Str), askS a ++ " " ++ b, partS b a], 2), ([("in 10 down" : Str), ("asked abcdefghi" : Str), partS b a], 2), ([("in 10 down" : Str), ("asked A" : Str), partS b a], 2), ([("in 10 down" : Str), askS a, askS a, partS b a], 3), ([("in 10 down" : Str), askS a, partS b a, ("" : Str)], 4)] : List Cs) := m
  simp only [List.mem_cons, List.not_mem_nil, or_false] at m
  rcases m with rfl | rfl | rfl | rfl | rfl | rfl | rfl | rfl | rfl | rfl | rfl | rfl | rfl | rfl | rfl | rfl | rfl | rfl | rfl | rfl
  · exact case_yes (rows := [["in", "2", "near"], ["asked", a], ["part", b, "of", a]]) (ec (by decide +kernel) (ec (ask_line a) (ec (part_line b a) en))) (rs_cons (rk_b (by decide +kernel)) (rs_cons (rk_ask ha) (rs_cons (rk_p hb ha) rs_nil))) (by simp) (Nat.le_of_ble_eq_true rfl) rfl (page_yes (tw := []) (show unitsR ["in", "2", "near"] = some (2, ("near" : Str)) from by decide +kernel) ha hb ne rfl)
  · exact case_yes (rows := [["in", "100", "even"], ["asked", a], ["part", b, "of", a]]) (ec (by decide +kernel) (ec (ask_line a) (ec (part_line b a) en))) (rs_cons (rk_b (by decide +kernel)) (rs_cons (rk_ask ha) (rs_cons (rk_p hb ha) rs_nil))) (by simp) (Nat.le_of_ble_eq_true rfl) rfl (page_yes (tw := []) (show unitsR ["in", "100", "even"] = some (100, ("even" : Str)) from by decide +kernel) ha hb ne rfl)
  · exact case_no (rows := [["in", "1", "near"], ["asked", a], ["part", b, "of", a]]) (ec (by decide +kernel) (ec (ask_line a) (ec (part_line b a) en))) (rs_cons (rk_b (by decide +kernel)) (rs_cons (rk_ask ha) (rs_cons (rk_p hb ha) rs_nil))) (by simp) (Nat.le_of_ble_eq_true rfl) (show (1 : Nat) ≠ 0 by decide) (show (1 : Nat) ≤ 100 by decide) (pageR_0 (by decide +kernel))
  · exact case_no (rows := [["in", "101", "up"], ["asked", a], ["part", b, "of", a]]) (ec (by decide +kernel) (ec (ask_line a) (ec (part_line b a) en))) (rs_cons (rk_b (by decide +kernel)) (rs_cons (rk_ask ha) (rs_cons (rk_p hb ha) rs_nil))) (by simp) (Nat.le_of_ble_eq_true rfl) (show (1 : Nat) ≠ 0 by decide) (show (1 : Nat) ≤ 100 by decide) (pageR_0 (by decide +kernel))
  · exact case_no (rows := [["in", "07", "up"], ["asked", a], ["part", b, "of", a]]) (ec (by decide +kernel) (ec (ask_line a) (ec (part_line b a) en))) (rs_cons (rk_b (by decide +kernel)) (rs_cons (rk_ask ha) (rs_cons (rk_p hb ha) rs_nil))) (by simp) (Nat.le_of_ble_eq_true rfl) (show (1 : Nat) ≠ 0 by decide) (show (1 : Nat) ≤ 100 by decide) (pageR_0 (by decide +kernel))
  · exact case_no (rows := [["in", "10", "Up"], ["asked", a], ["part", b, "of", a]]) (ec (by decide +kernel) (ec (ask_line a) (ec (part_line b a) en))) (rs_cons (rk_b (by decide +kernel)) (rs_cons (rk_ask ha) (rs_cons (rk_p hb ha) rs_nil))) (by simp) (Nat.le_of_ble_eq_true rfl) (show (1 : Nat) ≠ 0 by decide) (show (1 : Nat) ≤ 100 by decide) (pageR_0 (by decide +kernel))
  · exact case_no (rows := [["in", "10"], ["asked", a], ["part", b, "of", a]]) (ec (by decide +kernel) (ec (ask_line a) (ec (part_line b a) en))) (rs_cons (rk_b (by decide +kernel)) (rs_cons (rk_ask ha) (rs_cons (rk_p hb ha) rs_nil))) (by simp) (Nat.le_of_ble_eq_true rfl) (show (1 : Nat) ≠ 0 by decide) (show (1 : Nat) ≤ 100 by decide) (pageR_0 (by decide +kernel))
  · exact case_no (rows := [["in", "10", "up", "up"], ["asked", a], ["part", b, "of", a]]) (ec (by decide +kernel) (ec (ask_line a) (ec (part_line b a) en))) (rs_cons (rk_b (by decide +kernel)) (rs_cons (rk_ask ha) (rs_cons (rk_p hb ha) rs_nil))) (by simp) (Nat.le_of_ble_eq_true rfl) (show (1 : Nat) ≠ 0 by decide) (show (1 : Nat) ≤ 100 by decide) (pageR_0 (by decide +kernel))
  · exact case_no (rows := [["", "in", "10", "up"], ["asked", a], ["part", b, "of", a]]) (ec (by decide +kernel) (ec (ask_line a) (ec (part_line b a) en))) (rs_cons (rk_b (by decide +kernel)) (rs_cons (rk_ask ha) (rs_cons (rk_p hb ha) rs_nil))) (by simp) (Nat.le_of_ble_eq_true rfl) (show (1 : Nat) ≠ 0 by decide) (show (1 : Nat) ≤ 100 by decide) (pageR_0 (by decide +kernel))
  · exact case_no (rows := [["in", "10", "up"]]) (ec (by decide +kernel) en) (rs_cons (rk_b (by decide +kernel)) rs_nil) (by simp) (Nat.le_of_ble_eq_true rfl) (show (2 : Nat) ≠ 0 by decide) (show (2 : Nat) ≤ 100 by decide) (pageR_1 (show unitsR ["in", "10", "up"] = some (10, ("up" : Str)) from by decide +kernel))
  · exact case_no (rows := [["in", "10", "up"], ["asked", a]]) (ec (by decide +kernel) (ec (ask_line a) en)) (rs_cons (rk_b (by decide +kernel)) (rs_cons (rk_ask ha) rs_nil)) (by simp) (Nat.le_of_ble_eq_true rfl) (show (3 : Nat) ≠ 0 by decide) (show (3 : Nat) ≤ 100 by decide) (pageR_3 (show unitsR ["in", "10", "up"] = some (10, ("up" : Str)) from by decide +kernel) (ask_of ha))
  · exact case_no (rows := [["in", "10", "up"], ["part", b, "of", a]]) (ec (by decide +kernel) (ec (part_line b a) en)) (rs_cons (rk_b (by decide +kernel)) (rs_cons (rk_p hb ha) rs_nil)) (by simp) (Nat.le_of_ble_eq_true rfl) (show (2 : Nat) ≠ 0 by decide) (show (2 : Nat) ≤ 100 by decide) (pageR_2 (show unitsR ["in", "10", "up"] = some (10, ("up" : Str)) from by decide +kernel) rfl)
  · exact case_no (rows := [["asked", a], ["part", b, "of", a]]) (ec (ask_line a) (ec (part_line b a) en)) (rs_cons (rk_ask ha) (rs_cons (rk_p hb ha) rs_nil)) (by simp) (Nat.le_of_ble_eq_true rfl) (show (1 : Nat) ≠ 0 by decide) (show (1 : Nat) ≤ 100 by decide) (pageR_0 rfl)
  · exact case_no (rows := [[""]]) (ec (by decide +kernel) en) (rs_cons (rk_b (by decide +kernel)) rs_nil) (by simp) (Nat.le_of_ble_eq_true rfl) (show (1 : Nat) ≠ 0 by decide) (show (1 : Nat) ≤ 100 by decide) (pageR_0 (by decide +kernel))
  · exact case_no (rows := [["in", "10", "down"], ["asked"], ["part", b, "of", a]]) (ec (by decide +kernel) (ec (by decide +kernel) (ec (part_line b a) en))) (rs_cons (rk_b (by decide +kernel)) (rs_cons (rk_b (by decide +kernel)) (rs_cons (rk_p hb ha) rs_nil))) (by simp) (Nat.le_of_ble_eq_true rfl) (show (2 : Nat) ≠ 0 by decide) (show (2 : Nat) ≤ 100 by decide) (pageR_2 (show unitsR ["in", "10", "down"] = some (10, ("down" : Str)) from by decide +kernel) rfl)
  · exact case_no (rows := [["in", "10", "down"], ["asked", a, b], ["part", b, "of", a]]) (ec (by decide +kernel) (ec (ask_two a b) (ec (part_line b a) en))) (rs_cons (rk_b (by decide +kernel)) (rs_cons (rk_two ha hb) (rs_cons (rk_p hb ha) rs_nil))) (by simp) (Nat.le_of_ble_eq_true rfl) (show (2 : Nat) ≠ 0 by decide) (show (2 : Nat) ≤ 100 by decide) (pageR_2 (show unitsR ["in", "10", "down"] = some (10, ("down" : Str)) from by decide +kernel) rfl)
  · exact case_no (rows := [["in", "10", "down"], ["asked", "abcdefghi"], ["part", b, "of", a]]) (ec (by decide +kernel) (ec (by decide +kernel) (ec (part_line b a) en))) (rs_cons (rk_b (by decide +kernel)) (rs_cons (rk_b (by decide +kernel)) (rs_cons (rk_p hb ha) rs_nil))) (by simp) (Nat.le_of_ble_eq_true rfl) (show (2 : Nat) ≠ 0 by decide) (show (2 : Nat) ≤ 100 by decide) (pageR_2 (show unitsR ["in", "10", "down"] = some (10, ("down" : Str)) from by decide +kernel) (by decide +kernel))
  · exact case_no (rows := [["in", "10", "down"], ["asked", "A"], ["part", b, "of", a]]) (ec (by decide +kernel) (ec (by decide +kernel) (ec (part_line b a) en))) (rs_cons (rk_b (by decide +kernel)) (rs_cons (rk_b (by decide +kernel)) (rs_cons (rk_p hb ha) rs_nil))) (by simp) (Nat.le_of_ble_eq_true rfl) (show (2 : Nat) ≠ 0 by decide) (show (2 : Nat) ≤ 100 by decide) (pageR_2 (show unitsR ["in", "10", "down"] = some (10, ("down" : Str)) from by decide +kernel) (by decide +kernel))
  · exact case_no (rows := [["in", "10", "down"], ["asked", a], ["asked", a], ["part", b, "of", a]]) (ec (by decide +kernel) (ec (ask_line a) (ec (ask_line a) (ec (part_line b a) en)))) (rs_cons (rk_b (by decide +kernel)) (rs_cons (rk_ask ha) (rs_cons (rk_ask ha) (rs_cons (rk_p hb ha) rs_nil)))) (by simp) (Nat.le_of_ble_eq_true rfl) (show (3 : Nat) ≠ 0 by decide) (show (3 : Nat) ≤ 100 by decide) (pageR_4 (show unitsR ["in", "10", "down"] = some (10, ("down" : Str)) from by decide +kernel) (ask_of ha) rfl)
  · exact case_no (rows := [["in", "10", "down"], ["asked", a], ["part", b, "of", a], [""]]) (ec (by decide +kernel) (ec (ask_line a) (ec (part_line b a) (ec (by decide +kernel) en)))) (rs_cons (rk_b (by decide +kernel)) (rs_cons (rk_ask ha) (rs_cons (rk_p hb ha) (rs_cons (rk_b (by decide +kernel)) rs_nil)))) (by simp) (Nat.le_of_ble_eq_true rfl) (show (4 : Nat) ≠ 0 by decide) (show (4 : Nat) ≤ 100 by decide) (pageR_4 (show unitsR ["in", "10", "down"] = some (10, ("down" : Str)) from by decide +kernel) (ask_of ha) (rows_yes (tw := []) hb ne rfl))
section
variable {ns : Nat → Str}
abbrev treeRows (ns : Nat → Str) (l : List (Nat × Nat)) : List (List Str) := (([("in" : Str), "10", "near"] : List Str) :: ([("asked" : Str), ns 0] : List Str) :: l.map (rowI ns))
theorem tree_e {l : List (Nat × Nat)} {c1 : List Str} (h : c1 = headT (ns 0) ++ l.map fun p => partS (ns p.1) (ns p.2)) : c1 = (treeRows ns l).map lineS := by
  rw [h]
  refine ec (by decide +kernel) (ec (ask_line _) ?_)
  rw [List.map_map]
  exact List.map_congr_left fun p _ => part_line _ _
theorem units10 : unitsR ["in", "10", "near"] = some (10, ("near" : Str)) := by decide +kernel
def okL (l : List (Nat × Nat)) : Bool := !l.isEmpty && decide (l.length ≤ 18) && l.all fun p => decide (p.1 < 12) && decide (p.2 < 12)
theorem tree_rows (J : Inj ns) {l : List (Nat × Nat)} (h : okL l = true) : (∀ ws ∈ (treeRows ns l), RowOk ws) ∧ (treeRows ns l).length ≤ 20 := by
  unfold okL at h
  rw [Bool.and_eq_true, Bool.and_eq_true] at h
  refine ⟨rs_cons (rk_b (by decide +kernel)) (rs_cons (rk_ask (J.nam 0 (by decide))) fun ws m => ?_), ?_⟩
  · obtain ⟨p, mp, rfl⟩ := List.mem_map.mp m
    have z := List.all_eq_true.mp h.2 p mp
    rw [Bool.and_eq_true] at z
    exact rk_p (J.nam _ (of_decide_eq_true z.1)) (J.nam _ (of_decide_eq_true z.2))
  · rw [List.length_cons, List.length_cons, List.length_map]
    have := of_decide_eq_true h.1.2
    omega
theorem tree_page (J : Inj ns) {l : List (Nat × Nat)} (h : okL l = true) : (rowsI [(0, none, 0)] 3 l = 0 → ∃ r, pageR (treeRows ns l) = .inr r) ∧ (rowsI [(0, none, 0)] 3 l ≠ 0 → pageR (treeRows ns l) = .inl (rowsI [(0, none, 0)] 3 l)) := by
  unfold okL at h
  rw [Bool.and_eq_true, Bool.and_eq_true] at h
  have S := rows_same J 10 l [(0, none, 0)] 3 (by decide) (fun k m => by rw [List.mem_singleton.mp m]; exact ⟨by decide, fun j e => by cases e⟩) fun p mp => by
    have z := List.all_eq_true.mp h.2 p mp
    rw [Bool.and_eq_true] at z
    exact ⟨of_decide_eq_true z.1, of_decide_eq_true z.2⟩
  have ha := ask_of (J.nam 0 (by decide))
  cases l with
  | nil => exact absurd h.1.1 (by decide)
  | cons p r =>
    refine ⟨fun z => ?_, fun z => ?_⟩
    · obtain ⟨ks, e⟩ := S.1 z
      exact ⟨_, pageR_5 units10 ha e⟩
    · exact pageR_4 units10 ha (S.2 z)
theorem tree_case (J : Inj ns) {l : List (Nat × Nat)} {c : Cs} (hc : c.1 = headT (ns 0) ++ l.map fun p => partS (ns p.1) (ns p.2)) (h : okL l = true) (hn : rowsI [(0, none, 0)] 3 l = c.2) (few : c.2 ≤ 100) : CaseOk c := by
  obtain ⟨r1, r2⟩ := tree_rows J h
  obtain ⟨y, n⟩ := tree_page J h
  rw [hn] at y n
  by_cases z : c.2 = 0
  · exact case_yes (tree_e hc) r1 (by simp) r2 z (y z)
  · exact case_no (tree_e hc) r1 (by simp) r2 z few (n z)
end
def nsF (l : List Str) (i : Nat) : Str := ((l ++ ([("q" : Str), "nobody"] : List Str))[i]?).getD ""
theorem nobody_part (b : Str) : ("part " : Str) ++ b ++ " of nobody" = partS b "nobody" := (nobody_line b).trans (part_line b "nobody").symm
theorem q_part (a : Str) : ("part q of " : Str) ++ a = partS "q" a := (q_line a).trans (part_line "q" a).symm
theorem tree_ok {n0 n1 n2 n3 n4 n5 n6 n7 n8 n9 : Str} (J : Inj (nsF [n0, n1, n2, n3, n4, n5, n6, n7, n8, n9])) : ∀ c ∈ treeC n0 n1 n2 n3 n4 n5 n6 n7 n8 n9, CaseOk c := by
  intro c m
  unfold treeC at m
  rw [nobody_part, q_part] at m
  replace m : c ∈ ([(["in 10 near", askS n0, partS n1 n0, partS n2 n1, partS n3 n2], 0), (["in 10 near", askS n0, partS n1 n0, partS n2 n1, partS n3 n2, partS n4 n3], 6), (["in 10 near", askS n0, partS n1 n0, partS n2 n0, partS n3 n0, partS n4 n0, partS n5 n0, partS n6 n0], 0), (["in 10 near", askS n0, partS n1 n0, partS n2 n0, partS n3 n0, partS n4 n0, partS n5 n0, partS n6 n0, partS n7 n0], 9), (["in 10 near", askS n0, partS n2 n1, partS n3 n2], 3), (["in 10 near", askS n0, partS n1 n0, partS n1 n0], 4), (["in 10 near", askS n0, partS n0 n0], 3), (["in 10 near", askS n0, partS n1 n1], 3), (["in 10 near", askS n0, partS n1 "nobody"], 3), (["in 10 near", askS n0, partS n1 n0, partS n2 n0, partS n3 n0, partS n4 n0, partS n5 n0, partS n6 n1, partS n7 n2, partS n8 n3, partS n9 n4], 0), (["in 10 near", askS n0, partS n1 n0, partS n2 n0, partS n3 n0, partS n4 n0, partS n5 n0, partS n6 n1, partS n7 n2, partS n8 n3, partS n9 n4, partS "q" n0], 12), (["in 10 near", askS n0, partS n1 n0, partS n2 n0, partS n3 n0, partS n4 n0, partS n5 n0, partS n6 n0, partS n7 n1], 0), (["in 10 near", askS n0, partS n1 n0, partS n2 n0, partS n3 n0, partS n4 n0, partS n5 n0, partS n6 n0, partS n7 n1, partS n8 n1], 10)] : List Cs) := m
  simp only [List.mem_cons, List.not_mem_nil, or_false] at m
  rcases m with rfl | rfl | rfl | rfl | rfl | rfl | rfl | rfl | rfl | rfl | rfl | rfl | rfl
  · exact tree_case J (l := [(1, 0), (2, 1), (3, 2)]) rfl (by decide +kernel) (show _ = 0 by decide +kernel) (show 0 ≤ 100 by decide)
  · exact tree_case J (l := [(1, 0), (2, 1), (3, 2), (4, 3)]) rfl (by decide +kernel) (show _ = 6 by decide +kernel) (show 6 ≤ 100 by decide)
  · exact tree_case J (l := [(1, 0), (2, 0), (3, 0), (4, 0), (5, 0), (6, 0)]) rfl (by decide +kernel) (show _ = 0 by decide +kernel) (show 0 ≤ 100 by decide)
  · exact tree_case J (l := [(1, 0), (2, 0), (3, 0), (4, 0), (5, 0), (6, 0), (7, 0)]) rfl (by decide +kernel) (show _ = 9 by decide +kernel) (show 9 ≤ 100 by decide)
  · exact tree_case J (l := [(2, 1), (3, 2)]) rfl (by decide +kernel) (show _ = 3 by decide +kernel) (show 3 ≤ 100 by decide)
  · exact tree_case J (l := [(1, 0), (1, 0)]) rfl (by decide +kernel) (show _ = 4 by decide +kernel) (show 4 ≤ 100 by decide)
  · exact tree_case J (l := [(0, 0)]) rfl (by decide +kernel) (show _ = 3 by decide +kernel) (show 3 ≤ 100 by decide)
  · exact tree_case J (l := [(1, 1)]) rfl (by decide +kernel) (show _ = 3 by decide +kernel) (show 3 ≤ 100 by decide)
  · exact tree_case J (l := [(1, 11)]) rfl (by decide +kernel) (show _ = 3 by decide +kernel) (show 3 ≤ 100 by decide)
  · exact tree_case J (l := [(1, 0), (2, 0), (3, 0), (4, 0), (5, 0), (6, 1), (7, 2), (8, 3), (9, 4)]) rfl (by decide +kernel) (show _ = 0 by decide +kernel) (show 0 ≤ 100 by decide)
  · exact tree_case J (l := [(1, 0), (2, 0), (3, 0), (4, 0), (5, 0), (6, 1), (7, 2), (8, 3), (9, 4), (10, 0)]) rfl (by decide +kernel) (show _ = 12 by decide +kernel) (show 12 ≤ 100 by decide)
  · exact tree_case J (l := [(1, 0), (2, 0), (3, 0), (4, 0), (5, 0), (6, 0), (7, 1)]) rfl (by decide +kernel) (show _ = 0 by decide +kernel) (show 0 ≤ 100 by decide)
  · exact tree_case J (l := [(1, 0), (2, 0), (3, 0), (4, 0), (5, 0), (6, 0), (7, 1), (8, 1)]) rfl (by decide +kernel) (show _ = 10 by decide +kernel) (show 10 ≤ 100 by decide)
end Uq

namespace Uq
open PySem PySem.Spec PyProof.Rows L2

/-! ### names, and a shape -/
def pool : List Str := ["a", "b", "all", "is", "of", "part", "some", "none", "told", "in", "zzzzzzzz", "x"]
theorem pool_nodup : pool.Nodup := by decide +kernel
theorem pool_nm : ∀ n ∈ pool, Nm n := by
  intro n h
  have z : ∀ n ∈ pool, 1 ≤ n.length ∧ n.length ≤ 8 ∧ Txt.isascii n = true ∧ Txt.isalpha n = true ∧ Txt.islower n = true := by decide +kernel
  obtain ⟨a, b, c, d, e⟩ := z n h
  exact ⟨a, b, c, d, e⟩
theorem of_pool : ∀ {ys : List V}, (∀ y ∈ ys, y ∈ pool.map V.str) → ∃ ns : List Str, ys = ns.map V.str ∧ ∀ n ∈ ns, n ∈ pool
  | [], _ => ⟨[], rfl, fun _ h => nomatch h⟩
  | y :: ys, h => by
    obtain ⟨ns, rfl, hn⟩ := of_pool (ys := ys) fun z m => h z (List.mem_cons_of_mem _ m)
    obtain ⟨n, m, e⟩ := List.mem_map.mp (h y List.mem_cons_self)
    refine ⟨n :: ns, by rw [← e]; rfl, fun z hz => ?_⟩
    rcases List.mem_cons.mp hz with rfl | hz
    · exact m
    · exact hn z hz
theorem nodup_of_map {ns : List Str} (h : (ns.map V.str).Nodup) : ns.Nodup := by
  unfold List.Nodup at h ⊢
  rw [List.pairwise_map] at h
  exact h.imp fun a e => a (congrArg V.str e)
theorem nodup_strs {ns : List Str} (h : ns.Nodup) : (ns.map V.str).Nodup := by
  unfold List.Nodup at h ⊢
  rw [List.pairwise_map]
  exact h.imp fun a e => a (V.str.inj e)
def sp_law_names (K : PySem.W.Frag) : Sp := fun vs H Q _ => ∃ (p : Addr) (c m : Nat), vs = [.ref p, .int m] ∧ Pot H p c ∧ c + m < 100000 ∧ m ≤ 12 ∧
  ∀ H' r (ns : List Str), But p H H' → Pot H' p (c + m) → H r = none → H' r = some (.lst (ns.map V.str)) → ns.length = m → ns.Nodup → (∀ n ∈ ns, n ∈ pool) → Q (.ref r) H'
theorem paired_at' {α β : Type} {R : α → β → Prop} : ∀ {xs : List α} {ys : List β} {i : Nat} {x : α}, Paired R xs ys → xs[i]? = some x → ∃ y, ys[i]? = some y ∧ R x y
  | _, _, i, _, .nil, e => by simp at e
  | _, _, 0, _, .cons a h, e => by
    cases Option.some.inj e
    exact ⟨_, rfl, a⟩
  | _, _, i + 1, _, .cons a h, e => paired_at' (i := i) h e
section
variable {P : Program} {w : World} {K : PySem.W.Frag} {mg : Str → Option Value} {base : Heap}
theorem ok_law_names {f : Addr} {fd : FuncData} (F : Fun K "_law_names" "_law_names" s_law_names f fd) (c_law_some : Cal P w K mg base 2 "_law_some" ["_law_pot_here", "_law_pool", "_law_many"] (sp_law_some K)) : FnOk P w K mg base CX0 3 f fd ["_law_pot_here", "_law_many"] (sp_law_names K) := by
  refine F.ok sc_law_names (fun vs H Q E h => ?_) (fun cdv A outer s H vs Q E hr h => ?_)
  · obtain ⟨p, c, m, rfl, _⟩ := h
    rfl
  · refine ⟨_, (pss_cons (ps_set (i := 2) sc_law_names.nd rfl (.inl rfl) (pe_lst (pa_cons pe_str (pa_cons pe_str (pa_cons pe_str (pa_cons pe_str (pa_cons pe_str (pa_cons pe_str (pa_cons pe_str (pa_cons pe_str (pa_cons pe_str (pa_cons pe_str (pa_cons pe_str (pa_cons pe_str pa_nil))))))))))))))
      (pss_one (ps_ret (pe_call c_law_some.G (hr.mono (by decide)) (by rfl) c_law_some.g c_law_some.kp c_law_some.b .nil pass0 (pa_cons (pv 0) (pa_cons (pv 2) (pa_cons (pv 1) pa_nil))))))), ?_⟩
    obtain ⟨p, c, m, rfl, hp, hc, hm, q⟩ := h
    refine seq_set (lst_in ⟨by show 12 ≤ sizeLine; decide, fun L nL => ?_⟩)
    refine ret_in ?_
    refine ⟨.ref p, rfl, .ref L, rfl, .int m, rfl, p, L, c, m, pool.map V.str, rfl, hp.same (sameU nL), hc, SqL.of upd_same, by show m ≤ 12; exact hm, by show 12 ≤ 100; decide, fun H' r ys zs hB hP nr hr2 ly pm => ?_⟩
    have hsub : ∀ y ∈ ys, y ∈ pool.map V.str := fun y hy => pm.mem_iff.mp (List.mem_append_left _ hy)
    have hnd : (ys ++ zs).Nodup := pm.nodup_iff.mpr (nodup_strs pool_nodup)
    obtain ⟨ns, rfl, hn⟩ := of_pool hsub
    rw [List.length_map] at ly
    exact q H' r ns ((But.of (sameU nL)).trans hB) hP (none_of (sameU nL) nr) hr2 ly (nodup_of_map (List.nodup_append.mp hnd).1) hn
end
end Uq

namespace Uq
open PySem PySem.Spec PyProof.Rows L2 LamX TL

/-! ### the whole law -/
theorem ten {ns : List Str} (h : ns.length = 10) : ∃ n0 n1 n2 n3 n4 n5 n6 n7 n8 n9, ns = [n0, n1, n2, n3, n4, n5, n6, n7, n8, n9] := by
  match ns, h with
  | [n0, n1, n2, n3, n4, n5, n6, n7, n8, n9], _ => exact ⟨_, _, _, _, _, _, _, _, _, _, rfl⟩
theorem pool_q : (pool ++ ([("q" : Str), "nobody"] : List Str)).Nodup ∧ ∀ w ∈ pool ++ ([("q" : Str), "nobody"] : List Str), nameR w = true := by
  constructor
  · decide +kernel
  · decide +kernel
theorem inj_of {l : List Str} (hl : l.length = 10) (nd : l.Nodup) (h : ∀ n ∈ l, n ∈ pool) : Inj (nsF l) := by
  have nd2 : (l ++ ([("q" : Str), "nobody"] : List Str)).Nodup := by
    have P := List.nodup_append.mp pool_q.1
    exact List.nodup_append.mpr ⟨nd, P.2.1, fun a ma b mb => P.2.2 a (h a ma) b mb⟩
  have len : (l ++ ([("q" : Str), "nobody"] : List Str)).length = 12 := by
    rw [List.length_append, hl]
    rfl
  have at_ : ∀ i, (hi : i < 12) → nsF l i = (l ++ ([("q" : Str), "nobody"] : List Str))[i]'(by rw [len]; exact hi) := fun i hi => by
    unfold nsF
    rw [List.getElem?_eq_getElem (by rw [len]; exact hi)]
    rfl
  refine ⟨fun i j hi hj e => ?_, fun i hi => ?_⟩
  · rw [at_ i hi, at_ j hj] at e
    exact (List.getElem?_inj (by rw [len]; exact hi) nd2).mp (by rw [List.getElem?_eq_getElem (by rw [len]; exact hi), List.getElem?_eq_getElem (by rw [len]; exact hj), e])
  · rw [at_ i hi]
    have m := List.getElem_mem (l := l ++ ([("q" : Str), "nobody"] : List Str)) (n := i) (by rw [len]; exact hi)
    refine pool_q.2 _ ?_
    rcases List.mem_append.mp m with m | m
    · exact List.mem_append_left _ (h _ m)
    · exact List.mem_append_right _ m
theorem fa_two {F L R : Addr} {H : Hp} {vs ws : List V} {cs ds : List Cs} (p : Paired (CaseF F H) vs cs) (k : Paired (CaseF L H) ws ds) (nR : H R = none) : FAt R (upd H R (.lst (vs ++ ws))) (cs ++ ds) :=
  ⟨vs ++ ws, upd_same, pair_app (pair_mono (fun _ _ ⟨t, L', e, a, b, d, g⟩ => ⟨t, L', e, ne_of_none d nR, ne_of_none g nR, (sameU nR) _ _ d, (sameU nR) _ _ g⟩) p) (pair_mono (fun _ _ ⟨t, L', e, a, b, d, g⟩ => ⟨t, L', e, ne_of_none d nR, ne_of_none g nR, (sameU nR) _ _ d, (sameU nR) _ _ g⟩) k)⟩
theorem cat_fa {F L : Addr} {H : Hp} {cs ds : List Cs} {Q : VK} (f : FAt F H cs) (g : FAt L H ds) (z : cs.length + ds.length ≤ sizeLine) (q : ∀ H' R, Same H H' → H R = none → FAt R H' (cs ++ ds) → Q (.ref R) H') : rCat (.ref F) (.ref L) H Q := by
  obtain ⟨vs, hF, p⟩ := f
  obtain ⟨ws, hL, k⟩ := g
  exact ⟨F, L, vs, ws, rfl, rfl, hF, hL, by rw [p.length, k.length]; exact z, fun R nR => q _ R (sameU nR) nR (fa_two p k nR)⟩
theorem all_ok {n0 n1 n2 n3 n4 n5 n6 n7 n8 n9 : Str} (nd : [n0, n1, n2, n3, n4, n5, n6, n7, n8, n9].Nodup) (h : ∀ n ∈ [n0, n1, n2, n3, n4, n5, n6, n7, n8, n9], n ∈ pool) : ∀ c ∈ headC n0 n1 ++ shareC n0 n1 ++ treeC n0 n1 n2 n3 n4 n5 n6 n7 n8 n9, CaseOk c := by
  have J := inj_of rfl nd h
  have ha : nameR n0 = true := J.nam 0 (by decide)
  have hb : nameR n1 = true := J.nam 1 (by decide)
  have ne : n1 ≠ n0 := fun e => absurd (J.inj 1 0 (by decide) (by decide) e) (by decide)
  intro c m
  rcases List.mem_append.mp m with m | m
  · rcases List.mem_append.mp m with m | m
    · exact head_ok ha hb ne c m
    · exact share_ok ha hb ne c m
  · exact tree_ok J c m
def sp_law_rightX (K : PySem.W.Frag) (Pt : Addr) : Sp := fun vs H Q _ => ∃ (p : Addr), vs = [.ref p] ∧ Pot H p 0 ∧ Tabs [(Pt, lamIt)] H ∧ ∀ H', ButN p H H' → Tabs [(Pt, lamIt)] H' → Q (.bl true) H'
def sp_lawX (K : PySem.W.Frag) (Pt : Addr) : Sp := fun vs H Q _ => ∃ (a : Addr) (ns : List Int), vs = [.ref a] ∧ SqL K H a (ns.map V.int) ∧ ns.length ≤ 63 ∧ Tabs [(Pt, lamIt)] H ∧ ∀ H', Q (.bl true) H'
section
variable {P : Program} {w : World} {K : PySem.W.Frag} {mg : Str → Option Value} {base : Heap} {Pt : Addr}
theorem ok_law_right {f : Addr} {fd : FuncData} (F : Fun K "_law_right" "_law_right" s_law_right f fd) (m_all : mg "all" = none) (c_law_names : Cal P w K mg base 3 "_law_names" ["_law_pot_here", "_law_many"] (sp_law_names K)) (c_law_head_cases : Cal P w K mg base 1 "_law_head_cases" ["_law_names_here"] (sp_law_head_cases K)) (c_law_share_cases : Cal P w K mg base 1 "_law_share_cases" ["_law_names_here"] (sp_law_share_cases K)) (c_law_tree_cases : Cal P w K mg base 1 "_law_tree_cases" ["_law_names_here"] (sp_law_tree_cases K)) (c_law_is_told : CalG P w K mg base 11 "_law_is_told" ["_law_lines", "_law_number"] (sp_law_is_told K Pt)) : FnG P w K mg base 12 f fd ["_law_pot_here"] (sp_law_rightX K Pt) := by
  refine Fun_okG F sc_law_right (fun vs H Q E h => ?_) (fun cdv A outer s H vs Q E hg hr h => ?_)
  · obtain ⟨p, rfl, _⟩ := h
    rfl
  · refine ⟨_, (pss_cons (ps_set (i := 1) sc_law_right.nd rfl (.inl rfl) (pe_call c_law_names.G (hr.mono (by decide)) (by rfl) c_law_names.g c_law_names.kp c_law_names.b .nil pass0 (pa_cons (pv 0) (pa_cons pe_int pa_nil))))
      (pss_cons (ps_set (i := 2) sc_law_right.nd rfl (.inl rfl) (pe_op op_cat (pe_op op_cat (pe_call c_law_head_cases.G (hr.mono (by decide)) (by rfl) c_law_head_cases.g c_law_head_cases.kp c_law_head_cases.b .nil pass0 (pa_cons (pv 1) pa_nil)) (pe_call c_law_share_cases.G (hr.mono (by decide)) (by rfl) c_law_share_cases.g c_law_share_cases.kp c_law_share_cases.b .nil pass0 (pa_cons (pv 1) pa_nil))) (pe_call c_law_tree_cases.G (hr.mono (by decide)) (by rfl) c_law_tree_cases.g c_law_tree_cases.kp c_law_tree_cases.b .nil pass0 (pa_cons (pv 1) pa_nil))))
      (pss_one (ps_ret (pe_callB (cr_all rfl) (by rfl) m_all (by decide +kernel) (pa_cons (pe_lc (own := [("_law_lines", 3), ("_law_number", 4)]) (g := gTup K 2 (gCons (gName 3) (gCons (gName 4) gNil))) rfl sc_law_right.nd (pi_list (pv 2)) (blkOk_by (own := [("_law_lines", 3), ("_law_number", 4)]) (N := N_law_right) (sc := defScope s_law_right) (by decide +kernel)) (fun _ _ _ _ _ => (pg_tup rfl (pgs_cons (pg_name (i := 3) sc_law_right.nd rfl (.inl rfl)) (pgs_cons (pg_name (i := 4) sc_law_right.nd rfl (.inl rfl)) pgs_nil)))) (fun _ _ _ _ _ => pts_nil) (fun _ _ _ _ _ => (pe_callG c_law_is_told.G hg (hr.mono (by decide)) (by rfl) c_law_is_told.g c_law_is_told.kp c_law_is_told.b (pa_cons (pv 3) (pa_cons (pv 4) pa_nil))))) pa_nil)))))), ?_⟩
    obtain ⟨p, rfl, hp, TA, q⟩ := h
    refine seq_set ⟨.ref p, rfl, p, 0, 10, rfl, hp, by decide, by decide, fun H1 N ns hB1 hP1 nN hN ln nd inP => ?_⟩
    obtain ⟨n0, n1, n2, n3, n4, n5, n6, n7, n8, n9, rfl⟩ := ten ln
    have OKs := all_ok nd inP
    have wd : ∀ n ∈ [n0, n1, n2, n3, n4, n5, n6, n7, n8, n9], n.length ≤ 8 := fun n m => by
      have z := pool_q.2 n (List.mem_append_left _ (inP n m))
      unfold nameR at z
      rw [Bool.and_eq_true, Bool.and_eq_true] at z
      exact of_decide_eq_true z.1.2
    have T1 : Tabs [(Pt, lamIt)] H1 := tabs_but TA hp hB1
    refine seq_set ⟨.ref N, rfl, N, n0, n1, _, rfl, hN, ⟨ln, nd, wd⟩, rfl, fun H2 A s2 nA fA => ?_⟩
    refine ⟨.ref N, rfl, N, n0, n1, _, rfl, s2 _ _ hN, ⟨ln, nd, wd⟩, rfl, fun H3 B s3 nB fB => ?_⟩
    refine cat_fa (FAt.but (L := A) fA s3) fB (by show 20 + 24 ≤ sizeLine; decide) fun H4 R1 s4 n1' f4 => ?_
    have s14 : Same H1 H4 := (s2.trans s3).trans s4
    refine ⟨.ref N, rfl, N, n0, n1, n2, n3, n4, n5, n6, n7, n8, n9, rfl, s14 _ _ hN, wd, fun H5 C s5 nC fC => ?_⟩
    refine cat_fa (FAt.but (L := R1) f4 s5) fC (by show 44 + 13 ≤ sizeLine; decide) fun H6 R s6 nR f6 => ?_
    have s16 : Same H1 H6 := (s14.trans s5).trans s6
    have T6 := tabs_same T1 s16
    obtain ⟨vs, hR, pr⟩ := f6
    have lv : vs.length = 57 := pr.length
    have B6 : ButN p H H6 := (ButN.of hB1).trans (ButN.of (But.of s16))
    refine ⟨.ref R, rfl, R, rfl, ⟨_, SqL.of hR⟩, fun D nD => ?_⟩
    have nDp : D ≠ p := fun z => (hP1.same s16).some (z ▸ nD)
    refine lc_it (walk_list (xs := vs)) (fun j H' => ExtN H6 H' ∧ Tabs [(Pt, lamIt)] H' ∧ H' D = some (.lst (List.replicate j (.bl true)))) ⟨extN_same (sameU nD), tabs_same T6 (sameU nD), upd_same⟩ (fun i H' _ z => sqL_ext z.1 (SqL.of hR)) ?_ ?_
    · rintro j y H7 H8 hj ⟨e7, T7, hD⟩ ⟨rfl, hx⟩
      obtain ⟨c, ec, t, L, rfl, ntR, nLR, ht, hL⟩ := paired_at' pr hx
      have O := OKs c (List.mem_of_getElem? ec)
      have ht7 := e7 _ _ ht (fun _ z => by cases z)
      have hL7 := e7 _ _ hL (fun _ z => by cases z)
      refine ⟨t, [.ref L, .int c.2], rfl, SqT.of ht7, rfl, .ref L, [.int c.2], rfl, .int c.2, [], rfl, rfl, rfl, .ref L, rfl, .int c.2, rfl, L, c, rfl, hL7, O, T7, fun H9 e9 T9 => ?_⟩
      have hD9 := e9 _ _ hD (fun _ z => by cases z)
      refine ⟨_, hD9, ?_, ?_, tabs_list hD9 T9, ?_⟩
      · rw [List.length_replicate]
        exact small1000 (by omega)
      · intro z o ez nt
        rw [upd_ne (ne_of_none ez nD)]
        exact e9 z o (e7 z o ez nt) nt
      · rw [upd_same, List.replicate_succ']
    rintro H7 ⟨e7, T7, hD⟩
    refine ⟨D, List.replicate _ true, rfl, SqL.of (by rw [hD, List.map_replicate]), ?_⟩
    rw [all_rep]
    exact q _ (fun z o nz ez nt => e7 z o (B6 z o nz ez nt) nt) T7
theorem ok_law {f : Addr} {fd : FuncData} (F : Fun K "law" "law" s_law f fd) (m_all : mg "all" = none) (c_law_cells : Cal P w K mg base 1 "_law_cells" ["_law_script", "_law_most"] (sp_law_cells K)) (c_law_right : CalG P w K mg base 12 "_law_right" ["_law_pot_here"] (sp_law_rightX K Pt)) (c_law_pot : Cal P w K mg base 1 "_law_pot" ["_law_script", "_law_place"] (sp_law_pot K)) : FnG P w K mg base 13 f fd ["_law_script"] (sp_lawX K Pt) := by
  refine Fun_okG F sc_law (fun vs H Q E h => ?_) (fun cdv A outer s H vs Q E hg hr h => ?_)
  · obtain ⟨a, ns, rfl, _⟩ := h
    rfl
  · refine ⟨_, (pss_one (ps_ret (pe_callB (cr_all rfl) (by rfl) m_all (by decide +kernel) (pa_cons (pe_lc (own := [("_law_place", 1)]) (g := gName 1) rfl sc_law.nd (pi_list (pe_call c_law_cells.G (hr.mono (by decide)) (by rfl) c_law_cells.g c_law_cells.kp c_law_cells.b .nil pass0 (pa_cons (pv 0) (pa_cons pe_int pa_nil)))) (blkOk_by (own := [("_law_place", 1)]) (N := N_law) (sc := defScope s_law) (by decide +kernel)) (fun _ _ _ _ _ => (pg_name (i := 1) sc_law.nd rfl (.inl rfl))) (fun _ _ _ _ _ => pts_nil) (fun _ _ _ _ _ => (pe_callG c_law_right.G hg (hr.mono (by decide)) (by rfl) c_law_right.g c_law_right.kp c_law_right.b (pa_cons (pe_call c_law_pot.G (hr.mono (by decide)) (by rfl) c_law_pot.g c_law_pot.kp c_law_pot.b .nil pass0 (pa_cons (pv 0) (pa_cons (pv 1) pa_nil))) pa_nil)))) pa_nil)))), ?_⟩
    obtain ⟨a, ns, rfl, hl, hn, TA, q⟩ := h
    refine ⟨.ref a, rfl, a, ns, 3, rfl, hl, hn, by decide, by decide, fun H1 l k nl sm hk k1 k2 => ?_⟩
    refine ⟨l, rfl, ⟨_, SqL.of hk⟩, fun D nD => ?_⟩
    have T1 := tabs_same TA sm
    refine lc_it (walk_list (xs := rgV 0 (k : Int))) (fun i H' => ExtN H1 H' ∧ Tabs [(Pt, lamIt)] H' ∧ H' D = some (.lst (List.replicate i (.bl true)))) ⟨extN_same (sameU nD), tabs_same T1 (sameU nD), upd_same⟩ (fun i H' _ z => sqL_ext z.1 (SqL.of hk)) ?_ ?_
    · rintro i y H2' H2 hi ⟨s2, T2, hD⟩ ⟨rfl, hx⟩
      have hi : i < k := by
        have e := (List.getElem?_eq_some_iff.mp hx).1
        rw [rgV_length] at e
        omega
      have ex : y = .int (i : Int) := by
        unfold rgV at hx
        rw [List.getElem?_map, List.getElem?_range (by omega)] at hx
        have e := Option.some.inj hx
        rw [← e]
        show V.int (0 + (i : Int)) = V.int (i : Int)
        rw [Int.zero_add]
      subst ex
      refine ⟨rfl, .ref a, rfl, .int (i : Int), rfl, a, ns, (i : Int), rfl, sqL_ext s2 (sqL_same sm hl), hn, by omega, by omega, fun H3 p np sm3 hp => ?_⟩
      refine ⟨p, rfl, hp, tabs_same T2 sm3, fun H4 B4 T4 => ?_⟩
      have nDp : D ≠ p := ne_of_none hD np
      have hD4 := B4 _ _ nDp (sm3 _ _ hD) (fun _ z => by cases z)
      refine ⟨_, hD4, ?_, ?_, tabs_list hD4 T4, ?_⟩
      · rw [List.length_replicate]
        exact small1000 (by omega)
      · intro z o ez nt
        rw [upd_ne (ne_of_none ez nD)]
        have e2 := s2 z o ez nt
        exact B4 z o (ne_of_none e2 np) (sm3 _ _ e2) nt
      · rw [upd_same, List.replicate_succ']
    rintro H4 ⟨hB, hT, hD⟩
    refine ⟨D, List.replicate _ true, rfl, SqL.of (by rw [hD, List.map_replicate]), ?_⟩
    rw [all_rep]
    exact q _
end
end Uq

namespace Uq
open PySem PySem.Spec PyProof.Rows L2 LamX

/-! ### the errors' own __init__; which kinds they are -/
abbrev s_AskedError__init_ : Stmt := inClass (topS 2) 0
abbrev N_AskedError__init_ : List Str := ["self", "value"]
theorem sc_AskedError__init_ : FnScope N_AskedError__init_ ["self", "value"] (defScope s_AskedError__init_) := ⟨rfl, rfl, rfl, by decide +kernel, rfl, by decide +kernel, by decide +kernel⟩
section
variable {P : Program} {w : World} {K : PySem.W.Frag} {mg : Str → Option Value} {base : Heap}
theorem ok_AskedError__init_ {f : Addr} {fd : FuncData} (F : Fun K "__init__" "AskedError.__init__" s_AskedError__init_ f fd) : FnOk P w K mg base CX0 1 f fd ["self", "value"] (sp_init K) := by
  refine F.ok sc_AskedError__init_ (fun vs H Q E h => ?_) (fun cdv A outer s H vs Q E hr h => ?_)
  · obtain ⟨a, C, v, rfl, _⟩ := h
    rfl
  · refine ⟨_, pss_one (ps_ost (f := "value") (pv 0) (pv 1)), ?_⟩
    obtain ⟨a, C, v, rfl, T, e, q⟩ := h
    exact ⟨v, rfl, .ref a, rfl, a, C, rfl, T.T, T.va, .inl ⟨e, fun dx hd hn => q dx hd hn⟩⟩
end
theorem sub_ty {K : PySem.W.Frag} {n : String} {C : Addr} (h : (PySem.fastFind? n).isSome = true) : PySem.W.subIn K (.type n) (.ref C) = some false := by
  unfold PySem.W.subIn
  show (fastBuiltinMro n).map (·.contains (.ref C)) = some false
  unfold fastBuiltinMro
  cases e : PySem.fastFind? n with
  | none => rw [e] at h; cases h
  | some r =>
    show some ((r.mro.map Value.type).contains (.ref C)) = some false
    congr 1
    rw [← Bool.not_eq_true]
    intro z
    obtain ⟨T, _, k⟩ := List.mem_map.mp (List.contains_iff_mem.mp z)
    cases k
theorem kit_none {K : PySem.W.Frag} {D : Addr} {v : PySem.ClassData} (e : PySem.W.clsIn K D = some v) (ty : PySem.W.typeIn K (.ref D) = some (.type "type")) : PySem.W.kitOne K (.type "NoneType") (.ref D) = some false := by
  unfold PySem.W.kitOne
  rw [if_neg (by simp)]
  unfold PySem.W.kitCls
  show (if ((PySem.W.clsIn K D).isSome && PySem.W.typeIn K (.ref D) == some (.type "type")) = true then PySem.W.subIn K (.type "NoneType") (.ref D) else none) = some false
  rw [e, ty, sub_ty (by decide +kernel)]
  rfl
theorem kit_two {K : PySem.W.Frag} {B D : Addr} {v : PySem.ClassData} (ne : B ≠ D) (e : PySem.W.clsIn K D = some v) (ty : PySem.W.typeIn K (.ref D) = some (.type "type")) (s : PySem.W.subIn K (.ref B) (.ref D) = some false) : PySem.W.kitOne K (.ref B) (.ref D) = some false := by
  unfold PySem.W.kitOne
  rw [if_neg (by simp [ne])]
  unfold PySem.W.kitCls
  show (if ((PySem.W.clsIn K D).isSome && PySem.W.typeIn K (.ref D) == some (.type "type")) = true then PySem.W.subIn K (.ref B) (.ref D) else none) = some false
  rw [e, ty, s]
  rfl
end Uq

namespace Uq
open PySem PySem.Spec PyProof.Rows L2 LamX
theorem marks_at {K : PySem.W.Frag} {e m0 m1 m2 m3 : Addr} {d d0 d1 d2 d3 : Option Addr} {n n0 n1 n2 n3 : Nat} {s s0 s1 s2 s3 : Array (Option Value)} {t1 t2 t3 t4 : Tok}
    (l : K.lookup e = some ⟨.type "tuple", d, .seq #[.ref m0, .ref m1, .ref m2, .ref m3] n, s⟩) (l0 : K.lookup m0 = some ⟨.type "tuple", d0, .seq #[] n0, s0⟩) (l1 : K.lookup m1 = some ⟨.type "tuple", d1, .seq #[.str "is" t1] n1, s1⟩) (l2 : K.lookup m2 = some ⟨.type "tuple", d2, .seq #[.str "all" t2] n2, s2⟩) (l3 : K.lookup m3 = some ⟨.type "tuple", d3, .seq #[.str "is" t3, .str "all" t4] n3, s3⟩) : ∀ H, Dp K H (.ref e) (.tuple marksD) := fun H => by
  have a0 : Dp K H (.ref m0) (.tuple []) := .tup (.inr ⟨_, _, _, l0, rfl, rfl, by decide, .nil⟩) .nil
  have a1 : Dp K H (.ref m1) (.tuple [.str "is"]) := .tup (xs := [.str "is"]) (.inr ⟨_, _, _, l1, rfl, rfl, (by show 1 ≤ sizeLine; decide), .cons ⟨_, rfl⟩ .nil⟩) (.cons (.str _) .nil)
  have a2 : Dp K H (.ref m2) (.tuple [.str "all"]) := .tup (xs := [.str "all"]) (.inr ⟨_, _, _, l2, rfl, rfl, (by show 1 ≤ sizeLine; decide), .cons ⟨_, rfl⟩ .nil⟩) (.cons (.str _) .nil)
  have a3 : Dp K H (.ref m3) (.tuple [.str "is", .str "all"]) := .tup (xs := [.str "is", .str "all"]) (.inr ⟨_, _, _, l3, rfl, rfl, (by show 2 ≤ sizeLine; decide), .cons ⟨_, rfl⟩ (.cons ⟨_, rfl⟩ .nil)⟩) (.cons (.str _) (.cons (.str _) .nil))
  exact .tup (xs := [.ref m0, .ref m1, .ref m2, .ref m3]) (.inr ⟨_, _, _, l, rfl, rfl, (by show 4 ≤ sizeLine; decide), .cons rfl (.cons rfl (.cons rfl (.cons rfl .nil)))⟩) (.cons a0 (.cons a1 (.cons a2 (.cons a3 .nil))))
theorem all_mk {l : PySem.W.OpenLaw} {w : World} {K : PySem.W.Frag} {h : Heap} {mg : Str → Option Value} {fa : Addr} (X : K.In h) (G : h.Ns mainGlobals mg) (hfa : mg "law" = some (.ref fa))
    {tc tP : Addr} {tco : Value} {tcd : Option Addr} {tus : Array Value} {tsl : Array (Option Value)}
    {f_law_cells : Addr} {od_law_cells an_law_cells : Option Addr} {sl_law_cells : Array (Option Value)} {oc_law_cells kV_law_cells dc_law_cells pm_law_cells cd_law_cells ct_law_cells : Value}
    (a_law_cells : PySem.W.nsIn K mainGlobals "_law_cells" = some (some (.ref f_law_cells)))
    (l_law_cells : K.lookup f_law_cells = some ⟨oc_law_cells, od_law_cells, .func (PySem.W.fnOf "_law_cells" "_law_cells" (defArgs s_law_cells) (defBody s_law_cells) (defScope s_law_cells) .none kV_law_cells dc_law_cells pm_law_cells an_law_cells cd_law_cells ct_law_cells), sl_law_cells⟩)
    (k_law_cells : PySem.W.codeIn K cd_law_cells "_law_cells" = true)
    (p_law_cells : PySem.W.keepIn K (.ref f_law_cells) = true)
    {f_law_take : Addr} {od_law_take an_law_take : Option Addr} {sl_law_take : Array (Option Value)} {oc_law_take kV_law_take dc_law_take pm_law_take cd_law_take ct_law_take : Value}
    (a_law_take : PySem.W.nsIn K mainGlobals "_law_take" = some (some (.ref f_law_take)))
    (l_law_take : K.lookup f_law_take = some ⟨oc_law_take, od_law_take, .func (PySem.W.fnOf "_law_take" "_law_take" (defArgs s_law_take) (defBody s_law_take) (defScope s_law_take) .none kV_law_take dc_law_take pm_law_take an_law_take cd_law_take ct_law_take), sl_law_take⟩)
    (k_law_take : PySem.W.codeIn K cd_law_take "_law_take" = true)
    (p_law_take : PySem.W.keepIn K (.ref f_law_take) = true)
    {f_law_some : Addr} {od_law_some an_law_some : Option Addr} {sl_law_some : Array (Option Value)} {oc_law_some kV_law_some dc_law_some pm_law_some cd_law_some ct_law_some : Value}
    (a_law_some : PySem.W.nsIn K mainGlobals "_law_some" = some (some (.ref f_law_some)))
    (l_law_some : K.lookup f_law_some = some ⟨oc_law_some, od_law_some, .func (PySem.W.fnOf "_law_some" "_law_some" (defArgs s_law_some) (defBody s_law_some) (defScope s_law_some) .none kV_law_some dc_law_some pm_law_some an_law_some cd_law_some ct_law_some), sl_law_some⟩)
    (k_law_some : PySem.W.codeIn K cd_law_some "_law_some" = true)
    (p_law_some : PySem.W.keepIn K (.ref f_law_some) = true)
    {f_law_names : Addr} {od_law_names an_law_names : Option Addr} {sl_law_names : Array (Option Value)} {oc_law_names kV_law_names dc_law_names pm_law_names cd_law_names ct_law_names : Value}
    (a_law_names : PySem.W.nsIn K mainGlobals "_law_names" = some (some (.ref f_law_names)))
    (l_law_names : K.lookup f_law_names = some ⟨oc_law_names, od_law_names, .func (PySem.W.fnOf "_law_names" "_law_names" (defArgs s_law_names) (defBody s_law_names) (defScope s_law_names) .none kV_law_names dc_law_names pm_law_names an_law_names cd_law_names ct_law_names), sl_law_names⟩)
    (k_law_names : PySem.W.codeIn K cd_law_names "_law_names" = true)
    (p_law_names : PySem.W.keepIn K (.ref f_law_names) = true)
    {f_law_head_cases : Addr} {od_law_head_cases an_law_head_cases : Option Addr} {sl_law_head_cases : Array (Option Value)} {oc_law_head_cases kV_law_head_cases dc_law_head_cases pm_law_head_cases cd_law_head_cases ct_law_head_cases : Value}
    (a_law_head_cases : PySem.W.nsIn K mainGlobals "_law_head_cases" = some (some (.ref f_law_head_cases)))
    (l_law_head_cases : K.lookup f_law_head_cases = some ⟨oc_law_head_cases, od_law_head_cases, .func (PySem.W.fnOf "_law_head_cases" "_law_head_cases" (defArgs s_law_head_cases) (defBody s_law_head_cases) (defScope s_law_head_cases) .none kV_law_head_cases dc_law_head_cases pm_law_head_cases an_law_head_cases cd_law_head_cases ct_law_head_cases), sl_law_head_cases⟩)
    (k_law_head_cases : PySem.W.codeIn K cd_law_head_cases "_law_head_cases" = true)
    (p_law_head_cases : PySem.W.keepIn K (.ref f_law_head_cases) = true)
    {f_law_share_cases : Addr} {od_law_share_cases an_law_share_cases : Option Addr} {sl_law_share_cases : Array (Option Value)} {oc_law_share_cases kV_law_share_cases dc_law_share_cases pm_law_share_cases cd_law_share_cases ct_law_share_cases : Value}
    (a_law_share_cases : PySem.W.nsIn K mainGlobals "_law_share_cases" = some (some (.ref f_law_share_cases)))
    (l_law_share_cases : K.lookup f_law_share_cases = some ⟨oc_law_share_cases, od_law_share_cases, .func (PySem.W.fnOf "_law_share_cases" "_law_share_cases" (defArgs s_law_share_cases) (defBody s_law_share_cases) (defScope s_law_share_cases) .none kV_law_share_cases dc_law_share_cases pm_law_share_cases an_law_share_cases cd_law_share_cases ct_law_share_cases), sl_law_share_cases⟩)
    (k_law_share_cases : PySem.W.codeIn K cd_law_share_cases "_law_share_cases" = true)
    (p_law_share_cases : PySem.W.keepIn K (.ref f_law_share_cases) = true)
    {f_law_tree_cases : Addr} {od_law_tree_cases an_law_tree_cases : Option Addr} {sl_law_tree_cases : Array (Option Value)} {oc_law_tree_cases kV_law_tree_cases dc_law_tree_cases pm_law_tree_cases cd_law_tree_cases ct_law_tree_cases : Value}
    (a_law_tree_cases : PySem.W.nsIn K mainGlobals "_law_tree_cases" = some (some (.ref f_law_tree_cases)))
    (l_law_tree_cases : K.lookup f_law_tree_cases = some ⟨oc_law_tree_cases, od_law_tree_cases, .func (PySem.W.fnOf "_law_tree_cases" "_law_tree_cases" (defArgs s_law_tree_cases) (defBody s_law_tree_cases) (defScope s_law_tree_cases) .none kV_law_tree_cases dc_law_tree_cases pm_law_tree_cases an_law_tree_cases cd_law_tree_cases ct_law_tree_cases), sl_law_tree_cases⟩)
    (k_law_tree_cases : PySem.W.codeIn K cd_law_tree_cases "_law_tree_cases" = true)
    (p_law_tree_cases : PySem.W.keepIn K (.ref f_law_tree_cases) = true)
    {f_AskedError__init_ : Addr} {od_AskedError__init_ an_AskedError__init_ : Option Addr} {sl_AskedError__init_ : Array (Option Value)} {oc_AskedError__init_ kV_AskedError__init_ dc_AskedError__init_ pm_AskedError__init_ cd_AskedError__init_ ct_AskedError__init_ : Value}
    (l_AskedError__init_ : K.lookup f_AskedError__init_ = some ⟨oc_AskedError__init_, od_AskedError__init_, .func (PySem.W.fnOf "__init__" "AskedError.__init__" (defArgs s_AskedError__init_) (defBody s_AskedError__init_) (defScope s_AskedError__init_) .none kV_AskedError__init_ dc_AskedError__init_ pm_AskedError__init_ an_AskedError__init_ cd_AskedError__init_ ct_AskedError__init_), sl_AskedError__init_⟩)
    (k_AskedError__init_ : PySem.W.codeIn K cd_AskedError__init_ "AskedError.__init__" = true)
    (p_AskedError__init_ : PySem.W.keepIn K (.ref f_AskedError__init_) = true)
    {f_read_number : Addr} {od_read_number an_read_number : Option Addr} {sl_read_number : Array (Option Value)} {oc_read_number kV_read_number dc_read_number pm_read_number cd_read_number ct_read_number : Value}
    (a_read_number : PySem.W.nsIn K mainGlobals "read_number" = some (some (.ref f_read_number)))
    (l_read_number : K.lookup f_read_number = some ⟨oc_read_number, od_read_number, .func (PySem.W.fnOf "read_number" "read_number" (defArgs s_read_number) (defBody s_read_number) (defScope s_read_number) .none kV_read_number dc_read_number pm_read_number an_read_number cd_read_number ct_read_number), sl_read_number⟩)
    (k_read_number : PySem.W.codeIn K cd_read_number "read_number" = true)
    (p_read_number : PySem.W.keepIn K (.ref f_read_number) = true)
    {f_is_integerX : Addr} {od_is_integerX an_is_integerX : Option Addr} {sl_is_integerX : Array (Option Value)} {oc_is_integerX kV_is_integerX dc_is_integerX pm_is_integerX cd_is_integerX ct_is_integerX : Value}
    (a_is_integerX : PySem.W.nsIn K mainGlobals "is_integer" = some (some (.ref f_is_integerX)))
    (l_is_integerX : K.lookup f_is_integerX = some ⟨oc_is_integerX, od_is_integerX, .func (PySem.W.fnOf "is_integer" "is_integer" (defArgs s_is_integer) (defBody s_is_integer) (defScope s_is_integer) .none kV_is_integerX dc_is_integerX pm_is_integerX an_is_integerX cd_is_integerX ct_is_integerX), sl_is_integerX⟩)
    (k_is_integerX : PySem.W.codeIn K cd_is_integerX "is_integer" = true)
    (p_is_integerX : PySem.W.keepIn K (.ref f_is_integerX) = true)
    {f_is_unitsX : Addr} {od_is_unitsX an_is_unitsX : Option Addr} {sl_is_unitsX : Array (Option Value)} {oc_is_unitsX kV_is_unitsX dc_is_unitsX pm_is_unitsX cd_is_unitsX ct_is_unitsX : Value}
    (a_is_unitsX : PySem.W.nsIn K mainGlobals "is_units" = some (some (.ref f_is_unitsX)))
    (l_is_unitsX : K.lookup f_is_unitsX = some ⟨oc_is_unitsX, od_is_unitsX, .func (PySem.W.fnOf "is_units" "is_units" (defArgs s_is_units) (defBody s_is_units) (defScope s_is_units) .none kV_is_unitsX dc_is_unitsX pm_is_unitsX an_is_unitsX cd_is_unitsX ct_is_unitsX), sl_is_unitsX⟩)
    (k_is_unitsX : PySem.W.codeIn K cd_is_unitsX "is_units" = true)
    (p_is_unitsX : PySem.W.keepIn K (.ref f_is_unitsX) = true)
    {f_read_units : Addr} {od_read_units an_read_units : Option Addr} {sl_read_units : Array (Option Value)} {oc_read_units kV_read_units dc_read_units pm_read_units cd_read_units ct_read_units : Value}
    (a_read_units : PySem.W.nsIn K mainGlobals "read_units" = some (some (.ref f_read_units)))
    (l_read_units : K.lookup f_read_units = some ⟨oc_read_units, od_read_units, .func (PySem.W.fnOf "read_units" "read_units" (defArgs s_read_units) (defBody s_read_units) (defScope s_read_units) .none kV_read_units dc_read_units pm_read_units an_read_units cd_read_units ct_read_units), sl_read_units⟩)
    (k_read_units : PySem.W.codeIn K cd_read_units "read_units" = true)
    (p_read_units : PySem.W.keepIn K (.ref f_read_units) = true)
    {f_is_name : Addr} {od_is_name an_is_name : Option Addr} {sl_is_name : Array (Option Value)} {oc_is_name kV_is_name dc_is_name pm_is_name cd_is_name ct_is_name : Value}
    (a_is_name : PySem.W.nsIn K mainGlobals "is_name" = some (some (.ref f_is_name)))
    (l_is_name : K.lookup f_is_name = some ⟨oc_is_name, od_is_name, .func (PySem.W.fnOf "is_name" "is_name" (defArgs s_is_name) (defBody s_is_name) (defScope s_is_name) .none kV_is_name dc_is_name pm_is_name an_is_name cd_is_name ct_is_name), sl_is_name⟩)
    (k_is_name : PySem.W.codeIn K cd_is_name "is_name" = true)
    (p_is_name : PySem.W.keepIn K (.ref f_is_name) = true)
    {f_is_asked : Addr} {od_is_asked an_is_asked : Option Addr} {sl_is_asked : Array (Option Value)} {oc_is_asked kV_is_asked dc_is_asked pm_is_asked cd_is_asked ct_is_asked : Value}
    (a_is_asked : PySem.W.nsIn K mainGlobals "is_asked" = some (some (.ref f_is_asked)))
    (l_is_asked : K.lookup f_is_asked = some ⟨oc_is_asked, od_is_asked, .func (PySem.W.fnOf "is_asked" "is_asked" (defArgs s_is_asked) (defBody s_is_asked) (defScope s_is_asked) .none kV_is_asked dc_is_asked pm_is_asked an_is_asked cd_is_asked ct_is_asked), sl_is_asked⟩)
    (k_is_asked : PySem.W.codeIn K cd_is_asked "is_asked" = true)
    (p_is_asked : PySem.W.keepIn K (.ref f_is_asked) = true)
    {f_read_share : Addr} {od_read_share an_read_share : Option Addr} {sl_read_share : Array (Option Value)} {oc_read_share kV_read_share dc_read_share pm_read_share cd_read_share ct_read_share : Value}
    (a_read_share : PySem.W.nsIn K mainGlobals "read_share" = some (some (.ref f_read_share)))
    (l_read_share : K.lookup f_read_share = some ⟨oc_read_share, od_read_share, .func (PySem.W.fnOf "read_share" "read_share" (defArgs s_read_share) (defBody s_read_share) (defScope s_read_share) .none kV_read_share dc_read_share pm_read_share an_read_share cd_read_share ct_read_share), sl_read_share⟩)
    (k_read_share : PySem.W.codeIn K cd_read_share "read_share" = true)
    (p_read_share : PySem.W.keepIn K (.ref f_read_share) = true)
    {f_read_part : Addr} {od_read_part an_read_part : Option Addr} {sl_read_part : Array (Option Value)} {oc_read_part kV_read_part dc_read_part pm_read_part cd_read_part ct_read_part : Value}
    (a_read_part : PySem.W.nsIn K mainGlobals "read_part" = some (some (.ref f_read_part)))
    (l_read_part : K.lookup f_read_part = some ⟨oc_read_part, od_read_part, .func (PySem.W.fnOf "read_part" "read_part" (defArgs s_read_part) (defBody s_read_part) (defScope s_read_part) .none kV_read_part dc_read_part pm_read_part an_read_part cd_read_part ct_read_part), sl_read_part⟩)
    (k_read_part : PySem.W.codeIn K cd_read_part "read_part" = true)
    (p_read_part : PySem.W.keepIn K (.ref f_read_part) = true)
    {f_ends_among : Addr} {od_ends_among an_ends_among : Option Addr} {sl_ends_among : Array (Option Value)} {oc_ends_among kV_ends_among dc_ends_among pm_ends_among cd_ends_among ct_ends_among : Value}
    (a_ends_among : PySem.W.nsIn K mainGlobals "ends_among" = some (some (.ref f_ends_among)))
    (l_ends_among : K.lookup f_ends_among = some ⟨oc_ends_among, od_ends_among, .func (PySem.W.fnOf "ends_among" "ends_among" (defArgs s_ends_among) (defBody s_ends_among) (defScope s_ends_among) .none kV_ends_among dc_ends_among pm_ends_among an_ends_among cd_ends_among ct_ends_among), sl_ends_among⟩)
    (k_ends_among : PySem.W.codeIn K cd_ends_among "ends_among" = true)
    (p_ends_among : PySem.W.keepIn K (.ref f_ends_among) = true)
    {f_way_up : Addr} {od_way_up an_way_up : Option Addr} {sl_way_up : Array (Option Value)} {oc_way_up kV_way_up dc_way_up pm_way_up cd_way_up ct_way_up : Value}
    (a_way_up : PySem.W.nsIn K mainGlobals "way_up" = some (some (.ref f_way_up)))
    (l_way_up : K.lookup f_way_up = some ⟨oc_way_up, od_way_up, .func (PySem.W.fnOf "way_up" "way_up" (defArgs s_way_up) (defBody s_way_up) (defScope s_way_up) .none kV_way_up dc_way_up pm_way_up an_way_up cd_way_up ct_way_up), sl_way_up⟩)
    (k_way_up : PySem.W.codeIn K cd_way_up "way_up" = true)
    (p_way_up : PySem.W.keepIn K (.ref f_way_up) = true)
    {f_is_too_much : Addr} {od_is_too_much an_is_too_much : Option Addr} {sl_is_too_much : Array (Option Value)} {oc_is_too_much kV_is_too_much dc_is_too_much pm_is_too_much cd_is_too_much ct_is_too_much : Value}
    (a_is_too_much : PySem.W.nsIn K mainGlobals "is_too_much" = some (some (.ref f_is_too_much)))
    (l_is_too_much : K.lookup f_is_too_much = some ⟨oc_is_too_much, od_is_too_much, .func (PySem.W.fnOf "is_too_much" "is_too_much" (defArgs s_is_too_much) (defBody s_is_too_much) (defScope s_is_too_much) .none kV_is_too_much dc_is_too_much pm_is_too_much an_is_too_much cd_is_too_much ct_is_too_much), sl_is_too_much⟩)
    (k_is_too_much : PySem.W.codeIn K cd_is_too_much "is_too_much" = true)
    (p_is_too_much : PySem.W.keepIn K (.ref f_is_too_much) = true)
    {f_read_parts : Addr} {od_read_parts an_read_parts : Option Addr} {sl_read_parts : Array (Option Value)} {oc_read_parts kV_read_parts dc_read_parts pm_read_parts cd_read_parts ct_read_parts : Value}
    (a_read_parts : PySem.W.nsIn K mainGlobals "read_parts" = some (some (.ref f_read_parts)))
    (l_read_parts : K.lookup f_read_parts = some ⟨oc_read_parts, od_read_parts, .func (PySem.W.fnOf "read_parts" "read_parts" (defArgs s_read_parts) (defBody s_read_parts) (defScope s_read_parts) .none kV_read_parts dc_read_parts pm_read_parts an_read_parts cd_read_parts ct_read_parts), sl_read_parts⟩)
    (k_read_parts : PySem.W.codeIn K cd_read_parts "read_parts" = true)
    (p_read_parts : PySem.W.keepIn K (.ref f_read_parts) = true)
    {f_read_page : Addr} {od_read_page an_read_page : Option Addr} {sl_read_page : Array (Option Value)} {oc_read_page kV_read_page dc_read_page pm_read_page cd_read_page ct_read_page : Value}
    (a_read_page : PySem.W.nsIn K mainGlobals "read_page" = some (some (.ref f_read_page)))
    (l_read_page : K.lookup f_read_page = some ⟨oc_read_page, od_read_page, .func (PySem.W.fnOf "read_page" "read_page" (defArgs s_read_page) (defBody s_read_page) (defScope s_read_page) .none kV_read_page dc_read_page pm_read_page an_read_page cd_read_page ct_read_page), sl_read_page⟩)
    (k_read_page : PySem.W.codeIn K cd_read_page "read_page" = true)
    (p_read_page : PySem.W.keepIn K (.ref f_read_page) = true)
    {f_Page__init_ : Addr} {od_Page__init_ an_Page__init_ : Option Addr} {sl_Page__init_ : Array (Option Value)} {oc_Page__init_ kV_Page__init_ dc_Page__init_ pm_Page__init_ cd_Page__init_ ct_Page__init_ : Value}
    (l_Page__init_ : K.lookup f_Page__init_ = some ⟨oc_Page__init_, od_Page__init_, .func (PySem.W.fnOf "__init__" "Page.__init__" (defArgs s_Page__init_) (defBody s_Page__init_) (defScope s_Page__init_) .none kV_Page__init_ dc_Page__init_ pm_Page__init_ an_Page__init_ cd_Page__init_ ct_Page__init_), sl_Page__init_⟩)
    (k_Page__init_ : PySem.W.codeIn K cd_Page__init_ "Page.__init__" = true)
    (p_Page__init_ : PySem.W.keepIn K (.ref f_Page__init_) = true)
    {f_Page_text : Addr} {od_Page_text an_Page_text : Option Addr} {sl_Page_text : Array (Option Value)} {oc_Page_text kV_Page_text dc_Page_text pm_Page_text cd_Page_text ct_Page_text : Value}
    (l_Page_text : K.lookup f_Page_text = some ⟨oc_Page_text, od_Page_text, .func (PySem.W.fnOf "text" "Page.text" (defArgs s_Page_text) (defBody s_Page_text) (defScope s_Page_text) .none kV_Page_text dc_Page_text pm_Page_text an_Page_text cd_Page_text ct_Page_text), sl_Page_text⟩)
    (k_Page_text : PySem.W.codeIn K cd_Page_text "Page.text" = true)
    (p_Page_text : PySem.W.keepIn K (.ref f_Page_text) = true)
    {f_law_told : Addr} {od_law_told an_law_told : Option Addr} {sl_law_told : Array (Option Value)} {oc_law_told kV_law_told dc_law_told pm_law_told cd_law_told ct_law_told : Value}
    (a_law_told : PySem.W.nsIn K mainGlobals "_law_told" = some (some (.ref f_law_told)))
    (l_law_told : K.lookup f_law_told = some ⟨oc_law_told, od_law_told, .func (PySem.W.fnOf "_law_told" "_law_told" (defArgs s_law_told) (defBody s_law_told) (defScope s_law_told) .none kV_law_told dc_law_told pm_law_told an_law_told cd_law_told ct_law_told), sl_law_told⟩)
    (k_law_told : PySem.W.codeIn K cd_law_told "_law_told" = true)
    (p_law_told : PySem.W.keepIn K (.ref f_law_told) = true)
    {f_law_is_told : Addr} {od_law_is_told an_law_is_told : Option Addr} {sl_law_is_told : Array (Option Value)} {oc_law_is_told kV_law_is_told dc_law_is_told pm_law_is_told ct_law_is_told : Value}
    (a_law_is_told : PySem.W.nsIn K mainGlobals "_law_is_told" = some (some (.ref f_law_is_told)))
    (l_law_is_told : K.lookup f_law_is_told = some ⟨oc_law_is_told, od_law_is_told, .func (PySem.W.fnOf "_law_is_told" "_law_is_told" (defArgs s_law_is_told) (defBody s_law_is_told) (defScope s_law_is_told) .none kV_law_is_told dc_law_is_told pm_law_is_told an_law_is_told (.ref tc) ct_law_is_told), sl_law_is_told⟩)
    (k_law_is_told : PySem.W.codeIn K (.ref tc) "_law_is_told" = true)
    (p_law_is_told : PySem.W.keepIn K (.ref f_law_is_told) = true)
    {f_law_right : Addr} {od_law_right an_law_right : Option Addr} {sl_law_right : Array (Option Value)} {oc_law_right kV_law_right dc_law_right pm_law_right cd_law_right ct_law_right : Value}
    (a_law_right : PySem.W.nsIn K mainGlobals "_law_right" = some (some (.ref f_law_right)))
    (l_law_right : K.lookup f_law_right = some ⟨oc_law_right, od_law_right, .func (PySem.W.fnOf "_law_right" "_law_right" (defArgs s_law_right) (defBody s_law_right) (defScope s_law_right) .none kV_law_right dc_law_right pm_law_right an_law_right cd_law_right ct_law_right), sl_law_right⟩)
    (k_law_right : PySem.W.codeIn K cd_law_right "_law_right" = true)
    (p_law_right : PySem.W.keepIn K (.ref f_law_right) = true)
    {f_law_pot : Addr} {od_law_pot an_law_pot : Option Addr} {sl_law_pot : Array (Option Value)} {oc_law_pot kV_law_pot dc_law_pot pm_law_pot cd_law_pot ct_law_pot : Value}
    (a_law_pot : PySem.W.nsIn K mainGlobals "_law_pot" = some (some (.ref f_law_pot)))
    (l_law_pot : K.lookup f_law_pot = some ⟨oc_law_pot, od_law_pot, .func (PySem.W.fnOf "_law_pot" "_law_pot" (defArgs s_law_pot) (defBody s_law_pot) (defScope s_law_pot) .none kV_law_pot dc_law_pot pm_law_pot an_law_pot cd_law_pot ct_law_pot), sl_law_pot⟩)
    (k_law_pot : PySem.W.codeIn K cd_law_pot "_law_pot" = true)
    (p_law_pot : PySem.W.keepIn K (.ref f_law_pot) = true)
    {f_law : Addr} {od_law an_law : Option Addr} {sl_law : Array (Option Value)} {oc_law kV_law dc_law pm_law cd_law ct_law : Value}
    (a_law : PySem.W.nsIn K mainGlobals "law" = some (some (.ref f_law)))
    (l_law : K.lookup f_law = some ⟨oc_law, od_law, .func (PySem.W.fnOf "law" "law" (defArgs s_law) (defBody s_law) (defScope s_law) .none kV_law dc_law pm_law an_law cd_law ct_law), sl_law⟩)
    (k_law : PySem.W.codeIn K cd_law "law" = true)
    (p_law : PySem.W.keepIn K (.ref f_law) = true)
    (z_range : PySem.W.nsIn K mainGlobals "range" = some none)
    (z_max : PySem.W.nsIn K mainGlobals "max" = some none)
    (z_min : PySem.W.nsIn K mainGlobals "min" = some none)
    (z_len : PySem.W.nsIn K mainGlobals "len" = some none)
    (z_list : PySem.W.nsIn K mainGlobals "list" = some none)
    (z_int : PySem.W.nsIn K mainGlobals "int" = some none)
    (z_str : PySem.W.nsIn K mainGlobals "str" = some none)
    (z_isinstance : PySem.W.nsIn K mainGlobals "isinstance" = some none)
    (z_bool : PySem.W.nsIn K mainGlobals "bool" = some none)
    (z_tuple : PySem.W.nsIn K mainGlobals "tuple" = some none)
    (z_dict : PySem.W.nsIn K mainGlobals "dict" = some none)
    (z_zip : PySem.W.nsIn K mainGlobals "zip" = some none)
    (z_enumerate : PySem.W.nsIn K mainGlobals "enumerate" = some none)
    (z_repr : PySem.W.nsIn K mainGlobals "repr" = some none)
    (z_all : PySem.W.nsIn K mainGlobals "all" = some none)
    (z_abs : PySem.W.nsIn K mainGlobals "abs" = some none)
    {C : Addr}
    (a_C : PySem.W.nsIn K mainGlobals "Page" = some (some (.ref C)))
    (c_pg : PySem.W.plainGet K C Str.empty = true)
    (c_hd : PySem.W.hasDictIn K C = true)
    (c_po : PySem.W.plainOver K C = true)
    (c_sa : PySem.W.findIn K (.ref C) "__setattr__" = some (some (.builtin "object.__setattr__")))
    (n_text : PySem.W.findIn K (.ref C) "_text" = some none)
    (n_units : PySem.W.findIn K (.ref C) "_units" = some none)
    (n_lines : PySem.W.findIn K (.ref C) "_lines" = some none)
    (n_ends : PySem.W.findIn K (.ref C) "_ends" = some none)
    (at_Page__init_ : PySem.W.findIn K (.ref C) "__init__" = some (some (.ref f_Page__init_)))
    (fn_Page__init_ : PySem.W.isFn K (.ref f_Page__init_) = true)
    {pp_Page_text : Addr} {rest_Page_text : List Value}
    (at_Page_text : PySem.W.findIn K (.ref C) "text" = some (some (.ref pp_Page_text)))
    (ge_Page_text : PySem.W.specialIn K (.ref pp_Page_text) "__get__" = some (some (.builtin "property.__get__")))
    (ta_Page_text : PySem.W.takesIn K (.ref pp_Page_text) = some true)
    (re_Page_text : PySem.W.recIn K pp_Page_text "property" = some (.ref f_Page_text :: rest_Page_text))
    (mk_C : PySem.W.makesIn K C = true)
    (kp_C : PySem.W.keepIn K (.ref C) = true)
    (T_hn : PySem.W.specialIn K (.builtin "object.__class__") "__get__" = some (some (.builtin "getset_descriptor.__get__")))
    (T_htk : PySem.W.takesIn K (.builtin "object.__class__") = some true)
    {BP : Addr}
    (a_BP : PySem.W.nsIn K mainGlobals "BadPage" = some (some (.ref BP)))
    {CA : Addr}
    (a_CA : PySem.W.nsIn K mainGlobals "AskedError" = some (some (.ref CA)))
    {xclA : PySem.ClassData}
    (xc_xA : PySem.W.subIn K (.ref CA) (.type "BaseException") = some true)
    (xc_yA : PySem.W.typeIn K (.ref CA) = some (.type "type"))
    (xc_cA : PySem.W.clsIn K CA = some xclA)
    {xN_BP : Addr} {xnm_BP xq_BP : Str} {xbs_BP xbm_BP xsub_BP : List Value} {xsn_BP : List Str} {xab_BP : Bool} {xcol_BP : Option Bool} {xdd_BP : Option Addr} {x0_BP x1_BP x2_BP x3_BP x5_BP : Option Value} {xcl_BP : PySem.ClassData}
    (x_BP : K.lookup BP = some (excClassObj xnm_BP xq_BP BP xN_BP xbs_BP xbm_BP true xsn_BP xsub_BP xab_BP xcol_BP xdd_BP x0_BP x1_BP x2_BP x3_BP x5_BP "ValueError.__new__"))
    (rf_BP : PySem.HandSPX.refsVE xbm_BP = true)
    (xc_sa_BP : PySem.W.findIn K (.ref BP) "__setattr__" = some (some (.builtin "object.__setattr__")))
    (xc_ex_BP : PySem.W.subIn K (.ref BP) (.type "BaseException") = some true)
    (xc_ty_BP : PySem.W.typeIn K (.ref BP) = some (.type "type"))
    (xc_kp_BP : PySem.W.keepIn K (.ref BP) = true)
    (xc_ga_BP : PySem.W.findIn K (.ref BP) "__getattribute__" = some (some (.builtin "BaseException.__getattribute__")))
    (xc_gg_BP : PySem.W.findIn K (.ref BP) "__getattr__" = some none)
    (xc_hd_BP : PySem.W.hasDictIn K BP = true)
    (xc_cl_BP : PySem.W.findIn K (.ref BP) "__class__" = some (some (.builtin "object.__class__")))
    (xc_mo_BP : PySem.W.mroIn K BP (.type "object") = some true)
    (xc_va_BP : PySem.W.findIn K (.ref BP) "value" = some none)
    (xc_in_BP : PySem.W.findIn K (.ref BP) "__init__" = some (some (.ref f_AskedError__init_)))
    (xc_sA_BP : PySem.W.subIn K (.ref BP) (.ref CA) = some true)
    (xc_cs_BP : PySem.W.clsIn K BP = some xcl_BP)
    (xc_ft : PySem.W.typeIn K (.ref f_AskedError__init_) = some (.type "function"))
    (tb_l : K.lookup tc = some ⟨tco, tcd, .fields tus, tsl⟩)
    (tb_v : tus[11]? = some (.ref tP))
    (tb_n : K.lookup tP = none) (tb_c : PySem.W.codeHdIn K tc tP = true) (tb_0 : h.get? tP = some tab0)
    {e_HOWS : Addr} {ed_HOWS : Option Addr} {ei_HOWS : Array Value} {en_HOWS : Nat} {es_HOWS : Array (Option Value)}
    (a_HOWS : PySem.W.nsIn K mainGlobals "HOWS" = some (some (.ref e_HOWS)))
    (l_HOWS : K.lookup e_HOWS = some ⟨.type "tuple", ed_HOWS, .seq ei_HOWS en_HOWS, es_HOWS⟩)
    (v_HOWS : ei_HOWS.size ≤ sizeLine ∧ Vals hows ei_HOWS.toList)
    {e_WORDS : Addr} {ed_WORDS : Option Addr} {ei_WORDS : Array Value} {en_WORDS : Nat} {es_WORDS : Array (Option Value)}
    (a_WORDS : PySem.W.nsIn K mainGlobals "WORDS" = some (some (.ref e_WORDS)))
    (l_WORDS : K.lookup e_WORDS = some ⟨.type "tuple", ed_WORDS, .seq ei_WORDS en_WORDS, es_WORDS⟩)
    (v_WORDS : ei_WORDS.size ≤ sizeLine ∧ Vals wordsV ei_WORDS.toList)
    {t9 : Tok}
    (a_MOST_PARTS : PySem.W.nsIn K mainGlobals "MOST_PARTS" = some (some (.int 9 t9)))
    {t6 : Tok}
    (a_MOST_ENDS : PySem.W.nsIn K mainGlobals "MOST_ENDS" = some (some (.int 6 t6)))
    {t3 : Tok}
    (a_MOST_STEPS : PySem.W.nsIn K mainGlobals "MOST_STEPS" = some (some (.int 3 t3)))
    {e_MARKS mk0 mk1 mk2 mk3 : Addr} {mkd mkd0 mkd1 mkd2 mkd3 : Option Addr} {mkn mkn0 mkn1 mkn2 mkn3 : Nat} {mks mks0 mks1 mks2 mks3 : Array (Option Value)} {mkt1 mkt2 mkt3 mkt4 : Tok}
    (a_MARKS : PySem.W.nsIn K mainGlobals "MARKS" = some (some (.ref e_MARKS)))
    (l_MARKS : K.lookup e_MARKS = some ⟨.type "tuple", mkd, .seq #[.ref mk0, .ref mk1, .ref mk2, .ref mk3] mkn, mks⟩)
    (l_MARK0 : K.lookup mk0 = some ⟨.type "tuple", mkd0, .seq #[] mkn0, mks0⟩)
    (l_MARK1 : K.lookup mk1 = some ⟨.type "tuple", mkd1, .seq #[.str "is" mkt1] mkn1, mks1⟩)
    (l_MARK2 : K.lookup mk2 = some ⟨.type "tuple", mkd2, .seq #[.str "all" mkt2] mkn2, mks2⟩)
    (l_MARK3 : K.lookup mk3 = some ⟨.type "tuple", mkd3, .seq #[.str "is" mkt3, .str "all" mkt4] mkn3, mks3⟩)
    : EndGT l w K 13 63 "_law_script" mg fa h := by
  have e := hfa.symm.trans (PySem.W.mg_of X G a_law)
  cases e
  have tb9 : PySem.W.CodeHd h tc tP := PySem.W.codeHd_of_K X tb_c
  refine ⟨PySem.W.fnOf "law" "law" (defArgs s_law) (defBody s_law) (defScope s_law) .none kV_law dc_law pm_law an_law cd_law ct_law, [(tc, tP)], sp_lawX K tP, fun z m => by rw [List.mem_singleton.mp m]; exact tb_0, fun z m => by rw [List.mem_singleton.mp m]; exact tb_n, fun z m => by rw [List.mem_singleton.mp m]; exact tb9, fun s v => .of_eq rfl, fun H a ns hl hH hS => ⟨a, ns, rfl, hS, hl, fun z m => by rw [List.mem_singleton.mp m]; exact TabS.nil (hH _ (.head _)), fun _ => rfl⟩, fun base _ _ TBs => ?_⟩
  have TB9 : TabB base mg tc tP := TBs _ (.head _)
  have m_range : mg "range" = none := PySem.W.mg_none_of X G z_range
  have m_max : mg "max" = none := PySem.W.mg_none_of X G z_max
  have m_min : mg "min" = none := PySem.W.mg_none_of X G z_min
  have m_len : mg "len" = none := PySem.W.mg_none_of X G z_len
  have m_list : mg "list" = none := PySem.W.mg_none_of X G z_list
  have m_int : mg "int" = none := PySem.W.mg_none_of X G z_int
  have m_str : mg "str" = none := PySem.W.mg_none_of X G z_str
  have m_isinstance : mg "isinstance" = none := PySem.W.mg_none_of X G z_isinstance
  have m_bool : mg "bool" = none := PySem.W.mg_none_of X G z_bool
  have m_tuple : mg "tuple" = none := PySem.W.mg_none_of X G z_tuple
  have m_dict : mg "dict" = none := PySem.W.mg_none_of X G z_dict
  have m_zip : mg "zip" = none := PySem.W.mg_none_of X G z_zip
  have m_enumerate : mg "enumerate" = none := PySem.W.mg_none_of X G z_enumerate
  have m_repr : mg "repr" = none := PySem.W.mg_none_of X G z_repr
  have m_all : mg "all" = none := PySem.W.mg_none_of X G z_all
  have m_abs : mg "abs" = none := PySem.W.mg_none_of X G z_abs
  have g_HOWS : mg "HOWS" = some (.ref e_HOWS) := PySem.W.mg_of X G a_HOWS
  have t_HOWS : TupK K e_HOWS hows := ⟨_, _, _, l_HOWS, rfl, rfl, v_HOWS.1, v_HOWS.2⟩
  have g_WORDS : mg "WORDS" = some (.ref e_WORDS) := PySem.W.mg_of X G a_WORDS
  have t_WORDS : TupK K e_WORDS wordsV := ⟨_, _, _, l_WORDS, rfl, rfl, v_WORDS.1, v_WORDS.2⟩
  have g_MOST_PARTS : mg "MOST_PARTS" = some (.int 9 t9) := PySem.W.mg_of X G a_MOST_PARTS
  have g_MOST_ENDS : mg "MOST_ENDS" = some (.int 6 t6) := PySem.W.mg_of X G a_MOST_ENDS
  have g_MOST_STEPS : mg "MOST_STEPS" = some (.int 3 t3) := PySem.W.mg_of X G a_MOST_STEPS
  have g_MARKS : mg "MARKS" = some (.ref e_MARKS) := PySem.W.mg_of X G a_MARKS
  have t_MARKS : ∀ H, Dp K H (.ref e_MARKS) (.tuple marksD) := marks_at l_MARKS l_MARK0 l_MARK1 l_MARK2 l_MARK3
  have c : PgC K C := ⟨⟨c_pg, c_hd, c_po, c_sa⟩, n_text, n_units, n_lines, n_ends⟩
  have gC : mg "Page" = some (.ref C) := PySem.W.mg_of X G a_C
  have g_BP : mg "BadPage" = some (.ref BP) := PySem.W.mg_of X G a_BP
  have g_CA : mg "AskedError" = some (.ref CA) := PySem.W.mg_of X G a_CA
  have xm_BP : PySem.W.exmOne K (.ref BP) (.ref CA) = some true := by simp only [PySem.W.exmOne, PySem.W.kitCls, xc_xA, xc_yA, xc_sA_BP, xc_cA]; rfl
  have X9BP : Xcl K BP := ⟨⟨⟨_, _, _, _, _, _, _, _, _, _, _, _, _, _, _, x_BP, rf_BP⟩, xc_sa_BP, xc_ex_BP, xc_ty_BP, xc_kp_BP⟩, xc_ga_BP, xc_gg_BP, xc_hd_BP, xc_cl_BP, T_hn, T_htk, xc_mo_BP, xc_va_BP⟩
  have F_law_cells := fun_mk (st := s_law_cells) l_law_cells k_law_cells p_law_cells
  let c_law_cells : Cal l.prog w K mg base 1 "_law_cells" ["_law_script", "_law_most"] (sp_law_cells K) := ⟨f_law_cells, _, ok_law_cells (F := F_law_cells) (m_range := m_range) (m_max := m_max) (m_min := m_min) (m_len := m_len) (m_list := m_list), p_law_cells, F_law_cells.binds (ps := ["_law_script", "_law_most"]) (fun _ _ _ _ _ _ us hl => match us, hl with | [_, _], _ => rfl), PySem.W.mg_of X G a_law_cells⟩
  have F_law_take := fun_mk (st := s_law_take) l_law_take k_law_take p_law_take
  let c_law_take : Cal l.prog w K mg base 1 "_law_take" ["_law_pot_here", "_law_upto"] (sp_law_take K) := ⟨f_law_take, _, ok_law_take (F := F_law_take) (m_int := m_int), p_law_take, F_law_take.binds (ps := ["_law_pot_here", "_law_upto"]) (fun _ _ _ _ _ _ us hl => match us, hl with | [_, _], _ => rfl), PySem.W.mg_of X G a_law_take⟩
  have F_law_some := fun_mk (st := s_law_some) l_law_some k_law_some p_law_some
  let c_law_some : Cal l.prog w K mg base 2 "_law_some" ["_law_pot_here", "_law_pool", "_law_many"] (sp_law_some K) := ⟨f_law_some, _, ok_law_some (F := F_law_some) (m_list := m_list) (m_range := m_range) (m_len := m_len) (c_law_take := c_law_take), p_law_some, F_law_some.binds (ps := ["_law_pot_here", "_law_pool", "_law_many"]) (fun _ _ _ _ _ _ us hl => match us, hl with | [_, _, _], _ => rfl), PySem.W.mg_of X G a_law_some⟩
  have F_law_names := fun_mk (st := s_law_names) l_law_names k_law_names p_law_names
  let c_law_names : Cal l.prog w K mg base 3 "_law_names" ["_law_pot_here", "_law_many"] (sp_law_names K) := ⟨f_law_names, _, ok_law_names (F := F_law_names) (c_law_some := c_law_some), p_law_names, F_law_names.binds (ps := ["_law_pot_here", "_law_many"]) (fun _ _ _ _ _ _ us hl => match us, hl with | [_, _], _ => rfl), PySem.W.mg_of X G a_law_names⟩
  have F_law_head_cases := fun_mk (st := s_law_head_cases) l_law_head_cases k_law_head_cases p_law_head_cases
  let c_law_head_cases : Cal l.prog w K mg base 1 "_law_head_cases" ["_law_names_here"] (sp_law_head_cases K) := ⟨f_law_head_cases, _, ok_law_head_cases (F := F_law_head_cases) , p_law_head_cases, F_law_head_cases.binds (ps := ["_law_names_here"]) (fun _ _ _ _ _ _ us hl => match us, hl with | [_], _ => rfl), PySem.W.mg_of X G a_law_head_cases⟩
  have F_law_share_cases := fun_mk (st := s_law_share_cases) l_law_share_cases k_law_share_cases p_law_share_cases
  let c_law_share_cases : Cal l.prog w K mg base 1 "_law_share_cases" ["_law_names_here"] (sp_law_share_cases K) := ⟨f_law_share_cases, _, ok_law_share_cases (F := F_law_share_cases) , p_law_share_cases, F_law_share_cases.binds (ps := ["_law_names_here"]) (fun _ _ _ _ _ _ us hl => match us, hl with | [_], _ => rfl), PySem.W.mg_of X G a_law_share_cases⟩
  have F_law_tree_cases := fun_mk (st := s_law_tree_cases) l_law_tree_cases k_law_tree_cases p_law_tree_cases
  let c_law_tree_cases : Cal l.prog w K mg base 1 "_law_tree_cases" ["_law_names_here"] (sp_law_tree_cases K) := ⟨f_law_tree_cases, _, ok_law_tree_cases (F := F_law_tree_cases) (m_range := m_range), p_law_tree_cases, F_law_tree_cases.binds (ps := ["_law_names_here"]) (fun _ _ _ _ _ _ us hl => match us, hl with | [_], _ => rfl), PySem.W.mg_of X G a_law_tree_cases⟩
  have F_AskedError__init_ := fun_mk (st := s_AskedError__init_) l_AskedError__init_ k_AskedError__init_ p_AskedError__init_
  have FM_AskedError__init_ := ok_AskedError__init_ (P := l.prog) (w := w) (mg := mg) (base := base) (F := F_AskedError__init_) 
  have b_AskedError__init_ := F_AskedError__init_.binds (ps := ["self", "value"]) (fun _ _ _ _ _ _ us hl => match us, hl with | [_, _], _ => rfl)
  have Fi := FM_AskedError__init_
  have bi := b_AskedError__init_
  have F_read_number := fun_mk (st := s_read_number) l_read_number k_read_number p_read_number
  let c_read_number : Cal l.prog w K mg base 1 "read_number" ["word", "most"] (sp_read_number K) := ⟨f_read_number, _, ok_read_number (F := F_read_number) (m_len := m_len) (m_str := m_str) (m_int := m_int), p_read_number, F_read_number.binds (ps := ["word", "most"]) (fun _ _ _ _ _ _ us hl => match us, hl with | [_, _], _ => rfl), PySem.W.mg_of X G a_read_number⟩
  have F_is_integerX := fun_mk (st := s_is_integer) l_is_integerX k_is_integerX p_is_integerX
  let c_is_integerX : Cal l.prog w K mg base 1 "is_integer" ["value"] (sp_is_integerX K) := ⟨f_is_integerX, _, ok_is_integerX (F := F_is_integerX) (m_isinstance := m_isinstance) (m_int := m_int) (m_bool := m_bool), p_is_integerX, F_is_integerX.binds (ps := ["value"]) (fun _ _ _ _ _ _ us hl => match us, hl with | [_], _ => rfl), PySem.W.mg_of X G a_is_integerX⟩
  have F_is_unitsX := fun_mk (st := s_is_units) l_is_unitsX k_is_unitsX p_is_unitsX
  let c_is_unitsX : Cal l.prog w K mg base 2 "is_units" ["value"] (sp_is_unitsX K) := ⟨f_is_unitsX, _, ok_is_unitsX (F := F_is_unitsX) (m_isinstance := m_isinstance) (m_tuple := m_tuple) (m_len := m_len) (m_str := m_str) (g_HOWS := g_HOWS) (t_HOWS := t_HOWS) (c_is_integerX := c_is_integerX), p_is_unitsX, F_is_unitsX.binds (ps := ["value"]) (fun _ _ _ _ _ _ us hl => match us, hl with | [_], _ => rfl), PySem.W.mg_of X G a_is_unitsX⟩
  have F_read_units := fun_mk (st := s_read_units) l_read_units k_read_units p_read_units
  let c_read_units : Cal l.prog w K mg base 3 "read_units" ["words"] (sp_read_units K) := ⟨f_read_units, _, ok_read_units (F := F_read_units) (m_len := m_len) (c_read_number := c_read_number) (c_is_unitsX := c_is_unitsX), p_read_units, F_read_units.binds (ps := ["words"]) (fun _ _ _ _ _ _ us hl => match us, hl with | [_], _ => rfl), PySem.W.mg_of X G a_read_units⟩
  have F_is_name := fun_mk (st := s_is_name) l_is_name k_is_name p_is_name
  let c_is_name : Cal l.prog w K mg base 1 "is_name" ["value"] (sp_is_name K) := ⟨f_is_name, _, ok_is_name (F := F_is_name) (m_isinstance := m_isinstance) (m_str := m_str) (m_len := m_len), p_is_name, F_is_name.binds (ps := ["value"]) (fun _ _ _ _ _ _ us hl => match us, hl with | [_], _ => rfl), PySem.W.mg_of X G a_is_name⟩
  have F_is_asked := fun_mk (st := s_is_asked) l_is_asked k_is_asked p_is_asked
  let c_is_asked : Cal l.prog w K mg base 2 "is_asked" ["words"] (sp_is_asked K) := ⟨f_is_asked, _, ok_is_asked (F := F_is_asked) (m_len := m_len) (c_is_name := c_is_name), p_is_asked, F_is_asked.binds (ps := ["words"]) (fun _ _ _ _ _ _ us hl => match us, hl with | [_], _ => rfl), PySem.W.mg_of X G a_is_asked⟩
  have F_read_share := fun_mk (st := s_read_share) l_read_share k_read_share p_read_share
  let c_read_share : Cal l.prog w K mg base 2 "read_share" ["units", "word"] (sp_read_share K) := ⟨f_read_share, _, ok_read_share (F := F_read_share) (g_WORDS := g_WORDS) (t_WORDS := t_WORDS) (c_read_number := c_read_number), p_read_share, F_read_share.binds (ps := ["units", "word"]) (fun _ _ _ _ _ _ us hl => match us, hl with | [_, _], _ => rfl), PySem.W.mg_of X G a_read_share⟩
  have F_read_part := fun_mk (st := s_read_part) l_read_part k_read_part p_read_part
  let c_read_part : Cal l.prog w K mg base 3 "read_part" ["units", "lines", "words"] (sp_read_part K) := ⟨f_read_part, _, ok_read_part (F := F_read_part) (m_dict := m_dict) (m_zip := m_zip) (g_MARKS := g_MARKS) (t_MARKS := t_MARKS) (m_len := m_len) (m_tuple := m_tuple) (c_is_name := c_is_name) (c_read_share := c_read_share), p_read_part, F_read_part.binds (ps := ["units", "lines", "words"]) (fun _ _ _ _ _ _ us hl => match us, hl with | [_, _, _], _ => rfl), PySem.W.mg_of X G a_read_part⟩
  have F_ends_among := fun_mk (st := s_ends_among) l_ends_among k_ends_among p_ends_among
  let c_ends_among : Cal l.prog w K mg base 1 "ends_among" ["lines"] (sp_ends_among K) := ⟨f_ends_among, _, ok_ends_among (F := F_ends_among) (m_tuple := m_tuple), p_ends_among, F_ends_among.binds (ps := ["lines"]) (fun _ _ _ _ _ _ us hl => match us, hl with | [_], _ => rfl), PySem.W.mg_of X G a_ends_among⟩
  have F_way_up := fun_mk (st := s_way_up) l_way_up k_way_up p_way_up
  let c_way_up : Cal l.prog w K mg base 1 "way_up" ["lines", "part"] (sp_way_up K) := ⟨f_way_up, _, ok_way_up (F := F_way_up) , p_way_up, F_way_up.binds (ps := ["lines", "part"]) (fun _ _ _ _ _ _ us hl => match us, hl with | [_, _], _ => rfl), PySem.W.mg_of X G a_way_up⟩
  have F_is_too_much := fun_mk (st := s_is_too_much) l_is_too_much k_is_too_much p_is_too_much
  let c_is_too_much : Cal l.prog w K mg base 2 "is_too_much" ["lines", "part"] (sp_is_too_much K) := ⟨f_is_too_much, _, ok_is_too_much (F := F_is_too_much) (g_MOST_PARTS := g_MOST_PARTS) (g_MOST_ENDS := g_MOST_ENDS) (g_MOST_STEPS := g_MOST_STEPS) (m_len := m_len) (c_ends_among := c_ends_among) (c_way_up := c_way_up), p_is_too_much, F_is_too_much.binds (ps := ["lines", "part"]) (fun _ _ _ _ _ _ us hl => match us, hl with | [_, _], _ => rfl), PySem.W.mg_of X G a_is_too_much⟩
  have F_read_parts := fun_mk (st := s_read_parts) l_read_parts k_read_parts p_read_parts
  have FM_read_parts := ok_read_parts (P := l.prog) (w := w) (mg := mg) (base := base) (F := F_read_parts) (Fi := FM_AskedError__init_) (bi := b_AskedError__init_) (tyI := xc_ft) (XBP := X9BP) (iBP := xc_in_BP) (gBP := g_BP) (m_enumerate := m_enumerate) (c_read_part := c_read_part) (c_is_too_much := c_is_too_much)
  have b_read_parts := F_read_parts.binds (ps := ["units", "first", "rows"]) (fun _ _ _ _ _ _ us hl => match us, hl with | [_, _, _], _ => rfl)
  have g_read_parts : mg "read_parts" = some (.ref f_read_parts) := PySem.W.mg_of X G a_read_parts
  let c_read_parts : CalX l.prog w K mg base 4 "read_parts" ["units", "first", "rows"] (sp_read_parts K BP) := ⟨f_read_parts, _, FM_read_parts, p_read_parts, b_read_parts, g_read_parts⟩
  have F_read_page := fun_mk (st := s_read_page) l_read_page k_read_page p_read_page
  have FM_read_page := ok_read_page (P := l.prog) (w := w) (mg := mg) (base := base) (F := F_read_page) (Fi := FM_AskedError__init_) (bi := b_AskedError__init_) (tyI := xc_ft) (XBP := X9BP) (iBP := xc_in_BP) (gBP := g_BP) (m_isinstance := m_isinstance) (m_str := m_str) (m_len := m_len) (c_read_units := c_read_units) (c_is_asked := c_is_asked) (c_read_parts := c_read_parts)
  have b_read_page := F_read_page.binds (ps := ["text"]) (fun _ _ _ _ _ _ us hl => match us, hl with | [_], _ => rfl)
  have g_read_page : mg "read_page" = some (.ref f_read_page) := PySem.W.mg_of X G a_read_page
  let c_read_page : CalX l.prog w K mg base 5 "read_page" ["text"] (sp_read_page K BP) := ⟨f_read_page, _, FM_read_page, p_read_page, b_read_page, g_read_page⟩
  have F_Page__init_ := fun_mk (st := s_Page__init_) l_Page__init_ k_Page__init_ p_Page__init_
  have FM_Page__init_ := ok_Page__init_ (P := l.prog) (w := w) (mg := mg) (base := base) (F := F_Page__init_) (c := c) (c_read_page := c_read_page) (c_ends_among := c_ends_among)
  have b_Page__init_ := F_Page__init_.binds (ps := ["self", "text"]) (fun _ _ _ _ _ _ us hl => match us, hl with | [_, _], _ => rfl)
  have M : Mk K C f_Page__init_ := ⟨mk_C, at_Page__init_, fn_Page__init_, kp_C⟩
  have FI := FM_Page__init_
  have bI := b_Page__init_
  have F_Page_text := fun_mk (st := s_Page_text) l_Page_text k_Page_text p_Page_text
  have FM_Page_text := ok_Page_text (P := l.prog) (w := w) (mg := mg) (base := base) (F := F_Page_text) (c := c)
  have b_Page_text := F_Page_text.binds (ps := ["self"]) (fun _ _ _ _ _ _ us hl => match us, hl with | [_], _ => rfl)
  have rX : PropOf K C "text" pp_Page_text f_Page_text := ⟨at_Page_text, ge_Page_text, ta_Page_text, _, re_Page_text⟩
  have FX := FM_Page_text
  have bX := b_Page_text
  have F_law_told := fun_mk (st := s_law_told) l_law_told k_law_told p_law_told
  have b_law_told := F_law_told.binds (ps := ["_law_look"]) (fun _ _ _ _ _ _ us hl => match us, hl with | [_], _ => rfl)
  have g_law_told : mg "_law_told" = some (.ref f_law_told) := PySem.W.mg_of X G a_law_told
  have F_law_is_told := fun_mk (st := s_law_is_told) l_law_is_told k_law_is_told p_law_is_told
  let c_law_is_told : CalG l.prog w K mg base 11 "_law_is_told" ["_law_lines", "_law_number"] (sp_law_is_told K tP) := ⟨f_law_is_told, _, ok_law_is_told (F := F_law_is_told) (c := c) (XBP := X9BP) (gBP := g_BP) (gA := g_CA) (hBA := xm_BP) (gC := gC) (MP := M) (FI := FI) (bI := bI) (rX := rX) (FX := FX) (bX := bX) (FT := F_law_told) (bT := b_law_told) (gTold := g_law_told) (TB := TB9) (hcd := rfl) (m_isinstance := m_isinstance) (m_repr := m_repr), p_law_is_told, F_law_is_told.binds (ps := ["_law_lines", "_law_number"]) (fun _ _ _ _ _ _ us hl => match us, hl with | [_, _], _ => rfl), PySem.W.mg_of X G a_law_is_told⟩
  have F_law_right := fun_mk (st := s_law_right) l_law_right k_law_right p_law_right
  let c_law_right : CalG l.prog w K mg base 12 "_law_right" ["_law_pot_here"] (sp_law_rightX K tP) := ⟨f_law_right, _, ok_law_right (F := F_law_right) (m_all := m_all) (c_law_names := c_law_names) (c_law_head_cases := c_law_head_cases) (c_law_share_cases := c_law_share_cases) (c_law_tree_cases := c_law_tree_cases) (c_law_is_told := c_law_is_told), p_law_right, F_law_right.binds (ps := ["_law_pot_here"]) (fun _ _ _ _ _ _ us hl => match us, hl with | [_], _ => rfl), PySem.W.mg_of X G a_law_right⟩
  have F_law_pot := fun_mk (st := s_law_pot) l_law_pot k_law_pot p_law_pot
  let c_law_pot : Cal l.prog w K mg base 1 "_law_pot" ["_law_script", "_law_place"] (sp_law_pot K) := ⟨f_law_pot, _, ok_law_pot (F := F_law_pot) (m_len := m_len) (m_int := m_int) (m_abs := m_abs), p_law_pot, F_law_pot.binds (ps := ["_law_script", "_law_place"]) (fun _ _ _ _ _ _ us hl => match us, hl with | [_, _], _ => rfl), PySem.W.mg_of X G a_law_pot⟩
  have F_law := fun_mk (st := s_law) l_law k_law p_law
  exact ok_law (F := F_law) (m_all := m_all) (c_law_cells := c_law_cells) (c_law_right := c_law_right) (c_law_pot := c_law_pot)
end Uq
open PySem PySem.W PyProof.Rows
set_option maxHeartbeats 0 in
theorem PySem.Challenge.cw_anyasked_k07_pages_at_their_bounds_holds : PySem.Challenge.rw_anyasked_k07_pages_at_their_bounds.Holds := by
  w_on; o_law; k_head; (case hw => w_witness2)
  k_fill
  refine Uq.walk_ofGT (l := PySem.Challenge.rw_anyasked_k07_pages_at_their_bounds) (n := 63) (k := 13) (x := "_law_script") rfl (by decide) rfl ⟨rfl, by decide, by decide⟩ (fun w h Y => PySem.W.km_in_of Y) ?F
  case F =>
    intro w mg fa h Y KX G hmg
    have T8 := PySem.W.km_tabs_of Y
    refine' Uq.all_mk KX G hmg (tb_c := ?q_tbc) (tb_0 := ?q_tb0) (rf_BP := ?q_rf_BP)  (tb_v := ?q_tbv) (tb_n := ?q_tbn) (a_law_cells := ?q_a_law_cells) (l_law_cells := ?q_l_law_cells) (k_law_cells := ?q_k_law_cells) (p_law_cells := ?q_p_law_cells) (a_law_take := ?q_a_law_take) (l_law_take := ?q_l_law_take) (k_law_take := ?q_k_law_take) (p_law_take := ?q_p_law_take) (a_law_some := ?q_a_law_some) (l_law_some := ?q_l_law_some) (k_law_some := ?q_k_law_some) (p_law_some := ?q_p_law_some) (a_law_names := ?q_a_law_names) (l_law_names := ?q_l_law_names) (k_law_names := ?q_k_law_names) (p_law_names := ?q_p_law_names) (a_law_head_cases := ?q_a_law_head_cases) (l_law_head_cases := ?q_l_law_head_cases) (k_law_head_cases := ?q_k_law_head_cases) (p_law_head_cases := ?q_p_law_head_cases) (a_law_share_cases := ?q_a_law_share_cases) (l_law_share_cases := ?q_l_law_share_cases) (k_law_share_cases := ?q_k_law_share_cases) (p_law_share_cases := ?q_p_law_share_cases) (a_law_tree_cases := ?q_a_law_tree_cases) (l_law_tree_cases := ?q_l_law_tree_cases) (k_law_tree_cases := ?q_k_law_tree_cases) (p_law_tree_cases := ?q_p_law_tree_cases) (l_AskedError__init_ := ?q_l_AskedError__init_) (k_AskedError__init_ := ?q_k_AskedError__init_) (p_AskedError__init_ := ?q_p_AskedError__init_) (a_read_number := ?q_a_read_number) (l_read_number := ?q_l_read_number) (k_read_number := ?q_k_read_number) (p_read_number := ?q_p_read_number) (a_is_integerX := ?q_a_is_integerX) (l_is_integerX := ?q_l_is_integerX) (k_is_integerX := ?q_k_is_integerX) (p_is_integerX := ?q_p_is_integerX) (a_is_unitsX := ?q_a_is_unitsX) (l_is_unitsX := ?q_l_is_unitsX) (k_is_unitsX := ?q_k_is_unitsX) (p_is_unitsX := ?q_p_is_unitsX) (a_read_units := ?q_a_read_units) (l_read_units := ?q_l_read_units) (k_read_units := ?q_k_read_units) (p_read_units := ?q_p_read_units) (a_is_name := ?q_a_is_name) (l_is_name := ?q_l_is_name) (k_is_name := ?q_k_is_name) (p_is_name := ?q_p_is_name) (a_is_asked := ?q_a_is_asked) (l_is_asked := ?q_l_is_asked) (k_is_asked := ?q_k_is_asked) (p_is_asked := ?q_p_is_asked) (a_read_share := ?q_a_read_share) (l_read_share := ?q_l_read_share) (k_read_share := ?q_k_read_share) (p_read_share := ?q_p_read_share) (a_read_part := ?q_a_read_part) (l_read_part := ?q_l_read_part) (k_read_part := ?q_k_read_part) (p_read_part := ?q_p_read_part) (a_ends_among := ?q_a_ends_among) (l_ends_among := ?q_l_ends_among) (k_ends_among := ?q_k_ends_among) (p_ends_among := ?q_p_ends_among) (a_way_up := ?q_a_way_up) (l_way_up := ?q_l_way_up) (k_way_up := ?q_k_way_up) (p_way_up := ?q_p_way_up) (a_is_too_much := ?q_a_is_too_much) (l_is_too_much := ?q_l_is_too_much) (k_is_too_much := ?q_k_is_too_much) (p_is_too_much := ?q_p_is_too_much) (a_read_parts := ?q_a_read_parts) (l_read_parts := ?q_l_read_parts) (k_read_parts := ?q_k_read_parts) (p_read_parts := ?q_p_read_parts) (a_read_page := ?q_a_read_page) (l_read_page := ?q_l_read_page) (k_read_page := ?q_k_read_page) (p_read_page := ?q_p_read_page) (l_Page__init_ := ?q_l_Page__init_) (k_Page__init_ := ?q_k_Page__init_) (p_Page__init_ := ?q_p_Page__init_) (l_Page_text := ?q_l_Page_text) (k_Page_text := ?q_k_Page_text) (p_Page_text := ?q_p_Page_text) (a_law_told := ?q_a_law_told) (l_law_told := ?q_l_law_told) (k_law_told := ?q_k_law_told) (p_law_told := ?q_p_law_told) (a_law_is_told := ?q_a_law_is_told) (l_law_is_told := ?q_l_law_is_told) (k_law_is_told := ?q_k_law_is_told) (p_law_is_told := ?q_p_law_is_told) (a_law_right := ?q_a_law_right) (l_law_right := ?q_l_law_right) (k_law_right := ?q_k_law_right) (p_law_right := ?q_p_law_right) (a_law_pot := ?q_a_law_pot) (l_law_pot := ?q_l_law_pot) (k_law_pot := ?q_k_law_pot) (p_law_pot := ?q_p_law_pot) (a_law := ?q_a_law) (l_law := ?q_l_law) (k_law := ?q_k_law) (p_law := ?q_p_law) (z_range := ?q_z_range) (z_max := ?q_z_max) (z_min := ?q_z_min) (z_len := ?q_z_len) (z_list := ?q_z_list) (z_int := ?q_z_int) (z_str := ?q_z_str) (z_isinstance := ?q_z_isinstance) (z_bool := ?q_z_bool) (z_tuple := ?q_z_tuple) (z_dict := ?q_z_dict) (z_zip := ?q_z_zip) (z_enumerate := ?q_z_enumerate) (z_repr := ?q_z_repr) (z_all := ?q_z_all) (z_abs := ?q_z_abs) (a_C := ?q_a_C) (c_pg := ?q_c_pg) (c_hd := ?q_c_hd) (c_po := ?q_c_po) (c_sa := ?q_c_sa) (n_text := ?q_n_text) (n_units := ?q_n_units) (n_lines := ?q_n_lines) (n_ends := ?q_n_ends) (at_Page__init_ := ?q_at_Page__init_) (fn_Page__init_ := ?q_fn_Page__init_) (at_Page_text := ?q_at_Page_text) (ge_Page_text := ?q_ge_Page_text) (ta_Page_text := ?q_ta_Page_text) (re_Page_text := ?q_re_Page_text) (mk_C := ?q_mk_C) (kp_C := ?q_kp_C) (T_hn := ?q_T_hn) (T_htk := ?q_T_htk) (a_BP := ?q_a_BP) (a_CA := ?q_a_CA) (xc_xA := ?q_xc_xA) (xc_yA := ?q_xc_yA) (xc_cA := ?q_xc_cA) (x_BP := ?q_x_BP) (xc_sa_BP := ?q_xc_sa_BP) (xc_ex_BP := ?q_xc_ex_BP) (xc_ty_BP := ?q_xc_ty_BP) (xc_kp_BP := ?q_xc_kp_BP) (xc_ga_BP := ?q_xc_ga_BP) (xc_gg_BP := ?q_xc_gg_BP) (xc_hd_BP := ?q_xc_hd_BP) (xc_cl_BP := ?q_xc_cl_BP) (xc_mo_BP := ?q_xc_mo_BP) (xc_va_BP := ?q_xc_va_BP) (xc_in_BP := ?q_xc_in_BP) (xc_sA_BP := ?q_xc_sA_BP) (xc_cs_BP := ?q_xc_cs_BP) (xc_ft := ?q_xc_ft) (tb_l := ?q_tb_l) (a_HOWS := ?q_a_HOWS) (l_HOWS := ?q_l_HOWS) (a_WORDS := ?q_a_WORDS) (l_WORDS := ?q_l_WORDS) (a_MOST_PARTS := ?q_a_MOST_PARTS) (a_MOST_ENDS := ?q_a_MOST_ENDS) (a_MOST_STEPS := ?q_a_MOST_STEPS) (a_MARKS := ?q_a_MARKS) (l_MARKS := ?q_l_MARKS) (l_MARK0 := ?q_l_MARK0) (l_MARK1 := ?q_l_MARK1) (l_MARK2 := ?q_l_MARK2) (l_MARK3 := ?q_l_MARK3) (v_HOWS := ?q_v_HOWS) (v_WORDS := ?q_v_WORDS)
    (case q_a_C => k_is)
    (case q_c_pg => k_is)
    (case q_c_hd => k_is)
    (case q_c_po => k_is)
    (case q_c_sa => k_is)
    (case q_n_text => k_is)
    (case q_n_units => k_is)
    (case q_n_lines => k_is)
    (case q_n_ends => k_is)
    (case q_at_Page__init_ => k_is)
    (case q_fn_Page__init_ => k_is)
    (case q_at_Page_text => k_is)
    (case q_ge_Page_text => k_is)
    (case q_ta_Page_text => k_is)
    (case q_re_Page_text => k_is)
    (case q_mk_C => k_is)
    (case q_kp_C => k_is)
    (case q_T_hn => k_is)
    (case q_T_htk => k_is)
    (case q_a_BP => k_is)
    (case q_a_CA => k_is)
    (case q_xc_xA => k_is)
    (case q_xc_yA => k_is)
    (case q_xc_cA => k_is)
    (case q_x_BP => k_is)
    (case q_xc_sa_BP => k_is)
    (case q_xc_ex_BP => k_is)
    (case q_xc_ty_BP => k_is)
    (case q_xc_kp_BP => k_is)
    (case q_xc_ga_BP => k_is)
    (case q_xc_gg_BP => k_is)
    (case q_xc_hd_BP => k_is)
    (case q_xc_cl_BP => k_is)
    (case q_xc_mo_BP => k_is)
    (case q_xc_va_BP => k_is)
    (case q_xc_in_BP => k_is)
    (case q_xc_sA_BP => k_is)
    (case q_xc_cs_BP => k_is)
    (case q_xc_ft => k_is)
    (case q_a_law_cells => k_is)
    (case q_l_law_cells => k_is)
    (case q_k_law_cells => k_is)
    (case q_p_law_cells => k_is)
    (case q_a_law_take => k_is)
    (case q_l_law_take => k_is)
    (case q_k_law_take => k_is)
    (case q_p_law_take => k_is)
    (case q_a_law_some => k_is)
    (case q_l_law_some => k_is)
    (case q_k_law_some => k_is)
    (case q_p_law_some => k_is)
    (case q_a_law_names => k_is)
    (case q_l_law_names => k_is)
    (case q_k_law_names => k_is)
    (case q_p_law_names => k_is)
    (case q_a_law_head_cases => k_is)
    (case q_l_law_head_cases => k_is)
    (case q_k_law_head_cases => k_is)
    (case q_p_law_head_cases => k_is)
    (case q_a_law_share_cases => k_is)
    (case q_l_law_share_cases => k_is)
    (case q_k_law_share_cases => k_is)
    (case q_p_law_share_cases => k_is)
    (case q_a_law_tree_cases => k_is)
    (case q_l_law_tree_cases => k_is)
    (case q_k_law_tree_cases => k_is)
    (case q_p_law_tree_cases => k_is)
    (case q_l_AskedError__init_ => k_is)
    (case q_k_AskedError__init_ => k_is)
    (case q_p_AskedError__init_ => k_is)
    (case q_a_read_number => k_is)
    (case q_l_read_number => k_is)
    (case q_k_read_number => k_is)
    (case q_p_read_number => k_is)
    (case q_a_is_integerX => k_is)
    (case q_l_is_integerX => k_is)
    (case q_k_is_integerX => k_is)
    (case q_p_is_integerX => k_is)
    (case q_a_is_unitsX => k_is)
    (case q_l_is_unitsX => k_is)
    (case q_k_is_unitsX => k_is)
    (case q_p_is_unitsX => k_is)
    (case q_a_read_units => k_is)
    (case q_l_read_units => k_is)
    (case q_k_read_units => k_is)
    (case q_p_read_units => k_is)
    (case q_a_is_name => k_is)
    (case q_l_is_name => k_is)
    (case q_k_is_name => k_is)
    (case q_p_is_name => k_is)
    (case q_a_is_asked => k_is)
    (case q_l_is_asked => k_is)
    (case q_k_is_asked => k_is)
    (case q_p_is_asked => k_is)
    (case q_a_read_share => k_is)
    (case q_l_read_share => k_is)
    (case q_k_read_share => k_is)
    (case q_p_read_share => k_is)
    (case q_a_read_part => k_is)
    (case q_l_read_part => k_is)
    (case q_k_read_part => k_is)
    (case q_p_read_part => k_is)
    (case q_a_ends_among => k_is)
    (case q_l_ends_among => k_is)
    (case q_k_ends_among => k_is)
    (case q_p_ends_among => k_is)
    (case q_a_way_up => k_is)
    (case q_l_way_up => k_is)
    (case q_k_way_up => k_is)
    (case q_p_way_up => k_is)
    (case q_a_is_too_much => k_is)
    (case q_l_is_too_much => k_is)
    (case q_k_is_too_much => k_is)
    (case q_p_is_too_much => k_is)
    (case q_a_read_parts => k_is)
    (case q_l_read_parts => k_is)
    (case q_k_read_parts => k_is)
    (case q_p_read_parts => k_is)
    (case q_a_read_page => k_is)
    (case q_l_read_page => k_is)
    (case q_k_read_page => k_is)
    (case q_p_read_page => k_is)
    (case q_l_Page__init_ => k_is)
    (case q_k_Page__init_ => k_is)
    (case q_p_Page__init_ => k_is)
    (case q_l_Page_text => k_is)
    (case q_k_Page_text => k_is)
    (case q_p_Page_text => k_is)
    (case q_a_law_told => k_is)
    (case q_l_law_told => k_is)
    (case q_k_law_told => k_is)
    (case q_p_law_told => k_is)
    (case q_a_law_is_told => k_is)
    (case q_l_law_is_told => k_is)
    (case q_k_law_is_told => k_is)
    (case q_p_law_is_told => k_is)
    (case q_a_law_right => k_is)
    (case q_l_law_right => k_is)
    (case q_k_law_right => k_is)
    (case q_p_law_right => k_is)
    (case q_a_law_pot => k_is)
    (case q_l_law_pot => k_is)
    (case q_k_law_pot => k_is)
    (case q_p_law_pot => k_is)
    (case q_a_law => k_is)
    (case q_l_law => k_is)
    (case q_k_law => k_is)
    (case q_p_law => k_is)
    (case q_z_range => k_is)
    (case q_z_max => k_is)
    (case q_z_min => k_is)
    (case q_z_len => k_is)
    (case q_z_list => k_is)
    (case q_z_int => k_is)
    (case q_z_str => k_is)
    (case q_z_isinstance => k_is)
    (case q_z_bool => k_is)
    (case q_z_tuple => k_is)
    (case q_z_dict => k_is)
    (case q_z_zip => k_is)
    (case q_z_enumerate => k_is)
    (case q_z_repr => k_is)
    (case q_z_all => k_is)
    (case q_z_abs => k_is)
    (case q_a_HOWS => k_is)
    (case q_l_HOWS => k_is)
    (case q_a_WORDS => k_is)
    (case q_l_WORDS => k_is)
    (case q_a_MOST_PARTS => k_is)
    (case q_a_MOST_ENDS => k_is)
    (case q_a_MOST_STEPS => k_is)
    (case q_a_MARKS => k_is)
    (case q_l_MARKS => k_is)
    (case q_l_MARK0 => k_is)
    (case q_l_MARK1 => k_is)
    (case q_l_MARK2 => k_is)
    (case q_l_MARK3 => k_is)
    (case q_tb_l => k_is)
    (case q_tbv => exact rfl)
    (case q_tbn => first | k_is | kernel_rfl)
    (case q_tbc => kernel_rfl)
    (case q_tb0 => exact T8 _ (by simp))
    (case q_rf_BP => decide +kernel)
    (case q_v_HOWS => exact ⟨by decide, .cons ⟨_, rfl⟩ (.cons ⟨_, rfl⟩ (.cons ⟨_, rfl⟩ (.cons ⟨_, rfl⟩ (.nil))))⟩)
    (case q_v_WORDS => exact ⟨by decide, .cons ⟨_, rfl⟩ (.cons ⟨_, rfl⟩ (.nil))⟩)
