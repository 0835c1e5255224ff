import PyProof.Rows.All
import Wide.All
import OpenK.AllK
import Wide.FinOn
import HandS.Base
import HandS.Call
import HandS.List
import HandS.Comp
import HandS.Ends
import HandS.EndBits
import HandS.Dict
import HandS.Iter
import HandS.Text
import HandS.Words
import HandS.WordsList
import HandS.WordsDict
import HandS.Wide
import HandS.WideBits
import HandS.RaiseMore
import HandS.IsInst
import HandS.Conv
import HandS.Style
import HandS.Zip
import PyProof.ReprRoads
import HandS.Steps
import HandS.ExcInit
import HandS.ExcField
import KE.KExcIs
import PyProof.EnumMake
import PyProof.Draws
import KE.KDictList
import KE.KDictZip
import KE.GoesZip
import KE.GoesMore
import HandS.Deep
import HandS.StrMore
import HandS.FStr
import HandS.Property
import HandS.Exc
import HandS.WordsExc
import HandS.Lambda
import HandS.ExcIs
import HandS.OwnEq
import PyProof.CallFns
import KE.KFmtOwn
import PyProof.InstEq
import KE.KOpsOwn
import HandS.TupAny
import HandS.TupLe
import HandS.Gcd
import HandS.Walk
import PySem.Challenge.RW_anyasked_k04_units_shares_and_counts_ref
set_option Elab.async false
set_option linter.all false
set_option maxRecDepth 100000
set_option maxHeartbeats 2000000
namespace Uq
open PySem PySem.Spec PyProof.Rows L2

/-! ### what a caller knows of a def -/
structure Cal (P : Program) (w : World) (K : PySem.W.Frag) (mg : Str → Option Value) (base : Heap) (k : Nat) (x : Str) (ps : List Str) (sp : Sp) where
  a : Addr
  d : FuncData
  G : FnOk P w K mg base CX0 k a d ps sp
  kp : PySem.W.keepIn K (.ref a) = true
  b : Binds K d ps []
  g : mg x = some (.ref a)

/-! ### heaps -/
/-- all that was tracked, but at p, is as it was -/
def But (p : Addr) (H H' : Hp) : Prop := ∀ b o, b ≠ p → H b = some o → H' b = some o
theorem But.refl (p : Addr) (H : Hp) : But p H H := fun _ _ _ h => h
theorem But.trans {p : Addr} {H H1 H2 : Hp} (a : But p H H1) (b : But p H1 H2) : But p H H2 := fun c o n h => b c o n (a c o n h)
theorem But.of {p : Addr} {H H' : Hp} (a : Same H H') : But p H H' := fun c o _ h => a c o h
theorem But.new {p q : Addr} {H H1 : Hp} {o : HO} (a : But p H H1) (h : H1 q = none) : But p H (upd H1 q o) := fun c u n e => by
  have e1 := a c u n e
  rw [upd_ne (ne_of_none e1 h)]
  exact e1
theorem But.put {p : Addr} {H H1 : Hp} {o : HO} (a : But p H H1) : But p H (upd H1 p o) := fun c u n e => by
  rw [upd_ne n]
  exact a c u n e
theorem But.seqL {K : PySem.W.Frag} {p a : Addr} {H H' : Hp} {xs : List V} (e : But p H H') (n : a ≠ p) (h : SqL K H a xs) : SqL K H' a xs := by
  rcases h with (h | ⟨o, h⟩) | h
  · exact .inl (.inl (e _ _ n h))
  · exact .inl (.inr ⟨o, e _ _ n h⟩)
  · exact .inr h
theorem But.seqT {K : PySem.W.Frag} {p a : Addr} {H H' : Hp} {xs : List V} (e : But p H H') (n : a ≠ p) (h : SqT K H a xs) : SqT K H' a xs := by
  rcases h with (h | ⟨o, h⟩) | h
  · exact .inl (.inl (e _ _ n h))
  · exact .inl (.inr ⟨o, e _ _ n h⟩)
  · exact .inr h
theorem sameU {H : Hp} {p : Addr} {o : HO} (h : H p = none) : Same H (upd H p o) := fun b x e => by
  rw [upd_ne (ne_of_none e h)]
  exact e
theorem Same.tup {K : PySem.W.Frag} {a : Addr} {H H' : Hp} {xs : List V} (e : Same H H') (h : SqT K H a xs) : SqT K H' a xs := by
  rcases h with (h | ⟨o, h⟩) | h
  · exact .inl (.inl (e _ _ h))
  · exact .inl (.inr ⟨o, e _ _ h⟩)
  · exact .inr h
theorem Same.lst {K : PySem.W.Frag} {a : Addr} {H H' : Hp} {xs : List V} (e : Same H H') (h : SqL K H a xs) : SqL K H' a xs := Same.seq e h

/-! ### great powers -/
def CPowW (i j : Int) : Prop := 0 ≤ j ∧ (Builtin.Int.intBits i : Int) * j ≤ 2 ^ 27
theorem op_powW {X : Cx} : OpR X (binaryOp .Pow) (rI CPowW fun i j => .int (i ^ j.toNat)) := opI fun _ _ _ _ _ _ _ hc q => PyProof.Rows.pow_int hc.1 hc.2 q
theorem powW_ok {i : Int} {j n : Nat} (h : i.natAbs < 2 ^ n) (hn : n * j ≤ 134217728) : CPowW i (j : Int) := by
  have b := PyProof.Rows.intBits_le h
  have e : (2 : Int) ^ 27 = 134217728 := by decide
  refine ⟨Int.natCast_nonneg _, ?_⟩
  rw [e]
  have c : Builtin.Int.intBits i * j ≤ n * j := Nat.mul_le_mul_right j b
  have d : ((Builtin.Int.intBits i * j : Nat) : Int) ≤ ((n * j : Nat) : Int) := Int.ofNat_le.mpr c
  rw [Int.natCast_mul] at d
  omega

/-! ### the drawing of numbers: a list of three ints at p -/
/-- own digits, a seed, how often it was drawn (at most c times) -/
def Pot (H : Hp) (p : Addr) (c : Nat) : Prop := ∃ o s n : Int, H p = some (.lst [.int o, .int s, .int n]) ∧ 0 ≤ o ∧ o < 10 ^ 300 ∧ 0 ≤ s ∧ s < 2305843009213693951 ∧ 0 ≤ n ∧ n ≤ c
theorem Pot.mono {H : Hp} {p : Addr} {c d : Nat} (h : Pot H p c) (e : c ≤ d) : Pot H p d := by
  obtain ⟨o, s, n, h0, h1, h2, h3, h4, h5, h6⟩ := h
  exact ⟨o, s, n, h0, h1, h2, h3, h4, h5, by omega⟩
theorem Pot.same {H H' : Hp} {p : Addr} {c : Nat} (e : Same H H') (h : Pot H p c) : Pot H' p c := by
  obtain ⟨o, s, n, h0, h1⟩ := h
  exact ⟨o, s, n, e _ _ h0, h1⟩
theorem Pot.new {H : Hp} {p q : Addr} {c : Nat} {o : HO} (h : Pot H p c) (hq : H q = none) : Pot (upd H q o) p c := h.same (sameU hq)
theorem Pot.some {H : Hp} {p : Addr} {c : Nat} (h : Pot H p c) : H p ≠ none := by
  obtain ⟨o, s, n, h0, _⟩ := h
  rw [h0]
  exact fun z => nomatch z
theorem Pot.upd {H : Hp} {p q : Addr} {c : Nat} {o : HO} (h : Pot H p c) (n : p ≠ q) : Pot (upd H q o) p c := by
  obtain ⟨o', s, k, h0, h1⟩ := h
  exact ⟨o', s, k, by rw [upd_ne n]; exact h0, h1⟩
/-- a new place is not p -/
theorem Pot.ne {H : Hp} {p q : Addr} {c : Nat} (h : Pot H p c) (hq : H q = none) : q ≠ p := fun z => h.some (z ▸ hq)
/-- a draw below u -/
def sp_law_take (K : PySem.W.Frag) : Sp := fun vs H Q _ => ∃ (p : Addr) (c : Nat) (u : Int), vs = [.ref p, .int u] ∧ Pot H p c ∧ c < 100000 ∧ 1 ≤ u ∧ u < 2 ^ 62 ∧
  ∀ H' d, But p H H' → Pot H' p (c + 1) → 0 ≤ d → d < u → Q (.int d) H'
/-- one of a list -/
def sp_law_of (K : PySem.W.Frag) : Sp := fun vs H Q _ => ∃ (p l : Addr) (c : Nat) (xs : List V), vs = [.ref p, .ref l] ∧ Pot H p c ∧ c < 100000 ∧ l ≠ p ∧ SqL K H l xs ∧ 0 < xs.length ∧ xs.length ≤ 100000 ∧
  ∀ H' (i : Nat) v, But p H H' → Pot H' p (c + 1) → xs[i]? = some v → Q v H'
/-- the places of the cells -/
def sp_law_cells (K : PySem.W.Frag) : Sp := fun vs H Q _ => ∃ (a : Addr) (ns : List Int) (m : Int), vs = [.ref a, .int m] ∧ SqL K H a (ns.map V.int) ∧ ns.length ≤ 63 ∧ 1 ≤ m ∧ m ≤ 63 ∧
  ∀ H' l (k : Nat), H l = none → Same H H' → H' l = some (.lst (rgV 0 (k : Int))) → 1 ≤ k → k ≤ 63 → Q (.ref l) H'
def sp_law_pot (K : PySem.W.Frag) : Sp := fun vs H Q _ => ∃ (a : Addr) (ns : List Int) (m : Int), vs = [.ref a, .int m] ∧ SqL K H a (ns.map V.int) ∧ ns.length ≤ 63 ∧ 0 ≤ m ∧ m ≤ 63 ∧
  ∀ H' p, H p = none → Same H H' → Pot H' p 0 → Q (.ref p) H'
/-- what is asked of a cell's turn -/
def sp_law_right (K : PySem.W.Frag) : Sp := fun vs H Q _ => ∃ p : Addr, vs = [.ref p] ∧ Pot H p 0 ∧ ∀ H', But p H H' → Q (.bl true) H'
def sp_law (K : PySem.W.Frag) : Sp := fun vs H Q _ => ∃ (a : Addr) (ns : List Int), vs = [.ref a] ∧ SqL K H a (ns.map V.int) ∧ ns.length ≤ 63 ∧ ∀ H', Q (.bl true) H'
end Uq
namespace Uq
open PySem PySem.Spec PyProof.Rows L2
/-- the cell at a place, or what stands for it -/
theorem rd_cell {K : PySem.W.Frag} {σ : L2.St} {H : Hp} {Q : VK} {a : Addr} {ns : List Int} {m c1 c2 : Int} (hl : SqL K H a (ns.map V.int)) (hm : 0 ≤ m) (hc : -(2 ^ 64) < c1 ∧ c1 < 2 ^ 64) (h0 : σ[0]? = some (some (.ref a))) (h1 : σ[1]? = some (some (.int m))) (q : ∀ z : Int, Q (.int z) H) :
    tIf (tTest (tOp (rI0 fun i j => .bl (decide (i < j))) (tVar 1) (tCB (fun xs H Q => ∃ p ys, xs = [.ref p] ∧ (SqL K H p ys ∨ SqT K H p ys) ∧ Q (.int ys.length) H) (tCons (tVar 0) tNil)))) (tOp (rIxL K) (tVar 0) (tVar 1))
      (tOp (rI0 fun i j => .int (i + j)) (tOp (rI CMul fun i j => .int (i * j)) (tC (.int c1)) (tVar 1)) (tC (.int c2))) σ H Q := by
  refine ⟨.int m, h1, .ref a, h0, a, _, rfl, .inl hl, m, _, rfl, rfl, _, rfl, ite2 (fun e => ?_) (fun e => ?_)⟩
  · have e1 : m < (ns.map V.int).length := of_decide_eq_true e
    have e2 : m.toNat < ns.length := by
      rw [List.length_map] at e1
      omega
    exact ⟨.ref a, h0, .int m, h1, a, _, m, .int ns[m.toNat], rfl, rfl, hl, at_of (j := m.toNat) (by omega) (by rw [List.getElem?_map, List.getElem?_eq_getElem e2]; rfl), q _⟩
  · exact ⟨.int m, h1, _, m, rfl, rfl, .inl hc, _, _, rfl, rfl, q _⟩
theorem big_pos : (0 : Int) < ((10 : Int) ^ (60 : Int).toNat) ^ (5 : Int).toNat := by decide +kernel
theorem big_eq : ((10 : Int) ^ (60 : Int).toNat) ^ (5 : Int).toNat = 10 ^ 300 := by decide +kernel
theorem bigA : CPowW ((10 : Int) ^ (60 : Int).toNat) 5 := powW_ok (j := 5) (n := 300) (by decide +kernel) (by decide)
theorem bigB : CPowW 10 60 := powW_ok (j := 60) (n := 8) (by decide) (by decide)
theorem bigC : CPowW 10 18 := powW_ok (j := 18) (n := 8) (by decide) (by decide)
end Uq
namespace Uq
open PySem PySem.Spec PyProof.Rows L2
theorem b01 (b : Bool) : -(2 ^ 64) < (if b = true then (1 : Int) else 0) ∧ (if b = true then (1 : Int) else 0) < 2 ^ 64 := by cases b <;> decide
theorem own_ok (z : Int) (b : Bool) : 0 ≤ z % ((10 : Int) ^ (60 : Int).toNat) ^ (5 : Int).toNat * (if b = true then 1 else 0) ∧ z % ((10 : Int) ^ (60 : Int).toNat) ^ (5 : Int).toNat * (if b = true then 1 else 0) < 10 ^ 300 := by
  have a0 := Int.emod_nonneg z (Int.ne_of_gt big_pos)
  have a1 := Int.emod_lt_of_pos z big_pos
  rw [big_eq] at a0 a1 ⊢
  cases b with
  | true =>
    rw [if_pos rfl, Int.mul_one]
    exact ⟨a0, a1⟩
  | false =>
    rw [if_neg Bool.false_ne_true, Int.mul_zero]
    exact ⟨by decide, by decide +kernel⟩
theorem sqL_same {K : PySem.W.Frag} {a : Addr} {H H' : Hp} {xs : List V} (e : Same H H') (h : SqL K H a xs) : SqL K H' a xs := Same.seq e h
theorem sqT_same {K : PySem.W.Frag} {a : Addr} {H H' : Hp} {xs : List V} (e : Same H H') (h : SqT K H a xs) : SqT K H' a xs := Uq.Same.tup e h
end Uq
namespace Uq
open PySem PySem.Spec PyProof.Rows L2
theorem iteY {c A B : Prop} [Decidable c] (h : c) (x : A) : if c then A else B := by
  rw [if_pos h]
  exact x
theorem iteN {c A B : Prop} [Decidable c] (h : ¬ c) (x : B) : if c then A else B := by
  rw [if_neg h]
  exact x
/-- a test whose answer is known -/
theorem iteDY {c A B : Prop} [Decidable c] (h : c) (x : A) : if decide c = true then A else B := iteY (decide_eq_true h) x
theorem iteDN {c A B : Prop} [Decidable c] (h : ¬ c) (x : B) : if decide c = true then A else B := iteN (fun z => h (of_decide_eq_true z)) x
end Uq

namespace Uq
open PySem PySem.Spec PyProof.Rows L2

/-! ### defs that are called where no text of an object is under way -/
structure FnG (P : Program) (w : World) (K : PySem.W.Frag) (mg : Str → Option Value) (base : Heap) (k : Nat) (f : Addr) (fd : FuncData) (ps : List Str) (sp : Sp) : Prop where
  len : ∀ vs H Q E, sp vs H Q E → vs.length = ps.length
  run : ∀ (A : Around) (outer : List Env) (s : Shared) (H : Hp) (args : Args) (us : List Value) (vs : List V) (Q : VK) (E : XK),
    A.guards = some [] → Room k A → Env0 P w K mg base A outer s H → BindsTo s fd args (ps.zip us) → Vals vs us → sp vs H Q E →
    codeAny (model P w) A (.call (.ref f) args) (CR CX0 outer P w H s Q E) s

structure CalG (P : Program) (w : World) (K : PySem.W.Frag) (mg : Str → Option Value) (base : Heap) (k : Nat) (x : Str) (ps : List Str) (sp : Sp) where
  a : Addr
  d : FuncData
  G : FnG P w K mg base k a d ps sp
  kp : PySem.W.keepIn K (.ref a) = true
  b : Binds K d ps []
  g : mg x = some (.ref a)

section
variable {P : Program} {w : World} {K : PySem.W.Frag} {mg : Str → Option Value} {base : Heap}
theorem Fun_okG {x qual : Str} {st : Stmt} {f : Addr} {fd : FuncData} {N ps : List Str} {k : Nat} {sp : Sp} (F : Fun K x qual st f fd) (S : FnScope N ps (defScope st))
    (len : ∀ vs H Q E, sp vs H Q E → vs.length = ps.length)
    (hbody : ∀ (cdv : Value) (A : Around) (outer : List Env) (s : Shared) (H : Hp) (vs : List V) (Q : VK) (E : XK), A.guards = some [] →
      Room k (A.deeper (envOfC qual (defScope st) s.heap.objs.size f cdv)) → sp vs H Q E →
      ∃ t, PSs (cxOf CX0 P w K mg base N qual (defScope st) f cdv A outer s H E).nox (defBody st) t ∧ t { nx := fun _ H' => Q .non H', rt := Q } (start N vs) H) :
    FnG P w K mg base (k + 1) f fd ps sp := by
  obtain ⟨oc, od, kV, doc, pm, an, cdv, ct, osl, rfl, lk, hcd⟩ := F.ex
  constructor
  · exact len
  intro A outer s H args us vs Q E hg hr e0 hb r hsp
  have hkeep : ∀ b o, base.get? b = some o → s.heap.get? b = some o := fun b o e => (e0.bs b o e).1
  have KX : K.In s.heap := e0.mod.kin.keeps hkeep
  have hpar : ∀ y ∈ ps.zip us, (defScope st).names.lookup y.1 = some .local ∨ ((defScope st).names.lookup y.1 = some .cell ∧ ((cellsFrom (s.heap.objs.size + 1) (defScope st).names []).lookup y.1).isSome = true) := by
    intro y hy
    have hm : y.1 ∈ ps := (List.of_mem_zip (show (y.1, y.2) ∈ ps.zip us from hy)).1
    cases S.par y.1 hm with
    | inl q => exact Or.inl q
    | inr q => exact Or.inr ⟨q, PySem.W.cellsFrom_some _ _ _ (Or.inl q)⟩
  apply codeAny_call_function hr.depth (KX _ _ lk) rfl S.co S.gen rfl (PySem.W.codeRec_of KX hcd)
  apply hb
  apply wpAny_newFunctionEnv_cells S.kind hpar
  rintro env rfl s1 x
  refine ⟨(e0.mod.nolimit.keeps hkeep).keeps x.toInCall.keep, codeAny_func ?_⟩
  obtain ⟨t, ht, hq⟩ := hbody cdv A outer s H vs Q E hg (hr.deeper _) hsp
  have J0 := inv_start (CX := CX0) (E := E) S hr.hd e0 (len _ _ _ _ hsp) r x
  have run := ht.nox.run [] s1 (start N vs) H _ J0 hq
  refine wpAny_mono run (fun fl s' hs => ?_) (fun _ _ hs => hs)
  cases fl with
  | ret u =>
    obtain ⟨v, σ', H', J, rv, q⟩ := hs
    exact ⟨v, H', J.os, J.bare, J.base, J.hok, rv, q⟩
  | next =>
    obtain ⟨σ', H', J, q⟩ := hs
    exact ⟨.non, H', J.os, J.bare, J.base, J.hok, rfl, q⟩
  | brk => exact hs.elim (fun _ h => h.elim fun _ h => h.2.elim)
  | cont => exact hs.elim (fun _ h => h.elim fun _ h => h.2.elim)
end

section
variable {X : Cx} {k : Nat} {f : Addr} {fd : FuncData} {ps : List Str} {sp : Sp} {x : Str} {p pos : Pos} {e : Expr} {es : List Expr} {t : TA}
theorem pe_callG (F : FnG X.prog X.w X.K X.mg X.base k f fd ps sp) (hgd : X.A.guards = some []) (hr : Room k X.A) (hg : Gl X x) (hm : X.mg x = some (.ref f)) (hk : PySem.W.keepIn X.K (.ref f) = true) (hb : Binds X.K fd ps [])
    (ha : PA X (e :: es) t) (hdb : (x == ("__debug__" : Str)) = false := by decide) (he : starEach (e :: es) X.env = (false, eval e X.env) :: starEach es X.env := by rfl) (hpl : (backTo pos (starEach es X.env)).any (·.1) = false := by rfl) :
    PE X (.Call (.Name x p) (e :: es) [] pos) (tCall sp [] E0 t) := by
  constructor
  intro pins s σ H Q I h
  apply wpAny_Call_Name_kw
  refine ld_glob I hg hm ?_ hdb
  have args := thn (ha.run pos pins s σ H _ I h) (Q' := fun us s1 => X.K.In s1.heap ∧ wpAny (model X.prog X.w) X.A (call (.ref f) us) (EP X pins σ Q) X.xe s1) ?_
  · exact PySem.W.callWith_K (h₀ := X.base) I.ok.mod.kin hk args he hpl
  rintro us s1 ⟨vs, H1, I1, r, q⟩
  refine ⟨I1.kIn, ?_⟩
  have q0 : sp vs H1 Q E0 := by
    have z := q
    rw [List.append_nil] at z
    exact z
  have hl : (us ++ ([] : List Value)).length = ps.length := by
    rw [List.append_nil, ← r.length]
    exact F.len _ _ _ _ q0
  have bd := hb s1 us I1.kIn hl
  rw [List.append_nil] at bd
  have code := F.run X.A X.stack s1 H1 ⟨us, []⟩ us vs Q E0 hgd hr I1.env0 bd r q0
  refine wpAny_call (codeAny_mono code ?_)
  intro res s' hq
  cases res with
  | error e => exact False.elim hq
  | ok fl =>
    cases fl with
    | ret u => exact I1.after hq
    | next => exact False.elim hq
    | brk => exact False.elim hq
    | cont => exact False.elim hq
end
end Uq

namespace Uq
open PySem PySem.Spec PyProof.Rows L2

section
variable {P : Program} {w : World} {K : PySem.W.Frag} {mg mb : Str → Option Value} {k : Nat} {fa a : Addr} {fd : FuncData} {x : Str} {sp : Sp} {s₁ : Shared} {vs : List Value} {ns : List Int}
/-- the law's call from a heap of which at most the script is tracked -/
theorem core_callG (KX : K.In s₁.heap) (hns : s₁.heap.Ns mainGlobals mg) (hb : s₁.heap.Ns builtinsNs mb) (hbb : ∀ x : Str, x ≠ "__name__" → mb x = bootBuiltins x) (hlim : s₁.heap.NoLimit) (hg : s₁.gens = #[])
    (ha : s₁.heap.get? a = some { cls := .type "list", data := .seq vs.toArray }) (hr : Room k callerA)
    (F : ∀ base : Heap, K.In base → base.Ns mainGlobals mg → FnG P w K mg base k fa fd [x] sp) (hbind : ∀ (s : Shared) (u : Value), BindsTo s fd ⟨[u], []⟩ [(x, u)])
    (H : Hp) (hO : Only H) (hok : HOk P w H s₁.heap) (hA : ∀ b, H b ≠ none → b = a) (hK : H a ≠ none → K.lookup a = none) (hsp : sp [.ref a] H (fun v _ => v = .bl true) (fun _ _ _ => False)) :
    codeAny (model P w) callerA (.call (.ref fa) ⟨[.ref a], []⟩) (fun r s' => r = .ok (.ret (.bool true)) ∧ OldK s₁.heap s'.heap ∧ s'.os = s₁.os ∧ AllBare s'.gens) s₁ := by
  have noA : ∀ {b : Addr} {o : Obj} {es : Array DictEntry} {ep : Nat}, s₁.heap.get? b = some o → o.data = .dict es ep → H b = none := by
    intro b o es ep e d
    by_cases q : H b = none
    · exact q
    · have eb := hA b q
      subst eb
      rw [ha] at e
      cases e
      exact nomatch (show Data.seq vs.toArray _ = Data.dict es ep from d)
  have nsH : ∀ {b : Addr} {m : Str → Option Value}, s₁.heap.Ns b m → (hidT s₁.heap H).Ns b m := by
    rintro b m ⟨o, es, ep, e, d, r⟩
    exact ⟨o, es, ep, hidT_get e (noA e d), d, r⟩
  have KH : K.In (hidT s₁.heap H) := by
    intro b o e
    refine hidT_get (KX b o e) ?_
    by_cases q : H b = none
    · exact q
    · have eb := hA b q
      subst eb
      rw [hK q] at e
      cases e
  obtain ⟨mc, l1, l2⟩ := hlim
  have e0 : Env0 P w K mg (hidT s₁.heap H) callerA [] s₁ H := by
    refine { frames := rfl, mod := ⟨KH, nsH hns, ⟨mb, nsH hb, hbb⟩, ⟨mc, nsH l1, l2⟩⟩, bs := fun b o e => of_hidT e, bsz := Nat.le_of_eq (hidT_size _ _), funs := trivial, frf := ?_, hok := hok, bare := .of_eq hg }
    intro b z
    exact nomatch (show b ∈ ([] : List Addr) from z)
  have go := (F _ KH (nsH hns)).run callerA [] s₁ H ⟨[.ref a], []⟩ [.ref a] [.ref a] _ _ rfl hr e0 (hbind s₁ (.ref a)) (.cons rfl .nil) hsp
  refine codeAny_mono go ?_
  intro r s' h
  cases r with
  | error e => exact False.elim h
  | ok fl =>
    cases fl with
    | next => exact False.elim h
    | brk => exact False.elim h
    | cont => exact False.elim h
    | ret u =>
      obtain ⟨v, H', os, bare, un, hok', rv, q⟩ := h
      have ev : v = .bl true := q
      subst ev
      have eu : u = Value.bool true := rv
      subst eu
      refine ⟨rfl, OldK.of_keep ?_, os, bare⟩
      intro b o e
      rcases hO b with z | ⟨ob, xs, z⟩
      · exact un.keep b o e z (fun y => nomatch (show b ∈ ([] : List Addr) from y)) (fun y => nomatch (show b ∈ ([] : List Addr) from y))
      · obtain ⟨y1, _⟩ := hok b _ z
        obtain ⟨y2, _⟩ := hok' b _ (un.frzs b ob _ z)
        rw [e] at y1
        cases y1
        exact y2
end

theorem walk_ofG {l : PySem.W.OpenLaw} {n k : Nat} {q : Program} {loose : List Str} {XP : (Str → Option Value) → Heap → Prop} {YP : World → Heap → Prop} {d : DefRec} {K : Params → PySem.W.Frag} {sp : World → Sp} {x : Str}
    (hn : l.most = some n) (hn2 : n ≤ sizeLine) (hdf : d.params.defaults = []) (hr : Room k callerA)
    (hY : ∀ (w : World) (h : Heap), YP w h → (K w.params).In h)
    (F : ∀ (w : World) (mg : Str → Option Value) (fa : Addr) (h : Heap), (K w.params).In h → h.Ns mainGlobals mg → mg d.name = some (.ref fa) →
      ∃ fd : FuncData, (∀ (s : Shared) (u : Value), BindsTo s fd ⟨[u], []⟩ [(x, u)]) ∧ ∀ base : Heap, (K w.params).In base → base.Ns mainGlobals mg → FnG l.prog w (K w.params) mg base k fa fd [x] (sp w))
    (hsp : ∀ (w : World) (H : Hp) (a : Addr) (ns : List Int), ns.length ≤ n → SqL (K w.params) H a (ns.map V.int) → sp w [.ref a] H (fun v _ => v = .bl true) (fun _ _ _ => False)) :
    PySem.W.WalkO q loose XP YP l.row.toRowW d [] (fun f vs => PySem.call f vs) := by
  apply Att.attach_call hn hdf
  intro w s₀ s₁ mg mb fa o pm cd doc a vs ns G Y ho hd hcd hmg ha hi hlen hg
  have KX := hY w _ Y
  obtain ⟨fd, hb, hF⟩ := F w mg fa _ KX G.T.g hmg
  have rv := vals_ints hi
  have len := hi.length
  have hl : ns.length ≤ sizeLine := Nat.le_trans hlen hn2
  by_cases hk : K w.params |>.lookup a |>.isSome
  · obtain ⟨ob, hob⟩ := Option.isSome_iff_exists.mp hk
    have e := KX a ob hob
    rw [ha] at e
    cases e
    refine core_callG (H := fun _ => none) KX G.T.g G.T.b G.T.builtins G.T.nolimit hg ha hr hF hb (fun _ => .inl rfl) (fun b u z => nomatch (show (none : Option HO) = some u from z)) (fun b z => absurd rfl z) (fun z => absurd rfl z) ?_
    refine hsp w _ a ns hlen (.inr ⟨_, vs.toArray, _, hob, rfl, rfl, rfl, ?_, ?_⟩)
    · rw [List.size_toArray, len]
      exact hl
    · exact rv
  · have hk' : (K w.params).lookup a = none := Option.not_isSome_iff_eq_none.mp hk
    let H0 : Hp := fun b => if b = a then some (.frz { cls := .type "list", data := .seq vs.toArray } (.lst (ns.map V.int))) else none
    have h0 : H0 a = some (.frz { cls := .type "list", data := .seq vs.toArray } (.lst (ns.map V.int))) := if_pos rfl
    have h1 : ∀ b, b ≠ a → H0 b = none := fun b z => if_neg z
    refine core_callG (H := H0) KX G.T.g G.T.b G.T.builtins G.T.nolimit hg ha hr hF hb ?_ ?_ ?_ (fun _ => hk') ?_
    · intro b
      by_cases z : b = a
      · subst z
        exact .inr ⟨_, _, h0⟩
      · exact .inl (h1 b z)
    · intro b u e
      by_cases z : b = a
      · subst z
        rw [h0] at e
        cases e
        exact ⟨ha, by rw [List.length_map]; exact hl, vs, _, rv, ha⟩
      · rw [h1 b z] at e
        cases e
    · intro b z
      by_cases y : b = a
      · exact y
      · exact absurd (h1 b y) z
    · exact hsp w _ a ns hlen (.inl (.inr ⟨_, h0⟩))

/-! ### the text of data -/
theorem dp_same {K : PySem.W.Frag} {H H' : Hp} (e : Same H H') : ∀ (d : PyData) (v : V), Dp K H v d → Dp K H' v d
  | .none, _, h => by cases h; exact .non
  | .bool _, _, h => by cases h; exact .bl _
  | .int _, _, h => by cases h; exact .int _
  | .str _, _, h => by cases h; exact .str _
  | .list ds, _, h => by
    cases h with
    | lst h1 h2 => exact .lst (sqL_same e h1) (all ds _ h2)
  | .tuple ds, _, h => by
    cases h with
    | tup h1 h2 => exact .tup (sqT_same e h1) (all ds _ h2)
  | .dict _, _, h => nomatch h
where all : ∀ (ds : List PyData) (vs : List V), DpAll K H vs ds → DpAll K H' vs ds
  | [], _, h => by cases h; exact .nil
  | d :: ds, _, h => by
    cases h with
    | cons h1 h2 => exact .cons (dp_same e d _ h1) (all ds _ h2)
/-- repr(x), x data of any depth -/
def rRepr (K : PySem.W.Frag) : List V → Hp → VK → Prop := fun xs H Q => ∃ (x : V) (d : PyData), xs = [x] ∧ Dp K H x d ∧ d.showable = true ∧ d.hasDict = false ∧ d.depth ≤ 60 ∧ d.shown.length ≤ sizeLine ∧ Q (.str d.shown) H
theorem call_repr_data {X : Cx} (hg : X.A.guards = some []) (hu : X.A.units + 100 < cLine) : CallR X (.builtin "repr") (rRepr X.K) := by
  intro pins s σ H xs us Q I r h
  obtain ⟨x, d, rfl, dp, hs, hd, hdep, hz, q⟩ := h
  obtain ⟨u, rfl, ru⟩ := vals1 r
  obtain ⟨as, rd⟩ := Dp.reads I d x u dp ru
  cases d with
  | none =>
    cases dp
    cases ru
    exact PySem.P.repr_of_none ⟨.str _, H, I.tok _, ⟨_, rfl⟩, q⟩
  | bool b =>
    cases dp
    cases ru
    exact PySem.P.repr_of_bool ⟨.str _, H, I.tok _, ⟨_, rfl⟩, q⟩
  | int i =>
    cases dp
    obtain ⟨t, rfl⟩ := ru
    exact PySem.P.repr_of_int (of_decide_eq_true hs) ⟨.str _, H, I.tok _, ⟨_, rfl⟩, q⟩
  | str y =>
    cases dp
    obtain ⟨t, rfl⟩ := ru
    exact PySem.P.repr_of_str ⟨.str _, H, I.tok _, ⟨_, rfl⟩, q⟩ hz
  | list ds =>
    cases dp with
    | @lst a _ _ h1 h2 =>
      cases ru
      exact repr_of_reads' rd hs (PyData.noDict_hsm hd) hg (by omega) (fun _ _ e => e) (fun h' u tk hk => ⟨.str _, H, I.kept (h' := h') (t' := tk) hk, ⟨_, rfl⟩, q⟩) hz
  | tuple ds =>
    cases dp with
    | @tup a _ _ h1 h2 =>
      cases ru
      exact repr_of_reads' rd hs (PyData.noDict_hsm hd) hg (by omega) (fun _ _ e => e) (fun h' u tk hk => ⟨.str _, H, I.kept (h' := h') (t' := tk) hk, ⟨_, rfl⟩, q⟩) hz
  | dict kvs => cases dp
end Uq
namespace Uq
open PySem PySem.Spec PyProof.Rows L2
theorem ru {k : Nat} {A : Around} (hr : Room k A) : A.units + 100 < cLine := by
  have := hr.un
  omega
end Uq

namespace Uq
open PySem PySem.Spec PyProof.Rows L2
section
variable {σ : L2.St} {H : Hp} {ta tb tc te : TE} {c d : Bool} {x y z : V} {i j n : Int} {K : PySem.W.Frag}
theorem val_orV (ha : Val ta σ H (.bl c)) (hb : c = false → Val tb σ H (.bl d)) : Val (tOrV ta tb) σ H (.bl (c || d)) := fun Q q => ha _ ⟨c, rfl, by
  cases c with
  | true => exact iteT q
  | false => exact iteF (hb rfl _ q)⟩
theorem val_andV (ha : Val ta σ H (.bl c)) (hb : c = true → Val tb σ H (.bl d)) : Val (tAndV ta tb) σ H (.bl (c && d)) := fun Q q => ha _ ⟨c, rfl, by
  cases c with
  | true => exact iteT (hb rfl _ q)
  | false => exact iteF q⟩
theorem val_notV (ha : Val ta σ H (.bl c)) : Val (tNotV ta) σ H (.bl (!c)) := fun Q q => ha _ ⟨c, rfl, q⟩
theorem val_I0 {g : Int → Int → V} (ha : Val ta σ H (.int i)) (hb : Val tb σ H (.int j)) : Val (tOp (rI0 g) ta tb) σ H (g i j) := fun Q q => ha _ (hb _ ⟨i, j, rfl, rfl, q⟩)
theorem val_I {C : Int → Int → Prop} {g : Int → Int → V} (hc : C i j) (ha : Val ta σ H (.int i)) (hb : Val tb σ H (.int j)) : Val (tOp (rI C g) ta tb) σ H (g i j) := fun Q q => ha _ (hb _ ⟨i, j, rfl, rfl, hc, q⟩)
theorem dec_ii : decide (V.int i = V.int j) = decide (i = j) := by
  rw [decide_eq_decide]
  exact ⟨fun z => V.int.inj z, fun z => by rw [z]⟩
theorem dec_ss {a b : Str} : decide (V.str a = V.str b) = decide (a = b) := by
  rw [decide_eq_decide]
  exact ⟨fun z => V.str.inj z, fun z => by rw [z]⟩
theorem val_eqI (ha : Val ta σ H (.int i)) (hb : Val tb σ H (.int j)) : Val (tOp rEq ta tb) σ H (.bl (decide (i = j))) := fun Q q => ha _ (hb _ ⟨rfl, by rw [dec_ii]; exact q⟩)
theorem val_eqS {a b : Str} (ha : Val ta σ H (.str a)) (hb : Val tb σ H (.str b)) : Val (tOp rEq ta tb) σ H (.bl (decide (a = b))) := fun Q q => ha _ (hb _ ⟨rfl, by rw [dec_ss]; exact q⟩)
theorem val_eqV (ha : Val ta σ H x) (hb : Val tb σ H y) (hs : scal x y = true) : Val (tOp rEq ta tb) σ H (.bl (decide (x = y))) := fun Q q => ha _ (hb _ ⟨hs, q⟩)
theorem val_neV (ha : Val ta σ H x) (hb : Val tb σ H y) (hs : scal x y = true) : Val (tOp rNe ta tb) σ H (.bl (!decide (x = y))) := fun Q q => ha _ (hb _ ⟨hs, q⟩)
theorem val_ixL {p : Addr} {xs : List V} (ha : Val ta σ H (.ref p)) (hb : Val tb σ H (.int i)) (h : SqL K H p xs) (hi : atI xs i = some z) : Val (tOp (rIxL K) ta tb) σ H z := fun Q q => ha _ (hb _ ⟨p, xs, i, z, rfl, rfl, h, hi, q⟩)
theorem val_ixT {p : Addr} {xs : List V} (ha : Val ta σ H (.ref p)) (hb : Val tb σ H (.int i)) (h : SqT K H p xs) (hi : atI xs i = some z) : Val (tOp (rIxT K) ta tb) σ H z := fun Q q => ha _ (hb _ ⟨p, xs, i, z, rfl, rfl, h, hi, q⟩)
theorem val_chain {g g' : Int → Int → Bool} (ha : Val ta σ H (.int i)) (hb : Val tb σ H (.int j)) (hc : g i j = true → Val tc σ H (.int n)) :
    Val (tChain (rI0 fun i j => .bl (g i j)) (rI0 fun i j => .bl (g' i j)) ta tb tc) σ H (.bl (g i j && g' j n)) := fun Q q => ha _ (hb _ ⟨i, j, rfl, rfl, g i j, rfl, by
  cases e : g i j with
  | true =>
    rw [e] at q
    exact iteT (hc e _ ⟨j, n, rfl, rfl, q⟩)
  | false =>
    rw [e] at q
    exact iteF q⟩)
theorem val_if {tt : TT} (h : Ans tt σ H c) (h1 : c = true → Val ta σ H x) (h2 : c = false → Val tb σ H x) : Val (tIf tt ta tb) σ H x := fun Q q => h _ (by
  cases c with
  | true => exact iteT (h1 rfl _ q)
  | false => exact iteF (h2 rfl _ q))
theorem ans_val2 (h : Val te σ H (.bl c)) : Ans (tTest te) σ H c := fun Q q => h _ ⟨c, rfl, q⟩
theorem val_to (h : Val te σ H x) (e : x = y) : Val te σ H y := e ▸ h
end
end Uq

namespace Uq
open PySem PySem.Spec PyProof.Rows L2
def keyD : Key → PyData
  | .inl i => .int i
  | .inr x => .str x
mutual
/-- data of any depth, dicts with int and text keys among it; its lists and dicts are tracked -/
inductive Dx (K : PySem.W.Frag) (H : Hp) : V → PyData → Prop
  | non : Dx K H .non .none
  | bl (b : Bool) : Dx K H (.bl b) (.bool b)
  | int (i : Int) : Dx K H (.int i) (.int i)
  | str (x : Str) : Dx K H (.str x) (.str x)
  | lst {a : Addr} {xs : List V} {ds : List PyData} : H a = some (.lst xs) → a ≠ sysModules → DxAll K H xs ds → Dx K H (.ref a) (.list ds)
  | tup {a : Addr} {xs : List V} {ds : List PyData} : SqT K H a xs → DxAll K H xs ds → Dx K H (.ref a) (.tuple ds)
  | dct {a : Addr} {kvs : List (Key × V)} {es : List (PyData × PyData)} : H a = some (.dK kvs) → es.map (·.1) = kvs.map (fun kv => keyD kv.1) → DxAll K H (kvs.map (·.2)) (es.map (·.2)) → Dx K H (.ref a) (.dict es)
inductive DxAll (K : PySem.W.Frag) (H : Hp) : List V → List PyData → Prop
  | nil : DxAll K H [] []
  | cons {v : V} {vs : List V} {d : PyData} {ds : List PyData} : Dx K H v d → DxAll K H vs ds → DxAll K H (v :: vs) (d :: ds)
end
theorem keys_reads {P : Program} {w : World} {h : Heap} : ∀ {es : List DictEntry} {vs : List (Key × Value)} {kvs : List (Key × V)}, Pairs (mixKind P w) es vs → KV kvs vs → ReadsAll h (es.map (·.key)) (kvs.map fun kv => keyD kv.1) [] := by
  intro es vs kvs hp
  induction hp generalizing kvs with
  | nil =>
    intro r
    cases r
    exact .nil
  | @cons e kv es vs hk hv hp ih =>
    intro r
    cases r with
    | @cons a b l1 l2 r1 r2 =>
      have q : Reads h e.key (keyD a.1) [] := by
        rw [r1.1]
        rcases keyIs_shape hk with ⟨i, t, e1, e2⟩ | ⟨x, t, e1, e2⟩
        · rw [e1, e2]
          exact .int i t
        · rw [e1, e2]
          exact .str x t
      exact ReadsAll.cons (as := []) (bs := []) q (ih r2)
theorem vals_pairs {P : Program} {w : World} : ∀ {es : List DictEntry} {vs : List (Key × Value)} {kvs : List (Key × V)}, Pairs (mixKind P w) es vs → KV kvs vs → Vals (kvs.map (·.2)) (es.map (·.val)) := by
  intro es vs kvs hp
  induction hp generalizing kvs with
  | nil =>
    intro r
    cases r
    exact .nil
  | @cons e kv es vs hk hv hp ih =>
    intro r
    cases r with
    | @cons a b l1 l2 r1 r2 =>
      have q : RelV a.2 e.val := by
        rw [hv]
        exact r1.2
      exact .cons q (ih r2)
section
variable {X : Cx} {pins : List (Addr × Obj)} {σ : L2.St} {H : Hp} {s : Shared}
mutual
theorem Dx.reads (I : Inv X pins σ H s) : ∀ {d : PyData} {v : V} (h : Dx X.K H v d) {u : Value}, RelV v u → ∃ as, Reads s.heap u d as ∧ sysModules ∉ as
  | _, _, .non, _, r => by
    cases r
    exact ⟨[], Reads.none, fun z => nomatch z⟩
  | _, _, .bl b, _, r => by
    cases r
    exact ⟨[], Reads.bool b, fun z => nomatch z⟩
  | _, _, .int i, _, r => by
    obtain ⟨t, rfl⟩ := r
    exact ⟨[], Reads.int i t, fun z => nomatch z⟩
  | _, _, .str x, _, r => by
    obtain ⟨t, rfl⟩ := r
    exact ⟨[], Reads.str x t, fun z => nomatch z⟩
  | _, _, .lst e ns ha, _, r => by
    cases r
    obtain ⟨its, rv, ⟨o, n, ho, hc, _, hd⟩, _⟩ := I.list (SqL.of e)
    obtain ⟨as, hr, hn⟩ := DxAll.reads I ha rv
    exact ⟨_, Reads.list ho hc hd hr, fun z => (List.mem_cons.mp z).elim (fun y => ns y.symm) hn⟩
  | _, _, .tup e ha, _, r => by
    cases r
    obtain ⟨its, rv, ⟨o, ho, hc, n, hd⟩, _⟩ := I.tuple e
    obtain ⟨as, hr, hn⟩ := DxAll.reads I ha rv
    exact ⟨_, Reads.tuple ho hc hd hr, hn⟩
  | _, _, .dct e he ha, _, r => by
    cases r
    obtain ⟨_, hsys, vs, kv, o, es, ep, ho, hx, hd, _, hp, _⟩ := (show ObjOk X.prog X.w H s.heap _ (.dK _) from I.hok _ _ e)
    obtain ⟨bs, hr, hn⟩ := DxAll.reads I ha (vals_pairs hp kv)
    have k := keys_reads (h := s.heap) hp kv
    rw [← he] at k
    refine ⟨_, Reads.dict ho hx.1 hd k hr, fun z => ?_⟩
    rcases List.mem_cons.mp z with y | y
    · rw [← y] at hsys
      simp at hsys
    · exact hn y
theorem DxAll.reads (I : Inv X pins σ H s) : ∀ {ds : List PyData} {vs : List V} (h : DxAll X.K H vs ds) {us : List Value}, Vals vs us → ∃ as, ReadsAll s.heap us ds as ∧ sysModules ∉ as
  | _, _, .nil, _, r => by
    cases r
    exact ⟨_, ReadsAll.nil, fun z => nomatch z⟩
  | _, _, .cons h1 h2, _, r => by
    cases r with
    | cons r1 r2 =>
      obtain ⟨as, q1, n1⟩ := Dx.reads I h1 r1
      obtain ⟨bs, q2, n2⟩ := DxAll.reads I h2 r2
      exact ⟨_, ReadsAll.cons q1 q2, fun z => (List.mem_append.mp z).elim n1 n2⟩
end
end
/-! what is tracked stays -/
mutual
theorem Dx.same {K : PySem.W.Frag} {H H' : Hp} (e : Same H H') : ∀ {d : PyData} {v : V}, Dx K H v d → Dx K H' v d
  | _, _, .non => .non
  | _, _, .bl b => .bl b
  | _, _, .int i => .int i
  | _, _, .str x => .str x
  | _, _, .lst h ns ha => .lst (e _ _ h) ns (DxAll.same e ha)
  | _, _, .tup h ha => .tup (sqT_same e h) (DxAll.same e ha)
  | _, _, .dct h he ha => .dct (e _ _ h) he (DxAll.same e ha)
theorem DxAll.same {K : PySem.W.Frag} {H H' : Hp} (e : Same H H') : ∀ {ds : List PyData} {vs : List V}, DxAll K H vs ds → DxAll K H' vs ds
  | _, _, .nil => .nil
  | _, _, .cons h1 h2 => .cons (Dx.same e h1) (DxAll.same e h2)
end
/-- data that is short enough to be written -/
def Shows (d : PyData) : Prop := d.showable = true ∧ d.depth ≤ 60 ∧ d.shown.length ≤ sizeLine
def rReprX (K : PySem.W.Frag) : List V → Hp → VK → Prop := fun xs H Q => ∃ (x : V) (d : PyData), xs = [x] ∧ Dx K H x d ∧ Shows d ∧ Q (.str d.shown) H
theorem call_reprX {X : Cx} (hg : X.A.guards = some []) (hu : X.A.units + 100 < cLine) : CallR X (.builtin "repr") (rReprX X.K) := by
  intro pins s σ H xs us Q I r h
  obtain ⟨x, d, rfl, dp, ⟨hs, hdep, hz⟩, q⟩ := h
  obtain ⟨u, rfl, ru⟩ := vals1 r
  obtain ⟨as, rd, hsm⟩ := Dx.reads I dp ru
  cases dp with
  | non =>
    cases ru
    exact PySem.P.repr_of_none ⟨.str _, H, I.tok _, ⟨_, rfl⟩, q⟩
  | bl b =>
    cases ru
    exact PySem.P.repr_of_bool ⟨.str _, H, I.tok _, ⟨_, rfl⟩, q⟩
  | int i =>
    obtain ⟨t, rfl⟩ := ru
    exact PySem.P.repr_of_int (of_decide_eq_true hs) ⟨.str _, H, I.tok _, ⟨_, rfl⟩, q⟩
  | str y =>
    obtain ⟨t, rfl⟩ := ru
    exact PySem.P.repr_of_str ⟨.str _, H, I.tok _, ⟨_, rfl⟩, q⟩ hz
  | lst =>
    cases ru
    exact repr_of_reads' rd hs (fun _ => hsm) hg (by omega) (fun _ _ e => e) (fun h' u tk hk => ⟨.str _, H, I.kept (h' := h') (t' := tk) hk, ⟨_, rfl⟩, q⟩) hz
  | tup =>
    cases ru
    exact repr_of_reads' rd hs (fun _ => hsm) hg (by omega) (fun _ _ e => e) (fun h' u tk hk => ⟨.str _, H, I.kept (h' := h') (t' := tk) hk, ⟨_, rfl⟩, q⟩) hz
  | dct =>
    cases ru
    exact repr_of_reads' rd hs (fun _ => hsm) hg (by omega) (fun _ _ e => e) (fun h' u tk hk => ⟨.str _, H, I.kept (h' := h') (t' := tk) hk, ⟨_, rfl⟩, q⟩) hz
/-! ### a list's place is beyond what the top has laid -/
section
variable {X : Cx} {t : TA} {es : List Expr} {pos : Pos}
def tLstB (t : TA) : TE := fun σ H Q => t σ H fun xs H1 => xs.length ≤ sizeLine ∧ ∀ p, H1 p = none → p ≠ sysModules → Q (.ref p) (upd H1 p (.lst xs))
theorem pe_lstB (hb : sysModules < X.base.objs.size) (h : PA X es t) : PE X (.List es pos) (tLstB t) := by
  constructor
  intro pins s σ H Q I hq
  apply wpAny_List_spliced
  apply thn (h.run pos pins s σ H _ I hq)
  rintro us s1 ⟨xs, H1, I1, r, z, q⟩
  rw [r.length] at z
  refine ⟨z, ?_⟩
  have hf : H1 s1.heap.objs.size = none := I1.hok.fresh (Nat.le_refl _)
  have low : s1.heap.objs.size ≠ sysModules := Nat.ne_of_gt (Nat.lt_of_lt_of_le hb (Nat.le_trans I1.ok.bsz I1.sz))
  have new : ObjOk X.prog X.w (upd H1 s1.heap.objs.size (.lst xs)) (s1.heap.push { cls := .type "list", data := .seq us.toArray }) s1.heap.objs.size (.lst xs) := ⟨by rw [r.length]; exact z, us, 0, r, Heap.get?_push_size _ rfl⟩
  exact ⟨.ref s1.heap.objs.size, _, I1.laid (t' := s1.toks) (fun b u e => Heap.get?_push_of_some _ e) (Nat.le_refl _) new, rfl, q _ hf low⟩
end
end Uq

namespace Uq
open PySem PySem.Spec PyProof.Rows L2
/-! ### own exceptions as values: their __init__ walked as a def, they and their dict tracked -/
/-- what is asked of a class of exceptions -/
structure Xcl (K : PySem.W.Frag) (C : Addr) : Prop where
  T : OexC K C
  ga : PySem.W.findIn K (.ref C) "__getattribute__" = some (some (.builtin "BaseException.__getattribute__"))
  gg : PySem.W.findIn K (.ref C) "__getattr__" = some none
  hd : PySem.W.hasDictIn K C = true
  cl : PySem.W.findIn K (.ref C) "__class__" = some (some (.builtin "object.__class__"))
  sp : PySem.W.specialIn K (.builtin "object.__class__") "__get__" = some (some (.builtin "getset_descriptor.__get__"))
  tk : PySem.W.takesIn K (.builtin "object.__class__") = some true
  mo : PySem.W.mroIn K C (.type "object") = some true
  va : PySem.W.findIn K (.ref C) "value" = some none
/-- at a: an exception of the class C that keeps v -/
def Exc (H : Hp) (a C : Addr) (v : V) : Prop := ∃ dx : Addr, H a = some (exo a C (some dx)) ∧ H dx = some (exd dx [("value", v)])
theorem Exc.same {H H' : Hp} {a C : Addr} {v : V} (e : Same H H') (h : Exc H a C v) : Exc H' a C v := by
  obtain ⟨dx, h1, h2⟩ := h
  exact ⟨dx, e _ _ h1, e _ _ h2⟩
theorem Exc.but {H H' : Hp} {a C p : Addr} {v : V} {xs : List V} (e : But p H H') (hp : H p = some (.lst xs)) (h : Exc H a C v) : Exc H' a C v := by
  obtain ⟨dx, h1, h2⟩ := h
  refine ⟨dx, e _ _ (fun z => ?_) h1, e _ _ (fun z => ?_) h2⟩
  · rw [z, hp] at h1
    cases h1
  · rw [z, hp] at h2
    cases h2
/-- C(e), C's own __init__ keeping sp, the exception kept as a value -/
def tMkV (C : Addr) (sp : Sp) (ta : TA) : TE := fun σ H Q => ta σ H fun vs H1 => vs.length ≤ 1000 ∧ ∀ a, H1 a = none → sp (.ref a :: vs) (upd H1 a (exo a C none)) (fun v H2 => v = .non ∧ Q (.ref a) H2) (fun _ _ _ => False)
section
variable {X : Cx} {p pos : Pos} {e : Expr} {es : List Expr} {ta : TA}
theorem pe_oexV {x : Str} {C fI : Addr} {k : Nat} {fd : FuncData} {ps : List Str} {sp : Sp} (T : OexC X.K C) (iC : PySem.W.findIn X.K (.ref C) "__init__" = some (some (.ref fI))) (tI : PySem.W.typeIn X.K (.ref fI) = some (.type "function"))
    (F1 : FnOk X.prog X.w X.K X.mg X.base CX0 k fI fd ps sp) (hr : Room (k + 1) X.A) (hb : Binds X.K fd ps []) (hg : Gl X x) (hm : X.mg x = some (.ref C)) (ha : PA X (e :: es) ta)
    (hdb : (x == ("__debug__" : Str)) = false := by decide) (he : starEach (e :: es) X.env = (false, eval e X.env) :: starEach es X.env := by rfl) (hpl : (backTo pos (starEach es X.env)).any (·.1) = false := by rfl) :
    PE X (.Call (.Name x p) (e :: es) [] pos) (tMkV C sp ta) := by
  constructor
  intro pins s σ H Q I h
  apply wpAny_Call_Name_kw
  refine ld_glob I hg hm ?_ hdb
  have given := thn (ha.run pos pins s σ H _ I h) (Q' := fun us s1 => X.K.In s1.heap ∧ wpAny (model X.prog X.w) X.A (call (.ref C) us) (EP X pins σ Q) X.xe s1) ?_
  · exact PySem.W.callWith_K (h₀ := X.base) I.ok.mod.kin T.kC given he hpl
  rintro us ⟨h0, gens, drawn, toks, os⟩ ⟨vs, H1, I1, rel, small, cont⟩
  refine ⟨I1.kIn, ?_⟩
  -- its class
  have T' := T
  obtain ⟨⟨_, _, _, _, bm, _, _, _, _, _, _, _, _, _, _, cls, tail⟩, _, _, _, _⟩ := T'
  -- the heap when it is made, the place of the exception
  generalize ea : h0.objs.size + 1 = a
  have above : h0.objs.size ≤ a := by omega
  have new : H1 a = none := I1.hok.fresh above
  have stays : ∀ b o, h0.get? b = some o → ((h0.push (PySem.W.kdv_tup us)).push (PySem.HandSPX.excO C h0.objs.size)).get? b = some o := by
    intro b o e
    exact Heap.get?_push_of_some _ (Heap.get?_push_of_some _ e)
  have there : ((h0.push (PySem.W.kdv_tup us)).push (PySem.HandSPX.excO C h0.objs.size)).get? a = some (PySem.HandSPX.excO C h0.objs.size) := by
    rw [← ea]
    heap_get
  have J := I1.laid (t' := toks) (o := exo a C none) stays above (exo_ok there)
  have rel' : Vals (.ref a :: vs) (.ref a :: us) := .cons rfl rel
  have run := cont a new
  have count : (Value.ref a :: us).length = ps.length := rel'.length.symm.trans (F1.len _ _ _ _ run)
  have bound := hb _ (.ref a :: us) J.kIn (by rw [List.append_nil]; exact count)
  rw [List.append_nil] at bound
  have few : us.length ≤ sizeLine := Nat.le_trans (Nat.le_of_eq rel.length.symm) (Nat.le_trans small (by decide))
  have body := F1.run _ X.stack _ _ ⟨.ref a :: us, []⟩ (.ref a :: us) _ _ (fun _ _ _ => False) (hr.make C us []) (J.env0.make C us []) bound rel' run
  subst ea
  have back := fun Y => PySem.HandSPX.refsVE_contains Y bm tail
  refine wpAny_call (PySem.HandSPX.call_own F.excBase_ValueError back (I1.kIn _ _ cls) (PySem.W.looks_findIn I1.kIn iC) (fun self => PySem.W.bind_fn I1.kIn self tI) few ?_)
  refine codeAny_mono body ?_
  rintro (_ | (_ | _ | _ | u)) s' got
  all_goals first
    | exact False.elim got
    | (obtain ⟨v, H', J', rv, ev, q⟩ := J.after got
       subst ev
       exact ⟨rv, .ref _, H', J', rfl, q⟩)
end
/-! ### isinstance and .value of such an exception -/
theorem exc_inst {P : Program} {w : World} {H : Hp} {h : Heap} {a C : Addr} {v : V} (hok : HOk P w H h) (e : Exc H a C v) : ∃ (ox od : Obj) (mA : Str → Option Value) (dx : Addr), PySem.W.InstAt h a ox C (some od) ∧ h.Ns1 dx mA ∧ h.get? dx = some od := by
  obtain ⟨dx, h1, h2⟩ := e
  obtain ⟨t1, ho⟩ := exo_at hok h1
  obtain ⟨mA, hns, rel⟩ := exd_at hok h2
  obtain ⟨od, hod, hl⟩ := lookIn_ns hns
  exact ⟨_, od, mA, dx, ⟨ho, rfl, rfl, hod⟩, hns, hod⟩
def rIsX (K : PySem.W.Frag) : List V → Hp → VK → Prop := fun xs H Q => ∃ (a C : Addr) (v c : V) (u : Value) (b : Bool), xs = [.ref a, c] ∧ ClsV c u ∧ Xcl K C ∧ Exc H a C v ∧ PySem.W.kitOne K (.ref C) u = some b ∧ Q (.bl b) H
theorem call_isX {X : Cx} : CallR X (.builtin "isinstance") (rIsX X.K) := by
  intro pins s σ H xs us Q I r h
  obtain ⟨a, C, v, c, u, b, rfl, k, T, E, e, q⟩ := h
  obtain ⟨u1, u2, rfl, r1, r2⟩ := vals2 r
  cases (show u1 = Value.ref a from r1)
  have e2 := k.eq r2
  subst e2
  obtain ⟨ox, od, mA, dx, J, _⟩ := exc_inst I.hok E
  have hcl : (PySem.W.clsIn X.K C).isSome = true := by
    obtain ⟨cd, hc, _⟩ := PySem.W.any_some T.hd
    rw [hc]
    rfl
  exact PySem.W.kia_one (PySem.W.kitx_exc (x := a) (ox := ox) (od := some od) hcl T.ga T.gg T.T.exC T.cl T.sp T.tk T.mo) I.kIn J e (fun z => nomatch z) fun tk => ⟨.bl b, H, I.tok tk, rfl, q⟩
/-- x.value -/
def tXv (K : PySem.W.Frag) (te : TE) : TE := fun σ H Q => te σ H fun x H1 => ∃ (a C : Addr) (v : V), x = .ref a ∧ Xcl K C ∧ Exc H1 a C v ∧ Q v H1
theorem pe_xv {X : Cx} {e : Expr} {te : TE} {pos : Pos} (he : PE X e te) (hb : attributeBase e "value" X.env (eval e X.env) = eval e X.env := by rfl) : PE X (.Attribute e "value" pos) (tXv X.K te) := by
  refine ⟨fun pins s σ H Q I h => ?_⟩
  refine attr_of hb (thn (he.run pins s σ H _ I h) fun u s1 hh => ?_)
  obtain ⟨x, H1, I1, rx, a, C, v, ex, T, E, q⟩ := hh
  subst ex
  obtain rfl : u = Value.ref a := rx
  obtain ⟨dx, h1, h2⟩ := E
  obtain ⟨t1, ho⟩ := exo_at I1.hok h1
  obtain ⟨mA, hns, rel⟩ := exd_at I1.hok h2
  obtain ⟨od, hod, hl⟩ := lookIn_ns hns
  obtain ⟨u, hu, ru⟩ := RelO.some_of (v := v) (o := mA "value") (rel "value")
  have J : PySem.W.InstAt s1.heap a _ C (some od) := ⟨ho, rfl, rfl, hod⟩
  exact PySem.HandSPX.exc_get I1.kIn J T.ga T.gg T.T.exC (PySem.W.findObj_own T.hd T.va rfl (by rw [hl, hu])) (handed_of ru) ⟨v, H1, I1.tok _, ru, q⟩
/-- AskedError.__init__ -/
def sp_init (K : PySem.W.Frag) : Sp := fun vs H Q _ => ∃ (a C : Addr) (v : V), vs = [.ref a, v] ∧ Xcl K C ∧ H a = some (exo a C none) ∧ ∀ dx, H dx = none → dx ≠ a → Q .non (upd (upd H dx (exd dx [("value", v)])) a (exo a C (some dx)))
/-- C(e), C's __init__ being that one -/
theorem mkV_of {K : PySem.W.Frag} {C : Addr} {ta : TA} {σ : L2.St} {H : Hp} {Q : VK} (T : Xcl K C) (h : ta σ H fun vs H1 => ∃ v, vs = [v] ∧ ∀ a H2, H1 a = none → Same H1 H2 → Exc H2 a C v → Q (.ref a) H2) (m : ∀ {P P' : List V → Hp → Prop}, (∀ vs H1, P vs H1 → P' vs H1) → ta σ H P → ta σ H P') : tMkV C (sp_init K) ta σ H Q := by
  refine m (fun vs H1 hh => ?_) h
  obtain ⟨v, rfl, q⟩ := hh
  refine ⟨by simp, fun a ha => ⟨a, C, v, rfl, T, upd_same, fun dx hd hn => ⟨rfl, q a _ ha (fun b o e => ?_) ⟨dx, upd_same, ?_⟩⟩⟩⟩
  · have n1 : b ≠ a := ne_of_none e ha
    have n2 : b ≠ dx := fun z => by
      rw [upd_ne hn] at hd
      rw [z, hd] at e
      cases e
    rw [upd_ne n1, upd_ne n2, upd_ne n1]
    exact e
  · rw [upd_ne hn, upd_same]
end Uq

namespace Uq
open PySem PySem.Spec PyProof.Rows L2
/-! ### own classes: len, in, an index -/
section
variable {X : Cx} {C f : Addr} {k : Nat} {fd : FuncData} {ps : List Str} {sp : Sp}
/-- a def called one level further in -/
theorem run_in {pins : List (Addr × Obj)} {σ : L2.St} {H : Hp} {s : Shared} {Q : VK} {us : List Value} {vs : List V} {A : Around} (F : FnOk X.prog X.w X.K X.mg X.base CX0 k f fd ps sp) (hr : Room k A) (e0 : Env0 X.prog X.w X.K X.mg X.base A X.stack s H) (hb : Binds X.K fd ps [])
    (I : Inv X pins σ H s) (r : Vals vs us) (h : sp vs H Q E0) : wpAny (model X.prog X.w) A (call (.ref f) us) (EP X pins σ Q) X.xe s := by
  have n := r.length.symm.trans (F.len _ _ _ _ h)
  have bd := hb s us I.kIn (by rw [List.append_nil]; exact n)
  rw [List.append_nil] at bd
  refine wpAny_call (codeAny_mono (F.run A X.stack s H ⟨us, []⟩ us vs Q E0 hr e0 bd r h) ?_)
  rintro (_ | (_ | _ | _ | u)) s' got
  all_goals first
    | exact False.elim got
    | exact I.after got
theorem at_ins {pins : List (Addr × Obj)} {σ : L2.St} {H : Hp} {s : Shared} {a dx : Addr} {fs : List (Str × V)} (I : Inv X pins σ H s) (e : H a = some (.ins C dx fs)) : ∃ ox od, PySem.W.InstAt s.heap a ox C (some od) := by
  obtain ⟨mA, O, _⟩ := ins_get I.hok e
  obtain ⟨od, J, _⟩ := O.look
  exact ⟨_, _, J⟩
/-- what a class must tell of one of its own dunders -/
structure Dun (K : PySem.W.Frag) (C f : Addr) (n : Str) : Prop where
  at_ : PySem.W.findIn K (.ref C) n = some (some (.ref f))
  fn : PySem.W.isFn K (.ref f) = true
def rLenO (C : Addr) (sp : Sp) : List V → Hp → VK → Prop := fun xs H Q => ∃ a dx fs, xs = [.ref a] ∧ H a = some (.ins C dx fs) ∧ sp [.ref a] H (fun v H1 => ∃ n : Int, v = .int n ∧ 0 ≤ n ∧ n < 2 ^ 63 ∧ Q (.int n) H1) E0
theorem call_lenO (d : Dun X.K C f "__len__") (F : FnOk X.prog X.w X.K X.mg X.base CX0 k f fd ps sp) (hr : Room (k + 1) X.A) (hb : Binds X.K fd ps []) : CallR X (.builtin "len") (rLenO C sp) := by
  intro pins s σ H xs us Q I r h
  obtain ⟨a, dx, fs, rfl, e, q⟩ := h
  obtain ⟨u, rfl, ru⟩ := vals1 r
  cases (show u = Value.ref a from ru)
  obtain ⟨ox, od, J⟩ := at_ins I e
  obtain ⟨m, fr⟩ := I.fr
  refine PySem.W.len_K fr I.ok.mod.kin J d.at_ d.fn ?_
  refine wpAny_mono (run_in F hr.in1 I.env0.in1 hb I (.cons (a := V.ref a) rfl .nil) q) ?_ (fun _ _ z => z)
  rintro v s' ⟨x, H1, I1, rx, n, rfl, n0, n1, q1⟩
  obtain ⟨t, rfl⟩ := rx
  exact ⟨⟨n0, n1⟩, .int n, H1, I1.tok _, ⟨_, rfl⟩, q1⟩
def rInO (C : Addr) (sp : Sp) (neg : Bool) : R2 := fun x y H Q => ∃ a dx fs, y = .ref a ∧ H a = some (.ins C dx fs) ∧ sp [.ref a, x] H (fun v H1 => ∃ b, v = .bl b ∧ Q (.bl (if neg then !b else b)) H1) E0
theorem op_inO (d : Dun X.K C f "__contains__") (F : FnOk X.prog X.w X.K X.mg X.base CX0 k f fd ps sp) (hr : Room k X.A) (hb : Binds X.K fd ps []) : OpR X (compareOp .In) (rInO C sp false) := by
  intro pins s σ H x y v u Q I rx ry h
  obtain ⟨a, dx, fs, rfl, e, q⟩ := h
  cases (show u = Value.ref a from ry)
  obtain ⟨ox, od, J⟩ := at_ins I e
  obtain ⟨m, fr⟩ := I.fr
  refine PySem.W.in_K fr I.ok.mod.kin J d.at_ d.fn ?_
  refine wpAny_mono (run_in F hr I.env0 hb I (.cons (a := V.ref a) rfl (.cons rx .nil)) q) ?_ (fun _ _ z => z)
  rintro w s' ⟨z, H1, I1, rz, b, rfl, q1⟩
  cases (show w = Value.bool b from rz)
  exact wpAny_truthy_bool ⟨.bl b, H1, I1, rfl, q1⟩
theorem op_notInO (d : Dun X.K C f "__contains__") (F : FnOk X.prog X.w X.K X.mg X.base CX0 k f fd ps sp) (hr : Room k X.A) (hb : Binds X.K fd ps []) : OpR X (compareOp .NotIn) (rInO C sp true) := by
  intro pins s σ H x y v u Q I rx ry h
  obtain ⟨a, dx, fs, rfl, e, q⟩ := h
  cases (show u = Value.ref a from ry)
  obtain ⟨ox, od, J⟩ := at_ins I e
  obtain ⟨m, fr⟩ := I.fr
  refine PySem.W.notIn_K fr I.ok.mod.kin J d.at_ d.fn ?_
  refine wpAny_mono (run_in F hr I.env0 hb I (.cons (a := V.ref a) rfl (.cons rx .nil)) q) ?_ (fun _ _ z => z)
  rintro w s' ⟨z, H1, I1, rz, b, rfl, q1⟩
  cases (show w = Value.bool b from rz)
  exact wpAny_truthy_bool ⟨.bl (!b), H1, I1, rfl, q1⟩
/-- x[i], x of an own class -/
def tIxO (C : Addr) (sp : Sp) (ta tb : TE) : TE := fun σ H Q => ta σ H fun x H1 => tb σ H1 fun y H2 => ∃ a dx fs, x = .ref a ∧ H2 a = some (.ins C dx fs) ∧ sp [.ref a, y] H2 Q E0
theorem pe_ixO {e i : Expr} {ta tb : TE} {pos : Pos} (d : Dun X.K C f "__getitem__") (hf : PySem.W.fnIn X.K f = true) (F : FnOk X.prog X.w X.K X.mg X.base CX0 k f fd ps sp) (hr : Room (k + 1) X.A) (hb : Binds X.K fd ps []) (ha : PE X e ta) (hi : PE X i tb)
    (hsl : ∀ a u, subscripted i true (.ref a) u = runValue (.builtin "lifetime.subscript" ⟨[.ref a, u], []⟩) := by intros; with_unfolding_all rfl) : PE X (.Subscript e i pos) (tIxO C sp ta tb) := by
  refine ⟨fun pins s σ H Q I h => ?_⟩
  refine Subscript_ (binT ha hi I h fun v u s2 x y H2 I2 rx ry q => ?_)
  obtain ⟨a, dx, fs, rfl, e, q⟩ := q
  cases (show v = Value.ref a from rx)
  obtain ⟨ox, od, J⟩ := at_ins I2 e
  obtain ⟨m, fr⟩ := I2.fr
  exact PySem.W.sub_K fr I2.ok.mod.kin J d.at_ hf d.fn (run_in F hr.in1 I2.env0.in1 hb I2 (.cons (a := V.ref a) rfl (.cons ry .nil)) q) (hsl _ _)
end
/-! ### slices with a step -/
def pickV {α : Type} (xs : List α) (lo hi st : Option Int) : List α := (sliceRange (sliceBounds lo hi st xs.length).1 (sliceBounds lo hi st xs.length).2.1 (sliceBounds lo hi st xs.length).2.2).filterMap (xs[·]?)
theorem vals_pick {xs : List V} {its : List Value} (r : Vals xs its) : ∀ l : List Nat, Vals (l.filterMap (xs[·]?)) (l.filterMap (its[·]?))
  | [] => .nil
  | i :: l => by
    rw [List.filterMap_cons, List.filterMap_cons]
    cases e : xs[i]? with
    | none =>
      have e2 : its[i]? = none := by
        rw [List.getElem?_eq_none_iff] at e ⊢
        rw [← r.length]
        exact e
      rw [e2]
      exact vals_pick r l
    | some x =>
      obtain ⟨u, e2, ru⟩ := r.get e
      rw [e2]
      exact .cons ru (vals_pick r l)
def tSlS (K : PySem.W.Frag) (te : TE) (tl th ts : L2.St → Hp → (Option Int → Hp → Prop) → Prop) : TE := fun σ H Q => te σ H fun x H1 => tl σ H1 fun l H2 => th σ H2 fun u H3 => ts σ H3 fun k H4 => ∃ a xs, x = .ref a ∧ SqL K H4 a xs ∧ k ≠ some 0 ∧ (pickV xs l u k).length ≤ sizeLine ∧ ∀ p, H4 p = none → Q (.ref p) (upd H4 p (.lst (pickV xs l u k)))
theorem pe_sliceS {X : Cx} {e st : Expr} {lo hi : Option Expr} {te : TE} {tl th ts : L2.St → Hp → (Option Int → Hp → Prop) → Prop} {p2 pos : Pos} (he : PE X e te) (hl : PO X lo tl) (hu : PO X hi th) (hs : PO X (some st) ts) : PE X (.Subscript e (.Slice lo hi (some st) p2) pos) (tSlS X.K te tl th ts) := by
  constructor
  intro pins s σ H Q I h
  apply Subscript_
  refine thn (he.run pins s σ H _ I h) ?_
  rintro v s1 ⟨x, H1, I1, rx, q1⟩
  apply wpAny_Slice
  refine thn (hl.run pins s1 σ H1 _ I1 q1) ?_
  rintro vl s2 ⟨l, H2, I2, pl, q2⟩
  refine thn (hu.run pins s2 σ H2 _ I2 q2) ?_
  rintro vu s3 ⟨u, H3, I3, pu, q3⟩
  refine thn (hs.run pins s3 σ H3 _ I3 q3) ?_
  rintro vk s4 ⟨k, H4, I4, pk, a, xs, rfl, hx, hk, hz, q⟩
  cases (show v = Value.ref a from rx)
  have I5 : Inv X pins σ H4 { s4 with heap := s4.heap.push { cls := .type "slice", data := .fields #[vl, vu, vk] } } := I4.kept (t' := s4.toks) fun b ob z => Heap.get?_push_of_some _ z
  obtain ⟨its, r, ht, hsz⟩ := I5.list hx
  have hlen := r.length
  have hT : typeLookup (.type "list") "__getitem__" = pure (some (.builtin _)) := slot_list_getitem.lookup
  refine tail_any (ops := [.ref a, .ref s4.heap.objs.size]) ht.isList.typeIs hT ?_ (by with_unfolding_all rfl)
  refine wpAny_getItem_list_slice ht.isList (Heap.IsSliceOf.new ..) pl pu pk hk ?_ (by rw [List.size_toArray] <;> omega)
  have es : slicePick its.toArray l u k = (pickV its l u k).toArray := by
    unfold slicePick pickV
    simp
  rw [es]
  have rel : Vals (pickV xs l u k) (pickV its l u k) := by
    unfold pickV
    rw [hlen]
    exact vals_pick r _
  refine ⟨.ref _, _, I5.laid (o := .lst (pickV xs l u k)) (fun b ob z => Heap.get?_push_of_some _ z) (Nat.le_refl _) ?_, rfl, q _ (I5.hok.fresh (Nat.le_refl _))⟩
  exact ⟨hz, _, 0, rel, Heap.get?_push_size _ rfl⟩
end Uq

namespace Uq
open PySem PySem.Spec PyProof.Rows
/-! ### enumerate(list, start=3) -/
/-- what the call hands on -/
abbrev kw3 (t : Tok) : List (Str × Value) := [("start", .int 3 t)]
theorem typeCall3 (a : Value) (t : Tok) : checkTypeCall "enumerate" ⟨[a], kw3 t⟩ = pure () := by kernel_rfl
theorem newCall3 (a : Value) (t : Tok) : checkBuiltinCall "enumerate.__new__" ⟨[.type "enumerate", a], kw3 t⟩ = pure () := by kernel_rfl
theorem initArgs3 (obj a : Value) (t : Tok) : argsOk "object.__init__" ⟨[obj, a], kw3 t⟩ := by
  first
    | exact F.args_object_init_2 obj a
    | (unfold argsOk; kernel_rfl)
    | decide +kernel
/-- the iterator and the enumerate that stand behind it -/
abbrev it0 (l : Addr) : Obj := { cls := .type "list_iterator", data := .fields #[.ref l, .int 0 0] }
abbrev en0 (it : Addr) (n : Int) : Obj := { cls := .type "enumerate", data := .fields #[.none, .bool false, .ref it, rawInt n, .none, .none] }
theorem new3 (l : Addr) (t : Tok) (items : Array Value) (n : Nat) (dct : Option Addr) (sl : Array (Option Value)) :
    Meets (Builtin.«enumerate.__new__» ⟨[.type "enumerate", .ref l], kw3 t⟩) (fun _ R s => s.heap.get? l = some { cls := .type "list", dict := dct, data := .seq items n, slots := sl } ∧
      R (.ok (.ret (.ref (s.heap.push (it0 l)).objs.size))) { s with heap := (s.heap.push (it0 l)).push (en0 s.heap.objs.size 3) }) := by
  refine .of_wp ?_
  rintro prog w A R ⟨h0, g, d, tk, os⟩ ⟨hl, q⟩
  have sub := PySem.sub_enumerate
  have isl : Heap.IsList (Shared.heap ⟨h0, g, d, tk, os⟩) l items := ⟨_, hl, rfl, n, rfl⟩
  wp_walk using AutoSeq1.wpAny_loadPart' hl
  refine wpAny_stack_any fun st => wpAny_pure ?_
  split
  · rename_i c _ _ _ _ _
    cases (c == Value.type "enumerate")
    · wp_walk using AutoSeq1.wpAny_loadPart' hl, wpAny_pyIter_list isl
      exact ⟨_, rfl, q⟩
    · wp_walk using AutoSeq1.wpAny_loadPart' hl, wpAny_pyIter_list isl
      exact ⟨_, rfl, q⟩
  · wp_walk using AutoSeq1.wpAny_loadPart' hl, wpAny_pyIter_list isl
    exact ⟨_, rfl, q⟩
end Uq

namespace Uq
open PySem PySem.Spec PyProof.Rows
section
variable {prog : Program} {w : World} {A : Around} {E : Value → Shared → Prop} {s : Shared}
theorem init3 {obj a : Value} (t : Tok) :
    Meets (Builtin.«object.__init__» ⟨[obj, a], kw3 t⟩) (fun _ R s => s.TypeIs obj "enumerate" ∧ R (.ok (.ret .none)) s) := by
  refine .of_wp ?_
  rintro prog w A R s ⟨ht, q⟩
  have hl := F.called_enumerate.init.lookup
  have hm := F.called_enumerate.made
  repeat (any_goals (first | assumption | wp_step))
  all_goals exact ⟨_, rfl, q⟩
theorem call_enum3 {l : Addr} {items : Array Value} {t : Tok} {Q : Value → Shared → Prop} (hL : s.heap.IsList l items)
    (h : ∀ h', IsEnum h' (s.heap.objs.size + 1) s.heap.objs.size 3 .none → h'.IsListIter s.heap.objs.size l 0 → h'.objs.size = s.heap.objs.size + 2 →
      (∀ b o, s.heap.get? b = some o → h'.get? b = some o) → Q (.ref (s.heap.objs.size + 1)) { s with heap := h' }) :
    wpAny (model prog w) A (call (.type "enumerate") [.ref l] (kw3 t)) Q E s := by
  obtain ⟨⟨c, dct, dt, sl⟩, hl, hc, n, hd⟩ := hL
  replace hc : c = .type "list" := hc
  replace hd : dt = .seq items n := hd
  subst hc hd
  have ft := F.called_enumerate
  obtain ⟨c, tl, hmro⟩ := ft.mro
  have hmade := ft.made
  have hsub := ft.sub
  have h1 := ft.notType
  have h2 := ft.canCreate
  refine wpAny_call (codeAny_of_tree ?_)
  show wpAny _ _ (callAny (.type "enumerate") _) _ _ _
  refine wpAny_pure ⟨Code.quiet_builtin _ (by decide +kernel), codeAny_builtin F.entry_type_call ?_⟩
  rw [Around.under_plain (weight_type_call_type "enumerate" [.ref l] (kw3 t)) (units_type_call_type "enumerate" [.ref l] (kw3 t))]
  have hct := typeCall3 (.ref l) t
  repeat (any_goals (first | assumption | wp_step))
  have hz : (s.heap.push (it0 l)).objs.size = s.heap.objs.size + 1 := Heap.size_push ..
  have made := codeAny_call_builtin (A := A.in1) (R := wants (fun obj s₁ => obj = .ref (s.heap.objs.size + 1) ∧ s₁ = { s with heap := (s.heap.push (it0 l)).push (en0 s.heap.objs.size 3) }) E) ft.plain F.entry_enumerate_new (wpAny_of_eq (newCall3 (.ref l) t) (new3 l t items n dct sl prog w A.in1 _ s ⟨hl, by rw [hz]; exact ⟨rfl, rfl⟩⟩))
  refine codeAny_mono made fun r s₁ hr => ?_
  cases r with
  | error e => exact hr
  | ok fl =>
    cases fl with
    | ret obj =>
      obtain ⟨rfl, rfl⟩ := hr
      have he : IsEnum ((s.heap.push (it0 l)).push (en0 s.heap.objs.size 3)) (s.heap.objs.size + 1) s.heap.objs.size 3 .none := by
        have z := Heap.get?_push_size (s.heap.push (it0 l)) (o := en0 s.heap.objs.size 3) rfl
        rw [hz] at z
        exact z
      have hT : (Shared.mk ((s.heap.push (it0 l)).push (en0 s.heap.objs.size 3)) s.gens s.drawn s.toks s.os).TypeIs (.ref (s.heap.objs.size + 1)) "enumerate" := ⟨_, he, rfl⟩
      have hli := ft.init.lookup
      have hbi := ft.init.bind (.ref (s.heap.objs.size + 1))
      repeat (any_goals (first | assumption | wp_step))
      have fin : Q (.ref (s.heap.objs.size + 1)) { s with heap := (s.heap.push (it0 l)).push (en0 s.heap.objs.size 3) } := h _ he ⟨_, Heap.get?_push_of_some _ (Heap.get?_push_size _ rfl), rfl, rfl⟩ (by rw [Heap.size_push, hz]) fun b o x => Heap.get?_push_of_some _ (Heap.get?_push_of_some _ x)
      refine codeAny_mono (codeAny_call_builtin ft.init.plain F.entry_object_init (ft.init.check _ _ _ _ _ _ _ _ hT (initArgs3 _ _ t) (init3 t prog w A.in1 (wants (fun r s₂ => r = .none ∧ s₂ = { s with heap := (s.heap.push (it0 l)).push (en0 s.heap.objs.size 3) }) E) _ ⟨hT, rfl, rfl⟩))) fun r₂ s₂ hr₂ => ?_
      cases r₂ with
      | error e => exact hr₂
      | ok fl₂ =>
        cases fl₂ with
        | ret r =>
          obtain ⟨rfl, rfl⟩ := hr₂
          repeat (any_goals (first | assumption | wp_step))
        | _ => exact hr₂.elim
    | _ => exact hr.elim
end
end Uq

namespace Uq
open PySem PySem.Spec PyProof.Rows L2
/-- enumerate(list, start=3): the list as it stands at each turn, each item in a new pair -/
def Ite3 (K : PySem.W.Frag) (a : Addr) : It :=
  ⟨fun i H => ∃ (xs : List V) (x : V), SqL K H a xs ∧ xs[i]? = some x,
   fun i H v H' => ∃ T x, v = .ref T ∧ H T = none ∧ H' = upd H T (.tup [.int ((i : Int) + 3), x]) ∧ ∀ xs, SqL K H a xs → xs[i]? = some x,
   fun i H => ∃ xs : List V, SqL K H a xs ∧ xs.length ≤ i⟩
theorem draws3 {prog : Program} {w : World} {A : Around} {it l : Addr} {items : Array Value} (hh : A.handled = none) (hn : l ≠ it) :
    Draws prog w A it [it, l] (items.size + 3) (fun i x => items[i - 3]? = some x) (fun i h => 3 ≤ i ∧ h.IsListIter it l (i - 3) ∧ h.IsList l items) where
  live := fun i h st => by
    obtain ⟨_, ⟨o, e, _⟩, _⟩ := st
    exact ⟨o, e⟩
  frame := fun i h h' st k => by
    obtain ⟨g, ⟨o, e, r⟩, ⟨ol, el, rl⟩⟩ := st
    exact ⟨g, ⟨o, k it (by simp) _ e, r⟩, ⟨ol, k l (by simp) _ el, rl⟩⟩
  item := fun i s Q E hi st q => by
    obtain ⟨g, hit, hl⟩ := st
    obtain ⟨x, hx⟩ : ∃ x, items[i - 3]? = some x := ⟨items[i - 3]'(by omega), Array.getElem?_eq_getElem (by omega)⟩
    refine wpAny_nextOf_list_item hit hl hx fun h' hit' sb => ?_
    have e : i + 1 - 3 = i - 3 + 1 := by omega
    refine q x h' s.toks hx ⟨by omega, by rw [e]; exact hit', ?_⟩ sb
    obtain ⟨ol, el, rl⟩ := hl
    exact ⟨ol, (sb.2 l hn).trans el, rl⟩
  done := fun s Q E st q => by
    obtain ⟨_, hit, hl⟩ := st
    exact wpAny_nextOf_list_end hh hit hl (Array.getElem?_eq_none (by omega)) q
theorem list_ne_iter {h : Heap} {it l : Addr} {i : Nat} {items : Array Value} (a : h.IsListIter it l i) (b : h.IsList l items) : l ≠ it := by
  obtain ⟨o, e, c, _⟩ := a
  obtain ⟨ol, el, cl, _⟩ := b
  intro z
  rw [z, e] at el
  cases el
  rw [c] at cl
  exact absurd (Value.type.inj cl) (by decide)
/-- the end: nothing is behind it -/
theorem draws_end {prog : Program} {w : World} {A : Around} {it l : Addr} {items : Array Value} {i : Nat} (hh : A.handled = none) (hz : items.size ≤ i) :
    Draws prog w A it [it, l] i (fun _ _ => False) (fun j h => j = i ∧ h.IsListIter it l i ∧ h.IsList l items) where
  live := fun j h st => by
    obtain ⟨_, ⟨o, e, _⟩, _⟩ := st
    exact ⟨o, e⟩
  frame := fun j h h' st k => by
    obtain ⟨g, ⟨o, e, r⟩, ⟨ol, el, rl⟩⟩ := st
    exact ⟨g, ⟨o, k it (by simp) _ e, r⟩, ⟨ol, k l (by simp) _ el, rl⟩⟩
  item := fun j s Q E hj st q => absurd hj (by rw [st.1]; exact Nat.lt_irrefl _)
  done := fun s Q E st q => by
    obtain ⟨_, hit, hl⟩ := st
    exact wpAny_nextOf_list_end hh hit hl (Array.getElem?_eq_none hz) q
theorem turn3 {P : Program} {w : World} {K : PySem.W.Frag} {elts : List Expr} {kk : Nat} {tpos : Pos} (a e it : Addr) :
    Turn P w K (.Tuple elts kk tpos) (Ite3 K a) [e, it] e (fun i h => (∃ old, IsEnum h e it ((i + 3 : Nat) : Int) old) ∧ h.IsListIter it a i ∧ e ≠ it) where
  mem := by simp
  obj := fun i h st b hb => by
    obtain ⟨⟨old, he⟩, ⟨o, ho, hc, hd⟩, _⟩ := st
    simp only [List.mem_cons, List.not_mem_nil, or_false] at hb
    rcases hb with z | z
    · rw [z]
      exact ⟨_, he, fun v q => nomatch q⟩
    · rw [z]
      refine ⟨o, ho, fun v q => ?_⟩
      rw [hd] at q
      cases q
  keep := fun i h h' st k => by
    obtain ⟨⟨old, he⟩, hi, hne⟩ := st
    exact ⟨⟨old, k e (by simp) _ he⟩, hi.at fun o q => k it (by simp) o q, hne⟩
  item := by
    intro X hP hw hK hc i pins s σ H E I hf st hg
    subst hP hw hK
    obtain ⟨⟨old, he⟩, hit, hne⟩ := st
    obtain ⟨xs, x, hq, hx⟩ := hg
    obtain ⟨its, rv, p, hz⟩ := I.list hq
    obtain ⟨u, hu, ru⟩ := rv.get hx
    have hel : e < s.heap.objs.size := Heap.lt_size he
    have hil : it < s.heap.objs.size := by
      obtain ⟨_, q, _⟩ := hit
      exact Heap.lt_size q
    have hi : i < its.length := (List.getElem?_eq_some_iff.mp hu).1
    have ea : e ≠ a := by
      intro z
      obtain ⟨ol, el, cl, _⟩ := p.isList
      have he2 : s.heap.get? e = _ := he
      rw [z, el] at he2
      cases he2
      exact absurd (Value.type.inj cl) (by decide)
    have D := draws3 (prog := X.prog) (w := X.w) (A := X.A.in1) (items := its.toArray) (I.ok.hd hc) (list_ne_iter hit p.isList)
    refine wpAny_pyNext_enum_itemD D he ⟨by omega, hit, p.isList⟩ (by simp only [List.size_toArray]; omega) hne (by simp [hne, ea]) fun y h' tk hy ho st' hT hsz hk => ?_
    have ey : y = u := by
      have z : (its.toArray)[i + 3 - 3]? = some y := hy
      rw [Nat.add_sub_cancel, List.getElem?_toArray, hu] at z
      exact (Option.some.inj z).symm
    subst ey
    obtain ⟨_, hit', _⟩ := st'
    refine ⟨_, rfl, wpAny_letOwnedTupleGo_enum (s := { s with heap := h', toks := tk + 1 }) ho fun h'' he' sb => ?_⟩
    have hT2 : h''.get? s.heap.objs.size = some { cls := .type "tuple", data := .seq #[.int ((i + 3 : Nat) : Int) tk, y] } := (sb.2 _ (Nat.ne_of_gt hel)).trans hT
    have ei : ((i + 3 : Nat) : Int) = (i : Int) + 3 := by omega
    have new : ObjOk X.prog X.w (upd H s.heap.objs.size (.tup [.int ((i : Int) + 3), x])) h'' s.heap.objs.size (.tup [.int ((i : Int) + 3), x]) :=
      ⟨by show 2 ≤ sizeLine; decide, [.int ((i : Int) + 3) tk, y], .cons ⟨_, rfl⟩ (.cons ru .nil), ⟨_, hT2, rfl, _, by rw [ei]⟩⟩
    have stays : ∀ b ob, b ∉ [e, it] → s.heap.get? b = some ob → h''.get? b = some ob := fun b ob hb q =>
      (sb.2 b (fun z => hb (by simp [z]))).trans (hk b ob (fun z => hb (by simp [z])) (fun z => hb (by simp [z])) q)
    have I1 : Inv X pins σ (upd H s.heap.objs.size (.tup [.int ((i : Int) + 3), x])) { s with heap := h'', toks := tk + 1 } := I.turnedNew (ch := [e, it]) stays hf (Nat.le_refl _) new
    refine ⟨.ref s.heap.objs.size, _, I1, rfl, ⟨_, x, rfl, I.hok.fresh (Nat.le_refl _), rfl, fun ys hy => ?_⟩, ⟨⟨y, ?_⟩, ?_, hne⟩, fun b hb => ?_⟩
    · rw [I.list_inj hy hq]
      exact hx
    · have e1 : ((i + 1 + 3 : Nat) : Int) = ((i + 3 : Nat) : Int) + 1 := by omega
      rw [e1]
      exact he'
    · have e2 : i + 3 + 1 - 3 = i + 1 := by omega
      rw [e2] at hit'
      exact hit'.at fun o q => (sb.2 it (Ne.symm hne)).trans q
    · have hb' : b < s.heap.objs.size := by
        simp only [List.mem_cons, List.not_mem_nil, or_false] at hb
        rcases hb with z | z
        · rw [z]
          exact hel
        · rw [z]
          exact hil
      rw [upd_ne (Nat.ne_of_lt hb')]
      exact (hf b hb).1
  done := by
    intro X hP hw hK hc i pins s σ H E I hf st hg
    subst hP hw hK
    obtain ⟨⟨old, he⟩, hit, hne⟩ := st
    obtain ⟨xs, hq, hx⟩ := hg
    obtain ⟨its, rv, p, hz⟩ := I.list hq
    obtain ⟨f0, f1, f2, f3, f4, f5⟩ := hf it (by simp)
    have hl := rv.length
    have D := draws_end (prog := X.prog) (w := X.w) (A := X.A.in1) (it := it) (l := a) (items := its.toArray) (i := i) (I.ok.hd hc) (by simp only [List.size_toArray]; omega)
    exact wpAny_pyNext_enum_endD D he ⟨rfl, hit, p.isList⟩ fun h' eb => ⟨rfl, I.turned (t' := s.toks) (fun b o hb q => eb b o hb q) f0 f1 f3 f4 f5⟩
  self := fun A i s Q E st h => by
    obtain ⟨⟨_, he⟩, _⟩ := st
    exact wpAny_pyIter_enum he h
/-! ### the call -/
theorem callWith_tyK {M : Model} {A : Around} {E : Value → Shared → Prop} {s : Shared} {env : Env} {pos : Pos} {T : String} {e : Expr} {rest : List Expr} {kws : List Keyword} {Q : Value → Shared → Prop}
    (h : wpAny M A (spliced (backTo pos (starEach (e :: rest) env))) (fun vs s₁ => wpAny M A (evalAll ((backToKw pos (keywordEach kws env)).map (·.2)))
      (fun kvs s₂ => wpAny M A (call (.type T) vs (((backToKw pos (keywordEach kws env)).filterMap (·.1)).zip kvs)) Q E s₂) E s₁) E s)
    (he : backTo pos (starEach (e :: rest) env) = (false, eval e env) :: backTo pos (starEach rest env)) (hp : (backTo pos (starEach (e :: rest) env)).any (·.1) = false)
    (ha : (backToKw pos (keywordEach kws env)).all (·.1.isSome) = true) (hn : (backToKw pos (keywordEach kws env)).any (·.1.isNone) = false) :
    wpAny M A (callWith pos (.type T) [] (backTo pos (starEach (e :: rest) env)) (backToKw pos (keywordEach kws env))) Q E s := by
  have args := h
  rw [he] at args
  have a2 := evalArgs_kwB (f := .type T) (Q := fun a s₁ => wpAny M A (call (.type T) ([] ++ a.pos) a.kw) Q E s₁) ha args
  rw [← he] at a2
  unfold callWith
  refine wpAny_bind (wpAny_holding (wpAny_mono a2 (fun a s₁ h₁ => wpAny_bind (wpAny_standAt ?_)) fun _ _ x => x))
  simp only [hp, hn, Bool.or_false]
  refine wpAny_bind (wpAny_pure ?_)
  exact wpAny_bind (wpAny_mono h₁ (fun r s₂ hr => wpAny_bind (wpAny_holding (wpAny_point (wpAny_pure hr)))) fun _ _ x => x)
def iEnum3 (K : PySem.W.Frag) (ta : TA) : TI := fun σ H R => ta σ H fun vs H1 => ∃ a xs, vs = [.ref a] ∧ SqL K H1 a xs ∧ R (Ite3 K a) H1
theorem pi_enum3 {X : Cx} {e : Expr} {ta : TA} {p pos tpos kp cp : Pos} {j : Nat} {elts : List Expr} {kk : Nat} (hg : Gl X "enumerate") (hm : X.mg "enumerate" = none) (ha : PA X [e] ta) (hs : starEach [e] X.env = [(false, eval e X.env)] := by rfl) :
    PI X (.Tuple elts kk tpos) (.Call (.Name "enumerate" p) [e] [⟨some "start", .Constant (.int 3) j cp, kp⟩] pos) (iEnum3 X.K ta) := by
  refine ⟨fun pins s σ H R I h => ?_⟩
  refine wpAny_Call_Name_kw (ld_blt I hg hm boot_enumerate (callWith_tyK (thn (ha.run pos pins s σ H _ I h) ?_) (he := by rw [hs]; rfl) (hp := by rw [hs]; rfl) rfl rfl) (by decide) (by decide))
  rintro us s1 ⟨vs, H1, I1, r1, a, xs, rfl, hq, q⟩
  obtain ⟨u, rfl, ru⟩ := vals1 r1
  cases (show u = Value.ref a from ru)
  refine kws_cons (thn (pe_int.run pins s1 σ H1 (fun v H2 => v = .int 3 ∧ H2 = H1) I1 ⟨rfl, rfl⟩) ?_)
  rintro k s2 ⟨y, H2, I2, rk, rfl, rfl⟩
  obtain ⟨t, rfl⟩ := rk
  refine kws_nil ?_
  obtain ⟨its, rv, p', hz⟩ := I2.list hq
  show wpAny _ _ (call (.type "enumerate") [.ref a] (kw3 t)) _ _ _
  refine call_enum3 p'.isList fun h' he hit hsz hk => wpAny_pyIter_enum he ?_
  have I3 := I2.kept (t' := s2.toks) hk
  refine ⟨s2.heap.objs.size + 1, [s2.heap.objs.size + 1, s2.heap.objs.size], _, _, H2, rfl, I3, turn3 a (s2.heap.objs.size + 1) s2.heap.objs.size, ⟨⟨.none, he⟩, hit, Nat.succ_ne_self _⟩, fun b hb => ?_, q⟩
  have hle : s2.heap.objs.size ≤ b := by
    simp only [List.mem_cons, List.not_mem_nil, or_false] at hb
    rcases hb with z | z
    · rw [z]
      exact Nat.le_add_right _ _
    · rw [z]
      exact Nat.le_refl _
  exact I2.fpOk hle (I2.hok.fresh hle)
end Uq

namespace Uq
open PySem PySem.Spec PyProof.Rows L2 PySem.W
/-! ### tuple(d): the keys of a dict -/
section
variable {prog : Program} {w : World} {A : Around} {E : Value → Shared → Prop} {s : Shared} {d : Addr} {n : Nat} {P : Nat → Value → Prop} {OK : Heap → Prop}
theorem collect_src {T : String} {Q : List Value → Shared → Prop} (K : KdlSrc prog w T d d n P OK) (hh : A.handled = none) (hok : OK s.heap) (hn : n ≤ sizeLine)
    (q : ∀ (h' : Heap) (tk : Nat) (acc : Array Value), (∀ b o, s.heap.get? b = some o → h'.get? b = some o) → ItemsOf P acc n → Q acc.toList { s with heap := h', toks := tk }) :
    wpAny (model prog w) A (collect (.ref d)) Q E s := by
  have below := (K.there _ hok).1
  unfold collect
  refine wpAny_bind (wpAny_runValue (codeAny_builtin F.entry_proto_collect ?_))
  rw [Around.under_plainId F.plain_proto_collect _]
  show wpAny _ A.in1 (newList [] >>= fun l => again (.builtin "list.__iadd__" ⟨[l, .ref d], []⟩)) _ _ s
  refine wpAny_bind (wpAny_newObj_type ?_)
  refine wpAny_pure ⟨plainId_quiet F.plain_list_iadd _, codeAny_builtin F.entry_list_iadd ?_⟩
  rw [Around.under_plainId F.plain_list_iadd _]
  show wpAny _ A.in1 (Builtin.List.listExtendWith (.ref s.heap.objs.size) (.ref d) (.ref s.heap.objs.size)) _ _ _
  generalize eh : s.heap.push { cls := .type "list", data := .seq ([] : List Value).toArray } = h1
  have there : h1.get? s.heap.objs.size = some { cls := .type "list", data := .seq #[] 0 } := by
    rw [← eh]
    exact Heap.get?_push_size _ rfl
  have old : ∀ b o, s.heap.get? b = some o → h1.get? b = some o := fun b o e => by
    rw [← eh]
    exact Heap.get?_push_of_some _ e
  have ok1 : OK h1 := K.keep _ _ hok fun b _ o e => old b o e
  have ends := kdl_extend (A := A) (s := { s with heap := h1 }) (R := fun r s' => r = .ok (.ret (.ref s.heap.objs.size)) ∧ ∃ (h' : Heap) (tk : Nat) (acc : Array Value) (c : Nat), s' = { s with heap := h', toks := tk } ∧
      (∀ b o, s.heap.get? b = some o → h'.get? b = some o) ∧ h'.get? s.heap.objs.size = some { cls := .type "list", dict := none, data := .seq acc c, slots := #[] } ∧ ItemsOf P acc n)
    K hh ok1 s.heap.objs.size (Nat.ne_of_gt below) (Nat.ne_of_gt below) (.ref s.heap.objs.size) 0 there
    (fun h' tk acc c hk e hi => ⟨rfl, h', tk, acc, c, rfl, fun b o z => hk b o (Nat.ne_of_lt (Heap.lt_size z)) (old b o z), e, hi⟩) hn
  refine wpAny_mono ends (fun fin s' h => ?_) (fun e s' h => absurd h.1 (by simp))
  cases fin with
  | done f =>
    obtain ⟨e, h', tk, acc, c, rfl, hk, hS, hi⟩ := h
    cases e
    show wpAny _ A (load s.heap.objs.size >>= _) _ _ _
    exact wpAny_bind (wpAny_load hS (wpAny_pure (q h' tk acc hk hi)))
  | again c' =>
    refine ⟨h.1, codeAny_mono h.2 fun r s'' hr => ?_⟩
    obtain ⟨rfl, h', tk, acc, c, rfl, hk, hS, hi⟩ := hr
    show wpAny _ A (load s.heap.objs.size >>= _) _ _ _
    exact wpAny_bind (wpAny_load hS (wpAny_pure (q h' tk acc hk hi)))
theorem new_tuple_src {Q : Value → Shared → Prop} (K : KdlSrc prog w "dict" d d n P OK) (hh : A.handled = none) (hok : OK s.heap) (hn : n ≤ sizeLine)
    (q : ∀ (h' : Heap) (tk : Nat) (acc : Array Value), (∀ b o, s.heap.get? b = some o → h'.get? b = some o) → ItemsOf P acc n → Q (.ref h'.objs.size) { s with heap := h'.push { cls := .type "tuple", data := .seq acc }, toks := tk }) :
    codeAny (model prog w) A (.call (.builtin "tuple.__new__") ⟨[.type "tuple", .ref d], []⟩) (wants Q E) s := by
  refine codeAny_of_tree ?_
  show wpAny _ A.in1 (do checkBuiltinCall "tuple.__new__" ⟨[.type "tuple", .ref d], []⟩; again (.builtin "tuple.__new__" ⟨[.type "tuple", .ref d], []⟩)) _ _ s
  refine wpAny_bind (wpAny_of_eq (F.newCall_tuple_1 _) (wpAny_pure ⟨plainId_quiet F.plain_tuple_new _, codeAny_builtin F.entry_tuple_new ?_⟩))
  rw [Around.under_plainId F.plain_tuple_new _]
  have f1 := sub_tuple_self
  have f2 := init_tuple_lookup
  have f3 := madeHere_tuple
  have ty := K.type s hok
  have calm : A.in1.handled = none := hh
  wp_walk using wpAny_typeOf ty, collect_src (A := A.in1) K calm hok hn
  intro h' tk acc hk hi
  show wpAny _ _ (Builtin.Tuple.tupleExact acc.toList.toArray >>= fun v => ret v) _ _ _
  unfold Builtin.Tuple.tupleExact
  have e : acc.toList.toArray = acc := by simp
  rw [e]
  refine wpAny_bind (wpAny_newObj_type ?_ (by show acc.size ≤ sizeLine; rw [hi.1]; exact hn))
  exact wpAny_pure (q h' tk acc hk hi)
theorem call_tuple_src {Q : Value → Shared → Prop} (K : KdlSrc prog w "dict" d d n P OK) (hh : A.handled = none) (hok : OK s.heap) (hn : n ≤ sizeLine)
    (q : ∀ (h' : Heap) (tk : Nat) (acc : Array Value), (∀ b o, s.heap.get? b = some o → h'.get? b = some o) → ItemsOf P acc n → Q (.ref h'.objs.size) { s with heap := h'.push { cls := .type "tuple", data := .seq acc }, toks := tk }) :
    wpAny (model prog w) A (call (.type "tuple") [.ref d]) Q E s := by
  refine callType_codes (Q₁ := fun obj s₁ => s₁.TypeIs obj "tuple" ∧ Q obj s₁) F.called_tuple (F.typeCall_tuple_1 _) F.entry_object_init
    (new_tuple_src (A := A.in1) K hh hok hn fun h' tk acc hk hi => ⟨⟨_, Heap.get?_push_size _ rfl, rfl⟩, q h' tk acc hk hi⟩) ?_
  rintro obj s₁ ⟨ty, z⟩
  exact ⟨ty, F.args_object_init_2 obj _, object_init_meets F.called_tuple.init.lookup F.called_tuple.made (by decide) prog w A.in1 _ s₁ ⟨ty, rfl, z⟩⟩
end
def keysV (kvs : List (Key × V)) : List V := kvs.map fun kv => kV kv.1
/-- tuple(d) -/
def rTupD : List V → Hp → VK → Prop := fun xs H Q => ∃ p kvs, xs = [.ref p] ∧ Rd H p (.dK kvs) ∧ ∀ q, H q = none → Q (.ref q) (upd H q (.tup (keysV kvs)))
theorem call_tuple_dK {X : Cx} (hc : X.calm = true) : CallR X (.type "tuple") rTupD := by
  intro pins s σ H xs us Q I r h
  obtain ⟨p, kvs, rfl, hk, q⟩ := h
  obtain ⟨u, rfl, rx⟩ := vals1 r
  cases (show u = Value.ref p from rx)
  obtain ⟨z, lo, vs, rk, hd⟩ := (show ObjOk X.prog X.w H s.heap p (.dK kvs) from hk.ok I.hok)
  obtain ⟨ep, hat⟩ := hd.dictAt
  have hl : kvs.length = vs.length := Paired.length rk
  refine call_tuple_src (kdl_dict (knd := mixKind X.prog X.w) (kvs := vs) (ep := ep) lo) (I.ok.hd hc) hat (by rw [← hl]; exact z) fun h' tk acc keep hacc => ?_
  have rel : Vals (keysV kvs) acc.toList := by
    have el : acc.toList.length = acc.size := by simp
    refine vals_of_at (by rw [keysV, List.length_map, el, hacc.1, hl]) fun j x v h1 h2 => ?_
    obtain ⟨k, y, hky, hi⟩ := hacc.2 j v (by rw [← Array.getElem?_toList]; exact h2)
    have e1 : (kvs.map (·.1))[j]? = some k := by
      rw [KV.keys rk, List.getElem?_map, hky]
      rfl
    have e2 : (keysV kvs)[j]? = some (kV k) := by
      have e3 : keysV kvs = (kvs.map (·.1)).map kV := by
        rw [List.map_map]
        rfl
      rw [e3, List.getElem?_map, e1]
      rfl
    rw [e2] at h1
    cases h1
    exact keyIs_rel hi
  have I1 : Inv X pins σ H { s with heap := h', toks := tk } := I.kept (t' := tk) keep
  refine ⟨.ref h'.objs.size, _, I1.laid (t' := tk) (o := .tup (keysV kvs)) (fun b ob e => Heap.get?_push_of_some _ e) (Nat.le_refl _) ⟨?_, acc.toList, rel, ⟨_, Heap.get?_push_size _ rfl, rfl, 0, by rw [Array.toArray_toList]⟩⟩, rfl, q _ (I1.hok.fresh (Nat.le_refl _))⟩
  rw [keysV, List.length_map]
  exact z
/-- the same; what the new tuple is, is handed on (it has no dict) -/
def rTupF : List V → Hp → VK → Prop := fun xs H Q => ∃ p kvs, xs = [.ref p] ∧ Rd H p (.dK kvs) ∧ ∀ t ob, H t = none → ob.dict = none → Q (.ref t) (upd H t (.frz ob (.tup (keysV kvs))))
theorem call_tuple_dF {X : Cx} (hc : X.calm = true) : CallR X (.type "tuple") rTupF := by
  intro pins s σ H xs us Q I r h
  obtain ⟨p, kvs, rfl, hk, q⟩ := h
  obtain ⟨u, rfl, rx⟩ := vals1 r
  cases (show u = Value.ref p from rx)
  obtain ⟨z, lo, vs, rk, hd⟩ := (show ObjOk X.prog X.w H s.heap p (.dK kvs) from hk.ok I.hok)
  obtain ⟨ep, hat⟩ := hd.dictAt
  have hl : kvs.length = vs.length := Paired.length rk
  refine call_tuple_src (kdl_dict (knd := mixKind X.prog X.w) (kvs := vs) (ep := ep) lo) (I.ok.hd hc) hat (by rw [← hl]; exact z) fun h' tk acc keep hacc => ?_
  have rel : Vals (keysV kvs) acc.toList := by
    have el : acc.toList.length = acc.size := by simp
    refine vals_of_at (by rw [keysV, List.length_map, el, hacc.1, hl]) fun j x v h1 h2 => ?_
    obtain ⟨k, y, hky, hi⟩ := hacc.2 j v (by rw [← Array.getElem?_toList]; exact h2)
    have e1 : (kvs.map (·.1))[j]? = some k := by
      rw [KV.keys rk, List.getElem?_map, hky]
      rfl
    have e2 : (keysV kvs)[j]? = some (kV k) := by
      have e3 : keysV kvs = (kvs.map (·.1)).map kV := by
        rw [List.map_map]
        rfl
      rw [e3, List.getElem?_map, e1]
      rfl
    rw [e2] at h1
    cases h1
    exact keyIs_rel hi
  have I1 : Inv X pins σ H { s with heap := h', toks := tk } := I.kept (t' := tk) keep
  refine ⟨.ref h'.objs.size, _, I1.laid (t' := tk) (o := .frz _ (.tup (keysV kvs))) (fun b ob e => Heap.get?_push_of_some _ e) (Nat.le_refl _) ⟨Heap.get?_push_size _ rfl, ?_, acc.toList, rel, ⟨_, Heap.get?_push_size _ rfl, rfl, 0, by rw [Array.toArray_toList]⟩⟩, rfl, q _ _ (I1.hok.fresh (Nat.le_refl _)) rfl⟩
  rw [keysV, List.length_map]
  exact z
end Uq

namespace Uq
open PySem PySem.Spec PyProof.Rows
/-! ### zip over iterators of any kind whose last tuple is still held -/
section
variable {prog : Program} {w : World} {A : Around} {E : Value → Shared → Prop} {s : Shared} {z TI TO i1 i2 T : Addr} {f : Bool} {oT : Obj} {fp1 fp2 : List Addr} {n1 n2 i : Nat} {P1 P2 : Nat → Value → Prop} {St1 St2 : Nat → Heap → Prop}
theorem held_item {Q : Value → Shared → Prop} (S : ZipSep2 z TI TO i1 i2 fp1 fp2) (D1 : Draws prog w A i1 fp1 n1 P1 St1) (D2 : Draws prog w A i2 fp2 n2 P2 St2) (hz : IsZipHeld s.heap z TI TO T f) (hT : s.heap.get? T = some oT)
    (hTI : IsTupOf2 s.heap TI (.ref i1) (.ref i2)) (st1 : St1 i s.heap) (st2 : St2 i s.heap) (l1 : i < n1) (l2 : i < n2)
    (q : ∀ x y h' tk, P1 i x → P2 i y → IsZipHeld h' z TI TO T true → St1 (i + 1) h' → St2 (i + 1) h' → IsTupOf2 h' s.heap.objs.size x y → h'.objs.size = s.heap.objs.size + 1 →
      (∀ c o, c ≠ z → c ≠ i1 → c ≠ i2 → s.heap.get? c = some o → h'.get? c = some o) → Q (.ref s.heap.objs.size) { s with heap := h', toks := tk }) :
    wpAny (model prog w) A (Builtin.«zip.__next__» ⟨[.ref z], []⟩) (fun fin s' => ∃ v, fin = .done (.ret v) ∧ Q v s') E s := by
  obtain ⟨h0, g, d, tk0, os⟩ := s
  show wpAny _ _ (field (.ref z) 2 >>= _) _ _ _
  refine wpAny_bind (wpAny_field hz rfl (x := .bool false) rfl ?_)
  show wpAny _ _ (field (.ref z) 3 >>= _) _ _ _
  refine wpAny_bind (wpAny_field hz rfl (x := .ref TI) rfl ?_)
  refine wpAny_bind (wpAny_seqItems hTI rfl ?_)
  show wpAny _ _ (Builtin.SmallTypes.ownedTupleIsFree (.ref z) >>= _) _ _ _
  refine wpAny_bind (wpAny_tupleHeld_zip hz hT fun h1 z1 b1 => ?_)
  replace b1 : Heap.SameBut z h0 h1 := b1
  simp only [Bool.false_eq_true, if_false]
  refine wpAny_bind ?_
  rw [← Array.forIn_toList]
  simp only [List.forIn_cons, List.forIn_nil]
  refine wpAny_bind (wpAny_bind (wpAny_holding ?_))
  show wpAny _ _ (Builtin.SmallTypes.nextOf (.ref i1) >>= _) _ _ _
  refine wpAny_bind (D1.item i _ _ _ l1 (D1.over st1 b1 S.zf1) fun x h2 tk2 px j1 b2 => wpAny_pure ?_)
  replace b2 : Heap.SameBut i1 h1 h2 := b2
  refine wpAny_pure ?_
  refine wpAny_bind (wpAny_bind (wpAny_holding ?_))
  show wpAny _ _ (Builtin.SmallTypes.nextOf (.ref i2) >>= _) _ _ _
  refine wpAny_bind (D2.item i _ _ _ l2 (D2.over (D2.over st2 b1 S.zf2) b2 S.sep1_2) fun y h3 tk3 py j2 b3 => wpAny_pure ?_)
  replace b3 : Heap.SameBut i2 h2 h3 := b3
  refine wpAny_pure (wpAny_pure ?_)
  show wpAny _ _ (newTuple [x, y] >>= _) _ _ _
  refine wpAny_bind (wpAny_newTuple ?_)
  have size : h3.objs.size = h0.objs.size := by rw [b3.1, b2.1, b1.1]
  have keeps : ∀ c o, c ≠ z → c ≠ i1 → c ≠ i2 → h0.get? c = some o → h3.get? c = some o := fun c o c1 c2 c3 e => b3.extBut _ _ c3 (b2.extBut _ _ c2 (b1.extBut _ _ c1 e))
  have z3 : IsZipHeld h3 z TI TO T true := b3.extBut _ _ S.zi2 (b2.extBut _ _ S.zi1 z1)
  have k1 := D1.over j1 b3 S.sep2_1
  refine wpAny_pure ⟨_, rfl, ?_⟩
  show Q (.ref h3.objs.size) _
  have new : IsTupOf2 (h3.push { cls := .type "tuple", data := .seq #[x, y] }) h3.objs.size x y := Heap.get?_push_size _ rfl
  have size4 : (h3.push { cls := .type "tuple", data := .seq #[x, y] }).objs.size = h3.objs.size + 1 := Heap.size_push ..
  rw [size] at new size4 ⊢
  exact q x y _ tk3 px py (Heap.get?_push_of_some _ z3) (D1.frame _ _ _ k1 fun b _ o e => Heap.get?_push_of_some _ e) (D2.frame _ _ _ j2 fun b _ o e => Heap.get?_push_of_some _ e) new size4 fun c o c1 c2 c3 e => Heap.get?_push_of_some _ (keeps c o c1 c2 c3 e)
theorem held_end {Q : Fin → Shared → Prop} (S : ZipSep2 z TI TO i1 i2 fp1 fp2) (D1 : Draws prog w A i1 fp1 n1 P1 St1) (D2 : Draws prog w A i2 fp2 n2 P2 St2) (hz : IsZipHeld s.heap z TI TO T f) (hT : s.heap.get? T = some oT)
    (hTI : IsTupOf2 s.heap TI (.ref i1) (.ref i2)) (st1 : St1 i s.heap) (st2 : St2 i s.heap) (l1 : i ≤ n1) (l2 : i ≤ n2) (fin : i = n1 ∨ i = n2)
    (q : ∀ h' tk e, (∀ c o, c ≠ z → c ≠ i1 → c ≠ i2 → s.heap.get? c = some o → h'.get? c = some o) → (∃ o, h'.get? e = some o ∧ o.cls = .type "StopIteration") → E (.ref e) { s with heap := h', toks := tk }) :
    wpAny (model prog w) A (Builtin.«zip.__next__» ⟨[.ref z], []⟩) Q E s := by
  obtain ⟨h0, g, d, tk0, os⟩ := s
  show wpAny _ _ (field (.ref z) 2 >>= _) _ _ _
  refine wpAny_bind (wpAny_field hz rfl (x := .bool false) rfl ?_)
  show wpAny _ _ (field (.ref z) 3 >>= _) _ _ _
  refine wpAny_bind (wpAny_field hz rfl (x := .ref TI) rfl ?_)
  refine wpAny_bind (wpAny_seqItems hTI rfl ?_)
  show wpAny _ _ (Builtin.SmallTypes.ownedTupleIsFree (.ref z) >>= _) _ _ _
  refine wpAny_bind (wpAny_tupleHeld_zip hz hT fun h1 z1 b1 => ?_)
  replace b1 : Heap.SameBut z h0 h1 := b1
  simp only [Bool.false_eq_true, if_false]
  refine wpAny_bind ?_
  rw [← Array.forIn_toList]
  simp only [List.forIn_cons, List.forIn_nil]
  refine wpAny_bind (wpAny_bind (wpAny_holding ?_))
  show wpAny _ _ (Builtin.SmallTypes.nextOf (.ref i1) >>= _) _ _ _
  have t1 := D1.over st1 b1 S.zf1
  by_cases e1 : i = n1
  · subst e1
    refine wpAny_bind (D1.done _ _ _ t1 fun h2 e b2 he => ?_)
    exact q h2 tk0 e (fun c o c1 c2 _ x => b2 _ _ c2 (b1.extBut _ _ c1 x)) he
  · have e2 : i = n2 := fin.resolve_left e1
    subst e2
    refine wpAny_bind (D1.item i _ _ _ (by omega) t1 fun x h2 tk2 px j1 b2 => wpAny_pure ?_)
    replace b2 : Heap.SameBut i1 h1 h2 := b2
    refine wpAny_pure ?_
    refine wpAny_bind (wpAny_bind (wpAny_holding ?_))
    show wpAny _ _ (Builtin.SmallTypes.nextOf (.ref i2) >>= _) _ _ _
    refine wpAny_bind (D2.done _ _ _ (D2.over (D2.over st2 b1 S.zf2) b2 S.sep1_2) fun h3 e b3 he => ?_)
    exact q h3 tk2 e (fun c o c1 c2 c3 x => b3 _ _ c3 (b2.extBut _ _ c2 (b1.extBut _ _ c1 x))) he
theorem next_held {Q : Option Value → Shared → Prop} (S : ZipSep2 z TI TO i1 i2 fp1 fp2) (D1 : Draws prog w A.in1 i1 fp1 n1 P1 St1) (D2 : Draws prog w A.in1 i2 fp2 n2 P2 St2) (hz : IsZipHeld s.heap z TI TO T f) (hT : s.heap.get? T = some oT)
    (hTI : IsTupOf2 s.heap TI (.ref i1) (.ref i2)) (st1 : St1 i s.heap) (st2 : St2 i s.heap) (l1 : i < n1) (l2 : i < n2)
    (q : ∀ x y h' tk, P1 i x → P2 i y → IsZipHeld h' z TI TO T true → St1 (i + 1) h' → St2 (i + 1) h' → IsTupOf2 h' s.heap.objs.size x y → h'.objs.size = s.heap.objs.size + 1 →
      (∀ c o, c ≠ z → c ≠ i1 → c ≠ i2 → s.heap.get? c = some o → h'.get? c = some o) → Q (some (.ref s.heap.objs.size)) { s with heap := h', toks := tk }) :
    wpAny (model prog w) A (pyNext (.ref z)) Q E s := by
  have ty : s.TypeIs (.ref z) "zip" := ⟨_, hz, rfl⟩
  unfold pyNext
  refine wpAny_bind (wpAny_attempt (wpAny_callSpecial?_slot (name := Str.ofString "__next__") ty F.slot_zip_next (wpAny_call_entry F.slot_zip_next ty F.entry_zip_next ?_ (F.args_zip_next_1 _))))
  exact held_item S D1 D2 hz hT hTI st1 st2 l1 l2 fun x y h' tk a1 a2 a3 a4 a5 a6 a7 a8 => wpAny_pure (q x y h' tk a1 a2 a3 a4 a5 a6 a7 a8)
theorem stop_held {Q : Option Value → Shared → Prop} (S : ZipSep2 z TI TO i1 i2 fp1 fp2) (D1 : Draws prog w A.in1 i1 fp1 n1 P1 St1) (D2 : Draws prog w A.in1 i2 fp2 n2 P2 St2) (hz : IsZipHeld s.heap z TI TO T f) (hT : s.heap.get? T = some oT)
    (hTI : IsTupOf2 s.heap TI (.ref i1) (.ref i2)) (st1 : St1 i s.heap) (st2 : St2 i s.heap) (l1 : i ≤ n1) (l2 : i ≤ n2) (fin : i = n1 ∨ i = n2)
    (q : ∀ h' tk, (∀ c o, c ≠ z → c ≠ i1 → c ≠ i2 → s.heap.get? c = some o → h'.get? c = some o) → Q none { s with heap := h', toks := tk }) : wpAny (model prog w) A (pyNext (.ref z)) Q E s := by
  have ty : s.TypeIs (.ref z) "zip" := ⟨_, hz, rfl⟩
  unfold pyNext
  refine wpAny_bind (wpAny_attempt (wpAny_callSpecial?_slot (name := Str.ofString "__next__") ty F.slot_zip_next (wpAny_call_entry F.slot_zip_next ty F.entry_zip_next (held_end S D1 D2 hz hT hTI st1 st2 l1 l2 fin ?_) (F.args_zip_next_1 _))))
  rintro h' tk e keeps ⟨o, ho, hc⟩
  refine wpAny_bind (wpAny_isInstance (T := "StopIteration") (b := true) ⟨o, ho, hc⟩ isSubtype_stop ?_)
  exact wpAny_pure (q _ _ keeps)
end
/-! ### such a zip as the argument of dict() -/
theorem zip_pairs {prog : Program} {w : World} {z TI TO i1 i2 : Addr} {fp1 fp2 : List Addr} {n1 n2 : Nat} {P1 P2 : Nat → Value → Prop} {St1 St2 : Nat → Heap → Prop} (S : ZipSep2 z TI TO i1 i2 fp1 fp2)
    (D1 : ∀ A : Around, A.handled = none → Draws prog w A i1 fp1 n1 P1 St1) (D2 : ∀ A : Around, A.handled = none → Draws prog w A i2 fp2 n2 P2 St2) (h1 : ∀ i h, St1 i h → ∀ b ∈ fp1, ∃ o, h.get? b = some o) (h2 : ∀ i h, St2 i h → ∀ b ∈ fp2, ∃ o, h.get? b = some o) (A0 : Around) (hA0 : A0.handled = none) :
    PairArg prog w "zip" z ([z, TI, TO] ++ (fp1 ++ fp2)) [z, TO, i1, i2] (min n1 n2) (fun i k v => P1 i k ∧ P2 i v) (fun h => IsZip h z TI TO .none ∧ IsTupOf2 h TI (.ref i1) (.ref i2) ∧ (∃ a b, IsTupOf2 h TO a b) ∧ St1 0 h ∧ St2 0 h) where
  type := fun s ok => ⟨_, ok.1, rfl⟩
  notDict := by decide
  keep := fun h h' ok k => by
    obtain ⟨hz, hTI, ⟨a, b, hTO⟩, s1, s2⟩ := ok
    exact ⟨k _ _ hz, k _ _ hTI, ⟨a, b, k _ _ hTO⟩, (D1 A0 hA0).frame _ _ _ s1 fun b _ o e => k b o e, (D2 A0 hA0).frame _ _ _ s2 fun b _ o e => k b o e⟩
  there := fun h ok b hb => by
    obtain ⟨hz, hTI, ⟨a, c, hTO⟩, s1, s2⟩ := ok
    rcases List.mem_append.mp hb with hb | hb
    · simp only [List.mem_cons, List.not_mem_nil, or_false] at hb
      rcases hb with e | e | e
      · exact ⟨_, e ▸ hz⟩
      · exact ⟨_, e ▸ hTI⟩
      · exact ⟨_, e ▸ hTO⟩
    · rcases List.mem_append.mp hb with hb | hb
      · exact h1 _ _ s1 b hb
      · exact h2 _ _ s2 b hb
  sub := fun b hb => by
    simp only [List.mem_cons, List.not_mem_nil, or_false] at hb
    rcases hb with e | e | e | e
    · rw [e]; simp
    · rw [e]; simp
    · rw [e]; exact List.mem_append_right _ (List.mem_append_left _ S.mem1)
    · rw [e]; exact List.mem_append_right _ (List.mem_append_right _ S.mem2)
  noKeys := fun A s Q E hA ok h => getAttrOr_miss_zip ok.1 rfl rfl rfl zip_no_keys (by decide +kernel) hA h
  iter := fun A s d Q E hA ok hd hdf h => by
    obtain ⟨hz, hTI, ⟨a, b, hTO⟩, s1, s2⟩ := ok
    have dz : d ≠ z := fun e => hdf (by rw [e]; simp)
    have dTI : d ≠ TI := fun e => hdf (by rw [e]; simp)
    have dTO : d ≠ TO := fun e => hdf (by rw [e]; simp)
    have d1 : d ∉ fp1 := fun e => hdf (List.mem_append_right _ (List.mem_append_left _ e))
    have d2 : d ∉ fp2 := fun e => hdf (List.mem_append_right _ (List.mem_append_right _ e))
    have di1 : d ≠ i1 := fun e => d1 (by rw [e]; exact S.mem1)
    have di2 : d ≠ i2 := fun e => d2 (by rw [e]; exact S.mem2)
    refine wpAny_pyIter_zip hz (h z [z, TO, i1, i2] (fun i h => IsTupOf2 h TI (.ref i1) (.ref i2) ∧ St1 i h ∧ St2 i h ∧
      ((IsZip h z TI TO .none ∧ ∃ a b, IsTupOf2 h TO a b) ∨ ∃ T f oT, IsZipHeld h z TI TO T f ∧ h.get? T = some oT ∧ T ≠ z ∧ T ≠ i1 ∧ T ≠ i2 ∧ T ≠ d)) s.heap s.toks ?_
      ⟨hTI, s1, s2, .inl ⟨hz, a, b, hTO⟩⟩ (fun _ _ e => e) fun b hb => .inl hb)
    exact {
      off := fun hm => by
        simp only [List.mem_cons, List.not_mem_nil, or_false] at hm
        rcases hm with e | e | e | e
        · exact dz e
        · exact dTO e
        · exact di1 e
        · exact di2 e
      frame := fun i ha hb st k => by
        obtain ⟨hTI, s1, s2, hz⟩ := st
        refine ⟨k _ _ (Ne.symm dTI) hTI, (D1 A0 hA0).frame _ _ _ s1 fun b m o e => k b o (fun q => d1 (q ▸ m)) e, (D2 A0 hA0).frame _ _ _ s2 fun b m o e => k b o (fun q => d2 (q ▸ m)) e, ?_⟩
        rcases hz with ⟨hz, a, b, hTO⟩ | ⟨T, f, oT, hz, hT, r1, r2, r3, r4⟩
        · exact .inl ⟨k _ _ (Ne.symm dz) hz, a, b, k _ _ (Ne.symm dTO) hTO⟩
        · exact .inr ⟨T, f, oT, k _ _ (Ne.symm dz) hz, k _ _ r4 hT, r1, r2, r3, r4⟩
      item := fun i sa Qa Ea hi st hds hQ => by
        obtain ⟨hTI, s1, s2, hz⟩ := st
        have l1 : i < n1 := Nat.lt_of_lt_of_le hi (Nat.min_le_left ..)
        have l2 : i < n2 := Nat.lt_of_lt_of_le hi (Nat.min_le_right ..)
        have lt : ∀ {c o}, sa.heap.get? c = some o → sa.heap.objs.size ≠ c := fun e => Nat.ne_of_gt (Heap.lt_size e)
        obtain ⟨o1, e1⟩ := h1 _ _ s1 i1 S.mem1
        obtain ⟨o2, e2⟩ := h2 _ _ s2 i2 S.mem2
        rcases hz with ⟨hz, a, b, hTO⟩ | ⟨T, f, oT, hz, hT, r1, r2, r3, r4⟩
        · refine wpAny_pyNext_zipD2_item S (D1 A.in1 hA) (D2 A.in1 hA) hz hTI hTO s1 s2 l1 l2 fun x y h' tk px py a1 a2 t1 t2 a5 a6 k => ?_
          exact hQ sa.heap.objs.size x y h' tk ⟨px, py⟩ (.inl ⟨_, a5, rfl, _, rfl⟩)
            ⟨k _ _ S.TIz S.TITO S.TIi1 S.TIi2 hTI, t1, t2, .inr ⟨sa.heap.objs.size, false, _, a1, a5, lt hz, lt e1, lt e2, Nat.ne_of_gt hds⟩⟩
            fun c o hc e => k c o (fun x => hc (by simp [x])) (fun x => hc (by simp [x])) (fun x => hc (by simp [x])) (fun x => hc (by simp [x])) e
        · refine next_held S (D1 A.in1 hA) (D2 A.in1 hA) hz hT hTI s1 s2 l1 l2 fun x y h' tk px py a1 t1 t2 a5 a6 k => ?_
          exact hQ sa.heap.objs.size x y h' tk ⟨px, py⟩ (.inl ⟨_, a5, rfl, _, rfl⟩)
            ⟨k _ _ S.TIz S.TIi1 S.TIi2 hTI, t1, t2, .inr ⟨T, true, oT, a1, k _ _ r1 r2 r3 hT, r1, r2, r3, r4⟩⟩
            fun c o hc e => k c o (fun x => hc (by simp [x])) (fun x => hc (by simp [x])) (fun x => hc (by simp [x])) e
      done := fun sa Qa Ea st hQ => by
        obtain ⟨hTI, s1, s2, hz⟩ := st
        have fin : min n1 n2 = n1 ∨ min n1 n2 = n2 := by omega
        rcases hz with ⟨hz, a, b, hTO⟩ | ⟨T, f, oT, hz, hT, r1, r2, r3, r4⟩
        · exact wpAny_pyNext_zipD2_end S (D1 A.in1 hA) (D2 A.in1 hA) hz hTI hTO s1 s2 (Nat.min_le_left ..) (Nat.min_le_right ..) fin fun h' tk k => hQ h' tk fun c o hc e => k c o (fun x => hc (by simp [x])) (fun x => hc (by simp [x])) (fun x => hc (by simp [x])) (fun x => hc (by simp [x])) e
        · exact stop_held S (D1 A.in1 hA) (D2 A.in1 hA) hz hT hTI s1 s2 (Nat.min_le_left ..) (Nat.min_le_right ..) fin fun h' tk k => hQ h' tk fun c o hc e => k c o (fun x => hc (by simp [x])) (fun x => hc (by simp [x])) (fun x => hc (by simp [x])) e }
end Uq

namespace Uq
open PySem PySem.Spec PyProof.Rows L2
/-! ### dict(zip(t, l)), t a tuple of keys, l a list -/
theorem rel_key : ∀ {k : Key} {u : Value}, RelV (kV k) u → keyIs k u = true
  | .inl i, _, ⟨t, e⟩ => by
    rw [e]
    exact keyIs_int i t
  | .inr x, _, ⟨t, e⟩ => by
    rw [e]
    exact keyIs_str x t
theorem kv_zip : ∀ {ks : List Key} {ys : List V} {us : List Value}, Vals ys us → KV (ks.zip ys) (ks.zip us)
  | [], _, _, _ => .nil
  | _ :: _, _, _, .nil => .nil
  | k :: ks, _, _, .cons r rs => .cons ⟨rfl, r⟩ (kv_zip rs)
def tDz (K : PySem.W.Frag) (ta : TA) : TE := fun σ H Q => ta σ H fun vs H1 => ∃ (a b : Addr) (ks : List Key) (ys : List V), vs = [.ref a, .ref b] ∧ SqT K H1 a (ks.map kV) ∧ SqL K H1 b ys ∧ ∀ p, H1 p = none → Q (.ref p) (upd H1 p (.dK (mergeK [] (ks.zip ys))))
theorem ltA {x y : Nat} (h : x < y) : ¬ (show Addr from x) = y := Nat.ne_of_lt h
theorem gtA {x y : Nat} (h : y < x) : ¬ (show Addr from x) = y := Nat.ne_of_gt h
theorem notin2 {x u v : Addr} (h1 : ¬ x = u) (h2 : ¬ x = v) : x ∉ [u, v] := by
  simp only [List.mem_cons, List.not_mem_nil, or_false, not_or]
  exact ⟨h1, h2⟩
theorem apart5 {a b n : Nat} (ha : a < n) (hb : b < n) : ZipSep2 (n + 4) (n + 2) (n + 3) n (n + 1) [n, a] [n + 1, b] where
  TIz := ltA (by omega)
  TOz := ltA (by omega)
  TITO := ltA (by omega)
  TIi1 := gtA (by omega)
  mem1 := List.mem_cons_self
  zf1 := notin2 (gtA (by omega)) (gtA (by omega))
  Tf1 := notin2 (gtA (by omega)) (gtA (by omega))
  TIi2 := gtA (by omega)
  mem2 := List.mem_cons_self
  zf2 := notin2 (gtA (by omega)) (gtA (by omega))
  Tf2 := notin2 (gtA (by omega)) (gtA (by omega))
  sep1_2 := notin2 (ltA (by omega)) (gtA (by omega))
  sep2_1 := notin2 (gtA (by omega)) (gtA (by omega))
theorem pe_dz {X : Cx} {e1 e2 : Expr} {ta : TA} {p1 p2 q1 q2 : Pos} (hc : X.calm = true) (hgd : Gl X "dict") (hmd : X.mg "dict" = none) (hgz : Gl X "zip") (hmz : X.mg "zip" = none) (ha : PA X [e1, e2] ta)
    (hs : starEach [e1, e2] X.env = (false, eval e1 X.env) :: starEach [e2] X.env := by rfl) (hpl : ∀ pos : Pos, (backTo pos (starEach [e2] X.env)).any (·.1) = false := by intro _; rfl) :
    PE X (.Call (.Name "dict" p1) [.Call (.Name "zip" p2) [e1, e2] [] q2] [] q1) (tDz X.K ta) := by
  refine ⟨fun pins s σ H Q I h => ?_⟩
  refine wpAny_Call_Name_kw (ld_blt I hgd hmd boot_dict ?_ (by decide) (by decide))
  refine PyProof.Rows.callWith_type1 ?_ rfl rfl
  refine args_cons ?_ rfl
  refine Call_ (ld_blt I hgz hmz boot_zip (PyProof.Rows.callWith_type1 (thn (ha.run q2 pins s σ H _ I h) ?_) hs (hpl q2)))
  rintro us s1 ⟨vs, H1, I1, r1, a, b, ks, ys, rfl, ht, hl, q⟩
  obtain ⟨u1, u2, rfl, ra, rb⟩ := vals2 r1
  cases (show u1 = Value.ref a from ra)
  cases (show u2 = Value.ref b from rb)
  obtain ⟨its, rv, pt, hz⟩ := I1.tuple ht
  obtain ⟨its2, rv2, pl, hz2⟩ := I1.list hl
  have isT : s1.heap.IsTuple a its.toArray := pt
  have isL := pl.isList
  have la : a < s1.heap.objs.size := by
    obtain ⟨o, e, _⟩ := isT
    exact Heap.lt_size e
  have lb : b < s1.heap.objs.size := by
    obtain ⟨o, e, _⟩ := isL
    exact Heap.lt_size e
  refine zip_begins2 (begins_tuple a its.toArray) (begins_list b its2.toArray) isT isL fun h' hz' hTI hTO g1 g2 hsz hk => ?_
  refine args_nil ?_
  generalize en : s1.heap.objs.size = n at *
  have isT' : h'.IsTuple a its.toArray := isT.at fun o e => hk _ o e
  have isL' : h'.IsList b its2.toArray := isL.at fun o e => hk _ o e
  have P := zip_pairs (prog := X.prog) (w := X.w) (apart5 la lb) (n1 := its.toArray.size) (n2 := its2.toArray.size)
    (fun A hA => Draws.tuple hA n a (Nat.ne_of_lt la) its.toArray) (fun A hA => Draws.list hA (n + 1) b (Nat.ne_of_lt (Nat.lt_succ_of_lt lb)) its2.toArray)
    (fun i h st c hcm => by
      obtain ⟨⟨o, e, _⟩, o2, e2, _⟩ := st
      simp only [List.mem_cons, List.not_mem_nil, or_false] at hcm
      rcases hcm with z | z
      · exact ⟨o, z ▸ e⟩
      · exact ⟨o2, z ▸ e2⟩)
    (fun i h st c hcm => by
      obtain ⟨⟨o, e, _⟩, o2, e2, _⟩ := st
      simp only [List.mem_cons, List.not_mem_nil, or_false] at hcm
      rcases hcm with z | z
      · exact ⟨o, z ▸ e⟩
      · exact ⟨o2, z ▸ e2⟩) X.A (I1.ok.hd hc)
  have lk : ks.length = its.length := by
    have z := rv.length
    rw [List.length_map] at z
    exact z
  have have' : PairsHave (mixKind X.prog X.w) (min its.toArray.size its2.toArray.size) (fun i k v => its.toArray[i]? = some k ∧ its2.toArray[i]? = some v) (ks.zip its2) := by
    refine ⟨by rw [List.length_zip, List.size_toArray, List.size_toArray, lk], fun i key v r => ?_⟩
    obtain ⟨e1, e2⟩ := r
    rw [List.getElem?_toArray] at e1 e2
    have hi : i < ks.length := by
      rw [lk]
      exact (List.getElem?_eq_some_iff.mp e1).1
    have ek : ks[i]? = some ks[i] := List.getElem?_eq_getElem hi
    refine ⟨ks[i], ?_, ?_⟩
    · rw [List.getElem?_zip_eq_some]
      exact ⟨ek, e2⟩
    · have em : (ks.map kV)[i]? = some (kV ks[i]) := by
        rw [List.getElem?_map, ek]
        rfl
      obtain ⟨u, eu, ru⟩ := rv.get em
      rw [e1] at eu
      cases eu
      exact rel_key ru
  have small : min its.toArray.size its2.toArray.size ≤ sizeLine := by
    rw [List.size_toArray, List.size_toArray, ← rv2.length]
    exact Nat.le_trans (Nat.min_le_right ..) hz2
  refine PySem.call_dict_pairs (knd := mixKind X.prog X.w) P (I1.ok.hd hc) ⟨hz', hTI, ⟨_, _, hTO⟩, ⟨⟨_, g1, rfl, rfl⟩, isT'⟩, ⟨⟨_, g2, rfl, rfl⟩, isL'⟩⟩ have' small fun h'' tk hd' k => ?_
  have old : ∀ c o, s1.heap.get? c = some o → h''.get? c = some o := fun c o e => by
    have lc : c < n := en ▸ Heap.lt_size e
    have lc' : (c : Nat) < n := lc
    refine k c o ?_ (hk c o e)
    simp only [List.mem_cons, List.not_mem_nil, or_false, not_or]
    exact ⟨ltA (Nat.lt_of_lt_of_le lc' (Nat.le_add_right _ _)), ltA (Nat.lt_of_lt_of_le lc' (Nat.le_add_right _ _)), ltA lc', ltA (Nat.lt_of_lt_of_le lc' (Nat.le_add_right _ _))⟩
  have big := I1.big
  rw [en] at big
  have below : s1.heap.objs.size ≤ h'.objs.size := by
    rw [en, hsz]
    exact Nat.le_add_right _ _
  have hm : (h'.objs.size == sysModules) = false := by
    rw [hsz]
    exact beq_eq_false_iff_ne.mpr (Nat.ne_of_gt (Nat.lt_of_lt_of_le big (Nat.le_add_right _ _)))
  have rel := kv_zip (ks := ks) rv2
  have hlen : (mergeK [] (ks.zip ys)).length ≤ sizeLine := by
    refine Nat.le_trans (length_mergeK (ks.zip ys) []) ?_
    rw [List.length_nil, Nat.zero_add, List.length_zip]
    exact Nat.le_trans (Nat.min_le_right ..) hz2
  exact ⟨.ref h'.objs.size, _, I1.laid (t' := tk) (a := h'.objs.size) (o := .dK (mergeK [] (ks.zip ys))) old below (show ObjOk X.prog X.w _ _ _ (.dK (mergeK [] (ks.zip ys))) from ⟨hlen, hm, merged [] (ks.zip its2), KV.merge rel .nil, hd'⟩), rfl, q _ (I1.hok.fresh below)⟩
end Uq

namespace Uq
open PySem PySem.Spec PyProof.Rows L2
/-! ### in, not in: data within a tuple of data -/
section
variable {X : Cx}
def rInTp (K : PySem.W.Frag) (neg : Bool) : R2 := fun x y H Q => ∃ d ds, Dp K H x d ∧ Dp K H y (.tuple ds) ∧ SeqAt.shaped d = true ∧ SeqAt.shaped (.tuple ds) = true ∧ Q (.bl (if neg then !(ds.any fun z => PyData.eqv z d) else ds.any fun z => PyData.eqv z d)) H
theorem op_inTp (hu : X.A.units + 65 < cLine) : OpR X (compareOp .In) (rInTp X.K false) := by
  intro pins s σ H x y v u Q I rx ry ⟨d, ds, hd, he, sd, se, q⟩
  obtain ⟨as, r1⟩ := Dp.reads I d x v hd rx
  obtain ⟨bs, r2⟩ := Dp.reads I (.tuple ds) y u he ry
  exact SeqAt.in_tuple_reads r2 r1 (SeqAt.canLay_of_shaped se) (SeqAt.canLay_of_shaped sd) (room_in_shaped sd hu) ⟨.bl _, H, I, rfl, q⟩
theorem op_notInTp (hu : X.A.units + 65 < cLine) : OpR X (compareOp .NotIn) (rInTp X.K true) := by
  intro pins s σ H x y v u Q I rx ry ⟨d, ds, hd, he, sd, se, q⟩
  obtain ⟨as, r1⟩ := Dp.reads I d x v hd rx
  obtain ⟨bs, r2⟩ := Dp.reads I (.tuple ds) y u he ry
  exact SeqAt.notIn_tuple_reads r2 r1 (SeqAt.canLay_of_shaped se) (SeqAt.canLay_of_shaped sd) (room_in_shaped sd hu) ⟨.bl _, H, I, rfl, q⟩
end
/-- a list display: its place is none of the top's -/
theorem pe_lstN {X : Cx} {es : List Expr} {t : TA} {pos : Pos} (h : PA X es t) : PE X (.List es pos) (tLstB t) := by
  constructor
  intro pins s σ H Q I hq
  apply wpAny_List_spliced
  apply thn (h.run pos pins s σ H _ I hq)
  rintro us s1 ⟨xs, H1, I1, r, z, q⟩
  rw [r.length] at z
  refine ⟨z, ?_⟩
  have hf : H1 s1.heap.objs.size = none := I1.hok.fresh (Nat.le_refl _)
  have new : ObjOk X.prog X.w (upd H1 s1.heap.objs.size (.lst xs)) (s1.heap.push { cls := .type "list", data := .seq us.toArray }) s1.heap.objs.size (.lst xs) := ⟨by rw [r.length]; exact z, us, 0, r, Heap.get?_push_size _ rfl⟩
  exact ⟨.ref s1.heap.objs.size, _, I1.laid (t' := s1.toks) (fun b u e => Heap.get?_push_of_some _ e) (Nat.le_refl _) new, rfl, q _ hf (Nat.ne_of_gt I1.big)⟩
end Uq

namespace Uq
open PySem PySem.Spec PyProof.Rows L2
theorem all_rep (k : Nat) : (List.replicate k true).all id = true := by
  rw [List.all_eq_true]
  intro x hx
  exact (List.mem_replicate.mp hx).2
def topS (i : Nat) : Stmt := PySem.Challenge.pw_anyasked_k04_units_shares_and_counts_ref.main.body.getD i (.Pass ⟨0, 0, 0, 0⟩)
abbrev s_is_integer : Stmt := topS 7
abbrev N_is_integer : List Str := ["value"]
theorem sc_is_integer : FnScope N_is_integer ["value"] (defScope s_is_integer) := ⟨rfl, rfl, rfl, by decide +kernel, rfl, by decide +kernel, by decide +kernel⟩
abbrev s_least_terms : Stmt := topS 8
abbrev N_least_terms : List Str := ["over", "under", "common"]
theorem sc_least_terms : FnScope N_least_terms ["over", "under"] (defScope s_least_terms) := ⟨rfl, rfl, rfl, by decide +kernel, rfl, by decide +kernel, by decide +kernel⟩
abbrev s_is_units : Stmt := topS 12
abbrev N_is_units : List Str := ["value", "base", "how"]
theorem sc_is_units : FnScope N_is_units ["value"] (defScope s_is_units) := ⟨rfl, rfl, rfl, by decide +kernel, rfl, by decide +kernel, by decide +kernel⟩
abbrev s_is_share : Stmt := topS 13
abbrev N_is_share : List Str := ["units", "value"]
theorem sc_is_share : FnScope N_is_share ["units", "value"] (defScope s_is_share) := ⟨rfl, rfl, rfl, by decide +kernel, rfl, by decide +kernel, by decide +kernel⟩
abbrev s_rounded : Stmt := topS 14
abbrev N_rounded : List Str := ["how", "many", "whole", "below", "rest"]
theorem sc_rounded : FnScope N_rounded ["how", "many", "whole"] (defScope s_rounded) := ⟨rfl, rfl, rfl, by decide +kernel, rfl, by decide +kernel, by decide +kernel⟩
abbrev s_shown : Stmt := topS 15
abbrev N_shown : List Str := ["units", "many", "whole", "base", "how"]
theorem sc_shown : FnScope N_shown ["units", "many", "whole"] (defScope s_shown) := ⟨rfl, rfl, rfl, by decide +kernel, rfl, by decide +kernel, by decide +kernel⟩
abbrev s_reach : Stmt := topS 16
abbrev N_reach : List Str := ["how", "number", "is_even"]
theorem sc_reach : FnScope N_reach ["how", "number"] (defScope s_reach) := ⟨rfl, rfl, rfl, by decide +kernel, rfl, by decide +kernel, by decide +kernel⟩
abbrev s_stretch : Stmt := topS 17
abbrev N_stretch : List Str := ["units", "share", "base", "how", "low", "is_low", "high", "is_high", "whole"]
theorem sc_stretch : FnScope N_stretch ["units", "share"] (defScope s_stretch) := ⟨rfl, rfl, rfl, by decide +kernel, rfl, by decide +kernel, by decide +kernel⟩
abbrev s_law_pot : Stmt := topS 19
abbrev N_law_pot : List Str := ["_law_script", "_law_place", "_law_cell", "_law_own", "_law_small"]
theorem sc_law_pot : FnScope N_law_pot ["_law_script", "_law_place"] (defScope s_law_pot) := ⟨rfl, rfl, rfl, by decide +kernel, rfl, by decide +kernel, by decide +kernel⟩
abbrev s_law_take : Stmt := topS 20
abbrev N_law_take : List Str := ["_law_pot_here", "_law_upto", "_law_digit", "_law_prime", "_law_stir"]
theorem sc_law_take : FnScope N_law_take ["_law_pot_here", "_law_upto"] (defScope s_law_take) := ⟨rfl, rfl, rfl, by decide +kernel, rfl, by decide +kernel, by decide +kernel⟩
abbrev s_law_of : Stmt := topS 21
abbrev N_law_of : List Str := ["_law_pot_here", "_law_some"]
theorem sc_law_of : FnScope N_law_of ["_law_pot_here", "_law_some"] (defScope s_law_of) := ⟨rfl, rfl, rfl, by decide +kernel, rfl, by decide +kernel, by decide +kernel⟩
abbrev s_law_cells : Stmt := topS 22
abbrev N_law_cells : List Str := ["_law_script", "_law_most"]
theorem sc_law_cells : FnScope N_law_cells ["_law_script", "_law_most"] (defScope s_law_cells) := ⟨rfl, rfl, rfl, by decide +kernel, rfl, by decide +kernel, by decide +kernel⟩
abbrev s_law_units : Stmt := topS 23
abbrev N_law_units : List Str := ["_law_pot_here", "_law_most"]
theorem sc_law_units : FnScope N_law_units ["_law_pot_here", "_law_most"] (defScope s_law_units) := ⟨rfl, rfl, rfl, by decide +kernel, rfl, by decide +kernel, by decide +kernel⟩
abbrev s_law_is_int : Stmt := topS 24
abbrev N_law_is_int : List Str := ["_law_value", "_law_low", "_law_high"]
theorem sc_law_is_int : FnScope N_law_is_int ["_law_value", "_law_low", "_law_high"] (defScope s_law_is_int) := ⟨rfl, rfl, rfl, by decide +kernel, rfl, by decide +kernel, by decide +kernel⟩
abbrev s_law_told : Stmt := topS 25
abbrev N_law_told : List Str := ["_law_look", "_law_caught", "_law_back", "error"]
theorem sc_law_told : FnScope N_law_told ["_law_look"] (defScope s_law_told) := ⟨rfl, rfl, rfl, by decide +kernel, rfl, by decide +kernel, by decide +kernel⟩
abbrev s_law_odd : Stmt := topS 26
abbrev N_law_odd : List Str := ["_law_pot_here", "_law_some"]
theorem sc_law_odd : FnScope N_law_odd ["_law_pot_here"] (defScope s_law_odd) := ⟨rfl, rfl, rfl, by decide +kernel, rfl, by decide +kernel, by decide +kernel⟩
abbrev s_law_bent : Stmt := topS 27
abbrev N_law_bent : List Str := ["_law_pot_here", "_law_value", "_law_at", "_law_some"]
theorem sc_law_bent : FnScope N_law_bent ["_law_pot_here", "_law_value"] (defScope s_law_bent) := ⟨rfl, rfl, rfl, by decide +kernel, rfl, by decide +kernel, by decide +kernel⟩
abbrev s_law_is_units : Stmt := topS 28
abbrev N_law_is_units : List Str := ["_law_value"]
theorem sc_law_is_units : FnScope N_law_is_units ["_law_value"] (defScope s_law_is_units) := ⟨rfl, rfl, rfl, by decide +kernel, rfl, by decide +kernel, by decide +kernel⟩
abbrev s_law_is_due : Stmt := topS 29
abbrev N_law_is_due : List Str := ["_law_look", "_law_word", "_law_value", "_law_caught", "_law_marks", "_law_one"]
theorem sc_law_is_due : FnScope N_law_is_due ["_law_look", "_law_word", "_law_value"] (defScope s_law_is_due) := ⟨rfl, rfl, rfl, by decide +kernel, rfl, by decide +kernel, by decide +kernel⟩
abbrev s_law_shown_due : Stmt := topS 30
abbrev N_law_shown_due : List Str := ["_law_units_here", "_law_many", "_law_whole"]
theorem sc_law_shown_due : FnScope N_law_shown_due ["_law_units_here", "_law_many", "_law_whole"] (defScope s_law_shown_due) := ⟨rfl, rfl, rfl, by decide +kernel, rfl, by decide +kernel, by decide +kernel⟩
abbrev s_law_stretch_due : Stmt := topS 31
abbrev N_law_stretch_due : List Str := ["_law_units_here", "_law_share"]
theorem sc_law_stretch_due : FnScope N_law_stretch_due ["_law_units_here", "_law_share"] (defScope s_law_stretch_due) := ⟨rfl, rfl, rfl, by decide +kernel, rfl, by decide +kernel, by decide +kernel⟩
abbrev s_law_right : Stmt := topS 32
abbrev N_law_right : List Str := ["_law_pot_here", "_law_lap", "_law_right_here", "_law_wrong", "_law_due", "_law_top", "_law_some", "_law_many", "_law_share", "_law_units_here", "_law_whole"]
theorem sc_law_right : FnScope N_law_right ["_law_pot_here"] (defScope s_law_right) := ⟨rfl, rfl, rfl, by decide +kernel, rfl, by decide +kernel, by decide +kernel⟩
abbrev s_law : Stmt := topS 33
abbrev N_law : List Str := ["_law_script", "_law_place"]
theorem sc_law : FnScope N_law ["_law_script"] (defScope s_law) := ⟨rfl, rfl, rfl, by decide +kernel, rfl, by decide +kernel, by decide +kernel⟩

section
variable {P : Program} {w : World} {K : PySem.W.Frag} {mg : Str → Option Value} {base : Heap}
theorem ok_law_take {f : Addr} {fd : FuncData} (F : Fun K "_law_take" "_law_take" s_law_take f fd) (m_int : mg "int" = none) : FnOk P w K mg base CX0 1 f fd ["_law_pot_here", "_law_upto"] (sp_law_take K) := by
  refine F.ok sc_law_take (fun vs H Q E h => ?_) (fun cdv A outer s H vs Q E hr h => ?_)
  · obtain ⟨p, c, u, rfl, _⟩ := h
    rfl
  · refine ⟨_, (pss_cons (ps_if (pt_cmpR op_gt (pe_ix ix_list (pv 0) pe_int (fun _ _ => rfl)) pe_int (nomark _)) (pss_cons (ps_set (i := 2) sc_law_take.nd rfl (.inl rfl) (pe_op op_mod (pe_callTy call_int1 (by rfl) m_int (by decide +kernel) (pa_cons (pe_ix ix_list (pv 0) pe_int (fun _ _ => rfl)) pa_nil)) (pv 1)))
        (pss_cons (ps_asg (pe_op op_fdivW (pe_ix ix_list (pv 0) pe_int (fun _ _ => rfl)) (pv 1)) (pg_sub (pv 0) pe_int set_list))
        (pss_one (ps_ret (pv 2))))) pss_nil)
      (pss_cons (ps_asg (pe_op op_add (pe_ix ix_list (pv 0) pe_int (fun _ _ => rfl)) pe_int) (pg_sub (pv 0) pe_int set_list))
      (pss_cons (ps_set (i := 3) sc_law_take.nd rfl (.inl rfl) (pe_ix ix_list (pe_lst (pa_cons pe_int (pa_cons pe_int (pa_cons pe_int (pa_cons pe_int (pa_cons pe_int pa_nil)))))) (pe_op op_mod (pe_callTy call_int1 (by rfl) m_int (by decide +kernel) (pa_cons (pe_ix ix_list (pv 0) pe_int (fun _ _ => rfl)) pa_nil)) pe_int) (fun _ _ => rfl)))
      (pss_cons (ps_set (i := 4) sc_law_take.nd rfl (.inl rfl) (pe_op op_mod (pe_callTy call_int1 (by rfl) m_int (by decide +kernel) (pa_cons (pe_op op_powW (pe_callTy call_int1 (by rfl) m_int (by decide +kernel) (pa_cons (pe_op op_add (pe_op op_add (pe_ix ix_list (pv 0) pe_int (fun _ _ => rfl)) (pe_op op_mul (pe_op op_mul pe_int (pe_ix ix_list (pv 0) pe_int (fun _ _ => rfl))) (pe_ix ix_list (pv 0) pe_int (fun _ _ => rfl)))) pe_int) pa_nil)) pe_int) pa_nil)) (pv 3)))
      (pss_cons (ps_set (i := 4) sc_law_take.nd rfl (.inl rfl) (pe_op op_mod (pe_callTy call_int1 (by rfl) m_int (by decide +kernel) (pa_cons (pe_op op_mul (pv 4) (pe_op op_add (pe_op op_mod (pe_callTy call_int1 (by rfl) m_int (by decide +kernel) (pa_cons (pv 4) pa_nil)) pe_int) (pe_op op_mul pe_int (pe_ix ix_list (pv 0) pe_int (fun _ _ => rfl))))) pa_nil)) pe_int))
      (pss_one (ps_ret (pe_op op_mod (pe_callTy call_int1 (by rfl) m_int (by decide +kernel) (pa_cons (pe_op op_fdivW (pv 4) pe_int) pa_nil)) (pv 1))))))))), ?_⟩
    obtain ⟨p, c, u, rfl, ⟨o, sd, n, hp, o0, o1, s0, s1, n0, n1⟩, hc, hu, hu2, q⟩ := h
    refine ⟨.ref p, rfl, p, _, 0, .int o, rfl, rfl, SqL.of hp, atI_nat (j := 0) rfl, o, 0, rfl, rfl, _, rfl, ite2 (fun e => ?_) (fun e => ?_)⟩
    · have e0 : 0 < o := of_decide_eq_true e
      -- the digit
      refine ⟨.ref p, rfl, p, _, 0, .int o, rfl, rfl, SqL.of hp, atI_nat (j := 0) rfl, .inl ⟨o, rfl, .int u, rfl, o, u, rfl, rfl, (by show (0 : Int) < u; omega), ?_⟩⟩
      refine ⟨.ref p, rfl, p, _, 0, .int o, rfl, rfl, SqL.of hp, atI_nat (j := 0) rfl, .int u, rfl, o, u, rfl, rfl, wide_div (b := 62) (by omega) (by omega) (by decide) (by decide), ?_⟩
      refine ⟨.ref p, rfl, p, _, 0, 0, rfl, rfl, hp, rfl, ?_⟩
      refine ⟨.int (o % u), rfl, ?_⟩
      refine q _ _ (But.refl _ _).put ⟨o / u, sd, n, upd_same, Int.ediv_nonneg (by omega) (by omega), Int.lt_of_le_of_lt (Int.ediv_le_self _ o0) o1, s0, s1, n0, by omega⟩ (Int.emod_nonneg _ (by omega)) (Int.emod_lt_of_pos _ (by omega))
    · -- the count
      refine ⟨.ref p, rfl, p, _, 2, .int n, rfl, rfl, SqL.of hp, atI_nat (j := 2) rfl, n, 1, rfl, rfl, .ref p, rfl, p, _, 2, 2, rfl, rfl, hp, rfl, ?_⟩
      generalize hG : L2.upd H p _ = G
      have hg : G p = some (.lst [.int o, .int sd, .int (n + 1)]) := by
        rw [← hG]
        exact upd_same
      have hB : But p H G := by
        rw [← hG]
        exact (But.refl _ _).put
      refine ⟨by show 5 ≤ sizeLine; decide, fun l nl => ?_⟩
      have hg2 : (upd G l (.lst [.int 2147483647, .int 2147483629, .int 2147483587, .int 2147483579, .int 2147483563])) p = some (.lst [.int o, .int sd, .int (n + 1)]) := by
        rw [upd_ne (ne_of_none hg nl)]
        exact hg
      have hB2 : But p H (upd G l (.lst [.int 2147483647, .int 2147483629, .int 2147483587, .int 2147483579, .int 2147483563])) := hB.new nl
      refine ⟨.ref p, rfl, p, _, 2, .int (n + 1), rfl, rfl, SqL.of hg2, atI_nat (j := 2) rfl, .inl ⟨n + 1, rfl, n + 1, 5, rfl, rfl, (by show (0 : Int) < 5; decide), ?_⟩⟩
      have hpr : ∃ (k : Nat) (z : Int), (n + 1) % 5 = (k : Int) ∧ [V.int 2147483647, .int 2147483629, .int 2147483587, .int 2147483579, .int 2147483563][k]? = some (.int z) ∧ 1 ≤ z ∧ z < 2147483648 := by
        have a0 : 0 ≤ (n + 1) % 5 := Int.emod_nonneg _ (by decide)
        have a1 : (n + 1) % 5 < 5 := Int.emod_lt_of_pos _ (by decide)
        obtain e | e | e | e | e : (n + 1) % 5 = 0 ∨ (n + 1) % 5 = 1 ∨ (n + 1) % 5 = 2 ∨ (n + 1) % 5 = 3 ∨ (n + 1) % 5 = 4 := by omega
        · exact ⟨0, _, e, rfl, by decide, by decide⟩
        · exact ⟨1, _, e, rfl, by decide, by decide⟩
        · exact ⟨2, _, e, rfl, by decide, by decide⟩
        · exact ⟨3, _, e, rfl, by decide, by decide⟩
        · exact ⟨4, _, e, rfl, by decide, by decide⟩
      obtain ⟨k, z, ek, ez, z1, z2⟩ := hpr
      refine ⟨l, _, _, .int z, rfl, rfl, SqL.of upd_same, at_of ek ez, ?_⟩
      generalize hG2 : L2.upd G l _ = G2 at hg2 hB2 ⊢
      -- the stir
      refine ⟨.ref p, rfl, p, _, 1, .int sd, rfl, rfl, SqL.of hg2, atI_nat (j := 1) rfl, .ref p, rfl, p, _, 2, .int (n + 1), rfl, rfl, SqL.of hg2, atI_nat (j := 2) rfl, _, n + 1, rfl, rfl, .inl ⟨by decide, by decide⟩,
        .ref p, rfl, p, _, 2, .int (n + 1), rfl, rfl, SqL.of hg2, atI_nat (j := 2) rfl, _, n + 1, rfl, rfl, .inl ⟨by omega, by omega⟩, sd, _, rfl, rfl, _, _, rfl, rfl, .inl ⟨_, rfl, ?_⟩⟩
      generalize hx : sd + _ = x
      have hx1 : (x + 69).natAbs < 2 ^ 200 := by
        have h9 : (n + 1) * (n + 1) ≤ 100000 * 100000 := Int.mul_le_mul (by omega) (by omega) (by omega) (by decide)
        have h8 : 0 ≤ (n + 1) * (n + 1) := Int.mul_nonneg (by omega) (by omega)
        have h7 := Int.mul_assoc 110097 (n + 1) (n + 1)
        omega
      refine ⟨_, 3, rfl, rfl, powW_ok (j := 3) hx1 (by decide), .inl ⟨_, rfl, .int z, rfl, _, z, rfl, rfl, (by show (0 : Int) < z; omega), ?_⟩⟩
      dsimp only
      generalize hy : (x + 69) ^ _ % z = y
      have y0 : 0 ≤ y := by
        rw [← hy]
        exact Int.emod_nonneg _ (by omega)
      have y1 : y < z := by
        rw [← hy]
        exact Int.emod_lt_of_pos _ (by omega)
      refine ⟨.int y, rfl, .int y, rfl, .inl ⟨y, rfl, y, _, rfl, rfl, (by show (0 : Int) < 10069; decide), .ref p, rfl, p, _, 2, .int (n + 1), rfl, rfl, SqL.of hg2, atI_nat (j := 2) rfl, _, n + 1, rfl, rfl, .inl ⟨by decide, by decide⟩, _, _, rfl, rfl, y, _, rfl, rfl, .inl ⟨by omega, by omega⟩,
        .inl ⟨_, rfl, _, _, rfl, rfl, (by show (0 : Int) < 2305843009213693907; decide), ?_⟩⟩⟩
      dsimp only
      generalize ht : _ % (2305843009213693907 : Int) = t
      refine ⟨.int t, rfl, t, _, rfl, rfl, wide_div (b := 62) (by decide) (by decide) (by decide) (by decide), .inl ⟨_, rfl, .int u, rfl, _, u, rfl, rfl, (by show (0 : Int) < u; omega), ?_⟩⟩
      exact q _ _ hB2 ⟨o, sd, n + 1, hg2, o0, o1, s0, s1, by omega, by omega⟩ (Int.emod_nonneg _ (by omega)) (Int.emod_lt_of_pos _ (by omega))

theorem ok_law_of {f : Addr} {fd : FuncData} (F : Fun K "_law_of" "_law_of" s_law_of f fd) (m_len : mg "len" = none) (c_law_take : Cal P w K mg base 1 "_law_take" ["_law_pot_here", "_law_upto"] (sp_law_take K)) : FnOk P w K mg base CX0 2 f fd ["_law_pot_here", "_law_some"] (sp_law_of K) := by
  refine F.ok sc_law_of (fun vs H Q E h => ?_) (fun cdv A outer s H vs Q E hr h => ?_)
  · obtain ⟨p, l, c, xs, rfl, _⟩ := h
    rfl
  · refine ⟨_, (pss_one (ps_ret (pe_ix ix_list (pv 1) (pe_call c_law_take.G (hr.mono (by decide)) (by rfl) c_law_take.g c_law_take.kp c_law_take.b .nil pass0 (pa_cons (pv 0) (pa_cons (pe_callB call_len_seq (by rfl) m_len (by decide +kernel) (pa_cons (pv 1) pa_nil)) pa_nil))) (fun _ _ => rfl)))), ?_⟩
    obtain ⟨p, l, c, xs, rfl, hp, hc, hlp, hl, h0, h1, q⟩ := h
    refine ⟨.ref l, rfl, .ref p, rfl, .ref l, rfl, l, xs, rfl, .inl hl, p, c, xs.length, rfl, hp, hc, by omega, by omega, fun H' d hB hP d0 d1 => ?_⟩
    have hd : d.toNat < xs.length := by omega
    have ed : d = (d.toNat : Int) := by omega
    exact ⟨l, xs, d, xs[d.toNat], rfl, rfl, hB.seqL hlp hl, at_of ed (List.getElem?_eq_getElem hd), q H' d.toNat _ hB hP (List.getElem?_eq_getElem hd)⟩

theorem ok_law_cells {f : Addr} {fd : FuncData} (F : Fun K "_law_cells" "_law_cells" s_law_cells f fd) (m_range : mg "range" = none) (m_max : mg "max" = none) (m_min : mg "min" = none) (m_len : mg "len" = none) (m_list : mg "list" = none) : FnOk P w K mg base CX0 1 f fd ["_law_script", "_law_most"] (sp_law_cells K) := by
  refine F.ok sc_law_cells (fun vs H Q E h => ?_) (fun cdv A outer s H vs Q E hr h => ?_)
  · obtain ⟨a, ns, m, rfl, _⟩ := h
    rfl
  · refine ⟨_, (pss_one (ps_ret (pe_listRg rfl (by rfl) m_list (prg_1 (by rfl) m_range (pe_callB (call_max2 rfl) (by rfl) m_max (by decide +kernel) (pa_cons pe_int (pa_cons (pe_callB (call_min2 rfl) (by rfl) m_min (by decide +kernel) (pa_cons (pv 1) (pa_cons (pe_callB call_len_seq (by rfl) m_len (by decide +kernel) (pa_cons (pv 0) pa_nil)) pa_nil))) pa_nil))))))), ?_⟩
    obtain ⟨a, ns, m, rfl, hl, hn, hm, hm2, q⟩ := h
    refine ⟨.int m, rfl, .ref a, rfl, a, _, rfl, .inl hl, m, _, rfl, 1, _, rfl, _, rfl, ?_, ?_⟩
    · refine RgOk.of_le (by decide) ?_ (by decide) ?_ <;> (rw [List.length_map]; split <;> split <;> omega)
    · intro l nl
      have ek : ∃ k : Nat, (if (if ((ns.map V.int).length : Int) < m then ((ns.map V.int).length : Int) else m) > 1 then (if ((ns.map V.int).length : Int) < m then ((ns.map V.int).length : Int) else m) else 1) = (k : Int) ∧ 1 ≤ k ∧ k ≤ 63 := by
        rw [List.length_map]
        refine ⟨(if (if (ns.length : Int) < m then (ns.length : Int) else m) > 1 then (if (ns.length : Int) < m then (ns.length : Int) else m) else 1).toNat, ?_, ?_, ?_⟩ <;> (split <;> split <;> omega)
      obtain ⟨k, e1, k1, k2⟩ := ek
      rw [e1]
      exact q _ l k nl (sameU nl) upd_same k1 k2

theorem ok_law_pot {f : Addr} {fd : FuncData} (F : Fun K "_law_pot" "_law_pot" s_law_pot f fd) (m_len : mg "len" = none) (m_int : mg "int" = none) (m_abs : mg "abs" = none) : FnOk P w K mg base CX0 1 f fd ["_law_script", "_law_place"] (sp_law_pot K) := by
  refine F.ok sc_law_pot (fun vs H Q E h => ?_) (fun cdv A outer s H vs Q E hr h => ?_)
  · obtain ⟨a, ns, m, rfl, _⟩ := h
    rfl
  · refine ⟨_, (pss_cons (ps_set (i := 2) sc_law_pot.nd rfl (.inl rfl) (pe_ifExp (pt_cmpR op_lt (pv 1) (pe_callB call_len_seq (by rfl) m_len (by decide +kernel) (pa_cons (pv 0) pa_nil)) (nomark _)) (pe_ix ix_list (pv 0) (pv 1) (fun _ _ => rfl)) (pe_op op_add (pe_op op_mul pe_int (pv 1)) pe_int)))
      (pss_cons (ps_set (i := 3) sc_law_pot.nd rfl (.inl rfl) (pe_op op_mul (pe_op op_mod (pe_callTy call_int1 (by rfl) m_int (by decide +kernel) (pa_cons (pe_callB call_abs (by rfl) m_abs (by decide +kernel) (pa_cons (pv 2) pa_nil)) pa_nil)) (pe_op op_powW (pe_op op_powW pe_int pe_int) pe_int)) (pe_callTy call_int1 (by rfl) m_int (by decide +kernel) (pa_cons (pe_cmpR op_ge (pe_callB call_abs (by rfl) m_abs (by decide +kernel) (pa_cons (pv 2) pa_nil)) (pe_op op_powW pe_int pe_int) (nomark _)) pa_nil))))
      (pss_cons (ps_set (i := 4) sc_law_pot.nd rfl (.inl rfl) (pe_op op_mod (pe_callTy call_int1 (by rfl) m_int (by decide +kernel) (pa_cons (pv 2) pa_nil)) pe_int))
      (pss_one (ps_ret (pe_lst (pa_cons (pv 3) (pa_cons (pe_op op_mod (pe_callTy call_int1 (by rfl) m_int (by decide +kernel) (pa_cons (pe_op op_add (pe_op op_add (pe_op op_mul (pv 4) pe_int) (pe_op op_mul (pe_op op_mul pe_int (pv 1)) (pv 1))) pe_int) pa_nil)) pe_int) (pa_cons pe_int pa_nil))))))))), ?_⟩
    obtain ⟨a, ns, m, rfl, hl, hn, hm, hm2, q⟩ := h
    refine rd_cell hl hm ⟨by decide, by decide⟩ rfl rfl fun z => ?_
    refine ⟨.int z, rfl, z, rfl, .inl ⟨_, rfl, 10, 60, rfl, rfl, bigB, _, 5, rfl, rfl, bigA, _, _, rfl, rfl, big_pos, .int z, rfl, z, rfl, 10, 18, rfl, rfl, bigC, _, _, rfl, rfl, .inr ⟨_, rfl, _, _, rfl, rfl, .inr (b01 _), ?_⟩⟩⟩
    · dsimp only
      have o0 := own_ok (if z < 0 then -z else z) (decide ((10 : Int) ^ (18 : Int).toNat ≤ if z < 0 then -z else z))
      generalize ((if z < 0 then -z else z) % ((10 : Int) ^ (60 : Int).toNat) ^ (5 : Int).toNat) * (if decide ((10 : Int) ^ (18 : Int).toNat ≤ if z < 0 then -z else z) = true then (1 : Int) else 0) = o at o0 ⊢
      refine ⟨.int z, rfl, .inl ⟨z, rfl, z, _, rfl, rfl, (by show (0 : Int) < 2305843009213693951; decide), ?_⟩⟩
      dsimp only
      generalize hz : z % 2305843009213693951 = y
      refine ⟨.int o, rfl, .int y, rfl, y, _, rfl, rfl, .inr ⟨by decide, by decide⟩, .int m, rfl, _, m, rfl, rfl, .inl ⟨by decide, by decide⟩, .int m, rfl, _, m, rfl, rfl, .inr ⟨by omega, by omega⟩, _, _, rfl, rfl, _, _, rfl, rfl, .inl ⟨_, rfl, _, _, rfl, rfl, (by show (0 : Int) < 2305843009213693921; decide), ?_⟩⟩
      refine ⟨by show 3 ≤ sizeLine; decide, fun p np => ?_⟩
      refine q _ p np (sameU np) ⟨o, _, 0, upd_same, o0.1, o0.2, Int.emod_nonneg _ (by decide), ?_, by decide, by decide⟩
      exact Int.lt_trans (Int.emod_lt_of_pos _ (by decide)) (by decide)
end
end Uq

namespace Uq
open PySem PySem.Spec PyProof.Rows L2

/-! ### units -/
def How (h : Str) : Prop := h = "near" ∨ h = "even" ∨ h = "down" ∨ h = "up"
def Un (K : PySem.W.Frag) (H : Hp) (u : Addr) (b : Int) (h : Str) : Prop := SqT K H u [.int b, .str h] ∧ 2 ≤ b ∧ b ≤ 100 ∧ How h
theorem Un.same {K : PySem.W.Frag} {H H' : Hp} {u : Addr} {b : Int} {h : Str} (e : Same H H') (x : Un K H u b h) : Un K H' u b h := ⟨sqT_same e x.1, x.2⟩
theorem Un.but {K : PySem.W.Frag} {H H' : Hp} {p u : Addr} {b : Int} {h : Str} (e : But p H H') (n : u ≠ p) (x : Un K H u b h) : Un K H' u b h := ⟨e.seqT n x.1, x.2⟩
/-- a tuple of the module's own -/
def TupK (K : PySem.W.Frag) (a : Addr) (xs : List V) : Prop := ∃ (o : Obj) (its : Array Value) (n : Nat), K.lookup a = some o ∧ o.cls = .type "tuple" ∧ o.data = .seq its n ∧ its.size ≤ sizeLine ∧ Vals xs its.toList
def hows : List V := [.str "near", .str "even", .str "down", .str "up"]
theorem in_hows {h : Str} (x : How h) : inV (.str h) hows = true := by
  rcases x with rfl | rfl | rfl | rfl <;> decide +kernel
theorem ty_tup {K : PySem.W.Frag} {H : Hp} {a : Addr} {xs : List V} (h : SqT K H a xs) : TyX K H (.ref a) (.type "tuple") := by
  rcases h with (h | ⟨o, h⟩) | ⟨o, its, n, h, hc, _⟩
  · exact .base (.tup h)
  · exact .fTuple h
  · exact .kTuple h hc
def sp_is_integer (K : PySem.W.Frag) : Sp := fun vs H Q _ => ∃ i : Int, vs = [.int i] ∧ Q (.bl true) H
def sp_is_units (K : PySem.W.Frag) : Sp := fun vs H Q _ => ∃ (u : Addr) (b : Int) (h : Str), vs = [.ref u] ∧ Un K H u b h ∧ Q (.bl true) H
/-- many / whole rounded -/
def rnd (h : Str) (a b : Int) : Int := if h = "down" ∨ a % b = 0 then a / b else if h = "up" ∨ b < 2 * (a % b) then a / b + 1 else if 2 * (a % b) < b then a / b else if h = "near" then a / b + 1 else a / b + a / b % 2
def sp_rounded (K : PySem.W.Frag) : Sp := fun vs H Q _ => ∃ (h : Str) (a b : Int), vs = [.str h, .int a, .int b] ∧ 0 < b ∧ b < 2 ^ 62 ∧ ∀ H', Same H H' → Q (.int (rnd h a b)) H'
def sp_shown (K : PySem.W.Frag) : Sp := fun vs H Q _ => ∃ (u : Addr) (b : Int) (h : Str) (a c : Int), vs = [.ref u, .int a, .int c] ∧ Un K H u b h ∧ 0 < c ∧ c < 2 ^ 62 ∧ 0 ≤ a ∧ a ≤ c ∧ ∀ H', Same H H' → Q (.int (rnd h (b * a) c)) H'
def sp_law_rounded (K : PySem.W.Frag) : Sp := fun vs H Q _ => ∃ (h : Str) (a b : Int), vs = [.str h, .int a, .int b] ∧ How h ∧ 0 < b ∧ b < 2 ^ 62 ∧ Q (.int (rnd h a b)) H
/-- drawn units -/
def sp_law_units (K : PySem.W.Frag) : Sp := fun vs H Q _ => ∃ (p : Addr) (c : Nat) (m : Int), vs = [.ref p, .int m] ∧ Pot H p c ∧ c < 90000 ∧ 2 ≤ m ∧ m ≤ 100 ∧
  ∀ H' u b h, H p ≠ none → But p H H' → Pot H' p (c + 2) → H u = none → u ≠ p → Un K H' u b h → b ≤ m → H' u = some (.tup [.int b, .str h]) → Q (.ref u) H'
theorem str_of {h x : Str} (e : decide (V.str h = V.str x) = true) : h = x := V.str.inj (of_decide_eq_true e)
theorem str_not {h x : Str} (e : ¬ decide (V.str h = V.str x) = true) : h ≠ x := fun z => e (decide_eq_true (by rw [z]))
theorem int_of {i j : Int} (e : decide (V.int i = V.int j) = true) : i = j := V.int.inj (of_decide_eq_true e)
theorem int_not {i j : Int} (e : ¬ decide (V.int i = V.int j) = true) : i ≠ j := fun z => e (decide_eq_true (by rw [z]))
theorem no_pylong {a b : Int} (h : 0 < b) (h2 : b < 2 ^ 62) : CDivP a b := ⟨h, PyProof.noPylong_of_log2 (Nat.lt_of_lt_of_le (PySem.Flt.log2_lt_of (show 0 < 62 by decide) (show b.natAbs < 2 ^ 62 by omega)) (by decide))⟩
section
variable {P : Program} {w : World} {K : PySem.W.Frag} {mg : Str → Option Value} {base : Heap}
theorem ok_is_integer {f : Addr} {fd : FuncData} (F : Fun K "is_integer" "is_integer" s_is_integer f fd) (m_isinstance : mg "isinstance" = none) (m_int : mg "int" = none) (m_bool : mg "bool" = none) : FnOk P w K mg base CX0 1 f fd ["value"] (sp_is_integer K) := by
  refine F.ok sc_is_integer (fun vs H Q E h => ?_) (fun cdv A outer s H vs Q E hr h => ?_)
  · obtain ⟨i, rfl, _⟩ := h
    rfl
  · refine ⟨_, (pss_one (ps_ret (pe_and (pe_callB call_isi (by rfl) m_isinstance (by decide +kernel) (pa_cons (pv 0) (pa_cons (pe_bltn (v := .ty "int") (by rfl) m_int (by decide +kernel) rfl) pa_nil))) (pe_one (pe_not (pe_callB call_isi (by rfl) m_isinstance (by decide +kernel) (pa_cons (pv 0) (pa_cons (pe_bltn (v := .ty "bool") (by rfl) m_bool (by decide +kernel) rfl) pa_nil)))))))), ?_⟩
    obtain ⟨i, rfl, q⟩ := h
    exact ⟨.int i, rfl, .int i, .ty "int", _, _, true, rfl, .ty "int", .base (.int i), kit_ty (by decide +kernel), true, rfl, .int i, rfl, .int i, .ty "bool", _, _, false, rfl, .ty "bool", .base (.int i), kit_ty (by decide +kernel), false, rfl, q⟩

theorem ok_is_units {f : Addr} {fd : FuncData} (F : Fun K "is_units" "is_units" s_is_units f fd) (m_isinstance : mg "isinstance" = none) (m_tuple : mg "tuple" = none) (m_len : mg "len" = none) (m_str : mg "str" = none) {a_HOWS : Addr} (g_HOWS : mg "HOWS" = some (.ref a_HOWS)) (t_HOWS : TupK K a_HOWS hows) (c_is_integer : Cal P w K mg base 1 "is_integer" ["value"] (sp_is_integer K)) : FnOk P w K mg base CX0 2 f fd ["value"] (sp_is_units K) := by
  refine F.ok sc_is_units (fun vs H Q E h => ?_) (fun cdv A outer s H vs Q E hr h => ?_)
  · obtain ⟨u, b, h, rfl, _⟩ := h
    rfl
  · refine ⟨_, (pss_cons (ps_if (PW.pt (pw_or (pt_not (pt_val (pe_callB call_isi (by rfl) m_isinstance (by decide +kernel) (pa_cons (pv 0) (pa_cons (pe_bltn (v := .ty "tuple") (by rfl) m_tuple (by decide +kernel) rfl) pa_nil))))) (pw_or1 (pt_cmpR op_ne (pe_callB call_len_seq (by rfl) m_len (by decide +kernel) (pa_cons (pv 0) pa_nil)) pe_int (nomark _))))) (pss_one (ps_ret pe_bl)) pss_nil)
      (pss_cons (ps_asg (pv 0) (pg_tup rfl (pgs_cons (pg_name (i := 1) sc_is_units.nd rfl (.inl rfl)) (pgs_cons (pg_name (i := 2) sc_is_units.nd rfl (.inl rfl)) pgs_nil))))
      (pss_cons (ps_if (PW.pt (pw_or (pt_not (pt_val (pe_call c_is_integer.G (hr.mono (by decide)) (by rfl) c_is_integer.g c_is_integer.kp c_is_integer.b .nil pass0 (pa_cons (pv 1) pa_nil)))) (pw_or1 (pt_not (pt_val (pe_callB call_isi (by rfl) m_isinstance (by decide +kernel) (pa_cons (pv 2) (pa_cons (pe_bltn (v := .ty "str") (by rfl) m_str (by decide +kernel) rfl) pa_nil)))))))) (pss_one (ps_ret pe_bl)) pss_nil)
      (pss_one (ps_ret (pe_and (pe_chain op_le op_le pe_int (pv 1) pe_int) (pe_one (pe_cmpR op_in_seq (pv 2) (pe_glob (v := .ref a_HOWS) (by rfl) g_HOWS rfl) rfl)))))))), ?_⟩
    obtain ⟨u, b, h, rfl, ⟨hu, b0, b1, hh⟩, q⟩ := h
    refine ⟨.ref u, rfl, .ref u, .ty "tuple", _, _, true, rfl, .ty "tuple", ty_tup hu, kit_ty (by decide +kernel), true, rfl, ?_⟩
    refine iteF ⟨.ref u, rfl, u, _, rfl, .inr hu, rfl, _, rfl, iteF ?_⟩
    refine ⟨.ref u, rfl, u, _, rfl, hu, rfl, _, _, rfl, _, _, rfl, rfl, ?_⟩
    refine ⟨.int b, rfl, b, rfl, true, rfl, iteF ⟨.str h, rfl, .str h, .ty "str", _, _, true, rfl, .ty "str", .base (.str h), kit_ty (by decide +kernel), true, rfl, iteF ?_⟩⟩
    refine ⟨.int b, rfl, 2, b, rfl, rfl, _, rfl, iteDY b0 ?_⟩
    refine ⟨b, 100, rfl, rfl, _, rfl, iteDY b1 ?_⟩
    refine ⟨.str h, rfl, a_HOWS, hows, rfl, .inr (.inr t_HOWS), rfl, by decide +kernel, ?_⟩
    rw [in_hows hh]
    exact q

theorem ok_law_units {f : Addr} {fd : FuncData} (F : Fun K "_law_units" "_law_units" s_law_units f fd) (c_law_of : Cal P w K mg base 2 "_law_of" ["_law_pot_here", "_law_some"] (sp_law_of K)) (c_law_take : Cal P w K mg base 1 "_law_take" ["_law_pot_here", "_law_upto"] (sp_law_take K)) : FnOk P w K mg base CX0 3 f fd ["_law_pot_here", "_law_most"] (sp_law_units K) := by
  refine F.ok sc_law_units (fun vs H Q E h => ?_) (fun cdv A outer s H vs Q E hr h => ?_)
  · obtain ⟨p, c, m, rfl, _⟩ := h
    rfl
  · refine ⟨_, (pss_one (ps_ret (pe_tup (pa_cons (pe_op op_add pe_int (pe_call c_law_take.G (hr.mono (by decide)) (by rfl) c_law_take.g c_law_take.kp c_law_take.b .nil pass0 (pa_cons (pv 0) (pa_cons (pe_op op_sub (pv 1) pe_int) pa_nil)))) (pa_cons (pe_call c_law_of.G (hr.mono (by decide)) (by rfl) c_law_of.g c_law_of.kp c_law_of.b .nil pass0 (pa_cons (pv 0) (pa_cons (pe_lst (pa_cons pe_str (pa_cons pe_str (pa_cons pe_str (pa_cons pe_str pa_nil))))) pa_nil))) pa_nil))))), ?_⟩
    obtain ⟨p, c, m, rfl, hp, hc, m0, m1, q⟩ := h
    refine ⟨.ref p, rfl, .int m, rfl, m, 1, rfl, rfl, p, c, _, rfl, hp, by omega, by omega, by omega, fun H1 d hB hP d0 d1 => ?_⟩
    refine ⟨_, _, rfl, rfl, .ref p, rfl, by show 4 ≤ sizeLine; decide, fun l nl => ?_⟩
    have nlp : l ≠ p := hP.ne nl
    refine ⟨p, l, c + 1, hows, rfl, hP.new nl, by omega, nlp, SqL.of upd_same, by decide, by decide, fun H2 i v hB2 hP2 hv => ?_⟩
    have hh : ∃ h, v = .str h ∧ How h := by
      have hi := (List.getElem?_eq_some_iff.mp hv).1
      have hi4 : i < 4 := hi
      obtain rfl | rfl | rfl | rfl : i = 0 ∨ i = 1 ∨ i = 2 ∨ i = 3 := by omega
      · exact ⟨"near", (Option.some.inj hv).symm, .inl rfl⟩
      · exact ⟨"even", (Option.some.inj hv).symm, .inr (.inl rfl)⟩
      · exact ⟨"down", (Option.some.inj hv).symm, .inr (.inr (.inl rfl))⟩
      · exact ⟨"up", (Option.some.inj hv).symm, .inr (.inr (.inr rfl))⟩
    obtain ⟨h, rfl, hh⟩ := hh
    refine ⟨by show 2 ≤ sizeLine; decide, fun u nu => ?_⟩
    have b3 : But p H (upd H2 u (.tup [.int (2 + d), .str h])) := ((hB.new nl).trans hB2).new nu
    have nup : u ≠ p := hP2.ne nu
    have Hu : H u = none := by
      cases e : H u with
      | none => rfl
      | some o =>
        have z := (((hB.new nl).trans hB2) u o nup e)
        rw [nu] at z
        cases z
    exact q _ u (2 + d) h hp.some b3 (hP2.new nu) Hu nup ⟨SqT.of upd_same, by omega, by omega, hh⟩ (by omega) upd_same
end
end Uq

namespace Uq
open PySem PySem.Spec PyProof.Rows L2

/-! ### except C as e: an exception that is kept is tracked from the clause on -/
/-- at a: an exception of this class and dict -/
def exk (a : Addr) (cls : Value) (d : Option Addr) : HO := .ext fun h => ∃ (ob : Obj) (fv : Array Value), h.get? a = some ob ∧ Zc cls d ob ∧ ob.data = .fields fv
theorem exk_ok {P : Program} {w : World} {H : Hp} {h : Heap} {a : Addr} {cls : Value} {d : Option Addr} {ob : Obj} {fv : Array Value} (e : h.get? a = some ob) (z : Zc cls d ob) (y : ob.data = .fields fv) : ObjOk P w H h a (exk a cls d) :=
  ⟨⟨ob, fv, e, z, y⟩, ⟨ob, e⟩, fun _ _ ⟨o1, f1, e1, z1, y1⟩ k => ⟨o1, f1, k _ e1, z1, y1⟩⟩
theorem exk_at {P : Program} {w : World} {H : Hp} {h : Heap} {a : Addr} {cls : Value} {d : Option Addr} (ok : HOk P w H h) (e : H a = some (exk a cls d)) : ∃ (ob : Obj) (fv : Array Value), h.get? a = some ob ∧ Zc cls d ob ∧ ob.data = .fields fv := by
  have z : ObjOk P w H h a (.ext fun h => ∃ (ob : Obj) (fv : Array Value), h.get? a = some ob ∧ Zc cls d ob ∧ ob.data = .fields fv) := ok a _ e
  exact z.1
section
variable {X : Cx} {pins : List (Addr × Obj)} {σ : L2.St} {H : Hp} {s : Shared}
/-- what is new since the entry, and not tracked, may be tracked -/
theorem Inv.track {a : Addr} {o : HO} (I : Inv X pins σ H s) (n0 : X.s_0.heap.get? a = none) (na : H a = none) (nL : a ≠ X.env.locals) (nC : ∀ x c, X.env.cells.lookup x = some c → c ≠ a) (nP : ∀ p ∈ X.pn ++ pins, p.1 ≠ a)
    (new : ObjOk X.prog X.w (upd H a o) s.heap a o) : Inv X pins σ (upd H a o) s := by
  have B := I.base
  refine ⟨I.ok, I.os, I.bare, ⟨B.keep, B.slot, fun b u e n hx => ?_, B.there, fun b xs e => ?_, fun b u v e => ?_, fun b ps e => ?_⟩, I.loc, I.cell, ?_, fun x c e => ?_, fun p hp => ?_, fun b u e => ?_, I.len⟩
  · have ne : b ≠ a := fun z => by
      rw [z, n0] at e
      cases e
    rw [upd_ne ne]
    exact B.free b u e n hx
  · have z := B.tups b xs e
    rw [upd_ne (ne_of_none z na)]
    exact z
  · have z := B.frzs b u v e
    rw [upd_ne (ne_of_none z na)]
    exact z
  · obtain ⟨more, z⟩ := B.tbls b ps e
    refine ⟨more, ?_⟩
    rw [upd_ne (ne_of_none z na)]
    exact z
  · rw [upd_ne nL.symm]
    exact I.free
  · rw [upd_ne (nC x c e)]
    exact I.freeC x c e
  · obtain ⟨h1, h2, h3, h4, h5⟩ := I.pin p hp
    refine ⟨h1, ?_, h3, h4, h5⟩
    rw [upd_ne (nP p hp)]
    exact h2
  · by_cases z : b = a
    · subst z
      rw [upd_same] at e
      cases e
      exact new
    · rw [upd_ne z] at e
      refine (I.hok b u e).stay (fun _ _ _ q => q) (fun c q => ?_) fun c xs q => ?_
      · rw [upd_ne (ne_of_none q na)]
        exact q
      · rw [upd_ne (ne_of_none q na)]
        exact q
/-- into the clause's suite, with no pins of its own -/
theorem Inv.clause (I : Inv X pins σ H s) (a : Addr) : Inv (X.suite a (X.pn ++ pins)) [] σ H s := by
  have ok := I.ok.suite a (X.pn ++ pins)
  refine ⟨ok, I.os, I.bare, I.base, I.loc, I.cell, I.free, I.freeC, fun p hp => I.pin p ?_, I.hok, I.len⟩
  have hp' : p ∈ (X.pn ++ pins) ++ [] := hp
  rwa [List.append_nil] at hp'
theorem Inv.unclause {a : Addr} {pn' : List (Addr × Obj)} (I : Inv (X.suite a (X.pn ++ pins)) pn' σ H s) (ok : X.Ok) : Inv X pins σ H s := by
  refine ⟨ok, I.os, I.bare, I.base, I.loc, I.cell, I.free, I.freeC, fun p hp => I.pin p ?_, I.hok, I.len⟩
  exact List.mem_append_left _ hp
end
/-- what a clause that keeps its exception asks -/
def wKeep (K : PySem.W.Frag) (c : Value) (i : Nat) (ts : TS) (Wout : WX) (D : Ends) : WX := fun cls d σ H =>
  ∃ b, PySem.W.exmOne K cls c = some b ∧
    (b = true → ∀ a, H a = none → ts { nx := fun σ' H' => D.nx (σ'.set i none) H', rt := D.rt, bk := fun σ' H' => D.bk (σ'.set i none) H', ct := fun σ' H' => D.ct (σ'.set i none) H' } (σ.set i (some (.ref a))) (upd H a (exk a cls d))) ∧
    (b = false → Wout cls d σ H)
section
variable {X : Cx} {x n : Str} {c : Value} {i : Nat} {body suite : List Stmt} {b₀ : Stmt} {np pos pos' : Pos} {tb : WX → TS} {ts : TS} {Wout : WX}
theorem ps_try_keep (hs : X.stack = X.env :: X.outer) (hf : X.env.frame = some X.env.locals) (hex : X.ex = []) (hN : X.N.Nodup) (hi : X.N[i]? = some n) (hln : X.env.kindOf n = some .local) (hc : Names X x c) (tk : Takes X Wout)
    (hb : ∀ (W : WX) (pn : List (Addr × Obj)) (xe : Value → Shared → Prop), Takes (X.tr pn xe) W → PassesOwn (model X.prog X.w) X.A X.env xe → PSs (X.tr pn xe) body (tb W))
    (hsu : ∀ (a : Addr) (pn : List (Addr × Obj)), PSs (X.suite a pn) (b₀ :: suite) ts) :
    PS X (.Try body [.ExceptHandler (some (.Name x np)) (some n) (b₀ :: suite) pos'] [] [] pos) (fun D σ H => tb (wKeep X.K c i ts Wout D) D σ H) := by
  constructor
  intro pins s σ H D I h
  have ok := I.ok
  have frs_ : X.A.frames = some (X.env :: X.outer) := hs ▸ ok.frames
  refine wpAny_Try_except ?_
  have caught : ∀ (u : Value) (s' : Shared), XE (X.tr (X.pn ++ pins) fun e s₁ => wpAny (model X.prog X.w) X.A (noteFrame e X.env) (fun _ s₂ => wpAny (model X.prog X.w) X.A (setFlight e none) (fun _ s₃ =>
      wpAny (model X.prog X.w) X.A (handleBy e X.env [.ExceptHandler (some (.Name x np)) (some n) (b₀ :: suite) pos']) (SP X pins D) X.xe s₃) X.xe s₂) X.xe s₁) (wKeep X.K c i ts Wout D) u s' →
      wpAny (model X.prog X.w) X.A (noteFrame u X.env) (fun _ s₂ => wpAny (model X.prog X.w) X.A (setFlight u none) (fun _ s₃ =>
        wpAny (model X.prog X.w) X.A (handleBy u X.env [.ExceptHandler (some (.Name x np)) (some n) (b₀ :: suite) pos']) (SP X pins D) X.xe s₃) X.xe s₂) X.xe s' := by
    rintro u s' ⟨a, B, sI, pins', σ', H', cls, d, rfl, J', nb, up, sky, na, os, ag, b, hb1, yes, no⟩
    have J : Inv X pins σ' H' sI := J'.ofTry ok
    have sky2 : Sky B (X.env :: X.outer) a (Zc cls d) X.env.locals s'.heap := hs ▸ sky
    refine Sky.land Zc.steady frs_ hf sky2 fun h3 fly up3 => ?_
    have J3 : Inv X pins σ' H' { s' with heap := h3 } := J.landed nb fly.1 (up.trans up3) os ag
    obtain ⟨o3, v3, g3, z3, y3⟩ := fly.there
    -- where it stands
    have off : ∀ {h : Heap} {o : Obj} {vs : Array Value}, h.FunFrames B (X.env :: X.outer) → h.get? a = some o → o.data = .fields vs → a ∉ frs (X.env :: X.outer) := by
      intro h o vs ff e dd hm
      obtain ⟨_, o', e', nf⟩ := ff.mem hm
      rw [e] at e'
      cases e'
      exact nf _ dd
    have aOff := off fly.2.2.1 g3 y3
    have nL : a ≠ X.env.locals := by
      intro z
      refine aOff (List.mem_filterMap.mpr ⟨X.env, List.mem_cons_self, ?_⟩)
      rw [hf, z]
    have notIn : sI.heap.get? a = none := by
      cases q : sI.heap.get? a with
      | none => rfl
      | some o =>
        have y := nb a o q (by rw [hs]; exact aOff)
        rw [fly.2.1] at y
        cases y
    have n0 : X.s_0.heap.get? a = none := by
      cases q : X.s_0.heap.get? a with
      | none => rfl
      | some o =>
        obtain ⟨o', e1⟩ := J.base.there a o q (by rw [hex]; exact fun z => nomatch z)
        rw [notIn] at e1
        cases e1
    have nC : ∀ y c', X.env.cells.lookup y = some c' → c' ≠ a := by
      intro y c' e z
      obtain ⟨v, o, g, k⟩ := J3.cell y c' e
      rw [z, g3] at g
      cases g
      rw [y3] at k
      cases k
    have nP : ∀ p ∈ X.pn ++ pins, p.1 ≠ a := by
      intro p hp z
      have y := (J.pin p hp).1
      rw [z, notIn] at y
      cases y
    have S3 := Inv.clause J3 a
    refine wpAny_handleBy_cons ?_ (by intro q; cases q)
    refine codeAny_handlers_test ?_
    have kind : PySem.W.Looks (model X.prog X.w) h3 (typeOf (.ref a)) cls := by
      intro A Q E s k q
      refine wpAny_typeOf_ref (k _ _ g3) ?_
      rw [z3.1]
      exact q
    have fits := PySem.W.exm_one (M := model X.prog X.w) J3.kIn kind hb1
    have named : ∀ {Q : Value → Shared → Prop} {E : Value → Shared → Prop}, Q c { s' with heap := h3 } → wpAny (model X.prog X.w) (X.A.mark (some (.ref a))) (eval (.Name x np) X.env) Q E { s' with heap := h3 } := by
      intro Q E q
      rcases hc with ⟨hg, hdb, hm | ⟨hm, hv, hnn⟩⟩
      · exact ld_glob (X := X.suite a (X.pn ++ pins)) S3 hg hm q hdb
      · exact ld_blt (X := X.suite a (X.pn ++ pins)) S3 hg hm hv q hnn hdb
    refine named (fits.here ?_)
    cases b with
    | true =>
      refine codeAny_handlers_suite_as ?_
      refine HandSPX.lands_againZ fly fun h4 fly4 up4 => ?_
      have J4 : Inv X pins σ' H' { s' with heap := h4 } := J.landed nb fly4.1 ((up.trans up3).trans up4) os ag
      obtain ⟨o4, v4, g4, z4, y4⟩ := fly4.there
      have K4 : Inv X pins σ' (upd H' a (exk a cls d)) { s' with heap := h4 } := Inv.track J4 n0 na nL nC nP (exk_ok g4 z4 y4)
      refine store_ok (X := X.suite a (X.pn ++ pins)) (v := .ref a) (Inv.clause K4 a) hN hi (.inl hln) rfl (fun s5 S5 => ?_) (.inr hln)
      refine wpAny_mono ((hsu a (X.pn ++ pins)).run [] s5 _ _ _ S5 (yes rfl a na)) ?_ (fun _ _ z => False.elim z)
      have behind : ∀ {s6 : Shared} {σ6 : L2.St} {H6 : Hp} {Q : Shared → Prop}, Inv (X.suite a (X.pn ++ pins)) [] σ6 H6 s6 → (∀ s7, Inv X pins (σ6.set i none) H6 s7 → Q s7) →
          wpAny (model X.prog X.w) X.A (do bindName X.env n .none; unbindBehindTheSuite X.env n pos') (fun _ s7 => Q s7) X.xe s6 := by
        intro s6 σ6 H6 Q S6 hq
        exact gone_ok (Inv.unclause S6 ok) hN hi hln hq
      rintro (_ | _ | _ | u) s6 hsp
      · obtain ⟨σ6, H6, S6, q6⟩ := hsp
        exact behind S6 fun s7 J7 => ⟨_, _, J7, q6⟩
      · obtain ⟨σ6, H6, S6, q6⟩ := hsp
        exact behind S6 fun s7 J7 => ⟨_, _, J7, q6⟩
      · obtain ⟨σ6, H6, S6, q6⟩ := hsp
        exact behind S6 fun s7 J7 => ⟨_, _, J7, q6⟩
      · obtain ⟨v6, σ6, H6, S6, r6, q6⟩ := hsp
        exact behind S6 fun s7 J7 => ⟨_, _, _, J7, r6, q6⟩
    | false =>
      show wpAny _ X.A (handleBy (.ref a) X.env []) _ _ _
      refine wpAny_handleBy_nil ?_
      have fly_ := fly
      obtain ⟨k1, k2, k3, oe, vs, T, oT, ts', he, hz, hd, h1, hr⟩ := fly_
      unfold PySem.passOn
      refine wpAny_bind (wpAny_field he hd h1 ?_)
      rw [if_neg (by simp : ¬ ((Value.ref T == Value.none) = true))]
      have fin : wpAny (model X.prog X.w) X.A (setFlight (.ref a) X.env.frame) (fun _ s4 => wpAny (model X.prog X.w) X.A (throw (.ref a) : Sem Flow) (SP X pins D) X.xe s4) X.xe { s' with heap := h3 } := by
        rw [hf]
        refine HandSPX.setFlight_upZ fly fun h4 held up4 => ?_
        refine wpAny_throw (tk _ _ ⟨a, B, sI, pins, σ', H', cls, d, rfl, J, nb, (up.trans up3).trans up4, .inr (.inr ?_), na, os, ag, no rfl⟩)
        rw [hs]
        exact held
      first
        | exact wpAny_bind (wpAny_pure (wpAny_bind fin))
        | exact wpAny_bind fin
  have body_ := (hb (wKeep X.K c i ts Wout D) (X.pn ++ pins) _ caught PassesOwn.looking).run [] s σ H D (I.toTry _) h
  refine wpAny_mono body_ ?_ (fun _ _ z => z)
  rintro (_ | _ | _ | u) s1 hsp
  · obtain ⟨σ', H', J', q⟩ := hsp
    exact wpAny_execs_nil ⟨σ', H', J'.ofTry ok, q⟩
  · obtain ⟨σ', H', J', q⟩ := hsp
    exact ⟨σ', H', J'.ofTry ok, q⟩
  · obtain ⟨σ', H', J', q⟩ := hsp
    exact ⟨σ', H', J'.ofTry ok, q⟩
  · obtain ⟨v, σ', H', J', r, q⟩ := hsp
    exact ⟨v, σ', H', J'.ofTry ok, r, q⟩
end
end Uq

namespace Uq
open PySem PySem.Spec PyProof.Rows L2 LamX

/-! ### a lambda called where the slots are known, so that what it lets out is caught with them -/
section
variable {X : Cx} {pins : List (Addr × Obj)} {σ σ₀ : L2.St} {H : Hp} {s : Shared}
abbrev cxG (X : Cx) (Ng : List Str) (q : Str) (sg : Scope) (g : Addr) (cdg : Value) (s : Shared) (H : Hp) : Cx := cxOf C8.CX0 X.prog X.w X.K X.mg X.base Ng q sg g cdg X.A X.stack s H C8.E0
theorem pe_actS {Ng : List Str} {qg : Str} {sg : Scope} {g f c' : Addr} {cdg pm ctv : Value} {params : Arguments} {body : Expr} {scope : Scope} {k i : Nat} {a : Str} {pn : List (Addr × Obj)} {xe : Value → Shared → Prop} {W : WX} {E : XK} {tb : TE} {p1 p2 : Pos}
    (I : Inv X pins σ H s) (L : LamS X.env.scope scope) (hf : s.heap.get? f = some (PySem.W.kla_obj "<lambda>" (X.env.qual ++ "<lambda>") params body scope (cloFrom X.env.cells scope.names []) pm c' ctv)) (hfn : H f = none) (hfr : f ∉ frs X.stack)
    (hbind : bindArgs (PySem.W.kla_fn "<lambda>" (X.env.qual ++ "<lambda>") params body scope (cloFrom X.env.cells scope.names []) pm (.ref c') ctv) ⟨[], []⟩ = pure [])
    (tk : Takes ((cxG X Ng qg sg g cdg s H).tr pn xe) W) (hW : ∀ cls d H', E cls d H' → W cls d σ₀ H') (hr : Room (k + 1) (X.A.deeper (envOfC qg sg s.heap.objs.size g cdg)))
    (hbody : ∀ (A : Around) (outer : List Env) (s : Shared) (H : Hp), Room k (A.deeper (lamEnv X scope s.heap.objs.size f c')) → PE (lamCx X A outer s H E scope f c') body tb)
    (hN : Ng[i]? = some a) (hv : Vis sg a) (hd : (a == ("__debug__" : Str)) = false := by decide) (hcd : (a == ("__classdict__" : Str)) = false := by decide) :
    PE ((cxG X Ng qg sg g cdg s H).tr pn xe) (.Call (.Name a p1) [] [] p2) (fun σZ HZ Q => σZ = σ₀ ∧ σZ[i]? = some (some (.ref f)) ∧ HZ c' = some (CodeO c' (X.env.qual ++ "<lambda>")) ∧ tb σ HZ Q) := by
  constructor
  rintro pinsZ sZ σZ HZ Q IZ ⟨rfl, hs, hc, ht⟩
  have got := (pe_var (pos := p1) (i := i) hN hv hd hcd).run pinsZ sZ σZ HZ (fun v H1 => v = .ref f ∧ H1 = HZ) IZ ⟨.ref f, hs, rfl, rfl⟩
  refine wpAny_Call_Name_kw (thn got ?_)
  rintro u s1 ⟨v, H1, I1, r1, rfl, rfl⟩
  obtain rfl : u = Value.ref f := r1
  have at1 : s1.heap.get? f = some (PySem.W.kla_obj "<lambda>" (X.env.qual ++ "<lambda>") params body scope (cloFrom X.env.cells scope.names []) pm c' ctv) := by
    refine I1.base.keep f _ hf hfn hfr ?_
    intro z
    exact nomatch (show f ∈ ([] : List Addr) from z)
  refine PySem.W.callWith_F0 ⟨_, _, _, _, at1⟩ ?_
  have un : L2.Un (frs X.stack) [] H H1 s.heap s1.heap := I1.base
  have code := I1.hok c' _ hc
  obtain ⟨⟨oc, vs, t, hoc, hdc, hvc⟩, _, _⟩ := code
  have ran : codeAny (model X.prog X.w) (X.A.deeper (envOfC qg sg s.heap.objs.size g cdg)) (.call (.ref f) ⟨[], []⟩) (CR (L2.CX X.prog X.w) (envOfC qg sg s.heap.objs.size g cdg :: X.stack) X.prog X.w H1 s1 Q E) s1 := by
    refine PySem.W.kla_callFunE hr.depth at1 rfl L.co L.gen rfl ⟨c', oc, vs, t, rfl, hoc, hdc, hvc⟩ ?_
    rw [hbind]
    refine wpAny_pure ?_
    refine wpAny_newFunctionEnv (fun y hy => (L.own y hy).2) (fun y hy => nomatch hy) ?_ L.kind
    intro h₁ hns hsb
    refine ⟨I1.nolimit.fresh _ hsb, ?_⟩
    show codeAny _ _ (.expr body (lamEnv X scope s1.heap.objs.size f c')) _ _
    have stays : ∀ b o, s1.heap.get? b = some o → h₁.get? b = some o := by
      intro b o e
      exact hsb.extBut b o (Nat.ne_of_lt (Heap.lt_size e)) (Heap.get?_push_of_some _ e)
    have J : Inv (lamCx X (X.A.deeper (envOfC qg sg s.heap.objs.size g cdg)) (envOfC qg sg s.heap.objs.size g cdg :: X.stack) s1 H1 E scope f c') [] σ H1 { s1 with heap := h₁, toks := s1.toks + ([] : List (Str × Value)).length } := by
      exact lam_start2 I L I1.env0 hr.hd un hns stays
    have val := (hbody _ _ s1 H1 (hr.deeper _)).run [] _ _ H1 Q J ht
    refine PySem.W.kla_codeExpr (wpAny_mono val ?_ fun e s' hq => hq)
    rintro v s' ⟨w', H', J', rv, q⟩
    exact ⟨w', H', J'.os, J'.bare, J'.base, J'.hok, rv, q⟩
  refine wpAny_call (codeAny_mono ran ?_)
  rintro (e | (_ | _ | _ | u)) s' hq
  · exact tk e s' (XE.of_call I1 (fun cls d H' h => hW cls d H' h) hq)
  all_goals first
    | exact False.elim hq
    | exact I1.after hq
/-- the def that calls what it got, its slots known -/
def GivesS (X : Cx) (Ng : List Str) (x : Str) (sg : Scope) (g : Addr) (cdg : Value) (bg : List Stmt) (a : Str) (q : Str) (TT : (XK → Hp → VK → Prop) → Hp → VK → Prop) : Prop :=
  ∀ (f c' : Addr) (s : Shared) (H : Hp) (Q : VK) (tl : XK → Hp → VK → Prop),
    (∀ (W : WX) (pn : List (Addr × Obj)) (xe : Value → Shared → Prop) (E : XK) (σ₀ : L2.St) (p1 p2 : Pos), Takes ((cxG X Ng x sg g cdg s H).tr pn xe) W → (∀ cls d H', E cls d H' → W cls d σ₀ H') →
      PE ((cxG X Ng x sg g cdg s H).tr pn xe) (.Call (.Name a p1) [] [] p2) (fun σZ HZ Q => σZ = σ₀ ∧ σZ[0]? = some (some (.ref f)) ∧ HZ c' = some (CodeO c' q) ∧ tl E HZ Q)) →
    H c' = some (CodeO c' q) → TT tl H Q →
    ∃ t, PSs (cxG X Ng x sg g cdg s H).nox bg t ∧ t { nx := fun _ H' => Q .non H', rt := Q } (L2.start Ng [.ref f]) H
end
section
variable {X : Cx}
/-- x(lambda: body) -/
theorem pe_lamS {T : List (Addr × Str)} {TT : (XK → Hp → VK → Prop) → Hp → VK → Prop} {x a : Str} {g c P : Addr} {k : Nat} {pg : Arguments} {bg : List Stmt} {sg : Scope} {dV kV doc pm cdv ct oc : Value} {an od : Option Addr} {osl : Array (Option Value)} {Ng : List Str}
    {params : Arguments} {body : Expr} {scope : Scope} {t : XK → TE} {p lpos pos : Pos} (hg : Gl X x) (hm : X.mg x = some (.ref g)) (hk : PySem.W.keepIn X.K (.ref g) = true)
    (lk : X.K.lookup g = some ⟨oc, od, .func (PySem.W.fnOf x x pg bg sg dV kV doc pm an cdv ct), osl⟩) (hcg : PySem.W.codeIn X.K cdv x = true) (hb : L2.Binds X.K (PySem.W.fnOf x x pg bg sg dV kV doc pm an cdv ct) [a] []) (Sg : FnScope Ng [a] sg) (hNg : Ng[0]? = some a) (hva : Vis sg a)
    (hG : GivesS X Ng x sg g cdv bg a (X.env.qual ++ "<lambda>") TT)
    (TB : TabB X.base X.mg c P) (hcode : X.env.code = .ref c) (hmT : (P, X.env.qual ++ "<lambda>") ∈ T) (hu : ∀ p ∈ T, p.1 = P → p.2 = X.env.qual ++ "<lambda>") (hr : Room (k + 2) X.A) (L : LamS X.env.scope scope) (hdef : defaultsOf params X.env = ([], []))
    (hbind : ∀ (q : Str) (cl : List (Str × Addr)) (pm cv ctv : Value), bindArgs (PySem.W.kla_fn "<lambda>" q params body scope cl pm cv ctv) ⟨[], []⟩ = pure [])
    (hbody : ∀ (A : Around) (outer : List Env) (s : Shared) (H : Hp) (E : XK) (f c' : Addr), Room k (A.deeper (lamEnv X scope s.heap.objs.size f c')) → PE (lamCx X A outer s H E scope f c') body (t E))
    (hdb : (x == ("__debug__" : Str)) = false := by decide) (hd : (a == ("__debug__" : Str)) = false := by decide) (hcd : (a == ("__classdict__" : Str)) = false := by decide) :
    PE X (.Call (.Name x p) [.Lambda params body scope lpos] [] pos) (tLam T TT t) := by
  constructor
  rintro pins s σ H Q I ⟨hT, h⟩
  refine wpAny_Call_Name_kw (ld_glob I hg hm ?_ hdb)
  refine PySem.W.callWith_K (h₀ := X.base) I.ok.mod.kin hk ?_ (by rfl) (by rfl)
  show wpAny _ _ (spliced ((false, eval (.Lambda params body scope lpos) X.env) :: backTo pos (starEach [] X.env))) _ _ s
  refine Calls.spliced_cons (lam_make2 I TB hcode hmT hu hT hdef (L.has I.ok) ?_)
  intro f c' pm' ctv H1 s' I1 eN T1 hf hfn hfr hco
  refine Calls.spliced_nil ⟨I1.kIn, ?_⟩
  have ran : codeAny (model X.prog X.w) X.A (.call (.ref g) ⟨[.ref f], []⟩) (CR C8.CX0 X.stack X.prog X.w H1 s' Q C8.E0) s' := by
    refine run_ofS (N := Ng) (ps := [a]) (us := [.ref f]) (vs := [.ref f]) lk hcg Sg hr I1.env0 (hb s' [.ref f] I1.kIn rfl) (.cons rfl .nil) rfl ?_
    intro hr'
    have act := hG f c' s' H1 Q (fun E H' Q' => t E σ H' Q') (fun W pn xe E σ₀ p1 p2 tk hW => pe_actS (i := 0) (σ₀ := σ₀) (tb := t E) (p1 := p1) (p2 := p2) I1 L hf hfn hfr (hbind _ _ _ _ _) tk hW hr' (fun A outer s H hr2 => hbody A outer s H E f c' hr2) hNg hva hd hcd) hco (h H1 eN T1)
    obtain ⟨t', ht', hq'⟩ := act
    exact ⟨t', ht'.nox, hq'⟩
  refine wpAny_call (codeAny_mono ran ?_)
  rintro (e | (_ | _ | _ | u)) s2 hq
  all_goals first
    | exact False.elim hq
    | exact I1.after hq
end
end Uq

namespace Uq
open PySem PySem.Spec PyProof.Rows L2
/-! ### x == y by an own __eq__, both answers -/
section
variable {X : Cx} {C f : Addr} {k : Nat} {fd : FuncData} {ps : List Str} {sp : Sp}
def rEqO (C : Addr) (sp : Sp) : R2 := fun x y H Q => ∃ a dx fs b dy gs, x = .ref a ∧ y = .ref b ∧ H a = some (.ins C dx fs) ∧ H b = some (.ins C dy gs) ∧ sp [.ref a, .ref b] H (fun v H1 => ∃ c, v = .bl c ∧ Q (.bl c) H1) E0
theorem op_eqO (d : Dun X.K C f "__eq__") (F : FnOk X.prog X.w X.K X.mg X.base CX0 k f fd ps sp) (hr : Room k X.A) (hb : Binds X.K fd ps []) : OpR X (compareOp .Eq) (rEqO C sp) := by
  intro pins s σ H x y v u Q I rx ry h
  obtain ⟨a, dx, fs, b, dy, gs, rfl, rfl, e, e2, q⟩ := h
  cases (show v = Value.ref a from rx)
  cases (show u = Value.ref b from ry)
  obtain ⟨ox, od, J⟩ := at_ins I e
  obtain ⟨ox2, od2, J2⟩ := at_ins I e2
  obtain ⟨m, fr⟩ := I.fr
  show wpAny (model X.prog X.w) X.A (richCompare .Eq (.ref a) (.ref b)) (EP X pins σ Q) X.xe s
  refine PySem.W.cmp_K (op := .Eq) (tb := .ref C) hr.units0 fr I.ok.mod.kin J J2.type (by simp [PySem.W.notFirst]) d.at_ d.fn ?_
  refine wpAny_mono (run_in F hr I.env0 hb I (.cons (a := V.ref a) rfl (.cons (a := V.ref b) rfl .nil)) q) ?_ (fun _ _ z => z)
  rintro w s' ⟨z, H1, I1, rz, c, rfl, q1⟩
  cases (show w = Value.bool c from rz)
  exact ⟨.bl c, H1, I1, rfl, q1⟩
end
/-! ### the text of a text -/
theorem call_repr_str {X : Cx} : CallR X (.builtin "repr") (fun xs H Q => ∃ a, xs = [.str a] ∧ (reprText a).length ≤ sizeLine ∧ Q (.str (reprText a)) H) := by
  intro pins s σ H xs us Q I r h
  obtain ⟨a, rfl, hz, q⟩ := h
  obtain ⟨u, rfl, t, rfl⟩ := vals1 r
  exact PySem.P.repr_of_str ⟨.str _, H, I.tok _, ⟨_, rfl⟩, q⟩ hz
end Uq

namespace PySem.W
open PySem PySem.Spec PySem.Calls PyProof.Rows
section
variable {prog : Program} {w : World} {M : Model} {A : Around} {E : Value → Shared → Prop} {s : Shared} {K : Frag} {x C L f : Addr} {h₀ : Heap} {m : Str → Option Value} {ox : Obj} {od : Option Obj} {b tb : Value}
theorem ifBound_B {name : Str} {id : String} {args : List Value} {Q : Option Value → Shared → Prop} (X : K.In s.heap) (I : InstAt s.heap x ox C od) (hs : findIn K (.ref C) name = some (some (.builtin id)))
    (hb : ∀ self, bindSpecial (.builtin id) self = pure (.builtin id, [self])) (h : wpAny M A (call (.builtin id) (.ref x :: args)) (fun v => Q (some v)) E s) : wpAny M A (callSpecialIfBound? (.ref x) name args) Q E s := by
  simp only [callSpecialIfBound?, bindSpecialIfBound?]
  refine wpAny_holding (wpAny_bind (wpAny_bind (wpAny_bind (I.type.here ((looks_findIn X hs).here ?_)))))
  refine wpAny_bind (wpAny_askSetting (wpAny_ite ?_))
  have fin : wpAny M A (call (.builtin id) ([.ref x] ++ args) >>= fun v => pure (some v)) Q E s := wpAny_bind (wpAny_mono h (fun v s' h' => wpAny_pure h') fun _ _ h' => h')
  split
  · exact wpAny_bind ((Looks.of_pure (hb _)).here (wpAny_pure (by exact fin)))
  · exact wpAny_tryCatch (wpAny_bind ((Looks.of_pure (hb _)).here (wpAny_pure (by exact fin))))
open Builtin in
theorem one_ne {Q : Value → Shared → Prop} (hu1 : A.in1.units < cLine) (X : K.In s.heap) (I : InstAt s.heap x ox C od)
    (hs : findIn K (.ref C) "__ne__" = some (some (.builtin "object.__ne__"))) (hm : mroIn K C (.type "object") = some true) (he : findIn K (.ref C) "__eq__" = some (some (.ref f))) (hf : isFn K (.ref f) = true)
    (h : wpAny (model prog w) A.in1 (call (.ref f) [.ref x, b]) (fun v s' => ∃ c, v = .bool c ∧ Q (.bool (!c)) s') E s) :
    wpAny (model prog w) A (tryCompare (.ref x) "__ne__" b) (fun r s' => ∃ v, r = some v ∧ Q v s') E s := by
  unfold tryCompare
  refine wpAny_bind (ifBound_B X I hs PySem.F.cmp_object.ne.bind (wpAny_call (codeAny_call_builtin PySem.F.cmp_object.ne.plain PySem.F.cmpEntry_ne (check_slot (i := "object.__ne__") (owner := "object") (n := "__ne__") (by decide +kernel) (by decide +kernel) (I.type.andThen (looks_mroIn X hm)) (PySem.F.cmpArgs_ne _ _) ?_))))
  unfold Builtin.«object.__ne__»
  refine wpAny_bind (m := slotArgs "__ne__" 1 _) (wpAny_pure ?_)
  refine wpAny_bind (m := cRoomFor _ _) (wpAny_cRoomFor hu1 ?_)
  refine wpAny_bind (m := callSpecialIfBound? (.ref x) (Str.ofString "__eq__") _) (ifBound_K X I he hf (wpAny_mono h (fun r s' hq => ?_) fun _ _ y => y))
  obtain ⟨c, rfl, q⟩ := hq
  refine wpAny_bind (wpAny_truthy_bool ?_)
  refine wpAny_pure ?_
  exact wpAny_pure ⟨_, rfl, q⟩
theorem ne_K {Q : Value → Shared → Prop} (hu : A.units < cLine) (hu1 : A.in1.units < cLine) (F : Fr h₀ L s.heap m) (X₀ : K.In h₀) (I : InstAt s.heap x ox C od) (hb : Looks (model prog w) s.heap (typeOf b) tb) (hn : notFirst K C tb = true)
    (hs : findIn K (.ref C) "__ne__" = some (some (.builtin "object.__ne__"))) (hm : mroIn K C (.type "object") = some true) (he : findIn K (.ref C) "__eq__" = some (some (.ref f))) (hf : isFn K (.ref f) = true)
    (h : wpAny (model prog w) A.in1 (call (.ref f) [.ref x, b]) (fun v s' => ∃ c, v = .bool c ∧ Q (.bool (!c)) s') E s) : wpAny (model prog w) A (richCompare .NotEq (.ref x) b) Q E s := by
  have X := X₀.keeps F.keep
  have one := one_ne (A := A) (E := E) hu1 X I hs hm he hf h
  unfold richCompare
  simp only [oneThing_ref]
  refine wpAny_holding (wpAny_bind (wpAny_cRoomFor hu ?_))
  refine wpAny_bind (I.type.here (wpAny_bind (hb.here ?_)))
  split
  · rename_i q
    have e : subIn K tb (.ref C) = some false := by
      rcases Bool.or_eq_true_iff.mp hn with e | e
      · rw [beq_iff_eq.mp e] at q; simp at q
      · exact beq_iff_eq.mp e
    refine wpAny_bind ((looks_subIn X e).here ?_)
    simp only [Bool.false_eq_true, if_false]
    refine wpAny_bind (wpAny_mono one (fun r s' z => ?_) fun _ _ e => e)
    obtain ⟨v, rfl, hq⟩ := z
    exact wpAny_pure hq
  · refine wpAny_bind (wpAny_pure ?_)
    simp only [Bool.false_eq_true, if_false]
    refine wpAny_bind (wpAny_mono one (fun r s' z => ?_) fun _ _ e => e)
    obtain ⟨v, rfl, hq⟩ := z
    exact wpAny_pure hq
end
end PySem.W
namespace Uq
open PySem PySem.Spec PyProof.Rows L2
/-! ### x == y and x != y by an own __eq__, y of any kind -/
section
variable {X : Cx} {C f : Addr} {k : Nat} {fd : FuncData} {ps : List Str} {sp : Sp}
def rEqA (K : PySem.W.Frag) (C : Addr) (sp : Sp) (neg : Bool) : R2 := fun x y H Q => ∃ a dx fs t, x = .ref a ∧ H a = some (.ins C dx fs) ∧ TyX K H y t ∧ PySem.W.notFirst K C t = true ∧ sp [.ref a, y] H (fun v H1 => ∃ c, v = .bl c ∧ Q (.bl (if neg then !c else c)) H1) E0
theorem op_eqA (d : Dun X.K C f "__eq__") (F : FnOk X.prog X.w X.K X.mg X.base CX0 k f fd ps sp) (hr : Room k X.A) (hb : Binds X.K fd ps []) : OpR X (compareOp .Eq) (rEqA X.K C sp false) := by
  intro pins s σ H x y v u Q I rx ry h
  obtain ⟨a, dx, fs, t, rfl, e, ty, nf, q⟩ := h
  cases (show v = Value.ref a from rx)
  obtain ⟨ox, od, J⟩ := at_ins I e
  obtain ⟨PH, Z, p, _⟩ := kit_of I ry ty
  obtain ⟨m, fr⟩ := I.fr
  show wpAny (model X.prog X.w) X.A (richCompare .Eq (.ref a) u) (EP X pins σ Q) X.xe s
  refine PySem.W.cmp_K (op := .Eq) (tb := t) hr.units0 fr I.ok.mod.kin J (Z.ty _ _ I.kIn p) nf d.at_ d.fn ?_
  refine wpAny_mono (run_in F hr I.env0 hb I (.cons (a := V.ref a) rfl (.cons ry .nil)) q) ?_ (fun _ _ z => z)
  rintro w s' ⟨z, H1, I1, rz, c, rfl, q1⟩
  cases (show w = Value.bool c from rz)
  exact ⟨.bl c, H1, I1, rfl, q1⟩
structure NeC (K : PySem.W.Frag) (C : Addr) : Prop where
  ne : PySem.W.findIn K (.ref C) "__ne__" = some (some (.builtin "object.__ne__"))
  mro : PySem.W.mroIn K C (.type "object") = some true
theorem op_neA (N : NeC X.K C) (d : Dun X.K C f "__eq__") (F : FnOk X.prog X.w X.K X.mg X.base CX0 k f fd ps sp) (hr : Room (k + 1) X.A) (hb : Binds X.K fd ps []) : OpR X (compareOp .NotEq) (rEqA X.K C sp true) := by
  intro pins s σ H x y v u Q I rx ry h
  obtain ⟨a, dx, fs, t, rfl, e, ty, nf, q⟩ := h
  cases (show v = Value.ref a from rx)
  obtain ⟨ox, od, J⟩ := at_ins I e
  obtain ⟨PH, Z, p, _⟩ := kit_of I ry ty
  obtain ⟨m, fr⟩ := I.fr
  show wpAny (model X.prog X.w) X.A (richCompare .NotEq (.ref a) u) (EP X pins σ Q) X.xe s
  refine PySem.W.ne_K (tb := t) hr.units0 hr.in1.units0 fr I.ok.mod.kin J (Z.ty _ _ I.kIn p) nf N.ne N.mro d.at_ d.fn ?_
  refine wpAny_mono (run_in F hr.in1 I.env0.in1 hb I (.cons (a := V.ref a) rfl (.cons ry .nil)) q) ?_ (fun _ _ z => z)
  rintro w s' ⟨z, H1, I1, rz, c, rfl, q1⟩
  cases (show w = Value.bool c from rz)
  exact ⟨c, rfl, .bl (!c), H1, I1, rfl, q1⟩
end
end Uq

namespace Uq
open PySem PySem.Spec PyProof.Rows L2
/-! ### x + y of two own objects, x * i of one, by its own methods -/
section
variable {X : Cx} {C f : Addr} {k : Nat} {fd : FuncData} {ps : List Str} {sp : Sp}
/-- what is told back is an object -/
def Obj_ (Q : VK) : VK := fun v H1 => ∃ t : Addr, v = .ref t ∧ Q (.ref t) H1
def rAddO (C : Addr) (sp : Sp) : R2 := fun x y H Q => ∃ (a dx : Addr) (fs : List (Str × V)) (b db : Addr) (gs : List (Str × V)), x = .ref a ∧ H a = some (.ins C dx fs) ∧ y = .ref b ∧ H b = some (.ins C db gs) ∧ sp [.ref a, .ref b] H (Obj_ Q) E0
theorem op_addO (d : Dun X.K C f "__add__") (sf : PySem.W.selfFirst X.K C = true) (F : FnOk X.prog X.w X.K X.mg X.base CX0 k f fd ps sp) (hr : Room k X.A) (hb : Binds X.K fd ps []) : OpR X (binaryOp .Add) (rAddO C sp) := by
  intro pins s σ H x y v u Q I rx ry h
  obtain ⟨a, dx, fs, b, db, gs, rfl, e, rfl, e2, q⟩ := h
  cases (show v = Value.ref a from rx)
  cases (show u = Value.ref b from ry)
  obtain ⟨ox, od, J⟩ := at_ins I e
  obtain ⟨oy, od2, J2⟩ := at_ins I e2
  obtain ⟨m, fr⟩ := I.fr
  refine PySem.W.binop_K (op := .Add) fr I.ok.mod.kin J J2.type sf d.at_ d.fn ?_
  refine wpAny_mono (run_in F hr I.env0 hb I (.cons (a := V.ref a) rfl (.cons (a := V.ref b) rfl .nil)) q) ?_ (fun _ _ z => z)
  rintro w s' ⟨z, H1, I1, rz, t, rfl, q1⟩
  cases (show w = Value.ref t from rz)
  exact ⟨.ref t, H1, I1, rfl, q1⟩
/-- what is asked of the class, and of int, for x * i -/
structure MulC (K : PySem.W.Frag) (C : Addr) : Prop where
  sf : PySem.W.selfFirst K C = true
  r : ∃ g : Addr, PySem.W.findIn K (.ref C) "__rmul__" = some (some (.ref g))
  i1 : ∃ fo, PySem.W.findIn K (.type "int") "__mul__" = some fo
  i2 : ∃ ro, PySem.W.findIn K (.type "int") "__rmul__" = some ro
  sub : PySem.W.subIn K (.type "int") (.ref C) = some false
def rMulO (C : Addr) (sp : Sp) : R2 := fun x y H Q => ∃ (a dx : Addr) (fs : List (Str × V)) (i : Int), x = .ref a ∧ H a = some (.ins C dx fs) ∧ y = .int i ∧ sp [.ref a, .int i] H (Obj_ Q) E0
theorem op_mulO (M : MulC X.K C) (d : Dun X.K C f "__mul__") (F : FnOk X.prog X.w X.K X.mg X.base CX0 k f fd ps sp) (hr : Room k X.A) (hb : Binds X.K fd ps []) : OpR X (binaryOp .Mult) (rMulO C sp) := by
  intro pins s σ H x y v u Q I rx ry h
  obtain ⟨a, dx, fs, i, rfl, e, rfl, q⟩ := h
  cases (show v = Value.ref a from rx)
  obtain ⟨tk, rfl⟩ := (show ∃ tk, u = Value.int i tk from ry)
  obtain ⟨ox, od, J⟩ := at_ins I e
  obtain ⟨m, fr⟩ := I.fr
  obtain ⟨sf, ⟨g, hg⟩, ⟨fo, h1⟩, ⟨ro, h2⟩, sub⟩ := M
  refine PySem.W.ksp_binT (op := .Mult) (T := "int") fr I.ok.mod.kin J (by rfl) sf d.at_ d.fn hg (.inr ⟨g, rfl⟩) h1 h2 sub ?_
  refine wpAny_mono (run_in F hr I.env0 hb I (.cons (a := V.ref a) rfl (.cons (a := V.int i) ⟨tk, rfl⟩ .nil)) q) ?_ (fun _ _ z => z)
  rintro w s' ⟨z, H1, I1, rz, t, rfl, q1⟩
  cases (show w = Value.ref t from rz)
  exact ⟨.ref t, H1, I1, rfl, q1⟩
end
end Uq

namespace Uq
open PySem PySem.Spec PyProof.Rows L2 LamX

/-! ### an exception that was caught, as a value -/
def ExcK (H : Hp) (a C : Addr) (v : V) : Prop := ∃ dx : Addr, H a = some (exk a (.ref C) (some dx)) ∧ H dx = some (.xd [("value", v)])
theorem ExcK.same {H H' : Hp} {a C : Addr} {v : V} (s : Same H H') (e : ExcK H a C v) : ExcK H' a C v := by
  obtain ⟨dx, h1, h2⟩ := e
  exact ⟨dx, s _ _ h1, s _ _ h2⟩
theorem excK_inst {P : Program} {w : World} {H : Hp} {h : Heap} {a C : Addr} {v : V} (hok : HOk P w H h) (e : ExcK H a C v) : ∃ (ox od : Obj) (mA : Str → Option Value) (dx : Addr), PySem.W.InstAt h a ox C (some od) ∧ h.Ns1 dx mA ∧ h.get? dx = some od ∧ ox.dict = some dx ∧ ∀ f, RelO (([("value", v)] : List (Str × V)).lookup f) (mA f) := by
  obtain ⟨dx, h1, h2⟩ := e
  obtain ⟨ob, fv, g, z, y⟩ := exk_at hok h1
  obtain ⟨mA, hns, rel⟩ := hok dx _ h2
  obtain ⟨od, hod, hl⟩ := lookIn_ns hns
  have z1 := z.1
  have z2 := z.2
  cases ob
  dsimp only at z1 z2 y
  subst z1
  subst z2
  subst y
  exact ⟨_, od, mA, dx, ⟨g, rfl, rfl, hod⟩, hns, hod, rfl, rel⟩
def rIsK (K : PySem.W.Frag) : List V → Hp → VK → Prop := fun xs H Q => ∃ (a C : Addr) (v c : V) (u : Value) (b : Bool), xs = [.ref a, c] ∧ ClsV c u ∧ Xcl K C ∧ ExcK H a C v ∧ PySem.W.kitOne K (.ref C) u = some b ∧ Q (.bl b) H
theorem call_isK {X : Cx} : CallR X (.builtin "isinstance") (rIsK X.K) := by
  intro pins s σ H xs us Q I r h
  obtain ⟨a, C, v, c, u, b, rfl, k, T, E, e, q⟩ := h
  obtain ⟨u1, u2, rfl, r1, r2⟩ := vals2 r
  cases (show u1 = Value.ref a from r1)
  have e2 := k.eq r2
  subst e2
  obtain ⟨ox, od, mA, dx, J, _⟩ := excK_inst I.hok E
  have hcl : (PySem.W.clsIn X.K C).isSome = true := by
    obtain ⟨cd, hc, _⟩ := PySem.W.any_some T.hd
    rw [hc]
    rfl
  exact PySem.W.kia_one (PySem.W.kitx_exc (x := a) (ox := ox) (od := some od) hcl T.ga T.gg T.T.exC T.cl T.sp T.tk T.mo) I.kIn J e (fun z => nomatch z) fun tk => ⟨.bl b, H, I.tok tk, rfl, q⟩
/-- x.value -/
def tKv (K : PySem.W.Frag) (te : TE) : TE := fun σ H Q => te σ H fun x H1 => ∃ (a C : Addr) (v : V), x = .ref a ∧ Xcl K C ∧ ExcK H1 a C v ∧ Q v H1
theorem pe_kv {X : Cx} {e : Expr} {te : TE} {pos : Pos} (he : PE X e te) (hb : attributeBase e "value" X.env (eval e X.env) = eval e X.env := by rfl) : PE X (.Attribute e "value" pos) (tKv X.K te) := by
  refine ⟨fun pins s σ H Q I h => ?_⟩
  refine attr_of hb (thn (he.run pins s σ H _ I h) fun u s1 hh => ?_)
  obtain ⟨x, H1, I1, rx, a, C, v, ex, T, E, q⟩ := hh
  subst ex
  obtain rfl : u = Value.ref a := rx
  obtain ⟨ox, od, mA, dx, J, hns, hod, hdx, rel⟩ := excK_inst I1.hok E
  obtain ⟨od2, hod2, hl⟩ := lookIn_ns hns
  obtain rfl : od2 = od := by
    rw [hod] at hod2
    exact (Option.some.inj hod2).symm
  obtain ⟨u, hu, ru⟩ := RelO.some_of (v := v) (o := mA "value") (rel "value")
  exact PySem.HandSPX.exc_get I1.kIn J T.ga T.gg T.T.exC (PySem.W.findObj_own T.hd T.va rfl (by rw [hl, hu])) (handed_of ru) ⟨v, H1, I1.tok _, ru, q⟩
section
variable {X : Cx} {C f : Addr} {k : Nat} {fd : FuncData} {ps : List Str} {sp : Sp} {E : XK}
theorem run_inX {pins : List (Addr × Obj)} {σ : L2.St} {H : Hp} {s : Shared} {Q : VK} {us : List Value} {vs : List V} {A : Around} (F : FnOk X.prog X.w X.K X.mg X.base (L2.CX X.prog X.w) k f fd ps sp) (hx : Passes (L2.CX X.prog X.w) X E) (hr : Room k A) (e0 : Env0 X.prog X.w X.K X.mg X.base A X.stack s H) (hb : Binds X.K fd ps [])
    (I : Inv X pins σ H s) (r : Vals vs us) (h : sp vs H Q E) : wpAny (model X.prog X.w) A (call (.ref f) us) (EP X pins σ Q) X.xe s := by
  have n := r.length.symm.trans (F.len _ _ _ _ h)
  have bd := hb s us I.kIn (by rw [List.append_nil]; exact n)
  rw [List.append_nil] at bd
  refine wpAny_call (codeAny_mono (F.run A X.stack s H ⟨us, []⟩ us vs Q E hr e0 bd r h) ?_)
  rintro (e | (_ | _ | _ | u)) s' got
  · exact hx pins σ H s e s' I got
  all_goals first
    | exact False.elim got
    | exact I.after got
/-- x + y of two own objects, what __add__ raises let out -/
def rAddX (C : Addr) (sp : Sp) (E : XK) : R2 := fun x y H Q => ∃ (a dx : Addr) (fs : List (Str × V)) (b db : Addr) (gs : List (Str × V)), x = .ref a ∧ H a = some (.ins C dx fs) ∧ y = .ref b ∧ H b = some (.ins C db gs) ∧ sp [.ref a, .ref b] H (Obj_ Q) E
theorem op_addX (d : Dun X.K C f "__add__") (sf : PySem.W.selfFirst X.K C = true) (F : FnOk X.prog X.w X.K X.mg X.base (L2.CX X.prog X.w) k f fd ps sp) (hx : Passes (L2.CX X.prog X.w) X E) (hr : Room k X.A) (hb : Binds X.K fd ps []) : OpR X (binaryOp .Add) (rAddX C sp E) := by
  intro pins s σ H x y v u Q I rx ry h
  obtain ⟨a, dx, fs, b, db, gs, rfl, e, rfl, e2, q⟩ := h
  cases (show v = Value.ref a from rx)
  cases (show u = Value.ref b from ry)
  obtain ⟨ox, od, J⟩ := at_ins I e
  obtain ⟨oy, od2, J2⟩ := at_ins I e2
  obtain ⟨m, fr⟩ := I.fr
  refine PySem.W.binop_K (op := .Add) fr I.ok.mod.kin J J2.type sf d.at_ d.fn ?_
  refine wpAny_mono (run_inX F hx hr I.env0 hb I (.cons (a := V.ref a) rfl (.cons (a := V.ref b) rfl .nil)) q) ?_ (fun _ _ z => z)
  rintro w s' ⟨z, H1, I1, rz, t, rfl, q1⟩
  cases (show w = Value.ref t from rz)
  exact ⟨.ref t, H1, I1, rfl, q1⟩
end
/-- a lambda's body lets out what it is asked to -/
theorem lam_takes {X : Cx} {A : Around} {outer : List Env} {s : Shared} {H : Hp} {E : XK} {scope : Scope} {f c' : Addr} : Passes (L2.CX X.prog X.w) (lamCx X A outer s H E scope f c') E :=
  passes_call (takes_of (X := lamCx X A outer s H E scope f c') rfl rfl rfl rfl) fun _ _ _ _ h => h
end Uq

namespace Uq
open PySem PySem.Spec PyProof.Rows L2
/-! ### data beside the pot -/
/-- all that is tracked but at p -/
def off (p : Addr) (H : Hp) : Hp := fun b => if b = p then none else H b
theorem off_ne {p b : Addr} {H : Hp} (h : b ≠ p) : off p H b = H b := if_neg h
theorem off_same {p : Addr} {H : Hp} : off p H p = none := if_pos rfl
theorem off_sub {p : Addr} {H : Hp} : Same (off p H) H := fun b o e => by
  by_cases z : b = p
  · rw [z, off_same] at e
    cases e
  · rw [off_ne z] at e
    exact e
theorem But.off {p : Addr} {H H' : Hp} (e : But p H H') : Same (off p H) (off p H') := fun b o h => by
  by_cases z : b = p
  · rw [z, off_same] at h
    cases h
  · rw [off_ne z] at h ⊢
    exact e b o z h
theorem DxAll.length {K : PySem.W.Frag} {H : Hp} : ∀ {ds : List PyData} {vs : List V}, DxAll K H vs ds → vs.length = ds.length
  | _, _, .nil => rfl
  | _, _, .cons _ h => congrArg (· + 1) (DxAll.length h)
theorem DxAll.append {K : PySem.W.Frag} {H : Hp} {es : List PyData} {us : List V} (g : DxAll K H us es) : ∀ {ds : List PyData} {vs : List V}, DxAll K H vs ds → DxAll K H (vs ++ us) (ds ++ es)
  | _, _, .nil => g
  | _, _, .cons a h => .cons a (DxAll.append g h)
theorem DxAll.at {K : PySem.W.Frag} {H : Hp} : ∀ {ds : List PyData} {vs : List V} {i : Nat} {v : V}, DxAll K H vs ds → vs[i]? = some v → ∃ d, d ∈ ds ∧ Dx K H v d
  | _, _, i, _, .nil, e => by simp at e
  | _, _, 0, _, .cons a h, e => by
    cases Option.some.inj e
    exact ⟨_, List.mem_cons_self, a⟩
  | _, _, i + 1, _, .cons a h, e => by
    obtain ⟨d, m, x⟩ := DxAll.at (i := i) h e
    exact ⟨d, List.mem_cons_of_mem _ m, x⟩
section
variable {K : PySem.W.Frag} {p : Addr} {c c1 c2 : Nat} {σ : L2.St} {H0 : Hp}
/-- a display: from wherever on, it gives new data, one of S -/
def Disp (K : PySem.W.Frag) (p : Addr) (c c' : Nat) (σ : L2.St) (H0 : Hp) (te : TE) (S : PyData → Prop) : Prop := ∀ H Q, But p H0 H → Pot H p c → (∀ v H1 d, S d → But p H H1 → Pot H1 p c' → Dx K (off p H1) v d → Q v H1) → te σ H Q
def DispA (K : PySem.W.Frag) (p : Addr) (c c' : Nat) (σ : L2.St) (H0 : Hp) (ta : TA) (S : List PyData → Prop) : Prop := ∀ H Q, But p H0 H → Pot H p c → (∀ vs H1 ds, S ds → But p H H1 → Pot H1 p c' → DxAll K (off p H1) vs ds → Q vs H1) → ta σ H Q
theorem disp_v {te : TE} {v : V} {d : PyData} (h : ∀ H Q, Q v H → te σ H Q) (x : ∀ H, Dx K H v d) : Disp K p c c σ H0 te (· = d) := fun H Q hB hP q => h H Q (q v H d rfl (But.refl _ _) hP (x _))
theorem disp_c {v : V} {d : PyData} (x : ∀ H, Dx K H v d) : Disp K p c c σ H0 (tC v) (· = d) := disp_v (fun _ _ q => q) x
theorem disp_var {i : Nat} {v : V} {d : PyData} (e : σ[i]? = some (some v)) (x : Dx K (off p H0) v d) : Disp K p c c σ H0 (tVar i) (· = d) := fun H Q hB hP q => ⟨v, e, q v H d rfl (But.refl _ _) hP (x.same hB.off)⟩
theorem disp_nil : DispA K p c c σ H0 tNil (· = []) := fun H Q hB hP q => q [] H [] rfl (But.refl _ _) hP .nil
theorem disp_cons {te : TE} {ta : TA} {d : PyData} {ds : List PyData} (h : Disp K p c c1 σ H0 te (· = d)) (g : DispA K p c1 c2 σ H0 ta (· = ds)) : DispA K p c c2 σ H0 (tCons te ta) (· = d :: ds) := by
  intro H Q hB hP q
  refine h H _ hB hP fun v H1 d1 e1 hB1 hP1 x1 => ?_
  cases e1
  refine g H1 _ (hB.trans hB1) hP1 fun vs H2 ds2 e2 hB2 hP2 x2 => ?_
  cases e2
  exact q (v :: vs) H2 _ rfl (hB1.trans hB2) hP2 (.cons (x1.same hB2.off) x2)
/-- the same, of some of many -/
theorem disp_consS {te : TE} {ta : TA} {S : PyData → Prop} {SA SB : List PyData → Prop} (h : Disp K p c c1 σ H0 te S) (g : DispA K p c1 c2 σ H0 ta SA) (m : ∀ d ds, S d → SA ds → SB (d :: ds)) : DispA K p c c2 σ H0 (tCons te ta) SB := by
  intro H Q hB hP q
  refine h H _ hB hP fun v H1 d1 e1 hB1 hP1 x1 => ?_
  refine g H1 _ (hB.trans hB1) hP1 fun vs H2 ds2 e2 hB2 hP2 x2 => ?_
  exact q (v :: vs) H2 _ (m _ _ e1 e2) (hB1.trans hB2) hP2 (.cons (x1.same hB2.off) x2)
theorem disp_tupS {ta : TA} {SA : List PyData → Prop} {S : PyData → Prop} (h : DispA K p c c1 σ H0 ta SA) (m : ∀ ds, SA ds → ds.length ≤ sizeLine ∧ S (.tuple ds)) : Disp K p c c1 σ H0 (tTup ta) S := by
  intro H Q hB hP q
  refine h H _ hB hP fun vs H1 ds e hB1 hP1 x => ⟨by rw [x.length]; exact (m ds e).1, fun a ha => ?_⟩
  have n : a ≠ p := hP1.ne ha
  exact q _ _ (.tuple ds) (m ds e).2 (hB1.new ha) (hP1.new ha) (.tup (.inl (.inl (by rw [off_ne n, upd_same]))) (x.same (But.refl p H1 |>.new ha |>.off)))
theorem disp_lstS {ta : TA} {SA : List PyData → Prop} {S : PyData → Prop} (h : DispA K p c c1 σ H0 ta SA) (m : ∀ ds, SA ds → ds.length ≤ sizeLine ∧ S (.list ds)) : Disp K p c c1 σ H0 (tLstB ta) S := by
  intro H Q hB hP q
  refine h H _ hB hP fun vs H1 ds e hB1 hP1 x => ⟨by rw [x.length]; exact (m ds e).1, fun a ha hs => ?_⟩
  have n : a ≠ p := hP1.ne ha
  exact q _ _ (.list ds) (m ds e).2 (hB1.new ha) (hP1.new ha) (.lst (by rw [off_ne n, upd_same]) hs (x.same (But.refl p H1 |>.new ha |>.off)))
theorem disp_tup {ta : TA} {ds : List PyData} (h : DispA K p c c1 σ H0 ta (· = ds)) (z : ds.length ≤ sizeLine := by decide) : Disp K p c c1 σ H0 (tTup ta) (· = .tuple ds) := disp_tupS h fun es e => by
  cases e
  exact ⟨z, rfl⟩
theorem disp_lst {ta : TA} {ds : List PyData} (h : DispA K p c c1 σ H0 ta (· = ds)) (z : ds.length ≤ sizeLine := by decide) : Disp K p c c1 σ H0 (tLstB ta) (· = .list ds) := disp_lstS h fun es e => by
  cases e
  exact ⟨z, rfl⟩
theorem disp_dct0 : Disp K p c c σ H0 tDNewK (· = .dict []) := by
  intro H Q hB hP q a ha
  have n : a ≠ p := hP.ne ha
  exact q _ _ _ rfl ((But.refl _ _).new ha) (hP.new ha) (.dct (kvs := []) (by rw [off_ne n, upd_same]) rfl .nil)
/-- {x: e}, a text as its key, e a name -/
theorem disp_dct1 {i : Nat} {v : V} {d : PyData} {x : Str} (e : σ[i]? = some (some v)) (dx : Dx K (off p H0) v d) : Disp K p c c σ H0 (tDisp [(tC (.str x), tVar i)]) (· = .dict [(.str x, d)]) := by
  intro H Q hB hP q a ha
  have n : a ≠ p := hP.ne ha
  refine ⟨v, e, upd_same, [(.inr x, v)], rfl, by show 1 ≤ 15; decide, ?_⟩
  have hB2 : But p H (upd (upd H a (.dK [])) a (.dK (mergeK [] [(.inr x, v)]))) := fun b o nb eb => by
    have nba : b ≠ a := ne_of_none eb ha
    rw [upd_ne nba, upd_ne nba]
    exact eb
  exact q _ _ _ rfl hB2 ((hP.upd (Ne.symm n)).upd (Ne.symm n)) (.dct (kvs := [(.inr x, v)]) (by rw [off_ne n, upd_same]; rfl) rfl (.cons (dx.same (hB.trans hB2).off) .nil))
/-! ### steps -/
theorem seq_set {te : TE} {i : Nat} {u : TS} {D : Ends} {σ : L2.St} {H : Hp} (h : te σ H fun x H1 => u D (σ.set i (some x)) H1) : tSeq (tAsg te (gName i)) u D σ H := h
theorem lst_in {ta : TA} {σ : L2.St} {H : Hp} {Q : VK} (h : ta σ H fun xs H1 => xs.length ≤ sizeLine ∧ ∀ p, H1 p = none → Q (.ref p) (upd H1 p (.lst xs))) : tLst ta σ H Q := h
theorem op_in {r : R2} {ta tb : TE} {σ : L2.St} {H : Hp} {Q : VK} (h : ta σ H fun x H1 => tb σ H1 fun y H2 => r x y H2 Q) : tOp r ta tb σ H Q := h
theorem call_in {sp : Sp} {ta : TA} {E : XK} {σ : L2.St} {H : Hp} {Q : VK} (h : ta σ H fun vs H1 => sp (vs ++ []) H1 Q E) : tCall sp [] E ta σ H Q := h
theorem ret_in {te : TE} {D : Ends} {σ : L2.St} {H : Hp} (h : te σ H D.rt) : tRet te D σ H := h
theorem cb_in {r : List V → Hp → VK → Prop} {ta : TA} {σ : L2.St} {H : Hp} {Q : VK} (h : ta σ H fun vs H1 => r vs H1 Q) : tCB r ta σ H Q := h
/-! ### values of any kind -/
def odds1 : List PyData := [.none, .bool true, .bool false, .int 0, .int 1, .int (-1), .int 100000000, .str "", .str "a", .str "some", .str "near", .tuple [], .list [], .dict [], .tuple [.int 0], .tuple [.tuple []], .list [.int 0]]
def odds2 : List PyData := [.tuple [.int 100, .str "near"], .tuple [.tuple [.str "a", .int 1]], .tuple [.tuple [.tuple [.str "a", .int 1]], .str "more"], .tuple [.int 0, .int 1], .tuple [.tuple [.int 0, .tuple [.int 1, .int 1]]], .str "never", .tuple [.int 1, .int 1, .int 1]]
def odds : List PyData := odds1 ++ odds2
def sp_law_odd (K : PySem.W.Frag) : Sp := fun vs H Q _ => ∃ (p : Addr) (c : Nat), vs = [.ref p] ∧ Pot H p c ∧ c < 90000 ∧ ∀ H' v d, d ∈ odds → But p H H' → Pot H' p (c + 1) → Dx K (off p H') v d → Q v H'
end
end Uq

namespace Uq
open PySem PySem.Spec PyProof.Rows L2

/-! ### cuts and sums of tuples, whatever stays itself -/
theorem slA_in {K : PySem.W.Frag} {H : Hp} {C : Addr} {xs : List V} {lo hi : Option Int} {Q : VK} (hx : SqT K H C xs) (h : ∀ H' t, Same H H' → SqT K H' t (cutV xs lo hi) → Q (.ref t) H') : rSlA K (.ref C) lo hi H Q := by
  refine ⟨C, xs, rfl, hx, fun hw => h _ _ (fun _ _ e => e) ?_, fun _ t nt => h _ _ (sameU nt) (SqT.of upd_same)⟩
  unfold cutV
  rw [hw.1, hw.2, List.drop_zero, Nat.sub_zero, List.take_length]
  exact hx
theorem catA_in {K : PySem.W.Frag} {H : Hp} {a b : Addr} {xs ys : List V} {Q : VK} (ha : SqT K H a xs) (hb : SqT K H b ys) (hz : xs.length + ys.length ≤ sizeLine) (h : ∀ H' t, Same H H' → SqT K H' t (xs ++ ys) → Q (.ref t) H') : rCatA K (.ref a) (.ref b) H Q := by
  refine ⟨a, b, xs, ys, rfl, rfl, ha, hb, hz, fun e => h _ _ (fun _ _ e => e) ?_, fun _ e => h _ _ (fun _ _ e => e) ?_, fun _ _ t nt => h _ _ (sameU nt) (SqT.of upd_same)⟩
  · rw [e, List.nil_append]
    exact hb
  · rw [e, List.append_nil]
    exact ha
end Uq

namespace Uq
open PySem PySem.Spec PyProof.Rows L2 LamX

/-! ### a lambda that is handed on: f(lambda: .., more), f's body calls g(it) -/
/-- what stays through two calls, one within the other -/
theorem un_in {fs fs' : List Addr} {H H1 H2 : Hp} {h h1 h2 : Heap} (a : L2.Un fs [] H H1 h h1) (b : L2.Un fs' [] H1 H2 h1 h2) (sub : ∀ c o, h.get? c = some o → c ∈ fs' → c ∈ fs) : L2.Un fs [] H H2 h h2 := by
  have nil : ∀ c : Addr, c ∉ ([] : List Addr) := fun c z => nomatch z
  refine ⟨fun c o e n hf _ => ?_, fun c o e n hf _ => ?_, fun c o e n _ => ?_, fun c o e _ => ?_, fun c xs e => b.tups c xs (a.tups c xs e), fun c o u e => b.frzs c o u (a.frzs c o u e), fun c ps e => ?_⟩
  · exact b.keep c o (a.keep c o e n hf (nil c)) (a.free c o e n (nil c)) (fun z => hf (sub c o e z)) (nil c)
  · obtain ⟨sl, e1⟩ := a.slot c o e n hf (nil c)
    have n1 := a.free c o e n (nil c)
    by_cases z : c ∈ fs'
    · obtain ⟨sl2, e2⟩ := b.slot c _ e1 n1 z (nil c)
      exact ⟨sl2, e2⟩
    · exact ⟨sl, b.keep c _ e1 n1 z (nil c)⟩
  · obtain ⟨o1, e1⟩ := a.there c o e (nil c)
    exact b.free c o1 e1 (a.free c o e n (nil c)) (nil c)
  · obtain ⟨o1, e1⟩ := a.there c o e (nil c)
    exact b.there c o1 e1 (nil c)
  · obtain ⟨m1, e1⟩ := a.tbls c ps e
    obtain ⟨m2, e2⟩ := b.tbls c _ e1
    exact ⟨m1 ++ m2, by rw [e2, Array.append_assoc]⟩
section
variable {X : Cx} {pins pinsY : List (Addr × Obj)} {σ σ₀ σY : L2.St} {H H2 : Hp} {s s2 : Shared}
/-- the context of a def that g's caller calls, s2 its entry -/
abbrev cxY (X : Cx) (Ny : List Str) (qy : Str) (sy : Scope) (gy : Addr) (cdy : Value) (s : Shared) (H : Hp) : Cx := (cxG X Ny qy sy gy cdy s H).nox
theorem pe_act2 {Ny Ng : List Str} {qy qg : Str} {sy sg : Scope} {gy g f c' : Addr} {cdy cdg pm ctv : Value} {params : Arguments} {body : Expr} {scope : Scope} {k i : Nat} {a : Str} {pn : List (Addr × Obj)} {xe : Value → Shared → Prop} {W : WX} {E : XK} {tb : TE} {p1 p2 : Pos}
    (I : Inv X pins σ H s) (IY : Inv (cxY X Ny qy sy gy cdy s H) pinsY σY H2 s2) (L : LamS X.env.scope scope) (hf : s.heap.get? f = some (PySem.W.kla_obj "<lambda>" (X.env.qual ++ "<lambda>") params body scope (cloFrom X.env.cells scope.names []) pm c' ctv)) (hfn : H f = none) (hfr : f ∉ frs X.stack)
    (hbind : bindArgs (PySem.W.kla_fn "<lambda>" (X.env.qual ++ "<lambda>") params body scope (cloFrom X.env.cells scope.names []) pm (.ref c') ctv) ⟨[], []⟩ = pure [])
    (tk : Takes ((cxG (cxY X Ny qy sy gy cdy s H) Ng qg sg g cdg s2 H2).tr pn xe) W) (hW : ∀ cls d H', E cls d H' → W cls d σ₀ H') (hr : Room (k + 1) ((cxY X Ny qy sy gy cdy s H).A.deeper (envOfC qg sg s2.heap.objs.size g cdg)))
    (hbody : ∀ (A : Around) (outer : List Env) (s : Shared) (H : Hp), Room k (A.deeper (lamEnv X scope s.heap.objs.size f c')) → PE (lamCx X A outer s H E scope f c') body tb)
    (hN : Ng[i]? = some a) (hv : Vis sg a) (hd : (a == ("__debug__" : Str)) = false := by decide) (hcd : (a == ("__classdict__" : Str)) = false := by decide) :
    PE ((cxG (cxY X Ny qy sy gy cdy s H) Ng qg sg g cdg s2 H2).tr pn xe) (.Call (.Name a p1) [] [] p2) (fun σZ HZ Q => σZ = σ₀ ∧ σZ[i]? = some (some (.ref f)) ∧ HZ c' = some (CodeO c' (X.env.qual ++ "<lambda>")) ∧ tb σ HZ Q) := by
  constructor
  rintro pinsZ sZ σZ HZ Q IZ ⟨rfl, hs, hc, ht⟩
  have got := (pe_var (pos := p1) (i := i) hN hv hd hcd).run pinsZ sZ σZ HZ (fun v H1 => v = .ref f ∧ H1 = HZ) IZ ⟨.ref f, hs, rfl, rfl⟩
  refine wpAny_Call_Name_kw (thn got ?_)
  rintro u s1 ⟨v, H1, I1, r1, rfl, rfl⟩
  obtain rfl : u = Value.ref f := r1
  have unY : L2.Un (frs X.stack) [] H H2 s.heap s2.heap := IY.base
  have unZ : L2.Un (frs (cxY X Ny qy sy gy cdy s H).stack) [] H2 H1 s2.heap s1.heap := I1.base
  have un : L2.Un (frs X.stack) [] H H1 s.heap s1.heap := un_in unY unZ fun c o e z => by
    obtain ⟨en, men, fr⟩ := List.mem_filterMap.mp z
    rcases List.mem_cons.mp men with rfl | men
    · have ec : s.heap.objs.size = c := Option.some.inj fr
      exact absurd (Heap.lt_size e) (by rw [← ec]; exact Nat.lt_irrefl _)
    · exact List.mem_filterMap.mpr ⟨en, men, fr⟩
  have at1 : s1.heap.get? f = some (PySem.W.kla_obj "<lambda>" (X.env.qual ++ "<lambda>") params body scope (cloFrom X.env.cells scope.names []) pm c' ctv) := un.keep f _ hf hfn hfr (fun z => nomatch z)
  refine PySem.W.callWith_F0 ⟨_, _, _, _, at1⟩ ?_
  have code := I1.hok c' _ hc
  obtain ⟨⟨oc, vs, t, hoc, hdc, hvc⟩, _, _⟩ := code
  have ran : codeAny (model X.prog X.w) ((cxY X Ny qy sy gy cdy s H).A.deeper (envOfC qg sg s2.heap.objs.size g cdg)) (.call (.ref f) ⟨[], []⟩) (CR (L2.CX X.prog X.w) (envOfC qg sg s2.heap.objs.size g cdg :: (cxY X Ny qy sy gy cdy s H).stack) X.prog X.w H1 s1 Q E) s1 := by
    refine PySem.W.kla_callFunE hr.depth at1 rfl L.co L.gen rfl ⟨c', oc, vs, t, rfl, hoc, hdc, hvc⟩ ?_
    rw [hbind]
    refine wpAny_pure ?_
    refine wpAny_newFunctionEnv (fun y hy => (L.own y hy).2) (fun y hy => nomatch hy) ?_ L.kind
    intro h₁ hns hsb
    refine ⟨I1.nolimit.fresh _ hsb, ?_⟩
    show codeAny _ _ (.expr body (lamEnv X scope s1.heap.objs.size f c')) _ _
    have stays : ∀ b o, s1.heap.get? b = some o → h₁.get? b = some o := by
      intro b o e
      exact hsb.extBut b o (Nat.ne_of_lt (Heap.lt_size e)) (Heap.get?_push_of_some _ e)
    have J : Inv (lamCx X ((cxY X Ny qy sy gy cdy s H).A.deeper (envOfC qg sg s2.heap.objs.size g cdg)) (envOfC qg sg s2.heap.objs.size g cdg :: (cxY X Ny qy sy gy cdy s H).stack) s1 H1 E scope f c') [] σ H1 { s1 with heap := h₁, toks := s1.toks + ([] : List (Str × Value)).length } := by
      exact lam_start2 I L I1.env0 hr.hd un hns stays
    have val := (hbody _ _ s1 H1 (hr.deeper _)).run [] _ _ H1 Q J ht
    refine PySem.W.kla_codeExpr (wpAny_mono val ?_ fun e s' hq => hq)
    rintro v s' ⟨w', H', J', rv, q⟩
    exact ⟨w', H', J'.os, J'.bare, J'.base, J'.hok, rv, q⟩
  refine wpAny_call (codeAny_mono ran ?_)
  rintro (e | (_ | _ | _ | u)) s' hq
  · exact tk e s' (XE.of_call I1 (fun cls d H' h => hW cls d H' h) hq)
  all_goals first
    | exact False.elim hq
    | exact I1.after hq
/-- x(y), y a name that holds the lambda, within the def that got it: x is given it -/
theorem pe_pass {Ny Ng : List Str} {qy x a an_ : Str} {sy sg : Scope} {gy g f c' : Addr} {cdy cdv dV kV doc pmg ct oc pm ctv : Value} {an od : Option Addr} {osl : Array (Option Value)} {pg : Arguments} {bg : List Stmt} {params : Arguments} {body : Expr} {scope : Scope} {k i : Nat} {TT : (XK → Hp → VK → Prop) → Hp → VK → Prop} {t : XK → TE} {p1 p2 p3 : Pos}
    (I : Inv X pins σ H s) (L : LamS X.env.scope scope) (hf : s.heap.get? f = some (PySem.W.kla_obj "<lambda>" (X.env.qual ++ "<lambda>") params body scope (cloFrom X.env.cells scope.names []) pm c' ctv)) (hfn : H f = none) (hfr : f ∉ frs X.stack)
    (hbind : ∀ (q : Str) (cl : List (Str × Addr)) (pm cv ctv : Value), bindArgs (PySem.W.kla_fn "<lambda>" q params body scope cl pm cv ctv) ⟨[], []⟩ = pure [])
    (hm : X.mg x = some (.ref g)) (hk : PySem.W.keepIn X.K (.ref g) = true)
    (lk : X.K.lookup g = some ⟨oc, od, .func (PySem.W.fnOf x x pg bg sg dV kV doc pmg an cdv ct), osl⟩) (hcg : PySem.W.codeIn X.K cdv x = true) (hb : L2.Binds X.K (PySem.W.fnOf x x pg bg sg dV kV doc pmg an cdv ct) [a] []) (Sg : FnScope Ng [a] sg) (hNg : Ng[0]? = some a) (hva : Vis sg a)
    (hG : GivesS (cxY X Ny qy sy gy cdy s H) Ng x sg g cdv bg a (X.env.qual ++ "<lambda>") TT)
    (hr : Room (k + 2) (cxY X Ny qy sy gy cdy s H).A) (hg : Gl (cxY X Ny qy sy gy cdy s H) x)
    (hbody : ∀ (A : Around) (outer : List Env) (s : Shared) (H : Hp) (E : XK), Room k (A.deeper (lamEnv X scope s.heap.objs.size f c')) → PE (lamCx X A outer s H E scope f c') body (t E))
    (hNy : Ny[i]? = some an_) (hvy : Vis sy an_)
    (hdb : (x == ("__debug__" : Str)) = false := by decide) (hd : (a == ("__debug__" : Str)) = false := by decide) (hcd : (a == ("__classdict__" : Str)) = false := by decide) (hd2 : (an_ == ("__debug__" : Str)) = false := by decide) (hcd2 : (an_ == ("__classdict__" : Str)) = false := by decide) :
    PE (cxY X Ny qy sy gy cdy s H) (.Call (.Name x p1) [.Name an_ p2] [] p3) (fun σZ HZ Q => σZ[i]? = some (some (.ref f)) ∧ HZ c' = some (CodeO c' (X.env.qual ++ "<lambda>")) ∧ TT (fun E H' Q' => t E σ H' Q') HZ Q) := by
  constructor
  rintro pinsY sY σY HY Q IY ⟨hs, hc, ht⟩
  refine wpAny_Call_Name_kw (ld_glob IY hg hm ?_ hdb)
  refine PySem.W.callWith_K (h₀ := X.base) IY.ok.mod.kin hk ?_ (by rfl) (by rfl)
  show wpAny _ _ (spliced ((false, eval (.Name an_ p2) (cxY X Ny qy sy gy cdy s H).env) :: backTo p3 (starEach [] (cxY X Ny qy sy gy cdy s H).env))) _ _ sY
  have got := (pe_var (pos := p2) (i := i) hNy hvy hd2 hcd2).run pinsY sY σY HY (fun v H1 => v = .ref f ∧ H1 = HY) IY ⟨.ref f, hs, rfl, rfl⟩
  refine Calls.spliced_cons (thn got ?_)
  rintro u s1 ⟨v, H1, I1, r1, rfl, rfl⟩
  obtain rfl : u = Value.ref f := r1
  refine Calls.spliced_nil ⟨I1.kIn, ?_⟩
  have ran : codeAny (model X.prog X.w) (cxY X Ny qy sy gy cdy s H).A (.call (.ref g) ⟨[.ref f], []⟩) (CR C8.CX0 (cxY X Ny qy sy gy cdy s H).stack X.prog X.w H1 s1 Q C8.E0) s1 := by
    refine run_ofS (N := Ng) (ps := [a]) (us := [.ref f]) (vs := [.ref f]) lk hcg Sg hr I1.env0 (hb s1 [.ref f] I1.kIn rfl) (.cons rfl .nil) rfl ?_
    intro hr'
    have act := hG f c' s1 H1 Q (fun E H' Q' => t E σ H' Q') (fun W pn xe E σ₀ p1 p2 tk hW => pe_act2 (i := 0) (σ₀ := σ₀) (tb := t E) (p1 := p1) (p2 := p2) I I1 L hf hfn hfr (hbind _ _ _ _ _) tk hW hr' (fun A outer s H hr2 => hbody A outer s H E hr2) hNg hva hd hcd) hc ht
    obtain ⟨t', ht', hq'⟩ := act
    exact ⟨t', ht'.nox, hq'⟩
  refine wpAny_call (codeAny_mono ran ?_)
  rintro (e | (_ | _ | _ | u)) s2 hq
  all_goals first
    | exact False.elim hq
    | exact I1.after hq
end
end Uq

namespace Uq
open PySem PySem.Spec PyProof.Rows L2 LamX

/-! ### f(lambda: .., more): f hands it on to g -/
section
variable {X : Cx} {pins : List (Addr × Obj)} {σ : L2.St} {H : Hp} {s : Shared}
theorem Inv.pinned {f : Addr} {ob : Obj} (I : Inv X pins σ H s) (e : s.heap.get? f = some ob) (n : H f = none) (nL : f ≠ X.env.locals) (nf : f ∉ X.fs) (nc : ∀ v, ob.data ≠ .cell v) : Inv X ((f, ob) :: pins) σ H s := by
  refine ⟨I.ok, I.os, I.bare, I.base, I.loc, I.cell, I.free, I.freeC, fun p hp => ?_, I.hok, I.len⟩
  rcases List.mem_append.mp hp with h | h
  · exact I.pin p (List.mem_append_left _ h)
  · rcases List.mem_cons.mp h with rfl | h
    · exact ⟨e, n, nL, nf, nc⟩
    · exact I.pin p (List.mem_append_right _ h)
theorem Inv.unpinned {p₀ : Addr × Obj} (I : Inv X (p₀ :: pins) σ H s) : Inv X pins σ H s := by
  refine ⟨I.ok, I.os, I.bare, I.base, I.loc, I.cell, I.free, I.freeC, fun p hp => ?_, I.hok, I.len⟩
  rcases List.mem_append.mp hp with h | h
  · exact I.pin p (List.mem_append_left _ h)
  · exact I.pin p (List.mem_append_right _ (List.mem_cons_of_mem _ h))
/-- the def that hands on what it got -/
def Gives2 (m : Nat) (X : Cx) (Ny : List Str) (qy : Str) (sy : Scope) (gy : Addr) (cdy : Value) (bdy : List Stmt) (x an_ : Str) (q : Str) (TT : (XK → Hp → VK → Prop) → Hp → VK → Prop) (TD : (XK → Hp → VK → Prop) → List V → Hp → VK → Prop) : Prop :=
  ∀ (f c' : Addr) (s : Shared) (H : Hp) (Q : VK) (tl : XK → Hp → VK → Prop) (vs : List V),
    (∀ (p1 p2 p3 : Pos), PE (cxY X Ny qy sy gy cdy s H) (.Call (.Name x p1) [.Name an_ p2] [] p3) (fun σZ HZ Q => σZ[0]? = some (some (.ref f)) ∧ HZ c' = some (CodeO c' q) ∧ TT tl HZ Q)) →
    H c' = some (CodeO c' q) → TD tl vs H Q → Room m (cxY X Ny qy sy gy cdy s H).A →
    ∃ t, PSs (cxY X Ny qy sy gy cdy s H) bdy t ∧ t { nx := fun _ H' => Q .non H', rt := Q } (L2.start Ny (.ref f :: vs)) H
/-- y(lambda: body, more); y hands it on to x -/
def tLam2 (T : List (Addr × Str)) (q : Str) (TD : (XK → Hp → VK → Prop) → List V → Hp → VK → Prop) (ta : TA) (n : Nat) (t : XK → TE) : TE := fun σ H Q => Tabs T H ∧ ∀ (c' : Addr) (H1 : Hp), ExtN H H1 → Tabs T H1 → H1 c' = some (CodeO c' q) →
  ta σ H1 fun vs H2 => vs.length = n ∧ H2 c' = some (CodeO c' q) ∧ TD (fun E H' Q' => t E σ H' Q') vs H2 Q
theorem pe_lam2 {T : List (Addr × Str)} {TT : (XK → Hp → VK → Prop) → Hp → VK → Prop} {TD : (XK → Hp → VK → Prop) → List V → Hp → VK → Prop} {ta : TA} {x y a an_ : Str} {g gy c P : Addr} {k : Nat} {pg pgy : Arguments} {bg bgy : List Stmt} {sg sy : Scope} {dV kV doc pmg cdv ct oc dVy kVy docy pmy cdy cty ocy : Value} {an od any ody : Option Addr} {osl osly : Array (Option Value)} {Ng Ny psy : List Str}
    {params : Arguments} {body : Expr} {scope : Scope} {t : XK → TE} {es : List Expr} {p lpos pos : Pos}
    (hgy : Gl X y) (hmy : X.mg y = some (.ref gy)) (hky : PySem.W.keepIn X.K (.ref gy) = true)
    (lky : X.K.lookup gy = some ⟨ocy, ody, .func (PySem.W.fnOf y y pgy bgy sy dVy kVy docy pmy any cdy cty), osly⟩) (hcy : PySem.W.codeIn X.K cdy y = true) (hby : L2.Binds X.K (PySem.W.fnOf y y pgy bgy sy dVy kVy docy pmy any cdy cty) (an_ :: psy) []) (Sy : FnScope Ny (an_ :: psy) sy)
    (hNy : Ny[0]? = some an_) (hvy : Vis sy an_)
    (hm : X.mg x = some (.ref g)) (hk : PySem.W.keepIn X.K (.ref g) = true)
    (lk : X.K.lookup g = some ⟨oc, od, .func (PySem.W.fnOf x x pg bg sg dV kV doc pmg an cdv ct), osl⟩) (hcg : PySem.W.codeIn X.K cdv x = true) (hb : L2.Binds X.K (PySem.W.fnOf x x pg bg sg dV kV doc pmg an cdv ct) [a] []) (Sg : FnScope Ng [a] sg) (hNg : Ng[0]? = some a) (hva : Vis sg a)
    (hG : ∀ (s : Shared) (H : Hp), GivesS (cxY X Ny y sy gy cdy s H) Ng x sg g cdv bg a (X.env.qual ++ "<lambda>") TT)
    (hgx : ∀ (s : Shared) (H : Hp), Gl (cxY X Ny y sy gy cdy s H) x)
    (hD : Gives2 (k + 2) X Ny y sy gy cdy bgy x an_ (X.env.qual ++ "<lambda>") TT TD)
    (TB : TabB X.base X.mg c P) (hcode : X.env.code = .ref c) (hmT : (P, X.env.qual ++ "<lambda>") ∈ T) (hu : ∀ p ∈ T, p.1 = P → p.2 = X.env.qual ++ "<lambda>") (hr : Room (k + 3) X.A) (L : LamS X.env.scope scope) (hdef : defaultsOf params X.env = ([], []))
    (hbind : ∀ (q : Str) (cl : List (Str × Addr)) (pm cv ctv : Value), bindArgs (PySem.W.kla_fn "<lambda>" q params body scope cl pm cv ctv) ⟨[], []⟩ = pure [])
    (hbody : ∀ (A : Around) (outer : List Env) (s : Shared) (H : Hp) (E : XK) (f c' : Addr), Room k (A.deeper (lamEnv X scope s.heap.objs.size f c')) → PE (lamCx X A outer s H E scope f c') body (t E))
    (ha : PA X es ta) (hst : X.stack = X.env :: X.outer) (hfr0 : X.env.frame = some X.env.locals)
    (hs1 : starEach (.Lambda params body scope lpos :: es) X.env = (false, eval (.Lambda params body scope lpos) X.env) :: starEach es X.env := by rfl) (hs2 : ((backTo pos (starEach es X.env)).any fun x => x.fst) = false := by rfl)
    (hdb : (x == ("__debug__" : Str)) = false := by decide) (hdy : (y == ("__debug__" : Str)) = false := by decide) (hd : (a == ("__debug__" : Str)) = false := by decide) (hcd : (a == ("__classdict__" : Str)) = false := by decide) (hd2 : (an_ == ("__debug__" : Str)) = false := by decide) (hcd2 : (an_ == ("__classdict__" : Str)) = false := by decide) :
    PE X (.Call (.Name y p) (.Lambda params body scope lpos :: es) [] pos) (tLam2 T (X.env.qual ++ "<lambda>") TD ta psy.length t) := by
  constructor
  rintro pins s σ H Q I ⟨hT, h⟩
  refine wpAny_Call_Name_kw (ld_glob I hgy hmy ?_ hdy)
  refine PySem.W.callWith_K (h₀ := X.base) I.ok.mod.kin hky ?_ hs1 hs2
  rw [hs1]
  show wpAny _ _ (spliced ((false, eval (.Lambda params body scope lpos) X.env) :: backTo pos (starEach es X.env))) _ _ s
  refine Calls.spliced_cons (lam_make2 I TB hcode hmT hu hT hdef (L.has I.ok) ?_)
  intro f c' pm' ctv H1 s' I1 eN T1 hf hfn hfr hco
  have fX : f ∉ X.fs := fun z => hfr (by rw [hst]; obtain ⟨e, m, e2⟩ := List.mem_filterMap.mp z; exact List.mem_filterMap.mpr ⟨e, List.mem_cons_of_mem _ m, e2⟩)
  have fL : f ≠ X.env.locals := fun z => hfr (by rw [hst]; exact List.mem_filterMap.mpr ⟨X.env, List.mem_cons_self, by rw [hfr0, z]⟩)
  have J1 := Inv.pinned I1 hf hfn fL fX (fun v z => nomatch z)
  refine wpAny_mono (ha.run pos _ s' σ H1 _ J1 (h c' H1 eN T1 hco)) ?_ (fun _ _ z => z)
  rintro us s2 ⟨vs, H2, I2, rv, ln, hc2, hTD⟩
  refine ⟨I2.kIn, ?_⟩
  obtain ⟨hf2, hfn2, _⟩ := I2.pin (f, _) (List.mem_append_right _ List.mem_cons_self)
  have ran : codeAny (model X.prog X.w) X.A (.call (.ref gy) ⟨.ref f :: us, []⟩) (CR C8.CX0 X.stack X.prog X.w H2 s2 Q C8.E0) s2 := by
    have lu : (Value.ref f :: us).length = (an_ :: psy).length := by
      rw [List.length_cons, List.length_cons, ← rv.length, ln]
    have bd := hby s2 (.ref f :: us) I2.kIn (by rw [List.append_nil]; exact lu)
    rw [List.append_nil] at bd
    refine run_ofS (N := Ny) (ps := an_ :: psy) (us := .ref f :: us) (vs := .ref f :: vs) lky hcy Sy hr I2.env0 bd (.cons rfl rv) (by rw [List.length_cons, List.length_cons, ln]) ?_
    intro hr'
    obtain ⟨t', ht', hq'⟩ := hD f c' s2 H2 Q (fun E H' Q' => t E σ H' Q') vs (fun p1 p2 p3 => pe_pass (i := 0) (TT := TT) (t := t) I2 L hf2 hfn2 hfr hbind hm hk lk hcg hb Sg hNg hva (hG s2 H2) hr' (hgx s2 H2) (fun A outer s H E hr2 => hbody A outer s H E f c' hr2) hNy hvy hdb hd hcd hd2 hcd2) hc2 hTD hr'
    exact ⟨t', ht'.nox, hq'⟩
  refine wpAny_call (codeAny_mono ran ?_)
  rintro (e | (_ | _ | _ | u)) s3 hq
  · exact False.elim hq
  · exact False.elim hq
  · exact False.elim hq
  · exact False.elim hq
  · obtain ⟨v, H3, I3, r3, q3⟩ := I2.after hq
    exact ⟨v, H3, Inv.unpinned I3, r3, q3⟩
end
end Uq

namespace Uq
open PySem PySem.Spec PyProof.Rows L2

/-! ### shares and their stretches -/
def red (a b : Int) : Int × Int := (a / ((Nat.gcd a.natAbs b.natAbs : Nat) : Int), b / ((Nat.gcd a.natAbs b.natAbs : Nat) : Int))
abbrev StD := (Int × Int) × Bool × (Int × Int) × Bool
def Sh (b : Int) (v : V) : Prop := (∃ s : Int, v = .int s ∧ 0 ≤ s ∧ s ≤ b) ∨ v = .str "none" ∨ v = .str "some"
def reachOf (h : Str) (s : Int) : Int × Bool × Int × Bool :=
  if h = "down" then (2 * s, true, 2 * s + 2, false) else if h = "up" then (2 * s - 2, false, 2 * s, true) else if h = "near" then (2 * s - 1, true, 2 * s + 1, false) else (2 * s - 1, decide (s % 2 = 0), 2 * s + 1, decide (s % 2 = 0))
def stI (b : Int) (r : Int × Bool × Int × Bool) : StD :=
  (red (if 0 > r.1 then 0 else r.1) (2 * b), r.2.1 || decide (r.1 < 0), red (if 2 * b < r.2.2.1 then 2 * b else r.2.2.1) (2 * b), r.2.2.2 || decide (2 * b < r.2.2.1))
def stOf (h : Str) (b : Int) : V → StD
  | .str x => if x = "none" then ((0, 1), true, (0, 1), true) else ((0, 1), false, (1, b), false)
  | .int s => stI b (reachOf h s)
  | _ => ((0, 1), true, (0, 1), true)
def words : List V := [.str "none", .str "some"]
def sp_least_terms (K : PySem.W.Frag) : Sp := fun vs H Q _ => ∃ a b : Int, vs = [.int a, .int b] ∧ 0 < b ∧ b < 2 ^ 62 ∧ ∀ H' t, Same H H' → H t = none → H' t = some (.tup [.int (red a b).1, .int (red a b).2]) → Q (.ref t) H'
def sp_is_share (K : PySem.W.Frag) : Sp := fun vs H Q _ => ∃ (u : Addr) (b : Int) (h : Str) (v : V), vs = [.ref u, v] ∧ Un K H u b h ∧ Sh b v ∧ Q (.bl true) H
def sp_reach (K : PySem.W.Frag) : Sp := fun vs H Q _ => ∃ (h : Str) (s : Int), vs = [.str h, .int s] ∧ ∀ H' t, Same H H' → H t = none → H' t = some (.tup [.int (reachOf h s).1, .bl (reachOf h s).2.1, .int (reachOf h s).2.2.1, .bl (reachOf h s).2.2.2]) → Q (.ref t) H'
def St (H : Hp) (t t1 t2 : Addr) (d : StD) : Prop := H t = some (.tup [.ref t1, .bl d.2.1, .ref t2, .bl d.2.2.2]) ∧ H t1 = some (.tup [.int d.1.1, .int d.1.2]) ∧ H t2 = some (.tup [.int d.2.2.1.1, .int d.2.2.1.2])
def SpSt (K : PySem.W.Frag) : Sp := fun vs H Q _ => ∃ (u : Addr) (b : Int) (h : Str) (v : V), vs = [.ref u, v] ∧ Un K H u b h ∧ Sh b v ∧
  ∀ H' t t1 t2, Same H H' → H t = none → H t1 = none → H t2 = none → St H' t t1 t2 (stOf h b v) → Q (.ref t) H'
abbrev sp_stretch := SpSt
theorem St.same {H H' : Hp} {t t1 t2 : Addr} {d : StD} (e : Same H H') (x : St H t t1 t2 d) : St H' t t1 t2 d := ⟨e _ _ x.1, e _ _ x.2.1, e _ _ x.2.2⟩
def within (d : StD) (m w : Int) : Bool :=
  (decide (0 < m * d.1.2 - d.1.1 * w) || (decide (m * d.1.2 - d.1.1 * w = 0) && d.2.1)) && (decide (0 < d.2.2.1.1 * w - m * d.2.2.1.2) || (decide (d.2.2.1.1 * w - m * d.2.2.1.2 = 0) && d.2.2.2))
def SmD (d : StD) : Prop := -(2 ^ 62) < d.1.1 ∧ d.1.1 < 2 ^ 62 ∧ -(2 ^ 62) < d.2.2.1.1 ∧ d.2.2.1.1 < 2 ^ 62
theorem fresh_same {q : Addr} {H H' : Hp} (e : Same H H') (h : H' q = none) : H q = none := Same.free e h
theorem gcd_pos {a b : Int} (hb : 0 < b) : 0 < ((Nat.gcd a.natAbs b.natAbs : Nat) : Int) := Int.natCast_pos.mpr (Nat.gcd_pos_of_pos_right _ (by omega))
theorem gcd_le {a b : Int} (hb : 0 < b) : ((Nat.gcd a.natAbs b.natAbs : Nat) : Int) ≤ b := by
  have z := Nat.gcd_le_right (n := b.natAbs) a.natAbs (by omega)
  omega
theorem red_mul {a b : Int} (hb : 0 < b) : (red a b).1 * ((Nat.gcd a.natAbs b.natAbs : Nat) : Int) = a ∧ (red a b).2 * ((Nat.gcd a.natAbs b.natAbs : Nat) : Int) = b := by
  have d1 : ((Nat.gcd a.natAbs b.natAbs : Nat) : Int) ∣ a := by
    rw [← Int.dvd_natAbs]
    exact Int.natCast_dvd_natCast.mpr (Nat.gcd_dvd_left _ _)
  have d2 : ((Nat.gcd a.natAbs b.natAbs : Nat) : Int) ∣ b := by
    rw [← Int.dvd_natAbs]
    exact Int.natCast_dvd_natCast.mpr (Nat.gcd_dvd_right _ _)
  exact ⟨Int.ediv_mul_cancel d1, Int.ediv_mul_cancel d2⟩
theorem red_lt {a b : Int} (hb : 0 < b) (h0 : 0 ≤ a) (h1 : a < 2 ^ 62) : 0 ≤ (red a b).1 ∧ (red a b).1 < 2 ^ 62 := ⟨Int.ediv_nonneg h0 (Int.le_of_lt (gcd_pos hb)), Int.lt_of_le_of_lt (Int.ediv_le_self _ h0) h1⟩
theorem small_st {h : Str} {b : Int} {v : V} (b0 : 2 ≤ b) (b1 : b ≤ 100) (hv : Sh b v) : SmD (stOf h b v) := by
  rcases hv with ⟨s, rfl, s0, s1⟩ | rfl | rfl
  · have r : -10 ≤ (reachOf h s).1 ∧ (reachOf h s).1 ≤ 1000 ∧ 0 ≤ (reachOf h s).2.2.1 ∧ (reachOf h s).2.2.1 ≤ 1000 := by
      unfold reachOf
      split
      · exact ⟨by show -10 ≤ 2 * s; omega, by show 2 * s ≤ 1000; omega, by show 0 ≤ 2 * s + 2; omega, by show 2 * s + 2 ≤ 1000; omega⟩
      · split
        · exact ⟨by show -10 ≤ 2 * s - 2; omega, by show 2 * s - 2 ≤ 1000; omega, by show 0 ≤ 2 * s; omega, by show 2 * s ≤ 1000; omega⟩
        · split <;> exact ⟨by show -10 ≤ 2 * s - 1; omega, by show 2 * s - 1 ≤ 1000; omega, by show 0 ≤ 2 * s + 1; omega, by show 2 * s + 1 ≤ 1000; omega⟩
    show SmD (stI b (reachOf h s))
    generalize reachOf h s = q at r
    have x := red_lt (a := if 0 > q.1 then 0 else q.1) (b := 2 * b) (by omega) (by split <;> omega) (by split <;> omega)
    have y := red_lt (a := if 2 * b < q.2.2.1 then 2 * b else q.2.2.1) (b := 2 * b) (by omega) (by split <;> omega) (by split <;> omega)
    exact ⟨by show -(2 ^ 62) < (red _ _).1; omega, x.2, by show -(2 ^ 62) < (red _ _).1; omega, y.2⟩
  · exact (show SmD ((0, 1), true, (0, 1), true) from ⟨by decide, by decide, by decide, by decide⟩)
  · have z : -(2 ^ 62) < (1 : Int) ∧ (1 : Int) < 2 ^ 62 := ⟨by decide, by decide⟩
    exact (show SmD ((0, 1), false, (1, b), false) from ⟨(by decide : -(2 ^ 62) < (0 : Int)), (by decide : (0 : Int) < 2 ^ 62), z.1, z.2⟩)
section
variable {P : Program} {w : World} {K : PySem.W.Frag} {mg : Str → Option Value} {base : Heap}
theorem ok_least_terms {f : Addr} {fd : FuncData} (F : Fun K "least_terms" "least_terms" s_least_terms f fd) (g_gcd : mg "gcd" = some (.builtin "math.gcd")) : FnOk P w K mg base CX0 1 f fd ["over", "under"] (sp_least_terms K) := by
  refine F.ok sc_least_terms (fun vs H Q E h => ?_) (fun cdv A outer s H vs Q E hr h => ?_)
  · obtain ⟨a, b, rfl, _⟩ := h
    rfl
  · refine ⟨_, (pss_cons (ps_set (i := 2) sc_least_terms.nd rfl (.inl rfl) (pe_callBfun cr_gcd (by rfl) g_gcd (pa_cons (pv 0) (pa_cons (pv 1) pa_nil))))
      (pss_one (ps_ret (pe_tup (pa_cons (pe_op op_fdivW (pv 0) (pv 2)) (pa_cons (pe_op op_fdivW (pv 1) (pv 2)) pa_nil)))))), ?_⟩
    obtain ⟨a, b, rfl, b0, b1, q⟩ := h
    refine ⟨.int a, rfl, .int b, rfl, a, b, rfl, ?_⟩
    have g0 := gcd_pos (a := a) b0
    have g1 := gcd_le (a := a) b0
    have wd : ∀ x : Int, CDivW x ((Nat.gcd a.natAbs b.natAbs : Nat) : Int) := fun x => wide_div (b := 62) g0 (by omega) (by decide) (by decide)
    refine ⟨.int a, rfl, .int ((Nat.gcd a.natAbs b.natAbs : Nat) : Int), rfl, a, _, rfl, rfl, wd a, .int b, rfl, .int ((Nat.gcd a.natAbs b.natAbs : Nat) : Int), rfl, b, _, rfl, rfl, wd b, ?_⟩
    exact ⟨by show 2 ≤ sizeLine; decide, fun t nt => q _ t (sameU nt) nt upd_same⟩

theorem ok_is_share {f : Addr} {fd : FuncData} (F : Fun K "is_share" "is_share" s_is_share f fd) (m_isinstance : mg "isinstance" = none) (m_str : mg "str" = none) {a_WORDS : Addr} (g_WORDS : mg "WORDS" = some (.ref a_WORDS)) (t_WORDS : TupK K a_WORDS words) (c_is_integer : Cal P w K mg base 1 "is_integer" ["value"] (sp_is_integer K)) : FnOk P w K mg base CX0 2 f fd ["units", "value"] (sp_is_share K) := by
  refine F.ok sc_is_share (fun vs H Q E h => ?_) (fun cdv A outer s H vs Q E hr h => ?_)
  · obtain ⟨u, b, h, v, rfl, _⟩ := h
    rfl
  · refine ⟨_, (pss_cons (ps_if (pt_val (pe_callB call_isi (by rfl) m_isinstance (by decide +kernel) (pa_cons (pv 1) (pa_cons (pe_bltn (v := .ty "str") (by rfl) m_str (by decide +kernel) rfl) pa_nil)))) (pss_one (ps_ret (pe_cmpR op_in_seq (pv 1) (pe_glob (v := .ref a_WORDS) (by rfl) g_WORDS rfl) rfl))) pss_nil)
      (pss_one (ps_ret (pe_and (pe_call c_is_integer.G (hr.mono (by decide)) (by rfl) c_is_integer.g c_is_integer.kp c_is_integer.b .nil pass0 (pa_cons (pv 1) pa_nil)) (pe_one (pe_chain op_le op_le pe_int (pv 1) (pe_ix ix_tup (pv 0) pe_int (fun _ _ => rfl)))))))), ?_⟩
    obtain ⟨u, b, h, v, rfl, hu, hv, q⟩ := h
    rcases hv with ⟨s, rfl, s0, s1⟩ | rfl | rfl
    · refine ⟨.int s, rfl, .int s, .ty "str", _, _, false, rfl, .ty "str", .base (.int s), kit_ty (by decide +kernel), false, rfl, ?_⟩
      refine iteF ⟨.int s, rfl, s, rfl, true, rfl, ?_⟩
      refine iteT ⟨.int s, rfl, 0, s, rfl, rfl, _, rfl, iteDY s0 ⟨.ref u, rfl, u, _, 0, .int b, rfl, rfl, hu.1, atI_nat (j := 0) rfl, s, b, rfl, rfl, ?_⟩⟩
      show Q (.bl (decide (s ≤ b))) H
      rw [decide_eq_true s1]
      exact q
    · refine ⟨.str "none", rfl, .str "none", .ty "str", _, _, true, rfl, .ty "str", .base (.str _), kit_ty (by decide +kernel), true, rfl, iteT ?_⟩
      exact ⟨.str "none", rfl, a_WORDS, words, rfl, .inr (.inr t_WORDS), rfl, by decide +kernel, q⟩
    · refine ⟨.str "some", rfl, .str "some", .ty "str", _, _, true, rfl, .ty "str", .base (.str _), kit_ty (by decide +kernel), true, rfl, iteT ?_⟩
      exact ⟨.str "some", rfl, a_WORDS, words, rfl, .inr (.inr t_WORDS), rfl, by decide +kernel, q⟩

theorem ok_reach {f : Addr} {fd : FuncData} (F : Fun K "reach" "reach" s_reach f fd) : FnOk P w K mg base CX0 1 f fd ["how", "number"] (sp_reach K) := by
  refine F.ok sc_reach (fun vs H Q E h => ?_) (fun cdv A outer s H vs Q E hr h => ?_)
  · obtain ⟨h, s, rfl, _⟩ := h
    rfl
  · refine ⟨_, (pss_cons (ps_if (pt_cmpR op_eq (pv 0) pe_str (nomark _)) (pss_one (ps_ret (pe_tup (pa_cons (pe_op op_mul pe_int (pv 1)) (pa_cons pe_bl (pa_cons (pe_op op_add (pe_op op_mul pe_int (pv 1)) pe_int) (pa_cons pe_bl pa_nil))))))) pss_nil)
      (pss_cons (ps_if (pt_cmpR op_eq (pv 0) pe_str (nomark _)) (pss_one (ps_ret (pe_tup (pa_cons (pe_op op_sub (pe_op op_mul pe_int (pv 1)) pe_int) (pa_cons pe_bl (pa_cons (pe_op op_mul pe_int (pv 1)) (pa_cons pe_bl pa_nil))))))) pss_nil)
      (pss_cons (ps_if (pt_cmpR op_eq (pv 0) pe_str (nomark _)) (pss_one (ps_ret (pe_tup (pa_cons (pe_op op_sub (pe_op op_mul pe_int (pv 1)) pe_int) (pa_cons pe_bl (pa_cons (pe_op op_add (pe_op op_mul pe_int (pv 1)) pe_int) (pa_cons pe_bl pa_nil))))))) pss_nil)
      (pss_cons (ps_set (i := 2) sc_reach.nd rfl (.inl rfl) (pe_cmpR op_eq (pe_op op_mod (pv 1) pe_int) pe_int (nomark _)))
      (pss_one (ps_ret (pe_tup (pa_cons (pe_op op_sub (pe_op op_mul pe_int (pv 1)) pe_int) (pa_cons (pv 2) (pa_cons (pe_op op_add (pe_op op_mul pe_int (pv 1)) pe_int) (pa_cons (pv 2) pa_nil))))))))))), ?_⟩
    obtain ⟨h, n, rfl, q⟩ := h
    have m2 : CMul 2 n := .inl ⟨by decide, by decide⟩
    refine ⟨.str h, rfl, rfl, _, rfl, ite2 (fun e => ?_) (fun e => ?_)⟩
    · refine ⟨.int n, rfl, 2, n, rfl, rfl, m2, .int n, rfl, 2, n, rfl, rfl, m2, _, _, rfl, rfl, by show 4 ≤ sizeLine; decide, fun t nt => ?_⟩
      have er : reachOf h n = (2 * n, true, 2 * n + 2, false) := if_pos (str_of e)
      rw [er] at q
      exact q _ t (sameU nt) nt upd_same
    · have n1 := str_not e
      refine ⟨.str h, rfl, rfl, _, rfl, ite2 (fun e2 => ?_) (fun e2 => ?_)⟩
      · refine ⟨.int n, rfl, 2, n, rfl, rfl, m2, _, _, rfl, rfl, .int n, rfl, 2, n, rfl, rfl, m2, by show 4 ≤ sizeLine; decide, fun t nt => ?_⟩
        have er : reachOf h n = (2 * n - 2, false, 2 * n, true) := by
          unfold reachOf
          rw [if_neg n1, if_pos (str_of e2)]
        rw [er] at q
        exact q _ t (sameU nt) nt upd_same
      · have n2 := str_not e2
        refine ⟨.str h, rfl, rfl, _, rfl, ite2 (fun e3 => ?_) (fun e3 => ?_)⟩
        · refine ⟨.int n, rfl, 2, n, rfl, rfl, m2, _, _, rfl, rfl, .int n, rfl, 2, n, rfl, rfl, m2, _, _, rfl, rfl, by show 4 ≤ sizeLine; decide, fun t nt => ?_⟩
          have er : reachOf h n = (2 * n - 1, true, 2 * n + 1, false) := by
            unfold reachOf
            rw [if_neg n1, if_neg n2, if_pos (str_of e3)]
          rw [er] at q
          exact q _ t (sameU nt) nt upd_same
        · have n3 := str_not e3
          refine ⟨.int n, rfl, n, 2, rfl, rfl, (by show (0 : Int) < 2; decide), rfl, ?_⟩
          refine ⟨.int n, rfl, 2, n, rfl, rfl, m2, _, _, rfl, rfl, _, rfl, .int n, rfl, 2, n, rfl, rfl, m2, _, _, rfl, rfl, _, rfl, by show 4 ≤ sizeLine; decide, fun t nt => ?_⟩
          have er : reachOf h n = (2 * n - 1, decide (n % 2 = 0), 2 * n + 1, decide (n % 2 = 0)) := by
            unfold reachOf
            rw [if_neg n1, if_neg n2, if_neg n3]
          have ed : decide (V.int (n % 2) = V.int 0) = decide (n % 2 = 0) := by
            rw [decide_eq_decide]
            exact ⟨fun z => V.int.inj z, fun z => by rw [z]⟩
          rw [er] at q
          refine q _ t (sameU nt) nt ?_
          rw [upd_same, ← ed]

theorem ok_stretch {f : Addr} {fd : FuncData} (F : Fun K "stretch" "stretch" s_stretch f fd) (m_min : mg "min" = none) (m_max : mg "max" = none) (c_is_units : Cal P w K mg base 2 "is_units" ["value"] (sp_is_units K)) (c_is_share : Cal P w K mg base 2 "is_share" ["units", "value"] (sp_is_share K)) (c_reach : Cal P w K mg base 1 "reach" ["how", "number"] (sp_reach K)) (c_least_terms : Cal P w K mg base 1 "least_terms" ["over", "under"] (sp_least_terms K)) : FnOk P w K mg base CX0 3 f fd ["units", "share"] (sp_stretch K) := by
  refine F.ok sc_stretch (fun vs H Q E h => ?_) (fun cdv A outer s H vs Q E hr h => ?_)
  · obtain ⟨u, b, h, v, rfl, _⟩ := h
    rfl
  · refine ⟨_, (pss_cons (ps_if (pt_not (pt_val (pe_call c_is_units.G (hr.mono (by decide)) (by rfl) c_is_units.g c_is_units.kp c_is_units.b .nil pass0 (pa_cons (pv 0) pa_nil)))) (pss_one ps_never) pss_nil)
      (pss_cons (ps_if (pt_not (pt_val (pe_call c_is_share.G (hr.mono (by decide)) (by rfl) c_is_share.g c_is_share.kp c_is_share.b .nil pass0 (pa_cons (pv 0) (pa_cons (pv 1) pa_nil))))) (pss_one ps_never) pss_nil)
      (pss_cons (ps_asg (pv 0) (pg_tup rfl (pgs_cons (pg_name (i := 2) sc_stretch.nd rfl (.inl rfl)) (pgs_cons (pg_name (i := 3) sc_stretch.nd rfl (.inl rfl)) pgs_nil))))
      (pss_cons (ps_if (pt_cmpR op_eq (pv 1) pe_str (nomark _)) (pss_one (ps_ret (pe_tup (pa_cons (pe_tup (pa_cons pe_int (pa_cons pe_int pa_nil))) (pa_cons pe_bl (pa_cons (pe_tup (pa_cons pe_int (pa_cons pe_int pa_nil))) (pa_cons pe_bl pa_nil))))))) pss_nil)
      (pss_cons (ps_if (pt_cmpR op_eq (pv 1) pe_str (nomark _)) (pss_one (ps_ret (pe_tup (pa_cons (pe_tup (pa_cons pe_int (pa_cons pe_int pa_nil))) (pa_cons pe_bl (pa_cons (pe_tup (pa_cons pe_int (pa_cons (pv 2) pa_nil))) (pa_cons pe_bl pa_nil))))))) pss_nil)
      (pss_cons (ps_asg (pe_call c_reach.G (hr.mono (by decide)) (by rfl) c_reach.g c_reach.kp c_reach.b .nil pass0 (pa_cons (pv 3) (pa_cons (pv 1) pa_nil))) (pg_tup rfl (pgs_cons (pg_name (i := 4) sc_stretch.nd rfl (.inl rfl)) (pgs_cons (pg_name (i := 5) sc_stretch.nd rfl (.inl rfl)) (pgs_cons (pg_name (i := 6) sc_stretch.nd rfl (.inl rfl)) (pgs_cons (pg_name (i := 7) sc_stretch.nd rfl (.inl rfl)) pgs_nil))))))
      (pss_cons (ps_set (i := 8) sc_stretch.nd rfl (.inl rfl) (pe_op op_mul pe_int (pv 2)))
      (pss_one (ps_ret (pe_tup (pa_cons (pe_call c_least_terms.G (hr.mono (by decide)) (by rfl) c_least_terms.g c_least_terms.kp c_least_terms.b .nil pass0 (pa_cons (pe_callB (call_max2 rfl) (by rfl) m_max (by decide +kernel) (pa_cons (pv 4) (pa_cons pe_int pa_nil))) (pa_cons (pv 8) pa_nil))) (pa_cons (pe_or (pv 5) (pe_one (pe_cmpR op_lt (pv 4) pe_int (nomark _)))) (pa_cons (pe_call c_least_terms.G (hr.mono (by decide)) (by rfl) c_least_terms.g c_least_terms.kp c_least_terms.b .nil pass0 (pa_cons (pe_callB (call_min2 rfl) (by rfl) m_min (by decide +kernel) (pa_cons (pv 6) (pa_cons (pv 8) pa_nil))) (pa_cons (pv 8) pa_nil))) (pa_cons (pe_or (pv 7) (pe_one (pe_cmpR op_gt (pv 6) (pv 8) (nomark _)))) pa_nil)))))))))))))), ?_⟩
    obtain ⟨u, b, h, v, rfl, hu, hv, q⟩ := h
    refine ⟨.ref u, rfl, u, b, h, rfl, hu, true, rfl, iteF ?_⟩
    refine ⟨.ref u, rfl, v, rfl, u, b, h, v, rfl, hu, hv, true, rfl, iteF ?_⟩
    refine ⟨.ref u, rfl, u, _, rfl, hu.1, rfl, _, _, rfl, _, _, rfl, rfl, ?_⟩
    have hb := hu.2
    rcases hv with ⟨n, rfl, s0, s1⟩ | rfl | rfl
    · refine ⟨.int n, rfl, rfl, false, rfl, iteF ?_⟩
      refine ⟨.int n, rfl, rfl, false, rfl, iteF ?_⟩
      refine ⟨.str h, rfl, .int n, rfl, h, n, rfl, fun H1 t sm1 nt ht => ?_⟩
      refine ⟨t, _, rfl, SqT.of ht, rfl, _, _, rfl, _, _, rfl, _, _, rfl, _, _, rfl, rfl, ?_⟩
      refine ⟨.int b, rfl, 2, b, rfl, rfl, .inl ⟨by decide, by decide⟩, ?_⟩
      refine ⟨_, rfl, _, _, rfl, .int (2 * b), rfl, _, _, rfl, by omega, by omega, fun H2 t1 sm2 nt1 ht1 => ?_⟩
      refine val_orV (val_var rfl) (fun _ => val_I0 (val_var rfl) val_c) _ ?_
      refine ⟨_, rfl, .int (2 * b), rfl, _, _, rfl, .int (2 * b), rfl, _, _, rfl, by omega, by omega, fun H3 t2 sm3 nt2 ht2 => ?_⟩
      refine val_orV (val_var rfl) (fun _ => val_I0 (val_var rfl) (val_var rfl)) _ ?_
      refine ⟨by show 4 ≤ sizeLine; decide, fun p np => ?_⟩
      have n3 : H1 p = none := fresh_same (sm2.trans sm3) np
      refine q _ p t1 t2 (((sm1.trans sm2).trans sm3).trans (sameU np)) (fresh_same sm1 n3) (fresh_same sm1 nt1) (fresh_same (sm1.trans sm2) nt2) ⟨upd_same, sameU np _ _ (sm3 _ _ ht1), sameU np _ _ ht2⟩
    · refine ⟨.str "none", rfl, rfl, true, rfl, iteT ?_⟩
      refine ⟨by show 2 ≤ sizeLine; decide, fun t1 n1 => ⟨by show 2 ≤ sizeLine; decide, fun t2 n2 => ⟨by show 4 ≤ sizeLine; decide, fun t nt => ?_⟩⟩⟩
      have m2 := fresh_same (sameU n1) n2
      have m := fresh_same (sameU n1) (fresh_same (sameU n2) nt)
      exact q _ t t1 t2 (((sameU n1).trans (sameU n2)).trans (sameU nt)) m n1 m2 ⟨upd_same, sameU nt _ _ (sameU n2 _ _ upd_same), sameU nt _ _ upd_same⟩
    · refine ⟨.str "some", rfl, rfl, false, rfl, iteF ?_⟩
      refine ⟨.str "some", rfl, rfl, true, rfl, iteT ?_⟩
      refine ⟨by show 2 ≤ sizeLine; decide, fun t1 n1 => ⟨.int b, rfl, by show 2 ≤ sizeLine; decide, fun t2 n2 => ⟨by show 4 ≤ sizeLine; decide, fun t nt => ?_⟩⟩⟩
      have m2 := fresh_same (sameU n1) n2
      have m := fresh_same (sameU n1) (fresh_same (sameU n2) nt)
      exact q _ t t1 t2 (((sameU n1).trans (sameU n2)).trans (sameU nt)) m n1 m2 ⟨upd_same, sameU nt _ _ (sameU n2 _ _ upd_same), sameU nt _ _ upd_same⟩

end
end Uq

namespace Uq
open PySem PySem.Spec PyProof.Rows L2 LamX TL

/-! ### values of any kind -/
section
variable {K : PySem.W.Frag} {C : Addr} {H : Hp}
/-- a value that is no string -/
def NoStr (K : PySem.W.Frag) (H : Hp) (v : V) : Prop := ∃ t, TyX K H v t ∧ PySem.W.kitOne K t (.type "str") = some false
theorem TyX.same {H' : Hp} {v : V} {t : Value} (s : Same H H') (h : TyX K H v t) : TyX K H' v t := by
  cases h with
  | base b =>
    refine .base ?_
    cases b with
    | non => exact .non
    | bl y => exact .bl y
    | int i => exact .int i
    | str y => exact .str y
    | flt y => exact .flt y
    | lst e => exact .lst (s _ _ e)
    | frz e => exact .frz (s _ _ e)
    | tup e => exact .tup (s _ _ e)
    | dK e => exact .dK (s _ _ e)
    | dT e => exact .dT (s _ _ e)
    | ins e cl ha hn htk hm => exact .ins (s _ _ e) cl ha hn htk hm
  | byt y => exact .byt y
  | set e => exact .set (s _ _ e)
  | kList e c => exact .kList e c
  | kTuple e c => exact .kTuple e c
  | kDict e c => exact .kDict e c
  | fTuple e => exact .fTuple (s _ _ e)
  | fDict e => exact .fDict (s _ _ e)
theorem NoStr.same {H' : Hp} {v : V} (s : Same H H') (h : NoStr K H v) : NoStr K H' v := by
  obtain ⟨t, a, b⟩ := h
  exact ⟨t, TyX.same s a, b⟩
/-- strings, and what is none -/
def AnyV (K : PySem.W.Frag) (H : Hp) (v : V) : Prop := (∃ s, v = .str s) ∨ NoStr K H v
theorem AnyV.same {H' : Hp} {v : V} (s : Same H H') (h : AnyV K H v) : AnyV K H' v := h.imp id fun z => z.same s
theorem sqT_ty {a : Addr} {xs : List V} (h : SqT K H a xs) : TyX K H (.ref a) (.type "tuple") := by
  rcases h with (h | ⟨ob, h⟩) | ⟨o, its, n, e, c, _⟩
  · exact .base (.tup h)
  · exact .fTuple h
  · exact .kTuple e c
theorem anyV_dx {v : V} {d : PyData} (h : Dx K H v d) : AnyV K H v := by
  cases h with
  | non => exact .inr ⟨_, .base .non, kit_ty (by decide +kernel)⟩
  | bl b => exact .inr ⟨_, .base (.bl b), kit_ty (by decide +kernel)⟩
  | int i => exact .inr ⟨_, .base (.int i), kit_ty (by decide +kernel)⟩
  | str x => exact .inl ⟨x, rfl⟩
  | lst e _ _ => exact .inr ⟨_, .base (.lst e), kit_ty (by decide +kernel)⟩
  | tup e _ => exact .inr ⟨_, sqT_ty e, kit_ty (by decide +kernel)⟩
  | dct e _ _ => exact .inr ⟨_, .base (.dK e), kit_ty (by decide +kernel)⟩
end
/-- any value that may be written out -/
def AnyD (K : PySem.W.Frag) (H : Hp) (v : V) : Prop := ∃ d, Dx K H v d ∧ Shows d
theorem AnyD.same {K : PySem.W.Frag} {H H' : Hp} {v : V} (s : Same H H') (h : AnyD K H v) : AnyD K H' v := by
  obtain ⟨d, a, b⟩ := h
  exact ⟨d, Dx.same s a, b⟩
def isI : V → Bool
  | .int _ => true
  | _ => false
/-- units told by their data -/
def unitsD : PyData → Bool
  | .tuple [.int b, .str h] => decide (2 ≤ b) && (decide (b ≤ 100) && inV (.str h) hows)
  | _ => false
theorem how_of {h : Str} (e : inV (.str h) hows = true) : How h := by
  unfold inV hows at e
  simp only [List.any_cons, List.any_nil, Bool.or_false, Bool.or_eq_true] at e
  have k : ∀ s : Str, eqV (.str s) (.str h) = true → h = s := fun s z => by
    have y : s = h := by simpa [eqV] using z
    exact y.symm
  rcases e with e | e | e | e
  · exact .inl (k _ e)
  · exact .inr (.inl (k _ e))
  · exact .inr (.inr (.inl (k _ e)))
  · exact .inr (.inr (.inr (k _ e)))
theorem units_un {K : PySem.W.Frag} {H : Hp} {v : V} {d : PyData} (h : Dx K H v d) (e : unitsD d = true) : ∃ (u : Addr) (b : Int) (hw : Str), v = .ref u ∧ Un K H u b hw ∧ d = .tuple [.int b, .str hw] := by
  cases h with
  | @tup a xs ds hs ha =>
    cases ha with
    | nil => cases e
    | @cons v1 vs d1 ds1 h1 ha =>
      cases ha with
      | nil => cases h1 <;> cases e
      | @cons v2 vs2 d2 ds2 h2 ha =>
        cases ha with
        | nil =>
          cases h1 with
          | int b =>
            cases h2 with
            | str s =>
              have z : (decide (2 ≤ b) && (decide (b ≤ 100) && inV (.str s) hows)) = true := e
              rw [Bool.and_eq_true, Bool.and_eq_true] at z
              exact ⟨a, b, s, rfl, ⟨hs, of_decide_eq_true z.1, of_decide_eq_true z.2.1, how_of z.2.2⟩, rfl⟩
            | _ => cases e
          | _ => cases h2 <;> cases e
        | cons h3 ha => cases h1 <;> cases h2 <;> cases e
  | _ => cases e
def sp_is_integerX (K : PySem.W.Frag) : Sp := fun vs H Q _ => ∃ (v : V) (d : PyData), vs = [v] ∧ Dx K H v d ∧ Q (.bl (isI v)) H
def sp_is_unitsX (K : PySem.W.Frag) : Sp := fun vs H Q _ => ∃ (v : V) (d : PyData), vs = [v] ∧ Dx K H v d ∧ Q (.bl (unitsD d)) H
section
variable {P : Program} {w : World} {K : PySem.W.Frag} {mg : Str → Option Value} {base : Heap}
theorem ok_is_integerX {f : Addr} {fd : FuncData} (F : Fun K "is_integer" "is_integer" s_is_integer f fd) (m_isinstance : mg "isinstance" = none) (m_int : mg "int" = none) (m_bool : mg "bool" = none) : FnOk P w K mg base CX0 1 f fd ["value"] (sp_is_integerX K) := by
  refine F.ok sc_is_integer (fun vs H Q E h => ?_) (fun cdv A outer s H vs Q E hr h => ?_)
  · obtain ⟨v, d, rfl, _⟩ := h
    rfl
  · refine ⟨_, (pss_one (ps_ret (pe_and (pe_callB call_isi (by rfl) m_isinstance (by decide +kernel) (pa_cons (pv 0) (pa_cons (pe_bltn (v := .ty "int") (by rfl) m_int (by decide +kernel) rfl) pa_nil))) (pe_one (pe_not (pe_callB call_isi (by rfl) m_isinstance (by decide +kernel) (pa_cons (pv 0) (pa_cons (pe_bltn (v := .ty "bool") (by rfl) m_bool (by decide +kernel) rfl) pa_nil)))))))), ?_⟩
    obtain ⟨v, d, rfl, hd, q⟩ := h
    cases hd with
    | non => exact ⟨_, rfl, _, .ty "int", _, _, false, rfl, .ty "int", .base .non, kit_ty (by decide +kernel), false, rfl, q⟩
    | bl y => exact ⟨_, rfl, _, .ty "int", _, _, true, rfl, .ty "int", .base (.bl y), kit_ty (by decide +kernel), true, rfl, _, rfl, _, .ty "bool", _, _, true, rfl, .ty "bool", .base (.bl y), kit_ty (by decide +kernel), true, rfl, q⟩
    | int i => exact ⟨_, rfl, _, .ty "int", _, _, true, rfl, .ty "int", .base (.int i), kit_ty (by decide +kernel), true, rfl, _, rfl, _, .ty "bool", _, _, false, rfl, .ty "bool", .base (.int i), kit_ty (by decide +kernel), false, rfl, q⟩
    | str x => exact ⟨_, rfl, _, .ty "int", _, _, false, rfl, .ty "int", .base (.str x), kit_ty (by decide +kernel), false, rfl, q⟩
    | lst e _ _ => exact ⟨_, rfl, _, .ty "int", _, _, false, rfl, .ty "int", .base (.lst e), kit_ty (by decide +kernel), false, rfl, q⟩
    | tup e _ => exact ⟨_, rfl, _, .ty "int", _, _, false, rfl, .ty "int", sqT_ty e, kit_ty (by decide +kernel), false, rfl, q⟩
    | dct e _ _ => exact ⟨_, rfl, _, .ty "int", _, _, false, rfl, .ty "int", .base (.dK e), kit_ty (by decide +kernel), false, rfl, q⟩
theorem ok_is_unitsX {f : Addr} {fd : FuncData} (F : Fun K "is_units" "is_units" s_is_units f fd) (m_isinstance : mg "isinstance" = none) (m_tuple : mg "tuple" = none) (m_len : mg "len" = none) (m_str : mg "str" = none) {a_HOWS : Addr} (g_HOWS : mg "HOWS" = some (.ref a_HOWS)) (t_HOWS : TupK K a_HOWS hows) (c_is_integerX : Cal P w K mg base 1 "is_integer" ["value"] (sp_is_integerX K)) : FnOk P w K mg base CX0 2 f fd ["value"] (sp_is_unitsX K) := by
  refine F.ok sc_is_units (fun vs H Q E h => ?_) (fun cdv A outer s H vs Q E hr h => ?_)
  · obtain ⟨v, d, rfl, _⟩ := h
    rfl
  · refine ⟨_, (pss_cons (ps_if (PW.pt (pw_or (pt_not (pt_val (pe_callB call_isi (by rfl) m_isinstance (by decide +kernel) (pa_cons (pv 0) (pa_cons (pe_bltn (v := .ty "tuple") (by rfl) m_tuple (by decide +kernel) rfl) pa_nil))))) (pw_or1 (pt_cmpR op_ne (pe_callB call_len_seq (by rfl) m_len (by decide +kernel) (pa_cons (pv 0) pa_nil)) pe_int (nomark _))))) (pss_one (ps_ret pe_bl)) pss_nil)
      (pss_cons (ps_asg (pv 0) (pg_tup rfl (pgs_cons (pg_name (i := 1) sc_is_units.nd rfl (.inl rfl)) (pgs_cons (pg_name (i := 2) sc_is_units.nd rfl (.inl rfl)) pgs_nil))))
      (pss_cons (ps_if (PW.pt (pw_or (pt_not (pt_val (pe_call c_is_integerX.G (hr.mono (by decide)) (by rfl) c_is_integerX.g c_is_integerX.kp c_is_integerX.b .nil pass0 (pa_cons (pv 1) pa_nil)))) (pw_or1 (pt_not (pt_val (pe_callB call_isi (by rfl) m_isinstance (by decide +kernel) (pa_cons (pv 2) (pa_cons (pe_bltn (v := .ty "str") (by rfl) m_str (by decide +kernel) rfl) pa_nil)))))))) (pss_one (ps_ret pe_bl)) pss_nil)
      (pss_one (ps_ret (pe_and (pe_chain op_le op_le pe_int (pv 1) pe_int) (pe_one (pe_cmpR op_in_seq (pv 2) (pe_glob (v := .ref a_HOWS) (by rfl) g_HOWS rfl) rfl)))))))), ?_⟩
    obtain ⟨v, d, rfl, hd, q⟩ := h
    have hd0 := hd
    cases hd with
    | non => exact ⟨_, rfl, _, .ty "tuple", _, _, false, rfl, .ty "tuple", .base .non, kit_ty (by decide +kernel), false, rfl, iteT q⟩
    | bl y => exact ⟨_, rfl, _, .ty "tuple", _, _, false, rfl, .ty "tuple", .base (.bl y), kit_ty (by decide +kernel), false, rfl, iteT q⟩
    | int i => exact ⟨_, rfl, _, .ty "tuple", _, _, false, rfl, .ty "tuple", .base (.int i), kit_ty (by decide +kernel), false, rfl, iteT q⟩
    | str x => exact ⟨_, rfl, _, .ty "tuple", _, _, false, rfl, .ty "tuple", .base (.str x), kit_ty (by decide +kernel), false, rfl, iteT q⟩
    | lst e _ _ => exact ⟨_, rfl, _, .ty "tuple", _, _, false, rfl, .ty "tuple", .base (.lst e), kit_ty (by decide +kernel), false, rfl, iteT q⟩
    | dct e _ _ => exact ⟨_, rfl, _, .ty "tuple", _, _, false, rfl, .ty "tuple", .base (.dK e), kit_ty (by decide +kernel), false, rfl, iteT q⟩
    | @tup a xs ds e ha =>
      refine ⟨_, rfl, _, .ty "tuple", _, _, true, rfl, .ty "tuple", sqT_ty e, kit_ty (by decide +kernel), true, rfl, ?_⟩
      refine iteF ⟨.ref a, rfl, a, xs, rfl, .inr e, rfl, _, rfl, ?_⟩
      have no : ∀ (G : Hp), G = H → unitsD (.tuple ds) = false → Q (.bl false) G := fun G eG z => by
        rw [eG, ← z]
        exact q
      cases ha with
      | nil => exact iteY rfl (no _ rfl rfl)
      | @cons v1 vs d1 ds1 h1 ha =>
        cases ha with
        | nil => exact iteY rfl (no _ rfl (by cases d1 <;> rfl))
        | @cons v2 vs2 d2 ds2 h2 ha =>
          cases ha with
          | cons h3 ha =>
            refine iteY ?_ (no _ rfl (by cases d1 <;> cases d2 <;> rfl))
            rw [decide_eq_false (fun z => by
              have y := V.int.inj z
              simp only [List.length_cons] at y
              omega)]
            rfl
          | nil =>
            refine iteN (fun z => nomatch (show (false : Bool) = true from z)) ?_
            refine ⟨.ref a, rfl, a, _, rfl, e, rfl, _, _, rfl, _, _, rfl, rfl, ?_⟩
            refine ⟨v1, rfl, v1, d1, rfl, h1, ?_⟩
            cases h1 with
            | non => exact ⟨false, rfl, iteT (no _ rfl (by cases d2 <;> rfl))⟩
            | bl y => exact ⟨false, rfl, iteT (no _ rfl (by cases d2 <;> rfl))⟩
            | str x => exact ⟨false, rfl, iteT (no _ rfl (by cases d2 <;> rfl))⟩
            | lst e1 p1 p2 => exact ⟨false, rfl, iteT (no _ rfl (by cases d2 <;> rfl))⟩
            | tup e1 p1 => exact ⟨false, rfl, iteT (no _ rfl (by cases d2 <;> rfl))⟩
            | dct e1 p1 p2 => exact ⟨false, rfl, iteT (no _ rfl (by cases d2 <;> rfl))⟩
            | int i =>
              refine ⟨true, rfl, iteF ?_⟩
              cases h2 with
              | non => exact ⟨_, rfl, _, .ty "str", _, _, false, rfl, .ty "str", .base .non, kit_ty (by decide +kernel), false, rfl, iteT (no _ rfl rfl)⟩
              | bl y => exact ⟨_, rfl, _, .ty "str", _, _, false, rfl, .ty "str", .base (.bl y), kit_ty (by decide +kernel), false, rfl, iteT (no _ rfl rfl)⟩
              | int j => exact ⟨_, rfl, _, .ty "str", _, _, false, rfl, .ty "str", .base (.int j), kit_ty (by decide +kernel), false, rfl, iteT (no _ rfl rfl)⟩
              | lst e1 p1 p2 => exact ⟨_, rfl, _, .ty "str", _, _, false, rfl, .ty "str", .base (.lst e1), kit_ty (by decide +kernel), false, rfl, iteT (no _ rfl rfl)⟩
              | tup e1 p1 => exact ⟨_, rfl, _, .ty "str", _, _, false, rfl, .ty "str", sqT_ty e1, kit_ty (by decide +kernel), false, rfl, iteT (no _ rfl rfl)⟩
              | dct e1 p1 p2 => exact ⟨_, rfl, _, .ty "str", _, _, false, rfl, .ty "str", .base (.dK e1), kit_ty (by decide +kernel), false, rfl, iteT (no _ rfl rfl)⟩
              | str s =>
                refine ⟨_, rfl, _, .ty "str", _, _, true, rfl, .ty "str", .base (.str s), kit_ty (by decide +kernel), true, rfl, iteF ?_⟩
                have q2 : Q (.bl (decide (2 ≤ i) && (decide (i ≤ 100) && inV (.str s) hows))) H := q
                refine ⟨.int i, rfl, 2, i, rfl, rfl, _, rfl, ?_⟩
                by_cases z1 : 2 ≤ i
                · refine iteDY z1 ⟨i, 100, rfl, rfl, _, rfl, ?_⟩
                  rw [decide_eq_true z1] at q2
                  by_cases z2 : i ≤ 100
                  · refine iteDY z2 ⟨.str s, rfl, a_HOWS, hows, rfl, .inr (.inr t_HOWS), rfl, by decide +kernel, ?_⟩
                    rw [decide_eq_true z2] at q2
                    exact q2
                  · refine iteDN z2 ?_
                    rw [decide_eq_false z2] at q2
                    exact q2
                · refine iteDN z1 ⟨false, rfl, iteF ?_⟩
                  rw [decide_eq_false z1] at q2
                  exact q2
end
end Uq

namespace Uq
open PySem PySem.Spec PyProof.Rows L2 LamX TL

theorem next_in {t : L2.St → Hp → Prop} {r : VK} {b c : L2.St → Hp → Prop} {σ : L2.St} {H : Hp} (h : t σ H) : tNext { nx := t, rt := r, bk := b, ct := c } σ H := h
/-- an error that is raised: its class, the value that it keeps -/
def Raised (C : Addr) (v : V) (H : Hp) (E : XK) : Prop := ∀ (H' : Hp) (dd : Addr), Same H H' → H' dd = some (.xd [("value", v)]) → E (.ref C) (some dd) H'

def shB (b : Int) : V → Bool
  | .str s => inV (.str s) words
  | .int n => decide (0 ≤ n) && decide (n ≤ b)
  | _ => false
theorem shB_sh {b : Int} {v : V} (h : shB b v = true) : Sh b v := by
  cases v with
  | str s =>
    have z : inV (.str s) words = true := h
    have m : s = "none" ∨ s = "some" := by
      unfold inV words at z
      simp only [List.any_cons, List.any_nil, Bool.or_false, Bool.or_eq_true] at z
      rcases z with z | z
      · left
        have y : Str.ofString "none" = s := by simpa [eqV] using z
        exact y.symm
      · right
        have y : Str.ofString "some" = s := by simpa [eqV] using z
        exact y.symm
    rcases m with rfl | rfl
    · exact .inr (.inl rfl)
    · exact .inr (.inr rfl)
  | int n =>
    have z : (decide (0 ≤ n) && decide (n ≤ b)) = true := h
    rw [Bool.and_eq_true] at z
    exact .inl ⟨n, rfl, of_decide_eq_true z.1, of_decide_eq_true z.2⟩
  | _ => exact nomatch h
def okW : V → Bool
  | .int i => decide (1 ≤ i)
  | _ => false
def okM (n : V) : V → Bool
  | .int m => match n with
    | .int i => decide (0 ≤ m) && decide (m ≤ i)
    | _ => false
  | _ => false
def sp_is_shareX (K : PySem.W.Frag) : Sp := fun vs H Q _ => ∃ (u : Addr) (b : Int) (h : Str) (v : V) (d : PyData), vs = [.ref u, v] ∧ Un K H u b h ∧ Dx K H v d ∧ Q (.bl (shB b v)) H
def sp_shownX (K : PySem.W.Frag) (BU BC : Addr) : Sp := fun vs H Q E => ∃ (v m n : V) (dv dm dn : PyData), vs = [v, m, n] ∧ Dx K H v dv ∧ Dx K H m dm ∧ Dx K H n dn ∧
  ((unitsD dv = false ∧ Raised BU v H E) ∨ (unitsD dv = true ∧ okW n = false ∧ Raised BC n H E) ∨ (unitsD dv = true ∧ okW n = true ∧ okM n m = false ∧ Raised BC m H E) ∨
   (unitsD dv = true ∧ okW n = true ∧ okM n m = true ∧ (∀ i, n = .int i → i < 2 ^ 40) ∧ ∀ z H', Same H H' → Q z H'))
def sp_stretchX (K : PySem.W.Frag) (BU BS : Addr) : Sp := fun vs H Q E => ∃ (v s : V) (dv ds : PyData), vs = [v, s] ∧ Dx K H v dv ∧ Dx K H s ds ∧
  ((unitsD dv = false ∧ Raised BU v H E) ∨ (∃ (u : Addr) (b : Int) (h : Str), v = .ref u ∧ Un K H u b h ∧ unitsD dv = true ∧ ((shB b s = false ∧ Raised BS s H E) ∨ (shB b s = true ∧ ∀ z H', Same H H' → Q z H'))))
section
variable {P : Program} {w : World} {K : PySem.W.Frag} {mg : Str → Option Value} {base : Heap} {BU BC BS : Addr}
theorem ok_rounded {f : Addr} {fd : FuncData} (F : Fun K "rounded" "rounded" s_rounded f fd) (m_divmod : mg "divmod" = none) : FnOk P w K mg base CX0 1 f fd ["how", "many", "whole"] (sp_rounded K) := by
  refine F.ok sc_rounded (fun vs H Q E h => ?_) (fun cdv A outer s H vs Q E hr h => ?_)
  · obtain ⟨h, a, b, rfl, _⟩ := h
    rfl
  · refine ⟨_, (pss_cons (ps_asg (pe_callB call_divmodW (by rfl) m_divmod (by decide +kernel) (pa_cons (pv 1) (pa_cons (pv 2) pa_nil))) (pg_tup rfl (pgs_cons (pg_name (i := 3) sc_rounded.nd rfl (.inl rfl)) (pgs_cons (pg_name (i := 4) sc_rounded.nd rfl (.inl rfl)) pgs_nil))))
      (pss_cons (ps_if (PW.pt (pw_or (pt_cmpR op_eq (pv 0) pe_str (nomark _)) (pw_or1 (pt_cmpR op_eq (pv 4) pe_int (nomark _))))) (pss_one (ps_ret (pv 3))) pss_nil)
      (pss_cons (ps_if (PW.pt (pw_or (pt_cmpR op_eq (pv 0) pe_str (nomark _)) (pw_or1 (pt_cmpR op_gt (pe_op op_mul pe_int (pv 4)) (pv 2) (nomark _))))) (pss_one (ps_ret (pe_op op_add (pv 3) pe_int))) pss_nil)
      (pss_cons (ps_if (pt_cmpR op_lt (pe_op op_mul pe_int (pv 4)) (pv 2) (nomark _)) (pss_one (ps_ret (pv 3))) pss_nil)
      (pss_cons (ps_if (pt_cmpR op_eq (pv 0) pe_str (nomark _)) (pss_one (ps_ret (pe_op op_add (pv 3) pe_int))) pss_nil)
      (pss_one (ps_ret (pe_op op_add (pv 3) (pe_op op_mod (pv 3) pe_int))))))))), ?_⟩
    obtain ⟨h, a, b, rfl, b0, b1, q⟩ := h
    refine ⟨.int a, rfl, .int b, rfl, a, b, rfl, no_pylong b0 b1, fun t nt => ?_⟩
    refine ⟨t, _, rfl, SqT.of upd_same, rfl, _, _, rfl, _, _, rfl, rfl, ?_⟩
    have Q' : ∀ z, rnd h a b = z → Q (.int z) (upd H t (.tup [.int (a / b), .int (a % b)])) := fun z e => e ▸ q _ (sameU nt)
    unfold rnd at Q'
    refine ⟨.str h, rfl, rfl, _, rfl, ite2 (fun e => ?_) (fun e => ⟨.int (a % b), rfl, rfl, _, rfl, ite2 (fun e2 => ?_) (fun e2 => ?_)⟩)⟩
    · exact iteT ⟨.int (a / b), rfl, Q' _ (if_pos (.inl (str_of e)))⟩
    · exact ⟨.int (a / b), rfl, Q' _ (if_pos (.inr (int_of e2)))⟩
    · have n1 : ¬ (h = "down" ∨ a % b = 0) := fun z => z.elim (str_not e) (int_not e2)
      refine ⟨.str h, rfl, rfl, _, rfl, ite2 (fun e3 => ?_) (fun e3 => ⟨.int (a % b), rfl, _, _, rfl, rfl, .inl ⟨by decide, by decide⟩, .int b, rfl, _, b, rfl, rfl, _, rfl, ite2 (fun e4 => ?_) (fun e4 => ?_)⟩)⟩
      · exact iteT ⟨.int (a / b), rfl, _, _, rfl, rfl, Q' _ (by rw [if_neg n1, if_pos (.inl (str_of e3))])⟩
      · exact ⟨.int (a / b), rfl, _, _, rfl, rfl, Q' _ (by rw [if_neg n1, if_pos (.inr (of_decide_eq_true e4))])⟩
      · have n2 : ¬ (h = "up" ∨ b < 2 * (a % b)) := fun z => z.elim (str_not e3) (fun y => e4 (decide_eq_true y))
        refine ⟨.int (a % b), rfl, _, _, rfl, rfl, .inl ⟨by decide, by decide⟩, .int b, rfl, _, b, rfl, rfl, _, rfl, ite2 (fun e5 => ?_) (fun e5 => ?_)⟩
        · exact ⟨.int (a / b), rfl, Q' _ (by rw [if_neg n1, if_neg n2, if_pos (of_decide_eq_true e5)])⟩
        · have n3 : ¬ (2 * (a % b) < b) := fun y => e5 (decide_eq_true y)
          refine ⟨.str h, rfl, rfl, _, rfl, ite2 (fun e6 => ?_) (fun e6 => ?_)⟩
          · exact ⟨.int (a / b), rfl, _, _, rfl, rfl, Q' _ (by rw [if_neg n1, if_neg n2, if_neg n3, if_pos (str_of e6)])⟩
          · exact ⟨.int (a / b), rfl, .int (a / b), rfl, _, _, rfl, rfl, (by show (0 : Int) < 2; decide), _, _, rfl, rfl, Q' _ (by rw [if_neg n1, if_neg n2, if_neg n3, if_neg (str_not e6)])⟩

theorem ok_is_shareX {f : Addr} {fd : FuncData} (F : Fun K "is_share" "is_share" s_is_share f fd) (m_isinstance : mg "isinstance" = none) (m_str : mg "str" = none) {a_WORDS : Addr} (g_WORDS : mg "WORDS" = some (.ref a_WORDS)) (t_WORDS : TupK K a_WORDS words) (c_is_integerX : Cal P w K mg base 1 "is_integer" ["value"] (sp_is_integerX K)) : FnOk P w K mg base CX0 2 f fd ["units", "value"] (sp_is_shareX K) := by
  refine F.ok sc_is_share (fun vs H Q E h => ?_) (fun cdv A outer s H vs Q E hr h => ?_)
  · obtain ⟨u, b, h, v, d, rfl, _⟩ := h
    rfl
  · refine ⟨_, (pss_cons (ps_if (pt_val (pe_callB call_isi (by rfl) m_isinstance (by decide +kernel) (pa_cons (pv 1) (pa_cons (pe_bltn (v := .ty "str") (by rfl) m_str (by decide +kernel) rfl) pa_nil)))) (pss_one (ps_ret (pe_cmpR op_in_seq (pv 1) (pe_glob (v := .ref a_WORDS) (by rfl) g_WORDS rfl) rfl))) pss_nil)
      (pss_one (ps_ret (pe_and (pe_call c_is_integerX.G (hr.mono (by decide)) (by rfl) c_is_integerX.g c_is_integerX.kp c_is_integerX.b .nil pass0 (pa_cons (pv 1) pa_nil)) (pe_one (pe_chain op_le op_le pe_int (pv 1) (pe_ix ix_tup (pv 0) pe_int (fun _ _ => rfl)))))))), ?_⟩
    obtain ⟨u, b, h, v, d, rfl, hu, hd, q⟩ := h
    have hd0 := hd
    cases hd with
    | str x =>
      refine ⟨_, rfl, _, .ty "str", _, _, true, rfl, .ty "str", .base (.str _), kit_ty (by decide +kernel), true, rfl, iteT ?_⟩
      exact ⟨_, rfl, a_WORDS, words, rfl, .inr (.inr t_WORDS), rfl, by decide +kernel, q⟩
    | int n =>
      refine ⟨_, rfl, _, .ty "str", _, _, false, rfl, .ty "str", .base (.int n), kit_ty (by decide +kernel), false, rfl, ?_⟩
      refine iteF ⟨.int n, rfl, _, _, rfl, hd0, true, rfl, iteT ?_⟩
      refine ⟨.int n, rfl, 0, n, rfl, rfl, _, rfl, ?_⟩
      by_cases z : 0 ≤ n
      · refine iteDY z ⟨.ref u, rfl, u, _, 0, .int b, rfl, rfl, hu.1, atI_nat (j := 0) rfl, n, b, rfl, rfl, ?_⟩
        rw [show shB b (.int n) = decide (n ≤ b) by show (decide (0 ≤ n) && decide (n ≤ b)) = _; rw [decide_eq_true z]; rfl] at q
        exact q
      · refine iteDN z ?_
        rw [show shB b (.int n) = false by show (decide (0 ≤ n) && decide (n ≤ b)) = _; rw [decide_eq_false z]; rfl] at q
        exact q
    | non => exact ⟨_, rfl, _, .ty "str", _, _, false, rfl, .ty "str", .base .non, kit_ty (by decide +kernel), false, rfl, iteF ⟨_, rfl, _, _, rfl, hd0, false, rfl, iteF q⟩⟩
    | bl y => exact ⟨_, rfl, _, .ty "str", _, _, false, rfl, .ty "str", .base (.bl y), kit_ty (by decide +kernel), false, rfl, iteF ⟨_, rfl, _, _, rfl, hd0, false, rfl, iteF q⟩⟩
    | lst e _ _ => exact ⟨_, rfl, _, .ty "str", _, _, false, rfl, .ty "str", .base (.lst e), kit_ty (by decide +kernel), false, rfl, iteF ⟨_, rfl, _, _, rfl, hd0, false, rfl, iteF q⟩⟩
    | tup e _ => exact ⟨_, rfl, _, .ty "str", _, _, false, rfl, .ty "str", sqT_ty e, kit_ty (by decide +kernel), false, rfl, iteF ⟨_, rfl, _, _, rfl, hd0, false, rfl, iteF q⟩⟩
    | dct e _ _ => exact ⟨_, rfl, _, .ty "str", _, _, false, rfl, .ty "str", .base (.dK e), kit_ty (by decide +kernel), false, rfl, iteF ⟨_, rfl, _, _, rfl, hd0, false, rfl, iteF q⟩⟩
theorem ok_shownX {fi : Addr} {dfi : FuncData} (Fi : FnOk P w K mg base CX0 1 fi dfi ["self", "value"] (sp_init K)) (bi : Binds K dfi ["self", "value"] []) (tyI : PySem.W.typeIn K (.ref fi) = some (.type "function")) (XBU : Xcl K BU) (iBU : PySem.W.findIn K (.ref BU) "__init__" = some (some (.ref fi))) (gBU : mg "BadUnits" = some (.ref BU)) (XBC : Xcl K BC) (iBC : PySem.W.findIn K (.ref BC) "__init__" = some (some (.ref fi))) (gBC : mg "BadCount" = some (.ref BC)) {f : Addr} {fd : FuncData} (F : Fun K "shown" "shown" s_shown f fd) (c_is_unitsX : Cal P w K mg base 2 "is_units" ["value"] (sp_is_unitsX K)) (c_is_integerX : Cal P w K mg base 1 "is_integer" ["value"] (sp_is_integerX K)) (c_rounded : Cal P w K mg base 1 "rounded" ["how", "many", "whole"] (sp_rounded K)) : FnOk P w K mg base (L2.CX P w) 3 f fd ["units", "many", "whole"] (sp_shownX K BU BC) := by
  refine F.okX sc_shown (fun vs H Q E h => ?_) (fun cdv A outer s H vs Q E hr h => ?_)
  · obtain ⟨v, m, n, dv, dm, dn, rfl, _⟩ := h
    rfl
  · refine ⟨_, (pss_cons (ps_if (pt_not (pt_val (pe_call c_is_unitsX.G (hr.mono (by decide)) (by rfl) c_is_unitsX.g c_is_unitsX.kp c_is_unitsX.b .nil pass0 (pa_cons (pv 0) pa_nil)))) (pss_one (ps_raise rfl (takes_of rfl rfl rfl rfl) (pmk_oex XBU.T iBU tyI Fi (hr.mono (by decide)) bi .nil pass0 (by rfl) gBU (pa_cons (pv 0) pa_nil)))) pss_nil)
      (pss_cons (ps_if (PW.pt (pw_or (pt_not (pt_val (pe_call c_is_integerX.G (hr.mono (by decide)) (by rfl) c_is_integerX.g c_is_integerX.kp c_is_integerX.b .nil pass0 (pa_cons (pv 2) pa_nil)))) (pw_or1 (pt_cmpR op_lt (pv 2) pe_int (nomark _))))) (pss_one (ps_raise rfl (takes_of rfl rfl rfl rfl) (pmk_oex XBC.T iBC tyI Fi (hr.mono (by decide)) bi .nil pass0 (by rfl) gBC (pa_cons (pv 2) pa_nil)))) pss_nil)
      (pss_cons (ps_if (PW.pt (pw_or (pt_not (pt_val (pe_call c_is_integerX.G (hr.mono (by decide)) (by rfl) c_is_integerX.g c_is_integerX.kp c_is_integerX.b .nil pass0 (pa_cons (pv 1) pa_nil)))) (pw_or1 (pt_not (pt_chain op_le op_le pe_int (pv 1) (pv 2)))))) (pss_one (ps_raise rfl (takes_of rfl rfl rfl rfl) (pmk_oex XBC.T iBC tyI Fi (hr.mono (by decide)) bi .nil pass0 (by rfl) gBC (pa_cons (pv 1) pa_nil)))) pss_nil)
      (pss_cons (ps_asg (pv 0) (pg_tup rfl (pgs_cons (pg_name (i := 3) sc_shown.nd rfl (.inl rfl)) (pgs_cons (pg_name (i := 4) sc_shown.nd rfl (.inl rfl)) pgs_nil))))
      (pss_one (ps_ret (pe_call c_rounded.G (hr.mono (by decide)) (by rfl) c_rounded.g c_rounded.kp c_rounded.b .nil pass0 (pa_cons (pv 4) (pa_cons (pe_op op_mul (pv 3) (pv 1)) (pa_cons (pv 2) pa_nil)))))))))), ?_⟩
    obtain ⟨v, m, n, dv, dm, dn, rfl, hv, hm, hn, q⟩ := h
    refine ⟨v, rfl, v, dv, rfl, hv, ?_⟩
    rcases q with ⟨hu, q⟩ | ⟨hu, hw, q⟩ | ⟨hu, hw, hk, q⟩ | ⟨hu, hw, hk, sm, q⟩
    · rw [hu]
      refine ⟨false, rfl, iteT ?_⟩
      refine ⟨v, rfl, by show 1 ≤ 1000; decide, fun ae nae => ⟨ae, BU, v, rfl, XBU, upd_same, fun dd ndd nda => ⟨rfl, dd, [("value", v)], upd_same, ?_, ?_, ?_⟩⟩⟩
      · rw [upd_ne nda, upd_same]
      · rwa [upd_ne nda] at ndd
      · refine q _ _ (fun z o ez => ?_) upd_same
        have n1 : z ≠ ae := ne_of_none ez nae
        have n2 : z ≠ dd := fun y => by
          rw [upd_ne nda] at ndd
          rw [y, ndd] at ez
          cases ez
        rw [upd_ne n2, del_ne n1, upd_ne n1, upd_ne n2, upd_ne n1]
        exact ez
    · rw [hu]
      refine ⟨true, rfl, iteF ?_⟩
      refine next_in ?_
      refine ⟨n, rfl, n, dn, rfl, hn, ?_⟩
      cases hI : isI n with
      | false =>
        refine ⟨false, rfl, iteT ?_⟩
        refine ⟨n, rfl, by show 1 ≤ 1000; decide, fun ae nae => ⟨ae, BC, n, rfl, XBC, upd_same, fun dd ndd nda => ⟨rfl, dd, [("value", n)], upd_same, ?_, ?_, ?_⟩⟩⟩
        · rw [upd_ne nda, upd_same]
        · rwa [upd_ne nda] at ndd
        · refine q _ _ (fun z o ez => ?_) upd_same
          have n1 : z ≠ ae := ne_of_none ez nae
          have n2 : z ≠ dd := fun y => by
            rw [upd_ne nda] at ndd
            rw [y, ndd] at ez
            cases ez
          rw [upd_ne n2, del_ne n1, upd_ne n1, upd_ne n2, upd_ne n1]
          exact ez
      | true =>
        obtain ⟨i, rfl⟩ : ∃ i, n = .int i := by
          cases n with
          | int i => exact ⟨i, rfl⟩
          | _ => cases hI
        refine ⟨true, rfl, iteF ⟨.int i, rfl, i, 1, rfl, rfl, _, rfl, iteDY ?_ ?_⟩⟩
        · have z : decide (1 ≤ i) = false := hw
          have y := of_decide_eq_false z
          omega
        refine ⟨.int i, rfl, by show 1 ≤ 1000; decide, fun ae nae => ⟨ae, BC, .int i, rfl, XBC, upd_same, fun dd ndd nda => ⟨rfl, dd, [("value", .int i)], upd_same, ?_, ?_, ?_⟩⟩⟩
        · rw [upd_ne nda, upd_same]
        · rwa [upd_ne nda] at ndd
        · refine q _ _ (fun z o ez => ?_) upd_same
          have n1 : z ≠ ae := ne_of_none ez nae
          have n2 : z ≠ dd := fun y => by
            rw [upd_ne nda] at ndd
            rw [y, ndd] at ez
            cases ez
          rw [upd_ne n2, del_ne n1, upd_ne n1, upd_ne n2, upd_ne n1]
          exact ez
    · rw [hu]
      refine ⟨true, rfl, iteF ?_⟩
      refine next_in ?_
      obtain ⟨i, rfl, i1⟩ : ∃ i, n = .int i ∧ 1 ≤ i := by
        cases n with
        | int i => exact ⟨i, rfl, of_decide_eq_true hw⟩
        | _ => cases hw
      refine ⟨.int i, rfl, .int i, dn, rfl, hn, true, rfl, iteF ⟨.int i, rfl, i, 1, rfl, rfl, _, rfl, iteDN (by omega) ?_⟩⟩
      refine ⟨m, rfl, m, dm, rfl, hm, ?_⟩
      cases hI : isI m with
      | false =>
        refine ⟨false, rfl, iteT ?_⟩
        refine ⟨m, rfl, by show 1 ≤ 1000; decide, fun ae nae => ⟨ae, BC, m, rfl, XBC, upd_same, fun dd ndd nda => ⟨rfl, dd, [("value", m)], upd_same, ?_, ?_, ?_⟩⟩⟩
        · rw [upd_ne nda, upd_same]
        · rwa [upd_ne nda] at ndd
        · refine q _ _ (fun z o ez => ?_) upd_same
          have n1 : z ≠ ae := ne_of_none ez nae
          have n2 : z ≠ dd := fun y => by
            rw [upd_ne nda] at ndd
            rw [y, ndd] at ez
            cases ez
          rw [upd_ne n2, del_ne n1, upd_ne n1, upd_ne n2, upd_ne n1]
          exact ez
      | true =>
        obtain ⟨j, rfl⟩ : ∃ j, m = .int j := by
          cases m with
          | int i => exact ⟨i, rfl⟩
          | _ => cases hI
        have z : (decide (0 ≤ j) && decide (j ≤ i)) = false := hk
        refine ⟨true, rfl, iteF ⟨.int j, rfl, 0, j, rfl, rfl, _, rfl, ?_⟩⟩
        by_cases j0 : 0 ≤ j
        · refine iteDY j0 ?_
          rw [decide_eq_true j0] at z
          have nji : ¬ j ≤ i := by
            have y : decide (j ≤ i) = false := z
            exact of_decide_eq_false y
          refine ⟨.int i, rfl, j, i, rfl, rfl, _, rfl, iteY (show (!decide (j ≤ i)) = true by rw [decide_eq_false nji]; rfl) ?_⟩
          refine ⟨.int j, rfl, by show 1 ≤ 1000; decide, fun ae nae => ⟨ae, BC, .int j, rfl, XBC, upd_same, fun dd ndd nda => ⟨rfl, dd, [("value", .int j)], upd_same, ?_, ?_, ?_⟩⟩⟩
          · rw [upd_ne nda, upd_same]
          · rwa [upd_ne nda] at ndd
          · refine q _ _ (fun z o ez => ?_) upd_same
            have n1 : z ≠ ae := ne_of_none ez nae
            have n2 : z ≠ dd := fun y => by
              rw [upd_ne nda] at ndd
              rw [y, ndd] at ez
              cases ez
            rw [upd_ne n2, del_ne n1, upd_ne n1, upd_ne n2, upd_ne n1]
            exact ez
        · refine iteDN j0 ⟨false, rfl, iteT ?_⟩
          refine ⟨.int j, rfl, by show 1 ≤ 1000; decide, fun ae nae => ⟨ae, BC, .int j, rfl, XBC, upd_same, fun dd ndd nda => ⟨rfl, dd, [("value", .int j)], upd_same, ?_, ?_, ?_⟩⟩⟩
          · rw [upd_ne nda, upd_same]
          · rwa [upd_ne nda] at ndd
          · refine q _ _ (fun z o ez => ?_) upd_same
            have n1 : z ≠ ae := ne_of_none ez nae
            have n2 : z ≠ dd := fun y => by
              rw [upd_ne nda] at ndd
              rw [y, ndd] at ez
              cases ez
            rw [upd_ne n2, del_ne n1, upd_ne n1, upd_ne n2, upd_ne n1]
            exact ez
    · rw [hu]
      refine ⟨true, rfl, iteF ?_⟩
      refine next_in ?_
      obtain ⟨i, rfl, i1⟩ : ∃ i, n = .int i ∧ 1 ≤ i := by
        cases n with
        | int i => exact ⟨i, rfl, of_decide_eq_true hw⟩
        | _ => cases hw
      obtain ⟨j, rfl, j0, j1⟩ : ∃ j, m = .int j ∧ 0 ≤ j ∧ j ≤ i := by
        cases m with
        | int j =>
          have z : (decide (0 ≤ j) && decide (j ≤ i)) = true := hk
          rw [Bool.and_eq_true] at z
          exact ⟨j, rfl, of_decide_eq_true z.1, of_decide_eq_true z.2⟩
        | _ => cases hk
      have i2 := sm i rfl
      obtain ⟨u, b, h, rfl, hu2, rfl⟩ := units_un hv hu
      refine ⟨.int i, rfl, .int i, dn, rfl, hn, true, rfl, iteF ⟨.int i, rfl, i, 1, rfl, rfl, _, rfl, iteDN (by omega) ?_⟩⟩
      refine ⟨.int j, rfl, .int j, dm, rfl, hm, true, rfl, iteF ⟨.int j, rfl, 0, j, rfl, rfl, _, rfl, iteDY j0 ?_⟩⟩
      refine ⟨.int i, rfl, j, i, rfl, rfl, _, rfl, iteNS j1 ?_⟩
      refine ⟨.ref u, rfl, u, _, rfl, hu2.1, rfl, _, _, rfl, _, _, rfl, rfl, ?_⟩
      have hb := hu2.2
      exact ⟨.str h, rfl, .int b, rfl, .int j, rfl, b, j, rfl, rfl, .inl ⟨by omega, by omega⟩, .int i, rfl, h, b * j, i, rfl, by omega, by omega, fun H' s' => q _ H' s'⟩
end
end Uq

namespace Uq
open PySem PySem.Spec PyProof.Rows L2 LamX TL

/-! ### what a share shows, and what is refused -/
section
variable {P : Program} {w : World} {K : PySem.W.Frag} {mg : Str → Option Value} {base : Heap} {BU BC BS : Addr}
theorem ok_stretchX {fi : Addr} {dfi : FuncData} (Fi : FnOk P w K mg base CX0 1 fi dfi ["self", "value"] (sp_init K)) (bi : Binds K dfi ["self", "value"] []) (tyI : PySem.W.typeIn K (.ref fi) = some (.type "function")) (XBU : Xcl K BU) (iBU : PySem.W.findIn K (.ref BU) "__init__" = some (some (.ref fi))) (gBU : mg "BadUnits" = some (.ref BU)) (XBS : Xcl K BS) (iBS : PySem.W.findIn K (.ref BS) "__init__" = some (some (.ref fi))) (gBS : mg "BadShare" = some (.ref BS)) {f : Addr} {fd : FuncData} (F : Fun K "stretch" "stretch" s_stretch f fd) (m_min : mg "min" = none) (m_max : mg "max" = none) (c_is_unitsX : Cal P w K mg base 2 "is_units" ["value"] (sp_is_unitsX K)) (c_is_shareX : Cal P w K mg base 2 "is_share" ["units", "value"] (sp_is_shareX K)) (c_reach : Cal P w K mg base 1 "reach" ["how", "number"] (sp_reach K)) (c_least_terms : Cal P w K mg base 1 "least_terms" ["over", "under"] (sp_least_terms K)) : FnOk P w K mg base (L2.CX P w) 3 f fd ["units", "share"] (sp_stretchX K BU BS) := by
  refine F.okX sc_stretch (fun vs H Q E h => ?_) (fun cdv A outer s H vs Q E hr h => ?_)
  · obtain ⟨v, s, dv, ds, rfl, _⟩ := h
    rfl
  · refine ⟨_, (pss_cons (ps_if (pt_not (pt_val (pe_call c_is_unitsX.G (hr.mono (by decide)) (by rfl) c_is_unitsX.g c_is_unitsX.kp c_is_unitsX.b .nil pass0 (pa_cons (pv 0) pa_nil)))) (pss_one (ps_raise rfl (takes_of rfl rfl rfl rfl) (pmk_oex XBU.T iBU tyI Fi (hr.mono (by decide)) bi .nil pass0 (by rfl) gBU (pa_cons (pv 0) pa_nil)))) pss_nil)
      (pss_cons (ps_if (pt_not (pt_val (pe_call c_is_shareX.G (hr.mono (by decide)) (by rfl) c_is_shareX.g c_is_shareX.kp c_is_shareX.b .nil pass0 (pa_cons (pv 0) (pa_cons (pv 1) pa_nil))))) (pss_one (ps_raise rfl (takes_of rfl rfl rfl rfl) (pmk_oex XBS.T iBS tyI Fi (hr.mono (by decide)) bi .nil pass0 (by rfl) gBS (pa_cons (pv 1) pa_nil)))) pss_nil)
      (pss_cons (ps_asg (pv 0) (pg_tup rfl (pgs_cons (pg_name (i := 2) sc_stretch.nd rfl (.inl rfl)) (pgs_cons (pg_name (i := 3) sc_stretch.nd rfl (.inl rfl)) pgs_nil))))
      (pss_cons (ps_if (pt_cmpR op_eq (pv 1) pe_str (nomark _)) (pss_one (ps_ret (pe_tup (pa_cons (pe_tup (pa_cons pe_int (pa_cons pe_int pa_nil))) (pa_cons pe_bl (pa_cons (pe_tup (pa_cons pe_int (pa_cons pe_int pa_nil))) (pa_cons pe_bl pa_nil))))))) pss_nil)
      (pss_cons (ps_if (pt_cmpR op_eq (pv 1) pe_str (nomark _)) (pss_one (ps_ret (pe_tup (pa_cons (pe_tup (pa_cons pe_int (pa_cons pe_int pa_nil))) (pa_cons pe_bl (pa_cons (pe_tup (pa_cons pe_int (pa_cons (pv 2) pa_nil))) (pa_cons pe_bl pa_nil))))))) pss_nil)
      (pss_cons (ps_asg (pe_call c_reach.G (hr.mono (by decide)) (by rfl) c_reach.g c_reach.kp c_reach.b .nil pass0 (pa_cons (pv 3) (pa_cons (pv 1) pa_nil))) (pg_tup rfl (pgs_cons (pg_name (i := 4) sc_stretch.nd rfl (.inl rfl)) (pgs_cons (pg_name (i := 5) sc_stretch.nd rfl (.inl rfl)) (pgs_cons (pg_name (i := 6) sc_stretch.nd rfl (.inl rfl)) (pgs_cons (pg_name (i := 7) sc_stretch.nd rfl (.inl rfl)) pgs_nil))))))
      (pss_cons (ps_set (i := 8) sc_stretch.nd rfl (.inl rfl) (pe_op op_mul pe_int (pv 2)))
      (pss_one (ps_ret (pe_tup (pa_cons (pe_call c_least_terms.G (hr.mono (by decide)) (by rfl) c_least_terms.g c_least_terms.kp c_least_terms.b .nil pass0 (pa_cons (pe_callB (call_max2 rfl) (by rfl) m_max (by decide +kernel) (pa_cons (pv 4) (pa_cons pe_int pa_nil))) (pa_cons (pv 8) pa_nil))) (pa_cons (pe_or (pv 5) (pe_one (pe_cmpR op_lt (pv 4) pe_int (nomark _)))) (pa_cons (pe_call c_least_terms.G (hr.mono (by decide)) (by rfl) c_least_terms.g c_least_terms.kp c_least_terms.b .nil pass0 (pa_cons (pe_callB (call_min2 rfl) (by rfl) m_min (by decide +kernel) (pa_cons (pv 6) (pa_cons (pv 8) pa_nil))) (pa_cons (pv 8) pa_nil))) (pa_cons (pe_or (pv 7) (pe_one (pe_cmpR op_gt (pv 6) (pv 8) (nomark _)))) pa_nil)))))))))))))), ?_⟩
    obtain ⟨v, s, dv, ds, rfl, hv, hs, q⟩ := h
    refine ⟨v, rfl, v, dv, rfl, hv, ?_⟩
    rcases q with ⟨hu_, q⟩ | ⟨u, b, h, rfl, hu, hu_, ⟨sb, q⟩ | ⟨sb, q⟩⟩
    · rw [hu_]
      refine ⟨false, rfl, iteT ?_⟩
      refine ⟨v, rfl, by show 1 ≤ 1000; decide, fun ae nae => ⟨ae, BU, v, rfl, XBU, upd_same, fun dd ndd nda => ⟨rfl, dd, [("value", v)], upd_same, ?_, ?_, ?_⟩⟩⟩
      · rw [upd_ne nda, upd_same]
      · rwa [upd_ne nda] at ndd
      · refine q _ _ (fun z o ez => ?_) upd_same
        have n1 : z ≠ ae := ne_of_none ez nae
        have n2 : z ≠ dd := fun y => by
          rw [upd_ne nda] at ndd
          rw [y, ndd] at ez
          cases ez
        rw [upd_ne n2, del_ne n1, upd_ne n1, upd_ne n2, upd_ne n1]
        exact ez
    · rw [hu_]
      refine ⟨true, rfl, iteF ?_⟩
      refine next_in ?_
      refine ⟨.ref u, rfl, s, rfl, u, b, h, s, ds, rfl, hu, hs, ?_⟩
      rw [sb]
      refine ⟨false, rfl, iteT ?_⟩
      refine ⟨s, rfl, by show 1 ≤ 1000; decide, fun ae nae => ⟨ae, BS, s, rfl, XBS, upd_same, fun dd ndd nda => ⟨rfl, dd, [("value", s)], upd_same, ?_, ?_, ?_⟩⟩⟩
      · rw [upd_ne nda, upd_same]
      · rwa [upd_ne nda] at ndd
      · refine q _ _ (fun z o ez => ?_) upd_same
        have n1 : z ≠ ae := ne_of_none ez nae
        have n2 : z ≠ dd := fun y => by
          rw [upd_ne nda] at ndd
          rw [y, ndd] at ez
          cases ez
        rw [upd_ne n2, del_ne n1, upd_ne n1, upd_ne n2, upd_ne n1]
        exact ez
    · rw [hu_]
      refine ⟨true, rfl, iteF ?_⟩
      refine next_in ?_
      refine ⟨.ref u, rfl, s, rfl, u, b, h, s, ds, rfl, hu, hs, ?_⟩
      rw [sb]
      have hv := shB_sh sb
      refine ⟨true, rfl, iteF ?_⟩
      refine ⟨.ref u, rfl, u, _, rfl, hu.1, rfl, _, _, rfl, _, _, rfl, rfl, ?_⟩
      have hb := hu.2
      rcases hv with ⟨n, rfl, s0, s1⟩ | rfl | rfl
      · refine ⟨.int n, rfl, rfl, false, rfl, iteF ?_⟩
        refine ⟨.int n, rfl, rfl, false, rfl, iteF ?_⟩
        refine ⟨.str h, rfl, .int n, rfl, h, n, rfl, fun H1 t sm1 nt ht => ?_⟩
        refine ⟨t, _, rfl, SqT.of ht, rfl, _, _, rfl, _, _, rfl, _, _, rfl, _, _, rfl, rfl, ?_⟩
        refine ⟨.int b, rfl, 2, b, rfl, rfl, .inl ⟨by decide, by decide⟩, ?_⟩
        refine ⟨_, rfl, _, _, rfl, .int (2 * b), rfl, _, _, rfl, by omega, by omega, fun H2 t1 sm2 nt1 ht1 => ?_⟩
        refine val_orV (val_var rfl) (fun _ => val_I0 (val_var rfl) val_c) _ ?_
        refine ⟨_, rfl, .int (2 * b), rfl, _, _, rfl, .int (2 * b), rfl, _, _, rfl, by omega, by omega, fun H3 t2 sm3 nt2 ht2 => ?_⟩
        refine val_orV (val_var rfl) (fun _ => val_I0 (val_var rfl) (val_var rfl)) _ ?_
        refine ⟨by show 4 ≤ sizeLine; decide, fun p np => ?_⟩
        have n3 : H1 p = none := fresh_same (sm2.trans sm3) np
        exact q _ _ (((sm1.trans sm2).trans sm3).trans (sameU np))
      · refine ⟨.str "none", rfl, rfl, true, rfl, iteT ?_⟩
        refine ⟨by show 2 ≤ sizeLine; decide, fun t1 n1 => ⟨by show 2 ≤ sizeLine; decide, fun t2 n2 => ⟨by show 4 ≤ sizeLine; decide, fun t nt => ?_⟩⟩⟩
        have m2 := fresh_same (sameU n1) n2
        have m := fresh_same (sameU n1) (fresh_same (sameU n2) nt)
        exact q _ _ (((sameU n1).trans (sameU n2)).trans (sameU nt))
      · refine ⟨.str "some", rfl, rfl, false, rfl, iteF ?_⟩
        refine ⟨.str "some", rfl, rfl, true, rfl, iteT ?_⟩
        refine ⟨by show 2 ≤ sizeLine; decide, fun t1 n1 => ⟨.int b, rfl, by show 2 ≤ sizeLine; decide, fun t2 n2 => ⟨by show 4 ≤ sizeLine; decide, fun t nt => ?_⟩⟩⟩
        have m2 := fresh_same (sameU n1) n2
        have m := fresh_same (sameU n1) (fresh_same (sameU n2) nt)
        exact q _ _ (((sameU n1).trans (sameU n2)).trans (sameU nt))
end
end Uq

namespace Uq
open PySem PySem.Spec PyProof.Rows L2 LamX TL

/-! ### what the law asks of values -/
def inI (lo hi : Int) : V → Bool
  | .int i => decide (lo ≤ i) && decide (i ≤ hi)
  | _ => false
def sp_law_is_int (K : PySem.W.Frag) : Sp := fun vs H Q _ => ∃ (v : V) (d : PyData) (lo hi : Int), vs = [v, .int lo, .int hi] ∧ Dx K H v d ∧ Q (.bl (inI lo hi v)) H
def sp_law_is_units (K : PySem.W.Frag) : Sp := fun vs H Q _ => ∃ (v : V) (d : PyData), vs = [v] ∧ Dx K H v d ∧ ∀ H', Same H H' → Q (.bl (unitsD d)) H'
def DueS (dv : PyData) (v m n : V) (s : Str) (z : V) : Prop :=
  (s = "units" ∧ z = v ∧ unitsD dv = false) ∨ (s = "count" ∧ z = n ∧ unitsD dv = true ∧ okW n = false) ∨ (s = "count" ∧ z = m ∧ unitsD dv = true ∧ okW n = true ∧ okM n m = false) ∨ (s = "" ∧ z = .non ∧ unitsD dv = true ∧ okW n = true ∧ okM n m = true)
def sp_law_shown_due (K : PySem.W.Frag) : Sp := fun vs H Q _ => ∃ (v m n : V) (dv dm dn : PyData), vs = [v, m, n] ∧ Dx K H v dv ∧ Dx K H m dm ∧ Dx K H n dn ∧ (∀ i, n = .int i → i ≤ 10 ^ 9) ∧
  ∀ H' T s z, Same H H' → H' T = some (.tup [.str s, z]) → DueS dv v m n s z → Q (.ref T) H'
def DueT (dv : PyData) (v w : V) (s : Str) (z : V) : Prop :=
  (s = "units" ∧ z = v ∧ unitsD dv = false) ∨ (unitsD dv = true ∧ ∀ (u : Addr) (b : Int) (h : Str), v = .ref u → dv = .tuple [.int b, .str h] → (s = "share" ∧ z = w ∧ shB b w = false) ∨ (s = "" ∧ z = .non ∧ shB b w = true))
def sp_law_stretch_due (K : PySem.W.Frag) : Sp := fun vs H Q _ => ∃ (v w : V) (dv dw : PyData), vs = [v, w] ∧ Dx K H v dv ∧ Dx K H w dw ∧
  ∀ H' T s z, Same H H' → H' T = some (.tup [.str s, z]) → DueT dv v w s z → Q (.ref T) H'
section
variable {P : Program} {w : World} {K : PySem.W.Frag} {mg : Str → Option Value} {base : Heap}
theorem ok_law_is_int {f : Addr} {fd : FuncData} (F : Fun K "_law_is_int" "_law_is_int" s_law_is_int f fd) (m_isinstance : mg "isinstance" = none) (m_int : mg "int" = none) (m_bool : mg "bool" = none) : FnOk P w K mg base CX0 1 f fd ["_law_value", "_law_low", "_law_high"] (sp_law_is_int K) := by
  refine F.ok sc_law_is_int (fun vs H Q E h => ?_) (fun cdv A outer s H vs Q E hr h => ?_)
  · obtain ⟨v, d, lo, hi, rfl, _⟩ := h
    rfl
  · refine ⟨_, (pss_one (ps_ret (pe_and (pe_callB call_isi (by rfl) m_isinstance (by decide +kernel) (pa_cons (pv 0) (pa_cons (pe_bltn (v := .ty "int") (by rfl) m_int (by decide +kernel) rfl) pa_nil))) (pe_and (pe_not (pe_callB call_isi (by rfl) m_isinstance (by decide +kernel) (pa_cons (pv 0) (pa_cons (pe_bltn (v := .ty "bool") (by rfl) m_bool (by decide +kernel) rfl) pa_nil)))) (pe_one (pe_chain op_le op_le (pv 1) (pv 0) (pv 2))))))), ?_⟩
    obtain ⟨v, d, lo, hi, rfl, hd, q⟩ := h
    refine ret_in ?_
    cases hd with
    | non => exact ⟨_, rfl, _, .ty "int", _, _, false, rfl, .ty "int", .base .non, kit_ty (by decide +kernel), false, rfl, iteF q⟩
    | bl y => exact ⟨_, rfl, _, .ty "int", _, _, true, rfl, .ty "int", .base (.bl y), kit_ty (by decide +kernel), true, rfl, iteT ⟨_, rfl, _, .ty "bool", _, _, true, rfl, .ty "bool", .base (.bl y), kit_ty (by decide +kernel), true, rfl, false, rfl, iteF q⟩⟩
    | int i =>
      refine ⟨_, rfl, _, .ty "int", _, _, true, rfl, .ty "int", .base (.int i), kit_ty (by decide +kernel), true, rfl, iteT ⟨_, rfl, _, .ty "bool", _, _, false, rfl, .ty "bool", .base (.int i), kit_ty (by decide +kernel), false, rfl, true, rfl, iteT ?_⟩⟩
      have q2 : Q (.bl (decide (lo ≤ i) && decide (i ≤ hi))) H := q
      refine ⟨.int lo, rfl, .int i, rfl, lo, i, rfl, rfl, _, rfl, ?_⟩
      by_cases z : lo ≤ i
      · refine iteDY z ⟨.int hi, rfl, i, hi, rfl, rfl, ?_⟩
        rw [decide_eq_true z] at q2
        exact q2
      · refine iteDN z ?_
        rw [decide_eq_false z] at q2
        exact q2
    | str x => exact ⟨_, rfl, _, .ty "int", _, _, false, rfl, .ty "int", .base (.str x), kit_ty (by decide +kernel), false, rfl, iteF q⟩
    | lst e _ _ => exact ⟨_, rfl, _, .ty "int", _, _, false, rfl, .ty "int", .base (.lst e), kit_ty (by decide +kernel), false, rfl, iteF q⟩
    | tup e _ => exact ⟨_, rfl, _, .ty "int", _, _, false, rfl, .ty "int", sqT_ty e, kit_ty (by decide +kernel), false, rfl, iteF q⟩
    | dct e _ _ => exact ⟨_, rfl, _, .ty "int", _, _, false, rfl, .ty "int", .base (.dK e), kit_ty (by decide +kernel), false, rfl, iteF q⟩
theorem ok_law_is_units {f : Addr} {fd : FuncData} (F : Fun K "_law_is_units" "_law_is_units" s_law_is_units f fd) (m_isinstance : mg "isinstance" = none) (m_tuple : mg "tuple" = none) (m_len : mg "len" = none) (m_str : mg "str" = none) (c_law_is_int : Cal P w K mg base 1 "_law_is_int" ["_law_value", "_law_low", "_law_high"] (sp_law_is_int K)) : FnOk P w K mg base CX0 2 f fd ["_law_value"] (sp_law_is_units K) := by
  refine F.ok sc_law_is_units (fun vs H Q E h => ?_) (fun cdv A outer s H vs Q E hr h => ?_)
  · obtain ⟨v, d, rfl, _⟩ := h
    rfl
  · refine ⟨_, (pss_cons (ps_if (PW.pt (pw_or (pt_not (pt_val (pe_callB call_isi (by rfl) m_isinstance (by decide +kernel) (pa_cons (pv 0) (pa_cons (pe_bltn (v := .ty "tuple") (by rfl) m_tuple (by decide +kernel) rfl) pa_nil))))) (pw_or (pt_cmpR op_ne (pe_callB call_len_seq (by rfl) m_len (by decide +kernel) (pa_cons (pv 0) pa_nil)) pe_int (nomark _)) (pw_or1 (pt_not (pt_val (pe_call c_law_is_int.G (hr.mono (by decide)) (by rfl) c_law_is_int.g c_law_is_int.kp c_law_is_int.b .nil pass0 (pa_cons (pe_ix ix_tup (pv 0) pe_int (fun _ _ => rfl)) (pa_cons pe_int (pa_cons pe_int pa_nil)))))))))) (pss_one (ps_ret pe_bl)) pss_nil)
      (pss_one (ps_ret (pe_and (pe_callB call_isi (by rfl) m_isinstance (by decide +kernel) (pa_cons (pe_ix ix_tup (pv 0) pe_int (fun _ _ => rfl)) (pa_cons (pe_bltn (v := .ty "str") (by rfl) m_str (by decide +kernel) rfl) pa_nil))) (pe_one (pe_cmpR op_in_seq (pe_ix ix_tup (pv 0) pe_int (fun _ _ => rfl)) (pe_tup (pa_cons pe_str (pa_cons pe_str (pa_cons pe_str (pa_cons pe_str pa_nil))))) rfl)))))), ?_⟩
    obtain ⟨v, d, rfl, hd, q⟩ := h
    cases hd with
    | non => exact ⟨_, rfl, _, .ty "tuple", _, _, false, rfl, .ty "tuple", .base .non, kit_ty (by decide +kernel), false, rfl, iteT (q _ fun _ _ z => z)⟩
    | bl y => exact ⟨_, rfl, _, .ty "tuple", _, _, false, rfl, .ty "tuple", .base (.bl y), kit_ty (by decide +kernel), false, rfl, iteT (q _ fun _ _ z => z)⟩
    | int i => exact ⟨_, rfl, _, .ty "tuple", _, _, false, rfl, .ty "tuple", .base (.int i), kit_ty (by decide +kernel), false, rfl, iteT (q _ fun _ _ z => z)⟩
    | str x => exact ⟨_, rfl, _, .ty "tuple", _, _, false, rfl, .ty "tuple", .base (.str x), kit_ty (by decide +kernel), false, rfl, iteT (q _ fun _ _ z => z)⟩
    | lst e _ _ => exact ⟨_, rfl, _, .ty "tuple", _, _, false, rfl, .ty "tuple", .base (.lst e), kit_ty (by decide +kernel), false, rfl, iteT (q _ fun _ _ z => z)⟩
    | dct e _ _ => exact ⟨_, rfl, _, .ty "tuple", _, _, false, rfl, .ty "tuple", .base (.dK e), kit_ty (by decide +kernel), false, rfl, iteT (q _ fun _ _ z => z)⟩
    | @tup a xs ds e ha =>
      refine ⟨_, rfl, _, .ty "tuple", _, _, true, rfl, .ty "tuple", sqT_ty e, kit_ty (by decide +kernel), true, rfl, ?_⟩
      refine iteF ⟨.ref a, rfl, a, xs, rfl, .inr e, rfl, _, rfl, ?_⟩
      have no : unitsD (.tuple ds) = false → ∀ G, Same H G → Q (.bl false) G := fun z G s => by
        rw [← z]
        exact q G s
      cases ha with
      | nil => exact iteY rfl (no rfl _ fun _ _ z => z)
      | @cons v1 vs d1 ds1 h1 ha =>
        cases ha with
        | nil => exact iteY rfl (no (by cases d1 <;> rfl) _ fun _ _ z => z)
        | @cons v2 vs2 d2 ds2 h2 ha =>
          cases ha with
          | cons h3 ha =>
            refine iteY ?_ (no (by cases d1 <;> cases d2 <;> rfl) _ fun _ _ z => z)
            rw [decide_eq_false (fun z => by
              have y := V.int.inj z
              simp only [List.length_cons] at y
              omega)]
            rfl
          | nil =>
            refine iteN (fun z => nomatch (show (false : Bool) = true from z)) ?_
            refine ⟨.ref a, rfl, a, _, 0, v1, rfl, rfl, e, atI_nat (j := 0) rfl, v1, d1, 2, 100, rfl, h1, ?_⟩
            cases hI : inI 2 100 v1 with
            | false =>
              refine ⟨false, rfl, iteT ?_⟩
              refine no ?_ _ fun _ _ z => z
              cases h1 with
              | int i =>
                cases d2 with
                | str s =>
                  have y : (decide (2 ≤ i) && decide (i ≤ 100)) = false := hI
                  show (decide (2 ≤ i) && (decide (i ≤ 100) && inV (.str s) hows)) = false
                  rw [← Bool.and_assoc, y]
                  rfl
                | _ => rfl
              | _ => cases d2 <;> rfl
            | true =>
              refine ⟨true, rfl, iteF ?_⟩
              refine next_in (ret_in ?_)
              obtain ⟨i, rfl⟩ : ∃ i, v1 = .int i := by
                cases v1 with
                | int i => exact ⟨i, rfl⟩
                | _ => cases hI
              cases h1
              have y : (decide (2 ≤ i) && decide (i ≤ 100)) = true := hI
              refine ⟨.ref a, rfl, a, _, 1, v2, rfl, rfl, e, atI_nat (j := 1) rfl, ?_⟩
              cases h2 with
              | non => exact ⟨_, .ty "str", _, _, false, rfl, .ty "str", .base .non, kit_ty (by decide +kernel), false, rfl, iteF (no rfl _ fun _ _ z => z)⟩
              | bl y => exact ⟨_, .ty "str", _, _, false, rfl, .ty "str", .base (.bl y), kit_ty (by decide +kernel), false, rfl, iteF (no rfl _ fun _ _ z => z)⟩
              | int j => exact ⟨_, .ty "str", _, _, false, rfl, .ty "str", .base (.int j), kit_ty (by decide +kernel), false, rfl, iteF (no rfl _ fun _ _ z => z)⟩
              | lst e1 _ _ => exact ⟨_, .ty "str", _, _, false, rfl, .ty "str", .base (.lst e1), kit_ty (by decide +kernel), false, rfl, iteF (no rfl _ fun _ _ z => z)⟩
              | tup e1 _ => exact ⟨_, .ty "str", _, _, false, rfl, .ty "str", sqT_ty e1, kit_ty (by decide +kernel), false, rfl, iteF (no rfl _ fun _ _ z => z)⟩
              | dct e1 _ _ => exact ⟨_, .ty "str", _, _, false, rfl, .ty "str", .base (.dK e1), kit_ty (by decide +kernel), false, rfl, iteF (no rfl _ fun _ _ z => z)⟩
              | str s =>
                refine ⟨_, .ty "str", _, _, true, rfl, .ty "str", .base (.str s), kit_ty (by decide +kernel), true, rfl, iteT ?_⟩
                refine ⟨.ref a, rfl, a, _, 1, .str s, rfl, rfl, e, atI_nat (j := 1) rfl, by show 4 ≤ sizeLine; decide, fun T nT => ?_⟩
                refine ⟨T, hows, rfl, .inr (SqT.of upd_same), rfl, by decide +kernel, ?_⟩
                have q2 := q _ (sameU (o := .tup hows) nT)
                rw [show unitsD (.tuple [.int i, .str s]) = inV (.str s) hows by
                  show (decide (2 ≤ i) && (decide (i ≤ 100) && inV (.str s) hows)) = _
                  rw [← Bool.and_assoc, y]
                  rfl] at q2
                exact q2
end
end Uq

namespace Uq
open PySem PySem.Spec PyProof.Rows L2 LamX TL

/-! ### what is due -/
theorem bigN : CPowW 10 9 := powW_ok (j := 9) (n := 8) (by decide) (by decide)
section
variable {P : Program} {w : World} {K : PySem.W.Frag} {mg : Str → Option Value} {base : Heap}
theorem ok_law_shown_due {f : Addr} {fd : FuncData} (F : Fun K "_law_shown_due" "_law_shown_due" s_law_shown_due f fd) (c_law_is_units : Cal P w K mg base 2 "_law_is_units" ["_law_value"] (sp_law_is_units K)) (c_law_is_int : Cal P w K mg base 1 "_law_is_int" ["_law_value", "_law_low", "_law_high"] (sp_law_is_int K)) : FnOk P w K mg base CX0 3 f fd ["_law_units_here", "_law_many", "_law_whole"] (sp_law_shown_due K) := by
  refine F.ok sc_law_shown_due (fun vs H Q E h => ?_) (fun cdv A outer s H vs Q E hr h => ?_)
  · obtain ⟨v, m, n, dv, dm, dn, rfl, _⟩ := h
    rfl
  · refine ⟨_, (pss_cons (ps_if (pt_not (pt_val (pe_call c_law_is_units.G (hr.mono (by decide)) (by rfl) c_law_is_units.g c_law_is_units.kp c_law_is_units.b .nil pass0 (pa_cons (pv 0) pa_nil)))) (pss_one (ps_ret (pe_tup (pa_cons pe_str (pa_cons (pv 0) pa_nil))))) pss_nil)
      (pss_cons (ps_if (pt_not (pt_val (pe_call c_law_is_int.G (hr.mono (by decide)) (by rfl) c_law_is_int.g c_law_is_int.kp c_law_is_int.b .nil pass0 (pa_cons (pv 2) (pa_cons pe_int (pa_cons (pe_op op_powW pe_int pe_int) pa_nil)))))) (pss_one (ps_ret (pe_tup (pa_cons pe_str (pa_cons (pv 2) pa_nil))))) pss_nil)
      (pss_one (ps_ret (pe_ifExp (pt_val (pe_call c_law_is_int.G (hr.mono (by decide)) (by rfl) c_law_is_int.g c_law_is_int.kp c_law_is_int.b .nil pass0 (pa_cons (pv 1) (pa_cons pe_int (pa_cons (pv 2) pa_nil))))) (pe_tup (pa_cons pe_str (pa_cons pe_non pa_nil))) (pe_tup (pa_cons pe_str (pa_cons (pv 1) pa_nil)))))))), ?_⟩
    obtain ⟨v, m, n, dv, dm, dn, rfl, hv, hm, hn, sm, q⟩ := h
    have fin : ∀ (H2 : Hp) (s : Str) (z : V), Same H H2 → DueS dv v m n s z → [V.str s, z].length ≤ sizeLine ∧ ∀ p, H2 p = none → Q (.ref p) (upd H2 p (.tup [.str s, z])) := fun H2 s z s2 due => ⟨by show 2 ≤ sizeLine; decide, fun T nT => q _ T s z (s2.trans (sameU nT)) upd_same due⟩
    refine ⟨v, rfl, v, dv, rfl, hv, fun H1 s1 => ?_⟩
    have hm1 := hm.same s1
    have hn1 := hn.same s1
    cases hu : unitsD dv with
    | false =>
      refine ⟨false, rfl, iteT ?_⟩
      exact ⟨v, rfl, fin H1 "units" v s1 (.inl ⟨rfl, rfl, hu⟩)⟩
    | true =>
      refine ⟨true, rfl, iteF ?_⟩
      refine next_in ?_
      refine ⟨n, rfl, 10, 9, rfl, rfl, bigN, n, dn, 1, _, rfl, hn1, ?_⟩
      have eI : inI 1 ((10 : Int) ^ (9 : Int).toNat) n = okW n := by
        cases n with
        | int i =>
          show (decide (1 ≤ i) && decide (i ≤ (10 : Int) ^ (9 : Int).toNat)) = decide (1 ≤ i)
          have y := sm i rfl
          rw [decide_eq_true (show i ≤ (10 : Int) ^ (9 : Int).toNat from y), Bool.and_true]
        | _ => rfl
      rw [eI]
      cases hw : okW n with
      | false =>
        refine ⟨false, rfl, iteT ?_⟩
        exact ⟨n, rfl, fin H1 "count" n s1 (.inr (.inl ⟨rfl, rfl, hu, hw⟩))⟩
      | true =>
        refine ⟨true, rfl, iteF ?_⟩
        refine next_in (ret_in ?_)
        obtain ⟨i, rfl⟩ : ∃ i, n = .int i := by
          cases n with
          | int i => exact ⟨i, rfl⟩
          | _ => cases hw
        refine ⟨m, rfl, .int i, rfl, m, dm, 0, i, rfl, hm1, ?_⟩
        have eM : inI 0 i m = okM (.int i) m := by
          cases m <;> rfl
        rw [eM]
        cases hk : okM (.int i) m with
        | false => exact ⟨false, rfl, iteF ⟨m, rfl, fin H1 "count" m s1 (.inr (.inr (.inl ⟨rfl, rfl, hu, hw, hk⟩)))⟩⟩
        | true => exact ⟨true, rfl, iteT (fin H1 "" .non s1 (.inr (.inr (.inr ⟨rfl, rfl, hu, hw, hk⟩))))⟩
theorem ok_law_stretch_due {f : Addr} {fd : FuncData} (F : Fun K "_law_stretch_due" "_law_stretch_due" s_law_stretch_due f fd) (m_isinstance : mg "isinstance" = none) (m_str : mg "str" = none) (c_law_is_units : Cal P w K mg base 2 "_law_is_units" ["_law_value"] (sp_law_is_units K)) (c_law_is_int : Cal P w K mg base 1 "_law_is_int" ["_law_value", "_law_low", "_law_high"] (sp_law_is_int K)) : FnOk P w K mg base CX0 3 f fd ["_law_units_here", "_law_share"] (sp_law_stretch_due K) := by
  refine F.ok sc_law_stretch_due (fun vs H Q E h => ?_) (fun cdv A outer s H vs Q E hr h => ?_)
  · obtain ⟨v, w_, dv, dw, rfl, _⟩ := h
    rfl
  · refine ⟨_, (pss_cons (ps_if (pt_not (pt_val (pe_call c_law_is_units.G (hr.mono (by decide)) (by rfl) c_law_is_units.g c_law_is_units.kp c_law_is_units.b .nil pass0 (pa_cons (pv 0) pa_nil)))) (pss_one (ps_ret (pe_tup (pa_cons pe_str (pa_cons (pv 0) pa_nil))))) pss_nil)
      (pss_cons (ps_if (pt_val (pe_callB call_isi (by rfl) m_isinstance (by decide +kernel) (pa_cons (pv 1) (pa_cons (pe_bltn (v := .ty "str") (by rfl) m_str (by decide +kernel) rfl) pa_nil)))) (pss_one (ps_ret (pe_ifExp (pt_cmpR op_in_seq (pv 1) (pe_tup (pa_cons pe_str (pa_cons pe_str pa_nil))) rfl) (pe_tup (pa_cons pe_str (pa_cons pe_non pa_nil))) (pe_tup (pa_cons pe_str (pa_cons (pv 1) pa_nil)))))) pss_nil)
      (pss_one (ps_ret (pe_ifExp (pt_val (pe_call c_law_is_int.G (hr.mono (by decide)) (by rfl) c_law_is_int.g c_law_is_int.kp c_law_is_int.b .nil pass0 (pa_cons (pv 1) (pa_cons pe_int (pa_cons (pe_ix ix_tup (pv 0) pe_int (fun _ _ => rfl)) pa_nil))))) (pe_tup (pa_cons pe_str (pa_cons pe_non pa_nil))) (pe_tup (pa_cons pe_str (pa_cons (pv 1) pa_nil)))))))), ?_⟩
    obtain ⟨v, w_, dv, dw, rfl, hv, hw, q⟩ := h
    have fin : ∀ (H2 : Hp) (s : Str) (z : V), Same H H2 → DueT dv v w_ s z → [V.str s, z].length ≤ sizeLine ∧ ∀ p, H2 p = none → Q (.ref p) (upd H2 p (.tup [.str s, z])) := fun H2 s z s2 due => ⟨by show 2 ≤ sizeLine; decide, fun T nT => q _ T s z (s2.trans (sameU nT)) upd_same due⟩
    refine ⟨v, rfl, v, dv, rfl, hv, fun H1 s1 => ?_⟩
    have hw1 := hw.same s1
    cases hu : unitsD dv with
    | false =>
      refine ⟨false, rfl, iteT ?_⟩
      exact ⟨v, rfl, fin H1 "units" v s1 (.inl ⟨rfl, rfl, hu⟩)⟩
    | true =>
      refine ⟨true, rfl, iteF ?_⟩
      refine next_in ?_
      obtain ⟨u, b, hh, rfl, hun, rfl⟩ := units_un hv hu
      have hun1 := sqT_same s1 hun.1
      have dueN : ∀ (s : Str) (z : V), ((s = "share" ∧ z = w_ ∧ shB b w_ = false) ∨ (s = "" ∧ z = .non ∧ shB b w_ = true)) → DueT (.tuple [.int b, .str hh]) (.ref u) w_ s z := fun s z y => .inr ⟨hu, fun u' b' h' _ e2 => by
        cases e2
        exact y⟩
      have hw0 := hw1
      cases hw1 with
      | str x =>
        refine ⟨_, rfl, _, .ty "str", _, _, true, rfl, .ty "str", .base (.str x), kit_ty (by decide +kernel), true, rfl, iteT ?_⟩
        refine ⟨.str x, rfl, by show 2 ≤ sizeLine; decide, fun T nT => ?_⟩
        refine ⟨T, words, rfl, .inr (SqT.of upd_same), rfl, by decide +kernel, ?_⟩
        have sT := sameU (o := .tup [.str "none", .str "some"]) nT
        cases hs : shB b (.str x) with
        | false =>
          refine ⟨false, congrArg V.bl (show inV (.str x) words = false from hs), iteF ⟨.str x, rfl, fin _ "share" (.str x) (s1.trans sT) (dueN _ _ (.inl ⟨rfl, rfl, hs⟩))⟩⟩
        | true =>
          refine ⟨true, congrArg V.bl (show inV (.str x) words = true from hs), iteT (fin _ "" .non (s1.trans sT) (dueN _ _ (.inr ⟨rfl, rfl, hs⟩)))⟩
      | non =>
        refine ⟨_, rfl, _, .ty "str", _, _, false, rfl, .ty "str", .base .non, kit_ty (by decide +kernel), false, rfl, iteF (next_in (ret_in ?_))⟩
        refine ⟨_, rfl, .ref u, rfl, u, _, 0, .int b, rfl, rfl, hun1, atI_nat (j := 0) rfl, _, _, 0, b, rfl, hw0, ?_⟩
        cases hs : shB b .non with
        | false => exact ⟨false, by rw [← hs]; rfl, iteF ⟨_, rfl, fin H1 "share" _ s1 (dueN _ _ (.inl ⟨rfl, rfl, hs⟩))⟩⟩
        | true => exact ⟨true, by rw [← hs]; rfl, iteT (fin H1 "" .non s1 (dueN _ _ (.inr ⟨rfl, rfl, hs⟩)))⟩
      | bl y =>
        refine ⟨_, rfl, _, .ty "str", _, _, false, rfl, .ty "str", .base (.bl y), kit_ty (by decide +kernel), false, rfl, iteF (next_in (ret_in ?_))⟩
        refine ⟨_, rfl, .ref u, rfl, u, _, 0, .int b, rfl, rfl, hun1, atI_nat (j := 0) rfl, _, _, 0, b, rfl, hw0, ?_⟩
        cases hs : shB b (.bl y) with
        | false => exact ⟨false, by rw [← hs]; rfl, iteF ⟨_, rfl, fin H1 "share" _ s1 (dueN _ _ (.inl ⟨rfl, rfl, hs⟩))⟩⟩
        | true => exact ⟨true, by rw [← hs]; rfl, iteT (fin H1 "" .non s1 (dueN _ _ (.inr ⟨rfl, rfl, hs⟩)))⟩
      | int i =>
        refine ⟨_, rfl, _, .ty "str", _, _, false, rfl, .ty "str", .base (.int i), kit_ty (by decide +kernel), false, rfl, iteF (next_in (ret_in ?_))⟩
        refine ⟨_, rfl, .ref u, rfl, u, _, 0, .int b, rfl, rfl, hun1, atI_nat (j := 0) rfl, _, _, 0, b, rfl, hw0, ?_⟩
        cases hs : shB b (.int i) with
        | false => exact ⟨false, by rw [← hs]; rfl, iteF ⟨_, rfl, fin H1 "share" _ s1 (dueN _ _ (.inl ⟨rfl, rfl, hs⟩))⟩⟩
        | true => exact ⟨true, by rw [← hs]; rfl, iteT (fin H1 "" .non s1 (dueN _ _ (.inr ⟨rfl, rfl, hs⟩)))⟩
      | lst e _ _ =>
        refine ⟨_, rfl, _, .ty "str", _, _, false, rfl, .ty "str", .base (.lst e), kit_ty (by decide +kernel), false, rfl, iteF (next_in (ret_in ?_))⟩
        refine ⟨_, rfl, .ref u, rfl, u, _, 0, .int b, rfl, rfl, hun1, atI_nat (j := 0) rfl, _, _, 0, b, rfl, hw0, ?_⟩
        cases hs : shB b (.ref _) with
        | false => exact ⟨false, by rw [← hs]; rfl, iteF ⟨_, rfl, fin H1 "share" _ s1 (dueN _ _ (.inl ⟨rfl, rfl, hs⟩))⟩⟩
        | true => exact ⟨true, by rw [← hs]; rfl, iteT (fin H1 "" .non s1 (dueN _ _ (.inr ⟨rfl, rfl, hs⟩)))⟩
      | tup e _ =>
        refine ⟨_, rfl, _, .ty "str", _, _, false, rfl, .ty "str", sqT_ty e, kit_ty (by decide +kernel), false, rfl, iteF (next_in (ret_in ?_))⟩
        refine ⟨_, rfl, .ref u, rfl, u, _, 0, .int b, rfl, rfl, hun1, atI_nat (j := 0) rfl, _, _, 0, b, rfl, hw0, ?_⟩
        cases hs : shB b (.ref _) with
        | false => exact ⟨false, by rw [← hs]; rfl, iteF ⟨_, rfl, fin H1 "share" _ s1 (dueN _ _ (.inl ⟨rfl, rfl, hs⟩))⟩⟩
        | true => exact ⟨true, by rw [← hs]; rfl, iteT (fin H1 "" .non s1 (dueN _ _ (.inr ⟨rfl, rfl, hs⟩)))⟩
      | dct e _ _ =>
        refine ⟨_, rfl, _, .ty "str", _, _, false, rfl, .ty "str", .base (.dK e), kit_ty (by decide +kernel), false, rfl, iteF (next_in (ret_in ?_))⟩
        refine ⟨_, rfl, .ref u, rfl, u, _, 0, .int b, rfl, rfl, hun1, atI_nat (j := 0) rfl, _, _, 0, b, rfl, hw0, ?_⟩
        cases hs : shB b (.ref _) with
        | false => exact ⟨false, by rw [← hs]; rfl, iteF ⟨_, rfl, fin H1 "share" _ s1 (dueN _ _ (.inl ⟨rfl, rfl, hs⟩))⟩⟩
        | true => exact ⟨true, by rw [← hs]; rfl, iteT (fin H1 "" .non s1 (dueN _ _ (.inr ⟨rfl, rfl, hs⟩)))⟩
end
end Uq

namespace Uq
open PySem PySem.Spec PyProof.Rows L2 LamX TL

section
variable {P : Program} {w : World} {K : PySem.W.Frag} {mg : Str → Option Value} {base : Heap}
theorem ok_law_odd {f : Addr} {fd : FuncData} (F : Fun K "_law_odd" "_law_odd" s_law_odd f fd) (c_law_of : Cal P w K mg base 2 "_law_of" ["_law_pot_here", "_law_some"] (sp_law_of K)) : FnOk P w K mg base CX0 3 f fd ["_law_pot_here"] (sp_law_odd K) := by
  refine F.ok sc_law_odd (fun vs H Q E h => ?_) (fun cdv A outer s H vs Q E hr h => ?_)
  · obtain ⟨p, c, rfl, _⟩ := h
    rfl
  · refine ⟨_, (pss_cons (ps_set (i := 1) sc_law_odd.nd rfl (.inl rfl) (pe_lst (pa_cons pe_non (pa_cons pe_bl (pa_cons pe_bl (pa_cons pe_int (pa_cons pe_int (pa_cons (pe_un un_neg pe_int) (pa_cons (pe_op op_powW pe_int pe_int) (pa_cons pe_str (pa_cons pe_str (pa_cons pe_str (pa_cons pe_str (pa_cons (pe_tup pa_nil) (pa_cons (pe_lstN pa_nil) (pa_cons pe_dnewK (pa_cons (pe_tup (pa_cons pe_int pa_nil)) (pa_cons (pe_tup (pa_cons (pe_tup pa_nil) pa_nil)) (pa_cons (pe_lstN (pa_cons pe_int pa_nil)) pa_nil)))))))))))))))))))
      (pss_cons (ps_set (i := 1) sc_law_odd.nd rfl (.inl rfl) (pe_op op_cat (pv 1) (pe_lst (pa_cons (pe_tup (pa_cons pe_int (pa_cons pe_str pa_nil))) (pa_cons (pe_tup (pa_cons (pe_tup (pa_cons pe_str (pa_cons pe_int pa_nil))) pa_nil)) (pa_cons (pe_tup (pa_cons (pe_tup (pa_cons (pe_tup (pa_cons pe_str (pa_cons pe_int pa_nil))) pa_nil)) (pa_cons pe_str pa_nil))) (pa_cons (pe_tup (pa_cons pe_int (pa_cons pe_int pa_nil))) (pa_cons (pe_tup (pa_cons (pe_tup (pa_cons pe_int (pa_cons (pe_tup (pa_cons pe_int (pa_cons pe_int pa_nil))) pa_nil))) pa_nil)) (pa_cons pe_str (pa_cons (pe_tup (pa_cons pe_int (pa_cons pe_int (pa_cons pe_int pa_nil)))) pa_nil))))))))))
      (pss_one (ps_ret (pe_call c_law_of.G (hr.mono (by decide)) (by rfl) c_law_of.g c_law_of.kp c_law_of.b .nil pass0 (pa_cons (pv 0) (pa_cons (pv 1) pa_nil))))))), ?_⟩
    obtain ⟨p, c, rfl, hP, hc, q⟩ := h
    have D1 : DispA K p c c (start N_law_odd [.ref p]) H _ (· = odds1) := (disp_cons (disp_c (v := .non) (d := .none) fun _ => .non) (disp_cons (disp_c (v := .bl true) (d := .bool true) fun _ => .bl true) (disp_cons (disp_c (v := .bl false) (d := .bool false) fun _ => .bl false) (disp_cons (disp_c (v := .int 0) (d := .int 0) fun _ => .int 0) (disp_cons (disp_c (v := .int 1) (d := .int 1) fun _ => .int 1) (disp_cons (disp_v (v := .int (-1)) (d := .int (-1)) (te := tUn (rU fun i => .int (-i)) (tC (.int 1))) (fun H Q q => ⟨1, rfl, q⟩) fun _ => .int (-1)) (disp_cons (disp_v (v := .int 100000000) (d := .int 100000000) (te := tOp (rI CPowW fun i j => .int (i ^ j.toNat)) (tC (.int 10)) (tC (.int 8))) (fun H Q q => ⟨10, 8, rfl, rfl, powW_ok (j := 8) (n := 8) (by decide) (by decide), q⟩) fun _ => .int 100000000) (disp_cons (disp_c (v := .str "") (d := .str "") fun _ => .str "") (disp_cons (disp_c (v := .str "a") (d := .str "a") fun _ => .str "a") (disp_cons (disp_c (v := .str "some") (d := .str "some") fun _ => .str "some") (disp_cons (disp_c (v := .str "near") (d := .str "near") fun _ => .str "near") (disp_cons (disp_tup disp_nil) (disp_cons (disp_lst disp_nil) (disp_cons disp_dct0 (disp_cons (disp_tup (disp_cons (disp_c (v := .int 0) (d := .int 0) fun _ => .int 0) disp_nil)) (disp_cons (disp_tup (disp_cons (disp_tup disp_nil) disp_nil)) (disp_cons (disp_lst (disp_cons (disp_c (v := .int 0) (d := .int 0) fun _ => .int 0) disp_nil)) disp_nil)))))))))))))))))
    refine seq_set (lst_in (D1 H _ (But.refl _ _) hP fun xs H1 ds e hB1 hP1 hx => ⟨by rw [hx.length, e]; decide, fun l1 n1 => ?_⟩))
    cases e
    have D2 : DispA K p c c ((start N_law_odd [.ref p]).set 1 (some (.ref l1))) (upd H1 l1 (.lst xs)) _ (· = odds2) := (disp_cons (disp_tup (disp_cons (disp_c (v := .int 100) (d := .int 100) fun _ => .int 100) (disp_cons (disp_c (v := .str "near") (d := .str "near") fun _ => .str "near") disp_nil))) (disp_cons (disp_tup (disp_cons (disp_tup (disp_cons (disp_c (v := .str "a") (d := .str "a") fun _ => .str "a") (disp_cons (disp_c (v := .int 1) (d := .int 1) fun _ => .int 1) disp_nil))) disp_nil)) (disp_cons (disp_tup (disp_cons (disp_tup (disp_cons (disp_tup (disp_cons (disp_c (v := .str "a") (d := .str "a") fun _ => .str "a") (disp_cons (disp_c (v := .int 1) (d := .int 1) fun _ => .int 1) disp_nil))) disp_nil)) (disp_cons (disp_c (v := .str "more") (d := .str "more") fun _ => .str "more") disp_nil))) (disp_cons (disp_tup (disp_cons (disp_c (v := .int 0) (d := .int 0) fun _ => .int 0) (disp_cons (disp_c (v := .int 1) (d := .int 1) fun _ => .int 1) disp_nil))) (disp_cons (disp_tup (disp_cons (disp_tup (disp_cons (disp_c (v := .int 0) (d := .int 0) fun _ => .int 0) (disp_cons (disp_tup (disp_cons (disp_c (v := .int 1) (d := .int 1) fun _ => .int 1) (disp_cons (disp_c (v := .int 1) (d := .int 1) fun _ => .int 1) disp_nil))) disp_nil))) disp_nil)) (disp_cons (disp_c (v := .str "never") (d := .str "never") fun _ => .str "never") (disp_cons (disp_tup (disp_cons (disp_c (v := .int 1) (d := .int 1) fun _ => .int 1) (disp_cons (disp_c (v := .int 1) (d := .int 1) fun _ => .int 1) (disp_cons (disp_c (v := .int 1) (d := .int 1) fun _ => .int 1) disp_nil)))) disp_nil)))))))
    refine seq_set (op_in ⟨.ref l1, rfl, lst_in (D2 _ _ (But.refl _ _) (hP1.new n1) fun ys H2 es e hB2 hP2 hy => ⟨by rw [hy.length, e]; decide, fun l2 n2 => ?_⟩)⟩)
    cases e
    have e1 : H2 l1 = some (.lst xs) := hB2 l1 _ (hP1.ne n1) upd_same
    refine ⟨l1, l2, xs, ys, rfl, rfl, by rw [upd_ne (ne_of_none e1 n2)]; exact e1, upd_same, by rw [hx.length, hy.length]; decide, fun l3 n3 => ?_⟩
    have hP3 := (hP2.new n2).new n3 (o := .lst (xs ++ ys))
    have hB3 : But p H (upd (upd H2 l2 (.lst ys)) l3 (.lst (xs ++ ys))) := (((hB1.new n1).trans hB2).new n2).new n3
    have hd : DxAll K (off p (upd (upd H2 l2 (.lst ys)) l3 (.lst (xs ++ ys)))) (xs ++ ys) odds := by
      have s2 : But p H2 (upd (upd H2 l2 (.lst ys)) l3 (.lst (xs ++ ys))) := ((But.refl _ _).new n2).new n3
      have s1 : But p H1 (upd (upd H2 l2 (.lst ys)) l3 (.lst (xs ++ ys))) := (((But.refl _ _).new n1).trans hB2).trans s2
      exact DxAll.append (hy.same s2.off) (hx.same s1.off)
    have hl : (xs ++ ys).length = 24 := hd.length
    refine ret_in (call_in ⟨.ref p, rfl, .ref l3, rfl, p, l3, c, xs ++ ys, rfl, hP3, by omega, (hP2.new n2).ne n3, SqL.of upd_same, by omega, by omega, fun H4 i v hB4 hP4 ev => ?_⟩)
    obtain ⟨d, hm, hx4⟩ := hd.at ev
    exact q H4 v d hm (hB3.trans hB4) hP4 (hx4.same hB4.off)
end
/-! ### what a lambda raises, caught and told -/
def TTk (K : PySem.W.Frag) (CA : Addr) : (XK → Hp → VK → Prop) → Hp → VK → Prop := fun tl H Q => ∀ H0, Same H H0 → ∀ (E : XK) (Q' : VK),
  (∀ cls d H', PySem.W.exmOne K cls (.ref CA) = some true → (∀ a, H' a = none → ∀ T, (upd H' a (exk a cls d)) T = none → Q (.ref T) (upd (upd H' a (exk a cls d)) T (.tup [.ref a, .non]))) → E cls d H') →
  (∀ v H1, (∀ T, H1 T = none → Q (.ref T) (upd H1 T (.tup [.non, v]))) → Q' v H1) → tl E H0 Q'
theorem told_gives {X : Cx} {g CA : Addr} {cdg : Value} {q : Str} (gA : X.mg "AskedError" = some (.ref CA)) : GivesS X N_law_told "_law_told" (defScope s_law_told) g cdg (defBody s_law_told) "_law_look" q (TTk X.K CA) := by
  intro f c' s H Q tl act hc h
  have hgl : Gl (cxG X N_law_told "_law_told" (defScope s_law_told) g cdg s H).nox "AskedError" := by rfl
  refine ⟨_, pss_cons (ps_asg (pe_tup (pa_cons pe_non (pa_cons pe_non pa_nil))) (pg_tup rfl (pgs_cons (pg_name (i := 1) sc_law_told.nd rfl (.inl rfl)) (pgs_cons (pg_name (i := 2) sc_law_told.nd rfl (.inl rfl)) pgs_nil)))) (pss_cons (ps_try_keep (X := (cxG X N_law_told "_law_told" (defScope s_law_told) g cdg s H).nox) (c := .ref CA) (i := 3)
    (tb := fun W D σ H => ∃ (E : XK) (σ₀ : L2.St), (∀ cls d H', E cls d H' → W cls d σ₀ H') ∧ σ = σ₀ ∧ σ[0]? = some (some (.ref f)) ∧ H c' = some (CodeO c' q) ∧ tl E H (fun v H1 => D.nx (σ.set 2 (some v)) H1))
    rfl rfl rfl sc_law_told.nd rfl rfl ⟨hgl, by decide, .inl gA⟩ LamX.takes0 (fun W pn xe tk _ => ?_) (fun a pn => pss_one (ps_set (i := 1) sc_law_told.nd rfl (.inl rfl) (pv 3)))) (pss_one (ps_ret (pe_tup (pa_cons (pv 1) (pa_cons (pv 2) pa_nil)))))), ?_⟩
  · refine ⟨fun pins s' σ H' D I h' => ?_⟩
    obtain ⟨E, σ₀, hW, h1, h2, h3, h4⟩ := h'
    exact PSs.run (pss_one (ps_set (i := 2) sc_law_told.nd rfl (.inl rfl) (act W pn xe E σ₀ _ _ tk hW))) pins s' σ H' D I ⟨h1, h2, h3, h4⟩
  · refine ⟨by show 2 ≤ sizeLine; decide, fun T0 nT0 => ⟨T0, _, rfl, SqT.of upd_same, rfl, _, _, rfl, _, _, rfl, rfl, ?_⟩⟩
    have s0 := sameU (o := .tup [.non, .non]) nT0
    generalize L2.upd H T0 (.tup [.non, .non]) = H0 at s0 ⊢
    refine ⟨fun cls d H' => wKeep X.K (.ref CA) 3 (tAsg (tVar 3) (gName 1)) (fun _ _ _ _ => False) { nx := tRet (tTup (tCons (tVar 1) (tCons (tVar 2) tNil))) { nx := fun x H' => Q V.non H', rt := Q }, rt := Q } cls d [some (.ref f), some .non, some .non, none] H', _, fun cls d H' h => h, rfl, rfl, s0 _ _ hc, ?_⟩
    refine h H0 s0 _ _ (fun cls d H' hx hq => ⟨true, hx, fun _ a na => ?_, fun z => nomatch z⟩) (fun v H1 hq => ?_)
    · refine ⟨.ref a, rfl, ?_⟩
      refine ⟨.ref a, rfl, .non, rfl, by show 2 ≤ sizeLine; decide, fun T nT => ?_⟩
      exact hq a na T nT
    · refine ⟨.non, rfl, v, rfl, by show 2 ≤ sizeLine; decide, fun T nT => ?_⟩
      exact hq T nT
/-! ### whether what is told is due -/
theorem u64 {k : Nat} {A : Around} (r : Room k A) : A.units + 64 < cLine := by
  have := r.un
  omega
theorem u100 {k : Nat} {A : Around} (r : Room k A) : A.units + 100 < cLine := by
  have := r.un
  omega
theorem kit_own {K : PySem.W.Frag} {C : Addr} : PySem.W.kitOne K (.ref C) (.ref C) = some true := by
  unfold PySem.W.kitOne
  rw [if_pos]
  exact beq_self_eq_true _
def TDk (K : PySem.W.Frag) (BU BC BS : Addr) : (XK → Hp → VK → Prop) → List V → Hp → VK → Prop := fun tl vs H Q => ∃ (s : Str) (z : V), vs = [.str s, z] ∧
  ((∃ Cx : Addr, ((s = "units" ∧ Cx = BU) ∨ (s = "count" ∧ Cx = BC) ∨ (s = "share" ∧ Cx = BS)) ∧ AnyD K H z ∧ ∀ H0, Same H H0 → ∀ (E : XK) (Q' : VK), Raised Cx z H0 E → tl E H0 Q') ∨
   (s = "" ∧ ∀ H0, Same H H0 → ∀ (E : XK) (Q' : VK), (∀ v H', Same H0 H' → Q' v H') → tl E H0 Q')) ∧
  ∀ H', Same H H' → Q (.bl true) H'
/-- which kinds the errors are, and that none is one -/
structure Kinds (K : PySem.W.Frag) (CA BU BC BS : Addr) : Prop where
  n1 : PySem.W.kitOne K (.type "NoneType") (.ref BU) = some false
  n2 : PySem.W.kitOne K (.type "NoneType") (.ref BC) = some false
  n3 : PySem.W.kitOne K (.type "NoneType") (.ref BS) = some false
  k12 : PySem.W.kitOne K (.ref BU) (.ref BC) = some false
  k13 : PySem.W.kitOne K (.ref BU) (.ref BS) = some false
  k21 : PySem.W.kitOne K (.ref BC) (.ref BU) = some false
  k23 : PySem.W.kitOne K (.ref BC) (.ref BS) = some false
  k31 : PySem.W.kitOne K (.ref BS) (.ref BU) = some false
  k32 : PySem.W.kitOne K (.ref BS) (.ref BC) = some false
  e1 : PySem.W.exmOne K (.ref BU) (.ref CA) = some true
  e2 : PySem.W.exmOne K (.ref BC) (.ref CA) = some true
  e3 : PySem.W.exmOne K (.ref BS) (.ref CA) = some true
section
variable {X : Cx} {CA BU BC BS : Addr}
theorem due_gives {m : Nat} {gy : Addr} {cdy : Value} {q : Str} (hg : X.A.guards = some []) (KI : Kinds X.K CA BU BC BS) (XBU : Xcl X.K BU) (XBC : Xcl X.K BC) (XBS : Xcl X.K BS) (gBU : X.mg "BadUnits" = some (.ref BU)) (gBC : X.mg "BadCount" = some (.ref BC)) (gBS : X.mg "BadShare" = some (.ref BS)) (m_isinstance : X.mg "isinstance" = none) (m_repr : X.mg "repr" = none) :
    Gives2 m X N_law_is_due "_law_is_due" (defScope s_law_is_due) gy cdy (defBody s_law_is_due) "_law_told" "_law_look" q (TTk X.K CA) (TDk X.K BU BC BS) := by
  intro f c' s0 H Q tl vs pass hc h hr
  have hg' : (cxY X N_law_is_due "_law_is_due" (defScope s_law_is_due) gy cdy s0 H).A.guards = some [] := hg
  refine ⟨_, (pss_cons (ps_set (i := 3) sc_law_is_due.nd rfl (.inl rfl) (pe_ix ix_tup (pass _ _ _) pe_int (fun _ _ => rfl)))
      (pss_cons (ps_set (i := 4) sc_law_is_due.nd rfl (.inl rfl) (pe_lst (pa_cons (pe_callB (call_isK.or call_isi) (by rfl) m_isinstance (by decide +kernel) (pa_cons (pv 3) (pa_cons (pe_glob (v := .ref BU) (by rfl) gBU rfl) pa_nil))) (pa_cons (pe_callB (call_isK.or call_isi) (by rfl) m_isinstance (by decide +kernel) (pa_cons (pv 3) (pa_cons (pe_glob (v := .ref BC) (by rfl) gBC rfl) pa_nil))) (pa_cons (pe_callB (call_isK.or call_isi) (by rfl) m_isinstance (by decide +kernel) (pa_cons (pv 3) (pa_cons (pe_glob (v := .ref BS) (by rfl) gBS rfl) pa_nil))) pa_nil)))))
      (pss_cons (ps_if (pt_cmpR op_eq (pv 1) pe_str (nomark _)) (pss_one (ps_ret (pe_cmpR op_isN (pv 3) pe_non (nomark _)))) pss_nil)
      (pss_one (ps_ret (pe_and (pe_cmpR (op_eqD (u64 hr)) (pv 4) (pe_lc (own := [("_law_one", 5)]) (g := gName 5) rfl sc_law_is_due.nd (pi_tup (pe_tup (pa_cons pe_str (pa_cons pe_str (pa_cons pe_str pa_nil))))) (blkOk_by (own := [("_law_one", 5)]) (N := N_law_is_due) (sc := defScope s_law_is_due) (by decide +kernel)) (fun _ _ _ _ _ => (pg_name (i := 5) sc_law_is_due.nd rfl (.inl rfl))) (fun _ _ _ _ _ => pts_nil) (fun _ _ _ _ _ => (pe_cmpR op_eq (pv 1) (pv 5) (nomark _)))) (nomark _)) (pe_one (pe_cmpR op_eq (pe_callB (call_reprX hg' (u100 hr)) (by rfl) m_repr (by decide +kernel) (pa_cons (pe_kv (pv 3)) pa_nil)) (pe_callB (call_reprX hg' (u100 hr)) (by rfl) m_repr (by decide +kernel) (pa_cons (pv 2) pa_nil)) (nomark _))))))))), ?_⟩
  obtain ⟨s, z, rfl, hk, q⟩ := h
  refine ⟨rfl, hc, fun H0 sm0 E Q' hE hQ => ?_⟩
  rcases hk with ⟨Cx, (⟨rfl, eC⟩ | ⟨rfl, eC⟩ | ⟨rfl, eC⟩), hz, hraise⟩ | ⟨rfl, hok⟩
  · rw [eC] at hraise
    refine hraise H0 sm0 E Q' (fun H1 dd s1 hdd => ?_)
    refine hE _ _ _ KI.e1 (fun ae nae R nR => ?_)
    refine ⟨R, _, 0, .ref ae, rfl, rfl, SqT.of upd_same, rfl, ?_⟩
    have s2 : Same H1 (upd (upd H1 ae (exk ae (.ref BU) (some dd))) R (.tup [.ref ae, .non])) := (sameU nae).trans (sameU nR)
    have ek : ExcK (upd (upd H1 ae (exk ae (.ref BU) (some dd))) R (.tup [.ref ae, .non])) ae BU z := ⟨dd, (sameU nR) _ _ upd_same, s2 _ _ hdd⟩
    have sG : Same H (upd (upd H1 ae (exk ae (.ref BU) (some dd))) R (.tup [.ref ae, .non])) := sm0.trans (s1.trans s2)
    generalize (upd (upd H1 ae (exk ae (.ref BU) (some dd))) R (.tup [.ref ae, .non])) = G at ek sG ⊢
    refine ⟨.ref ae, rfl, .inl ⟨ae, BU, z, .ref BU, _, true, rfl, .own BU, XBU, ek, kit_own, ?_⟩⟩
    refine ⟨.ref ae, rfl, .inl ⟨ae, BU, z, .ref BC, _, false, rfl, .own BC, XBU, ek, KI.k12, ?_⟩⟩
    refine ⟨.ref ae, rfl, .inl ⟨ae, BU, z, .ref BS, _, false, rfl, .own BS, XBU, ek, KI.k13, ?_⟩⟩
    refine ⟨by show 3 ≤ sizeLine; decide, fun M nM => ?_⟩
    have sM := sameU (o := .lst [.bl true, .bl false, .bl false]) nM
    have hM : (upd G M (.lst [.bl true, .bl false, .bl false])) M = some (.lst [.bl true, .bl false, .bl false]) := upd_same
    generalize L2.upd G M _ = G1 at sM hM ⊢
    refine ⟨.str "units", rfl, rfl, _, rfl, iteDN (by decide +kernel) (next_in ?_)⟩
    refine ⟨.ref M, rfl, by show 3 ≤ sizeLine; decide, fun W nW => ?_⟩
    have sW := sameU (o := .tup [.str "units", .str "count", .str "share"]) nW
    have hW : (upd G1 W (.tup [.str "units", .str "count", .str "share"])) W = some (.tup [.str "units", .str "count", .str "share"]) := upd_same
    generalize L2.upd G1 W _ = G2 at sW hW ⊢
    refine ⟨W, rfl, ⟨_, SqT.of hW⟩, fun D nD => ?_⟩
    refine lc_it (walk_tup (xs := [V.str "units", .str "count", .str "share"])) (fun i H' => Same G2 H' ∧ H' D = some (.lst ((([V.str "units", .str "count", .str "share"]).take i).map fun w => V.bl (decide (V.str "units" = w))))) ⟨sameU nD, upd_same⟩ (fun i H' _ z => SqT.of (z.1 _ _ hW)) ?_ ?_
    · rintro i y H5 H6 hi ⟨s5, hD⟩ ⟨rfl, hy⟩
      have sc : scal (V.str "units") y = true := by
        have m := List.mem_of_getElem? hy
        simp only [List.mem_cons, List.not_mem_nil, or_false] at m
        rcases m with rfl | rfl | rfl <;> rfl
      refine ⟨rfl, .str "units", rfl, y, rfl, sc, _, hD, ?_, ?_, ?_⟩
      · rw [List.length_map, List.length_take]
        exact small1000 (Nat.le_trans (Nat.min_le_right _ _) (by decide))
      · intro c2 o eb
        rw [upd_ne (ne_of_none eb nD)]
        exact s5 _ _ eb
      · rw [upd_same, List.take_add_one, hy, List.map_append]
        rfl
    rintro H5 ⟨s5, hD⟩
    have eD : H5 D = some (.lst [.bl true, .bl false, .bl false]) := by
      rw [hD]
      have e : ((([V.str "units", .str "count", .str "share"]).take ([V.str "units", .str "count", .str "share"]).length).map fun w => V.bl (decide (V.str "units" = w))) = [.bl true, .bl false, .bl false] := by decide +kernel
      exact congrArg (fun l => some (HO.lst l)) e
    have s15 := sW.trans s5
    refine ⟨.list [.bool true, .bool false, .bool false], .list [.bool true, .bool false, .bool false], .lst (SqL.of (s15 _ _ hM)) (.cons (.bl _) (.cons (.bl _) (.cons (.bl _) .nil))), .lst (SqL.of eD) (.cons (.bl _) (.cons (.bl _) (.cons (.bl _) .nil))), rfl, rfl, ?_⟩
    rw [show PyData.eqv (.list [.bool true, .bool false, .bool false]) (.list [.bool true, .bool false, .bool false]) = true by decide +kernel]
    refine ⟨true, rfl, iteT ?_⟩
    obtain ⟨dz, hdz, shz⟩ := hz
    have sF := (sG.trans sM).trans s15
    refine ⟨.ref ae, rfl, ae, BU, z, rfl, XBU, ek.same (sM.trans s15), z, dz, rfl, Dx.same sF hdz, shz, z, rfl, z, dz, rfl, Dx.same sF hdz, shz, rfl, ?_⟩
    rw [decide_eq_true rfl]
    exact q _ sF
  · rw [eC] at hraise
    refine hraise H0 sm0 E Q' (fun H1 dd s1 hdd => ?_)
    refine hE _ _ _ KI.e2 (fun ae nae R nR => ?_)
    refine ⟨R, _, 0, .ref ae, rfl, rfl, SqT.of upd_same, rfl, ?_⟩
    have s2 : Same H1 (upd (upd H1 ae (exk ae (.ref BC) (some dd))) R (.tup [.ref ae, .non])) := (sameU nae).trans (sameU nR)
    have ek : ExcK (upd (upd H1 ae (exk ae (.ref BC) (some dd))) R (.tup [.ref ae, .non])) ae BC z := ⟨dd, (sameU nR) _ _ upd_same, s2 _ _ hdd⟩
    have sG : Same H (upd (upd H1 ae (exk ae (.ref BC) (some dd))) R (.tup [.ref ae, .non])) := sm0.trans (s1.trans s2)
    generalize (upd (upd H1 ae (exk ae (.ref BC) (some dd))) R (.tup [.ref ae, .non])) = G at ek sG ⊢
    refine ⟨.ref ae, rfl, .inl ⟨ae, BC, z, .ref BU, _, false, rfl, .own BU, XBC, ek, KI.k21, ?_⟩⟩
    refine ⟨.ref ae, rfl, .inl ⟨ae, BC, z, .ref BC, _, true, rfl, .own BC, XBC, ek, kit_own, ?_⟩⟩
    refine ⟨.ref ae, rfl, .inl ⟨ae, BC, z, .ref BS, _, false, rfl, .own BS, XBC, ek, KI.k23, ?_⟩⟩
    refine ⟨by show 3 ≤ sizeLine; decide, fun M nM => ?_⟩
    have sM := sameU (o := .lst [.bl false, .bl true, .bl false]) nM
    have hM : (upd G M (.lst [.bl false, .bl true, .bl false])) M = some (.lst [.bl false, .bl true, .bl false]) := upd_same
    generalize L2.upd G M _ = G1 at sM hM ⊢
    refine ⟨.str "count", rfl, rfl, _, rfl, iteDN (by decide +kernel) (next_in ?_)⟩
    refine ⟨.ref M, rfl, by show 3 ≤ sizeLine; decide, fun W nW => ?_⟩
    have sW := sameU (o := .tup [.str "units", .str "count", .str "share"]) nW
    have hW : (upd G1 W (.tup [.str "units", .str "count", .str "share"])) W = some (.tup [.str "units", .str "count", .str "share"]) := upd_same
    generalize L2.upd G1 W _ = G2 at sW hW ⊢
    refine ⟨W, rfl, ⟨_, SqT.of hW⟩, fun D nD => ?_⟩
    refine lc_it (walk_tup (xs := [V.str "units", .str "count", .str "share"])) (fun i H' => Same G2 H' ∧ H' D = some (.lst ((([V.str "units", .str "count", .str "share"]).take i).map fun w => V.bl (decide (V.str "count" = w))))) ⟨sameU nD, upd_same⟩ (fun i H' _ z => SqT.of (z.1 _ _ hW)) ?_ ?_
    · rintro i y H5 H6 hi ⟨s5, hD⟩ ⟨rfl, hy⟩
      have sc : scal (V.str "count") y = true := by
        have m := List.mem_of_getElem? hy
        simp only [List.mem_cons, List.not_mem_nil, or_false] at m
        rcases m with rfl | rfl | rfl <;> rfl
      refine ⟨rfl, .str "count", rfl, y, rfl, sc, _, hD, ?_, ?_, ?_⟩
      · rw [List.length_map, List.length_take]
        exact small1000 (Nat.le_trans (Nat.min_le_right _ _) (by decide))
      · intro c2 o eb
        rw [upd_ne (ne_of_none eb nD)]
        exact s5 _ _ eb
      · rw [upd_same, List.take_add_one, hy, List.map_append]
        rfl
    rintro H5 ⟨s5, hD⟩
    have eD : H5 D = some (.lst [.bl false, .bl true, .bl false]) := by
      rw [hD]
      have e : ((([V.str "units", .str "count", .str "share"]).take ([V.str "units", .str "count", .str "share"]).length).map fun w => V.bl (decide (V.str "count" = w))) = [.bl false, .bl true, .bl false] := by decide +kernel
      exact congrArg (fun l => some (HO.lst l)) e
    have s15 := sW.trans s5
    refine ⟨.list [.bool false, .bool true, .bool false], .list [.bool false, .bool true, .bool false], .lst (SqL.of (s15 _ _ hM)) (.cons (.bl _) (.cons (.bl _) (.cons (.bl _) .nil))), .lst (SqL.of eD) (.cons (.bl _) (.cons (.bl _) (.cons (.bl _) .nil))), rfl, rfl, ?_⟩
    rw [show PyData.eqv (.list [.bool false, .bool true, .bool false]) (.list [.bool false, .bool true, .bool false]) = true by decide +kernel]
    refine ⟨true, rfl, iteT ?_⟩
    obtain ⟨dz, hdz, shz⟩ := hz
    have sF := (sG.trans sM).trans s15
    refine ⟨.ref ae, rfl, ae, BC, z, rfl, XBC, ek.same (sM.trans s15), z, dz, rfl, Dx.same sF hdz, shz, z, rfl, z, dz, rfl, Dx.same sF hdz, shz, rfl, ?_⟩
    rw [decide_eq_true rfl]
    exact q _ sF
  · rw [eC] at hraise
    refine hraise H0 sm0 E Q' (fun H1 dd s1 hdd => ?_)
    refine hE _ _ _ KI.e3 (fun ae nae R nR => ?_)
    refine ⟨R, _, 0, .ref ae, rfl, rfl, SqT.of upd_same, rfl, ?_⟩
    have s2 : Same H1 (upd (upd H1 ae (exk ae (.ref BS) (some dd))) R (.tup [.ref ae, .non])) := (sameU nae).trans (sameU nR)
    have ek : ExcK (upd (upd H1 ae (exk ae (.ref BS) (some dd))) R (.tup [.ref ae, .non])) ae BS z := ⟨dd, (sameU nR) _ _ upd_same, s2 _ _ hdd⟩
    have sG : Same H (upd (upd H1 ae (exk ae (.ref BS) (some dd))) R (.tup [.ref ae, .non])) := sm0.trans (s1.trans s2)
    generalize (upd (upd H1 ae (exk ae (.ref BS) (some dd))) R (.tup [.ref ae, .non])) = G at ek sG ⊢
    refine ⟨.ref ae, rfl, .inl ⟨ae, BS, z, .ref BU, _, false, rfl, .own BU, XBS, ek, KI.k31, ?_⟩⟩
    refine ⟨.ref ae, rfl, .inl ⟨ae, BS, z, .ref BC, _, false, rfl, .own BC, XBS, ek, KI.k32, ?_⟩⟩
    refine ⟨.ref ae, rfl, .inl ⟨ae, BS, z, .ref BS, _, true, rfl, .own BS, XBS, ek, kit_own, ?_⟩⟩
    refine ⟨by show 3 ≤ sizeLine; decide, fun M nM => ?_⟩
    have sM := sameU (o := .lst [.bl false, .bl false, .bl true]) nM
    have hM : (upd G M (.lst [.bl false, .bl false, .bl true])) M = some (.lst [.bl false, .bl false, .bl true]) := upd_same
    generalize L2.upd G M _ = G1 at sM hM ⊢
    refine ⟨.str "share", rfl, rfl, _, rfl, iteDN (by decide +kernel) (next_in ?_)⟩
    refine ⟨.ref M, rfl, by show 3 ≤ sizeLine; decide, fun W nW => ?_⟩
    have sW := sameU (o := .tup [.str "units", .str "count", .str "share"]) nW
    have hW : (upd G1 W (.tup [.str "units", .str "count", .str "share"])) W = some (.tup [.str "units", .str "count", .str "share"]) := upd_same
    generalize L2.upd G1 W _ = G2 at sW hW ⊢
    refine ⟨W, rfl, ⟨_, SqT.of hW⟩, fun D nD => ?_⟩
    refine lc_it (walk_tup (xs := [V.str "units", .str "count", .str "share"])) (fun i H' => Same G2 H' ∧ H' D = some (.lst ((([V.str "units", .str "count", .str "share"]).take i).map fun w => V.bl (decide (V.str "share" = w))))) ⟨sameU nD, upd_same⟩ (fun i H' _ z => SqT.of (z.1 _ _ hW)) ?_ ?_
    · rintro i y H5 H6 hi ⟨s5, hD⟩ ⟨rfl, hy⟩
      have sc : scal (V.str "share") y = true := by
        have m := List.mem_of_getElem? hy
        simp only [List.mem_cons, List.not_mem_nil, or_false] at m
        rcases m with rfl | rfl | rfl <;> rfl
      refine ⟨rfl, .str "share", rfl, y, rfl, sc, _, hD, ?_, ?_, ?_⟩
      · rw [List.length_map, List.length_take]
        exact small1000 (Nat.le_trans (Nat.min_le_right _ _) (by decide))
      · intro c2 o eb
        rw [upd_ne (ne_of_none eb nD)]
        exact s5 _ _ eb
      · rw [upd_same, List.take_add_one, hy, List.map_append]
        rfl
    rintro H5 ⟨s5, hD⟩
    have eD : H5 D = some (.lst [.bl false, .bl false, .bl true]) := by
      rw [hD]
      have e : ((([V.str "units", .str "count", .str "share"]).take ([V.str "units", .str "count", .str "share"]).length).map fun w => V.bl (decide (V.str "share" = w))) = [.bl false, .bl false, .bl true] := by decide +kernel
      exact congrArg (fun l => some (HO.lst l)) e
    have s15 := sW.trans s5
    refine ⟨.list [.bool false, .bool false, .bool true], .list [.bool false, .bool false, .bool true], .lst (SqL.of (s15 _ _ hM)) (.cons (.bl _) (.cons (.bl _) (.cons (.bl _) .nil))), .lst (SqL.of eD) (.cons (.bl _) (.cons (.bl _) (.cons (.bl _) .nil))), rfl, rfl, ?_⟩
    rw [show PyData.eqv (.list [.bool false, .bool false, .bool true]) (.list [.bool false, .bool false, .bool true]) = true by decide +kernel]
    refine ⟨true, rfl, iteT ?_⟩
    obtain ⟨dz, hdz, shz⟩ := hz
    have sF := (sG.trans sM).trans s15
    refine ⟨.ref ae, rfl, ae, BS, z, rfl, XBS, ek.same (sM.trans s15), z, dz, rfl, Dx.same sF hdz, shz, z, rfl, z, dz, rfl, Dx.same sF hdz, shz, rfl, ?_⟩
    rw [decide_eq_true rfl]
    exact q _ sF
  · refine hok H0 sm0 E Q' (fun v H1 s1 => hQ _ _ (fun R nR => ?_))
    have sR := sameU (o := .tup [.non, v]) nR
    have hR : (upd H1 R (.tup [.non, v])) R = some (.tup [.non, v]) := upd_same
    generalize L2.upd H1 R _ = G at sR hR ⊢
    have sG : Same H G := sm0.trans (s1.trans sR)
    refine ⟨R, _, 0, .non, rfl, rfl, SqT.of hR, rfl, ?_⟩
    refine ⟨.non, rfl, .inr ⟨.non, .ref BU, _, _, false, rfl, .own BU, .base .non, KI.n1, ?_⟩⟩
    refine ⟨.non, rfl, .inr ⟨.non, .ref BC, _, _, false, rfl, .own BC, .base .non, KI.n2, ?_⟩⟩
    refine ⟨.non, rfl, .inr ⟨.non, .ref BS, _, _, false, rfl, .own BS, .base .non, KI.n3, ?_⟩⟩
    refine ⟨by show 3 ≤ sizeLine; decide, fun M nM => ?_⟩
    have sM := sameU (o := .lst [.bl false, .bl false, .bl false]) nM
    generalize L2.upd G M _ = G1 at sM ⊢
    refine ⟨.str "", rfl, rfl, _, rfl, iteDY rfl ?_⟩
    exact ⟨.non, rfl, rfl, q _ (sG.trans sM)⟩
end
end Uq

namespace Uq
open PySem PySem.Spec PyProof.Rows L2
/-! ### a tuple from behind: xs[::-1] -/
def revK {α : Type} (xs : List α) : List α := ((List.range xs.length).map fun k : Nat => ((xs.length : Int) - 1 + k * (-1)).toNat).filterMap (xs[·]?)
theorem rev_len {α : Type} {xs : List α} : (revK xs).length ≤ xs.length := by
  unfold revK
  refine Nat.le_trans (List.length_filterMap_le _ _) ?_
  rw [List.length_map, List.length_range]
  exact Nat.le_refl _
theorem sliceApplied_rev {prog : Program} {w : World} {A : Around} {E : Value → Shared → Prop} {s : Shared} {sl : Addr} {u : Tok} {n : Nat} {Q : Int × Int × Nat → Shared → Prop} (hs : s.heap.IsSliceOf sl .none .none (.int (-1) u)) (q : Q ((n : Int) - 1, -1, n) s) : wpAny (model prog w) A (Builtin.Slice.sliceApplied (.ref sl) (pure ↑n)) Q E s := by
  obtain ⟨o, e, c, d⟩ := hs
  unfold Builtin.Slice.sliceApplied Builtin.Slice.sliceFields
  refine wpAny_bind (wpAny_bind (wpAny_field e d rfl (wpAny_bind (wpAny_field e d rfl (wpAny_bind (wpAny_field e d rfl (wpAny_pure ?_)))))))
  refine wpAny_bind (HT.slicePart_ (.int (-1) u) ?_)
  rw [if_neg (by decide)]
  refine wpAny_bind (slicePart_none (wpAny_bind (slicePart_none (wpAny_bind (wpAny_pure ?_)))))
  refine wpAny_pure ?_
  have h1 : (Builtin.Slice.sliceAdjust none none (-1) (n : Int)) = ((n : Int) - 1, -1) := rfl
  show Q ((Builtin.Slice.sliceAdjust none none (-1) (n : Int)).1, -1, Builtin.Slice.slicePlaces (Builtin.Slice.sliceAdjust none none (-1) (n : Int)).1 (Builtin.Slice.sliceAdjust none none (-1) (n : Int)).2 (-1)) s
  rw [h1]
  have h2 : Builtin.Slice.slicePlaces ((n : Int) - 1) (-1) (-1) = n := by
    unfold Builtin.Slice.slicePlaces
    rw [if_neg (by decide)]
    split
    · rw [show (-(-1) : Int) = 1 from rfl, Int.ediv_one]
      omega
    · omega
  show Q ((n : Int) - 1, -1, Builtin.Slice.slicePlaces ((n : Int) - 1) (-1) (-1)) s
  rw [h2]
  exact q
theorem getItem_tuple_rev {prog : Program} {w : World} {A : Around} {E : Value → Shared → Prop} {s : Shared} {t sl : Addr} {items : Array Value} {u : Tok} {Q : Value → Shared → Prop} (ht : IsTup s.heap t items) (hs : s.heap.IsSliceOf sl .none .none (.int (-1) u))
    (h : Q (.ref s.heap.objs.size) { s with heap := s.heap.push { cls := .type "tuple", data := .seq (revK items.toList).toArray } }) (hz : items.size ≤ sizeLine) : wpAny (model prog w) A (getItem (.ref t) (.ref sl)) Q E s := by
  have hs0 := hs
  obtain ⟨o, e, c, d⟩ := hs
  have tS : s.TypeIs (.ref sl) "slice" := ⟨o, e, c⟩
  unfold getItem
  refine wpAny_holding ?_
  refine wpAny_bind (wpAny_sequenceKey ht.typeIs (by decide) ?_)
  refine wpAny_bind (wpAny_callSpecial?_slot ht.typeIs slot_tuple_getitem ?_)
  refine wpAny_call_entry slot_tuple_getitem ht.typeIs entry_tuple_getitem ?_ (args_tuple_getitem _ _)
  unfold Builtin.«tuple.__getitem__»
  refine wpAny_bind (wpAny_pure ?_)
  refine wpAny_bind (tupleItemsOf_ ht ?_)
  refine wpAny_bind (wpAny_typeOf tS ?_)
  rw [if_pos (by decide)]
  refine wpAny_bind (sliceApplied_rev hs0 ?_)
  have n1 : ¬ (((items.size : Int) - 1 == 0 && (-1 : Int) == 1 && items.size == items.size) = true) := by simp
  dsimp only
  rw [if_neg n1]
  unfold Builtin.Tuple.tupleExact
  have e2 : ((List.range items.size).filterMap fun k => items[((items.size : Int) - 1 + ↑k * -1).toNat]?) = revK items.toList := by
    unfold revK
    rw [List.filterMap_map, Array.length_toList]
    congr 1
    funext k
    show _ = items.toList[_]?
    rw [Array.getElem?_toList]
  rw [e2]
  refine wpAny_bind (wpAny_newObj_type ?_ ?_)
  · refine wpAny_pure ⟨_, rfl, ?_⟩
    exact wpAny_pure h
  · show (revK items.toList).toArray.size ≤ sizeLine
    rw [List.size_toArray]
    refine Nat.le_trans rev_len ?_
    rw [Array.length_toList]
    exact hz
theorem vals_pickT {xs : List V} {its : List Value} (r : Vals xs its) : Vals (revK xs) (revK its) := by
  unfold revK
  rw [r.length]
  exact vals_pick r _
def tRev (K : PySem.W.Frag) (te : TE) (ts : L2.St → Hp → (Option Int → Hp → Prop) → Prop) : TE := fun σ H Q => te σ H fun x H1 => ts σ H1 fun k H4 => ∃ a xs, x = .ref a ∧ SqT K H4 a xs ∧ k = some (-1) ∧ ∀ p, H4 p = none → Q (.ref p) (upd H4 p (.tup (revK xs)))
theorem pe_rev {X : Cx} {e st : Expr} {te : TE} {ts : L2.St → Hp → (Option Int → Hp → Prop) → Prop} {p2 pos : Pos} (he : PE X e te) (hs : PO X (some st) ts) : PE X (.Subscript e (.Slice none none (some st) p2) pos) (tRev X.K te ts) := by
  constructor
  intro pins s σ H Q I h
  apply Subscript_
  refine thn (he.run pins s σ H _ I h) ?_
  rintro v s1 ⟨x, H1, I1, rx, q1⟩
  apply wpAny_Slice
  refine thn ((po_none (X := X)).run pins s1 σ H1 (fun o H' => o = none ∧ H' = H1) I1 ⟨rfl, rfl⟩) ?_
  rintro vl s2 ⟨l, H2, I2, pl, rfl, rfl⟩
  refine thn ((po_none (X := X)).run pins s2 σ H2 (fun o H' => o = none ∧ H' = H2) I2 ⟨rfl, rfl⟩) ?_
  rintro vu s3 ⟨l2, H3, I3, pu, rfl, rfl⟩
  refine thn (hs.run pins s3 σ H3 _ I3 q1) ?_
  rintro vk s4 ⟨k, H4, I4, pk, a, xs, rfl, hx, rfl, q⟩
  cases (show v = Value.ref a from rx)
  cases pl
  cases pu
  obtain ⟨u, rfl⟩ : ∃ u, vk = .int (-1) u := by
    cases pk
    exact ⟨_, rfl⟩
  have I5 : Inv X pins σ H4 { s4 with heap := s4.heap.push { cls := .type "slice", data := .fields #[.none, .none, .int (-1) u] } } := I4.kept (t' := s4.toks) fun b ob z => Heap.get?_push_of_some _ z
  obtain ⟨its, r, ht, hsz⟩ := I5.tuple hx
  have hlen := r.length
  have hT : typeLookup (.type "tuple") "__getitem__" = pure (some (.builtin _)) := slot_tuple_getitem.lookup
  refine tail_any (ops := [.ref a, .ref s4.heap.objs.size]) ht.typeIs hT ?_ (by with_unfolding_all rfl)
  refine getItem_tuple_rev ht (Heap.IsSliceOf.new ..) ?_ (by rw [List.size_toArray]; omega)
  have rel := vals_pickT r
  refine ⟨.ref _, _, I5.laid (o := .tup (revK xs)) (fun b ob z => Heap.get?_push_of_some _ z) (Nat.le_refl _) ?_, rfl, q _ (I5.hok.fresh (Nat.le_refl _))⟩
  exact ⟨Nat.le_trans rev_len hsz, _, rel, IsTup.new _ _⟩
end Uq

namespace Uq
open PySem PySem.Spec PyProof.Rows L2 LamX TL

structure OkD (d : PyData) (k n : Nat) : Prop where
  sho : d.showable = true
  dic : d.hasDict = false
  dep : d.depth ≤ k
  lea : d.leavesShort 13 = true
  bul : d.bulk ≤ n
theorem OkD.shown {d : PyData} {k n : Nat} (h : OkD d k n) (hk : k ≤ 60) (hn : n ≤ 2 ^ 20) : d.showable = true ∧ d.hasDict = false ∧ d.depth ≤ 60 ∧ d.shown.length ≤ sizeLine :=
  ⟨h.sho, h.dic, Nat.le_trans h.dep hk, PyData.shown_fits_bulk (B := 13) (by decide) (by decide) h.lea (Nat.le_trans h.bul hn)⟩
theorem okd_non : OkD .none 0 0 := ⟨rfl, rfl, Nat.le_refl _, rfl, Nat.le_refl _⟩
theorem okd_bool (b : Bool) : OkD (.bool b) 0 0 := ⟨rfl, rfl, Nat.le_refl _, rfl, Nat.le_refl _⟩
theorem okd_nat {n : Nat} (h : n ≤ 1000) : OkD (.int n) 0 0 := by
  have z : ∀ n : Fin 1001, (PyData.int (n.val : Int)).showable = true ∧ (PyData.int (n.val : Int)).leavesShort 13 = true := by decide +kernel
  have y := z ⟨n, by omega⟩
  exact ⟨y.1, rfl, Nat.le_refl _, y.2, Nat.le_refl _⟩
theorem okd_all {k m : Nat} : ∀ {ds : List PyData}, (∀ d ∈ ds, OkD d k m) → PyData.showableAll ds = true ∧ PyData.hasDictAll ds = false ∧ PyData.depthAll ds ≤ k ∧ PyData.leavesShortAll 13 ds = true ∧ PyData.bulkAll ds ≤ (m + 1) * ds.length
  | [], _ => ⟨rfl, rfl, Nat.zero_le _, rfl, Nat.zero_le _⟩
  | d :: ds, h => by
    have a := h d List.mem_cons_self
    obtain ⟨b1, b2, b3, b4, b5⟩ := okd_all (ds := ds) fun e me => h e (List.mem_cons_of_mem _ me)
    refine ⟨?_, ?_, ?_, ?_, ?_⟩
    · rw [PyData.showableAll, a.sho, b1]; rfl
    · rw [PyData.hasDictAll, a.dic, b2]; rfl
    · rw [PyData.depthAll]; exact Nat.max_le.mpr ⟨a.dep, b3⟩
    · rw [PyData.leavesShortAll, a.lea, b4]; rfl
    · rw [PyData.bulkAll, List.length_cons, Nat.mul_add, Nat.mul_one]
      have := a.bul
      omega
theorem okd_tup {k m : Nat} {ds : List PyData} (h : ∀ d ∈ ds, OkD d k m) : OkD (.tuple ds) (k + 1) ((m + 1) * ds.length) := by
  obtain ⟨b1, b2, b3, b4, b5⟩ := okd_all h
  exact ⟨by rw [PyData.showable]; exact b1, by rw [PyData.hasDict]; exact b2, by rw [PyData.depth]; omega, by rw [PyData.leavesShort]; exact b4, by rw [PyData.bulk]; exact b5⟩
theorem OkD.mono {d : PyData} {k n k' n' : Nat} (h : OkD d k n) (a : k ≤ k') (b : n ≤ n') : OkD d k' n' := ⟨h.sho, h.dic, Nat.le_trans h.dep a, h.lea, Nat.le_trans h.bul b⟩
theorem okd_shows {d : PyData} {k n : Nat} (h : OkD d k n) (hk : k ≤ 60) (hn : n ≤ 2 ^ 20) : Shows d := by
  obtain ⟨a, _, b, c⟩ := h.shown hk hn
  exact ⟨a, b, c⟩

theorem okd_lst {k m : Nat} {ds : List PyData} (h : ∀ d ∈ ds, OkD d k m) : OkD (.list ds) (k + 1) ((m + 1) * ds.length) := by
  obtain ⟨b1, b2, b3, b4, b5⟩ := okd_all h
  exact ⟨by rw [PyData.showable]; exact b1, by rw [PyData.hasDict]; exact b2, by rw [PyData.depth]; omega, by rw [PyData.leavesShort]; exact b4, by rw [PyData.bulk]; exact b5⟩
instance (d : PyData) (k n : Nat) : Decidable (OkD d k n) :=
  decidable_of_iff (d.showable = true ∧ d.hasDict = false ∧ d.depth ≤ k ∧ d.leavesShort 13 = true ∧ d.bulk ≤ n) ⟨fun ⟨a, b, c, e, f⟩ => ⟨a, b, c, e, f⟩, fun ⟨a, b, c, e, f⟩ => ⟨a, b, c, e, f⟩⟩
/-! ### a value bent -/
def outI (b : Int) : List PyData := [.int (b + 1), .int (b - 1), .bool (decide (V.int b = V.int 1)), .str (toString b), .int (-1), .int 5, .int 0, .int (-b), .none, .tuple [.int b]]
def outS (s : Str) : List PyData := [.str (s ++ "x"), .str (cutS s none (some (-1))), .str (Txt.upper s), .str (s ++ " "), .list [.str s], .str "more", .str "least", .none, .int 0]
def outT (b : Int) (s : Str) : List PyData := [.list [.int b, .str s], .tuple [.str s], .tuple [.int b], .tuple [.int b, .str s, .str s], .tuple [.str s, .int b], .tuple [], .tuple [.int b, .str s, .int 0], .none]
def howL : List Str := ["near", "even", "down", "up"]
theorem howL_of {s : Str} (h : How s) : s ∈ howL := by
  rcases h with rfl | rfl | rfl | rfl <;> decide +kernel
theorem outI_ok0 : ∀ b : Fin 101, ∀ d ∈ outI (b.val : Int), OkD d 1 20 := by decide +kernel
theorem outS_ok : ∀ s ∈ howL, ∀ d ∈ outS s, OkD d 1 20 := by decide +kernel
theorem outI_ok {b : Int} (h0 : 0 ≤ b) (h1 : b ≤ 100) : ∀ d ∈ outI b, OkD d 1 20 := by
  have z := outI_ok0 ⟨b.toNat, by omega⟩
  have e : ((⟨b.toNat, by omega⟩ : Fin 101).val : Int) = b := by show ((b.toNat : Nat) : Int) = b; omega
  rw [e] at z
  exact z
theorem okd_b {b : Int} (h0 : 0 ≤ b) (h1 : b ≤ 100) : OkD (.int b) 0 20 := by
  have z := okd_nat (n := b.toNat) (by omega)
  have e : ((b.toNat : Nat) : Int) = b := by omega
  rw [e] at z
  exact z.mono (Nat.le_refl _) (by decide)
theorem okd_h0 : ∀ s ∈ howL, OkD (.str s) 0 20 := by decide +kernel
theorem outT_ok {b : Int} {s : Str} (h0 : 0 ≤ b) (h1 : b ≤ 100) (m : s ∈ howL) : ∀ d ∈ outT b s, OkD d 1 63 := by
  have i1 := okd_b h0 h1
  have s1 := okd_h0 s m
  have z1 : OkD (.int 0) 0 20 := by decide +kernel
  intro d md
  unfold outT at md
  simp only [List.mem_cons, List.not_mem_nil, or_false] at md
  have mem3 : ∀ {x y z d : PyData}, d ∈ [x, y, z] → OkD x 0 20 → OkD y 0 20 → OkD z 0 20 → OkD d 0 20 := fun md a b c => by
    simp only [List.mem_cons, List.not_mem_nil, or_false] at md
    rcases md with rfl | rfl | rfl
    · exact a
    · exact b
    · exact c
  rcases md with rfl | rfl | rfl | rfl | rfl | rfl | rfl | rfl
  · exact (okd_lst (k := 0) (m := 20) fun d m => mem3 (List.mem_append_left [PyData.int 0] m) i1 s1 z1).mono (by decide) (by show 21 * 2 ≤ 63; decide)
  · exact (okd_tup (k := 0) (m := 20) fun d m => mem3 (List.mem_append_left [PyData.int 0, .int 0] m) s1 z1 z1).mono (by decide) (by show 21 * 1 ≤ 63; decide)
  · exact (okd_tup (k := 0) (m := 20) fun d m => mem3 (List.mem_append_left [PyData.int 0, .int 0] m) i1 z1 z1).mono (by decide) (by show 21 * 1 ≤ 63; decide)
  · exact (okd_tup (k := 0) (m := 20) fun d m => mem3 m i1 s1 s1).mono (by decide) (by show 21 * 3 ≤ 63; decide)
  · exact (okd_tup (k := 0) (m := 20) fun d m => mem3 (List.mem_append_left [PyData.int 0] m) s1 i1 z1).mono (by decide) (by show 21 * 2 ≤ 63; decide)
  · decide +kernel
  · exact (okd_tup (k := 0) (m := 20) fun d m => mem3 m i1 s1 z1).mono (by decide) (by show 21 * 3 ≤ 63; decide)
  · decide +kernel
theorem sqT_off {K : PySem.W.Frag} {p a : Addr} {H : Hp} {xs : List V} (n : a ≠ p) (h : SqT K H a xs) : SqT K (off p H) a xs := by
  rcases h with (h | ⟨ob, h⟩) | h
  · exact .inl (.inl (by rw [off_ne n]; exact h))
  · exact .inl (.inr ⟨ob, by rw [off_ne n]; exact h⟩)
  · exact .inr h
theorem dispA_use {K : PySem.W.Frag} {p : Addr} {c c1 : Nat} {σ : L2.St} {H : Hp} {ta : TA} {S : List PyData → Prop} {Q : List V → Hp → Prop} (d : DispA K p c c1 σ H ta S) (hP : Pot H p c) (q : ∀ vs H1 ds, S ds → But p H H1 → Pot H1 p c1 → DxAll K (off p H1) vs ds → Q vs H1) : ta σ H Q := d H Q (But.refl _ _) hP q
theorem log_small {i : Int} (h : i.natAbs < 2 ^ 40) : i.natAbs.log2 < 1920 := Nat.lt_of_lt_of_le (PySem.Flt.log2_lt_of (show 0 < 40 by decide) h) (by decide)
theorem call_listN {X : Cx} : CallR X (.type "list") (fun xs H Q => ∃ p ys, xs = [.ref p] ∧ SqT X.K H p ys ∧ ∀ l, H l = none → l ≠ sysModules → Q (.ref l) (upd H l (.lst ys))) := by
  intro pins s σ H xs us Q I r ⟨p, ys, e, hq, q⟩
  subst e
  obtain ⟨u, rfl, rx⟩ := vals1 r
  cases rx
  obtain ⟨its, r', ⟨o, ho, hc, n, hd⟩, hz⟩ := I.tuple hq
  have hl := r'.length
  refine call_list_seq p (.inr rfl) ho hc hd (fun h' c' kp e => ?_) (by simp only [List.size_toArray]; omega)
  exact ⟨.ref s.heap.objs.size, _, I.laid (t' := s.toks) kp (Nat.le_refl _) (show ObjOk X.prog X.w _ h' _ (.lst ys) from ⟨hz, its, c', r', e⟩), rfl, q _ (I.hok.fresh (Nat.le_refl _)) (Nat.ne_of_gt I.big)⟩
def sp_law_bentA (K : PySem.W.Frag) : Sp := fun vs H Q _ => ∃ (p : Addr) (c : Nat) (v : V), vs = [.ref p, v] ∧ Pot H p c ∧ c < 90000 ∧ ((∃ b : Int, v = .int b ∧ 2 ≤ b ∧ b ≤ 100) ∨ ∃ s : Str, v = .str s ∧ How s) ∧
  ∀ H' v' d, OkD d 1 20 → But p H H' → Pot H' p (c + 1) → Dx K (off p H') v' d → Q v' H'
def sp_law_bentB (K : PySem.W.Frag) : Sp := fun vs H Q _ => ∃ (p u : Addr) (c : Nat) (b : Int) (s : Str), vs = [.ref p, .ref u] ∧ Pot H p c ∧ c + 5 < 90000 ∧ u ≠ p ∧ SqT K H u [.int b, .str s] ∧ 2 ≤ b ∧ b ≤ 100 ∧ How s ∧
  ∀ H' v' d c', OkD d 2 63 → But p H H' → Pot H' p c' → c' ≤ c + 3 → Dx K (off p H') v' d → Q v' H'
section
variable {P : Program} {w : World} {K : PySem.W.Frag} {mg : Str → Option Value} {base : Heap}
theorem ok_law_bentA {f : Addr} {fd : FuncData} (F : Fun K "_law_bent" "_law_bent" s_law_bent f fd) (m_isinstance : mg "isinstance" = none) (m_tuple : mg "tuple" = none) (m_len : mg "len" = none) (m_list : mg "list" = none) (m_str : mg "str" = none) (m_bool : mg "bool" = none) (m_int : mg "int" = none) (c_law_take : Cal P w K mg base 1 "_law_take" ["_law_pot_here", "_law_upto"] (sp_law_take K)) (c_law_of : Cal P w K mg base 2 "_law_of" ["_law_pot_here", "_law_some"] (sp_law_of K)) : FnOk P w K mg base CX0 4 f fd ["_law_pot_here", "_law_value"] (sp_law_bentA K) := by
  refine F.ok sc_law_bent (fun vs H Q E h => ?_) (fun cdv A outer s H vs Q E hr h => ?_)
  · obtain ⟨p, c, v, rfl, _⟩ := h
    rfl
  · refine ⟨_, (pss_cons (ps_if (PW.pt (pw_and (pt_val (pe_callB call_isi (by rfl) m_isinstance (by decide +kernel) (pa_cons (pv 1) (pa_cons (pe_bltn (v := .ty "tuple") (by rfl) m_tuple (by decide +kernel) rfl) pa_nil)))) (pw_and (pt_cmpR (op_neD (u64 hr)) (pv 1) (pe_tup pa_nil) (nomark _)) (pw_and1 (pt_cmpR op_gt (pe_call c_law_take.G (hr.mono (by decide)) (by rfl) c_law_take.g c_law_take.kp c_law_take.b .nil pass0 (pa_cons (pv 0) (pa_cons pe_int pa_nil))) pe_int (nomark _)))))) pss_never pss_nil)
      (pss_cons (ps_if (pt_val (pe_callB call_isi (by rfl) m_isinstance (by decide +kernel) (pa_cons (pv 1) (pa_cons (pe_bltn (v := .ty "tuple") (by rfl) m_tuple (by decide +kernel) rfl) pa_nil)))) pss_never pss_nil)
      (pss_cons (ps_if (pt_val (pe_callB call_isi (by rfl) m_isinstance (by decide +kernel) (pa_cons (pv 1) (pa_cons (pe_bltn (v := .ty "str") (by rfl) m_str (by decide +kernel) rfl) pa_nil)))) (pss_cons (ps_set (i := 3) sc_law_bent.nd rfl (.inl rfl) (pe_lst (pa_cons (pe_op op_add_str (pv 1) pe_str) (pa_cons (pe_slice sl_str (pv 1) po_none (po_some (pe_un un_neg pe_int))) (pa_cons (pe_bm0 PySem.F.plainAttrs_str PySem.F.slot_str_upper PySem.F.type_str_upper mt_upper (pv 1)) (pa_cons (pe_op op_add_str (pv 1) pe_str) (pa_cons (pe_lstN (pa_cons (pv 1) pa_nil)) (pa_cons pe_str (pa_cons pe_str (pa_cons pe_non (pa_cons pe_int pa_nil)))))))))))
        (pss_one (ps_ret (pe_call c_law_of.G (hr.mono (by decide)) (by rfl) c_law_of.g c_law_of.kp c_law_of.b .nil pass0 (pa_cons (pv 0) (pa_cons (pv 3) pa_nil)))))) pss_nil)
      (pss_cons (ps_if (pt_val (pe_callB call_isi (by rfl) m_isinstance (by decide +kernel) (pa_cons (pv 1) (pa_cons (pe_bltn (v := .ty "bool") (by rfl) m_bool (by decide +kernel) rfl) pa_nil)))) pss_never pss_nil)
      (pss_cons (ps_if (pt_val (pe_callB call_isi (by rfl) m_isinstance (by decide +kernel) (pa_cons (pv 1) (pa_cons (pe_bltn (v := .ty "int") (by rfl) m_int (by decide +kernel) rfl) pa_nil)))) (pss_one (ps_ret (pe_call c_law_of.G (hr.mono (by decide)) (by rfl) c_law_of.g c_law_of.kp c_law_of.b .nil pass0 (pa_cons (pv 0) (pa_cons (pe_lst (pa_cons (pe_op op_add (pv 1) pe_int) (pa_cons (pe_op op_sub (pv 1) pe_int) (pa_cons (pe_cmpR op_eq (pv 1) pe_int (nomark _)) (pa_cons (pe_callTy call_str_int (by rfl) m_str (by decide +kernel) (pa_cons (pv 1) pa_nil)) (pa_cons (pe_un un_neg pe_int) (pa_cons pe_int (pa_cons pe_int (pa_cons (pe_un un_neg (pv 1)) (pa_cons pe_non (pa_cons (pe_tup (pa_cons (pv 1) pa_nil)) pa_nil))))))))))) pa_nil))))) pss_nil)
      pss_never))))), ?_⟩
    obtain ⟨p, c, v, rfl, hP, hc, hv, q⟩ := h
    rcases hv with ⟨b, rfl, b2, b100⟩ | ⟨x, rfl, hx⟩
    · have no : ∀ {t : String}, PySem.W.kitOne K (.type "int") (.type t) = some false → True := fun _ => trivial
      refine ⟨_, rfl, _, .ty "tuple", _, _, false, rfl, .ty "tuple", .base (.int b), kit_ty (by decide +kernel), false, rfl, iteF (next_in ?_)⟩
      refine ⟨_, rfl, _, .ty "tuple", _, _, false, rfl, .ty "tuple", .base (.int b), kit_ty (by decide +kernel), false, rfl, iteF (next_in ?_)⟩
      refine ⟨_, rfl, _, .ty "str", _, _, false, rfl, .ty "str", .base (.int b), kit_ty (by decide +kernel), false, rfl, iteF (next_in ?_)⟩
      refine ⟨_, rfl, _, .ty "bool", _, _, false, rfl, .ty "bool", .base (.int b), kit_ty (by decide +kernel), false, rfl, iteF (next_in ?_)⟩
      refine ⟨_, rfl, _, .ty "int", _, _, true, rfl, .ty "int", .base (.int b), kit_ty (by decide +kernel), true, rfl, iteT (ret_in ?_)⟩
      have s1 : scal (V.int b) (.int 1) = true := rfl
      refine ⟨.ref p, rfl, lst_in (dispA_use (K := K) (c1 := c) (S := (· = outI b)) ?_ hP fun xs H1 ds e hBa hPa hx => ⟨by rw [hx.length, e]; show 10 ≤ sizeLine; decide, fun l1 n1 => ?_⟩)⟩
      · exact disp_cons (disp_v (v := .int (b + 1)) (d := .int (b + 1)) (fun H Q q => ⟨.int b, rfl, b, 1, rfl, rfl, q⟩) fun _ => .int _) (disp_cons (disp_v (v := .int (b - 1)) (d := .int (b - 1)) (fun H Q q => ⟨.int b, rfl, b, 1, rfl, rfl, q⟩) fun _ => .int _) (disp_cons (disp_v (v := .bl (decide (V.int b = V.int 1))) (d := .bool (decide (V.int b = V.int 1))) (fun H Q q => ⟨.int b, rfl, s1, q⟩) fun _ => .bl _) (disp_cons (disp_v (v := .str (toString b)) (d := .str (toString b)) (fun H Q q => ⟨.int b, rfl, b, rfl, log_small (by omega), q⟩) fun _ => .str _) (disp_cons (disp_v (v := .int (-1)) (d := .int (-1)) (fun H Q q => ⟨1, rfl, q⟩) fun _ => .int _) (disp_cons (disp_c fun _ => .int 5) (disp_cons (disp_c fun _ => .int 0) (disp_cons (disp_v (v := .int (-b)) (d := .int (-b)) (fun H Q q => ⟨.int b, rfl, b, rfl, q⟩) fun _ => .int _) (disp_cons (disp_c fun _ => .non) (disp_cons (disp_tup (disp_cons (disp_v (v := .int b) (d := .int b) (fun H Q q => ⟨.int b, rfl, q⟩) fun _ => .int _) disp_nil) (by show 1 ≤ sizeLine; decide)) disp_nil)))))))))
      cases e
      have hB1 := hBa.new n1 (o := .lst xs)
      have hP1' := hPa.new n1 (o := .lst xs)
      refine ⟨p, l1, c, xs, rfl, hP1', by omega, hPa.ne n1, SqL.of upd_same, by rw [hx.length]; exact (by decide : 0 < 10), by rw [hx.length]; exact (by decide : 10 ≤ 100000), fun H2 i v hB2 hP2 ev => ?_⟩
      obtain ⟨d, md, hd⟩ := hx.at ev
      exact q H2 v d (outI_ok (by omega) (by omega) d md) (hB1.trans hB2) hP2 (hd.same (((But.refl _ _).new n1).trans hB2).off)
    · refine ⟨_, rfl, _, .ty "tuple", _, _, false, rfl, .ty "tuple", .base (.str x), kit_ty (by decide +kernel), false, rfl, iteF (next_in ?_)⟩
      refine ⟨_, rfl, _, .ty "tuple", _, _, false, rfl, .ty "tuple", .base (.str x), kit_ty (by decide +kernel), false, rfl, iteF (next_in ?_)⟩
      refine ⟨_, rfl, _, .ty "str", _, _, true, rfl, .ty "str", .base (.str x), kit_ty (by decide +kernel), true, rfl, iteT ?_⟩
      have hh := hx
      have xl : x.length ≤ 4 := by rcases hx with rfl | rfl | rfl | rfl <;> decide +kernel
      have l1 : ("x" : Str).length = 1 := by decide +kernel
      have l2 : (" " : Str).length = 1 := by decide +kernel
      have big : 1000 ≤ sizeLine := by decide
      refine seq_set (lst_in (dispA_use (K := K) (c1 := c) (S := (· = outS x)) ?_ hP fun xs H1 ds e hBa hPa hx => ⟨by rw [hx.length, e]; show 9 ≤ sizeLine; decide, fun l1 n1 => ?_⟩))
      · exact disp_cons (disp_v (v := .str (x ++ "x")) (d := .str (x ++ "x")) (fun H Q q => ⟨.str x, rfl, x, _, rfl, rfl, by omega, q⟩) fun _ => .str _) (disp_cons (disp_v (v := .str (cutS x none (some (-1)))) (d := .str (cutS x none (some (-1)))) (fun H Q q => ⟨.str x, rfl, 1, rfl, -1, rfl, x, rfl, by omega, q⟩) fun _ => .str _) (disp_cons (disp_v (v := .str (Txt.upper x)) (d := .str (Txt.upper x)) (fun H Q q => ⟨.str x, rfl, rfl, x, rfl, rfl, by omega, q⟩) fun _ => .str _) (disp_cons (disp_v (v := .str (x ++ " ")) (d := .str (x ++ " ")) (fun H Q q => ⟨.str x, rfl, x, _, rfl, rfl, by omega, q⟩) fun _ => .str _) (disp_cons (disp_lst (disp_cons (disp_v (v := .str x) (d := .str x) (fun H Q q => ⟨.str x, rfl, q⟩) fun _ => .str _) disp_nil) (by show 1 ≤ sizeLine; decide)) (disp_cons (disp_c fun _ => .str "more") (disp_cons (disp_c fun _ => .str "least") (disp_cons (disp_c fun _ => .non) (disp_cons (disp_c fun _ => .int 0) disp_nil))))))))
      cases e
      have hB1 := hBa.new n1 (o := .lst xs)
      have hP1' := hPa.new n1 (o := .lst xs)
      refine ret_in ⟨.ref p, rfl, .ref l1, rfl, p, l1, c, xs, rfl, hP1', by omega, hPa.ne n1, SqL.of upd_same, by rw [hx.length]; exact (by decide : 0 < 9), by rw [hx.length]; exact (by decide : 9 ≤ 100000), fun H2 i v hB2 hP2 ev => ?_⟩
      obtain ⟨d, md, hd⟩ := hx.at ev
      exact q H2 v d (outS_ok x (howL_of hh) d md) (hB1.trans hB2) hP2 (hd.same (((But.refl _ _).new n1).trans hB2).off)
theorem ok_law_bentB {f : Addr} {fd : FuncData} (F : Fun K "_law_bent" "_law_bent" s_law_bent f fd) (m_isinstance : mg "isinstance" = none) (m_tuple : mg "tuple" = none) (m_len : mg "len" = none) (m_list : mg "list" = none) (m_str : mg "str" = none) (m_bool : mg "bool" = none) (m_int : mg "int" = none) (c_law_take : Cal P w K mg base 1 "_law_take" ["_law_pot_here", "_law_upto"] (sp_law_take K)) (c_law_of : Cal P w K mg base 2 "_law_of" ["_law_pot_here", "_law_some"] (sp_law_of K)) (c_law_bentA : Cal P w K mg base 4 "_law_bent" ["_law_pot_here", "_law_value"] (sp_law_bentA K)) : FnOk P w K mg base CX0 5 f fd ["_law_pot_here", "_law_value"] (sp_law_bentB K) := by
  refine F.ok sc_law_bent (fun vs H Q E h => ?_) (fun cdv A outer s H vs Q E hr h => ?_)
  · obtain ⟨p, u, c, b, x, rfl, _⟩ := h
    rfl
  · refine ⟨_, (pss_cons (ps_if (PW.pt (pw_and (pt_val (pe_callB call_isi (by rfl) m_isinstance (by decide +kernel) (pa_cons (pv 1) (pa_cons (pe_bltn (v := .ty "tuple") (by rfl) m_tuple (by decide +kernel) rfl) pa_nil)))) (pw_and (pt_cmpR (op_neD (u64 hr)) (pv 1) (pe_tup pa_nil) (nomark _)) (pw_and1 (pt_cmpR op_gt (pe_call c_law_take.G (hr.mono (by decide)) (by rfl) c_law_take.g c_law_take.kp c_law_take.b .nil pass0 (pa_cons (pv 0) (pa_cons pe_int pa_nil))) pe_int (nomark _)))))) (pss_cons (ps_set (i := 2) sc_law_bent.nd rfl (.inl rfl) (pe_call c_law_take.G (hr.mono (by decide)) (by rfl) c_law_take.g c_law_take.kp c_law_take.b .nil pass0 (pa_cons (pv 0) (pa_cons (pe_callB call_len_seq (by rfl) m_len (by decide +kernel) (pa_cons (pv 1) pa_nil)) pa_nil))))
        (pss_one (ps_ret (pe_op op_catA (pe_op op_catA (pe_slice sl_tupA (pv 1) po_none (po_some (pv 2))) (pe_tup (pa_cons (pe_call c_law_bentA.G (hr.mono (by decide)) (by rfl) c_law_bentA.g c_law_bentA.kp c_law_bentA.b .nil pass0 (pa_cons (pv 0) (pa_cons (pe_ix ix_tup (pv 1) (pv 2) (fun _ _ => rfl)) pa_nil))) pa_nil))) (pe_slice sl_tupA (pv 1) (po_some (pe_op op_add (pv 2) pe_int)) po_none))))) pss_nil)
      (pss_cons (ps_if (pt_val (pe_callB call_isi (by rfl) m_isinstance (by decide +kernel) (pa_cons (pv 1) (pa_cons (pe_bltn (v := .ty "tuple") (by rfl) m_tuple (by decide +kernel) rfl) pa_nil)))) (pss_cons (ps_set (i := 3) sc_law_bent.nd rfl (.inl rfl) (pe_lst (pa_cons (pe_callTy call_listN (by rfl) m_list (by decide +kernel) (pa_cons (pv 1) pa_nil)) (pa_cons (pe_slice sl_tupA (pv 1) (po_some pe_int) po_none) (pa_cons (pe_slice sl_tupA (pv 1) po_none (po_some (pe_un un_neg pe_int))) (pa_cons (pe_op op_catA (pv 1) (pe_slice sl_tupA (pv 1) (po_some (pe_un un_neg pe_int)) po_none)) (pa_cons (pe_rev (pv 1) (po_some (pe_un un_neg pe_int))) (pa_cons (pe_tup pa_nil) (pa_cons (pe_op op_catA (pv 1) (pe_tup (pa_cons pe_int pa_nil))) (pa_cons pe_non pa_nil))))))))))
        (pss_one (ps_ret (pe_call c_law_of.G (hr.mono (by decide)) (by rfl) c_law_of.g c_law_of.kp c_law_of.b .nil pass0 (pa_cons (pv 0) (pa_cons (pv 3) pa_nil)))))) pss_nil)
      pss_never)), ?_⟩
    obtain ⟨p, u, c, b, x, rfl, hP, hc, up, hS, b2, b100, hh, q⟩ := h
    have big : 1000 ≤ sizeLine := by decide
    have So : SqT K (off p H) u [.int b, .str x] := sqT_off up hS
    have back : ∀ {G : Hp}, But p H G → SqT K G u [.int b, .str x] := fun hB => sqT_same off_sub (sqT_same hB.off So)
    have ob : OkD (.int b) 1 20 := (okd_b (by omega) b100).mono (by decide) (Nat.le_refl _)
    have ox : OkD (.str x) 1 20 := (okd_h0 x (howL_of hh)).mono (by decide) (Nat.le_refl _)
    have two : ∀ {G : Hp} {a : Addr} {y z : V} {d e : PyData} {c' : Nat}, But p H G → Pot G p c' → c' ≤ c + 3 → G a = some (.tup [y, z]) → a ≠ p → Dx K (off p G) y d → Dx K (off p G) z e → OkD d 1 20 → OkD e 1 20 → Q (.ref a) G := by
      intro G a y z d e c' hB hP' hc' ha na hy hz od oe
      refine q G _ (.tuple [d, e]) c' ((okd_tup (k := 1) (m := 20) (ds := [d, e]) fun f m => ?_).mono (Nat.le_refl _) (by show 21 * 2 ≤ 63; decide)) hB hP' hc' (.tup (SqT.of (by rw [off_ne na]; exact ha)) (.cons hy (.cons hz .nil)))
      simp only [List.mem_cons, List.not_mem_nil, or_false] at m
      rcases m with rfl | rfl
      · exact od
      · exact oe
    refine ⟨_, rfl, _, .ty "tuple", _, _, true, rfl, .ty "tuple", sqT_ty hS, kit_ty (by decide +kernel), true, rfl, iteT ?_⟩
    refine ⟨.ref u, rfl, by show 0 ≤ sizeLine; omega, fun E1 nE => ?_⟩
    have hBe : But p H (upd H E1 (.tup [])) := (But.refl _ _).new nE
    have hPe := hP.new nE (o := .tup [])
    have sx : (PyData.str x).canLay0 = true := by rcases hh with rfl | rfl | rfl | rfl <;> decide +kernel
    have shx : SeqAt.shaped (.tuple [.int b, .str x]) = true := by
      unfold SeqAt.shaped
      rw [PyData.canLay0, PyData.canLayAll0, PyData.canLayAll0, PyData.canLayAll0, sx]
      rfl
    refine ⟨.tuple [.int b, .str x], .tuple [], .tup (back hBe) (.cons (.int _) (.cons (.str _) .nil)), .tup (SqT.of upd_same) .nil, shx, rfl, ?_⟩
    rw [show (!PyData.eqv (.tuple [.int b, .str x]) (.tuple [])) = true from rfl]
    refine ⟨true, rfl, iteT ?_⟩
    generalize L2.upd H E1 _ = G1 at hBe hPe ⊢
    refine ⟨.ref p, rfl, p, c, 6, rfl, hPe, by omega, by decide, by decide, fun G2 d hB2 hP2 d0 d6 => ?_⟩
    have hB02 := hBe.trans hB2
    refine ⟨d, 0, rfl, rfl, ?_⟩
    by_cases z : 0 < d
    · refine ⟨_, rfl, iteDY z ?_⟩
      refine seq_set ⟨.ref p, rfl, .ref u, rfl, u, _, rfl, .inr (back hB02), p, c + 1, 2, rfl, hP2, by omega, by decide, by decide, fun G3 i hB3 hP3 i0 i2 => ?_⟩
      have hB03 := hB02.trans hB3
      obtain rfl | rfl : i = 0 ∨ i = 1 := by omega
      · refine ret_in ⟨.ref u, rfl, .int 0, rfl, 0, rfl, u, _, rfl, back hB03, fun e => absurd e.2 (by show ¬ HT.sIx 2 2 (some 0) = 2; decide), fun _ L nL => ?_⟩
        have hB4 : But p H _ := hB03.new nL (o := .tup (cutV [V.int b, .str x] none (some 0)))
        have hP4 := hP3.new nL (o := .tup (cutV [V.int b, .str x] none (some 0)))
        have hL : (upd G3 L (.tup (cutV [V.int b, .str x] none (some 0)))) L = some (.tup []) := upd_same
        generalize L2.upd G3 L _ = G4 at hB4 hP4 hL ⊢
        refine ⟨.ref p, rfl, .ref u, rfl, .int 0, rfl, u, _, 0, .int b, rfl, rfl, back hB4, atI_nat (j := 0) rfl, p, c + 2, .int b, rfl, hP4, by omega, .inl ⟨b, rfl, b2, b100⟩, fun G5 v' d' od hB5 hP5 hd => ?_⟩
        have hB05 := hB4.trans hB5
        have Lp : L ≠ p := hP3.ne nL
        have hL5 := hB5 L _ Lp hL
        refine ⟨by show 1 ≤ sizeLine; omega, fun T nT => ?_⟩
        have hB6 := hB05.new nT (o := .tup [v'])
        have hP6 := hP5.new nT (o := .tup [v'])
        have hT : (upd G5 T (.tup [v'])) T = some (.tup [v']) := upd_same
        have hL6 : (upd G5 T (.tup [v'])) L = some (.tup []) := by rw [upd_ne (ne_of_none hL5 nT)]; exact hL5
        have hd6 := hd.same (((But.refl _ _).new nT (o := .tup [v'])).off (p := p))
        generalize L2.upd G5 T _ = G6 at hB6 hP6 hT hL6 hd6 ⊢
        refine ⟨L, T, [], [v'], rfl, rfl, SqT.of hL6, SqT.of hT, by show 0 + 1 ≤ sizeLine; omega, fun _ => ?_, fun y => absurd rfl y, fun y => absurd rfl y⟩
        refine ⟨.ref u, rfl, .int 0, rfl, 0, 1, rfl, rfl, 0 + 1, rfl, u, _, rfl, back hB6, fun e => absurd e.1 (by show ¬ HT.sIx 2 0 (some (0 + 1)) = 0; decide), fun _ R nR => ?_⟩
        have hB7 := hB6.new nR (o := .tup (cutV [V.int b, .str x] (some (0 + 1)) none))
        have hP7 := hP6.new nR (o := .tup (cutV [V.int b, .str x] (some (0 + 1)) none))
        have hR : (upd G6 R (.tup (cutV [V.int b, .str x] (some (0 + 1)) none))) R = some (.tup [.str x]) := upd_same
        have hT7 : (upd G6 R (.tup (cutV [V.int b, .str x] (some (0 + 1)) none))) T = some (.tup [v']) := by rw [upd_ne (ne_of_none hT nR)]; exact hT
        have hd7 := hd6.same (((But.refl _ _).new nR (o := .tup (cutV [V.int b, .str x] (some (0 + 1)) none))).off (p := p))
        generalize L2.upd G6 R _ = G7 at hB7 hP7 hR hT7 hd7 ⊢
        refine ⟨T, R, [v'], [.str x], rfl, rfl, SqT.of hT7, SqT.of hR, by show 1 + 1 ≤ sizeLine; omega, (fun y => nomatch y), (fun _ y => nomatch y), fun _ _ Z nZ => ?_⟩
        exact two (hB7.new nZ) (hP7.new nZ) (by omega) upd_same (hP7.ne nZ) (hd7.same (((But.refl _ _).new nZ).off (p := p))) (.str x) od ox
      · refine ret_in ⟨.ref u, rfl, .int 1, rfl, 1, rfl, u, _, rfl, back hB03, fun e => absurd e.2 (by show ¬ HT.sIx 2 2 (some 1) = 2; decide), fun _ L nL => ?_⟩
        have hB4 : But p H _ := hB03.new nL (o := .tup (cutV [V.int b, .str x] none (some 1)))
        have hP4 := hP3.new nL (o := .tup (cutV [V.int b, .str x] none (some 1)))
        have hL : (upd G3 L (.tup (cutV [V.int b, .str x] none (some 1)))) L = some (.tup [.int b]) := upd_same
        generalize L2.upd G3 L _ = G4 at hB4 hP4 hL ⊢
        refine ⟨.ref p, rfl, .ref u, rfl, .int 1, rfl, u, _, 1, .str x, rfl, rfl, back hB4, atI_nat (j := 1) rfl, p, c + 2, .str x, rfl, hP4, by omega, .inr ⟨x, rfl, hh⟩, fun G5 v' d' od hB5 hP5 hd => ?_⟩
        have hB05 := hB4.trans hB5
        have Lp : L ≠ p := hP3.ne nL
        have hL5 := hB5 L _ Lp hL
        refine ⟨by show 1 ≤ sizeLine; omega, fun T nT => ?_⟩
        have hB6 := hB05.new nT (o := .tup [v'])
        have hP6 := hP5.new nT (o := .tup [v'])
        have hT : (upd G5 T (.tup [v'])) T = some (.tup [v']) := upd_same
        have hL6 : (upd G5 T (.tup [v'])) L = some (.tup [.int b]) := by rw [upd_ne (ne_of_none hL5 nT)]; exact hL5
        have hd6 := hd.same (((But.refl _ _).new nT (o := .tup [v'])).off (p := p))
        generalize L2.upd G5 T _ = G6 at hB6 hP6 hT hL6 hd6 ⊢
        refine ⟨L, T, [.int b], [v'], rfl, rfl, SqT.of hL6, SqT.of hT, by show 1 + 1 ≤ sizeLine; omega, (fun y => nomatch y), (fun _ y => nomatch y), fun _ _ Z nZ => ?_⟩
        have hB7 := hB6.new nZ (o := .tup ([.int b] ++ [v']))
        have hP7 := hP6.new nZ (o := .tup ([.int b] ++ [v']))
        have hZ : (upd G6 Z (.tup ([.int b] ++ [v']))) Z = some (.tup [.int b, v']) := upd_same
        have hd7 := hd6.same (((But.refl _ _).new nZ (o := .tup ([.int b] ++ [v']))).off (p := p))
        have Zp : Z ≠ p := hP6.ne nZ
        generalize L2.upd G6 Z _ = G7 at hB7 hP7 hZ hd7 ⊢
        refine ⟨.ref u, rfl, .int 1, rfl, 1, 1, rfl, rfl, 1 + 1, rfl, u, _, rfl, back hB7, fun e => absurd e.1 (by show ¬ HT.sIx 2 0 (some (1 + 1)) = 0; decide), fun _ R nR => ?_⟩
        have hB8 := hB7.new nR (o := .tup (cutV [V.int b, .str x] (some (1 + 1)) none))
        have hP8 := hP7.new nR (o := .tup (cutV [V.int b, .str x] (some (1 + 1)) none))
        have hR : (upd G7 R (.tup (cutV [V.int b, .str x] (some (1 + 1)) none))) R = some (.tup []) := upd_same
        have hZ8 : (upd G7 R (.tup (cutV [V.int b, .str x] (some (1 + 1)) none))) Z = some (.tup [.int b, v']) := by rw [upd_ne (ne_of_none hZ nR)]; exact hZ
        have hd8 := hd7.same (((But.refl _ _).new nR (o := .tup (cutV [V.int b, .str x] (some (1 + 1)) none))).off (p := p))
        generalize L2.upd G7 R _ = G8 at hB8 hP8 hR hZ8 hd8 ⊢
        refine ⟨Z, R, [.int b, v'], [], rfl, rfl, SqT.of hZ8, SqT.of hR, by show 2 + 0 ≤ sizeLine; omega, (fun y => nomatch y), fun _ _ => ?_, fun _ y => absurd rfl y⟩
        exact two hB8 hP8 (by omega) hZ8 Zp (.int b) hd8 ob od
    · refine ⟨_, rfl, iteDN z (next_in ?_)⟩
      refine ⟨_, rfl, _, .ty "tuple", _, _, true, rfl, .ty "tuple", sqT_ty (back hB02), kit_ty (by decide +kernel), true, rfl, iteT ?_⟩
      have hS2 := sqT_off up (back hB02)
      have at_ : ∀ {G : Hp}, But p G2 G → SqT K G u [.int b, .str x] := fun hB => sqT_same off_sub (sqT_same hB.off hS2)
      refine seq_set (lst_in (dispA_use (K := K) (c1 := c + 1) (S := (· = outT b x)) ?_ hP2 fun xs H1 ds e hBa hPa hx => ⟨by rw [hx.length, e]; show 8 ≤ sizeLine; omega, fun l1 n1 => ?_⟩))
      · refine disp_cons (c1 := c + 1) (fun Ha Q hB hP q => ⟨.ref u, rfl, u, _, rfl, at_ hB, fun l nl ns => ?_⟩) (disp_cons (c1 := c + 1) (fun Ha Q hB hP q => ⟨.ref u, rfl, 1, rfl, u, _, rfl, at_ hB, fun e => absurd e.1 (by show ¬ HT.sIx 2 0 (some 1) = 0; decide), fun _ l nl => ?_⟩) (disp_cons (c1 := c + 1) (fun Ha Q hB hP q => ⟨.ref u, rfl, 1, rfl, -1, rfl, u, _, rfl, at_ hB, fun e => absurd e.2 (by show ¬ HT.sIx 2 2 (some (-1)) = 2; decide), fun _ l nl => ?_⟩) (disp_cons (c1 := c + 1) (fun Ha Q hB hP q => ⟨.ref u, rfl, .ref u, rfl, 1, rfl, -1, rfl, u, _, rfl, at_ hB, fun e => absurd e.1 (by show ¬ HT.sIx 2 0 (some (-1)) = 0; decide), fun _ l nl => ?_⟩) (disp_cons (c1 := c + 1) (fun Ha Q hB hP q => ⟨.ref u, rfl, 1, rfl, -1, rfl, u, _, rfl, at_ hB, rfl, fun l nl => ?_⟩) (disp_cons (c1 := c + 1) (disp_tup disp_nil) (disp_cons (c1 := c + 1) (fun Ha Q hB hP q => ⟨.ref u, rfl, by show 1 ≤ sizeLine; omega, fun l nl => ?_⟩) (disp_cons (disp_c fun _ => .non) disp_nil)))))))
        · exact q _ _ _ rfl ((But.refl _ _).new nl) (hP.new nl) (.lst (by rw [off_ne (hP.ne nl)]; exact upd_same) ns (.cons (.int b) (.cons (.str x) .nil)))
        · exact q _ _ _ rfl ((But.refl _ _).new nl) (hP.new nl) (.tup (SqT.of (by rw [off_ne (hP.ne nl)]; exact upd_same)) (.cons (.str x) .nil))
        · exact q _ _ _ rfl ((But.refl _ _).new nl) (hP.new nl) (.tup (SqT.of (by rw [off_ne (hP.ne nl)]; exact upd_same)) (.cons (.int b) .nil))
        · have hB2' := hB.new nl (o := .tup (cutV [V.int b, .str x] (some (-1)) none))
          refine ⟨u, l, _, [.str x], rfl, rfl, at_ hB2', SqT.of upd_same, by show 2 + 1 ≤ sizeLine; omega, (fun y => nomatch y), (fun _ y => nomatch y), fun _ _ r nr => ?_⟩
          have hP2' := hP.new nl (o := .tup (cutV [V.int b, .str x] (some (-1)) none))
          exact q _ _ _ rfl (((But.refl _ _).new nl).new nr) (hP2'.new nr) (.tup (SqT.of (by rw [off_ne (hP2'.ne nr)]; exact upd_same)) (.cons (.int b) (.cons (.str x) (.cons (.str x) .nil))))
        · exact q _ _ _ rfl ((But.refl _ _).new nl) (hP.new nl) (.tup (SqT.of (by rw [off_ne (hP.ne nl)]; exact upd_same)) (.cons (.str x) (.cons (.int b) .nil)))
        · have hB2' := hB.new nl (o := .tup [.int 0])
          refine ⟨u, l, _, [.int 0], rfl, rfl, at_ hB2', SqT.of upd_same, by show 2 + 1 ≤ sizeLine; omega, (fun y => nomatch y), (fun _ y => nomatch y), fun _ _ r nr => ?_⟩
          have hP2' := hP.new nl (o := .tup [.int 0])
          exact q _ _ _ rfl (((But.refl _ _).new nl).new nr) (hP2'.new nr) (.tup (SqT.of (by rw [off_ne (hP2'.ne nr)]; exact upd_same)) (.cons (.int b) (.cons (.str x) (.cons (.int 0) .nil))))
      · cases e
        have hB1 := hBa.new n1 (o := .lst xs)
        have hP1' := hPa.new n1 (o := .lst xs)
        refine ret_in ⟨.ref p, rfl, .ref l1, rfl, p, l1, c + 1, xs, rfl, hP1', by omega, hPa.ne n1, SqL.of upd_same, by rw [hx.length]; exact (by decide : 0 < 8), by rw [hx.length]; exact (by decide : 8 ≤ 100000), fun H2 i v hB2 hP2 ev => ?_⟩
        obtain ⟨d, md, hd⟩ := hx.at ev
        exact q H2 v d (c + 2) ((outT_ok (by omega) b100 (howL_of hh) d md).mono (by decide) (Nat.le_refl _)) (hB02.trans (hB1.trans hB2)) hP2 (by omega) (hd.same (((But.refl _ _).new n1).trans hB2).off)
end
end Uq

namespace Uq
open PySem PySem.Spec PyProof.Rows L2 LamX TL

/-! ### what stays where tables of code are written -/
theorem sqT_ext {K : PySem.W.Frag} {H H' : Hp} {t : Addr} {xs : List V} (e : ExtN H H') (h : SqT K H t xs) : SqT K H' t xs := by
  rcases h with (h | ⟨ob, h⟩) | h
  · exact .inl (.inl (e _ _ h (fun _ z => by cases z)))
  · exact .inl (.inr ⟨ob, e _ _ h (fun _ z => by cases z)⟩)
  · exact .inr h
theorem extN_same {H H' : Hp} (s : Same H H') : ExtN H H' := fun b o h _ => s b o h
theorem tabs_same {T : List (Addr × Str)} {H H' : Hp} (t : Tabs T H) (s : Same H H') : Tabs T H' := Tabs.ext t s

/-- all but the pot and the tables stay -/
def ButN (p : Addr) (H H' : Hp) : Prop := ∀ b o, b ≠ p → H b = some o → (∀ ps, o ≠ .tbl ps) → H' b = some o
theorem ButN.trans {p : Addr} {H H1 H2 : Hp} (a : ButN p H H1) (b : ButN p H1 H2) : ButN p H H2 := fun c o n h k => b c o n (a c o n h k) k
theorem ButN.of {p : Addr} {H H' : Hp} (a : But p H H') : ButN p H H' := fun c o n h _ => a c o n h
theorem ButN.ext {p : Addr} {H H' : Hp} (a : ExtN H H') : ButN p H H' := fun c o _ h k => a c o h k
theorem tabs_but {T : List (Addr × Str)} {p : Addr} {c : Nat} {H H' : Hp} (t : Tabs T H) (hp : Pot H p c) (s : But p H H') : Tabs T H' := by
  obtain ⟨o, sd, n, h0, _⟩ := hp
  intro k mk
  obtain ⟨ps, h1, h2, h3⟩ := t k mk
  refine ⟨ps, s _ _ (fun e => by rw [e, h0] at h1; cases h1) h1, h2, fun pos cv hc => ?_⟩
  obtain ⟨c, e1, e2⟩ := h3 pos cv hc
  exact ⟨c, e1, s _ _ (fun e => by rw [e, h0] at e2; cases e2) e2⟩
theorem Pot.extN {p : Addr} {c : Nat} {H H' : Hp} (hp : Pot H p c) (e : ExtN H H') : Pot H' p c := by
  obtain ⟨o, sd, n, h0, r⟩ := hp
  have z := e _ _ h0 (fun _ z => by cases z)
  exact ⟨o, sd, n, z, r⟩
theorem sqL_ext {K : PySem.W.Frag} {H H' : Hp} {t : Addr} {xs : List V} (e : ExtN H H') (h : SqL K H t xs) : SqL K H' t xs := by
  rcases h with (h | ⟨ob, h⟩) | h
  · exact .inl (.inl (e _ _ h (fun _ z => by cases z)))
  · exact .inl (.inr ⟨ob, e _ _ h (fun _ z => by cases z)⟩)
  · exact .inr h
mutual
theorem Dx.ext {K : PySem.W.Frag} {H H' : Hp} (e : ExtN H H') : ∀ {d : PyData} {v : V}, Dx K H v d → Dx K H' v d
  | _, _, .non => .non
  | _, _, .bl b => .bl b
  | _, _, .int i => .int i
  | _, _, .str x => .str x
  | _, _, .lst h ns ha => .lst (e _ _ h (fun _ z => by cases z)) ns (DxAll.ext e ha)
  | _, _, .tup h ha => .tup (sqT_ext e h) (DxAll.ext e ha)
  | _, _, .dct h he ha => .dct (e _ _ h (fun _ z => by cases z)) he (DxAll.ext e ha)
theorem DxAll.ext {K : PySem.W.Frag} {H H' : Hp} (e : ExtN H H') : ∀ {ds : List PyData} {vs : List V}, DxAll K H vs ds → DxAll K H' vs ds
  | _, _, .nil => .nil
  | _, _, .cons h1 h2 => .cons (Dx.ext e h1) (DxAll.ext e h2)
end
theorem AnyD.ext {K : PySem.W.Frag} {H H' : Hp} {v : V} (e : ExtN H H') (h : AnyD K H v) : AnyD K H' v := by
  obtain ⟨d, a, b⟩ := h
  exact ⟨d, Dx.ext e a, b⟩
theorem ButN.off {p : Addr} {H H' : Hp} (a : ButN p H H') : ExtN (off p H) (off p H') := fun b o e n => by
  have ne : b ≠ p := fun z => by
    rw [z, off_same] at e
    cases e
  rw [off_ne ne] at e ⊢
  exact a b o ne e n
theorem but_off {p : Addr} {H : Hp} : But p H (off p H) := fun b o n e => by
  rw [off_ne n]
  exact e
theorem tabs_off {T : List (Addr × Str)} {p : Addr} {c : Nat} {H : Hp} (t : Tabs T H) (hp : Pot H p c) : Tabs T (off p H) := tabs_but t hp but_off
section
variable {P : Program} {w : World} {K : PySem.W.Frag} {mg : Str → Option Value} {base : Heap}
theorem funC_okG {x qual : Str} {st : Stmt} {f : Addr} {fd : FuncData} {N ps : List Str} {k : Nat} {sp : Sp} (F : Fun K x qual st f fd) (S : FnScope N ps (defScope st))
    (len : ∀ vs H Q E, sp vs H Q E → vs.length = ps.length)
    (hbody : ∀ (cdv : Value) (A : Around) (outer : List Env) (s : Shared) (H : Hp) (vs : List V) (Q : VK) (E : XK), fd.code = cdv → A.guards = some [] →
      Room k (A.deeper (envOfC qual (defScope st) s.heap.objs.size f cdv)) → sp vs H Q E →
      ∃ t, PSs (cxOf CX0 P w K mg base N qual (defScope st) f cdv A outer s H E).nox (defBody st) t ∧ t { nx := fun _ H' => Q .non H', rt := Q } (start N vs) H) :
    FnG P w K mg base (k + 1) f fd ps sp := by
  obtain ⟨oc, od, kV, doc, pm, an, cdv, ct, osl, rfl, lk, hcd⟩ := F.ex
  constructor
  · exact len
  intro A outer s H args us vs Q E hg hr e0 hb r hsp
  have hkeep : ∀ b o, base.get? b = some o → s.heap.get? b = some o := fun b o e => (e0.bs b o e).1
  have KX : K.In s.heap := e0.mod.kin.keeps hkeep
  have hpar : ∀ y ∈ ps.zip us, (defScope st).names.lookup y.1 = some .local ∨ ((defScope st).names.lookup y.1 = some .cell ∧ ((cellsFrom (s.heap.objs.size + 1) (defScope st).names []).lookup y.1).isSome = true) := by
    intro y hy
    have hm : y.1 ∈ ps := (List.of_mem_zip (show (y.1, y.2) ∈ ps.zip us from hy)).1
    cases S.par y.1 hm with
    | inl q => exact Or.inl q
    | inr q => exact Or.inr ⟨q, PySem.W.cellsFrom_some _ _ _ (Or.inl q)⟩
  apply codeAny_call_function hr.depth (KX _ _ lk) rfl S.co S.gen rfl (PySem.W.codeRec_of KX hcd)
  apply hb
  apply wpAny_newFunctionEnv_cells S.kind hpar
  rintro env rfl s1 x
  refine ⟨(e0.mod.nolimit.keeps hkeep).keeps x.toInCall.keep, codeAny_func ?_⟩
  obtain ⟨t, ht, hq⟩ := hbody cdv A outer s H vs Q E rfl hg (hr.deeper _) hsp
  have J0 := inv_start (CX := CX0) (E := E) S hr.hd e0 (len _ _ _ _ hsp) r x
  have run := ht.nox.run [] s1 (start N vs) H _ J0 hq
  refine wpAny_mono run (fun fl s' hs => ?_) (fun _ _ hs => hs)
  cases fl with
  | ret u =>
    obtain ⟨v, σ', H', J, rv, q⟩ := hs
    exact ⟨v, H', J.os, J.bare, J.base, J.hok, rv, q⟩
  | next =>
    obtain ⟨σ', H', J, q⟩ := hs
    exact ⟨.non, H', J.os, J.bare, J.base, J.hok, rfl, q⟩
  | brk => exact hs.elim (fun _ h => h.elim fun _ h => h.2.elim)
  | cont => exact hs.elim (fun _ h => h.elim fun _ h => h.2.elim)
end
section
variable {X : Cx}
theorem pe_due {k : Nat} {CA BU BC BS gt gd c Pt : Addr} {fdT fdD : FuncData} {params : Arguments} {body : Expr} {scope : Scope} {t : XK → TE} {e2 e3 : Expr} {te2 te3 : TE} {p lpos pos : Pos} (FT : Fun X.K "_law_told" "_law_told" s_law_told gt fdT) (hm : X.mg "_law_told" = some (.ref gt)) (gA : X.mg "AskedError" = some (.ref CA)) (hb : Binds X.K fdT ["_law_look"] [])
    (FD : Fun X.K "_law_is_due" "_law_is_due" s_law_is_due gd fdD) (hmD : X.mg "_law_is_due" = some (.ref gd)) (hbD : Binds X.K fdD ["_law_look", "_law_word", "_law_value"] []) (hgD : Gl X "_law_is_due")
    (hg : X.A.guards = some []) (KI : Kinds X.K CA BU BC BS) (XBU : Xcl X.K BU) (XBC : Xcl X.K BC) (XBS : Xcl X.K BS) (gBU : X.mg "BadUnits" = some (.ref BU)) (gBC : X.mg "BadCount" = some (.ref BC)) (gBS : X.mg "BadShare" = some (.ref BS)) (m_isinstance : X.mg "isinstance" = none) (m_repr : X.mg "repr" = none)
    (TB : TabB X.base X.mg c Pt) (hcode : X.env.code = .ref c) (hr : Room (k + 3) X.A) (L : LamS X.env.scope scope) (hdef : defaultsOf params X.env = ([], []))
    (hbind : ∀ (q : Str) (cl : List (Str × Addr)) (pm cv ctv : Value), bindArgs (PySem.W.kla_fn "<lambda>" q params body scope cl pm cv ctv) ⟨[], []⟩ = pure [])
    (hbody : ∀ (A : Around) (outer : List Env) (s : Shared) (H : Hp) (E : XK) (f c' : Addr), Room k (A.deeper (lamEnv X scope s.heap.objs.size f c')) → PE (lamCx X A outer s H E scope f c') body (t E))
    (h2 : PE X e2 te2) (h3 : PE X e3 te3) (hst : X.stack = X.env :: X.outer) (hfr0 : X.env.frame = some X.env.locals) (he2 : starEach (e2 :: [e3]) X.env = (false, eval e2 X.env) :: starEach [e3] X.env := by rfl) (he3 : starEach (e3 :: []) X.env = (false, eval e3 X.env) :: starEach [] X.env := by rfl)
    (hs1 : starEach [.Lambda params body scope lpos, e2, e3] X.env = (false, eval (.Lambda params body scope lpos) X.env) :: starEach [e2, e3] X.env := by rfl) (hs2 : ((backTo pos (starEach [e2, e3] X.env)).any fun x => x.fst) = false := by rfl) :
    PE X (.Call (.Name "_law_is_due" p) [.Lambda params body scope lpos, e2, e3] [] pos) (tLam2 [(Pt, X.env.qual ++ "<lambda>")] (X.env.qual ++ "<lambda>") (TDk X.K BU BC BS) (tCons te2 (tCons te3 tNil)) 2 t) := by
  have hmT : (Pt, X.env.qual ++ "<lambda>") ∈ [(Pt, X.env.qual ++ "<lambda>")] := .head _
  have hu : ∀ p ∈ [(Pt, X.env.qual ++ "<lambda>")], p.1 = Pt → p.2 = X.env.qual ++ "<lambda>" := fun p hp _ => by rw [List.mem_singleton.mp hp]
  have kp := FT.kp
  have kpD := FD.kp
  obtain ⟨oc, od, kV, doc, pm, an, cdv, ct, osl, rfl, lk, hcd⟩ := FT.ex
  obtain ⟨ocy, ody, kVy, docy, pmy, any_, cdy, cty, osly, rfl, lky, hcy⟩ := FD.ex
  exact pe_lam2 (y := "_law_is_due") (x := "_law_told") (a := "_law_look") (an_ := "_law_look") (psy := ["_law_word", "_law_value"]) hgD hmD kpD lky hcy hbD sc_law_is_due rfl (.inl rfl) hm kp lk hcd hb sc_law_told rfl (.inl rfl) (fun s H => told_gives (X := cxY X N_law_is_due "_law_is_due" (defScope s_law_is_due) gd cdy s H) (g := gt) (cdg := cdv) (q := X.env.qual ++ "<lambda>") gA) (fun s H => by rfl) (due_gives (m := k + 2) hg KI XBU XBC XBS gBU gBC gBS m_isinstance m_repr) TB hcode hmT hu hr L hdef hbind hbody (pa_cons h2 (pa_cons h3 pa_nil he3) he2) hst hfr0 hs1 hs2
end
/-! ### displays of good data -/
instance (d : PyData) : Decidable (Shows d) := by
  unfold Shows
  infer_instance
def intB : PyData → Bool
  | .int i => decide (i ≤ 10 ^ 9)
  | _ => true
def GoodD (d : PyData) : Prop := Shows d ∧ intB d = true
instance (d : PyData) : Decidable (GoodD d) := by
  unfold GoodD
  infer_instance
theorem odds_good : ∀ d ∈ odds, GoodD d := by decide +kernel
def AllG (n : Nat) (ds : List PyData) : Prop := ds.length = n ∧ ∀ d ∈ ds, GoodD d
theorem okd_good {d : PyData} {k n : Nat} (h : OkD d k n) (hk : k ≤ 60) (hn : n ≤ 2 ^ 20) (b : intB d = true) : GoodD d := ⟨okd_shows h hk hn, b⟩
section
variable {K : PySem.W.Frag} {p : Addr} {c c1 c2 : Nat} {σ : L2.St} {H0 : Hp}
theorem disp_g {n : Nat} {te : TE} {ta : TA} {S : PyData → Prop} (h : Disp K p c c1 σ H0 te S) (k : ∀ d, S d → GoodD d) (g : DispA K p c1 c2 σ H0 ta (AllG n)) : DispA K p c c2 σ H0 (tCons te ta) (AllG (n + 1)) := disp_consS h g fun d ds hd hds => ⟨congrArg (· + 1) hds.1, fun e m => by
  rcases List.mem_cons.mp m with rfl | m
  · exact k _ hd
  · exact hds.2 _ m⟩
theorem disp_k {n : Nat} {te : TE} {ta : TA} {d : PyData} (h : Disp K p c c1 σ H0 te (· = d)) (g : DispA K p c1 c2 σ H0 ta (AllG n)) (k : GoodD d := by decide +kernel) : DispA K p c c2 σ H0 (tCons te ta) (AllG (n + 1)) := disp_g h (fun _ e => e ▸ k) g
theorem disp_0 : DispA K p c c σ H0 tNil (AllG 0) := fun H Q hB hP q => q [] H [] ⟨rfl, fun d m => nomatch m⟩ (But.refl _ _) hP .nil
theorem disp_odd {i : Nat} (e : σ[i]? = some (some (.ref p))) (hc : c < 90000) : Disp K p c (c + 1) σ H0 (tCall (sp_law_odd K) [] E0 (tCons (tVar i) tNil)) (· ∈ odds) :=
  fun H Q hB hP q => ⟨.ref p, e, p, c, rfl, hP, hc, fun H' v d md hB' hP' hd => q v H' d md hB' hP' hd⟩
end
def AllD (K : PySem.W.Frag) (p : Addr) (H : Hp) (xs : List V) : Prop := ∀ v ∈ xs, ∃ d, Dx K (off p H) v d ∧ GoodD d
/-- the same, ints of any size -/
def AllU (K : PySem.W.Frag) (p : Addr) (H : Hp) (xs : List V) : Prop := ∀ v ∈ xs, AnyD K (off p H) v
theorem AllD.u {K : PySem.W.Frag} {p : Addr} {H : Hp} {xs : List V} (a : AllD K p H xs) : AllU K p H xs := fun v m => by
  obtain ⟨d, h, g⟩ := a v m
  exact ⟨d, h, g.1⟩
theorem AllD.of {K : PySem.W.Frag} {p : Addr} {H : Hp} {xs : List V} {ds : List PyData} {n : Nat} (h : DxAll K (off p H) xs ds) (g : AllG n ds) : AllD K p H xs := fun v m => by
  obtain ⟨i, l, e⟩ := List.getElem_of_mem m
  obtain ⟨d, md, hd⟩ := h.at (i := i) (by rw [List.getElem?_eq_getElem l, e])
  exact ⟨d, hd, g.2 d md⟩
theorem AllD.but {K : PySem.W.Frag} {p : Addr} {H H' : Hp} {xs : List V} (a : AllD K p H xs) (s : But p H H') : AllD K p H' xs := fun v m => by
  obtain ⟨d, h, g⟩ := a v m
  exact ⟨d, h.same s.off, g⟩
theorem AllU.but {K : PySem.W.Frag} {p : Addr} {H H' : Hp} {xs : List V} (a : AllU K p H xs) (s : But p H H') : AllU K p H' xs := fun v m => (a v m).same s.off
theorem AllU.app {K : PySem.W.Frag} {p : Addr} {H : Hp} {xs ys : List V} (a : AllU K p H xs) (b : AllU K p H ys) : AllU K p H (xs ++ ys) := fun v m => by
  rcases List.mem_append.mp m with m | m
  · exact a v m
  · exact b v m
theorem AllD.app {K : PySem.W.Frag} {p : Addr} {H : Hp} {xs ys : List V} (a : AllD K p H xs) (b : AllD K p H ys) : AllD K p H (xs ++ ys) := fun v m => by
  rcases List.mem_append.mp m with m | m
  · exact a v m
  · exact b v m
/-! ### one lap -/
abbrev lamQ : Str := "_law_right.<locals>.<lambda>"
def sp_law_rightX (K : PySem.W.Frag) (Pt : Addr) : Sp := fun vs H Q _ => ∃ (p : Addr), vs = [.ref p] ∧ Pot H p 0 ∧ Tabs [(Pt, lamQ)] H ∧ ∀ H', ButN p H H' → Tabs [(Pt, lamQ)] H' → Q (.bl true) H'
theorem td_shown {K : PySem.W.Frag} {BU BC BS : Addr} {H : Hp} {tl : XK → Hp → VK → Prop} {v m n : V} {dv dm dn : PyData} {s : Str} {z : V} {Q : VK} (due : DueS dv v m n s z) (hv : Dx K H v dv) (hm : Dx K H m dm) (hn : Dx K H n dn) (sv : Shows dv) (sm : Shows dm) (sn : Shows dn) (bn : ∀ i, n = .int i → i ≤ 10 ^ 9)
    (body : ∀ H0, Same H H0 → ∀ (E : XK) (Q' : VK), sp_shownX K BU BC [v, m, n] H0 Q' E → tl E H0 Q') (q : ∀ H', Same H H' → Q (.bl true) H') : TDk K BU BC BS tl [.str s, z] H Q := by
  refine ⟨s, z, rfl, ?_, q⟩
  rcases due with ⟨rfl, rfl, h1⟩ | ⟨rfl, rfl, h1, h2⟩ | ⟨rfl, rfl, h1, h2, h3⟩ | ⟨rfl, rfl, h1, h2, h3⟩
  · exact .inl ⟨BU, .inl ⟨rfl, rfl⟩, ⟨dv, hv, sv⟩, fun H0 s0 E Q' hR => body H0 s0 E Q' ⟨_, m, n, dv, dm, dn, rfl, hv.same s0, hm.same s0, hn.same s0, .inl ⟨h1, hR⟩⟩⟩
  · exact .inl ⟨BC, .inr (.inl ⟨rfl, rfl⟩), ⟨dn, hn, sn⟩, fun H0 s0 E Q' hR => body H0 s0 E Q' ⟨v, m, _, dv, dm, dn, rfl, hv.same s0, hm.same s0, hn.same s0, .inr (.inl ⟨h1, h2, hR⟩)⟩⟩
  · exact .inl ⟨BC, .inr (.inl ⟨rfl, rfl⟩), ⟨dm, hm, sm⟩, fun H0 s0 E Q' hR => body H0 s0 E Q' ⟨v, _, n, dv, dm, dn, rfl, hv.same s0, hm.same s0, hn.same s0, .inr (.inr (.inl ⟨h1, h2, h3, hR⟩))⟩⟩
  · exact .inr ⟨rfl, fun H0 s0 E Q' hQ => body H0 s0 E Q' ⟨v, m, n, dv, dm, dn, rfl, hv.same s0, hm.same s0, hn.same s0, .inr (.inr (.inr ⟨h1, h2, h3, fun i e => Int.lt_of_le_of_lt (bn i e) (by decide), hQ⟩))⟩⟩
theorem td_stretch {K : PySem.W.Frag} {BU BC BS : Addr} {H : Hp} {tl : XK → Hp → VK → Prop} {v w : V} {dv dw : PyData} {s : Str} {z : V} {Q : VK} (due : DueT dv v w s z) (hv : Dx K H v dv) (hw : Dx K H w dw) (sv : Shows dv) (sw : Shows dw)
    (body : ∀ H0, Same H H0 → ∀ (E : XK) (Q' : VK), sp_stretchX K BU BS [v, w] H0 Q' E → tl E H0 Q') (q : ∀ H', Same H H' → Q (.bl true) H') : TDk K BU BC BS tl [.str s, z] H Q := by
  refine ⟨s, z, rfl, ?_, q⟩
  rcases due with ⟨rfl, rfl, h1⟩ | ⟨h1, hd⟩
  · exact .inl ⟨BU, .inl ⟨rfl, rfl⟩, ⟨dv, hv, sv⟩, fun H0 s0 E Q' hR => body H0 s0 E Q' ⟨_, w, dv, dw, rfl, hv.same s0, hw.same s0, .inl ⟨h1, hR⟩⟩⟩
  · obtain ⟨u, b, hh, rfl, hun, rfl⟩ := units_un hv h1
    have un : ∀ H0, Same H H0 → Un K H0 u b hh := fun H0 s0 => ⟨sqT_same s0 hun.1, hun.2⟩
    rcases hd u b hh rfl rfl with ⟨rfl, rfl, h2⟩ | ⟨rfl, rfl, h2⟩
    · exact .inl ⟨BS, .inr (.inr ⟨rfl, rfl⟩), ⟨dw, hw, sw⟩, fun H0 s0 E Q' hR => body H0 s0 E Q' ⟨_, _, _, dw, rfl, hv.same s0, hw.same s0, .inr ⟨u, b, hh, rfl, un H0 s0, h1, .inl ⟨h2, hR⟩⟩⟩⟩
    · exact .inr ⟨rfl, fun H0 s0 E Q' hQ => body H0 s0 E Q' ⟨_, _, _, dw, rfl, hv.same s0, hw.same s0, .inr ⟨u, b, hh, rfl, un H0 s0, h1, .inr ⟨h2, hQ⟩⟩⟩⟩
end Uq

namespace Uq
open PySem PySem.Spec PyProof.Rows L2 LamX TL

theorem of_disp {K : PySem.W.Frag} {p : Addr} {c c1 n : Nat} {σ : L2.St} {H : Hp} {ta : TA} {Q : VK} {E : XK} (d : DispA K p c c1 σ H ta (AllG n)) (hP : Pot H p c) (hc : c1 < 99999) (n0 : 0 < n) (n1 : n ≤ 100) (e : σ[0]? = some (some (.ref p))) (q : ∀ G v d, But p H G → Pot G p (c1 + 1) → Dx K (off p G) v d → GoodD d → Q v G) : tCall (sp_law_of K) [] E (tCons (tVar 0) (tCons (tLst ta) tNil)) σ H Q := by
  have big : 1000 ≤ sizeLine := by decide
  refine call_in ⟨.ref p, e, lst_in (dispA_use d hP fun xs H1 ds es hB hP1 hx => ⟨by rw [hx.length, es.1]; omega, fun l nl => ?_⟩)⟩
  have a := ((AllD.of hx es).but ((But.refl p H1).new nl (o := .lst xs)))
  refine ⟨p, l, c1, xs, rfl, hP1.new nl, by omega, hP1.ne nl, SqL.of upd_same, by rw [hx.length, es.1]; exact n0, by rw [hx.length, es.1]; omega, fun H2 i v hB2 hP2 ev => ?_⟩
  obtain ⟨d, hd, g⟩ := (a.but hB2) v (List.mem_of_getElem? ev)
  exact q H2 v d ((hB.new nl).trans hB2) hP2 hd g
section
variable {P : Program} {w : World} {K : PySem.W.Frag} {mg : Str → Option Value} {base : Heap} {CA BU BC BS : Addr}
theorem ok_law_right (KI : Kinds K CA BU BC BS) (XBU : Xcl K BU) (XBC : Xcl K BC) (XBS : Xcl K BS) (gBU : mg "BadUnits" = some (.ref BU)) (gBC : mg "BadCount" = some (.ref BC)) (gBS : mg "BadShare" = some (.ref BS)) (gA : mg "AskedError" = some (.ref CA))
    {fS : Addr} {dfS : FuncData} (FS : FnOk P w K mg base (L2.CX P w) 3 fS dfS ["units", "many", "whole"] (sp_shownX K BU BC)) (kS : PySem.W.keepIn K (.ref fS) = true) (bS : Binds K dfS ["units", "many", "whole"] []) (gS : mg "shown" = some (.ref fS))
    {fZ : Addr} {dfZ : FuncData} (FZ : FnOk P w K mg base (L2.CX P w) 3 fZ dfZ ["units", "share"] (sp_stretchX K BU BS)) (kZ : PySem.W.keepIn K (.ref fZ) = true) (bZ : Binds K dfZ ["units", "share"] []) (gZ : mg "stretch" = some (.ref fZ))
    {gt ct Pt : Addr} {fdT : FuncData} (FLT : Fun K "_law_told" "_law_told" s_law_told gt fdT) (bLT : Binds K fdT ["_law_look"] []) (gTold : mg "_law_told" = some (.ref gt))
    {gd : Addr} {fdD : FuncData} (FLD : Fun K "_law_is_due" "_law_is_due" s_law_is_due gd fdD) (bLD : Binds K fdD ["_law_look", "_law_word", "_law_value"] []) (gDue : mg "_law_is_due" = some (.ref gd))
    (TB : TabB base mg ct Pt) {f : Addr} {fd : FuncData} (F : Fun K "_law_right" "_law_right" s_law_right f fd) (hcd : fd.code = .ref ct) (m_isinstance : mg "isinstance" = none) (m_range : mg "range" = none) (m_repr : mg "repr" = none) (c_law_units : Cal P w K mg base 3 "_law_units" ["_law_pot_here", "_law_most"] (sp_law_units K)) (c_law_odd : Cal P w K mg base 3 "_law_odd" ["_law_pot_here"] (sp_law_odd K)) (c_law_bentB : Cal P w K mg base 5 "_law_bent" ["_law_pot_here", "_law_value"] (sp_law_bentB K)) (c_law_of : Cal P w K mg base 2 "_law_of" ["_law_pot_here", "_law_some"] (sp_law_of K)) (c_law_shown_due : Cal P w K mg base 3 "_law_shown_due" ["_law_units_here", "_law_many", "_law_whole"] (sp_law_shown_due K)) (c_law_stretch_due : Cal P w K mg base 3 "_law_stretch_due" ["_law_units_here", "_law_share"] (sp_law_stretch_due K)) : FnG P w K mg base 9 f fd ["_law_pot_here"] (sp_law_rightX K Pt) := by
  refine funC_okG F sc_law_right (fun vs H Q E h => ?_) (fun cdv A outer s H vs Q E hcv hg hr h => ?_)
  · obtain ⟨p, rfl, _⟩ := h
    rfl
  · refine ⟨_, (pss_cons (ps_for PassesOwn.never rfl (pi_range1 (by rfl) m_range (pa_cons pe_int pa_nil)) (pg_name (i := 1) sc_law_right.nd rfl (.inl rfl))
        (pss_cons (ps_set (i := 2) sc_law_right.nd rfl (.inl rfl) (pe_call c_law_units.G (hr.mono (by decide)) (by rfl) c_law_units.g c_law_units.kp c_law_units.b .nil pass0 (pa_cons (pv 0) (pa_cons pe_int pa_nil))))
        (pss_cons (ps_set (i := 3) sc_law_right.nd rfl (.inl rfl) (pe_lst (pa_cons (pe_tup (pa_cons pe_int (pa_cons pe_str pa_nil))) (pa_cons (pe_tup (pa_cons pe_int (pa_cons pe_str pa_nil))) (pa_cons (pe_tup (pa_cons pe_int (pa_cons pe_str pa_nil))) (pa_cons (pe_tup (pa_cons pe_bl (pa_cons pe_str pa_nil))) (pa_cons (pe_tup (pa_cons pe_int (pa_cons pe_str pa_nil))) (pa_cons (pe_tup (pa_cons pe_int pa_nil)) (pa_cons (pe_lstN (pa_cons pe_int (pa_cons pe_str pa_nil))) pa_nil)))))))))
        (pss_cons (ps_set (i := 3) sc_law_right.nd rfl (.inl rfl) (pe_op op_cat (pv 3) (pe_lst (pa_cons (pe_tup (pa_cons pe_int (pa_cons (pe_lstN (pa_cons pe_str pa_nil)) pa_nil))) (pa_cons (pe_tup (pa_cons pe_str (pa_cons pe_int pa_nil))) (pa_cons (pe_tup (pa_cons pe_int (pa_cons pe_non pa_nil))) (pa_cons (pe_tup (pa_cons pe_int (pa_cons pe_str (pa_cons pe_int pa_nil)))) (pa_cons (pe_tup (pa_cons pe_int (pa_cons pe_str pa_nil))) pa_nil))))))))
        (pss_cons (ps_set (i := 3) sc_law_right.nd rfl (.inl rfl) (pe_op op_cat (pv 3) (pe_lst (pa_cons (pe_call c_law_bentB.G (hr.mono (by decide)) (by rfl) c_law_bentB.g c_law_bentB.kp c_law_bentB.b .nil pass0 (pa_cons (pv 0) (pa_cons (pv 2) pa_nil))) (pa_cons (pe_call c_law_odd.G (hr.mono (by decide)) (by rfl) c_law_odd.g c_law_odd.kp c_law_odd.b .nil pass0 (pa_cons (pv 0) pa_nil)) pa_nil)))))
        (pss_cons (ps_set (i := 9) sc_law_right.nd rfl (.inr rfl) (pe_call c_law_of.G (hr.mono (by decide)) (by rfl) c_law_of.g c_law_of.kp c_law_of.b .nil pass0 (pa_cons (pv 0) (pa_cons (pe_op op_cat (pe_op op_cat (pe_op op_rep (pe_lst (pa_cons (pv 2) pa_nil)) pe_int) (pe_lst (pa_cons (pe_tup (pa_cons pe_int (pa_cons pe_str pa_nil))) (pa_cons (pe_tup (pa_cons pe_int (pa_cons pe_str pa_nil))) pa_nil)))) (pv 3)) pa_nil))))
        (pss_cons (ps_set (i := 10) sc_law_right.nd rfl (.inr rfl) (pe_call c_law_of.G (hr.mono (by decide)) (by rfl) c_law_of.g c_law_of.kp c_law_of.b .nil pass0 (pa_cons (pv 0) (pa_cons (pe_lst (pa_cons pe_int (pa_cons pe_int (pa_cons pe_int (pa_cons (pe_op op_powW pe_int pe_int) (pa_cons pe_int (pa_cons (pe_un un_neg pe_int) (pa_cons pe_bl (pa_cons pe_str (pa_cons pe_non (pa_cons (pe_tup (pa_cons pe_int pa_nil)) (pa_cons (pe_call c_law_odd.G (hr.mono (by decide)) (by rfl) c_law_odd.g c_law_odd.kp c_law_odd.b .nil pass0 (pa_cons (pv 0) pa_nil)) pa_nil)))))))))))) pa_nil))))
        (pss_cons (ps_set (i := 7) sc_law_right.nd rfl (.inr rfl) (pe_call c_law_of.G (hr.mono (by decide)) (by rfl) c_law_of.g c_law_of.kp c_law_of.b .nil pass0 (pa_cons (pv 0) (pa_cons (pe_lst (pa_cons pe_int (pa_cons pe_int (pa_cons pe_int (pa_cons pe_int (pa_cons pe_int (pa_cons pe_int (pa_cons (pe_un un_neg pe_int) (pa_cons pe_bl (pa_cons pe_str (pa_cons (pe_op op_powW pe_int pe_int) (pa_cons (pe_lstN (pa_cons pe_int pa_nil)) (pa_cons (pe_call c_law_odd.G (hr.mono (by decide)) (by rfl) c_law_odd.g c_law_odd.kp c_law_odd.b .nil pass0 (pa_cons (pv 0) pa_nil)) pa_nil))))))))))))) pa_nil))))
        (pss_cons (ps_set (i := 4) sc_law_right.nd rfl (.inl rfl) (pe_call c_law_shown_due.G (hr.mono (by decide)) (by rfl) c_law_shown_due.g c_law_shown_due.kp c_law_shown_due.b .nil pass0 (pa_cons (pv 9) (pa_cons (pv 7) (pa_cons (pv 10) pa_nil)))))
        (pss_cons (ps_if (pt_not (pt_val (pe_due (k := 5) FLT gTold gA bLT FLD gDue bLD (by rfl) hg KI XBU XBC XBS gBU gBC gBS m_isinstance m_repr TB (hcv.symm.trans hcd) (hr.mono (by decide)) (lamS_by (sc := defScope s_law_right) (by decide +kernel)) (by rfl) (fun _ _ _ _ _ => rfl) (fun A outer s H E f c' hr2 => pe_call (X := lamCx _ A outer s H E _ f c') FS (hr2.mono (by decide)) (by rfl) gS kS bS .nil (@lam_takes _ A outer s H E _ f c') (pa_cons (pv 9) (pa_cons (pv 7) (pa_cons (pv 10) pa_nil)))) (pe_ix ix_tup (pv 4) pe_int (fun _ _ => rfl)) (pe_ix ix_tup (pv 4) pe_int (fun _ _ => rfl)) rfl rfl))) (pss_one (ps_ret pe_bl)) pss_nil)
        (pss_cons (ps_set (i := 5) sc_law_right.nd rfl (.inl rfl) (pe_ix ix_tup (pv 2) pe_int (fun _ _ => rfl)))
        (pss_cons (ps_set (i := 6) sc_law_right.nd rfl (.inl rfl) (pe_lst (pa_cons pe_int (pa_cons (pv 5) (pa_cons (pv 5) (pa_cons pe_int (pa_cons pe_str (pa_cons pe_str (pa_cons (pe_op op_add (pv 5) pe_int) (pa_cons pe_int (pa_cons (pe_un un_neg pe_int) (pa_cons pe_bl (pa_cons pe_str (pa_cons pe_str (pa_cons pe_non pa_nil)))))))))))))))
        (pss_cons (ps_set (i := 8) sc_law_right.nd rfl (.inr rfl) (pe_call c_law_of.G (hr.mono (by decide)) (by rfl) c_law_of.g c_law_of.kp c_law_of.b .nil pass0 (pa_cons (pv 0) (pa_cons (pe_op op_cat (pv 6) (pe_lst (pa_cons (pe_call c_law_odd.G (hr.mono (by decide)) (by rfl) c_law_odd.g c_law_odd.kp c_law_odd.b .nil pass0 (pa_cons (pv 0) pa_nil)) pa_nil))) pa_nil))))
        (pss_cons (ps_set (i := 4) sc_law_right.nd rfl (.inl rfl) (pe_call c_law_stretch_due.G (hr.mono (by decide)) (by rfl) c_law_stretch_due.g c_law_stretch_due.kp c_law_stretch_due.b .nil pass0 (pa_cons (pv 9) (pa_cons (pv 8) pa_nil))))
        (pss_one (ps_if (pt_not (pt_val (pe_due (k := 5) FLT gTold gA bLT FLD gDue bLD (by rfl) hg KI XBU XBC XBS gBU gBC gBS m_isinstance m_repr TB (hcv.symm.trans hcd) (hr.mono (by decide)) (lamS_by (sc := defScope s_law_right) (by decide +kernel)) (by rfl) (fun _ _ _ _ _ => rfl) (fun A outer s H E f c' hr2 => pe_call (X := lamCx _ A outer s H E _ f c') FZ (hr2.mono (by decide)) (by rfl) gZ kZ bZ .nil (@lam_takes _ A outer s H E _ f c') (pa_cons (pv 9) (pa_cons (pv 8) pa_nil))) (pe_ix ix_tup (pv 4) pe_int (fun _ _ => rfl)) (pe_ix ix_tup (pv 4) pe_int (fun _ _ => rfl)) rfl rfl))) (pss_one (ps_ret pe_bl)) pss_nil))))))))))))))))
      (pss_one (ps_ret pe_bl))), ?_⟩
    obtain ⟨p, rfl, hp, TA, q⟩ := h
    have big : 1000 ≤ sizeLine := by decide
    refine ⟨16, rfl, by decide, by decide, ?_⟩
    refine for_it (walk_range (lo := 0) (n := 16)) (fun i σ H' => ButN p H H' ∧ Pot H' p (20 * i) ∧ Tabs [(Pt, lamQ)] H' ∧ ∃ s1 s2 s3 s4 s5 s6 s7 s8 s9 s10, σ = [some (.ref p), s1, s2, s3, s4, s5, s6, s7, s8, s9, s10]) ⟨fun _ _ _ e _ => e, hp, TA, _, _, _, _, _, _, _, _, _, _, rfl⟩ (fun _ _ _ _ _ => trivial) ?_ ?_
    · rintro i y σ H1 H2 hi ⟨hBi, hPi, hTi, s1, s2, s3, s4, s5, s6, s7, s8, s9, s10, rfl⟩ ⟨rfl, rfl⟩
      refine seq_set ⟨.ref p, rfl, p, 20 * i, 100, rfl, hPi, by omega, by decide, by decide, fun G1 u b h np hB1 hP1 nu up hUn hb hu => ?_⟩
      have b2 := hUn.2.1
      have b100 := hUn.2.2.1
      have hh := hUn.2.2.2
      have So : SqT K (off p G1) u [.int b, .str h] := sqT_off up hUn.1
      -- what is wrong: three displays
      refine seq_set (lst_in (dispA_use (K := K) (c1 := 20 * i + 2) (S := AllG 7) ?D1 hP1 fun xs G2 ds e hB2 hP2 hx => ⟨by rw [hx.length, e.1]; omega, fun l1 n1 => ?_⟩))
      case D1 => exact (disp_k (disp_tup (disp_cons (disp_c (v := .int 1) (d := .int 1) fun _ => .int 1) (disp_cons (disp_c (v := .str "near") (d := .str "near") fun _ => .str "near") disp_nil))) (disp_k (disp_tup (disp_cons (disp_c (v := .int 101) (d := .int 101) fun _ => .int 101) (disp_cons (disp_c (v := .str "up") (d := .str "up") fun _ => .str "up") disp_nil))) (disp_k (disp_tup (disp_cons (disp_c (v := .int 0) (d := .int 0) fun _ => .int 0) (disp_cons (disp_c (v := .str "down") (d := .str "down") fun _ => .str "down") disp_nil))) (disp_k (disp_tup (disp_cons (disp_c (v := .bl true) (d := .bool true) fun _ => .bl true) (disp_cons (disp_c (v := .str "near") (d := .str "near") fun _ => .str "near") disp_nil))) (disp_k (disp_tup (disp_cons (disp_c (v := .int 10) (d := .int 10) fun _ => .int 10) (disp_cons (disp_c (v := .str "Near") (d := .str "Near") fun _ => .str "Near") disp_nil))) (disp_k (disp_tup (disp_cons (disp_c (v := .int 10) (d := .int 10) fun _ => .int 10) disp_nil)) (disp_k (disp_lst (disp_cons (disp_c (v := .int 10) (d := .int 10) fun _ => .int 10) (disp_cons (disp_c (v := .str "near") (d := .str "near") fun _ => .str "near") disp_nil))) disp_0)))))))
      have a1 : AllD K p G2 xs := .of hx e
      have x7 : xs.length = 7 := hx.length.trans e.1
      have l1p : l1 ≠ p := hP2.ne n1
      have hB3 : But p G1 (upd G2 l1 (.lst xs)) := hB2.new n1
      have hP3 := hP2.new n1 (o := .lst xs)
      have hl1 : (upd G2 l1 (.lst xs)) l1 = some (.lst xs) := upd_same
      replace a1 := a1.but ((But.refl p G2).new n1 (o := .lst xs))
      generalize L2.upd G2 l1 _ = G3 at hB3 hP3 hl1 a1 ⊢
      clear hB2 hP2 hx n1
      refine seq_set (op_in ⟨.ref l1, rfl, lst_in (dispA_use (K := K) (c1 := 20 * i + 2) (S := AllG 5) ?D2 hP3 fun ys G4 es e' hB4 hP4 hy => ⟨by rw [hy.length, e'.1]; omega, fun l2 n2 => ?_⟩)⟩)
      case D2 => exact (disp_k (disp_tup (disp_cons (disp_c (v := .int 10) (d := .int 10) fun _ => .int 10) (disp_cons (disp_lst (disp_cons (disp_c (v := .str "near") (d := .str "near") fun _ => .str "near") disp_nil)) disp_nil))) (disp_k (disp_tup (disp_cons (disp_c (v := .str "near") (d := .str "near") fun _ => .str "near") (disp_cons (disp_c (v := .int 10) (d := .int 10) fun _ => .int 10) disp_nil))) (disp_k (disp_tup (disp_cons (disp_c (v := .int 10) (d := .int 10) fun _ => .int 10) (disp_cons (disp_c (v := .non) (d := .none) fun _ => .non) disp_nil))) (disp_k (disp_tup (disp_cons (disp_c (v := .int 10) (d := .int 10) fun _ => .int 10) (disp_cons (disp_c (v := .str "near") (d := .str "near") fun _ => .str "near") (disp_cons (disp_c (v := .int 0) (d := .int 0) fun _ => .int 0) disp_nil)))) (disp_k (disp_tup (disp_cons (disp_c (v := .int 10) (d := .int 10) fun _ => .int 10) (disp_cons (disp_c (v := .str "") (d := .str "") fun _ => .str "") disp_nil))) disp_0)))))
      have a2 : AllD K p G4 ys := .of hy e'
      have y5 : ys.length = 5 := hy.length.trans e'.1
      have e1 : G4 l1 = some (.lst xs) := hB4 l1 _ l1p hl1
      replace a1 := (a1.but hB4).app a2
      refine ⟨l1, l2, xs, ys, rfl, rfl, by rw [upd_ne (ne_of_none e1 n2)]; exact e1, upd_same, by rw [x7, y5]; omega, fun l3 n3 => ?_⟩
      have hB5 : But p G1 (upd (upd G4 l2 (.lst ys)) l3 (.lst (xs ++ ys))) := ((hB3.trans hB4).new n2).new n3
      have hP5 := (hP4.new n2 (o := .lst ys)).new n3 (o := .lst (xs ++ ys))
      have l3p : l3 ≠ p := (hP4.new n2 (o := .lst ys)).ne n3
      have hl3 : (upd (upd G4 l2 (.lst ys)) l3 (.lst (xs ++ ys))) l3 = some (.lst (xs ++ ys)) := upd_same
      replace a1 := a1.but (((But.refl p G4).new n2 (o := .lst ys)).new n3 (o := .lst (xs ++ ys)))
      have w12 : (xs ++ ys).length = 12 := by rw [List.length_append, x7, y5]
      generalize L2.upd (L2.upd G4 l2 _) l3 _ = G5 at hB5 hP5 hl3 a1 ⊢
      generalize xs ++ ys = ws at a1 w12 hl3
      clear hB4 hP4 hy n2 n3 e1 hl1 a2 hB3 hP3 x7 y5
      have back : ∀ {G : Hp}, But p G1 G → SqT K G u [.int b, .str h] := fun hB => sqT_same off_sub (sqT_same hB.off So)
      refine seq_set (op_in ⟨.ref l3, rfl, lst_in ⟨.ref p, rfl, .ref u, rfl, p, u, 20 * i + 2, b, h, rfl, hP5, by omega, up, back hB5, b2, b100, hh, fun G6 v1 d1 c6 od1 hB6 hP6 hc6 hd1 => ?_⟩⟩)
      refine ⟨.ref p, rfl, p, c6, rfl, hP6, by omega, fun G7 v2 d2 md2 hB7 hP7 hd2 => ⟨by show 2 ≤ sizeLine; omega, fun l4 n4 => ?_⟩⟩
      have hB17 := (hB5.trans hB6).trans hB7
      have a3 : AllU K p G7 [v1, v2] := by
        intro v m
        simp only [List.mem_cons, List.not_mem_nil, or_false] at m
        rcases m with rfl | rfl
        · exact ⟨d1, hd1.same hB7.off, okd_shows od1 (by decide) (by decide)⟩
        · exact ⟨d2, hd2, (odds_good _ md2).1⟩
      have a4 := (a1.u.but (hB6.trans hB7)).app a3
      have e3 : G7 l3 = some (.lst ws) := hB7 l3 _ l3p (hB6 l3 _ l3p hl3)
      refine ⟨l3, l4, ws, [v1, v2], rfl, rfl, by rw [upd_ne (ne_of_none e3 n4)]; exact e3, upd_same, by rw [w12]; show 12 + 2 ≤ sizeLine; omega, fun l5 n5 => ?_⟩
      have hB8 : But p G1 (upd (upd G7 l4 (.lst [v1, v2])) l5 (.lst (ws ++ [v1, v2]))) := (hB17.new n4).new n5
      have hP8 := (hP7.new n4 (o := .lst [v1, v2])).new n5 (o := .lst (ws ++ [v1, v2]))
      have l5p : l5 ≠ p := (hP7.new n4 (o := .lst [v1, v2])).ne n5
      have hl5 : (upd (upd G7 l4 (.lst [v1, v2])) l5 (.lst (ws ++ [v1, v2]))) l5 = some (.lst (ws ++ [v1, v2])) := upd_same
      replace a4 := a4.but (((But.refl p G7).new n4 (o := .lst [v1, v2])).new n5 (o := .lst (ws ++ [v1, v2])))
      have w14 : (ws ++ [v1, v2]).length = 14 := by rw [List.length_append, w12]; rfl
      generalize L2.upd (L2.upd G7 l4 _) l5 _ = G8 at hB8 hP8 hl5 a4 ⊢
      generalize ws ++ [v1, v2] = ts at a4 w14 hl5
      clear hB17 hB7 hP7 hB6 hP6 n4 n5 e3 a3 hl3 a1 hB5 hP5 hd1 hd2
      -- the units
      refine seq_set ⟨.ref p, rfl, .ref u, rfl, by show 1 ≤ sizeLine; omega, fun r1 m1 => ?_⟩
      refine ⟨r1, 12, _, rfl, rfl, upd_same, by decide, by decide, by show 1 * 12 ≤ sizeLine; omega, fun r2 m2 => ?_⟩
      have hB9 : But p G1 _ := (hB8.new m1 (o := .lst [.ref u])).new m2 (o := .lst (List.replicate (12 : Int).toNat [V.ref u]).flatten)
      have hP9 := (hP8.new m1 (o := .lst [.ref u])).new m2 (o := .lst (List.replicate (12 : Int).toNat [V.ref u]).flatten)
      have r2p : r2 ≠ p := (hP8.new m1 (o := .lst [.ref u])).ne m2
      have hr2 : (upd (upd G8 r1 (.lst [.ref u])) r2 (.lst (List.replicate (12 : Int).toNat [V.ref u]).flatten)) r2 = some (.lst (List.replicate (12 : Int).toNat [V.ref u]).flatten) := upd_same
      have hB89 := ((But.refl p G8).new m1 (o := .lst [.ref u])).new m2 (o := .lst (List.replicate (12 : Int).toNat [V.ref u]).flatten)
      replace a4 := a4.but hB89
      replace hl5 := hB89 l5 _ l5p hl5
      clear hB89
      generalize L2.upd (L2.upd G8 r1 _) r2 _ = G9 at hB9 hP9 hr2 a4 hl5 ⊢
      clear m1 m2 hB8 hP8
      have aU : AllU K p G9 (List.replicate (12 : Int).toNat [V.ref u]).flatten := by
        intro v m
        obtain ⟨l, ml, m2⟩ := List.mem_flatten.mp m
        have el := List.eq_of_mem_replicate ml
        subst el
        rw [List.mem_singleton.mp m2]
        refine ⟨.tuple [.int b, .str h], .tup (sqT_same hB9.off So) (.cons (.int b) (.cons (.str h) .nil)), okd_shows (okd_tup (k := 0) (m := 20) fun d md => ?_) (by decide) (by show 21 * 2 ≤ 2 ^ 20; decide)⟩
        simp only [List.mem_cons, List.not_mem_nil, or_false] at md
        rcases md with rfl | rfl
        · exact okd_b (by omega) b100
        · exact okd_h0 h (howL_of hh)
      have lU : (List.replicate (12 : Int).toNat [V.ref u]).flatten.length = 12 := by
        rw [List.length_flatten, List.map_replicate, List.sum_replicate_nat]
        rfl
      generalize (List.replicate (12 : Int).toNat [V.ref u]).flatten = us at aU lU hr2
      refine lst_in (dispA_use (K := K) (c1 := c6 + 1) (S := AllG 2) ?D3 hP9 fun zs G10 es e'' hB10 hP10 hz => ⟨by rw [hz.length, e''.1]; omega, fun r3 m3 => ?_⟩)
      case D3 => exact (disp_k (disp_tup (disp_cons (disp_c (v := .int 2) (d := .int 2) fun _ => .int 2) (disp_cons (disp_c (v := .str "near") (d := .str "near") fun _ => .str "near") disp_nil))) (disp_k (disp_tup (disp_cons (disp_c (v := .int 100) (d := .int 100) fun _ => .int 100) (disp_cons (disp_c (v := .str "even") (d := .str "even") fun _ => .str "even") disp_nil))) disp_0))
      have a5 : AllU K p G10 zs := (AllD.of hz e'').u
      have z2 : zs.length = 2 := hz.length.trans e''.1
      have hr2' : G10 r2 = some (.lst us) := hB10 r2 _ r2p hr2
      have hl5' : G10 l5 = some (.lst ts) := hB10 l5 _ l5p hl5
      replace a4 := a4.but hB10
      replace aU := aU.but hB10
      refine ⟨r2, r3, us, zs, rfl, rfl, by rw [upd_ne (ne_of_none hr2' m3)]; exact hr2', upd_same, by rw [lU, z2]; show 12 + 2 ≤ sizeLine; omega, fun r4 m4 => ?_⟩
      have hl5a : (upd (upd G10 r3 (.lst zs)) r4 (.lst (us ++ zs))) l5 = some (.lst ts) := by
        have k1 : (upd G10 r3 (.lst zs)) l5 = some (.lst ts) := by rw [upd_ne (ne_of_none hl5' m3)]; exact hl5'
        rw [upd_ne (ne_of_none k1 m4)]
        exact k1
      refine ⟨.ref l5, rfl, r4, l5, us ++ zs, ts, rfl, rfl, upd_same, hl5a, by rw [List.length_append, lU, z2, w14]; omega, fun r5 m5 => ?_⟩
      have hB11 : But p G10 _ := (((But.refl p G10).new m3 (o := .lst zs)).new m4 (o := .lst (us ++ zs))).new m5 (o := .lst (us ++ zs ++ ts))
      have hP11 := ((hP10.new m3 (o := .lst zs)).new m4 (o := .lst (us ++ zs))).new m5 (o := .lst (us ++ zs ++ ts))
      have r5p : r5 ≠ p := ((hP10.new m3 (o := .lst zs)).new m4 (o := .lst (us ++ zs))).ne m5
      have aA := ((aU.app a5).app a4).but hB11
      have lA : (us ++ zs ++ ts).length = 28 := by rw [List.length_append, List.length_append, lU, z2, w14]
      refine ⟨p, r5, c6 + 1, _, rfl, hP11, by omega, r5p, SqL.of upd_same, by rw [lA]; omega, by rw [lA]; omega, fun G12 j9 v9 hB12 hP12 ev9 => ?_⟩
      obtain ⟨d9, hx9, sh9⟩ := (aA.but hB12) v9 (List.mem_of_getElem? ev9)
      have hB112 := ((hB9.trans hB10).trans hB11).trans hB12
      clear aA lA ev9 hl5a hr2' hl5' a4 a5 aU lU z2 hB11 hP11 m3 m4 m5 hr2 hl5 hB12 hB10 hP10 hz hB9 hP9 w14 w12
      -- whole and many
      refine seq_set (of_disp (n := 11) (c1 := c6 + 3) ?D4 hP12 (by omega) (by decide) (by decide) rfl fun G13 v10 d10 hB13 hP13 hx10 gd10 => ?_)
      case D4 => exact (disp_k (disp_c (v := .int 1) (d := .int 1) fun _ => .int 1) (disp_k (disp_c (v := .int 7) (d := .int 7) fun _ => .int 7) (disp_k (disp_c (v := .int 7) (d := .int 7) fun _ => .int 7) (disp_k (disp_v (v := .int 100000000) (d := .int 100000000) (te := tOp (rI CPowW fun i j => .int (i ^ j.toNat)) (tC (.int 10)) (tC (.int 8))) (fun H Q q => ⟨10, 8, rfl, rfl, powW_ok (j := 8) (n := 8) (by decide) (by decide), q⟩) fun _ => .int 100000000) (disp_k (disp_c (v := .int 0) (d := .int 0) fun _ => .int 0) (disp_k (disp_v (v := .int (-1)) (d := .int (-1)) (te := tUn (rU fun i => .int (-i)) (tC (.int 1))) (fun H Q q => ⟨1, rfl, q⟩) fun _ => .int (-1)) (disp_k (disp_c (v := .bl true) (d := .bool true) fun _ => .bl true) (disp_k (disp_c (v := .str "7") (d := .str "7") fun _ => .str "7") (disp_k (disp_c (v := .non) (d := .none) fun _ => .non) (disp_k (disp_tup (disp_cons (disp_c (v := .int 7) (d := .int 7) fun _ => .int 7) disp_nil)) (disp_g (disp_odd rfl (by omega)) odds_good disp_0)))))))))))
      refine seq_set (of_disp (n := 12) (c1 := c6 + 5) ?D5 hP13 (by omega) (by decide) (by decide) rfl fun G14 v7 d7 hB14 hP14 hx7 gd7 => ?_)
      case D5 => exact (disp_k (disp_c (v := .int 0) (d := .int 0) fun _ => .int 0) (disp_k (disp_c (v := .int 0) (d := .int 0) fun _ => .int 0) (disp_k (disp_c (v := .int 1) (d := .int 1) fun _ => .int 1) (disp_k (disp_c (v := .int 1) (d := .int 1) fun _ => .int 1) (disp_k (disp_c (v := .int 7) (d := .int 7) fun _ => .int 7) (disp_k (disp_c (v := .int 8) (d := .int 8) fun _ => .int 8) (disp_k (disp_v (v := .int (-1)) (d := .int (-1)) (te := tUn (rU fun i => .int (-i)) (tC (.int 1))) (fun H Q q => ⟨1, rfl, q⟩) fun _ => .int (-1)) (disp_k (disp_c (v := .bl false) (d := .bool false) fun _ => .bl false) (disp_k (disp_c (v := .str "1") (d := .str "1") fun _ => .str "1") (disp_k (disp_v (v := .int 100000000) (d := .int 100000000) (te := tOp (rI CPowW fun i j => .int (i ^ j.toNat)) (tC (.int 10)) (tC (.int 8))) (fun H Q q => ⟨10, 8, rfl, rfl, powW_ok (j := 8) (n := 8) (by decide) (by decide), q⟩) fun _ => .int 100000000) (disp_k (disp_lst (disp_cons (disp_c (v := .int 1) (d := .int 1) fun _ => .int 1) disp_nil)) (disp_g (disp_odd rfl (by omega)) odds_good disp_0))))))))))))
      have hB114 := (hB112.trans hB13).trans hB14
      replace hx9 := hx9.same (hB13.trans hB14).off
      replace hx10 := hx10.same hB14.off
      have bn : ∀ i, v10 = .int i → i ≤ 10 ^ 9 := by
        intro i ei
        subst ei
        cases hx10
        exact of_decide_eq_true gd10.2
      have hB214 : But p H2 G14 := hB1.trans hB114
      have T14 := tabs_but hTi hPi hB214
      refine seq_set ⟨v9, rfl, v7, rfl, v10, rfl, v9, v7, v10, d9, d7, d10, rfl, hx9.same off_sub, hx7.same off_sub, hx10.same off_sub, bn, fun G15 U1 s z g15 hU1 due => ?_⟩
      refine ⟨tabs_same T14 g15, fun c' G16 e16 T16 hc16 => ⟨.ref U1, rfl, U1, _, 0, .str s, rfl, rfl, SqT.of (e16 _ _ hU1 (fun _ z => by cases z)), atI_nat (j := 0) rfl, .ref U1, rfl, U1, _, 1, z, rfl, rfl, SqT.of (e16 _ _ hU1 (fun _ z => by cases z)), atI_nat (j := 1) rfl, rfl, hc16, ?_⟩⟩
      have e1416 : ExtN G14 G16 := fun b' o' h1 h2 => e16 b' o' (g15 _ _ h1) h2
      refine td_shown due (Dx.ext e1416 (hx9.same off_sub)) (Dx.ext e1416 (hx7.same off_sub)) (Dx.ext e1416 (hx10.same off_sub)) sh9 gd7.1 gd10.1 bn (fun H0 h0s E Q' h0 => ⟨v9, rfl, v7, rfl, v10, rfl, h0⟩) (fun G17 g17 => ?_)
      refine ⟨true, rfl, iteF ?_⟩
      have e1417 : ExtN G14 G17 := fun b' o' h1 h2 => g17 _ _ (e1416 _ _ h1 h2)
      have T17 := tabs_same T16 g17
      have hP17 := hP14.extN e1417
      have hx9' : Dx K (off p G17) v9 d9 := Dx.ext (ButN.off (ButN.ext e1417)) hx9
      have hu17 : SqT K G17 u [.int b, .str h] := sqT_ext e1417 (back hB114)
      have hB217 : ButN p H2 G17 := (ButN.of hB214).trans (ButN.ext e1417)
      clear T16 T14 e1416 e16 hc16 hU1 g15 due hx7 hx10 gd7 gd10 bn hB13 hB14 hP13 hP12 hB112 hB214 hB114
      -- the share
      refine next_in (seq_set ⟨.ref u, rfl, u, _, 0, .int b, rfl, rfl, hu17, atI_nat (j := 0) rfl, ?_⟩)
      have gb : GoodD (.int b) := okd_good (okd_b (by omega) b100) (by decide) (by decide) (decide_eq_true (by omega))
      have gb1 : GoodD (.int (b + 1)) := okd_good (outI_ok (b := b) (by omega) b100 _ List.mem_cons_self) (by decide) (by decide) (decide_eq_true (by omega))
      refine seq_set (lst_in (dispA_use (K := K) (c1 := c6 + 6) (S := AllG 13) ?D6 hP17 fun xs6 G18 es6 e6 hB18 hP18 hx6 => ⟨by rw [hx6.length, e6.1]; omega, fun l8 n8 => ?_⟩))
      case D6 => exact (disp_k (disp_c (v := .int 0) (d := .int 0) fun _ => .int 0) (disp_g (disp_v (v := .int b) (d := .int b) (fun H Q q => ⟨.int b, rfl, q⟩) fun _ => .int b) (fun _ e => e ▸ gb) (disp_g (disp_v (v := .int b) (d := .int b) (fun H Q q => ⟨.int b, rfl, q⟩) fun _ => .int b) (fun _ e => e ▸ gb) (disp_k (disp_c (v := .int 1) (d := .int 1) fun _ => .int 1) (disp_k (disp_c (v := .str "none") (d := .str "none") fun _ => .str "none") (disp_k (disp_c (v := .str "some") (d := .str "some") fun _ => .str "some") (disp_g (disp_v (v := .int (b + 1)) (d := .int (b + 1)) (fun H Q q => ⟨.int b, rfl, b, 1, rfl, rfl, q⟩) fun _ => .int (b + 1)) (fun _ e => e ▸ gb1) (disp_k (disp_c (v := .int 101) (d := .int 101) fun _ => .int 101) (disp_k (disp_v (v := .int (-1)) (d := .int (-1)) (te := tUn (rU fun i => .int (-i)) (tC (.int 1))) (fun H Q q => ⟨1, rfl, q⟩) fun _ => .int (-1)) (disp_k (disp_c (v := .bl true) (d := .bool true) fun _ => .bl true) (disp_k (disp_c (v := .str "None") (d := .str "None") fun _ => .str "None") (disp_k (disp_c (v := .str "") (d := .str "") fun _ => .str "") (disp_k (disp_c (v := .non) (d := .none) fun _ => .non) disp_0)))))))))))))
      have a6 : AllD K p G18 xs6 := .of hx6 e6
      have l13 : xs6.length = 13 := hx6.length.trans e6.1
      have l8p : l8 ≠ p := hP18.ne n8
      have hB19 : But p G17 (upd G18 l8 (.lst xs6)) := hB18.new n8
      have hP19 := hP18.new n8 (o := .lst xs6)
      have hl8 : (upd G18 l8 (.lst xs6)) l8 = some (.lst xs6) := upd_same
      replace a6 := a6.but ((But.refl p G18).new n8 (o := .lst xs6))
      generalize L2.upd G18 l8 _ = G19 at hB19 hP19 hl8 a6 ⊢
      clear hB18 hP18 hx6 n8
      refine seq_set ⟨.ref p, rfl, .ref l8, rfl, lst_in (dispA_use (K := K) (c1 := c6 + 7) (S := AllG 1) ?D7 hP19 fun ys7 G20 es7 e7 hB20 hP20 hx7 => ⟨by rw [hx7.length, e7.1]; omega, fun l9 n9 => ?_⟩)⟩
      case D7 => exact (disp_g (disp_odd rfl (by omega)) odds_good disp_0)
      have a7 : AllD K p G20 ys7 := .of hx7 e7
      have l1' : ys7.length = 1 := hx7.length.trans e7.1
      have e8 : G20 l8 = some (.lst xs6) := hB20 l8 _ l8p hl8
      refine ⟨l8, l9, xs6, ys7, rfl, rfl, by rw [upd_ne (ne_of_none e8 n9)]; exact e8, upd_same, by rw [l13, l1']; omega, fun l10 n10 => ?_⟩
      have hB21 : But p G20 _ := ((But.refl p G20).new n9 (o := .lst ys7)).new n10 (o := .lst (xs6 ++ ys7))
      have hP21 := (hP20.new n9 (o := .lst ys7)).new n10 (o := .lst (xs6 ++ ys7))
      have l10p : l10 ≠ p := (hP20.new n9 (o := .lst ys7)).ne n10
      have aB := ((a6.but hB20).app a7).but hB21
      have lB : (xs6 ++ ys7).length = 14 := by rw [List.length_append, l13, l1']
      refine ⟨p, l10, c6 + 7, _, rfl, hP21, by omega, l10p, SqL.of upd_same, by rw [lB]; omega, by rw [lB]; omega, fun G22 j8 v8 hB22 hP22 ev8 => ?_⟩
      obtain ⟨d8, hx8, gd8⟩ := (aB.but hB22) v8 (List.mem_of_getElem? ev8)
      have hB1722 := ((hB19.trans hB20).trans hB21).trans hB22
      have T22 := tabs_but T17 hP17 hB1722
      have hx9b := hx9'.same hB1722.off
      refine seq_set ⟨v9, rfl, v8, rfl, v9, v8, d9, d8, rfl, hx9b.same off_sub, hx8.same off_sub, fun G23 U2 s' z' g23 hU2 due2 => ?_⟩
      refine ⟨tabs_same T22 g23, fun c2 G24 e24 T24 hc24 => ⟨.ref U2, rfl, U2, _, 0, .str s', rfl, rfl, SqT.of (e24 _ _ hU2 (fun _ z => by cases z)), atI_nat (j := 0) rfl, .ref U2, rfl, U2, _, 1, z', rfl, rfl, SqT.of (e24 _ _ hU2 (fun _ z => by cases z)), atI_nat (j := 1) rfl, rfl, hc24, ?_⟩⟩
      have e2224 : ExtN G22 G24 := fun b' o' h1 h2 => e24 b' o' (g23 _ _ h1) h2
      refine td_stretch due2 (Dx.ext e2224 (hx9b.same off_sub)) (Dx.ext e2224 (hx8.same off_sub)) sh9 gd8.1 (fun H0 h0s E Q' h0 => ⟨v9, rfl, v8, rfl, h0⟩) (fun G25 g25 => ?_)
      refine ⟨true, rfl, iteF ?_⟩
      have e2225 : ExtN G22 G25 := fun b' o' h1 h2 => g25 _ _ (e2224 _ _ h1 h2)
      exact ⟨hBi.trans ((hB217.trans (ButN.of hB1722)).trans (ButN.ext e2225)), (hP22.extN e2225).mono (by omega), tabs_same T24 g25, _, _, _, _, _, _, _, _, _, _, rfl⟩
    · rintro σ G ⟨hBx, hPx, hTx, s1, s2, s3, s4, s5, s6, s7, s8, s9, s10, rfl⟩
      exact q _ hBx hTx
end
end Uq

namespace Uq
open PySem PySem.Spec PyProof.Rows L2 LamX TL

/-! ### the law -/
def sp_lawX (K : PySem.W.Frag) (Pt : Addr) : Sp := fun vs H Q _ => ∃ (a : Addr) (ns : List Int), vs = [.ref a] ∧ SqL K H a (ns.map V.int) ∧ ns.length ≤ 63 ∧ Tabs [(Pt, lamQ)] H ∧ ∀ H', Q (.bl true) H'
theorem tabs_list {T : List (Addr × Str)} {H : Hp} {D : Addr} {xs : List V} {o : HO} (hD : H D = some (.lst xs)) (t : Tabs T H) : Tabs T (upd H D o) := by
  intro z mz
  obtain ⟨ps, h1, h2, h3⟩ := t z mz
  refine ⟨ps, ?_, h2, fun pos cv hc => ?_⟩
  · rw [upd_ne (fun e => by rw [e, hD] at h1; cases h1)]
    exact h1
  · obtain ⟨c, e1, e2⟩ := h3 pos cv hc
    refine ⟨c, e1, ?_⟩
    rw [upd_ne (fun e => by rw [e, hD] at e2; cases e2)]
    exact e2
section
variable {P : Program} {w : World} {K : PySem.W.Frag} {mg : Str → Option Value} {base : Heap} {Pt : Addr}
theorem ok_law {f : Addr} {fd : FuncData} (F : Fun K "law" "law" s_law f fd) (m_all : mg "all" = none) (c_law_cells : Cal P w K mg base 1 "_law_cells" ["_law_script", "_law_most"] (sp_law_cells K)) (c_law_right : CalG P w K mg base 9 "_law_right" ["_law_pot_here"] (sp_law_rightX K Pt)) (c_law_pot : Cal P w K mg base 1 "_law_pot" ["_law_script", "_law_place"] (sp_law_pot K)) : FnG P w K mg base 10 f fd ["_law_script"] (sp_lawX K Pt) := by
  refine Fun_okG F sc_law (fun vs H Q E h => ?_) (fun cdv A outer s H vs Q E hg hr h => ?_)
  · obtain ⟨a, ns, rfl, _⟩ := h
    rfl
  · refine ⟨_, (pss_one (ps_ret (pe_callB (cr_all rfl) (by rfl) m_all (by decide +kernel) (pa_cons (pe_lc (own := [("_law_place", 1)]) (g := gName 1) rfl sc_law.nd (pi_list (pe_call c_law_cells.G (hr.mono (by decide)) (by rfl) c_law_cells.g c_law_cells.kp c_law_cells.b .nil pass0 (pa_cons (pv 0) (pa_cons pe_int pa_nil)))) (blkOk_by (own := [("_law_place", 1)]) (N := N_law) (sc := defScope s_law) (by decide +kernel)) (fun _ _ _ _ _ => (pg_name (i := 1) sc_law.nd rfl (.inl rfl))) (fun _ _ _ _ _ => pts_nil) (fun _ _ _ _ _ => (pe_callG c_law_right.G hg (hr.mono (by decide)) (by rfl) c_law_right.g c_law_right.kp c_law_right.b (pa_cons (pe_call c_law_pot.G (hr.mono (by decide)) (by rfl) c_law_pot.g c_law_pot.kp c_law_pot.b .nil pass0 (pa_cons (pv 0) (pa_cons (pv 1) pa_nil))) pa_nil)))) pa_nil)))), ?_⟩
    obtain ⟨a, ns, rfl, hl, hn, TA, q⟩ := h
    refine ⟨.ref a, rfl, a, ns, 4, rfl, hl, hn, by decide, by decide, fun H1 l k nl sm hk k1 k2 => ?_⟩
    refine ⟨l, rfl, ⟨_, SqL.of hk⟩, fun D nD => ?_⟩
    have T1 := tabs_same TA sm
    have nDl : D ≠ l := fun z => by
      rw [z, hk] at nD
      cases nD
    refine lc_it (walk_list (xs := rgV 0 (k : Int))) (fun i H' => ExtN H1 H' ∧ Tabs [(Pt, lamQ)] H' ∧ H' D = some (.lst (List.replicate i (.bl true)))) ⟨extN_same (sameU nD), tabs_same T1 (sameU nD), upd_same⟩ (fun i H' _ z => sqL_ext z.1 (SqL.of hk)) ?_ ?_
    · rintro i y H2' H2 hi ⟨s2, T2, hD⟩ ⟨rfl, hx⟩
      have hi : i < k := by
        have e := (List.getElem?_eq_some_iff.mp hx).1
        rw [rgV_length] at e
        omega
      have ex : y = .int (i : Int) := by
        unfold rgV at hx
        rw [List.getElem?_map, List.getElem?_range (by omega)] at hx
        have e := Option.some.inj hx
        rw [← e]
        show V.int (0 + (i : Int)) = V.int (i : Int)
        rw [Int.zero_add]
      subst ex
      refine ⟨rfl, .ref a, rfl, .int (i : Int), rfl, a, ns, (i : Int), rfl, sqL_ext s2 (sqL_same sm hl), hn, by omega, by omega, fun H3 p np sm3 hp => ?_⟩
      refine ⟨p, rfl, hp, tabs_same T2 sm3, fun H4 hB4 hT4 => ?_⟩
      have pD : D ≠ p := ne_of_none hD np
      have hD4 := hB4 D _ pD (sm3 _ _ hD) (fun _ z => by cases z)
      refine ⟨_, hD4, ?_, ?_, tabs_list hD4 hT4, ?_⟩
      · rw [List.length_replicate]
        exact small1000 (by omega)
      · intro z o ez nt
        rw [upd_ne (ne_of_none ez nD)]
        have e2 := s2 _ _ ez nt
        exact hB4 z o (ne_of_none e2 np) (sm3 _ _ e2) nt
      · rw [upd_same, List.replicate_succ']
    rintro H2 ⟨s2, T2, hD⟩
    rw [rgV_length] at hD
    refine ⟨D, List.replicate ((k : Int) - 0).toNat true, rfl, SqL.of (by rw [hD, List.map_replicate]), ?_⟩
    rw [all_rep]
    exact q _
end
end Uq

namespace Uq
open PySem PySem.Spec PyProof.Rows L2 LamX

/-! ### the end of a law over a state without guards, tables of code beside it -/
abbrev tab0 : Obj := { cls := .none, data := .fields #[] }
section
variable {P : Program} {w : World} {K : PySem.W.Frag} {mg mb : Str → Option Value} {k : Nat} {fa a : Addr} {fd : FuncData} {x : Str} {sp : Sp} {s₁ : Shared} {vs : List Value} {ns : List Int} {cs : List (Addr × Addr)}
theorem core_callGT (KX : K.In s₁.heap) (hns : s₁.heap.Ns mainGlobals mg) (hb : s₁.heap.Ns builtinsNs mb) (hbb : ∀ x : Str, x ≠ "__name__" → mb x = bootBuiltins x) (hlim : s₁.heap.NoLimit) (hg : s₁.gens = #[])
    (t0 : ∀ z ∈ cs, s₁.heap.get? z.2 = some tab0) (tK : ∀ z ∈ cs, K.lookup z.2 = none) (tC : ∀ z ∈ cs, PySem.W.CodeHd s₁.heap z.1 z.2)
    (bm : ∃ (m : Addr) (o : Obj), mg "__builtins__" = some (.ref m) ∧ m ≠ builtinsNs ∧ s₁.heap.get? m = some o ∧ o.cls = .type "module" ∧ o.dict = some builtinsNs ∧ o.data = .plain)
    (ha : s₁.heap.get? a = some { cls := .type "list", data := .seq vs.toArray }) (hr : Room k callerA)
    (F : ∀ base : Heap, K.In base → base.Ns mainGlobals mg → (∀ z ∈ cs, TabB base mg z.1 z.2) → FnG P w K mg base k fa fd [x] sp) (hbind : ∀ (s : Shared) (u : Value), BindsTo s fd ⟨[u], []⟩ [(x, u)])
    (H : Hp) (hT : ∀ z ∈ cs, H z.2 = some (.tbl #[])) (hok : HOk P w H s₁.heap)
    (hA : ∀ b u, H b = some u → (b = a ∧ K.lookup a = none ∧ ∃ ob xs, u = .frz ob (.lst xs)) ∨ ∃ z ∈ cs, b = z.2) (hsp : sp [.ref a] H (fun v _ => v = .bl true) (fun _ _ _ => False)) :
    codeAny (model P w) callerA (.call (.ref fa) ⟨[.ref a], []⟩) (fun r s' => r = .ok (.ret (.bool true)) ∧ OldK s₁.heap s'.heap ∧ s'.os = s₁.os ∧ AllBare s'.gens) s₁ := by
  have free : ∀ {b : Addr} {o : Obj}, s₁.heap.get? b = some o → (∀ us m, o.data ≠ .seq us m) → o.data ≠ .fields #[] → H b = none := by
    intro b o e d1 d2
    cases q : H b with
    | none => rfl
    | some u =>
      exfalso
      rcases hA b u q with ⟨y, _⟩ | ⟨z, mz, y⟩
      · rw [y, ha] at e
        cases e
        exact d1 _ _ rfl
      · rw [y, t0 z mz] at e
        cases e
        exact d2 rfl
  have freeD : ∀ {b : Addr} {o : Obj} {es : Array DictEntry} {ep : Nat}, s₁.heap.get? b = some o → o.data = .dict es ep → H b = none := fun e d => free e (fun _ _ y => by rw [d] at y; cases y) (fun y => by rw [d] at y; cases y)
  have toNs : ∀ {b : Addr} {m : Str → Option Value}, s₁.heap.Ns b m → (hidT s₁.heap H).Ns b m := by
    rintro b m ⟨o, es, ep, e, d, r⟩
    exact ⟨o, es, ep, hidT_get e (freeD e d), d, r⟩
  have KH : K.In (hidT s₁.heap H) := by
    intro b o e
    refine hidT_get (KX b o e) ?_
    cases q : H b with
    | none => rfl
    | some u =>
      exfalso
      rcases hA b u q with ⟨y, n, _⟩ | ⟨z, mz, y⟩
      · rw [y, n] at e
        cases e
      · rw [y, tK z mz] at e
        cases e
  have TB : ∀ z ∈ cs, TabB (hidT s₁.heap H) mg z.1 z.2 := by
    intro z mz
    obtain ⟨g0, ges, gep, ge, gd, _⟩ := hns
    refine ⟨?_, ?_, ?_⟩
    · obtain ⟨o, us, f1, f2, f3, f4, f5, f6, f7, e, rest⟩ := tC z mz
      have dd : o.data = .fields us := rest.2.1
      refine ⟨o, us, f1, f2, f3, f4, f5, f6, f7, hidT_get e (free e (fun _ _ y => by rw [dd] at y; cases y) (fun y => ?_)), rest⟩
      rw [dd] at y
      cases y
      have := rest.2.2.1
      simp at this
    · obtain ⟨m, o, m1, m2, m3, m4, m5, m6⟩ := bm
      refine ⟨m, o, m1, m2, ?_, ?_, hidT_get m3 (free m3 (fun _ _ y => by rw [m6] at y; cases y) (fun y => by rw [m6] at y; cases y)), m4, m5, m6⟩
      · intro y
        rw [y, ge] at m3
        cases m3
        rw [gd] at m6
        cases m6
      · intro y
        rw [y, t0 z mz] at m3
        cases m3
        cases m6
    · intro y
      rw [y, t0 z mz] at ge
      cases ge
      cases gd
  obtain ⟨mc, l1, l2⟩ := hlim
  have e0 : Env0 P w K mg (hidT s₁.heap H) callerA [] s₁ H := by
    refine { frames := rfl, mod := ⟨KH, toNs hns, ⟨mb, toNs hb, hbb⟩, ⟨mc, toNs l1, l2⟩⟩, bs := fun b o e => of_hidT e, bsz := Nat.le_of_eq (hidT_size _ _), funs := trivial, frf := ?_, hok := hok, bare := .of_eq hg }
    intro b z
    exact nomatch (show b ∈ ([] : List Addr) from z)
  have go := (F _ KH (toNs hns) TB).run callerA [] s₁ H ⟨[.ref a], []⟩ [.ref a] [.ref a] _ _ rfl hr e0 (hbind s₁ (.ref a)) (.cons rfl .nil) hsp
  refine codeAny_mono go ?_
  intro r s' h
  cases r with
  | error e => exact False.elim h
  | ok fl =>
    cases fl with
    | next => exact False.elim h
    | brk => exact False.elim h
    | cont => exact False.elim h
    | ret u =>
      obtain ⟨v, H', os, bare, un, hok', rv, q⟩ := h
      have ev : v = .bl true := q
      subst ev
      have eu : u = Value.bool true := rv
      subst eu
      have stay : ∀ b o, (∀ z ∈ cs, b ≠ z.2) → s₁.heap.get? b = some o → s'.heap.get? b = some o := by
        intro b o nz e
        cases hb : H b with
        | none => exact un.keep b o e hb (fun y => nomatch (show b ∈ ([] : List Addr) from y)) (fun y => nomatch (show b ∈ ([] : List Addr) from y))
        | some u =>
          rcases hA b u hb with ⟨_, _, ob, xs, rfl⟩ | ⟨z, mz, y⟩
          · obtain ⟨y1, _⟩ := hok b _ hb
            obtain ⟨y2, _⟩ := hok' b _ (un.frzs b ob _ hb)
            rw [e] at y1
            cases y1
            exact y2
          · exact absurd y (nz z mz)
      have grew : ∀ z ∈ cs, ∃ more : Array Value, s'.heap.get? z.2 = some { cls := .none, data := .fields (#[] ++ more) } := by
        intro z mz
        obtain ⟨more, e⟩ := un.tbls z.2 #[] (hT z mz)
        exact ⟨more, hok' z.2 _ e⟩
      refine ⟨rfl, ⟨fun b o e => ?_, fun b o e => ?_⟩, os, bare⟩
      · by_cases y : ∃ z ∈ cs, b = z.2
        · obtain ⟨z, mz, rfl⟩ := y
          obtain ⟨more, e2⟩ := grew z mz
          have ct := ((tC z mz).tab (ps := #[]) (t0 z mz)).isCodeTable
          rw [t0 z mz] at e
          cases e
          exact .inr (.inl ⟨ct, rfl, #[], more, rfl, e2⟩)
        · exact .inl (stay b o (fun z mz k => y ⟨z, mz, k⟩) e)
      · by_cases y : ∃ z ∈ cs, b = z.2
        · obtain ⟨z, mz, rfl⟩ := y
          obtain ⟨more, e2⟩ := grew z mz
          exact ⟨_, e2⟩
        · exact ⟨o, stay b o (fun z mz k => y ⟨z, mz, k⟩) e⟩
end
/-- what the end asks of the law at the heap h -/
def EndGT (l : PySem.W.OpenLaw) (w : World) (K : PySem.W.Frag) (k n : Nat) (x : Str) (mg : Str → Option Value) (fa : Addr) (h : Heap) : Prop := ∃ (fd : FuncData) (cs : List (Addr × Addr)) (sp : Sp),
  (∀ z ∈ cs, h.get? z.2 = some tab0) ∧ (∀ z ∈ cs, K.lookup z.2 = none) ∧ (∀ z ∈ cs, PySem.W.CodeHd h z.1 z.2) ∧ (∀ (s : Shared) (u : Value), BindsTo s fd ⟨[u], []⟩ [(x, u)]) ∧
  (∀ (H : Hp) (a : Addr) (ns : List Int), ns.length ≤ n → (∀ z ∈ cs, H z.2 = some (.tbl #[])) → SqL K H a (ns.map V.int) → sp [.ref a] H (fun v _ => v = .bl true) (fun _ _ _ => False)) ∧
  ∀ base : Heap, K.In base → base.Ns mainGlobals mg → (∀ z ∈ cs, TabB base mg z.1 z.2) → FnG l.prog w K mg base k fa fd [x] sp
theorem walk_ofGT {l : PySem.W.OpenLaw} {n k : Nat} {q : Program} {loose : List Str} {XP : (Str → Option Value) → Heap → Prop} {YP : World → Heap → Prop} {d : DefRec} {K : Params → PySem.W.Frag} {x : Str}
    (hn : l.most = some n) (hn2 : n ≤ sizeLine) (hdf : d.params.defaults = []) (hr : Room k callerA)
    (hY : ∀ (w : World) (h : Heap), YP w h → (K w.params).In h)
    (F : ∀ (w : World) (mg : Str → Option Value) (fa : Addr) (h : Heap), YP w h → (K w.params).In h → h.Ns mainGlobals mg → mg d.name = some (.ref fa) → EndGT l w (K w.params) k n x mg fa h) :
    PySem.W.WalkO q loose XP YP l.row.toRowW d [] (fun f vs => PySem.call f vs) := by
  apply Att.attach_call hn hdf
  intro w s₀ s₁ mg mb fa o pm cd doc a vs ns G Y ho hd hcd hmg ha hi hlen hg
  have KX := hY w _ Y
  obtain ⟨fd, cs, sp, t0, tK, tC, hb, hsp, hF⟩ := F w mg fa _ Y KX G.T.g hmg
  have rv := vals_ints hi
  have len := hi.length
  have hl : ns.length ≤ sizeLine := Nat.le_trans hlen hn2
  have notA : ∀ z ∈ cs, z.2 ≠ a := by
    intro z mz y
    have e := t0 z mz
    rw [y, ha] at e
    cases e
  let HT : Hp := fun b => if ∃ z ∈ cs, b = z.2 then some (.tbl #[]) else none
  have yes : ∀ z ∈ cs, HT z.2 = some (.tbl #[]) := fun z mz => if_pos ⟨z, mz, rfl⟩
  have at_ : ∀ b u, HT b = some u → (∃ z ∈ cs, b = z.2) ∧ u = .tbl #[] := by
    intro b u e
    by_cases y : ∃ z ∈ cs, b = z.2
    · have e2 : HT b = some (.tbl #[]) := if_pos y
      rw [e2] at e
      exact ⟨y, (Option.some.inj e).symm⟩
    · have e2 : HT b = none := if_neg y
      rw [e2] at e
      cases e
  by_cases hk : K w.params |>.lookup a |>.isSome
  · obtain ⟨ob, hob⟩ := Option.isSome_iff_exists.mp hk
    have e := KX a ob hob
    rw [ha] at e
    cases e
    refine core_callGT (H := HT) KX G.T.g G.T.b G.T.builtins G.T.nolimit hg t0 tK tC G.T.bmain ha hr hF hb yes (fun b u e => ?_) (fun b u e => .inr (at_ b u e).1) ?_
    · obtain ⟨⟨z, mz, rfl⟩, rfl⟩ := at_ b u e
      exact t0 z mz
    · refine hsp _ a ns hlen yes (.inr ⟨_, vs.toArray, _, hob, rfl, rfl, rfl, ?_, ?_⟩)
      · rw [List.size_toArray, len]
        exact hl
      · exact rv
  · have hk' : (K w.params).lookup a = none := Option.not_isSome_iff_eq_none.mp hk
    let H0 : Hp := fun b => if b = a then some (.frz { cls := .type "list", data := .seq vs.toArray } (.lst (ns.map V.int))) else HT b
    have h0 : H0 a = some (.frz { cls := .type "list", data := .seq vs.toArray } (.lst (ns.map V.int))) := if_pos rfl
    have h1 : ∀ b, b ≠ a → H0 b = HT b := fun b z => if_neg z
    have yes0 : ∀ z ∈ cs, H0 z.2 = some (.tbl #[]) := fun z mz => (h1 _ (notA z mz)).trans (yes z mz)
    refine core_callGT (H := H0) KX G.T.g G.T.b G.T.builtins G.T.nolimit hg t0 tK tC G.T.bmain ha hr hF hb yes0 ?_ ?_ ?_
    · intro b u e
      by_cases z : b = a
      · subst z
        rw [h0] at e
        cases e
        exact ⟨ha, by rw [List.length_map]; exact hl, vs, _, rv, ha⟩
      · rw [h1 b z] at e
        obtain ⟨⟨y, my, rfl⟩, rfl⟩ := at_ b u e
        exact t0 y my
    · intro b u e
      by_cases z : b = a
      · subst z
        rw [h0] at e
        exact .inl ⟨rfl, hk', _, _, (Option.some.inj e).symm⟩
      · rw [h1 b z] at e
        exact .inr (at_ b u e).1
    · exact hsp _ a ns hlen yes0 (.inl (.inr ⟨_, h0⟩))
end Uq

namespace Uq
open PySem PySem.Spec PyProof.Rows L2 LamX

/-! ### the errors' own __init__; which kinds they are -/
abbrev s_AskedError__init_ : Stmt := inClass (topS 2) 0
abbrev N_AskedError__init_ : List Str := ["self", "value"]
theorem sc_AskedError__init_ : FnScope N_AskedError__init_ ["self", "value"] (defScope s_AskedError__init_) := ⟨rfl, rfl, rfl, by decide +kernel, rfl, by decide +kernel, by decide +kernel⟩
section
variable {P : Program} {w : World} {K : PySem.W.Frag} {mg : Str → Option Value} {base : Heap}
theorem ok_AskedError__init_ {f : Addr} {fd : FuncData} (F : Fun K "__init__" "AskedError.__init__" s_AskedError__init_ f fd) : FnOk P w K mg base CX0 1 f fd ["self", "value"] (sp_init K) := by
  refine F.ok sc_AskedError__init_ (fun vs H Q E h => ?_) (fun cdv A outer s H vs Q E hr h => ?_)
  · obtain ⟨a, C, v, rfl, _⟩ := h
    rfl
  · refine ⟨_, pss_one (ps_ost (f := "value") (pv 0) (pv 1)), ?_⟩
    obtain ⟨a, C, v, rfl, T, e, q⟩ := h
    exact ⟨v, rfl, .ref a, rfl, a, C, rfl, T.T, T.va, .inl ⟨e, fun dx hd hn => q dx hd hn⟩⟩
end
theorem sub_ty {K : PySem.W.Frag} {n : String} {C : Addr} (h : (PySem.fastFind? n).isSome = true) : PySem.W.subIn K (.type n) (.ref C) = some false := by
  unfold PySem.W.subIn
  show (fastBuiltinMro n).map (·.contains (.ref C)) = some false
  unfold fastBuiltinMro
  cases e : PySem.fastFind? n with
  | none => rw [e] at h; cases h
  | some r =>
    show some ((r.mro.map Value.type).contains (.ref C)) = some false
    congr 1
    rw [← Bool.not_eq_true]
    intro z
    obtain ⟨T, _, k⟩ := List.mem_map.mp (List.contains_iff_mem.mp z)
    cases k
theorem kit_none {K : PySem.W.Frag} {D : Addr} {v : PySem.ClassData} (e : PySem.W.clsIn K D = some v) (ty : PySem.W.typeIn K (.ref D) = some (.type "type")) : PySem.W.kitOne K (.type "NoneType") (.ref D) = some false := by
  unfold PySem.W.kitOne
  rw [if_neg (by simp)]
  unfold PySem.W.kitCls
  show (if ((PySem.W.clsIn K D).isSome && PySem.W.typeIn K (.ref D) == some (.type "type")) = true then PySem.W.subIn K (.type "NoneType") (.ref D) else none) = some false
  rw [e, ty, sub_ty (by decide +kernel)]
  rfl
theorem kit_two {K : PySem.W.Frag} {B D : Addr} {v : PySem.ClassData} (ne : B ≠ D) (e : PySem.W.clsIn K D = some v) (ty : PySem.W.typeIn K (.ref D) = some (.type "type")) (s : PySem.W.subIn K (.ref B) (.ref D) = some false) : PySem.W.kitOne K (.ref B) (.ref D) = some false := by
  unfold PySem.W.kitOne
  rw [if_neg (by simp [ne])]
  unfold PySem.W.kitCls
  show (if ((PySem.W.clsIn K D).isSome && PySem.W.typeIn K (.ref D) == some (.type "type")) = true then PySem.W.subIn K (.ref B) (.ref D) else none) = some false
  rw [e, ty, s]
  rfl
end Uq

namespace Uq
open PySem PySem.Spec PyProof.Rows L2 LamX
theorem all_mk {l : PySem.W.OpenLaw} {w : World} {K : PySem.W.Frag} {h : Heap} {mg : Str → Option Value} {fa : Addr} (X : K.In h) (G : h.Ns mainGlobals mg) (hfa : mg "law" = some (.ref fa))
    {tc tP : Addr} {tco : Value} {tcd : Option Addr} {tus : Array Value} {tsl : Array (Option Value)}
    {f_law_cells : Addr} {od_law_cells an_law_cells : Option Addr} {sl_law_cells : Array (Option Value)} {oc_law_cells kV_law_cells dc_law_cells pm_law_cells cd_law_cells ct_law_cells : Value}
    (a_law_cells : PySem.W.nsIn K mainGlobals "_law_cells" = some (some (.ref f_law_cells)))
    (l_law_cells : K.lookup f_law_cells = some ⟨oc_law_cells, od_law_cells, .func (PySem.W.fnOf "_law_cells" "_law_cells" (defArgs s_law_cells) (defBody s_law_cells) (defScope s_law_cells) .none kV_law_cells dc_law_cells pm_law_cells an_law_cells cd_law_cells ct_law_cells), sl_law_cells⟩)
    (k_law_cells : PySem.W.codeIn K cd_law_cells "_law_cells" = true)
    (p_law_cells : PySem.W.keepIn K (.ref f_law_cells) = true)
    {f_AskedError__init_ : Addr} {od_AskedError__init_ an_AskedError__init_ : Option Addr} {sl_AskedError__init_ : Array (Option Value)} {oc_AskedError__init_ kV_AskedError__init_ dc_AskedError__init_ pm_AskedError__init_ cd_AskedError__init_ ct_AskedError__init_ : Value}
    (l_AskedError__init_ : K.lookup f_AskedError__init_ = some ⟨oc_AskedError__init_, od_AskedError__init_, .func (PySem.W.fnOf "__init__" "AskedError.__init__" (defArgs s_AskedError__init_) (defBody s_AskedError__init_) (defScope s_AskedError__init_) .none kV_AskedError__init_ dc_AskedError__init_ pm_AskedError__init_ an_AskedError__init_ cd_AskedError__init_ ct_AskedError__init_), sl_AskedError__init_⟩)
    (k_AskedError__init_ : PySem.W.codeIn K cd_AskedError__init_ "AskedError.__init__" = true)
    (p_AskedError__init_ : PySem.W.keepIn K (.ref f_AskedError__init_) = true)
    {f_is_integerX : Addr} {od_is_integerX an_is_integerX : Option Addr} {sl_is_integerX : Array (Option Value)} {oc_is_integerX kV_is_integerX dc_is_integerX pm_is_integerX cd_is_integerX ct_is_integerX : Value}
    (a_is_integerX : PySem.W.nsIn K mainGlobals "is_integer" = some (some (.ref f_is_integerX)))
    (l_is_integerX : K.lookup f_is_integerX = some ⟨oc_is_integerX, od_is_integerX, .func (PySem.W.fnOf "is_integer" "is_integer" (defArgs s_is_integer) (defBody s_is_integer) (defScope s_is_integer) .none kV_is_integerX dc_is_integerX pm_is_integerX an_is_integerX cd_is_integerX ct_is_integerX), sl_is_integerX⟩)
    (k_is_integerX : PySem.W.codeIn K cd_is_integerX "is_integer" = true)
    (p_is_integerX : PySem.W.keepIn K (.ref f_is_integerX) = true)
    {f_is_unitsX : Addr} {od_is_unitsX an_is_unitsX : Option Addr} {sl_is_unitsX : Array (Option Value)} {oc_is_unitsX kV_is_unitsX dc_is_unitsX pm_is_unitsX cd_is_unitsX ct_is_unitsX : Value}
    (a_is_unitsX : PySem.W.nsIn K mainGlobals "is_units" = some (some (.ref f_is_unitsX)))
    (l_is_unitsX : K.lookup f_is_unitsX = some ⟨oc_is_unitsX, od_is_unitsX, .func (PySem.W.fnOf "is_units" "is_units" (defArgs s_is_units) (defBody s_is_units) (defScope s_is_units) .none kV_is_unitsX dc_is_unitsX pm_is_unitsX an_is_unitsX cd_is_unitsX ct_is_unitsX), sl_is_unitsX⟩)
    (k_is_unitsX : PySem.W.codeIn K cd_is_unitsX "is_units" = true)
    (p_is_unitsX : PySem.W.keepIn K (.ref f_is_unitsX) = true)
    {f_rounded : Addr} {od_rounded an_rounded : Option Addr} {sl_rounded : Array (Option Value)} {oc_rounded kV_rounded dc_rounded pm_rounded cd_rounded ct_rounded : Value}
    (a_rounded : PySem.W.nsIn K mainGlobals "rounded" = some (some (.ref f_rounded)))
    (l_rounded : K.lookup f_rounded = some ⟨oc_rounded, od_rounded, .func (PySem.W.fnOf "rounded" "rounded" (defArgs s_rounded) (defBody s_rounded) (defScope s_rounded) .none kV_rounded dc_rounded pm_rounded an_rounded cd_rounded ct_rounded), sl_rounded⟩)
    (k_rounded : PySem.W.codeIn K cd_rounded "rounded" = true)
    (p_rounded : PySem.W.keepIn K (.ref f_rounded) = true)
    {f_shownX : Addr} {od_shownX an_shownX : Option Addr} {sl_shownX : Array (Option Value)} {oc_shownX kV_shownX dc_shownX pm_shownX cd_shownX ct_shownX : Value}
    (a_shownX : PySem.W.nsIn K mainGlobals "shown" = some (some (.ref f_shownX)))
    (l_shownX : K.lookup f_shownX = some ⟨oc_shownX, od_shownX, .func (PySem.W.fnOf "shown" "shown" (defArgs s_shown) (defBody s_shown) (defScope s_shown) .none kV_shownX dc_shownX pm_shownX an_shownX cd_shownX ct_shownX), sl_shownX⟩)
    (k_shownX : PySem.W.codeIn K cd_shownX "shown" = true)
    (p_shownX : PySem.W.keepIn K (.ref f_shownX) = true)
    {f_is_shareX : Addr} {od_is_shareX an_is_shareX : Option Addr} {sl_is_shareX : Array (Option Value)} {oc_is_shareX kV_is_shareX dc_is_shareX pm_is_shareX cd_is_shareX ct_is_shareX : Value}
    (a_is_shareX : PySem.W.nsIn K mainGlobals "is_share" = some (some (.ref f_is_shareX)))
    (l_is_shareX : K.lookup f_is_shareX = some ⟨oc_is_shareX, od_is_shareX, .func (PySem.W.fnOf "is_share" "is_share" (defArgs s_is_share) (defBody s_is_share) (defScope s_is_share) .none kV_is_shareX dc_is_shareX pm_is_shareX an_is_shareX cd_is_shareX ct_is_shareX), sl_is_shareX⟩)
    (k_is_shareX : PySem.W.codeIn K cd_is_shareX "is_share" = true)
    (p_is_shareX : PySem.W.keepIn K (.ref f_is_shareX) = true)
    {f_reach : Addr} {od_reach an_reach : Option Addr} {sl_reach : Array (Option Value)} {oc_reach kV_reach dc_reach pm_reach cd_reach ct_reach : Value}
    (a_reach : PySem.W.nsIn K mainGlobals "reach" = some (some (.ref f_reach)))
    (l_reach : K.lookup f_reach = some ⟨oc_reach, od_reach, .func (PySem.W.fnOf "reach" "reach" (defArgs s_reach) (defBody s_reach) (defScope s_reach) .none kV_reach dc_reach pm_reach an_reach cd_reach ct_reach), sl_reach⟩)
    (k_reach : PySem.W.codeIn K cd_reach "reach" = true)
    (p_reach : PySem.W.keepIn K (.ref f_reach) = true)
    {f_least_terms : Addr} {od_least_terms an_least_terms : Option Addr} {sl_least_terms : Array (Option Value)} {oc_least_terms kV_least_terms dc_least_terms pm_least_terms cd_least_terms ct_least_terms : Value}
    (a_least_terms : PySem.W.nsIn K mainGlobals "least_terms" = some (some (.ref f_least_terms)))
    (l_least_terms : K.lookup f_least_terms = some ⟨oc_least_terms, od_least_terms, .func (PySem.W.fnOf "least_terms" "least_terms" (defArgs s_least_terms) (defBody s_least_terms) (defScope s_least_terms) .none kV_least_terms dc_least_terms pm_least_terms an_least_terms cd_least_terms ct_least_terms), sl_least_terms⟩)
    (k_least_terms : PySem.W.codeIn K cd_least_terms "least_terms" = true)
    (p_least_terms : PySem.W.keepIn K (.ref f_least_terms) = true)
    {f_stretchX : Addr} {od_stretchX an_stretchX : Option Addr} {sl_stretchX : Array (Option Value)} {oc_stretchX kV_stretchX dc_stretchX pm_stretchX cd_stretchX ct_stretchX : Value}
    (a_stretchX : PySem.W.nsIn K mainGlobals "stretch" = some (some (.ref f_stretchX)))
    (l_stretchX : K.lookup f_stretchX = some ⟨oc_stretchX, od_stretchX, .func (PySem.W.fnOf "stretch" "stretch" (defArgs s_stretch) (defBody s_stretch) (defScope s_stretch) .none kV_stretchX dc_stretchX pm_stretchX an_stretchX cd_stretchX ct_stretchX), sl_stretchX⟩)
    (k_stretchX : PySem.W.codeIn K cd_stretchX "stretch" = true)
    (p_stretchX : PySem.W.keepIn K (.ref f_stretchX) = true)
    {f_law_told : Addr} {od_law_told an_law_told : Option Addr} {sl_law_told : Array (Option Value)} {oc_law_told kV_law_told dc_law_told pm_law_told cd_law_told ct_law_told : Value}
    (a_law_told : PySem.W.nsIn K mainGlobals "_law_told" = some (some (.ref f_law_told)))
    (l_law_told : K.lookup f_law_told = some ⟨oc_law_told, od_law_told, .func (PySem.W.fnOf "_law_told" "_law_told" (defArgs s_law_told) (defBody s_law_told) (defScope s_law_told) .none kV_law_told dc_law_told pm_law_told an_law_told cd_law_told ct_law_told), sl_law_told⟩)
    (k_law_told : PySem.W.codeIn K cd_law_told "_law_told" = true)
    (p_law_told : PySem.W.keepIn K (.ref f_law_told) = true)
    {f_law_is_due : Addr} {od_law_is_due an_law_is_due : Option Addr} {sl_law_is_due : Array (Option Value)} {oc_law_is_due kV_law_is_due dc_law_is_due pm_law_is_due cd_law_is_due ct_law_is_due : Value}
    (a_law_is_due : PySem.W.nsIn K mainGlobals "_law_is_due" = some (some (.ref f_law_is_due)))
    (l_law_is_due : K.lookup f_law_is_due = some ⟨oc_law_is_due, od_law_is_due, .func (PySem.W.fnOf "_law_is_due" "_law_is_due" (defArgs s_law_is_due) (defBody s_law_is_due) (defScope s_law_is_due) .none kV_law_is_due dc_law_is_due pm_law_is_due an_law_is_due cd_law_is_due ct_law_is_due), sl_law_is_due⟩)
    (k_law_is_due : PySem.W.codeIn K cd_law_is_due "_law_is_due" = true)
    (p_law_is_due : PySem.W.keepIn K (.ref f_law_is_due) = true)
    {f_law_take : Addr} {od_law_take an_law_take : Option Addr} {sl_law_take : Array (Option Value)} {oc_law_take kV_law_take dc_law_take pm_law_take cd_law_take ct_law_take : Value}
    (a_law_take : PySem.W.nsIn K mainGlobals "_law_take" = some (some (.ref f_law_take)))
    (l_law_take : K.lookup f_law_take = some ⟨oc_law_take, od_law_take, .func (PySem.W.fnOf "_law_take" "_law_take" (defArgs s_law_take) (defBody s_law_take) (defScope s_law_take) .none kV_law_take dc_law_take pm_law_take an_law_take cd_law_take ct_law_take), sl_law_take⟩)
    (k_law_take : PySem.W.codeIn K cd_law_take "_law_take" = true)
    (p_law_take : PySem.W.keepIn K (.ref f_law_take) = true)
    {f_law_of : Addr} {od_law_of an_law_of : Option Addr} {sl_law_of : Array (Option Value)} {oc_law_of kV_law_of dc_law_of pm_law_of cd_law_of ct_law_of : Value}
    (a_law_of : PySem.W.nsIn K mainGlobals "_law_of" = some (some (.ref f_law_of)))
    (l_law_of : K.lookup f_law_of = some ⟨oc_law_of, od_law_of, .func (PySem.W.fnOf "_law_of" "_law_of" (defArgs s_law_of) (defBody s_law_of) (defScope s_law_of) .none kV_law_of dc_law_of pm_law_of an_law_of cd_law_of ct_law_of), sl_law_of⟩)
    (k_law_of : PySem.W.codeIn K cd_law_of "_law_of" = true)
    (p_law_of : PySem.W.keepIn K (.ref f_law_of) = true)
    {f_law_units : Addr} {od_law_units an_law_units : Option Addr} {sl_law_units : Array (Option Value)} {oc_law_units kV_law_units dc_law_units pm_law_units cd_law_units ct_law_units : Value}
    (a_law_units : PySem.W.nsIn K mainGlobals "_law_units" = some (some (.ref f_law_units)))
    (l_law_units : K.lookup f_law_units = some ⟨oc_law_units, od_law_units, .func (PySem.W.fnOf "_law_units" "_law_units" (defArgs s_law_units) (defBody s_law_units) (defScope s_law_units) .none kV_law_units dc_law_units pm_law_units an_law_units cd_law_units ct_law_units), sl_law_units⟩)
    (k_law_units : PySem.W.codeIn K cd_law_units "_law_units" = true)
    (p_law_units : PySem.W.keepIn K (.ref f_law_units) = true)
    {f_law_odd : Addr} {od_law_odd an_law_odd : Option Addr} {sl_law_odd : Array (Option Value)} {oc_law_odd kV_law_odd dc_law_odd pm_law_odd cd_law_odd ct_law_odd : Value}
    (a_law_odd : PySem.W.nsIn K mainGlobals "_law_odd" = some (some (.ref f_law_odd)))
    (l_law_odd : K.lookup f_law_odd = some ⟨oc_law_odd, od_law_odd, .func (PySem.W.fnOf "_law_odd" "_law_odd" (defArgs s_law_odd) (defBody s_law_odd) (defScope s_law_odd) .none kV_law_odd dc_law_odd pm_law_odd an_law_odd cd_law_odd ct_law_odd), sl_law_odd⟩)
    (k_law_odd : PySem.W.codeIn K cd_law_odd "_law_odd" = true)
    (p_law_odd : PySem.W.keepIn K (.ref f_law_odd) = true)
    {f_law_bentA : Addr} {od_law_bentA an_law_bentA : Option Addr} {sl_law_bentA : Array (Option Value)} {oc_law_bentA kV_law_bentA dc_law_bentA pm_law_bentA cd_law_bentA ct_law_bentA : Value}
    (a_law_bentA : PySem.W.nsIn K mainGlobals "_law_bent" = some (some (.ref f_law_bentA)))
    (l_law_bentA : K.lookup f_law_bentA = some ⟨oc_law_bentA, od_law_bentA, .func (PySem.W.fnOf "_law_bent" "_law_bent" (defArgs s_law_bent) (defBody s_law_bent) (defScope s_law_bent) .none kV_law_bentA dc_law_bentA pm_law_bentA an_law_bentA cd_law_bentA ct_law_bentA), sl_law_bentA⟩)
    (k_law_bentA : PySem.W.codeIn K cd_law_bentA "_law_bent" = true)
    (p_law_bentA : PySem.W.keepIn K (.ref f_law_bentA) = true)
    {f_law_bentB : Addr} {od_law_bentB an_law_bentB : Option Addr} {sl_law_bentB : Array (Option Value)} {oc_law_bentB kV_law_bentB dc_law_bentB pm_law_bentB cd_law_bentB ct_law_bentB : Value}
    (a_law_bentB : PySem.W.nsIn K mainGlobals "_law_bent" = some (some (.ref f_law_bentB)))
    (l_law_bentB : K.lookup f_law_bentB = some ⟨oc_law_bentB, od_law_bentB, .func (PySem.W.fnOf "_law_bent" "_law_bent" (defArgs s_law_bent) (defBody s_law_bent) (defScope s_law_bent) .none kV_law_bentB dc_law_bentB pm_law_bentB an_law_bentB cd_law_bentB ct_law_bentB), sl_law_bentB⟩)
    (k_law_bentB : PySem.W.codeIn K cd_law_bentB "_law_bent" = true)
    (p_law_bentB : PySem.W.keepIn K (.ref f_law_bentB) = true)
    {f_law_is_int : Addr} {od_law_is_int an_law_is_int : Option Addr} {sl_law_is_int : Array (Option Value)} {oc_law_is_int kV_law_is_int dc_law_is_int pm_law_is_int cd_law_is_int ct_law_is_int : Value}
    (a_law_is_int : PySem.W.nsIn K mainGlobals "_law_is_int" = some (some (.ref f_law_is_int)))
    (l_law_is_int : K.lookup f_law_is_int = some ⟨oc_law_is_int, od_law_is_int, .func (PySem.W.fnOf "_law_is_int" "_law_is_int" (defArgs s_law_is_int) (defBody s_law_is_int) (defScope s_law_is_int) .none kV_law_is_int dc_law_is_int pm_law_is_int an_law_is_int cd_law_is_int ct_law_is_int), sl_law_is_int⟩)
    (k_law_is_int : PySem.W.codeIn K cd_law_is_int "_law_is_int" = true)
    (p_law_is_int : PySem.W.keepIn K (.ref f_law_is_int) = true)
    {f_law_is_units : Addr} {od_law_is_units an_law_is_units : Option Addr} {sl_law_is_units : Array (Option Value)} {oc_law_is_units kV_law_is_units dc_law_is_units pm_law_is_units cd_law_is_units ct_law_is_units : Value}
    (a_law_is_units : PySem.W.nsIn K mainGlobals "_law_is_units" = some (some (.ref f_law_is_units)))
    (l_law_is_units : K.lookup f_law_is_units = some ⟨oc_law_is_units, od_law_is_units, .func (PySem.W.fnOf "_law_is_units" "_law_is_units" (defArgs s_law_is_units) (defBody s_law_is_units) (defScope s_law_is_units) .none kV_law_is_units dc_law_is_units pm_law_is_units an_law_is_units cd_law_is_units ct_law_is_units), sl_law_is_units⟩)
    (k_law_is_units : PySem.W.codeIn K cd_law_is_units "_law_is_units" = true)
    (p_law_is_units : PySem.W.keepIn K (.ref f_law_is_units) = true)
    {f_law_shown_due : Addr} {od_law_shown_due an_law_shown_due : Option Addr} {sl_law_shown_due : Array (Option Value)} {oc_law_shown_due kV_law_shown_due dc_law_shown_due pm_law_shown_due cd_law_shown_due ct_law_shown_due : Value}
    (a_law_shown_due : PySem.W.nsIn K mainGlobals "_law_shown_due" = some (some (.ref f_law_shown_due)))
    (l_law_shown_due : K.lookup f_law_shown_due = some ⟨oc_law_shown_due, od_law_shown_due, .func (PySem.W.fnOf "_law_shown_due" "_law_shown_due" (defArgs s_law_shown_due) (defBody s_law_shown_due) (defScope s_law_shown_due) .none kV_law_shown_due dc_law_shown_due pm_law_shown_due an_law_shown_due cd_law_shown_due ct_law_shown_due), sl_law_shown_due⟩)
    (k_law_shown_due : PySem.W.codeIn K cd_law_shown_due "_law_shown_due" = true)
    (p_law_shown_due : PySem.W.keepIn K (.ref f_law_shown_due) = true)
    {f_law_stretch_due : Addr} {od_law_stretch_due an_law_stretch_due : Option Addr} {sl_law_stretch_due : Array (Option Value)} {oc_law_stretch_due kV_law_stretch_due dc_law_stretch_due pm_law_stretch_due cd_law_stretch_due ct_law_stretch_due : Value}
    (a_law_stretch_due : PySem.W.nsIn K mainGlobals "_law_stretch_due" = some (some (.ref f_law_stretch_due)))
    (l_law_stretch_due : K.lookup f_law_stretch_due = some ⟨oc_law_stretch_due, od_law_stretch_due, .func (PySem.W.fnOf "_law_stretch_due" "_law_stretch_due" (defArgs s_law_stretch_due) (defBody s_law_stretch_due) (defScope s_law_stretch_due) .none kV_law_stretch_due dc_law_stretch_due pm_law_stretch_due an_law_stretch_due cd_law_stretch_due ct_law_stretch_due), sl_law_stretch_due⟩)
    (k_law_stretch_due : PySem.W.codeIn K cd_law_stretch_due "_law_stretch_due" = true)
    (p_law_stretch_due : PySem.W.keepIn K (.ref f_law_stretch_due) = true)
    {f_law_right : Addr} {od_law_right an_law_right : Option Addr} {sl_law_right : Array (Option Value)} {oc_law_right kV_law_right dc_law_right pm_law_right ct_law_right : Value}
    (a_law_right : PySem.W.nsIn K mainGlobals "_law_right" = some (some (.ref f_law_right)))
    (l_law_right : K.lookup f_law_right = some ⟨oc_law_right, od_law_right, .func (PySem.W.fnOf "_law_right" "_law_right" (defArgs s_law_right) (defBody s_law_right) (defScope s_law_right) .none kV_law_right dc_law_right pm_law_right an_law_right (.ref tc) ct_law_right), sl_law_right⟩)
    (k_law_right : PySem.W.codeIn K (.ref tc) "_law_right" = true)
    (p_law_right : PySem.W.keepIn K (.ref f_law_right) = true)
    {f_law_pot : Addr} {od_law_pot an_law_pot : Option Addr} {sl_law_pot : Array (Option Value)} {oc_law_pot kV_law_pot dc_law_pot pm_law_pot cd_law_pot ct_law_pot : Value}
    (a_law_pot : PySem.W.nsIn K mainGlobals "_law_pot" = some (some (.ref f_law_pot)))
    (l_law_pot : K.lookup f_law_pot = some ⟨oc_law_pot, od_law_pot, .func (PySem.W.fnOf "_law_pot" "_law_pot" (defArgs s_law_pot) (defBody s_law_pot) (defScope s_law_pot) .none kV_law_pot dc_law_pot pm_law_pot an_law_pot cd_law_pot ct_law_pot), sl_law_pot⟩)
    (k_law_pot : PySem.W.codeIn K cd_law_pot "_law_pot" = true)
    (p_law_pot : PySem.W.keepIn K (.ref f_law_pot) = true)
    {f_law : Addr} {od_law an_law : Option Addr} {sl_law : Array (Option Value)} {oc_law kV_law dc_law pm_law cd_law ct_law : Value}
    (a_law : PySem.W.nsIn K mainGlobals "law" = some (some (.ref f_law)))
    (l_law : K.lookup f_law = some ⟨oc_law, od_law, .func (PySem.W.fnOf "law" "law" (defArgs s_law) (defBody s_law) (defScope s_law) .none kV_law dc_law pm_law an_law cd_law ct_law), sl_law⟩)
    (k_law : PySem.W.codeIn K cd_law "law" = true)
    (p_law : PySem.W.keepIn K (.ref f_law) = true)
    (z_range : PySem.W.nsIn K mainGlobals "range" = some none)
    (z_max : PySem.W.nsIn K mainGlobals "max" = some none)
    (z_min : PySem.W.nsIn K mainGlobals "min" = some none)
    (z_len : PySem.W.nsIn K mainGlobals "len" = some none)
    (z_list : PySem.W.nsIn K mainGlobals "list" = some none)
    (z_isinstance : PySem.W.nsIn K mainGlobals "isinstance" = some none)
    (z_int : PySem.W.nsIn K mainGlobals "int" = some none)
    (z_bool : PySem.W.nsIn K mainGlobals "bool" = some none)
    (z_tuple : PySem.W.nsIn K mainGlobals "tuple" = some none)
    (z_str : PySem.W.nsIn K mainGlobals "str" = some none)
    (z_divmod : PySem.W.nsIn K mainGlobals "divmod" = some none)
    (z_repr : PySem.W.nsIn K mainGlobals "repr" = some none)
    (z_abs : PySem.W.nsIn K mainGlobals "abs" = some none)
    (z_all : PySem.W.nsIn K mainGlobals "all" = some none)
    (T_hn : PySem.W.specialIn K (.builtin "object.__class__") "__get__" = some (some (.builtin "getset_descriptor.__get__")))
    (T_htk : PySem.W.takesIn K (.builtin "object.__class__") = some true)
    {BU : Addr}
    (a_BU : PySem.W.nsIn K mainGlobals "BadUnits" = some (some (.ref BU)))
    {BC : Addr}
    (a_BC : PySem.W.nsIn K mainGlobals "BadCount" = some (some (.ref BC)))
    {BS : Addr}
    (a_BS : PySem.W.nsIn K mainGlobals "BadShare" = some (some (.ref BS)))
    {CA : Addr}
    (a_CA : PySem.W.nsIn K mainGlobals "AskedError" = some (some (.ref CA)))
    {xclA : PySem.ClassData}
    (xc_xA : PySem.W.subIn K (.ref CA) (.type "BaseException") = some true)
    (xc_yA : PySem.W.typeIn K (.ref CA) = some (.type "type"))
    (xc_cA : PySem.W.clsIn K CA = some xclA)
    {xN_BU : Addr} {xnm_BU xq_BU : Str} {xbs_BU xbm_BU xsub_BU : List Value} {xsn_BU : List Str} {xab_BU : Bool} {xcol_BU : Option Bool} {xdd_BU : Option Addr} {x0_BU x1_BU x2_BU x3_BU x5_BU : Option Value} {xcl_BU : PySem.ClassData}
    (x_BU : K.lookup BU = some (excClassObj xnm_BU xq_BU BU xN_BU xbs_BU xbm_BU true xsn_BU xsub_BU xab_BU xcol_BU xdd_BU x0_BU x1_BU x2_BU x3_BU x5_BU "ValueError.__new__"))
    (rf_BU : PySem.HandSPX.refsVE xbm_BU = true)
    (xc_sa_BU : PySem.W.findIn K (.ref BU) "__setattr__" = some (some (.builtin "object.__setattr__")))
    (xc_ex_BU : PySem.W.subIn K (.ref BU) (.type "BaseException") = some true)
    (xc_ty_BU : PySem.W.typeIn K (.ref BU) = some (.type "type"))
    (xc_kp_BU : PySem.W.keepIn K (.ref BU) = true)
    (xc_ga_BU : PySem.W.findIn K (.ref BU) "__getattribute__" = some (some (.builtin "BaseException.__getattribute__")))
    (xc_gg_BU : PySem.W.findIn K (.ref BU) "__getattr__" = some none)
    (xc_hd_BU : PySem.W.hasDictIn K BU = true)
    (xc_cl_BU : PySem.W.findIn K (.ref BU) "__class__" = some (some (.builtin "object.__class__")))
    (xc_mo_BU : PySem.W.mroIn K BU (.type "object") = some true)
    (xc_va_BU : PySem.W.findIn K (.ref BU) "value" = some none)
    (xc_in_BU : PySem.W.findIn K (.ref BU) "__init__" = some (some (.ref f_AskedError__init_)))
    (xc_sA_BU : PySem.W.subIn K (.ref BU) (.ref CA) = some true)
    (xc_cs_BU : PySem.W.clsIn K BU = some xcl_BU)
    {xN_BC : Addr} {xnm_BC xq_BC : Str} {xbs_BC xbm_BC xsub_BC : List Value} {xsn_BC : List Str} {xab_BC : Bool} {xcol_BC : Option Bool} {xdd_BC : Option Addr} {x0_BC x1_BC x2_BC x3_BC x5_BC : Option Value} {xcl_BC : PySem.ClassData}
    (x_BC : K.lookup BC = some (excClassObj xnm_BC xq_BC BC xN_BC xbs_BC xbm_BC true xsn_BC xsub_BC xab_BC xcol_BC xdd_BC x0_BC x1_BC x2_BC x3_BC x5_BC "ValueError.__new__"))
    (rf_BC : PySem.HandSPX.refsVE xbm_BC = true)
    (xc_sa_BC : PySem.W.findIn K (.ref BC) "__setattr__" = some (some (.builtin "object.__setattr__")))
    (xc_ex_BC : PySem.W.subIn K (.ref BC) (.type "BaseException") = some true)
    (xc_ty_BC : PySem.W.typeIn K (.ref BC) = some (.type "type"))
    (xc_kp_BC : PySem.W.keepIn K (.ref BC) = true)
    (xc_ga_BC : PySem.W.findIn K (.ref BC) "__getattribute__" = some (some (.builtin "BaseException.__getattribute__")))
    (xc_gg_BC : PySem.W.findIn K (.ref BC) "__getattr__" = some none)
    (xc_hd_BC : PySem.W.hasDictIn K BC = true)
    (xc_cl_BC : PySem.W.findIn K (.ref BC) "__class__" = some (some (.builtin "object.__class__")))
    (xc_mo_BC : PySem.W.mroIn K BC (.type "object") = some true)
    (xc_va_BC : PySem.W.findIn K (.ref BC) "value" = some none)
    (xc_in_BC : PySem.W.findIn K (.ref BC) "__init__" = some (some (.ref f_AskedError__init_)))
    (xc_sA_BC : PySem.W.subIn K (.ref BC) (.ref CA) = some true)
    (xc_cs_BC : PySem.W.clsIn K BC = some xcl_BC)
    {xN_BS : Addr} {xnm_BS xq_BS : Str} {xbs_BS xbm_BS xsub_BS : List Value} {xsn_BS : List Str} {xab_BS : Bool} {xcol_BS : Option Bool} {xdd_BS : Option Addr} {x0_BS x1_BS x2_BS x3_BS x5_BS : Option Value} {xcl_BS : PySem.ClassData}
    (x_BS : K.lookup BS = some (excClassObj xnm_BS xq_BS BS xN_BS xbs_BS xbm_BS true xsn_BS xsub_BS xab_BS xcol_BS xdd_BS x0_BS x1_BS x2_BS x3_BS x5_BS "ValueError.__new__"))
    (rf_BS : PySem.HandSPX.refsVE xbm_BS = true)
    (xc_sa_BS : PySem.W.findIn K (.ref BS) "__setattr__" = some (some (.builtin "object.__setattr__")))
    (xc_ex_BS : PySem.W.subIn K (.ref BS) (.type "BaseException") = some true)
    (xc_ty_BS : PySem.W.typeIn K (.ref BS) = some (.type "type"))
    (xc_kp_BS : PySem.W.keepIn K (.ref BS) = true)
    (xc_ga_BS : PySem.W.findIn K (.ref BS) "__getattribute__" = some (some (.builtin "BaseException.__getattribute__")))
    (xc_gg_BS : PySem.W.findIn K (.ref BS) "__getattr__" = some none)
    (xc_hd_BS : PySem.W.hasDictIn K BS = true)
    (xc_cl_BS : PySem.W.findIn K (.ref BS) "__class__" = some (some (.builtin "object.__class__")))
    (xc_mo_BS : PySem.W.mroIn K BS (.type "object") = some true)
    (xc_va_BS : PySem.W.findIn K (.ref BS) "value" = some none)
    (xc_in_BS : PySem.W.findIn K (.ref BS) "__init__" = some (some (.ref f_AskedError__init_)))
    (xc_sA_BS : PySem.W.subIn K (.ref BS) (.ref CA) = some true)
    (xc_cs_BS : PySem.W.clsIn K BS = some xcl_BS)
    (ne_BU_BC : BU ≠ BC)
    (xs_BU_BC : PySem.W.subIn K (.ref BU) (.ref BC) = some false)
    (ne_BU_BS : BU ≠ BS)
    (xs_BU_BS : PySem.W.subIn K (.ref BU) (.ref BS) = some false)
    (ne_BC_BU : BC ≠ BU)
    (xs_BC_BU : PySem.W.subIn K (.ref BC) (.ref BU) = some false)
    (ne_BC_BS : BC ≠ BS)
    (xs_BC_BS : PySem.W.subIn K (.ref BC) (.ref BS) = some false)
    (ne_BS_BU : BS ≠ BU)
    (xs_BS_BU : PySem.W.subIn K (.ref BS) (.ref BU) = some false)
    (ne_BS_BC : BS ≠ BC)
    (xs_BS_BC : PySem.W.subIn K (.ref BS) (.ref BC) = some false)
    (xc_ft : PySem.W.typeIn K (.ref f_AskedError__init_) = some (.type "function"))
    (tb_l : K.lookup tc = some ⟨tco, tcd, .fields tus, tsl⟩)
    (tb_v : tus[11]? = some (.ref tP))
    (tb_n : K.lookup tP = none) (tb_c : PySem.W.codeHdIn K tc tP = true) (tb_0 : h.get? tP = some tab0)
    {e_HOWS : Addr} {ed_HOWS : Option Addr} {ei_HOWS : Array Value} {en_HOWS : Nat} {es_HOWS : Array (Option Value)}
    (a_HOWS : PySem.W.nsIn K mainGlobals "HOWS" = some (some (.ref e_HOWS)))
    (l_HOWS : K.lookup e_HOWS = some ⟨.type "tuple", ed_HOWS, .seq ei_HOWS en_HOWS, es_HOWS⟩)
    (v_HOWS : ei_HOWS.size ≤ sizeLine ∧ Vals hows ei_HOWS.toList)
    {e_WORDS : Addr} {ed_WORDS : Option Addr} {ei_WORDS : Array Value} {en_WORDS : Nat} {es_WORDS : Array (Option Value)}
    (a_WORDS : PySem.W.nsIn K mainGlobals "WORDS" = some (some (.ref e_WORDS)))
    (l_WORDS : K.lookup e_WORDS = some ⟨.type "tuple", ed_WORDS, .seq ei_WORDS en_WORDS, es_WORDS⟩)
    (v_WORDS : ei_WORDS.size ≤ sizeLine ∧ Vals words ei_WORDS.toList)
    (a_gcd : PySem.W.nsIn K mainGlobals "gcd" = some (some (.builtin "math.gcd")))
    : EndGT l w K 10 63 "_law_script" mg fa h := by
  have e := hfa.symm.trans (PySem.W.mg_of X G a_law)
  cases e
  have tb9 : PySem.W.CodeHd h tc tP := PySem.W.codeHd_of_K X tb_c
  refine ⟨PySem.W.fnOf "law" "law" (defArgs s_law) (defBody s_law) (defScope s_law) .none kV_law dc_law pm_law an_law cd_law ct_law, [(tc, tP)], sp_lawX K tP, fun z m => by rw [List.mem_singleton.mp m]; exact tb_0, fun z m => by rw [List.mem_singleton.mp m]; exact tb_n, fun z m => by rw [List.mem_singleton.mp m]; exact tb9, fun s v => .of_eq rfl, fun H a ns hl hH hS => ⟨a, ns, rfl, hS, hl, fun z m => by rw [List.mem_singleton.mp m]; exact TabS.nil (hH _ (.head _)), fun _ => rfl⟩, fun base _ _ TBs => ?_⟩
  have TB9 : TabB base mg tc tP := TBs _ (.head _)
  have m_range : mg "range" = none := PySem.W.mg_none_of X G z_range
  have m_max : mg "max" = none := PySem.W.mg_none_of X G z_max
  have m_min : mg "min" = none := PySem.W.mg_none_of X G z_min
  have m_len : mg "len" = none := PySem.W.mg_none_of X G z_len
  have m_list : mg "list" = none := PySem.W.mg_none_of X G z_list
  have m_isinstance : mg "isinstance" = none := PySem.W.mg_none_of X G z_isinstance
  have m_int : mg "int" = none := PySem.W.mg_none_of X G z_int
  have m_bool : mg "bool" = none := PySem.W.mg_none_of X G z_bool
  have m_tuple : mg "tuple" = none := PySem.W.mg_none_of X G z_tuple
  have m_str : mg "str" = none := PySem.W.mg_none_of X G z_str
  have m_divmod : mg "divmod" = none := PySem.W.mg_none_of X G z_divmod
  have m_repr : mg "repr" = none := PySem.W.mg_none_of X G z_repr
  have m_abs : mg "abs" = none := PySem.W.mg_none_of X G z_abs
  have m_all : mg "all" = none := PySem.W.mg_none_of X G z_all
  have g_HOWS : mg "HOWS" = some (.ref e_HOWS) := PySem.W.mg_of X G a_HOWS
  have t_HOWS : TupK K e_HOWS hows := ⟨_, _, _, l_HOWS, rfl, rfl, v_HOWS.1, v_HOWS.2⟩
  have g_WORDS : mg "WORDS" = some (.ref e_WORDS) := PySem.W.mg_of X G a_WORDS
  have t_WORDS : TupK K e_WORDS words := ⟨_, _, _, l_WORDS, rfl, rfl, v_WORDS.1, v_WORDS.2⟩
  have g_gcd : mg "gcd" = some (.builtin "math.gcd") := PySem.W.mg_of X G a_gcd
  have g_BU : mg "BadUnits" = some (.ref BU) := PySem.W.mg_of X G a_BU
  have g_BC : mg "BadCount" = some (.ref BC) := PySem.W.mg_of X G a_BC
  have g_BS : mg "BadShare" = some (.ref BS) := PySem.W.mg_of X G a_BS
  have g_CA : mg "AskedError" = some (.ref CA) := PySem.W.mg_of X G a_CA
  have xm_BU : PySem.W.exmOne K (.ref BU) (.ref CA) = some true := by simp only [PySem.W.exmOne, PySem.W.kitCls, xc_xA, xc_yA, xc_sA_BU, xc_cA]; rfl
  have X9BU : Xcl K BU := ⟨⟨⟨_, _, _, _, _, _, _, _, _, _, _, _, _, _, _, x_BU, rf_BU⟩, xc_sa_BU, xc_ex_BU, xc_ty_BU, xc_kp_BU⟩, xc_ga_BU, xc_gg_BU, xc_hd_BU, xc_cl_BU, T_hn, T_htk, xc_mo_BU, xc_va_BU⟩
  have xm_BC : PySem.W.exmOne K (.ref BC) (.ref CA) = some true := by simp only [PySem.W.exmOne, PySem.W.kitCls, xc_xA, xc_yA, xc_sA_BC, xc_cA]; rfl
  have X9BC : Xcl K BC := ⟨⟨⟨_, _, _, _, _, _, _, _, _, _, _, _, _, _, _, x_BC, rf_BC⟩, xc_sa_BC, xc_ex_BC, xc_ty_BC, xc_kp_BC⟩, xc_ga_BC, xc_gg_BC, xc_hd_BC, xc_cl_BC, T_hn, T_htk, xc_mo_BC, xc_va_BC⟩
  have xm_BS : PySem.W.exmOne K (.ref BS) (.ref CA) = some true := by simp only [PySem.W.exmOne, PySem.W.kitCls, xc_xA, xc_yA, xc_sA_BS, xc_cA]; rfl
  have X9BS : Xcl K BS := ⟨⟨⟨_, _, _, _, _, _, _, _, _, _, _, _, _, _, _, x_BS, rf_BS⟩, xc_sa_BS, xc_ex_BS, xc_ty_BS, xc_kp_BS⟩, xc_ga_BS, xc_gg_BS, xc_hd_BS, xc_cl_BS, T_hn, T_htk, xc_mo_BS, xc_va_BS⟩
  have KI9 : Kinds K CA BU BC BS := ⟨kit_none xc_cs_BU xc_ty_BU, kit_none xc_cs_BC xc_ty_BC, kit_none xc_cs_BS xc_ty_BS, kit_two ne_BU_BC xc_cs_BC xc_ty_BC xs_BU_BC, kit_two ne_BU_BS xc_cs_BS xc_ty_BS xs_BU_BS, kit_two ne_BC_BU xc_cs_BU xc_ty_BU xs_BC_BU, kit_two ne_BC_BS xc_cs_BS xc_ty_BS xs_BC_BS, kit_two ne_BS_BU xc_cs_BU xc_ty_BU xs_BS_BU, kit_two ne_BS_BC xc_cs_BC xc_ty_BC xs_BS_BC, xm_BU, xm_BC, xm_BS⟩
  have F_law_cells := fun_mk (st := s_law_cells) l_law_cells k_law_cells p_law_cells
  let c_law_cells : Cal l.prog w K mg base 1 "_law_cells" ["_law_script", "_law_most"] (sp_law_cells K) := ⟨f_law_cells, _, ok_law_cells (F := F_law_cells) (m_range := m_range) (m_max := m_max) (m_min := m_min) (m_len := m_len) (m_list := m_list), p_law_cells, F_law_cells.binds (ps := ["_law_script", "_law_most"]) (fun _ _ _ _ _ _ us hl => match us, hl with | [_, _], _ => rfl), PySem.W.mg_of X G a_law_cells⟩
  have F_AskedError__init_ := fun_mk (st := s_AskedError__init_) l_AskedError__init_ k_AskedError__init_ p_AskedError__init_
  have FM_AskedError__init_ := ok_AskedError__init_ (P := l.prog) (w := w) (mg := mg) (base := base) (F := F_AskedError__init_) 
  have b_AskedError__init_ := F_AskedError__init_.binds (ps := ["self", "value"]) (fun _ _ _ _ _ _ us hl => match us, hl with | [_, _], _ => rfl)
  have Fi := FM_AskedError__init_
  have bi := b_AskedError__init_
  have F_is_integerX := fun_mk (st := s_is_integer) l_is_integerX k_is_integerX p_is_integerX
  let c_is_integerX : Cal l.prog w K mg base 1 "is_integer" ["value"] (sp_is_integerX K) := ⟨f_is_integerX, _, ok_is_integerX (F := F_is_integerX) (m_isinstance := m_isinstance) (m_int := m_int) (m_bool := m_bool), p_is_integerX, F_is_integerX.binds (ps := ["value"]) (fun _ _ _ _ _ _ us hl => match us, hl with | [_], _ => rfl), PySem.W.mg_of X G a_is_integerX⟩
  have F_is_unitsX := fun_mk (st := s_is_units) l_is_unitsX k_is_unitsX p_is_unitsX
  let c_is_unitsX : Cal l.prog w K mg base 2 "is_units" ["value"] (sp_is_unitsX K) := ⟨f_is_unitsX, _, ok_is_unitsX (F := F_is_unitsX) (m_isinstance := m_isinstance) (m_tuple := m_tuple) (m_len := m_len) (m_str := m_str) (g_HOWS := g_HOWS) (t_HOWS := t_HOWS) (c_is_integerX := c_is_integerX), p_is_unitsX, F_is_unitsX.binds (ps := ["value"]) (fun _ _ _ _ _ _ us hl => match us, hl with | [_], _ => rfl), PySem.W.mg_of X G a_is_unitsX⟩
  have F_rounded := fun_mk (st := s_rounded) l_rounded k_rounded p_rounded
  let c_rounded : Cal l.prog w K mg base 1 "rounded" ["how", "many", "whole"] (sp_rounded K) := ⟨f_rounded, _, ok_rounded (F := F_rounded) (m_divmod := m_divmod), p_rounded, F_rounded.binds (ps := ["how", "many", "whole"]) (fun _ _ _ _ _ _ us hl => match us, hl with | [_, _, _], _ => rfl), PySem.W.mg_of X G a_rounded⟩
  have F_shownX := fun_mk (st := s_shown) l_shownX k_shownX p_shownX
  have FM_shownX := ok_shownX (P := l.prog) (w := w) (mg := mg) (base := base) (F := F_shownX) (Fi := FM_AskedError__init_) (bi := b_AskedError__init_) (tyI := xc_ft) (XBU := X9BU) (iBU := xc_in_BU) (gBU := g_BU) (XBC := X9BC) (iBC := xc_in_BC) (gBC := g_BC) (c_is_unitsX := c_is_unitsX) (c_is_integerX := c_is_integerX) (c_rounded := c_rounded)
  have b_shownX := F_shownX.binds (ps := ["units", "many", "whole"]) (fun _ _ _ _ _ _ us hl => match us, hl with | [_, _, _], _ => rfl)
  have g_shownX : mg "shown" = some (.ref f_shownX) := PySem.W.mg_of X G a_shownX
  have F_is_shareX := fun_mk (st := s_is_share) l_is_shareX k_is_shareX p_is_shareX
  let c_is_shareX : Cal l.prog w K mg base 2 "is_share" ["units", "value"] (sp_is_shareX K) := ⟨f_is_shareX, _, ok_is_shareX (F := F_is_shareX) (m_isinstance := m_isinstance) (m_str := m_str) (g_WORDS := g_WORDS) (t_WORDS := t_WORDS) (c_is_integerX := c_is_integerX), p_is_shareX, F_is_shareX.binds (ps := ["units", "value"]) (fun _ _ _ _ _ _ us hl => match us, hl with | [_, _], _ => rfl), PySem.W.mg_of X G a_is_shareX⟩
  have F_reach := fun_mk (st := s_reach) l_reach k_reach p_reach
  let c_reach : Cal l.prog w K mg base 1 "reach" ["how", "number"] (sp_reach K) := ⟨f_reach, _, ok_reach (F := F_reach) , p_reach, F_reach.binds (ps := ["how", "number"]) (fun _ _ _ _ _ _ us hl => match us, hl with | [_, _], _ => rfl), PySem.W.mg_of X G a_reach⟩
  have F_least_terms := fun_mk (st := s_least_terms) l_least_terms k_least_terms p_least_terms
  let c_least_terms : Cal l.prog w K mg base 1 "least_terms" ["over", "under"] (sp_least_terms K) := ⟨f_least_terms, _, ok_least_terms (F := F_least_terms) (g_gcd := g_gcd), p_least_terms, F_least_terms.binds (ps := ["over", "under"]) (fun _ _ _ _ _ _ us hl => match us, hl with | [_, _], _ => rfl), PySem.W.mg_of X G a_least_terms⟩
  have F_stretchX := fun_mk (st := s_stretch) l_stretchX k_stretchX p_stretchX
  have FM_stretchX := ok_stretchX (P := l.prog) (w := w) (mg := mg) (base := base) (F := F_stretchX) (Fi := FM_AskedError__init_) (bi := b_AskedError__init_) (tyI := xc_ft) (XBU := X9BU) (iBU := xc_in_BU) (gBU := g_BU) (XBS := X9BS) (iBS := xc_in_BS) (gBS := g_BS) (m_min := m_min) (m_max := m_max) (c_is_unitsX := c_is_unitsX) (c_is_shareX := c_is_shareX) (c_reach := c_reach) (c_least_terms := c_least_terms)
  have b_stretchX := F_stretchX.binds (ps := ["units", "share"]) (fun _ _ _ _ _ _ us hl => match us, hl with | [_, _], _ => rfl)
  have g_stretchX : mg "stretch" = some (.ref f_stretchX) := PySem.W.mg_of X G a_stretchX
  have F_law_told := fun_mk (st := s_law_told) l_law_told k_law_told p_law_told
  have b_law_told := F_law_told.binds (ps := ["_law_look"]) (fun _ _ _ _ _ _ us hl => match us, hl with | [_], _ => rfl)
  have g_law_told : mg "_law_told" = some (.ref f_law_told) := PySem.W.mg_of X G a_law_told
  have F_law_is_due := fun_mk (st := s_law_is_due) l_law_is_due k_law_is_due p_law_is_due
  have b_law_is_due := F_law_is_due.binds (ps := ["_law_look", "_law_word", "_law_value"]) (fun _ _ _ _ _ _ us hl => match us, hl with | [_, _, _], _ => rfl)
  have g_law_is_due : mg "_law_is_due" = some (.ref f_law_is_due) := PySem.W.mg_of X G a_law_is_due
  have F_law_take := fun_mk (st := s_law_take) l_law_take k_law_take p_law_take
  let c_law_take : Cal l.prog w K mg base 1 "_law_take" ["_law_pot_here", "_law_upto"] (sp_law_take K) := ⟨f_law_take, _, ok_law_take (F := F_law_take) (m_int := m_int), p_law_take, F_law_take.binds (ps := ["_law_pot_here", "_law_upto"]) (fun _ _ _ _ _ _ us hl => match us, hl with | [_, _], _ => rfl), PySem.W.mg_of X G a_law_take⟩
  have F_law_of := fun_mk (st := s_law_of) l_law_of k_law_of p_law_of
  let c_law_of : Cal l.prog w K mg base 2 "_law_of" ["_law_pot_here", "_law_some"] (sp_law_of K) := ⟨f_law_of, _, ok_law_of (F := F_law_of) (m_len := m_len) (c_law_take := c_law_take), p_law_of, F_law_of.binds (ps := ["_law_pot_here", "_law_some"]) (fun _ _ _ _ _ _ us hl => match us, hl with | [_, _], _ => rfl), PySem.W.mg_of X G a_law_of⟩
  have F_law_units := fun_mk (st := s_law_units) l_law_units k_law_units p_law_units
  let c_law_units : Cal l.prog w K mg base 3 "_law_units" ["_law_pot_here", "_law_most"] (sp_law_units K) := ⟨f_law_units, _, ok_law_units (F := F_law_units) (c_law_of := c_law_of) (c_law_take := c_law_take), p_law_units, F_law_units.binds (ps := ["_law_pot_here", "_law_most"]) (fun _ _ _ _ _ _ us hl => match us, hl with | [_, _], _ => rfl), PySem.W.mg_of X G a_law_units⟩
  have F_law_odd := fun_mk (st := s_law_odd) l_law_odd k_law_odd p_law_odd
  let c_law_odd : Cal l.prog w K mg base 3 "_law_odd" ["_law_pot_here"] (sp_law_odd K) := ⟨f_law_odd, _, ok_law_odd (F := F_law_odd) (c_law_of := c_law_of), p_law_odd, F_law_odd.binds (ps := ["_law_pot_here"]) (fun _ _ _ _ _ _ us hl => match us, hl with | [_], _ => rfl), PySem.W.mg_of X G a_law_odd⟩
  have F_law_bentA := fun_mk (st := s_law_bent) l_law_bentA k_law_bentA p_law_bentA
  let c_law_bentA : Cal l.prog w K mg base 4 "_law_bent" ["_law_pot_here", "_law_value"] (sp_law_bentA K) := ⟨f_law_bentA, _, ok_law_bentA (F := F_law_bentA) (m_isinstance := m_isinstance) (m_tuple := m_tuple) (m_len := m_len) (m_list := m_list) (m_str := m_str) (m_bool := m_bool) (m_int := m_int) (c_law_take := c_law_take) (c_law_of := c_law_of), p_law_bentA, F_law_bentA.binds (ps := ["_law_pot_here", "_law_value"]) (fun _ _ _ _ _ _ us hl => match us, hl with | [_, _], _ => rfl), PySem.W.mg_of X G a_law_bentA⟩
  have F_law_bentB := fun_mk (st := s_law_bent) l_law_bentB k_law_bentB p_law_bentB
  let c_law_bentB : Cal l.prog w K mg base 5 "_law_bent" ["_law_pot_here", "_law_value"] (sp_law_bentB K) := ⟨f_law_bentB, _, ok_law_bentB (F := F_law_bentB) (m_isinstance := m_isinstance) (m_tuple := m_tuple) (m_len := m_len) (m_list := m_list) (m_str := m_str) (m_bool := m_bool) (m_int := m_int) (c_law_take := c_law_take) (c_law_of := c_law_of) (c_law_bentA := c_law_bentA), p_law_bentB, F_law_bentB.binds (ps := ["_law_pot_here", "_law_value"]) (fun _ _ _ _ _ _ us hl => match us, hl with | [_, _], _ => rfl), PySem.W.mg_of X G a_law_bentB⟩
  have F_law_is_int := fun_mk (st := s_law_is_int) l_law_is_int k_law_is_int p_law_is_int
  let c_law_is_int : Cal l.prog w K mg base 1 "_law_is_int" ["_law_value", "_law_low", "_law_high"] (sp_law_is_int K) := ⟨f_law_is_int, _, ok_law_is_int (F := F_law_is_int) (m_isinstance := m_isinstance) (m_int := m_int) (m_bool := m_bool), p_law_is_int, F_law_is_int.binds (ps := ["_law_value", "_law_low", "_law_high"]) (fun _ _ _ _ _ _ us hl => match us, hl with | [_, _, _], _ => rfl), PySem.W.mg_of X G a_law_is_int⟩
  have F_law_is_units := fun_mk (st := s_law_is_units) l_law_is_units k_law_is_units p_law_is_units
  let c_law_is_units : Cal l.prog w K mg base 2 "_law_is_units" ["_law_value"] (sp_law_is_units K) := ⟨f_law_is_units, _, ok_law_is_units (F := F_law_is_units) (m_isinstance := m_isinstance) (m_tuple := m_tuple) (m_len := m_len) (m_str := m_str) (c_law_is_int := c_law_is_int), p_law_is_units, F_law_is_units.binds (ps := ["_law_value"]) (fun _ _ _ _ _ _ us hl => match us, hl with | [_], _ => rfl), PySem.W.mg_of X G a_law_is_units⟩
  have F_law_shown_due := fun_mk (st := s_law_shown_due) l_law_shown_due k_law_shown_due p_law_shown_due
  let c_law_shown_due : Cal l.prog w K mg base 3 "_law_shown_due" ["_law_units_here", "_law_many", "_law_whole"] (sp_law_shown_due K) := ⟨f_law_shown_due, _, ok_law_shown_due (F := F_law_shown_due) (c_law_is_units := c_law_is_units) (c_law_is_int := c_law_is_int), p_law_shown_due, F_law_shown_due.binds (ps := ["_law_units_here", "_law_many", "_law_whole"]) (fun _ _ _ _ _ _ us hl => match us, hl with | [_, _, _], _ => rfl), PySem.W.mg_of X G a_law_shown_due⟩
  have F_law_stretch_due := fun_mk (st := s_law_stretch_due) l_law_stretch_due k_law_stretch_due p_law_stretch_due
  let c_law_stretch_due : Cal l.prog w K mg base 3 "_law_stretch_due" ["_law_units_here", "_law_share"] (sp_law_stretch_due K) := ⟨f_law_stretch_due, _, ok_law_stretch_due (F := F_law_stretch_due) (m_isinstance := m_isinstance) (m_str := m_str) (c_law_is_units := c_law_is_units) (c_law_is_int := c_law_is_int), p_law_stretch_due, F_law_stretch_due.binds (ps := ["_law_units_here", "_law_share"]) (fun _ _ _ _ _ _ us hl => match us, hl with | [_, _], _ => rfl), PySem.W.mg_of X G a_law_stretch_due⟩
  have F_law_right := fun_mk (st := s_law_right) l_law_right k_law_right p_law_right
  let c_law_right : CalG l.prog w K mg base 9 "_law_right" ["_law_pot_here"] (sp_law_rightX K tP) := ⟨f_law_right, _, ok_law_right (F := F_law_right) (KI := KI9) (XBU := X9BU) (XBC := X9BC) (XBS := X9BS) (gBU := g_BU) (gBC := g_BC) (gBS := g_BS) (gA := g_CA) (FS := FM_shownX) (kS := p_shownX) (bS := b_shownX) (gS := g_shownX) (FZ := FM_stretchX) (kZ := p_stretchX) (bZ := b_stretchX) (gZ := g_stretchX) (FLT := F_law_told) (bLT := b_law_told) (gTold := g_law_told) (FLD := F_law_is_due) (bLD := b_law_is_due) (gDue := g_law_is_due) (TB := TB9) (hcd := rfl) (m_isinstance := m_isinstance) (m_range := m_range) (m_repr := m_repr) (c_law_units := c_law_units) (c_law_odd := c_law_odd) (c_law_bentB := c_law_bentB) (c_law_of := c_law_of) (c_law_shown_due := c_law_shown_due) (c_law_stretch_due := c_law_stretch_due), p_law_right, F_law_right.binds (ps := ["_law_pot_here"]) (fun _ _ _ _ _ _ us hl => match us, hl with | [_], _ => rfl), PySem.W.mg_of X G a_law_right⟩
  have F_law_pot := fun_mk (st := s_law_pot) l_law_pot k_law_pot p_law_pot
  let c_law_pot : Cal l.prog w K mg base 1 "_law_pot" ["_law_script", "_law_place"] (sp_law_pot K) := ⟨f_law_pot, _, ok_law_pot (F := F_law_pot) (m_len := m_len) (m_int := m_int) (m_abs := m_abs), p_law_pot, F_law_pot.binds (ps := ["_law_script", "_law_place"]) (fun _ _ _ _ _ _ us hl => match us, hl with | [_, _], _ => rfl), PySem.W.mg_of X G a_law_pot⟩
  have F_law := fun_mk (st := s_law) l_law k_law p_law
  exact ok_law (F := F_law) (m_all := m_all) (c_law_cells := c_law_cells) (c_law_right := c_law_right) (c_law_pot := c_law_pot)
end Uq
open PySem PySem.W PyProof.Rows
set_option maxHeartbeats 0 in
theorem PySem.Challenge.cw_anyasked_k04_units_shares_and_counts_ref_holds : PySem.Challenge.rw_anyasked_k04_units_shares_and_counts_ref.Holds := by
  w_on; o_law; k_head; (case hw => w_witness2)
  k_fill
  refine Uq.walk_ofGT (l := PySem.Challenge.rw_anyasked_k04_units_shares_and_counts_ref) (n := 63) (k := 10) (x := "_law_script") rfl (by decide) rfl ⟨rfl, by decide, by decide⟩ (fun w h Y => PySem.W.km_in_of Y) ?F
  case F =>
    intro w mg fa h Y KX G hmg
    have T8 := PySem.W.km_tabs_of Y
    refine' Uq.all_mk KX G hmg (tb_c := ?q_tbc) (tb_0 := ?q_tb0) (rf_BU := ?q_rf_BU) (rf_BC := ?q_rf_BC) (rf_BS := ?q_rf_BS) (ne_BU_BC := ?q_ne_BU_BC) (ne_BU_BS := ?q_ne_BU_BS) (ne_BC_BU := ?q_ne_BC_BU) (ne_BC_BS := ?q_ne_BC_BS) (ne_BS_BU := ?q_ne_BS_BU) (ne_BS_BC := ?q_ne_BS_BC) (tb_v := ?q_tbv) (tb_n := ?q_tbn) (a_law_cells := ?q_a_law_cells) (l_law_cells := ?q_l_law_cells) (k_law_cells := ?q_k_law_cells) (p_law_cells := ?q_p_law_cells) (l_AskedError__init_ := ?q_l_AskedError__init_) (k_AskedError__init_ := ?q_k_AskedError__init_) (p_AskedError__init_ := ?q_p_AskedError__init_) (a_is_integerX := ?q_a_is_integerX) (l_is_integerX := ?q_l_is_integerX) (k_is_integerX := ?q_k_is_integerX) (p_is_integerX := ?q_p_is_integerX) (a_is_unitsX := ?q_a_is_unitsX) (l_is_unitsX := ?q_l_is_unitsX) (k_is_unitsX := ?q_k_is_unitsX) (p_is_unitsX := ?q_p_is_unitsX) (a_rounded := ?q_a_rounded) (l_rounded := ?q_l_rounded) (k_rounded := ?q_k_rounded) (p_rounded := ?q_p_rounded) (a_shownX := ?q_a_shownX) (l_shownX := ?q_l_shownX) (k_shownX := ?q_k_shownX) (p_shownX := ?q_p_shownX) (a_is_shareX := ?q_a_is_shareX) (l_is_shareX := ?q_l_is_shareX) (k_is_shareX := ?q_k_is_shareX) (p_is_shareX := ?q_p_is_shareX) (a_reach := ?q_a_reach) (l_reach := ?q_l_reach) (k_reach := ?q_k_reach) (p_reach := ?q_p_reach) (a_least_terms := ?q_a_least_terms) (l_least_terms := ?q_l_least_terms) (k_least_terms := ?q_k_least_terms) (p_least_terms := ?q_p_least_terms) (a_stretchX := ?q_a_stretchX) (l_stretchX := ?q_l_stretchX) (k_stretchX := ?q_k_stretchX) (p_stretchX := ?q_p_stretchX) (a_law_told := ?q_a_law_told) (l_law_told := ?q_l_law_told) (k_law_told := ?q_k_law_told) (p_law_told := ?q_p_law_told) (a_law_is_due := ?q_a_law_is_due) (l_law_is_due := ?q_l_law_is_due) (k_law_is_due := ?q_k_law_is_due) (p_law_is_due := ?q_p_law_is_due) (a_law_take := ?q_a_law_take) (l_law_take := ?q_l_law_take) (k_law_take := ?q_k_law_take) (p_law_take := ?q_p_law_take) (a_law_of := ?q_a_law_of) (l_law_of := ?q_l_law_of) (k_law_of := ?q_k_law_of) (p_law_of := ?q_p_law_of) (a_law_units := ?q_a_law_units) (l_law_units := ?q_l_law_units) (k_law_units := ?q_k_law_units) (p_law_units := ?q_p_law_units) (a_law_odd := ?q_a_law_odd) (l_law_odd := ?q_l_law_odd) (k_law_odd := ?q_k_law_odd) (p_law_odd := ?q_p_law_odd) (a_law_bentA := ?q_a_law_bentA) (l_law_bentA := ?q_l_law_bentA) (k_law_bentA := ?q_k_law_bentA) (p_law_bentA := ?q_p_law_bentA) (a_law_bentB := ?q_a_law_bentB) (l_law_bentB := ?q_l_law_bentB) (k_law_bentB := ?q_k_law_bentB) (p_law_bentB := ?q_p_law_bentB) (a_law_is_int := ?q_a_law_is_int) (l_law_is_int := ?q_l_law_is_int) (k_law_is_int := ?q_k_law_is_int) (p_law_is_int := ?q_p_law_is_int) (a_law_is_units := ?q_a_law_is_units) (l_law_is_units := ?q_l_law_is_units) (k_law_is_units := ?q_k_law_is_units) (p_law_is_units := ?q_p_law_is_units) (a_law_shown_due := ?q_a_law_shown_due) (l_law_shown_due := ?q_l_law_shown_due) (k_law_shown_due := ?q_k_law_shown_due) (p_law_shown_due := ?q_p_law_shown_due) (a_law_stretch_due := ?q_a_law_stretch_due) (l_law_stretch_due := ?q_l_law_stretch_due) (k_law_stretch_due := ?q_k_law_stretch_due) (p_law_stretch_due := ?q_p_law_stretch_due) (a_law_right := ?q_a_law_right) (l_law_right := ?q_l_law_right) (k_law_right := ?q_k_law_right) (p_law_right := ?q_p_law_right) (a_law_pot := ?q_a_law_pot) (l_law_pot := ?q_l_law_pot) (k_law_pot := ?q_k_law_pot) (p_law_pot := ?q_p_law_pot) (a_law := ?q_a_law) (l_law := ?q_l_law) (k_law := ?q_k_law) (p_law := ?q_p_law) (z_range := ?q_z_range) (z_max := ?q_z_max) (z_min := ?q_z_min) (z_len := ?q_z_len) (z_list := ?q_z_list) (z_isinstance := ?q_z_isinstance) (z_int := ?q_z_int) (z_bool := ?q_z_bool) (z_tuple := ?q_z_tuple) (z_str := ?q_z_str) (z_divmod := ?q_z_divmod) (z_repr := ?q_z_repr) (z_abs := ?q_z_abs) (z_all := ?q_z_all) (T_hn := ?q_T_hn) (T_htk := ?q_T_htk) (a_BU := ?q_a_BU) (a_BC := ?q_a_BC) (a_BS := ?q_a_BS) (a_CA := ?q_a_CA) (xc_xA := ?q_xc_xA) (xc_yA := ?q_xc_yA) (xc_cA := ?q_xc_cA) (x_BU := ?q_x_BU) (xc_sa_BU := ?q_xc_sa_BU) (xc_ex_BU := ?q_xc_ex_BU) (xc_ty_BU := ?q_xc_ty_BU) (xc_kp_BU := ?q_xc_kp_BU) (xc_ga_BU := ?q_xc_ga_BU) (xc_gg_BU := ?q_xc_gg_BU) (xc_hd_BU := ?q_xc_hd_BU) (xc_cl_BU := ?q_xc_cl_BU) (xc_mo_BU := ?q_xc_mo_BU) (xc_va_BU := ?q_xc_va_BU) (xc_in_BU := ?q_xc_in_BU) (xc_sA_BU := ?q_xc_sA_BU) (xc_cs_BU := ?q_xc_cs_BU) (x_BC := ?q_x_BC) (xc_sa_BC := ?q_xc_sa_BC) (xc_ex_BC := ?q_xc_ex_BC) (xc_ty_BC := ?q_xc_ty_BC) (xc_kp_BC := ?q_xc_kp_BC) (xc_ga_BC := ?q_xc_ga_BC) (xc_gg_BC := ?q_xc_gg_BC) (xc_hd_BC := ?q_xc_hd_BC) (xc_cl_BC := ?q_xc_cl_BC) (xc_mo_BC := ?q_xc_mo_BC) (xc_va_BC := ?q_xc_va_BC) (xc_in_BC := ?q_xc_in_BC) (xc_sA_BC := ?q_xc_sA_BC) (xc_cs_BC := ?q_xc_cs_BC) (x_BS := ?q_x_BS) (xc_sa_BS := ?q_xc_sa_BS) (xc_ex_BS := ?q_xc_ex_BS) (xc_ty_BS := ?q_xc_ty_BS) (xc_kp_BS := ?q_xc_kp_BS) (xc_ga_BS := ?q_xc_ga_BS) (xc_gg_BS := ?q_xc_gg_BS) (xc_hd_BS := ?q_xc_hd_BS) (xc_cl_BS := ?q_xc_cl_BS) (xc_mo_BS := ?q_xc_mo_BS) (xc_va_BS := ?q_xc_va_BS) (xc_in_BS := ?q_xc_in_BS) (xc_sA_BS := ?q_xc_sA_BS) (xc_cs_BS := ?q_xc_cs_BS) (xs_BU_BC := ?q_xs_BU_BC) (xs_BU_BS := ?q_xs_BU_BS) (xs_BC_BU := ?q_xs_BC_BU) (xs_BC_BS := ?q_xs_BC_BS) (xs_BS_BU := ?q_xs_BS_BU) (xs_BS_BC := ?q_xs_BS_BC) (xc_ft := ?q_xc_ft) (tb_l := ?q_tb_l) (a_HOWS := ?q_a_HOWS) (l_HOWS := ?q_l_HOWS) (a_WORDS := ?q_a_WORDS) (l_WORDS := ?q_l_WORDS) (a_gcd := ?q_a_gcd) (v_HOWS := ?q_v_HOWS) (v_WORDS := ?q_v_WORDS)
    (case q_T_hn => k_is)
    (case q_T_htk => k_is)
    (case q_a_BU => k_is)
    (case q_a_BC => k_is)
    (case q_a_BS => k_is)
    (case q_a_CA => k_is)
    (case q_xc_xA => k_is)
    (case q_xc_yA => k_is)
    (case q_xc_cA => k_is)
    (case q_x_BU => k_is)
    (case q_xc_sa_BU => k_is)
    (case q_xc_ex_BU => k_is)
    (case q_xc_ty_BU => k_is)
    (case q_xc_kp_BU => k_is)
    (case q_xc_ga_BU => k_is)
    (case q_xc_gg_BU => k_is)
    (case q_xc_hd_BU => k_is)
    (case q_xc_cl_BU => k_is)
    (case q_xc_mo_BU => k_is)
    (case q_xc_va_BU => k_is)
    (case q_xc_in_BU => k_is)
    (case q_xc_sA_BU => k_is)
    (case q_xc_cs_BU => k_is)
    (case q_x_BC => k_is)
    (case q_xc_sa_BC => k_is)
    (case q_xc_ex_BC => k_is)
    (case q_xc_ty_BC => k_is)
    (case q_xc_kp_BC => k_is)
    (case q_xc_ga_BC => k_is)
    (case q_xc_gg_BC => k_is)
    (case q_xc_hd_BC => k_is)
    (case q_xc_cl_BC => k_is)
    (case q_xc_mo_BC => k_is)
    (case q_xc_va_BC => k_is)
    (case q_xc_in_BC => k_is)
    (case q_xc_sA_BC => k_is)
    (case q_xc_cs_BC => k_is)
    (case q_x_BS => k_is)
    (case q_xc_sa_BS => k_is)
    (case q_xc_ex_BS => k_is)
    (case q_xc_ty_BS => k_is)
    (case q_xc_kp_BS => k_is)
    (case q_xc_ga_BS => k_is)
    (case q_xc_gg_BS => k_is)
    (case q_xc_hd_BS => k_is)
    (case q_xc_cl_BS => k_is)
    (case q_xc_mo_BS => k_is)
    (case q_xc_va_BS => k_is)
    (case q_xc_in_BS => k_is)
    (case q_xc_sA_BS => k_is)
    (case q_xc_cs_BS => k_is)
    (case q_xs_BU_BC => k_is)
    (case q_xs_BU_BS => k_is)
    (case q_xs_BC_BU => k_is)
    (case q_xs_BC_BS => k_is)
    (case q_xs_BS_BU => k_is)
    (case q_xs_BS_BC => k_is)
    (case q_xc_ft => k_is)
    (case q_a_law_cells => k_is)
    (case q_l_law_cells => k_is)
    (case q_k_law_cells => k_is)
    (case q_p_law_cells => k_is)
    (case q_l_AskedError__init_ => k_is)
    (case q_k_AskedError__init_ => k_is)
    (case q_p_AskedError__init_ => k_is)
    (case q_a_is_integerX => k_is)
    (case q_l_is_integerX => k_is)
    (case q_k_is_integerX => k_is)
    (case q_p_is_integerX => k_is)
    (case q_a_is_unitsX => k_is)
    (case q_l_is_unitsX => k_is)
    (case q_k_is_unitsX => k_is)
    (case q_p_is_unitsX => k_is)
    (case q_a_rounded => k_is)
    (case q_l_rounded => k_is)
    (case q_k_rounded => k_is)
    (case q_p_rounded => k_is)
    (case q_a_shownX => k_is)
    (case q_l_shownX => k_is)
    (case q_k_shownX => k_is)
    (case q_p_shownX => k_is)
    (case q_a_is_shareX => k_is)
    (case q_l_is_shareX => k_is)
    (case q_k_is_shareX => k_is)
    (case q_p_is_shareX => k_is)
    (case q_a_reach => k_is)
    (case q_l_reach => k_is)
    (case q_k_reach => k_is)
    (case q_p_reach => k_is)
    (case q_a_least_terms => k_is)
    (case q_l_least_terms => k_is)
    (case q_k_least_terms => k_is)
    (case q_p_least_terms => k_is)
    (case q_a_stretchX => k_is)
    (case q_l_stretchX => k_is)
    (case q_k_stretchX => k_is)
    (case q_p_stretchX => k_is)
    (case q_a_law_told => k_is)
    (case q_l_law_told => k_is)
    (case q_k_law_told => k_is)
    (case q_p_law_told => k_is)
    (case q_a_law_is_due => k_is)
    (case q_l_law_is_due => k_is)
    (case q_k_law_is_due => k_is)
    (case q_p_law_is_due => k_is)
    (case q_a_law_take => k_is)
    (case q_l_law_take => k_is)
    (case q_k_law_take => k_is)
    (case q_p_law_take => k_is)
    (case q_a_law_of => k_is)
    (case q_l_law_of => k_is)
    (case q_k_law_of => k_is)
    (case q_p_law_of => k_is)
    (case q_a_law_units => k_is)
    (case q_l_law_units => k_is)
    (case q_k_law_units => k_is)
    (case q_p_law_units => k_is)
    (case q_a_law_odd => k_is)
    (case q_l_law_odd => k_is)
    (case q_k_law_odd => k_is)
    (case q_p_law_odd => k_is)
    (case q_a_law_bentA => k_is)
    (case q_l_law_bentA => k_is)
    (case q_k_law_bentA => k_is)
    (case q_p_law_bentA => k_is)
    (case q_a_law_bentB => k_is)
    (case q_l_law_bentB => k_is)
    (case q_k_law_bentB => k_is)
    (case q_p_law_bentB => k_is)
    (case q_a_law_is_int => k_is)
    (case q_l_law_is_int => k_is)
    (case q_k_law_is_int => k_is)
    (case q_p_law_is_int => k_is)
    (case q_a_law_is_units => k_is)
    (case q_l_law_is_units => k_is)
    (case q_k_law_is_units => k_is)
    (case q_p_law_is_units => k_is)
    (case q_a_law_shown_due => k_is)
    (case q_l_law_shown_due => k_is)
    (case q_k_law_shown_due => k_is)
    (case q_p_law_shown_due => k_is)
    (case q_a_law_stretch_due => k_is)
    (case q_l_law_stretch_due => k_is)
    (case q_k_law_stretch_due => k_is)
    (case q_p_law_stretch_due => k_is)
    (case q_a_law_right => k_is)
    (case q_l_law_right => k_is)
    (case q_k_law_right => k_is)
    (case q_p_law_right => k_is)
    (case q_a_law_pot => k_is)
    (case q_l_law_pot => k_is)
    (case q_k_law_pot => k_is)
    (case q_p_law_pot => k_is)
    (case q_a_law => k_is)
    (case q_l_law => k_is)
    (case q_k_law => k_is)
    (case q_p_law => k_is)
    (case q_z_range => k_is)
    (case q_z_max => k_is)
    (case q_z_min => k_is)
    (case q_z_len => k_is)
    (case q_z_list => k_is)
    (case q_z_isinstance => k_is)
    (case q_z_int => k_is)
    (case q_z_bool => k_is)
    (case q_z_tuple => k_is)
    (case q_z_str => k_is)
    (case q_z_divmod => k_is)
    (case q_z_repr => k_is)
    (case q_z_abs => k_is)
    (case q_z_all => k_is)
    (case q_a_HOWS => k_is)
    (case q_l_HOWS => k_is)
    (case q_a_WORDS => k_is)
    (case q_l_WORDS => k_is)
    (case q_a_gcd => k_is)
    (case q_tb_l => k_is)
    (case q_tbv => exact rfl)
    (case q_tbn => first | k_is | kernel_rfl)
    (case q_tbc => kernel_rfl)
    (case q_tb0 => exact T8 _ (by simp))
    (case q_rf_BU => decide +kernel)
    (case q_rf_BC => decide +kernel)
    (case q_rf_BS => decide +kernel)
    (case q_ne_BU_BC => decide)
    (case q_ne_BU_BS => decide)
    (case q_ne_BC_BU => decide)
    (case q_ne_BC_BS => decide)
    (case q_ne_BS_BU => decide)
    (case q_ne_BS_BC => decide)
    (case q_v_HOWS => exact ⟨by decide, .cons ⟨_, rfl⟩ (.cons ⟨_, rfl⟩ (.cons ⟨_, rfl⟩ (.cons ⟨_, rfl⟩ (.nil))))⟩)
    (case q_v_WORDS => exact ⟨by decide, .cons ⟨_, rfl⟩ (.cons ⟨_, rfl⟩ (.nil))⟩)
