import PyProof.Rows.All
import Wide.All
import OpenK.AllK
import Wide.FinOn
import HandS.Base
import HandS.Call
import HandS.List
import HandS.Comp
import HandS.Ends
import HandS.EndBits
import HandS.Dict
import HandS.Iter
import HandS.Text
import HandS.Words
import HandS.WordsList
import HandS.WordsDict
import HandS.Wide
import HandS.WideBits
import HandS.RaiseMore
import HandS.IsInst
import HandS.Conv
import HandS.Style
import HandS.Zip
import PyProof.ReprRoads
import HandS.Steps
import HandS.ExcInit
import HandS.ExcField
import KE.KExcIs
import HandS.Walk
import PySem.Challenge.RW_anyasked_k00_errors_and_what_they_keep
set_option Elab.async false
set_option linter.all false
set_option maxRecDepth 100000
set_option maxHeartbeats 2000000
namespace Uq
open PySem PySem.Spec PyProof.Rows L2

/-! ### what a caller knows of a def -/
structure Cal (P : Program) (w : World) (K : PySem.W.Frag) (mg : Str → Option Value) (base : Heap) (k : Nat) (x : Str) (ps : List Str) (sp : Sp) where
  a : Addr
  d : FuncData
  G : FnOk P w K mg base CX0 k a d ps sp
  kp : PySem.W.keepIn K (.ref a) = true
  b : Binds K d ps []
  g : mg x = some (.ref a)

/-! ### heaps -/
/-- all that was tracked, but at p, is as it was -/
def But (p : Addr) (H H' : Hp) : Prop := ∀ b o, b ≠ p → H b = some o → H' b = some o
theorem But.refl (p : Addr) (H : Hp) : But p H H := fun _ _ _ h => h
theorem But.trans {p : Addr} {H H1 H2 : Hp} (a : But p H H1) (b : But p H1 H2) : But p H H2 := fun c o n h => b c o n (a c o n h)
theorem But.of {p : Addr} {H H' : Hp} (a : Same H H') : But p H H' := fun c o _ h => a c o h
theorem But.new {p q : Addr} {H H1 : Hp} {o : HO} (a : But p H H1) (h : H1 q = none) : But p H (upd H1 q o) := fun c u n e => by
  have e1 := a c u n e
  rw [upd_ne (ne_of_none e1 h)]
  exact e1
theorem But.put {p : Addr} {H H1 : Hp} {o : HO} (a : But p H H1) : But p H (upd H1 p o) := fun c u n e => by
  rw [upd_ne n]
  exact a c u n e
theorem But.seqL {K : PySem.W.Frag} {p a : Addr} {H H' : Hp} {xs : List V} (e : But p H H') (n : a ≠ p) (h : SqL K H a xs) : SqL K H' a xs := by
  rcases h with (h | ⟨o, h⟩) | h
  · exact .inl (.inl (e _ _ n h))
  · exact .inl (.inr ⟨o, e _ _ n h⟩)
  · exact .inr h
theorem But.seqT {K : PySem.W.Frag} {p a : Addr} {H H' : Hp} {xs : List V} (e : But p H H') (n : a ≠ p) (h : SqT K H a xs) : SqT K H' a xs := by
  rcases h with (h | ⟨o, h⟩) | h
  · exact .inl (.inl (e _ _ n h))
  · exact .inl (.inr ⟨o, e _ _ n h⟩)
  · exact .inr h
theorem sameU {H : Hp} {p : Addr} {o : HO} (h : H p = none) : Same H (upd H p o) := fun b x e => by
  rw [upd_ne (ne_of_none e h)]
  exact e
theorem Same.tup {K : PySem.W.Frag} {a : Addr} {H H' : Hp} {xs : List V} (e : Same H H') (h : SqT K H a xs) : SqT K H' a xs := by
  rcases h with (h | ⟨o, h⟩) | h
  · exact .inl (.inl (e _ _ h))
  · exact .inl (.inr ⟨o, e _ _ h⟩)
  · exact .inr h
theorem Same.lst {K : PySem.W.Frag} {a : Addr} {H H' : Hp} {xs : List V} (e : Same H H') (h : SqL K H a xs) : SqL K H' a xs := Same.seq e h

/-! ### great powers -/
def CPowW (i j : Int) : Prop := 0 ≤ j ∧ (Builtin.Int.intBits i : Int) * j ≤ 2 ^ 27
theorem op_powW {X : Cx} : OpR X (binaryOp .Pow) (rI CPowW fun i j => .int (i ^ j.toNat)) := opI fun _ _ _ _ _ _ _ hc q => PyProof.Rows.pow_int hc.1 hc.2 q
theorem powW_ok {i : Int} {j n : Nat} (h : i.natAbs < 2 ^ n) (hn : n * j ≤ 134217728) : CPowW i (j : Int) := by
  have b := PyProof.Rows.intBits_le h
  have e : (2 : Int) ^ 27 = 134217728 := by decide
  refine ⟨Int.natCast_nonneg _, ?_⟩
  rw [e]
  have c : Builtin.Int.intBits i * j ≤ n * j := Nat.mul_le_mul_right j b
  have d : ((Builtin.Int.intBits i * j : Nat) : Int) ≤ ((n * j : Nat) : Int) := Int.ofNat_le.mpr c
  rw [Int.natCast_mul] at d
  omega

/-! ### the drawing of numbers: a list of three ints at p -/
/-- own digits, a seed, how often it was drawn (at most c times) -/
def Pot (H : Hp) (p : Addr) (c : Nat) : Prop := ∃ o s n : Int, H p = some (.lst [.int o, .int s, .int n]) ∧ 0 ≤ o ∧ o < 10 ^ 300 ∧ 0 ≤ s ∧ s < 2305843009213693951 ∧ 0 ≤ n ∧ n ≤ c
theorem Pot.mono {H : Hp} {p : Addr} {c d : Nat} (h : Pot H p c) (e : c ≤ d) : Pot H p d := by
  obtain ⟨o, s, n, h0, h1, h2, h3, h4, h5, h6⟩ := h
  exact ⟨o, s, n, h0, h1, h2, h3, h4, h5, by omega⟩
theorem Pot.same {H H' : Hp} {p : Addr} {c : Nat} (e : Same H H') (h : Pot H p c) : Pot H' p c := by
  obtain ⟨o, s, n, h0, h1⟩ := h
  exact ⟨o, s, n, e _ _ h0, h1⟩
theorem Pot.new {H : Hp} {p q : Addr} {c : Nat} {o : HO} (h : Pot H p c) (hq : H q = none) : Pot (upd H q o) p c := h.same (sameU hq)
theorem Pot.some {H : Hp} {p : Addr} {c : Nat} (h : Pot H p c) : H p ≠ none := by
  obtain ⟨o, s, n, h0, _⟩ := h
  rw [h0]
  exact fun z => nomatch z
theorem Pot.upd {H : Hp} {p q : Addr} {c : Nat} {o : HO} (h : Pot H p c) (n : p ≠ q) : Pot (upd H q o) p c := by
  obtain ⟨o', s, k, h0, h1⟩ := h
  exact ⟨o', s, k, by rw [upd_ne n]; exact h0, h1⟩
/-- a new place is not p -/
theorem Pot.ne {H : Hp} {p q : Addr} {c : Nat} (h : Pot H p c) (hq : H q = none) : q ≠ p := fun z => h.some (z ▸ hq)
/-- a draw below u -/
def sp_law_take (K : PySem.W.Frag) : Sp := fun vs H Q _ => ∃ (p : Addr) (c : Nat) (u : Int), vs = [.ref p, .int u] ∧ Pot H p c ∧ c < 100000 ∧ 1 ≤ u ∧ u < 2 ^ 62 ∧
  ∀ H' d, But p H H' → Pot H' p (c + 1) → 0 ≤ d → d < u → Q (.int d) H'
/-- one of a list -/
def sp_law_of (K : PySem.W.Frag) : Sp := fun vs H Q _ => ∃ (p l : Addr) (c : Nat) (xs : List V), vs = [.ref p, .ref l] ∧ Pot H p c ∧ c < 100000 ∧ l ≠ p ∧ SqL K H l xs ∧ 0 < xs.length ∧ xs.length ≤ 100000 ∧
  ∀ H' (i : Nat) v, But p H H' → Pot H' p (c + 1) → xs[i]? = some v → Q v H'
/-- the places of the cells -/
def sp_law_cells (K : PySem.W.Frag) : Sp := fun vs H Q _ => ∃ (a : Addr) (ns : List Int) (m : Int), vs = [.ref a, .int m] ∧ SqL K H a (ns.map V.int) ∧ ns.length ≤ 63 ∧ 1 ≤ m ∧ m ≤ 63 ∧
  ∀ H' l (k : Nat), H l = none → Same H H' → H' l = some (.lst (rgV 0 (k : Int))) → 1 ≤ k → k ≤ 63 → Q (.ref l) H'
def sp_law_pot (K : PySem.W.Frag) : Sp := fun vs H Q _ => ∃ (a : Addr) (ns : List Int) (m : Int), vs = [.ref a, .int m] ∧ SqL K H a (ns.map V.int) ∧ ns.length ≤ 63 ∧ 0 ≤ m ∧ m ≤ 63 ∧
  ∀ H' p, H p = none → Same H H' → Pot H' p 0 → Q (.ref p) H'
/-- what is asked of a cell's turn -/
def sp_law_right (K : PySem.W.Frag) : Sp := fun vs H Q _ => ∃ p : Addr, vs = [.ref p] ∧ Pot H p 0 ∧ ∀ H', But p H H' → Q (.bl true) H'
def sp_law (K : PySem.W.Frag) : Sp := fun vs H Q _ => ∃ (a : Addr) (ns : List Int), vs = [.ref a] ∧ SqL K H a (ns.map V.int) ∧ ns.length ≤ 63 ∧ ∀ H', Q (.bl true) H'
end Uq
namespace Uq
open PySem PySem.Spec PyProof.Rows L2
/-- the cell at a place, or what stands for it -/
theorem rd_cell {K : PySem.W.Frag} {σ : L2.St} {H : Hp} {Q : VK} {a : Addr} {ns : List Int} {m c1 c2 : Int} (hl : SqL K H a (ns.map V.int)) (hm : 0 ≤ m) (hc : -(2 ^ 64) < c1 ∧ c1 < 2 ^ 64) (h0 : σ[0]? = some (some (.ref a))) (h1 : σ[1]? = some (some (.int m))) (q : ∀ z : Int, Q (.int z) H) :
    tIf (tTest (tOp (rI0 fun i j => .bl (decide (i < j))) (tVar 1) (tCB (fun xs H Q => ∃ p ys, xs = [.ref p] ∧ (SqL K H p ys ∨ SqT K H p ys) ∧ Q (.int ys.length) H) (tCons (tVar 0) tNil)))) (tOp (rIxL K) (tVar 0) (tVar 1))
      (tOp (rI0 fun i j => .int (i + j)) (tOp (rI CMul fun i j => .int (i * j)) (tC (.int c1)) (tVar 1)) (tC (.int c2))) σ H Q := by
  refine ⟨.int m, h1, .ref a, h0, a, _, rfl, .inl hl, m, _, rfl, rfl, _, rfl, ite2 (fun e => ?_) (fun e => ?_)⟩
  · have e1 : m < (ns.map V.int).length := of_decide_eq_true e
    have e2 : m.toNat < ns.length := by
      rw [List.length_map] at e1
      omega
    exact ⟨.ref a, h0, .int m, h1, a, _, m, .int ns[m.toNat], rfl, rfl, hl, at_of (j := m.toNat) (by omega) (by rw [List.getElem?_map, List.getElem?_eq_getElem e2]; rfl), q _⟩
  · exact ⟨.int m, h1, _, m, rfl, rfl, .inl hc, _, _, rfl, rfl, q _⟩
theorem big_pos : (0 : Int) < ((10 : Int) ^ (60 : Int).toNat) ^ (5 : Int).toNat := by decide +kernel
theorem big_eq : ((10 : Int) ^ (60 : Int).toNat) ^ (5 : Int).toNat = 10 ^ 300 := by decide +kernel
theorem bigA : CPowW ((10 : Int) ^ (60 : Int).toNat) 5 := powW_ok (j := 5) (n := 300) (by decide +kernel) (by decide)
theorem bigB : CPowW 10 60 := powW_ok (j := 60) (n := 8) (by decide) (by decide)
theorem bigC : CPowW 10 18 := powW_ok (j := 18) (n := 8) (by decide) (by decide)
end Uq
namespace Uq
open PySem PySem.Spec PyProof.Rows L2
theorem b01 (b : Bool) : -(2 ^ 64) < (if b = true then (1 : Int) else 0) ∧ (if b = true then (1 : Int) else 0) < 2 ^ 64 := by cases b <;> decide
theorem own_ok (z : Int) (b : Bool) : 0 ≤ z % ((10 : Int) ^ (60 : Int).toNat) ^ (5 : Int).toNat * (if b = true then 1 else 0) ∧ z % ((10 : Int) ^ (60 : Int).toNat) ^ (5 : Int).toNat * (if b = true then 1 else 0) < 10 ^ 300 := by
  have a0 := Int.emod_nonneg z (Int.ne_of_gt big_pos)
  have a1 := Int.emod_lt_of_pos z big_pos
  rw [big_eq] at a0 a1 ⊢
  cases b with
  | true =>
    rw [if_pos rfl, Int.mul_one]
    exact ⟨a0, a1⟩
  | false =>
    rw [if_neg Bool.false_ne_true, Int.mul_zero]
    exact ⟨by decide, by decide +kernel⟩
theorem sqL_same {K : PySem.W.Frag} {a : Addr} {H H' : Hp} {xs : List V} (e : Same H H') (h : SqL K H a xs) : SqL K H' a xs := Same.seq e h
theorem sqT_same {K : PySem.W.Frag} {a : Addr} {H H' : Hp} {xs : List V} (e : Same H H') (h : SqT K H a xs) : SqT K H' a xs := Uq.Same.tup e h
end Uq
namespace Uq
open PySem PySem.Spec PyProof.Rows L2
theorem iteY {c A B : Prop} [Decidable c] (h : c) (x : A) : if c then A else B := by
  rw [if_pos h]
  exact x
theorem iteN {c A B : Prop} [Decidable c] (h : ¬ c) (x : B) : if c then A else B := by
  rw [if_neg h]
  exact x
/-- a test whose answer is known -/
theorem iteDY {c A B : Prop} [Decidable c] (h : c) (x : A) : if decide c = true then A else B := iteY (decide_eq_true h) x
theorem iteDN {c A B : Prop} [Decidable c] (h : ¬ c) (x : B) : if decide c = true then A else B := iteN (fun z => h (of_decide_eq_true z)) x
end Uq

namespace Uq
open PySem PySem.Spec PyProof.Rows L2

/-! ### defs that are called where no text of an object is under way -/
structure FnG (P : Program) (w : World) (K : PySem.W.Frag) (mg : Str → Option Value) (base : Heap) (k : Nat) (f : Addr) (fd : FuncData) (ps : List Str) (sp : Sp) : Prop where
  len : ∀ vs H Q E, sp vs H Q E → vs.length = ps.length
  run : ∀ (A : Around) (outer : List Env) (s : Shared) (H : Hp) (args : Args) (us : List Value) (vs : List V) (Q : VK) (E : XK),
    A.guards = some [] → Room k A → Env0 P w K mg base A outer s H → BindsTo s fd args (ps.zip us) → Vals vs us → sp vs H Q E →
    codeAny (model P w) A (.call (.ref f) args) (CR CX0 outer P w H s Q E) s

structure CalG (P : Program) (w : World) (K : PySem.W.Frag) (mg : Str → Option Value) (base : Heap) (k : Nat) (x : Str) (ps : List Str) (sp : Sp) where
  a : Addr
  d : FuncData
  G : FnG P w K mg base k a d ps sp
  kp : PySem.W.keepIn K (.ref a) = true
  b : Binds K d ps []
  g : mg x = some (.ref a)

section
variable {P : Program} {w : World} {K : PySem.W.Frag} {mg : Str → Option Value} {base : Heap}
theorem Fun_okG {x qual : Str} {st : Stmt} {f : Addr} {fd : FuncData} {N ps : List Str} {k : Nat} {sp : Sp} (F : Fun K x qual st f fd) (S : FnScope N ps (defScope st))
    (len : ∀ vs H Q E, sp vs H Q E → vs.length = ps.length)
    (hbody : ∀ (cdv : Value) (A : Around) (outer : List Env) (s : Shared) (H : Hp) (vs : List V) (Q : VK) (E : XK), A.guards = some [] →
      Room k (A.deeper (envOfC qual (defScope st) s.heap.objs.size f cdv)) → sp vs H Q E →
      ∃ t, PSs (cxOf CX0 P w K mg base N qual (defScope st) f cdv A outer s H E).nox (defBody st) t ∧ t { nx := fun _ H' => Q .non H', rt := Q } (start N vs) H) :
    FnG P w K mg base (k + 1) f fd ps sp := by
  obtain ⟨oc, od, kV, doc, pm, an, cdv, ct, osl, rfl, lk, hcd⟩ := F.ex
  constructor
  · exact len
  intro A outer s H args us vs Q E hg hr e0 hb r hsp
  have hkeep : ∀ b o, base.get? b = some o → s.heap.get? b = some o := fun b o e => (e0.bs b o e).1
  have KX : K.In s.heap := e0.mod.kin.keeps hkeep
  have hpar : ∀ y ∈ ps.zip us, (defScope st).names.lookup y.1 = some .local ∨ ((defScope st).names.lookup y.1 = some .cell ∧ ((cellsFrom (s.heap.objs.size + 1) (defScope st).names []).lookup y.1).isSome = true) := by
    intro y hy
    have hm : y.1 ∈ ps := (List.of_mem_zip (show (y.1, y.2) ∈ ps.zip us from hy)).1
    cases S.par y.1 hm with
    | inl q => exact Or.inl q
    | inr q => exact Or.inr ⟨q, PySem.W.cellsFrom_some _ _ _ (Or.inl q)⟩
  apply codeAny_call_function hr.depth (KX _ _ lk) rfl S.co S.gen rfl (PySem.W.codeRec_of KX hcd)
  apply hb
  apply wpAny_newFunctionEnv_cells S.kind hpar
  rintro env rfl s1 x
  refine ⟨(e0.mod.nolimit.keeps hkeep).keeps x.toInCall.keep, codeAny_func ?_⟩
  obtain ⟨t, ht, hq⟩ := hbody cdv A outer s H vs Q E hg (hr.deeper _) hsp
  have J0 := inv_start (CX := CX0) (E := E) S hr.hd e0 (len _ _ _ _ hsp) r x
  have run := ht.nox.run [] s1 (start N vs) H _ J0 hq
  refine wpAny_mono run (fun fl s' hs => ?_) (fun _ _ hs => hs)
  cases fl with
  | ret u =>
    obtain ⟨v, σ', H', J, rv, q⟩ := hs
    exact ⟨v, H', J.os, J.bare, J.base, J.hok, rv, q⟩
  | next =>
    obtain ⟨σ', H', J, q⟩ := hs
    exact ⟨.non, H', J.os, J.bare, J.base, J.hok, rfl, q⟩
  | brk => exact hs.elim (fun _ h => h.elim fun _ h => h.2.elim)
  | cont => exact hs.elim (fun _ h => h.elim fun _ h => h.2.elim)
end

section
variable {X : Cx} {k : Nat} {f : Addr} {fd : FuncData} {ps : List Str} {sp : Sp} {x : Str} {p pos : Pos} {e : Expr} {es : List Expr} {t : TA}
theorem pe_callG (F : FnG X.prog X.w X.K X.mg X.base k f fd ps sp) (hgd : X.A.guards = some []) (hr : Room k X.A) (hg : Gl X x) (hm : X.mg x = some (.ref f)) (hk : PySem.W.keepIn X.K (.ref f) = true) (hb : Binds X.K fd ps [])
    (ha : PA X (e :: es) t) (hdb : (x == ("__debug__" : Str)) = false := by decide) (he : starEach (e :: es) X.env = (false, eval e X.env) :: starEach es X.env := by rfl) (hpl : (backTo pos (starEach es X.env)).any (·.1) = false := by rfl) :
    PE X (.Call (.Name x p) (e :: es) [] pos) (tCall sp [] E0 t) := by
  constructor
  intro pins s σ H Q I h
  apply wpAny_Call_Name_kw
  refine ld_glob I hg hm ?_ hdb
  have args := thn (ha.run pos pins s σ H _ I h) (Q' := fun us s1 => X.K.In s1.heap ∧ wpAny (model X.prog X.w) X.A (call (.ref f) us) (EP X pins σ Q) X.xe s1) ?_
  · exact PySem.W.callWith_K (h₀ := X.base) I.ok.mod.kin hk args he hpl
  rintro us s1 ⟨vs, H1, I1, r, q⟩
  refine ⟨I1.kIn, ?_⟩
  have q0 : sp vs H1 Q E0 := by
    have z := q
    rw [List.append_nil] at z
    exact z
  have hl : (us ++ ([] : List Value)).length = ps.length := by
    rw [List.append_nil, ← r.length]
    exact F.len _ _ _ _ q0
  have bd := hb s1 us I1.kIn hl
  rw [List.append_nil] at bd
  have code := F.run X.A X.stack s1 H1 ⟨us, []⟩ us vs Q E0 hgd hr I1.env0 bd r q0
  refine wpAny_call (codeAny_mono code ?_)
  intro res s' hq
  cases res with
  | error e => exact False.elim hq
  | ok fl =>
    cases fl with
    | ret u => exact I1.after hq
    | next => exact False.elim hq
    | brk => exact False.elim hq
    | cont => exact False.elim hq
end
end Uq

namespace Uq
open PySem PySem.Spec PyProof.Rows L2

section
variable {P : Program} {w : World} {K : PySem.W.Frag} {mg mb : Str → Option Value} {k : Nat} {fa a : Addr} {fd : FuncData} {x : Str} {sp : Sp} {s₁ : Shared} {vs : List Value} {ns : List Int}
/-- the law's call from a heap of which at most the script is tracked -/
theorem core_callG (KX : K.In s₁.heap) (hns : s₁.heap.Ns mainGlobals mg) (hb : s₁.heap.Ns builtinsNs mb) (hbb : ∀ x : Str, x ≠ "__name__" → mb x = bootBuiltins x) (hlim : s₁.heap.NoLimit) (hg : s₁.gens = #[])
    (ha : s₁.heap.get? a = some { cls := .type "list", data := .seq vs.toArray }) (hr : Room k callerA)
    (F : ∀ base : Heap, K.In base → base.Ns mainGlobals mg → FnG P w K mg base k fa fd [x] sp) (hbind : ∀ (s : Shared) (u : Value), BindsTo s fd ⟨[u], []⟩ [(x, u)])
    (H : Hp) (hO : Only H) (hok : HOk P w H s₁.heap) (hA : ∀ b, H b ≠ none → b = a) (hK : H a ≠ none → K.lookup a = none) (hsp : sp [.ref a] H (fun v _ => v = .bl true) (fun _ _ _ => False)) :
    codeAny (model P w) callerA (.call (.ref fa) ⟨[.ref a], []⟩) (fun r s' => r = .ok (.ret (.bool true)) ∧ OldK s₁.heap s'.heap ∧ s'.os = s₁.os ∧ AllBare s'.gens) s₁ := by
  have noA : ∀ {b : Addr} {o : Obj} {es : Array DictEntry} {ep : Nat}, s₁.heap.get? b = some o → o.data = .dict es ep → H b = none := by
    intro b o es ep e d
    by_cases q : H b = none
    · exact q
    · have eb := hA b q
      subst eb
      rw [ha] at e
      cases e
      exact nomatch (show Data.seq vs.toArray _ = Data.dict es ep from d)
  have nsH : ∀ {b : Addr} {m : Str → Option Value}, s₁.heap.Ns b m → (hidT s₁.heap H).Ns b m := by
    rintro b m ⟨o, es, ep, e, d, r⟩
    exact ⟨o, es, ep, hidT_get e (noA e d), d, r⟩
  have KH : K.In (hidT s₁.heap H) := by
    intro b o e
    refine hidT_get (KX b o e) ?_
    by_cases q : H b = none
    · exact q
    · have eb := hA b q
      subst eb
      rw [hK q] at e
      cases e
  obtain ⟨mc, l1, l2⟩ := hlim
  have e0 : Env0 P w K mg (hidT s₁.heap H) callerA [] s₁ H := by
    refine { frames := rfl, mod := ⟨KH, nsH hns, ⟨mb, nsH hb, hbb⟩, ⟨mc, nsH l1, l2⟩⟩, bs := fun b o e => of_hidT e, bsz := Nat.le_of_eq (hidT_size _ _), funs := trivial, frf := ?_, hok := hok, bare := .of_eq hg }
    intro b z
    exact nomatch (show b ∈ ([] : List Addr) from z)
  have go := (F _ KH (nsH hns)).run callerA [] s₁ H ⟨[.ref a], []⟩ [.ref a] [.ref a] _ _ rfl hr e0 (hbind s₁ (.ref a)) (.cons rfl .nil) hsp
  refine codeAny_mono go ?_
  intro r s' h
  cases r with
  | error e => exact False.elim h
  | ok fl =>
    cases fl with
    | next => exact False.elim h
    | brk => exact False.elim h
    | cont => exact False.elim h
    | ret u =>
      obtain ⟨v, H', os, bare, un, hok', rv, q⟩ := h
      have ev : v = .bl true := q
      subst ev
      have eu : u = Value.bool true := rv
      subst eu
      refine ⟨rfl, OldK.of_keep ?_, os, bare⟩
      intro b o e
      rcases hO b with z | ⟨ob, xs, z⟩
      · exact un.keep b o e z (fun y => nomatch (show b ∈ ([] : List Addr) from y)) (fun y => nomatch (show b ∈ ([] : List Addr) from y))
      · obtain ⟨y1, _⟩ := hok b _ z
        obtain ⟨y2, _⟩ := hok' b _ (un.frzs b ob _ z)
        rw [e] at y1
        cases y1
        exact y2
end

theorem walk_ofG {l : PySem.W.OpenLaw} {n k : Nat} {q : Program} {loose : List Str} {XP : (Str → Option Value) → Heap → Prop} {YP : World → Heap → Prop} {d : DefRec} {K : Params → PySem.W.Frag} {sp : World → Sp} {x : Str}
    (hn : l.most = some n) (hn2 : n ≤ sizeLine) (hdf : d.params.defaults = []) (hr : Room k callerA)
    (hY : ∀ (w : World) (h : Heap), YP w h → (K w.params).In h)
    (F : ∀ (w : World) (mg : Str → Option Value) (fa : Addr) (h : Heap), (K w.params).In h → h.Ns mainGlobals mg → mg d.name = some (.ref fa) →
      ∃ fd : FuncData, (∀ (s : Shared) (u : Value), BindsTo s fd ⟨[u], []⟩ [(x, u)]) ∧ ∀ base : Heap, (K w.params).In base → base.Ns mainGlobals mg → FnG l.prog w (K w.params) mg base k fa fd [x] (sp w))
    (hsp : ∀ (w : World) (H : Hp) (a : Addr) (ns : List Int), ns.length ≤ n → SqL (K w.params) H a (ns.map V.int) → sp w [.ref a] H (fun v _ => v = .bl true) (fun _ _ _ => False)) :
    PySem.W.WalkO q loose XP YP l.row.toRowW d [] (fun f vs => PySem.call f vs) := by
  apply Att.attach_call hn hdf
  intro w s₀ s₁ mg mb fa o pm cd doc a vs ns G Y ho hd hcd hmg ha hi hlen hg
  have KX := hY w _ Y
  obtain ⟨fd, hb, hF⟩ := F w mg fa _ KX G.T.g hmg
  have rv := vals_ints hi
  have len := hi.length
  have hl : ns.length ≤ sizeLine := Nat.le_trans hlen hn2
  by_cases hk : K w.params |>.lookup a |>.isSome
  · obtain ⟨ob, hob⟩ := Option.isSome_iff_exists.mp hk
    have e := KX a ob hob
    rw [ha] at e
    cases e
    refine core_callG (H := fun _ => none) KX G.T.g G.T.b G.T.builtins G.T.nolimit hg ha hr hF hb (fun _ => .inl rfl) (fun b u z => nomatch (show (none : Option HO) = some u from z)) (fun b z => absurd rfl z) (fun z => absurd rfl z) ?_
    refine hsp w _ a ns hlen (.inr ⟨_, vs.toArray, _, hob, rfl, rfl, rfl, ?_, ?_⟩)
    · rw [List.size_toArray, len]
      exact hl
    · exact rv
  · have hk' : (K w.params).lookup a = none := Option.not_isSome_iff_eq_none.mp hk
    let H0 : Hp := fun b => if b = a then some (.frz { cls := .type "list", data := .seq vs.toArray } (.lst (ns.map V.int))) else none
    have h0 : H0 a = some (.frz { cls := .type "list", data := .seq vs.toArray } (.lst (ns.map V.int))) := if_pos rfl
    have h1 : ∀ b, b ≠ a → H0 b = none := fun b z => if_neg z
    refine core_callG (H := H0) KX G.T.g G.T.b G.T.builtins G.T.nolimit hg ha hr hF hb ?_ ?_ ?_ (fun _ => hk') ?_
    · intro b
      by_cases z : b = a
      · subst z
        exact .inr ⟨_, _, h0⟩
      · exact .inl (h1 b z)
    · intro b u e
      by_cases z : b = a
      · subst z
        rw [h0] at e
        cases e
        exact ⟨ha, by rw [List.length_map]; exact hl, vs, _, rv, ha⟩
      · rw [h1 b z] at e
        cases e
    · intro b z
      by_cases y : b = a
      · exact y
      · exact absurd (h1 b y) z
    · exact hsp w _ a ns hlen (.inl (.inr ⟨_, h0⟩))

/-! ### the text of data -/
theorem dp_same {K : PySem.W.Frag} {H H' : Hp} (e : Same H H') : ∀ (d : PyData) (v : V), Dp K H v d → Dp K H' v d
  | .none, _, h => by cases h; exact .non
  | .bool _, _, h => by cases h; exact .bl _
  | .int _, _, h => by cases h; exact .int _
  | .str _, _, h => by cases h; exact .str _
  | .list ds, _, h => by
    cases h with
    | lst h1 h2 => exact .lst (sqL_same e h1) (all ds _ h2)
  | .tuple ds, _, h => by
    cases h with
    | tup h1 h2 => exact .tup (sqT_same e h1) (all ds _ h2)
  | .dict _, _, h => nomatch h
where all : ∀ (ds : List PyData) (vs : List V), DpAll K H vs ds → DpAll K H' vs ds
  | [], _, h => by cases h; exact .nil
  | d :: ds, _, h => by
    cases h with
    | cons h1 h2 => exact .cons (dp_same e d _ h1) (all ds _ h2)
/-- repr(x), x data of any depth -/
def rRepr (K : PySem.W.Frag) : List V → Hp → VK → Prop := fun xs H Q => ∃ (x : V) (d : PyData), xs = [x] ∧ Dp K H x d ∧ d.showable = true ∧ d.hasDict = false ∧ d.depth ≤ 60 ∧ d.shown.length ≤ sizeLine ∧ Q (.str d.shown) H
theorem call_repr_data {X : Cx} (hg : X.A.guards = some []) (hu : X.A.units + 100 < cLine) : CallR X (.builtin "repr") (rRepr X.K) := by
  intro pins s σ H xs us Q I r h
  obtain ⟨x, d, rfl, dp, hs, hd, hdep, hz, q⟩ := h
  obtain ⟨u, rfl, ru⟩ := vals1 r
  obtain ⟨as, rd⟩ := Dp.reads I d x u dp ru
  cases d with
  | none =>
    cases dp
    cases ru
    exact PySem.P.repr_of_none ⟨.str _, H, I.tok _, ⟨_, rfl⟩, q⟩
  | bool b =>
    cases dp
    cases ru
    exact PySem.P.repr_of_bool ⟨.str _, H, I.tok _, ⟨_, rfl⟩, q⟩
  | int i =>
    cases dp
    obtain ⟨t, rfl⟩ := ru
    exact PySem.P.repr_of_int (of_decide_eq_true hs) ⟨.str _, H, I.tok _, ⟨_, rfl⟩, q⟩
  | str y =>
    cases dp
    obtain ⟨t, rfl⟩ := ru
    exact PySem.P.repr_of_str ⟨.str _, H, I.tok _, ⟨_, rfl⟩, q⟩ hz
  | list ds =>
    cases dp with
    | @lst a _ _ h1 h2 =>
      cases ru
      exact repr_of_reads' rd hs (PyData.noDict_hsm hd) hg (by omega) (fun _ _ e => e) (fun h' u tk hk => ⟨.str _, H, I.kept (h' := h') (t' := tk) hk, ⟨_, rfl⟩, q⟩) hz
  | tuple ds =>
    cases dp with
    | @tup a _ _ h1 h2 =>
      cases ru
      exact repr_of_reads' rd hs (PyData.noDict_hsm hd) hg (by omega) (fun _ _ e => e) (fun h' u tk hk => ⟨.str _, H, I.kept (h' := h') (t' := tk) hk, ⟨_, rfl⟩, q⟩) hz
  | dict kvs => cases dp
end Uq
namespace Uq
open PySem PySem.Spec PyProof.Rows L2
theorem ru {k : Nat} {A : Around} (hr : Room k A) : A.units + 100 < cLine := by
  have := hr.un
  omega
end Uq

namespace Uq
open PySem PySem.Spec PyProof.Rows L2
section
variable {σ : L2.St} {H : Hp} {ta tb tc te : TE} {c d : Bool} {x y z : V} {i j n : Int} {K : PySem.W.Frag}
theorem val_orV (ha : Val ta σ H (.bl c)) (hb : c = false → Val tb σ H (.bl d)) : Val (tOrV ta tb) σ H (.bl (c || d)) := fun Q q => ha _ ⟨c, rfl, by
  cases c with
  | true => exact iteT q
  | false => exact iteF (hb rfl _ q)⟩
theorem val_andV (ha : Val ta σ H (.bl c)) (hb : c = true → Val tb σ H (.bl d)) : Val (tAndV ta tb) σ H (.bl (c && d)) := fun Q q => ha _ ⟨c, rfl, by
  cases c with
  | true => exact iteT (hb rfl _ q)
  | false => exact iteF q⟩
theorem val_notV (ha : Val ta σ H (.bl c)) : Val (tNotV ta) σ H (.bl (!c)) := fun Q q => ha _ ⟨c, rfl, q⟩
theorem val_I0 {g : Int → Int → V} (ha : Val ta σ H (.int i)) (hb : Val tb σ H (.int j)) : Val (tOp (rI0 g) ta tb) σ H (g i j) := fun Q q => ha _ (hb _ ⟨i, j, rfl, rfl, q⟩)
theorem val_I {C : Int → Int → Prop} {g : Int → Int → V} (hc : C i j) (ha : Val ta σ H (.int i)) (hb : Val tb σ H (.int j)) : Val (tOp (rI C g) ta tb) σ H (g i j) := fun Q q => ha _ (hb _ ⟨i, j, rfl, rfl, hc, q⟩)
theorem dec_ii : decide (V.int i = V.int j) = decide (i = j) := by
  rw [decide_eq_decide]
  exact ⟨fun z => V.int.inj z, fun z => by rw [z]⟩
theorem dec_ss {a b : Str} : decide (V.str a = V.str b) = decide (a = b) := by
  rw [decide_eq_decide]
  exact ⟨fun z => V.str.inj z, fun z => by rw [z]⟩
theorem val_eqI (ha : Val ta σ H (.int i)) (hb : Val tb σ H (.int j)) : Val (tOp rEq ta tb) σ H (.bl (decide (i = j))) := fun Q q => ha _ (hb _ ⟨rfl, by rw [dec_ii]; exact q⟩)
theorem val_eqS {a b : Str} (ha : Val ta σ H (.str a)) (hb : Val tb σ H (.str b)) : Val (tOp rEq ta tb) σ H (.bl (decide (a = b))) := fun Q q => ha _ (hb _ ⟨rfl, by rw [dec_ss]; exact q⟩)
theorem val_eqV (ha : Val ta σ H x) (hb : Val tb σ H y) (hs : scal x y = true) : Val (tOp rEq ta tb) σ H (.bl (decide (x = y))) := fun Q q => ha _ (hb _ ⟨hs, q⟩)
theorem val_neV (ha : Val ta σ H x) (hb : Val tb σ H y) (hs : scal x y = true) : Val (tOp rNe ta tb) σ H (.bl (!decide (x = y))) := fun Q q => ha _ (hb _ ⟨hs, q⟩)
theorem val_ixL {p : Addr} {xs : List V} (ha : Val ta σ H (.ref p)) (hb : Val tb σ H (.int i)) (h : SqL K H p xs) (hi : atI xs i = some z) : Val (tOp (rIxL K) ta tb) σ H z := fun Q q => ha _ (hb _ ⟨p, xs, i, z, rfl, rfl, h, hi, q⟩)
theorem val_ixT {p : Addr} {xs : List V} (ha : Val ta σ H (.ref p)) (hb : Val tb σ H (.int i)) (h : SqT K H p xs) (hi : atI xs i = some z) : Val (tOp (rIxT K) ta tb) σ H z := fun Q q => ha _ (hb _ ⟨p, xs, i, z, rfl, rfl, h, hi, q⟩)
theorem val_chain {g g' : Int → Int → Bool} (ha : Val ta σ H (.int i)) (hb : Val tb σ H (.int j)) (hc : g i j = true → Val tc σ H (.int n)) :
    Val (tChain (rI0 fun i j => .bl (g i j)) (rI0 fun i j => .bl (g' i j)) ta tb tc) σ H (.bl (g i j && g' j n)) := fun Q q => ha _ (hb _ ⟨i, j, rfl, rfl, g i j, rfl, by
  cases e : g i j with
  | true =>
    rw [e] at q
    exact iteT (hc e _ ⟨j, n, rfl, rfl, q⟩)
  | false =>
    rw [e] at q
    exact iteF q⟩)
theorem val_if {tt : TT} (h : Ans tt σ H c) (h1 : c = true → Val ta σ H x) (h2 : c = false → Val tb σ H x) : Val (tIf tt ta tb) σ H x := fun Q q => h _ (by
  cases c with
  | true => exact iteT (h1 rfl _ q)
  | false => exact iteF (h2 rfl _ q))
theorem ans_val2 (h : Val te σ H (.bl c)) : Ans (tTest te) σ H c := fun Q q => h _ ⟨c, rfl, q⟩
theorem val_to (h : Val te σ H x) (e : x = y) : Val te σ H y := e ▸ h
end
end Uq

namespace Uq
open PySem PySem.Spec PyProof.Rows L2
def keyD : Key → PyData
  | .inl i => .int i
  | .inr x => .str x
mutual
/-- data of any depth, dicts with int and text keys among it; its lists and dicts are tracked -/
inductive Dx (K : PySem.W.Frag) (H : Hp) : V → PyData → Prop
  | non : Dx K H .non .none
  | bl (b : Bool) : Dx K H (.bl b) (.bool b)
  | int (i : Int) : Dx K H (.int i) (.int i)
  | str (x : Str) : Dx K H (.str x) (.str x)
  | lst {a : Addr} {xs : List V} {ds : List PyData} : H a = some (.lst xs) → a ≠ sysModules → DxAll K H xs ds → Dx K H (.ref a) (.list ds)
  | tup {a : Addr} {xs : List V} {ds : List PyData} : SqT K H a xs → DxAll K H xs ds → Dx K H (.ref a) (.tuple ds)
  | dct {a : Addr} {kvs : List (Key × V)} {es : List (PyData × PyData)} : H a = some (.dK kvs) → es.map (·.1) = kvs.map (fun kv => keyD kv.1) → DxAll K H (kvs.map (·.2)) (es.map (·.2)) → Dx K H (.ref a) (.dict es)
inductive DxAll (K : PySem.W.Frag) (H : Hp) : List V → List PyData → Prop
  | nil : DxAll K H [] []
  | cons {v : V} {vs : List V} {d : PyData} {ds : List PyData} : Dx K H v d → DxAll K H vs ds → DxAll K H (v :: vs) (d :: ds)
end
theorem keys_reads {P : Program} {w : World} {h : Heap} : ∀ {es : List DictEntry} {vs : List (Key × Value)} {kvs : List (Key × V)}, Pairs (mixKind P w) es vs → KV kvs vs → ReadsAll h (es.map (·.key)) (kvs.map fun kv => keyD kv.1) [] := by
  intro es vs kvs hp
  induction hp generalizing kvs with
  | nil =>
    intro r
    cases r
    exact .nil
  | @cons e kv es vs hk hv hp ih =>
    intro r
    cases r with
    | @cons a b l1 l2 r1 r2 =>
      have q : Reads h e.key (keyD a.1) [] := by
        rw [r1.1]
        rcases keyIs_shape hk with ⟨i, t, e1, e2⟩ | ⟨x, t, e1, e2⟩
        · rw [e1, e2]
          exact .int i t
        · rw [e1, e2]
          exact .str x t
      exact ReadsAll.cons (as := []) (bs := []) q (ih r2)
theorem vals_pairs {P : Program} {w : World} : ∀ {es : List DictEntry} {vs : List (Key × Value)} {kvs : List (Key × V)}, Pairs (mixKind P w) es vs → KV kvs vs → Vals (kvs.map (·.2)) (es.map (·.val)) := by
  intro es vs kvs hp
  induction hp generalizing kvs with
  | nil =>
    intro r
    cases r
    exact .nil
  | @cons e kv es vs hk hv hp ih =>
    intro r
    cases r with
    | @cons a b l1 l2 r1 r2 =>
      have q : RelV a.2 e.val := by
        rw [hv]
        exact r1.2
      exact .cons q (ih r2)
section
variable {X : Cx} {pins : List (Addr × Obj)} {σ : L2.St} {H : Hp} {s : Shared}
mutual
theorem Dx.reads (I : Inv X pins σ H s) : ∀ {d : PyData} {v : V} (h : Dx X.K H v d) {u : Value}, RelV v u → ∃ as, Reads s.heap u d as ∧ sysModules ∉ as
  | _, _, .non, _, r => by
    cases r
    exact ⟨[], Reads.none, fun z => nomatch z⟩
  | _, _, .bl b, _, r => by
    cases r
    exact ⟨[], Reads.bool b, fun z => nomatch z⟩
  | _, _, .int i, _, r => by
    obtain ⟨t, rfl⟩ := r
    exact ⟨[], Reads.int i t, fun z => nomatch z⟩
  | _, _, .str x, _, r => by
    obtain ⟨t, rfl⟩ := r
    exact ⟨[], Reads.str x t, fun z => nomatch z⟩
  | _, _, .lst e ns ha, _, r => by
    cases r
    obtain ⟨its, rv, ⟨o, n, ho, hc, _, hd⟩, _⟩ := I.list (SqL.of e)
    obtain ⟨as, hr, hn⟩ := DxAll.reads I ha rv
    exact ⟨_, Reads.list ho hc hd hr, fun z => (List.mem_cons.mp z).elim (fun y => ns y.symm) hn⟩
  | _, _, .tup e ha, _, r => by
    cases r
    obtain ⟨its, rv, ⟨o, ho, hc, n, hd⟩, _⟩ := I.tuple e
    obtain ⟨as, hr, hn⟩ := DxAll.reads I ha rv
    exact ⟨_, Reads.tuple ho hc hd hr, hn⟩
  | _, _, .dct e he ha, _, r => by
    cases r
    obtain ⟨_, hsys, vs, kv, o, es, ep, ho, hx, hd, _, hp, _⟩ := (show ObjOk X.prog X.w H s.heap _ (.dK _) from I.hok _ _ e)
    obtain ⟨bs, hr, hn⟩ := DxAll.reads I ha (vals_pairs hp kv)
    have k := keys_reads (h := s.heap) hp kv
    rw [← he] at k
    refine ⟨_, Reads.dict ho hx.1 hd k hr, fun z => ?_⟩
    rcases List.mem_cons.mp z with y | y
    · rw [← y] at hsys
      simp at hsys
    · exact hn y
theorem DxAll.reads (I : Inv X pins σ H s) : ∀ {ds : List PyData} {vs : List V} (h : DxAll X.K H vs ds) {us : List Value}, Vals vs us → ∃ as, ReadsAll s.heap us ds as ∧ sysModules ∉ as
  | _, _, .nil, _, r => by
    cases r
    exact ⟨_, ReadsAll.nil, fun z => nomatch z⟩
  | _, _, .cons h1 h2, _, r => by
    cases r with
    | cons r1 r2 =>
      obtain ⟨as, q1, n1⟩ := Dx.reads I h1 r1
      obtain ⟨bs, q2, n2⟩ := DxAll.reads I h2 r2
      exact ⟨_, ReadsAll.cons q1 q2, fun z => (List.mem_append.mp z).elim n1 n2⟩
end
end
/-! what is tracked stays -/
mutual
theorem Dx.same {K : PySem.W.Frag} {H H' : Hp} (e : Same H H') : ∀ {d : PyData} {v : V}, Dx K H v d → Dx K H' v d
  | _, _, .non => .non
  | _, _, .bl b => .bl b
  | _, _, .int i => .int i
  | _, _, .str x => .str x
  | _, _, .lst h ns ha => .lst (e _ _ h) ns (DxAll.same e ha)
  | _, _, .tup h ha => .tup (sqT_same e h) (DxAll.same e ha)
  | _, _, .dct h he ha => .dct (e _ _ h) he (DxAll.same e ha)
theorem DxAll.same {K : PySem.W.Frag} {H H' : Hp} (e : Same H H') : ∀ {ds : List PyData} {vs : List V}, DxAll K H vs ds → DxAll K H' vs ds
  | _, _, .nil => .nil
  | _, _, .cons h1 h2 => .cons (Dx.same e h1) (DxAll.same e h2)
end
/-- data that is short enough to be written -/
def Shows (d : PyData) : Prop := d.showable = true ∧ d.depth ≤ 60 ∧ d.shown.length ≤ sizeLine
def rReprX (K : PySem.W.Frag) : List V → Hp → VK → Prop := fun xs H Q => ∃ (x : V) (d : PyData), xs = [x] ∧ Dx K H x d ∧ Shows d ∧ Q (.str d.shown) H
theorem call_reprX {X : Cx} (hg : X.A.guards = some []) (hu : X.A.units + 100 < cLine) : CallR X (.builtin "repr") (rReprX X.K) := by
  intro pins s σ H xs us Q I r h
  obtain ⟨x, d, rfl, dp, ⟨hs, hdep, hz⟩, q⟩ := h
  obtain ⟨u, rfl, ru⟩ := vals1 r
  obtain ⟨as, rd, hsm⟩ := Dx.reads I dp ru
  cases dp with
  | non =>
    cases ru
    exact PySem.P.repr_of_none ⟨.str _, H, I.tok _, ⟨_, rfl⟩, q⟩
  | bl b =>
    cases ru
    exact PySem.P.repr_of_bool ⟨.str _, H, I.tok _, ⟨_, rfl⟩, q⟩
  | int i =>
    obtain ⟨t, rfl⟩ := ru
    exact PySem.P.repr_of_int (of_decide_eq_true hs) ⟨.str _, H, I.tok _, ⟨_, rfl⟩, q⟩
  | str y =>
    obtain ⟨t, rfl⟩ := ru
    exact PySem.P.repr_of_str ⟨.str _, H, I.tok _, ⟨_, rfl⟩, q⟩ hz
  | lst =>
    cases ru
    exact repr_of_reads' rd hs (fun _ => hsm) hg (by omega) (fun _ _ e => e) (fun h' u tk hk => ⟨.str _, H, I.kept (h' := h') (t' := tk) hk, ⟨_, rfl⟩, q⟩) hz
  | tup =>
    cases ru
    exact repr_of_reads' rd hs (fun _ => hsm) hg (by omega) (fun _ _ e => e) (fun h' u tk hk => ⟨.str _, H, I.kept (h' := h') (t' := tk) hk, ⟨_, rfl⟩, q⟩) hz
  | dct =>
    cases ru
    exact repr_of_reads' rd hs (fun _ => hsm) hg (by omega) (fun _ _ e => e) (fun h' u tk hk => ⟨.str _, H, I.kept (h' := h') (t' := tk) hk, ⟨_, rfl⟩, q⟩) hz
/-! ### a list's place is beyond what the top has laid -/
section
variable {X : Cx} {t : TA} {es : List Expr} {pos : Pos}
def tLstB (t : TA) : TE := fun σ H Q => t σ H fun xs H1 => xs.length ≤ sizeLine ∧ ∀ p, H1 p = none → p ≠ sysModules → Q (.ref p) (upd H1 p (.lst xs))
theorem pe_lstB (hb : sysModules < X.base.objs.size) (h : PA X es t) : PE X (.List es pos) (tLstB t) := by
  constructor
  intro pins s σ H Q I hq
  apply wpAny_List_spliced
  apply thn (h.run pos pins s σ H _ I hq)
  rintro us s1 ⟨xs, H1, I1, r, z, q⟩
  rw [r.length] at z
  refine ⟨z, ?_⟩
  have hf : H1 s1.heap.objs.size = none := I1.hok.fresh (Nat.le_refl _)
  have low : s1.heap.objs.size ≠ sysModules := Nat.ne_of_gt (Nat.lt_of_lt_of_le hb (Nat.le_trans I1.ok.bsz I1.sz))
  have new : ObjOk X.prog X.w (upd H1 s1.heap.objs.size (.lst xs)) (s1.heap.push { cls := .type "list", data := .seq us.toArray }) s1.heap.objs.size (.lst xs) := ⟨by rw [r.length]; exact z, us, 0, r, Heap.get?_push_size _ rfl⟩
  exact ⟨.ref s1.heap.objs.size, _, I1.laid (t' := s1.toks) (fun b u e => Heap.get?_push_of_some _ e) (Nat.le_refl _) new, rfl, q _ hf low⟩
end
end Uq

namespace Uq
open PySem PySem.Spec PyProof.Rows L2
/-! ### own exceptions as values: their __init__ walked as a def, they and their dict tracked -/
/-- what is asked of a class of exceptions -/
structure Xcl (K : PySem.W.Frag) (C : Addr) : Prop where
  T : OexC K C
  ga : PySem.W.findIn K (.ref C) "__getattribute__" = some (some (.builtin "BaseException.__getattribute__"))
  gg : PySem.W.findIn K (.ref C) "__getattr__" = some none
  hd : PySem.W.hasDictIn K C = true
  cl : PySem.W.findIn K (.ref C) "__class__" = some (some (.builtin "object.__class__"))
  sp : PySem.W.specialIn K (.builtin "object.__class__") "__get__" = some (some (.builtin "getset_descriptor.__get__"))
  tk : PySem.W.takesIn K (.builtin "object.__class__") = some true
  mo : PySem.W.mroIn K C (.type "object") = some true
  va : PySem.W.findIn K (.ref C) "value" = some none
/-- at a: an exception of the class C that keeps v -/
def Exc (H : Hp) (a C : Addr) (v : V) : Prop := ∃ dx : Addr, H a = some (exo a C (some dx)) ∧ H dx = some (exd dx [("value", v)])
theorem Exc.same {H H' : Hp} {a C : Addr} {v : V} (e : Same H H') (h : Exc H a C v) : Exc H' a C v := by
  obtain ⟨dx, h1, h2⟩ := h
  exact ⟨dx, e _ _ h1, e _ _ h2⟩
theorem Exc.but {H H' : Hp} {a C p : Addr} {v : V} {xs : List V} (e : But p H H') (hp : H p = some (.lst xs)) (h : Exc H a C v) : Exc H' a C v := by
  obtain ⟨dx, h1, h2⟩ := h
  refine ⟨dx, e _ _ (fun z => ?_) h1, e _ _ (fun z => ?_) h2⟩
  · rw [z, hp] at h1
    cases h1
  · rw [z, hp] at h2
    cases h2
/-- C(e), C's own __init__ keeping sp, the exception kept as a value -/
def tMkV (C : Addr) (sp : Sp) (ta : TA) : TE := fun σ H Q => ta σ H fun vs H1 => vs.length ≤ 1000 ∧ ∀ a, H1 a = none → sp (.ref a :: vs) (upd H1 a (exo a C none)) (fun v H2 => v = .non ∧ Q (.ref a) H2) (fun _ _ _ => False)
section
variable {X : Cx} {p pos : Pos} {e : Expr} {es : List Expr} {ta : TA}
theorem pe_oexV {x : Str} {C fI : Addr} {k : Nat} {fd : FuncData} {ps : List Str} {sp : Sp} (T : OexC X.K C) (iC : PySem.W.findIn X.K (.ref C) "__init__" = some (some (.ref fI))) (tI : PySem.W.typeIn X.K (.ref fI) = some (.type "function"))
    (F1 : FnOk X.prog X.w X.K X.mg X.base CX0 k fI fd ps sp) (hr : Room (k + 1) X.A) (hb : Binds X.K fd ps []) (hg : Gl X x) (hm : X.mg x = some (.ref C)) (ha : PA X (e :: es) ta)
    (hdb : (x == ("__debug__" : Str)) = false := by decide) (he : starEach (e :: es) X.env = (false, eval e X.env) :: starEach es X.env := by rfl) (hpl : (backTo pos (starEach es X.env)).any (·.1) = false := by rfl) :
    PE X (.Call (.Name x p) (e :: es) [] pos) (tMkV C sp ta) := by
  constructor
  intro pins s σ H Q I h
  apply wpAny_Call_Name_kw
  refine ld_glob I hg hm ?_ hdb
  have given := thn (ha.run pos pins s σ H _ I h) (Q' := fun us s1 => X.K.In s1.heap ∧ wpAny (model X.prog X.w) X.A (call (.ref C) us) (EP X pins σ Q) X.xe s1) ?_
  · exact PySem.W.callWith_K (h₀ := X.base) I.ok.mod.kin T.kC given he hpl
  rintro us ⟨h0, gens, drawn, toks, os⟩ ⟨vs, H1, I1, rel, small, cont⟩
  refine ⟨I1.kIn, ?_⟩
  -- its class
  have T' := T
  obtain ⟨⟨_, _, _, _, bm, _, _, _, _, _, _, _, _, _, _, cls, tail⟩, _, _, _, _⟩ := T'
  -- the heap when it is made, the place of the exception
  generalize ea : h0.objs.size + 1 = a
  have above : h0.objs.size ≤ a := by omega
  have new : H1 a = none := I1.hok.fresh above
  have stays : ∀ b o, h0.get? b = some o → ((h0.push (PySem.W.kdv_tup us)).push (PySem.HandSPX.excO C h0.objs.size)).get? b = some o := by
    intro b o e
    exact Heap.get?_push_of_some _ (Heap.get?_push_of_some _ e)
  have there : ((h0.push (PySem.W.kdv_tup us)).push (PySem.HandSPX.excO C h0.objs.size)).get? a = some (PySem.HandSPX.excO C h0.objs.size) := by
    rw [← ea]
    heap_get
  have J := I1.laid (t' := toks) (o := exo a C none) stays above (exo_ok there)
  have rel' : Vals (.ref a :: vs) (.ref a :: us) := .cons rfl rel
  have run := cont a new
  have count : (Value.ref a :: us).length = ps.length := rel'.length.symm.trans (F1.len _ _ _ _ run)
  have bound := hb _ (.ref a :: us) J.kIn (by rw [List.append_nil]; exact count)
  rw [List.append_nil] at bound
  have few : us.length ≤ sizeLine := Nat.le_trans (Nat.le_of_eq rel.length.symm) (Nat.le_trans small (by decide))
  have body := F1.run _ X.stack _ _ ⟨.ref a :: us, []⟩ (.ref a :: us) _ _ (fun _ _ _ => False) (hr.make C us []) (J.env0.make C us []) bound rel' run
  subst ea
  have back := fun Y => PySem.HandSPX.refsVE_contains Y bm tail
  refine wpAny_call (PySem.HandSPX.call_own F.excBase_ValueError back (I1.kIn _ _ cls) (PySem.W.looks_findIn I1.kIn iC) (fun self => PySem.W.bind_fn I1.kIn self tI) few ?_)
  refine codeAny_mono body ?_
  rintro (_ | (_ | _ | _ | u)) s' got
  all_goals first
    | exact False.elim got
    | (obtain ⟨v, H', J', rv, ev, q⟩ := J.after got
       subst ev
       exact ⟨rv, .ref _, H', J', rfl, q⟩)
end
/-! ### isinstance and .value of such an exception -/
theorem exc_inst {P : Program} {w : World} {H : Hp} {h : Heap} {a C : Addr} {v : V} (hok : HOk P w H h) (e : Exc H a C v) : ∃ (ox od : Obj) (mA : Str → Option Value) (dx : Addr), PySem.W.InstAt h a ox C (some od) ∧ h.Ns1 dx mA ∧ h.get? dx = some od := by
  obtain ⟨dx, h1, h2⟩ := e
  obtain ⟨t1, ho⟩ := exo_at hok h1
  obtain ⟨mA, hns, rel⟩ := exd_at hok h2
  obtain ⟨od, hod, hl⟩ := lookIn_ns hns
  exact ⟨_, od, mA, dx, ⟨ho, rfl, rfl, hod⟩, hns, hod⟩
def rIsX (K : PySem.W.Frag) : List V → Hp → VK → Prop := fun xs H Q => ∃ (a C : Addr) (v c : V) (u : Value) (b : Bool), xs = [.ref a, c] ∧ ClsV c u ∧ Xcl K C ∧ Exc H a C v ∧ PySem.W.kitOne K (.ref C) u = some b ∧ Q (.bl b) H
theorem call_isX {X : Cx} : CallR X (.builtin "isinstance") (rIsX X.K) := by
  intro pins s σ H xs us Q I r h
  obtain ⟨a, C, v, c, u, b, rfl, k, T, E, e, q⟩ := h
  obtain ⟨u1, u2, rfl, r1, r2⟩ := vals2 r
  cases (show u1 = Value.ref a from r1)
  have e2 := k.eq r2
  subst e2
  obtain ⟨ox, od, mA, dx, J, _⟩ := exc_inst I.hok E
  have hcl : (PySem.W.clsIn X.K C).isSome = true := by
    obtain ⟨cd, hc, _⟩ := PySem.W.any_some T.hd
    rw [hc]
    rfl
  exact PySem.W.kia_one (PySem.W.kitx_exc (x := a) (ox := ox) (od := some od) hcl T.ga T.gg T.T.exC T.cl T.sp T.tk T.mo) I.kIn J e (fun z => nomatch z) fun tk => ⟨.bl b, H, I.tok tk, rfl, q⟩
/-- x.value -/
def tXv (K : PySem.W.Frag) (te : TE) : TE := fun σ H Q => te σ H fun x H1 => ∃ (a C : Addr) (v : V), x = .ref a ∧ Xcl K C ∧ Exc H1 a C v ∧ Q v H1
theorem pe_xv {X : Cx} {e : Expr} {te : TE} {pos : Pos} (he : PE X e te) (hb : attributeBase e "value" X.env (eval e X.env) = eval e X.env := by rfl) : PE X (.Attribute e "value" pos) (tXv X.K te) := by
  refine ⟨fun pins s σ H Q I h => ?_⟩
  refine attr_of hb (thn (he.run pins s σ H _ I h) fun u s1 hh => ?_)
  obtain ⟨x, H1, I1, rx, a, C, v, ex, T, E, q⟩ := hh
  subst ex
  obtain rfl : u = Value.ref a := rx
  obtain ⟨dx, h1, h2⟩ := E
  obtain ⟨t1, ho⟩ := exo_at I1.hok h1
  obtain ⟨mA, hns, rel⟩ := exd_at I1.hok h2
  obtain ⟨od, hod, hl⟩ := lookIn_ns hns
  obtain ⟨u, hu, ru⟩ := RelO.some_of (v := v) (o := mA "value") (rel "value")
  have J : PySem.W.InstAt s1.heap a _ C (some od) := ⟨ho, rfl, rfl, hod⟩
  exact PySem.HandSPX.exc_get I1.kIn J T.ga T.gg T.T.exC (PySem.W.findObj_own T.hd T.va rfl (by rw [hl, hu])) (handed_of ru) ⟨v, H1, I1.tok _, ru, q⟩
/-- AskedError.__init__ -/
def sp_init (K : PySem.W.Frag) : Sp := fun vs H Q _ => ∃ (a C : Addr) (v : V), vs = [.ref a, v] ∧ Xcl K C ∧ H a = some (exo a C none) ∧ ∀ dx, H dx = none → dx ≠ a → Q .non (upd (upd H dx (exd dx [("value", v)])) a (exo a C (some dx)))
/-- C(e), C's __init__ being that one -/
theorem mkV_of {K : PySem.W.Frag} {C : Addr} {ta : TA} {σ : L2.St} {H : Hp} {Q : VK} (T : Xcl K C) (h : ta σ H fun vs H1 => ∃ v, vs = [v] ∧ ∀ a H2, H1 a = none → Same H1 H2 → Exc H2 a C v → Q (.ref a) H2) (m : ∀ {P P' : List V → Hp → Prop}, (∀ vs H1, P vs H1 → P' vs H1) → ta σ H P → ta σ H P') : tMkV C (sp_init K) ta σ H Q := by
  refine m (fun vs H1 hh => ?_) h
  obtain ⟨v, rfl, q⟩ := hh
  refine ⟨by simp, fun a ha => ⟨a, C, v, rfl, T, upd_same, fun dx hd hn => ⟨rfl, q a _ ha (fun b o e => ?_) ⟨dx, upd_same, ?_⟩⟩⟩⟩
  · have n1 : b ≠ a := ne_of_none e ha
    have n2 : b ≠ dx := fun z => by
      rw [upd_ne hn] at hd
      rw [z, hd] at e
      cases e
    rw [upd_ne n1, upd_ne n2, upd_ne n1]
    exact e
  · rw [upd_ne hn, upd_same]
end Uq

namespace Uq
open PySem PySem.Spec PyProof.Rows L2
/-! ### data beside the pot -/
/-- all that is tracked but at p -/
def off (p : Addr) (H : Hp) : Hp := fun b => if b = p then none else H b
theorem off_ne {p b : Addr} {H : Hp} (h : b ≠ p) : off p H b = H b := if_neg h
theorem off_same {p : Addr} {H : Hp} : off p H p = none := if_pos rfl
theorem off_sub {p : Addr} {H : Hp} : Same (off p H) H := fun b o e => by
  by_cases z : b = p
  · rw [z, off_same] at e
    cases e
  · rw [off_ne z] at e
    exact e
theorem But.off {p : Addr} {H H' : Hp} (e : But p H H') : Same (off p H) (off p H') := fun b o h => by
  by_cases z : b = p
  · rw [z, off_same] at h
    cases h
  · rw [off_ne z] at h ⊢
    exact e b o z h
theorem DxAll.length {K : PySem.W.Frag} {H : Hp} : ∀ {ds : List PyData} {vs : List V}, DxAll K H vs ds → vs.length = ds.length
  | _, _, .nil => rfl
  | _, _, .cons _ h => congrArg (· + 1) (DxAll.length h)
theorem DxAll.append {K : PySem.W.Frag} {H : Hp} {es : List PyData} {us : List V} (g : DxAll K H us es) : ∀ {ds : List PyData} {vs : List V}, DxAll K H vs ds → DxAll K H (vs ++ us) (ds ++ es)
  | _, _, .nil => g
  | _, _, .cons a h => .cons a (DxAll.append g h)
theorem DxAll.at {K : PySem.W.Frag} {H : Hp} : ∀ {ds : List PyData} {vs : List V} {i : Nat} {v : V}, DxAll K H vs ds → vs[i]? = some v → ∃ d, d ∈ ds ∧ Dx K H v d
  | _, _, i, _, .nil, e => by simp at e
  | _, _, 0, _, .cons a h, e => by
    cases Option.some.inj e
    exact ⟨_, List.mem_cons_self, a⟩
  | _, _, i + 1, _, .cons a h, e => by
    obtain ⟨d, m, x⟩ := DxAll.at (i := i) h e
    exact ⟨d, List.mem_cons_of_mem _ m, x⟩
section
variable {K : PySem.W.Frag} {p : Addr} {c c1 c2 : Nat} {σ : L2.St} {H0 : Hp}
/-- a display: from wherever on, it gives new data, one of S -/
def Disp (K : PySem.W.Frag) (p : Addr) (c c' : Nat) (σ : L2.St) (H0 : Hp) (te : TE) (S : PyData → Prop) : Prop := ∀ H Q, But p H0 H → Pot H p c → (∀ v H1 d, S d → But p H H1 → Pot H1 p c' → Dx K (off p H1) v d → Q v H1) → te σ H Q
def DispA (K : PySem.W.Frag) (p : Addr) (c c' : Nat) (σ : L2.St) (H0 : Hp) (ta : TA) (S : List PyData → Prop) : Prop := ∀ H Q, But p H0 H → Pot H p c → (∀ vs H1 ds, S ds → But p H H1 → Pot H1 p c' → DxAll K (off p H1) vs ds → Q vs H1) → ta σ H Q
theorem disp_v {te : TE} {v : V} {d : PyData} (h : ∀ H Q, Q v H → te σ H Q) (x : ∀ H, Dx K H v d) : Disp K p c c σ H0 te (· = d) := fun H Q hB hP q => h H Q (q v H d rfl (But.refl _ _) hP (x _))
theorem disp_c {v : V} {d : PyData} (x : ∀ H, Dx K H v d) : Disp K p c c σ H0 (tC v) (· = d) := disp_v (fun _ _ q => q) x
theorem disp_var {i : Nat} {v : V} {d : PyData} (e : σ[i]? = some (some v)) (x : Dx K (off p H0) v d) : Disp K p c c σ H0 (tVar i) (· = d) := fun H Q hB hP q => ⟨v, e, q v H d rfl (But.refl _ _) hP (x.same hB.off)⟩
theorem disp_nil : DispA K p c c σ H0 tNil (· = []) := fun H Q hB hP q => q [] H [] rfl (But.refl _ _) hP .nil
theorem disp_cons {te : TE} {ta : TA} {d : PyData} {ds : List PyData} (h : Disp K p c c1 σ H0 te (· = d)) (g : DispA K p c1 c2 σ H0 ta (· = ds)) : DispA K p c c2 σ H0 (tCons te ta) (· = d :: ds) := by
  intro H Q hB hP q
  refine h H _ hB hP fun v H1 d1 e1 hB1 hP1 x1 => ?_
  cases e1
  refine g H1 _ (hB.trans hB1) hP1 fun vs H2 ds2 e2 hB2 hP2 x2 => ?_
  cases e2
  exact q (v :: vs) H2 _ rfl (hB1.trans hB2) hP2 (.cons (x1.same hB2.off) x2)
/-- the same, of some of many -/
theorem disp_consS {te : TE} {ta : TA} {S : PyData → Prop} {SA SB : List PyData → Prop} (h : Disp K p c c1 σ H0 te S) (g : DispA K p c1 c2 σ H0 ta SA) (m : ∀ d ds, S d → SA ds → SB (d :: ds)) : DispA K p c c2 σ H0 (tCons te ta) SB := by
  intro H Q hB hP q
  refine h H _ hB hP fun v H1 d1 e1 hB1 hP1 x1 => ?_
  refine g H1 _ (hB.trans hB1) hP1 fun vs H2 ds2 e2 hB2 hP2 x2 => ?_
  exact q (v :: vs) H2 _ (m _ _ e1 e2) (hB1.trans hB2) hP2 (.cons (x1.same hB2.off) x2)
theorem disp_tupS {ta : TA} {SA : List PyData → Prop} {S : PyData → Prop} (h : DispA K p c c1 σ H0 ta SA) (m : ∀ ds, SA ds → ds.length ≤ sizeLine ∧ S (.tuple ds)) : Disp K p c c1 σ H0 (tTup ta) S := by
  intro H Q hB hP q
  refine h H _ hB hP fun vs H1 ds e hB1 hP1 x => ⟨by rw [x.length]; exact (m ds e).1, fun a ha => ?_⟩
  have n : a ≠ p := hP1.ne ha
  exact q _ _ (.tuple ds) (m ds e).2 (hB1.new ha) (hP1.new ha) (.tup (.inl (.inl (by rw [off_ne n, upd_same]))) (x.same (But.refl p H1 |>.new ha |>.off)))
theorem disp_lstS {ta : TA} {SA : List PyData → Prop} {S : PyData → Prop} (h : DispA K p c c1 σ H0 ta SA) (m : ∀ ds, SA ds → ds.length ≤ sizeLine ∧ S (.list ds)) : Disp K p c c1 σ H0 (tLstB ta) S := by
  intro H Q hB hP q
  refine h H _ hB hP fun vs H1 ds e hB1 hP1 x => ⟨by rw [x.length]; exact (m ds e).1, fun a ha hs => ?_⟩
  have n : a ≠ p := hP1.ne ha
  exact q _ _ (.list ds) (m ds e).2 (hB1.new ha) (hP1.new ha) (.lst (by rw [off_ne n, upd_same]) hs (x.same (But.refl p H1 |>.new ha |>.off)))
theorem disp_tup {ta : TA} {ds : List PyData} (h : DispA K p c c1 σ H0 ta (· = ds)) (z : ds.length ≤ sizeLine := by decide) : Disp K p c c1 σ H0 (tTup ta) (· = .tuple ds) := disp_tupS h fun es e => by
  cases e
  exact ⟨z, rfl⟩
theorem disp_lst {ta : TA} {ds : List PyData} (h : DispA K p c c1 σ H0 ta (· = ds)) (z : ds.length ≤ sizeLine := by decide) : Disp K p c c1 σ H0 (tLstB ta) (· = .list ds) := disp_lstS h fun es e => by
  cases e
  exact ⟨z, rfl⟩
theorem disp_dct0 : Disp K p c c σ H0 tDNewK (· = .dict []) := by
  intro H Q hB hP q a ha
  have n : a ≠ p := hP.ne ha
  exact q _ _ _ rfl ((But.refl _ _).new ha) (hP.new ha) (.dct (kvs := []) (by rw [off_ne n, upd_same]) rfl .nil)
/-- {x: e}, a text as its key, e a name -/
theorem disp_dct1 {i : Nat} {v : V} {d : PyData} {x : Str} (e : σ[i]? = some (some v)) (dx : Dx K (off p H0) v d) : Disp K p c c σ H0 (tDisp [(tC (.str x), tVar i)]) (· = .dict [(.str x, d)]) := by
  intro H Q hB hP q a ha
  have n : a ≠ p := hP.ne ha
  refine ⟨v, e, upd_same, [(.inr x, v)], rfl, by show 1 ≤ 15; decide, ?_⟩
  have hB2 : But p H (upd (upd H a (.dK [])) a (.dK (mergeK [] [(.inr x, v)]))) := fun b o nb eb => by
    have nba : b ≠ a := ne_of_none eb ha
    rw [upd_ne nba, upd_ne nba]
    exact eb
  exact q _ _ _ rfl hB2 ((hP.upd (Ne.symm n)).upd (Ne.symm n)) (.dct (kvs := [(.inr x, v)]) (by rw [off_ne n, upd_same]; rfl) rfl (.cons (dx.same (hB.trans hB2).off) .nil))
/-! ### steps -/
theorem seq_set {te : TE} {i : Nat} {u : TS} {D : Ends} {σ : L2.St} {H : Hp} (h : te σ H fun x H1 => u D (σ.set i (some x)) H1) : tSeq (tAsg te (gName i)) u D σ H := h
theorem lst_in {ta : TA} {σ : L2.St} {H : Hp} {Q : VK} (h : ta σ H fun xs H1 => xs.length ≤ sizeLine ∧ ∀ p, H1 p = none → Q (.ref p) (upd H1 p (.lst xs))) : tLst ta σ H Q := h
theorem op_in {r : R2} {ta tb : TE} {σ : L2.St} {H : Hp} {Q : VK} (h : ta σ H fun x H1 => tb σ H1 fun y H2 => r x y H2 Q) : tOp r ta tb σ H Q := h
theorem call_in {sp : Sp} {ta : TA} {E : XK} {σ : L2.St} {H : Hp} {Q : VK} (h : ta σ H fun vs H1 => sp (vs ++ []) H1 Q E) : tCall sp [] E ta σ H Q := h
theorem ret_in {te : TE} {D : Ends} {σ : L2.St} {H : Hp} (h : te σ H D.rt) : tRet te D σ H := h
theorem cb_in {r : List V → Hp → VK → Prop} {ta : TA} {σ : L2.St} {H : Hp} {Q : VK} (h : ta σ H fun vs H1 => r vs H1 Q) : tCB r ta σ H Q := h
/-! ### values of any kind -/
def odds1 : List PyData := [.none, .bool true, .bool false, .int 0, .int 1, .int (-1), .int 100000000, .str "", .str "a", .str "some", .str "near", .tuple [], .list [], .dict [], .tuple [.int 0], .tuple [.tuple []], .list [.int 0]]
def odds2 : List PyData := [.tuple [.int 100, .str "near"], .tuple [.tuple [.str "a", .int 1]], .tuple [.tuple [.tuple [.str "a", .int 1]], .str "more"], .tuple [.int 0, .int 1], .tuple [.tuple [.int 0, .tuple [.int 1, .int 1]]], .str "never", .tuple [.int 1, .int 1, .int 1]]
def odds : List PyData := odds1 ++ odds2
def sp_law_odd (K : PySem.W.Frag) : Sp := fun vs H Q _ => ∃ (p : Addr) (c : Nat), vs = [.ref p] ∧ Pot H p c ∧ c < 90000 ∧ ∀ H' v d, d ∈ odds → But p H H' → Pot H' p (c + 1) → Dx K (off p H') v d → Q v H'
end
end Uq

namespace Uq
open PySem PySem.Spec PyProof.Rows L2
theorem all_rep (k : Nat) : (List.replicate k true).all id = true := by
  rw [List.all_eq_true]
  intro x hx
  exact (List.mem_replicate.mp hx).2
def topS (i : Nat) : Stmt := PySem.Challenge.pw_anyasked_k00_errors_and_what_they_keep.main.body.getD i (.Pass ⟨0, 0, 0, 0⟩)
abbrev s_law_pot : Stmt := topS 26
abbrev N_law_pot : List Str := ["_law_script", "_law_place", "_law_cell", "_law_own", "_law_small"]
theorem sc_law_pot : FnScope N_law_pot ["_law_script", "_law_place"] (defScope s_law_pot) := ⟨rfl, rfl, rfl, by decide +kernel, rfl, by decide +kernel, by decide +kernel⟩
abbrev s_law_take : Stmt := topS 27
abbrev N_law_take : List Str := ["_law_pot_here", "_law_upto", "_law_digit", "_law_prime", "_law_stir"]
theorem sc_law_take : FnScope N_law_take ["_law_pot_here", "_law_upto"] (defScope s_law_take) := ⟨rfl, rfl, rfl, by decide +kernel, rfl, by decide +kernel, by decide +kernel⟩
abbrev s_law_of : Stmt := topS 28
abbrev N_law_of : List Str := ["_law_pot_here", "_law_some"]
theorem sc_law_of : FnScope N_law_of ["_law_pot_here", "_law_some"] (defScope s_law_of) := ⟨rfl, rfl, rfl, by decide +kernel, rfl, by decide +kernel, by decide +kernel⟩
abbrev s_law_cells : Stmt := topS 29
abbrev N_law_cells : List Str := ["_law_script", "_law_most"]
theorem sc_law_cells : FnScope N_law_cells ["_law_script", "_law_most"] (defScope s_law_cells) := ⟨rfl, rfl, rfl, by decide +kernel, rfl, by decide +kernel, by decide +kernel⟩
abbrev s_law_odd : Stmt := topS 30
abbrev N_law_odd : List Str := ["_law_pot_here", "_law_some"]
theorem sc_law_odd : FnScope N_law_odd ["_law_pot_here"] (defScope s_law_odd) := ⟨rfl, rfl, rfl, by decide +kernel, rfl, by decide +kernel, by decide +kernel⟩
abbrev s_law_created : Stmt := topS 31
abbrev N_law_created : List Str := ["_law_value", "_law_found"]
theorem sc_law_created : FnScope N_law_created ["_law_value"] (defScope s_law_created) := ⟨rfl, rfl, rfl, by decide +kernel, rfl, by decide +kernel, by decide +kernel⟩
abbrev s_law_kinds : Stmt := topS 32
abbrev N_law_kinds : List Str := ["_law_one", "_law_found"]
theorem sc_law_kinds : FnScope N_law_kinds ["_law_one"] (defScope s_law_kinds) := ⟨rfl, rfl, rfl, by decide +kernel, rfl, by decide +kernel, by decide +kernel⟩
abbrev s_law_right : Stmt := topS 33
abbrev N_law_right : List Str := ["_law_pot_here", "_law_odd_here", "_law_value", "_law_at", "_law_one", "_law_above", "_law_number"]
theorem sc_law_right : FnScope N_law_right ["_law_pot_here"] (defScope s_law_right) := ⟨rfl, rfl, rfl, by decide +kernel, rfl, by decide +kernel, by decide +kernel⟩
abbrev s_law : Stmt := topS 34
abbrev N_law : List Str := ["_law_script", "_law_place"]
theorem sc_law : FnScope N_law ["_law_script"] (defScope s_law) := ⟨rfl, rfl, rfl, by decide +kernel, rfl, by decide +kernel, by decide +kernel⟩

section
variable {P : Program} {w : World} {K : PySem.W.Frag} {mg : Str → Option Value} {base : Heap}
theorem ok_law_take {f : Addr} {fd : FuncData} (F : Fun K "_law_take" "_law_take" s_law_take f fd) (m_int : mg "int" = none) : FnOk P w K mg base CX0 1 f fd ["_law_pot_here", "_law_upto"] (sp_law_take K) := by
  refine F.ok sc_law_take (fun vs H Q E h => ?_) (fun cdv A outer s H vs Q E hr h => ?_)
  · obtain ⟨p, c, u, rfl, _⟩ := h
    rfl
  · refine ⟨_, (pss_cons (ps_if (pt_cmpR op_gt (pe_ix ix_list (pv 0) pe_int (fun _ _ => rfl)) pe_int (nomark _)) (pss_cons (ps_set (i := 2) sc_law_take.nd rfl (.inl rfl) (pe_op op_mod (pe_callTy call_int1 (by rfl) m_int (by decide +kernel) (pa_cons (pe_ix ix_list (pv 0) pe_int (fun _ _ => rfl)) pa_nil)) (pv 1)))
        (pss_cons (ps_asg (pe_op op_fdivW (pe_ix ix_list (pv 0) pe_int (fun _ _ => rfl)) (pv 1)) (pg_sub (pv 0) pe_int set_list))
        (pss_one (ps_ret (pv 2))))) pss_nil)
      (pss_cons (ps_asg (pe_op op_add (pe_ix ix_list (pv 0) pe_int (fun _ _ => rfl)) pe_int) (pg_sub (pv 0) pe_int set_list))
      (pss_cons (ps_set (i := 3) sc_law_take.nd rfl (.inl rfl) (pe_ix ix_list (pe_lst (pa_cons pe_int (pa_cons pe_int (pa_cons pe_int (pa_cons pe_int (pa_cons pe_int pa_nil)))))) (pe_op op_mod (pe_callTy call_int1 (by rfl) m_int (by decide +kernel) (pa_cons (pe_ix ix_list (pv 0) pe_int (fun _ _ => rfl)) pa_nil)) pe_int) (fun _ _ => rfl)))
      (pss_cons (ps_set (i := 4) sc_law_take.nd rfl (.inl rfl) (pe_op op_mod (pe_callTy call_int1 (by rfl) m_int (by decide +kernel) (pa_cons (pe_op op_powW (pe_callTy call_int1 (by rfl) m_int (by decide +kernel) (pa_cons (pe_op op_add (pe_op op_add (pe_ix ix_list (pv 0) pe_int (fun _ _ => rfl)) (pe_op op_mul (pe_op op_mul pe_int (pe_ix ix_list (pv 0) pe_int (fun _ _ => rfl))) (pe_ix ix_list (pv 0) pe_int (fun _ _ => rfl)))) pe_int) pa_nil)) pe_int) pa_nil)) (pv 3)))
      (pss_cons (ps_set (i := 4) sc_law_take.nd rfl (.inl rfl) (pe_op op_mod (pe_callTy call_int1 (by rfl) m_int (by decide +kernel) (pa_cons (pe_op op_mul (pv 4) (pe_op op_add (pe_op op_mod (pe_callTy call_int1 (by rfl) m_int (by decide +kernel) (pa_cons (pv 4) pa_nil)) pe_int) (pe_op op_mul pe_int (pe_ix ix_list (pv 0) pe_int (fun _ _ => rfl))))) pa_nil)) pe_int))
      (pss_one (ps_ret (pe_op op_mod (pe_callTy call_int1 (by rfl) m_int (by decide +kernel) (pa_cons (pe_op op_fdivW (pv 4) pe_int) pa_nil)) (pv 1))))))))), ?_⟩
    obtain ⟨p, c, u, rfl, ⟨o, sd, n, hp, o0, o1, s0, s1, n0, n1⟩, hc, hu, hu2, q⟩ := h
    refine ⟨.ref p, rfl, p, _, 0, .int o, rfl, rfl, SqL.of hp, atI_nat (j := 0) rfl, o, 0, rfl, rfl, _, rfl, ite2 (fun e => ?_) (fun e => ?_)⟩
    · have e0 : 0 < o := of_decide_eq_true e
      -- the digit
      refine ⟨.ref p, rfl, p, _, 0, .int o, rfl, rfl, SqL.of hp, atI_nat (j := 0) rfl, .inl ⟨o, rfl, .int u, rfl, o, u, rfl, rfl, (by show (0 : Int) < u; omega), ?_⟩⟩
      refine ⟨.ref p, rfl, p, _, 0, .int o, rfl, rfl, SqL.of hp, atI_nat (j := 0) rfl, .int u, rfl, o, u, rfl, rfl, wide_div (b := 62) (by omega) (by omega) (by decide) (by decide), ?_⟩
      refine ⟨.ref p, rfl, p, _, 0, 0, rfl, rfl, hp, rfl, ?_⟩
      refine ⟨.int (o % u), rfl, ?_⟩
      refine q _ _ (But.refl _ _).put ⟨o / u, sd, n, upd_same, Int.ediv_nonneg (by omega) (by omega), Int.lt_of_le_of_lt (Int.ediv_le_self _ o0) o1, s0, s1, n0, by omega⟩ (Int.emod_nonneg _ (by omega)) (Int.emod_lt_of_pos _ (by omega))
    · -- the count
      refine ⟨.ref p, rfl, p, _, 2, .int n, rfl, rfl, SqL.of hp, atI_nat (j := 2) rfl, n, 1, rfl, rfl, .ref p, rfl, p, _, 2, 2, rfl, rfl, hp, rfl, ?_⟩
      generalize hG : L2.upd H p _ = G
      have hg : G p = some (.lst [.int o, .int sd, .int (n + 1)]) := by
        rw [← hG]
        exact upd_same
      have hB : But p H G := by
        rw [← hG]
        exact (But.refl _ _).put
      refine ⟨by show 5 ≤ sizeLine; decide, fun l nl => ?_⟩
      have hg2 : (upd G l (.lst [.int 2147483647, .int 2147483629, .int 2147483587, .int 2147483579, .int 2147483563])) p = some (.lst [.int o, .int sd, .int (n + 1)]) := by
        rw [upd_ne (ne_of_none hg nl)]
        exact hg
      have hB2 : But p H (upd G l (.lst [.int 2147483647, .int 2147483629, .int 2147483587, .int 2147483579, .int 2147483563])) := hB.new nl
      refine ⟨.ref p, rfl, p, _, 2, .int (n + 1), rfl, rfl, SqL.of hg2, atI_nat (j := 2) rfl, .inl ⟨n + 1, rfl, n + 1, 5, rfl, rfl, (by show (0 : Int) < 5; decide), ?_⟩⟩
      have hpr : ∃ (k : Nat) (z : Int), (n + 1) % 5 = (k : Int) ∧ [V.int 2147483647, .int 2147483629, .int 2147483587, .int 2147483579, .int 2147483563][k]? = some (.int z) ∧ 1 ≤ z ∧ z < 2147483648 := by
        have a0 : 0 ≤ (n + 1) % 5 := Int.emod_nonneg _ (by decide)
        have a1 : (n + 1) % 5 < 5 := Int.emod_lt_of_pos _ (by decide)
        obtain e | e | e | e | e : (n + 1) % 5 = 0 ∨ (n + 1) % 5 = 1 ∨ (n + 1) % 5 = 2 ∨ (n + 1) % 5 = 3 ∨ (n + 1) % 5 = 4 := by omega
        · exact ⟨0, _, e, rfl, by decide, by decide⟩
        · exact ⟨1, _, e, rfl, by decide, by decide⟩
        · exact ⟨2, _, e, rfl, by decide, by decide⟩
        · exact ⟨3, _, e, rfl, by decide, by decide⟩
        · exact ⟨4, _, e, rfl, by decide, by decide⟩
      obtain ⟨k, z, ek, ez, z1, z2⟩ := hpr
      refine ⟨l, _, _, .int z, rfl, rfl, SqL.of upd_same, at_of ek ez, ?_⟩
      generalize hG2 : L2.upd G l _ = G2 at hg2 hB2 ⊢
      -- the stir
      refine ⟨.ref p, rfl, p, _, 1, .int sd, rfl, rfl, SqL.of hg2, atI_nat (j := 1) rfl, .ref p, rfl, p, _, 2, .int (n + 1), rfl, rfl, SqL.of hg2, atI_nat (j := 2) rfl, _, n + 1, rfl, rfl, .inl ⟨by decide, by decide⟩,
        .ref p, rfl, p, _, 2, .int (n + 1), rfl, rfl, SqL.of hg2, atI_nat (j := 2) rfl, _, n + 1, rfl, rfl, .inl ⟨by omega, by omega⟩, sd, _, rfl, rfl, _, _, rfl, rfl, .inl ⟨_, rfl, ?_⟩⟩
      generalize hx : sd + _ = x
      have hx1 : (x + 61).natAbs < 2 ^ 200 := by
        have h9 : (n + 1) * (n + 1) ≤ 100000 * 100000 := Int.mul_le_mul (by omega) (by omega) (by omega) (by decide)
        have h8 : 0 ≤ (n + 1) * (n + 1) := Int.mul_nonneg (by omega) (by omega)
        have h7 := Int.mul_assoc 110017 (n + 1) (n + 1)
        omega
      refine ⟨_, 3, rfl, rfl, powW_ok (j := 3) hx1 (by decide), .inl ⟨_, rfl, .int z, rfl, _, z, rfl, rfl, (by show (0 : Int) < z; omega), ?_⟩⟩
      dsimp only
      generalize hy : (x + 61) ^ _ % z = y
      have y0 : 0 ≤ y := by
        rw [← hy]
        exact Int.emod_nonneg _ (by omega)
      have y1 : y < z := by
        rw [← hy]
        exact Int.emod_lt_of_pos _ (by omega)
      refine ⟨.int y, rfl, .int y, rfl, .inl ⟨y, rfl, y, _, rfl, rfl, (by show (0 : Int) < 10037; decide), .ref p, rfl, p, _, 2, .int (n + 1), rfl, rfl, SqL.of hg2, atI_nat (j := 2) rfl, _, n + 1, rfl, rfl, .inl ⟨by decide, by decide⟩, _, _, rfl, rfl, y, _, rfl, rfl, .inl ⟨by omega, by omega⟩,
        .inl ⟨_, rfl, _, _, rfl, rfl, (by show (0 : Int) < 2305843009213693907; decide), ?_⟩⟩⟩
      dsimp only
      generalize ht : _ % (2305843009213693907 : Int) = t
      refine ⟨.int t, rfl, t, _, rfl, rfl, wide_div (b := 62) (by decide) (by decide) (by decide) (by decide), .inl ⟨_, rfl, .int u, rfl, _, u, rfl, rfl, (by show (0 : Int) < u; omega), ?_⟩⟩
      exact q _ _ hB2 ⟨o, sd, n + 1, hg2, o0, o1, s0, s1, by omega, by omega⟩ (Int.emod_nonneg _ (by omega)) (Int.emod_lt_of_pos _ (by omega))

theorem ok_law_of {f : Addr} {fd : FuncData} (F : Fun K "_law_of" "_law_of" s_law_of f fd) (m_len : mg "len" = none) (c_law_take : Cal P w K mg base 1 "_law_take" ["_law_pot_here", "_law_upto"] (sp_law_take K)) : FnOk P w K mg base CX0 2 f fd ["_law_pot_here", "_law_some"] (sp_law_of K) := by
  refine F.ok sc_law_of (fun vs H Q E h => ?_) (fun cdv A outer s H vs Q E hr h => ?_)
  · obtain ⟨p, l, c, xs, rfl, _⟩ := h
    rfl
  · refine ⟨_, (pss_one (ps_ret (pe_ix ix_list (pv 1) (pe_call c_law_take.G (hr.mono (by decide)) (by rfl) c_law_take.g c_law_take.kp c_law_take.b .nil pass0 (pa_cons (pv 0) (pa_cons (pe_callB call_len_seq (by rfl) m_len (by decide +kernel) (pa_cons (pv 1) pa_nil)) pa_nil))) (fun _ _ => rfl)))), ?_⟩
    obtain ⟨p, l, c, xs, rfl, hp, hc, hlp, hl, h0, h1, q⟩ := h
    refine ⟨.ref l, rfl, .ref p, rfl, .ref l, rfl, l, xs, rfl, .inl hl, p, c, xs.length, rfl, hp, hc, by omega, by omega, fun H' d hB hP d0 d1 => ?_⟩
    have hd : d.toNat < xs.length := by omega
    have ed : d = (d.toNat : Int) := by omega
    exact ⟨l, xs, d, xs[d.toNat], rfl, rfl, hB.seqL hlp hl, at_of ed (List.getElem?_eq_getElem hd), q H' d.toNat _ hB hP (List.getElem?_eq_getElem hd)⟩

theorem ok_law_cells {f : Addr} {fd : FuncData} (F : Fun K "_law_cells" "_law_cells" s_law_cells f fd) (m_range : mg "range" = none) (m_max : mg "max" = none) (m_min : mg "min" = none) (m_len : mg "len" = none) (m_list : mg "list" = none) : FnOk P w K mg base CX0 1 f fd ["_law_script", "_law_most"] (sp_law_cells K) := by
  refine F.ok sc_law_cells (fun vs H Q E h => ?_) (fun cdv A outer s H vs Q E hr h => ?_)
  · obtain ⟨a, ns, m, rfl, _⟩ := h
    rfl
  · refine ⟨_, (pss_one (ps_ret (pe_listRg rfl (by rfl) m_list (prg_1 (by rfl) m_range (pe_callB (call_max2 rfl) (by rfl) m_max (by decide +kernel) (pa_cons pe_int (pa_cons (pe_callB (call_min2 rfl) (by rfl) m_min (by decide +kernel) (pa_cons (pv 1) (pa_cons (pe_callB call_len_seq (by rfl) m_len (by decide +kernel) (pa_cons (pv 0) pa_nil)) pa_nil))) pa_nil))))))), ?_⟩
    obtain ⟨a, ns, m, rfl, hl, hn, hm, hm2, q⟩ := h
    refine ⟨.int m, rfl, .ref a, rfl, a, _, rfl, .inl hl, m, _, rfl, 1, _, rfl, _, rfl, ?_, ?_⟩
    · refine RgOk.of_le (by decide) ?_ (by decide) ?_ <;> (rw [List.length_map]; split <;> split <;> omega)
    · intro l nl
      have ek : ∃ k : Nat, (if (if ((ns.map V.int).length : Int) < m then ((ns.map V.int).length : Int) else m) > 1 then (if ((ns.map V.int).length : Int) < m then ((ns.map V.int).length : Int) else m) else 1) = (k : Int) ∧ 1 ≤ k ∧ k ≤ 63 := by
        rw [List.length_map]
        refine ⟨(if (if (ns.length : Int) < m then (ns.length : Int) else m) > 1 then (if (ns.length : Int) < m then (ns.length : Int) else m) else 1).toNat, ?_, ?_, ?_⟩ <;> (split <;> split <;> omega)
      obtain ⟨k, e1, k1, k2⟩ := ek
      rw [e1]
      exact q _ l k nl (sameU nl) upd_same k1 k2

theorem ok_law_pot {f : Addr} {fd : FuncData} (F : Fun K "_law_pot" "_law_pot" s_law_pot f fd) (m_len : mg "len" = none) (m_int : mg "int" = none) (m_abs : mg "abs" = none) : FnOk P w K mg base CX0 1 f fd ["_law_script", "_law_place"] (sp_law_pot K) := by
  refine F.ok sc_law_pot (fun vs H Q E h => ?_) (fun cdv A outer s H vs Q E hr h => ?_)
  · obtain ⟨a, ns, m, rfl, _⟩ := h
    rfl
  · refine ⟨_, (pss_cons (ps_set (i := 2) sc_law_pot.nd rfl (.inl rfl) (pe_ifExp (pt_cmpR op_lt (pv 1) (pe_callB call_len_seq (by rfl) m_len (by decide +kernel) (pa_cons (pv 0) pa_nil)) (nomark _)) (pe_ix ix_list (pv 0) (pv 1) (fun _ _ => rfl)) (pe_op op_add (pe_op op_mul pe_int (pv 1)) pe_int)))
      (pss_cons (ps_set (i := 3) sc_law_pot.nd rfl (.inl rfl) (pe_op op_mul (pe_op op_mod (pe_callTy call_int1 (by rfl) m_int (by decide +kernel) (pa_cons (pe_callB call_abs (by rfl) m_abs (by decide +kernel) (pa_cons (pv 2) pa_nil)) pa_nil)) (pe_op op_powW (pe_op op_powW pe_int pe_int) pe_int)) (pe_callTy call_int1 (by rfl) m_int (by decide +kernel) (pa_cons (pe_cmpR op_ge (pe_callB call_abs (by rfl) m_abs (by decide +kernel) (pa_cons (pv 2) pa_nil)) (pe_op op_powW pe_int pe_int) (nomark _)) pa_nil))))
      (pss_cons (ps_set (i := 4) sc_law_pot.nd rfl (.inl rfl) (pe_op op_mod (pe_callTy call_int1 (by rfl) m_int (by decide +kernel) (pa_cons (pv 2) pa_nil)) pe_int))
      (pss_one (ps_ret (pe_lst (pa_cons (pv 3) (pa_cons (pe_op op_mod (pe_callTy call_int1 (by rfl) m_int (by decide +kernel) (pa_cons (pe_op op_add (pe_op op_add (pe_op op_mul (pv 4) pe_int) (pe_op op_mul (pe_op op_mul pe_int (pv 1)) (pv 1))) pe_int) pa_nil)) pe_int) (pa_cons pe_int pa_nil))))))))), ?_⟩
    obtain ⟨a, ns, m, rfl, hl, hn, hm, hm2, q⟩ := h
    refine rd_cell hl hm ⟨by decide, by decide⟩ rfl rfl fun z => ?_
    refine ⟨.int z, rfl, z, rfl, .inl ⟨_, rfl, 10, 60, rfl, rfl, bigB, _, 5, rfl, rfl, bigA, _, _, rfl, rfl, big_pos, .int z, rfl, z, rfl, 10, 18, rfl, rfl, bigC, _, _, rfl, rfl, .inr ⟨_, rfl, _, _, rfl, rfl, .inr (b01 _), ?_⟩⟩⟩
    · dsimp only
      have o0 := own_ok (if z < 0 then -z else z) (decide ((10 : Int) ^ (18 : Int).toNat ≤ if z < 0 then -z else z))
      generalize ((if z < 0 then -z else z) % ((10 : Int) ^ (60 : Int).toNat) ^ (5 : Int).toNat) * (if decide ((10 : Int) ^ (18 : Int).toNat ≤ if z < 0 then -z else z) = true then (1 : Int) else 0) = o at o0 ⊢
      refine ⟨.int z, rfl, .inl ⟨z, rfl, z, _, rfl, rfl, (by show (0 : Int) < 2305843009213693951; decide), ?_⟩⟩
      dsimp only
      generalize hz : z % 2305843009213693951 = y
      refine ⟨.int o, rfl, .int y, rfl, y, _, rfl, rfl, .inr ⟨by decide, by decide⟩, .int m, rfl, _, m, rfl, rfl, .inl ⟨by decide, by decide⟩, .int m, rfl, _, m, rfl, rfl, .inr ⟨by omega, by omega⟩, _, _, rfl, rfl, _, _, rfl, rfl, .inl ⟨_, rfl, _, _, rfl, rfl, (by show (0 : Int) < 2305843009213693921; decide), ?_⟩⟩
      refine ⟨by show 3 ≤ sizeLine; decide, fun p np => ?_⟩
      refine q _ p np (sameU np) ⟨o, _, 0, upd_same, o0.1, o0.2, Int.emod_nonneg _ (by decide), ?_, by decide, by decide⟩
      exact Int.lt_trans (Int.emod_lt_of_pos _ (by decide)) (by decide)

theorem ok_law {f : Addr} {fd : FuncData} (F : Fun K "law" "law" s_law f fd) (m_all : mg "all" = none) (c_law_cells : Cal P w K mg base 1 "_law_cells" ["_law_script", "_law_most"] (sp_law_cells K)) (c_law_right : CalG P w K mg base 4 "_law_right" ["_law_pot_here"] (sp_law_right K)) (c_law_pot : Cal P w K mg base 1 "_law_pot" ["_law_script", "_law_place"] (sp_law_pot K)) : FnG P w K mg base 5 f fd ["_law_script"] (sp_law K) := by
  refine Fun_okG F sc_law (fun vs H Q E h => ?_) (fun cdv A outer s H vs Q E hg hr h => ?_)
  · obtain ⟨a, ns, rfl, _⟩ := h
    rfl
  · refine ⟨_, (pss_one (ps_ret (pe_callB (cr_all rfl) (by rfl) m_all (by decide +kernel) (pa_cons (pe_lc (own := [("_law_place", 1)]) (g := gName 1) rfl sc_law.nd (pi_list (pe_call c_law_cells.G (hr.mono (by decide)) (by rfl) c_law_cells.g c_law_cells.kp c_law_cells.b .nil pass0 (pa_cons (pv 0) (pa_cons pe_int pa_nil)))) (blkOk_by (own := [("_law_place", 1)]) (N := N_law) (sc := defScope s_law) (by decide +kernel)) (fun _ _ _ _ _ => (pg_name (i := 1) sc_law.nd rfl (.inl rfl))) (fun _ _ _ _ _ => pts_nil) (fun _ _ _ _ _ => (pe_callG c_law_right.G hg (hr.mono (by decide)) (by rfl) c_law_right.g c_law_right.kp c_law_right.b (pa_cons (pe_call c_law_pot.G (hr.mono (by decide)) (by rfl) c_law_pot.g c_law_pot.kp c_law_pot.b .nil pass0 (pa_cons (pv 0) (pa_cons (pv 1) pa_nil))) pa_nil)))) pa_nil)))), ?_⟩
    obtain ⟨a, ns, rfl, hl, hn, q⟩ := h
    refine ⟨.ref a, rfl, a, ns, 3, rfl, hl, hn, by decide, by decide, fun H1 l k nl sm hk k1 k2 => ?_⟩
    refine ⟨l, rfl, ⟨_, SqL.of hk⟩, fun D nD => ?_⟩
    have nDl : D ≠ l := fun z => by
      rw [z, hk] at nD
      cases nD
    refine lc_list (K := K) (a := l) (xs := rgV 0 (k : Int)) (fun i H' => Same H1 H' ∧ H' D = some (.lst (List.replicate i (.bl true)))) ⟨sameU nD, upd_same⟩ (fun i H' _ hP => sqL_same hP.1 (SqL.of hk)) ?_ ?_
    · intro i x H2 hx hP
      have hi : i < k := by
        have e := (List.getElem?_eq_some_iff.mp hx).1
        rw [rgV_length] at e
        omega
      have ex : x = .int (i : Int) := by
        unfold rgV at hx
        rw [List.getElem?_map, List.getElem?_range (by omega)] at hx
        have e := Option.some.inj hx
        rw [← e]
        show V.int (0 + (i : Int)) = V.int (i : Int)
        rw [Int.zero_add]
      subst ex
      refine ⟨rfl, .ref a, rfl, .int (i : Int), rfl, a, ns, (i : Int), rfl, sqL_same (sm.trans hP.1) hl, hn, by omega, by omega, fun H3 p np sm3 hp => ?_⟩
      refine ⟨p, rfl, hp, fun H4 hB => ?_⟩
      have pD : D ≠ p := ne_of_none hP.2 np
      refine ⟨List.replicate i (.bl true), hB _ _ pD (sm3 _ _ hP.2), ?_, ?_, ?_⟩
      · rw [List.length_replicate]
        exact small1000 (by omega)
      · intro b o e
        have nb : b ≠ D := ne_of_none e nD
        have nbp : b ≠ p := ne_of_none (hP.1 b o e) np
        rw [upd_ne nb]
        exact hB b o nbp (sm3 b o (hP.1 b o e))
      · rw [upd_same, List.replicate_succ']
    · intro H2 hP
      rw [rgV_length] at hP
      have hD := hP.2
      refine ⟨D, List.replicate ((k : Int) - 0).toNat true, rfl, SqL.of (by rw [hD, List.map_replicate]), ?_⟩
      rw [all_rep]
      exact q _
end
end Uq

namespace Uq
open PySem PySem.Spec PyProof.Rows L2
section
variable {P : Program} {w : World} {K : PySem.W.Frag} {mg : Str → Option Value} {base : Heap}
theorem ok_law_odd {f : Addr} {fd : FuncData} (F : Fun K "_law_odd" "_law_odd" s_law_odd f fd) (hb : sysModules < base.objs.size) (c_law_of : Cal P w K mg base 2 "_law_of" ["_law_pot_here", "_law_some"] (sp_law_of K)) : FnOk P w K mg base CX0 3 f fd ["_law_pot_here"] (sp_law_odd K) := by
  refine F.ok sc_law_odd (fun vs H Q E h => ?_) (fun cdv A outer s H vs Q E hr h => ?_)
  · obtain ⟨p, c, rfl, _⟩ := h
    rfl
  · refine ⟨_, (pss_cons (ps_set (i := 1) sc_law_odd.nd rfl (.inl rfl) (pe_lst (pa_cons pe_non (pa_cons pe_bl (pa_cons pe_bl (pa_cons pe_int (pa_cons pe_int (pa_cons (pe_un un_neg pe_int) (pa_cons (pe_op op_powW pe_int pe_int) (pa_cons pe_str (pa_cons pe_str (pa_cons pe_str (pa_cons pe_str (pa_cons (pe_tup pa_nil) (pa_cons (pe_lstB hb pa_nil) (pa_cons pe_dnewK (pa_cons (pe_tup (pa_cons pe_int pa_nil)) (pa_cons (pe_tup (pa_cons (pe_tup pa_nil) pa_nil)) (pa_cons (pe_lstB hb (pa_cons pe_int pa_nil)) pa_nil)))))))))))))))))))
      (pss_cons (ps_set (i := 1) sc_law_odd.nd rfl (.inl rfl) (pe_op op_cat (pv 1) (pe_lst (pa_cons (pe_tup (pa_cons pe_int (pa_cons pe_str pa_nil))) (pa_cons (pe_tup (pa_cons (pe_tup (pa_cons pe_str (pa_cons pe_int pa_nil))) pa_nil)) (pa_cons (pe_tup (pa_cons (pe_tup (pa_cons (pe_tup (pa_cons pe_str (pa_cons pe_int pa_nil))) pa_nil)) (pa_cons pe_str pa_nil))) (pa_cons (pe_tup (pa_cons pe_int (pa_cons pe_int pa_nil))) (pa_cons (pe_tup (pa_cons (pe_tup (pa_cons pe_int (pa_cons (pe_tup (pa_cons pe_int (pa_cons pe_int pa_nil))) pa_nil))) pa_nil)) (pa_cons pe_str (pa_cons (pe_tup (pa_cons pe_int (pa_cons pe_int (pa_cons pe_int pa_nil)))) pa_nil))))))))))
      (pss_one (ps_ret (pe_call c_law_of.G (hr.mono (by decide)) (by rfl) c_law_of.g c_law_of.kp c_law_of.b .nil pass0 (pa_cons (pv 0) (pa_cons (pv 1) pa_nil))))))), ?_⟩
    obtain ⟨p, c, rfl, hP, hc, q⟩ := h
    have D1 : DispA K p c c (start N_law_odd [.ref p]) H _ (· = odds1) := (disp_cons (disp_c (v := .non) (d := .none) fun _ => .non) (disp_cons (disp_c (v := .bl true) (d := .bool true) fun _ => .bl true) (disp_cons (disp_c (v := .bl false) (d := .bool false) fun _ => .bl false) (disp_cons (disp_c (v := .int 0) (d := .int 0) fun _ => .int 0) (disp_cons (disp_c (v := .int 1) (d := .int 1) fun _ => .int 1) (disp_cons (disp_v (v := .int (-1)) (d := .int (-1)) (te := tUn (rU fun i => .int (-i)) (tC (.int 1))) (fun H Q q => ⟨1, rfl, q⟩) fun _ => .int (-1)) (disp_cons (disp_v (v := .int 100000000) (d := .int 100000000) (te := tOp (rI CPowW fun i j => .int (i ^ j.toNat)) (tC (.int 10)) (tC (.int 8))) (fun H Q q => ⟨10, 8, rfl, rfl, powW_ok (j := 8) (n := 8) (by decide) (by decide), q⟩) fun _ => .int 100000000) (disp_cons (disp_c (v := .str "") (d := .str "") fun _ => .str "") (disp_cons (disp_c (v := .str "a") (d := .str "a") fun _ => .str "a") (disp_cons (disp_c (v := .str "some") (d := .str "some") fun _ => .str "some") (disp_cons (disp_c (v := .str "near") (d := .str "near") fun _ => .str "near") (disp_cons (disp_tup disp_nil) (disp_cons (disp_lst disp_nil) (disp_cons disp_dct0 (disp_cons (disp_tup (disp_cons (disp_c (v := .int 0) (d := .int 0) fun _ => .int 0) disp_nil)) (disp_cons (disp_tup (disp_cons (disp_tup disp_nil) disp_nil)) (disp_cons (disp_lst (disp_cons (disp_c (v := .int 0) (d := .int 0) fun _ => .int 0) disp_nil)) disp_nil)))))))))))))))))
    refine seq_set (lst_in (D1 H _ (But.refl _ _) hP fun xs H1 ds e hB1 hP1 hx => ⟨by rw [hx.length, e]; decide, fun l1 n1 => ?_⟩))
    cases e
    have D2 : DispA K p c c ((start N_law_odd [.ref p]).set 1 (some (.ref l1))) (upd H1 l1 (.lst xs)) _ (· = odds2) := (disp_cons (disp_tup (disp_cons (disp_c (v := .int 100) (d := .int 100) fun _ => .int 100) (disp_cons (disp_c (v := .str "near") (d := .str "near") fun _ => .str "near") disp_nil))) (disp_cons (disp_tup (disp_cons (disp_tup (disp_cons (disp_c (v := .str "a") (d := .str "a") fun _ => .str "a") (disp_cons (disp_c (v := .int 1) (d := .int 1) fun _ => .int 1) disp_nil))) disp_nil)) (disp_cons (disp_tup (disp_cons (disp_tup (disp_cons (disp_tup (disp_cons (disp_c (v := .str "a") (d := .str "a") fun _ => .str "a") (disp_cons (disp_c (v := .int 1) (d := .int 1) fun _ => .int 1) disp_nil))) disp_nil)) (disp_cons (disp_c (v := .str "more") (d := .str "more") fun _ => .str "more") disp_nil))) (disp_cons (disp_tup (disp_cons (disp_c (v := .int 0) (d := .int 0) fun _ => .int 0) (disp_cons (disp_c (v := .int 1) (d := .int 1) fun _ => .int 1) disp_nil))) (disp_cons (disp_tup (disp_cons (disp_tup (disp_cons (disp_c (v := .int 0) (d := .int 0) fun _ => .int 0) (disp_cons (disp_tup (disp_cons (disp_c (v := .int 1) (d := .int 1) fun _ => .int 1) (disp_cons (disp_c (v := .int 1) (d := .int 1) fun _ => .int 1) disp_nil))) disp_nil))) disp_nil)) (disp_cons (disp_c (v := .str "never") (d := .str "never") fun _ => .str "never") (disp_cons (disp_tup (disp_cons (disp_c (v := .int 1) (d := .int 1) fun _ => .int 1) (disp_cons (disp_c (v := .int 1) (d := .int 1) fun _ => .int 1) (disp_cons (disp_c (v := .int 1) (d := .int 1) fun _ => .int 1) disp_nil)))) disp_nil)))))))
    refine seq_set (op_in ⟨.ref l1, rfl, lst_in (D2 _ _ (But.refl _ _) (hP1.new n1) fun ys H2 es e hB2 hP2 hy => ⟨by rw [hy.length, e]; decide, fun l2 n2 => ?_⟩)⟩)
    cases e
    have e1 : H2 l1 = some (.lst xs) := hB2 l1 _ (hP1.ne n1) upd_same
    refine ⟨l1, l2, xs, ys, rfl, rfl, by rw [upd_ne (ne_of_none e1 n2)]; exact e1, upd_same, by rw [hx.length, hy.length]; decide, fun l3 n3 => ?_⟩
    have hP3 := (hP2.new n2).new n3 (o := .lst (xs ++ ys))
    have hB3 : But p H (upd (upd H2 l2 (.lst ys)) l3 (.lst (xs ++ ys))) := (((hB1.new n1).trans hB2).new n2).new n3
    have hd : DxAll K (off p (upd (upd H2 l2 (.lst ys)) l3 (.lst (xs ++ ys)))) (xs ++ ys) odds := by
      have s2 : But p H2 (upd (upd H2 l2 (.lst ys)) l3 (.lst (xs ++ ys))) := ((But.refl _ _).new n2).new n3
      have s1 : But p H1 (upd (upd H2 l2 (.lst ys)) l3 (.lst (xs ++ ys))) := (((But.refl _ _).new n1).trans hB2).trans s2
      exact DxAll.append (hy.same s2.off) (hx.same s1.off)
    have hl : (xs ++ ys).length = 24 := hd.length
    refine ret_in (call_in ⟨.ref p, rfl, .ref l3, rfl, p, l3, c, xs ++ ys, rfl, hP3, by omega, (hP2.new n2).ne n3, SqL.of upd_same, by omega, by omega, fun H4 i v hB4 hP4 ev => ?_⟩)
    obtain ⟨d, hm, hx4⟩ := hd.at ev
    exact q H4 v d hm (hB3.trans hB4) hP4 (hx4.same hB4.off)
end
end Uq

namespace Uq
open PySem PySem.Spec PyProof.Rows L2
/-- a class of exceptions, by its name -/
structure Kls (K : PySem.W.Frag) (mg : Str → Option Value) (fI : Addr) (x : Str) (C : Addr) : Prop where
  g : mg x = some (.ref C)
  X : Xcl K C
  i : PySem.W.findIn K (.ref C) "__init__" = some (some (.ref fI))
/-- what all of them are made by -/
structure Ini (P : Program) (w : World) (K : PySem.W.Frag) (mg : Str → Option Value) (base : Heap) (fI : Addr) where
  d : FuncData
  G : FnOk P w K mg base CX0 1 fI d ["self", "value"] (sp_init K)
  t : PySem.W.typeIn K (.ref fI) = some (.type "function")
  b : Binds K d ["self", "value"] []
section
variable {X : Cx} {p pos : Pos} {e : Expr} {es : List Expr} {ta : TA}
theorem pe_mk {x : Str} {C fI : Addr} (k : Kls X.K X.mg fI x C) (c : Ini X.prog X.w X.K X.mg X.base fI) (hr : Room 2 X.A) (hg : Gl X x) (ha : PA X (e :: es) ta)
    (hdb : (x == ("__debug__" : Str)) = false := by decide) (he : starEach (e :: es) X.env = (false, eval e X.env) :: starEach es X.env := by rfl) (hpl : (backTo pos (starEach es X.env)).any (·.1) = false := by rfl) :
    PE X (.Call (.Name x p) (e :: es) [] pos) (tMkV C (sp_init X.K) ta) := pe_oexV k.X.T k.i c.t c.G hr c.b hg k.g ha hdb he hpl
end
inductive Errs (H : Hp) (v : V) : List Addr → List V → Prop
  | nil : Errs H v [] []
  | cons {a C : Addr} {Cs : List Addr} {xs : List V} : Exc H a C v → Errs H v Cs xs → Errs H v (C :: Cs) (.ref a :: xs)
section
variable {H H' : Hp} {v : V} {Cs Ds : List Addr} {xs ys : List V}
theorem Errs.same (e : Same H H') : ∀ {Cs : List Addr} {xs : List V}, Errs H v Cs xs → Errs H' v Cs xs
  | _, _, .nil => .nil
  | _, _, .cons a h => .cons (a.same e) (Errs.same e h)
theorem Errs.but {p : Addr} {zs : List V} (e : But p H H') (hp : H p = some (.lst zs)) : ∀ {Cs : List Addr} {xs : List V}, Errs H v Cs xs → Errs H' v Cs xs
  | _, _, .nil => .nil
  | _, _, .cons a h => .cons (a.but e hp) (Errs.but e hp h)
theorem Errs.append (g : Errs H v Ds ys) : ∀ {Cs : List Addr} {xs : List V}, Errs H v Cs xs → Errs H v (Cs ++ Ds) (xs ++ ys)
  | _, _, .nil => g
  | _, _, .cons a h => .cons a (Errs.append g h)
theorem Errs.length : ∀ {Cs : List Addr} {xs : List V}, Errs H v Cs xs → xs.length = Cs.length
  | _, _, .nil => rfl
  | _, _, .cons _ h => congrArg (· + 1) (Errs.length h)
theorem Errs.at : ∀ {Cs : List Addr} {xs : List V} {i : Nat} {x : V}, Errs H v Cs xs → xs[i]? = some x → ∃ a C, x = .ref a ∧ Cs[i]? = some C ∧ Exc H a C v
  | _, _, i, _, .nil, e => by simp at e
  | _, _, 0, _, .cons a h, e => by
    cases Option.some.inj e
    exact ⟨_, _, rfl, rfl, a⟩
  | _, _, i + 1, _, .cons a h, e => Errs.at (i := i) h e
end
/-- the displays -/
def tMks (K : PySem.W.Frag) : List Addr → TA
  | [] => tNil
  | C :: r => tCons (tMkV C (sp_init K) (tCons (tVar 0) tNil)) (tMks K r)
def tIss (K : PySem.W.Frag) : List Addr → TA
  | [] => tNil
  | D :: r => tCons (tCB (rIsX K) (tCons (tVar 0) (tCons (tC (.ref D)) tNil))) (tIss K r)
section
variable {K : PySem.W.Frag} {σ : L2.St} {v : V}
theorem mk1 {i : Nat} {C : Addr} {H : Hp} {Q : VK} (T : Xcl K C) (e : σ[i]? = some (some v)) (q : ∀ a H1, H a = none → Same H H1 → Exc H1 a C v → Q (.ref a) H1) : tMkV C (sp_init K) (tCons (tVar i) tNil) σ H Q :=
  mkV_of T ⟨v, e, v, rfl, fun a H2 n s x => q a H2 n s x⟩ fun m h => by
    obtain ⟨y, e, h⟩ := h
    exact ⟨y, e, m _ _ h⟩
theorem cons_in {te : TE} {ta : TA} {H : Hp} {Q : List V → Hp → Prop} (h : te σ H fun x H1 => ta σ H1 fun xs H2 => Q (x :: xs) H2) : tCons te ta σ H Q := h
theorem mks (e : σ[0]? = some (some v)) : ∀ (Cs : List Addr) (H : Hp) (Q : List V → Hp → Prop), (∀ C ∈ Cs, Xcl K C) → (∀ xs H1, Same H H1 → Errs H1 v Cs xs → Q xs H1) → tMks K Cs σ H Q
  | [], H, Q, _, q => q [] H (fun _ _ e => e) .nil
  | C :: Cs, H, Q, hX, q => show tCons (tMkV C (sp_init K) (tCons (tVar 0) tNil)) (tMks K Cs) σ H Q from cons_in <| mk1 (hX C List.mem_cons_self) e fun a H1 na s x => mks e Cs H1 _ (fun D hD => hX D (List.mem_cons_of_mem _ hD)) fun xs H2 s2 xs2 => q _ H2 (fun b o h => s2 _ _ (s _ _ h)) (.cons (x.same s2) xs2)
/-- which classes an exception of the class C is of -/
def kinds (C : Addr) (Ds : List Addr) : List V := Ds.map fun D => .bl (decide (D = C))
theorem iss {a C : Addr} {y : V} (e : σ[0]? = some (some (.ref a))) (T : Xcl K C) : ∀ (Ds : List Addr) (H : Hp) (Q : List V → Hp → Prop), Exc H a C y → (∀ D ∈ Ds, PySem.W.kitOne K (.ref C) (.ref D) = some (decide (D = C))) → Q (kinds C Ds) H → tIss K Ds σ H Q
  | [], H, Q, _, _, q => q
  | D :: Ds, H, Q, x, k, q => ⟨.ref a, e, a, C, y, .ref D, .ref D, _, rfl, .own D, T, x, k D List.mem_cons_self, iss e T Ds H _ x (fun E hE => k E (List.mem_cons_of_mem _ hE)) q⟩
end
def sp_law_created (K : PySem.W.Frag) (Cs : List Addr) : Sp := fun vs H Q _ => ∃ v, vs = [v] ∧ ∀ H' l xs, Same H H' → H l = none → H' l = some (.lst xs) → Errs H' v Cs xs → Q (.ref l) H'
def sp_law_kinds (K : PySem.W.Frag) (Cs : List Addr) : Sp := fun vs H Q _ => ∃ (a C : Addr) (v : V), vs = [.ref a] ∧ Xcl K C ∧ Exc H a C v ∧ (∀ D ∈ Cs, PySem.W.kitOne K (.ref C) (.ref D) = some (decide (D = C))) ∧
  ∀ H' l, Same H H' → H l = none → H' l = some (.lst (kinds C Cs)) → Q (.ref l) H'
/-- what was new and is changed -/
theorem Same.chg {H H1 H2 : Hp} {l : Addr} (s : Same H H1) (n : H l = none) (b : But l H1 H2) : Same H H2 := fun c o e => b c o (ne_of_none e n) (s c o e)
end Uq
namespace Uq
open PySem PySem.Spec PyProof.Rows L2
theorem none_of {H H1 : Hp} {l : Addr} (s : Same H H1) (n : H1 l = none) : H l = none := by
  cases e : H l with
  | none => rfl
  | some o => rw [s _ _ e] at n; cases n
/-- l.extend([..]), and on -/
theorem ext_in {K : PySem.W.Frag} {i : Nat} {l : Addr} {xs : List V} {ta : TA} {u : TS} {D : Ends} {σ : L2.St} {H : Hp} (e : σ[i]? = some (some (.ref l))) (hl : H l = some (.lst xs))
    (h : ta σ H fun zs H1 => zs.length ≤ sizeLine ∧ ∀ b, H1 b = none → rExtend (.ref l) [.ref b] (upd H1 b (.lst zs)) (fun _ H2 => u D σ H2)) :
    tSeq (tDrop (tBM K "list" rExtend (tVar i) (tCons (tLst ta) tNil))) u D σ H := ⟨_, e, .inl ⟨rfl, xs, SqL.of hl⟩, h⟩
theorem ext_do {l b : Addr} {xs zs : List V} {H1 : Hp} {Q : VK} (e1 : H1 l = some (.lst xs)) (nb : H1 b = none) (z2 : xs.length + zs.length ≤ sizeLine) (q : ∀ G, G l = some (.lst (xs ++ zs)) → But l H1 G → Q .non G) : rExtend (.ref l) [.ref b] (upd H1 b (.lst zs)) Q := by
  have n : l ≠ b := ne_of_none e1 nb
  refine ⟨l, b, xs, zs, rfl, rfl, by rw [upd_ne n]; exact e1, upd_same, z2, q _ upd_same fun c o nc ec => ?_⟩
  rw [upd_ne nc, upd_ne (ne_of_none ec nb)]
  exact ec
end Uq

namespace Uq
open PySem PySem.Spec PyProof.Rows L2
section
variable {P : Program} {w : World} {K : PySem.W.Frag} {mg : Str → Option Value} {base : Heap}
theorem ok_law_created {fI : Addr} {C_BadUnits C_BadCount C_BadShare C_BadPage C_NoPart C_NoAbove C_BadCounts C_OtherPage C_BadTimes C_BadRows C_Unlike C_BadStatement C_NoTable C_Empty C_BadTotal C_BadOffers C_BadWishes C_Contrary C_NothingToUndo C_NothingToRedo C_NoTrial C_BadJournal C_BadLine : Addr} {f : Addr} {fd : FuncData} (F : Fun K "_law_created" "_law_created" s_law_created f fd) (ci : Ini P w K mg base fI) (k_BadUnits : Kls K mg fI "BadUnits" C_BadUnits) (k_BadCount : Kls K mg fI "BadCount" C_BadCount) (k_BadShare : Kls K mg fI "BadShare" C_BadShare) (k_BadPage : Kls K mg fI "BadPage" C_BadPage) (k_NoPart : Kls K mg fI "NoPart" C_NoPart) (k_NoAbove : Kls K mg fI "NoAbove" C_NoAbove) (k_BadCounts : Kls K mg fI "BadCounts" C_BadCounts) (k_OtherPage : Kls K mg fI "OtherPage" C_OtherPage) (k_BadTimes : Kls K mg fI "BadTimes" C_BadTimes) (k_BadRows : Kls K mg fI "BadRows" C_BadRows) (k_Unlike : Kls K mg fI "Unlike" C_Unlike) (k_BadStatement : Kls K mg fI "BadStatement" C_BadStatement) (k_NoTable : Kls K mg fI "NoTable" C_NoTable) (k_Empty : Kls K mg fI "Empty" C_Empty) (k_BadTotal : Kls K mg fI "BadTotal" C_BadTotal) (k_BadOffers : Kls K mg fI "BadOffers" C_BadOffers) (k_BadWishes : Kls K mg fI "BadWishes" C_BadWishes) (k_Contrary : Kls K mg fI "Contrary" C_Contrary) (k_NothingToUndo : Kls K mg fI "NothingToUndo" C_NothingToUndo) (k_NothingToRedo : Kls K mg fI "NothingToRedo" C_NothingToRedo) (k_NoTrial : Kls K mg fI "NoTrial" C_NoTrial) (k_BadJournal : Kls K mg fI "BadJournal" C_BadJournal) (k_BadLine : Kls K mg fI "BadLine" C_BadLine) : FnOk P w K mg base CX0 3 f fd ["_law_value"] (sp_law_created K [C_BadUnits, C_BadCount, C_BadShare, C_BadPage, C_NoPart, C_NoAbove, C_BadCounts, C_OtherPage, C_BadTimes, C_BadRows, C_Unlike, C_BadStatement, C_NoTable, C_Empty, C_BadTotal, C_BadOffers, C_BadWishes, C_Contrary, C_NothingToUndo, C_NothingToRedo, C_NoTrial, C_BadJournal, C_BadLine]) := by
  refine F.ok sc_law_created (fun vs H Q E h => ?_) (fun cdv A outer s H vs Q E hr h => ?_)
  · obtain ⟨v, rfl, _⟩ := h
    rfl
  · refine ⟨_, (pss_cons (ps_set (i := 1) sc_law_created.nd rfl (.inl rfl) (pe_lst (pa_cons (pe_mk k_BadUnits ci (hr.mono (by decide)) (by rfl) (pa_cons (pv 0) pa_nil)) (pa_cons (pe_mk k_BadCount ci (hr.mono (by decide)) (by rfl) (pa_cons (pv 0) pa_nil)) (pa_cons (pe_mk k_BadShare ci (hr.mono (by decide)) (by rfl) (pa_cons (pv 0) pa_nil)) (pa_cons (pe_mk k_BadPage ci (hr.mono (by decide)) (by rfl) (pa_cons (pv 0) pa_nil)) (pa_cons (pe_mk k_NoPart ci (hr.mono (by decide)) (by rfl) (pa_cons (pv 0) pa_nil)) (pa_cons (pe_mk k_NoAbove ci (hr.mono (by decide)) (by rfl) (pa_cons (pv 0) pa_nil)) pa_nil))))))))
      (pss_cons (ps_expr (pe_bm PySem.F.plainAttrs_list PySem.F.slot_list_extend PySem.F.type_list_extend mt_extend (pv 1) (pa_cons (pe_lst (pa_cons (pe_mk k_BadCounts ci (hr.mono (by decide)) (by rfl) (pa_cons (pv 0) pa_nil)) (pa_cons (pe_mk k_OtherPage ci (hr.mono (by decide)) (by rfl) (pa_cons (pv 0) pa_nil)) (pa_cons (pe_mk k_BadTimes ci (hr.mono (by decide)) (by rfl) (pa_cons (pv 0) pa_nil)) (pa_cons (pe_mk k_BadRows ci (hr.mono (by decide)) (by rfl) (pa_cons (pv 0) pa_nil)) (pa_cons (pe_mk k_Unlike ci (hr.mono (by decide)) (by rfl) (pa_cons (pv 0) pa_nil)) pa_nil)))))) pa_nil)))
      (pss_cons (ps_expr (pe_bm PySem.F.plainAttrs_list PySem.F.slot_list_extend PySem.F.type_list_extend mt_extend (pv 1) (pa_cons (pe_lst (pa_cons (pe_mk k_BadStatement ci (hr.mono (by decide)) (by rfl) (pa_cons (pv 0) pa_nil)) (pa_cons (pe_mk k_NoTable ci (hr.mono (by decide)) (by rfl) (pa_cons (pv 0) pa_nil)) (pa_cons (pe_mk k_Empty ci (hr.mono (by decide)) (by rfl) (pa_cons (pv 0) pa_nil)) (pa_cons (pe_mk k_BadTotal ci (hr.mono (by decide)) (by rfl) (pa_cons (pv 0) pa_nil)) (pa_cons (pe_mk k_BadOffers ci (hr.mono (by decide)) (by rfl) (pa_cons (pv 0) pa_nil)) pa_nil)))))) pa_nil)))
      (pss_cons (ps_expr (pe_bm PySem.F.plainAttrs_list PySem.F.slot_list_extend PySem.F.type_list_extend mt_extend (pv 1) (pa_cons (pe_lst (pa_cons (pe_mk k_BadWishes ci (hr.mono (by decide)) (by rfl) (pa_cons (pv 0) pa_nil)) (pa_cons (pe_mk k_Contrary ci (hr.mono (by decide)) (by rfl) (pa_cons (pv 0) pa_nil)) (pa_cons (pe_mk k_NothingToUndo ci (hr.mono (by decide)) (by rfl) (pa_cons (pv 0) pa_nil)) (pa_cons (pe_mk k_NothingToRedo ci (hr.mono (by decide)) (by rfl) (pa_cons (pv 0) pa_nil)) (pa_cons (pe_mk k_NoTrial ci (hr.mono (by decide)) (by rfl) (pa_cons (pv 0) pa_nil)) pa_nil)))))) pa_nil)))
      (pss_one (ps_ret (pe_op op_cat (pv 1) (pe_lst (pa_cons (pe_mk k_BadJournal ci (hr.mono (by decide)) (by rfl) (pa_cons (pv 0) pa_nil)) (pa_cons (pe_mk k_BadLine ci (hr.mono (by decide)) (by rfl) (pa_cons (pv 0) pa_nil)) pa_nil)))))))))), ?_⟩
    obtain ⟨v, rfl, q⟩ := h
    refine seq_set (lst_in (mks (K := K) rfl [C_BadUnits, C_BadCount, C_BadShare, C_BadPage, C_NoPart, C_NoAbove] H _ (by simp [k_BadUnits.X, k_BadCount.X, k_BadShare.X, k_BadPage.X, k_NoPart.X, k_NoAbove.X]) fun xs1 H1 s1 x1 => ⟨by rw [x1.length]; show 6 ≤ sizeLine; decide, fun l nl => ?_⟩))
    have nl0 : H l = none := none_of s1 nl
    have hl1 := upd_same (H := H1) (a := l) (o := .lst xs1)
    have t1 : Same H (upd H1 l (.lst xs1)) := s1.trans (sameU nl)
    have y1 := x1.same (sameU (o := .lst xs1) nl)
    generalize L2.upd H1 l (.lst xs1) = G1 at hl1 t1 y1 ⊢
    refine ext_in rfl hl1 (mks (K := K) rfl [C_BadCounts, C_OtherPage, C_BadTimes, C_BadRows, C_Unlike] G1 _ (by simp [k_BadCounts.X, k_OtherPage.X, k_BadTimes.X, k_BadRows.X, k_Unlike.X]) fun zs2 K2 s2 x2 => ⟨by rw [x2.length]; show 5 ≤ sizeLine; decide, fun b2 nb2 => ext_do (s2 _ _ hl1) nb2 (by rw [y1.length, x2.length]; show 11 ≤ sizeLine; decide) fun G2 hl2 hB2 => ?_⟩)
    have y2 := Errs.append (Errs.but hB2 (s2 _ _ hl1) x2) ((y1.same s2).but hB2 (s2 _ _ hl1))
    have t2 : Same H G2 := Uq.Same.chg (t1.trans s2) nl0 hB2
    refine ext_in rfl hl2 (mks (K := K) rfl [C_BadStatement, C_NoTable, C_Empty, C_BadTotal, C_BadOffers] G2 _ (by simp [k_BadStatement.X, k_NoTable.X, k_Empty.X, k_BadTotal.X, k_BadOffers.X]) fun zs3 K3 s3 x3 => ⟨by rw [x3.length]; show 5 ≤ sizeLine; decide, fun b3 nb3 => ext_do (s3 _ _ hl2) nb3 (by rw [y2.length, x3.length]; show 16 ≤ sizeLine; decide) fun G3 hl3 hB3 => ?_⟩)
    have y3 := Errs.append (Errs.but hB3 (s3 _ _ hl2) x3) ((y2.same s3).but hB3 (s3 _ _ hl2))
    have t3 : Same H G3 := Uq.Same.chg (t2.trans s3) nl0 hB3
    refine ext_in rfl hl3 (mks (K := K) rfl [C_BadWishes, C_Contrary, C_NothingToUndo, C_NothingToRedo, C_NoTrial] G3 _ (by simp [k_BadWishes.X, k_Contrary.X, k_NothingToUndo.X, k_NothingToRedo.X, k_NoTrial.X]) fun zs4 K4 s4 x4 => ⟨by rw [x4.length]; show 5 ≤ sizeLine; decide, fun b4 nb4 => ext_do (s4 _ _ hl3) nb4 (by rw [y3.length, x4.length]; show 21 ≤ sizeLine; decide) fun G4 hl4 hB4 => ?_⟩)
    have y4 := Errs.append (Errs.but hB4 (s4 _ _ hl3) x4) ((y3.same s4).but hB4 (s4 _ _ hl3))
    have t4 : Same H G4 := Uq.Same.chg (t3.trans s4) nl0 hB4
    refine ret_in (op_in ⟨.ref l, rfl, lst_in (mks (K := K) rfl [C_BadJournal, C_BadLine] G4 _ (by simp [k_BadJournal.X, k_BadLine.X]) fun zs5 K5 s5 x5 => ⟨by rw [x5.length]; show 2 ≤ sizeLine; decide, fun b5 nb5 => ?_⟩)⟩)
    have e5 : K5 l = some _ := s5 _ _ hl4
    refine ⟨l, b5, _, zs5, rfl, rfl, by rw [upd_ne (ne_of_none e5 nb5)]; exact e5, upd_same, by rw [y4.length, x5.length]; show 23 ≤ sizeLine; decide, fun r nr => ?_⟩
    have u5 : Same K5 (upd (upd K5 b5 (.lst zs5)) r (.lst ((((xs1 ++ zs2) ++ zs3) ++ zs4) ++ zs5))) := (sameU nb5).trans (sameU nr)
    have t5 : Same H K5 := t4.trans s5
    exact q _ r _ (t5.trans u5) (none_of (t5.trans (sameU nb5)) nr) upd_same (Errs.append (x5.same u5) ((y4.same s5).same u5))
theorem ok_law_kinds {C_BadUnits C_BadCount C_BadShare C_BadPage C_NoPart C_NoAbove C_BadCounts C_OtherPage C_BadTimes C_BadRows C_Unlike C_BadStatement C_NoTable C_Empty C_BadTotal C_BadOffers C_BadWishes C_Contrary C_NothingToUndo C_NothingToRedo C_NoTrial C_BadJournal C_BadLine : Addr} {f : Addr} {fd : FuncData} (F : Fun K "_law_kinds" "_law_kinds" s_law_kinds f fd) (g_BadUnits : mg "BadUnits" = some (.ref C_BadUnits)) (g_BadCount : mg "BadCount" = some (.ref C_BadCount)) (g_BadShare : mg "BadShare" = some (.ref C_BadShare)) (g_BadPage : mg "BadPage" = some (.ref C_BadPage)) (g_NoPart : mg "NoPart" = some (.ref C_NoPart)) (g_NoAbove : mg "NoAbove" = some (.ref C_NoAbove)) (g_BadCounts : mg "BadCounts" = some (.ref C_BadCounts)) (g_OtherPage : mg "OtherPage" = some (.ref C_OtherPage)) (g_BadTimes : mg "BadTimes" = some (.ref C_BadTimes)) (g_BadRows : mg "BadRows" = some (.ref C_BadRows)) (g_Unlike : mg "Unlike" = some (.ref C_Unlike)) (g_BadStatement : mg "BadStatement" = some (.ref C_BadStatement)) (g_NoTable : mg "NoTable" = some (.ref C_NoTable)) (g_Empty : mg "Empty" = some (.ref C_Empty)) (g_BadTotal : mg "BadTotal" = some (.ref C_BadTotal)) (g_BadOffers : mg "BadOffers" = some (.ref C_BadOffers)) (g_BadWishes : mg "BadWishes" = some (.ref C_BadWishes)) (g_Contrary : mg "Contrary" = some (.ref C_Contrary)) (g_NothingToUndo : mg "NothingToUndo" = some (.ref C_NothingToUndo)) (g_NothingToRedo : mg "NothingToRedo" = some (.ref C_NothingToRedo)) (g_NoTrial : mg "NoTrial" = some (.ref C_NoTrial)) (g_BadJournal : mg "BadJournal" = some (.ref C_BadJournal)) (g_BadLine : mg "BadLine" = some (.ref C_BadLine)) (m_isinstance : mg "isinstance" = none) : FnOk P w K mg base CX0 1 f fd ["_law_one"] (sp_law_kinds K [C_BadUnits, C_BadCount, C_BadShare, C_BadPage, C_NoPart, C_NoAbove, C_BadCounts, C_OtherPage, C_BadTimes, C_BadRows, C_Unlike, C_BadStatement, C_NoTable, C_Empty, C_BadTotal, C_BadOffers, C_BadWishes, C_Contrary, C_NothingToUndo, C_NothingToRedo, C_NoTrial, C_BadJournal, C_BadLine]) := by
  refine F.ok sc_law_kinds (fun vs H Q E h => ?_) (fun cdv A outer s H vs Q E hr h => ?_)
  · obtain ⟨a, C, v, rfl, _⟩ := h
    rfl
  · refine ⟨_, (pss_cons (ps_set (i := 1) sc_law_kinds.nd rfl (.inl rfl) (pe_lst (pa_cons (pe_callB call_isX (by rfl) m_isinstance (by decide +kernel) (pa_cons (pv 0) (pa_cons (pe_glob (v := .ref C_BadUnits) (by rfl) g_BadUnits rfl) pa_nil))) (pa_cons (pe_callB call_isX (by rfl) m_isinstance (by decide +kernel) (pa_cons (pv 0) (pa_cons (pe_glob (v := .ref C_BadCount) (by rfl) g_BadCount rfl) pa_nil))) (pa_cons (pe_callB call_isX (by rfl) m_isinstance (by decide +kernel) (pa_cons (pv 0) (pa_cons (pe_glob (v := .ref C_BadShare) (by rfl) g_BadShare rfl) pa_nil))) pa_nil)))))
      (pss_cons (ps_expr (pe_bm PySem.F.plainAttrs_list PySem.F.slot_list_extend PySem.F.type_list_extend mt_extend (pv 1) (pa_cons (pe_lst (pa_cons (pe_callB call_isX (by rfl) m_isinstance (by decide +kernel) (pa_cons (pv 0) (pa_cons (pe_glob (v := .ref C_BadPage) (by rfl) g_BadPage rfl) pa_nil))) (pa_cons (pe_callB call_isX (by rfl) m_isinstance (by decide +kernel) (pa_cons (pv 0) (pa_cons (pe_glob (v := .ref C_NoPart) (by rfl) g_NoPart rfl) pa_nil))) (pa_cons (pe_callB call_isX (by rfl) m_isinstance (by decide +kernel) (pa_cons (pv 0) (pa_cons (pe_glob (v := .ref C_NoAbove) (by rfl) g_NoAbove rfl) pa_nil))) pa_nil)))) pa_nil)))
      (pss_cons (ps_expr (pe_bm PySem.F.plainAttrs_list PySem.F.slot_list_extend PySem.F.type_list_extend mt_extend (pv 1) (pa_cons (pe_lst (pa_cons (pe_callB call_isX (by rfl) m_isinstance (by decide +kernel) (pa_cons (pv 0) (pa_cons (pe_glob (v := .ref C_BadCounts) (by rfl) g_BadCounts rfl) pa_nil))) (pa_cons (pe_callB call_isX (by rfl) m_isinstance (by decide +kernel) (pa_cons (pv 0) (pa_cons (pe_glob (v := .ref C_OtherPage) (by rfl) g_OtherPage rfl) pa_nil))) (pa_cons (pe_callB call_isX (by rfl) m_isinstance (by decide +kernel) (pa_cons (pv 0) (pa_cons (pe_glob (v := .ref C_BadTimes) (by rfl) g_BadTimes rfl) pa_nil))) pa_nil)))) pa_nil)))
      (pss_cons (ps_expr (pe_bm PySem.F.plainAttrs_list PySem.F.slot_list_extend PySem.F.type_list_extend mt_extend (pv 1) (pa_cons (pe_lst (pa_cons (pe_callB call_isX (by rfl) m_isinstance (by decide +kernel) (pa_cons (pv 0) (pa_cons (pe_glob (v := .ref C_BadRows) (by rfl) g_BadRows rfl) pa_nil))) (pa_cons (pe_callB call_isX (by rfl) m_isinstance (by decide +kernel) (pa_cons (pv 0) (pa_cons (pe_glob (v := .ref C_Unlike) (by rfl) g_Unlike rfl) pa_nil))) (pa_cons (pe_callB call_isX (by rfl) m_isinstance (by decide +kernel) (pa_cons (pv 0) (pa_cons (pe_glob (v := .ref C_BadStatement) (by rfl) g_BadStatement rfl) pa_nil))) pa_nil)))) pa_nil)))
      (pss_cons (ps_expr (pe_bm PySem.F.plainAttrs_list PySem.F.slot_list_extend PySem.F.type_list_extend mt_extend (pv 1) (pa_cons (pe_lst (pa_cons (pe_callB call_isX (by rfl) m_isinstance (by decide +kernel) (pa_cons (pv 0) (pa_cons (pe_glob (v := .ref C_NoTable) (by rfl) g_NoTable rfl) pa_nil))) (pa_cons (pe_callB call_isX (by rfl) m_isinstance (by decide +kernel) (pa_cons (pv 0) (pa_cons (pe_glob (v := .ref C_Empty) (by rfl) g_Empty rfl) pa_nil))) (pa_cons (pe_callB call_isX (by rfl) m_isinstance (by decide +kernel) (pa_cons (pv 0) (pa_cons (pe_glob (v := .ref C_BadTotal) (by rfl) g_BadTotal rfl) pa_nil))) pa_nil)))) pa_nil)))
      (pss_cons (ps_expr (pe_bm PySem.F.plainAttrs_list PySem.F.slot_list_extend PySem.F.type_list_extend mt_extend (pv 1) (pa_cons (pe_lst (pa_cons (pe_callB call_isX (by rfl) m_isinstance (by decide +kernel) (pa_cons (pv 0) (pa_cons (pe_glob (v := .ref C_BadOffers) (by rfl) g_BadOffers rfl) pa_nil))) (pa_cons (pe_callB call_isX (by rfl) m_isinstance (by decide +kernel) (pa_cons (pv 0) (pa_cons (pe_glob (v := .ref C_BadWishes) (by rfl) g_BadWishes rfl) pa_nil))) (pa_cons (pe_callB call_isX (by rfl) m_isinstance (by decide +kernel) (pa_cons (pv 0) (pa_cons (pe_glob (v := .ref C_Contrary) (by rfl) g_Contrary rfl) pa_nil))) pa_nil)))) pa_nil)))
      (pss_cons (ps_expr (pe_bm PySem.F.plainAttrs_list PySem.F.slot_list_extend PySem.F.type_list_extend mt_extend (pv 1) (pa_cons (pe_lst (pa_cons (pe_callB call_isX (by rfl) m_isinstance (by decide +kernel) (pa_cons (pv 0) (pa_cons (pe_glob (v := .ref C_NothingToUndo) (by rfl) g_NothingToUndo rfl) pa_nil))) (pa_cons (pe_callB call_isX (by rfl) m_isinstance (by decide +kernel) (pa_cons (pv 0) (pa_cons (pe_glob (v := .ref C_NothingToRedo) (by rfl) g_NothingToRedo rfl) pa_nil))) (pa_cons (pe_callB call_isX (by rfl) m_isinstance (by decide +kernel) (pa_cons (pv 0) (pa_cons (pe_glob (v := .ref C_NoTrial) (by rfl) g_NoTrial rfl) pa_nil))) pa_nil)))) pa_nil)))
      (pss_one (ps_ret (pe_op op_cat (pv 1) (pe_lst (pa_cons (pe_callB call_isX (by rfl) m_isinstance (by decide +kernel) (pa_cons (pv 0) (pa_cons (pe_glob (v := .ref C_BadJournal) (by rfl) g_BadJournal rfl) pa_nil))) (pa_cons (pe_callB call_isX (by rfl) m_isinstance (by decide +kernel) (pa_cons (pv 0) (pa_cons (pe_glob (v := .ref C_BadLine) (by rfl) g_BadLine rfl) pa_nil))) pa_nil))))))))))))), ?_⟩
    obtain ⟨a, C, v, rfl, T, x, k, q⟩ := h
    refine seq_set (lst_in (iss (K := K) rfl T [C_BadUnits, C_BadCount, C_BadShare] H _ x (fun D hD => k D (by revert hD; simp only [List.mem_cons, List.not_mem_nil, or_false]; rintro (e | e | e) <;> simp [e])) ⟨by show 3 ≤ sizeLine; decide, fun l nl => ?_⟩))
    have hl1 := upd_same (H := H) (a := l) (o := .lst (kinds C [C_BadUnits, C_BadCount, C_BadShare]))
    have t1 : Same H (upd H l (.lst (kinds C [C_BadUnits, C_BadCount, C_BadShare]))) := sameU nl
    generalize L2.upd H l (.lst (kinds C [C_BadUnits, C_BadCount, C_BadShare])) = G1 at hl1 t1 ⊢
    refine ext_in rfl hl1 (iss (K := K) rfl T [C_BadPage, C_NoPart, C_NoAbove] G1 _ (x.same t1) (fun D hD => k D (by revert hD; simp only [List.mem_cons, List.not_mem_nil, or_false]; rintro (e | e | e) <;> simp [e])) ⟨by show 3 ≤ sizeLine; decide, fun b2 nb2 => ext_do hl1 nb2 (by show 6 ≤ sizeLine; decide) fun G2 hl2 hB2 => ?_⟩)
    have t2 : Same H G2 := Uq.Same.chg t1 nl hB2
    refine ext_in rfl hl2 (iss (K := K) rfl T [C_BadCounts, C_OtherPage, C_BadTimes] G2 _ (x.same t2) (fun D hD => k D (by revert hD; simp only [List.mem_cons, List.not_mem_nil, or_false]; rintro (e | e | e) <;> simp [e])) ⟨by show 3 ≤ sizeLine; decide, fun b3 nb3 => ext_do hl2 nb3 (by show 9 ≤ sizeLine; decide) fun G3 hl3 hB3 => ?_⟩)
    have t3 : Same H G3 := Uq.Same.chg t2 nl hB3
    refine ext_in rfl hl3 (iss (K := K) rfl T [C_BadRows, C_Unlike, C_BadStatement] G3 _ (x.same t3) (fun D hD => k D (by revert hD; simp only [List.mem_cons, List.not_mem_nil, or_false]; rintro (e | e | e) <;> simp [e])) ⟨by show 3 ≤ sizeLine; decide, fun b4 nb4 => ext_do hl3 nb4 (by show 12 ≤ sizeLine; decide) fun G4 hl4 hB4 => ?_⟩)
    have t4 : Same H G4 := Uq.Same.chg t3 nl hB4
    refine ext_in rfl hl4 (iss (K := K) rfl T [C_NoTable, C_Empty, C_BadTotal] G4 _ (x.same t4) (fun D hD => k D (by revert hD; simp only [List.mem_cons, List.not_mem_nil, or_false]; rintro (e | e | e) <;> simp [e])) ⟨by show 3 ≤ sizeLine; decide, fun b5 nb5 => ext_do hl4 nb5 (by show 15 ≤ sizeLine; decide) fun G5 hl5 hB5 => ?_⟩)
    have t5 : Same H G5 := Uq.Same.chg t4 nl hB5
    refine ext_in rfl hl5 (iss (K := K) rfl T [C_BadOffers, C_BadWishes, C_Contrary] G5 _ (x.same t5) (fun D hD => k D (by revert hD; simp only [List.mem_cons, List.not_mem_nil, or_false]; rintro (e | e | e) <;> simp [e])) ⟨by show 3 ≤ sizeLine; decide, fun b6 nb6 => ext_do hl5 nb6 (by show 18 ≤ sizeLine; decide) fun G6 hl6 hB6 => ?_⟩)
    have t6 : Same H G6 := Uq.Same.chg t5 nl hB6
    refine ext_in rfl hl6 (iss (K := K) rfl T [C_NothingToUndo, C_NothingToRedo, C_NoTrial] G6 _ (x.same t6) (fun D hD => k D (by revert hD; simp only [List.mem_cons, List.not_mem_nil, or_false]; rintro (e | e | e) <;> simp [e])) ⟨by show 3 ≤ sizeLine; decide, fun b7 nb7 => ext_do hl6 nb7 (by show 21 ≤ sizeLine; decide) fun G7 hl7 hB7 => ?_⟩)
    have t7 : Same H G7 := Uq.Same.chg t6 nl hB7
    refine ret_in (op_in ⟨.ref l, rfl, lst_in (iss (K := K) rfl T [C_BadJournal, C_BadLine] G7 _ (x.same t7) (fun D hD => k D (by revert hD; simp only [List.mem_cons, List.not_mem_nil, or_false]; rintro (e | e) <;> simp [e])) ⟨by show 2 ≤ sizeLine; decide, fun b8 nb8 => ?_⟩)⟩)
    refine ⟨l, b8, _, _, rfl, rfl, by rw [upd_ne (ne_of_none hl7 nb8)]; exact hl7, upd_same, by show 23 ≤ sizeLine; decide, fun r nr => ?_⟩
    have t8 := t7.trans (sameU (o := .lst (kinds C [C_BadJournal, C_BadLine])) nb8)
    exact q _ r (t8.trans (sameU nr)) (none_of t8 nr) upd_same
end
end Uq

namespace Uq
open PySem PySem.Spec PyProof.Rows L2
/-- the classes of the package -/
structure Fam (K : PySem.W.Frag) (Cs : List Addr) (A : Addr) : Prop where
  x : ∀ C ∈ Cs, Xcl K C
  kit : ∀ C ∈ Cs, ∀ D ∈ Cs, PySem.W.kitOne K (.ref C) (.ref D) = some (decide (D = C))
  kA : ∀ D ∈ Cs, PySem.W.kitOne K (.ref A) (.ref D) = some (decide (D = A))
  nA : A ∉ Cs
  up : ∀ C ∈ Cs, PySem.W.kitOne K (.ref C) (.ref A) = some true
  ve : ∀ C ∈ Cs, PySem.W.kitOne K (.ref C) (.type "ValueError") = some true
  veA : PySem.W.kitOne K (.ref A) (.type "ValueError") = some true
  nd : Cs.Nodup
  len : Cs.length = 23
theorem disp_odd {K : PySem.W.Frag} {p : Addr} {c i : Nat} {σ : L2.St} {H0 : Hp} (e : σ[i]? = some (some (.ref p))) (hc : c < 90000) : Disp K p c (c + 1) σ H0 (tCall (sp_law_odd K) [] E0 (tCons (tVar i) tNil)) (· ∈ odds) :=
  fun H Q hB hP q => call_in ⟨.ref p, e, p, c, rfl, hP, hc, fun H' v d hd hB' hP' x => q v H' d hd hB' hP' x⟩
/-- what stands beside one another -/
def vals3 (d e : PyData) : List PyData := [d, .tuple [d, .list [e]], .dict [(.str "a", d)]]
theorem odds_show : ∀ d ∈ odds, ∀ e ∈ odds, ∀ z ∈ vals3 d e, Shows z := by
  unfold Shows
  decide +kernel
def bools (i : Nat) : List V := (List.range 23).map fun (j : Nat) => .bl (decide ((j : Int) = (i : Int)))
theorem kinds_at {Cs : List Addr} {i : Nat} {C : Addr} (nd : Cs.Nodup) (len : Cs.length = 23) (e : Cs[i]? = some C) : kinds C Cs = bools i := by
  have hi : i < Cs.length := (List.getElem?_eq_some_iff.mp e).1
  have ei : Cs[i] = C := (List.getElem?_eq_some_iff.mp e).2
  unfold kinds bools
  refine List.ext_getElem (by simp [len]) fun j h1 h2 => ?_
  rw [List.length_map] at h1
  rw [List.getElem_map, List.getElem_map, List.getElem_range]
  have k : Cs[j] = C ↔ (j : Int) = (i : Int) := by
    rw [← ei]
    constructor
    · intro h
      have g := List.pairwise_iff_getElem.mp nd
      rcases Nat.lt_trichotomy j i with l | l | l
      · exact absurd h (g j i h1 hi l)
      · rw [l]
      · exact absurd h.symm (g i j hi h1 l)
    · intro h
      have e : j = i := by omega
      subst e
      rfl
  by_cases hk : Cs[j] = C
  · rw [decide_eq_true hk, decide_eq_true (k.mp hk)]
  · rw [decide_eq_false hk, decide_eq_false (fun z => hk (k.mpr z))]
theorem dp_bools {K : PySem.W.Frag} {H : Hp} {α : Type} (f : α → Bool) : ∀ l : List α, DpAll K H (l.map fun j => .bl (f j)) (l.map fun j => .bool (f j))
  | [] => .nil
  | x :: l => .cons (.bl _) (dp_bools f l)
theorem none_any {Cs : List Addr} {A : Addr} (n : A ∉ Cs) : (Cs.map fun D => decide (D = A)).any id = false := by
  rw [List.any_eq_false]
  intro x hx
  obtain ⟨D, hD, rfl⟩ := List.mem_map.mp hx
  simp only [id_eq, decide_eq_true_eq]
  intro e
  exact n (e ▸ hD)
abbrev s_init : Stmt := inClass (topS 1) 0
abbrev N_init : List Str := ["self", "value"]
theorem sc_init : FnScope N_init ["self", "value"] (defScope s_init) := ⟨rfl, rfl, rfl, by decide +kernel, rfl, by decide +kernel, by decide +kernel⟩
section
variable {P : Program} {w : World} {K : PySem.W.Frag} {mg : Str → Option Value} {base : Heap}
theorem ok_init {f : Addr} {fd : FuncData} (F : Fun K "__init__" "AskedError.__init__" s_init f fd) : FnOk P w K mg base CX0 1 f fd ["self", "value"] (sp_init K) := by
  refine F.ok sc_init (fun vs H Q E h => ?_) (fun cdv A outer s H vs Q E hr h => ?_)
  · obtain ⟨a, C, v, rfl, _⟩ := h
    rfl
  · refine ⟨_, pss_one (ps_ost (f := "value") (pv 0) (pv 1)), ?_⟩
    obtain ⟨a, C, v, rfl, T, e, q⟩ := h
    exact ⟨v, rfl, .ref a, rfl, a, C, rfl, T.T, T.va, .inl ⟨e, fun dx hd hn => q dx hd hn⟩⟩
theorem ok_law_right {fI C_AskedError : Addr} {Cs : List Addr} {f : Addr} {fd : FuncData} (F : Fun K "_law_right" "_law_right" s_law_right f fd) (hb : sysModules < base.objs.size) (ci : Ini P w K mg base fI) (k_AskedError : Kls K mg fI "AskedError" C_AskedError) (fam : Fam K Cs C_AskedError) (m_enumerate : mg "enumerate" = none) (m_range : mg "range" = none) (m_repr : mg "repr" = none) (m_isinstance : mg "isinstance" = none) (m_ValueError : mg "ValueError" = none) (m_any : mg "any" = none) (c_law_odd : Cal P w K mg base 3 "_law_odd" ["_law_pot_here"] (sp_law_odd K)) (c_law_of : Cal P w K mg base 2 "_law_of" ["_law_pot_here", "_law_some"] (sp_law_of K)) (c_law_created : Cal P w K mg base 3 "_law_created" ["_law_value"] (sp_law_created K Cs)) (c_law_kinds : Cal P w K mg base 1 "_law_kinds" ["_law_one"] (sp_law_kinds K Cs)) : FnG P w K mg base 4 f fd ["_law_pot_here"] (sp_law_right K) := by
  refine Fun_okG F sc_law_right (fun vs H Q E h => ?_) (fun cdv A outer s H vs Q E hg hr h => ?_)
  · obtain ⟨p, rfl, _⟩ := h
    rfl
  · refine ⟨_, (pss_cons (ps_set (i := 1) sc_law_right.nd rfl (.inl rfl) (pe_call c_law_odd.G (hr.mono (by decide)) (by rfl) c_law_odd.g c_law_odd.kp c_law_odd.b .nil pass0 (pa_cons (pv 0) pa_nil)))
      (pss_cons (ps_set (i := 2) sc_law_right.nd rfl (.inl rfl) (pe_call c_law_of.G (hr.mono (by decide)) (by rfl) c_law_of.g c_law_of.kp c_law_of.b .nil pass0 (pa_cons (pv 0) (pa_cons (pe_lst (pa_cons (pv 1) (pa_cons (pe_tup (pa_cons (pv 1) (pa_cons (pe_lstB hb (pa_cons (pe_call c_law_odd.G (hr.mono (by decide)) (by rfl) c_law_odd.g c_law_odd.kp c_law_odd.b .nil pass0 (pa_cons (pv 0) pa_nil)) pa_nil)) pa_nil))) (pa_cons (pe_disp (pps_cons pe_str (pv 1) pps_nil) rfl rfl (fun z => nomatch z) (by decide)) pa_nil)))) pa_nil))))
      (pss_cons (ps_for PassesOwn.never rfl (pi_enum (by rfl) m_enumerate (pa_cons (pe_call c_law_created.G (hr.mono (by decide)) (by rfl) c_law_created.g c_law_created.kp c_law_created.b .nil pass0 (pa_cons (pv 2) pa_nil)) pa_nil)) (pg_tup rfl (pgs_cons (pg_name (i := 3) sc_law_right.nd rfl (.inr rfl)) (pgs_cons (pg_name (i := 4) sc_law_right.nd rfl (.inl rfl)) pgs_nil)))
        (pss_cons (ps_if (PW.pt (pw_or (pt_cmpR (op_neD hr.units) (pe_call c_law_kinds.G (hr.mono (by decide)) (by rfl) c_law_kinds.g c_law_kinds.kp c_law_kinds.b .nil pass0 (pa_cons (pv 4) pa_nil)) (pe_lc (own := [("_law_number", 6)]) (g := gName 6) rfl sc_law_right.nd (pi_range1 (by rfl) m_range (pa_cons pe_int pa_nil)) (blkOk_by (own := [("_law_number", 6)]) (N := N_law_right) (sc := defScope s_law_right) (by decide +kernel)) (fun _ _ _ _ _ => (pg_name (i := 6) sc_law_right.nd rfl (.inl rfl))) (fun _ _ _ _ _ => pts_nil) (fun _ _ _ _ _ => (pe_cmpR op_eq (pv 6) (pv 3) (nomark _)))) (nomark _)) (pw_or1 (pt_cmpR op_ne (pe_callB (call_reprX hg (ru hr)) (by rfl) m_repr (by decide +kernel) (pa_cons (pe_xv (pv 4)) pa_nil)) (pe_callB (call_reprX hg (ru hr)) (by rfl) m_repr (by decide +kernel) (pa_cons (pv 2) pa_nil)) (nomark _))))) (pss_one (ps_ret pe_bl)) pss_nil)
        (pss_one (ps_if (PW.pt (pw_or (pt_not (pt_val (pe_callB call_isX (by rfl) m_isinstance (by decide +kernel) (pa_cons (pv 4) (pa_cons (pe_glob (v := .ref C_AskedError) (by rfl) k_AskedError.g rfl) pa_nil))))) (pw_or1 (pt_not (pt_val (pe_callB call_isX (by rfl) m_isinstance (by decide +kernel) (pa_cons (pv 4) (pa_cons (pe_bltn (v := .ty "ValueError") (by rfl) m_ValueError (by decide +kernel) rfl) pa_nil)))))))) (pss_one (ps_ret pe_bl)) pss_nil))))
      (pss_cons (ps_set (i := 5) sc_law_right.nd rfl (.inl rfl) (pe_mk k_AskedError ci (hr.mono (by decide)) (by rfl) (pa_cons (pv 2) pa_nil)))
      (pss_one (ps_ret (pe_and (pe_not (pe_callB (cr_any rfl) (by rfl) m_any (by decide +kernel) (pa_cons (pe_call c_law_kinds.G (hr.mono (by decide)) (by rfl) c_law_kinds.g c_law_kinds.kp c_law_kinds.b .nil pass0 (pa_cons (pv 5) pa_nil)) pa_nil))) (pe_and (pe_cmpR op_eq (pe_callB (call_reprX hg (ru hr)) (by rfl) m_repr (by decide +kernel) (pa_cons (pe_xv (pv 5)) pa_nil)) (pe_callB (call_reprX hg (ru hr)) (by rfl) m_repr (by decide +kernel) (pa_cons (pv 2) pa_nil)) (nomark _)) (pe_one (pe_callB call_isX (by rfl) m_isinstance (by decide +kernel) (pa_cons (pv 5) (pa_cons (pe_bltn (v := .ty "ValueError") (by rfl) m_ValueError (by decide +kernel) rfl) pa_nil)))))))))))), ?_⟩
    obtain ⟨p, rfl, hP, q⟩ := h
    refine seq_set (call_in ⟨.ref p, rfl, p, 0, rfl, hP, by decide, fun H1 o d hd hB1 hP1 x1 => ?_⟩)
    -- one of three values
    have A1 : DispA K p 1 2 (List.set (L2.start N_law_right [.ref p]) 1 (some o)) H1 (tCons (tCall (sp_law_odd K) [] E0 (tCons (tVar 0) tNil)) tNil) (fun ds => ∃ e, e ∈ odds ∧ ds = [e]) := disp_consS (disp_odd rfl (by decide)) disp_nil fun z ds hz e => ⟨z, hz, by rw [e]⟩
    have A2 := disp_lstS (S := fun z => ∃ e, e ∈ odds ∧ z = .list [e]) A1 fun ds ⟨e, he, h⟩ => by
      subst h
      exact ⟨(show 1 ≤ sizeLine by decide), e, he, rfl⟩
    have A3 := disp_consS (SB := fun ds => ∃ e, e ∈ odds ∧ ds = [.list [e]]) A2 disp_nil fun z ds ⟨e, he, h⟩ hd => ⟨e, he, by rw [h, hd]⟩
    have A4 := disp_consS (SB := fun ds => ∃ e, e ∈ odds ∧ ds = [d, .list [e]]) (disp_var (K := K) (p := p) (c := 1) (i := 1) (σ := List.set (L2.start N_law_right [.ref p]) 1 (some o)) rfl x1) A3 fun z ds hz ⟨e, he, h⟩ => ⟨e, he, by rw [hz, h]⟩
    have A5 := disp_tupS (S := fun z => ∃ e, e ∈ odds ∧ z = .tuple [d, .list [e]]) A4 fun ds ⟨e, he, h⟩ => by
      subst h
      exact ⟨(show 2 ≤ sizeLine by decide), e, he, rfl⟩
    have A6 := disp_cons (disp_dct1 (K := K) (p := p) (c := 2) (x := "a") (i := 1) (σ := List.set (L2.start N_law_right [.ref p]) 1 (some o)) rfl x1) disp_nil
    have A7 := disp_consS (SB := fun ds => ∃ e, e ∈ odds ∧ ds = [.tuple [d, .list [e]], .dict [(.str "a", d)]]) A5 A6 fun z ds ⟨e, he, h⟩ hd => ⟨e, he, by rw [h, hd]⟩
    have A8 := disp_consS (SB := fun ds => ∃ e, e ∈ odds ∧ ds = vals3 d e) (disp_var (K := K) (p := p) (c := 1) (i := 1) (σ := List.set (L2.start N_law_right [.ref p]) 1 (some o)) rfl x1) A7 fun z ds hz ⟨e, he, h⟩ => ⟨e, he, by rw [hz, h]; rfl⟩
    refine seq_set (call_in ⟨.ref p, rfl, cons_in (lst_in (A8 H1 _ (But.refl _ _) hP1 fun xs H2 ds hs hB2 hP2 hx => ?_))⟩)
    obtain ⟨e, he, rfl⟩ := hs
    have hl : xs.length = 3 := hx.length
    refine ⟨by rw [hl]; decide, fun l nl => ⟨p, l, 2, xs, rfl, hP2.new nl, by decide, hP2.ne nl, SqL.of upd_same, by omega, by omega, fun H3 i v hB3 hP3 ev => ?_⟩⟩
    obtain ⟨z, hz, xz⟩ := (hx.same ((But.refl p H2).new nl (o := .lst xs)).off).at ev
    have x3 : Dx K H3 v z := (xz.same hB3.off).same off_sub
    have sh := odds_show d hd e he z hz
    have hBA : But p H H3 := ((hB1.trans hB2).new nl).trans hB3
    clear xz hz hB3 hP3 ev nl hl hx hP2 hB2 A1 A2 A3 A4 A5 A6 A7 A8 x1 hP1 hB1
    -- an error of each class
    refine ⟨v, rfl, v, rfl, fun H4 l xs s4 nl hl er => ?_⟩
    have hB4 : But p H H4 := hBA.trans (But.of s4)
    have x4 := x3.same s4
    refine ⟨l, xs, rfl, SqL.of hl, for_it (walk_enum (xs := xs)) (fun i σ H' => Same H4 H' ∧ ∃ s3 s4 s6, σ = [some (.ref p), some o, some v, s3, s4, none, s6]) ⟨fun _ _ e => e, none, none, none, rfl⟩ (fun i σ H' _ h => SqL.of (h.1 _ _ hl)) ?_ ?_⟩
    · rintro i x σ' H5 H6 hi ⟨s5, t3, t4, t6, rfl⟩ ⟨T, y, z', rfl, nT, rfl, ey, ez⟩
      obtain ⟨a, C, rfl, eC, ea⟩ := er.at ez
      cases ey
      have hC : C ∈ Cs := List.mem_of_getElem? eC
      have s6 := s5.trans (sameU (o := .tup [.int (i : Nat), .ref a]) nT)
      refine ⟨T, _, rfl, SqT.of upd_same, rfl, _, _, rfl, _, _, rfl, rfl, ?_⟩
      generalize L2.upd H5 T _ = H6 at s6 ⊢
      refine ⟨.ref a, rfl, a, C, v, rfl, fam.x C hC, ea.same s6, fam.kit C hC, fun H7 k s7 nk hk => ?_⟩
      rw [kinds_at fam.nd fam.len eC] at hk
      refine ⟨23, rfl, by decide, by decide, fun D nD => ?_⟩
      refine lc_range (lo := 0) (n := 23) (fun j H' => Same H7 H' ∧ H' D = some (.lst ((List.range j).map fun (k : Nat) => .bl (decide ((k : Int) = (i : Int)))))) ⟨sameU nD, upd_same⟩ ?_ ?_
      · rintro j H8 hj ⟨s8, hD⟩
        refine ⟨rfl, .int (0 + j), rfl, .int i, rfl, rfl, _, hD, ?_, ?_, ?_⟩
        · rw [List.length_map, List.length_range]
          exact small1000 (by omega)
        · intro b u eb
          rw [upd_ne (ne_of_none eb nD)]
          exact s8 _ _ eb
        · rw [upd_same, List.range_succ, List.map_append, dec_ii, Int.zero_add]
          rfl
      · rintro H8 ⟨s8, hD⟩
        have sA : Same H4 H8 := (s6.trans s7).trans s8
        have ea8 := ea.same sA
        have x8 := x4.same sA
        refine ⟨.list ((List.range 23).map fun (j : Nat) => .bool (decide ((j : Int) = (i : Int)))), .list ((List.range 23).map fun (j : Nat) => .bool (decide ((j : Int) = (i : Int)))), .lst (SqL.of (s8 _ _ hk)) (dp_bools _ _), .lst (SqL.of hD) (dp_bools _ _), rfl, rfl, _, rfl, ?_⟩
        rw [PySem.SeqAt.eqv_refl _ rfl]
        refine iteF ⟨.ref a, rfl, a, C, v, rfl, fam.x C hC, ea8, v, z, rfl, x8, sh, v, rfl, v, z, rfl, x8, sh, rfl, _, rfl, ?_⟩
        rw [decide_eq_true rfl]
        refine iteF ?_
        refine ⟨.ref a, rfl, a, C, v, .ref C_AskedError, .ref C_AskedError, true, rfl, .own _, fam.x C hC, ea8, fam.up C hC, true, rfl, iteF ⟨.ref a, rfl, a, C, v, .ty "ValueError", .type "ValueError", true, rfl, .ty _, fam.x C hC, ea8, fam.ve C hC, true, rfl, iteF ?_⟩⟩
        exact ⟨sA, _, _, _, rfl⟩
    · rintro σ' H5 ⟨s5, t3, t4, t6, rfl⟩
      refine seq_set (mk1 (K := K) k_AskedError.X rfl fun b H6 nb s6 eb => ?_)
      refine ret_in ⟨.ref b, rfl, b, C_AskedError, v, rfl, k_AskedError.X, eb, fam.kA, fun H7 k s7 nk hk => ?_⟩
      have sA : Same H4 H7 := (s5.trans s6).trans s7
      have x7 := x4.same sA
      refine ⟨k, Cs.map fun D => decide (D = C_AskedError), rfl, SqL.of (by rw [hk, List.map_map]; rfl), ?_⟩
      rw [none_any fam.nA]
      refine ⟨_, rfl, _, rfl, iteT ?_⟩
      refine ⟨.ref b, rfl, b, C_AskedError, v, rfl, k_AskedError.X, eb.same s7, v, z, rfl, x7, sh, v, rfl, v, z, rfl, x7, sh, rfl, ?_⟩
      rw [decide_eq_true rfl]
      refine ⟨_, rfl, iteT ⟨.ref b, rfl, b, C_AskedError, v, .ty "ValueError", .type "ValueError", true, rfl, .ty _, k_AskedError.X, eb.same s7, fam.veA, ?_⟩⟩
      exact q H7 (hB4.trans (But.of sA))
end
end Uq

namespace Uq
open PySem PySem.Spec PyProof.Rows L2
def bmR : List Value := [.type "ValueError", .type "Exception", .type "BaseException", .type "object"]
/-- the class object at C -/
structure Cf (K : PySem.W.Frag) (C : Addr) (bm : List Value) : Prop where
  ex : ∃ nm q N bs sn sub ab col dd k0 k1 k2 k3 k5, K.lookup C = some (excClassObj nm q C N bs bm true sn sub ab col dd k0 k1 k2 k3 k5 "ValueError.__new__")
section
variable {K : PySem.W.Frag} {C D A : Addr} {bm : List Value}
theorem Cf.mro (h : Cf K C bm) (b : Value) : PySem.W.mroIn K C b = some ((Value.ref C :: bm).contains b) := by
  obtain ⟨nm, q, N, bs, sn, sub, ab, col, dd, k0, k1, k2, k3, k5, e⟩ := h
  unfold PySem.W.mroIn PySem.W.clsIn
  rw [e]
  rfl
theorem Cf.hd (h : Cf K C bm) : PySem.W.hasDictIn K C = true := by
  obtain ⟨nm, q, N, bs, sn, sub, ab, col, dd, k0, k1, k2, k3, k5, e⟩ := h
  unfold PySem.W.hasDictIn PySem.W.clsIn
  rw [e]
  rfl
theorem Cf.ty (h : Cf K C bm) : PySem.W.typeIn K (.ref C) = .some (.type "type") := by
  obtain ⟨nm, q, N, bs, sn, sub, ab, col, dd, k0, k1, k2, k3, k5, e⟩ := h
  show Option.map (fun x => x.cls) (K.lookup C) = _
  rw [e]
  rfl
theorem Cf.some (h : Cf K C bm) : ((PySem.W.clsIn K C).isSome && PySem.W.typeIn K (.ref C) == some (.type "type")) = true := by
  rw [h.ty]
  obtain ⟨nm, q, N, bs, sn, sub, ab, col, dd, k0, k1, k2, k3, k5, e⟩ := h
  unfold PySem.W.clsIn
  rw [e]
  show (true && (Option.some (Value.type "type") == Option.some (Value.type "type"))) = true
  decide +kernel
theorem has_ref {l : List Value} (h : Value.ref D ∉ l) : l.contains (Value.ref D) = false := by
  rw [Bool.eq_false_iff]
  intro z
  exact h (List.contains_iff_mem.mp z)
theorem kit_same : PySem.W.kitOne K (.ref C) (.ref C) = .some true := by
  unfold PySem.W.kitOne
  rw [if_pos (beq_self_eq_true _)]
theorem kit_ref (hC : Cf K C bm) (hD : Cf K D (.ref A :: bmR)) (n : D ≠ C) : PySem.W.kitOne K (.ref C) (.ref D) = .some (bm.contains (.ref D)) := by
  unfold PySem.W.kitOne
  rw [if_neg (fun z => n (Value.ref.inj (beq_iff_eq.mp z)).symm)]
  show (if ((PySem.W.clsIn K D).isSome && PySem.W.typeIn K (.ref D) == .some (.type "type")) = true then PySem.W.mroIn K C (.ref D) else none) = _
  rw [if_pos hD.some, hC.mro, List.contains_cons]
  have e : (Value.ref D == Value.ref C) = false := Bool.eq_false_iff.mpr fun z => n (Value.ref.inj (beq_iff_eq.mp z))
  rw [e, Bool.false_or]
theorem kit_up (hC : Cf K C (.ref A :: bmR)) (hA : Cf K A bmR) (n : A ≠ C) : PySem.W.kitOne K (.ref C) (.ref A) = .some true := by
  unfold PySem.W.kitOne
  rw [if_neg (fun z => n (Value.ref.inj (beq_iff_eq.mp z)).symm)]
  show (if ((PySem.W.clsIn K A).isSome && PySem.W.typeIn K (.ref A) == .some (.type "type")) = true then PySem.W.mroIn K C (.ref A) else none) = _
  rw [if_pos hA.some, hC.mro]
  congr 1
  exact List.contains_iff_mem.mpr (List.mem_cons_of_mem _ List.mem_cons_self)
theorem kit_ve (hC : Cf K C bm) (h : Value.type "ValueError" ∈ bm) : PySem.W.kitOne K (.ref C) (.type "ValueError") = .some true := by
  unfold PySem.W.kitOne
  rw [if_neg (fun z => nomatch (beq_iff_eq.mp z : Value.ref C = Value.type "ValueError"))]
  show (if PySem.W.kitMeta "ValueError" = true then PySem.W.mroIn K C (.type "ValueError") else none) = _
  rw [if_pos (by decide +kernel), hC.mro]
  congr 1
  exact List.contains_iff_mem.mpr (List.mem_cons_of_mem _ h)
theorem no_ref : Value.ref D ∉ bmR := by
  intro z
  simp [bmR] at z
theorem fam_of {Cs : List Addr} (hx : ∀ C ∈ Cs, Xcl K C) (hc : ∀ C ∈ Cs, Cf K C (.ref A :: bmR)) (cA : Cf K A bmR) (nA : A ∉ Cs) (nd : Cs.Nodup) (len : Cs.length = 23) : Fam K Cs A where
  x := hx
  kit := fun C hC D hD => by
    by_cases e : D = C
    · rw [e, kit_same, decide_eq_true rfl]
    · rw [kit_ref (hc C hC) (hc D hD) e, decide_eq_false e]
      congr 1
      refine has_ref fun z => ?_
      rcases List.mem_cons.mp z with z | z
      · exact nA (Value.ref.inj z ▸ hD)
      · exact no_ref z
  kA := fun D hD => by
    have e : D ≠ A := fun z => nA (z ▸ hD)
    rw [kit_ref cA (hc D hD) e, decide_eq_false e]
    exact congrArg Option.some (has_ref no_ref)
  nA := nA
  up := fun C hC => kit_up (hc C hC) cA fun z => nA (z ▸ hC)
  ve := fun C hC => kit_ve (hc C hC) (by simp [bmR])
  veA := kit_ve cA (by simp [bmR])
  nd := nd
  len := len
theorem xcl_of (h : Cf K C bm) (hbm : PySem.HandSPX.refsVE bm = true) (hbe : Value.type "BaseException" ∈ bm) (hob : Value.type "object" ∈ bm) (kC : PySem.W.keepIn K (.ref C) = true)
    (sa : PySem.W.findIn K (.ref C) "__setattr__" = Option.some (Option.some (.builtin "object.__setattr__"))) (ga : PySem.W.findIn K (.ref C) "__getattribute__" = Option.some (Option.some (.builtin "BaseException.__getattribute__")))
    (gg : PySem.W.findIn K (.ref C) "__getattr__" = Option.some none) (cl : PySem.W.findIn K (.ref C) "__class__" = Option.some (Option.some (.builtin "object.__class__")))
    (sp : PySem.W.specialIn K (.builtin "object.__class__") "__get__" = Option.some (Option.some (.builtin "getset_descriptor.__get__"))) (tk : PySem.W.takesIn K (.builtin "object.__class__") = Option.some true)
    (va : PySem.W.findIn K (.ref C) "value" = Option.some none) : Xcl K C where
  T := {
    cls := by
      obtain ⟨nm, q, N, bs, sn, sub, ab, col, dd, k0, k1, k2, k3, k5, e⟩ := h
      exact ⟨nm, q, N, bs, bm, sn, sub, ab, col, dd, k0, k1, k2, k3, k5, e, hbm⟩
    sa := sa
    exC := by
      show PySem.W.mroIn K C (.type "BaseException") = _
      rw [h.mro]
      congr 1
      exact List.contains_iff_mem.mpr (List.mem_cons_of_mem _ hbe)
    tyC := h.ty
    kC := kC }
  ga := ga
  gg := gg
  hd := h.hd
  cl := cl
  sp := sp
  tk := tk
  mo := by
    rw [h.mro]
    congr 1
    exact List.contains_iff_mem.mpr (List.mem_cons_of_mem _ hob)
  va := va
end
/-! ### the end, the top being greater than the place of the modules -/
section
variable {P : Program} {w : World} {K : PySem.W.Frag} {mg mb : Str → Option Value} {k : Nat} {fa a : Addr} {fd : FuncData} {x : Str} {sp : Sp} {s₁ : Shared} {vs : List Value} {ns : List Int}
/-- the law's call from a heap of which at most the script is tracked -/
theorem core_callB (KX : K.In s₁.heap) (hns : s₁.heap.Ns mainGlobals mg) (hb : s₁.heap.Ns builtinsNs mb) (hbb : ∀ x : Str, x ≠ "__name__" → mb x = bootBuiltins x) (hlim : s₁.heap.NoLimit) (hg : s₁.gens = #[])
    (ha : s₁.heap.get? a = some { cls := .type "list", data := .seq vs.toArray }) (hr : Room k callerA) (low : sysModules < s₁.heap.objs.size)
    (F : ∀ base : Heap, K.In base → base.Ns mainGlobals mg → sysModules < base.objs.size → FnG P w K mg base k fa fd [x] sp) (hbind : ∀ (s : Shared) (u : Value), BindsTo s fd ⟨[u], []⟩ [(x, u)])
    (H : Hp) (hO : Only H) (hok : HOk P w H s₁.heap) (hA : ∀ b, H b ≠ none → b = a) (hK : H a ≠ none → K.lookup a = none) (hsp : sp [.ref a] H (fun v _ => v = .bl true) (fun _ _ _ => False)) :
    codeAny (model P w) callerA (.call (.ref fa) ⟨[.ref a], []⟩) (fun r s' => r = .ok (.ret (.bool true)) ∧ OldK s₁.heap s'.heap ∧ s'.os = s₁.os ∧ AllBare s'.gens) s₁ := by
  have noA : ∀ {b : Addr} {o : Obj} {es : Array DictEntry} {ep : Nat}, s₁.heap.get? b = some o → o.data = .dict es ep → H b = none := by
    intro b o es ep e d
    by_cases q : H b = none
    · exact q
    · have eb := hA b q
      subst eb
      rw [ha] at e
      cases e
      exact nomatch (show Data.seq vs.toArray _ = Data.dict es ep from d)
  have nsH : ∀ {b : Addr} {m : Str → Option Value}, s₁.heap.Ns b m → (hidT s₁.heap H).Ns b m := by
    rintro b m ⟨o, es, ep, e, d, r⟩
    exact ⟨o, es, ep, hidT_get e (noA e d), d, r⟩
  have KH : K.In (hidT s₁.heap H) := by
    intro b o e
    refine hidT_get (KX b o e) ?_
    by_cases q : H b = none
    · exact q
    · have eb := hA b q
      subst eb
      rw [hK q] at e
      cases e
  obtain ⟨mc, l1, l2⟩ := hlim
  have e0 : Env0 P w K mg (hidT s₁.heap H) callerA [] s₁ H := by
    refine { frames := rfl, mod := ⟨KH, nsH hns, ⟨mb, nsH hb, hbb⟩, ⟨mc, nsH l1, l2⟩⟩, bs := fun b o e => of_hidT e, bsz := Nat.le_of_eq (hidT_size _ _), funs := trivial, frf := ?_, hok := hok, bare := .of_eq hg }
    intro b z
    exact nomatch (show b ∈ ([] : List Addr) from z)
  have go := (F _ KH (nsH hns) (by rw [hidT_size]; exact low)).run callerA [] s₁ H ⟨[.ref a], []⟩ [.ref a] [.ref a] _ _ rfl hr e0 (hbind s₁ (.ref a)) (.cons rfl .nil) hsp
  refine codeAny_mono go ?_
  intro r s' h
  cases r with
  | error e => exact False.elim h
  | ok fl =>
    cases fl with
    | next => exact False.elim h
    | brk => exact False.elim h
    | cont => exact False.elim h
    | ret u =>
      obtain ⟨v, H', os, bare, un, hok', rv, q⟩ := h
      have ev : v = .bl true := q
      subst ev
      have eu : u = Value.bool true := rv
      subst eu
      refine ⟨rfl, OldK.of_keep ?_, os, bare⟩
      intro b o e
      rcases hO b with z | ⟨ob, xs, z⟩
      · exact un.keep b o e z (fun y => nomatch (show b ∈ ([] : List Addr) from y)) (fun y => nomatch (show b ∈ ([] : List Addr) from y))
      · obtain ⟨y1, _⟩ := hok b _ z
        obtain ⟨y2, _⟩ := hok' b _ (un.frzs b ob _ z)
        rw [e] at y1
        cases y1
        exact y2
end

theorem walk_ofB {l : PySem.W.OpenLaw} {n k : Nat} {q : Program} {loose : List Str} {XP : (Str → Option Value) → Heap → Prop} {YP : World → Heap → Prop} {d : DefRec} {K : Params → PySem.W.Frag} {sp : World → Sp} {x : Str}
    (hn : l.most = some n) (hn2 : n ≤ sizeLine) (hdf : d.params.defaults = []) (hr : Room k callerA)
    (hY : ∀ (w : World) (h : Heap), YP w h → (K w.params).In h)
    (F : ∀ (w : World) (mg : Str → Option Value) (fa : Addr) (h : Heap), (K w.params).In h → h.Ns mainGlobals mg → mg d.name = some (.ref fa) →
      ∃ fd : FuncData, (∀ (s : Shared) (u : Value), BindsTo s fd ⟨[u], []⟩ [(x, u)]) ∧ ∀ base : Heap, (K w.params).In base → base.Ns mainGlobals mg → sysModules < base.objs.size → FnG l.prog w (K w.params) mg base k fa fd [x] (sp w))
    (hsp : ∀ (w : World) (H : Hp) (a : Addr) (ns : List Int), ns.length ≤ n → SqL (K w.params) H a (ns.map V.int) → sp w [.ref a] H (fun v _ => v = .bl true) (fun _ _ _ => False)) :
    PySem.W.WalkO q loose XP YP l.row.toRowW d [] (fun f vs => PySem.call f vs) := by
  apply Att.attach_call hn hdf
  intro w s₀ s₁ mg mb fa o pm cd doc a vs ns G Y ho hd hcd hmg ha hi hlen hg
  have KX := hY w _ Y
  obtain ⟨fd, hb, hF⟩ := F w mg fa _ KX G.T.g hmg
  have rv := vals_ints hi
  have len := hi.length
  have hl : ns.length ≤ sizeLine := Nat.le_trans hlen hn2
  by_cases hk : K w.params |>.lookup a |>.isSome
  · obtain ⟨ob, hob⟩ := Option.isSome_iff_exists.mp hk
    have e := KX a ob hob
    rw [ha] at e
    cases e
    refine core_callB (H := fun _ => none) KX G.T.g G.T.b G.T.builtins G.T.nolimit hg ha hr (PySem.W.Ground.low G) hF hb (fun _ => .inl rfl) (fun b u z => nomatch (show (none : Option HO) = some u from z)) (fun b z => absurd rfl z) (fun z => absurd rfl z) ?_
    refine hsp w _ a ns hlen (.inr ⟨_, vs.toArray, _, hob, rfl, rfl, rfl, ?_, ?_⟩)
    · rw [List.size_toArray, len]
      exact hl
    · exact rv
  · have hk' : (K w.params).lookup a = none := Option.not_isSome_iff_eq_none.mp hk
    let H0 : Hp := fun b => if b = a then some (.frz { cls := .type "list", data := .seq vs.toArray } (.lst (ns.map V.int))) else none
    have h0 : H0 a = some (.frz { cls := .type "list", data := .seq vs.toArray } (.lst (ns.map V.int))) := if_pos rfl
    have h1 : ∀ b, b ≠ a → H0 b = none := fun b z => if_neg z
    refine core_callB (H := H0) KX G.T.g G.T.b G.T.builtins G.T.nolimit hg ha hr (PySem.W.Ground.low G) hF hb ?_ ?_ ?_ (fun _ => hk') ?_
    · intro b
      by_cases z : b = a
      · subst z
        exact .inr ⟨_, _, h0⟩
      · exact .inl (h1 b z)
    · intro b u e
      by_cases z : b = a
      · subst z
        rw [h0] at e
        cases e
        exact ⟨ha, by rw [List.length_map]; exact hl, vs, _, rv, ha⟩
      · rw [h1 b z] at e
        cases e
    · intro b z
      by_cases y : b = a
      · exact y
      · exact absurd (h1 b y) z
    · exact hsp w _ a ns hlen (.inl (.inr ⟨_, h0⟩))

end Uq

namespace Uq
open PySem PySem.Spec PyProof.Rows L2
theorem all_mk {l : PySem.W.OpenLaw} {w : World} {K : PySem.W.Frag} {h : Heap} {mg : Str → Option Value} {fa : Addr} (X : K.In h) (G : h.Ns mainGlobals mg) (hfa : mg "law" = some (.ref fa))
    {f_law_pot : Addr} {od_law_pot an_law_pot : Option Addr} {sl_law_pot : Array (Option Value)} {oc_law_pot kV_law_pot dc_law_pot pm_law_pot cd_law_pot ct_law_pot : Value}
    (a_law_pot : PySem.W.nsIn K mainGlobals "_law_pot" = some (some (.ref f_law_pot))) (l_law_pot : K.lookup f_law_pot = some ⟨oc_law_pot, od_law_pot, .func (PySem.W.fnOf "_law_pot" "_law_pot" (defArgs s_law_pot) (defBody s_law_pot) (defScope s_law_pot) .none kV_law_pot dc_law_pot pm_law_pot an_law_pot cd_law_pot ct_law_pot), sl_law_pot⟩) (k_law_pot : PySem.W.codeIn K cd_law_pot "_law_pot" = true) (p_law_pot : PySem.W.keepIn K (.ref f_law_pot) = true)
    {f_law_take : Addr} {od_law_take an_law_take : Option Addr} {sl_law_take : Array (Option Value)} {oc_law_take kV_law_take dc_law_take pm_law_take cd_law_take ct_law_take : Value}
    (a_law_take : PySem.W.nsIn K mainGlobals "_law_take" = some (some (.ref f_law_take))) (l_law_take : K.lookup f_law_take = some ⟨oc_law_take, od_law_take, .func (PySem.W.fnOf "_law_take" "_law_take" (defArgs s_law_take) (defBody s_law_take) (defScope s_law_take) .none kV_law_take dc_law_take pm_law_take an_law_take cd_law_take ct_law_take), sl_law_take⟩) (k_law_take : PySem.W.codeIn K cd_law_take "_law_take" = true) (p_law_take : PySem.W.keepIn K (.ref f_law_take) = true)
    {f_law_cells : Addr} {od_law_cells an_law_cells : Option Addr} {sl_law_cells : Array (Option Value)} {oc_law_cells kV_law_cells dc_law_cells pm_law_cells cd_law_cells ct_law_cells : Value}
    (a_law_cells : PySem.W.nsIn K mainGlobals "_law_cells" = some (some (.ref f_law_cells))) (l_law_cells : K.lookup f_law_cells = some ⟨oc_law_cells, od_law_cells, .func (PySem.W.fnOf "_law_cells" "_law_cells" (defArgs s_law_cells) (defBody s_law_cells) (defScope s_law_cells) .none kV_law_cells dc_law_cells pm_law_cells an_law_cells cd_law_cells ct_law_cells), sl_law_cells⟩) (k_law_cells : PySem.W.codeIn K cd_law_cells "_law_cells" = true) (p_law_cells : PySem.W.keepIn K (.ref f_law_cells) = true)
    {f_law_created : Addr} {od_law_created an_law_created : Option Addr} {sl_law_created : Array (Option Value)} {oc_law_created kV_law_created dc_law_created pm_law_created cd_law_created ct_law_created : Value}
    (a_law_created : PySem.W.nsIn K mainGlobals "_law_created" = some (some (.ref f_law_created))) (l_law_created : K.lookup f_law_created = some ⟨oc_law_created, od_law_created, .func (PySem.W.fnOf "_law_created" "_law_created" (defArgs s_law_created) (defBody s_law_created) (defScope s_law_created) .none kV_law_created dc_law_created pm_law_created an_law_created cd_law_created ct_law_created), sl_law_created⟩) (k_law_created : PySem.W.codeIn K cd_law_created "_law_created" = true) (p_law_created : PySem.W.keepIn K (.ref f_law_created) = true)
    {f_law_kinds : Addr} {od_law_kinds an_law_kinds : Option Addr} {sl_law_kinds : Array (Option Value)} {oc_law_kinds kV_law_kinds dc_law_kinds pm_law_kinds cd_law_kinds ct_law_kinds : Value}
    (a_law_kinds : PySem.W.nsIn K mainGlobals "_law_kinds" = some (some (.ref f_law_kinds))) (l_law_kinds : K.lookup f_law_kinds = some ⟨oc_law_kinds, od_law_kinds, .func (PySem.W.fnOf "_law_kinds" "_law_kinds" (defArgs s_law_kinds) (defBody s_law_kinds) (defScope s_law_kinds) .none kV_law_kinds dc_law_kinds pm_law_kinds an_law_kinds cd_law_kinds ct_law_kinds), sl_law_kinds⟩) (k_law_kinds : PySem.W.codeIn K cd_law_kinds "_law_kinds" = true) (p_law_kinds : PySem.W.keepIn K (.ref f_law_kinds) = true)
    {f_law_of : Addr} {od_law_of an_law_of : Option Addr} {sl_law_of : Array (Option Value)} {oc_law_of kV_law_of dc_law_of pm_law_of cd_law_of ct_law_of : Value}
    (a_law_of : PySem.W.nsIn K mainGlobals "_law_of" = some (some (.ref f_law_of))) (l_law_of : K.lookup f_law_of = some ⟨oc_law_of, od_law_of, .func (PySem.W.fnOf "_law_of" "_law_of" (defArgs s_law_of) (defBody s_law_of) (defScope s_law_of) .none kV_law_of dc_law_of pm_law_of an_law_of cd_law_of ct_law_of), sl_law_of⟩) (k_law_of : PySem.W.codeIn K cd_law_of "_law_of" = true) (p_law_of : PySem.W.keepIn K (.ref f_law_of) = true)
    {f_law_odd : Addr} {od_law_odd an_law_odd : Option Addr} {sl_law_odd : Array (Option Value)} {oc_law_odd kV_law_odd dc_law_odd pm_law_odd cd_law_odd ct_law_odd : Value}
    (a_law_odd : PySem.W.nsIn K mainGlobals "_law_odd" = some (some (.ref f_law_odd))) (l_law_odd : K.lookup f_law_odd = some ⟨oc_law_odd, od_law_odd, .func (PySem.W.fnOf "_law_odd" "_law_odd" (defArgs s_law_odd) (defBody s_law_odd) (defScope s_law_odd) .none kV_law_odd dc_law_odd pm_law_odd an_law_odd cd_law_odd ct_law_odd), sl_law_odd⟩) (k_law_odd : PySem.W.codeIn K cd_law_odd "_law_odd" = true) (p_law_odd : PySem.W.keepIn K (.ref f_law_odd) = true)
    {f_law_right : Addr} {od_law_right an_law_right : Option Addr} {sl_law_right : Array (Option Value)} {oc_law_right kV_law_right dc_law_right pm_law_right cd_law_right ct_law_right : Value}
    (a_law_right : PySem.W.nsIn K mainGlobals "_law_right" = some (some (.ref f_law_right))) (l_law_right : K.lookup f_law_right = some ⟨oc_law_right, od_law_right, .func (PySem.W.fnOf "_law_right" "_law_right" (defArgs s_law_right) (defBody s_law_right) (defScope s_law_right) .none kV_law_right dc_law_right pm_law_right an_law_right cd_law_right ct_law_right), sl_law_right⟩) (k_law_right : PySem.W.codeIn K cd_law_right "_law_right" = true) (p_law_right : PySem.W.keepIn K (.ref f_law_right) = true)
    {f_law : Addr} {od_law an_law : Option Addr} {sl_law : Array (Option Value)} {oc_law kV_law dc_law pm_law cd_law ct_law : Value}
    (a_law : PySem.W.nsIn K mainGlobals "law" = some (some (.ref f_law))) (l_law : K.lookup f_law = some ⟨oc_law, od_law, .func (PySem.W.fnOf "law" "law" (defArgs s_law) (defBody s_law) (defScope s_law) .none kV_law dc_law pm_law an_law cd_law ct_law), sl_law⟩) (k_law : PySem.W.codeIn K cd_law "law" = true) (p_law : PySem.W.keepIn K (.ref f_law) = true)
    (z_len : PySem.W.nsIn K mainGlobals "len" = some none)
    (z_int : PySem.W.nsIn K mainGlobals "int" = some none)
    (z_abs : PySem.W.nsIn K mainGlobals "abs" = some none)
    (z_range : PySem.W.nsIn K mainGlobals "range" = some none)
    (z_max : PySem.W.nsIn K mainGlobals "max" = some none)
    (z_min : PySem.W.nsIn K mainGlobals "min" = some none)
    (z_list : PySem.W.nsIn K mainGlobals "list" = some none)
    (z_isinstance : PySem.W.nsIn K mainGlobals "isinstance" = some none)
    (z_enumerate : PySem.W.nsIn K mainGlobals "enumerate" = some none)
    (z_repr : PySem.W.nsIn K mainGlobals "repr" = some none)
    (z_ValueError : PySem.W.nsIn K mainGlobals "ValueError" = some none)
    (z_any : PySem.W.nsIn K mainGlobals "any" = some none)
    (z_all : PySem.W.nsIn K mainGlobals "all" = some none)
    {f_init : Addr} {oc_init kV_init dc_init pm_init cd_init ct_init : Value} {od_init an_init : Option Addr} {sl_init : Array (Option Value)}
    {C_AskedError N_AskedError : Addr} {nm_AskedError q_AskedError : Str} {bs_AskedError bm_AskedError sub_AskedError : List Value} {sn_AskedError : List Str} {ab_AskedError : Bool} {col_AskedError : Option Bool} {dd_AskedError : Option Addr} {m0_AskedError m1_AskedError m2_AskedError m3_AskedError m5_AskedError : Option Value}
    (a_AskedError : PySem.W.nsIn K mainGlobals "AskedError" = some (some (.ref C_AskedError)))
    (x_AskedError : K.lookup C_AskedError = some (excClassObj nm_AskedError q_AskedError C_AskedError N_AskedError bs_AskedError bm_AskedError true sn_AskedError sub_AskedError ab_AskedError col_AskedError dd_AskedError m0_AskedError m1_AskedError m2_AskedError m3_AskedError m5_AskedError "ValueError.__new__"))
    (i_AskedError : PySem.W.findIn K (.ref C_AskedError) "__init__" = some (some (.ref f_init))) (v_AskedError : PySem.W.findIn K (.ref C_AskedError) "value" = some none) (kp_AskedError : PySem.W.keepIn K (.ref C_AskedError) = true)
    (s_AskedError : PySem.W.findIn K (.ref C_AskedError) "__setattr__" = some (some (.builtin "object.__setattr__"))) (ga_AskedError : PySem.W.findIn K (.ref C_AskedError) "__getattribute__" = some (some (.builtin "BaseException.__getattribute__")))
    (gg_AskedError : PySem.W.findIn K (.ref C_AskedError) "__getattr__" = some none) (cl_AskedError : PySem.W.findIn K (.ref C_AskedError) "__class__" = some (some (.builtin "object.__class__")))
    {C_BadUnits N_BadUnits : Addr} {nm_BadUnits q_BadUnits : Str} {bs_BadUnits bm_BadUnits sub_BadUnits : List Value} {sn_BadUnits : List Str} {ab_BadUnits : Bool} {col_BadUnits : Option Bool} {dd_BadUnits : Option Addr} {m0_BadUnits m1_BadUnits m2_BadUnits m3_BadUnits m5_BadUnits : Option Value}
    (a_BadUnits : PySem.W.nsIn K mainGlobals "BadUnits" = some (some (.ref C_BadUnits)))
    (x_BadUnits : K.lookup C_BadUnits = some (excClassObj nm_BadUnits q_BadUnits C_BadUnits N_BadUnits bs_BadUnits bm_BadUnits true sn_BadUnits sub_BadUnits ab_BadUnits col_BadUnits dd_BadUnits m0_BadUnits m1_BadUnits m2_BadUnits m3_BadUnits m5_BadUnits "ValueError.__new__"))
    (i_BadUnits : PySem.W.findIn K (.ref C_BadUnits) "__init__" = some (some (.ref f_init))) (v_BadUnits : PySem.W.findIn K (.ref C_BadUnits) "value" = some none) (kp_BadUnits : PySem.W.keepIn K (.ref C_BadUnits) = true)
    (s_BadUnits : PySem.W.findIn K (.ref C_BadUnits) "__setattr__" = some (some (.builtin "object.__setattr__"))) (ga_BadUnits : PySem.W.findIn K (.ref C_BadUnits) "__getattribute__" = some (some (.builtin "BaseException.__getattribute__")))
    (gg_BadUnits : PySem.W.findIn K (.ref C_BadUnits) "__getattr__" = some none) (cl_BadUnits : PySem.W.findIn K (.ref C_BadUnits) "__class__" = some (some (.builtin "object.__class__")))
    {C_BadCount N_BadCount : Addr} {nm_BadCount q_BadCount : Str} {bs_BadCount bm_BadCount sub_BadCount : List Value} {sn_BadCount : List Str} {ab_BadCount : Bool} {col_BadCount : Option Bool} {dd_BadCount : Option Addr} {m0_BadCount m1_BadCount m2_BadCount m3_BadCount m5_BadCount : Option Value}
    (a_BadCount : PySem.W.nsIn K mainGlobals "BadCount" = some (some (.ref C_BadCount)))
    (x_BadCount : K.lookup C_BadCount = some (excClassObj nm_BadCount q_BadCount C_BadCount N_BadCount bs_BadCount bm_BadCount true sn_BadCount sub_BadCount ab_BadCount col_BadCount dd_BadCount m0_BadCount m1_BadCount m2_BadCount m3_BadCount m5_BadCount "ValueError.__new__"))
    (i_BadCount : PySem.W.findIn K (.ref C_BadCount) "__init__" = some (some (.ref f_init))) (v_BadCount : PySem.W.findIn K (.ref C_BadCount) "value" = some none) (kp_BadCount : PySem.W.keepIn K (.ref C_BadCount) = true)
    (s_BadCount : PySem.W.findIn K (.ref C_BadCount) "__setattr__" = some (some (.builtin "object.__setattr__"))) (ga_BadCount : PySem.W.findIn K (.ref C_BadCount) "__getattribute__" = some (some (.builtin "BaseException.__getattribute__")))
    (gg_BadCount : PySem.W.findIn K (.ref C_BadCount) "__getattr__" = some none) (cl_BadCount : PySem.W.findIn K (.ref C_BadCount) "__class__" = some (some (.builtin "object.__class__")))
    {C_BadShare N_BadShare : Addr} {nm_BadShare q_BadShare : Str} {bs_BadShare bm_BadShare sub_BadShare : List Value} {sn_BadShare : List Str} {ab_BadShare : Bool} {col_BadShare : Option Bool} {dd_BadShare : Option Addr} {m0_BadShare m1_BadShare m2_BadShare m3_BadShare m5_BadShare : Option Value}
    (a_BadShare : PySem.W.nsIn K mainGlobals "BadShare" = some (some (.ref C_BadShare)))
    (x_BadShare : K.lookup C_BadShare = some (excClassObj nm_BadShare q_BadShare C_BadShare N_BadShare bs_BadShare bm_BadShare true sn_BadShare sub_BadShare ab_BadShare col_BadShare dd_BadShare m0_BadShare m1_BadShare m2_BadShare m3_BadShare m5_BadShare "ValueError.__new__"))
    (i_BadShare : PySem.W.findIn K (.ref C_BadShare) "__init__" = some (some (.ref f_init))) (v_BadShare : PySem.W.findIn K (.ref C_BadShare) "value" = some none) (kp_BadShare : PySem.W.keepIn K (.ref C_BadShare) = true)
    (s_BadShare : PySem.W.findIn K (.ref C_BadShare) "__setattr__" = some (some (.builtin "object.__setattr__"))) (ga_BadShare : PySem.W.findIn K (.ref C_BadShare) "__getattribute__" = some (some (.builtin "BaseException.__getattribute__")))
    (gg_BadShare : PySem.W.findIn K (.ref C_BadShare) "__getattr__" = some none) (cl_BadShare : PySem.W.findIn K (.ref C_BadShare) "__class__" = some (some (.builtin "object.__class__")))
    {C_BadPage N_BadPage : Addr} {nm_BadPage q_BadPage : Str} {bs_BadPage bm_BadPage sub_BadPage : List Value} {sn_BadPage : List Str} {ab_BadPage : Bool} {col_BadPage : Option Bool} {dd_BadPage : Option Addr} {m0_BadPage m1_BadPage m2_BadPage m3_BadPage m5_BadPage : Option Value}
    (a_BadPage : PySem.W.nsIn K mainGlobals "BadPage" = some (some (.ref C_BadPage)))
    (x_BadPage : K.lookup C_BadPage = some (excClassObj nm_BadPage q_BadPage C_BadPage N_BadPage bs_BadPage bm_BadPage true sn_BadPage sub_BadPage ab_BadPage col_BadPage dd_BadPage m0_BadPage m1_BadPage m2_BadPage m3_BadPage m5_BadPage "ValueError.__new__"))
    (i_BadPage : PySem.W.findIn K (.ref C_BadPage) "__init__" = some (some (.ref f_init))) (v_BadPage : PySem.W.findIn K (.ref C_BadPage) "value" = some none) (kp_BadPage : PySem.W.keepIn K (.ref C_BadPage) = true)
    (s_BadPage : PySem.W.findIn K (.ref C_BadPage) "__setattr__" = some (some (.builtin "object.__setattr__"))) (ga_BadPage : PySem.W.findIn K (.ref C_BadPage) "__getattribute__" = some (some (.builtin "BaseException.__getattribute__")))
    (gg_BadPage : PySem.W.findIn K (.ref C_BadPage) "__getattr__" = some none) (cl_BadPage : PySem.W.findIn K (.ref C_BadPage) "__class__" = some (some (.builtin "object.__class__")))
    {C_NoPart N_NoPart : Addr} {nm_NoPart q_NoPart : Str} {bs_NoPart bm_NoPart sub_NoPart : List Value} {sn_NoPart : List Str} {ab_NoPart : Bool} {col_NoPart : Option Bool} {dd_NoPart : Option Addr} {m0_NoPart m1_NoPart m2_NoPart m3_NoPart m5_NoPart : Option Value}
    (a_NoPart : PySem.W.nsIn K mainGlobals "NoPart" = some (some (.ref C_NoPart)))
    (x_NoPart : K.lookup C_NoPart = some (excClassObj nm_NoPart q_NoPart C_NoPart N_NoPart bs_NoPart bm_NoPart true sn_NoPart sub_NoPart ab_NoPart col_NoPart dd_NoPart m0_NoPart m1_NoPart m2_NoPart m3_NoPart m5_NoPart "ValueError.__new__"))
    (i_NoPart : PySem.W.findIn K (.ref C_NoPart) "__init__" = some (some (.ref f_init))) (v_NoPart : PySem.W.findIn K (.ref C_NoPart) "value" = some none) (kp_NoPart : PySem.W.keepIn K (.ref C_NoPart) = true)
    (s_NoPart : PySem.W.findIn K (.ref C_NoPart) "__setattr__" = some (some (.builtin "object.__setattr__"))) (ga_NoPart : PySem.W.findIn K (.ref C_NoPart) "__getattribute__" = some (some (.builtin "BaseException.__getattribute__")))
    (gg_NoPart : PySem.W.findIn K (.ref C_NoPart) "__getattr__" = some none) (cl_NoPart : PySem.W.findIn K (.ref C_NoPart) "__class__" = some (some (.builtin "object.__class__")))
    {C_NoAbove N_NoAbove : Addr} {nm_NoAbove q_NoAbove : Str} {bs_NoAbove bm_NoAbove sub_NoAbove : List Value} {sn_NoAbove : List Str} {ab_NoAbove : Bool} {col_NoAbove : Option Bool} {dd_NoAbove : Option Addr} {m0_NoAbove m1_NoAbove m2_NoAbove m3_NoAbove m5_NoAbove : Option Value}
    (a_NoAbove : PySem.W.nsIn K mainGlobals "NoAbove" = some (some (.ref C_NoAbove)))
    (x_NoAbove : K.lookup C_NoAbove = some (excClassObj nm_NoAbove q_NoAbove C_NoAbove N_NoAbove bs_NoAbove bm_NoAbove true sn_NoAbove sub_NoAbove ab_NoAbove col_NoAbove dd_NoAbove m0_NoAbove m1_NoAbove m2_NoAbove m3_NoAbove m5_NoAbove "ValueError.__new__"))
    (i_NoAbove : PySem.W.findIn K (.ref C_NoAbove) "__init__" = some (some (.ref f_init))) (v_NoAbove : PySem.W.findIn K (.ref C_NoAbove) "value" = some none) (kp_NoAbove : PySem.W.keepIn K (.ref C_NoAbove) = true)
    (s_NoAbove : PySem.W.findIn K (.ref C_NoAbove) "__setattr__" = some (some (.builtin "object.__setattr__"))) (ga_NoAbove : PySem.W.findIn K (.ref C_NoAbove) "__getattribute__" = some (some (.builtin "BaseException.__getattribute__")))
    (gg_NoAbove : PySem.W.findIn K (.ref C_NoAbove) "__getattr__" = some none) (cl_NoAbove : PySem.W.findIn K (.ref C_NoAbove) "__class__" = some (some (.builtin "object.__class__")))
    {C_BadCounts N_BadCounts : Addr} {nm_BadCounts q_BadCounts : Str} {bs_BadCounts bm_BadCounts sub_BadCounts : List Value} {sn_BadCounts : List Str} {ab_BadCounts : Bool} {col_BadCounts : Option Bool} {dd_BadCounts : Option Addr} {m0_BadCounts m1_BadCounts m2_BadCounts m3_BadCounts m5_BadCounts : Option Value}
    (a_BadCounts : PySem.W.nsIn K mainGlobals "BadCounts" = some (some (.ref C_BadCounts)))
    (x_BadCounts : K.lookup C_BadCounts = some (excClassObj nm_BadCounts q_BadCounts C_BadCounts N_BadCounts bs_BadCounts bm_BadCounts true sn_BadCounts sub_BadCounts ab_BadCounts col_BadCounts dd_BadCounts m0_BadCounts m1_BadCounts m2_BadCounts m3_BadCounts m5_BadCounts "ValueError.__new__"))
    (i_BadCounts : PySem.W.findIn K (.ref C_BadCounts) "__init__" = some (some (.ref f_init))) (v_BadCounts : PySem.W.findIn K (.ref C_BadCounts) "value" = some none) (kp_BadCounts : PySem.W.keepIn K (.ref C_BadCounts) = true)
    (s_BadCounts : PySem.W.findIn K (.ref C_BadCounts) "__setattr__" = some (some (.builtin "object.__setattr__"))) (ga_BadCounts : PySem.W.findIn K (.ref C_BadCounts) "__getattribute__" = some (some (.builtin "BaseException.__getattribute__")))
    (gg_BadCounts : PySem.W.findIn K (.ref C_BadCounts) "__getattr__" = some none) (cl_BadCounts : PySem.W.findIn K (.ref C_BadCounts) "__class__" = some (some (.builtin "object.__class__")))
    {C_OtherPage N_OtherPage : Addr} {nm_OtherPage q_OtherPage : Str} {bs_OtherPage bm_OtherPage sub_OtherPage : List Value} {sn_OtherPage : List Str} {ab_OtherPage : Bool} {col_OtherPage : Option Bool} {dd_OtherPage : Option Addr} {m0_OtherPage m1_OtherPage m2_OtherPage m3_OtherPage m5_OtherPage : Option Value}
    (a_OtherPage : PySem.W.nsIn K mainGlobals "OtherPage" = some (some (.ref C_OtherPage)))
    (x_OtherPage : K.lookup C_OtherPage = some (excClassObj nm_OtherPage q_OtherPage C_OtherPage N_OtherPage bs_OtherPage bm_OtherPage true sn_OtherPage sub_OtherPage ab_OtherPage col_OtherPage dd_OtherPage m0_OtherPage m1_OtherPage m2_OtherPage m3_OtherPage m5_OtherPage "ValueError.__new__"))
    (i_OtherPage : PySem.W.findIn K (.ref C_OtherPage) "__init__" = some (some (.ref f_init))) (v_OtherPage : PySem.W.findIn K (.ref C_OtherPage) "value" = some none) (kp_OtherPage : PySem.W.keepIn K (.ref C_OtherPage) = true)
    (s_OtherPage : PySem.W.findIn K (.ref C_OtherPage) "__setattr__" = some (some (.builtin "object.__setattr__"))) (ga_OtherPage : PySem.W.findIn K (.ref C_OtherPage) "__getattribute__" = some (some (.builtin "BaseException.__getattribute__")))
    (gg_OtherPage : PySem.W.findIn K (.ref C_OtherPage) "__getattr__" = some none) (cl_OtherPage : PySem.W.findIn K (.ref C_OtherPage) "__class__" = some (some (.builtin "object.__class__")))
    {C_BadTimes N_BadTimes : Addr} {nm_BadTimes q_BadTimes : Str} {bs_BadTimes bm_BadTimes sub_BadTimes : List Value} {sn_BadTimes : List Str} {ab_BadTimes : Bool} {col_BadTimes : Option Bool} {dd_BadTimes : Option Addr} {m0_BadTimes m1_BadTimes m2_BadTimes m3_BadTimes m5_BadTimes : Option Value}
    (a_BadTimes : PySem.W.nsIn K mainGlobals "BadTimes" = some (some (.ref C_BadTimes)))
    (x_BadTimes : K.lookup C_BadTimes = some (excClassObj nm_BadTimes q_BadTimes C_BadTimes N_BadTimes bs_BadTimes bm_BadTimes true sn_BadTimes sub_BadTimes ab_BadTimes col_BadTimes dd_BadTimes m0_BadTimes m1_BadTimes m2_BadTimes m3_BadTimes m5_BadTimes "ValueError.__new__"))
    (i_BadTimes : PySem.W.findIn K (.ref C_BadTimes) "__init__" = some (some (.ref f_init))) (v_BadTimes : PySem.W.findIn K (.ref C_BadTimes) "value" = some none) (kp_BadTimes : PySem.W.keepIn K (.ref C_BadTimes) = true)
    (s_BadTimes : PySem.W.findIn K (.ref C_BadTimes) "__setattr__" = some (some (.builtin "object.__setattr__"))) (ga_BadTimes : PySem.W.findIn K (.ref C_BadTimes) "__getattribute__" = some (some (.builtin "BaseException.__getattribute__")))
    (gg_BadTimes : PySem.W.findIn K (.ref C_BadTimes) "__getattr__" = some none) (cl_BadTimes : PySem.W.findIn K (.ref C_BadTimes) "__class__" = some (some (.builtin "object.__class__")))
    {C_BadRows N_BadRows : Addr} {nm_BadRows q_BadRows : Str} {bs_BadRows bm_BadRows sub_BadRows : List Value} {sn_BadRows : List Str} {ab_BadRows : Bool} {col_BadRows : Option Bool} {dd_BadRows : Option Addr} {m0_BadRows m1_BadRows m2_BadRows m3_BadRows m5_BadRows : Option Value}
    (a_BadRows : PySem.W.nsIn K mainGlobals "BadRows" = some (some (.ref C_BadRows)))
    (x_BadRows : K.lookup C_BadRows = some (excClassObj nm_BadRows q_BadRows C_BadRows N_BadRows bs_BadRows bm_BadRows true sn_BadRows sub_BadRows ab_BadRows col_BadRows dd_BadRows m0_BadRows m1_BadRows m2_BadRows m3_BadRows m5_BadRows "ValueError.__new__"))
    (i_BadRows : PySem.W.findIn K (.ref C_BadRows) "__init__" = some (some (.ref f_init))) (v_BadRows : PySem.W.findIn K (.ref C_BadRows) "value" = some none) (kp_BadRows : PySem.W.keepIn K (.ref C_BadRows) = true)
    (s_BadRows : PySem.W.findIn K (.ref C_BadRows) "__setattr__" = some (some (.builtin "object.__setattr__"))) (ga_BadRows : PySem.W.findIn K (.ref C_BadRows) "__getattribute__" = some (some (.builtin "BaseException.__getattribute__")))
    (gg_BadRows : PySem.W.findIn K (.ref C_BadRows) "__getattr__" = some none) (cl_BadRows : PySem.W.findIn K (.ref C_BadRows) "__class__" = some (some (.builtin "object.__class__")))
    {C_Unlike N_Unlike : Addr} {nm_Unlike q_Unlike : Str} {bs_Unlike bm_Unlike sub_Unlike : List Value} {sn_Unlike : List Str} {ab_Unlike : Bool} {col_Unlike : Option Bool} {dd_Unlike : Option Addr} {m0_Unlike m1_Unlike m2_Unlike m3_Unlike m5_Unlike : Option Value}
    (a_Unlike : PySem.W.nsIn K mainGlobals "Unlike" = some (some (.ref C_Unlike)))
    (x_Unlike : K.lookup C_Unlike = some (excClassObj nm_Unlike q_Unlike C_Unlike N_Unlike bs_Unlike bm_Unlike true sn_Unlike sub_Unlike ab_Unlike col_Unlike dd_Unlike m0_Unlike m1_Unlike m2_Unlike m3_Unlike m5_Unlike "ValueError.__new__"))
    (i_Unlike : PySem.W.findIn K (.ref C_Unlike) "__init__" = some (some (.ref f_init))) (v_Unlike : PySem.W.findIn K (.ref C_Unlike) "value" = some none) (kp_Unlike : PySem.W.keepIn K (.ref C_Unlike) = true)
    (s_Unlike : PySem.W.findIn K (.ref C_Unlike) "__setattr__" = some (some (.builtin "object.__setattr__"))) (ga_Unlike : PySem.W.findIn K (.ref C_Unlike) "__getattribute__" = some (some (.builtin "BaseException.__getattribute__")))
    (gg_Unlike : PySem.W.findIn K (.ref C_Unlike) "__getattr__" = some none) (cl_Unlike : PySem.W.findIn K (.ref C_Unlike) "__class__" = some (some (.builtin "object.__class__")))
    {C_BadStatement N_BadStatement : Addr} {nm_BadStatement q_BadStatement : Str} {bs_BadStatement bm_BadStatement sub_BadStatement : List Value} {sn_BadStatement : List Str} {ab_BadStatement : Bool} {col_BadStatement : Option Bool} {dd_BadStatement : Option Addr} {m0_BadStatement m1_BadStatement m2_BadStatement m3_BadStatement m5_BadStatement : Option Value}
    (a_BadStatement : PySem.W.nsIn K mainGlobals "BadStatement" = some (some (.ref C_BadStatement)))
    (x_BadStatement : K.lookup C_BadStatement = some (excClassObj nm_BadStatement q_BadStatement C_BadStatement N_BadStatement bs_BadStatement bm_BadStatement true sn_BadStatement sub_BadStatement ab_BadStatement col_BadStatement dd_BadStatement m0_BadStatement m1_BadStatement m2_BadStatement m3_BadStatement m5_BadStatement "ValueError.__new__"))
    (i_BadStatement : PySem.W.findIn K (.ref C_BadStatement) "__init__" = some (some (.ref f_init))) (v_BadStatement : PySem.W.findIn K (.ref C_BadStatement) "value" = some none) (kp_BadStatement : PySem.W.keepIn K (.ref C_BadStatement) = true)
    (s_BadStatement : PySem.W.findIn K (.ref C_BadStatement) "__setattr__" = some (some (.builtin "object.__setattr__"))) (ga_BadStatement : PySem.W.findIn K (.ref C_BadStatement) "__getattribute__" = some (some (.builtin "BaseException.__getattribute__")))
    (gg_BadStatement : PySem.W.findIn K (.ref C_BadStatement) "__getattr__" = some none) (cl_BadStatement : PySem.W.findIn K (.ref C_BadStatement) "__class__" = some (some (.builtin "object.__class__")))
    {C_NoTable N_NoTable : Addr} {nm_NoTable q_NoTable : Str} {bs_NoTable bm_NoTable sub_NoTable : List Value} {sn_NoTable : List Str} {ab_NoTable : Bool} {col_NoTable : Option Bool} {dd_NoTable : Option Addr} {m0_NoTable m1_NoTable m2_NoTable m3_NoTable m5_NoTable : Option Value}
    (a_NoTable : PySem.W.nsIn K mainGlobals "NoTable" = some (some (.ref C_NoTable)))
    (x_NoTable : K.lookup C_NoTable = some (excClassObj nm_NoTable q_NoTable C_NoTable N_NoTable bs_NoTable bm_NoTable true sn_NoTable sub_NoTable ab_NoTable col_NoTable dd_NoTable m0_NoTable m1_NoTable m2_NoTable m3_NoTable m5_NoTable "ValueError.__new__"))
    (i_NoTable : PySem.W.findIn K (.ref C_NoTable) "__init__" = some (some (.ref f_init))) (v_NoTable : PySem.W.findIn K (.ref C_NoTable) "value" = some none) (kp_NoTable : PySem.W.keepIn K (.ref C_NoTable) = true)
    (s_NoTable : PySem.W.findIn K (.ref C_NoTable) "__setattr__" = some (some (.builtin "object.__setattr__"))) (ga_NoTable : PySem.W.findIn K (.ref C_NoTable) "__getattribute__" = some (some (.builtin "BaseException.__getattribute__")))
    (gg_NoTable : PySem.W.findIn K (.ref C_NoTable) "__getattr__" = some none) (cl_NoTable : PySem.W.findIn K (.ref C_NoTable) "__class__" = some (some (.builtin "object.__class__")))
    {C_Empty N_Empty : Addr} {nm_Empty q_Empty : Str} {bs_Empty bm_Empty sub_Empty : List Value} {sn_Empty : List Str} {ab_Empty : Bool} {col_Empty : Option Bool} {dd_Empty : Option Addr} {m0_Empty m1_Empty m2_Empty m3_Empty m5_Empty : Option Value}
    (a_Empty : PySem.W.nsIn K mainGlobals "Empty" = some (some (.ref C_Empty)))
    (x_Empty : K.lookup C_Empty = some (excClassObj nm_Empty q_Empty C_Empty N_Empty bs_Empty bm_Empty true sn_Empty sub_Empty ab_Empty col_Empty dd_Empty m0_Empty m1_Empty m2_Empty m3_Empty m5_Empty "ValueError.__new__"))
    (i_Empty : PySem.W.findIn K (.ref C_Empty) "__init__" = some (some (.ref f_init))) (v_Empty : PySem.W.findIn K (.ref C_Empty) "value" = some none) (kp_Empty : PySem.W.keepIn K (.ref C_Empty) = true)
    (s_Empty : PySem.W.findIn K (.ref C_Empty) "__setattr__" = some (some (.builtin "object.__setattr__"))) (ga_Empty : PySem.W.findIn K (.ref C_Empty) "__getattribute__" = some (some (.builtin "BaseException.__getattribute__")))
    (gg_Empty : PySem.W.findIn K (.ref C_Empty) "__getattr__" = some none) (cl_Empty : PySem.W.findIn K (.ref C_Empty) "__class__" = some (some (.builtin "object.__class__")))
    {C_BadTotal N_BadTotal : Addr} {nm_BadTotal q_BadTotal : Str} {bs_BadTotal bm_BadTotal sub_BadTotal : List Value} {sn_BadTotal : List Str} {ab_BadTotal : Bool} {col_BadTotal : Option Bool} {dd_BadTotal : Option Addr} {m0_BadTotal m1_BadTotal m2_BadTotal m3_BadTotal m5_BadTotal : Option Value}
    (a_BadTotal : PySem.W.nsIn K mainGlobals "BadTotal" = some (some (.ref C_BadTotal)))
    (x_BadTotal : K.lookup C_BadTotal = some (excClassObj nm_BadTotal q_BadTotal C_BadTotal N_BadTotal bs_BadTotal bm_BadTotal true sn_BadTotal sub_BadTotal ab_BadTotal col_BadTotal dd_BadTotal m0_BadTotal m1_BadTotal m2_BadTotal m3_BadTotal m5_BadTotal "ValueError.__new__"))
    (i_BadTotal : PySem.W.findIn K (.ref C_BadTotal) "__init__" = some (some (.ref f_init))) (v_BadTotal : PySem.W.findIn K (.ref C_BadTotal) "value" = some none) (kp_BadTotal : PySem.W.keepIn K (.ref C_BadTotal) = true)
    (s_BadTotal : PySem.W.findIn K (.ref C_BadTotal) "__setattr__" = some (some (.builtin "object.__setattr__"))) (ga_BadTotal : PySem.W.findIn K (.ref C_BadTotal) "__getattribute__" = some (some (.builtin "BaseException.__getattribute__")))
    (gg_BadTotal : PySem.W.findIn K (.ref C_BadTotal) "__getattr__" = some none) (cl_BadTotal : PySem.W.findIn K (.ref C_BadTotal) "__class__" = some (some (.builtin "object.__class__")))
    {C_BadOffers N_BadOffers : Addr} {nm_BadOffers q_BadOffers : Str} {bs_BadOffers bm_BadOffers sub_BadOffers : List Value} {sn_BadOffers : List Str} {ab_BadOffers : Bool} {col_BadOffers : Option Bool} {dd_BadOffers : Option Addr} {m0_BadOffers m1_BadOffers m2_BadOffers m3_BadOffers m5_BadOffers : Option Value}
    (a_BadOffers : PySem.W.nsIn K mainGlobals "BadOffers" = some (some (.ref C_BadOffers)))
    (x_BadOffers : K.lookup C_BadOffers = some (excClassObj nm_BadOffers q_BadOffers C_BadOffers N_BadOffers bs_BadOffers bm_BadOffers true sn_BadOffers sub_BadOffers ab_BadOffers col_BadOffers dd_BadOffers m0_BadOffers m1_BadOffers m2_BadOffers m3_BadOffers m5_BadOffers "ValueError.__new__"))
    (i_BadOffers : PySem.W.findIn K (.ref C_BadOffers) "__init__" = some (some (.ref f_init))) (v_BadOffers : PySem.W.findIn K (.ref C_BadOffers) "value" = some none) (kp_BadOffers : PySem.W.keepIn K (.ref C_BadOffers) = true)
    (s_BadOffers : PySem.W.findIn K (.ref C_BadOffers) "__setattr__" = some (some (.builtin "object.__setattr__"))) (ga_BadOffers : PySem.W.findIn K (.ref C_BadOffers) "__getattribute__" = some (some (.builtin "BaseException.__getattribute__")))
    (gg_BadOffers : PySem.W.findIn K (.ref C_BadOffers) "__getattr__" = some none) (cl_BadOffers : PySem.W.findIn K (.ref C_BadOffers) "__class__" = some (some (.builtin "object.__class__")))
    {C_BadWishes N_BadWishes : Addr} {nm_BadWishes q_BadWishes : Str} {bs_BadWishes bm_BadWishes sub_BadWishes : List Value} {sn_BadWishes : List Str} {ab_BadWishes : Bool} {col_BadWishes : Option Bool} {dd_BadWishes : Option Addr} {m0_BadWishes m1_BadWishes m2_BadWishes m3_BadWishes m5_BadWishes : Option Value}
    (a_BadWishes : PySem.W.nsIn K mainGlobals "BadWishes" = some (some (.ref C_BadWishes)))
    (x_BadWishes : K.lookup C_BadWishes = some (excClassObj nm_BadWishes q_BadWishes C_BadWishes N_BadWishes bs_BadWishes bm_BadWishes true sn_BadWishes sub_BadWishes ab_BadWishes col_BadWishes dd_BadWishes m0_BadWishes m1_BadWishes m2_BadWishes m3_BadWishes m5_BadWishes "ValueError.__new__"))
    (i_BadWishes : PySem.W.findIn K (.ref C_BadWishes) "__init__" = some (some (.ref f_init))) (v_BadWishes : PySem.W.findIn K (.ref C_BadWishes) "value" = some none) (kp_BadWishes : PySem.W.keepIn K (.ref C_BadWishes) = true)
    (s_BadWishes : PySem.W.findIn K (.ref C_BadWishes) "__setattr__" = some (some (.builtin "object.__setattr__"))) (ga_BadWishes : PySem.W.findIn K (.ref C_BadWishes) "__getattribute__" = some (some (.builtin "BaseException.__getattribute__")))
    (gg_BadWishes : PySem.W.findIn K (.ref C_BadWishes) "__getattr__" = some none) (cl_BadWishes : PySem.W.findIn K (.ref C_BadWishes) "__class__" = some (some (.builtin "object.__class__")))
    {C_Contrary N_Contrary : Addr} {nm_Contrary q_Contrary : Str} {bs_Contrary bm_Contrary sub_Contrary : List Value} {sn_Contrary : List Str} {ab_Contrary : Bool} {col_Contrary : Option Bool} {dd_Contrary : Option Addr} {m0_Contrary m1_Contrary m2_Contrary m3_Contrary m5_Contrary : Option Value}
    (a_Contrary : PySem.W.nsIn K mainGlobals "Contrary" = some (some (.ref C_Contrary)))
    (x_Contrary : K.lookup C_Contrary = some (excClassObj nm_Contrary q_Contrary C_Contrary N_Contrary bs_Contrary bm_Contrary true sn_Contrary sub_Contrary ab_Contrary col_Contrary dd_Contrary m0_Contrary m1_Contrary m2_Contrary m3_Contrary m5_Contrary "ValueError.__new__"))
    (i_Contrary : PySem.W.findIn K (.ref C_Contrary) "__init__" = some (some (.ref f_init))) (v_Contrary : PySem.W.findIn K (.ref C_Contrary) "value" = some none) (kp_Contrary : PySem.W.keepIn K (.ref C_Contrary) = true)
    (s_Contrary : PySem.W.findIn K (.ref C_Contrary) "__setattr__" = some (some (.builtin "object.__setattr__"))) (ga_Contrary : PySem.W.findIn K (.ref C_Contrary) "__getattribute__" = some (some (.builtin "BaseException.__getattribute__")))
    (gg_Contrary : PySem.W.findIn K (.ref C_Contrary) "__getattr__" = some none) (cl_Contrary : PySem.W.findIn K (.ref C_Contrary) "__class__" = some (some (.builtin "object.__class__")))
    {C_NothingToUndo N_NothingToUndo : Addr} {nm_NothingToUndo q_NothingToUndo : Str} {bs_NothingToUndo bm_NothingToUndo sub_NothingToUndo : List Value} {sn_NothingToUndo : List Str} {ab_NothingToUndo : Bool} {col_NothingToUndo : Option Bool} {dd_NothingToUndo : Option Addr} {m0_NothingToUndo m1_NothingToUndo m2_NothingToUndo m3_NothingToUndo m5_NothingToUndo : Option Value}
    (a_NothingToUndo : PySem.W.nsIn K mainGlobals "NothingToUndo" = some (some (.ref C_NothingToUndo)))
    (x_NothingToUndo : K.lookup C_NothingToUndo = some (excClassObj nm_NothingToUndo q_NothingToUndo C_NothingToUndo N_NothingToUndo bs_NothingToUndo bm_NothingToUndo true sn_NothingToUndo sub_NothingToUndo ab_NothingToUndo col_NothingToUndo dd_NothingToUndo m0_NothingToUndo m1_NothingToUndo m2_NothingToUndo m3_NothingToUndo m5_NothingToUndo "ValueError.__new__"))
    (i_NothingToUndo : PySem.W.findIn K (.ref C_NothingToUndo) "__init__" = some (some (.ref f_init))) (v_NothingToUndo : PySem.W.findIn K (.ref C_NothingToUndo) "value" = some none) (kp_NothingToUndo : PySem.W.keepIn K (.ref C_NothingToUndo) = true)
    (s_NothingToUndo : PySem.W.findIn K (.ref C_NothingToUndo) "__setattr__" = some (some (.builtin "object.__setattr__"))) (ga_NothingToUndo : PySem.W.findIn K (.ref C_NothingToUndo) "__getattribute__" = some (some (.builtin "BaseException.__getattribute__")))
    (gg_NothingToUndo : PySem.W.findIn K (.ref C_NothingToUndo) "__getattr__" = some none) (cl_NothingToUndo : PySem.W.findIn K (.ref C_NothingToUndo) "__class__" = some (some (.builtin "object.__class__")))
    {C_NothingToRedo N_NothingToRedo : Addr} {nm_NothingToRedo q_NothingToRedo : Str} {bs_NothingToRedo bm_NothingToRedo sub_NothingToRedo : List Value} {sn_NothingToRedo : List Str} {ab_NothingToRedo : Bool} {col_NothingToRedo : Option Bool} {dd_NothingToRedo : Option Addr} {m0_NothingToRedo m1_NothingToRedo m2_NothingToRedo m3_NothingToRedo m5_NothingToRedo : Option Value}
    (a_NothingToRedo : PySem.W.nsIn K mainGlobals "NothingToRedo" = some (some (.ref C_NothingToRedo)))
    (x_NothingToRedo : K.lookup C_NothingToRedo = some (excClassObj nm_NothingToRedo q_NothingToRedo C_NothingToRedo N_NothingToRedo bs_NothingToRedo bm_NothingToRedo true sn_NothingToRedo sub_NothingToRedo ab_NothingToRedo col_NothingToRedo dd_NothingToRedo m0_NothingToRedo m1_NothingToRedo m2_NothingToRedo m3_NothingToRedo m5_NothingToRedo "ValueError.__new__"))
    (i_NothingToRedo : PySem.W.findIn K (.ref C_NothingToRedo) "__init__" = some (some (.ref f_init))) (v_NothingToRedo : PySem.W.findIn K (.ref C_NothingToRedo) "value" = some none) (kp_NothingToRedo : PySem.W.keepIn K (.ref C_NothingToRedo) = true)
    (s_NothingToRedo : PySem.W.findIn K (.ref C_NothingToRedo) "__setattr__" = some (some (.builtin "object.__setattr__"))) (ga_NothingToRedo : PySem.W.findIn K (.ref C_NothingToRedo) "__getattribute__" = some (some (.builtin "BaseException.__getattribute__")))
    (gg_NothingToRedo : PySem.W.findIn K (.ref C_NothingToRedo) "__getattr__" = some none) (cl_NothingToRedo : PySem.W.findIn K (.ref C_NothingToRedo) "__class__" = some (some (.builtin "object.__class__")))
    {C_NoTrial N_NoTrial : Addr} {nm_NoTrial q_NoTrial : Str} {bs_NoTrial bm_NoTrial sub_NoTrial : List Value} {sn_NoTrial : List Str} {ab_NoTrial : Bool} {col_NoTrial : Option Bool} {dd_NoTrial : Option Addr} {m0_NoTrial m1_NoTrial m2_NoTrial m3_NoTrial m5_NoTrial : Option Value}
    (a_NoTrial : PySem.W.nsIn K mainGlobals "NoTrial" = some (some (.ref C_NoTrial)))
    (x_NoTrial : K.lookup C_NoTrial = some (excClassObj nm_NoTrial q_NoTrial C_NoTrial N_NoTrial bs_NoTrial bm_NoTrial true sn_NoTrial sub_NoTrial ab_NoTrial col_NoTrial dd_NoTrial m0_NoTrial m1_NoTrial m2_NoTrial m3_NoTrial m5_NoTrial "ValueError.__new__"))
    (i_NoTrial : PySem.W.findIn K (.ref C_NoTrial) "__init__" = some (some (.ref f_init))) (v_NoTrial : PySem.W.findIn K (.ref C_NoTrial) "value" = some none) (kp_NoTrial : PySem.W.keepIn K (.ref C_NoTrial) = true)
    (s_NoTrial : PySem.W.findIn K (.ref C_NoTrial) "__setattr__" = some (some (.builtin "object.__setattr__"))) (ga_NoTrial : PySem.W.findIn K (.ref C_NoTrial) "__getattribute__" = some (some (.builtin "BaseException.__getattribute__")))
    (gg_NoTrial : PySem.W.findIn K (.ref C_NoTrial) "__getattr__" = some none) (cl_NoTrial : PySem.W.findIn K (.ref C_NoTrial) "__class__" = some (some (.builtin "object.__class__")))
    {C_BadJournal N_BadJournal : Addr} {nm_BadJournal q_BadJournal : Str} {bs_BadJournal bm_BadJournal sub_BadJournal : List Value} {sn_BadJournal : List Str} {ab_BadJournal : Bool} {col_BadJournal : Option Bool} {dd_BadJournal : Option Addr} {m0_BadJournal m1_BadJournal m2_BadJournal m3_BadJournal m5_BadJournal : Option Value}
    (a_BadJournal : PySem.W.nsIn K mainGlobals "BadJournal" = some (some (.ref C_BadJournal)))
    (x_BadJournal : K.lookup C_BadJournal = some (excClassObj nm_BadJournal q_BadJournal C_BadJournal N_BadJournal bs_BadJournal bm_BadJournal true sn_BadJournal sub_BadJournal ab_BadJournal col_BadJournal dd_BadJournal m0_BadJournal m1_BadJournal m2_BadJournal m3_BadJournal m5_BadJournal "ValueError.__new__"))
    (i_BadJournal : PySem.W.findIn K (.ref C_BadJournal) "__init__" = some (some (.ref f_init))) (v_BadJournal : PySem.W.findIn K (.ref C_BadJournal) "value" = some none) (kp_BadJournal : PySem.W.keepIn K (.ref C_BadJournal) = true)
    (s_BadJournal : PySem.W.findIn K (.ref C_BadJournal) "__setattr__" = some (some (.builtin "object.__setattr__"))) (ga_BadJournal : PySem.W.findIn K (.ref C_BadJournal) "__getattribute__" = some (some (.builtin "BaseException.__getattribute__")))
    (gg_BadJournal : PySem.W.findIn K (.ref C_BadJournal) "__getattr__" = some none) (cl_BadJournal : PySem.W.findIn K (.ref C_BadJournal) "__class__" = some (some (.builtin "object.__class__")))
    {C_BadLine N_BadLine : Addr} {nm_BadLine q_BadLine : Str} {bs_BadLine bm_BadLine sub_BadLine : List Value} {sn_BadLine : List Str} {ab_BadLine : Bool} {col_BadLine : Option Bool} {dd_BadLine : Option Addr} {m0_BadLine m1_BadLine m2_BadLine m3_BadLine m5_BadLine : Option Value}
    (a_BadLine : PySem.W.nsIn K mainGlobals "BadLine" = some (some (.ref C_BadLine)))
    (x_BadLine : K.lookup C_BadLine = some (excClassObj nm_BadLine q_BadLine C_BadLine N_BadLine bs_BadLine bm_BadLine true sn_BadLine sub_BadLine ab_BadLine col_BadLine dd_BadLine m0_BadLine m1_BadLine m2_BadLine m3_BadLine m5_BadLine "ValueError.__new__"))
    (i_BadLine : PySem.W.findIn K (.ref C_BadLine) "__init__" = some (some (.ref f_init))) (v_BadLine : PySem.W.findIn K (.ref C_BadLine) "value" = some none) (kp_BadLine : PySem.W.keepIn K (.ref C_BadLine) = true)
    (s_BadLine : PySem.W.findIn K (.ref C_BadLine) "__setattr__" = some (some (.builtin "object.__setattr__"))) (ga_BadLine : PySem.W.findIn K (.ref C_BadLine) "__getattribute__" = some (some (.builtin "BaseException.__getattribute__")))
    (gg_BadLine : PySem.W.findIn K (.ref C_BadLine) "__getattr__" = some none) (cl_BadLine : PySem.W.findIn K (.ref C_BadLine) "__class__" = some (some (.builtin "object.__class__")))
    (b_AskedError : bm_AskedError = bmR)
    (b_BadUnits : bm_BadUnits = .ref C_AskedError :: bmR)
    (b_BadCount : bm_BadCount = .ref C_AskedError :: bmR)
    (b_BadShare : bm_BadShare = .ref C_AskedError :: bmR)
    (b_BadPage : bm_BadPage = .ref C_AskedError :: bmR)
    (b_NoPart : bm_NoPart = .ref C_AskedError :: bmR)
    (b_NoAbove : bm_NoAbove = .ref C_AskedError :: bmR)
    (b_BadCounts : bm_BadCounts = .ref C_AskedError :: bmR)
    (b_OtherPage : bm_OtherPage = .ref C_AskedError :: bmR)
    (b_BadTimes : bm_BadTimes = .ref C_AskedError :: bmR)
    (b_BadRows : bm_BadRows = .ref C_AskedError :: bmR)
    (b_Unlike : bm_Unlike = .ref C_AskedError :: bmR)
    (b_BadStatement : bm_BadStatement = .ref C_AskedError :: bmR)
    (b_NoTable : bm_NoTable = .ref C_AskedError :: bmR)
    (b_Empty : bm_Empty = .ref C_AskedError :: bmR)
    (b_BadTotal : bm_BadTotal = .ref C_AskedError :: bmR)
    (b_BadOffers : bm_BadOffers = .ref C_AskedError :: bmR)
    (b_BadWishes : bm_BadWishes = .ref C_AskedError :: bmR)
    (b_Contrary : bm_Contrary = .ref C_AskedError :: bmR)
    (b_NothingToUndo : bm_NothingToUndo = .ref C_AskedError :: bmR)
    (b_NothingToRedo : bm_NothingToRedo = .ref C_AskedError :: bmR)
    (b_NoTrial : bm_NoTrial = .ref C_AskedError :: bmR)
    (b_BadJournal : bm_BadJournal = .ref C_AskedError :: bmR)
    (b_BadLine : bm_BadLine = .ref C_AskedError :: bmR)
    (l_init : K.lookup f_init = some ⟨oc_init, od_init, .func (PySem.W.fnOf "__init__" "AskedError.__init__" (defArgs s_init) (defBody s_init) (defScope s_init) .none kV_init dc_init pm_init an_init cd_init ct_init), sl_init⟩) (k_init : PySem.W.codeIn K cd_init "AskedError.__init__" = true) (p_init : PySem.W.keepIn K (.ref f_init) = true) (t_init : PySem.W.typeIn K (.ref f_init) = some (.type "function"))
    (spc : PySem.W.specialIn K (.builtin "object.__class__") "__get__" = some (some (.builtin "getset_descriptor.__get__"))) (tkc : PySem.W.takesIn K (.builtin "object.__class__") = some true)
    (nA : C_AskedError ∉ [C_BadUnits, C_BadCount, C_BadShare, C_BadPage, C_NoPart, C_NoAbove, C_BadCounts, C_OtherPage, C_BadTimes, C_BadRows, C_Unlike, C_BadStatement, C_NoTable, C_Empty, C_BadTotal, C_BadOffers, C_BadWishes, C_Contrary, C_NothingToUndo, C_NothingToRedo, C_NoTrial, C_BadJournal, C_BadLine]) (nd : ([C_BadUnits, C_BadCount, C_BadShare, C_BadPage, C_NoPart, C_NoAbove, C_BadCounts, C_OtherPage, C_BadTimes, C_BadRows, C_Unlike, C_BadStatement, C_NoTable, C_Empty, C_BadTotal, C_BadOffers, C_BadWishes, C_Contrary, C_NothingToUndo, C_NothingToRedo, C_NoTrial, C_BadJournal, C_BadLine] : List Addr).Nodup)
    : ∃ fd : FuncData, (∀ (s : Shared) (v : Value), BindsTo s fd ⟨[v], []⟩ [("_law_script", v)]) ∧ ∀ base : Heap, K.In base → base.Ns mainGlobals mg → sysModules < base.objs.size → FnG l.prog w K mg base 5 fa fd ["_law_script"] (sp_law K) := by
  have e := hfa.symm.trans (PySem.W.mg_of X G a_law)
  cases e
  refine ⟨PySem.W.fnOf "law" "law" (defArgs s_law) (defBody s_law) (defScope s_law) .none kV_law dc_law pm_law an_law cd_law ct_law, fun s v => .of_eq rfl, fun base _ _ hb => ?_⟩
  have cf_AskedError : Cf K C_AskedError bmR := ⟨⟨_, _, _, _, _, _, _, _, _, _, _, _, _, _, b_AskedError ▸ x_AskedError⟩⟩
  have k_AskedError : Kls K mg f_init "AskedError" C_AskedError := ⟨PySem.W.mg_of X G a_AskedError, xcl_of cf_AskedError rfl (by simp [bmR]) (by simp [bmR]) kp_AskedError s_AskedError ga_AskedError gg_AskedError cl_AskedError spc tkc v_AskedError, i_AskedError⟩
  have cf_BadUnits : Cf K C_BadUnits (.ref C_AskedError :: bmR) := ⟨⟨_, _, _, _, _, _, _, _, _, _, _, _, _, _, b_BadUnits ▸ x_BadUnits⟩⟩
  have k_BadUnits : Kls K mg f_init "BadUnits" C_BadUnits := ⟨PySem.W.mg_of X G a_BadUnits, xcl_of cf_BadUnits rfl (by simp [bmR]) (by simp [bmR]) kp_BadUnits s_BadUnits ga_BadUnits gg_BadUnits cl_BadUnits spc tkc v_BadUnits, i_BadUnits⟩
  have cf_BadCount : Cf K C_BadCount (.ref C_AskedError :: bmR) := ⟨⟨_, _, _, _, _, _, _, _, _, _, _, _, _, _, b_BadCount ▸ x_BadCount⟩⟩
  have k_BadCount : Kls K mg f_init "BadCount" C_BadCount := ⟨PySem.W.mg_of X G a_BadCount, xcl_of cf_BadCount rfl (by simp [bmR]) (by simp [bmR]) kp_BadCount s_BadCount ga_BadCount gg_BadCount cl_BadCount spc tkc v_BadCount, i_BadCount⟩
  have cf_BadShare : Cf K C_BadShare (.ref C_AskedError :: bmR) := ⟨⟨_, _, _, _, _, _, _, _, _, _, _, _, _, _, b_BadShare ▸ x_BadShare⟩⟩
  have k_BadShare : Kls K mg f_init "BadShare" C_BadShare := ⟨PySem.W.mg_of X G a_BadShare, xcl_of cf_BadShare rfl (by simp [bmR]) (by simp [bmR]) kp_BadShare s_BadShare ga_BadShare gg_BadShare cl_BadShare spc tkc v_BadShare, i_BadShare⟩
  have cf_BadPage : Cf K C_BadPage (.ref C_AskedError :: bmR) := ⟨⟨_, _, _, _, _, _, _, _, _, _, _, _, _, _, b_BadPage ▸ x_BadPage⟩⟩
  have k_BadPage : Kls K mg f_init "BadPage" C_BadPage := ⟨PySem.W.mg_of X G a_BadPage, xcl_of cf_BadPage rfl (by simp [bmR]) (by simp [bmR]) kp_BadPage s_BadPage ga_BadPage gg_BadPage cl_BadPage spc tkc v_BadPage, i_BadPage⟩
  have cf_NoPart : Cf K C_NoPart (.ref C_AskedError :: bmR) := ⟨⟨_, _, _, _, _, _, _, _, _, _, _, _, _, _, b_NoPart ▸ x_NoPart⟩⟩
  have k_NoPart : Kls K mg f_init "NoPart" C_NoPart := ⟨PySem.W.mg_of X G a_NoPart, xcl_of cf_NoPart rfl (by simp [bmR]) (by simp [bmR]) kp_NoPart s_NoPart ga_NoPart gg_NoPart cl_NoPart spc tkc v_NoPart, i_NoPart⟩
  have cf_NoAbove : Cf K C_NoAbove (.ref C_AskedError :: bmR) := ⟨⟨_, _, _, _, _, _, _, _, _, _, _, _, _, _, b_NoAbove ▸ x_NoAbove⟩⟩
  have k_NoAbove : Kls K mg f_init "NoAbove" C_NoAbove := ⟨PySem.W.mg_of X G a_NoAbove, xcl_of cf_NoAbove rfl (by simp [bmR]) (by simp [bmR]) kp_NoAbove s_NoAbove ga_NoAbove gg_NoAbove cl_NoAbove spc tkc v_NoAbove, i_NoAbove⟩
  have cf_BadCounts : Cf K C_BadCounts (.ref C_AskedError :: bmR) := ⟨⟨_, _, _, _, _, _, _, _, _, _, _, _, _, _, b_BadCounts ▸ x_BadCounts⟩⟩
  have k_BadCounts : Kls K mg f_init "BadCounts" C_BadCounts := ⟨PySem.W.mg_of X G a_BadCounts, xcl_of cf_BadCounts rfl (by simp [bmR]) (by simp [bmR]) kp_BadCounts s_BadCounts ga_BadCounts gg_BadCounts cl_BadCounts spc tkc v_BadCounts, i_BadCounts⟩
  have cf_OtherPage : Cf K C_OtherPage (.ref C_AskedError :: bmR) := ⟨⟨_, _, _, _, _, _, _, _, _, _, _, _, _, _, b_OtherPage ▸ x_OtherPage⟩⟩
  have k_OtherPage : Kls K mg f_init "OtherPage" C_OtherPage := ⟨PySem.W.mg_of X G a_OtherPage, xcl_of cf_OtherPage rfl (by simp [bmR]) (by simp [bmR]) kp_OtherPage s_OtherPage ga_OtherPage gg_OtherPage cl_OtherPage spc tkc v_OtherPage, i_OtherPage⟩
  have cf_BadTimes : Cf K C_BadTimes (.ref C_AskedError :: bmR) := ⟨⟨_, _, _, _, _, _, _, _, _, _, _, _, _, _, b_BadTimes ▸ x_BadTimes⟩⟩
  have k_BadTimes : Kls K mg f_init "BadTimes" C_BadTimes := ⟨PySem.W.mg_of X G a_BadTimes, xcl_of cf_BadTimes rfl (by simp [bmR]) (by simp [bmR]) kp_BadTimes s_BadTimes ga_BadTimes gg_BadTimes cl_BadTimes spc tkc v_BadTimes, i_BadTimes⟩
  have cf_BadRows : Cf K C_BadRows (.ref C_AskedError :: bmR) := ⟨⟨_, _, _, _, _, _, _, _, _, _, _, _, _, _, b_BadRows ▸ x_BadRows⟩⟩
  have k_BadRows : Kls K mg f_init "BadRows" C_BadRows := ⟨PySem.W.mg_of X G a_BadRows, xcl_of cf_BadRows rfl (by simp [bmR]) (by simp [bmR]) kp_BadRows s_BadRows ga_BadRows gg_BadRows cl_BadRows spc tkc v_BadRows, i_BadRows⟩
  have cf_Unlike : Cf K C_Unlike (.ref C_AskedError :: bmR) := ⟨⟨_, _, _, _, _, _, _, _, _, _, _, _, _, _, b_Unlike ▸ x_Unlike⟩⟩
  have k_Unlike : Kls K mg f_init "Unlike" C_Unlike := ⟨PySem.W.mg_of X G a_Unlike, xcl_of cf_Unlike rfl (by simp [bmR]) (by simp [bmR]) kp_Unlike s_Unlike ga_Unlike gg_Unlike cl_Unlike spc tkc v_Unlike, i_Unlike⟩
  have cf_BadStatement : Cf K C_BadStatement (.ref C_AskedError :: bmR) := ⟨⟨_, _, _, _, _, _, _, _, _, _, _, _, _, _, b_BadStatement ▸ x_BadStatement⟩⟩
  have k_BadStatement : Kls K mg f_init "BadStatement" C_BadStatement := ⟨PySem.W.mg_of X G a_BadStatement, xcl_of cf_BadStatement rfl (by simp [bmR]) (by simp [bmR]) kp_BadStatement s_BadStatement ga_BadStatement gg_BadStatement cl_BadStatement spc tkc v_BadStatement, i_BadStatement⟩
  have cf_NoTable : Cf K C_NoTable (.ref C_AskedError :: bmR) := ⟨⟨_, _, _, _, _, _, _, _, _, _, _, _, _, _, b_NoTable ▸ x_NoTable⟩⟩
  have k_NoTable : Kls K mg f_init "NoTable" C_NoTable := ⟨PySem.W.mg_of X G a_NoTable, xcl_of cf_NoTable rfl (by simp [bmR]) (by simp [bmR]) kp_NoTable s_NoTable ga_NoTable gg_NoTable cl_NoTable spc tkc v_NoTable, i_NoTable⟩
  have cf_Empty : Cf K C_Empty (.ref C_AskedError :: bmR) := ⟨⟨_, _, _, _, _, _, _, _, _, _, _, _, _, _, b_Empty ▸ x_Empty⟩⟩
  have k_Empty : Kls K mg f_init "Empty" C_Empty := ⟨PySem.W.mg_of X G a_Empty, xcl_of cf_Empty rfl (by simp [bmR]) (by simp [bmR]) kp_Empty s_Empty ga_Empty gg_Empty cl_Empty spc tkc v_Empty, i_Empty⟩
  have cf_BadTotal : Cf K C_BadTotal (.ref C_AskedError :: bmR) := ⟨⟨_, _, _, _, _, _, _, _, _, _, _, _, _, _, b_BadTotal ▸ x_BadTotal⟩⟩
  have k_BadTotal : Kls K mg f_init "BadTotal" C_BadTotal := ⟨PySem.W.mg_of X G a_BadTotal, xcl_of cf_BadTotal rfl (by simp [bmR]) (by simp [bmR]) kp_BadTotal s_BadTotal ga_BadTotal gg_BadTotal cl_BadTotal spc tkc v_BadTotal, i_BadTotal⟩
  have cf_BadOffers : Cf K C_BadOffers (.ref C_AskedError :: bmR) := ⟨⟨_, _, _, _, _, _, _, _, _, _, _, _, _, _, b_BadOffers ▸ x_BadOffers⟩⟩
  have k_BadOffers : Kls K mg f_init "BadOffers" C_BadOffers := ⟨PySem.W.mg_of X G a_BadOffers, xcl_of cf_BadOffers rfl (by simp [bmR]) (by simp [bmR]) kp_BadOffers s_BadOffers ga_BadOffers gg_BadOffers cl_BadOffers spc tkc v_BadOffers, i_BadOffers⟩
  have cf_BadWishes : Cf K C_BadWishes (.ref C_AskedError :: bmR) := ⟨⟨_, _, _, _, _, _, _, _, _, _, _, _, _, _, b_BadWishes ▸ x_BadWishes⟩⟩
  have k_BadWishes : Kls K mg f_init "BadWishes" C_BadWishes := ⟨PySem.W.mg_of X G a_BadWishes, xcl_of cf_BadWishes rfl (by simp [bmR]) (by simp [bmR]) kp_BadWishes s_BadWishes ga_BadWishes gg_BadWishes cl_BadWishes spc tkc v_BadWishes, i_BadWishes⟩
  have cf_Contrary : Cf K C_Contrary (.ref C_AskedError :: bmR) := ⟨⟨_, _, _, _, _, _, _, _, _, _, _, _, _, _, b_Contrary ▸ x_Contrary⟩⟩
  have k_Contrary : Kls K mg f_init "Contrary" C_Contrary := ⟨PySem.W.mg_of X G a_Contrary, xcl_of cf_Contrary rfl (by simp [bmR]) (by simp [bmR]) kp_Contrary s_Contrary ga_Contrary gg_Contrary cl_Contrary spc tkc v_Contrary, i_Contrary⟩
  have cf_NothingToUndo : Cf K C_NothingToUndo (.ref C_AskedError :: bmR) := ⟨⟨_, _, _, _, _, _, _, _, _, _, _, _, _, _, b_NothingToUndo ▸ x_NothingToUndo⟩⟩
  have k_NothingToUndo : Kls K mg f_init "NothingToUndo" C_NothingToUndo := ⟨PySem.W.mg_of X G a_NothingToUndo, xcl_of cf_NothingToUndo rfl (by simp [bmR]) (by simp [bmR]) kp_NothingToUndo s_NothingToUndo ga_NothingToUndo gg_NothingToUndo cl_NothingToUndo spc tkc v_NothingToUndo, i_NothingToUndo⟩
  have cf_NothingToRedo : Cf K C_NothingToRedo (.ref C_AskedError :: bmR) := ⟨⟨_, _, _, _, _, _, _, _, _, _, _, _, _, _, b_NothingToRedo ▸ x_NothingToRedo⟩⟩
  have k_NothingToRedo : Kls K mg f_init "NothingToRedo" C_NothingToRedo := ⟨PySem.W.mg_of X G a_NothingToRedo, xcl_of cf_NothingToRedo rfl (by simp [bmR]) (by simp [bmR]) kp_NothingToRedo s_NothingToRedo ga_NothingToRedo gg_NothingToRedo cl_NothingToRedo spc tkc v_NothingToRedo, i_NothingToRedo⟩
  have cf_NoTrial : Cf K C_NoTrial (.ref C_AskedError :: bmR) := ⟨⟨_, _, _, _, _, _, _, _, _, _, _, _, _, _, b_NoTrial ▸ x_NoTrial⟩⟩
  have k_NoTrial : Kls K mg f_init "NoTrial" C_NoTrial := ⟨PySem.W.mg_of X G a_NoTrial, xcl_of cf_NoTrial rfl (by simp [bmR]) (by simp [bmR]) kp_NoTrial s_NoTrial ga_NoTrial gg_NoTrial cl_NoTrial spc tkc v_NoTrial, i_NoTrial⟩
  have cf_BadJournal : Cf K C_BadJournal (.ref C_AskedError :: bmR) := ⟨⟨_, _, _, _, _, _, _, _, _, _, _, _, _, _, b_BadJournal ▸ x_BadJournal⟩⟩
  have k_BadJournal : Kls K mg f_init "BadJournal" C_BadJournal := ⟨PySem.W.mg_of X G a_BadJournal, xcl_of cf_BadJournal rfl (by simp [bmR]) (by simp [bmR]) kp_BadJournal s_BadJournal ga_BadJournal gg_BadJournal cl_BadJournal spc tkc v_BadJournal, i_BadJournal⟩
  have cf_BadLine : Cf K C_BadLine (.ref C_AskedError :: bmR) := ⟨⟨_, _, _, _, _, _, _, _, _, _, _, _, _, _, b_BadLine ▸ x_BadLine⟩⟩
  have k_BadLine : Kls K mg f_init "BadLine" C_BadLine := ⟨PySem.W.mg_of X G a_BadLine, xcl_of cf_BadLine rfl (by simp [bmR]) (by simp [bmR]) kp_BadLine s_BadLine ga_BadLine gg_BadLine cl_BadLine spc tkc v_BadLine, i_BadLine⟩
  have F_init := fun_mk (st := s_init) l_init k_init p_init
  let ci : Ini l.prog w K mg base f_init := ⟨_, ok_init F_init, t_init, F_init.binds (ps := ["self", "value"]) (fun _ _ _ _ _ _ us hl => match us, hl with | [_, _], _ => rfl)⟩
  have fam : Fam K [C_BadUnits, C_BadCount, C_BadShare, C_BadPage, C_NoPart, C_NoAbove, C_BadCounts, C_OtherPage, C_BadTimes, C_BadRows, C_Unlike, C_BadStatement, C_NoTable, C_Empty, C_BadTotal, C_BadOffers, C_BadWishes, C_Contrary, C_NothingToUndo, C_NothingToRedo, C_NoTrial, C_BadJournal, C_BadLine] C_AskedError := fam_of (by simp [k_BadUnits.X, k_BadCount.X, k_BadShare.X, k_BadPage.X, k_NoPart.X, k_NoAbove.X, k_BadCounts.X, k_OtherPage.X, k_BadTimes.X, k_BadRows.X, k_Unlike.X, k_BadStatement.X, k_NoTable.X, k_Empty.X, k_BadTotal.X, k_BadOffers.X, k_BadWishes.X, k_Contrary.X, k_NothingToUndo.X, k_NothingToRedo.X, k_NoTrial.X, k_BadJournal.X, k_BadLine.X]) (by simp [cf_BadUnits, cf_BadCount, cf_BadShare, cf_BadPage, cf_NoPart, cf_NoAbove, cf_BadCounts, cf_OtherPage, cf_BadTimes, cf_BadRows, cf_Unlike, cf_BadStatement, cf_NoTable, cf_Empty, cf_BadTotal, cf_BadOffers, cf_BadWishes, cf_Contrary, cf_NothingToUndo, cf_NothingToRedo, cf_NoTrial, cf_BadJournal, cf_BadLine]) cf_AskedError nA nd rfl
  have m_len : mg "len" = none := PySem.W.mg_none_of X G z_len
  have m_int : mg "int" = none := PySem.W.mg_none_of X G z_int
  have m_abs : mg "abs" = none := PySem.W.mg_none_of X G z_abs
  have m_range : mg "range" = none := PySem.W.mg_none_of X G z_range
  have m_max : mg "max" = none := PySem.W.mg_none_of X G z_max
  have m_min : mg "min" = none := PySem.W.mg_none_of X G z_min
  have m_list : mg "list" = none := PySem.W.mg_none_of X G z_list
  have m_isinstance : mg "isinstance" = none := PySem.W.mg_none_of X G z_isinstance
  have m_enumerate : mg "enumerate" = none := PySem.W.mg_none_of X G z_enumerate
  have m_repr : mg "repr" = none := PySem.W.mg_none_of X G z_repr
  have m_ValueError : mg "ValueError" = none := PySem.W.mg_none_of X G z_ValueError
  have m_any : mg "any" = none := PySem.W.mg_none_of X G z_any
  have m_all : mg "all" = none := PySem.W.mg_none_of X G z_all
  have F_law_pot := fun_mk (st := s_law_pot) l_law_pot k_law_pot p_law_pot
  let c_law_pot : Cal l.prog w K mg base 1 "_law_pot" ["_law_script", "_law_place"] (sp_law_pot K) := ⟨f_law_pot, _, ok_law_pot F_law_pot (m_len := m_len) (m_int := m_int) (m_abs := m_abs)  , p_law_pot, F_law_pot.binds (ps := ["_law_script", "_law_place"]) (fun _ _ _ _ _ _ us hl => match us, hl with | [_, _], _ => rfl), PySem.W.mg_of X G a_law_pot⟩
  have F_law_take := fun_mk (st := s_law_take) l_law_take k_law_take p_law_take
  let c_law_take : Cal l.prog w K mg base 1 "_law_take" ["_law_pot_here", "_law_upto"] (sp_law_take K) := ⟨f_law_take, _, ok_law_take F_law_take (m_int := m_int)  , p_law_take, F_law_take.binds (ps := ["_law_pot_here", "_law_upto"]) (fun _ _ _ _ _ _ us hl => match us, hl with | [_, _], _ => rfl), PySem.W.mg_of X G a_law_take⟩
  have F_law_cells := fun_mk (st := s_law_cells) l_law_cells k_law_cells p_law_cells
  let c_law_cells : Cal l.prog w K mg base 1 "_law_cells" ["_law_script", "_law_most"] (sp_law_cells K) := ⟨f_law_cells, _, ok_law_cells F_law_cells (m_range := m_range) (m_max := m_max) (m_min := m_min) (m_len := m_len) (m_list := m_list)  , p_law_cells, F_law_cells.binds (ps := ["_law_script", "_law_most"]) (fun _ _ _ _ _ _ us hl => match us, hl with | [_, _], _ => rfl), PySem.W.mg_of X G a_law_cells⟩
  have F_law_created := fun_mk (st := s_law_created) l_law_created k_law_created p_law_created
  let c_law_created : Cal l.prog w K mg base 3 "_law_created" ["_law_value"] (sp_law_created K [C_BadUnits, C_BadCount, C_BadShare, C_BadPage, C_NoPart, C_NoAbove, C_BadCounts, C_OtherPage, C_BadTimes, C_BadRows, C_Unlike, C_BadStatement, C_NoTable, C_Empty, C_BadTotal, C_BadOffers, C_BadWishes, C_Contrary, C_NothingToUndo, C_NothingToRedo, C_NoTrial, C_BadJournal, C_BadLine]) := ⟨f_law_created, _, ok_law_created F_law_created ci k_BadUnits k_BadCount k_BadShare k_BadPage k_NoPart k_NoAbove k_BadCounts k_OtherPage k_BadTimes k_BadRows k_Unlike k_BadStatement k_NoTable k_Empty k_BadTotal k_BadOffers k_BadWishes k_Contrary k_NothingToUndo k_NothingToRedo k_NoTrial k_BadJournal k_BadLine   , p_law_created, F_law_created.binds (ps := ["_law_value"]) (fun _ _ _ _ _ _ us hl => match us, hl with | [_], _ => rfl), PySem.W.mg_of X G a_law_created⟩
  have F_law_kinds := fun_mk (st := s_law_kinds) l_law_kinds k_law_kinds p_law_kinds
  let c_law_kinds : Cal l.prog w K mg base 1 "_law_kinds" ["_law_one"] (sp_law_kinds K [C_BadUnits, C_BadCount, C_BadShare, C_BadPage, C_NoPart, C_NoAbove, C_BadCounts, C_OtherPage, C_BadTimes, C_BadRows, C_Unlike, C_BadStatement, C_NoTable, C_Empty, C_BadTotal, C_BadOffers, C_BadWishes, C_Contrary, C_NothingToUndo, C_NothingToRedo, C_NoTrial, C_BadJournal, C_BadLine]) := ⟨f_law_kinds, _, ok_law_kinds F_law_kinds k_BadUnits.g k_BadCount.g k_BadShare.g k_BadPage.g k_NoPart.g k_NoAbove.g k_BadCounts.g k_OtherPage.g k_BadTimes.g k_BadRows.g k_Unlike.g k_BadStatement.g k_NoTable.g k_Empty.g k_BadTotal.g k_BadOffers.g k_BadWishes.g k_Contrary.g k_NothingToUndo.g k_NothingToRedo.g k_NoTrial.g k_BadJournal.g k_BadLine.g (m_isinstance := m_isinstance)  , p_law_kinds, F_law_kinds.binds (ps := ["_law_one"]) (fun _ _ _ _ _ _ us hl => match us, hl with | [_], _ => rfl), PySem.W.mg_of X G a_law_kinds⟩
  have F_law_of := fun_mk (st := s_law_of) l_law_of k_law_of p_law_of
  let c_law_of : Cal l.prog w K mg base 2 "_law_of" ["_law_pot_here", "_law_some"] (sp_law_of K) := ⟨f_law_of, _, ok_law_of F_law_of (m_len := m_len) (c_law_take := c_law_take) , p_law_of, F_law_of.binds (ps := ["_law_pot_here", "_law_some"]) (fun _ _ _ _ _ _ us hl => match us, hl with | [_, _], _ => rfl), PySem.W.mg_of X G a_law_of⟩
  have F_law_odd := fun_mk (st := s_law_odd) l_law_odd k_law_odd p_law_odd
  let c_law_odd : Cal l.prog w K mg base 3 "_law_odd" ["_law_pot_here"] (sp_law_odd K) := ⟨f_law_odd, _, ok_law_odd F_law_odd hb  (c_law_of := c_law_of) , p_law_odd, F_law_odd.binds (ps := ["_law_pot_here"]) (fun _ _ _ _ _ _ us hl => match us, hl with | [_], _ => rfl), PySem.W.mg_of X G a_law_odd⟩
  have F_law_right := fun_mk (st := s_law_right) l_law_right k_law_right p_law_right
  let c_law_right : CalG l.prog w K mg base 4 "_law_right" ["_law_pot_here"] (sp_law_right K) := ⟨f_law_right, _, ok_law_right F_law_right hb ci k_AskedError fam (m_enumerate := m_enumerate) (m_range := m_range) (m_repr := m_repr) (m_isinstance := m_isinstance) (m_ValueError := m_ValueError) (m_any := m_any) (c_law_odd := c_law_odd) (c_law_of := c_law_of) (c_law_created := c_law_created) (c_law_kinds := c_law_kinds) , p_law_right, F_law_right.binds (ps := ["_law_pot_here"]) (fun _ _ _ _ _ _ us hl => match us, hl with | [_], _ => rfl), PySem.W.mg_of X G a_law_right⟩
  have F_law := fun_mk (st := s_law) l_law k_law p_law
  exact ok_law F_law (m_all := m_all) (c_law_cells := c_law_cells) (c_law_right := c_law_right) (c_law_pot := c_law_pot) 
end Uq
open PySem PySem.W PyProof.Rows
set_option maxHeartbeats 0 in
theorem PySem.Challenge.cw_anyasked_k00_errors_and_what_they_keep_holds : PySem.Challenge.rw_anyasked_k00_errors_and_what_they_keep.Holds := by
  w_on; o_law; k_head; (case hw => w_witness2)
  k_fill
  refine Uq.walk_ofB (l := PySem.Challenge.rw_anyasked_k00_errors_and_what_they_keep) (n := 63) (k := 5) (x := "_law_script") (sp := fun w => Uq.sp_law _) rfl (by decide) rfl ⟨rfl, by decide, by decide⟩ (fun w h Y => PySem.W.kIn_of Y) ?F (fun _ _ a ns hl hS => ⟨a, ns, rfl, hS, hl, fun _ => rfl⟩)
  case F =>
    intro w mg fa h KX G hmg
    refine' Uq.all_mk KX G hmg (a_law_pot := ?q_a_law_pot) (l_law_pot := ?q_l_law_pot) (k_law_pot := ?q_k_law_pot) (p_law_pot := ?q_p_law_pot) (a_law_take := ?q_a_law_take) (l_law_take := ?q_l_law_take) (k_law_take := ?q_k_law_take) (p_law_take := ?q_p_law_take) (a_law_cells := ?q_a_law_cells) (l_law_cells := ?q_l_law_cells) (k_law_cells := ?q_k_law_cells) (p_law_cells := ?q_p_law_cells) (a_law_created := ?q_a_law_created) (l_law_created := ?q_l_law_created) (k_law_created := ?q_k_law_created) (p_law_created := ?q_p_law_created) (a_law_kinds := ?q_a_law_kinds) (l_law_kinds := ?q_l_law_kinds) (k_law_kinds := ?q_k_law_kinds) (p_law_kinds := ?q_p_law_kinds) (a_law_of := ?q_a_law_of) (l_law_of := ?q_l_law_of) (k_law_of := ?q_k_law_of) (p_law_of := ?q_p_law_of) (a_law_odd := ?q_a_law_odd) (l_law_odd := ?q_l_law_odd) (k_law_odd := ?q_k_law_odd) (p_law_odd := ?q_p_law_odd) (a_law_right := ?q_a_law_right) (l_law_right := ?q_l_law_right) (k_law_right := ?q_k_law_right) (p_law_right := ?q_p_law_right) (a_law := ?q_a_law) (l_law := ?q_l_law) (k_law := ?q_k_law) (p_law := ?q_p_law) (z_len := ?q_z_len) (z_int := ?q_z_int) (z_abs := ?q_z_abs) (z_range := ?q_z_range) (z_max := ?q_z_max) (z_min := ?q_z_min) (z_list := ?q_z_list) (z_isinstance := ?q_z_isinstance) (z_enumerate := ?q_z_enumerate) (z_repr := ?q_z_repr) (z_ValueError := ?q_z_ValueError) (z_any := ?q_z_any) (z_all := ?q_z_all)  (a_AskedError := ?q_a_AskedError) (x_AskedError := ?q_x_AskedError) (i_AskedError := ?q_i_AskedError) (v_AskedError := ?q_v_AskedError) (kp_AskedError := ?q_kp_AskedError) (s_AskedError := ?q_s_AskedError) (ga_AskedError := ?q_ga_AskedError) (gg_AskedError := ?q_gg_AskedError) (cl_AskedError := ?q_cl_AskedError) (a_BadUnits := ?q_a_BadUnits) (x_BadUnits := ?q_x_BadUnits) (i_BadUnits := ?q_i_BadUnits) (v_BadUnits := ?q_v_BadUnits) (kp_BadUnits := ?q_kp_BadUnits) (s_BadUnits := ?q_s_BadUnits) (ga_BadUnits := ?q_ga_BadUnits) (gg_BadUnits := ?q_gg_BadUnits) (cl_BadUnits := ?q_cl_BadUnits) (a_BadCount := ?q_a_BadCount) (x_BadCount := ?q_x_BadCount) (i_BadCount := ?q_i_BadCount) (v_BadCount := ?q_v_BadCount) (kp_BadCount := ?q_kp_BadCount) (s_BadCount := ?q_s_BadCount) (ga_BadCount := ?q_ga_BadCount) (gg_BadCount := ?q_gg_BadCount) (cl_BadCount := ?q_cl_BadCount) (a_BadShare := ?q_a_BadShare) (x_BadShare := ?q_x_BadShare) (i_BadShare := ?q_i_BadShare) (v_BadShare := ?q_v_BadShare) (kp_BadShare := ?q_kp_BadShare) (s_BadShare := ?q_s_BadShare) (ga_BadShare := ?q_ga_BadShare) (gg_BadShare := ?q_gg_BadShare) (cl_BadShare := ?q_cl_BadShare) (a_BadPage := ?q_a_BadPage) (x_BadPage := ?q_x_BadPage) (i_BadPage := ?q_i_BadPage) (v_BadPage := ?q_v_BadPage) (kp_BadPage := ?q_kp_BadPage) (s_BadPage := ?q_s_BadPage) (ga_BadPage := ?q_ga_BadPage) (gg_BadPage := ?q_gg_BadPage) (cl_BadPage := ?q_cl_BadPage) (a_NoPart := ?q_a_NoPart) (x_NoPart := ?q_x_NoPart) (i_NoPart := ?q_i_NoPart) (v_NoPart := ?q_v_NoPart) (kp_NoPart := ?q_kp_NoPart) (s_NoPart := ?q_s_NoPart) (ga_NoPart := ?q_ga_NoPart) (gg_NoPart := ?q_gg_NoPart) (cl_NoPart := ?q_cl_NoPart) (a_NoAbove := ?q_a_NoAbove) (x_NoAbove := ?q_x_NoAbove) (i_NoAbove := ?q_i_NoAbove) (v_NoAbove := ?q_v_NoAbove) (kp_NoAbove := ?q_kp_NoAbove) (s_NoAbove := ?q_s_NoAbove) (ga_NoAbove := ?q_ga_NoAbove) (gg_NoAbove := ?q_gg_NoAbove) (cl_NoAbove := ?q_cl_NoAbove) (a_BadCounts := ?q_a_BadCounts) (x_BadCounts := ?q_x_BadCounts) (i_BadCounts := ?q_i_BadCounts) (v_BadCounts := ?q_v_BadCounts) (kp_BadCounts := ?q_kp_BadCounts) (s_BadCounts := ?q_s_BadCounts) (ga_BadCounts := ?q_ga_BadCounts) (gg_BadCounts := ?q_gg_BadCounts) (cl_BadCounts := ?q_cl_BadCounts) (a_OtherPage := ?q_a_OtherPage) (x_OtherPage := ?q_x_OtherPage) (i_OtherPage := ?q_i_OtherPage) (v_OtherPage := ?q_v_OtherPage) (kp_OtherPage := ?q_kp_OtherPage) (s_OtherPage := ?q_s_OtherPage) (ga_OtherPage := ?q_ga_OtherPage) (gg_OtherPage := ?q_gg_OtherPage) (cl_OtherPage := ?q_cl_OtherPage) (a_BadTimes := ?q_a_BadTimes) (x_BadTimes := ?q_x_BadTimes) (i_BadTimes := ?q_i_BadTimes) (v_BadTimes := ?q_v_BadTimes) (kp_BadTimes := ?q_kp_BadTimes) (s_BadTimes := ?q_s_BadTimes) (ga_BadTimes := ?q_ga_BadTimes) (gg_BadTimes := ?q_gg_BadTimes) (cl_BadTimes := ?q_cl_BadTimes) (a_BadRows := ?q_a_BadRows) (x_BadRows := ?q_x_BadRows) (i_BadRows := ?q_i_BadRows) (v_BadRows := ?q_v_BadRows) (kp_BadRows := ?q_kp_BadRows) (s_BadRows := ?q_s_BadRows) (ga_BadRows := ?q_ga_BadRows) (gg_BadRows := ?q_gg_BadRows) (cl_BadRows := ?q_cl_BadRows) (a_Unlike := ?q_a_Unlike) (x_Unlike := ?q_x_Unlike) (i_Unlike := ?q_i_Unlike) (v_Unlike := ?q_v_Unlike) (kp_Unlike := ?q_kp_Unlike) (s_Unlike := ?q_s_Unlike) (ga_Unlike := ?q_ga_Unlike) (gg_Unlike := ?q_gg_Unlike) (cl_Unlike := ?q_cl_Unlike) (a_BadStatement := ?q_a_BadStatement) (x_BadStatement := ?q_x_BadStatement) (i_BadStatement := ?q_i_BadStatement) (v_BadStatement := ?q_v_BadStatement) (kp_BadStatement := ?q_kp_BadStatement) (s_BadStatement := ?q_s_BadStatement) (ga_BadStatement := ?q_ga_BadStatement) (gg_BadStatement := ?q_gg_BadStatement) (cl_BadStatement := ?q_cl_BadStatement) (a_NoTable := ?q_a_NoTable) (x_NoTable := ?q_x_NoTable) (i_NoTable := ?q_i_NoTable) (v_NoTable := ?q_v_NoTable) (kp_NoTable := ?q_kp_NoTable) (s_NoTable := ?q_s_NoTable) (ga_NoTable := ?q_ga_NoTable) (gg_NoTable := ?q_gg_NoTable) (cl_NoTable := ?q_cl_NoTable) (a_Empty := ?q_a_Empty) (x_Empty := ?q_x_Empty) (i_Empty := ?q_i_Empty) (v_Empty := ?q_v_Empty) (kp_Empty := ?q_kp_Empty) (s_Empty := ?q_s_Empty) (ga_Empty := ?q_ga_Empty) (gg_Empty := ?q_gg_Empty) (cl_Empty := ?q_cl_Empty) (a_BadTotal := ?q_a_BadTotal) (x_BadTotal := ?q_x_BadTotal) (i_BadTotal := ?q_i_BadTotal) (v_BadTotal := ?q_v_BadTotal) (kp_BadTotal := ?q_kp_BadTotal) (s_BadTotal := ?q_s_BadTotal) (ga_BadTotal := ?q_ga_BadTotal) (gg_BadTotal := ?q_gg_BadTotal) (cl_BadTotal := ?q_cl_BadTotal) (a_BadOffers := ?q_a_BadOffers) (x_BadOffers := ?q_x_BadOffers) (i_BadOffers := ?q_i_BadOffers) (v_BadOffers := ?q_v_BadOffers) (kp_BadOffers := ?q_kp_BadOffers) (s_BadOffers := ?q_s_BadOffers) (ga_BadOffers := ?q_ga_BadOffers) (gg_BadOffers := ?q_gg_BadOffers) (cl_BadOffers := ?q_cl_BadOffers) (a_BadWishes := ?q_a_BadWishes) (x_BadWishes := ?q_x_BadWishes) (i_BadWishes := ?q_i_BadWishes) (v_BadWishes := ?q_v_BadWishes) (kp_BadWishes := ?q_kp_BadWishes) (s_BadWishes := ?q_s_BadWishes) (ga_BadWishes := ?q_ga_BadWishes) (gg_BadWishes := ?q_gg_BadWishes) (cl_BadWishes := ?q_cl_BadWishes) (a_Contrary := ?q_a_Contrary) (x_Contrary := ?q_x_Contrary) (i_Contrary := ?q_i_Contrary) (v_Contrary := ?q_v_Contrary) (kp_Contrary := ?q_kp_Contrary) (s_Contrary := ?q_s_Contrary) (ga_Contrary := ?q_ga_Contrary) (gg_Contrary := ?q_gg_Contrary) (cl_Contrary := ?q_cl_Contrary) (a_NothingToUndo := ?q_a_NothingToUndo) (x_NothingToUndo := ?q_x_NothingToUndo) (i_NothingToUndo := ?q_i_NothingToUndo) (v_NothingToUndo := ?q_v_NothingToUndo) (kp_NothingToUndo := ?q_kp_NothingToUndo) (s_NothingToUndo := ?q_s_NothingToUndo) (ga_NothingToUndo := ?q_ga_NothingToUndo) (gg_NothingToUndo := ?q_gg_NothingToUndo) (cl_NothingToUndo := ?q_cl_NothingToUndo) (a_NothingToRedo := ?q_a_NothingToRedo) (x_NothingToRedo := ?q_x_NothingToRedo) (i_NothingToRedo := ?q_i_NothingToRedo) (v_NothingToRedo := ?q_v_NothingToRedo) (kp_NothingToRedo := ?q_kp_NothingToRedo) (s_NothingToRedo := ?q_s_NothingToRedo) (ga_NothingToRedo := ?q_ga_NothingToRedo) (gg_NothingToRedo := ?q_gg_NothingToRedo) (cl_NothingToRedo := ?q_cl_NothingToRedo) (a_NoTrial := ?q_a_NoTrial) (x_NoTrial := ?q_x_NoTrial) (i_NoTrial := ?q_i_NoTrial) (v_NoTrial := ?q_v_NoTrial) (kp_NoTrial := ?q_kp_NoTrial) (s_NoTrial := ?q_s_NoTrial) (ga_NoTrial := ?q_ga_NoTrial) (gg_NoTrial := ?q_gg_NoTrial) (cl_NoTrial := ?q_cl_NoTrial) (a_BadJournal := ?q_a_BadJournal) (x_BadJournal := ?q_x_BadJournal) (i_BadJournal := ?q_i_BadJournal) (v_BadJournal := ?q_v_BadJournal) (kp_BadJournal := ?q_kp_BadJournal) (s_BadJournal := ?q_s_BadJournal) (ga_BadJournal := ?q_ga_BadJournal) (gg_BadJournal := ?q_gg_BadJournal) (cl_BadJournal := ?q_cl_BadJournal) (a_BadLine := ?q_a_BadLine) (x_BadLine := ?q_x_BadLine) (i_BadLine := ?q_i_BadLine) (v_BadLine := ?q_v_BadLine) (kp_BadLine := ?q_kp_BadLine) (s_BadLine := ?q_s_BadLine) (ga_BadLine := ?q_ga_BadLine) (gg_BadLine := ?q_gg_BadLine) (cl_BadLine := ?q_cl_BadLine) (l_init := ?q_l_init) (k_init := ?q_k_init) (p_init := ?q_p_init) (t_init := ?q_t_init) (spc := ?q_spc) (tkc := ?q_tkc) (b_AskedError := ?q_b_AskedError) (b_BadUnits := ?q_b_BadUnits) (b_BadCount := ?q_b_BadCount) (b_BadShare := ?q_b_BadShare) (b_BadPage := ?q_b_BadPage) (b_NoPart := ?q_b_NoPart) (b_NoAbove := ?q_b_NoAbove) (b_BadCounts := ?q_b_BadCounts) (b_OtherPage := ?q_b_OtherPage) (b_BadTimes := ?q_b_BadTimes) (b_BadRows := ?q_b_BadRows) (b_Unlike := ?q_b_Unlike) (b_BadStatement := ?q_b_BadStatement) (b_NoTable := ?q_b_NoTable) (b_Empty := ?q_b_Empty) (b_BadTotal := ?q_b_BadTotal) (b_BadOffers := ?q_b_BadOffers) (b_BadWishes := ?q_b_BadWishes) (b_Contrary := ?q_b_Contrary) (b_NothingToUndo := ?q_b_NothingToUndo) (b_NothingToRedo := ?q_b_NothingToRedo) (b_NoTrial := ?q_b_NoTrial) (b_BadJournal := ?q_b_BadJournal) (b_BadLine := ?q_b_BadLine) (nA := ?q_nA) (nd := ?q_nd)
    (case q_a_law_pot => k_is)
    (case q_l_law_pot => k_is)
    (case q_k_law_pot => k_is)
    (case q_p_law_pot => k_is)
    (case q_a_law_take => k_is)
    (case q_l_law_take => k_is)
    (case q_k_law_take => k_is)
    (case q_p_law_take => k_is)
    (case q_a_law_cells => k_is)
    (case q_l_law_cells => k_is)
    (case q_k_law_cells => k_is)
    (case q_p_law_cells => k_is)
    (case q_a_law_created => k_is)
    (case q_l_law_created => k_is)
    (case q_k_law_created => k_is)
    (case q_p_law_created => k_is)
    (case q_a_law_kinds => k_is)
    (case q_l_law_kinds => k_is)
    (case q_k_law_kinds => k_is)
    (case q_p_law_kinds => k_is)
    (case q_a_law_of => k_is)
    (case q_l_law_of => k_is)
    (case q_k_law_of => k_is)
    (case q_p_law_of => k_is)
    (case q_a_law_odd => k_is)
    (case q_l_law_odd => k_is)
    (case q_k_law_odd => k_is)
    (case q_p_law_odd => k_is)
    (case q_a_law_right => k_is)
    (case q_l_law_right => k_is)
    (case q_k_law_right => k_is)
    (case q_p_law_right => k_is)
    (case q_a_law => k_is)
    (case q_l_law => k_is)
    (case q_k_law => k_is)
    (case q_p_law => k_is)
    (case q_z_len => k_is)
    (case q_z_int => k_is)
    (case q_z_abs => k_is)
    (case q_z_range => k_is)
    (case q_z_max => k_is)
    (case q_z_min => k_is)
    (case q_z_list => k_is)
    (case q_z_isinstance => k_is)
    (case q_z_enumerate => k_is)
    (case q_z_repr => k_is)
    (case q_z_ValueError => k_is)
    (case q_z_any => k_is)
    (case q_z_all => k_is)
    (case q_a_AskedError => k_is)
    (case q_x_AskedError => k_is)
    (case q_i_AskedError => k_is)
    (case q_v_AskedError => k_is)
    (case q_kp_AskedError => k_is)
    (case q_s_AskedError => k_is)
    (case q_ga_AskedError => k_is)
    (case q_gg_AskedError => k_is)
    (case q_cl_AskedError => k_is)
    (case q_a_BadUnits => k_is)
    (case q_x_BadUnits => k_is)
    (case q_i_BadUnits => k_is)
    (case q_v_BadUnits => k_is)
    (case q_kp_BadUnits => k_is)
    (case q_s_BadUnits => k_is)
    (case q_ga_BadUnits => k_is)
    (case q_gg_BadUnits => k_is)
    (case q_cl_BadUnits => k_is)
    (case q_a_BadCount => k_is)
    (case q_x_BadCount => k_is)
    (case q_i_BadCount => k_is)
    (case q_v_BadCount => k_is)
    (case q_kp_BadCount => k_is)
    (case q_s_BadCount => k_is)
    (case q_ga_BadCount => k_is)
    (case q_gg_BadCount => k_is)
    (case q_cl_BadCount => k_is)
    (case q_a_BadShare => k_is)
    (case q_x_BadShare => k_is)
    (case q_i_BadShare => k_is)
    (case q_v_BadShare => k_is)
    (case q_kp_BadShare => k_is)
    (case q_s_BadShare => k_is)
    (case q_ga_BadShare => k_is)
    (case q_gg_BadShare => k_is)
    (case q_cl_BadShare => k_is)
    (case q_a_BadPage => k_is)
    (case q_x_BadPage => k_is)
    (case q_i_BadPage => k_is)
    (case q_v_BadPage => k_is)
    (case q_kp_BadPage => k_is)
    (case q_s_BadPage => k_is)
    (case q_ga_BadPage => k_is)
    (case q_gg_BadPage => k_is)
    (case q_cl_BadPage => k_is)
    (case q_a_NoPart => k_is)
    (case q_x_NoPart => k_is)
    (case q_i_NoPart => k_is)
    (case q_v_NoPart => k_is)
    (case q_kp_NoPart => k_is)
    (case q_s_NoPart => k_is)
    (case q_ga_NoPart => k_is)
    (case q_gg_NoPart => k_is)
    (case q_cl_NoPart => k_is)
    (case q_a_NoAbove => k_is)
    (case q_x_NoAbove => k_is)
    (case q_i_NoAbove => k_is)
    (case q_v_NoAbove => k_is)
    (case q_kp_NoAbove => k_is)
    (case q_s_NoAbove => k_is)
    (case q_ga_NoAbove => k_is)
    (case q_gg_NoAbove => k_is)
    (case q_cl_NoAbove => k_is)
    (case q_a_BadCounts => k_is)
    (case q_x_BadCounts => k_is)
    (case q_i_BadCounts => k_is)
    (case q_v_BadCounts => k_is)
    (case q_kp_BadCounts => k_is)
    (case q_s_BadCounts => k_is)
    (case q_ga_BadCounts => k_is)
    (case q_gg_BadCounts => k_is)
    (case q_cl_BadCounts => k_is)
    (case q_a_OtherPage => k_is)
    (case q_x_OtherPage => k_is)
    (case q_i_OtherPage => k_is)
    (case q_v_OtherPage => k_is)
    (case q_kp_OtherPage => k_is)
    (case q_s_OtherPage => k_is)
    (case q_ga_OtherPage => k_is)
    (case q_gg_OtherPage => k_is)
    (case q_cl_OtherPage => k_is)
    (case q_a_BadTimes => k_is)
    (case q_x_BadTimes => k_is)
    (case q_i_BadTimes => k_is)
    (case q_v_BadTimes => k_is)
    (case q_kp_BadTimes => k_is)
    (case q_s_BadTimes => k_is)
    (case q_ga_BadTimes => k_is)
    (case q_gg_BadTimes => k_is)
    (case q_cl_BadTimes => k_is)
    (case q_a_BadRows => k_is)
    (case q_x_BadRows => k_is)
    (case q_i_BadRows => k_is)
    (case q_v_BadRows => k_is)
    (case q_kp_BadRows => k_is)
    (case q_s_BadRows => k_is)
    (case q_ga_BadRows => k_is)
    (case q_gg_BadRows => k_is)
    (case q_cl_BadRows => k_is)
    (case q_a_Unlike => k_is)
    (case q_x_Unlike => k_is)
    (case q_i_Unlike => k_is)
    (case q_v_Unlike => k_is)
    (case q_kp_Unlike => k_is)
    (case q_s_Unlike => k_is)
    (case q_ga_Unlike => k_is)
    (case q_gg_Unlike => k_is)
    (case q_cl_Unlike => k_is)
    (case q_a_BadStatement => k_is)
    (case q_x_BadStatement => k_is)
    (case q_i_BadStatement => k_is)
    (case q_v_BadStatement => k_is)
    (case q_kp_BadStatement => k_is)
    (case q_s_BadStatement => k_is)
    (case q_ga_BadStatement => k_is)
    (case q_gg_BadStatement => k_is)
    (case q_cl_BadStatement => k_is)
    (case q_a_NoTable => k_is)
    (case q_x_NoTable => k_is)
    (case q_i_NoTable => k_is)
    (case q_v_NoTable => k_is)
    (case q_kp_NoTable => k_is)
    (case q_s_NoTable => k_is)
    (case q_ga_NoTable => k_is)
    (case q_gg_NoTable => k_is)
    (case q_cl_NoTable => k_is)
    (case q_a_Empty => k_is)
    (case q_x_Empty => k_is)
    (case q_i_Empty => k_is)
    (case q_v_Empty => k_is)
    (case q_kp_Empty => k_is)
    (case q_s_Empty => k_is)
    (case q_ga_Empty => k_is)
    (case q_gg_Empty => k_is)
    (case q_cl_Empty => k_is)
    (case q_a_BadTotal => k_is)
    (case q_x_BadTotal => k_is)
    (case q_i_BadTotal => k_is)
    (case q_v_BadTotal => k_is)
    (case q_kp_BadTotal => k_is)
    (case q_s_BadTotal => k_is)
    (case q_ga_BadTotal => k_is)
    (case q_gg_BadTotal => k_is)
    (case q_cl_BadTotal => k_is)
    (case q_a_BadOffers => k_is)
    (case q_x_BadOffers => k_is)
    (case q_i_BadOffers => k_is)
    (case q_v_BadOffers => k_is)
    (case q_kp_BadOffers => k_is)
    (case q_s_BadOffers => k_is)
    (case q_ga_BadOffers => k_is)
    (case q_gg_BadOffers => k_is)
    (case q_cl_BadOffers => k_is)
    (case q_a_BadWishes => k_is)
    (case q_x_BadWishes => k_is)
    (case q_i_BadWishes => k_is)
    (case q_v_BadWishes => k_is)
    (case q_kp_BadWishes => k_is)
    (case q_s_BadWishes => k_is)
    (case q_ga_BadWishes => k_is)
    (case q_gg_BadWishes => k_is)
    (case q_cl_BadWishes => k_is)
    (case q_a_Contrary => k_is)
    (case q_x_Contrary => k_is)
    (case q_i_Contrary => k_is)
    (case q_v_Contrary => k_is)
    (case q_kp_Contrary => k_is)
    (case q_s_Contrary => k_is)
    (case q_ga_Contrary => k_is)
    (case q_gg_Contrary => k_is)
    (case q_cl_Contrary => k_is)
    (case q_a_NothingToUndo => k_is)
    (case q_x_NothingToUndo => k_is)
    (case q_i_NothingToUndo => k_is)
    (case q_v_NothingToUndo => k_is)
    (case q_kp_NothingToUndo => k_is)
    (case q_s_NothingToUndo => k_is)
    (case q_ga_NothingToUndo => k_is)
    (case q_gg_NothingToUndo => k_is)
    (case q_cl_NothingToUndo => k_is)
    (case q_a_NothingToRedo => k_is)
    (case q_x_NothingToRedo => k_is)
    (case q_i_NothingToRedo => k_is)
    (case q_v_NothingToRedo => k_is)
    (case q_kp_NothingToRedo => k_is)
    (case q_s_NothingToRedo => k_is)
    (case q_ga_NothingToRedo => k_is)
    (case q_gg_NothingToRedo => k_is)
    (case q_cl_NothingToRedo => k_is)
    (case q_a_NoTrial => k_is)
    (case q_x_NoTrial => k_is)
    (case q_i_NoTrial => k_is)
    (case q_v_NoTrial => k_is)
    (case q_kp_NoTrial => k_is)
    (case q_s_NoTrial => k_is)
    (case q_ga_NoTrial => k_is)
    (case q_gg_NoTrial => k_is)
    (case q_cl_NoTrial => k_is)
    (case q_a_BadJournal => k_is)
    (case q_x_BadJournal => k_is)
    (case q_i_BadJournal => k_is)
    (case q_v_BadJournal => k_is)
    (case q_kp_BadJournal => k_is)
    (case q_s_BadJournal => k_is)
    (case q_ga_BadJournal => k_is)
    (case q_gg_BadJournal => k_is)
    (case q_cl_BadJournal => k_is)
    (case q_a_BadLine => k_is)
    (case q_x_BadLine => k_is)
    (case q_i_BadLine => k_is)
    (case q_v_BadLine => k_is)
    (case q_kp_BadLine => k_is)
    (case q_s_BadLine => k_is)
    (case q_ga_BadLine => k_is)
    (case q_gg_BadLine => k_is)
    (case q_cl_BadLine => k_is)
    (case q_l_init => k_is)
    (case q_k_init => k_is)
    (case q_p_init => k_is)
    (case q_t_init => k_is)
    (case q_spc => k_is)
    (case q_tkc => k_is)
    (case q_b_AskedError => rfl)
    (case q_b_BadUnits => rfl)
    (case q_b_BadCount => rfl)
    (case q_b_BadShare => rfl)
    (case q_b_BadPage => rfl)
    (case q_b_NoPart => rfl)
    (case q_b_NoAbove => rfl)
    (case q_b_BadCounts => rfl)
    (case q_b_OtherPage => rfl)
    (case q_b_BadTimes => rfl)
    (case q_b_BadRows => rfl)
    (case q_b_Unlike => rfl)
    (case q_b_BadStatement => rfl)
    (case q_b_NoTable => rfl)
    (case q_b_Empty => rfl)
    (case q_b_BadTotal => rfl)
    (case q_b_BadOffers => rfl)
    (case q_b_BadWishes => rfl)
    (case q_b_Contrary => rfl)
    (case q_b_NothingToUndo => rfl)
    (case q_b_NothingToRedo => rfl)
    (case q_b_NoTrial => rfl)
    (case q_b_BadJournal => rfl)
    (case q_b_BadLine => rfl)
    (case q_nA => decide)
    (case q_nd => decide)
