import PyProof.Rows.All
import Wide.All
import OpenK.AllK
import Wide.FinOn
import HandS.Base
import HandS.Call
import HandS.List
import HandS.Comp
import HandS.Ends
import HandS.EndBits
import HandS.Dict
import HandS.Iter
import HandS.Text
import HandS.Words
import HandS.WordsList
import HandS.WordsDict
import HandS.Wide
import HandS.WideBits
import HandS.RaiseMore
import HandS.IsInst
import HandS.Conv
import HandS.Style
import HandS.Zip
import PyProof.ReprRoads
import HandS.Steps
import HandS.Gcd
import HandS.Walk
import PySem.Challenge.RW_anyasked_k03_whole_each_fraction_by_one
set_option Elab.async false
set_option linter.all false
set_option maxRecDepth 100000
set_option maxHeartbeats 2000000
namespace Uq
open PySem PySem.Spec PyProof.Rows L2

/-! ### what a caller knows of a def -/
structure Cal (P : Program) (w : World) (K : PySem.W.Frag) (mg : Str → Option Value) (base : Heap) (k : Nat) (x : Str) (ps : List Str) (sp : Sp) where
  a : Addr
  d : FuncData
  G : FnOk P w K mg base CX0 k a d ps sp
  kp : PySem.W.keepIn K (.ref a) = true
  b : Binds K d ps []
  g : mg x = some (.ref a)

/-! ### heaps -/
/-- all that was tracked, but at p, is as it was -/
def But (p : Addr) (H H' : Hp) : Prop := ∀ b o, b ≠ p → H b = some o → H' b = some o
theorem But.refl (p : Addr) (H : Hp) : But p H H := fun _ _ _ h => h
theorem But.trans {p : Addr} {H H1 H2 : Hp} (a : But p H H1) (b : But p H1 H2) : But p H H2 := fun c o n h => b c o n (a c o n h)
theorem But.of {p : Addr} {H H' : Hp} (a : Same H H') : But p H H' := fun c o _ h => a c o h
theorem But.new {p q : Addr} {H H1 : Hp} {o : HO} (a : But p H H1) (h : H1 q = none) : But p H (upd H1 q o) := fun c u n e => by
  have e1 := a c u n e
  rw [upd_ne (ne_of_none e1 h)]
  exact e1
theorem But.put {p : Addr} {H H1 : Hp} {o : HO} (a : But p H H1) : But p H (upd H1 p o) := fun c u n e => by
  rw [upd_ne n]
  exact a c u n e
theorem But.seqL {K : PySem.W.Frag} {p a : Addr} {H H' : Hp} {xs : List V} (e : But p H H') (n : a ≠ p) (h : SqL K H a xs) : SqL K H' a xs := by
  rcases h with (h | ⟨o, h⟩) | h
  · exact .inl (.inl (e _ _ n h))
  · exact .inl (.inr ⟨o, e _ _ n h⟩)
  · exact .inr h
theorem But.seqT {K : PySem.W.Frag} {p a : Addr} {H H' : Hp} {xs : List V} (e : But p H H') (n : a ≠ p) (h : SqT K H a xs) : SqT K H' a xs := by
  rcases h with (h | ⟨o, h⟩) | h
  · exact .inl (.inl (e _ _ n h))
  · exact .inl (.inr ⟨o, e _ _ n h⟩)
  · exact .inr h
theorem sameU {H : Hp} {p : Addr} {o : HO} (h : H p = none) : Same H (upd H p o) := fun b x e => by
  rw [upd_ne (ne_of_none e h)]
  exact e
theorem Same.tup {K : PySem.W.Frag} {a : Addr} {H H' : Hp} {xs : List V} (e : Same H H') (h : SqT K H a xs) : SqT K H' a xs := by
  rcases h with (h | ⟨o, h⟩) | h
  · exact .inl (.inl (e _ _ h))
  · exact .inl (.inr ⟨o, e _ _ h⟩)
  · exact .inr h
theorem Same.lst {K : PySem.W.Frag} {a : Addr} {H H' : Hp} {xs : List V} (e : Same H H') (h : SqL K H a xs) : SqL K H' a xs := Same.seq e h

/-! ### great powers -/
def CPowW (i j : Int) : Prop := 0 ≤ j ∧ (Builtin.Int.intBits i : Int) * j ≤ 2 ^ 27
theorem op_powW {X : Cx} : OpR X (binaryOp .Pow) (rI CPowW fun i j => .int (i ^ j.toNat)) := opI fun _ _ _ _ _ _ _ hc q => PyProof.Rows.pow_int hc.1 hc.2 q
theorem powW_ok {i : Int} {j n : Nat} (h : i.natAbs < 2 ^ n) (hn : n * j ≤ 134217728) : CPowW i (j : Int) := by
  have b := PyProof.Rows.intBits_le h
  have e : (2 : Int) ^ 27 = 134217728 := by decide
  refine ⟨Int.natCast_nonneg _, ?_⟩
  rw [e]
  have c : Builtin.Int.intBits i * j ≤ n * j := Nat.mul_le_mul_right j b
  have d : ((Builtin.Int.intBits i * j : Nat) : Int) ≤ ((n * j : Nat) : Int) := Int.ofNat_le.mpr c
  rw [Int.natCast_mul] at d
  omega

/-! ### the drawing of numbers: a list of three ints at p -/
/-- own digits, a seed, how often it was drawn (at most c times) -/
def Pot (H : Hp) (p : Addr) (c : Nat) : Prop := ∃ o s n : Int, H p = some (.lst [.int o, .int s, .int n]) ∧ 0 ≤ o ∧ o < 10 ^ 300 ∧ 0 ≤ s ∧ s < 2305843009213693951 ∧ 0 ≤ n ∧ n ≤ c
theorem Pot.mono {H : Hp} {p : Addr} {c d : Nat} (h : Pot H p c) (e : c ≤ d) : Pot H p d := by
  obtain ⟨o, s, n, h0, h1, h2, h3, h4, h5, h6⟩ := h
  exact ⟨o, s, n, h0, h1, h2, h3, h4, h5, by omega⟩
theorem Pot.same {H H' : Hp} {p : Addr} {c : Nat} (e : Same H H') (h : Pot H p c) : Pot H' p c := by
  obtain ⟨o, s, n, h0, h1⟩ := h
  exact ⟨o, s, n, e _ _ h0, h1⟩
theorem Pot.new {H : Hp} {p q : Addr} {c : Nat} {o : HO} (h : Pot H p c) (hq : H q = none) : Pot (upd H q o) p c := h.same (sameU hq)
theorem Pot.some {H : Hp} {p : Addr} {c : Nat} (h : Pot H p c) : H p ≠ none := by
  obtain ⟨o, s, n, h0, _⟩ := h
  rw [h0]
  exact fun z => nomatch z
theorem Pot.upd {H : Hp} {p q : Addr} {c : Nat} {o : HO} (h : Pot H p c) (n : p ≠ q) : Pot (upd H q o) p c := by
  obtain ⟨o', s, k, h0, h1⟩ := h
  exact ⟨o', s, k, by rw [upd_ne n]; exact h0, h1⟩
/-- a new place is not p -/
theorem Pot.ne {H : Hp} {p q : Addr} {c : Nat} (h : Pot H p c) (hq : H q = none) : q ≠ p := fun z => h.some (z ▸ hq)
/-- a draw below u -/
def sp_law_take (K : PySem.W.Frag) : Sp := fun vs H Q _ => ∃ (p : Addr) (c : Nat) (u : Int), vs = [.ref p, .int u] ∧ Pot H p c ∧ c < 100000 ∧ 1 ≤ u ∧ u < 2 ^ 62 ∧
  ∀ H' d, But p H H' → Pot H' p (c + 1) → 0 ≤ d → d < u → Q (.int d) H'
/-- one of a list -/
def sp_law_of (K : PySem.W.Frag) : Sp := fun vs H Q _ => ∃ (p l : Addr) (c : Nat) (xs : List V), vs = [.ref p, .ref l] ∧ Pot H p c ∧ c < 100000 ∧ l ≠ p ∧ SqL K H l xs ∧ 0 < xs.length ∧ xs.length ≤ 100000 ∧
  ∀ H' (i : Nat) v, But p H H' → Pot H' p (c + 1) → xs[i]? = some v → Q v H'
/-- the places of the cells -/
def sp_law_cells (K : PySem.W.Frag) : Sp := fun vs H Q _ => ∃ (a : Addr) (ns : List Int) (m : Int), vs = [.ref a, .int m] ∧ SqL K H a (ns.map V.int) ∧ ns.length ≤ 63 ∧ 1 ≤ m ∧ m ≤ 63 ∧
  ∀ H' l (k : Nat), H l = none → Same H H' → H' l = some (.lst (rgV 0 (k : Int))) → 1 ≤ k → k ≤ 63 → Q (.ref l) H'
def sp_law_pot (K : PySem.W.Frag) : Sp := fun vs H Q _ => ∃ (a : Addr) (ns : List Int) (m : Int), vs = [.ref a, .int m] ∧ SqL K H a (ns.map V.int) ∧ ns.length ≤ 63 ∧ 0 ≤ m ∧ m ≤ 63 ∧
  ∀ H' p, H p = none → Same H H' → Pot H' p 0 → Q (.ref p) H'
/-- what is asked of a cell's turn -/
def sp_law_right (K : PySem.W.Frag) : Sp := fun vs H Q _ => ∃ p : Addr, vs = [.ref p] ∧ Pot H p 0 ∧ ∀ H', But p H H' → Q (.bl true) H'
def sp_law (K : PySem.W.Frag) : Sp := fun vs H Q _ => ∃ (a : Addr) (ns : List Int), vs = [.ref a] ∧ SqL K H a (ns.map V.int) ∧ ns.length ≤ 63 ∧ ∀ H', Q (.bl true) H'
end Uq
namespace Uq
open PySem PySem.Spec PyProof.Rows L2
/-- the cell at a place, or what stands for it -/
theorem rd_cell {K : PySem.W.Frag} {σ : L2.St} {H : Hp} {Q : VK} {a : Addr} {ns : List Int} {m c1 c2 : Int} (hl : SqL K H a (ns.map V.int)) (hm : 0 ≤ m) (hc : -(2 ^ 64) < c1 ∧ c1 < 2 ^ 64) (h0 : σ[0]? = some (some (.ref a))) (h1 : σ[1]? = some (some (.int m))) (q : ∀ z : Int, Q (.int z) H) :
    tIf (tTest (tOp (rI0 fun i j => .bl (decide (i < j))) (tVar 1) (tCB (fun xs H Q => ∃ p ys, xs = [.ref p] ∧ (SqL K H p ys ∨ SqT K H p ys) ∧ Q (.int ys.length) H) (tCons (tVar 0) tNil)))) (tOp (rIxL K) (tVar 0) (tVar 1))
      (tOp (rI0 fun i j => .int (i + j)) (tOp (rI CMul fun i j => .int (i * j)) (tC (.int c1)) (tVar 1)) (tC (.int c2))) σ H Q := by
  refine ⟨.int m, h1, .ref a, h0, a, _, rfl, .inl hl, m, _, rfl, rfl, _, rfl, ite2 (fun e => ?_) (fun e => ?_)⟩
  · have e1 : m < (ns.map V.int).length := of_decide_eq_true e
    have e2 : m.toNat < ns.length := by
      rw [List.length_map] at e1
      omega
    exact ⟨.ref a, h0, .int m, h1, a, _, m, .int ns[m.toNat], rfl, rfl, hl, at_of (j := m.toNat) (by omega) (by rw [List.getElem?_map, List.getElem?_eq_getElem e2]; rfl), q _⟩
  · exact ⟨.int m, h1, _, m, rfl, rfl, .inl hc, _, _, rfl, rfl, q _⟩
theorem big_pos : (0 : Int) < ((10 : Int) ^ (60 : Int).toNat) ^ (5 : Int).toNat := by decide +kernel
theorem big_eq : ((10 : Int) ^ (60 : Int).toNat) ^ (5 : Int).toNat = 10 ^ 300 := by decide +kernel
theorem bigA : CPowW ((10 : Int) ^ (60 : Int).toNat) 5 := powW_ok (j := 5) (n := 300) (by decide +kernel) (by decide)
theorem bigB : CPowW 10 60 := powW_ok (j := 60) (n := 8) (by decide) (by decide)
theorem bigC : CPowW 10 18 := powW_ok (j := 18) (n := 8) (by decide) (by decide)
end Uq
namespace Uq
open PySem PySem.Spec PyProof.Rows L2
theorem b01 (b : Bool) : -(2 ^ 64) < (if b = true then (1 : Int) else 0) ∧ (if b = true then (1 : Int) else 0) < 2 ^ 64 := by cases b <;> decide
theorem own_ok (z : Int) (b : Bool) : 0 ≤ z % ((10 : Int) ^ (60 : Int).toNat) ^ (5 : Int).toNat * (if b = true then 1 else 0) ∧ z % ((10 : Int) ^ (60 : Int).toNat) ^ (5 : Int).toNat * (if b = true then 1 else 0) < 10 ^ 300 := by
  have a0 := Int.emod_nonneg z (Int.ne_of_gt big_pos)
  have a1 := Int.emod_lt_of_pos z big_pos
  rw [big_eq] at a0 a1 ⊢
  cases b with
  | true =>
    rw [if_pos rfl, Int.mul_one]
    exact ⟨a0, a1⟩
  | false =>
    rw [if_neg Bool.false_ne_true, Int.mul_zero]
    exact ⟨by decide, by decide +kernel⟩
theorem sqL_same {K : PySem.W.Frag} {a : Addr} {H H' : Hp} {xs : List V} (e : Same H H') (h : SqL K H a xs) : SqL K H' a xs := Same.seq e h
theorem sqT_same {K : PySem.W.Frag} {a : Addr} {H H' : Hp} {xs : List V} (e : Same H H') (h : SqT K H a xs) : SqT K H' a xs := Uq.Same.tup e h
end Uq
namespace Uq
open PySem PySem.Spec PyProof.Rows L2
theorem iteY {c A B : Prop} [Decidable c] (h : c) (x : A) : if c then A else B := by
  rw [if_pos h]
  exact x
theorem iteN {c A B : Prop} [Decidable c] (h : ¬ c) (x : B) : if c then A else B := by
  rw [if_neg h]
  exact x
/-- a test whose answer is known -/
theorem iteDY {c A B : Prop} [Decidable c] (h : c) (x : A) : if decide c = true then A else B := iteY (decide_eq_true h) x
theorem iteDN {c A B : Prop} [Decidable c] (h : ¬ c) (x : B) : if decide c = true then A else B := iteN (fun z => h (of_decide_eq_true z)) x
end Uq

namespace Uq
open PySem PySem.Spec PyProof.Rows L2

/-! ### defs that are called where no text of an object is under way -/
structure FnG (P : Program) (w : World) (K : PySem.W.Frag) (mg : Str → Option Value) (base : Heap) (k : Nat) (f : Addr) (fd : FuncData) (ps : List Str) (sp : Sp) : Prop where
  len : ∀ vs H Q E, sp vs H Q E → vs.length = ps.length
  run : ∀ (A : Around) (outer : List Env) (s : Shared) (H : Hp) (args : Args) (us : List Value) (vs : List V) (Q : VK) (E : XK),
    A.guards = some [] → Room k A → Env0 P w K mg base A outer s H → BindsTo s fd args (ps.zip us) → Vals vs us → sp vs H Q E →
    codeAny (model P w) A (.call (.ref f) args) (CR CX0 outer P w H s Q E) s

structure CalG (P : Program) (w : World) (K : PySem.W.Frag) (mg : Str → Option Value) (base : Heap) (k : Nat) (x : Str) (ps : List Str) (sp : Sp) where
  a : Addr
  d : FuncData
  G : FnG P w K mg base k a d ps sp
  kp : PySem.W.keepIn K (.ref a) = true
  b : Binds K d ps []
  g : mg x = some (.ref a)

section
variable {P : Program} {w : World} {K : PySem.W.Frag} {mg : Str → Option Value} {base : Heap}
theorem Fun_okG {x qual : Str} {st : Stmt} {f : Addr} {fd : FuncData} {N ps : List Str} {k : Nat} {sp : Sp} (F : Fun K x qual st f fd) (S : FnScope N ps (defScope st))
    (len : ∀ vs H Q E, sp vs H Q E → vs.length = ps.length)
    (hbody : ∀ (cdv : Value) (A : Around) (outer : List Env) (s : Shared) (H : Hp) (vs : List V) (Q : VK) (E : XK), A.guards = some [] →
      Room k (A.deeper (envOfC qual (defScope st) s.heap.objs.size f cdv)) → sp vs H Q E →
      ∃ t, PSs (cxOf CX0 P w K mg base N qual (defScope st) f cdv A outer s H E).nox (defBody st) t ∧ t { nx := fun _ H' => Q .non H', rt := Q } (start N vs) H) :
    FnG P w K mg base (k + 1) f fd ps sp := by
  obtain ⟨oc, od, kV, doc, pm, an, cdv, ct, osl, rfl, lk, hcd⟩ := F.ex
  constructor
  · exact len
  intro A outer s H args us vs Q E hg hr e0 hb r hsp
  have hkeep : ∀ b o, base.get? b = some o → s.heap.get? b = some o := fun b o e => (e0.bs b o e).1
  have KX : K.In s.heap := e0.mod.kin.keeps hkeep
  have hpar : ∀ y ∈ ps.zip us, (defScope st).names.lookup y.1 = some .local ∨ ((defScope st).names.lookup y.1 = some .cell ∧ ((cellsFrom (s.heap.objs.size + 1) (defScope st).names []).lookup y.1).isSome = true) := by
    intro y hy
    have hm : y.1 ∈ ps := (List.of_mem_zip (show (y.1, y.2) ∈ ps.zip us from hy)).1
    cases S.par y.1 hm with
    | inl q => exact Or.inl q
    | inr q => exact Or.inr ⟨q, PySem.W.cellsFrom_some _ _ _ (Or.inl q)⟩
  apply codeAny_call_function hr.depth (KX _ _ lk) rfl S.co S.gen rfl (PySem.W.codeRec_of KX hcd)
  apply hb
  apply wpAny_newFunctionEnv_cells S.kind hpar
  rintro env rfl s1 x
  refine ⟨(e0.mod.nolimit.keeps hkeep).keeps x.toInCall.keep, codeAny_func ?_⟩
  obtain ⟨t, ht, hq⟩ := hbody cdv A outer s H vs Q E hg (hr.deeper _) hsp
  have J0 := inv_start (CX := CX0) (E := E) S hr.hd e0 (len _ _ _ _ hsp) r x
  have run := ht.nox.run [] s1 (start N vs) H _ J0 hq
  refine wpAny_mono run (fun fl s' hs => ?_) (fun _ _ hs => hs)
  cases fl with
  | ret u =>
    obtain ⟨v, σ', H', J, rv, q⟩ := hs
    exact ⟨v, H', J.os, J.bare, J.base, J.hok, rv, q⟩
  | next =>
    obtain ⟨σ', H', J, q⟩ := hs
    exact ⟨.non, H', J.os, J.bare, J.base, J.hok, rfl, q⟩
  | brk => exact hs.elim (fun _ h => h.elim fun _ h => h.2.elim)
  | cont => exact hs.elim (fun _ h => h.elim fun _ h => h.2.elim)
end

section
variable {X : Cx} {k : Nat} {f : Addr} {fd : FuncData} {ps : List Str} {sp : Sp} {x : Str} {p pos : Pos} {e : Expr} {es : List Expr} {t : TA}
theorem pe_callG (F : FnG X.prog X.w X.K X.mg X.base k f fd ps sp) (hgd : X.A.guards = some []) (hr : Room k X.A) (hg : Gl X x) (hm : X.mg x = some (.ref f)) (hk : PySem.W.keepIn X.K (.ref f) = true) (hb : Binds X.K fd ps [])
    (ha : PA X (e :: es) t) (hdb : (x == ("__debug__" : Str)) = false := by decide) (he : starEach (e :: es) X.env = (false, eval e X.env) :: starEach es X.env := by rfl) (hpl : (backTo pos (starEach es X.env)).any (·.1) = false := by rfl) :
    PE X (.Call (.Name x p) (e :: es) [] pos) (tCall sp [] E0 t) := by
  constructor
  intro pins s σ H Q I h
  apply wpAny_Call_Name_kw
  refine ld_glob I hg hm ?_ hdb
  have args := thn (ha.run pos pins s σ H _ I h) (Q' := fun us s1 => X.K.In s1.heap ∧ wpAny (model X.prog X.w) X.A (call (.ref f) us) (EP X pins σ Q) X.xe s1) ?_
  · exact PySem.W.callWith_K (h₀ := X.base) I.ok.mod.kin hk args he hpl
  rintro us s1 ⟨vs, H1, I1, r, q⟩
  refine ⟨I1.kIn, ?_⟩
  have q0 : sp vs H1 Q E0 := by
    have z := q
    rw [List.append_nil] at z
    exact z
  have hl : (us ++ ([] : List Value)).length = ps.length := by
    rw [List.append_nil, ← r.length]
    exact F.len _ _ _ _ q0
  have bd := hb s1 us I1.kIn hl
  rw [List.append_nil] at bd
  have code := F.run X.A X.stack s1 H1 ⟨us, []⟩ us vs Q E0 hgd hr I1.env0 bd r q0
  refine wpAny_call (codeAny_mono code ?_)
  intro res s' hq
  cases res with
  | error e => exact False.elim hq
  | ok fl =>
    cases fl with
    | ret u => exact I1.after hq
    | next => exact False.elim hq
    | brk => exact False.elim hq
    | cont => exact False.elim hq
end
end Uq

namespace Uq
open PySem PySem.Spec PyProof.Rows L2

section
variable {P : Program} {w : World} {K : PySem.W.Frag} {mg mb : Str → Option Value} {k : Nat} {fa a : Addr} {fd : FuncData} {x : Str} {sp : Sp} {s₁ : Shared} {vs : List Value} {ns : List Int}
/-- the law's call from a heap of which at most the script is tracked -/
theorem core_callG (KX : K.In s₁.heap) (hns : s₁.heap.Ns mainGlobals mg) (hb : s₁.heap.Ns builtinsNs mb) (hbb : ∀ x : Str, x ≠ "__name__" → mb x = bootBuiltins x) (hlim : s₁.heap.NoLimit) (hg : s₁.gens = #[])
    (ha : s₁.heap.get? a = some { cls := .type "list", data := .seq vs.toArray }) (hr : Room k callerA)
    (F : ∀ base : Heap, K.In base → base.Ns mainGlobals mg → FnG P w K mg base k fa fd [x] sp) (hbind : ∀ (s : Shared) (u : Value), BindsTo s fd ⟨[u], []⟩ [(x, u)])
    (H : Hp) (hO : Only H) (hok : HOk P w H s₁.heap) (hA : ∀ b, H b ≠ none → b = a) (hK : H a ≠ none → K.lookup a = none) (hsp : sp [.ref a] H (fun v _ => v = .bl true) (fun _ _ _ => False)) :
    codeAny (model P w) callerA (.call (.ref fa) ⟨[.ref a], []⟩) (fun r s' => r = .ok (.ret (.bool true)) ∧ OldK s₁.heap s'.heap ∧ s'.os = s₁.os ∧ AllBare s'.gens) s₁ := by
  have noA : ∀ {b : Addr} {o : Obj} {es : Array DictEntry} {ep : Nat}, s₁.heap.get? b = some o → o.data = .dict es ep → H b = none := by
    intro b o es ep e d
    by_cases q : H b = none
    · exact q
    · have eb := hA b q
      subst eb
      rw [ha] at e
      cases e
      exact nomatch (show Data.seq vs.toArray _ = Data.dict es ep from d)
  have nsH : ∀ {b : Addr} {m : Str → Option Value}, s₁.heap.Ns b m → (hidT s₁.heap H).Ns b m := by
    rintro b m ⟨o, es, ep, e, d, r⟩
    exact ⟨o, es, ep, hidT_get e (noA e d), d, r⟩
  have KH : K.In (hidT s₁.heap H) := by
    intro b o e
    refine hidT_get (KX b o e) ?_
    by_cases q : H b = none
    · exact q
    · have eb := hA b q
      subst eb
      rw [hK q] at e
      cases e
  obtain ⟨mc, l1, l2⟩ := hlim
  have e0 : Env0 P w K mg (hidT s₁.heap H) callerA [] s₁ H := by
    refine { frames := rfl, mod := ⟨KH, nsH hns, ⟨mb, nsH hb, hbb⟩, ⟨mc, nsH l1, l2⟩⟩, bs := fun b o e => of_hidT e, bsz := Nat.le_of_eq (hidT_size _ _), funs := trivial, frf := ?_, hok := hok, bare := .of_eq hg }
    intro b z
    exact nomatch (show b ∈ ([] : List Addr) from z)
  have go := (F _ KH (nsH hns)).run callerA [] s₁ H ⟨[.ref a], []⟩ [.ref a] [.ref a] _ _ rfl hr e0 (hbind s₁ (.ref a)) (.cons rfl .nil) hsp
  refine codeAny_mono go ?_
  intro r s' h
  cases r with
  | error e => exact False.elim h
  | ok fl =>
    cases fl with
    | next => exact False.elim h
    | brk => exact False.elim h
    | cont => exact False.elim h
    | ret u =>
      obtain ⟨v, H', os, bare, un, hok', rv, q⟩ := h
      have ev : v = .bl true := q
      subst ev
      have eu : u = Value.bool true := rv
      subst eu
      refine ⟨rfl, OldK.of_keep ?_, os, bare⟩
      intro b o e
      rcases hO b with z | ⟨ob, xs, z⟩
      · exact un.keep b o e z (fun y => nomatch (show b ∈ ([] : List Addr) from y)) (fun y => nomatch (show b ∈ ([] : List Addr) from y))
      · obtain ⟨y1, _⟩ := hok b _ z
        obtain ⟨y2, _⟩ := hok' b _ (un.frzs b ob _ z)
        rw [e] at y1
        cases y1
        exact y2
end

theorem walk_ofG {l : PySem.W.OpenLaw} {n k : Nat} {q : Program} {loose : List Str} {XP : (Str → Option Value) → Heap → Prop} {YP : World → Heap → Prop} {d : DefRec} {K : Params → PySem.W.Frag} {sp : World → Sp} {x : Str}
    (hn : l.most = some n) (hn2 : n ≤ sizeLine) (hdf : d.params.defaults = []) (hr : Room k callerA)
    (hY : ∀ (w : World) (h : Heap), YP w h → (K w.params).In h)
    (F : ∀ (w : World) (mg : Str → Option Value) (fa : Addr) (h : Heap), (K w.params).In h → h.Ns mainGlobals mg → mg d.name = some (.ref fa) →
      ∃ fd : FuncData, (∀ (s : Shared) (u : Value), BindsTo s fd ⟨[u], []⟩ [(x, u)]) ∧ ∀ base : Heap, (K w.params).In base → base.Ns mainGlobals mg → FnG l.prog w (K w.params) mg base k fa fd [x] (sp w))
    (hsp : ∀ (w : World) (H : Hp) (a : Addr) (ns : List Int), ns.length ≤ n → SqL (K w.params) H a (ns.map V.int) → sp w [.ref a] H (fun v _ => v = .bl true) (fun _ _ _ => False)) :
    PySem.W.WalkO q loose XP YP l.row.toRowW d [] (fun f vs => PySem.call f vs) := by
  apply Att.attach_call hn hdf
  intro w s₀ s₁ mg mb fa o pm cd doc a vs ns G Y ho hd hcd hmg ha hi hlen hg
  have KX := hY w _ Y
  obtain ⟨fd, hb, hF⟩ := F w mg fa _ KX G.T.g hmg
  have rv := vals_ints hi
  have len := hi.length
  have hl : ns.length ≤ sizeLine := Nat.le_trans hlen hn2
  by_cases hk : K w.params |>.lookup a |>.isSome
  · obtain ⟨ob, hob⟩ := Option.isSome_iff_exists.mp hk
    have e := KX a ob hob
    rw [ha] at e
    cases e
    refine core_callG (H := fun _ => none) KX G.T.g G.T.b G.T.builtins G.T.nolimit hg ha hr hF hb (fun _ => .inl rfl) (fun b u z => nomatch (show (none : Option HO) = some u from z)) (fun b z => absurd rfl z) (fun z => absurd rfl z) ?_
    refine hsp w _ a ns hlen (.inr ⟨_, vs.toArray, _, hob, rfl, rfl, rfl, ?_, ?_⟩)
    · rw [List.size_toArray, len]
      exact hl
    · exact rv
  · have hk' : (K w.params).lookup a = none := Option.not_isSome_iff_eq_none.mp hk
    let H0 : Hp := fun b => if b = a then some (.frz { cls := .type "list", data := .seq vs.toArray } (.lst (ns.map V.int))) else none
    have h0 : H0 a = some (.frz { cls := .type "list", data := .seq vs.toArray } (.lst (ns.map V.int))) := if_pos rfl
    have h1 : ∀ b, b ≠ a → H0 b = none := fun b z => if_neg z
    refine core_callG (H := H0) KX G.T.g G.T.b G.T.builtins G.T.nolimit hg ha hr hF hb ?_ ?_ ?_ (fun _ => hk') ?_
    · intro b
      by_cases z : b = a
      · subst z
        exact .inr ⟨_, _, h0⟩
      · exact .inl (h1 b z)
    · intro b u e
      by_cases z : b = a
      · subst z
        rw [h0] at e
        cases e
        exact ⟨ha, by rw [List.length_map]; exact hl, vs, _, rv, ha⟩
      · rw [h1 b z] at e
        cases e
    · intro b z
      by_cases y : b = a
      · exact y
      · exact absurd (h1 b y) z
    · exact hsp w _ a ns hlen (.inl (.inr ⟨_, h0⟩))

/-! ### the text of data -/
theorem dp_same {K : PySem.W.Frag} {H H' : Hp} (e : Same H H') : ∀ (d : PyData) (v : V), Dp K H v d → Dp K H' v d
  | .none, _, h => by cases h; exact .non
  | .bool _, _, h => by cases h; exact .bl _
  | .int _, _, h => by cases h; exact .int _
  | .str _, _, h => by cases h; exact .str _
  | .list ds, _, h => by
    cases h with
    | lst h1 h2 => exact .lst (sqL_same e h1) (all ds _ h2)
  | .tuple ds, _, h => by
    cases h with
    | tup h1 h2 => exact .tup (sqT_same e h1) (all ds _ h2)
  | .dict _, _, h => nomatch h
where all : ∀ (ds : List PyData) (vs : List V), DpAll K H vs ds → DpAll K H' vs ds
  | [], _, h => by cases h; exact .nil
  | d :: ds, _, h => by
    cases h with
    | cons h1 h2 => exact .cons (dp_same e d _ h1) (all ds _ h2)
/-- repr(x), x data of any depth -/
def rRepr (K : PySem.W.Frag) : List V → Hp → VK → Prop := fun xs H Q => ∃ (x : V) (d : PyData), xs = [x] ∧ Dp K H x d ∧ d.showable = true ∧ d.hasDict = false ∧ d.depth ≤ 60 ∧ d.shown.length ≤ sizeLine ∧ Q (.str d.shown) H
theorem call_repr_data {X : Cx} (hg : X.A.guards = some []) (hu : X.A.units + 100 < cLine) : CallR X (.builtin "repr") (rRepr X.K) := by
  intro pins s σ H xs us Q I r h
  obtain ⟨x, d, rfl, dp, hs, hd, hdep, hz, q⟩ := h
  obtain ⟨u, rfl, ru⟩ := vals1 r
  obtain ⟨as, rd⟩ := Dp.reads I d x u dp ru
  cases d with
  | none =>
    cases dp
    cases ru
    exact PySem.P.repr_of_none ⟨.str _, H, I.tok _, ⟨_, rfl⟩, q⟩
  | bool b =>
    cases dp
    cases ru
    exact PySem.P.repr_of_bool ⟨.str _, H, I.tok _, ⟨_, rfl⟩, q⟩
  | int i =>
    cases dp
    obtain ⟨t, rfl⟩ := ru
    exact PySem.P.repr_of_int (of_decide_eq_true hs) ⟨.str _, H, I.tok _, ⟨_, rfl⟩, q⟩
  | str y =>
    cases dp
    obtain ⟨t, rfl⟩ := ru
    exact PySem.P.repr_of_str ⟨.str _, H, I.tok _, ⟨_, rfl⟩, q⟩ hz
  | list ds =>
    cases dp with
    | @lst a _ _ h1 h2 =>
      cases ru
      exact repr_of_reads' rd hs (PyData.noDict_hsm hd) hg (by omega) (fun _ _ e => e) (fun h' u tk hk => ⟨.str _, H, I.kept (h' := h') (t' := tk) hk, ⟨_, rfl⟩, q⟩) hz
  | tuple ds =>
    cases dp with
    | @tup a _ _ h1 h2 =>
      cases ru
      exact repr_of_reads' rd hs (PyData.noDict_hsm hd) hg (by omega) (fun _ _ e => e) (fun h' u tk hk => ⟨.str _, H, I.kept (h' := h') (t' := tk) hk, ⟨_, rfl⟩, q⟩) hz
  | dict kvs => cases dp
end Uq
namespace Uq
open PySem PySem.Spec PyProof.Rows L2
theorem ru {k : Nat} {A : Around} (hr : Room k A) : A.units + 100 < cLine := by
  have := hr.un
  omega
end Uq

namespace Uq
open PySem PySem.Spec PyProof.Rows L2
section
variable {σ : L2.St} {H : Hp} {ta tb tc te : TE} {c d : Bool} {x y z : V} {i j n : Int} {K : PySem.W.Frag}
theorem val_orV (ha : Val ta σ H (.bl c)) (hb : c = false → Val tb σ H (.bl d)) : Val (tOrV ta tb) σ H (.bl (c || d)) := fun Q q => ha _ ⟨c, rfl, by
  cases c with
  | true => exact iteT q
  | false => exact iteF (hb rfl _ q)⟩
theorem val_andV (ha : Val ta σ H (.bl c)) (hb : c = true → Val tb σ H (.bl d)) : Val (tAndV ta tb) σ H (.bl (c && d)) := fun Q q => ha _ ⟨c, rfl, by
  cases c with
  | true => exact iteT (hb rfl _ q)
  | false => exact iteF q⟩
theorem val_notV (ha : Val ta σ H (.bl c)) : Val (tNotV ta) σ H (.bl (!c)) := fun Q q => ha _ ⟨c, rfl, q⟩
theorem val_I0 {g : Int → Int → V} (ha : Val ta σ H (.int i)) (hb : Val tb σ H (.int j)) : Val (tOp (rI0 g) ta tb) σ H (g i j) := fun Q q => ha _ (hb _ ⟨i, j, rfl, rfl, q⟩)
theorem val_I {C : Int → Int → Prop} {g : Int → Int → V} (hc : C i j) (ha : Val ta σ H (.int i)) (hb : Val tb σ H (.int j)) : Val (tOp (rI C g) ta tb) σ H (g i j) := fun Q q => ha _ (hb _ ⟨i, j, rfl, rfl, hc, q⟩)
theorem dec_ii : decide (V.int i = V.int j) = decide (i = j) := by
  rw [decide_eq_decide]
  exact ⟨fun z => V.int.inj z, fun z => by rw [z]⟩
theorem dec_ss {a b : Str} : decide (V.str a = V.str b) = decide (a = b) := by
  rw [decide_eq_decide]
  exact ⟨fun z => V.str.inj z, fun z => by rw [z]⟩
theorem val_eqI (ha : Val ta σ H (.int i)) (hb : Val tb σ H (.int j)) : Val (tOp rEq ta tb) σ H (.bl (decide (i = j))) := fun Q q => ha _ (hb _ ⟨rfl, by rw [dec_ii]; exact q⟩)
theorem val_eqS {a b : Str} (ha : Val ta σ H (.str a)) (hb : Val tb σ H (.str b)) : Val (tOp rEq ta tb) σ H (.bl (decide (a = b))) := fun Q q => ha _ (hb _ ⟨rfl, by rw [dec_ss]; exact q⟩)
theorem val_eqV (ha : Val ta σ H x) (hb : Val tb σ H y) (hs : scal x y = true) : Val (tOp rEq ta tb) σ H (.bl (decide (x = y))) := fun Q q => ha _ (hb _ ⟨hs, q⟩)
theorem val_neV (ha : Val ta σ H x) (hb : Val tb σ H y) (hs : scal x y = true) : Val (tOp rNe ta tb) σ H (.bl (!decide (x = y))) := fun Q q => ha _ (hb _ ⟨hs, q⟩)
theorem val_ixL {p : Addr} {xs : List V} (ha : Val ta σ H (.ref p)) (hb : Val tb σ H (.int i)) (h : SqL K H p xs) (hi : atI xs i = some z) : Val (tOp (rIxL K) ta tb) σ H z := fun Q q => ha _ (hb _ ⟨p, xs, i, z, rfl, rfl, h, hi, q⟩)
theorem val_ixT {p : Addr} {xs : List V} (ha : Val ta σ H (.ref p)) (hb : Val tb σ H (.int i)) (h : SqT K H p xs) (hi : atI xs i = some z) : Val (tOp (rIxT K) ta tb) σ H z := fun Q q => ha _ (hb _ ⟨p, xs, i, z, rfl, rfl, h, hi, q⟩)
theorem val_chain {g g' : Int → Int → Bool} (ha : Val ta σ H (.int i)) (hb : Val tb σ H (.int j)) (hc : g i j = true → Val tc σ H (.int n)) :
    Val (tChain (rI0 fun i j => .bl (g i j)) (rI0 fun i j => .bl (g' i j)) ta tb tc) σ H (.bl (g i j && g' j n)) := fun Q q => ha _ (hb _ ⟨i, j, rfl, rfl, g i j, rfl, by
  cases e : g i j with
  | true =>
    rw [e] at q
    exact iteT (hc e _ ⟨j, n, rfl, rfl, q⟩)
  | false =>
    rw [e] at q
    exact iteF q⟩)
theorem val_if {tt : TT} (h : Ans tt σ H c) (h1 : c = true → Val ta σ H x) (h2 : c = false → Val tb σ H x) : Val (tIf tt ta tb) σ H x := fun Q q => h _ (by
  cases c with
  | true => exact iteT (h1 rfl _ q)
  | false => exact iteF (h2 rfl _ q))
theorem ans_val2 (h : Val te σ H (.bl c)) : Ans (tTest te) σ H c := fun Q q => h _ ⟨c, rfl, q⟩
theorem val_to (h : Val te σ H x) (e : x = y) : Val te σ H y := e ▸ h
end
end Uq

namespace Uq
open PySem PySem.Spec PyProof.Rows L2
theorem all_rep (k : Nat) : (List.replicate k true).all id = true := by
  rw [List.all_eq_true]
  intro x hx
  exact (List.mem_replicate.mp hx).2
def topS (i : Nat) : Stmt := PySem.Challenge.pw_anyasked_k03_whole_each_fraction_by_one.main.body.getD i (.Pass ⟨0, 0, 0, 0⟩)
abbrev s_is_integer : Stmt := topS 7
abbrev N_is_integer : List Str := ["value"]
theorem sc_is_integer : FnScope N_is_integer ["value"] (defScope s_is_integer) := ⟨rfl, rfl, rfl, by decide +kernel, rfl, by decide +kernel, by decide +kernel⟩
abbrev s_least_terms : Stmt := topS 8
abbrev N_least_terms : List Str := ["over", "under", "common"]
theorem sc_least_terms : FnScope N_least_terms ["over", "under"] (defScope s_least_terms) := ⟨rfl, rfl, rfl, by decide +kernel, rfl, by decide +kernel, by decide +kernel⟩
abbrev s_is_units : Stmt := topS 12
abbrev N_is_units : List Str := ["value", "base", "how"]
theorem sc_is_units : FnScope N_is_units ["value"] (defScope s_is_units) := ⟨rfl, rfl, rfl, by decide +kernel, rfl, by decide +kernel, by decide +kernel⟩
abbrev s_is_share : Stmt := topS 13
abbrev N_is_share : List Str := ["units", "value"]
theorem sc_is_share : FnScope N_is_share ["units", "value"] (defScope s_is_share) := ⟨rfl, rfl, rfl, by decide +kernel, rfl, by decide +kernel, by decide +kernel⟩
abbrev s_rounded : Stmt := topS 14
abbrev N_rounded : List Str := ["how", "many", "whole", "below", "rest"]
theorem sc_rounded : FnScope N_rounded ["how", "many", "whole"] (defScope s_rounded) := ⟨rfl, rfl, rfl, by decide +kernel, rfl, by decide +kernel, by decide +kernel⟩
abbrev s_shown : Stmt := topS 15
abbrev N_shown : List Str := ["units", "many", "whole", "base", "how"]
theorem sc_shown : FnScope N_shown ["units", "many", "whole"] (defScope s_shown) := ⟨rfl, rfl, rfl, by decide +kernel, rfl, by decide +kernel, by decide +kernel⟩
abbrev s_reach : Stmt := topS 16
abbrev N_reach : List Str := ["how", "number", "is_even"]
theorem sc_reach : FnScope N_reach ["how", "number"] (defScope s_reach) := ⟨rfl, rfl, rfl, by decide +kernel, rfl, by decide +kernel, by decide +kernel⟩
abbrev s_stretch : Stmt := topS 17
abbrev N_stretch : List Str := ["units", "share", "base", "how", "low", "is_low", "high", "is_high", "whole"]
theorem sc_stretch : FnScope N_stretch ["units", "share"] (defScope s_stretch) := ⟨rfl, rfl, rfl, by decide +kernel, rfl, by decide +kernel, by decide +kernel⟩
abbrev s_law_pot : Stmt := topS 19
abbrev N_law_pot : List Str := ["_law_script", "_law_place", "_law_cell", "_law_own", "_law_small"]
theorem sc_law_pot : FnScope N_law_pot ["_law_script", "_law_place"] (defScope s_law_pot) := ⟨rfl, rfl, rfl, by decide +kernel, rfl, by decide +kernel, by decide +kernel⟩
abbrev s_law_take : Stmt := topS 20
abbrev N_law_take : List Str := ["_law_pot_here", "_law_upto", "_law_digit", "_law_prime", "_law_stir"]
theorem sc_law_take : FnScope N_law_take ["_law_pot_here", "_law_upto"] (defScope s_law_take) := ⟨rfl, rfl, rfl, by decide +kernel, rfl, by decide +kernel, by decide +kernel⟩
abbrev s_law_of : Stmt := topS 21
abbrev N_law_of : List Str := ["_law_pot_here", "_law_some"]
theorem sc_law_of : FnScope N_law_of ["_law_pot_here", "_law_some"] (defScope s_law_of) := ⟨rfl, rfl, rfl, by decide +kernel, rfl, by decide +kernel, by decide +kernel⟩
abbrev s_law_cells : Stmt := topS 22
abbrev N_law_cells : List Str := ["_law_script", "_law_most"]
theorem sc_law_cells : FnScope N_law_cells ["_law_script", "_law_most"] (defScope s_law_cells) := ⟨rfl, rfl, rfl, by decide +kernel, rfl, by decide +kernel, by decide +kernel⟩
abbrev s_law_is_within : Stmt := topS 23
abbrev N_law_is_within : List Str := ["_law_told", "_law_many", "_law_whole", "_law_low", "_law_is_low", "_law_high", "_law_is_high", "_law_left", "_law_right_here"]
theorem sc_law_is_within : FnScope N_law_is_within ["_law_told", "_law_many", "_law_whole"] (defScope s_law_is_within) := ⟨rfl, rfl, rfl, by decide +kernel, rfl, by decide +kernel, by decide +kernel⟩
abbrev s_law_is_one_right : Stmt := topS 24
abbrev N_law_is_one_right : List Str := ["_law_units", "_law_told", "_law_many", "_law_whole", "_law_marks", "_law_one", "_law_number", "_law_mark"]
theorem sc_law_is_one_right : FnScope N_law_is_one_right ["_law_units", "_law_told", "_law_many", "_law_whole"] (defScope s_law_is_one_right) := ⟨rfl, rfl, rfl, by decide +kernel, rfl, by decide +kernel, by decide +kernel⟩
abbrev s_law_do_go_on : Stmt := topS 25
abbrev N_law_do_go_on : List Str := ["_law_told", "_law_one", "_law_other"]
theorem sc_law_do_go_on : FnScope N_law_do_go_on ["_law_told"] (defScope s_law_do_go_on) := ⟨rfl, rfl, rfl, by decide +kernel, rfl, by decide +kernel, by decide +kernel⟩
abbrev s_law_right : Stmt := topS 26
abbrev N_law_right : List Str := ["_law_pot_here", "_law_how", "_law_units", "_law_told", "_law_some", "_law_whole", "_law_spots", "_law_share", "_law_lap", "_law_many"]
theorem sc_law_right : FnScope N_law_right ["_law_pot_here"] (defScope s_law_right) := ⟨rfl, rfl, rfl, by decide +kernel, rfl, by decide +kernel, by decide +kernel⟩
abbrev s_law : Stmt := topS 27
abbrev N_law : List Str := ["_law_script", "_law_place"]
theorem sc_law : FnScope N_law ["_law_script"] (defScope s_law) := ⟨rfl, rfl, rfl, by decide +kernel, rfl, by decide +kernel, by decide +kernel⟩

section
variable {P : Program} {w : World} {K : PySem.W.Frag} {mg : Str → Option Value} {base : Heap}
theorem ok_law_take {f : Addr} {fd : FuncData} (F : Fun K "_law_take" "_law_take" s_law_take f fd) (m_int : mg "int" = none) : FnOk P w K mg base CX0 1 f fd ["_law_pot_here", "_law_upto"] (sp_law_take K) := by
  refine F.ok sc_law_take (fun vs H Q E h => ?_) (fun cdv A outer s H vs Q E hr h => ?_)
  · obtain ⟨p, c, u, rfl, _⟩ := h
    rfl
  · refine ⟨_, (pss_cons (ps_if (pt_cmpR op_gt (pe_ix ix_list (pv 0) pe_int (fun _ _ => rfl)) pe_int (nomark _)) (pss_cons (ps_set (i := 2) sc_law_take.nd rfl (.inl rfl) (pe_op op_mod (pe_callTy call_int1 (by rfl) m_int (by decide +kernel) (pa_cons (pe_ix ix_list (pv 0) pe_int (fun _ _ => rfl)) pa_nil)) (pv 1)))
        (pss_cons (ps_asg (pe_op op_fdivW (pe_ix ix_list (pv 0) pe_int (fun _ _ => rfl)) (pv 1)) (pg_sub (pv 0) pe_int set_list))
        (pss_one (ps_ret (pv 2))))) pss_nil)
      (pss_cons (ps_asg (pe_op op_add (pe_ix ix_list (pv 0) pe_int (fun _ _ => rfl)) pe_int) (pg_sub (pv 0) pe_int set_list))
      (pss_cons (ps_set (i := 3) sc_law_take.nd rfl (.inl rfl) (pe_ix ix_list (pe_lst (pa_cons pe_int (pa_cons pe_int (pa_cons pe_int (pa_cons pe_int (pa_cons pe_int pa_nil)))))) (pe_op op_mod (pe_callTy call_int1 (by rfl) m_int (by decide +kernel) (pa_cons (pe_ix ix_list (pv 0) pe_int (fun _ _ => rfl)) pa_nil)) pe_int) (fun _ _ => rfl)))
      (pss_cons (ps_set (i := 4) sc_law_take.nd rfl (.inl rfl) (pe_op op_mod (pe_callTy call_int1 (by rfl) m_int (by decide +kernel) (pa_cons (pe_op op_powW (pe_callTy call_int1 (by rfl) m_int (by decide +kernel) (pa_cons (pe_op op_add (pe_op op_add (pe_ix ix_list (pv 0) pe_int (fun _ _ => rfl)) (pe_op op_mul (pe_op op_mul pe_int (pe_ix ix_list (pv 0) pe_int (fun _ _ => rfl))) (pe_ix ix_list (pv 0) pe_int (fun _ _ => rfl)))) pe_int) pa_nil)) pe_int) pa_nil)) (pv 3)))
      (pss_cons (ps_set (i := 4) sc_law_take.nd rfl (.inl rfl) (pe_op op_mod (pe_callTy call_int1 (by rfl) m_int (by decide +kernel) (pa_cons (pe_op op_mul (pv 4) (pe_op op_add (pe_op op_mod (pe_callTy call_int1 (by rfl) m_int (by decide +kernel) (pa_cons (pv 4) pa_nil)) pe_int) (pe_op op_mul pe_int (pe_ix ix_list (pv 0) pe_int (fun _ _ => rfl))))) pa_nil)) pe_int))
      (pss_one (ps_ret (pe_op op_mod (pe_callTy call_int1 (by rfl) m_int (by decide +kernel) (pa_cons (pe_op op_fdivW (pv 4) pe_int) pa_nil)) (pv 1))))))))), ?_⟩
    obtain ⟨p, c, u, rfl, ⟨o, sd, n, hp, o0, o1, s0, s1, n0, n1⟩, hc, hu, hu2, q⟩ := h
    refine ⟨.ref p, rfl, p, _, 0, .int o, rfl, rfl, SqL.of hp, atI_nat (j := 0) rfl, o, 0, rfl, rfl, _, rfl, ite2 (fun e => ?_) (fun e => ?_)⟩
    · have e0 : 0 < o := of_decide_eq_true e
      -- the digit
      refine ⟨.ref p, rfl, p, _, 0, .int o, rfl, rfl, SqL.of hp, atI_nat (j := 0) rfl, .inl ⟨o, rfl, .int u, rfl, o, u, rfl, rfl, (by show (0 : Int) < u; omega), ?_⟩⟩
      refine ⟨.ref p, rfl, p, _, 0, .int o, rfl, rfl, SqL.of hp, atI_nat (j := 0) rfl, .int u, rfl, o, u, rfl, rfl, wide_div (b := 62) (by omega) (by omega) (by decide) (by decide), ?_⟩
      refine ⟨.ref p, rfl, p, _, 0, 0, rfl, rfl, hp, rfl, ?_⟩
      refine ⟨.int (o % u), rfl, ?_⟩
      refine q _ _ (But.refl _ _).put ⟨o / u, sd, n, upd_same, Int.ediv_nonneg (by omega) (by omega), Int.lt_of_le_of_lt (Int.ediv_le_self _ o0) o1, s0, s1, n0, by omega⟩ (Int.emod_nonneg _ (by omega)) (Int.emod_lt_of_pos _ (by omega))
    · -- the count
      refine ⟨.ref p, rfl, p, _, 2, .int n, rfl, rfl, SqL.of hp, atI_nat (j := 2) rfl, n, 1, rfl, rfl, .ref p, rfl, p, _, 2, 2, rfl, rfl, hp, rfl, ?_⟩
      generalize hG : L2.upd H p _ = G
      have hg : G p = some (.lst [.int o, .int sd, .int (n + 1)]) := by
        rw [← hG]
        exact upd_same
      have hB : But p H G := by
        rw [← hG]
        exact (But.refl _ _).put
      refine ⟨by show 5 ≤ sizeLine; decide, fun l nl => ?_⟩
      have hg2 : (upd G l (.lst [.int 2147483647, .int 2147483629, .int 2147483587, .int 2147483579, .int 2147483563])) p = some (.lst [.int o, .int sd, .int (n + 1)]) := by
        rw [upd_ne (ne_of_none hg nl)]
        exact hg
      have hB2 : But p H (upd G l (.lst [.int 2147483647, .int 2147483629, .int 2147483587, .int 2147483579, .int 2147483563])) := hB.new nl
      refine ⟨.ref p, rfl, p, _, 2, .int (n + 1), rfl, rfl, SqL.of hg2, atI_nat (j := 2) rfl, .inl ⟨n + 1, rfl, n + 1, 5, rfl, rfl, (by show (0 : Int) < 5; decide), ?_⟩⟩
      have hpr : ∃ (k : Nat) (z : Int), (n + 1) % 5 = (k : Int) ∧ [V.int 2147483647, .int 2147483629, .int 2147483587, .int 2147483579, .int 2147483563][k]? = some (.int z) ∧ 1 ≤ z ∧ z < 2147483648 := by
        have a0 : 0 ≤ (n + 1) % 5 := Int.emod_nonneg _ (by decide)
        have a1 : (n + 1) % 5 < 5 := Int.emod_lt_of_pos _ (by decide)
        obtain e | e | e | e | e : (n + 1) % 5 = 0 ∨ (n + 1) % 5 = 1 ∨ (n + 1) % 5 = 2 ∨ (n + 1) % 5 = 3 ∨ (n + 1) % 5 = 4 := by omega
        · exact ⟨0, _, e, rfl, by decide, by decide⟩
        · exact ⟨1, _, e, rfl, by decide, by decide⟩
        · exact ⟨2, _, e, rfl, by decide, by decide⟩
        · exact ⟨3, _, e, rfl, by decide, by decide⟩
        · exact ⟨4, _, e, rfl, by decide, by decide⟩
      obtain ⟨k, z, ek, ez, z1, z2⟩ := hpr
      refine ⟨l, _, _, .int z, rfl, rfl, SqL.of upd_same, at_of ek ez, ?_⟩
      generalize hG2 : L2.upd G l _ = G2 at hg2 hB2 ⊢
      -- the stir
      refine ⟨.ref p, rfl, p, _, 1, .int sd, rfl, rfl, SqL.of hg2, atI_nat (j := 1) rfl, .ref p, rfl, p, _, 2, .int (n + 1), rfl, rfl, SqL.of hg2, atI_nat (j := 2) rfl, _, n + 1, rfl, rfl, .inl ⟨by decide, by decide⟩,
        .ref p, rfl, p, _, 2, .int (n + 1), rfl, rfl, SqL.of hg2, atI_nat (j := 2) rfl, _, n + 1, rfl, rfl, .inl ⟨by omega, by omega⟩, sd, _, rfl, rfl, _, _, rfl, rfl, .inl ⟨_, rfl, ?_⟩⟩
      generalize hx : sd + _ = x
      have hx1 : (x + 67).natAbs < 2 ^ 200 := by
        have h9 : (n + 1) * (n + 1) ≤ 100000 * 100000 := Int.mul_le_mul (by omega) (by omega) (by omega) (by decide)
        have h8 : 0 ≤ (n + 1) * (n + 1) := Int.mul_nonneg (by omega) (by omega)
        have h7 := Int.mul_assoc 110077 (n + 1) (n + 1)
        omega
      refine ⟨_, 3, rfl, rfl, powW_ok (j := 3) hx1 (by decide), .inl ⟨_, rfl, .int z, rfl, _, z, rfl, rfl, (by show (0 : Int) < z; omega), ?_⟩⟩
      dsimp only
      generalize hy : (x + 67) ^ _ % z = y
      have y0 : 0 ≤ y := by
        rw [← hy]
        exact Int.emod_nonneg _ (by omega)
      have y1 : y < z := by
        rw [← hy]
        exact Int.emod_lt_of_pos _ (by omega)
      refine ⟨.int y, rfl, .int y, rfl, .inl ⟨y, rfl, y, _, rfl, rfl, (by show (0 : Int) < 10061; decide), .ref p, rfl, p, _, 2, .int (n + 1), rfl, rfl, SqL.of hg2, atI_nat (j := 2) rfl, _, n + 1, rfl, rfl, .inl ⟨by decide, by decide⟩, _, _, rfl, rfl, y, _, rfl, rfl, .inl ⟨by omega, by omega⟩,
        .inl ⟨_, rfl, _, _, rfl, rfl, (by show (0 : Int) < 2305843009213693907; decide), ?_⟩⟩⟩
      dsimp only
      generalize ht : _ % (2305843009213693907 : Int) = t
      refine ⟨.int t, rfl, t, _, rfl, rfl, wide_div (b := 62) (by decide) (by decide) (by decide) (by decide), .inl ⟨_, rfl, .int u, rfl, _, u, rfl, rfl, (by show (0 : Int) < u; omega), ?_⟩⟩
      exact q _ _ hB2 ⟨o, sd, n + 1, hg2, o0, o1, s0, s1, by omega, by omega⟩ (Int.emod_nonneg _ (by omega)) (Int.emod_lt_of_pos _ (by omega))

theorem ok_law_of {f : Addr} {fd : FuncData} (F : Fun K "_law_of" "_law_of" s_law_of f fd) (m_len : mg "len" = none) (c_law_take : Cal P w K mg base 1 "_law_take" ["_law_pot_here", "_law_upto"] (sp_law_take K)) : FnOk P w K mg base CX0 2 f fd ["_law_pot_here", "_law_some"] (sp_law_of K) := by
  refine F.ok sc_law_of (fun vs H Q E h => ?_) (fun cdv A outer s H vs Q E hr h => ?_)
  · obtain ⟨p, l, c, xs, rfl, _⟩ := h
    rfl
  · refine ⟨_, (pss_one (ps_ret (pe_ix ix_list (pv 1) (pe_call c_law_take.G (hr.mono (by decide)) (by rfl) c_law_take.g c_law_take.kp c_law_take.b .nil pass0 (pa_cons (pv 0) (pa_cons (pe_callB call_len_seq (by rfl) m_len (by decide +kernel) (pa_cons (pv 1) pa_nil)) pa_nil))) (fun _ _ => rfl)))), ?_⟩
    obtain ⟨p, l, c, xs, rfl, hp, hc, hlp, hl, h0, h1, q⟩ := h
    refine ⟨.ref l, rfl, .ref p, rfl, .ref l, rfl, l, xs, rfl, .inl hl, p, c, xs.length, rfl, hp, hc, by omega, by omega, fun H' d hB hP d0 d1 => ?_⟩
    have hd : d.toNat < xs.length := by omega
    have ed : d = (d.toNat : Int) := by omega
    exact ⟨l, xs, d, xs[d.toNat], rfl, rfl, hB.seqL hlp hl, at_of ed (List.getElem?_eq_getElem hd), q H' d.toNat _ hB hP (List.getElem?_eq_getElem hd)⟩

theorem ok_law_cells {f : Addr} {fd : FuncData} (F : Fun K "_law_cells" "_law_cells" s_law_cells f fd) (m_range : mg "range" = none) (m_max : mg "max" = none) (m_min : mg "min" = none) (m_len : mg "len" = none) (m_list : mg "list" = none) : FnOk P w K mg base CX0 1 f fd ["_law_script", "_law_most"] (sp_law_cells K) := by
  refine F.ok sc_law_cells (fun vs H Q E h => ?_) (fun cdv A outer s H vs Q E hr h => ?_)
  · obtain ⟨a, ns, m, rfl, _⟩ := h
    rfl
  · refine ⟨_, (pss_one (ps_ret (pe_listRg rfl (by rfl) m_list (prg_1 (by rfl) m_range (pe_callB (call_max2 rfl) (by rfl) m_max (by decide +kernel) (pa_cons pe_int (pa_cons (pe_callB (call_min2 rfl) (by rfl) m_min (by decide +kernel) (pa_cons (pv 1) (pa_cons (pe_callB call_len_seq (by rfl) m_len (by decide +kernel) (pa_cons (pv 0) pa_nil)) pa_nil))) pa_nil))))))), ?_⟩
    obtain ⟨a, ns, m, rfl, hl, hn, hm, hm2, q⟩ := h
    refine ⟨.int m, rfl, .ref a, rfl, a, _, rfl, .inl hl, m, _, rfl, 1, _, rfl, _, rfl, ?_, ?_⟩
    · refine RgOk.of_le (by decide) ?_ (by decide) ?_ <;> (rw [List.length_map]; split <;> split <;> omega)
    · intro l nl
      have ek : ∃ k : Nat, (if (if ((ns.map V.int).length : Int) < m then ((ns.map V.int).length : Int) else m) > 1 then (if ((ns.map V.int).length : Int) < m then ((ns.map V.int).length : Int) else m) else 1) = (k : Int) ∧ 1 ≤ k ∧ k ≤ 63 := by
        rw [List.length_map]
        refine ⟨(if (if (ns.length : Int) < m then (ns.length : Int) else m) > 1 then (if (ns.length : Int) < m then (ns.length : Int) else m) else 1).toNat, ?_, ?_, ?_⟩ <;> (split <;> split <;> omega)
      obtain ⟨k, e1, k1, k2⟩ := ek
      rw [e1]
      exact q _ l k nl (sameU nl) upd_same k1 k2

theorem ok_law_pot {f : Addr} {fd : FuncData} (F : Fun K "_law_pot" "_law_pot" s_law_pot f fd) (m_len : mg "len" = none) (m_int : mg "int" = none) (m_abs : mg "abs" = none) : FnOk P w K mg base CX0 1 f fd ["_law_script", "_law_place"] (sp_law_pot K) := by
  refine F.ok sc_law_pot (fun vs H Q E h => ?_) (fun cdv A outer s H vs Q E hr h => ?_)
  · obtain ⟨a, ns, m, rfl, _⟩ := h
    rfl
  · refine ⟨_, (pss_cons (ps_set (i := 2) sc_law_pot.nd rfl (.inl rfl) (pe_ifExp (pt_cmpR op_lt (pv 1) (pe_callB call_len_seq (by rfl) m_len (by decide +kernel) (pa_cons (pv 0) pa_nil)) (nomark _)) (pe_ix ix_list (pv 0) (pv 1) (fun _ _ => rfl)) (pe_op op_add (pe_op op_mul pe_int (pv 1)) pe_int)))
      (pss_cons (ps_set (i := 3) sc_law_pot.nd rfl (.inl rfl) (pe_op op_mul (pe_op op_mod (pe_callTy call_int1 (by rfl) m_int (by decide +kernel) (pa_cons (pe_callB call_abs (by rfl) m_abs (by decide +kernel) (pa_cons (pv 2) pa_nil)) pa_nil)) (pe_op op_powW (pe_op op_powW pe_int pe_int) pe_int)) (pe_callTy call_int1 (by rfl) m_int (by decide +kernel) (pa_cons (pe_cmpR op_ge (pe_callB call_abs (by rfl) m_abs (by decide +kernel) (pa_cons (pv 2) pa_nil)) (pe_op op_powW pe_int pe_int) (nomark _)) pa_nil))))
      (pss_cons (ps_set (i := 4) sc_law_pot.nd rfl (.inl rfl) (pe_op op_mod (pe_callTy call_int1 (by rfl) m_int (by decide +kernel) (pa_cons (pv 2) pa_nil)) pe_int))
      (pss_one (ps_ret (pe_lst (pa_cons (pv 3) (pa_cons (pe_op op_mod (pe_callTy call_int1 (by rfl) m_int (by decide +kernel) (pa_cons (pe_op op_add (pe_op op_add (pe_op op_mul (pv 4) pe_int) (pe_op op_mul (pe_op op_mul pe_int (pv 1)) (pv 1))) pe_int) pa_nil)) pe_int) (pa_cons pe_int pa_nil))))))))), ?_⟩
    obtain ⟨a, ns, m, rfl, hl, hn, hm, hm2, q⟩ := h
    refine rd_cell hl hm ⟨by decide, by decide⟩ rfl rfl fun z => ?_
    refine ⟨.int z, rfl, z, rfl, .inl ⟨_, rfl, 10, 60, rfl, rfl, bigB, _, 5, rfl, rfl, bigA, _, _, rfl, rfl, big_pos, .int z, rfl, z, rfl, 10, 18, rfl, rfl, bigC, _, _, rfl, rfl, .inr ⟨_, rfl, _, _, rfl, rfl, .inr (b01 _), ?_⟩⟩⟩
    · dsimp only
      have o0 := own_ok (if z < 0 then -z else z) (decide ((10 : Int) ^ (18 : Int).toNat ≤ if z < 0 then -z else z))
      generalize ((if z < 0 then -z else z) % ((10 : Int) ^ (60 : Int).toNat) ^ (5 : Int).toNat) * (if decide ((10 : Int) ^ (18 : Int).toNat ≤ if z < 0 then -z else z) = true then (1 : Int) else 0) = o at o0 ⊢
      refine ⟨.int z, rfl, .inl ⟨z, rfl, z, _, rfl, rfl, (by show (0 : Int) < 2305843009213693951; decide), ?_⟩⟩
      dsimp only
      generalize hz : z % 2305843009213693951 = y
      refine ⟨.int o, rfl, .int y, rfl, y, _, rfl, rfl, .inr ⟨by decide, by decide⟩, .int m, rfl, _, m, rfl, rfl, .inl ⟨by decide, by decide⟩, .int m, rfl, _, m, rfl, rfl, .inr ⟨by omega, by omega⟩, _, _, rfl, rfl, _, _, rfl, rfl, .inl ⟨_, rfl, _, _, rfl, rfl, (by show (0 : Int) < 2305843009213693921; decide), ?_⟩⟩
      refine ⟨by show 3 ≤ sizeLine; decide, fun p np => ?_⟩
      refine q _ p np (sameU np) ⟨o, _, 0, upd_same, o0.1, o0.2, Int.emod_nonneg _ (by decide), ?_, by decide, by decide⟩
      exact Int.lt_trans (Int.emod_lt_of_pos _ (by decide)) (by decide)

theorem ok_law {f : Addr} {fd : FuncData} (F : Fun K "law" "law" s_law f fd) (m_all : mg "all" = none) (c_law_cells : Cal P w K mg base 1 "_law_cells" ["_law_script", "_law_most"] (sp_law_cells K)) (c_law_right : Cal P w K mg base 5 "_law_right" ["_law_pot_here"] (sp_law_right K)) (c_law_pot : Cal P w K mg base 1 "_law_pot" ["_law_script", "_law_place"] (sp_law_pot K)) : FnOk P w K mg base CX0 6 f fd ["_law_script"] (sp_law K) := by
  refine F.ok sc_law (fun vs H Q E h => ?_) (fun cdv A outer s H vs Q E hr h => ?_)
  · obtain ⟨a, ns, rfl, _⟩ := h
    rfl
  · refine ⟨_, (pss_one (ps_ret (pe_callB (cr_all rfl) (by rfl) m_all (by decide +kernel) (pa_cons (pe_lc (own := [("_law_place", 1)]) (g := gName 1) rfl sc_law.nd (pi_list (pe_call c_law_cells.G (hr.mono (by decide)) (by rfl) c_law_cells.g c_law_cells.kp c_law_cells.b .nil pass0 (pa_cons (pv 0) (pa_cons pe_int pa_nil)))) (blkOk_by (own := [("_law_place", 1)]) (N := N_law) (sc := defScope s_law) (by decide +kernel)) (fun _ _ _ _ _ => (pg_name (i := 1) sc_law.nd rfl (.inl rfl))) (fun _ _ _ _ _ => pts_nil) (fun _ _ _ _ _ => (pe_call c_law_right.G (hr.mono (by decide)) (by rfl) c_law_right.g c_law_right.kp c_law_right.b .nil pass0 (pa_cons (pe_call c_law_pot.G (hr.mono (by decide)) (by rfl) c_law_pot.g c_law_pot.kp c_law_pot.b .nil pass0 (pa_cons (pv 0) (pa_cons (pv 1) pa_nil))) pa_nil)))) pa_nil)))), ?_⟩
    obtain ⟨a, ns, rfl, hl, hn, q⟩ := h
    refine ⟨.ref a, rfl, a, ns, 3, rfl, hl, hn, by decide, by decide, fun H1 l k nl sm hk k1 k2 => ?_⟩
    refine ⟨l, rfl, ⟨_, SqL.of hk⟩, fun D nD => ?_⟩
    have nDl : D ≠ l := fun z => by
      rw [z, hk] at nD
      cases nD
    refine lc_list (K := K) (a := l) (xs := rgV 0 (k : Int)) (fun i H' => Same H1 H' ∧ H' D = some (.lst (List.replicate i (.bl true)))) ⟨sameU nD, upd_same⟩ (fun i H' _ hP => sqL_same hP.1 (SqL.of hk)) ?_ ?_
    · intro i x H2 hx hP
      have hi : i < k := by
        have e := (List.getElem?_eq_some_iff.mp hx).1
        rw [rgV_length] at e
        omega
      have ex : x = .int (i : Int) := by
        unfold rgV at hx
        rw [List.getElem?_map, List.getElem?_range (by omega)] at hx
        have e := Option.some.inj hx
        rw [← e]
        show V.int (0 + (i : Int)) = V.int (i : Int)
        rw [Int.zero_add]
      subst ex
      refine ⟨rfl, .ref a, rfl, .int (i : Int), rfl, a, ns, (i : Int), rfl, sqL_same (sm.trans hP.1) hl, hn, by omega, by omega, fun H3 p np sm3 hp => ?_⟩
      refine ⟨p, rfl, hp, fun H4 hB => ?_⟩
      have pD : D ≠ p := ne_of_none hP.2 np
      refine ⟨List.replicate i (.bl true), hB _ _ pD (sm3 _ _ hP.2), ?_, ?_, ?_⟩
      · rw [List.length_replicate]
        exact small1000 (by omega)
      · intro b o e
        have nb : b ≠ D := ne_of_none e nD
        have nbp : b ≠ p := ne_of_none (hP.1 b o e) np
        rw [upd_ne nb]
        exact hB b o nbp (sm3 b o (hP.1 b o e))
      · rw [upd_same, List.replicate_succ']
    · intro H2 hP
      rw [rgV_length] at hP
      have hD := hP.2
      refine ⟨D, List.replicate ((k : Int) - 0).toNat true, rfl, SqL.of (by rw [hD, List.map_replicate]), ?_⟩
      rw [all_rep]
      exact q _
end
end Uq

namespace Uq
open PySem PySem.Spec PyProof.Rows L2

/-! ### units -/
def How (h : Str) : Prop := h = "near" ∨ h = "even" ∨ h = "down" ∨ h = "up"
def Un (K : PySem.W.Frag) (H : Hp) (u : Addr) (b : Int) (h : Str) : Prop := SqT K H u [.int b, .str h] ∧ 2 ≤ b ∧ b ≤ 100 ∧ How h
theorem Un.same {K : PySem.W.Frag} {H H' : Hp} {u : Addr} {b : Int} {h : Str} (e : Same H H') (x : Un K H u b h) : Un K H' u b h := ⟨sqT_same e x.1, x.2⟩
theorem Un.but {K : PySem.W.Frag} {H H' : Hp} {p u : Addr} {b : Int} {h : Str} (e : But p H H') (n : u ≠ p) (x : Un K H u b h) : Un K H' u b h := ⟨e.seqT n x.1, x.2⟩
/-- a tuple of the module's own -/
def TupK (K : PySem.W.Frag) (a : Addr) (xs : List V) : Prop := ∃ (o : Obj) (its : Array Value) (n : Nat), K.lookup a = some o ∧ o.cls = .type "tuple" ∧ o.data = .seq its n ∧ its.size ≤ sizeLine ∧ Vals xs its.toList
def hows : List V := [.str "near", .str "even", .str "down", .str "up"]
theorem in_hows {h : Str} (x : How h) : inV (.str h) hows = true := by
  rcases x with rfl | rfl | rfl | rfl <;> decide +kernel
theorem ty_tup {K : PySem.W.Frag} {H : Hp} {a : Addr} {xs : List V} (h : SqT K H a xs) : TyX K H (.ref a) (.type "tuple") := by
  rcases h with (h | ⟨o, h⟩) | ⟨o, its, n, h, hc, _⟩
  · exact .base (.tup h)
  · exact .fTuple h
  · exact .kTuple h hc
def sp_is_integer (K : PySem.W.Frag) : Sp := fun vs H Q _ => ∃ i : Int, vs = [.int i] ∧ Q (.bl true) H
def sp_is_units (K : PySem.W.Frag) : Sp := fun vs H Q _ => ∃ (u : Addr) (b : Int) (h : Str), vs = [.ref u] ∧ Un K H u b h ∧ Q (.bl true) H
/-- many / whole rounded -/
def rnd (h : Str) (a b : Int) : Int := if h = "down" ∨ a % b = 0 then a / b else if h = "up" ∨ b < 2 * (a % b) then a / b + 1 else if 2 * (a % b) < b then a / b else if h = "near" then a / b + 1 else a / b + a / b % 2
def sp_rounded (K : PySem.W.Frag) : Sp := fun vs H Q _ => ∃ (h : Str) (a b : Int), vs = [.str h, .int a, .int b] ∧ 0 < b ∧ b < 2 ^ 62 ∧ ∀ H', Same H H' → Q (.int (rnd h a b)) H'
def sp_shown (K : PySem.W.Frag) : Sp := fun vs H Q _ => ∃ (u : Addr) (b : Int) (h : Str) (a c : Int), vs = [.ref u, .int a, .int c] ∧ Un K H u b h ∧ 0 < c ∧ c < 2 ^ 62 ∧ 0 ≤ a ∧ a ≤ c ∧ ∀ H', Same H H' → Q (.int (rnd h (b * a) c)) H'
def sp_law_rounded (K : PySem.W.Frag) : Sp := fun vs H Q _ => ∃ (h : Str) (a b : Int), vs = [.str h, .int a, .int b] ∧ How h ∧ 0 < b ∧ b < 2 ^ 62 ∧ Q (.int (rnd h a b)) H
/-- drawn units -/
def sp_law_units (K : PySem.W.Frag) : Sp := fun vs H Q _ => ∃ (p : Addr) (c : Nat) (m : Int), vs = [.ref p, .int m] ∧ Pot H p c ∧ c < 90000 ∧ 2 ≤ m ∧ m ≤ 100 ∧
  ∀ H' u b h, H p ≠ none → But p H H' → Pot H' p (c + 2) → H u = none → u ≠ p → Un K H' u b h → b ≤ m → H' u = some (.tup [.int b, .str h]) → Q (.ref u) H'
theorem str_of {h x : Str} (e : decide (V.str h = V.str x) = true) : h = x := V.str.inj (of_decide_eq_true e)
theorem str_not {h x : Str} (e : ¬ decide (V.str h = V.str x) = true) : h ≠ x := fun z => e (decide_eq_true (by rw [z]))
theorem int_of {i j : Int} (e : decide (V.int i = V.int j) = true) : i = j := V.int.inj (of_decide_eq_true e)
theorem int_not {i j : Int} (e : ¬ decide (V.int i = V.int j) = true) : i ≠ j := fun z => e (decide_eq_true (by rw [z]))
theorem no_pylong {a b : Int} (h : 0 < b) (h2 : b < 2 ^ 62) : CDivP a b := ⟨h, PyProof.noPylong_of_log2 (Nat.lt_of_lt_of_le (PySem.Flt.log2_lt_of (show 0 < 62 by decide) (show b.natAbs < 2 ^ 62 by omega)) (by decide))⟩
section
variable {P : Program} {w : World} {K : PySem.W.Frag} {mg : Str → Option Value} {base : Heap}
theorem ok_is_integer {f : Addr} {fd : FuncData} (F : Fun K "is_integer" "is_integer" s_is_integer f fd) (m_isinstance : mg "isinstance" = none) (m_int : mg "int" = none) (m_bool : mg "bool" = none) : FnOk P w K mg base CX0 1 f fd ["value"] (sp_is_integer K) := by
  refine F.ok sc_is_integer (fun vs H Q E h => ?_) (fun cdv A outer s H vs Q E hr h => ?_)
  · obtain ⟨i, rfl, _⟩ := h
    rfl
  · refine ⟨_, (pss_one (ps_ret (pe_and (pe_callB call_isi (by rfl) m_isinstance (by decide +kernel) (pa_cons (pv 0) (pa_cons (pe_bltn (v := .ty "int") (by rfl) m_int (by decide +kernel) rfl) pa_nil))) (pe_one (pe_not (pe_callB call_isi (by rfl) m_isinstance (by decide +kernel) (pa_cons (pv 0) (pa_cons (pe_bltn (v := .ty "bool") (by rfl) m_bool (by decide +kernel) rfl) pa_nil)))))))), ?_⟩
    obtain ⟨i, rfl, q⟩ := h
    exact ⟨.int i, rfl, .int i, .ty "int", _, _, true, rfl, .ty "int", .base (.int i), kit_ty (by decide +kernel), true, rfl, .int i, rfl, .int i, .ty "bool", _, _, false, rfl, .ty "bool", .base (.int i), kit_ty (by decide +kernel), false, rfl, q⟩

theorem ok_is_units {f : Addr} {fd : FuncData} (F : Fun K "is_units" "is_units" s_is_units f fd) (m_isinstance : mg "isinstance" = none) (m_tuple : mg "tuple" = none) (m_len : mg "len" = none) (m_str : mg "str" = none) {a_HOWS : Addr} (g_HOWS : mg "HOWS" = some (.ref a_HOWS)) (t_HOWS : TupK K a_HOWS hows) (c_is_integer : Cal P w K mg base 1 "is_integer" ["value"] (sp_is_integer K)) : FnOk P w K mg base CX0 2 f fd ["value"] (sp_is_units K) := by
  refine F.ok sc_is_units (fun vs H Q E h => ?_) (fun cdv A outer s H vs Q E hr h => ?_)
  · obtain ⟨u, b, h, rfl, _⟩ := h
    rfl
  · refine ⟨_, (pss_cons (ps_if (PW.pt (pw_or (pt_not (pt_val (pe_callB call_isi (by rfl) m_isinstance (by decide +kernel) (pa_cons (pv 0) (pa_cons (pe_bltn (v := .ty "tuple") (by rfl) m_tuple (by decide +kernel) rfl) pa_nil))))) (pw_or1 (pt_cmpR op_ne (pe_callB call_len_seq (by rfl) m_len (by decide +kernel) (pa_cons (pv 0) pa_nil)) pe_int (nomark _))))) (pss_one (ps_ret pe_bl)) pss_nil)
      (pss_cons (ps_asg (pv 0) (pg_tup rfl (pgs_cons (pg_name (i := 1) sc_is_units.nd rfl (.inl rfl)) (pgs_cons (pg_name (i := 2) sc_is_units.nd rfl (.inl rfl)) pgs_nil))))
      (pss_cons (ps_if (PW.pt (pw_or (pt_not (pt_val (pe_call c_is_integer.G (hr.mono (by decide)) (by rfl) c_is_integer.g c_is_integer.kp c_is_integer.b .nil pass0 (pa_cons (pv 1) pa_nil)))) (pw_or1 (pt_not (pt_val (pe_callB call_isi (by rfl) m_isinstance (by decide +kernel) (pa_cons (pv 2) (pa_cons (pe_bltn (v := .ty "str") (by rfl) m_str (by decide +kernel) rfl) pa_nil)))))))) (pss_one (ps_ret pe_bl)) pss_nil)
      (pss_one (ps_ret (pe_and (pe_chain op_le op_le pe_int (pv 1) pe_int) (pe_one (pe_cmpR op_in_seq (pv 2) (pe_glob (v := .ref a_HOWS) (by rfl) g_HOWS rfl) rfl)))))))), ?_⟩
    obtain ⟨u, b, h, rfl, ⟨hu, b0, b1, hh⟩, q⟩ := h
    refine ⟨.ref u, rfl, .ref u, .ty "tuple", _, _, true, rfl, .ty "tuple", ty_tup hu, kit_ty (by decide +kernel), true, rfl, ?_⟩
    refine iteF ⟨.ref u, rfl, u, _, rfl, .inr hu, rfl, _, rfl, iteF ?_⟩
    refine ⟨.ref u, rfl, u, _, rfl, hu, rfl, _, _, rfl, _, _, rfl, rfl, ?_⟩
    refine ⟨.int b, rfl, b, rfl, true, rfl, iteF ⟨.str h, rfl, .str h, .ty "str", _, _, true, rfl, .ty "str", .base (.str h), kit_ty (by decide +kernel), true, rfl, iteF ?_⟩⟩
    refine ⟨.int b, rfl, 2, b, rfl, rfl, _, rfl, iteDY b0 ?_⟩
    refine ⟨b, 100, rfl, rfl, _, rfl, iteDY b1 ?_⟩
    refine ⟨.str h, rfl, a_HOWS, hows, rfl, .inr (.inr t_HOWS), rfl, by decide +kernel, ?_⟩
    rw [in_hows hh]
    exact q

theorem ok_rounded {f : Addr} {fd : FuncData} (F : Fun K "rounded" "rounded" s_rounded f fd) (m_divmod : mg "divmod" = none) : FnOk P w K mg base CX0 1 f fd ["how", "many", "whole"] (sp_rounded K) := by
  refine F.ok sc_rounded (fun vs H Q E h => ?_) (fun cdv A outer s H vs Q E hr h => ?_)
  · obtain ⟨h, a, b, rfl, _⟩ := h
    rfl
  · refine ⟨_, (pss_cons (ps_asg (pe_callB call_divmodW (by rfl) m_divmod (by decide +kernel) (pa_cons (pv 1) (pa_cons (pv 2) pa_nil))) (pg_tup rfl (pgs_cons (pg_name (i := 3) sc_rounded.nd rfl (.inl rfl)) (pgs_cons (pg_name (i := 4) sc_rounded.nd rfl (.inl rfl)) pgs_nil))))
      (pss_cons (ps_if (PW.pt (pw_or (pt_cmpR op_eq (pv 0) pe_str (nomark _)) (pw_or1 (pt_cmpR op_eq (pv 4) pe_int (nomark _))))) (pss_one (ps_ret (pv 3))) pss_nil)
      (pss_cons (ps_if (PW.pt (pw_or (pt_cmpR op_eq (pv 0) pe_str (nomark _)) (pw_or1 (pt_cmpR op_gt (pe_op op_mul pe_int (pv 4)) (pv 2) (nomark _))))) (pss_one (ps_ret (pe_op op_add (pv 3) pe_int))) pss_nil)
      (pss_cons (ps_if (pt_cmpR op_lt (pe_op op_mul pe_int (pv 4)) (pv 2) (nomark _)) (pss_one (ps_ret (pv 3))) pss_nil)
      (pss_cons (ps_if (pt_cmpR op_eq (pv 0) pe_str (nomark _)) (pss_one (ps_ret (pe_op op_add (pv 3) pe_int))) pss_nil)
      (pss_one (ps_ret (pe_op op_add (pv 3) (pe_op op_mod (pv 3) pe_int))))))))), ?_⟩
    obtain ⟨h, a, b, rfl, b0, b1, q⟩ := h
    refine ⟨.int a, rfl, .int b, rfl, a, b, rfl, no_pylong b0 b1, fun t nt => ?_⟩
    refine ⟨t, _, rfl, SqT.of upd_same, rfl, _, _, rfl, _, _, rfl, rfl, ?_⟩
    have Q' : ∀ z, rnd h a b = z → Q (.int z) (upd H t (.tup [.int (a / b), .int (a % b)])) := fun z e => e ▸ q _ (sameU nt)
    unfold rnd at Q'
    refine ⟨.str h, rfl, rfl, _, rfl, ite2 (fun e => ?_) (fun e => ⟨.int (a % b), rfl, rfl, _, rfl, ite2 (fun e2 => ?_) (fun e2 => ?_)⟩)⟩
    · exact iteT ⟨.int (a / b), rfl, Q' _ (if_pos (.inl (str_of e)))⟩
    · exact ⟨.int (a / b), rfl, Q' _ (if_pos (.inr (int_of e2)))⟩
    · have n1 : ¬ (h = "down" ∨ a % b = 0) := fun z => z.elim (str_not e) (int_not e2)
      refine ⟨.str h, rfl, rfl, _, rfl, ite2 (fun e3 => ?_) (fun e3 => ⟨.int (a % b), rfl, _, _, rfl, rfl, .inl ⟨by decide, by decide⟩, .int b, rfl, _, b, rfl, rfl, _, rfl, ite2 (fun e4 => ?_) (fun e4 => ?_)⟩)⟩
      · exact iteT ⟨.int (a / b), rfl, _, _, rfl, rfl, Q' _ (by rw [if_neg n1, if_pos (.inl (str_of e3))])⟩
      · exact ⟨.int (a / b), rfl, _, _, rfl, rfl, Q' _ (by rw [if_neg n1, if_pos (.inr (of_decide_eq_true e4))])⟩
      · have n2 : ¬ (h = "up" ∨ b < 2 * (a % b)) := fun z => z.elim (str_not e3) (fun y => e4 (decide_eq_true y))
        refine ⟨.int (a % b), rfl, _, _, rfl, rfl, .inl ⟨by decide, by decide⟩, .int b, rfl, _, b, rfl, rfl, _, rfl, ite2 (fun e5 => ?_) (fun e5 => ?_)⟩
        · exact ⟨.int (a / b), rfl, Q' _ (by rw [if_neg n1, if_neg n2, if_pos (of_decide_eq_true e5)])⟩
        · have n3 : ¬ (2 * (a % b) < b) := fun y => e5 (decide_eq_true y)
          refine ⟨.str h, rfl, rfl, _, rfl, ite2 (fun e6 => ?_) (fun e6 => ?_)⟩
          · exact ⟨.int (a / b), rfl, _, _, rfl, rfl, Q' _ (by rw [if_neg n1, if_neg n2, if_neg n3, if_pos (str_of e6)])⟩
          · exact ⟨.int (a / b), rfl, .int (a / b), rfl, _, _, rfl, rfl, (by show (0 : Int) < 2; decide), _, _, rfl, rfl, Q' _ (by rw [if_neg n1, if_neg n2, if_neg n3, if_neg (str_not e6)])⟩

theorem ok_shown {f : Addr} {fd : FuncData} (F : Fun K "shown" "shown" s_shown f fd) (c_is_units : Cal P w K mg base 2 "is_units" ["value"] (sp_is_units K)) (c_is_integer : Cal P w K mg base 1 "is_integer" ["value"] (sp_is_integer K)) (c_rounded : Cal P w K mg base 1 "rounded" ["how", "many", "whole"] (sp_rounded K)) : FnOk P w K mg base CX0 3 f fd ["units", "many", "whole"] (sp_shown K) := by
  refine F.ok sc_shown (fun vs H Q E h => ?_) (fun cdv A outer s H vs Q E hr h => ?_)
  · obtain ⟨u, b, h, a, c, rfl, _⟩ := h
    rfl
  · refine ⟨_, (pss_cons (ps_if (pt_not (pt_val (pe_call c_is_units.G (hr.mono (by decide)) (by rfl) c_is_units.g c_is_units.kp c_is_units.b .nil pass0 (pa_cons (pv 0) pa_nil)))) (pss_one ps_never) pss_nil)
      (pss_cons (ps_if (PW.pt (pw_or (pt_not (pt_val (pe_call c_is_integer.G (hr.mono (by decide)) (by rfl) c_is_integer.g c_is_integer.kp c_is_integer.b .nil pass0 (pa_cons (pv 2) pa_nil)))) (pw_or1 (pt_cmpR op_lt (pv 2) pe_int (nomark _))))) (pss_one ps_never) pss_nil)
      (pss_cons (ps_if (PW.pt (pw_or (pt_not (pt_val (pe_call c_is_integer.G (hr.mono (by decide)) (by rfl) c_is_integer.g c_is_integer.kp c_is_integer.b .nil pass0 (pa_cons (pv 1) pa_nil)))) (pw_or1 (pt_not (pt_chain op_le op_le pe_int (pv 1) (pv 2)))))) (pss_one ps_never) pss_nil)
      (pss_cons (ps_asg (pv 0) (pg_tup rfl (pgs_cons (pg_name (i := 3) sc_shown.nd rfl (.inl rfl)) (pgs_cons (pg_name (i := 4) sc_shown.nd rfl (.inl rfl)) pgs_nil))))
      (pss_one (ps_ret (pe_call c_rounded.G (hr.mono (by decide)) (by rfl) c_rounded.g c_rounded.kp c_rounded.b .nil pass0 (pa_cons (pv 4) (pa_cons (pe_op op_mul (pv 3) (pv 1)) (pa_cons (pv 2) pa_nil)))))))))), ?_⟩
    obtain ⟨u, b, h, a, c, rfl, hu, c0, c1, a0, a1, q⟩ := h
    refine ⟨.ref u, rfl, u, b, h, rfl, hu, true, rfl, iteF ?_⟩
    refine ⟨.int c, rfl, c, rfl, true, rfl, iteF ⟨.int c, rfl, c, 1, rfl, rfl, _, rfl, iteDN (by omega) ?_⟩⟩
    refine ⟨.int a, rfl, a, rfl, true, rfl, iteF ⟨.int a, rfl, 0, a, rfl, rfl, _, rfl, iteDY a0 ?_⟩⟩
    refine ⟨.int c, rfl, a, c, rfl, rfl, _, rfl, iteNS a1 ?_⟩
    refine ⟨.ref u, rfl, u, _, rfl, hu.1, rfl, _, _, rfl, _, _, rfl, rfl, ?_⟩
    have hb := hu.2
    exact ⟨.str h, rfl, .int b, rfl, .int a, rfl, b, a, rfl, rfl, .inl ⟨by omega, by omega⟩, .int c, rfl, h, b * a, c, rfl, c0, c1, q⟩
end
end Uq

namespace Uq
open PySem PySem.Spec PyProof.Rows L2

/-! ### shares and their stretches -/
def red (a b : Int) : Int × Int := (a / ((Nat.gcd a.natAbs b.natAbs : Nat) : Int), b / ((Nat.gcd a.natAbs b.natAbs : Nat) : Int))
abbrev StD := (Int × Int) × Bool × (Int × Int) × Bool
def Sh (b : Int) (v : V) : Prop := (∃ s : Int, v = .int s ∧ 0 ≤ s ∧ s ≤ b) ∨ v = .str "none" ∨ v = .str "some"
def reachOf (h : Str) (s : Int) : Int × Bool × Int × Bool :=
  if h = "down" then (2 * s, true, 2 * s + 2, false) else if h = "up" then (2 * s - 2, false, 2 * s, true) else if h = "near" then (2 * s - 1, true, 2 * s + 1, false) else (2 * s - 1, decide (s % 2 = 0), 2 * s + 1, decide (s % 2 = 0))
def stI (b : Int) (r : Int × Bool × Int × Bool) : StD :=
  (red (if 0 > r.1 then 0 else r.1) (2 * b), r.2.1 || decide (r.1 < 0), red (if 2 * b < r.2.2.1 then 2 * b else r.2.2.1) (2 * b), r.2.2.2 || decide (2 * b < r.2.2.1))
def stOf (h : Str) (b : Int) : V → StD
  | .str x => if x = "none" then ((0, 1), true, (0, 1), true) else ((0, 1), false, (1, b), false)
  | .int s => stI b (reachOf h s)
  | _ => ((0, 1), true, (0, 1), true)
def words : List V := [.str "none", .str "some"]
def sp_least_terms (K : PySem.W.Frag) : Sp := fun vs H Q _ => ∃ a b : Int, vs = [.int a, .int b] ∧ 0 < b ∧ b < 2 ^ 62 ∧ ∀ H' t, Same H H' → H t = none → H' t = some (.tup [.int (red a b).1, .int (red a b).2]) → Q (.ref t) H'
def sp_is_share (K : PySem.W.Frag) : Sp := fun vs H Q _ => ∃ (u : Addr) (b : Int) (h : Str) (v : V), vs = [.ref u, v] ∧ Un K H u b h ∧ Sh b v ∧ Q (.bl true) H
def sp_reach (K : PySem.W.Frag) : Sp := fun vs H Q _ => ∃ (h : Str) (s : Int), vs = [.str h, .int s] ∧ ∀ H' t, Same H H' → H t = none → H' t = some (.tup [.int (reachOf h s).1, .bl (reachOf h s).2.1, .int (reachOf h s).2.2.1, .bl (reachOf h s).2.2.2]) → Q (.ref t) H'
def St (H : Hp) (t t1 t2 : Addr) (d : StD) : Prop := H t = some (.tup [.ref t1, .bl d.2.1, .ref t2, .bl d.2.2.2]) ∧ H t1 = some (.tup [.int d.1.1, .int d.1.2]) ∧ H t2 = some (.tup [.int d.2.2.1.1, .int d.2.2.1.2])
def SpSt (K : PySem.W.Frag) : Sp := fun vs H Q _ => ∃ (u : Addr) (b : Int) (h : Str) (v : V), vs = [.ref u, v] ∧ Un K H u b h ∧ Sh b v ∧
  ∀ H' t t1 t2, Same H H' → H t = none → H t1 = none → H t2 = none → St H' t t1 t2 (stOf h b v) → Q (.ref t) H'
abbrev sp_stretch := SpSt
theorem St.same {H H' : Hp} {t t1 t2 : Addr} {d : StD} (e : Same H H') (x : St H t t1 t2 d) : St H' t t1 t2 d := ⟨e _ _ x.1, e _ _ x.2.1, e _ _ x.2.2⟩
def within (d : StD) (m w : Int) : Bool :=
  (decide (0 < m * d.1.2 - d.1.1 * w) || (decide (m * d.1.2 - d.1.1 * w = 0) && d.2.1)) && (decide (0 < d.2.2.1.1 * w - m * d.2.2.1.2) || (decide (d.2.2.1.1 * w - m * d.2.2.1.2 = 0) && d.2.2.2))
def SmD (d : StD) : Prop := -(2 ^ 62) < d.1.1 ∧ d.1.1 < 2 ^ 62 ∧ -(2 ^ 62) < d.2.2.1.1 ∧ d.2.2.1.1 < 2 ^ 62
def sp_law_is_within (K : PySem.W.Frag) : Sp := fun vs H Q _ => ∃ (t t1 t2 : Addr) (d : StD) (m w : Int), vs = [.ref t, .int m, .int w] ∧ St H t t1 t2 d ∧ SmD d ∧ 0 ≤ m ∧ m < 2 ^ 62 ∧ Q (.bl (within d m w)) H
theorem fresh_same {q : Addr} {H H' : Hp} (e : Same H H') (h : H' q = none) : H q = none := Same.free e h
theorem gcd_pos {a b : Int} (hb : 0 < b) : 0 < ((Nat.gcd a.natAbs b.natAbs : Nat) : Int) := Int.natCast_pos.mpr (Nat.gcd_pos_of_pos_right _ (by omega))
theorem gcd_le {a b : Int} (hb : 0 < b) : ((Nat.gcd a.natAbs b.natAbs : Nat) : Int) ≤ b := by
  have z := Nat.gcd_le_right (n := b.natAbs) a.natAbs (by omega)
  omega
theorem red_mul {a b : Int} (hb : 0 < b) : (red a b).1 * ((Nat.gcd a.natAbs b.natAbs : Nat) : Int) = a ∧ (red a b).2 * ((Nat.gcd a.natAbs b.natAbs : Nat) : Int) = b := by
  have d1 : ((Nat.gcd a.natAbs b.natAbs : Nat) : Int) ∣ a := by
    rw [← Int.dvd_natAbs]
    exact Int.natCast_dvd_natCast.mpr (Nat.gcd_dvd_left _ _)
  have d2 : ((Nat.gcd a.natAbs b.natAbs : Nat) : Int) ∣ b := by
    rw [← Int.dvd_natAbs]
    exact Int.natCast_dvd_natCast.mpr (Nat.gcd_dvd_right _ _)
  exact ⟨Int.ediv_mul_cancel d1, Int.ediv_mul_cancel d2⟩
theorem red_lt {a b : Int} (hb : 0 < b) (h0 : 0 ≤ a) (h1 : a < 2 ^ 62) : 0 ≤ (red a b).1 ∧ (red a b).1 < 2 ^ 62 := ⟨Int.ediv_nonneg h0 (Int.le_of_lt (gcd_pos hb)), Int.lt_of_le_of_lt (Int.ediv_le_self _ h0) h1⟩
theorem small_st {h : Str} {b : Int} {v : V} (b0 : 2 ≤ b) (b1 : b ≤ 100) (hv : Sh b v) : SmD (stOf h b v) := by
  rcases hv with ⟨s, rfl, s0, s1⟩ | rfl | rfl
  · have r : -10 ≤ (reachOf h s).1 ∧ (reachOf h s).1 ≤ 1000 ∧ 0 ≤ (reachOf h s).2.2.1 ∧ (reachOf h s).2.2.1 ≤ 1000 := by
      unfold reachOf
      split
      · exact ⟨by show -10 ≤ 2 * s; omega, by show 2 * s ≤ 1000; omega, by show 0 ≤ 2 * s + 2; omega, by show 2 * s + 2 ≤ 1000; omega⟩
      · split
        · exact ⟨by show -10 ≤ 2 * s - 2; omega, by show 2 * s - 2 ≤ 1000; omega, by show 0 ≤ 2 * s; omega, by show 2 * s ≤ 1000; omega⟩
        · split <;> exact ⟨by show -10 ≤ 2 * s - 1; omega, by show 2 * s - 1 ≤ 1000; omega, by show 0 ≤ 2 * s + 1; omega, by show 2 * s + 1 ≤ 1000; omega⟩
    show SmD (stI b (reachOf h s))
    generalize reachOf h s = q at r
    have x := red_lt (a := if 0 > q.1 then 0 else q.1) (b := 2 * b) (by omega) (by split <;> omega) (by split <;> omega)
    have y := red_lt (a := if 2 * b < q.2.2.1 then 2 * b else q.2.2.1) (b := 2 * b) (by omega) (by split <;> omega) (by split <;> omega)
    exact ⟨by show -(2 ^ 62) < (red _ _).1; omega, x.2, by show -(2 ^ 62) < (red _ _).1; omega, y.2⟩
  · exact (show SmD ((0, 1), true, (0, 1), true) from ⟨by decide, by decide, by decide, by decide⟩)
  · have z : -(2 ^ 62) < (1 : Int) ∧ (1 : Int) < 2 ^ 62 := ⟨by decide, by decide⟩
    exact (show SmD ((0, 1), false, (1, b), false) from ⟨(by decide : -(2 ^ 62) < (0 : Int)), (by decide : (0 : Int) < 2 ^ 62), z.1, z.2⟩)
section
variable {P : Program} {w : World} {K : PySem.W.Frag} {mg : Str → Option Value} {base : Heap}
theorem ok_least_terms {f : Addr} {fd : FuncData} (F : Fun K "least_terms" "least_terms" s_least_terms f fd) (g_gcd : mg "gcd" = some (.builtin "math.gcd")) : FnOk P w K mg base CX0 1 f fd ["over", "under"] (sp_least_terms K) := by
  refine F.ok sc_least_terms (fun vs H Q E h => ?_) (fun cdv A outer s H vs Q E hr h => ?_)
  · obtain ⟨a, b, rfl, _⟩ := h
    rfl
  · refine ⟨_, (pss_cons (ps_set (i := 2) sc_least_terms.nd rfl (.inl rfl) (pe_callBfun cr_gcd (by rfl) g_gcd (pa_cons (pv 0) (pa_cons (pv 1) pa_nil))))
      (pss_one (ps_ret (pe_tup (pa_cons (pe_op op_fdivW (pv 0) (pv 2)) (pa_cons (pe_op op_fdivW (pv 1) (pv 2)) pa_nil)))))), ?_⟩
    obtain ⟨a, b, rfl, b0, b1, q⟩ := h
    refine ⟨.int a, rfl, .int b, rfl, a, b, rfl, ?_⟩
    have g0 := gcd_pos (a := a) b0
    have g1 := gcd_le (a := a) b0
    have wd : ∀ x : Int, CDivW x ((Nat.gcd a.natAbs b.natAbs : Nat) : Int) := fun x => wide_div (b := 62) g0 (by omega) (by decide) (by decide)
    refine ⟨.int a, rfl, .int ((Nat.gcd a.natAbs b.natAbs : Nat) : Int), rfl, a, _, rfl, rfl, wd a, .int b, rfl, .int ((Nat.gcd a.natAbs b.natAbs : Nat) : Int), rfl, b, _, rfl, rfl, wd b, ?_⟩
    exact ⟨by show 2 ≤ sizeLine; decide, fun t nt => q _ t (sameU nt) nt upd_same⟩

theorem ok_is_share {f : Addr} {fd : FuncData} (F : Fun K "is_share" "is_share" s_is_share f fd) (m_isinstance : mg "isinstance" = none) (m_str : mg "str" = none) {a_WORDS : Addr} (g_WORDS : mg "WORDS" = some (.ref a_WORDS)) (t_WORDS : TupK K a_WORDS words) (c_is_integer : Cal P w K mg base 1 "is_integer" ["value"] (sp_is_integer K)) : FnOk P w K mg base CX0 2 f fd ["units", "value"] (sp_is_share K) := by
  refine F.ok sc_is_share (fun vs H Q E h => ?_) (fun cdv A outer s H vs Q E hr h => ?_)
  · obtain ⟨u, b, h, v, rfl, _⟩ := h
    rfl
  · refine ⟨_, (pss_cons (ps_if (pt_val (pe_callB call_isi (by rfl) m_isinstance (by decide +kernel) (pa_cons (pv 1) (pa_cons (pe_bltn (v := .ty "str") (by rfl) m_str (by decide +kernel) rfl) pa_nil)))) (pss_one (ps_ret (pe_cmpR op_in_seq (pv 1) (pe_glob (v := .ref a_WORDS) (by rfl) g_WORDS rfl) rfl))) pss_nil)
      (pss_one (ps_ret (pe_and (pe_call c_is_integer.G (hr.mono (by decide)) (by rfl) c_is_integer.g c_is_integer.kp c_is_integer.b .nil pass0 (pa_cons (pv 1) pa_nil)) (pe_one (pe_chain op_le op_le pe_int (pv 1) (pe_ix ix_tup (pv 0) pe_int (fun _ _ => rfl)))))))), ?_⟩
    obtain ⟨u, b, h, v, rfl, hu, hv, q⟩ := h
    rcases hv with ⟨s, rfl, s0, s1⟩ | rfl | rfl
    · refine ⟨.int s, rfl, .int s, .ty "str", _, _, false, rfl, .ty "str", .base (.int s), kit_ty (by decide +kernel), false, rfl, ?_⟩
      refine iteF ⟨.int s, rfl, s, rfl, true, rfl, ?_⟩
      refine iteT ⟨.int s, rfl, 0, s, rfl, rfl, _, rfl, iteDY s0 ⟨.ref u, rfl, u, _, 0, .int b, rfl, rfl, hu.1, atI_nat (j := 0) rfl, s, b, rfl, rfl, ?_⟩⟩
      show Q (.bl (decide (s ≤ b))) H
      rw [decide_eq_true s1]
      exact q
    · refine ⟨.str "none", rfl, .str "none", .ty "str", _, _, true, rfl, .ty "str", .base (.str _), kit_ty (by decide +kernel), true, rfl, iteT ?_⟩
      exact ⟨.str "none", rfl, a_WORDS, words, rfl, .inr (.inr t_WORDS), rfl, by decide +kernel, q⟩
    · refine ⟨.str "some", rfl, .str "some", .ty "str", _, _, true, rfl, .ty "str", .base (.str _), kit_ty (by decide +kernel), true, rfl, iteT ?_⟩
      exact ⟨.str "some", rfl, a_WORDS, words, rfl, .inr (.inr t_WORDS), rfl, by decide +kernel, q⟩

theorem ok_reach {f : Addr} {fd : FuncData} (F : Fun K "reach" "reach" s_reach f fd) : FnOk P w K mg base CX0 1 f fd ["how", "number"] (sp_reach K) := by
  refine F.ok sc_reach (fun vs H Q E h => ?_) (fun cdv A outer s H vs Q E hr h => ?_)
  · obtain ⟨h, s, rfl, _⟩ := h
    rfl
  · refine ⟨_, (pss_cons (ps_if (pt_cmpR op_eq (pv 0) pe_str (nomark _)) (pss_one (ps_ret (pe_tup (pa_cons (pe_op op_mul pe_int (pv 1)) (pa_cons pe_bl (pa_cons (pe_op op_add (pe_op op_mul pe_int (pv 1)) pe_int) (pa_cons pe_bl pa_nil))))))) pss_nil)
      (pss_cons (ps_if (pt_cmpR op_eq (pv 0) pe_str (nomark _)) (pss_one (ps_ret (pe_tup (pa_cons (pe_op op_sub (pe_op op_mul pe_int (pv 1)) pe_int) (pa_cons pe_bl (pa_cons (pe_op op_mul pe_int (pv 1)) (pa_cons pe_bl pa_nil))))))) pss_nil)
      (pss_cons (ps_if (pt_cmpR op_eq (pv 0) pe_str (nomark _)) (pss_one (ps_ret (pe_tup (pa_cons (pe_op op_sub (pe_op op_mul pe_int (pv 1)) pe_int) (pa_cons pe_bl (pa_cons (pe_op op_add (pe_op op_mul pe_int (pv 1)) pe_int) (pa_cons pe_bl pa_nil))))))) pss_nil)
      (pss_cons (ps_set (i := 2) sc_reach.nd rfl (.inl rfl) (pe_cmpR op_eq (pe_op op_mod (pv 1) pe_int) pe_int (nomark _)))
      (pss_one (ps_ret (pe_tup (pa_cons (pe_op op_sub (pe_op op_mul pe_int (pv 1)) pe_int) (pa_cons (pv 2) (pa_cons (pe_op op_add (pe_op op_mul pe_int (pv 1)) pe_int) (pa_cons (pv 2) pa_nil))))))))))), ?_⟩
    obtain ⟨h, n, rfl, q⟩ := h
    have m2 : CMul 2 n := .inl ⟨by decide, by decide⟩
    refine ⟨.str h, rfl, rfl, _, rfl, ite2 (fun e => ?_) (fun e => ?_)⟩
    · refine ⟨.int n, rfl, 2, n, rfl, rfl, m2, .int n, rfl, 2, n, rfl, rfl, m2, _, _, rfl, rfl, by show 4 ≤ sizeLine; decide, fun t nt => ?_⟩
      have er : reachOf h n = (2 * n, true, 2 * n + 2, false) := if_pos (str_of e)
      rw [er] at q
      exact q _ t (sameU nt) nt upd_same
    · have n1 := str_not e
      refine ⟨.str h, rfl, rfl, _, rfl, ite2 (fun e2 => ?_) (fun e2 => ?_)⟩
      · refine ⟨.int n, rfl, 2, n, rfl, rfl, m2, _, _, rfl, rfl, .int n, rfl, 2, n, rfl, rfl, m2, by show 4 ≤ sizeLine; decide, fun t nt => ?_⟩
        have er : reachOf h n = (2 * n - 2, false, 2 * n, true) := by
          unfold reachOf
          rw [if_neg n1, if_pos (str_of e2)]
        rw [er] at q
        exact q _ t (sameU nt) nt upd_same
      · have n2 := str_not e2
        refine ⟨.str h, rfl, rfl, _, rfl, ite2 (fun e3 => ?_) (fun e3 => ?_)⟩
        · refine ⟨.int n, rfl, 2, n, rfl, rfl, m2, _, _, rfl, rfl, .int n, rfl, 2, n, rfl, rfl, m2, _, _, rfl, rfl, by show 4 ≤ sizeLine; decide, fun t nt => ?_⟩
          have er : reachOf h n = (2 * n - 1, true, 2 * n + 1, false) := by
            unfold reachOf
            rw [if_neg n1, if_neg n2, if_pos (str_of e3)]
          rw [er] at q
          exact q _ t (sameU nt) nt upd_same
        · have n3 := str_not e3
          refine ⟨.int n, rfl, n, 2, rfl, rfl, (by show (0 : Int) < 2; decide), rfl, ?_⟩
          refine ⟨.int n, rfl, 2, n, rfl, rfl, m2, _, _, rfl, rfl, _, rfl, .int n, rfl, 2, n, rfl, rfl, m2, _, _, rfl, rfl, _, rfl, by show 4 ≤ sizeLine; decide, fun t nt => ?_⟩
          have er : reachOf h n = (2 * n - 1, decide (n % 2 = 0), 2 * n + 1, decide (n % 2 = 0)) := by
            unfold reachOf
            rw [if_neg n1, if_neg n2, if_neg n3]
          have ed : decide (V.int (n % 2) = V.int 0) = decide (n % 2 = 0) := by
            rw [decide_eq_decide]
            exact ⟨fun z => V.int.inj z, fun z => by rw [z]⟩
          rw [er] at q
          refine q _ t (sameU nt) nt ?_
          rw [upd_same, ← ed]

theorem ok_stretch {f : Addr} {fd : FuncData} (F : Fun K "stretch" "stretch" s_stretch f fd) (m_min : mg "min" = none) (m_max : mg "max" = none) (c_is_units : Cal P w K mg base 2 "is_units" ["value"] (sp_is_units K)) (c_is_share : Cal P w K mg base 2 "is_share" ["units", "value"] (sp_is_share K)) (c_reach : Cal P w K mg base 1 "reach" ["how", "number"] (sp_reach K)) (c_least_terms : Cal P w K mg base 1 "least_terms" ["over", "under"] (sp_least_terms K)) : FnOk P w K mg base CX0 3 f fd ["units", "share"] (sp_stretch K) := by
  refine F.ok sc_stretch (fun vs H Q E h => ?_) (fun cdv A outer s H vs Q E hr h => ?_)
  · obtain ⟨u, b, h, v, rfl, _⟩ := h
    rfl
  · refine ⟨_, (pss_cons (ps_if (pt_not (pt_val (pe_call c_is_units.G (hr.mono (by decide)) (by rfl) c_is_units.g c_is_units.kp c_is_units.b .nil pass0 (pa_cons (pv 0) pa_nil)))) (pss_one ps_never) pss_nil)
      (pss_cons (ps_if (pt_not (pt_val (pe_call c_is_share.G (hr.mono (by decide)) (by rfl) c_is_share.g c_is_share.kp c_is_share.b .nil pass0 (pa_cons (pv 0) (pa_cons (pv 1) pa_nil))))) (pss_one ps_never) pss_nil)
      (pss_cons (ps_asg (pv 0) (pg_tup rfl (pgs_cons (pg_name (i := 2) sc_stretch.nd rfl (.inl rfl)) (pgs_cons (pg_name (i := 3) sc_stretch.nd rfl (.inl rfl)) pgs_nil))))
      (pss_cons (ps_if (pt_cmpR op_eq (pv 1) pe_str (nomark _)) (pss_one (ps_ret (pe_tup (pa_cons (pe_tup (pa_cons pe_int (pa_cons pe_int pa_nil))) (pa_cons pe_bl (pa_cons (pe_tup (pa_cons pe_int (pa_cons pe_int pa_nil))) (pa_cons pe_bl pa_nil))))))) pss_nil)
      (pss_cons (ps_if (pt_cmpR op_eq (pv 1) pe_str (nomark _)) (pss_one (ps_ret (pe_tup (pa_cons (pe_tup (pa_cons pe_int (pa_cons pe_int pa_nil))) (pa_cons pe_bl (pa_cons (pe_tup (pa_cons pe_int (pa_cons (pv 2) pa_nil))) (pa_cons pe_bl pa_nil))))))) pss_nil)
      (pss_cons (ps_asg (pe_call c_reach.G (hr.mono (by decide)) (by rfl) c_reach.g c_reach.kp c_reach.b .nil pass0 (pa_cons (pv 3) (pa_cons (pv 1) pa_nil))) (pg_tup rfl (pgs_cons (pg_name (i := 4) sc_stretch.nd rfl (.inl rfl)) (pgs_cons (pg_name (i := 5) sc_stretch.nd rfl (.inl rfl)) (pgs_cons (pg_name (i := 6) sc_stretch.nd rfl (.inl rfl)) (pgs_cons (pg_name (i := 7) sc_stretch.nd rfl (.inl rfl)) pgs_nil))))))
      (pss_cons (ps_set (i := 8) sc_stretch.nd rfl (.inl rfl) (pe_op op_mul pe_int (pv 2)))
      (pss_one (ps_ret (pe_tup (pa_cons (pe_call c_least_terms.G (hr.mono (by decide)) (by rfl) c_least_terms.g c_least_terms.kp c_least_terms.b .nil pass0 (pa_cons (pe_callB (call_max2 rfl) (by rfl) m_max (by decide +kernel) (pa_cons (pv 4) (pa_cons pe_int pa_nil))) (pa_cons (pv 8) pa_nil))) (pa_cons (pe_or (pv 5) (pe_one (pe_cmpR op_lt (pv 4) pe_int (nomark _)))) (pa_cons (pe_call c_least_terms.G (hr.mono (by decide)) (by rfl) c_least_terms.g c_least_terms.kp c_least_terms.b .nil pass0 (pa_cons (pe_callB (call_min2 rfl) (by rfl) m_min (by decide +kernel) (pa_cons (pv 6) (pa_cons (pv 8) pa_nil))) (pa_cons (pv 8) pa_nil))) (pa_cons (pe_or (pv 7) (pe_one (pe_cmpR op_gt (pv 6) (pv 8) (nomark _)))) pa_nil)))))))))))))), ?_⟩
    obtain ⟨u, b, h, v, rfl, hu, hv, q⟩ := h
    refine ⟨.ref u, rfl, u, b, h, rfl, hu, true, rfl, iteF ?_⟩
    refine ⟨.ref u, rfl, v, rfl, u, b, h, v, rfl, hu, hv, true, rfl, iteF ?_⟩
    refine ⟨.ref u, rfl, u, _, rfl, hu.1, rfl, _, _, rfl, _, _, rfl, rfl, ?_⟩
    have hb := hu.2
    rcases hv with ⟨n, rfl, s0, s1⟩ | rfl | rfl
    · refine ⟨.int n, rfl, rfl, false, rfl, iteF ?_⟩
      refine ⟨.int n, rfl, rfl, false, rfl, iteF ?_⟩
      refine ⟨.str h, rfl, .int n, rfl, h, n, rfl, fun H1 t sm1 nt ht => ?_⟩
      refine ⟨t, _, rfl, SqT.of ht, rfl, _, _, rfl, _, _, rfl, _, _, rfl, _, _, rfl, rfl, ?_⟩
      refine ⟨.int b, rfl, 2, b, rfl, rfl, .inl ⟨by decide, by decide⟩, ?_⟩
      refine ⟨_, rfl, _, _, rfl, .int (2 * b), rfl, _, _, rfl, by omega, by omega, fun H2 t1 sm2 nt1 ht1 => ?_⟩
      refine val_orV (val_var rfl) (fun _ => val_I0 (val_var rfl) val_c) _ ?_
      refine ⟨_, rfl, .int (2 * b), rfl, _, _, rfl, .int (2 * b), rfl, _, _, rfl, by omega, by omega, fun H3 t2 sm3 nt2 ht2 => ?_⟩
      refine val_orV (val_var rfl) (fun _ => val_I0 (val_var rfl) (val_var rfl)) _ ?_
      refine ⟨by show 4 ≤ sizeLine; decide, fun p np => ?_⟩
      have n3 : H1 p = none := fresh_same (sm2.trans sm3) np
      refine q _ p t1 t2 (((sm1.trans sm2).trans sm3).trans (sameU np)) (fresh_same sm1 n3) (fresh_same sm1 nt1) (fresh_same (sm1.trans sm2) nt2) ⟨upd_same, sameU np _ _ (sm3 _ _ ht1), sameU np _ _ ht2⟩
    · refine ⟨.str "none", rfl, rfl, true, rfl, iteT ?_⟩
      refine ⟨by show 2 ≤ sizeLine; decide, fun t1 n1 => ⟨by show 2 ≤ sizeLine; decide, fun t2 n2 => ⟨by show 4 ≤ sizeLine; decide, fun t nt => ?_⟩⟩⟩
      have m2 := fresh_same (sameU n1) n2
      have m := fresh_same (sameU n1) (fresh_same (sameU n2) nt)
      exact q _ t t1 t2 (((sameU n1).trans (sameU n2)).trans (sameU nt)) m n1 m2 ⟨upd_same, sameU nt _ _ (sameU n2 _ _ upd_same), sameU nt _ _ upd_same⟩
    · refine ⟨.str "some", rfl, rfl, false, rfl, iteF ?_⟩
      refine ⟨.str "some", rfl, rfl, true, rfl, iteT ?_⟩
      refine ⟨by show 2 ≤ sizeLine; decide, fun t1 n1 => ⟨.int b, rfl, by show 2 ≤ sizeLine; decide, fun t2 n2 => ⟨by show 4 ≤ sizeLine; decide, fun t nt => ?_⟩⟩⟩
      have m2 := fresh_same (sameU n1) n2
      have m := fresh_same (sameU n1) (fresh_same (sameU n2) nt)
      exact q _ t t1 t2 (((sameU n1).trans (sameU n2)).trans (sameU nt)) m n1 m2 ⟨upd_same, sameU nt _ _ (sameU n2 _ _ upd_same), sameU nt _ _ upd_same⟩

theorem ok_law_is_within {f : Addr} {fd : FuncData} (F : Fun K "_law_is_within" "_law_is_within" s_law_is_within f fd) : FnOk P w K mg base CX0 1 f fd ["_law_told", "_law_many", "_law_whole"] (sp_law_is_within K) := by
  refine F.ok sc_law_is_within (fun vs H Q E h => ?_) (fun cdv A outer s H vs Q E hr h => ?_)
  · obtain ⟨t, t1, t2, d, m, n, rfl, _⟩ := h
    rfl
  · refine ⟨_, (pss_cons (ps_asg (pv 0) (pg_tup rfl (pgs_cons (pg_name (i := 3) sc_law_is_within.nd rfl (.inl rfl)) (pgs_cons (pg_name (i := 4) sc_law_is_within.nd rfl (.inl rfl)) (pgs_cons (pg_name (i := 5) sc_law_is_within.nd rfl (.inl rfl)) (pgs_cons (pg_name (i := 6) sc_law_is_within.nd rfl (.inl rfl)) pgs_nil))))))
      (pss_cons (ps_set (i := 7) sc_law_is_within.nd rfl (.inl rfl) (pe_op op_sub (pe_op op_mul (pv 1) (pe_ix ix_tup (pv 3) pe_int (fun _ _ => rfl))) (pe_op op_mul (pe_ix ix_tup (pv 3) pe_int (fun _ _ => rfl)) (pv 2))))
      (pss_cons (ps_set (i := 8) sc_law_is_within.nd rfl (.inl rfl) (pe_op op_sub (pe_op op_mul (pe_ix ix_tup (pv 5) pe_int (fun _ _ => rfl)) (pv 2)) (pe_op op_mul (pv 1) (pe_ix ix_tup (pv 5) pe_int (fun _ _ => rfl)))))
      (pss_one (ps_ret (pe_and (pe_or (pe_cmpR op_gt (pv 7) pe_int (nomark _)) (pe_one (pe_and (pe_cmpR op_eq (pv 7) pe_int (nomark _)) (pe_one (pv 4))))) (pe_one (pe_or (pe_cmpR op_gt (pv 8) pe_int (nomark _)) (pe_one (pe_and (pe_cmpR op_eq (pv 8) pe_int (nomark _)) (pe_one (pv 6)))))))))))), ?_⟩
    obtain ⟨t, t1, t2, ⟨⟨n1, d1⟩, il, ⟨n2, d2⟩, ih⟩, m, w', rfl, ⟨ht, ht1, ht2⟩, ⟨k1, k2, k3, k4⟩, m0, m1, q⟩ := h
    have k1 : -(2 ^ 62) < n1 := k1
    have k2 : n1 < 2 ^ 62 := k2
    have k3 : -(2 ^ 62) < n2 := k3
    have k4 : n2 < 2 ^ 62 := k4
    have cm : ∀ x : Int, CMul m x := fun x => .inl ⟨by omega, by omega⟩
    have c1 : CMul n1 w' := .inl ⟨by omega, by omega⟩
    have c2 : CMul n2 w' := .inl ⟨by omega, by omega⟩
    refine ⟨.ref t, rfl, t, _, rfl, SqT.of ht, rfl, _, _, rfl, _, _, rfl, _, _, rfl, _, _, rfl, rfl, ?_⟩
    refine ⟨.int m, rfl, .ref t1, rfl, t1, _, 1, .int d1, rfl, rfl, SqT.of ht1, atI_nat (j := 1) rfl, m, d1, rfl, rfl, cm _, .ref t1, rfl, t1, _, 0, .int n1, rfl, rfl, SqT.of ht1, atI_nat (j := 0) rfl, .int w', rfl, n1, w', rfl, rfl, c1, _, _, rfl, rfl, ?_⟩
    refine ⟨.ref t2, rfl, t2, _, 0, .int n2, rfl, rfl, SqT.of ht2, atI_nat (j := 0) rfl, .int w', rfl, n2, w', rfl, rfl, c2, .int m, rfl, .ref t2, rfl, t2, _, 1, .int d2, rfl, rfl, SqT.of ht2, atI_nat (j := 1) rfl, m, d2, rfl, rfl, cm _, _, _, rfl, rfl, ?_⟩
    have q' : Q (.bl ((decide (0 < m * d1 - n1 * w') || (decide (m * d1 - n1 * w' = 0) && il)) && (decide (0 < n2 * w' - m * d2) || (decide (n2 * w' - m * d2 = 0) && ih)))) H := q
    dsimp only [gName, tRet]
    refine val_andV (c := decide (0 < m * d1 - n1 * w') || (decide (m * d1 - n1 * w' = 0) && il)) (d := decide (0 < n2 * w' - m * d2) || (decide (n2 * w' - m * d2 = 0) && ih)) ?_ (fun _ => ?_) _ q'
    · exact val_orV (val_I0 (val_var rfl) val_c) (fun _ => val_andV (val_eqI (val_var rfl) val_c) (fun _ => val_var rfl))
    · exact val_orV (val_I0 (val_var rfl) val_c) (fun _ => val_andV (val_eqI (val_var rfl) val_c) (fun _ => val_var rfl))
end
end Uq

set_option maxHeartbeats 4000000
namespace Uq
open PySem PySem.Spec PyProof.Rows L2
theorem sgn_pos {x g : Int} (hg : 0 < g) : decide (0 < x) = decide (0 < x * g) := by
  rw [decide_eq_decide]
  constructor
  · exact fun h => Int.mul_pos h hg
  · intro h
    by_cases z : 0 < x
    · exact z
    · have y := Int.mul_le_mul_of_nonneg_right (show x ≤ 0 by omega) (Int.le_of_lt hg)
      rw [Int.zero_mul] at y
      omega
theorem sgn_zero {x g : Int} (hg : 0 < g) : decide (x = 0) = decide (x * g = 0) := by
  rw [decide_eq_decide]
  constructor
  · intro h
    rw [h, Int.zero_mul]
  · intro h
    rcases Int.mul_eq_zero.mp h with z | z
    · exact z
    · omega
theorem within_red {b m w L R : Int} {il ih : Bool} (hb : 0 < b) : within (red L (2 * b), il, red R (2 * b), ih) m w =
    ((decide (0 < 2 * (b * m) - L * w) || (decide (2 * (b * m) - L * w = 0) && il)) && (decide (0 < R * w - 2 * (b * m)) || (decide (R * w - 2 * (b * m) = 0) && ih))) := by
  have hb2 : 0 < 2 * b := by omega
  obtain ⟨l1, l2⟩ := red_mul (a := L) hb2
  obtain ⟨r1, r2⟩ := red_mul (a := R) hb2
  have gl := gcd_pos (a := L) hb2
  have gr := gcd_pos (a := R) hb2
  unfold within
  dsimp only
  have e1 : (m * (red L (2 * b)).2 - (red L (2 * b)).1 * w) * ((Nat.gcd L.natAbs (2 * b).natAbs : Nat) : Int) = 2 * (b * m) - L * w := by
    generalize ((Nat.gcd L.natAbs (2 * b).natAbs : Nat) : Int) = g at *
    rw [Int.sub_mul, Int.mul_assoc, l2, Int.mul_right_comm, l1, Int.mul_comm m (2 * b), Int.mul_assoc]
  have e2 : ((red R (2 * b)).1 * w - m * (red R (2 * b)).2) * ((Nat.gcd R.natAbs (2 * b).natAbs : Nat) : Int) = R * w - 2 * (b * m) := by
    generalize ((Nat.gcd R.natAbs (2 * b).natAbs : Nat) : Int) = g at *
    rw [Int.sub_mul, Int.mul_right_comm, r1, Int.mul_assoc, r2, Int.mul_comm m (2 * b), Int.mul_assoc]
  rw [sgn_pos (x := m * (red L (2 * b)).2 - (red L (2 * b)).1 * w) gl, sgn_zero (x := m * (red L (2 * b)).2 - (red L (2 * b)).1 * w) gl, e1]
  rw [sgn_pos (x := (red R (2 * b)).1 * w - m * (red R (2 * b)).2) gr, sgn_zero (x := (red R (2 * b)).1 * w - m * (red R (2 * b)).2) gr, e2]
theorem bool_iff {a b c d e f : Bool} {p : Prop} [Decidable p] (h : ((a = true ∨ (b = true ∧ c = true)) ∧ (d = true ∨ (e = true ∧ f = true))) ↔ p) : ((a || (b && c)) && (d || (e && f))) = decide p := by
  rw [Bool.eq_iff_iff, decide_eq_true_iff, ← h, Bool.and_eq_true, Bool.or_eq_true, Bool.or_eq_true, Bool.and_eq_true, Bool.and_eq_true]
/-- all the products of the rounding, as letters -/
theorem prods {b m w s : Int} (hb : 2 ≤ b) (m0 : 0 ≤ m) (m1 : m ≤ w) (w1 : 1 ≤ w) (s0 : 0 ≤ s) (s1 : s ≤ b) :
    ∃ q r S B : Int, b * m / w = q ∧ b * m % w = r ∧ s * w = S ∧ b * w = B ∧ 0 ≤ r ∧ r < w ∧ b * m ≤ B ∧ 0 ≤ b * m ∧ (s = b → S = B) ∧ (s < b → S + w ≤ B) ∧ (s = 0 → S = 0) ∧ (0 < s → w ≤ S) ∧
      (s ≤ q - 2 → S + 2 * w + r ≤ b * m) ∧ (s = q - 1 → S + w + r = b * m) ∧ (s = q → S + r = b * m) ∧ (s = q + 1 → S - w + r = b * m) ∧ (q + 2 ≤ s → b * m ≤ S - 2 * w + r) := by
  have w0 : 0 < w := by omega
  refine ⟨b * m / w, b * m % w, s * w, b * w, rfl, rfl, rfl, rfl, Int.emod_nonneg _ (by omega), Int.emod_lt_of_pos _ w0, Int.mul_le_mul_of_nonneg_left m1 (by omega), Int.mul_nonneg (by omega) m0, fun e => by rw [e], fun e => ?_, fun e => by rw [e, Int.zero_mul], fun e => ?_, fun e => ?_, fun e => ?_, fun e => ?_, fun e => ?_, fun e => ?_⟩
  · have z := Int.mul_le_mul_of_nonneg_right (show s + 1 ≤ b by omega) (Int.le_of_lt w0)
    rw [Int.add_mul, Int.one_mul] at z
    exact z
  · have z := Int.mul_le_mul_of_nonneg_right (show 1 ≤ s by omega) (Int.le_of_lt w0)
    rw [Int.one_mul] at z
    exact z
  all_goals
    have d := Int.emod_add_mul_ediv (b * m) w
    rw [Int.mul_comm w] at d
    generalize b * m / w = q at *
    generalize b * m % w = r at *
  · have z := Int.mul_le_mul_of_nonneg_right (show s + 2 ≤ q by omega) (Int.le_of_lt w0)
    rw [Int.add_mul] at z
    omega
  · rw [e, Int.sub_mul, Int.one_mul]
    omega
  · rw [e]
    omega
  · rw [e, Int.add_mul, Int.one_mul]
    omega
  · have z := Int.mul_le_mul_of_nonneg_right (show q + 2 ≤ s by omega) (Int.le_of_lt w0)
    rw [Int.add_mul] at z
    omega
theorem fits_int {h : Str} {b m w s : Int} (hh : How h) (hb : 2 ≤ b) (m0 : 0 ≤ m) (m1 : m ≤ w) (w1 : 1 ≤ w) (s0 : 0 ≤ s) (s1 : s ≤ b) : within (stI b (reachOf h s)) m w = decide (rnd h (b * m) w = s) := by
  unfold stI
  rw [within_red (by omega)]
  refine bool_iff ?_
  rw [Bool.or_eq_true, Bool.or_eq_true]
  simp only [decide_eq_true_eq]
  obtain ⟨q, r, S, B, eq, er, eS, eB, r0, r1, x1, x0, p1, p2, p3, p4, t1, t2, t3, t4, t5⟩ := prods hb m0 m1 w1 s0 s1
  have k0 : (0 : Int) * w = 0 := Int.zero_mul w
  have k1 : (2 * b) * w = 2 * B := by rw [Int.mul_assoc, eB]
  have k2 : (2 * s) * w = 2 * S := by rw [Int.mul_assoc, eS]
  have k3 : (2 * s + 2) * w = 2 * S + 2 * w := by rw [Int.add_mul, k2]
  have k4 : (2 * s - 2) * w = 2 * S - 2 * w := by rw [Int.sub_mul, k2]
  have k5 : (2 * s - 1) * w = 2 * S - w := by rw [Int.sub_mul, k2, Int.one_mul]
  have k6 : (2 * s + 1) * w = 2 * S + w := by rw [Int.add_mul, k2, Int.one_mul]
  have hd : ∀ h : Str, How h → rnd h (b * m) w = (if h = "down" ∨ r = 0 then q else if h = "up" ∨ w < 2 * r then q + 1 else if 2 * r < w then q else if h = "near" then q + 1 else q + q % 2) := fun h _ => by
    unfold rnd
    rw [eq, er]
  rw [hd h hh]
  clear hd eq er
  generalize b * m = x at *
  have n1 : ("near" : Str) ≠ "down" := by decide
  have n2 : ("near" : Str) ≠ "up" := by decide
  have n3 : ("even" : Str) ≠ "down" := by decide
  have n4 : ("even" : Str) ≠ "up" := by decide
  have n5 : ("even" : Str) ≠ "near" := by decide
  have n6 : ("up" : Str) ≠ "down" := by decide
  rcases hh with rfl | rfl | rfl | rfl
  · have e : reachOf "near" s = (2 * s - 1, true, 2 * s + 1, false) := rfl
    rw [e]
    simp only [n1, n2, false_or, true_or, and_true, Bool.false_eq_true, if_true]
    split <;> split <;> (try simp only [k0, k1, k5, k6]) <;> split <;> (try split) <;> (try split) <;> omega
  · have e : reachOf "even" s = (2 * s - 1, decide (s % 2 = 0), 2 * s + 1, decide (s % 2 = 0)) := rfl
    rw [e]
    simp only [n3, n4, n5, false_or, if_false, decide_eq_true_eq]
    split <;> split <;> (try simp only [k0, k1, k5, k6]) <;> split <;> (try split) <;> (try split) <;> omega
  · have e : reachOf "down" s = (2 * s, true, 2 * s + 2, false) := rfl
    rw [e]
    simp only [true_or, and_true, Bool.false_eq_true, false_or, if_true]
    split <;> split <;> (try simp only [k0, k1, k2, k3]) <;> omega
  · have e : reachOf "up" s = (2 * s - 2, false, 2 * s, true) := rfl
    rw [e]
    simp only [n6, true_or, and_true, Bool.false_eq_true, false_or, if_true]
    split <;> split <;> (try simp only [k0, k1, k2, k4]) <;> split <;> omega
/-- right by the law's own rounding -/
def rightOf (h : Str) (b : Int) (v : V) (m w : Int) : Bool := match v with
  | .str x => if x = "none" then decide (m = 0) else (decide (0 < b * m) && decide (b * m < w))
  | .int s => decide (rnd h (b * m) w = s)
  | _ => false
theorem within_right {h : Str} {b m w : Int} {v : V} (hh : How h) (hb : 2 ≤ b) (m0 : 0 ≤ m) (m1 : m ≤ w) (w1 : 1 ≤ w) (hv : Sh b v) : within (stOf h b v) m w = rightOf h b v m w := by
  rcases hv with ⟨s, rfl, s0, s1⟩ | rfl | rfl
  · exact fits_int hh hb m0 m1 w1 s0 s1
  · show within ((0, 1), true, (0, 1), true) m w = decide (m = 0)
    unfold within
    dsimp only
    refine bool_iff ?_
    simp only [decide_eq_true_eq, and_true]
    omega
  · show within ((0, 1), false, (1, b), false) m w = (decide (0 < b * m) && decide (b * m < w))
    unfold within
    dsimp only
    rw [Bool.and_false, Bool.and_false, Bool.or_false, Bool.or_false, Int.mul_comm m b]
    have e : decide (0 < m * 1 - 0 * w) = decide (0 < b * m) := by
      rw [decide_eq_decide]
      constructor
      · exact fun z => Int.mul_pos (by omega) (by omega)
      · intro z
        by_cases y : 0 < m
        · omega
        · have y0 : m = 0 := by omega
          rw [y0, Int.mul_zero] at z
          omega
    rw [e]
    congr 1
    rw [decide_eq_decide]
    omega
end Uq

namespace Uq
open PySem PySem.Spec PyProof.Rows L2

/-! ### all shares of some units, in sequence -/
def shs (b : Int) : List V := [V.str "none", V.str "some"] ++ rgV 0 (b + 1)
theorem shs_len {b : Int} (hb : 0 ≤ b) : (shs b).length = (b + 3).toNat := by
  unfold shs
  rw [List.length_append, rgV_length]
  show 2 + (b + 1 - 0).toNat = (b + 3).toNat
  omega
theorem shs_sh {b : Int} (hb : 0 ≤ b) : ∀ x ∈ shs b, Sh b x := by
  intro x hx
  rcases List.mem_append.mp hx with hx | hx
  · rcases List.mem_cons.mp hx with rfl | hx
    · exact .inr (.inl rfl)
    · rw [List.mem_singleton.mp hx]
      exact .inr (.inr rfl)
  · unfold rgV at hx
    obtain ⟨i, hi, rfl⟩ := List.mem_map.mp hx
    have hi := List.mem_range.mp hi
    exact .inl ⟨_, rfl, by omega, by omega⟩
/-- a list of stretches, by the shares of another list -/
def TL (H : Hp) (xs : List V) (h : Str) (b : Int) (ss : List V) : Prop := xs.length = ss.length ∧ ∀ (j : Nat) (v s : V), xs[j]? = some v → ss[j]? = some s → ∃ t t1 t2, v = .ref t ∧ St H t t1 t2 (stOf h b s)
theorem TL.same {H H' : Hp} {xs ss : List V} {h : Str} {b : Int} (e : Same H H') (x : TL H xs h b ss) : TL H' xs h b ss := ⟨x.1, fun j v s h1 h2 => by
  obtain ⟨t, t1, t2, h3, h4⟩ := x.2 j v s h1 h2
  exact ⟨t, t1, t2, h3, h4.same e⟩⟩
theorem St.but {H H' : Hp} {p : Addr} {c : Nat} {t t1 t2 : Addr} {d : StD} (hp : Pot H p c) (e : But p H H') (x : St H t t1 t2 d) : St H' t t1 t2 d := by
  obtain ⟨o, s, n, h0, _⟩ := hp
  have k : ∀ q xs, H q = some (.tup xs) → H' q = some (.tup xs) := fun q xs hq => e q _ (fun z => by rw [z, h0] at hq; cases hq) hq
  exact ⟨k _ _ x.1, k _ _ x.2.1, k _ _ x.2.2⟩
theorem TL.but {H H' : Hp} {p : Addr} {c : Nat} {xs ss : List V} {h : Str} {b : Int} (hp : Pot H p c) (e : But p H H') (x : TL H xs h b ss) : TL H' xs h b ss := ⟨x.1, fun j v s h1 h2 => by
  obtain ⟨t, t1, t2, h3, h4⟩ := x.2 j v s h1 h2
  exact ⟨t, t1, t2, h3, h4.but hp e⟩⟩
theorem TL.drop {H : Hp} {xs ss : List V} {h : Str} {b : Int} (n : Nat) (x : TL H xs h b ss) : TL H (xs.drop n) h b (ss.drop n) := ⟨by rw [List.length_drop, List.length_drop, x.1], fun j v s h1 h2 => by
  rw [List.getElem?_drop] at h1 h2
  exact x.2 _ v s h1 h2⟩
/-- what a list comprehension over the shares leaves -/
def sp_law_is_one_right (K : PySem.W.Frag) : Sp := fun vs H Q _ => ∃ (u L : Addr) (b : Int) (h : Str) (xs : List V) (m w : Int), vs = [.ref u, .ref L, .int m, .int w] ∧ Un K H u b h ∧ SqL K H L xs ∧ TL H xs h b (shs b) ∧ 0 ≤ m ∧ m ≤ w ∧ 0 < w ∧ w < 2 ^ 40 ∧ ∀ H', Same H H' → Q (.bl true) H'
def sp_law_do_go_on (K : PySem.W.Frag) : Sp := fun vs H Q _ => ∃ (L : Addr) (b : Int) (h : Str) (xs : List V), vs = [.ref L] ∧ SqL K H L xs ∧ TL H xs h b (rgV 0 (b + 1)) ∧ How h ∧ 2 ≤ b ∧ b ≤ 100 ∧ ∀ H', Same H H' → Q (.bl true) H'
theorem cut_from {xs : List V} {k : Nat} (hk : k ≤ xs.length) : cutV xs (some (k : Int)) none = xs.drop k := by
  unfold cutV
  rw [show HT.sIx xs.length 0 (some (k : Int)) = min k xs.length from HT.sIx_nat xs.length 0 k, HT.sIx_none, Nat.min_eq_left hk]
  exact List.take_of_length_le (by rw [List.length_drop]; omega)
theorem cut_to {xs : List V} {k : Nat} (hk : k ≤ xs.length) : cutV xs none (some (k : Int)) = xs.take k := by
  unfold cutV
  rw [HT.sIx_none, show HT.sIx xs.length xs.length (some (k : Int)) = min k xs.length from HT.sIx_nat xs.length _ k, Nat.min_eq_left hk]
  rfl
theorem rnd_in {h : Str} {b m w : Int} (hb : 2 ≤ b) (m0 : 0 ≤ m) (m1 : m ≤ w) (w0 : 0 < w) : 0 ≤ rnd h (b * m) w ∧ rnd h (b * m) w ≤ b := by
  have x1 : b * m ≤ b * w := Int.mul_le_mul_of_nonneg_left m1 (by omega)
  have x0 : 0 ≤ b * m := Int.mul_nonneg (by omega) m0
  have d := Int.emod_add_mul_ediv (b * m) w
  have r0 := Int.emod_nonneg (b * m) (Int.ne_of_gt w0)
  have r1 := Int.emod_lt_of_pos (b * m) w0
  have q0 : 0 ≤ b * m / w := Int.ediv_nonneg x0 (Int.le_of_lt w0)
  have q1 : b * m / w ≤ b := by
    have z := Int.ediv_le_ediv w0 x1
    rw [Int.mul_ediv_cancel _ (Int.ne_of_gt w0)] at z
    exact z
  have q2 : b * m / w = b → b * m % w = 0 := by
    intro e
    rw [e, Int.mul_comm w b] at d
    omega
  unfold rnd
  generalize b * m / w = q at *
  generalize b * m % w = r at *
  split
  · omega
  · rename_i n1
    have r2 : r ≠ 0 := fun z => n1 (.inr z)
    split
    · omega
    · split
      · omega
      · split <;> omega
/-- one stretch's high end is the next one's low end -/
theorem go_on {h : Str} {b s : Int} (hh : How h) (s0 : 0 ≤ s) (s1 : s < b) : (stI b (reachOf h s)).2.2.1 = (stI b (reachOf h (s + 1))).1 ∧ (stI b (reachOf h s)).2.2.2 = !(stI b (reachOf h (s + 1))).2.1 := by
  have n1 : ("near" : Str) ≠ "down" := by decide
  have n2 : ("near" : Str) ≠ "up" := by decide
  have n3 : ("even" : Str) ≠ "down" := by decide
  have n4 : ("even" : Str) ≠ "up" := by decide
  have n5 : ("even" : Str) ≠ "near" := by decide
  have n6 : ("up" : Str) ≠ "down" := by decide
  have key : ∀ (a c : Int) (i j : Bool), a = c → ¬ (2 * b < a) → ¬ (0 > c) → i = !j → red (if 2 * b < a then 2 * b else a) (2 * b) = red (if 0 > c then 0 else c) (2 * b) ∧ (i || decide (2 * b < a)) = !(j || decide (c < 0)) := by
    intro a c i j e h1 h2 h3
    rw [if_neg h1, if_neg h2, e, decide_eq_false (e ▸ h1), decide_eq_false (by omega : ¬ c < 0), Bool.or_false, Bool.or_false]
    exact ⟨rfl, h3⟩
  unfold stI
  dsimp only
  rcases hh with rfl | rfl | rfl | rfl
  · simp only [reachOf, n1, n2, if_false, if_true]
    exact key _ _ _ _ (by omega) (by omega) (by omega) rfl
  · simp only [reachOf, n3, n4, n5, if_false]
    refine key _ _ _ _ (by omega) (by omega) (by omega) ?_
    rw [← decide_not, decide_eq_decide]
    omega
  · simp only [reachOf, if_true]
    exact key _ _ _ _ (by omega) (by omega) (by omega) rfl
  · simp only [reachOf, n6, if_false, if_true]
    exact key _ _ _ _ (by omega) (by omega) (by omega) rfl
theorem red_zero {a : Int} (ha : 0 < a) : red 0 a = (0, 1) := by
  unfold red
  have e : ((Nat.gcd (0 : Int).natAbs a.natAbs : Nat) : Int) = a := by
    show ((Nat.gcd 0 a.natAbs : Nat) : Int) = a
    rw [Nat.gcd_zero_left]
    omega
  rw [e, Int.zero_ediv, Int.ediv_self (by omega)]
theorem red_one {a : Int} (ha : 0 < a) : red a a = (1, 1) := by
  unfold red
  have e : ((Nat.gcd a.natAbs a.natAbs : Nat) : Int) = a := by
    rw [Nat.gcd_self]
    omega
  rw [e, Int.ediv_self (by omega)]
theorem first_st {h : Str} {b : Int} (hh : How h) (hb : 2 ≤ b) : (stI b (reachOf h 0)).1 = (0, 1) ∧ (stI b (reachOf h 0)).2.1 = true := by
  rcases hh with rfl | rfl | rfl | rfl
  · exact ⟨red_zero (by omega), rfl⟩
  · exact ⟨red_zero (by omega), rfl⟩
  · exact ⟨red_zero (by omega), rfl⟩
  · exact ⟨red_zero (by omega), rfl⟩
theorem last_st {h : Str} {b : Int} (hh : How h) (hb : 2 ≤ b) : (stI b (reachOf h b)).2.2.1 = (1, 1) ∧ (stI b (reachOf h b)).2.2.2 = true := by
  have key : ∀ (a : Int) (j : Bool), 2 * b < a ∨ (a = 2 * b ∧ j = true) → red (if 2 * b < a then 2 * b else a) (2 * b) = (1, 1) ∧ (j || decide (2 * b < a)) = true := by
    rintro a j (e | ⟨rfl, rfl⟩)
    · rw [if_pos e, decide_eq_true e, Bool.or_true]
      exact ⟨red_one (by omega), rfl⟩
    · rw [if_neg (by omega)]
      exact ⟨red_one (by omega), Bool.true_or _⟩
  have n1 : ("near" : Str) ≠ "down" := by decide
  have n2 : ("near" : Str) ≠ "up" := by decide
  have n3 : ("even" : Str) ≠ "down" := by decide
  have n4 : ("even" : Str) ≠ "up" := by decide
  have n5 : ("even" : Str) ≠ "near" := by decide
  have n6 : ("up" : Str) ≠ "down" := by decide
  unfold stI
  dsimp only
  rcases hh with rfl | rfl | rfl | rfl
  · simp only [reachOf, n1, n2, if_false, if_true]
    exact key _ _ (.inl (by omega))
  · simp only [reachOf, n3, n4, n5, if_false]
    exact key _ _ (.inl (by omega))
  · simp only [reachOf, if_true]
    exact key _ _ (.inl (by omega))
  · simp only [reachOf, n6, if_false, if_true]
    exact key _ _ (.inr ⟨rfl, rfl⟩)
end Uq

namespace Uq
open PySem PySem.Spec PyProof.Rows L2

/-- the marks of all shares -/
def marks (h : Str) (b m w : Int) : List V := (shs b).map fun s => V.bl (rightOf h b s m w)
theorem marks_len {h : Str} {b m w : Int} (hb : 0 ≤ b) : (marks h b m w).length = (b + 3).toNat := by
  unfold marks
  rw [List.length_map, shs_len hb]
theorem marks_drop {h : Str} {b m w : Int} (hb : 0 ≤ b) : (marks h b m w).drop 2 = (List.range (b + 1).toNat).map fun (i : Nat) => V.bl (decide (rnd h (b * m) w = (i : Int))) := by
  unfold marks shs
  rw [List.map_append]
  show (rgV 0 (b + 1)).map _ = _
  unfold rgV
  rw [List.map_map, Int.sub_zero]
  apply List.map_congr_left
  intro i _
  show V.bl (decide (rnd h (b * m) w = 0 + (i : Int))) = _
  rw [Int.zero_add]
theorem marks_take {h : Str} {b m w : Int} : (marks h b m w).take 2 = [.bl (decide (m = 0)), .bl (decide (0 < b * m) && decide (b * m < w))] := rfl
theorem eqv_list_int (r : Int) : PyData.eqv (.list [.int r]) (.list [.int r]) = true := PySem.SeqAt.eqv_refl _ rfl
section
variable {P : Program} {w : World} {K : PySem.W.Frag} {mg : Str → Option Value} {base : Heap}

theorem ok_law_is_one_right {f : Addr} {fd : FuncData} (F : Fun K "_law_is_one_right" "_law_is_one_right" s_law_is_one_right f fd) (m_enumerate : mg "enumerate" = none) (c_law_is_within : Cal P w K mg base 1 "_law_is_within" ["_law_told", "_law_many", "_law_whole"] (sp_law_is_within K)) (c_shown : Cal P w K mg base 3 "shown" ["units", "many", "whole"] (sp_shown K)) : FnOk P w K mg base CX0 4 f fd ["_law_units", "_law_told", "_law_many", "_law_whole"] (sp_law_is_one_right K) := by
  refine F.ok sc_law_is_one_right (fun vs H Q E h => ?_) (fun cdv A outer s H vs Q E hr h => ?_)
  · obtain ⟨u, L, b, h, xs, m, w', rfl, _⟩ := h
    rfl
  · refine ⟨_, (pss_cons (ps_setLc (i := 4) (own := [("_law_one", 5)]) (g := gName 5) rfl sc_law_is_one_right.nd rfl rfl (sw_true rfl rfl rfl (by decide +kernel)) (pi_list (pv 1)) (blkOk_by (own := [("_law_one", 5)]) (N := N_law_is_one_right) (sc := defScope s_law_is_one_right) (by decide +kernel)) (fun _ _ _ _ _ => (pg_name (i := 5) sc_law_is_one_right.nd rfl (.inl rfl))) (fun _ _ _ _ _ => pts_nil) (fun _ _ _ _ _ => (pe_call c_law_is_within.G (hr.mono (by decide)) (by rfl) c_law_is_within.g c_law_is_within.kp c_law_is_within.b .nil pass0 (pa_cons (pv 5) (pa_cons (pv 2) (pa_cons (pv 3) pa_nil))))))
      (pss_cons (ps_if (pt_cmpR (op_neD hr.units) (pe_lc (own := [("_law_number", 6), ("_law_mark", 7)]) (g := gTup K 2 (gCons (gName 6) (gCons (gName 7) gNil))) rfl sc_law_is_one_right.nd (pi_enum (by rfl) m_enumerate (pa_cons (pe_slice sl_list (pv 4) (po_some pe_int) po_none) pa_nil)) (blkOk_by (own := [("_law_number", 6), ("_law_mark", 7)]) (N := N_law_is_one_right) (sc := defScope s_law_is_one_right) (by decide +kernel)) (fun _ _ _ _ _ => (pg_tup rfl (pgs_cons (pg_name (i := 6) sc_law_is_one_right.nd rfl (.inl rfl)) (pgs_cons (pg_name (i := 7) sc_law_is_one_right.nd rfl (.inl rfl)) pgs_nil)))) (fun _ _ _ _ _ => (pts_one (pt_val (pv 7)))) (fun _ _ _ _ _ => (pv 6))) (pe_lst (pa_cons (pe_call c_shown.G (hr.mono (by decide)) (by rfl) c_shown.g c_shown.kp c_shown.b .nil pass0 (pa_cons (pv 0) (pa_cons (pv 2) (pa_cons (pv 3) pa_nil)))) pa_nil)) (nomark _)) (pss_one (ps_ret pe_bl)) pss_nil)
      (pss_one (ps_ret (pe_cmpR (op_eqD hr.units) (pe_slice sl_list (pv 4) po_none (po_some pe_int)) (pe_lst (pa_cons (pe_cmpR op_eq (pv 2) pe_int (nomark _)) (pa_cons (pe_chain op_lt op_lt pe_int (pe_op op_mul (pe_ix ix_tup (pv 0) pe_int (fun _ _ => rfl)) (pv 2)) (pv 3)) pa_nil))) (nomark _)))))), ?_⟩
    obtain ⟨u, L, b, h, xs, m, w', rfl, hU, hL, hT, m0, m1, w0, w1, q⟩ := h
    have hb := hU.2
    have hlen : xs.length = (b + 3).toNat := by rw [hT.1, shs_len (by omega)]
    -- the marks
    refine ⟨.ref L, rfl, L, rfl, ⟨_, hL⟩, fun D nD => ?_⟩
    refine lc_it (walk_list (xs := xs)) (fun i H' => Same H H' ∧ H' D = some (.lst ((marks h b m w').take i))) ⟨sameU nD, upd_same⟩ (fun i H' _ hP => sqL_same hP.1 hL) ?_ ?_
    · rintro i x H1 H2 hi hI ⟨rfl, hx⟩
      have hi2 : i < (shs b).length := by rw [shs_len (by omega), ← hlen]; exact hi
      have hs : (shs b)[i]? = some (shs b)[i] := List.getElem?_eq_getElem hi2
      have hsh := shs_sh (b := b) (by omega) _ (List.getElem_mem hi2)
      obtain ⟨t, t1, t2, rfl, hst⟩ := hT.2 i x _ hx hs
      generalize (shs b)[i] = s at hs hsh hst
      refine ⟨rfl, .ref t, rfl, .int m, rfl, .int w', rfl, t, t1, t2, _, m, w', rfl, hst.same hI.1, small_st hb.1 hb.2.1 hsh, m0, by omega, ?_⟩
      rw [within_right hb.2.2 hb.1 m0 m1 (by omega) hsh]
      refine ⟨_, hI.2, ?_, ?_, ?_⟩
      · rw [List.length_take]
        exact small1000 (Nat.le_trans (Nat.min_le_left _ _) (by omega))
      · intro b' o e
        rw [upd_ne (ne_of_none e nD)]
        exact hI.1 _ _ e
      · rw [upd_same, List.take_add_one]
        have e : (marks h b m w')[i]? = some (.bl (rightOf h b s m w')) := by
          unfold marks
          rw [List.getElem?_map, hs]
          rfl
        rw [e]
        rfl
    intro H1 hI
    obtain ⟨s1, hD⟩ := hI
    have eall : (marks h b m w').take xs.length = marks h b m w' := List.take_of_length_le (by rw [marks_len (by omega), hlen]; exact Nat.le_refl _)
    rw [eall] at hD
    have hml : (marks h b m w').length = (b + 3).toNat := marks_len (by omega)
    -- the numbers of those in whose stretch it lies
    refine ⟨.ref D, rfl, 2, rfl, D, _, rfl, SqL.of hD, fun c nc => ?_⟩
    have ec : cutV (marks h b m w') (some (2 : Int)) none = (List.range (b + 1).toNat).map fun (i : Nat) => V.bl (decide (rnd h (b * m) w' = (i : Int))) := by
      rw [← marks_drop (by omega)]
      exact cut_from (k := 2) (by omega)
    rw [ec]
    generalize hH : L2.upd H1 c _ = H2
    have s2 : Same H1 H2 := hH ▸ sameU nc
    have hc : H2 c = some (.lst ((List.range (b + 1).toNat).map fun (i : Nat) => V.bl (decide (rnd h (b * m) w' = (i : Int))))) := hH ▸ upd_same
    clear hH
    obtain ⟨r0, r1⟩ := rnd_in (h := h) hb.1 m0 m1 w0
    have s12 := s1.trans s2
    refine ⟨c, _, rfl, SqL.of hc, fun E' nE => ?_⟩
    refine lc_it (walk_enum (xs := (List.range (b + 1).toNat).map fun (i : Nat) => V.bl (decide (rnd h (b * m) w' = (i : Int))))) (fun i H' => Same H2 H' ∧ H' E' = some (.lst (if rnd h (b * m) w' < (i : Int) then [.int (rnd h (b * m) w')] else []))) ⟨sameU nE, ?_⟩ (fun i H' _ hP => sqL_same hP.1 (SqL.of hc)) ?_ ?_
    · rw [upd_same, if_neg (by omega)]
    · rintro i x H3 H4 hi hI ⟨T, y, z, rfl, nT, rfl, ey, ez⟩
      have ey' : y = .int (i : Int) := (Option.some.inj ey).symm
      subst ey'
      have hi2 : i < (b + 1).toNat := by
        rw [List.length_map, List.length_range] at hi
        exact hi
      have ez' : z = .bl (decide (rnd h (b * m) w' = (i : Int))) := by
        have ez : ((List.range (b + 1).toNat).map fun (i : Nat) => V.bl (decide (rnd h (b * m) w' = (i : Int))))[i]? = some z := ez
        rw [List.getElem?_map, List.getElem?_range hi2] at ez
        exact (Option.some.inj ez).symm
      subst ez'
      have nTE : E' ≠ T := ne_of_none hI.2 nT
      refine ⟨T, _, rfl, SqT.of upd_same, rfl, _, _, rfl, _, _, rfl, rfl, rfl, _, rfl, _, rfl, ?_⟩
      refine ite2 (fun e => ?_) (fun e => ?_)
      · have e1 : rnd h (b * m) w' = (i : Int) := of_decide_eq_true e
        refine ⟨_, rfl, [], ?_, by decide, ?_, ?_⟩
        · rw [upd_ne nTE, hI.2, if_neg (by omega)]
        · intro b' o e2
          rw [upd_ne (ne_of_none e2 nE)]
          exact sameU nT _ _ (hI.1 _ _ e2)
        · rw [upd_same, if_pos (by omega), e1]
          rfl
      · have e1 : rnd h (b * m) w' ≠ (i : Int) := fun z => e (decide_eq_true z)
        refine ⟨hI.1.trans (sameU nT), ?_⟩
        rw [upd_ne nTE, hI.2]
        by_cases e2 : rnd h (b * m) w' < (i : Int)
        · rw [if_pos e2, if_pos (by omega)]
        · rw [if_neg e2, if_neg (by omega)]
    intro H3 hI
    obtain ⟨s3, hE⟩ := hI
    rw [List.length_map, List.length_range, if_pos (by omega)] at hE
    have hU3 := hU.same (s12.trans s3)
    -- beside what is shown
    refine ⟨.ref u, rfl, .int m, rfl, .int w', rfl, u, b, h, m, w', rfl, hU3, w0, by omega, m0, m1, fun H4 s4 => ?_⟩
    refine ⟨by show 1 ≤ sizeLine; decide, fun l nl => ?_⟩
    have s4l : Same H3 (upd H4 l (.lst [.int (rnd h (b * m) w')])) := s4.trans (sameU nl)
    refine ⟨.list [.int (rnd h (b * m) w')], .list [.int (rnd h (b * m) w')], .lst (SqL.of (s4l _ _ hE)) (.cons (.int _) .nil), .lst (SqL.of upd_same) (.cons (.int _) .nil), rfl, rfl, _, rfl, ?_⟩
    rw [eqv_list_int]
    refine iteF ?_
    have sAll : Same H1 (upd H4 l (.lst [.int (rnd h (b * m) w')])) := (s2.trans s3).trans s4l
    generalize L2.upd H4 l _ = H5 at sAll
    -- none and some
    refine ⟨.ref D, rfl, 2, rfl, D, _, rfl, SqL.of (sAll _ _ hD), fun c2 nc2 => ?_⟩
    have ec2 : cutV (marks h b m w') none (some (2 : Int)) = [.bl (decide (m = 0)), .bl (decide (0 < b * m) && decide (b * m < w'))] := by
      rw [← marks_take (h := h)]
      exact cut_to (k := 2) (by omega)
    rw [ec2]
    have hU5 : SqT K H5 u [.int b, .str h] := sqT_same (s1.trans sAll) hU.1
    have hU6 := sqT_same (sameU (o := .lst [.bl (decide (m = 0)), .bl (decide (0 < b * m) && decide (b * m < w'))]) nc2) hU5
    refine ⟨.int m, rfl, rfl, ?_⟩
    rw [dec_ii]
    refine val_chain (g := fun i j => decide (i < j)) (g' := fun i j => decide (i < j)) (i := 0) (j := b * m) (n := w') ?_ ?_ ?_ _ ?_
    · exact val_c
    · exact val_I (.inl ⟨by omega, by omega⟩) (val_ixT (val_var rfl) val_c hU6 (atI_nat (j := 0) rfl)) (val_var rfl)
    · exact fun _ => val_var rfl
    refine ⟨by show 2 ≤ sizeLine; decide, fun l2 nl2 => ?_⟩
    have nc2l : c2 ≠ l2 := fun z => by
      rw [← z, upd_same] at nl2
      cases nl2
    refine ⟨.list [.bool (decide (m = 0)), .bool (decide (0 < b * m) && decide (b * m < w'))], .list [.bool (decide (m = 0)), .bool (decide (0 < b * m) && decide (b * m < w'))], .lst (SqL.of (by rw [upd_ne nc2l, upd_same])) (.cons (.bl _) (.cons (.bl _) .nil)), .lst (SqL.of upd_same) (.cons (.bl _) (.cons (.bl _) .nil)), rfl, rfl, ?_⟩
    rw [show PyData.eqv (.list [.bool (decide (m = 0)), .bool (decide (0 < b * m) && decide (b * m < w'))]) (.list [.bool (decide (m = 0)), .bool (decide (0 < b * m) && decide (b * m < w'))]) = true from PySem.SeqAt.eqv_refl _ rfl]
    exact q _ (((s1.trans sAll).trans (sameU nc2)).trans (sameU nl2))

end
end Uq

namespace Uq
open PySem PySem.Spec PyProof.Rows L2

theorem at_end {xs : List V} {v : V} {n : Nat} (hl : xs.length = n + 1) (h : xs[n]? = some v) : atI xs (-1) = some v := by
  have e : xs = xs.take n ++ [v] := by
    have e1 := List.take_add_one (l := xs) (i := n)
    rw [h, List.take_of_length_le (by omega)] at e1
    exact e1
  rw [e]
  exact atI_last _ _
theorem rg_get {b : Int} {j : Nat} (hj : (j : Int) ≤ b) : (rgV 0 (b + 1))[j]? = some (.int (j : Int)) := by
  unfold rgV
  rw [List.getElem?_map, List.getElem?_range (by omega)]
  show some (V.int (0 + (j : Int))) = _
  rw [Int.zero_add]
theorem dp_pair {K : PySem.W.Frag} {H : Hp} {t : Addr} {a c : Int} (h : H t = some (.tup [.int a, .int c])) : Dp K H (.ref t) (.tuple [.int a, .int c]) := .tup (SqT.of h) (.cons (.int _) (.cons (.int _) .nil))
section
variable {P : Program} {w : World} {K : PySem.W.Frag} {mg : Str → Option Value} {base : Heap}

theorem ok_law_do_go_on {f : Addr} {fd : FuncData} (F : Fun K "_law_do_go_on" "_law_do_go_on" s_law_do_go_on f fd) (m_all : mg "all" = none) (m_zip : mg "zip" = none) : FnOk P w K mg base CX0 1 f fd ["_law_told"] (sp_law_do_go_on K) := by
  refine F.ok sc_law_do_go_on (fun vs H Q E h => ?_) (fun cdv A outer s H vs Q E hr h => ?_)
  · obtain ⟨L, b, h, xs, rfl, _⟩ := h
    rfl
  · refine ⟨_, (pss_cons (ps_if (PW.pt (pw_or (pt_cmpR (op_neD hr.units) (pe_slice sl_tup (pe_ix ix_list (pv 0) pe_int (fun _ _ => rfl)) po_none (po_some pe_int)) (pe_tup (pa_cons (pe_tup (pa_cons pe_int (pa_cons pe_int pa_nil))) (pa_cons pe_bl pa_nil))) (nomark _)) (pw_or1 (pt_cmpR (op_neD hr.units) (pe_slice sl_tup (pe_ix ix_list (pv 0) (pe_un un_neg pe_int) (fun _ _ => rfl)) (po_some pe_int) po_none) (pe_tup (pa_cons (pe_tup (pa_cons pe_int (pa_cons pe_int pa_nil))) (pa_cons pe_bl pa_nil))) (nomark _))))) (pss_one (ps_ret pe_bl)) pss_nil)
      (pss_one (ps_ret (pe_callB (cr_all rfl) (by rfl) m_all (by decide +kernel) (pa_cons (pe_lc (own := [("_law_one", 1), ("_law_other", 2)]) (g := gTup K 2 (gCons (gName 1) (gCons (gName 2) gNil))) rfl sc_law_do_go_on.nd (pi_zip (by rfl) m_zip (pa_cons (pv 0) (pa_cons (pe_slice sl_list (pv 0) (po_some pe_int) po_none) pa_nil))) (blkOk_by (own := [("_law_one", 1), ("_law_other", 2)]) (N := N_law_do_go_on) (sc := defScope s_law_do_go_on) (by decide +kernel)) (fun _ _ _ _ _ => (pg_tup rfl (pgs_cons (pg_name (i := 1) sc_law_do_go_on.nd rfl (.inl rfl)) (pgs_cons (pg_name (i := 2) sc_law_do_go_on.nd rfl (.inl rfl)) pgs_nil)))) (fun _ _ _ _ _ => pts_nil) (fun _ _ _ _ _ => (pe_and (pe_cmpR (r := rEqD K) (op_eqD hr.units) (pe_ix (r := rIxT K) ix_tup (pv 1) pe_int (fun _ _ => rfl)) (pe_ix (r := rIxT K) ix_tup (pv 2) pe_int (fun _ _ => rfl)) (nomark _)) (pe_one (pe_cmpR op_ne (pe_ix (r := rIxT K) ix_tup (pv 1) pe_int (fun _ _ => rfl)) (pe_ix (r := rIxT K) ix_tup (pv 2) pe_int (fun _ _ => rfl)) (nomark _)))))) pa_nil))))), ?_⟩
    obtain ⟨L, b, h, xs, rfl, hL, hT, hh, b0, b1, q⟩ := h
    have hlen : xs.length = (b + 1).toNat := by
      rw [hT.1, rgV_length]
      omega
    have hat : ∀ j : Nat, (j : Int) ≤ b → ∃ t t1 t2, xs[j]? = some (.ref t) ∧ St H t t1 t2 (stI b (reachOf h (j : Int))) := fun j hj => by
      have hx : xs[j]? = some xs[j] := List.getElem?_eq_getElem (by omega)
      obtain ⟨t, t1, t2, e, hst⟩ := hT.2 j _ _ hx (rg_get hj)
      exact ⟨t, t1, t2, by rw [hx, e], hst⟩
    -- it begins with 0
    obtain ⟨t, t1, t2, x0, a1, a2, a3⟩ := hat 0 (by omega)
    have a2 : H t1 = some (.tup [.int (stI b (reachOf h 0)).1.1, .int (stI b (reachOf h 0)).1.2]) := a2
    have a1 : H t = some (.tup [.ref t1, .bl (stI b (reachOf h 0)).2.1, .ref t2, .bl (stI b (reachOf h 0)).2.2.2]) := a1
    obtain ⟨f1, f2⟩ := first_st hh b0
    rw [f1] at a2
    rw [f2] at a1
    refine ⟨.ref L, rfl, L, _, 0, .ref t, rfl, rfl, hL, atI_nat (j := 0) x0, 2, rfl, t, _, rfl, SqT.of a1, fun z => absurd (show (2 : Nat) = 4 from z.2) (by decide), fun c nc => ?_⟩
    refine ⟨by show 2 ≤ sizeLine; decide, fun l1 n1 => ⟨by show 2 ≤ sizeLine; decide, fun l2 n2 => ?_⟩⟩
    have k1 := sameU (o := .tup (cutV [.ref t1, .bl true, .ref t2, .bl (stI b (reachOf h 0)).2.2.2] none (some 2))) nc
    have k2 := sameU (o := .tup [V.int 0, .int 1]) n1
    have k3 := sameU (o := .tup [V.ref l1, .bl true]) n2
    refine ⟨.tuple [.tuple [.int 0, .int 1], .bool true], .tuple [.tuple [.int 0, .int 1], .bool true], .tup (SqT.of (k3 _ _ (k2 _ _ upd_same))) (.cons (dp_pair (k3 _ _ (k2 _ _ (k1 _ _ a2)))) (.cons (.bl _) .nil)), .tup (SqT.of upd_same) (.cons (dp_pair (k3 _ _ upd_same)) (.cons (.bl _) .nil)), rfl, rfl, _, rfl, ?_⟩
    rw [show PyData.eqv (.tuple [.tuple [.int 0, .int 1], .bool true]) (.tuple [.tuple [.int 0, .int 1], .bool true]) = true from PySem.SeqAt.eqv_refl _ rfl]
    refine iteF ?_
    have s1 := (k1.trans k2).trans k3
    generalize L2.upd (L2.upd (L2.upd H c _) l1 _) l2 _ = H1 at s1
    -- it ends with 1
    obtain ⟨t', t1', t2', xb, e1, e2, e3⟩ := hat b.toNat (by omega)
    have eb : ((b.toNat : Nat) : Int) = b := by omega
    rw [eb] at e1 e2 e3
    have e3 : H t2' = some (.tup [.int (stI b (reachOf h b)).2.2.1.1, .int (stI b (reachOf h b)).2.2.1.2]) := e3
    have e1 : H t' = some (.tup [.ref t1', .bl (stI b (reachOf h b)).2.1, .ref t2', .bl (stI b (reachOf h b)).2.2.2]) := e1
    obtain ⟨f3, f4⟩ := last_st hh b0
    rw [f3] at e3
    rw [f4] at e1
    refine ⟨.ref L, rfl, 1, rfl, L, _, _, .ref t', rfl, rfl, sqL_same s1 hL, at_end (n := b.toNat) (by omega) xb, 2, rfl, t', _, rfl, SqT.of (s1 _ _ e1), fun z => absurd (show (2 : Nat) = 0 from z.1) (by decide), fun c nc => ?_⟩
    refine ⟨by show 2 ≤ sizeLine; decide, fun l1 n1 => ⟨by show 2 ≤ sizeLine; decide, fun l2 n2 => ?_⟩⟩
    have k1 := sameU (o := .tup (cutV [.ref t1', .bl (stI b (reachOf h b)).2.1, .ref t2', .bl true] (some 2) none)) nc
    have k2 := sameU (o := .tup [V.int 1, .int 1]) n1
    have k3 := sameU (o := .tup [V.ref l1, .bl true]) n2
    refine ⟨.tuple [.tuple [.int 1, .int 1], .bool true], .tuple [.tuple [.int 1, .int 1], .bool true], .tup (SqT.of (k3 _ _ (k2 _ _ upd_same))) (.cons (dp_pair (k3 _ _ (k2 _ _ (k1 _ _ (s1 _ _ e3))))) (.cons (.bl _) .nil)), .tup (SqT.of upd_same) (.cons (dp_pair (k3 _ _ upd_same)) (.cons (.bl _) .nil)), rfl, rfl, _, rfl, ?_⟩
    rw [show PyData.eqv (.tuple [.tuple [.int 1, .int 1], .bool true]) (.tuple [.tuple [.int 1, .int 1], .bool true]) = true from PySem.SeqAt.eqv_refl _ rfl]
    refine iteF ?_
    have s2 := s1.trans ((k1.trans k2).trans k3)
    generalize L2.upd (L2.upd (L2.upd H1 c _) l1 _) l2 _ = H2 at s2
    -- one goes on where the other ends
    refine ⟨.ref L, rfl, .ref L, rfl, 1, rfl, L, _, rfl, sqL_same s2 hL, fun c nc => ?_⟩
    have ec : cutV xs (some (1 : Int)) none = xs.drop 1 := cut_from (k := 1) (by omega)
    rw [ec]
    have s3 := s2.trans (sameU (o := .lst (xs.drop 1)) nc)
    have hc : (upd H2 c (.lst (xs.drop 1))) c = some (.lst (xs.drop 1)) := upd_same
    generalize L2.upd H2 c (.lst (xs.drop 1)) = H3 at s3 hc
    refine ⟨L, c, xs, xs.drop 1, rfl, sqL_same s3 hL, SqL.of hc, fun D nD => ?_⟩
    refine lc_it (walk_zip (n := b.toNat) (xs := xs) (ys := xs.drop 1) (by rw [List.length_drop, hlen]; omega)) (fun i H' => Same H3 H' ∧ H' D = some (.lst (List.replicate i (.bl true)))) ⟨sameU nD, upd_same⟩ (fun i H' _ hP => ⟨sqL_same (s3.trans hP.1) hL, sqL_same hP.1 (SqL.of hc)⟩) ?_ ?_
    · rintro i x H4 H5 hi hI ⟨T, y, z, rfl, nT, rfl, ey, ez⟩
      have ey : xs[i]? = some y := ey
      have ez : (xs.drop 1)[i]? = some z := ez
      rw [List.getElem?_drop, Nat.add_comm] at ez
      obtain ⟨t, t1, t2, x1, a1, a2, a3⟩ := hat i (by omega)
      obtain ⟨t', t1', t2', x2, e1, e2, e3⟩ := hat (i + 1) (by omega)
      obtain ⟨g1, g2⟩ := go_on (h := h) (b := b) (s := (i : Int)) hh (by omega) (by omega)
      have ei : ((i + 1 : Nat) : Int) = (i : Int) + 1 := by omega
      rw [ei] at e1 e2 e3
      have eyv : y = .ref t := Option.some.inj (ey.symm.trans x1)
      have ezv : z = .ref t' := Option.some.inj (ez.symm.trans x2)
      subst eyv ezv
      have sT := s3.trans (hI.1.trans (sameU (o := .tup [V.ref t, .ref t']) nT))
      have nTD : D ≠ T := ne_of_none hI.2 nT
      have a1 := sT _ _ a1
      have a3 := sT _ _ a3
      have e1 := sT _ _ e1
      have e2 := sT _ _ e2
      rw [g2] at a1
      rw [g1] at a3
      refine ⟨T, _, rfl, SqT.of upd_same, rfl, _, _, rfl, _, _, rfl, rfl, rfl, ?_⟩
      refine ⟨.ref t, rfl, t, _, 2, .ref t2, rfl, rfl, SqT.of a1, atI_nat (j := 2) rfl, .ref t', rfl, t', _, 0, .ref t1', rfl, rfl, SqT.of e1, atI_nat (j := 0) rfl, _, _, dp_pair a3, dp_pair e2, rfl, rfl, true, ?_, ?_⟩
      · rw [PySem.SeqAt.eqv_refl _ rfl]
      refine iteT ⟨.ref t, rfl, t, _, 3, .bl _, rfl, rfl, SqT.of a1, atI_nat (j := 3) rfl, .ref t', rfl, t', _, 1, .bl _, rfl, rfl, SqT.of e1, atI_nat (j := 1) rfl, rfl, ?_⟩
      have en : ∀ c : Bool, (!decide (V.bl (!c) = V.bl c)) = true := fun c => by cases c <;> rfl
      rw [en]
      refine ⟨List.replicate i (.bl true), ?_, ?_, ?_, ?_⟩
      · rw [upd_ne nTD]
        exact hI.2
      · rw [List.length_replicate]
        exact small1000 (by omega)
      · intro b' o e
        rw [upd_ne (ne_of_none e nD)]
        exact sameU nT _ _ (hI.1 _ _ e)
      · rw [upd_same, List.replicate_succ']
    · intro H4 hI
      refine ⟨D, List.replicate b.toNat true, rfl, SqL.of (by rw [hI.2, List.map_replicate]), ?_⟩
      rw [all_rep]
      exact q _ (s3.trans hI.1)

end
end Uq

namespace Uq
open PySem PySem.Spec PyProof.Rows L2

def SameT (H H' : Hp) : Prop := ∀ q ys, H q = some (.tup ys) → H' q = some (.tup ys)
theorem TL.sameT {H H' : Hp} {xs ss : List V} {h : Str} {b : Int} (e : SameT H H') (x : TL H xs h b ss) : TL H' xs h b ss := ⟨x.1, fun j v s h1 h2 => by
  obtain ⟨t, t1, t2, h3, h4⟩ := x.2 j v s h1 h2
  exact ⟨t, t1, t2, h3, e _ _ h4.1, e _ _ h4.2.1, e _ _ h4.2.2⟩⟩
theorem TL.put {H H' : Hp} {xs ss : List V} {h : Str} {b : Int} {t t1 t2 : Addr} {s : V} (e : SameT H H') (x : TL H xs h b ss) (y : St H' t t1 t2 (stOf h b s)) : TL H' (xs ++ [.ref t]) h b (ss ++ [s]) := by
  refine ⟨by rw [List.length_append, List.length_append, x.1]; rfl, fun j v r h1 h2 => ?_⟩
  by_cases hj : j < xs.length
  · rw [List.getElem?_append_left hj] at h1
    rw [List.getElem?_append_left (by rw [← x.1]; exact hj)] at h2
    exact (x.sameT e).2 j v r h1 h2
  · rw [List.getElem?_append_right (by omega)] at h1
    rw [List.getElem?_append_right (by rw [← x.1]; omega), ← x.1] at h2
    generalize j - xs.length = k at h1 h2
    cases k with
    | zero =>
      have e1 : V.ref t = v := Option.some.inj h1
      have e2 : s = r := Option.some.inj h2
      subst e1 e2
      exact ⟨t, t1, t2, rfl, y⟩
    | succ k => simp at h1
/-- all spots are right -/
theorem rd_all {K : PySem.W.Frag} {σ : L2.St} {H : Hp} {Q : VK} {tt : TT} {u D S : Addr} {b w : Int} {h : Str} {xs ys : List V} (htt : ∀ σ H Q, Q true H → tt σ H Q) (hU : Un K H u b h) (hD : H D = some (.lst xs)) (hT : TL H xs h b (shs b)) (hS : H S = some (.lst ys)) (hl : ys.length ≤ 300)
    (hy : ∀ y ∈ ys, ∃ m : Int, y = .int m ∧ 0 ≤ m ∧ m ≤ w) (w0 : 0 < w) (w1 : w < 2 ^ 40) (s2 : σ[2]? = some (some (.ref u))) (s3 : σ[3]? = some (some (.ref D))) (s5 : σ[5]? = some (some (.int w))) (s6 : σ[6]? = some (some (.ref S))) (hn : σ.length = 10) (q : ∀ H', Same H H' → Q (.bl true) H') :
    tCB (rAll K) (tCons (tLc (iList K (tVar 6)) (gName 9) tt (tCall (sp_law_is_one_right K) [] E0 (tCons (tVar 2) (tCons (tVar 3) (tCons (tVar 9) (tCons (tVar 5) tNil))))) [9]) tNil) σ H Q := by
  refine ⟨.ref S, s6, S, rfl, ⟨_, SqL.of hS⟩, fun A nA => ?_⟩
  refine lc_it (walk_list (xs := ys)) (fun i H' => Same H H' ∧ H' A = some (.lst (List.replicate i (.bl true)))) ⟨sameU nA, upd_same⟩ (fun i H' _ hP => sqL_same hP.1 (SqL.of hS)) ?_ ?_
  · rintro i x H1 H2 hi hI ⟨rfl, hx⟩
    obtain ⟨m, rfl, m0, m1⟩ := hy x (List.mem_of_getElem? hx)
    have w9 : ∀ (j : Nat) (z : Option V), j < 9 → ((wipe σ [9]).set 9 z)[j]? = σ[j]? := by
      intro j z hj
      rw [List.getElem?_set_ne (by omega)]
      show (wipe (σ.set 9 none) [])[j]? = _
      show (σ.set 9 none)[j]? = _
      rw [List.getElem?_set_ne (by omega)]
    have w99 : ((wipe σ [9]).set 9 (some (V.int m)))[9]? = some (some (V.int m)) := by
      rw [List.getElem?_set_self]
      show 9 < (σ.set 9 none).length
      rw [List.length_set, hn]
      decide
    refine ⟨?_, ?_⟩
    · show ((σ.set 9 none).set 9 (some (V.int m))).set 9 none = σ.set 9 none
      rw [List.set_set, List.set_set]
    refine htt _ _ _ (iteT ?_)
    refine ⟨.ref u, by rw [w9 _ _ (by decide)]; exact s2, .ref D, by rw [w9 _ _ (by decide)]; exact s3, .int m, w99, .int w, by rw [w9 _ _ (by decide)]; exact s5, u, D, b, h, xs, m, w, rfl, hU.same hI.1, SqL.of (hI.1 _ _ hD), hT.same hI.1, m0, m1, w0, w1, fun H3 s3 => ?_⟩
    refine ⟨_, s3 _ _ hI.2, ?_, ?_, by rw [upd_same, List.replicate_succ']⟩
    · rw [List.length_replicate]
      exact small1000 (by omega)
    · intro b' o e
      rw [upd_ne (ne_of_none e nA)]
      exact s3 _ _ (hI.1 _ _ e)
  · intro H1 hI
    refine ⟨A, List.replicate ys.length true, rfl, SqL.of (by rw [hI.2, List.map_replicate]), ?_⟩
    rw [all_rep]
    exact q _ hI.1
section
variable {P : Program} {w : World} {K : PySem.W.Frag} {mg : Str → Option Value} {base : Heap}

theorem ok_law_right {f : Addr} {fd : FuncData} (F : Fun K "_law_right" "_law_right" s_law_right f fd) (m_range : mg "range" = none) (m_list : mg "list" = none) (m_all : mg "all" = none) (c_law_take : Cal P w K mg base 1 "_law_take" ["_law_pot_here", "_law_upto"] (sp_law_take K)) (c_law_of : Cal P w K mg base 2 "_law_of" ["_law_pot_here", "_law_some"] (sp_law_of K)) (c_stretch : Cal P w K mg base 3 "stretch" ["units", "share"] (sp_stretch K)) (c_law_do_go_on : Cal P w K mg base 1 "_law_do_go_on" ["_law_told"] (sp_law_do_go_on K)) (c_law_is_one_right : Cal P w K mg base 4 "_law_is_one_right" ["_law_units", "_law_told", "_law_many", "_law_whole"] (sp_law_is_one_right K)) : FnOk P w K mg base CX0 5 f fd ["_law_pot_here"] (sp_law_right K) := by
  refine F.ok sc_law_right (fun vs H Q E h => ?_) (fun cdv A outer s H vs Q E hr h => ?_)
  · obtain ⟨p, rfl, _⟩ := h
    rfl
  · refine ⟨_, (pss_cons (ps_for PassesOwn.never rfl (pi_tup (pe_tup (pa_cons pe_str (pa_cons pe_str (pa_cons pe_str (pa_cons pe_str pa_nil)))))) (pg_name (i := 1) sc_law_right.nd rfl (.inl rfl))
        (pss_cons (ps_set (i := 2) sc_law_right.nd rfl (.inr rfl) (pe_tup (pa_cons (pe_op op_add pe_int (pe_call c_law_take.G (hr.mono (by decide)) (by rfl) c_law_take.g c_law_take.kp c_law_take.b .nil pass0 (pa_cons (pv 0) (pa_cons (pe_call c_law_of.G (hr.mono (by decide)) (by rfl) c_law_of.g c_law_of.kp c_law_of.b .nil pass0 (pa_cons (pv 0) (pa_cons (pe_lst (pa_cons pe_int (pa_cons pe_int pa_nil))) pa_nil))) pa_nil)))) (pa_cons (pv 1) pa_nil))))
        (pss_cons (ps_set (i := 3) sc_law_right.nd rfl (.inr rfl) (pe_lc (own := [("_law_share", 7)]) (g := gName 7) rfl sc_law_right.nd (pi_list (pe_op op_cat (pe_lst (pa_cons pe_str (pa_cons pe_str pa_nil))) (pe_listRg rfl (by rfl) m_list (prg_1 (by rfl) m_range (pe_op op_add (pe_ix ix_tup (pv 2) pe_int (fun _ _ => rfl)) pe_int))))) (blkOk_by (own := [("_law_share", 7)]) (N := N_law_right) (sc := defScope s_law_right) (by decide +kernel)) (fun _ _ _ _ _ => (pg_name (i := 7) sc_law_right.nd rfl (.inl rfl))) (fun _ _ _ _ _ => pts_nil) (fun _ _ _ _ _ => (pe_call c_stretch.G (hr.mono (by decide)) (by rfl) c_stretch.g c_stretch.kp c_stretch.b .nil pass0 (pa_cons (pv 2) (pa_cons (pv 7) pa_nil))))))
        (pss_cons (ps_if (pt_not (pt_val (pe_call c_law_do_go_on.G (hr.mono (by decide)) (by rfl) c_law_do_go_on.g c_law_do_go_on.kp c_law_do_go_on.b .nil pass0 (pa_cons (pe_slice sl_list (pv 3) (po_some pe_int) po_none) pa_nil)))) (pss_one (ps_ret pe_bl)) pss_nil)
        (pss_cons (ps_set (i := 4) sc_law_right.nd rfl (.inl rfl) (pe_lst (pa_cons (pe_op op_add pe_int (pe_call c_law_take.G (hr.mono (by decide)) (by rfl) c_law_take.g c_law_take.kp c_law_take.b .nil pass0 (pa_cons (pv 0) (pa_cons pe_int pa_nil)))) (pa_cons (pe_op op_mul pe_int (pe_ix ix_tup (pv 2) pe_int (fun _ _ => rfl))) (pa_cons (pe_op op_add pe_int (pe_call c_law_take.G (hr.mono (by decide)) (by rfl) c_law_take.g c_law_take.kp c_law_take.b .nil pass0 (pa_cons (pv 0) (pa_cons (pe_op op_sub (pe_op op_powW pe_int pe_int) pe_int) pa_nil)))) pa_nil)))))
        (pss_one (ps_for PassesOwn.never rfl (pi_list (pv 4)) (pg_name (i := 5) sc_law_right.nd rfl (.inr rfl))
          (pss_cons (ps_set (i := 6) sc_law_right.nd rfl (.inl rfl) (pe_ifExp (pt_cmpR op_lt (pv 5) pe_int (nomark _)) (pe_listRg rfl (by rfl) m_list (prg_1 (by rfl) m_range (pe_op op_add (pv 5) pe_int))) (pe_lc (own := [("_law_lap", 8)]) (g := gName 8) rfl sc_law_right.nd (pi_range1 (by rfl) m_range (pa_cons pe_int pa_nil)) (blkOk_by (own := [("_law_lap", 8)]) (N := N_law_right) (sc := defScope s_law_right) (by decide +kernel)) (fun _ _ _ _ _ => (pg_name (i := 8) sc_law_right.nd rfl (.inl rfl))) (fun _ _ _ _ _ => pts_nil) (fun _ _ _ _ _ => (pe_call c_law_take.G (hr.mono (by decide)) (by rfl) c_law_take.g c_law_take.kp c_law_take.b .nil pass0 (pa_cons (pv 0) (pa_cons (pe_op op_add (pv 5) pe_int) pa_nil)))))))
          (pss_one (ps_if (pt_not (pt_val (pe_callB (cr_all rfl) (by rfl) m_all (by decide +kernel) (pa_cons (pe_lc (own := [("_law_many", 9)]) (g := gName 9) rfl sc_law_right.nd (pi_list (pv 6)) (blkOk_by (own := [("_law_many", 9)]) (N := N_law_right) (sc := defScope s_law_right) (by decide +kernel)) (fun _ _ _ _ _ => (pg_name (i := 9) sc_law_right.nd rfl (.inl rfl))) (fun _ _ _ _ _ => pts_nil) (fun _ _ _ _ _ => (pe_call c_law_is_one_right.G (hr.mono (by decide)) (by rfl) c_law_is_one_right.g c_law_is_one_right.kp c_law_is_one_right.b .nil pass0 (pa_cons (pv 2) (pa_cons (pv 3) (pa_cons (pv 9) (pa_cons (pv 5) pa_nil))))))) pa_nil)))) (pss_one (ps_ret pe_bl)) pss_nil))))))))))
      (pss_one (ps_ret pe_bl))), ?_⟩
    obtain ⟨p, rfl, hp, q⟩ := h
    refine ⟨by show 4 ≤ sizeLine; decide, fun T nT => ?_⟩
    have nTp : T ≠ p := hp.ne nT
    refine ⟨T, rfl, ⟨_, SqT.of upd_same⟩, ?_⟩
    refine for_it (walk_tup (xs := hows)) (fun i σ H1 => ∃ x1 x2 x3 x4 x5 x6 x7 x8 x9, σ = [some (.ref p), x1, x2, x3, x4, x5, x6, x7, x8, x9] ∧ But p H H1 ∧ Pot H1 p (100 * i) ∧ H1 T = some (.tup hows)) ?_ ?_ ?_ ?_
    · exact ⟨none, none, none, none, none, none, none, none, none, rfl, (But.refl _ _).new nT, hp.new nT, upd_same⟩
    · rintro i σ H1 _ ⟨x1, x2, x3, x4, x5, x6, x7, x8, x9, rfl, hB, hP, hT⟩
      exact SqT.of hT
    · rintro i x σ H1 H2 hi ⟨x1, x2, x3, x4, x5, x6, x7, x8, x9, rfl, hB, hP, hT⟩ ⟨rfl, hx⟩
      have hi4 : i < 4 := hi
      have hh : ∃ h, x = .str h ∧ How h := by
        obtain rfl | rfl | rfl | rfl : i = 0 ∨ i = 1 ∨ i = 2 ∨ i = 3 := by omega
        · exact ⟨"near", (Option.some.inj hx).symm, .inl rfl⟩
        · exact ⟨"even", (Option.some.inj hx).symm, .inr (.inl rfl)⟩
        · exact ⟨"down", (Option.some.inj hx).symm, .inr (.inr (.inl rfl))⟩
        · exact ⟨"up", (Option.some.inj hx).symm, .inr (.inr (.inr rfl))⟩
      obtain ⟨h, rfl, hh⟩ := hh
      -- units
      refine ⟨.ref p, rfl, .ref p, rfl, by show 2 ≤ sizeLine; decide, fun l nl => ?_⟩
      refine ⟨p, l, 100 * i, [.int 11, .int 99], rfl, hP.new nl, by omega, hP.ne nl, SqL.of upd_same, by decide, by decide, fun H3 j v hB3 hP3 hv => ?_⟩
      have hz : ∃ z : Int, v = .int z ∧ 11 ≤ z ∧ z ≤ 99 := by
        rcases List.mem_cons.mp (List.mem_of_getElem? hv) with rfl | z
        · exact ⟨11, rfl, by decide, by decide⟩
        · rw [List.mem_singleton.mp z]
          exact ⟨99, rfl, by decide, by decide⟩
      obtain ⟨z, rfl, z0, z1⟩ := hz
      refine ⟨p, 100 * i + 1, z, rfl, hP3, by omega, by omega, by omega, fun H4 d hB4 hP4 d0 d1 => ?_⟩
      refine ⟨2, d, rfl, rfl, .str h, rfl, by show 2 ≤ sizeLine; decide, fun u nu => ?_⟩
      have hB4' : But p H2 (upd H4 u (.tup [.int (2 + d), .str h])) := (((But.refl _ _).new nl).trans hB3 |>.trans hB4).new nu
      have hP5 := hP4.new (o := .tup [.int (2 + d), .str h]) nu
      have nup := hP4.ne nu
      have hut : (upd H4 u (.tup [.int (2 + d), .str h])) u = some (.tup [.int (2 + d), .str h]) := upd_same
      have d98 : d < 99 := by omega
      generalize L2.upd H4 u (.tup [.int (2 + d), .str h]) = H5 at hB4' hP5 hut
      generalize hbd : (2 + d : Int) = b at hut
      have b0 : 2 ≤ b := by omega
      have b1 : b ≤ 100 := by omega
      have hU : Un K H5 u b h := ⟨SqT.of hut, b0, b1, hh⟩
      -- all stretches
      refine ⟨by show 2 ≤ sizeLine; decide, fun l1 n1 => ⟨.ref u, rfl, u, _, 0, .int b, rfl, rfl, sqT_same (sameU n1) hU.1, atI_nat (j := 0) rfl, b, 1, rfl, rfl, b + 1, rfl, RgOk.of_le (by decide) (by omega) (by decide) (by omega), fun l2 n2 => ?_⟩⟩
      have nl12 : l1 ≠ l2 := fun z => by
        rw [← z, upd_same] at n2
        cases n2
      refine ⟨l1, l2, _, _, rfl, rfl, by rw [upd_ne nl12, upd_same], upd_same, ?_, fun L nL => ?_⟩
      · rw [rgV_length]
        exact Nat.le_of_lt (small1000 (by show 2 + (b + 1 - 0).toNat ≤ 1000; omega))
      generalize hH : L2.upd (L2.upd (L2.upd H5 l1 _) l2 _) L _ = H6
      have s56 : Same H5 H6 := by
        rw [← hH]
        exact ((sameU n1).trans (sameU n2)).trans (sameU nL)
      have hL6 : H6 L = some (.lst (shs b)) := by
        rw [← hH]
        exact upd_same
      clear hH
      refine ⟨L, rfl, ⟨shs b, SqL.of hL6⟩, fun D nD => ?_⟩
      have hlen : (shs b).length = (b + 3).toNat := shs_len (by omega)
      refine lc_it (walk_list (xs := shs b)) (fun i H' => Same H6 H' ∧ ∃ xs, H' D = some (.lst xs) ∧ TL H' xs h b ((shs b).take i)) ⟨sameU nD, [], upd_same, rfl, fun j v s e => by simp at e⟩ (fun i H' _ hP => sqL_same hP.1 (SqL.of hL6)) ?_ ?_
      · rintro k y H7 H8 hk ⟨s7, xs, hD, hTL⟩ ⟨rfl, hy⟩
        have hsh := shs_sh (b := b) (by omega) y (List.mem_of_getElem? hy)
        refine ⟨rfl, .ref u, rfl, y, rfl, u, b, h, y, rfl, (hU.same s56).same s7, hsh, fun H9 t t1 t2 s9 m0 m1 m2 hst => ?_⟩
        have nDt : ∀ {q : Addr}, H8 q = none → q ≠ D := fun {q} z e => by
          rw [e, hD] at z
          cases z
        refine ⟨xs, s9 _ _ hD, ?_, ?_, xs ++ [.ref t], upd_same, ?_⟩
        · rw [hTL.1, List.length_take]
          exact small1000 (Nat.le_trans (Nat.min_le_left _ _) (by omega))
        · intro b' o e
          rw [upd_ne (ne_of_none e nD)]
          exact s9 _ _ (s7 _ _ e)
        · rw [List.take_add_one, hy]
          have st' : St (upd H9 D (.lst (xs ++ [.ref t]))) t t1 t2 (stOf h b y) := ⟨by rw [upd_ne (nDt m0)]; exact hst.1, by rw [upd_ne (nDt m1)]; exact hst.2.1, by rw [upd_ne (nDt m2)]; exact hst.2.2⟩
          refine TL.put (H := H8) (fun q ys e => ?_) hTL st'
          rw [upd_ne (fun z => by rw [z, hD] at e; cases e)]
          exact s9 _ _ e
      rintro H7 ⟨s7, xs, hD, hTL⟩
      rw [List.take_of_length_le (Nat.le_refl _)] at hTL
      have s57 := s56.trans s7
      have hB7 : But p H2 H7 := hB4'.trans (But.of s57)
      have hP7 := hP5.same s57
      have hU7 := hU.same s57
      have nDp : D ≠ p := (hP5.same s56).ne nD
      -- they go on
      refine ⟨.ref D, rfl, 2, rfl, D, _, rfl, SqL.of hD, fun c nc => ?_⟩
      have ec : cutV xs (some (2 : Int)) none = xs.drop 2 := cut_from (k := 2) (by rw [hTL.1, hlen]; omega)
      rw [ec]
      refine ⟨c, b, h, xs.drop 2, rfl, SqL.of upd_same, (hTL.drop 2).same (sameU nc), hh, b0, b1, fun H8 s8 => ⟨true, rfl, iteF ?_⟩⟩
      have s78 := (sameU (o := .lst (xs.drop 2)) nc).trans s8
      have hB8 := hB7.trans (But.of s78)
      have hP8 := hP7.same s78
      have hU8 := hU7.same s78
      have hD8 := s78 _ _ hD
      have hT8 := hTL.same s78
      -- three wholes
      refine ⟨.ref p, rfl, p, _, 20, rfl, hP8, by omega, by decide, by decide, fun H9 a hB9 hP9 a0 a1 => ?_⟩
      have hU9 := hU8.but hB9 nup
      refine ⟨1, a, rfl, rfl, .ref u, rfl, u, _, 0, .int b, rfl, rfl, hU9.1, atI_nat (j := 0) rfl, 2, b, rfl, rfl, .inl ⟨by decide, by decide⟩, .ref p, rfl, 10, 9, rfl, rfl, powW_ok (j := 9) (n := 8) (by decide) (by decide), _, 1, rfl, rfl, p, _, _, rfl, hP9, by omega, by decide, by decide, fun H10 e hB10 hP10 e0 e1 => ?_⟩
      have e1 : e < 999999999 := e1
      refine ⟨1, e, rfl, rfl, by show 3 ≤ sizeLine; decide, fun W nW => ?_⟩
      have hB10' : But p H2 (upd H10 W (.lst [.int (1 + a), .int (2 * b), .int (1 + e)])) := ((hB8.trans hB9).trans hB10).new nW
      have hP11 := hP10.new (o := .lst [.int (1 + a), .int (2 * b), .int (1 + e)]) nW
      have nWp := hP10.ne nW
      have hW : (upd H10 W (.lst [.int (1 + a), .int (2 * b), .int (1 + e)])) W = some (.lst [.int (1 + a), .int (2 * b), .int (1 + e)]) := upd_same
      have hB8t : But p H8 (upd H10 W (.lst [.int (1 + a), .int (2 * b), .int (1 + e)])) := (hB9.trans hB10).new nW
      change tFor (iList K (tVar 4)) _ _ _ _ (upd H10 W (.lst [.int (1 + a), .int (2 * b), .int (1 + e)]))
      generalize (upd H10 W (.lst [.int (1 + a), .int (2 * b), .int (1 + e)])) = H11 at hB10' hP11 hW hB8t ⊢
      refine ⟨.ref W, rfl, W, rfl, ⟨_, SqL.of hW⟩, ?_⟩
      refine for_it (walk_list (xs := [.int (1 + a), .int (2 * b), .int (1 + e)])) (fun k σ H12 => ∃ y5 y6 y7 y8 y9, σ = [some (.ref p), some (.str h), some (.ref u), some (.ref D), some (.ref W), y5, y6, y7, y8, y9] ∧ But p H11 H12 ∧ Pot H12 p (100 * i + 10 + 25 * k)) ?_ ?_ ?_ ?_
      · exact ⟨_, _, _, _, _, rfl, But.refl _ _, hP11.mono (by omega)⟩
      · rintro k σ H12 _ ⟨y5, y6, y7, y8, y9, rfl, hB12, hP12⟩
        exact SqL.of (hB12 _ _ nWp hW)
      · rintro k y σ H12 H13 hk ⟨y5, y6, y7, y8, y9, rfl, hB12, hP12⟩ ⟨rfl, hy⟩
        have hk3 : k < 3 := hk
        have hyw : ∃ n : Int, y = .int n ∧ 0 < n ∧ n < 2 ^ 40 := by
          rcases List.mem_cons.mp (List.mem_of_getElem? hy) with rfl | z
          · exact ⟨_, rfl, by omega, by omega⟩
          · rcases List.mem_cons.mp z with rfl | z
            · exact ⟨_, rfl, by omega, by omega⟩
            · rw [List.mem_singleton.mp z]
              exact ⟨_, rfl, by omega, by omega⟩
        obtain ⟨n, rfl, n0, n1'⟩ := hyw
        have hB813 : But p H8 H13 := hB8t.trans hB12
        have hU13 := hU8.but hB813 nup
        have hD13 := hB813 _ _ nDp hD8
        have hT13 := hT8.but hP8 hB813
        refine ⟨.int n, rfl, n, 201, rfl, rfl, _, rfl, ite2 (fun e => ?_) (fun e => ?_)⟩
        · have e2 : n < 201 := of_decide_eq_true e
          refine ⟨.int n, rfl, n, 1, rfl, rfl, n + 1, rfl, RgOk.of_le (by decide) (by omega) (by decide) (by omega), fun S nS => ?_⟩
          dsimp only [tIfS, tNot, tB, gName]
          have sS := sameU (o := .lst (rgV 0 (n + 1))) nS
          refine rd_all (u := u) (D := D) (S := S) (b := b) (w := n) (h := h) (xs := xs) (ys := rgV 0 (n + 1)) (fun _ _ _ z => z) (hU13.same sS) (sS _ _ hD13) (hT13.same sS) upd_same ?_ ?_ n0 n1' rfl rfl rfl rfl rfl (fun H14 s14 => ?_)
          · rw [rgV_length]
            omega
          · intro y hy
            unfold rgV at hy
            obtain ⟨j, hj, rfl⟩ := List.mem_map.mp hy
            have hj := List.mem_range.mp hj
            exact ⟨_, rfl, by omega, by omega⟩
          · refine ⟨true, rfl, iteF ?_⟩
            exact ⟨_, _, _, _, _, rfl, (hB12.trans (But.of sS)).trans (But.of s14), ((hP12.same sS).same s14).mono (by omega)⟩
        · refine ⟨20, rfl, by decide, by decide, fun S nS => ?_⟩
          have nSp := hP12.ne nS
          refine lc_range (lo := 0) (n := 20) (fun j H' => But p H13 H' ∧ Pot H' p (100 * i + 10 + 25 * k + j) ∧ ∃ ys, H' S = some (.lst ys) ∧ ys.length = j ∧ ∀ y ∈ ys, ∃ m : Int, y = .int m ∧ 0 ≤ m ∧ m ≤ n) ⟨(But.refl _ _).new nS, (hP12.new nS).mono (by omega), [], upd_same, rfl, fun y hy => nomatch hy⟩ ?_ ?_
          · rintro j H' hj ⟨hB', hP', ys, hS', hlen', hall⟩
            refine ⟨rfl, .ref p, rfl, .int n, rfl, n, 1, rfl, rfl, p, _, n + 1, rfl, hP', by omega, by omega, by omega, fun H'' m hB'' hP'' m0 m1 => ?_⟩
            refine ⟨ys, hB'' _ _ nSp hS', small1000 (by omega), ?_, (hP''.upd nSp.symm).mono (by omega), ys ++ [.int m], upd_same, by rw [List.length_append, hlen']; rfl, ?_⟩
            · intro b' o nb e
              rw [upd_ne (ne_of_none e nS)]
              exact hB'' _ _ nb (hB' _ _ nb e)
            · intro y hy
              rcases List.mem_append.mp hy with hy | hy
              · exact hall y hy
              · rw [List.mem_singleton.mp hy]
                exact ⟨m, rfl, m0, by omega⟩
          · rintro H' ⟨hB', hP', ys, hS', hlen', hall⟩
            dsimp only [tIfS, tNot, tB, gName]
            refine rd_all (u := u) (D := D) (S := S) (b := b) (w := n) (h := h) (xs := xs) (ys := ys) (fun _ _ _ z => z) (hU13.but hB' nup) (hB' _ _ nDp hD13) (hT13.but hP12 hB') hS' (by omega) hall n0 n1' rfl rfl rfl rfl rfl (fun H14 s14 => ?_)
            refine ⟨true, rfl, iteF ?_⟩
            exact ⟨_, _, _, _, _, rfl, (hB12.trans hB').trans (But.of s14), (hP'.same s14).mono (by omega)⟩
      · rintro σ H12 ⟨y5, y6, y7, y8, y9, rfl, hB12, hP12⟩
        have hBend : But p H2 H12 := hB10'.trans hB12
        exact ⟨_, _, _, _, _, _, _, _, _, rfl, hB.trans hBend, hP12.mono (by show 100 * i + 10 + 25 * 3 ≤ 100 * (i + 1); omega), hBend _ _ nTp hT⟩
    · rintro σ H1 ⟨x1, x2, x3, x4, x5, x6, x7, x8, x9, rfl, hB, hP, hT⟩
      exact q _ hB

end
end Uq

namespace Uq
open PySem PySem.Spec PyProof.Rows L2
theorem all_mk {l : PySem.W.OpenLaw} {w : World} {K : PySem.W.Frag} {h : Heap} {mg : Str → Option Value} {fa : Addr} (X : K.In h) (G : h.Ns mainGlobals mg) (hfa : mg "law" = some (.ref fa))
    {f_is_integer : Addr} {od_is_integer an_is_integer : Option Addr} {sl_is_integer : Array (Option Value)} {oc_is_integer kV_is_integer dc_is_integer pm_is_integer cd_is_integer ct_is_integer : Value}
    (a_is_integer : PySem.W.nsIn K mainGlobals "is_integer" = some (some (.ref f_is_integer))) (l_is_integer : K.lookup f_is_integer = some ⟨oc_is_integer, od_is_integer, .func (PySem.W.fnOf "is_integer" "is_integer" (defArgs s_is_integer) (defBody s_is_integer) (defScope s_is_integer) .none kV_is_integer dc_is_integer pm_is_integer an_is_integer cd_is_integer ct_is_integer), sl_is_integer⟩) (k_is_integer : PySem.W.codeIn K cd_is_integer "is_integer" = true) (p_is_integer : PySem.W.keepIn K (.ref f_is_integer) = true)
    {f_least_terms : Addr} {od_least_terms an_least_terms : Option Addr} {sl_least_terms : Array (Option Value)} {oc_least_terms kV_least_terms dc_least_terms pm_least_terms cd_least_terms ct_least_terms : Value}
    (a_least_terms : PySem.W.nsIn K mainGlobals "least_terms" = some (some (.ref f_least_terms))) (l_least_terms : K.lookup f_least_terms = some ⟨oc_least_terms, od_least_terms, .func (PySem.W.fnOf "least_terms" "least_terms" (defArgs s_least_terms) (defBody s_least_terms) (defScope s_least_terms) .none kV_least_terms dc_least_terms pm_least_terms an_least_terms cd_least_terms ct_least_terms), sl_least_terms⟩) (k_least_terms : PySem.W.codeIn K cd_least_terms "least_terms" = true) (p_least_terms : PySem.W.keepIn K (.ref f_least_terms) = true)
    {f_rounded : Addr} {od_rounded an_rounded : Option Addr} {sl_rounded : Array (Option Value)} {oc_rounded kV_rounded dc_rounded pm_rounded cd_rounded ct_rounded : Value}
    (a_rounded : PySem.W.nsIn K mainGlobals "rounded" = some (some (.ref f_rounded))) (l_rounded : K.lookup f_rounded = some ⟨oc_rounded, od_rounded, .func (PySem.W.fnOf "rounded" "rounded" (defArgs s_rounded) (defBody s_rounded) (defScope s_rounded) .none kV_rounded dc_rounded pm_rounded an_rounded cd_rounded ct_rounded), sl_rounded⟩) (k_rounded : PySem.W.codeIn K cd_rounded "rounded" = true) (p_rounded : PySem.W.keepIn K (.ref f_rounded) = true)
    {f_reach : Addr} {od_reach an_reach : Option Addr} {sl_reach : Array (Option Value)} {oc_reach kV_reach dc_reach pm_reach cd_reach ct_reach : Value}
    (a_reach : PySem.W.nsIn K mainGlobals "reach" = some (some (.ref f_reach))) (l_reach : K.lookup f_reach = some ⟨oc_reach, od_reach, .func (PySem.W.fnOf "reach" "reach" (defArgs s_reach) (defBody s_reach) (defScope s_reach) .none kV_reach dc_reach pm_reach an_reach cd_reach ct_reach), sl_reach⟩) (k_reach : PySem.W.codeIn K cd_reach "reach" = true) (p_reach : PySem.W.keepIn K (.ref f_reach) = true)
    {f_law_pot : Addr} {od_law_pot an_law_pot : Option Addr} {sl_law_pot : Array (Option Value)} {oc_law_pot kV_law_pot dc_law_pot pm_law_pot cd_law_pot ct_law_pot : Value}
    (a_law_pot : PySem.W.nsIn K mainGlobals "_law_pot" = some (some (.ref f_law_pot))) (l_law_pot : K.lookup f_law_pot = some ⟨oc_law_pot, od_law_pot, .func (PySem.W.fnOf "_law_pot" "_law_pot" (defArgs s_law_pot) (defBody s_law_pot) (defScope s_law_pot) .none kV_law_pot dc_law_pot pm_law_pot an_law_pot cd_law_pot ct_law_pot), sl_law_pot⟩) (k_law_pot : PySem.W.codeIn K cd_law_pot "_law_pot" = true) (p_law_pot : PySem.W.keepIn K (.ref f_law_pot) = true)
    {f_law_take : Addr} {od_law_take an_law_take : Option Addr} {sl_law_take : Array (Option Value)} {oc_law_take kV_law_take dc_law_take pm_law_take cd_law_take ct_law_take : Value}
    (a_law_take : PySem.W.nsIn K mainGlobals "_law_take" = some (some (.ref f_law_take))) (l_law_take : K.lookup f_law_take = some ⟨oc_law_take, od_law_take, .func (PySem.W.fnOf "_law_take" "_law_take" (defArgs s_law_take) (defBody s_law_take) (defScope s_law_take) .none kV_law_take dc_law_take pm_law_take an_law_take cd_law_take ct_law_take), sl_law_take⟩) (k_law_take : PySem.W.codeIn K cd_law_take "_law_take" = true) (p_law_take : PySem.W.keepIn K (.ref f_law_take) = true)
    {f_law_cells : Addr} {od_law_cells an_law_cells : Option Addr} {sl_law_cells : Array (Option Value)} {oc_law_cells kV_law_cells dc_law_cells pm_law_cells cd_law_cells ct_law_cells : Value}
    (a_law_cells : PySem.W.nsIn K mainGlobals "_law_cells" = some (some (.ref f_law_cells))) (l_law_cells : K.lookup f_law_cells = some ⟨oc_law_cells, od_law_cells, .func (PySem.W.fnOf "_law_cells" "_law_cells" (defArgs s_law_cells) (defBody s_law_cells) (defScope s_law_cells) .none kV_law_cells dc_law_cells pm_law_cells an_law_cells cd_law_cells ct_law_cells), sl_law_cells⟩) (k_law_cells : PySem.W.codeIn K cd_law_cells "_law_cells" = true) (p_law_cells : PySem.W.keepIn K (.ref f_law_cells) = true)
    {f_law_is_within : Addr} {od_law_is_within an_law_is_within : Option Addr} {sl_law_is_within : Array (Option Value)} {oc_law_is_within kV_law_is_within dc_law_is_within pm_law_is_within cd_law_is_within ct_law_is_within : Value}
    (a_law_is_within : PySem.W.nsIn K mainGlobals "_law_is_within" = some (some (.ref f_law_is_within))) (l_law_is_within : K.lookup f_law_is_within = some ⟨oc_law_is_within, od_law_is_within, .func (PySem.W.fnOf "_law_is_within" "_law_is_within" (defArgs s_law_is_within) (defBody s_law_is_within) (defScope s_law_is_within) .none kV_law_is_within dc_law_is_within pm_law_is_within an_law_is_within cd_law_is_within ct_law_is_within), sl_law_is_within⟩) (k_law_is_within : PySem.W.codeIn K cd_law_is_within "_law_is_within" = true) (p_law_is_within : PySem.W.keepIn K (.ref f_law_is_within) = true)
    {f_law_do_go_on : Addr} {od_law_do_go_on an_law_do_go_on : Option Addr} {sl_law_do_go_on : Array (Option Value)} {oc_law_do_go_on kV_law_do_go_on dc_law_do_go_on pm_law_do_go_on cd_law_do_go_on ct_law_do_go_on : Value}
    (a_law_do_go_on : PySem.W.nsIn K mainGlobals "_law_do_go_on" = some (some (.ref f_law_do_go_on))) (l_law_do_go_on : K.lookup f_law_do_go_on = some ⟨oc_law_do_go_on, od_law_do_go_on, .func (PySem.W.fnOf "_law_do_go_on" "_law_do_go_on" (defArgs s_law_do_go_on) (defBody s_law_do_go_on) (defScope s_law_do_go_on) .none kV_law_do_go_on dc_law_do_go_on pm_law_do_go_on an_law_do_go_on cd_law_do_go_on ct_law_do_go_on), sl_law_do_go_on⟩) (k_law_do_go_on : PySem.W.codeIn K cd_law_do_go_on "_law_do_go_on" = true) (p_law_do_go_on : PySem.W.keepIn K (.ref f_law_do_go_on) = true)
    {f_is_units : Addr} {od_is_units an_is_units : Option Addr} {sl_is_units : Array (Option Value)} {oc_is_units kV_is_units dc_is_units pm_is_units cd_is_units ct_is_units : Value}
    (a_is_units : PySem.W.nsIn K mainGlobals "is_units" = some (some (.ref f_is_units))) (l_is_units : K.lookup f_is_units = some ⟨oc_is_units, od_is_units, .func (PySem.W.fnOf "is_units" "is_units" (defArgs s_is_units) (defBody s_is_units) (defScope s_is_units) .none kV_is_units dc_is_units pm_is_units an_is_units cd_is_units ct_is_units), sl_is_units⟩) (k_is_units : PySem.W.codeIn K cd_is_units "is_units" = true) (p_is_units : PySem.W.keepIn K (.ref f_is_units) = true)
    {f_is_share : Addr} {od_is_share an_is_share : Option Addr} {sl_is_share : Array (Option Value)} {oc_is_share kV_is_share dc_is_share pm_is_share cd_is_share ct_is_share : Value}
    (a_is_share : PySem.W.nsIn K mainGlobals "is_share" = some (some (.ref f_is_share))) (l_is_share : K.lookup f_is_share = some ⟨oc_is_share, od_is_share, .func (PySem.W.fnOf "is_share" "is_share" (defArgs s_is_share) (defBody s_is_share) (defScope s_is_share) .none kV_is_share dc_is_share pm_is_share an_is_share cd_is_share ct_is_share), sl_is_share⟩) (k_is_share : PySem.W.codeIn K cd_is_share "is_share" = true) (p_is_share : PySem.W.keepIn K (.ref f_is_share) = true)
    {f_law_of : Addr} {od_law_of an_law_of : Option Addr} {sl_law_of : Array (Option Value)} {oc_law_of kV_law_of dc_law_of pm_law_of cd_law_of ct_law_of : Value}
    (a_law_of : PySem.W.nsIn K mainGlobals "_law_of" = some (some (.ref f_law_of))) (l_law_of : K.lookup f_law_of = some ⟨oc_law_of, od_law_of, .func (PySem.W.fnOf "_law_of" "_law_of" (defArgs s_law_of) (defBody s_law_of) (defScope s_law_of) .none kV_law_of dc_law_of pm_law_of an_law_of cd_law_of ct_law_of), sl_law_of⟩) (k_law_of : PySem.W.codeIn K cd_law_of "_law_of" = true) (p_law_of : PySem.W.keepIn K (.ref f_law_of) = true)
    {f_shown : Addr} {od_shown an_shown : Option Addr} {sl_shown : Array (Option Value)} {oc_shown kV_shown dc_shown pm_shown cd_shown ct_shown : Value}
    (a_shown : PySem.W.nsIn K mainGlobals "shown" = some (some (.ref f_shown))) (l_shown : K.lookup f_shown = some ⟨oc_shown, od_shown, .func (PySem.W.fnOf "shown" "shown" (defArgs s_shown) (defBody s_shown) (defScope s_shown) .none kV_shown dc_shown pm_shown an_shown cd_shown ct_shown), sl_shown⟩) (k_shown : PySem.W.codeIn K cd_shown "shown" = true) (p_shown : PySem.W.keepIn K (.ref f_shown) = true)
    {f_stretch : Addr} {od_stretch an_stretch : Option Addr} {sl_stretch : Array (Option Value)} {oc_stretch kV_stretch dc_stretch pm_stretch cd_stretch ct_stretch : Value}
    (a_stretch : PySem.W.nsIn K mainGlobals "stretch" = some (some (.ref f_stretch))) (l_stretch : K.lookup f_stretch = some ⟨oc_stretch, od_stretch, .func (PySem.W.fnOf "stretch" "stretch" (defArgs s_stretch) (defBody s_stretch) (defScope s_stretch) .none kV_stretch dc_stretch pm_stretch an_stretch cd_stretch ct_stretch), sl_stretch⟩) (k_stretch : PySem.W.codeIn K cd_stretch "stretch" = true) (p_stretch : PySem.W.keepIn K (.ref f_stretch) = true)
    {f_law_is_one_right : Addr} {od_law_is_one_right an_law_is_one_right : Option Addr} {sl_law_is_one_right : Array (Option Value)} {oc_law_is_one_right kV_law_is_one_right dc_law_is_one_right pm_law_is_one_right cd_law_is_one_right ct_law_is_one_right : Value}
    (a_law_is_one_right : PySem.W.nsIn K mainGlobals "_law_is_one_right" = some (some (.ref f_law_is_one_right))) (l_law_is_one_right : K.lookup f_law_is_one_right = some ⟨oc_law_is_one_right, od_law_is_one_right, .func (PySem.W.fnOf "_law_is_one_right" "_law_is_one_right" (defArgs s_law_is_one_right) (defBody s_law_is_one_right) (defScope s_law_is_one_right) .none kV_law_is_one_right dc_law_is_one_right pm_law_is_one_right an_law_is_one_right cd_law_is_one_right ct_law_is_one_right), sl_law_is_one_right⟩) (k_law_is_one_right : PySem.W.codeIn K cd_law_is_one_right "_law_is_one_right" = true) (p_law_is_one_right : PySem.W.keepIn K (.ref f_law_is_one_right) = true)
    {f_law_right : Addr} {od_law_right an_law_right : Option Addr} {sl_law_right : Array (Option Value)} {oc_law_right kV_law_right dc_law_right pm_law_right cd_law_right ct_law_right : Value}
    (a_law_right : PySem.W.nsIn K mainGlobals "_law_right" = some (some (.ref f_law_right))) (l_law_right : K.lookup f_law_right = some ⟨oc_law_right, od_law_right, .func (PySem.W.fnOf "_law_right" "_law_right" (defArgs s_law_right) (defBody s_law_right) (defScope s_law_right) .none kV_law_right dc_law_right pm_law_right an_law_right cd_law_right ct_law_right), sl_law_right⟩) (k_law_right : PySem.W.codeIn K cd_law_right "_law_right" = true) (p_law_right : PySem.W.keepIn K (.ref f_law_right) = true)
    {f_law : Addr} {od_law an_law : Option Addr} {sl_law : Array (Option Value)} {oc_law kV_law dc_law pm_law cd_law ct_law : Value}
    (a_law : PySem.W.nsIn K mainGlobals "law" = some (some (.ref f_law))) (l_law : K.lookup f_law = some ⟨oc_law, od_law, .func (PySem.W.fnOf "law" "law" (defArgs s_law) (defBody s_law) (defScope s_law) .none kV_law dc_law pm_law an_law cd_law ct_law), sl_law⟩) (k_law : PySem.W.codeIn K cd_law "law" = true) (p_law : PySem.W.keepIn K (.ref f_law) = true)
    (z_isinstance : PySem.W.nsIn K mainGlobals "isinstance" = some none)
    (z_int : PySem.W.nsIn K mainGlobals "int" = some none)
    (z_bool : PySem.W.nsIn K mainGlobals "bool" = some none)
    (z_divmod : PySem.W.nsIn K mainGlobals "divmod" = some none)
    (z_len : PySem.W.nsIn K mainGlobals "len" = some none)
    (z_abs : PySem.W.nsIn K mainGlobals "abs" = some none)
    (z_range : PySem.W.nsIn K mainGlobals "range" = some none)
    (z_max : PySem.W.nsIn K mainGlobals "max" = some none)
    (z_min : PySem.W.nsIn K mainGlobals "min" = some none)
    (z_list : PySem.W.nsIn K mainGlobals "list" = some none)
    (z_all : PySem.W.nsIn K mainGlobals "all" = some none)
    (z_zip : PySem.W.nsIn K mainGlobals "zip" = some none)
    (z_tuple : PySem.W.nsIn K mainGlobals "tuple" = some none)
    (z_str : PySem.W.nsIn K mainGlobals "str" = some none)
    (z_enumerate : PySem.W.nsIn K mainGlobals "enumerate" = some none)
    {e_HOWS : Addr} {ed_HOWS : Option Addr} {ei_HOWS : Array Value} {en_HOWS : Nat} {es_HOWS : Array (Option Value)} (a_HOWS : PySem.W.nsIn K mainGlobals "HOWS" = some (some (.ref e_HOWS))) (l_HOWS : K.lookup e_HOWS = some ⟨.type "tuple", ed_HOWS, .seq ei_HOWS en_HOWS, es_HOWS⟩) (v_HOWS : ei_HOWS.size ≤ sizeLine ∧ Vals hows ei_HOWS.toList)
    {e_WORDS : Addr} {ed_WORDS : Option Addr} {ei_WORDS : Array Value} {en_WORDS : Nat} {es_WORDS : Array (Option Value)} (a_WORDS : PySem.W.nsIn K mainGlobals "WORDS" = some (some (.ref e_WORDS))) (l_WORDS : K.lookup e_WORDS = some ⟨.type "tuple", ed_WORDS, .seq ei_WORDS en_WORDS, es_WORDS⟩) (v_WORDS : ei_WORDS.size ≤ sizeLine ∧ Vals words ei_WORDS.toList)
    (a_gcd : PySem.W.nsIn K mainGlobals "gcd" = some (some (.builtin "math.gcd")))
    : ∃ fd : FuncData, (∀ (s : Shared) (v : Value), BindsTo s fd ⟨[v], []⟩ [("_law_script", v)]) ∧ ∀ base : Heap, K.In base → base.Ns mainGlobals mg → FnOk l.prog w K mg base CX0 6 fa fd ["_law_script"] (sp_law K) := by
  have e := hfa.symm.trans (PySem.W.mg_of X G a_law)
  cases e
  refine ⟨PySem.W.fnOf "law" "law" (defArgs s_law) (defBody s_law) (defScope s_law) .none kV_law dc_law pm_law an_law cd_law ct_law, fun s v => .of_eq rfl, fun base _ _ => ?_⟩
  have g_gcd : mg "gcd" = some (.builtin "math.gcd") := PySem.W.mg_of X G a_gcd
  have m_isinstance : mg "isinstance" = none := PySem.W.mg_none_of X G z_isinstance
  have m_int : mg "int" = none := PySem.W.mg_none_of X G z_int
  have m_bool : mg "bool" = none := PySem.W.mg_none_of X G z_bool
  have m_divmod : mg "divmod" = none := PySem.W.mg_none_of X G z_divmod
  have m_len : mg "len" = none := PySem.W.mg_none_of X G z_len
  have m_abs : mg "abs" = none := PySem.W.mg_none_of X G z_abs
  have m_range : mg "range" = none := PySem.W.mg_none_of X G z_range
  have m_max : mg "max" = none := PySem.W.mg_none_of X G z_max
  have m_min : mg "min" = none := PySem.W.mg_none_of X G z_min
  have m_list : mg "list" = none := PySem.W.mg_none_of X G z_list
  have m_all : mg "all" = none := PySem.W.mg_none_of X G z_all
  have m_zip : mg "zip" = none := PySem.W.mg_none_of X G z_zip
  have m_tuple : mg "tuple" = none := PySem.W.mg_none_of X G z_tuple
  have m_str : mg "str" = none := PySem.W.mg_none_of X G z_str
  have m_enumerate : mg "enumerate" = none := PySem.W.mg_none_of X G z_enumerate
  have g_HOWS : mg "HOWS" = some (.ref e_HOWS) := PySem.W.mg_of X G a_HOWS
  have t_HOWS : TupK K e_HOWS hows := ⟨_, _, _, l_HOWS, rfl, rfl, v_HOWS.1, v_HOWS.2⟩
  have g_WORDS : mg "WORDS" = some (.ref e_WORDS) := PySem.W.mg_of X G a_WORDS
  have t_WORDS : TupK K e_WORDS words := ⟨_, _, _, l_WORDS, rfl, rfl, v_WORDS.1, v_WORDS.2⟩
  have F_is_integer := fun_mk (st := s_is_integer) l_is_integer k_is_integer p_is_integer
  let c_is_integer : Cal l.prog w K mg base 1 "is_integer" ["value"] (sp_is_integer K) := ⟨f_is_integer, _, ok_is_integer F_is_integer (m_isinstance := m_isinstance) (m_int := m_int) (m_bool := m_bool)  , p_is_integer, F_is_integer.binds (ps := ["value"]) (fun _ _ _ _ _ _ us hl => match us, hl with | [_], _ => rfl), PySem.W.mg_of X G a_is_integer⟩
  have F_least_terms := fun_mk (st := s_least_terms) l_least_terms k_least_terms p_least_terms
  let c_least_terms : Cal l.prog w K mg base 1 "least_terms" ["over", "under"] (sp_least_terms K) := ⟨f_least_terms, _, ok_least_terms F_least_terms   (g_gcd := g_gcd) , p_least_terms, F_least_terms.binds (ps := ["over", "under"]) (fun _ _ _ _ _ _ us hl => match us, hl with | [_, _], _ => rfl), PySem.W.mg_of X G a_least_terms⟩
  have F_rounded := fun_mk (st := s_rounded) l_rounded k_rounded p_rounded
  let c_rounded : Cal l.prog w K mg base 1 "rounded" ["how", "many", "whole"] (sp_rounded K) := ⟨f_rounded, _, ok_rounded F_rounded (m_divmod := m_divmod)  , p_rounded, F_rounded.binds (ps := ["how", "many", "whole"]) (fun _ _ _ _ _ _ us hl => match us, hl with | [_, _, _], _ => rfl), PySem.W.mg_of X G a_rounded⟩
  have F_reach := fun_mk (st := s_reach) l_reach k_reach p_reach
  let c_reach : Cal l.prog w K mg base 1 "reach" ["how", "number"] (sp_reach K) := ⟨f_reach, _, ok_reach F_reach   , p_reach, F_reach.binds (ps := ["how", "number"]) (fun _ _ _ _ _ _ us hl => match us, hl with | [_, _], _ => rfl), PySem.W.mg_of X G a_reach⟩
  have F_law_pot := fun_mk (st := s_law_pot) l_law_pot k_law_pot p_law_pot
  let c_law_pot : Cal l.prog w K mg base 1 "_law_pot" ["_law_script", "_law_place"] (sp_law_pot K) := ⟨f_law_pot, _, ok_law_pot F_law_pot (m_len := m_len) (m_int := m_int) (m_abs := m_abs)  , p_law_pot, F_law_pot.binds (ps := ["_law_script", "_law_place"]) (fun _ _ _ _ _ _ us hl => match us, hl with | [_, _], _ => rfl), PySem.W.mg_of X G a_law_pot⟩
  have F_law_take := fun_mk (st := s_law_take) l_law_take k_law_take p_law_take
  let c_law_take : Cal l.prog w K mg base 1 "_law_take" ["_law_pot_here", "_law_upto"] (sp_law_take K) := ⟨f_law_take, _, ok_law_take F_law_take (m_int := m_int)  , p_law_take, F_law_take.binds (ps := ["_law_pot_here", "_law_upto"]) (fun _ _ _ _ _ _ us hl => match us, hl with | [_, _], _ => rfl), PySem.W.mg_of X G a_law_take⟩
  have F_law_cells := fun_mk (st := s_law_cells) l_law_cells k_law_cells p_law_cells
  let c_law_cells : Cal l.prog w K mg base 1 "_law_cells" ["_law_script", "_law_most"] (sp_law_cells K) := ⟨f_law_cells, _, ok_law_cells F_law_cells (m_range := m_range) (m_max := m_max) (m_min := m_min) (m_len := m_len) (m_list := m_list)  , p_law_cells, F_law_cells.binds (ps := ["_law_script", "_law_most"]) (fun _ _ _ _ _ _ us hl => match us, hl with | [_, _], _ => rfl), PySem.W.mg_of X G a_law_cells⟩
  have F_law_is_within := fun_mk (st := s_law_is_within) l_law_is_within k_law_is_within p_law_is_within
  let c_law_is_within : Cal l.prog w K mg base 1 "_law_is_within" ["_law_told", "_law_many", "_law_whole"] (sp_law_is_within K) := ⟨f_law_is_within, _, ok_law_is_within F_law_is_within   , p_law_is_within, F_law_is_within.binds (ps := ["_law_told", "_law_many", "_law_whole"]) (fun _ _ _ _ _ _ us hl => match us, hl with | [_, _, _], _ => rfl), PySem.W.mg_of X G a_law_is_within⟩
  have F_law_do_go_on := fun_mk (st := s_law_do_go_on) l_law_do_go_on k_law_do_go_on p_law_do_go_on
  let c_law_do_go_on : Cal l.prog w K mg base 1 "_law_do_go_on" ["_law_told"] (sp_law_do_go_on K) := ⟨f_law_do_go_on, _, ok_law_do_go_on F_law_do_go_on (m_all := m_all) (m_zip := m_zip)  , p_law_do_go_on, F_law_do_go_on.binds (ps := ["_law_told"]) (fun _ _ _ _ _ _ us hl => match us, hl with | [_], _ => rfl), PySem.W.mg_of X G a_law_do_go_on⟩
  have F_is_units := fun_mk (st := s_is_units) l_is_units k_is_units p_is_units
  let c_is_units : Cal l.prog w K mg base 2 "is_units" ["value"] (sp_is_units K) := ⟨f_is_units, _, ok_is_units F_is_units (m_isinstance := m_isinstance) (m_tuple := m_tuple) (m_len := m_len) (m_str := m_str) (c_is_integer := c_is_integer) (g_HOWS := g_HOWS) (t_HOWS := t_HOWS), p_is_units, F_is_units.binds (ps := ["value"]) (fun _ _ _ _ _ _ us hl => match us, hl with | [_], _ => rfl), PySem.W.mg_of X G a_is_units⟩
  have F_is_share := fun_mk (st := s_is_share) l_is_share k_is_share p_is_share
  let c_is_share : Cal l.prog w K mg base 2 "is_share" ["units", "value"] (sp_is_share K) := ⟨f_is_share, _, ok_is_share F_is_share (m_isinstance := m_isinstance) (m_str := m_str) (c_is_integer := c_is_integer) (g_WORDS := g_WORDS) (t_WORDS := t_WORDS), p_is_share, F_is_share.binds (ps := ["units", "value"]) (fun _ _ _ _ _ _ us hl => match us, hl with | [_, _], _ => rfl), PySem.W.mg_of X G a_is_share⟩
  have F_law_of := fun_mk (st := s_law_of) l_law_of k_law_of p_law_of
  let c_law_of : Cal l.prog w K mg base 2 "_law_of" ["_law_pot_here", "_law_some"] (sp_law_of K) := ⟨f_law_of, _, ok_law_of F_law_of (m_len := m_len) (c_law_take := c_law_take) , p_law_of, F_law_of.binds (ps := ["_law_pot_here", "_law_some"]) (fun _ _ _ _ _ _ us hl => match us, hl with | [_, _], _ => rfl), PySem.W.mg_of X G a_law_of⟩
  have F_shown := fun_mk (st := s_shown) l_shown k_shown p_shown
  let c_shown : Cal l.prog w K mg base 3 "shown" ["units", "many", "whole"] (sp_shown K) := ⟨f_shown, _, ok_shown F_shown  (c_is_units := c_is_units) (c_is_integer := c_is_integer) (c_rounded := c_rounded) , p_shown, F_shown.binds (ps := ["units", "many", "whole"]) (fun _ _ _ _ _ _ us hl => match us, hl with | [_, _, _], _ => rfl), PySem.W.mg_of X G a_shown⟩
  have F_stretch := fun_mk (st := s_stretch) l_stretch k_stretch p_stretch
  let c_stretch : Cal l.prog w K mg base 3 "stretch" ["units", "share"] (sp_stretch K) := ⟨f_stretch, _, ok_stretch F_stretch (m_min := m_min) (m_max := m_max) (c_is_units := c_is_units) (c_is_share := c_is_share) (c_reach := c_reach) (c_least_terms := c_least_terms) , p_stretch, F_stretch.binds (ps := ["units", "share"]) (fun _ _ _ _ _ _ us hl => match us, hl with | [_, _], _ => rfl), PySem.W.mg_of X G a_stretch⟩
  have F_law_is_one_right := fun_mk (st := s_law_is_one_right) l_law_is_one_right k_law_is_one_right p_law_is_one_right
  let c_law_is_one_right : Cal l.prog w K mg base 4 "_law_is_one_right" ["_law_units", "_law_told", "_law_many", "_law_whole"] (sp_law_is_one_right K) := ⟨f_law_is_one_right, _, ok_law_is_one_right F_law_is_one_right (m_enumerate := m_enumerate) (c_law_is_within := c_law_is_within) (c_shown := c_shown) , p_law_is_one_right, F_law_is_one_right.binds (ps := ["_law_units", "_law_told", "_law_many", "_law_whole"]) (fun _ _ _ _ _ _ us hl => match us, hl with | [_, _, _, _], _ => rfl), PySem.W.mg_of X G a_law_is_one_right⟩
  have F_law_right := fun_mk (st := s_law_right) l_law_right k_law_right p_law_right
  let c_law_right : Cal l.prog w K mg base 5 "_law_right" ["_law_pot_here"] (sp_law_right K) := ⟨f_law_right, _, ok_law_right F_law_right (m_range := m_range) (m_list := m_list) (m_all := m_all) (c_law_take := c_law_take) (c_law_of := c_law_of) (c_stretch := c_stretch) (c_law_do_go_on := c_law_do_go_on) (c_law_is_one_right := c_law_is_one_right) , p_law_right, F_law_right.binds (ps := ["_law_pot_here"]) (fun _ _ _ _ _ _ us hl => match us, hl with | [_], _ => rfl), PySem.W.mg_of X G a_law_right⟩
  have F_law := fun_mk (st := s_law) l_law k_law p_law
  exact ok_law F_law (m_all := m_all) (c_law_cells := c_law_cells) (c_law_right := c_law_right) (c_law_pot := c_law_pot) 
end Uq
open PySem PySem.W PyProof.Rows
set_option maxHeartbeats 0 in
theorem PySem.Challenge.cw_anyasked_k03_whole_each_fraction_by_one_holds : PySem.Challenge.rw_anyasked_k03_whole_each_fraction_by_one.Holds := by
  w_on; o_law; k_head; (case hw => w_witness2)
  k_fill
  refine L2.walk_of (l := PySem.Challenge.rw_anyasked_k03_whole_each_fraction_by_one) (n := 63) (k := 6) (x := "_law_script") (CX := fun _ => L2.CX0) (sp := fun w => Uq.sp_law _) rfl (by decide) rfl ⟨rfl, by decide, by decide⟩ (fun w h Y => PySem.W.kIn_of Y) ?F (fun _ _ a ns hl _ hS => ⟨a, ns, rfl, hS, hl, fun _ => rfl⟩) (fun _ _ _ _ _ h => h)
  case F =>
    intro w mg fa h KX G hmg
    refine' Uq.all_mk KX G hmg (a_is_integer := ?q_a_is_integer) (l_is_integer := ?q_l_is_integer) (k_is_integer := ?q_k_is_integer) (p_is_integer := ?q_p_is_integer) (a_least_terms := ?q_a_least_terms) (l_least_terms := ?q_l_least_terms) (k_least_terms := ?q_k_least_terms) (p_least_terms := ?q_p_least_terms) (a_rounded := ?q_a_rounded) (l_rounded := ?q_l_rounded) (k_rounded := ?q_k_rounded) (p_rounded := ?q_p_rounded) (a_reach := ?q_a_reach) (l_reach := ?q_l_reach) (k_reach := ?q_k_reach) (p_reach := ?q_p_reach) (a_law_pot := ?q_a_law_pot) (l_law_pot := ?q_l_law_pot) (k_law_pot := ?q_k_law_pot) (p_law_pot := ?q_p_law_pot) (a_law_take := ?q_a_law_take) (l_law_take := ?q_l_law_take) (k_law_take := ?q_k_law_take) (p_law_take := ?q_p_law_take) (a_law_cells := ?q_a_law_cells) (l_law_cells := ?q_l_law_cells) (k_law_cells := ?q_k_law_cells) (p_law_cells := ?q_p_law_cells) (a_law_is_within := ?q_a_law_is_within) (l_law_is_within := ?q_l_law_is_within) (k_law_is_within := ?q_k_law_is_within) (p_law_is_within := ?q_p_law_is_within) (a_law_do_go_on := ?q_a_law_do_go_on) (l_law_do_go_on := ?q_l_law_do_go_on) (k_law_do_go_on := ?q_k_law_do_go_on) (p_law_do_go_on := ?q_p_law_do_go_on) (a_is_units := ?q_a_is_units) (l_is_units := ?q_l_is_units) (k_is_units := ?q_k_is_units) (p_is_units := ?q_p_is_units) (a_is_share := ?q_a_is_share) (l_is_share := ?q_l_is_share) (k_is_share := ?q_k_is_share) (p_is_share := ?q_p_is_share) (a_law_of := ?q_a_law_of) (l_law_of := ?q_l_law_of) (k_law_of := ?q_k_law_of) (p_law_of := ?q_p_law_of) (a_shown := ?q_a_shown) (l_shown := ?q_l_shown) (k_shown := ?q_k_shown) (p_shown := ?q_p_shown) (a_stretch := ?q_a_stretch) (l_stretch := ?q_l_stretch) (k_stretch := ?q_k_stretch) (p_stretch := ?q_p_stretch) (a_law_is_one_right := ?q_a_law_is_one_right) (l_law_is_one_right := ?q_l_law_is_one_right) (k_law_is_one_right := ?q_k_law_is_one_right) (p_law_is_one_right := ?q_p_law_is_one_right) (a_law_right := ?q_a_law_right) (l_law_right := ?q_l_law_right) (k_law_right := ?q_k_law_right) (p_law_right := ?q_p_law_right) (a_law := ?q_a_law) (l_law := ?q_l_law) (k_law := ?q_k_law) (p_law := ?q_p_law) (z_isinstance := ?q_z_isinstance) (z_int := ?q_z_int) (z_bool := ?q_z_bool) (z_divmod := ?q_z_divmod) (z_len := ?q_z_len) (z_abs := ?q_z_abs) (z_range := ?q_z_range) (z_max := ?q_z_max) (z_min := ?q_z_min) (z_list := ?q_z_list) (z_all := ?q_z_all) (z_zip := ?q_z_zip) (z_tuple := ?q_z_tuple) (z_str := ?q_z_str) (z_enumerate := ?q_z_enumerate) (a_HOWS := ?q_a_HOWS) (l_HOWS := ?q_l_HOWS) (a_WORDS := ?q_a_WORDS) (l_WORDS := ?q_l_WORDS) (a_gcd := ?q_a_gcd) (v_HOWS := ?q_v_HOWS) (v_WORDS := ?q_v_WORDS)
    (case q_a_is_integer => k_is)
    (case q_l_is_integer => k_is)
    (case q_k_is_integer => k_is)
    (case q_p_is_integer => k_is)
    (case q_a_least_terms => k_is)
    (case q_l_least_terms => k_is)
    (case q_k_least_terms => k_is)
    (case q_p_least_terms => k_is)
    (case q_a_rounded => k_is)
    (case q_l_rounded => k_is)
    (case q_k_rounded => k_is)
    (case q_p_rounded => k_is)
    (case q_a_reach => k_is)
    (case q_l_reach => k_is)
    (case q_k_reach => k_is)
    (case q_p_reach => k_is)
    (case q_a_law_pot => k_is)
    (case q_l_law_pot => k_is)
    (case q_k_law_pot => k_is)
    (case q_p_law_pot => k_is)
    (case q_a_law_take => k_is)
    (case q_l_law_take => k_is)
    (case q_k_law_take => k_is)
    (case q_p_law_take => k_is)
    (case q_a_law_cells => k_is)
    (case q_l_law_cells => k_is)
    (case q_k_law_cells => k_is)
    (case q_p_law_cells => k_is)
    (case q_a_law_is_within => k_is)
    (case q_l_law_is_within => k_is)
    (case q_k_law_is_within => k_is)
    (case q_p_law_is_within => k_is)
    (case q_a_law_do_go_on => k_is)
    (case q_l_law_do_go_on => k_is)
    (case q_k_law_do_go_on => k_is)
    (case q_p_law_do_go_on => k_is)
    (case q_a_is_units => k_is)
    (case q_l_is_units => k_is)
    (case q_k_is_units => k_is)
    (case q_p_is_units => k_is)
    (case q_a_is_share => k_is)
    (case q_l_is_share => k_is)
    (case q_k_is_share => k_is)
    (case q_p_is_share => k_is)
    (case q_a_law_of => k_is)
    (case q_l_law_of => k_is)
    (case q_k_law_of => k_is)
    (case q_p_law_of => k_is)
    (case q_a_shown => k_is)
    (case q_l_shown => k_is)
    (case q_k_shown => k_is)
    (case q_p_shown => k_is)
    (case q_a_stretch => k_is)
    (case q_l_stretch => k_is)
    (case q_k_stretch => k_is)
    (case q_p_stretch => k_is)
    (case q_a_law_is_one_right => k_is)
    (case q_l_law_is_one_right => k_is)
    (case q_k_law_is_one_right => k_is)
    (case q_p_law_is_one_right => k_is)
    (case q_a_law_right => k_is)
    (case q_l_law_right => k_is)
    (case q_k_law_right => k_is)
    (case q_p_law_right => k_is)
    (case q_a_law => k_is)
    (case q_l_law => k_is)
    (case q_k_law => k_is)
    (case q_p_law => k_is)
    (case q_z_isinstance => k_is)
    (case q_z_int => k_is)
    (case q_z_bool => k_is)
    (case q_z_divmod => k_is)
    (case q_z_len => k_is)
    (case q_z_abs => k_is)
    (case q_z_range => k_is)
    (case q_z_max => k_is)
    (case q_z_min => k_is)
    (case q_z_list => k_is)
    (case q_z_all => k_is)
    (case q_z_zip => k_is)
    (case q_z_tuple => k_is)
    (case q_z_str => k_is)
    (case q_z_enumerate => k_is)
    (case q_a_HOWS => k_is)
    (case q_l_HOWS => k_is)
    (case q_a_WORDS => k_is)
    (case q_l_WORDS => k_is)
    (case q_a_gcd => k_is)
    (case q_v_HOWS => exact ⟨by decide, .cons ⟨_, rfl⟩ (.cons ⟨_, rfl⟩ (.cons ⟨_, rfl⟩ (.cons ⟨_, rfl⟩ (.nil))))⟩)
    (case q_v_WORDS => exact ⟨by decide, .cons ⟨_, rfl⟩ (.cons ⟨_, rfl⟩ (.nil))⟩)
