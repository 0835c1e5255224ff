import PyProof.Rows.All
import Wide.All
import OpenK.AllK
import Wide.FinOn
import HandS.Base
import HandS.Call
import HandS.List
import HandS.Comp
import HandS.Ends
import HandS.EndBits
import HandS.Dict
import HandS.Iter
import HandS.Text
import HandS.Words
import HandS.WordsList
import HandS.WordsDict
import HandS.Wide
import HandS.WideBits
import HandS.RaiseMore
import HandS.IsInst
import HandS.Conv
import HandS.Style
import HandS.Zip
import PySem.Challenge.RW_anyasked_k01_whole_shown_by_every_how
set_option Elab.async false
set_option linter.all false
set_option maxRecDepth 100000
set_option maxHeartbeats 2000000
namespace Uq
open PySem PySem.Spec PyProof.Rows L2

/-! ### what a caller knows of a def -/
structure Cal (P : Program) (w : World) (K : PySem.W.Frag) (mg : Str → Option Value) (base : Heap) (k : Nat) (x : Str) (ps : List Str) (sp : Sp) where
  a : Addr
  d : FuncData
  G : FnOk P w K mg base CX0 k a d ps sp
  kp : PySem.W.keepIn K (.ref a) = true
  b : Binds K d ps []
  g : mg x = some (.ref a)

/-! ### heaps -/
/-- all that was tracked, but at p, is as it was -/
def But (p : Addr) (H H' : Hp) : Prop := ∀ b o, b ≠ p → H b = some o → H' b = some o
theorem But.refl (p : Addr) (H : Hp) : But p H H := fun _ _ _ h => h
theorem But.trans {p : Addr} {H H1 H2 : Hp} (a : But p H H1) (b : But p H1 H2) : But p H H2 := fun c o n h => b c o n (a c o n h)
theorem But.of {p : Addr} {H H' : Hp} (a : Same H H') : But p H H' := fun c o _ h => a c o h
theorem But.new {p q : Addr} {H H1 : Hp} {o : HO} (a : But p H H1) (h : H1 q = none) : But p H (upd H1 q o) := fun c u n e => by
  have e1 := a c u n e
  rw [upd_ne (ne_of_none e1 h)]
  exact e1
theorem But.put {p : Addr} {H H1 : Hp} {o : HO} (a : But p H H1) : But p H (upd H1 p o) := fun c u n e => by
  rw [upd_ne n]
  exact a c u n e
theorem But.seqL {K : PySem.W.Frag} {p a : Addr} {H H' : Hp} {xs : List V} (e : But p H H') (n : a ≠ p) (h : SqL K H a xs) : SqL K H' a xs := by
  rcases h with (h | ⟨o, h⟩) | h
  · exact .inl (.inl (e _ _ n h))
  · exact .inl (.inr ⟨o, e _ _ n h⟩)
  · exact .inr h
theorem But.seqT {K : PySem.W.Frag} {p a : Addr} {H H' : Hp} {xs : List V} (e : But p H H') (n : a ≠ p) (h : SqT K H a xs) : SqT K H' a xs := by
  rcases h with (h | ⟨o, h⟩) | h
  · exact .inl (.inl (e _ _ n h))
  · exact .inl (.inr ⟨o, e _ _ n h⟩)
  · exact .inr h
theorem sameU {H : Hp} {p : Addr} {o : HO} (h : H p = none) : Same H (upd H p o) := fun b x e => by
  rw [upd_ne (ne_of_none e h)]
  exact e
theorem Same.tup {K : PySem.W.Frag} {a : Addr} {H H' : Hp} {xs : List V} (e : Same H H') (h : SqT K H a xs) : SqT K H' a xs := by
  rcases h with (h | ⟨o, h⟩) | h
  · exact .inl (.inl (e _ _ h))
  · exact .inl (.inr ⟨o, e _ _ h⟩)
  · exact .inr h
theorem Same.lst {K : PySem.W.Frag} {a : Addr} {H H' : Hp} {xs : List V} (e : Same H H') (h : SqL K H a xs) : SqL K H' a xs := Same.seq e h

/-! ### great powers -/
def CPowW (i j : Int) : Prop := 0 ≤ j ∧ (Builtin.Int.intBits i : Int) * j ≤ 2 ^ 27
theorem op_powW {X : Cx} : OpR X (binaryOp .Pow) (rI CPowW fun i j => .int (i ^ j.toNat)) := opI fun _ _ _ _ _ _ _ hc q => PyProof.Rows.pow_int hc.1 hc.2 q
theorem powW_ok {i : Int} {j n : Nat} (h : i.natAbs < 2 ^ n) (hn : n * j ≤ 134217728) : CPowW i (j : Int) := by
  have b := PyProof.Rows.intBits_le h
  have e : (2 : Int) ^ 27 = 134217728 := by decide
  refine ⟨Int.natCast_nonneg _, ?_⟩
  rw [e]
  have c : Builtin.Int.intBits i * j ≤ n * j := Nat.mul_le_mul_right j b
  have d : ((Builtin.Int.intBits i * j : Nat) : Int) ≤ ((n * j : Nat) : Int) := Int.ofNat_le.mpr c
  rw [Int.natCast_mul] at d
  omega

/-! ### the drawing of numbers: a list of three ints at p -/
/-- own digits, a seed, how often it was drawn (at most c times) -/
def Pot (H : Hp) (p : Addr) (c : Nat) : Prop := ∃ o s n : Int, H p = some (.lst [.int o, .int s, .int n]) ∧ 0 ≤ o ∧ o < 10 ^ 300 ∧ 0 ≤ s ∧ s < 2305843009213693951 ∧ 0 ≤ n ∧ n ≤ c
theorem Pot.mono {H : Hp} {p : Addr} {c d : Nat} (h : Pot H p c) (e : c ≤ d) : Pot H p d := by
  obtain ⟨o, s, n, h0, h1, h2, h3, h4, h5, h6⟩ := h
  exact ⟨o, s, n, h0, h1, h2, h3, h4, h5, by omega⟩
theorem Pot.same {H H' : Hp} {p : Addr} {c : Nat} (e : Same H H') (h : Pot H p c) : Pot H' p c := by
  obtain ⟨o, s, n, h0, h1⟩ := h
  exact ⟨o, s, n, e _ _ h0, h1⟩
theorem Pot.new {H : Hp} {p q : Addr} {c : Nat} {o : HO} (h : Pot H p c) (hq : H q = none) : Pot (upd H q o) p c := h.same (sameU hq)
theorem Pot.some {H : Hp} {p : Addr} {c : Nat} (h : Pot H p c) : H p ≠ none := by
  obtain ⟨o, s, n, h0, _⟩ := h
  rw [h0]
  exact fun z => nomatch z
theorem Pot.upd {H : Hp} {p q : Addr} {c : Nat} {o : HO} (h : Pot H p c) (n : p ≠ q) : Pot (upd H q o) p c := by
  obtain ⟨o', s, k, h0, h1⟩ := h
  exact ⟨o', s, k, by rw [upd_ne n]; exact h0, h1⟩
/-- a new place is not p -/
theorem Pot.ne {H : Hp} {p q : Addr} {c : Nat} (h : Pot H p c) (hq : H q = none) : q ≠ p := fun z => h.some (z ▸ hq)
/-- a draw below u -/
def sp_law_take (K : PySem.W.Frag) : Sp := fun vs H Q _ => ∃ (p : Addr) (c : Nat) (u : Int), vs = [.ref p, .int u] ∧ Pot H p c ∧ c < 100000 ∧ 1 ≤ u ∧ u < 2 ^ 62 ∧
  ∀ H' d, But p H H' → Pot H' p (c + 1) → 0 ≤ d → d < u → Q (.int d) H'
/-- one of a list -/
def sp_law_of (K : PySem.W.Frag) : Sp := fun vs H Q _ => ∃ (p l : Addr) (c : Nat) (xs : List V), vs = [.ref p, .ref l] ∧ Pot H p c ∧ c < 100000 ∧ l ≠ p ∧ SqL K H l xs ∧ 0 < xs.length ∧ xs.length ≤ 100000 ∧
  ∀ H' (i : Nat) v, But p H H' → Pot H' p (c + 1) → xs[i]? = some v → Q v H'
/-- the places of the cells -/
def sp_law_cells (K : PySem.W.Frag) : Sp := fun vs H Q _ => ∃ (a : Addr) (ns : List Int) (m : Int), vs = [.ref a, .int m] ∧ SqL K H a (ns.map V.int) ∧ ns.length ≤ 63 ∧ 1 ≤ m ∧ m ≤ 63 ∧
  ∀ H' l (k : Nat), H l = none → Same H H' → H' l = some (.lst (rgV 0 (k : Int))) → 1 ≤ k → k ≤ 63 → Q (.ref l) H'
def sp_law_pot (K : PySem.W.Frag) : Sp := fun vs H Q _ => ∃ (a : Addr) (ns : List Int) (m : Int), vs = [.ref a, .int m] ∧ SqL K H a (ns.map V.int) ∧ ns.length ≤ 63 ∧ 0 ≤ m ∧ m ≤ 63 ∧
  ∀ H' p, H p = none → Same H H' → Pot H' p 0 → Q (.ref p) H'
/-- what is asked of a cell's turn -/
def sp_law_right (K : PySem.W.Frag) : Sp := fun vs H Q _ => ∃ p : Addr, vs = [.ref p] ∧ Pot H p 0 ∧ ∀ H', But p H H' → Q (.bl true) H'
def sp_law (K : PySem.W.Frag) : Sp := fun vs H Q _ => ∃ (a : Addr) (ns : List Int), vs = [.ref a] ∧ SqL K H a (ns.map V.int) ∧ ns.length ≤ 63 ∧ ∀ H', Q (.bl true) H'
end Uq
namespace Uq
open PySem PySem.Spec PyProof.Rows L2
/-- the cell at a place, or what stands for it -/
theorem rd_cell {K : PySem.W.Frag} {σ : L2.St} {H : Hp} {Q : VK} {a : Addr} {ns : List Int} {m c1 c2 : Int} (hl : SqL K H a (ns.map V.int)) (hm : 0 ≤ m) (hc : -(2 ^ 64) < c1 ∧ c1 < 2 ^ 64) (h0 : σ[0]? = some (some (.ref a))) (h1 : σ[1]? = some (some (.int m))) (q : ∀ z : Int, Q (.int z) H) :
    tIf (tTest (tOp (rI0 fun i j => .bl (decide (i < j))) (tVar 1) (tCB (fun xs H Q => ∃ p ys, xs = [.ref p] ∧ (SqL K H p ys ∨ SqT K H p ys) ∧ Q (.int ys.length) H) (tCons (tVar 0) tNil)))) (tOp (rIxL K) (tVar 0) (tVar 1))
      (tOp (rI0 fun i j => .int (i + j)) (tOp (rI CMul fun i j => .int (i * j)) (tC (.int c1)) (tVar 1)) (tC (.int c2))) σ H Q := by
  refine ⟨.int m, h1, .ref a, h0, a, _, rfl, .inl hl, m, _, rfl, rfl, _, rfl, ite2 (fun e => ?_) (fun e => ?_)⟩
  · have e1 : m < (ns.map V.int).length := of_decide_eq_true e
    have e2 : m.toNat < ns.length := by
      rw [List.length_map] at e1
      omega
    exact ⟨.ref a, h0, .int m, h1, a, _, m, .int ns[m.toNat], rfl, rfl, hl, at_of (j := m.toNat) (by omega) (by rw [List.getElem?_map, List.getElem?_eq_getElem e2]; rfl), q _⟩
  · exact ⟨.int m, h1, _, m, rfl, rfl, .inl hc, _, _, rfl, rfl, q _⟩
theorem big_pos : (0 : Int) < ((10 : Int) ^ (60 : Int).toNat) ^ (5 : Int).toNat := by decide +kernel
theorem big_eq : ((10 : Int) ^ (60 : Int).toNat) ^ (5 : Int).toNat = 10 ^ 300 := by decide +kernel
theorem bigA : CPowW ((10 : Int) ^ (60 : Int).toNat) 5 := powW_ok (j := 5) (n := 300) (by decide +kernel) (by decide)
theorem bigB : CPowW 10 60 := powW_ok (j := 60) (n := 8) (by decide) (by decide)
theorem bigC : CPowW 10 18 := powW_ok (j := 18) (n := 8) (by decide) (by decide)
end Uq
namespace Uq
open PySem PySem.Spec PyProof.Rows L2
theorem b01 (b : Bool) : -(2 ^ 64) < (if b = true then (1 : Int) else 0) ∧ (if b = true then (1 : Int) else 0) < 2 ^ 64 := by cases b <;> decide
theorem own_ok (z : Int) (b : Bool) : 0 ≤ z % ((10 : Int) ^ (60 : Int).toNat) ^ (5 : Int).toNat * (if b = true then 1 else 0) ∧ z % ((10 : Int) ^ (60 : Int).toNat) ^ (5 : Int).toNat * (if b = true then 1 else 0) < 10 ^ 300 := by
  have a0 := Int.emod_nonneg z (Int.ne_of_gt big_pos)
  have a1 := Int.emod_lt_of_pos z big_pos
  rw [big_eq] at a0 a1 ⊢
  cases b with
  | true =>
    rw [if_pos rfl, Int.mul_one]
    exact ⟨a0, a1⟩
  | false =>
    rw [if_neg Bool.false_ne_true, Int.mul_zero]
    exact ⟨by decide, by decide +kernel⟩
theorem sqL_same {K : PySem.W.Frag} {a : Addr} {H H' : Hp} {xs : List V} (e : Same H H') (h : SqL K H a xs) : SqL K H' a xs := Same.seq e h
theorem sqT_same {K : PySem.W.Frag} {a : Addr} {H H' : Hp} {xs : List V} (e : Same H H') (h : SqT K H a xs) : SqT K H' a xs := Uq.Same.tup e h
end Uq
namespace Uq
open PySem PySem.Spec PyProof.Rows L2
theorem iteY {c A B : Prop} [Decidable c] (h : c) (x : A) : if c then A else B := by
  rw [if_pos h]
  exact x
theorem iteN {c A B : Prop} [Decidable c] (h : ¬ c) (x : B) : if c then A else B := by
  rw [if_neg h]
  exact x
/-- a test whose answer is known -/
theorem iteDY {c A B : Prop} [Decidable c] (h : c) (x : A) : if decide c = true then A else B := iteY (decide_eq_true h) x
theorem iteDN {c A B : Prop} [Decidable c] (h : ¬ c) (x : B) : if decide c = true then A else B := iteN (fun z => h (of_decide_eq_true z)) x
end Uq

namespace Uq
open PySem PySem.Spec PyProof.Rows L2
theorem all_rep (k : Nat) : (List.replicate k true).all id = true := by
  rw [List.all_eq_true]
  intro x hx
  exact (List.mem_replicate.mp hx).2
def topS (i : Nat) : Stmt := PySem.Challenge.pw_anyasked_k01_whole_shown_by_every_how.main.body.getD i (.Pass ⟨0, 0, 0, 0⟩)
abbrev s_is_integer : Stmt := topS 5
abbrev N_is_integer : List Str := ["value"]
theorem sc_is_integer : FnScope N_is_integer ["value"] (defScope s_is_integer) := ⟨rfl, rfl, rfl, by decide +kernel, rfl, by decide +kernel, by decide +kernel⟩
abbrev s_is_units : Stmt := topS 8
abbrev N_is_units : List Str := ["value", "base", "how"]
theorem sc_is_units : FnScope N_is_units ["value"] (defScope s_is_units) := ⟨rfl, rfl, rfl, by decide +kernel, rfl, by decide +kernel, by decide +kernel⟩
abbrev s_rounded : Stmt := topS 9
abbrev N_rounded : List Str := ["how", "many", "whole", "below", "rest"]
theorem sc_rounded : FnScope N_rounded ["how", "many", "whole"] (defScope s_rounded) := ⟨rfl, rfl, rfl, by decide +kernel, rfl, by decide +kernel, by decide +kernel⟩
abbrev s_shown : Stmt := topS 10
abbrev N_shown : List Str := ["units", "many", "whole", "base", "how"]
theorem sc_shown : FnScope N_shown ["units", "many", "whole"] (defScope s_shown) := ⟨rfl, rfl, rfl, by decide +kernel, rfl, by decide +kernel, by decide +kernel⟩
abbrev s_law_pot : Stmt := topS 12
abbrev N_law_pot : List Str := ["_law_script", "_law_place", "_law_cell", "_law_own", "_law_small"]
theorem sc_law_pot : FnScope N_law_pot ["_law_script", "_law_place"] (defScope s_law_pot) := ⟨rfl, rfl, rfl, by decide +kernel, rfl, by decide +kernel, by decide +kernel⟩
abbrev s_law_take : Stmt := topS 13
abbrev N_law_take : List Str := ["_law_pot_here", "_law_upto", "_law_digit", "_law_prime", "_law_stir"]
theorem sc_law_take : FnScope N_law_take ["_law_pot_here", "_law_upto"] (defScope s_law_take) := ⟨rfl, rfl, rfl, by decide +kernel, rfl, by decide +kernel, by decide +kernel⟩
abbrev s_law_of : Stmt := topS 14
abbrev N_law_of : List Str := ["_law_pot_here", "_law_some"]
theorem sc_law_of : FnScope N_law_of ["_law_pot_here", "_law_some"] (defScope s_law_of) := ⟨rfl, rfl, rfl, by decide +kernel, rfl, by decide +kernel, by decide +kernel⟩
abbrev s_law_cells : Stmt := topS 15
abbrev N_law_cells : List Str := ["_law_script", "_law_most"]
theorem sc_law_cells : FnScope N_law_cells ["_law_script", "_law_most"] (defScope s_law_cells) := ⟨rfl, rfl, rfl, by decide +kernel, rfl, by decide +kernel, by decide +kernel⟩
abbrev s_law_units : Stmt := topS 16
abbrev N_law_units : List Str := ["_law_pot_here", "_law_most"]
theorem sc_law_units : FnScope N_law_units ["_law_pot_here", "_law_most"] (defScope s_law_units) := ⟨rfl, rfl, rfl, by decide +kernel, rfl, by decide +kernel, by decide +kernel⟩
abbrev s_law_rounded : Stmt := topS 17
abbrev N_law_rounded : List Str := ["_law_how", "_law_above", "_law_under", "_law_low", "_law_rest"]
theorem sc_law_rounded : FnScope N_law_rounded ["_law_how", "_law_above", "_law_under"] (defScope s_law_rounded) := ⟨rfl, rfl, rfl, by decide +kernel, rfl, by decide +kernel, by decide +kernel⟩
abbrev s_law_halved : Stmt := topS 18
abbrev N_law_halved : List Str := ["_law_pot_here", "_law_parts", "_law_times"]
theorem sc_law_halved : FnScope N_law_halved ["_law_pot_here", "_law_parts"] (defScope s_law_halved) := ⟨rfl, rfl, rfl, by decide +kernel, rfl, by decide +kernel, by decide +kernel⟩
abbrev s_law_beside : Stmt := topS 19
abbrev N_law_beside : List Str := ["_law_pot_here", "_law_parts", "_law_times", "_law_many"]
theorem sc_law_beside : FnScope N_law_beside ["_law_pot_here", "_law_parts"] (defScope s_law_beside) := ⟨rfl, rfl, rfl, by decide +kernel, rfl, by decide +kernel, by decide +kernel⟩
abbrev s_law_drawn_part : Stmt := topS 20
abbrev N_law_drawn_part : List Str := ["_law_pot_here", "_law_parts", "_law_way", "_law_whole"]
theorem sc_law_drawn_part : FnScope N_law_drawn_part ["_law_pot_here", "_law_parts"] (defScope s_law_drawn_part) := ⟨rfl, rfl, rfl, by decide +kernel, rfl, by decide +kernel, by decide +kernel⟩
abbrev s_law_right : Stmt := topS 21
abbrev N_law_right : List Str := ["_law_pot_here", "_law_asked", "_law_lap", "_law_units_here", "_law_many", "_law_whole", "_law_due"]
theorem sc_law_right : FnScope N_law_right ["_law_pot_here"] (defScope s_law_right) := ⟨rfl, rfl, rfl, by decide +kernel, rfl, by decide +kernel, by decide +kernel⟩
abbrev s_law : Stmt := topS 22
abbrev N_law : List Str := ["_law_script", "_law_place"]
theorem sc_law : FnScope N_law ["_law_script"] (defScope s_law) := ⟨rfl, rfl, rfl, by decide +kernel, rfl, by decide +kernel, by decide +kernel⟩

section
variable {P : Program} {w : World} {K : PySem.W.Frag} {mg : Str → Option Value} {base : Heap}
theorem ok_law_take {f : Addr} {fd : FuncData} (F : Fun K "_law_take" "_law_take" s_law_take f fd) (m_int : mg "int" = none) : FnOk P w K mg base CX0 1 f fd ["_law_pot_here", "_law_upto"] (sp_law_take K) := by
  refine F.ok sc_law_take (fun vs H Q E h => ?_) (fun cdv A outer s H vs Q E hr h => ?_)
  · obtain ⟨p, c, u, rfl, _⟩ := h
    rfl
  · refine ⟨_, (pss_cons (ps_if (pt_cmpR op_gt (pe_ix ix_list (pv 0) pe_int (fun _ _ => rfl)) pe_int (nomark _)) (pss_cons (ps_set (i := 2) sc_law_take.nd rfl (.inl rfl) (pe_op op_mod (pe_callTy call_int1 (by rfl) m_int (by decide +kernel) (pa_cons (pe_ix ix_list (pv 0) pe_int (fun _ _ => rfl)) pa_nil)) (pv 1)))
        (pss_cons (ps_asg (pe_op op_fdivW (pe_ix ix_list (pv 0) pe_int (fun _ _ => rfl)) (pv 1)) (pg_sub (pv 0) pe_int set_list))
        (pss_one (ps_ret (pv 2))))) pss_nil)
      (pss_cons (ps_asg (pe_op op_add (pe_ix ix_list (pv 0) pe_int (fun _ _ => rfl)) pe_int) (pg_sub (pv 0) pe_int set_list))
      (pss_cons (ps_set (i := 3) sc_law_take.nd rfl (.inl rfl) (pe_ix ix_list (pe_lst (pa_cons pe_int (pa_cons pe_int (pa_cons pe_int (pa_cons pe_int (pa_cons pe_int pa_nil)))))) (pe_op op_mod (pe_callTy call_int1 (by rfl) m_int (by decide +kernel) (pa_cons (pe_ix ix_list (pv 0) pe_int (fun _ _ => rfl)) pa_nil)) pe_int) (fun _ _ => rfl)))
      (pss_cons (ps_set (i := 4) sc_law_take.nd rfl (.inl rfl) (pe_op op_mod (pe_callTy call_int1 (by rfl) m_int (by decide +kernel) (pa_cons (pe_op op_powW (pe_callTy call_int1 (by rfl) m_int (by decide +kernel) (pa_cons (pe_op op_add (pe_op op_add (pe_ix ix_list (pv 0) pe_int (fun _ _ => rfl)) (pe_op op_mul (pe_op op_mul pe_int (pe_ix ix_list (pv 0) pe_int (fun _ _ => rfl))) (pe_ix ix_list (pv 0) pe_int (fun _ _ => rfl)))) pe_int) pa_nil)) pe_int) pa_nil)) (pv 3)))
      (pss_cons (ps_set (i := 4) sc_law_take.nd rfl (.inl rfl) (pe_op op_mod (pe_callTy call_int1 (by rfl) m_int (by decide +kernel) (pa_cons (pe_op op_mul (pv 4) (pe_op op_add (pe_op op_mod (pe_callTy call_int1 (by rfl) m_int (by decide +kernel) (pa_cons (pv 4) pa_nil)) pe_int) (pe_op op_mul pe_int (pe_ix ix_list (pv 0) pe_int (fun _ _ => rfl))))) pa_nil)) pe_int))
      (pss_one (ps_ret (pe_op op_mod (pe_callTy call_int1 (by rfl) m_int (by decide +kernel) (pa_cons (pe_op op_fdivW (pv 4) pe_int) pa_nil)) (pv 1))))))))), ?_⟩
    obtain ⟨p, c, u, rfl, ⟨o, sd, n, hp, o0, o1, s0, s1, n0, n1⟩, hc, hu, hu2, q⟩ := h
    refine ⟨.ref p, rfl, p, _, 0, .int o, rfl, rfl, SqL.of hp, atI_nat (j := 0) rfl, o, 0, rfl, rfl, _, rfl, ite2 (fun e => ?_) (fun e => ?_)⟩
    · have e0 : 0 < o := of_decide_eq_true e
      -- the digit
      refine ⟨.ref p, rfl, p, _, 0, .int o, rfl, rfl, SqL.of hp, atI_nat (j := 0) rfl, .inl ⟨o, rfl, .int u, rfl, o, u, rfl, rfl, (by show (0 : Int) < u; omega), ?_⟩⟩
      refine ⟨.ref p, rfl, p, _, 0, .int o, rfl, rfl, SqL.of hp, atI_nat (j := 0) rfl, .int u, rfl, o, u, rfl, rfl, wide_div (b := 62) (by omega) (by omega) (by decide) (by decide), ?_⟩
      refine ⟨.ref p, rfl, p, _, 0, 0, rfl, rfl, hp, rfl, ?_⟩
      refine ⟨.int (o % u), rfl, ?_⟩
      refine q _ _ (But.refl _ _).put ⟨o / u, sd, n, upd_same, Int.ediv_nonneg (by omega) (by omega), Int.lt_of_le_of_lt (Int.ediv_le_self _ o0) o1, s0, s1, n0, by omega⟩ (Int.emod_nonneg _ (by omega)) (Int.emod_lt_of_pos _ (by omega))
    · -- the count
      refine ⟨.ref p, rfl, p, _, 2, .int n, rfl, rfl, SqL.of hp, atI_nat (j := 2) rfl, n, 1, rfl, rfl, .ref p, rfl, p, _, 2, 2, rfl, rfl, hp, rfl, ?_⟩
      generalize hG : L2.upd H p _ = G
      have hg : G p = some (.lst [.int o, .int sd, .int (n + 1)]) := by
        rw [← hG]
        exact upd_same
      have hB : But p H G := by
        rw [← hG]
        exact (But.refl _ _).put
      refine ⟨by show 5 ≤ sizeLine; decide, fun l nl => ?_⟩
      have hg2 : (upd G l (.lst [.int 2147483647, .int 2147483629, .int 2147483587, .int 2147483579, .int 2147483563])) p = some (.lst [.int o, .int sd, .int (n + 1)]) := by
        rw [upd_ne (ne_of_none hg nl)]
        exact hg
      have hB2 : But p H (upd G l (.lst [.int 2147483647, .int 2147483629, .int 2147483587, .int 2147483579, .int 2147483563])) := hB.new nl
      refine ⟨.ref p, rfl, p, _, 2, .int (n + 1), rfl, rfl, SqL.of hg2, atI_nat (j := 2) rfl, .inl ⟨n + 1, rfl, n + 1, 5, rfl, rfl, (by show (0 : Int) < 5; decide), ?_⟩⟩
      have hpr : ∃ (k : Nat) (z : Int), (n + 1) % 5 = (k : Int) ∧ [V.int 2147483647, .int 2147483629, .int 2147483587, .int 2147483579, .int 2147483563][k]? = some (.int z) ∧ 1 ≤ z ∧ z < 2147483648 := by
        have a0 : 0 ≤ (n + 1) % 5 := Int.emod_nonneg _ (by decide)
        have a1 : (n + 1) % 5 < 5 := Int.emod_lt_of_pos _ (by decide)
        obtain e | e | e | e | e : (n + 1) % 5 = 0 ∨ (n + 1) % 5 = 1 ∨ (n + 1) % 5 = 2 ∨ (n + 1) % 5 = 3 ∨ (n + 1) % 5 = 4 := by omega
        · exact ⟨0, _, e, rfl, by decide, by decide⟩
        · exact ⟨1, _, e, rfl, by decide, by decide⟩
        · exact ⟨2, _, e, rfl, by decide, by decide⟩
        · exact ⟨3, _, e, rfl, by decide, by decide⟩
        · exact ⟨4, _, e, rfl, by decide, by decide⟩
      obtain ⟨k, z, ek, ez, z1, z2⟩ := hpr
      refine ⟨l, _, _, .int z, rfl, rfl, SqL.of upd_same, at_of ek ez, ?_⟩
      generalize hG2 : L2.upd G l _ = G2 at hg2 hB2 ⊢
      -- the stir
      refine ⟨.ref p, rfl, p, _, 1, .int sd, rfl, rfl, SqL.of hg2, atI_nat (j := 1) rfl, .ref p, rfl, p, _, 2, .int (n + 1), rfl, rfl, SqL.of hg2, atI_nat (j := 2) rfl, _, n + 1, rfl, rfl, .inl ⟨by decide, by decide⟩,
        .ref p, rfl, p, _, 2, .int (n + 1), rfl, rfl, SqL.of hg2, atI_nat (j := 2) rfl, _, n + 1, rfl, rfl, .inl ⟨by omega, by omega⟩, sd, _, rfl, rfl, _, _, rfl, rfl, .inl ⟨_, rfl, ?_⟩⟩
      generalize hx : sd + _ = x
      have hx1 : (x + 63).natAbs < 2 ^ 200 := by
        have h9 : (n + 1) * (n + 1) ≤ 100000 * 100000 := Int.mul_le_mul (by omega) (by omega) (by omega) (by decide)
        have h8 : 0 ≤ (n + 1) * (n + 1) := Int.mul_nonneg (by omega) (by omega)
        have h7 := Int.mul_assoc 110045 (n + 1) (n + 1)
        omega
      refine ⟨_, 3, rfl, rfl, powW_ok (j := 3) hx1 (by decide), .inl ⟨_, rfl, .int z, rfl, _, z, rfl, rfl, (by show (0 : Int) < z; omega), ?_⟩⟩
      dsimp only
      generalize hy : (x + 63) ^ _ % z = y
      have y0 : 0 ≤ y := by
        rw [← hy]
        exact Int.emod_nonneg _ (by omega)
      have y1 : y < z := by
        rw [← hy]
        exact Int.emod_lt_of_pos _ (by omega)
      refine ⟨.int y, rfl, .int y, rfl, .inl ⟨y, rfl, y, _, rfl, rfl, (by show (0 : Int) < 10037; decide), .ref p, rfl, p, _, 2, .int (n + 1), rfl, rfl, SqL.of hg2, atI_nat (j := 2) rfl, _, n + 1, rfl, rfl, .inl ⟨by decide, by decide⟩, _, _, rfl, rfl, y, _, rfl, rfl, .inl ⟨by omega, by omega⟩,
        .inl ⟨_, rfl, _, _, rfl, rfl, (by show (0 : Int) < 2305843009213693907; decide), ?_⟩⟩⟩
      dsimp only
      generalize ht : _ % (2305843009213693907 : Int) = t
      refine ⟨.int t, rfl, t, _, rfl, rfl, wide_div (b := 62) (by decide) (by decide) (by decide) (by decide), .inl ⟨_, rfl, .int u, rfl, _, u, rfl, rfl, (by show (0 : Int) < u; omega), ?_⟩⟩
      exact q _ _ hB2 ⟨o, sd, n + 1, hg2, o0, o1, s0, s1, by omega, by omega⟩ (Int.emod_nonneg _ (by omega)) (Int.emod_lt_of_pos _ (by omega))

theorem ok_law_of {f : Addr} {fd : FuncData} (F : Fun K "_law_of" "_law_of" s_law_of f fd) (m_len : mg "len" = none) (c_law_take : Cal P w K mg base 1 "_law_take" ["_law_pot_here", "_law_upto"] (sp_law_take K)) : FnOk P w K mg base CX0 2 f fd ["_law_pot_here", "_law_some"] (sp_law_of K) := by
  refine F.ok sc_law_of (fun vs H Q E h => ?_) (fun cdv A outer s H vs Q E hr h => ?_)
  · obtain ⟨p, l, c, xs, rfl, _⟩ := h
    rfl
  · refine ⟨_, (pss_one (ps_ret (pe_ix ix_list (pv 1) (pe_call c_law_take.G (hr.mono (by decide)) (by rfl) c_law_take.g c_law_take.kp c_law_take.b .nil pass0 (pa_cons (pv 0) (pa_cons (pe_callB call_len_seq (by rfl) m_len (by decide +kernel) (pa_cons (pv 1) pa_nil)) pa_nil))) (fun _ _ => rfl)))), ?_⟩
    obtain ⟨p, l, c, xs, rfl, hp, hc, hlp, hl, h0, h1, q⟩ := h
    refine ⟨.ref l, rfl, .ref p, rfl, .ref l, rfl, l, xs, rfl, .inl hl, p, c, xs.length, rfl, hp, hc, by omega, by omega, fun H' d hB hP d0 d1 => ?_⟩
    have hd : d.toNat < xs.length := by omega
    have ed : d = (d.toNat : Int) := by omega
    exact ⟨l, xs, d, xs[d.toNat], rfl, rfl, hB.seqL hlp hl, at_of ed (List.getElem?_eq_getElem hd), q H' d.toNat _ hB hP (List.getElem?_eq_getElem hd)⟩

theorem ok_law_cells {f : Addr} {fd : FuncData} (F : Fun K "_law_cells" "_law_cells" s_law_cells f fd) (m_range : mg "range" = none) (m_max : mg "max" = none) (m_min : mg "min" = none) (m_len : mg "len" = none) (m_list : mg "list" = none) : FnOk P w K mg base CX0 1 f fd ["_law_script", "_law_most"] (sp_law_cells K) := by
  refine F.ok sc_law_cells (fun vs H Q E h => ?_) (fun cdv A outer s H vs Q E hr h => ?_)
  · obtain ⟨a, ns, m, rfl, _⟩ := h
    rfl
  · refine ⟨_, (pss_one (ps_ret (pe_listRg rfl (by rfl) m_list (prg_1 (by rfl) m_range (pe_callB (call_max2 rfl) (by rfl) m_max (by decide +kernel) (pa_cons pe_int (pa_cons (pe_callB (call_min2 rfl) (by rfl) m_min (by decide +kernel) (pa_cons (pv 1) (pa_cons (pe_callB call_len_seq (by rfl) m_len (by decide +kernel) (pa_cons (pv 0) pa_nil)) pa_nil))) pa_nil))))))), ?_⟩
    obtain ⟨a, ns, m, rfl, hl, hn, hm, hm2, q⟩ := h
    refine ⟨.int m, rfl, .ref a, rfl, a, _, rfl, .inl hl, m, _, rfl, 1, _, rfl, _, rfl, ?_, ?_⟩
    · refine RgOk.of_le (by decide) ?_ (by decide) ?_ <;> (rw [List.length_map]; split <;> split <;> omega)
    · intro l nl
      have ek : ∃ k : Nat, (if (if ((ns.map V.int).length : Int) < m then ((ns.map V.int).length : Int) else m) > 1 then (if ((ns.map V.int).length : Int) < m then ((ns.map V.int).length : Int) else m) else 1) = (k : Int) ∧ 1 ≤ k ∧ k ≤ 63 := by
        rw [List.length_map]
        refine ⟨(if (if (ns.length : Int) < m then (ns.length : Int) else m) > 1 then (if (ns.length : Int) < m then (ns.length : Int) else m) else 1).toNat, ?_, ?_, ?_⟩ <;> (split <;> split <;> omega)
      obtain ⟨k, e1, k1, k2⟩ := ek
      rw [e1]
      exact q _ l k nl (sameU nl) upd_same k1 k2

theorem ok_law_pot {f : Addr} {fd : FuncData} (F : Fun K "_law_pot" "_law_pot" s_law_pot f fd) (m_len : mg "len" = none) (m_int : mg "int" = none) (m_abs : mg "abs" = none) : FnOk P w K mg base CX0 1 f fd ["_law_script", "_law_place"] (sp_law_pot K) := by
  refine F.ok sc_law_pot (fun vs H Q E h => ?_) (fun cdv A outer s H vs Q E hr h => ?_)
  · obtain ⟨a, ns, m, rfl, _⟩ := h
    rfl
  · refine ⟨_, (pss_cons (ps_set (i := 2) sc_law_pot.nd rfl (.inl rfl) (pe_ifExp (pt_cmpR op_lt (pv 1) (pe_callB call_len_seq (by rfl) m_len (by decide +kernel) (pa_cons (pv 0) pa_nil)) (nomark _)) (pe_ix ix_list (pv 0) (pv 1) (fun _ _ => rfl)) (pe_op op_add (pe_op op_mul pe_int (pv 1)) pe_int)))
      (pss_cons (ps_set (i := 3) sc_law_pot.nd rfl (.inl rfl) (pe_op op_mul (pe_op op_mod (pe_callTy call_int1 (by rfl) m_int (by decide +kernel) (pa_cons (pe_callB call_abs (by rfl) m_abs (by decide +kernel) (pa_cons (pv 2) pa_nil)) pa_nil)) (pe_op op_powW (pe_op op_powW pe_int pe_int) pe_int)) (pe_callTy call_int1 (by rfl) m_int (by decide +kernel) (pa_cons (pe_cmpR op_ge (pe_callB call_abs (by rfl) m_abs (by decide +kernel) (pa_cons (pv 2) pa_nil)) (pe_op op_powW pe_int pe_int) (nomark _)) pa_nil))))
      (pss_cons (ps_set (i := 4) sc_law_pot.nd rfl (.inl rfl) (pe_op op_mod (pe_callTy call_int1 (by rfl) m_int (by decide +kernel) (pa_cons (pv 2) pa_nil)) pe_int))
      (pss_one (ps_ret (pe_lst (pa_cons (pv 3) (pa_cons (pe_op op_mod (pe_callTy call_int1 (by rfl) m_int (by decide +kernel) (pa_cons (pe_op op_add (pe_op op_add (pe_op op_mul (pv 4) pe_int) (pe_op op_mul (pe_op op_mul pe_int (pv 1)) (pv 1))) pe_int) pa_nil)) pe_int) (pa_cons pe_int pa_nil))))))))), ?_⟩
    obtain ⟨a, ns, m, rfl, hl, hn, hm, hm2, q⟩ := h
    refine rd_cell hl hm ⟨by decide, by decide⟩ rfl rfl fun z => ?_
    refine ⟨.int z, rfl, z, rfl, .inl ⟨_, rfl, 10, 60, rfl, rfl, bigB, _, 5, rfl, rfl, bigA, _, _, rfl, rfl, big_pos, .int z, rfl, z, rfl, 10, 18, rfl, rfl, bigC, _, _, rfl, rfl, .inr ⟨_, rfl, _, _, rfl, rfl, .inr (b01 _), ?_⟩⟩⟩
    · dsimp only
      have o0 := own_ok (if z < 0 then -z else z) (decide ((10 : Int) ^ (18 : Int).toNat ≤ if z < 0 then -z else z))
      generalize ((if z < 0 then -z else z) % ((10 : Int) ^ (60 : Int).toNat) ^ (5 : Int).toNat) * (if decide ((10 : Int) ^ (18 : Int).toNat ≤ if z < 0 then -z else z) = true then (1 : Int) else 0) = o at o0 ⊢
      refine ⟨.int z, rfl, .inl ⟨z, rfl, z, _, rfl, rfl, (by show (0 : Int) < 2305843009213693951; decide), ?_⟩⟩
      dsimp only
      generalize hz : z % 2305843009213693951 = y
      refine ⟨.int o, rfl, .int y, rfl, y, _, rfl, rfl, .inr ⟨by decide, by decide⟩, .int m, rfl, _, m, rfl, rfl, .inl ⟨by decide, by decide⟩, .int m, rfl, _, m, rfl, rfl, .inr ⟨by omega, by omega⟩, _, _, rfl, rfl, _, _, rfl, rfl, .inl ⟨_, rfl, _, _, rfl, rfl, (by show (0 : Int) < 2305843009213693921; decide), ?_⟩⟩
      refine ⟨by show 3 ≤ sizeLine; decide, fun p np => ?_⟩
      refine q _ p np (sameU np) ⟨o, _, 0, upd_same, o0.1, o0.2, Int.emod_nonneg _ (by decide), ?_, by decide, by decide⟩
      exact Int.lt_trans (Int.emod_lt_of_pos _ (by decide)) (by decide)

theorem ok_law {f : Addr} {fd : FuncData} (F : Fun K "law" "law" s_law f fd) (m_all : mg "all" = none) (c_law_cells : Cal P w K mg base 1 "_law_cells" ["_law_script", "_law_most"] (sp_law_cells K)) (c_law_right : Cal P w K mg base 5 "_law_right" ["_law_pot_here"] (sp_law_right K)) (c_law_pot : Cal P w K mg base 1 "_law_pot" ["_law_script", "_law_place"] (sp_law_pot K)) : FnOk P w K mg base CX0 6 f fd ["_law_script"] (sp_law K) := by
  refine F.ok sc_law (fun vs H Q E h => ?_) (fun cdv A outer s H vs Q E hr h => ?_)
  · obtain ⟨a, ns, rfl, _⟩ := h
    rfl
  · refine ⟨_, (pss_one (ps_ret (pe_callB (cr_all rfl) (by rfl) m_all (by decide +kernel) (pa_cons (pe_lc (own := [("_law_place", 1)]) (g := gName 1) rfl sc_law.nd (pi_list (pe_call c_law_cells.G (hr.mono (by decide)) (by rfl) c_law_cells.g c_law_cells.kp c_law_cells.b .nil pass0 (pa_cons (pv 0) (pa_cons pe_int pa_nil)))) (blkOk_by (own := [("_law_place", 1)]) (N := N_law) (sc := defScope s_law) (by decide +kernel)) (fun _ _ _ _ _ => (pg_name (i := 1) sc_law.nd rfl (.inl rfl))) (fun _ _ _ _ _ => pts_nil) (fun _ _ _ _ _ => (pe_call c_law_right.G (hr.mono (by decide)) (by rfl) c_law_right.g c_law_right.kp c_law_right.b .nil pass0 (pa_cons (pe_call c_law_pot.G (hr.mono (by decide)) (by rfl) c_law_pot.g c_law_pot.kp c_law_pot.b .nil pass0 (pa_cons (pv 0) (pa_cons (pv 1) pa_nil))) pa_nil)))) pa_nil)))), ?_⟩
    obtain ⟨a, ns, rfl, hl, hn, q⟩ := h
    refine ⟨.ref a, rfl, a, ns, 4, rfl, hl, hn, by decide, by decide, fun H1 l k nl sm hk k1 k2 => ?_⟩
    refine ⟨l, rfl, ⟨_, SqL.of hk⟩, fun D nD => ?_⟩
    have nDl : D ≠ l := fun z => by
      rw [z, hk] at nD
      cases nD
    refine lc_list (K := K) (a := l) (xs := rgV 0 (k : Int)) (fun i H' => Same H1 H' ∧ H' D = some (.lst (List.replicate i (.bl true)))) ⟨sameU nD, upd_same⟩ (fun i H' _ hP => sqL_same hP.1 (SqL.of hk)) ?_ ?_
    · intro i x H2 hx hP
      have hi : i < k := by
        have e := (List.getElem?_eq_some_iff.mp hx).1
        rw [rgV_length] at e
        omega
      have ex : x = .int (i : Int) := by
        unfold rgV at hx
        rw [List.getElem?_map, List.getElem?_range (by omega)] at hx
        have e := Option.some.inj hx
        rw [← e]
        show V.int (0 + (i : Int)) = V.int (i : Int)
        rw [Int.zero_add]
      subst ex
      refine ⟨rfl, .ref a, rfl, .int (i : Int), rfl, a, ns, (i : Int), rfl, sqL_same (sm.trans hP.1) hl, hn, by omega, by omega, fun H3 p np sm3 hp => ?_⟩
      refine ⟨p, rfl, hp, fun H4 hB => ?_⟩
      have pD : D ≠ p := ne_of_none hP.2 np
      refine ⟨List.replicate i (.bl true), hB _ _ pD (sm3 _ _ hP.2), ?_, ?_, ?_⟩
      · rw [List.length_replicate]
        exact small1000 (by omega)
      · intro b o e
        have nb : b ≠ D := ne_of_none e nD
        have nbp : b ≠ p := ne_of_none (hP.1 b o e) np
        rw [upd_ne nb]
        exact hB b o nbp (sm3 b o (hP.1 b o e))
      · rw [upd_same, List.replicate_succ']
    · intro H2 hP
      rw [rgV_length] at hP
      have hD := hP.2
      refine ⟨D, List.replicate ((k : Int) - 0).toNat true, rfl, SqL.of (by rw [hD, List.map_replicate]), ?_⟩
      rw [all_rep]
      exact q _
end
end Uq

namespace Uq
open PySem PySem.Spec PyProof.Rows L2

/-! ### units -/
def How (h : Str) : Prop := h = "near" ∨ h = "even" ∨ h = "down" ∨ h = "up"
def Un (K : PySem.W.Frag) (H : Hp) (u : Addr) (b : Int) (h : Str) : Prop := SqT K H u [.int b, .str h] ∧ 2 ≤ b ∧ b ≤ 100 ∧ How h
theorem Un.same {K : PySem.W.Frag} {H H' : Hp} {u : Addr} {b : Int} {h : Str} (e : Same H H') (x : Un K H u b h) : Un K H' u b h := ⟨sqT_same e x.1, x.2⟩
theorem Un.but {K : PySem.W.Frag} {H H' : Hp} {p u : Addr} {b : Int} {h : Str} (e : But p H H') (n : u ≠ p) (x : Un K H u b h) : Un K H' u b h := ⟨e.seqT n x.1, x.2⟩
/-- a tuple of the module's own -/
def TupK (K : PySem.W.Frag) (a : Addr) (xs : List V) : Prop := ∃ (o : Obj) (its : Array Value) (n : Nat), K.lookup a = some o ∧ o.cls = .type "tuple" ∧ o.data = .seq its n ∧ its.size ≤ sizeLine ∧ Vals xs its.toList
def hows : List V := [.str "near", .str "even", .str "down", .str "up"]
theorem in_hows {h : Str} (x : How h) : inV (.str h) hows = true := by
  rcases x with rfl | rfl | rfl | rfl <;> decide +kernel
theorem ty_tup {K : PySem.W.Frag} {H : Hp} {a : Addr} {xs : List V} (h : SqT K H a xs) : TyX K H (.ref a) (.type "tuple") := by
  rcases h with (h | ⟨o, h⟩) | ⟨o, its, n, h, hc, _⟩
  · exact .base (.tup h)
  · exact .fTuple h
  · exact .kTuple h hc
def sp_is_integer (K : PySem.W.Frag) : Sp := fun vs H Q _ => ∃ i : Int, vs = [.int i] ∧ Q (.bl true) H
def sp_is_units (K : PySem.W.Frag) : Sp := fun vs H Q _ => ∃ (u : Addr) (b : Int) (h : Str), vs = [.ref u] ∧ Un K H u b h ∧ Q (.bl true) H
/-- many / whole rounded -/
def rnd (h : Str) (a b : Int) : Int := if h = "down" ∨ a % b = 0 then a / b else if h = "up" ∨ b < 2 * (a % b) then a / b + 1 else if 2 * (a % b) < b then a / b else if h = "near" then a / b + 1 else a / b + a / b % 2
def sp_rounded (K : PySem.W.Frag) : Sp := fun vs H Q _ => ∃ (h : Str) (a b : Int), vs = [.str h, .int a, .int b] ∧ 0 < b ∧ b < 2 ^ 62 ∧ ∀ H', Same H H' → Q (.int (rnd h a b)) H'
def sp_shown (K : PySem.W.Frag) : Sp := fun vs H Q _ => ∃ (u : Addr) (b : Int) (h : Str) (a c : Int), vs = [.ref u, .int a, .int c] ∧ Un K H u b h ∧ 0 < c ∧ c < 2 ^ 62 ∧ 0 ≤ a ∧ a ≤ c ∧ ∀ H', Same H H' → Q (.int (rnd h (b * a) c)) H'
def sp_law_rounded (K : PySem.W.Frag) : Sp := fun vs H Q _ => ∃ (h : Str) (a b : Int), vs = [.str h, .int a, .int b] ∧ How h ∧ 0 < b ∧ b < 2 ^ 62 ∧ Q (.int (rnd h a b)) H
/-- drawn units -/
def sp_law_units (K : PySem.W.Frag) : Sp := fun vs H Q _ => ∃ (p : Addr) (c : Nat) (m : Int), vs = [.ref p, .int m] ∧ Pot H p c ∧ c < 90000 ∧ 2 ≤ m ∧ m ≤ 100 ∧
  ∀ H' u b h, H p ≠ none → But p H H' → Pot H' p (c + 2) → H u = none → u ≠ p → Un K H' u b h → b ≤ m → Q (.ref u) H'
theorem str_of {h x : Str} (e : decide (V.str h = V.str x) = true) : h = x := V.str.inj (of_decide_eq_true e)
theorem str_not {h x : Str} (e : ¬ decide (V.str h = V.str x) = true) : h ≠ x := fun z => e (decide_eq_true (by rw [z]))
theorem int_of {i j : Int} (e : decide (V.int i = V.int j) = true) : i = j := V.int.inj (of_decide_eq_true e)
theorem int_not {i j : Int} (e : ¬ decide (V.int i = V.int j) = true) : i ≠ j := fun z => e (decide_eq_true (by rw [z]))
theorem no_pylong {a b : Int} (h : 0 < b) (h2 : b < 2 ^ 62) : CDivP a b := ⟨h, PyProof.noPylong_of_log2 (Nat.lt_of_lt_of_le (PySem.Flt.log2_lt_of (show 0 < 62 by decide) (show b.natAbs < 2 ^ 62 by omega)) (by decide))⟩
section
variable {P : Program} {w : World} {K : PySem.W.Frag} {mg : Str → Option Value} {base : Heap}
theorem ok_is_integer {f : Addr} {fd : FuncData} (F : Fun K "is_integer" "is_integer" s_is_integer f fd) (m_isinstance : mg "isinstance" = none) (m_int : mg "int" = none) (m_bool : mg "bool" = none) : FnOk P w K mg base CX0 1 f fd ["value"] (sp_is_integer K) := by
  refine F.ok sc_is_integer (fun vs H Q E h => ?_) (fun cdv A outer s H vs Q E hr h => ?_)
  · obtain ⟨i, rfl, _⟩ := h
    rfl
  · refine ⟨_, (pss_one (ps_ret (pe_and (pe_callB call_isi (by rfl) m_isinstance (by decide +kernel) (pa_cons (pv 0) (pa_cons (pe_bltn (v := .ty "int") (by rfl) m_int (by decide +kernel) rfl) pa_nil))) (pe_one (pe_not (pe_callB call_isi (by rfl) m_isinstance (by decide +kernel) (pa_cons (pv 0) (pa_cons (pe_bltn (v := .ty "bool") (by rfl) m_bool (by decide +kernel) rfl) pa_nil)))))))), ?_⟩
    obtain ⟨i, rfl, q⟩ := h
    exact ⟨.int i, rfl, .int i, .ty "int", _, _, true, rfl, .ty "int", .base (.int i), kit_ty (by decide +kernel), true, rfl, .int i, rfl, .int i, .ty "bool", _, _, false, rfl, .ty "bool", .base (.int i), kit_ty (by decide +kernel), false, rfl, q⟩

theorem ok_is_units {f : Addr} {fd : FuncData} (F : Fun K "is_units" "is_units" s_is_units f fd) (m_isinstance : mg "isinstance" = none) (m_tuple : mg "tuple" = none) (m_len : mg "len" = none) (m_str : mg "str" = none) {a_HOWS : Addr} (g_HOWS : mg "HOWS" = some (.ref a_HOWS)) (t_HOWS : TupK K a_HOWS hows) (c_is_integer : Cal P w K mg base 1 "is_integer" ["value"] (sp_is_integer K)) : FnOk P w K mg base CX0 2 f fd ["value"] (sp_is_units K) := by
  refine F.ok sc_is_units (fun vs H Q E h => ?_) (fun cdv A outer s H vs Q E hr h => ?_)
  · obtain ⟨u, b, h, rfl, _⟩ := h
    rfl
  · refine ⟨_, (pss_cons (ps_if (PW.pt (pw_or (pt_not (pt_val (pe_callB call_isi (by rfl) m_isinstance (by decide +kernel) (pa_cons (pv 0) (pa_cons (pe_bltn (v := .ty "tuple") (by rfl) m_tuple (by decide +kernel) rfl) pa_nil))))) (pw_or1 (pt_cmpR op_ne (pe_callB call_len_seq (by rfl) m_len (by decide +kernel) (pa_cons (pv 0) pa_nil)) pe_int (nomark _))))) (pss_one (ps_ret pe_bl)) pss_nil)
      (pss_cons (ps_asg (pv 0) (pg_tup rfl (pgs_cons (pg_name (i := 1) sc_is_units.nd rfl (.inl rfl)) (pgs_cons (pg_name (i := 2) sc_is_units.nd rfl (.inl rfl)) pgs_nil))))
      (pss_cons (ps_if (PW.pt (pw_or (pt_not (pt_val (pe_call c_is_integer.G (hr.mono (by decide)) (by rfl) c_is_integer.g c_is_integer.kp c_is_integer.b .nil pass0 (pa_cons (pv 1) pa_nil)))) (pw_or1 (pt_not (pt_val (pe_callB call_isi (by rfl) m_isinstance (by decide +kernel) (pa_cons (pv 2) (pa_cons (pe_bltn (v := .ty "str") (by rfl) m_str (by decide +kernel) rfl) pa_nil)))))))) (pss_one (ps_ret pe_bl)) pss_nil)
      (pss_one (ps_ret (pe_and (pe_chain op_le op_le pe_int (pv 1) pe_int) (pe_one (pe_cmpR op_in_seq (pv 2) (pe_glob (v := .ref a_HOWS) (by rfl) g_HOWS rfl) rfl)))))))), ?_⟩
    obtain ⟨u, b, h, rfl, ⟨hu, b0, b1, hh⟩, q⟩ := h
    refine ⟨.ref u, rfl, .ref u, .ty "tuple", _, _, true, rfl, .ty "tuple", ty_tup hu, kit_ty (by decide +kernel), true, rfl, ?_⟩
    refine iteF ⟨.ref u, rfl, u, _, rfl, .inr hu, rfl, _, rfl, iteF ?_⟩
    refine ⟨.ref u, rfl, u, _, rfl, hu, rfl, _, _, rfl, _, _, rfl, rfl, ?_⟩
    refine ⟨.int b, rfl, b, rfl, true, rfl, iteF ⟨.str h, rfl, .str h, .ty "str", _, _, true, rfl, .ty "str", .base (.str h), kit_ty (by decide +kernel), true, rfl, iteF ?_⟩⟩
    refine ⟨.int b, rfl, 2, b, rfl, rfl, _, rfl, iteDY b0 ?_⟩
    refine ⟨b, 100, rfl, rfl, _, rfl, iteDY b1 ?_⟩
    refine ⟨.str h, rfl, a_HOWS, hows, rfl, .inr (.inr t_HOWS), rfl, by decide +kernel, ?_⟩
    rw [in_hows hh]
    exact q

theorem ok_rounded {f : Addr} {fd : FuncData} (F : Fun K "rounded" "rounded" s_rounded f fd) (m_divmod : mg "divmod" = none) : FnOk P w K mg base CX0 1 f fd ["how", "many", "whole"] (sp_rounded K) := by
  refine F.ok sc_rounded (fun vs H Q E h => ?_) (fun cdv A outer s H vs Q E hr h => ?_)
  · obtain ⟨h, a, b, rfl, _⟩ := h
    rfl
  · refine ⟨_, (pss_cons (ps_asg (pe_callB call_divmodW (by rfl) m_divmod (by decide +kernel) (pa_cons (pv 1) (pa_cons (pv 2) pa_nil))) (pg_tup rfl (pgs_cons (pg_name (i := 3) sc_rounded.nd rfl (.inl rfl)) (pgs_cons (pg_name (i := 4) sc_rounded.nd rfl (.inl rfl)) pgs_nil))))
      (pss_cons (ps_if (PW.pt (pw_or (pt_cmpR op_eq (pv 0) pe_str (nomark _)) (pw_or1 (pt_cmpR op_eq (pv 4) pe_int (nomark _))))) (pss_one (ps_ret (pv 3))) pss_nil)
      (pss_cons (ps_if (PW.pt (pw_or (pt_cmpR op_eq (pv 0) pe_str (nomark _)) (pw_or1 (pt_cmpR op_gt (pe_op op_mul pe_int (pv 4)) (pv 2) (nomark _))))) (pss_one (ps_ret (pe_op op_add (pv 3) pe_int))) pss_nil)
      (pss_cons (ps_if (pt_cmpR op_lt (pe_op op_mul pe_int (pv 4)) (pv 2) (nomark _)) (pss_one (ps_ret (pv 3))) pss_nil)
      (pss_cons (ps_if (pt_cmpR op_eq (pv 0) pe_str (nomark _)) (pss_one (ps_ret (pe_op op_add (pv 3) pe_int))) pss_nil)
      (pss_one (ps_ret (pe_op op_add (pv 3) (pe_op op_mod (pv 3) pe_int))))))))), ?_⟩
    obtain ⟨h, a, b, rfl, b0, b1, q⟩ := h
    refine ⟨.int a, rfl, .int b, rfl, a, b, rfl, no_pylong b0 b1, fun t nt => ?_⟩
    refine ⟨t, _, rfl, SqT.of upd_same, rfl, _, _, rfl, _, _, rfl, rfl, ?_⟩
    have Q' : ∀ z, rnd h a b = z → Q (.int z) (upd H t (.tup [.int (a / b), .int (a % b)])) := fun z e => e ▸ q _ (sameU nt)
    unfold rnd at Q'
    refine ⟨.str h, rfl, rfl, _, rfl, ite2 (fun e => ?_) (fun e => ⟨.int (a % b), rfl, rfl, _, rfl, ite2 (fun e2 => ?_) (fun e2 => ?_)⟩)⟩
    · exact iteT ⟨.int (a / b), rfl, Q' _ (if_pos (.inl (str_of e)))⟩
    · exact ⟨.int (a / b), rfl, Q' _ (if_pos (.inr (int_of e2)))⟩
    · have n1 : ¬ (h = "down" ∨ a % b = 0) := fun z => z.elim (str_not e) (int_not e2)
      refine ⟨.str h, rfl, rfl, _, rfl, ite2 (fun e3 => ?_) (fun e3 => ⟨.int (a % b), rfl, _, _, rfl, rfl, .inl ⟨by decide, by decide⟩, .int b, rfl, _, b, rfl, rfl, _, rfl, ite2 (fun e4 => ?_) (fun e4 => ?_)⟩)⟩
      · exact iteT ⟨.int (a / b), rfl, _, _, rfl, rfl, Q' _ (by rw [if_neg n1, if_pos (.inl (str_of e3))])⟩
      · exact ⟨.int (a / b), rfl, _, _, rfl, rfl, Q' _ (by rw [if_neg n1, if_pos (.inr (of_decide_eq_true e4))])⟩
      · have n2 : ¬ (h = "up" ∨ b < 2 * (a % b)) := fun z => z.elim (str_not e3) (fun y => e4 (decide_eq_true y))
        refine ⟨.int (a % b), rfl, _, _, rfl, rfl, .inl ⟨by decide, by decide⟩, .int b, rfl, _, b, rfl, rfl, _, rfl, ite2 (fun e5 => ?_) (fun e5 => ?_)⟩
        · exact ⟨.int (a / b), rfl, Q' _ (by rw [if_neg n1, if_neg n2, if_pos (of_decide_eq_true e5)])⟩
        · have n3 : ¬ (2 * (a % b) < b) := fun y => e5 (decide_eq_true y)
          refine ⟨.str h, rfl, rfl, _, rfl, ite2 (fun e6 => ?_) (fun e6 => ?_)⟩
          · exact ⟨.int (a / b), rfl, _, _, rfl, rfl, Q' _ (by rw [if_neg n1, if_neg n2, if_neg n3, if_pos (str_of e6)])⟩
          · exact ⟨.int (a / b), rfl, .int (a / b), rfl, _, _, rfl, rfl, (by show (0 : Int) < 2; decide), _, _, rfl, rfl, Q' _ (by rw [if_neg n1, if_neg n2, if_neg n3, if_neg (str_not e6)])⟩

theorem ok_shown {f : Addr} {fd : FuncData} (F : Fun K "shown" "shown" s_shown f fd) (c_is_units : Cal P w K mg base 2 "is_units" ["value"] (sp_is_units K)) (c_is_integer : Cal P w K mg base 1 "is_integer" ["value"] (sp_is_integer K)) (c_rounded : Cal P w K mg base 1 "rounded" ["how", "many", "whole"] (sp_rounded K)) : FnOk P w K mg base CX0 3 f fd ["units", "many", "whole"] (sp_shown K) := by
  refine F.ok sc_shown (fun vs H Q E h => ?_) (fun cdv A outer s H vs Q E hr h => ?_)
  · obtain ⟨u, b, h, a, c, rfl, _⟩ := h
    rfl
  · refine ⟨_, (pss_cons (ps_if (pt_not (pt_val (pe_call c_is_units.G (hr.mono (by decide)) (by rfl) c_is_units.g c_is_units.kp c_is_units.b .nil pass0 (pa_cons (pv 0) pa_nil)))) (pss_one ps_never) pss_nil)
      (pss_cons (ps_if (PW.pt (pw_or (pt_not (pt_val (pe_call c_is_integer.G (hr.mono (by decide)) (by rfl) c_is_integer.g c_is_integer.kp c_is_integer.b .nil pass0 (pa_cons (pv 2) pa_nil)))) (pw_or1 (pt_cmpR op_lt (pv 2) pe_int (nomark _))))) (pss_one ps_never) pss_nil)
      (pss_cons (ps_if (PW.pt (pw_or (pt_not (pt_val (pe_call c_is_integer.G (hr.mono (by decide)) (by rfl) c_is_integer.g c_is_integer.kp c_is_integer.b .nil pass0 (pa_cons (pv 1) pa_nil)))) (pw_or1 (pt_not (pt_chain op_le op_le pe_int (pv 1) (pv 2)))))) (pss_one ps_never) pss_nil)
      (pss_cons (ps_asg (pv 0) (pg_tup rfl (pgs_cons (pg_name (i := 3) sc_shown.nd rfl (.inl rfl)) (pgs_cons (pg_name (i := 4) sc_shown.nd rfl (.inl rfl)) pgs_nil))))
      (pss_one (ps_ret (pe_call c_rounded.G (hr.mono (by decide)) (by rfl) c_rounded.g c_rounded.kp c_rounded.b .nil pass0 (pa_cons (pv 4) (pa_cons (pe_op op_mul (pv 3) (pv 1)) (pa_cons (pv 2) pa_nil)))))))))), ?_⟩
    obtain ⟨u, b, h, a, c, rfl, hu, c0, c1, a0, a1, q⟩ := h
    refine ⟨.ref u, rfl, u, b, h, rfl, hu, true, rfl, iteF ?_⟩
    refine ⟨.int c, rfl, c, rfl, true, rfl, iteF ⟨.int c, rfl, c, 1, rfl, rfl, _, rfl, iteDN (by omega) ?_⟩⟩
    refine ⟨.int a, rfl, a, rfl, true, rfl, iteF ⟨.int a, rfl, 0, a, rfl, rfl, _, rfl, iteDY a0 ?_⟩⟩
    refine ⟨.int c, rfl, a, c, rfl, rfl, _, rfl, iteNS a1 ?_⟩
    refine ⟨.ref u, rfl, u, _, rfl, hu.1, rfl, _, _, rfl, _, _, rfl, rfl, ?_⟩
    have hb := hu.2
    exact ⟨.str h, rfl, .int b, rfl, .int a, rfl, b, a, rfl, rfl, .inl ⟨by omega, by omega⟩, .int c, rfl, h, b * a, c, rfl, c0, c1, q⟩

theorem ok_law_rounded {f : Addr} {fd : FuncData} (F : Fun K "_law_rounded" "_law_rounded" s_law_rounded f fd) (m_int : mg "int" = none) : FnOk P w K mg base CX0 1 f fd ["_law_how", "_law_above", "_law_under"] (sp_law_rounded K) := by
  refine F.ok sc_law_rounded (fun vs H Q E h => ?_) (fun cdv A outer s H vs Q E hr h => ?_)
  · obtain ⟨h, a, b, rfl, _⟩ := h
    rfl
  · refine ⟨_, (pss_cons (ps_par (i := 3) (j := 4) (by rfl) sc_law_rounded.nd rfl rfl (by decide) rfl rfl (pa_cons (pe_op op_fdivW (pv 1) (pv 2)) (pa_cons (pe_op op_mod (pe_callTy call_int1 (by rfl) m_int (by decide +kernel) (pa_cons (pv 1) pa_nil)) (pv 2)) pa_nil)) (by rfl))
      (pss_cons (ps_if (PW.pt (pw_or (pt_cmpR op_eq (pv 4) pe_int (nomark _)) (pw_or1 (pt_cmpR op_eq (pv 0) pe_str (nomark _))))) (pss_one (ps_ret (pv 3))) pss_nil)
      (pss_cons (ps_if (pt_cmpR op_eq (pv 0) pe_str (nomark _)) (pss_one (ps_ret (pe_op op_add (pv 3) pe_int))) pss_nil)
      (pss_cons (ps_if (pt_cmpR op_eq (pe_op op_mul pe_int (pv 4)) (pv 2) (nomark _)) (pss_one (ps_ret (pe_ifExp (PW.pt (pw_or (pt_cmpR op_eq (pv 0) pe_str (nomark _)) (pw_or1 (pt_cmpR op_eq (pe_op op_mod (pe_callTy call_int1 (by rfl) m_int (by decide +kernel) (pa_cons (pv 3) pa_nil)) pe_int) pe_int (nomark _))))) (pe_op op_add (pv 3) pe_int) (pv 3)))) pss_nil)
      (pss_one (ps_ret (pe_ifExp (pt_cmpR op_gt (pe_op op_mul pe_int (pv 4)) (pv 2) (nomark _)) (pe_op op_add (pv 3) pe_int) (pv 3)))))))), ?_⟩
    obtain ⟨h, a, b, rfl, hh, b0, b1, q⟩ := h
    refine ⟨.int a, rfl, .int b, rfl, a, b, rfl, rfl, wide_div (b := 62) b0 (by omega) (by decide) (by decide), .int a, rfl, .inl ⟨a, rfl, .int b, rfl, a, b, rfl, rfl, b0, _, _, rfl, ?_⟩⟩
    have Q' : ∀ z, rnd h a b = z → Q (.int z) H := fun z e => e ▸ q
    unfold rnd at Q'
    have r0 := Int.emod_nonneg a (Int.ne_of_gt b0)
    refine ⟨.int (a % b), rfl, rfl, _, rfl, ite2 (fun e => ?_) (fun e => ⟨.str h, rfl, rfl, _, rfl, ite2 (fun e2 => ?_) (fun e2 => ?_)⟩)⟩
    · exact iteT ⟨.int (a / b), rfl, Q' _ (if_pos (.inr (int_of e)))⟩
    · exact ⟨.int (a / b), rfl, Q' _ (if_pos (.inl (str_of e2)))⟩
    · have n1 : ¬ (h = "down" ∨ a % b = 0) := fun z => z.elim (str_not e2) (int_not e)
      refine ⟨.str h, rfl, rfl, _, rfl, ite2 (fun e3 => ?_) (fun e3 => ?_)⟩
      · exact ⟨.int (a / b), rfl, _, _, rfl, rfl, Q' _ (by rw [if_neg n1, if_pos (.inl (str_of e3))])⟩
      · have n2 := str_not e3
        refine ⟨.int (a % b), rfl, _, _, rfl, rfl, .inl ⟨by decide, by decide⟩, .int b, rfl, rfl, _, rfl, ite2 (fun e4 => ?_) (fun e4 => ?_)⟩
        · have e5 : 2 * (a % b) = b := int_of e4
          have n3 : ¬ (h = "up" ∨ b < 2 * (a % b)) := fun z => z.elim n2 (by omega)
          have n4 : ¬ (2 * (a % b) < b) := by omega
          refine ⟨.str h, rfl, rfl, _, rfl, ite2 (fun e6 => ?_) (fun e6 => ⟨.int (a / b), rfl, .inl ⟨_, rfl, _, _, rfl, rfl, (by show (0 : Int) < 2; decide), rfl, _, rfl, ite2 (fun e7 => ?_) (fun e7 => ?_)⟩⟩)⟩
          · exact iteT ⟨.int (a / b), rfl, _, _, rfl, rfl, Q' _ (by rw [if_neg n1, if_neg n3, if_neg n4, if_pos (str_of e6)])⟩
          · have e8 : a / b % 2 = 1 := int_of e7
            exact ⟨.int (a / b), rfl, _, _, rfl, rfl, Q' _ (by rw [if_neg n1, if_neg n3, if_neg n4, if_neg (str_not e6), e8])⟩
          · have e8 : a / b % 2 ≠ 1 := int_not e7
            have e9 : a / b % 2 = 0 := by omega
            exact ⟨.int (a / b), rfl, Q' _ (by rw [if_neg n1, if_neg n3, if_neg n4, if_neg (str_not e6), e9, Int.add_zero])⟩
        · have e5 : 2 * (a % b) ≠ b := int_not e4
          refine ⟨.int (a % b), rfl, _, _, rfl, rfl, .inl ⟨by decide, by decide⟩, .int b, rfl, _, _, rfl, rfl, _, rfl, ite2 (fun e6 => ?_) (fun e6 => ?_)⟩
          · have e7 : b < 2 * (a % b) := of_decide_eq_true e6
            exact ⟨.int (a / b), rfl, _, _, rfl, rfl, Q' _ (by rw [if_neg n1, if_pos (.inr e7)])⟩
          · have e7 : ¬ b < 2 * (a % b) := fun z => e6 (decide_eq_true z)
            exact ⟨.int (a / b), rfl, Q' _ (by rw [if_neg n1, if_neg (fun z => z.elim n2 e7), if_pos (by omega)])⟩

theorem ok_law_units {f : Addr} {fd : FuncData} (F : Fun K "_law_units" "_law_units" s_law_units f fd) (c_law_of : Cal P w K mg base 2 "_law_of" ["_law_pot_here", "_law_some"] (sp_law_of K)) (c_law_take : Cal P w K mg base 1 "_law_take" ["_law_pot_here", "_law_upto"] (sp_law_take K)) : FnOk P w K mg base CX0 3 f fd ["_law_pot_here", "_law_most"] (sp_law_units K) := by
  refine F.ok sc_law_units (fun vs H Q E h => ?_) (fun cdv A outer s H vs Q E hr h => ?_)
  · obtain ⟨p, c, m, rfl, _⟩ := h
    rfl
  · refine ⟨_, (pss_one (ps_ret (pe_tup (pa_cons (pe_op op_add pe_int (pe_call c_law_take.G (hr.mono (by decide)) (by rfl) c_law_take.g c_law_take.kp c_law_take.b .nil pass0 (pa_cons (pv 0) (pa_cons (pe_op op_sub (pv 1) pe_int) pa_nil)))) (pa_cons (pe_call c_law_of.G (hr.mono (by decide)) (by rfl) c_law_of.g c_law_of.kp c_law_of.b .nil pass0 (pa_cons (pv 0) (pa_cons (pe_lst (pa_cons pe_str (pa_cons pe_str (pa_cons pe_str (pa_cons pe_str pa_nil))))) pa_nil))) pa_nil))))), ?_⟩
    obtain ⟨p, c, m, rfl, hp, hc, m0, m1, q⟩ := h
    refine ⟨.ref p, rfl, .int m, rfl, m, 1, rfl, rfl, p, c, _, rfl, hp, by omega, by omega, by omega, fun H1 d hB hP d0 d1 => ?_⟩
    refine ⟨_, _, rfl, rfl, .ref p, rfl, by show 4 ≤ sizeLine; decide, fun l nl => ?_⟩
    have nlp : l ≠ p := hP.ne nl
    refine ⟨p, l, c + 1, hows, rfl, hP.new nl, by omega, nlp, SqL.of upd_same, by decide, by decide, fun H2 i v hB2 hP2 hv => ?_⟩
    have hh : ∃ h, v = .str h ∧ How h := by
      have hi := (List.getElem?_eq_some_iff.mp hv).1
      have hi4 : i < 4 := hi
      obtain rfl | rfl | rfl | rfl : i = 0 ∨ i = 1 ∨ i = 2 ∨ i = 3 := by omega
      · exact ⟨"near", (Option.some.inj hv).symm, .inl rfl⟩
      · exact ⟨"even", (Option.some.inj hv).symm, .inr (.inl rfl)⟩
      · exact ⟨"down", (Option.some.inj hv).symm, .inr (.inr (.inl rfl))⟩
      · exact ⟨"up", (Option.some.inj hv).symm, .inr (.inr (.inr rfl))⟩
    obtain ⟨h, rfl, hh⟩ := hh
    refine ⟨by show 2 ≤ sizeLine; decide, fun u nu => ?_⟩
    have b3 : But p H (upd H2 u (.tup [.int (2 + d), .str h])) := ((hB.new nl).trans hB2).new nu
    have nup : u ≠ p := hP2.ne nu
    have Hu : H u = none := by
      cases e : H u with
      | none => rfl
      | some o =>
        have z := (((hB.new nl).trans hB2) u o nup e)
        rw [nu] at z
        cases z
    exact q _ u (2 + d) h hp.some b3 (hP2.new nu) Hu nup ⟨SqT.of upd_same, by omega, by omega, hh⟩ (by omega)
end
end Uq

namespace Uq
open PySem PySem.Spec PyProof.Rows L2
/-- so many of so many, drawn by at most e draws -/
def SpPart (m e : Nat) (K : PySem.W.Frag) : Sp := fun vs H Q _ => ∃ (p : Addr) (c : Nat) (b : Int), vs = [.ref p, .int b] ∧ Pot H p c ∧ c < m ∧ 2 ≤ b ∧ b ≤ 100 ∧
  ∀ H' t a w, But p H H' → Pot H' p (c + e) → H t = none → SqT K H' t [.int a, .int w] → 0 ≤ a → a ≤ w → 0 < w → w < 2 ^ 40 → Q (.ref t) H'
abbrev sp_law_halved := SpPart 90000 2
abbrev sp_law_beside := SpPart 90000 3
abbrev sp_law_drawn_part := SpPart 80000 4
theorem fresh_but {p q : Addr} {H H' : Hp} (e : But p H H') (n : q ≠ p) (h : H' q = none) : H q = none := by
  cases z : H q with
  | none => rfl
  | some o =>
    have y := e q o n z
    rw [h] at y
    cases y
theorem rnd_bound {h : Str} {x b w : Int} (w0 : 0 < w) (x0 : 0 ≤ x) (x1 : x ≤ b * w) : 0 ≤ rnd h x w ∧ rnd h x w ≤ b + 1 := by
  have q0 : 0 ≤ x / w := Int.ediv_nonneg x0 (Int.le_of_lt w0)
  have q1 : x / w ≤ b := by
    have z := Int.ediv_le_ediv w0 x1
    rw [Int.mul_ediv_cancel _ (Int.ne_of_gt w0)] at z
    exact z
  unfold rnd
  split
  · omega
  · split
    · omega
    · split
      · omega
      · split <;> omega
theorem log2_small {z : Int} (h0 : 0 ≤ z) (h1 : z < 2 ^ 62) : z.natAbs.log2 < 1920 := Nat.lt_of_lt_of_le (PySem.Flt.log2_lt_of (show 0 < 62 by decide) (show z.natAbs < 2 ^ 62 by omega)) (by decide)
theorem rnd_log {h : Str} {b a w : Int} (b0 : 2 ≤ b) (b1 : b ≤ 100) (w0 : 0 < w) (a0 : 0 ≤ a) (a1 : a ≤ w) : (rnd h (b * a) w).natAbs.log2 < 1920 := by
  have z := rnd_bound (h := h) (b := b) w0 (Int.mul_nonneg (by omega) a0) (Int.mul_le_mul_of_nonneg_left a1 (by omega))
  exact log2_small z.1 (by omega)
/-- what is kept of a round: the units, so many of so many, the text that is due -/
def Asked (K : PySem.W.Frag) (H : Hp) (p L : Addr) (x : V) : Prop := ∃ (t u : Addr) (b : Int) (h : Str) (a w : Int), x = .ref t ∧ t ≠ p ∧ t ≠ L ∧ u ≠ p ∧ u ≠ L ∧ SqT K H t [.ref u, .int a, .int w, .str (toString (rnd h (b * a) w))] ∧ Un K H u b h ∧ 0 ≤ a ∧ a ≤ w ∧ 0 < w ∧ w < 2 ^ 62
def But2 (p L : Addr) (H H' : Hp) : Prop := ∀ b o, b ≠ p → b ≠ L → H b = some o → H' b = some o
theorem But2.of {p L : Addr} {H H' : Hp} (e : But p H H') : But2 p L H H' := fun b o n _ z => e b o n z
theorem But2.trans {p L : Addr} {H H1 H2 : Hp} (a : But2 p L H H1) (b : But2 p L H1 H2) : But2 p L H H2 := fun c o n m h => b c o n m (a c o n m h)
theorem But2.put {p L : Addr} {H H1 : Hp} {o : HO} (a : But2 p L H H1) : But2 p L H (upd H1 L o) := fun c u n m e => by
  rw [upd_ne m]
  exact a c u n m e
theorem But2.seqT {K : PySem.W.Frag} {p L a : Addr} {H H' : Hp} {xs : List V} (e : But2 p L H H') (n : a ≠ p) (m : a ≠ L) (h : SqT K H a xs) : SqT K H' a xs := by
  rcases h with (h | ⟨o, h⟩) | h
  · exact .inl (.inl (e _ _ n m h))
  · exact .inl (.inr ⟨o, e _ _ n m h⟩)
  · exact .inr h
theorem Asked.keep {K : PySem.W.Frag} {H H' : Hp} {p L : Addr} {x : V} (e : But2 p L H H') (h : Asked K H p L x) : Asked K H' p L x := by
  obtain ⟨t, u, b, h', a, w, h0, h1, h2, h3, h4, h5, h6, h7⟩ := h
  exact ⟨t, u, b, h', a, w, h0, h1, h2, h3, h4, e.seqT h1 h2 h5, ⟨e.seqT h3 h4 h6.1, h6.2⟩, h7⟩
section
variable {P : Program} {w : World} {K : PySem.W.Frag} {mg : Str → Option Value} {base : Heap}

theorem ok_law_halved {f : Addr} {fd : FuncData} (F : Fun K "_law_halved" "_law_halved" s_law_halved f fd) (c_law_take : Cal P w K mg base 1 "_law_take" ["_law_pot_here", "_law_upto"] (sp_law_take K)) : FnOk P w K mg base CX0 2 f fd ["_law_pot_here", "_law_parts"] (sp_law_halved K) := by
  refine F.ok sc_law_halved (fun vs H Q E h => ?_) (fun cdv A outer s H vs Q E hr h => ?_)
  · obtain ⟨p, c, b, rfl, _⟩ := h
    rfl
  · refine ⟨_, (pss_cons (ps_set (i := 2) sc_law_halved.nd rfl (.inl rfl) (pe_op op_add pe_int (pe_call c_law_take.G (hr.mono (by decide)) (by rfl) c_law_take.g c_law_take.kp c_law_take.b .nil pass0 (pa_cons (pv 0) (pa_cons pe_int pa_nil)))))
      (pss_one (ps_ret (pe_tup (pa_cons (pe_op op_mul (pe_op op_add (pe_op op_mul pe_int (pe_call c_law_take.G (hr.mono (by decide)) (by rfl) c_law_take.g c_law_take.kp c_law_take.b .nil pass0 (pa_cons (pv 0) (pa_cons (pv 1) pa_nil)))) pe_int) (pv 2)) (pa_cons (pe_op op_mul (pe_op op_mul pe_int (pv 1)) (pv 2)) pa_nil)))))), ?_⟩
    obtain ⟨p, c, b, rfl, hp, hc, b0, b1, q⟩ := h
    refine ⟨.ref p, rfl, p, c, 1000000, rfl, hp, by omega, by decide, by decide, fun H1 t hB hP t0 t1 => ?_⟩
    refine ⟨1, t, rfl, rfl, .ref p, rfl, .int b, rfl, p, c + 1, b, rfl, hP, by omega, by omega, by omega, fun H2 d hB2 hP2 d0 d1 => ?_⟩
    refine ⟨2, d, rfl, rfl, .inl ⟨by decide, by decide⟩, _, 1, rfl, rfl, .int (1 + t), rfl, _, 1 + t, rfl, rfl, .inr ⟨by omega, by omega⟩, .int b, rfl, 2, b, rfl, rfl, .inl ⟨by decide, by decide⟩, .int (1 + t), rfl, _, _, rfl, rfl, .inl ⟨by omega, by omega⟩, ?_⟩
    refine ⟨by show 2 ≤ sizeLine; decide, fun u nu => ?_⟩
    have nup : u ≠ p := hP2.ne nu
    have e1 : (2 * d + 1) * (1 + t) ≤ 2 * b * (1 + t) := Int.mul_le_mul_of_nonneg_right (by omega) (by omega)
    have e2 : 2 * b * (1 + t) ≤ 200 * 1000000 := Int.mul_le_mul (by omega) (by omega) (by omega) (by decide)
    have e3 : 0 < 2 * b * (1 + t) := Int.mul_pos (by omega) (by omega)
    have e4 : 0 ≤ (2 * d + 1) * (1 + t) := Int.mul_nonneg (by omega) (by omega)
    exact q _ u _ _ ((hB.trans hB2).new nu) (hP2.new nu) (fresh_but (hB.trans hB2) nup nu) (SqT.of upd_same) e4 e1 e3 (by omega)

theorem ok_law_beside {f : Addr} {fd : FuncData} (F : Fun K "_law_beside" "_law_beside" s_law_beside f fd) (m_max : mg "max" = none) (m_min : mg "min" = none) (m_int : mg "int" = none) (c_law_take : Cal P w K mg base 1 "_law_take" ["_law_pot_here", "_law_upto"] (sp_law_take K)) (c_law_of : Cal P w K mg base 2 "_law_of" ["_law_pot_here", "_law_some"] (sp_law_of K)) : FnOk P w K mg base CX0 3 f fd ["_law_pot_here", "_law_parts"] (sp_law_beside K) := by
  refine F.ok sc_law_beside (fun vs H Q E h => ?_) (fun cdv A outer s H vs Q E hr h => ?_)
  · obtain ⟨p, c, b, rfl, _⟩ := h
    rfl
  · refine ⟨_, (pss_cons (ps_set (i := 2) sc_law_beside.nd rfl (.inl rfl) (pe_op op_add pe_int (pe_call c_law_take.G (hr.mono (by decide)) (by rfl) c_law_take.g c_law_take.kp c_law_take.b .nil pass0 (pa_cons (pv 0) (pa_cons pe_int pa_nil)))))
      (pss_cons (ps_set (i := 3) sc_law_beside.nd rfl (.inl rfl) (pe_op op_add (pe_op op_mul (pe_call c_law_take.G (hr.mono (by decide)) (by rfl) c_law_take.g c_law_take.kp c_law_take.b .nil pass0 (pa_cons (pv 0) (pa_cons (pe_op op_add (pv 1) pe_int) pa_nil))) (pv 2)) (pe_call c_law_of.G (hr.mono (by decide)) (by rfl) c_law_of.g c_law_of.kp c_law_of.b .nil pass0 (pa_cons (pv 0) (pa_cons (pe_lst (pa_cons pe_int (pa_cons pe_int (pa_cons pe_int (pa_cons (pe_un un_neg pe_int) pa_nil))))) pa_nil)))))
      (pss_one (ps_ret (pe_tup (pa_cons (pe_callB (call_max2 rfl) (by rfl) m_max (by decide +kernel) (pa_cons pe_int (pa_cons (pe_callB (call_min2 rfl) (by rfl) m_min (by decide +kernel) (pa_cons (pe_callTy call_int1 (by rfl) m_int (by decide +kernel) (pa_cons (pv 3) pa_nil)) (pa_cons (pe_op op_mul (pv 1) (pv 2)) pa_nil))) pa_nil))) (pa_cons (pe_op op_mul (pv 1) (pv 2)) pa_nil))))))), ?_⟩
    obtain ⟨p, c, b, rfl, hp, hc, b0, b1, q⟩ := h
    refine ⟨.ref p, rfl, p, c, 1000000, rfl, hp, by omega, by decide, by decide, fun H1 t hB hP t0 t1 => ?_⟩
    refine ⟨1, t, rfl, rfl, .ref p, rfl, .int b, rfl, b, 1, rfl, rfl, p, c + 1, b + 1, rfl, hP, by omega, by omega, by omega, fun H2 d hB2 hP2 d0 d1 => ?_⟩
    refine ⟨.int (1 + t), rfl, d, 1 + t, rfl, rfl, .inr ⟨by omega, by omega⟩, .ref p, rfl, 1, rfl, by show 4 ≤ sizeLine; decide, fun l nl => ?_⟩
    refine ⟨p, l, c + 2, [.int 0, .int 0, .int 1, .int (-1)], rfl, hP2.new nl, by omega, hP2.ne nl, SqL.of upd_same, by decide, by decide, fun H3 i v hB3 hP3 hv => ?_⟩
    have hz : ∃ z : Int, v = .int z := by
      have hi := (List.getElem?_eq_some_iff.mp hv).1
      have hi4 : i < 4 := hi
      obtain rfl | rfl | rfl | rfl : i = 0 ∨ i = 1 ∨ i = 2 ∨ i = 3 := by omega
      · exact ⟨0, (Option.some.inj hv).symm⟩
      · exact ⟨0, (Option.some.inj hv).symm⟩
      · exact ⟨1, (Option.some.inj hv).symm⟩
      · exact ⟨-1, (Option.some.inj hv).symm⟩
    obtain ⟨z, rfl⟩ := hz
    refine ⟨_, z, rfl, rfl, ?_⟩
    dsimp only
    generalize d * (1 + t) + z = y
    refine ⟨.int y, rfl, .inl ⟨y, rfl, .int b, rfl, .int (1 + t), rfl, b, 1 + t, rfl, rfl, .inl ⟨by omega, by omega⟩, y, b * (1 + t), rfl, 0, _, rfl, .int b, rfl, .int (1 + t), rfl, b, 1 + t, rfl, rfl, .inl ⟨by omega, by omega⟩, ?_⟩⟩
    refine ⟨by show 2 ≤ sizeLine; decide, fun u nu => ?_⟩
    have nup : u ≠ p := hP3.ne nu
    have e2 : b * (1 + t) ≤ 100 * 1000000 := Int.mul_le_mul (by omega) (by omega) (by omega) (by decide)
    have e3 : 0 < b * (1 + t) := Int.mul_pos (by omega) (by omega)
    have hB' := ((hB.trans hB2).new nl).trans hB3
    refine q _ u _ _ (hB'.new nu) (hP3.new nu) (fresh_but hB' nup nu) (SqT.of upd_same) ?_ ?_ e3 (by omega)
    · split <;> first | omega | (split <;> omega)
    · split <;> first | omega | (split <;> omega)

theorem ok_law_drawn_part {f : Addr} {fd : FuncData} (F : Fun K "_law_drawn_part" "_law_drawn_part" s_law_drawn_part f fd) (c_law_take : Cal P w K mg base 1 "_law_take" ["_law_pot_here", "_law_upto"] (sp_law_take K)) (c_law_halved : Cal P w K mg base 2 "_law_halved" ["_law_pot_here", "_law_parts"] (sp_law_halved K)) (c_law_beside : Cal P w K mg base 3 "_law_beside" ["_law_pot_here", "_law_parts"] (sp_law_beside K)) : FnOk P w K mg base CX0 4 f fd ["_law_pot_here", "_law_parts"] (sp_law_drawn_part K) := by
  refine F.ok sc_law_drawn_part (fun vs H Q E h => ?_) (fun cdv A outer s H vs Q E hr h => ?_)
  · obtain ⟨p, c, b, rfl, _⟩ := h
    rfl
  · refine ⟨_, (pss_cons (ps_set (i := 2) sc_law_drawn_part.nd rfl (.inl rfl) (pe_call c_law_take.G (hr.mono (by decide)) (by rfl) c_law_take.g c_law_take.kp c_law_take.b .nil pass0 (pa_cons (pv 0) (pa_cons pe_int pa_nil))))
      (pss_cons (ps_if (pt_cmpR op_gt (pv 2) pe_int (nomark _)) (pss_one (ps_ret (pe_ifExp (pt_cmpR op_eq (pv 2) pe_int (nomark _)) (pe_call c_law_halved.G (hr.mono (by decide)) (by rfl) c_law_halved.g c_law_halved.kp c_law_halved.b .nil pass0 (pa_cons (pv 0) (pa_cons (pv 1) pa_nil))) (pe_call c_law_beside.G (hr.mono (by decide)) (by rfl) c_law_beside.g c_law_beside.kp c_law_beside.b .nil pass0 (pa_cons (pv 0) (pa_cons (pv 1) pa_nil)))))) pss_nil)
      (pss_cons (ps_set (i := 3) sc_law_drawn_part.nd rfl (.inl rfl) (pe_op op_add pe_int (pe_call c_law_take.G (hr.mono (by decide)) (by rfl) c_law_take.g c_law_take.kp c_law_take.b .nil pass0 (pa_cons (pv 0) (pa_cons (pe_ix ix_list (pe_lst (pa_cons pe_int (pa_cons pe_int pa_nil))) (pv 2) (fun _ _ => rfl)) pa_nil)))))
      (pss_one (ps_ret (pe_tup (pa_cons (pe_call c_law_take.G (hr.mono (by decide)) (by rfl) c_law_take.g c_law_take.kp c_law_take.b .nil pass0 (pa_cons (pv 0) (pa_cons (pe_op op_add (pv 3) pe_int) pa_nil))) (pa_cons (pv 3) pa_nil)))))))), ?_⟩
    obtain ⟨p, c, b, rfl, hp, hc, b0, b1, q⟩ := h
    refine ⟨.ref p, rfl, p, c, 4, rfl, hp, by omega, by decide, by decide, fun H1 d hB hP d0 d1 => ?_⟩
    refine ⟨.int d, rfl, d, 1, rfl, rfl, _, rfl, ite2 (fun e => ?_) (fun e => ?_)⟩
    · refine ⟨.int d, rfl, rfl, _, rfl, ite2 (fun e2 => ?_) (fun e2 => ?_)⟩
      · refine ⟨.ref p, rfl, .int b, rfl, p, c + 1, b, rfl, hP, by omega, b0, b1, fun H2 t a w hB2 hP2 ht hT a0 a1 w0 w1 => ?_⟩
        exact q _ t a w (hB.trans hB2) (hP2.mono (by omega)) (fresh_but hB (hP.ne ht) ht) hT a0 a1 w0 w1
      · refine ⟨.ref p, rfl, .int b, rfl, p, c + 1, b, rfl, hP, by omega, b0, b1, fun H2 t a w hB2 hP2 ht hT a0 a1 w0 w1 => ?_⟩
        exact q _ t a w (hB.trans hB2) (hP2.mono (by omega)) (fresh_but hB (hP.ne ht) ht) hT a0 a1 w0 w1
    · have d2 : ¬ (1 < d) := fun z => e (decide_eq_true z)
      have hz : ∃ (k : Nat) (z : Int), d = (k : Int) ∧ [V.int 60, .int 999999999][k]? = some (.int z) ∧ 1 ≤ z ∧ z ≤ 999999999 := by
        obtain rfl | rfl : d = 0 ∨ d = 1 := by omega
        · exact ⟨0, 60, rfl, rfl, by decide, by decide⟩
        · exact ⟨1, 999999999, rfl, rfl, by decide, by decide⟩
      obtain ⟨k, z, ek, ez, z0, z1⟩ := hz
      refine ⟨.ref p, rfl, by show 2 ≤ sizeLine; decide, fun l nl => ?_⟩
      refine ⟨.int d, rfl, l, _, d, .int z, rfl, rfl, SqL.of upd_same, at_of ek ez, p, c + 1, z, rfl, hP.new nl, by omega, z0, by omega, fun H2 m hB2 hP2 m0 m1 => ?_⟩
      refine ⟨1, m, rfl, rfl, .ref p, rfl, .int (1 + m), rfl, 1 + m, 1, rfl, rfl, p, c + 2, _, rfl, hP2, by omega, by omega, by omega, fun H3 a hB3 hP3 a0 a1 => ?_⟩
      refine ⟨.int (1 + m), rfl, by show 2 ≤ sizeLine; decide, fun u nu => ?_⟩
      have nup : u ≠ p := hP3.ne nu
      have hB' := ((hB.new nl).trans hB2).trans hB3
      exact q _ u a (1 + m) (hB'.new nu) ((hP3.new nu).mono (by omega)) (fresh_but hB' nup nu) (SqT.of upd_same) a0 (by omega) (by omega) (by omega)

theorem ok_law_right {f : Addr} {fd : FuncData} (F : Fun K "_law_right" "_law_right" s_law_right f fd) (m_range : mg "range" = none) (m_repr : mg "repr" = none) (m_all : mg "all" = none) (c_law_units : Cal P w K mg base 3 "_law_units" ["_law_pot_here", "_law_most"] (sp_law_units K)) (c_law_drawn_part : Cal P w K mg base 4 "_law_drawn_part" ["_law_pot_here", "_law_parts"] (sp_law_drawn_part K)) (c_law_rounded : Cal P w K mg base 1 "_law_rounded" ["_law_how", "_law_above", "_law_under"] (sp_law_rounded K)) (c_shown : Cal P w K mg base 3 "shown" ["units", "many", "whole"] (sp_shown K)) : FnOk P w K mg base CX0 5 f fd ["_law_pot_here"] (sp_law_right K) := by
  refine F.ok sc_law_right (fun vs H Q E h => ?_) (fun cdv A outer s H vs Q E hr h => ?_)
  · obtain ⟨p, rfl, _⟩ := h
    rfl
  · refine ⟨_, (pss_cons (ps_set (i := 1) sc_law_right.nd rfl (.inl rfl) (pe_lst pa_nil))
      (pss_cons (ps_for PassesOwn.never rfl (pi_range1 (by rfl) m_range (pa_cons pe_int pa_nil)) (pg_name (i := 2) sc_law_right.nd rfl (.inl rfl))
        (pss_cons (ps_set (i := 3) sc_law_right.nd rfl (.inl rfl) (pe_call c_law_units.G (hr.mono (by decide)) (by rfl) c_law_units.g c_law_units.kp c_law_units.b .nil pass0 (pa_cons (pv 0) (pa_cons pe_int pa_nil))))
        (pss_cons (ps_asg (pe_call c_law_drawn_part.G (hr.mono (by decide)) (by rfl) c_law_drawn_part.g c_law_drawn_part.kp c_law_drawn_part.b .nil pass0 (pa_cons (pv 0) (pa_cons (pe_ix ix_tup (pv 3) pe_int (fun _ _ => rfl)) pa_nil))) (pg_tup rfl (pgs_cons (pg_name (i := 4) sc_law_right.nd rfl (.inl rfl)) (pgs_cons (pg_name (i := 5) sc_law_right.nd rfl (.inl rfl)) pgs_nil))))
        (pss_cons (ps_set (i := 6) sc_law_right.nd rfl (.inl rfl) (pe_callB SkE.call_repr_int (by rfl) m_repr (by decide +kernel) (pa_cons (pe_call c_law_rounded.G (hr.mono (by decide)) (by rfl) c_law_rounded.g c_law_rounded.kp c_law_rounded.b .nil pass0 (pa_cons (pe_ix ix_tup (pv 3) pe_int (fun _ _ => rfl)) (pa_cons (pe_op op_mul (pe_ix ix_tup (pv 3) pe_int (fun _ _ => rfl)) (pv 4)) (pa_cons (pv 5) pa_nil)))) pa_nil)))
        (pss_cons (ps_if (pt_cmpR op_ne (pe_callB SkE.call_repr_int (by rfl) m_repr (by decide +kernel) (pa_cons (pe_call c_shown.G (hr.mono (by decide)) (by rfl) c_shown.g c_shown.kp c_shown.b .nil pass0 (pa_cons (pv 3) (pa_cons (pv 4) (pa_cons (pv 5) pa_nil)))) pa_nil)) (pv 6) (nomark _)) (pss_one (ps_ret pe_bl)) pss_nil)
        (pss_one (ps_expr (pe_bm PySem.F.plainAttrs_list PySem.F.slot_list_append PySem.F.type_list_append mt_append (pv 1) (pa_cons (pe_tup (pa_cons (pv 3) (pa_cons (pv 4) (pa_cons (pv 5) (pa_cons (pv 6) pa_nil))))) pa_nil)))))))))
      (pss_one (ps_ret (pe_callB (cr_all rfl) (by rfl) m_all (by decide +kernel) (pa_cons (pe_lc (own := [("_law_units_here", 3), ("_law_many", 4), ("_law_whole", 5), ("_law_due", 6)]) (g := gTup K 4 (gCons (gName 3) (gCons (gName 4) (gCons (gName 5) (gCons (gName 6) gNil))))) rfl sc_law_right.nd (pi_list (pv 1)) (blkOk_by (own := [("_law_units_here", 3), ("_law_many", 4), ("_law_whole", 5), ("_law_due", 6)]) (N := N_law_right) (sc := defScope s_law_right) (by decide +kernel)) (fun _ _ _ _ _ => (pg_tup rfl (pgs_cons (pg_name (i := 3) sc_law_right.nd rfl (.inl rfl)) (pgs_cons (pg_name (i := 4) sc_law_right.nd rfl (.inl rfl)) (pgs_cons (pg_name (i := 5) sc_law_right.nd rfl (.inl rfl)) (pgs_cons (pg_name (i := 6) sc_law_right.nd rfl (.inl rfl)) pgs_nil)))))) (fun _ _ _ _ _ => pts_nil) (fun _ _ _ _ _ => (pe_cmpR op_eq (pe_callB SkE.call_repr_int (by rfl) m_repr (by decide +kernel) (pa_cons (pe_call c_shown.G (hr.mono (by decide)) (by rfl) c_shown.g c_shown.kp c_shown.b .nil pass0 (pa_cons (pv 3) (pa_cons (pv 4) (pa_cons (pv 5) pa_nil)))) pa_nil)) (pv 6) (nomark _)))) pa_nil)))))), ?_⟩
    obtain ⟨p, rfl, hp, q⟩ := h
    refine ⟨Nat.zero_le _, fun L nL => ?_⟩
    have nLp : L ≠ p := hp.ne nL
    refine ⟨20, rfl, by decide, by decide, for_range (lo := 0) (n := 20) (fun i σ H1 => ∃ x2 x3 x4 x5 x6 xs, σ = [some (.ref p), some (.ref L), x2, x3, x4, x5, x6] ∧ But p H H1 ∧ Pot H1 p (6 * i) ∧ H1 L = some (.lst xs) ∧ xs.length = i ∧ ∀ x ∈ xs, Asked K H1 p L x) ?_ ?_ ?_⟩
    · exact ⟨none, none, none, none, none, [], rfl, (But.refl _ _).new nL, hp.new nL, upd_same, rfl, fun x hx => nomatch hx⟩
    · intro i σ H1 hi hI
      obtain ⟨x2, x3, x4, x5, x6, xs, rfl, hB, hP, hL, hlen, hall⟩ := hI
      -- the units
      refine ⟨.ref p, rfl, p, 6 * i, 100, rfl, hP, by omega, by decide, by decide, fun H2 u b h _ hB2 hP2 hu1 hup hU hb100 => ?_⟩
      have hL2 := hB2 L _ nLp hL
      have huL : u ≠ L := fun z => by
        rw [z, hL] at hu1
        cases hu1
      -- so many of so many
      refine ⟨.ref p, rfl, .ref u, rfl, u, _, 0, .int b, rfl, rfl, hU.1, atI_nat (j := 0) rfl, p, 6 * i + 2, b, rfl, hP2, by omega, hU.2.1, hU.2.2.1, fun H3 t a w hB3 hP3 ht hT a0 a1 w0 w1 => ?_⟩
      have hL3 := hB3 L _ nLp hL2
      have hU3 := hU.but hB3 hup
      refine ⟨t, _, rfl, hT, rfl, _, _, rfl, _, _, rfl, rfl, ?_⟩
      have hb := hU.2
      -- what is due
      refine ⟨.ref u, rfl, u, _, 1, .str h, rfl, rfl, hU3.1, atI_nat (j := 1) rfl, .ref u, rfl, u, _, 0, .int b, rfl, rfl, hU3.1, atI_nat (j := 0) rfl, .int a, rfl, b, a, rfl, rfl, .inl ⟨by omega, by omega⟩, .int w, rfl, h, b * a, w, rfl, hU.2.2.2, w0, by omega, ?_⟩
      refine ⟨_, rfl, rnd_log hb.1 hb.2.1 w0 a0 a1, ?_⟩
      -- what is told
      refine ⟨.ref u, rfl, .int a, rfl, .int w, rfl, u, b, h, a, w, rfl, hU3, w0, by omega, a0, a1, fun H4 sm4 => ?_⟩
      refine ⟨_, rfl, rnd_log hb.1 hb.2.1 w0 a0 a1, _, rfl, rfl, _, rfl, iteNS rfl ?_⟩
      -- kept
      have hL4 := sm4 _ _ hL3
      refine ⟨.ref L, rfl, .inl ⟨rfl, _, SqL.of hL4⟩, .ref u, rfl, .int a, rfl, .int w, rfl, _, rfl, by show 4 ≤ sizeLine; decide, fun y ny => ?_⟩
      have nyL : y ≠ L := fun z => by
        rw [z, hL4] at ny
        cases ny
      have hP4 := (hP3.same sm4)
      have nyp : y ≠ p := hP4.ne ny
      refine ⟨L, xs, .ref y, rfl, rfl, by rw [upd_ne nyL.symm]; exact hL4, small1000 (by omega), ?_⟩
      have c1 : But2 p L H1 H4 := ((But2.of hB2).trans (But2.of hB3)).trans (But2.of (But.of sm4))
      have c2 : ∀ o1 o2, But2 p L H1 (upd (upd H4 y o1) L o2) := fun o1 o2 => (c1.trans (But2.of (But.of (sameU ny)))).put
      refine ⟨_, _, _, _, _, xs ++ [.ref y], rfl, ?_, ((hP4.new ny).upd nLp.symm).mono (by omega), upd_same, by rw [List.length_append]; show xs.length + 1 = i + 1; omega, fun x hx => ?_⟩
      · intro b' o nb e
        have nbL : b' ≠ L := ne_of_none e nL
        exact c2 _ _ b' o nb nbL (hB b' o nb e)
      · rcases List.mem_append.mp hx with hx | hx
        · exact (hall x hx).keep (c2 _ _)
        · have ex : x = .ref y := List.mem_singleton.mp hx
          refine ⟨y, u, b, h, a, w, ex, nyp, nyL, hup, huL, SqT.of (by rw [upd_ne nyL, upd_same]), ?_, a0, a1, w0, by omega⟩
          exact ((Un.same sm4 hU3).same (sameU ny)).but (p := L) ((But.refl _ _).put) huL
    · intro σ H1 hI
      obtain ⟨x2, x3, x4, x5, x6, xs, rfl, hB, hP, hL, hlen, hall⟩ := hI
      refine ⟨.ref L, rfl, L, rfl, ⟨_, SqL.of hL⟩, fun D nD => ?_⟩
      have nDL : D ≠ L := fun z => by
        rw [z, hL] at nD
        cases nD
      refine lc_list (K := K) (a := L) (xs := xs) (fun i H' => Same H1 H' ∧ H' D = some (.lst (List.replicate i (.bl true)))) ⟨sameU nD, upd_same⟩ (fun i H' _ hP => sqL_same hP.1 (SqL.of hL)) ?_ ?_
      · intro i x H2 hx hI2
        have hi : i < 20 := by
          have e := (List.getElem?_eq_some_iff.mp hx).1
          omega
        obtain ⟨t, u, b, h, a, w, rfl, n1, n2, n3, n4, hT, hU, a0, a1, w0, w1⟩ := hall x (List.mem_of_getElem? hx)
        refine ⟨t, _, rfl, sqT_same hI2.1 hT, rfl, _, _, rfl, _, _, rfl, _, _, rfl, _, _, rfl, rfl, rfl, ?_⟩
        refine ⟨.ref u, rfl, .int a, rfl, .int w, rfl, u, b, h, a, w, rfl, hU.same hI2.1, w0, w1, a0, a1, fun H4 sm4 => ?_⟩
        refine ⟨_, rfl, rnd_log hU.2.1 hU.2.2.1 w0 a0 a1, _, rfl, rfl, ?_⟩
        rw [decide_eq_true rfl]
        refine ⟨List.replicate i (.bl true), sm4 _ _ hI2.2, ?_, ?_, ?_⟩
        · rw [List.length_replicate]
          exact small1000 (by omega)
        · intro b' o e
          have nb : b' ≠ D := ne_of_none e nD
          rw [upd_ne nb]
          exact sm4 _ _ (hI2.1 b' o e)
        · rw [upd_same, List.replicate_succ']
      · intro H2 hI2
        refine ⟨D, List.replicate xs.length true, rfl, SqL.of (by rw [hI2.2, List.map_replicate]), ?_⟩
        rw [all_rep]
        exact q _ (hB.trans (But.of hI2.1))

end
end Uq

namespace Uq
open PySem PySem.Spec PyProof.Rows L2
theorem all_mk {l : PySem.W.OpenLaw} {w : World} {K : PySem.W.Frag} {h : Heap} {mg : Str → Option Value} {fa : Addr} (X : K.In h) (G : h.Ns mainGlobals mg) (hfa : mg "law" = some (.ref fa))
    {f_is_integer : Addr} {od_is_integer an_is_integer : Option Addr} {sl_is_integer : Array (Option Value)} {oc_is_integer kV_is_integer dc_is_integer pm_is_integer cd_is_integer ct_is_integer : Value}
    (a_is_integer : PySem.W.nsIn K mainGlobals "is_integer" = some (some (.ref f_is_integer))) (l_is_integer : K.lookup f_is_integer = some ⟨oc_is_integer, od_is_integer, .func (PySem.W.fnOf "is_integer" "is_integer" (defArgs s_is_integer) (defBody s_is_integer) (defScope s_is_integer) .none kV_is_integer dc_is_integer pm_is_integer an_is_integer cd_is_integer ct_is_integer), sl_is_integer⟩) (k_is_integer : PySem.W.codeIn K cd_is_integer "is_integer" = true) (p_is_integer : PySem.W.keepIn K (.ref f_is_integer) = true)
    {f_rounded : Addr} {od_rounded an_rounded : Option Addr} {sl_rounded : Array (Option Value)} {oc_rounded kV_rounded dc_rounded pm_rounded cd_rounded ct_rounded : Value}
    (a_rounded : PySem.W.nsIn K mainGlobals "rounded" = some (some (.ref f_rounded))) (l_rounded : K.lookup f_rounded = some ⟨oc_rounded, od_rounded, .func (PySem.W.fnOf "rounded" "rounded" (defArgs s_rounded) (defBody s_rounded) (defScope s_rounded) .none kV_rounded dc_rounded pm_rounded an_rounded cd_rounded ct_rounded), sl_rounded⟩) (k_rounded : PySem.W.codeIn K cd_rounded "rounded" = true) (p_rounded : PySem.W.keepIn K (.ref f_rounded) = true)
    {f_law_pot : Addr} {od_law_pot an_law_pot : Option Addr} {sl_law_pot : Array (Option Value)} {oc_law_pot kV_law_pot dc_law_pot pm_law_pot cd_law_pot ct_law_pot : Value}
    (a_law_pot : PySem.W.nsIn K mainGlobals "_law_pot" = some (some (.ref f_law_pot))) (l_law_pot : K.lookup f_law_pot = some ⟨oc_law_pot, od_law_pot, .func (PySem.W.fnOf "_law_pot" "_law_pot" (defArgs s_law_pot) (defBody s_law_pot) (defScope s_law_pot) .none kV_law_pot dc_law_pot pm_law_pot an_law_pot cd_law_pot ct_law_pot), sl_law_pot⟩) (k_law_pot : PySem.W.codeIn K cd_law_pot "_law_pot" = true) (p_law_pot : PySem.W.keepIn K (.ref f_law_pot) = true)
    {f_law_take : Addr} {od_law_take an_law_take : Option Addr} {sl_law_take : Array (Option Value)} {oc_law_take kV_law_take dc_law_take pm_law_take cd_law_take ct_law_take : Value}
    (a_law_take : PySem.W.nsIn K mainGlobals "_law_take" = some (some (.ref f_law_take))) (l_law_take : K.lookup f_law_take = some ⟨oc_law_take, od_law_take, .func (PySem.W.fnOf "_law_take" "_law_take" (defArgs s_law_take) (defBody s_law_take) (defScope s_law_take) .none kV_law_take dc_law_take pm_law_take an_law_take cd_law_take ct_law_take), sl_law_take⟩) (k_law_take : PySem.W.codeIn K cd_law_take "_law_take" = true) (p_law_take : PySem.W.keepIn K (.ref f_law_take) = true)
    {f_law_cells : Addr} {od_law_cells an_law_cells : Option Addr} {sl_law_cells : Array (Option Value)} {oc_law_cells kV_law_cells dc_law_cells pm_law_cells cd_law_cells ct_law_cells : Value}
    (a_law_cells : PySem.W.nsIn K mainGlobals "_law_cells" = some (some (.ref f_law_cells))) (l_law_cells : K.lookup f_law_cells = some ⟨oc_law_cells, od_law_cells, .func (PySem.W.fnOf "_law_cells" "_law_cells" (defArgs s_law_cells) (defBody s_law_cells) (defScope s_law_cells) .none kV_law_cells dc_law_cells pm_law_cells an_law_cells cd_law_cells ct_law_cells), sl_law_cells⟩) (k_law_cells : PySem.W.codeIn K cd_law_cells "_law_cells" = true) (p_law_cells : PySem.W.keepIn K (.ref f_law_cells) = true)
    {f_law_rounded : Addr} {od_law_rounded an_law_rounded : Option Addr} {sl_law_rounded : Array (Option Value)} {oc_law_rounded kV_law_rounded dc_law_rounded pm_law_rounded cd_law_rounded ct_law_rounded : Value}
    (a_law_rounded : PySem.W.nsIn K mainGlobals "_law_rounded" = some (some (.ref f_law_rounded))) (l_law_rounded : K.lookup f_law_rounded = some ⟨oc_law_rounded, od_law_rounded, .func (PySem.W.fnOf "_law_rounded" "_law_rounded" (defArgs s_law_rounded) (defBody s_law_rounded) (defScope s_law_rounded) .none kV_law_rounded dc_law_rounded pm_law_rounded an_law_rounded cd_law_rounded ct_law_rounded), sl_law_rounded⟩) (k_law_rounded : PySem.W.codeIn K cd_law_rounded "_law_rounded" = true) (p_law_rounded : PySem.W.keepIn K (.ref f_law_rounded) = true)
    {f_is_units : Addr} {od_is_units an_is_units : Option Addr} {sl_is_units : Array (Option Value)} {oc_is_units kV_is_units dc_is_units pm_is_units cd_is_units ct_is_units : Value}
    (a_is_units : PySem.W.nsIn K mainGlobals "is_units" = some (some (.ref f_is_units))) (l_is_units : K.lookup f_is_units = some ⟨oc_is_units, od_is_units, .func (PySem.W.fnOf "is_units" "is_units" (defArgs s_is_units) (defBody s_is_units) (defScope s_is_units) .none kV_is_units dc_is_units pm_is_units an_is_units cd_is_units ct_is_units), sl_is_units⟩) (k_is_units : PySem.W.codeIn K cd_is_units "is_units" = true) (p_is_units : PySem.W.keepIn K (.ref f_is_units) = true)
    {f_law_of : Addr} {od_law_of an_law_of : Option Addr} {sl_law_of : Array (Option Value)} {oc_law_of kV_law_of dc_law_of pm_law_of cd_law_of ct_law_of : Value}
    (a_law_of : PySem.W.nsIn K mainGlobals "_law_of" = some (some (.ref f_law_of))) (l_law_of : K.lookup f_law_of = some ⟨oc_law_of, od_law_of, .func (PySem.W.fnOf "_law_of" "_law_of" (defArgs s_law_of) (defBody s_law_of) (defScope s_law_of) .none kV_law_of dc_law_of pm_law_of an_law_of cd_law_of ct_law_of), sl_law_of⟩) (k_law_of : PySem.W.codeIn K cd_law_of "_law_of" = true) (p_law_of : PySem.W.keepIn K (.ref f_law_of) = true)
    {f_law_halved : Addr} {od_law_halved an_law_halved : Option Addr} {sl_law_halved : Array (Option Value)} {oc_law_halved kV_law_halved dc_law_halved pm_law_halved cd_law_halved ct_law_halved : Value}
    (a_law_halved : PySem.W.nsIn K mainGlobals "_law_halved" = some (some (.ref f_law_halved))) (l_law_halved : K.lookup f_law_halved = some ⟨oc_law_halved, od_law_halved, .func (PySem.W.fnOf "_law_halved" "_law_halved" (defArgs s_law_halved) (defBody s_law_halved) (defScope s_law_halved) .none kV_law_halved dc_law_halved pm_law_halved an_law_halved cd_law_halved ct_law_halved), sl_law_halved⟩) (k_law_halved : PySem.W.codeIn K cd_law_halved "_law_halved" = true) (p_law_halved : PySem.W.keepIn K (.ref f_law_halved) = true)
    {f_shown : Addr} {od_shown an_shown : Option Addr} {sl_shown : Array (Option Value)} {oc_shown kV_shown dc_shown pm_shown cd_shown ct_shown : Value}
    (a_shown : PySem.W.nsIn K mainGlobals "shown" = some (some (.ref f_shown))) (l_shown : K.lookup f_shown = some ⟨oc_shown, od_shown, .func (PySem.W.fnOf "shown" "shown" (defArgs s_shown) (defBody s_shown) (defScope s_shown) .none kV_shown dc_shown pm_shown an_shown cd_shown ct_shown), sl_shown⟩) (k_shown : PySem.W.codeIn K cd_shown "shown" = true) (p_shown : PySem.W.keepIn K (.ref f_shown) = true)
    {f_law_units : Addr} {od_law_units an_law_units : Option Addr} {sl_law_units : Array (Option Value)} {oc_law_units kV_law_units dc_law_units pm_law_units cd_law_units ct_law_units : Value}
    (a_law_units : PySem.W.nsIn K mainGlobals "_law_units" = some (some (.ref f_law_units))) (l_law_units : K.lookup f_law_units = some ⟨oc_law_units, od_law_units, .func (PySem.W.fnOf "_law_units" "_law_units" (defArgs s_law_units) (defBody s_law_units) (defScope s_law_units) .none kV_law_units dc_law_units pm_law_units an_law_units cd_law_units ct_law_units), sl_law_units⟩) (k_law_units : PySem.W.codeIn K cd_law_units "_law_units" = true) (p_law_units : PySem.W.keepIn K (.ref f_law_units) = true)
    {f_law_beside : Addr} {od_law_beside an_law_beside : Option Addr} {sl_law_beside : Array (Option Value)} {oc_law_beside kV_law_beside dc_law_beside pm_law_beside cd_law_beside ct_law_beside : Value}
    (a_law_beside : PySem.W.nsIn K mainGlobals "_law_beside" = some (some (.ref f_law_beside))) (l_law_beside : K.lookup f_law_beside = some ⟨oc_law_beside, od_law_beside, .func (PySem.W.fnOf "_law_beside" "_law_beside" (defArgs s_law_beside) (defBody s_law_beside) (defScope s_law_beside) .none kV_law_beside dc_law_beside pm_law_beside an_law_beside cd_law_beside ct_law_beside), sl_law_beside⟩) (k_law_beside : PySem.W.codeIn K cd_law_beside "_law_beside" = true) (p_law_beside : PySem.W.keepIn K (.ref f_law_beside) = true)
    {f_law_drawn_part : Addr} {od_law_drawn_part an_law_drawn_part : Option Addr} {sl_law_drawn_part : Array (Option Value)} {oc_law_drawn_part kV_law_drawn_part dc_law_drawn_part pm_law_drawn_part cd_law_drawn_part ct_law_drawn_part : Value}
    (a_law_drawn_part : PySem.W.nsIn K mainGlobals "_law_drawn_part" = some (some (.ref f_law_drawn_part))) (l_law_drawn_part : K.lookup f_law_drawn_part = some ⟨oc_law_drawn_part, od_law_drawn_part, .func (PySem.W.fnOf "_law_drawn_part" "_law_drawn_part" (defArgs s_law_drawn_part) (defBody s_law_drawn_part) (defScope s_law_drawn_part) .none kV_law_drawn_part dc_law_drawn_part pm_law_drawn_part an_law_drawn_part cd_law_drawn_part ct_law_drawn_part), sl_law_drawn_part⟩) (k_law_drawn_part : PySem.W.codeIn K cd_law_drawn_part "_law_drawn_part" = true) (p_law_drawn_part : PySem.W.keepIn K (.ref f_law_drawn_part) = true)
    {f_law_right : Addr} {od_law_right an_law_right : Option Addr} {sl_law_right : Array (Option Value)} {oc_law_right kV_law_right dc_law_right pm_law_right cd_law_right ct_law_right : Value}
    (a_law_right : PySem.W.nsIn K mainGlobals "_law_right" = some (some (.ref f_law_right))) (l_law_right : K.lookup f_law_right = some ⟨oc_law_right, od_law_right, .func (PySem.W.fnOf "_law_right" "_law_right" (defArgs s_law_right) (defBody s_law_right) (defScope s_law_right) .none kV_law_right dc_law_right pm_law_right an_law_right cd_law_right ct_law_right), sl_law_right⟩) (k_law_right : PySem.W.codeIn K cd_law_right "_law_right" = true) (p_law_right : PySem.W.keepIn K (.ref f_law_right) = true)
    {f_law : Addr} {od_law an_law : Option Addr} {sl_law : Array (Option Value)} {oc_law kV_law dc_law pm_law cd_law ct_law : Value}
    (a_law : PySem.W.nsIn K mainGlobals "law" = some (some (.ref f_law))) (l_law : K.lookup f_law = some ⟨oc_law, od_law, .func (PySem.W.fnOf "law" "law" (defArgs s_law) (defBody s_law) (defScope s_law) .none kV_law dc_law pm_law an_law cd_law ct_law), sl_law⟩) (k_law : PySem.W.codeIn K cd_law "law" = true) (p_law : PySem.W.keepIn K (.ref f_law) = true)
    (z_isinstance : PySem.W.nsIn K mainGlobals "isinstance" = some none)
    (z_int : PySem.W.nsIn K mainGlobals "int" = some none)
    (z_bool : PySem.W.nsIn K mainGlobals "bool" = some none)
    (z_divmod : PySem.W.nsIn K mainGlobals "divmod" = some none)
    (z_len : PySem.W.nsIn K mainGlobals "len" = some none)
    (z_abs : PySem.W.nsIn K mainGlobals "abs" = some none)
    (z_range : PySem.W.nsIn K mainGlobals "range" = some none)
    (z_max : PySem.W.nsIn K mainGlobals "max" = some none)
    (z_min : PySem.W.nsIn K mainGlobals "min" = some none)
    (z_list : PySem.W.nsIn K mainGlobals "list" = some none)
    (z_tuple : PySem.W.nsIn K mainGlobals "tuple" = some none)
    (z_str : PySem.W.nsIn K mainGlobals "str" = some none)
    (z_repr : PySem.W.nsIn K mainGlobals "repr" = some none)
    (z_all : PySem.W.nsIn K mainGlobals "all" = some none)
    {e_HOWS : Addr} {ed_HOWS : Option Addr} {ei_HOWS : Array Value} {en_HOWS : Nat} {es_HOWS : Array (Option Value)} (a_HOWS : PySem.W.nsIn K mainGlobals "HOWS" = some (some (.ref e_HOWS))) (l_HOWS : K.lookup e_HOWS = some ⟨.type "tuple", ed_HOWS, .seq ei_HOWS en_HOWS, es_HOWS⟩) (v_HOWS : ei_HOWS.size ≤ sizeLine ∧ Vals hows ei_HOWS.toList)
    : ∃ fd : FuncData, (∀ (s : Shared) (v : Value), BindsTo s fd ⟨[v], []⟩ [("_law_script", v)]) ∧ ∀ base : Heap, K.In base → base.Ns mainGlobals mg → FnOk l.prog w K mg base CX0 6 fa fd ["_law_script"] (sp_law K) := by
  have e := hfa.symm.trans (PySem.W.mg_of X G a_law)
  cases e
  refine ⟨PySem.W.fnOf "law" "law" (defArgs s_law) (defBody s_law) (defScope s_law) .none kV_law dc_law pm_law an_law cd_law ct_law, fun s v => .of_eq rfl, fun base _ _ => ?_⟩
  have m_isinstance : mg "isinstance" = none := PySem.W.mg_none_of X G z_isinstance
  have m_int : mg "int" = none := PySem.W.mg_none_of X G z_int
  have m_bool : mg "bool" = none := PySem.W.mg_none_of X G z_bool
  have m_divmod : mg "divmod" = none := PySem.W.mg_none_of X G z_divmod
  have m_len : mg "len" = none := PySem.W.mg_none_of X G z_len
  have m_abs : mg "abs" = none := PySem.W.mg_none_of X G z_abs
  have m_range : mg "range" = none := PySem.W.mg_none_of X G z_range
  have m_max : mg "max" = none := PySem.W.mg_none_of X G z_max
  have m_min : mg "min" = none := PySem.W.mg_none_of X G z_min
  have m_list : mg "list" = none := PySem.W.mg_none_of X G z_list
  have m_tuple : mg "tuple" = none := PySem.W.mg_none_of X G z_tuple
  have m_str : mg "str" = none := PySem.W.mg_none_of X G z_str
  have m_repr : mg "repr" = none := PySem.W.mg_none_of X G z_repr
  have m_all : mg "all" = none := PySem.W.mg_none_of X G z_all
  have g_HOWS : mg "HOWS" = some (.ref e_HOWS) := PySem.W.mg_of X G a_HOWS
  have t_HOWS : TupK K e_HOWS hows := ⟨_, _, _, l_HOWS, rfl, rfl, v_HOWS.1, v_HOWS.2⟩
  have F_is_integer := fun_mk (st := s_is_integer) l_is_integer k_is_integer p_is_integer
  let c_is_integer : Cal l.prog w K mg base 1 "is_integer" ["value"] (sp_is_integer K) := ⟨f_is_integer, _, ok_is_integer F_is_integer (m_isinstance := m_isinstance) (m_int := m_int) (m_bool := m_bool)  , p_is_integer, F_is_integer.binds (ps := ["value"]) (fun _ _ _ _ _ _ us hl => match us, hl with | [_], _ => rfl), PySem.W.mg_of X G a_is_integer⟩
  have F_rounded := fun_mk (st := s_rounded) l_rounded k_rounded p_rounded
  let c_rounded : Cal l.prog w K mg base 1 "rounded" ["how", "many", "whole"] (sp_rounded K) := ⟨f_rounded, _, ok_rounded F_rounded (m_divmod := m_divmod)  , p_rounded, F_rounded.binds (ps := ["how", "many", "whole"]) (fun _ _ _ _ _ _ us hl => match us, hl with | [_, _, _], _ => rfl), PySem.W.mg_of X G a_rounded⟩
  have F_law_pot := fun_mk (st := s_law_pot) l_law_pot k_law_pot p_law_pot
  let c_law_pot : Cal l.prog w K mg base 1 "_law_pot" ["_law_script", "_law_place"] (sp_law_pot K) := ⟨f_law_pot, _, ok_law_pot F_law_pot (m_len := m_len) (m_int := m_int) (m_abs := m_abs)  , p_law_pot, F_law_pot.binds (ps := ["_law_script", "_law_place"]) (fun _ _ _ _ _ _ us hl => match us, hl with | [_, _], _ => rfl), PySem.W.mg_of X G a_law_pot⟩
  have F_law_take := fun_mk (st := s_law_take) l_law_take k_law_take p_law_take
  let c_law_take : Cal l.prog w K mg base 1 "_law_take" ["_law_pot_here", "_law_upto"] (sp_law_take K) := ⟨f_law_take, _, ok_law_take F_law_take (m_int := m_int)  , p_law_take, F_law_take.binds (ps := ["_law_pot_here", "_law_upto"]) (fun _ _ _ _ _ _ us hl => match us, hl with | [_, _], _ => rfl), PySem.W.mg_of X G a_law_take⟩
  have F_law_cells := fun_mk (st := s_law_cells) l_law_cells k_law_cells p_law_cells
  let c_law_cells : Cal l.prog w K mg base 1 "_law_cells" ["_law_script", "_law_most"] (sp_law_cells K) := ⟨f_law_cells, _, ok_law_cells F_law_cells (m_range := m_range) (m_max := m_max) (m_min := m_min) (m_len := m_len) (m_list := m_list)  , p_law_cells, F_law_cells.binds (ps := ["_law_script", "_law_most"]) (fun _ _ _ _ _ _ us hl => match us, hl with | [_, _], _ => rfl), PySem.W.mg_of X G a_law_cells⟩
  have F_law_rounded := fun_mk (st := s_law_rounded) l_law_rounded k_law_rounded p_law_rounded
  let c_law_rounded : Cal l.prog w K mg base 1 "_law_rounded" ["_law_how", "_law_above", "_law_under"] (sp_law_rounded K) := ⟨f_law_rounded, _, ok_law_rounded F_law_rounded (m_int := m_int)  , p_law_rounded, F_law_rounded.binds (ps := ["_law_how", "_law_above", "_law_under"]) (fun _ _ _ _ _ _ us hl => match us, hl with | [_, _, _], _ => rfl), PySem.W.mg_of X G a_law_rounded⟩
  have F_is_units := fun_mk (st := s_is_units) l_is_units k_is_units p_is_units
  let c_is_units : Cal l.prog w K mg base 2 "is_units" ["value"] (sp_is_units K) := ⟨f_is_units, _, ok_is_units F_is_units (m_isinstance := m_isinstance) (m_tuple := m_tuple) (m_len := m_len) (m_str := m_str) (c_is_integer := c_is_integer) (g_HOWS := g_HOWS) (t_HOWS := t_HOWS), p_is_units, F_is_units.binds (ps := ["value"]) (fun _ _ _ _ _ _ us hl => match us, hl with | [_], _ => rfl), PySem.W.mg_of X G a_is_units⟩
  have F_law_of := fun_mk (st := s_law_of) l_law_of k_law_of p_law_of
  let c_law_of : Cal l.prog w K mg base 2 "_law_of" ["_law_pot_here", "_law_some"] (sp_law_of K) := ⟨f_law_of, _, ok_law_of F_law_of (m_len := m_len) (c_law_take := c_law_take) , p_law_of, F_law_of.binds (ps := ["_law_pot_here", "_law_some"]) (fun _ _ _ _ _ _ us hl => match us, hl with | [_, _], _ => rfl), PySem.W.mg_of X G a_law_of⟩
  have F_law_halved := fun_mk (st := s_law_halved) l_law_halved k_law_halved p_law_halved
  let c_law_halved : Cal l.prog w K mg base 2 "_law_halved" ["_law_pot_here", "_law_parts"] (sp_law_halved K) := ⟨f_law_halved, _, ok_law_halved F_law_halved  (c_law_take := c_law_take) , p_law_halved, F_law_halved.binds (ps := ["_law_pot_here", "_law_parts"]) (fun _ _ _ _ _ _ us hl => match us, hl with | [_, _], _ => rfl), PySem.W.mg_of X G a_law_halved⟩
  have F_shown := fun_mk (st := s_shown) l_shown k_shown p_shown
  let c_shown : Cal l.prog w K mg base 3 "shown" ["units", "many", "whole"] (sp_shown K) := ⟨f_shown, _, ok_shown F_shown  (c_is_units := c_is_units) (c_is_integer := c_is_integer) (c_rounded := c_rounded) , p_shown, F_shown.binds (ps := ["units", "many", "whole"]) (fun _ _ _ _ _ _ us hl => match us, hl with | [_, _, _], _ => rfl), PySem.W.mg_of X G a_shown⟩
  have F_law_units := fun_mk (st := s_law_units) l_law_units k_law_units p_law_units
  let c_law_units : Cal l.prog w K mg base 3 "_law_units" ["_law_pot_here", "_law_most"] (sp_law_units K) := ⟨f_law_units, _, ok_law_units F_law_units  (c_law_of := c_law_of) (c_law_take := c_law_take) , p_law_units, F_law_units.binds (ps := ["_law_pot_here", "_law_most"]) (fun _ _ _ _ _ _ us hl => match us, hl with | [_, _], _ => rfl), PySem.W.mg_of X G a_law_units⟩
  have F_law_beside := fun_mk (st := s_law_beside) l_law_beside k_law_beside p_law_beside
  let c_law_beside : Cal l.prog w K mg base 3 "_law_beside" ["_law_pot_here", "_law_parts"] (sp_law_beside K) := ⟨f_law_beside, _, ok_law_beside F_law_beside (m_max := m_max) (m_min := m_min) (m_int := m_int) (c_law_take := c_law_take) (c_law_of := c_law_of) , p_law_beside, F_law_beside.binds (ps := ["_law_pot_here", "_law_parts"]) (fun _ _ _ _ _ _ us hl => match us, hl with | [_, _], _ => rfl), PySem.W.mg_of X G a_law_beside⟩
  have F_law_drawn_part := fun_mk (st := s_law_drawn_part) l_law_drawn_part k_law_drawn_part p_law_drawn_part
  let c_law_drawn_part : Cal l.prog w K mg base 4 "_law_drawn_part" ["_law_pot_here", "_law_parts"] (sp_law_drawn_part K) := ⟨f_law_drawn_part, _, ok_law_drawn_part F_law_drawn_part  (c_law_take := c_law_take) (c_law_halved := c_law_halved) (c_law_beside := c_law_beside) , p_law_drawn_part, F_law_drawn_part.binds (ps := ["_law_pot_here", "_law_parts"]) (fun _ _ _ _ _ _ us hl => match us, hl with | [_, _], _ => rfl), PySem.W.mg_of X G a_law_drawn_part⟩
  have F_law_right := fun_mk (st := s_law_right) l_law_right k_law_right p_law_right
  let c_law_right : Cal l.prog w K mg base 5 "_law_right" ["_law_pot_here"] (sp_law_right K) := ⟨f_law_right, _, ok_law_right F_law_right (m_range := m_range) (m_repr := m_repr) (m_all := m_all) (c_law_units := c_law_units) (c_law_drawn_part := c_law_drawn_part) (c_law_rounded := c_law_rounded) (c_shown := c_shown) , p_law_right, F_law_right.binds (ps := ["_law_pot_here"]) (fun _ _ _ _ _ _ us hl => match us, hl with | [_], _ => rfl), PySem.W.mg_of X G a_law_right⟩
  have F_law := fun_mk (st := s_law) l_law k_law p_law
  exact ok_law F_law (m_all := m_all) (c_law_cells := c_law_cells) (c_law_right := c_law_right) (c_law_pot := c_law_pot) 
end Uq
open PySem PySem.W PyProof.Rows
set_option maxHeartbeats 0 in
theorem PySem.Challenge.cw_anyasked_k01_whole_shown_by_every_how_holds : PySem.Challenge.rw_anyasked_k01_whole_shown_by_every_how.Holds := by
  w_on; o_law; k_head; (case hw => w_witness2)
  k_fill
  refine L2.walk_of (l := PySem.Challenge.rw_anyasked_k01_whole_shown_by_every_how) (n := 63) (k := 6) (x := "_law_script") (CX := fun _ => L2.CX0) (sp := fun w => Uq.sp_law _) rfl (by decide) rfl ⟨rfl, by decide, by decide⟩ (fun w h Y => PySem.W.kIn_of Y) ?F (fun _ _ a ns hl _ hS => ⟨a, ns, rfl, hS, hl, fun _ => rfl⟩) (fun _ _ _ _ _ h => h)
  case F =>
    intro w mg fa h KX G hmg
    refine' Uq.all_mk KX G hmg (a_is_integer := ?q_a_is_integer) (l_is_integer := ?q_l_is_integer) (k_is_integer := ?q_k_is_integer) (p_is_integer := ?q_p_is_integer) (a_rounded := ?q_a_rounded) (l_rounded := ?q_l_rounded) (k_rounded := ?q_k_rounded) (p_rounded := ?q_p_rounded) (a_law_pot := ?q_a_law_pot) (l_law_pot := ?q_l_law_pot) (k_law_pot := ?q_k_law_pot) (p_law_pot := ?q_p_law_pot) (a_law_take := ?q_a_law_take) (l_law_take := ?q_l_law_take) (k_law_take := ?q_k_law_take) (p_law_take := ?q_p_law_take) (a_law_cells := ?q_a_law_cells) (l_law_cells := ?q_l_law_cells) (k_law_cells := ?q_k_law_cells) (p_law_cells := ?q_p_law_cells) (a_law_rounded := ?q_a_law_rounded) (l_law_rounded := ?q_l_law_rounded) (k_law_rounded := ?q_k_law_rounded) (p_law_rounded := ?q_p_law_rounded) (a_is_units := ?q_a_is_units) (l_is_units := ?q_l_is_units) (k_is_units := ?q_k_is_units) (p_is_units := ?q_p_is_units) (a_law_of := ?q_a_law_of) (l_law_of := ?q_l_law_of) (k_law_of := ?q_k_law_of) (p_law_of := ?q_p_law_of) (a_law_halved := ?q_a_law_halved) (l_law_halved := ?q_l_law_halved) (k_law_halved := ?q_k_law_halved) (p_law_halved := ?q_p_law_halved) (a_shown := ?q_a_shown) (l_shown := ?q_l_shown) (k_shown := ?q_k_shown) (p_shown := ?q_p_shown) (a_law_units := ?q_a_law_units) (l_law_units := ?q_l_law_units) (k_law_units := ?q_k_law_units) (p_law_units := ?q_p_law_units) (a_law_beside := ?q_a_law_beside) (l_law_beside := ?q_l_law_beside) (k_law_beside := ?q_k_law_beside) (p_law_beside := ?q_p_law_beside) (a_law_drawn_part := ?q_a_law_drawn_part) (l_law_drawn_part := ?q_l_law_drawn_part) (k_law_drawn_part := ?q_k_law_drawn_part) (p_law_drawn_part := ?q_p_law_drawn_part) (a_law_right := ?q_a_law_right) (l_law_right := ?q_l_law_right) (k_law_right := ?q_k_law_right) (p_law_right := ?q_p_law_right) (a_law := ?q_a_law) (l_law := ?q_l_law) (k_law := ?q_k_law) (p_law := ?q_p_law) (z_isinstance := ?q_z_isinstance) (z_int := ?q_z_int) (z_bool := ?q_z_bool) (z_divmod := ?q_z_divmod) (z_len := ?q_z_len) (z_abs := ?q_z_abs) (z_range := ?q_z_range) (z_max := ?q_z_max) (z_min := ?q_z_min) (z_list := ?q_z_list) (z_tuple := ?q_z_tuple) (z_str := ?q_z_str) (z_repr := ?q_z_repr) (z_all := ?q_z_all) (a_HOWS := ?q_a_HOWS) (l_HOWS := ?q_l_HOWS) (v_HOWS := ?q_v_HOWS)
    (case q_a_is_integer => k_is)
    (case q_l_is_integer => k_is)
    (case q_k_is_integer => k_is)
    (case q_p_is_integer => k_is)
    (case q_a_rounded => k_is)
    (case q_l_rounded => k_is)
    (case q_k_rounded => k_is)
    (case q_p_rounded => k_is)
    (case q_a_law_pot => k_is)
    (case q_l_law_pot => k_is)
    (case q_k_law_pot => k_is)
    (case q_p_law_pot => k_is)
    (case q_a_law_take => k_is)
    (case q_l_law_take => k_is)
    (case q_k_law_take => k_is)
    (case q_p_law_take => k_is)
    (case q_a_law_cells => k_is)
    (case q_l_law_cells => k_is)
    (case q_k_law_cells => k_is)
    (case q_p_law_cells => k_is)
    (case q_a_law_rounded => k_is)
    (case q_l_law_rounded => k_is)
    (case q_k_law_rounded => k_is)
    (case q_p_law_rounded => k_is)
    (case q_a_is_units => k_is)
    (case q_l_is_units => k_is)
    (case q_k_is_units => k_is)
    (case q_p_is_units => k_is)
    (case q_a_law_of => k_is)
    (case q_l_law_of => k_is)
    (case q_k_law_of => k_is)
    (case q_p_law_of => k_is)
    (case q_a_law_halved => k_is)
    (case q_l_law_halved => k_is)
    (case q_k_law_halved => k_is)
    (case q_p_law_halved => k_is)
    (case q_a_shown => k_is)
    (case q_l_shown => k_is)
    (case q_k_shown => k_is)
    (case q_p_shown => k_is)
    (case q_a_law_units => k_is)
    (case q_l_law_units => k_is)
    (case q_k_law_units => k_is)
    (case q_p_law_units => k_is)
    (case q_a_law_beside => k_is)
    (case q_l_law_beside => k_is)
    (case q_k_law_beside => k_is)
    (case q_p_law_beside => k_is)
    (case q_a_law_drawn_part => k_is)
    (case q_l_law_drawn_part => k_is)
    (case q_k_law_drawn_part => k_is)
    (case q_p_law_drawn_part => k_is)
    (case q_a_law_right => k_is)
    (case q_l_law_right => k_is)
    (case q_k_law_right => k_is)
    (case q_p_law_right => k_is)
    (case q_a_law => k_is)
    (case q_l_law => k_is)
    (case q_k_law => k_is)
    (case q_p_law => k_is)
    (case q_z_isinstance => k_is)
    (case q_z_int => k_is)
    (case q_z_bool => k_is)
    (case q_z_divmod => k_is)
    (case q_z_len => k_is)
    (case q_z_abs => k_is)
    (case q_z_range => k_is)
    (case q_z_max => k_is)
    (case q_z_min => k_is)
    (case q_z_list => k_is)
    (case q_z_tuple => k_is)
    (case q_z_str => k_is)
    (case q_z_repr => k_is)
    (case q_z_all => k_is)
    (case q_a_HOWS => k_is)
    (case q_l_HOWS => k_is)
    (case q_v_HOWS => exact ⟨by decide, .cons ⟨_, rfl⟩ (.cons ⟨_, rfl⟩ (.cons ⟨_, rfl⟩ (.cons ⟨_, rfl⟩ (.nil))))⟩)
