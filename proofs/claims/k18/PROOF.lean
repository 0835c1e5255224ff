import PyProof.Rows.All
import Wide.All
import OpenK.AllK
import Wide.FinOn
import HandS.Base
import HandS.Call
import HandS.List
import HandS.Comp
import HandS.Ends
import HandS.EndBits
import HandS.Dict
import HandS.Iter
import HandS.Text
import HandS.Words
import HandS.WordsList
import HandS.WordsDict
import HandS.Wide
import HandS.WideBits
import HandS.RaiseMore
import HandS.IsInst
import HandS.Conv
import HandS.Style
import HandS.Zip
import PyProof.ReprRoads
import HandS.Steps
import HandS.ExcInit
import HandS.ExcField
import KE.KExcIs
import PyProof.EnumMake
import PyProof.Draws
import KE.KDictList
import KE.KDictZip
import KE.GoesZip
import KE.GoesMore
import HandS.Deep
import HandS.StrMore
import HandS.FStr
import HandS.Property
import HandS.Walk
import KE.KTupSum
import HandS.TupAny
import HandS.OwnEq
import PyProof.CallFns
import HandS.More
import HandS.DictComp
import HandS.Exc
import HandS.WordsExc
import HandS.Lambda
import HandS.ExcIs
import KE.KFmtOwn
import PyProof.InstEq
import KE.KOpsOwn
import HandS.TupMul
import HandS.TupLe
import HandS.Gcd
import PySem.Challenge.RW_anyasked_k18_counts_and_what_a_table_tel
set_option Elab.async false
set_option linter.all false
set_option maxRecDepth 100000
set_option maxHeartbeats 2000000
namespace Uq
open PySem PySem.Spec PyProof.Rows L2
/-! ### what a caller knows of a def -/
structure Cal (P : Program) (w : World) (K : PySem.W.Frag) (mg : Str → Option Value) (base : Heap) (k : Nat) (x : Str) (ps : List Str) (sp : Sp) where
  a : Addr
  d : FuncData
  G : FnOk P w K mg base CX0 k a d ps sp
  kp : PySem.W.keepIn K (.ref a) = true
  b : Binds K d ps []
  g : mg x = some (.ref a)
/-! ### heaps -/
/-- all that was tracked, but at p, is as it was -/
def But (p : Addr) (H H' : Hp) : Prop := ∀ b o, b ≠ p → H b = some o → H' b = some o
theorem But.refl (p : Addr) (H : Hp) : But p H H := fun _ _ _ h => h
theorem But.trans {p : Addr} {H H1 H2 : Hp} (a : But p H H1) (b : But p H1 H2) : But p H H2 := fun c o n h => b c o n (a c o n h)
theorem But.of {p : Addr} {H H' : Hp} (a : Same H H') : But p H H' := fun c o _ h => a c o h
theorem But.new {p q : Addr} {H H1 : Hp} {o : HO} (a : But p H H1) (h : H1 q = none) : But p H (upd H1 q o) := fun c u n e => by
  have e1 := a c u n e
  rw [upd_ne (ne_of_none e1 h)]
  exact e1
theorem But.put {p : Addr} {H H1 : Hp} {o : HO} (a : But p H H1) : But p H (upd H1 p o) := fun c u n e => by
  rw [upd_ne n]
  exact a c u n e
theorem But.seqL {K : PySem.W.Frag} {p a : Addr} {H H' : Hp} {xs : List V} (e : But p H H') (n : a ≠ p) (h : SqL K H a xs) : SqL K H' a xs := by
  rcases h with (h | ⟨o, h⟩) | h
  · exact .inl (.inl (e _ _ n h))
  · exact .inl (.inr ⟨o, e _ _ n h⟩)
  · exact .inr h
theorem But.seqT {K : PySem.W.Frag} {p a : Addr} {H H' : Hp} {xs : List V} (e : But p H H') (n : a ≠ p) (h : SqT K H a xs) : SqT K H' a xs := by
  rcases h with (h | ⟨o, h⟩) | h
  · exact .inl (.inl (e _ _ n h))
  · exact .inl (.inr ⟨o, e _ _ n h⟩)
  · exact .inr h
theorem sameU {H : Hp} {p : Addr} {o : HO} (h : H p = none) : Same H (upd H p o) := fun b x e => by
  rw [upd_ne (ne_of_none e h)]
  exact e
theorem Same.tup {K : PySem.W.Frag} {a : Addr} {H H' : Hp} {xs : List V} (e : Same H H') (h : SqT K H a xs) : SqT K H' a xs := by
  rcases h with (h | ⟨o, h⟩) | h
  · exact .inl (.inl (e _ _ h))
  · exact .inl (.inr ⟨o, e _ _ h⟩)
  · exact .inr h
theorem Same.lst {K : PySem.W.Frag} {a : Addr} {H H' : Hp} {xs : List V} (e : Same H H') (h : SqL K H a xs) : SqL K H' a xs := Same.seq e h
/-! ### great powers -/
def CPowW (i j : Int) : Prop := 0 ≤ j ∧ (Builtin.Int.intBits i : Int) * j ≤ 2 ^ 27
theorem op_powW {X : Cx} : OpR X (binaryOp .Pow) (rI CPowW fun i j => .int (i ^ j.toNat)) := opI fun _ _ _ _ _ _ _ hc q => PyProof.Rows.pow_int hc.1 hc.2 q
theorem powW_ok {i : Int} {j n : Nat} (h : i.natAbs < 2 ^ n) (hn : n * j ≤ 134217728) : CPowW i (j : Int) := by
  have b := PyProof.Rows.intBits_le h
  have e : (2 : Int) ^ 27 = 134217728 := by decide
  refine ⟨Int.natCast_nonneg _, ?_⟩
  rw [e]
  have c : Builtin.Int.intBits i * j ≤ n * j := Nat.mul_le_mul_right j b
  have d : ((Builtin.Int.intBits i * j : Nat) : Int) ≤ ((n * j : Nat) : Int) := Int.ofNat_le.mpr c
  rw [Int.natCast_mul] at d
  omega
/-! ### the drawing of numbers: a list of three ints at p -/
/-- own digits, a seed, how often it was drawn (at most c times) -/
def Pot (H : Hp) (p : Addr) (c : Nat) : Prop := ∃ o s n : Int, H p = some (.lst [.int o, .int s, .int n]) ∧ 0 ≤ o ∧ o < 10 ^ 300 ∧ 0 ≤ s ∧ s < 2305843009213693951 ∧ 0 ≤ n ∧ n ≤ c
theorem Pot.mono {H : Hp} {p : Addr} {c d : Nat} (h : Pot H p c) (e : c ≤ d) : Pot H p d := by
  obtain ⟨o, s, n, h0, h1, h2, h3, h4, h5, h6⟩ := h
  exact ⟨o, s, n, h0, h1, h2, h3, h4, h5, by omega⟩
theorem Pot.same {H H' : Hp} {p : Addr} {c : Nat} (e : Same H H') (h : Pot H p c) : Pot H' p c := by
  obtain ⟨o, s, n, h0, h1⟩ := h
  exact ⟨o, s, n, e _ _ h0, h1⟩
theorem Pot.new {H : Hp} {p q : Addr} {c : Nat} {o : HO} (h : Pot H p c) (hq : H q = none) : Pot (upd H q o) p c := h.same (sameU hq)
theorem Pot.some {H : Hp} {p : Addr} {c : Nat} (h : Pot H p c) : H p ≠ none := by
  obtain ⟨o, s, n, h0, _⟩ := h
  rw [h0]
  exact fun z => nomatch z
theorem Pot.upd {H : Hp} {p q : Addr} {c : Nat} {o : HO} (h : Pot H p c) (n : p ≠ q) : Pot (upd H q o) p c := by
  obtain ⟨o', s, k, h0, h1⟩ := h
  exact ⟨o', s, k, by rw [upd_ne n]; exact h0, h1⟩
/-- a new place is not p -/
theorem Pot.ne {H : Hp} {p q : Addr} {c : Nat} (h : Pot H p c) (hq : H q = none) : q ≠ p := fun z => h.some (z ▸ hq)
/-- a draw below u -/
def sp_law_take (K : PySem.W.Frag) : Sp := fun vs H Q _ => ∃ (p : Addr) (c : Nat) (u : Int), vs = [.ref p, .int u] ∧ Pot H p c ∧ c < 100000 ∧ 1 ≤ u ∧ u < 2 ^ 62 ∧
  ∀ H' d, But p H H' → Pot H' p (c + 1) → 0 ≤ d → d < u → Q (.int d) H'
/-- one of a list -/
def sp_law_of (K : PySem.W.Frag) : Sp := fun vs H Q _ => ∃ (p l : Addr) (c : Nat) (xs : List V), vs = [.ref p, .ref l] ∧ Pot H p c ∧ c < 100000 ∧ l ≠ p ∧ SqL K H l xs ∧ 0 < xs.length ∧ xs.length ≤ 100000 ∧
  ∀ H' (i : Nat) v, But p H H' → Pot H' p (c + 1) → xs[i]? = some v → Q v H'
/-- the places of the cells -/
def sp_law_cells (K : PySem.W.Frag) : Sp := fun vs H Q _ => ∃ (a : Addr) (ns : List Int) (m : Int), vs = [.ref a, .int m] ∧ SqL K H a (ns.map V.int) ∧ ns.length ≤ 63 ∧ 1 ≤ m ∧ m ≤ 63 ∧
  ∀ H' l (k : Nat), H l = none → Same H H' → H' l = some (.lst (rgV 0 (k : Int))) → 1 ≤ k → k ≤ 63 → Q (.ref l) H'
def sp_law_pot (K : PySem.W.Frag) : Sp := fun vs H Q _ => ∃ (a : Addr) (ns : List Int) (m : Int), vs = [.ref a, .int m] ∧ SqL K H a (ns.map V.int) ∧ ns.length ≤ 63 ∧ 0 ≤ m ∧ m ≤ 63 ∧
  ∀ H' p, H p = none → Same H H' → Pot H' p 0 → Q (.ref p) H'
end Uq
namespace Uq
open PySem PySem.Spec PyProof.Rows L2
/-- the cell at a place, or what stands for it -/
theorem rd_cell {K : PySem.W.Frag} {σ : L2.St} {H : Hp} {Q : VK} {a : Addr} {ns : List Int} {m c1 c2 : Int} (hl : SqL K H a (ns.map V.int)) (hm : 0 ≤ m) (hc : -(2 ^ 64) < c1 ∧ c1 < 2 ^ 64) (h0 : σ[0]? = some (some (.ref a))) (h1 : σ[1]? = some (some (.int m))) (q : ∀ z : Int, Q (.int z) H) :
    tIf (tTest (tOp (rI0 fun i j => .bl (decide (i < j))) (tVar 1) (tCB (fun xs H Q => ∃ p ys, xs = [.ref p] ∧ (SqL K H p ys ∨ SqT K H p ys) ∧ Q (.int ys.length) H) (tCons (tVar 0) tNil)))) (tOp (rIxL K) (tVar 0) (tVar 1))
      (tOp (rI0 fun i j => .int (i + j)) (tOp (rI CMul fun i j => .int (i * j)) (tC (.int c1)) (tVar 1)) (tC (.int c2))) σ H Q := by
  refine ⟨.int m, h1, .ref a, h0, a, _, rfl, .inl hl, m, _, rfl, rfl, _, rfl, ite2 (fun e => ?_) (fun e => ?_)⟩
  · have e1 : m < (ns.map V.int).length := of_decide_eq_true e
    have e2 : m.toNat < ns.length := by
      rw [List.length_map] at e1
      omega
    exact ⟨.ref a, h0, .int m, h1, a, _, m, .int ns[m.toNat], rfl, rfl, hl, at_of (j := m.toNat) (by omega) (by rw [List.getElem?_map, List.getElem?_eq_getElem e2]; rfl), q _⟩
  · exact ⟨.int m, h1, _, m, rfl, rfl, .inl hc, _, _, rfl, rfl, q _⟩
theorem big_pos : (0 : Int) < ((10 : Int) ^ (60 : Int).toNat) ^ (5 : Int).toNat := by decide +kernel
theorem big_eq : ((10 : Int) ^ (60 : Int).toNat) ^ (5 : Int).toNat = 10 ^ 300 := by decide +kernel
theorem bigA : CPowW ((10 : Int) ^ (60 : Int).toNat) 5 := powW_ok (j := 5) (n := 300) (by decide +kernel) (by decide)
theorem bigB : CPowW 10 60 := powW_ok (j := 60) (n := 8) (by decide) (by decide)
theorem bigC : CPowW 10 18 := powW_ok (j := 18) (n := 8) (by decide) (by decide)
end Uq
namespace Uq
open PySem PySem.Spec PyProof.Rows L2
theorem b01 (b : Bool) : -(2 ^ 64) < (if b = true then (1 : Int) else 0) ∧ (if b = true then (1 : Int) else 0) < 2 ^ 64 := by cases b <;> decide
theorem own_ok (z : Int) (b : Bool) : 0 ≤ z % ((10 : Int) ^ (60 : Int).toNat) ^ (5 : Int).toNat * (if b = true then 1 else 0) ∧ z % ((10 : Int) ^ (60 : Int).toNat) ^ (5 : Int).toNat * (if b = true then 1 else 0) < 10 ^ 300 := by
  have a0 := Int.emod_nonneg z (Int.ne_of_gt big_pos)
  have a1 := Int.emod_lt_of_pos z big_pos
  rw [big_eq] at a0 a1 ⊢
  cases b with
  | true =>
    rw [if_pos rfl, Int.mul_one]
    exact ⟨a0, a1⟩
  | false =>
    rw [if_neg Bool.false_ne_true, Int.mul_zero]
    exact ⟨by decide, by decide +kernel⟩
theorem sqL_same {K : PySem.W.Frag} {a : Addr} {H H' : Hp} {xs : List V} (e : Same H H') (h : SqL K H a xs) : SqL K H' a xs := Same.seq e h
theorem sqT_same {K : PySem.W.Frag} {a : Addr} {H H' : Hp} {xs : List V} (e : Same H H') (h : SqT K H a xs) : SqT K H' a xs := Uq.Same.tup e h
end Uq
namespace Uq
open PySem PySem.Spec PyProof.Rows L2
theorem iteY {c A B : Prop} [Decidable c] (h : c) (x : A) : if c then A else B := by
  rw [if_pos h]
  exact x
theorem iteN {c A B : Prop} [Decidable c] (h : ¬ c) (x : B) : if c then A else B := by
  rw [if_neg h]
  exact x
/-- a test whose answer is known -/
theorem iteDY {c A B : Prop} [Decidable c] (h : c) (x : A) : if decide c = true then A else B := iteY (decide_eq_true h) x
theorem iteDN {c A B : Prop} [Decidable c] (h : ¬ c) (x : B) : if decide c = true then A else B := iteN (fun z => h (of_decide_eq_true z)) x
end Uq
namespace Uq
open PySem PySem.Spec PyProof.Rows L2
/-! ### defs that are called where no text of an object is under way -/
structure FnG (P : Program) (w : World) (K : PySem.W.Frag) (mg : Str → Option Value) (base : Heap) (k : Nat) (f : Addr) (fd : FuncData) (ps : List Str) (sp : Sp) : Prop where
  len : ∀ vs H Q E, sp vs H Q E → vs.length = ps.length
  run : ∀ (A : Around) (outer : List Env) (s : Shared) (H : Hp) (args : Args) (us : List Value) (vs : List V) (Q : VK) (E : XK),
    A.guards = some [] → Room k A → Env0 P w K mg base A outer s H → BindsTo s fd args (ps.zip us) → Vals vs us → sp vs H Q E →
    codeAny (model P w) A (.call (.ref f) args) (CR CX0 outer P w H s Q E) s
structure CalG (P : Program) (w : World) (K : PySem.W.Frag) (mg : Str → Option Value) (base : Heap) (k : Nat) (x : Str) (ps : List Str) (sp : Sp) where
  a : Addr
  d : FuncData
  G : FnG P w K mg base k a d ps sp
  kp : PySem.W.keepIn K (.ref a) = true
  b : Binds K d ps []
  g : mg x = some (.ref a)
section
variable {P : Program} {w : World} {K : PySem.W.Frag} {mg : Str → Option Value} {base : Heap}
theorem Fun_okG {x qual : Str} {st : Stmt} {f : Addr} {fd : FuncData} {N ps : List Str} {k : Nat} {sp : Sp} (F : Fun K x qual st f fd) (S : FnScope N ps (defScope st))
    (len : ∀ vs H Q E, sp vs H Q E → vs.length = ps.length)
    (hbody : ∀ (cdv : Value) (A : Around) (outer : List Env) (s : Shared) (H : Hp) (vs : List V) (Q : VK) (E : XK), A.guards = some [] →
      Room k (A.deeper (envOfC qual (defScope st) s.heap.objs.size f cdv)) → sp vs H Q E →
      ∃ t, PSs (cxOf CX0 P w K mg base N qual (defScope st) f cdv A outer s H E).nox (defBody st) t ∧ t { nx := fun _ H' => Q .non H', rt := Q } (start N vs) H) :
    FnG P w K mg base (k + 1) f fd ps sp := by
  obtain ⟨oc, od, kV, doc, pm, an, cdv, ct, osl, rfl, lk, hcd⟩ := F.ex
  constructor
  · exact len
  intro A outer s H args us vs Q E hg hr e0 hb r hsp
  have hkeep : ∀ b o, base.get? b = some o → s.heap.get? b = some o := fun b o e => (e0.bs b o e).1
  have KX : K.In s.heap := e0.mod.kin.keeps hkeep
  have hpar : ∀ y ∈ ps.zip us, (defScope st).names.lookup y.1 = some .local ∨ ((defScope st).names.lookup y.1 = some .cell ∧ ((cellsFrom (s.heap.objs.size + 1) (defScope st).names []).lookup y.1).isSome = true) := by
    intro y hy
    have hm : y.1 ∈ ps := (List.of_mem_zip (show (y.1, y.2) ∈ ps.zip us from hy)).1
    cases S.par y.1 hm with
    | inl q => exact Or.inl q
    | inr q => exact Or.inr ⟨q, PySem.W.cellsFrom_some _ _ _ (Or.inl q)⟩
  apply codeAny_call_function hr.depth (KX _ _ lk) rfl S.co S.gen rfl (PySem.W.codeRec_of KX hcd)
  apply hb
  apply wpAny_newFunctionEnv_cells S.kind hpar
  rintro env rfl s1 x
  refine ⟨(e0.mod.nolimit.keeps hkeep).keeps x.toInCall.keep, codeAny_func ?_⟩
  obtain ⟨t, ht, hq⟩ := hbody cdv A outer s H vs Q E hg (hr.deeper _) hsp
  have J0 := inv_start (CX := CX0) (E := E) S hr.hd e0 (len _ _ _ _ hsp) r x
  have run := ht.nox.run [] s1 (start N vs) H _ J0 hq
  refine wpAny_mono run (fun fl s' hs => ?_) (fun _ _ hs => hs)
  cases fl with
  | ret u =>
    obtain ⟨v, σ', H', J, rv, q⟩ := hs
    exact ⟨v, H', J.os, J.bare, J.base, J.hok, rv, q⟩
  | next =>
    obtain ⟨σ', H', J, q⟩ := hs
    exact ⟨.non, H', J.os, J.bare, J.base, J.hok, rfl, q⟩
  | brk => exact hs.elim (fun _ h => h.elim fun _ h => h.2.elim)
  | cont => exact hs.elim (fun _ h => h.elim fun _ h => h.2.elim)
end
section
variable {X : Cx} {k : Nat} {f : Addr} {fd : FuncData} {ps : List Str} {sp : Sp} {x : Str} {p pos : Pos} {e : Expr} {es : List Expr} {t : TA}
theorem pe_callG (F : FnG X.prog X.w X.K X.mg X.base k f fd ps sp) (hgd : X.A.guards = some []) (hr : Room k X.A) (hg : Gl X x) (hm : X.mg x = some (.ref f)) (hk : PySem.W.keepIn X.K (.ref f) = true) (hb : Binds X.K fd ps [])
    (ha : PA X (e :: es) t) (hdb : (x == ("__debug__" : Str)) = false := by decide) (he : starEach (e :: es) X.env = (false, eval e X.env) :: starEach es X.env := by rfl) (hpl : (backTo pos (starEach es X.env)).any (·.1) = false := by rfl) :
    PE X (.Call (.Name x p) (e :: es) [] pos) (tCall sp [] E0 t) := by
  constructor
  intro pins s σ H Q I h
  apply wpAny_Call_Name_kw
  refine ld_glob I hg hm ?_ hdb
  have args := thn (ha.run pos pins s σ H _ I h) (Q' := fun us s1 => X.K.In s1.heap ∧ wpAny (model X.prog X.w) X.A (call (.ref f) us) (EP X pins σ Q) X.xe s1) ?_
  · exact PySem.W.callWith_K (h₀ := X.base) I.ok.mod.kin hk args he hpl
  rintro us s1 ⟨vs, H1, I1, r, q⟩
  refine ⟨I1.kIn, ?_⟩
  have q0 : sp vs H1 Q E0 := by
    have z := q
    rw [List.append_nil] at z
    exact z
  have hl : (us ++ ([] : List Value)).length = ps.length := by
    rw [List.append_nil, ← r.length]
    exact F.len _ _ _ _ q0
  have bd := hb s1 us I1.kIn hl
  rw [List.append_nil] at bd
  have code := F.run X.A X.stack s1 H1 ⟨us, []⟩ us vs Q E0 hgd hr I1.env0 bd r q0
  refine wpAny_call (codeAny_mono code ?_)
  intro res s' hq
  cases res with
  | error e => exact False.elim hq
  | ok fl =>
    cases fl with
    | ret u => exact I1.after hq
    | next => exact False.elim hq
    | brk => exact False.elim hq
    | cont => exact False.elim hq
end
end Uq
namespace Uq
open PySem PySem.Spec PyProof.Rows L2
/-! ### the text of data -/
/-- repr(x), x data of any depth -/
def rRepr (K : PySem.W.Frag) : List V → Hp → VK → Prop := fun xs H Q => ∃ (x : V) (d : PyData), xs = [x] ∧ Dp K H x d ∧ d.showable = true ∧ d.hasDict = false ∧ d.depth ≤ 60 ∧ d.shown.length ≤ sizeLine ∧ Q (.str d.shown) H
theorem call_repr_data {X : Cx} (hg : X.A.guards = some []) (hu : X.A.units + 100 < cLine) : CallR X (.builtin "repr") (rRepr X.K) := by
  intro pins s σ H xs us Q I r h
  obtain ⟨x, d, rfl, dp, hs, hd, hdep, hz, q⟩ := h
  obtain ⟨u, rfl, ru⟩ := vals1 r
  obtain ⟨as, rd⟩ := Dp.reads I d x u dp ru
  cases d with
  | none =>
    cases dp
    cases ru
    exact PySem.P.repr_of_none ⟨.str _, H, I.tok _, ⟨_, rfl⟩, q⟩
  | bool b =>
    cases dp
    cases ru
    exact PySem.P.repr_of_bool ⟨.str _, H, I.tok _, ⟨_, rfl⟩, q⟩
  | int i =>
    cases dp
    obtain ⟨t, rfl⟩ := ru
    exact PySem.P.repr_of_int (of_decide_eq_true hs) ⟨.str _, H, I.tok _, ⟨_, rfl⟩, q⟩
  | str y =>
    cases dp
    obtain ⟨t, rfl⟩ := ru
    exact PySem.P.repr_of_str ⟨.str _, H, I.tok _, ⟨_, rfl⟩, q⟩ hz
  | list ds =>
    cases dp with
    | @lst a _ _ h1 h2 =>
      cases ru
      exact repr_of_reads' rd hs (PyData.noDict_hsm hd) hg (by omega) (fun _ _ e => e) (fun h' u tk hk => ⟨.str _, H, I.kept (h' := h') (t' := tk) hk, ⟨_, rfl⟩, q⟩) hz
  | tuple ds =>
    cases dp with
    | @tup a _ _ h1 h2 =>
      cases ru
      exact repr_of_reads' rd hs (PyData.noDict_hsm hd) hg (by omega) (fun _ _ e => e) (fun h' u tk hk => ⟨.str _, H, I.kept (h' := h') (t' := tk) hk, ⟨_, rfl⟩, q⟩) hz
  | dict kvs => cases dp
end Uq
namespace Uq
open PySem PySem.Spec PyProof.Rows L2
theorem ru {k : Nat} {A : Around} (hr : Room k A) : A.units + 100 < cLine := by
  have := hr.un
  omega
end Uq
namespace Uq
open PySem PySem.Spec PyProof.Rows L2
def keyD : Key → PyData
  | .inl i => .int i
  | .inr x => .str x
mutual
/-- data of any depth, dicts with int and text keys among it; its lists and dicts are tracked -/
inductive Dx (K : PySem.W.Frag) (H : Hp) : V → PyData → Prop
  | non : Dx K H .non .none
  | bl (b : Bool) : Dx K H (.bl b) (.bool b)
  | int (i : Int) : Dx K H (.int i) (.int i)
  | str (x : Str) : Dx K H (.str x) (.str x)
  | lst {a : Addr} {xs : List V} {ds : List PyData} : H a = some (.lst xs) → a ≠ sysModules → DxAll K H xs ds → Dx K H (.ref a) (.list ds)
  | tup {a : Addr} {xs : List V} {ds : List PyData} : SqT K H a xs → DxAll K H xs ds → Dx K H (.ref a) (.tuple ds)
  | dct {a : Addr} {kvs : List (Key × V)} {es : List (PyData × PyData)} : H a = some (.dK kvs) → es.map (·.1) = kvs.map (fun kv => keyD kv.1) → DxAll K H (kvs.map (·.2)) (es.map (·.2)) → Dx K H (.ref a) (.dict es)
inductive DxAll (K : PySem.W.Frag) (H : Hp) : List V → List PyData → Prop
  | nil : DxAll K H [] []
  | cons {v : V} {vs : List V} {d : PyData} {ds : List PyData} : Dx K H v d → DxAll K H vs ds → DxAll K H (v :: vs) (d :: ds)
end
theorem keys_reads {P : Program} {w : World} {h : Heap} : ∀ {es : List DictEntry} {vs : List (Key × Value)} {kvs : List (Key × V)}, Pairs (mixKind P w) es vs → KV kvs vs → ReadsAll h (es.map (·.key)) (kvs.map fun kv => keyD kv.1) [] := by
  intro es vs kvs hp
  induction hp generalizing kvs with
  | nil =>
    intro r
    cases r
    exact .nil
  | @cons e kv es vs hk hv hp ih =>
    intro r
    cases r with
    | @cons a b l1 l2 r1 r2 =>
      have q : Reads h e.key (keyD a.1) [] := by
        rw [r1.1]
        rcases keyIs_shape hk with ⟨i, t, e1, e2⟩ | ⟨x, t, e1, e2⟩
        · rw [e1, e2]
          exact .int i t
        · rw [e1, e2]
          exact .str x t
      exact ReadsAll.cons (as := []) (bs := []) q (ih r2)
theorem vals_pairs {P : Program} {w : World} : ∀ {es : List DictEntry} {vs : List (Key × Value)} {kvs : List (Key × V)}, Pairs (mixKind P w) es vs → KV kvs vs → Vals (kvs.map (·.2)) (es.map (·.val)) := by
  intro es vs kvs hp
  induction hp generalizing kvs with
  | nil =>
    intro r
    cases r
    exact .nil
  | @cons e kv es vs hk hv hp ih =>
    intro r
    cases r with
    | @cons a b l1 l2 r1 r2 =>
      have q : RelV a.2 e.val := by
        rw [hv]
        exact r1.2
      exact .cons q (ih r2)
section
variable {X : Cx} {pins : List (Addr × Obj)} {σ : L2.St} {H : Hp} {s : Shared}
mutual
theorem Dx.reads (I : Inv X pins σ H s) : ∀ {d : PyData} {v : V} (h : Dx X.K H v d) {u : Value}, RelV v u → ∃ as, Reads s.heap u d as ∧ sysModules ∉ as
  | _, _, .non, _, r => by
    cases r
    exact ⟨[], Reads.none, fun z => nomatch z⟩
  | _, _, .bl b, _, r => by
    cases r
    exact ⟨[], Reads.bool b, fun z => nomatch z⟩
  | _, _, .int i, _, r => by
    obtain ⟨t, rfl⟩ := r
    exact ⟨[], Reads.int i t, fun z => nomatch z⟩
  | _, _, .str x, _, r => by
    obtain ⟨t, rfl⟩ := r
    exact ⟨[], Reads.str x t, fun z => nomatch z⟩
  | _, _, .lst e ns ha, _, r => by
    cases r
    obtain ⟨its, rv, ⟨o, n, ho, hc, _, hd⟩, _⟩ := I.list (SqL.of e)
    obtain ⟨as, hr, hn⟩ := DxAll.reads I ha rv
    exact ⟨_, Reads.list ho hc hd hr, fun z => (List.mem_cons.mp z).elim (fun y => ns y.symm) hn⟩
  | _, _, .tup e ha, _, r => by
    cases r
    obtain ⟨its, rv, ⟨o, ho, hc, n, hd⟩, _⟩ := I.tuple e
    obtain ⟨as, hr, hn⟩ := DxAll.reads I ha rv
    exact ⟨_, Reads.tuple ho hc hd hr, hn⟩
  | _, _, .dct e he ha, _, r => by
    cases r
    obtain ⟨_, hsys, vs, kv, o, es, ep, ho, hx, hd, _, hp, _⟩ := (show ObjOk X.prog X.w H s.heap _ (.dK _) from I.hok _ _ e)
    obtain ⟨bs, hr, hn⟩ := DxAll.reads I ha (vals_pairs hp kv)
    have k := keys_reads (h := s.heap) hp kv
    rw [← he] at k
    refine ⟨_, Reads.dict ho hx.1 hd k hr, fun z => ?_⟩
    rcases List.mem_cons.mp z with y | y
    · rw [← y] at hsys
      simp at hsys
    · exact hn y
theorem DxAll.reads (I : Inv X pins σ H s) : ∀ {ds : List PyData} {vs : List V} (h : DxAll X.K H vs ds) {us : List Value}, Vals vs us → ∃ as, ReadsAll s.heap us ds as ∧ sysModules ∉ as
  | _, _, .nil, _, r => by
    cases r
    exact ⟨_, ReadsAll.nil, fun z => nomatch z⟩
  | _, _, .cons h1 h2, _, r => by
    cases r with
    | cons r1 r2 =>
      obtain ⟨as, q1, n1⟩ := Dx.reads I h1 r1
      obtain ⟨bs, q2, n2⟩ := DxAll.reads I h2 r2
      exact ⟨_, ReadsAll.cons q1 q2, fun z => (List.mem_append.mp z).elim n1 n2⟩
end
end
/-! what is tracked stays -/
mutual
theorem Dx.same {K : PySem.W.Frag} {H H' : Hp} (e : Same H H') : ∀ {d : PyData} {v : V}, Dx K H v d → Dx K H' v d
  | _, _, .non => .non
  | _, _, .bl b => .bl b
  | _, _, .int i => .int i
  | _, _, .str x => .str x
  | _, _, .lst h ns ha => .lst (e _ _ h) ns (DxAll.same e ha)
  | _, _, .tup h ha => .tup (sqT_same e h) (DxAll.same e ha)
  | _, _, .dct h he ha => .dct (e _ _ h) he (DxAll.same e ha)
theorem DxAll.same {K : PySem.W.Frag} {H H' : Hp} (e : Same H H') : ∀ {ds : List PyData} {vs : List V}, DxAll K H vs ds → DxAll K H' vs ds
  | _, _, .nil => .nil
  | _, _, .cons h1 h2 => .cons (Dx.same e h1) (DxAll.same e h2)
end
/-- data that is short enough to be written -/
def Shows (d : PyData) : Prop := d.showable = true ∧ d.depth ≤ 60 ∧ d.shown.length ≤ sizeLine
def rReprX (K : PySem.W.Frag) : List V → Hp → VK → Prop := fun xs H Q => ∃ (x : V) (d : PyData), xs = [x] ∧ Dx K H x d ∧ Shows d ∧ Q (.str d.shown) H
theorem call_reprX {X : Cx} (hg : X.A.guards = some []) (hu : X.A.units + 100 < cLine) : CallR X (.builtin "repr") (rReprX X.K) := by
  intro pins s σ H xs us Q I r h
  obtain ⟨x, d, rfl, dp, ⟨hs, hdep, hz⟩, q⟩ := h
  obtain ⟨u, rfl, ru⟩ := vals1 r
  obtain ⟨as, rd, hsm⟩ := Dx.reads I dp ru
  cases dp with
  | non =>
    cases ru
    exact PySem.P.repr_of_none ⟨.str _, H, I.tok _, ⟨_, rfl⟩, q⟩
  | bl b =>
    cases ru
    exact PySem.P.repr_of_bool ⟨.str _, H, I.tok _, ⟨_, rfl⟩, q⟩
  | int i =>
    obtain ⟨t, rfl⟩ := ru
    exact PySem.P.repr_of_int (of_decide_eq_true hs) ⟨.str _, H, I.tok _, ⟨_, rfl⟩, q⟩
  | str y =>
    obtain ⟨t, rfl⟩ := ru
    exact PySem.P.repr_of_str ⟨.str _, H, I.tok _, ⟨_, rfl⟩, q⟩ hz
  | lst =>
    cases ru
    exact repr_of_reads' rd hs (fun _ => hsm) hg (by omega) (fun _ _ e => e) (fun h' u tk hk => ⟨.str _, H, I.kept (h' := h') (t' := tk) hk, ⟨_, rfl⟩, q⟩) hz
  | tup =>
    cases ru
    exact repr_of_reads' rd hs (fun _ => hsm) hg (by omega) (fun _ _ e => e) (fun h' u tk hk => ⟨.str _, H, I.kept (h' := h') (t' := tk) hk, ⟨_, rfl⟩, q⟩) hz
  | dct =>
    cases ru
    exact repr_of_reads' rd hs (fun _ => hsm) hg (by omega) (fun _ _ e => e) (fun h' u tk hk => ⟨.str _, H, I.kept (h' := h') (t' := tk) hk, ⟨_, rfl⟩, q⟩) hz
/-! ### a list's place is beyond what the top has laid -/
section
variable {X : Cx} {t : TA} {es : List Expr} {pos : Pos}
def tLstB (t : TA) : TE := fun σ H Q => t σ H fun xs H1 => xs.length ≤ sizeLine ∧ ∀ p, H1 p = none → p ≠ sysModules → Q (.ref p) (upd H1 p (.lst xs))
end
end Uq
namespace Uq
open PySem PySem.Spec PyProof.Rows L2
/-! ### own exceptions as values: their __init__ walked as a def, they and their dict tracked -/
/-- what is asked of a class of exceptions -/
structure Xcl (K : PySem.W.Frag) (C : Addr) : Prop where
  T : OexC K C
  ga : PySem.W.findIn K (.ref C) "__getattribute__" = some (some (.builtin "BaseException.__getattribute__"))
  gg : PySem.W.findIn K (.ref C) "__getattr__" = some none
  hd : PySem.W.hasDictIn K C = true
  cl : PySem.W.findIn K (.ref C) "__class__" = some (some (.builtin "object.__class__"))
  sp : PySem.W.specialIn K (.builtin "object.__class__") "__get__" = some (some (.builtin "getset_descriptor.__get__"))
  tk : PySem.W.takesIn K (.builtin "object.__class__") = some true
  mo : PySem.W.mroIn K C (.type "object") = some true
  va : PySem.W.findIn K (.ref C) "value" = some none
/-- at a: an exception of the class C that keeps v -/
def Exc (H : Hp) (a C : Addr) (v : V) : Prop := ∃ dx : Addr, H a = some (exo a C (some dx)) ∧ H dx = some (exd dx [("value", v)])
theorem Exc.same {H H' : Hp} {a C : Addr} {v : V} (e : Same H H') (h : Exc H a C v) : Exc H' a C v := by
  obtain ⟨dx, h1, h2⟩ := h
  exact ⟨dx, e _ _ h1, e _ _ h2⟩
theorem Exc.but {H H' : Hp} {a C p : Addr} {v : V} {xs : List V} (e : But p H H') (hp : H p = some (.lst xs)) (h : Exc H a C v) : Exc H' a C v := by
  obtain ⟨dx, h1, h2⟩ := h
  refine ⟨dx, e _ _ (fun z => ?_) h1, e _ _ (fun z => ?_) h2⟩
  · rw [z, hp] at h1
    cases h1
  · rw [z, hp] at h2
    cases h2
/-- C(e), C's own __init__ keeping sp, the exception kept as a value -/
def tMkV (C : Addr) (sp : Sp) (ta : TA) : TE := fun σ H Q => ta σ H fun vs H1 => vs.length ≤ 1000 ∧ ∀ a, H1 a = none → sp (.ref a :: vs) (upd H1 a (exo a C none)) (fun v H2 => v = .non ∧ Q (.ref a) H2) (fun _ _ _ => False)
/-! ### isinstance and .value of such an exception -/
/-- AskedError.__init__ -/
def sp_init (K : PySem.W.Frag) : Sp := fun vs H Q _ => ∃ (a C : Addr) (v : V), vs = [.ref a, v] ∧ Xcl K C ∧ H a = some (exo a C none) ∧ ∀ dx, H dx = none → dx ≠ a → Q .non (upd (upd H dx (exd dx [("value", v)])) a (exo a C (some dx)))
/-- C(e), C's __init__ being that one -/
theorem mkV_of {K : PySem.W.Frag} {C : Addr} {ta : TA} {σ : L2.St} {H : Hp} {Q : VK} (T : Xcl K C) (h : ta σ H fun vs H1 => ∃ v, vs = [v] ∧ ∀ a H2, H1 a = none → Same H1 H2 → Exc H2 a C v → Q (.ref a) H2) (m : ∀ {P P' : List V → Hp → Prop}, (∀ vs H1, P vs H1 → P' vs H1) → ta σ H P → ta σ H P') : tMkV C (sp_init K) ta σ H Q := by
  refine m (fun vs H1 hh => ?_) h
  obtain ⟨v, rfl, q⟩ := hh
  refine ⟨by simp, fun a ha => ⟨a, C, v, rfl, T, upd_same, fun dx hd hn => ⟨rfl, q a _ ha (fun b o e => ?_) ⟨dx, upd_same, ?_⟩⟩⟩⟩
  · have n1 : b ≠ a := ne_of_none e ha
    have n2 : b ≠ dx := fun z => by
      rw [upd_ne hn] at hd
      rw [z, hd] at e
      cases e
    rw [upd_ne n1, upd_ne n2, upd_ne n1]
    exact e
  · rw [upd_ne hn, upd_same]
end Uq
namespace Uq
open PySem PySem.Spec PyProof.Rows L2
/-! ### own classes: len, in, an index -/
section
variable {X : Cx} {C f : Addr} {k : Nat} {fd : FuncData} {ps : List Str} {sp : Sp}
/-- a def called one level further in -/
theorem run_in {pins : List (Addr × Obj)} {σ : L2.St} {H : Hp} {s : Shared} {Q : VK} {us : List Value} {vs : List V} {A : Around} (F : FnOk X.prog X.w X.K X.mg X.base CX0 k f fd ps sp) (hr : Room k A) (e0 : Env0 X.prog X.w X.K X.mg X.base A X.stack s H) (hb : Binds X.K fd ps [])
    (I : Inv X pins σ H s) (r : Vals vs us) (h : sp vs H Q E0) : wpAny (model X.prog X.w) A (call (.ref f) us) (EP X pins σ Q) X.xe s := by
  have n := r.length.symm.trans (F.len _ _ _ _ h)
  have bd := hb s us I.kIn (by rw [List.append_nil]; exact n)
  rw [List.append_nil] at bd
  refine wpAny_call (codeAny_mono (F.run A X.stack s H ⟨us, []⟩ us vs Q E0 hr e0 bd r h) ?_)
  rintro (_ | (_ | _ | _ | u)) s' got
  all_goals first
    | exact False.elim got
    | exact I.after got
theorem at_ins {pins : List (Addr × Obj)} {σ : L2.St} {H : Hp} {s : Shared} {a dx : Addr} {fs : List (Str × V)} (I : Inv X pins σ H s) (e : H a = some (.ins C dx fs)) : ∃ ox od, PySem.W.InstAt s.heap a ox C (some od) := by
  obtain ⟨mA, O, _⟩ := ins_get I.hok e
  obtain ⟨od, J, _⟩ := O.look
  exact ⟨_, _, J⟩
/-- what a class must tell of one of its own dunders -/
structure Dun (K : PySem.W.Frag) (C f : Addr) (n : Str) : Prop where
  at_ : PySem.W.findIn K (.ref C) n = some (some (.ref f))
  fn : PySem.W.isFn K (.ref f) = true
def rInO (C : Addr) (sp : Sp) (neg : Bool) : R2 := fun x y H Q => ∃ a dx fs, y = .ref a ∧ H a = some (.ins C dx fs) ∧ sp [.ref a, x] H (fun v H1 => ∃ b, v = .bl b ∧ Q (.bl (if neg then !b else b)) H1) E0
theorem op_notInO (d : Dun X.K C f "__contains__") (F : FnOk X.prog X.w X.K X.mg X.base CX0 k f fd ps sp) (hr : Room k X.A) (hb : Binds X.K fd ps []) : OpR X (compareOp .NotIn) (rInO C sp true) := by
  intro pins s σ H x y v u Q I rx ry h
  obtain ⟨a, dx, fs, rfl, e, q⟩ := h
  cases (show u = Value.ref a from ry)
  obtain ⟨ox, od, J⟩ := at_ins I e
  obtain ⟨m, fr⟩ := I.fr
  refine PySem.W.notIn_K fr I.ok.mod.kin J d.at_ d.fn ?_
  refine wpAny_mono (run_in F hr I.env0 hb I (.cons (a := V.ref a) rfl (.cons rx .nil)) q) ?_ (fun _ _ z => z)
  rintro w s' ⟨z, H1, I1, rz, b, rfl, q1⟩
  cases (show w = Value.bool b from rz)
  exact wpAny_truthy_bool ⟨.bl (!b), H1, I1, rfl, q1⟩
end
/-! ### slices with a step -/
def pickV {α : Type} (xs : List α) (lo hi st : Option Int) : List α := (sliceRange (sliceBounds lo hi st xs.length).1 (sliceBounds lo hi st xs.length).2.1 (sliceBounds lo hi st xs.length).2.2).filterMap (xs[·]?)
theorem vals_pick {xs : List V} {its : List Value} (r : Vals xs its) : ∀ l : List Nat, Vals (l.filterMap (xs[·]?)) (l.filterMap (its[·]?))
  | [] => .nil
  | i :: l => by
    rw [List.filterMap_cons, List.filterMap_cons]
    cases e : xs[i]? with
    | none =>
      have e2 : its[i]? = none := by
        rw [List.getElem?_eq_none_iff] at e ⊢
        rw [← r.length]
        exact e
      rw [e2]
      exact vals_pick r l
    | some x =>
      obtain ⟨u, e2, ru⟩ := r.get e
      rw [e2]
      exact .cons ru (vals_pick r l)
def tSlS (K : PySem.W.Frag) (te : TE) (tl th ts : L2.St → Hp → (Option Int → Hp → Prop) → Prop) : TE := fun σ H Q => te σ H fun x H1 => tl σ H1 fun l H2 => th σ H2 fun u H3 => ts σ H3 fun k H4 => ∃ a xs, x = .ref a ∧ SqL K H4 a xs ∧ k ≠ some 0 ∧ (pickV xs l u k).length ≤ sizeLine ∧ ∀ p, H4 p = none → Q (.ref p) (upd H4 p (.lst (pickV xs l u k)))
theorem pe_sliceS {X : Cx} {e st : Expr} {lo hi : Option Expr} {te : TE} {tl th ts : L2.St → Hp → (Option Int → Hp → Prop) → Prop} {p2 pos : Pos} (he : PE X e te) (hl : PO X lo tl) (hu : PO X hi th) (hs : PO X (some st) ts) : PE X (.Subscript e (.Slice lo hi (some st) p2) pos) (tSlS X.K te tl th ts) := by
  constructor
  intro pins s σ H Q I h
  apply Subscript_
  refine thn (he.run pins s σ H _ I h) ?_
  rintro v s1 ⟨x, H1, I1, rx, q1⟩
  apply wpAny_Slice
  refine thn (hl.run pins s1 σ H1 _ I1 q1) ?_
  rintro vl s2 ⟨l, H2, I2, pl, q2⟩
  refine thn (hu.run pins s2 σ H2 _ I2 q2) ?_
  rintro vu s3 ⟨u, H3, I3, pu, q3⟩
  refine thn (hs.run pins s3 σ H3 _ I3 q3) ?_
  rintro vk s4 ⟨k, H4, I4, pk, a, xs, rfl, hx, hk, hz, q⟩
  cases (show v = Value.ref a from rx)
  have I5 : Inv X pins σ H4 { s4 with heap := s4.heap.push { cls := .type "slice", data := .fields #[vl, vu, vk] } } := I4.kept (t' := s4.toks) fun b ob z => Heap.get?_push_of_some _ z
  obtain ⟨its, r, ht, hsz⟩ := I5.list hx
  have hlen := r.length
  have hT : typeLookup (.type "list") "__getitem__" = pure (some (.builtin _)) := slot_list_getitem.lookup
  refine tail_any (ops := [.ref a, .ref s4.heap.objs.size]) ht.isList.typeIs hT ?_ (by with_unfolding_all rfl)
  refine wpAny_getItem_list_slice ht.isList (Heap.IsSliceOf.new ..) pl pu pk hk ?_ (by rw [List.size_toArray] <;> omega)
  have es : slicePick its.toArray l u k = (pickV its l u k).toArray := by
    unfold slicePick pickV
    simp
  rw [es]
  have rel : Vals (pickV xs l u k) (pickV its l u k) := by
    unfold pickV
    rw [hlen]
    exact vals_pick r _
  refine ⟨.ref _, _, I5.laid (o := .lst (pickV xs l u k)) (fun b ob z => Heap.get?_push_of_some _ z) (Nat.le_refl _) ?_, rfl, q _ (I5.hok.fresh (Nat.le_refl _))⟩
  exact ⟨hz, _, 0, rel, Heap.get?_push_size _ rfl⟩
end Uq
namespace Uq
open PySem PySem.Spec PyProof.Rows
/-! ### enumerate(list, start=3) -/
/-- what the call hands on -/
abbrev kw3 (t : Tok) : List (Str × Value) := [("start", .int 3 t)]
theorem typeCall3 (a : Value) (t : Tok) : checkTypeCall "enumerate" ⟨[a], kw3 t⟩ = pure () := by kernel_rfl
theorem newCall3 (a : Value) (t : Tok) : checkBuiltinCall "enumerate.__new__" ⟨[.type "enumerate", a], kw3 t⟩ = pure () := by kernel_rfl
theorem initArgs3 (obj a : Value) (t : Tok) : argsOk "object.__init__" ⟨[obj, a], kw3 t⟩ := by
  first
    | exact F.args_object_init_2 obj a
    | (unfold argsOk; kernel_rfl)
    | decide +kernel
/-- the iterator and the enumerate that stand behind it -/
abbrev it0 (l : Addr) : Obj := { cls := .type "list_iterator", data := .fields #[.ref l, .int 0 0] }
abbrev en0 (it : Addr) (n : Int) : Obj := { cls := .type "enumerate", data := .fields #[.none, .bool false, .ref it, rawInt n, .none, .none] }
theorem new3 (l : Addr) (t : Tok) (items : Array Value) (n : Nat) (dct : Option Addr) (sl : Array (Option Value)) :
    Meets (Builtin.«enumerate.__new__» ⟨[.type "enumerate", .ref l], kw3 t⟩) (fun _ R s => s.heap.get? l = some { cls := .type "list", dict := dct, data := .seq items n, slots := sl } ∧
      R (.ok (.ret (.ref (s.heap.push (it0 l)).objs.size))) { s with heap := (s.heap.push (it0 l)).push (en0 s.heap.objs.size 3) }) := by
  refine .of_wp ?_
  rintro prog w A R ⟨h0, g, d, tk, os⟩ ⟨hl, q⟩
  have sub := PySem.sub_enumerate
  have isl : Heap.IsList (Shared.heap ⟨h0, g, d, tk, os⟩) l items := ⟨_, hl, rfl, n, rfl⟩
  wp_walk using AutoSeq1.wpAny_loadPart' hl
  refine wpAny_stack_any fun st => wpAny_pure ?_
  split
  · rename_i c _ _ _ _ _
    cases (c == Value.type "enumerate")
    · wp_walk using AutoSeq1.wpAny_loadPart' hl, wpAny_pyIter_list isl
      exact ⟨_, rfl, q⟩
    · wp_walk using AutoSeq1.wpAny_loadPart' hl, wpAny_pyIter_list isl
      exact ⟨_, rfl, q⟩
  · wp_walk using AutoSeq1.wpAny_loadPart' hl, wpAny_pyIter_list isl
    exact ⟨_, rfl, q⟩
end Uq
namespace Uq
open PySem PySem.Spec PyProof.Rows
section
variable {prog : Program} {w : World} {A : Around} {E : Value → Shared → Prop} {s : Shared}
theorem init3 {obj a : Value} (t : Tok) :
    Meets (Builtin.«object.__init__» ⟨[obj, a], kw3 t⟩) (fun _ R s => s.TypeIs obj "enumerate" ∧ R (.ok (.ret .none)) s) := by
  refine .of_wp ?_
  rintro prog w A R s ⟨ht, q⟩
  have hl := F.called_enumerate.init.lookup
  have hm := F.called_enumerate.made
  repeat (any_goals (first | assumption | wp_step))
  all_goals exact ⟨_, rfl, q⟩
theorem call_enum3 {l : Addr} {items : Array Value} {t : Tok} {Q : Value → Shared → Prop} (hL : s.heap.IsList l items)
    (h : ∀ h', IsEnum h' (s.heap.objs.size + 1) s.heap.objs.size 3 .none → h'.IsListIter s.heap.objs.size l 0 → h'.objs.size = s.heap.objs.size + 2 →
      (∀ b o, s.heap.get? b = some o → h'.get? b = some o) → Q (.ref (s.heap.objs.size + 1)) { s with heap := h' }) :
    wpAny (model prog w) A (call (.type "enumerate") [.ref l] (kw3 t)) Q E s := by
  obtain ⟨⟨c, dct, dt, sl⟩, hl, hc, n, hd⟩ := hL
  replace hc : c = .type "list" := hc
  replace hd : dt = .seq items n := hd
  subst hc hd
  have ft := F.called_enumerate
  obtain ⟨c, tl, hmro⟩ := ft.mro
  have hmade := ft.made
  have hsub := ft.sub
  have h1 := ft.notType
  have h2 := ft.canCreate
  refine wpAny_call (codeAny_of_tree ?_)
  show wpAny _ _ (callAny (.type "enumerate") _) _ _ _
  refine wpAny_pure ⟨Code.quiet_builtin _ (by decide +kernel), codeAny_builtin F.entry_type_call ?_⟩
  rw [Around.under_plain (weight_type_call_type "enumerate" [.ref l] (kw3 t)) (units_type_call_type "enumerate" [.ref l] (kw3 t))]
  have hct := typeCall3 (.ref l) t
  repeat (any_goals (first | assumption | wp_step))
  have hz : (s.heap.push (it0 l)).objs.size = s.heap.objs.size + 1 := Heap.size_push ..
  have made := codeAny_call_builtin (A := A.in1) (R := wants (fun obj s₁ => obj = .ref (s.heap.objs.size + 1) ∧ s₁ = { s with heap := (s.heap.push (it0 l)).push (en0 s.heap.objs.size 3) }) E) ft.plain F.entry_enumerate_new (wpAny_of_eq (newCall3 (.ref l) t) (new3 l t items n dct sl prog w A.in1 _ s ⟨hl, by rw [hz]; exact ⟨rfl, rfl⟩⟩))
  refine codeAny_mono made fun r s₁ hr => ?_
  cases r with
  | error e => exact hr
  | ok fl =>
    cases fl with
    | ret obj =>
      obtain ⟨rfl, rfl⟩ := hr
      have he : IsEnum ((s.heap.push (it0 l)).push (en0 s.heap.objs.size 3)) (s.heap.objs.size + 1) s.heap.objs.size 3 .none := by
        have z := Heap.get?_push_size (s.heap.push (it0 l)) (o := en0 s.heap.objs.size 3) rfl
        rw [hz] at z
        exact z
      have hT : (Shared.mk ((s.heap.push (it0 l)).push (en0 s.heap.objs.size 3)) s.gens s.drawn s.toks s.os).TypeIs (.ref (s.heap.objs.size + 1)) "enumerate" := ⟨_, he, rfl⟩
      have hli := ft.init.lookup
      have hbi := ft.init.bind (.ref (s.heap.objs.size + 1))
      repeat (any_goals (first | assumption | wp_step))
      have fin : Q (.ref (s.heap.objs.size + 1)) { s with heap := (s.heap.push (it0 l)).push (en0 s.heap.objs.size 3) } := h _ he ⟨_, Heap.get?_push_of_some _ (Heap.get?_push_size _ rfl), rfl, rfl⟩ (by rw [Heap.size_push, hz]) fun b o x => Heap.get?_push_of_some _ (Heap.get?_push_of_some _ x)
      refine codeAny_mono (codeAny_call_builtin ft.init.plain F.entry_object_init (ft.init.check _ _ _ _ _ _ _ _ hT (initArgs3 _ _ t) (init3 t prog w A.in1 (wants (fun r s₂ => r = .none ∧ s₂ = { s with heap := (s.heap.push (it0 l)).push (en0 s.heap.objs.size 3) }) E) _ ⟨hT, rfl, rfl⟩))) fun r₂ s₂ hr₂ => ?_
      cases r₂ with
      | error e => exact hr₂
      | ok fl₂ =>
        cases fl₂ with
        | ret r =>
          obtain ⟨rfl, rfl⟩ := hr₂
          repeat (any_goals (first | assumption | wp_step))
        | _ => exact hr₂.elim
    | _ => exact hr.elim
end
end Uq
namespace Uq
open PySem PySem.Spec PyProof.Rows L2
/-- enumerate(list, start=3): the list as it stands at each turn, each item in a new pair -/
def Ite3 (K : PySem.W.Frag) (a : Addr) : It :=
  ⟨fun i H => ∃ (xs : List V) (x : V), SqL K H a xs ∧ xs[i]? = some x,
   fun i H v H' => ∃ T x, v = .ref T ∧ H T = none ∧ H' = upd H T (.tup [.int ((i : Int) + 3), x]) ∧ ∀ xs, SqL K H a xs → xs[i]? = some x,
   fun i H => ∃ xs : List V, SqL K H a xs ∧ xs.length ≤ i⟩
theorem draws3 {prog : Program} {w : World} {A : Around} {it l : Addr} {items : Array Value} (hh : A.handled = none) (hn : l ≠ it) :
    Draws prog w A it [it, l] (items.size + 3) (fun i x => items[i - 3]? = some x) (fun i h => 3 ≤ i ∧ h.IsListIter it l (i - 3) ∧ h.IsList l items) where
  live := fun i h st => by
    obtain ⟨_, ⟨o, e, _⟩, _⟩ := st
    exact ⟨o, e⟩
  frame := fun i h h' st k => by
    obtain ⟨g, ⟨o, e, r⟩, ⟨ol, el, rl⟩⟩ := st
    exact ⟨g, ⟨o, k it (by simp) _ e, r⟩, ⟨ol, k l (by simp) _ el, rl⟩⟩
  item := fun i s Q E hi st q => by
    obtain ⟨g, hit, hl⟩ := st
    obtain ⟨x, hx⟩ : ∃ x, items[i - 3]? = some x := ⟨items[i - 3]'(by omega), Array.getElem?_eq_getElem (by omega)⟩
    refine wpAny_nextOf_list_item hit hl hx fun h' hit' sb => ?_
    have e : i + 1 - 3 = i - 3 + 1 := by omega
    refine q x h' s.toks hx ⟨by omega, by rw [e]; exact hit', ?_⟩ sb
    obtain ⟨ol, el, rl⟩ := hl
    exact ⟨ol, (sb.2 l hn).trans el, rl⟩
  done := fun s Q E st q => by
    obtain ⟨_, hit, hl⟩ := st
    exact wpAny_nextOf_list_end hh hit hl (Array.getElem?_eq_none (by omega)) q
theorem list_ne_iter {h : Heap} {it l : Addr} {i : Nat} {items : Array Value} (a : h.IsListIter it l i) (b : h.IsList l items) : l ≠ it := by
  obtain ⟨o, e, c, _⟩ := a
  obtain ⟨ol, el, cl, _⟩ := b
  intro z
  rw [z, e] at el
  cases el
  rw [c] at cl
  exact absurd (Value.type.inj cl) (by decide)
/-- the end: nothing is behind it -/
theorem draws_end {prog : Program} {w : World} {A : Around} {it l : Addr} {items : Array Value} {i : Nat} (hh : A.handled = none) (hz : items.size ≤ i) :
    Draws prog w A it [it, l] i (fun _ _ => False) (fun j h => j = i ∧ h.IsListIter it l i ∧ h.IsList l items) where
  live := fun j h st => by
    obtain ⟨_, ⟨o, e, _⟩, _⟩ := st
    exact ⟨o, e⟩
  frame := fun j h h' st k => by
    obtain ⟨g, ⟨o, e, r⟩, ⟨ol, el, rl⟩⟩ := st
    exact ⟨g, ⟨o, k it (by simp) _ e, r⟩, ⟨ol, k l (by simp) _ el, rl⟩⟩
  item := fun j s Q E hj st q => absurd hj (by rw [st.1]; exact Nat.lt_irrefl _)
  done := fun s Q E st q => by
    obtain ⟨_, hit, hl⟩ := st
    exact wpAny_nextOf_list_end hh hit hl (Array.getElem?_eq_none hz) q
theorem turn3 {P : Program} {w : World} {K : PySem.W.Frag} {elts : List Expr} {kk : Nat} {tpos : Pos} (a e it : Addr) :
    Turn P w K (.Tuple elts kk tpos) (Ite3 K a) [e, it] e (fun i h => (∃ old, IsEnum h e it ((i + 3 : Nat) : Int) old) ∧ h.IsListIter it a i ∧ e ≠ it) where
  mem := by simp
  obj := fun i h st b hb => by
    obtain ⟨⟨old, he⟩, ⟨o, ho, hc, hd⟩, _⟩ := st
    simp only [List.mem_cons, List.not_mem_nil, or_false] at hb
    rcases hb with z | z
    · rw [z]
      exact ⟨_, he, fun v q => nomatch q⟩
    · rw [z]
      refine ⟨o, ho, fun v q => ?_⟩
      rw [hd] at q
      cases q
  keep := fun i h h' st k => by
    obtain ⟨⟨old, he⟩, hi, hne⟩ := st
    exact ⟨⟨old, k e (by simp) _ he⟩, hi.at fun o q => k it (by simp) o q, hne⟩
  item := by
    intro X hP hw hK hc i pins s σ H E I hf st hg
    subst hP hw hK
    obtain ⟨⟨old, he⟩, hit, hne⟩ := st
    obtain ⟨xs, x, hq, hx⟩ := hg
    obtain ⟨its, rv, p, hz⟩ := I.list hq
    obtain ⟨u, hu, ru⟩ := rv.get hx
    have hel : e < s.heap.objs.size := Heap.lt_size he
    have hil : it < s.heap.objs.size := by
      obtain ⟨_, q, _⟩ := hit
      exact Heap.lt_size q
    have hi : i < its.length := (List.getElem?_eq_some_iff.mp hu).1
    have ea : e ≠ a := by
      intro z
      obtain ⟨ol, el, cl, _⟩ := p.isList
      have he2 : s.heap.get? e = _ := he
      rw [z, el] at he2
      cases he2
      exact absurd (Value.type.inj cl) (by decide)
    have D := draws3 (prog := X.prog) (w := X.w) (A := X.A.in1) (items := its.toArray) (I.ok.hd hc) (list_ne_iter hit p.isList)
    refine wpAny_pyNext_enum_itemD D he ⟨by omega, hit, p.isList⟩ (by simp only [List.size_toArray]; omega) hne (by simp [hne, ea]) fun y h' tk hy ho st' hT hsz hk => ?_
    have ey : y = u := by
      have z : (its.toArray)[i + 3 - 3]? = some y := hy
      rw [Nat.add_sub_cancel, List.getElem?_toArray, hu] at z
      exact (Option.some.inj z).symm
    subst ey
    obtain ⟨_, hit', _⟩ := st'
    refine ⟨_, rfl, wpAny_letOwnedTupleGo_enum (s := { s with heap := h', toks := tk + 1 }) ho fun h'' he' sb => ?_⟩
    have hT2 : h''.get? s.heap.objs.size = some { cls := .type "tuple", data := .seq #[.int ((i + 3 : Nat) : Int) tk, y] } := (sb.2 _ (Nat.ne_of_gt hel)).trans hT
    have ei : ((i + 3 : Nat) : Int) = (i : Int) + 3 := by omega
    have new : ObjOk X.prog X.w (upd H s.heap.objs.size (.tup [.int ((i : Int) + 3), x])) h'' s.heap.objs.size (.tup [.int ((i : Int) + 3), x]) :=
      ⟨by show 2 ≤ sizeLine; decide, [.int ((i : Int) + 3) tk, y], .cons ⟨_, rfl⟩ (.cons ru .nil), ⟨_, hT2, rfl, _, by rw [ei]⟩⟩
    have stays : ∀ b ob, b ∉ [e, it] → s.heap.get? b = some ob → h''.get? b = some ob := fun b ob hb q =>
      (sb.2 b (fun z => hb (by simp [z]))).trans (hk b ob (fun z => hb (by simp [z])) (fun z => hb (by simp [z])) q)
    have I1 : Inv X pins σ (upd H s.heap.objs.size (.tup [.int ((i : Int) + 3), x])) { s with heap := h'', toks := tk + 1 } := I.turnedNew (ch := [e, it]) stays hf (Nat.le_refl _) new
    refine ⟨.ref s.heap.objs.size, _, I1, rfl, ⟨_, x, rfl, I.hok.fresh (Nat.le_refl _), rfl, fun ys hy => ?_⟩, ⟨⟨y, ?_⟩, ?_, hne⟩, fun b hb => ?_⟩
    · rw [I.list_inj hy hq]
      exact hx
    · have e1 : ((i + 1 + 3 : Nat) : Int) = ((i + 3 : Nat) : Int) + 1 := by omega
      rw [e1]
      exact he'
    · have e2 : i + 3 + 1 - 3 = i + 1 := by omega
      rw [e2] at hit'
      exact hit'.at fun o q => (sb.2 it (Ne.symm hne)).trans q
    · have hb' : b < s.heap.objs.size := by
        simp only [List.mem_cons, List.not_mem_nil, or_false] at hb
        rcases hb with z | z
        · rw [z]
          exact hel
        · rw [z]
          exact hil
      rw [upd_ne (Nat.ne_of_lt hb')]
      exact (hf b hb).1
  done := by
    intro X hP hw hK hc i pins s σ H E I hf st hg
    subst hP hw hK
    obtain ⟨⟨old, he⟩, hit, hne⟩ := st
    obtain ⟨xs, hq, hx⟩ := hg
    obtain ⟨its, rv, p, hz⟩ := I.list hq
    obtain ⟨f0, f1, f2, f3, f4, f5⟩ := hf it (by simp)
    have hl := rv.length
    have D := draws_end (prog := X.prog) (w := X.w) (A := X.A.in1) (it := it) (l := a) (items := its.toArray) (i := i) (I.ok.hd hc) (by simp only [List.size_toArray]; omega)
    exact wpAny_pyNext_enum_endD D he ⟨rfl, hit, p.isList⟩ fun h' eb => ⟨rfl, I.turned (t' := s.toks) (fun b o hb q => eb b o hb q) f0 f1 f3 f4 f5⟩
  self := fun A i s Q E st h => by
    obtain ⟨⟨_, he⟩, _⟩ := st
    exact wpAny_pyIter_enum he h
/-! ### the call -/
theorem callWith_tyK {M : Model} {A : Around} {E : Value → Shared → Prop} {s : Shared} {env : Env} {pos : Pos} {T : String} {e : Expr} {rest : List Expr} {kws : List Keyword} {Q : Value → Shared → Prop}
    (h : wpAny M A (spliced (backTo pos (starEach (e :: rest) env))) (fun vs s₁ => wpAny M A (evalAll ((backToKw pos (keywordEach kws env)).map (·.2)))
      (fun kvs s₂ => wpAny M A (call (.type T) vs (((backToKw pos (keywordEach kws env)).filterMap (·.1)).zip kvs)) Q E s₂) E s₁) E s)
    (he : backTo pos (starEach (e :: rest) env) = (false, eval e env) :: backTo pos (starEach rest env)) (hp : (backTo pos (starEach (e :: rest) env)).any (·.1) = false)
    (ha : (backToKw pos (keywordEach kws env)).all (·.1.isSome) = true) (hn : (backToKw pos (keywordEach kws env)).any (·.1.isNone) = false) :
    wpAny M A (callWith pos (.type T) [] (backTo pos (starEach (e :: rest) env)) (backToKw pos (keywordEach kws env))) Q E s := by
  have args := h
  rw [he] at args
  have a2 := evalArgs_kwB (f := .type T) (Q := fun a s₁ => wpAny M A (call (.type T) ([] ++ a.pos) a.kw) Q E s₁) ha args
  rw [← he] at a2
  unfold callWith
  refine wpAny_bind (wpAny_holding (wpAny_mono a2 (fun a s₁ h₁ => wpAny_bind (wpAny_standAt ?_)) fun _ _ x => x))
  simp only [hp, hn, Bool.or_false]
  refine wpAny_bind (wpAny_pure ?_)
  exact wpAny_bind (wpAny_mono h₁ (fun r s₂ hr => wpAny_bind (wpAny_holding (wpAny_point (wpAny_pure hr)))) fun _ _ x => x)
def iEnum3 (K : PySem.W.Frag) (ta : TA) : TI := fun σ H R => ta σ H fun vs H1 => ∃ a xs, vs = [.ref a] ∧ SqL K H1 a xs ∧ R (Ite3 K a) H1
theorem pi_enum3 {X : Cx} {e : Expr} {ta : TA} {p pos tpos kp cp : Pos} {j : Nat} {elts : List Expr} {kk : Nat} (hg : Gl X "enumerate") (hm : X.mg "enumerate" = none) (ha : PA X [e] ta) (hs : starEach [e] X.env = [(false, eval e X.env)] := by rfl) :
    PI X (.Tuple elts kk tpos) (.Call (.Name "enumerate" p) [e] [⟨some "start", .Constant (.int 3) j cp, kp⟩] pos) (iEnum3 X.K ta) := by
  refine ⟨fun pins s σ H R I h => ?_⟩
  refine wpAny_Call_Name_kw (ld_blt I hg hm boot_enumerate (callWith_tyK (thn (ha.run pos pins s σ H _ I h) ?_) (he := by rw [hs]; rfl) (hp := by rw [hs]; rfl) rfl rfl) (by decide) (by decide))
  rintro us s1 ⟨vs, H1, I1, r1, a, xs, rfl, hq, q⟩
  obtain ⟨u, rfl, ru⟩ := vals1 r1
  cases (show u = Value.ref a from ru)
  refine kws_cons (thn (pe_int.run pins s1 σ H1 (fun v H2 => v = .int 3 ∧ H2 = H1) I1 ⟨rfl, rfl⟩) ?_)
  rintro k s2 ⟨y, H2, I2, rk, rfl, rfl⟩
  obtain ⟨t, rfl⟩ := rk
  refine kws_nil ?_
  obtain ⟨its, rv, p', hz⟩ := I2.list hq
  show wpAny _ _ (call (.type "enumerate") [.ref a] (kw3 t)) _ _ _
  refine call_enum3 p'.isList fun h' he hit hsz hk => wpAny_pyIter_enum he ?_
  have I3 := I2.kept (t' := s2.toks) hk
  refine ⟨s2.heap.objs.size + 1, [s2.heap.objs.size + 1, s2.heap.objs.size], _, _, H2, rfl, I3, turn3 a (s2.heap.objs.size + 1) s2.heap.objs.size, ⟨⟨.none, he⟩, hit, Nat.succ_ne_self _⟩, fun b hb => ?_, q⟩
  have hle : s2.heap.objs.size ≤ b := by
    simp only [List.mem_cons, List.not_mem_nil, or_false] at hb
    rcases hb with z | z
    · rw [z]
      exact Nat.le_add_right _ _
    · rw [z]
      exact Nat.le_refl _
  exact I2.fpOk hle (I2.hok.fresh hle)
end Uq
namespace Uq
open PySem PySem.Spec PyProof.Rows L2 PySem.W
/-! ### tuple(d): the keys of a dict -/
section
variable {prog : Program} {w : World} {A : Around} {E : Value → Shared → Prop} {s : Shared} {d : Addr} {n : Nat} {P : Nat → Value → Prop} {OK : Heap → Prop}
theorem collect_src {T : String} {Q : List Value → Shared → Prop} (K : KdlSrc prog w T d d n P OK) (hh : A.handled = none) (hok : OK s.heap) (hn : n ≤ sizeLine)
    (q : ∀ (h' : Heap) (tk : Nat) (acc : Array Value), (∀ b o, s.heap.get? b = some o → h'.get? b = some o) → ItemsOf P acc n → Q acc.toList { s with heap := h', toks := tk }) :
    wpAny (model prog w) A (collect (.ref d)) Q E s := by
  have below := (K.there _ hok).1
  unfold collect
  refine wpAny_bind (wpAny_runValue (codeAny_builtin F.entry_proto_collect ?_))
  rw [Around.under_plainId F.plain_proto_collect _]
  show wpAny _ A.in1 (newList [] >>= fun l => again (.builtin "list.__iadd__" ⟨[l, .ref d], []⟩)) _ _ s
  refine wpAny_bind (wpAny_newObj_type ?_)
  refine wpAny_pure ⟨plainId_quiet F.plain_list_iadd _, codeAny_builtin F.entry_list_iadd ?_⟩
  rw [Around.under_plainId F.plain_list_iadd _]
  show wpAny _ A.in1 (Builtin.List.listExtendWith (.ref s.heap.objs.size) (.ref d) (.ref s.heap.objs.size)) _ _ _
  generalize eh : s.heap.push { cls := .type "list", data := .seq ([] : List Value).toArray } = h1
  have there : h1.get? s.heap.objs.size = some { cls := .type "list", data := .seq #[] 0 } := by
    rw [← eh]
    exact Heap.get?_push_size _ rfl
  have old : ∀ b o, s.heap.get? b = some o → h1.get? b = some o := fun b o e => by
    rw [← eh]
    exact Heap.get?_push_of_some _ e
  have ok1 : OK h1 := K.keep _ _ hok fun b _ o e => old b o e
  have ends := kdl_extend (A := A) (s := { s with heap := h1 }) (R := fun r s' => r = .ok (.ret (.ref s.heap.objs.size)) ∧ ∃ (h' : Heap) (tk : Nat) (acc : Array Value) (c : Nat), s' = { s with heap := h', toks := tk } ∧
      (∀ b o, s.heap.get? b = some o → h'.get? b = some o) ∧ h'.get? s.heap.objs.size = some { cls := .type "list", dict := none, data := .seq acc c, slots := #[] } ∧ ItemsOf P acc n)
    K hh ok1 s.heap.objs.size (Nat.ne_of_gt below) (Nat.ne_of_gt below) (.ref s.heap.objs.size) 0 there
    (fun h' tk acc c hk e hi => ⟨rfl, h', tk, acc, c, rfl, fun b o z => hk b o (Nat.ne_of_lt (Heap.lt_size z)) (old b o z), e, hi⟩) hn
  refine wpAny_mono ends (fun fin s' h => ?_) (fun e s' h => absurd h.1 (by simp))
  cases fin with
  | done f =>
    obtain ⟨e, h', tk, acc, c, rfl, hk, hS, hi⟩ := h
    cases e
    show wpAny _ A (load s.heap.objs.size >>= _) _ _ _
    exact wpAny_bind (wpAny_load hS (wpAny_pure (q h' tk acc hk hi)))
  | again c' =>
    refine ⟨h.1, codeAny_mono h.2 fun r s'' hr => ?_⟩
    obtain ⟨rfl, h', tk, acc, c, rfl, hk, hS, hi⟩ := hr
    show wpAny _ A (load s.heap.objs.size >>= _) _ _ _
    exact wpAny_bind (wpAny_load hS (wpAny_pure (q h' tk acc hk hi)))
theorem new_tuple_src {Q : Value → Shared → Prop} (K : KdlSrc prog w "dict" d d n P OK) (hh : A.handled = none) (hok : OK s.heap) (hn : n ≤ sizeLine)
    (q : ∀ (h' : Heap) (tk : Nat) (acc : Array Value), (∀ b o, s.heap.get? b = some o → h'.get? b = some o) → ItemsOf P acc n → Q (.ref h'.objs.size) { s with heap := h'.push { cls := .type "tuple", data := .seq acc }, toks := tk }) :
    codeAny (model prog w) A (.call (.builtin "tuple.__new__") ⟨[.type "tuple", .ref d], []⟩) (wants Q E) s := by
  refine codeAny_of_tree ?_
  show wpAny _ A.in1 (do checkBuiltinCall "tuple.__new__" ⟨[.type "tuple", .ref d], []⟩; again (.builtin "tuple.__new__" ⟨[.type "tuple", .ref d], []⟩)) _ _ s
  refine wpAny_bind (wpAny_of_eq (F.newCall_tuple_1 _) (wpAny_pure ⟨plainId_quiet F.plain_tuple_new _, codeAny_builtin F.entry_tuple_new ?_⟩))
  rw [Around.under_plainId F.plain_tuple_new _]
  have f1 := sub_tuple_self
  have f2 := init_tuple_lookup
  have f3 := madeHere_tuple
  have ty := K.type s hok
  have calm : A.in1.handled = none := hh
  wp_walk using wpAny_typeOf ty, collect_src (A := A.in1) K calm hok hn
  intro h' tk acc hk hi
  show wpAny _ _ (Builtin.Tuple.tupleExact acc.toList.toArray >>= fun v => ret v) _ _ _
  unfold Builtin.Tuple.tupleExact
  have e : acc.toList.toArray = acc := by simp
  rw [e]
  refine wpAny_bind (wpAny_newObj_type ?_ (by show acc.size ≤ sizeLine; rw [hi.1]; exact hn))
  exact wpAny_pure (q h' tk acc hk hi)
theorem call_tuple_src {Q : Value → Shared → Prop} (K : KdlSrc prog w "dict" d d n P OK) (hh : A.handled = none) (hok : OK s.heap) (hn : n ≤ sizeLine)
    (q : ∀ (h' : Heap) (tk : Nat) (acc : Array Value), (∀ b o, s.heap.get? b = some o → h'.get? b = some o) → ItemsOf P acc n → Q (.ref h'.objs.size) { s with heap := h'.push { cls := .type "tuple", data := .seq acc }, toks := tk }) :
    wpAny (model prog w) A (call (.type "tuple") [.ref d]) Q E s := by
  refine callType_codes (Q₁ := fun obj s₁ => s₁.TypeIs obj "tuple" ∧ Q obj s₁) F.called_tuple (F.typeCall_tuple_1 _) F.entry_object_init
    (new_tuple_src (A := A.in1) K hh hok hn fun h' tk acc hk hi => ⟨⟨_, Heap.get?_push_size _ rfl, rfl⟩, q h' tk acc hk hi⟩) ?_
  rintro obj s₁ ⟨ty, z⟩
  exact ⟨ty, F.args_object_init_2 obj _, object_init_meets F.called_tuple.init.lookup F.called_tuple.made (by decide) prog w A.in1 _ s₁ ⟨ty, rfl, z⟩⟩
end
def keysV (kvs : List (Key × V)) : List V := kvs.map fun kv => kV kv.1
/-- the same; what the new tuple is, is handed on (it has no dict) -/
def rTupF : List V → Hp → VK → Prop := fun xs H Q => ∃ p kvs, xs = [.ref p] ∧ Rd H p (.dK kvs) ∧ ∀ t ob, H t = none → ob.dict = none → Q (.ref t) (upd H t (.frz ob (.tup (keysV kvs))))
theorem call_tuple_dF {X : Cx} (hc : X.calm = true) : CallR X (.type "tuple") rTupF := by
  intro pins s σ H xs us Q I r h
  obtain ⟨p, kvs, rfl, hk, q⟩ := h
  obtain ⟨u, rfl, rx⟩ := vals1 r
  cases (show u = Value.ref p from rx)
  obtain ⟨z, lo, vs, rk, hd⟩ := (show ObjOk X.prog X.w H s.heap p (.dK kvs) from hk.ok I.hok)
  obtain ⟨ep, hat⟩ := hd.dictAt
  have hl : kvs.length = vs.length := Paired.length rk
  refine call_tuple_src (kdl_dict (knd := mixKind X.prog X.w) (kvs := vs) (ep := ep) lo) (I.ok.hd hc) hat (by rw [← hl]; exact z) fun h' tk acc keep hacc => ?_
  have rel : Vals (keysV kvs) acc.toList := by
    have el : acc.toList.length = acc.size := by simp
    refine vals_of_at (by rw [keysV, List.length_map, el, hacc.1, hl]) fun j x v h1 h2 => ?_
    obtain ⟨k, y, hky, hi⟩ := hacc.2 j v (by rw [← Array.getElem?_toList]; exact h2)
    have e1 : (kvs.map (·.1))[j]? = some k := by
      rw [KV.keys rk, List.getElem?_map, hky]
      rfl
    have e2 : (keysV kvs)[j]? = some (kV k) := by
      have e3 : keysV kvs = (kvs.map (·.1)).map kV := by
        rw [List.map_map]
        rfl
      rw [e3, List.getElem?_map, e1]
      rfl
    rw [e2] at h1
    cases h1
    exact keyIs_rel hi
  have I1 : Inv X pins σ H { s with heap := h', toks := tk } := I.kept (t' := tk) keep
  refine ⟨.ref h'.objs.size, _, I1.laid (t' := tk) (o := .frz _ (.tup (keysV kvs))) (fun b ob e => Heap.get?_push_of_some _ e) (Nat.le_refl _) ⟨Heap.get?_push_size _ rfl, ?_, acc.toList, rel, ⟨_, Heap.get?_push_size _ rfl, rfl, 0, by rw [Array.toArray_toList]⟩⟩, rfl, q _ _ (I1.hok.fresh (Nat.le_refl _)) rfl⟩
  rw [keysV, List.length_map]
  exact z
end Uq
namespace Uq
open PySem PySem.Spec PyProof.Rows
/-! ### zip over iterators of any kind whose last tuple is still held -/
section
variable {prog : Program} {w : World} {A : Around} {E : Value → Shared → Prop} {s : Shared} {z TI TO i1 i2 T : Addr} {f : Bool} {oT : Obj} {fp1 fp2 : List Addr} {n1 n2 i : Nat} {P1 P2 : Nat → Value → Prop} {St1 St2 : Nat → Heap → Prop}
theorem held_item {Q : Value → Shared → Prop} (S : ZipSep2 z TI TO i1 i2 fp1 fp2) (D1 : Draws prog w A i1 fp1 n1 P1 St1) (D2 : Draws prog w A i2 fp2 n2 P2 St2) (hz : IsZipHeld s.heap z TI TO T f) (hT : s.heap.get? T = some oT)
    (hTI : IsTupOf2 s.heap TI (.ref i1) (.ref i2)) (st1 : St1 i s.heap) (st2 : St2 i s.heap) (l1 : i < n1) (l2 : i < n2)
    (q : ∀ x y h' tk, P1 i x → P2 i y → IsZipHeld h' z TI TO T true → St1 (i + 1) h' → St2 (i + 1) h' → IsTupOf2 h' s.heap.objs.size x y → h'.objs.size = s.heap.objs.size + 1 →
      (∀ c o, c ≠ z → c ≠ i1 → c ≠ i2 → s.heap.get? c = some o → h'.get? c = some o) → Q (.ref s.heap.objs.size) { s with heap := h', toks := tk }) :
    wpAny (model prog w) A (Builtin.«zip.__next__» ⟨[.ref z], []⟩) (fun fin s' => ∃ v, fin = .done (.ret v) ∧ Q v s') E s := by
  obtain ⟨h0, g, d, tk0, os⟩ := s
  show wpAny _ _ (field (.ref z) 2 >>= _) _ _ _
  refine wpAny_bind (wpAny_field hz rfl (x := .bool false) rfl ?_)
  show wpAny _ _ (field (.ref z) 3 >>= _) _ _ _
  refine wpAny_bind (wpAny_field hz rfl (x := .ref TI) rfl ?_)
  refine wpAny_bind (wpAny_seqItems hTI rfl ?_)
  show wpAny _ _ (Builtin.SmallTypes.ownedTupleIsFree (.ref z) >>= _) _ _ _
  refine wpAny_bind (wpAny_tupleHeld_zip hz hT fun h1 z1 b1 => ?_)
  replace b1 : Heap.SameBut z h0 h1 := b1
  simp only [Bool.false_eq_true, if_false]
  refine wpAny_bind ?_
  rw [← Array.forIn_toList]
  simp only [List.forIn_cons, List.forIn_nil]
  refine wpAny_bind (wpAny_bind (wpAny_holding ?_))
  show wpAny _ _ (Builtin.SmallTypes.nextOf (.ref i1) >>= _) _ _ _
  refine wpAny_bind (D1.item i _ _ _ l1 (D1.over st1 b1 S.zf1) fun x h2 tk2 px j1 b2 => wpAny_pure ?_)
  replace b2 : Heap.SameBut i1 h1 h2 := b2
  refine wpAny_pure ?_
  refine wpAny_bind (wpAny_bind (wpAny_holding ?_))
  show wpAny _ _ (Builtin.SmallTypes.nextOf (.ref i2) >>= _) _ _ _
  refine wpAny_bind (D2.item i _ _ _ l2 (D2.over (D2.over st2 b1 S.zf2) b2 S.sep1_2) fun y h3 tk3 py j2 b3 => wpAny_pure ?_)
  replace b3 : Heap.SameBut i2 h2 h3 := b3
  refine wpAny_pure (wpAny_pure ?_)
  show wpAny _ _ (newTuple [x, y] >>= _) _ _ _
  refine wpAny_bind (wpAny_newTuple ?_)
  have size : h3.objs.size = h0.objs.size := by rw [b3.1, b2.1, b1.1]
  have keeps : ∀ c o, c ≠ z → c ≠ i1 → c ≠ i2 → h0.get? c = some o → h3.get? c = some o := fun c o c1 c2 c3 e => b3.extBut _ _ c3 (b2.extBut _ _ c2 (b1.extBut _ _ c1 e))
  have z3 : IsZipHeld h3 z TI TO T true := b3.extBut _ _ S.zi2 (b2.extBut _ _ S.zi1 z1)
  have k1 := D1.over j1 b3 S.sep2_1
  refine wpAny_pure ⟨_, rfl, ?_⟩
  show Q (.ref h3.objs.size) _
  have new : IsTupOf2 (h3.push { cls := .type "tuple", data := .seq #[x, y] }) h3.objs.size x y := Heap.get?_push_size _ rfl
  have size4 : (h3.push { cls := .type "tuple", data := .seq #[x, y] }).objs.size = h3.objs.size + 1 := Heap.size_push ..
  rw [size] at new size4 ⊢
  exact q x y _ tk3 px py (Heap.get?_push_of_some _ z3) (D1.frame _ _ _ k1 fun b _ o e => Heap.get?_push_of_some _ e) (D2.frame _ _ _ j2 fun b _ o e => Heap.get?_push_of_some _ e) new size4 fun c o c1 c2 c3 e => Heap.get?_push_of_some _ (keeps c o c1 c2 c3 e)
theorem held_end {Q : Fin → Shared → Prop} (S : ZipSep2 z TI TO i1 i2 fp1 fp2) (D1 : Draws prog w A i1 fp1 n1 P1 St1) (D2 : Draws prog w A i2 fp2 n2 P2 St2) (hz : IsZipHeld s.heap z TI TO T f) (hT : s.heap.get? T = some oT)
    (hTI : IsTupOf2 s.heap TI (.ref i1) (.ref i2)) (st1 : St1 i s.heap) (st2 : St2 i s.heap) (l1 : i ≤ n1) (l2 : i ≤ n2) (fin : i = n1 ∨ i = n2)
    (q : ∀ h' tk e, (∀ c o, c ≠ z → c ≠ i1 → c ≠ i2 → s.heap.get? c = some o → h'.get? c = some o) → (∃ o, h'.get? e = some o ∧ o.cls = .type "StopIteration") → E (.ref e) { s with heap := h', toks := tk }) :
    wpAny (model prog w) A (Builtin.«zip.__next__» ⟨[.ref z], []⟩) Q E s := by
  obtain ⟨h0, g, d, tk0, os⟩ := s
  show wpAny _ _ (field (.ref z) 2 >>= _) _ _ _
  refine wpAny_bind (wpAny_field hz rfl (x := .bool false) rfl ?_)
  show wpAny _ _ (field (.ref z) 3 >>= _) _ _ _
  refine wpAny_bind (wpAny_field hz rfl (x := .ref TI) rfl ?_)
  refine wpAny_bind (wpAny_seqItems hTI rfl ?_)
  show wpAny _ _ (Builtin.SmallTypes.ownedTupleIsFree (.ref z) >>= _) _ _ _
  refine wpAny_bind (wpAny_tupleHeld_zip hz hT fun h1 z1 b1 => ?_)
  replace b1 : Heap.SameBut z h0 h1 := b1
  simp only [Bool.false_eq_true, if_false]
  refine wpAny_bind ?_
  rw [← Array.forIn_toList]
  simp only [List.forIn_cons, List.forIn_nil]
  refine wpAny_bind (wpAny_bind (wpAny_holding ?_))
  show wpAny _ _ (Builtin.SmallTypes.nextOf (.ref i1) >>= _) _ _ _
  have t1 := D1.over st1 b1 S.zf1
  by_cases e1 : i = n1
  · subst e1
    refine wpAny_bind (D1.done _ _ _ t1 fun h2 e b2 he => ?_)
    exact q h2 tk0 e (fun c o c1 c2 _ x => b2 _ _ c2 (b1.extBut _ _ c1 x)) he
  · have e2 : i = n2 := fin.resolve_left e1
    subst e2
    refine wpAny_bind (D1.item i _ _ _ (by omega) t1 fun x h2 tk2 px j1 b2 => wpAny_pure ?_)
    replace b2 : Heap.SameBut i1 h1 h2 := b2
    refine wpAny_pure ?_
    refine wpAny_bind (wpAny_bind (wpAny_holding ?_))
    show wpAny _ _ (Builtin.SmallTypes.nextOf (.ref i2) >>= _) _ _ _
    refine wpAny_bind (D2.done _ _ _ (D2.over (D2.over st2 b1 S.zf2) b2 S.sep1_2) fun h3 e b3 he => ?_)
    exact q h3 tk2 e (fun c o c1 c2 c3 x => b3 _ _ c3 (b2.extBut _ _ c2 (b1.extBut _ _ c1 x))) he
theorem next_held {Q : Option Value → Shared → Prop} (S : ZipSep2 z TI TO i1 i2 fp1 fp2) (D1 : Draws prog w A.in1 i1 fp1 n1 P1 St1) (D2 : Draws prog w A.in1 i2 fp2 n2 P2 St2) (hz : IsZipHeld s.heap z TI TO T f) (hT : s.heap.get? T = some oT)
    (hTI : IsTupOf2 s.heap TI (.ref i1) (.ref i2)) (st1 : St1 i s.heap) (st2 : St2 i s.heap) (l1 : i < n1) (l2 : i < n2)
    (q : ∀ x y h' tk, P1 i x → P2 i y → IsZipHeld h' z TI TO T true → St1 (i + 1) h' → St2 (i + 1) h' → IsTupOf2 h' s.heap.objs.size x y → h'.objs.size = s.heap.objs.size + 1 →
      (∀ c o, c ≠ z → c ≠ i1 → c ≠ i2 → s.heap.get? c = some o → h'.get? c = some o) → Q (some (.ref s.heap.objs.size)) { s with heap := h', toks := tk }) :
    wpAny (model prog w) A (pyNext (.ref z)) Q E s := by
  have ty : s.TypeIs (.ref z) "zip" := ⟨_, hz, rfl⟩
  unfold pyNext
  refine wpAny_bind (wpAny_attempt (wpAny_callSpecial?_slot (name := Str.ofString "__next__") ty F.slot_zip_next (wpAny_call_entry F.slot_zip_next ty F.entry_zip_next ?_ (F.args_zip_next_1 _))))
  exact held_item S D1 D2 hz hT hTI st1 st2 l1 l2 fun x y h' tk a1 a2 a3 a4 a5 a6 a7 a8 => wpAny_pure (q x y h' tk a1 a2 a3 a4 a5 a6 a7 a8)
theorem stop_held {Q : Option Value → Shared → Prop} (S : ZipSep2 z TI TO i1 i2 fp1 fp2) (D1 : Draws prog w A.in1 i1 fp1 n1 P1 St1) (D2 : Draws prog w A.in1 i2 fp2 n2 P2 St2) (hz : IsZipHeld s.heap z TI TO T f) (hT : s.heap.get? T = some oT)
    (hTI : IsTupOf2 s.heap TI (.ref i1) (.ref i2)) (st1 : St1 i s.heap) (st2 : St2 i s.heap) (l1 : i ≤ n1) (l2 : i ≤ n2) (fin : i = n1 ∨ i = n2)
    (q : ∀ h' tk, (∀ c o, c ≠ z → c ≠ i1 → c ≠ i2 → s.heap.get? c = some o → h'.get? c = some o) → Q none { s with heap := h', toks := tk }) : wpAny (model prog w) A (pyNext (.ref z)) Q E s := by
  have ty : s.TypeIs (.ref z) "zip" := ⟨_, hz, rfl⟩
  unfold pyNext
  refine wpAny_bind (wpAny_attempt (wpAny_callSpecial?_slot (name := Str.ofString "__next__") ty F.slot_zip_next (wpAny_call_entry F.slot_zip_next ty F.entry_zip_next (held_end S D1 D2 hz hT hTI st1 st2 l1 l2 fin ?_) (F.args_zip_next_1 _))))
  rintro h' tk e keeps ⟨o, ho, hc⟩
  refine wpAny_bind (wpAny_isInstance (T := "StopIteration") (b := true) ⟨o, ho, hc⟩ isSubtype_stop ?_)
  exact wpAny_pure (q _ _ keeps)
end
/-! ### such a zip as the argument of dict() -/
theorem zip_pairs {prog : Program} {w : World} {z TI TO i1 i2 : Addr} {fp1 fp2 : List Addr} {n1 n2 : Nat} {P1 P2 : Nat → Value → Prop} {St1 St2 : Nat → Heap → Prop} (S : ZipSep2 z TI TO i1 i2 fp1 fp2)
    (D1 : ∀ A : Around, A.handled = none → Draws prog w A i1 fp1 n1 P1 St1) (D2 : ∀ A : Around, A.handled = none → Draws prog w A i2 fp2 n2 P2 St2) (h1 : ∀ i h, St1 i h → ∀ b ∈ fp1, ∃ o, h.get? b = some o) (h2 : ∀ i h, St2 i h → ∀ b ∈ fp2, ∃ o, h.get? b = some o) (A0 : Around) (hA0 : A0.handled = none) :
    PairArg prog w "zip" z ([z, TI, TO] ++ (fp1 ++ fp2)) [z, TO, i1, i2] (min n1 n2) (fun i k v => P1 i k ∧ P2 i v) (fun h => IsZip h z TI TO .none ∧ IsTupOf2 h TI (.ref i1) (.ref i2) ∧ (∃ a b, IsTupOf2 h TO a b) ∧ St1 0 h ∧ St2 0 h) where
  type := fun s ok => ⟨_, ok.1, rfl⟩
  notDict := by decide
  keep := fun h h' ok k => by
    obtain ⟨hz, hTI, ⟨a, b, hTO⟩, s1, s2⟩ := ok
    exact ⟨k _ _ hz, k _ _ hTI, ⟨a, b, k _ _ hTO⟩, (D1 A0 hA0).frame _ _ _ s1 fun b _ o e => k b o e, (D2 A0 hA0).frame _ _ _ s2 fun b _ o e => k b o e⟩
  there := fun h ok b hb => by
    obtain ⟨hz, hTI, ⟨a, c, hTO⟩, s1, s2⟩ := ok
    rcases List.mem_append.mp hb with hb | hb
    · simp only [List.mem_cons, List.not_mem_nil, or_false] at hb
      rcases hb with e | e | e
      · exact ⟨_, e ▸ hz⟩
      · exact ⟨_, e ▸ hTI⟩
      · exact ⟨_, e ▸ hTO⟩
    · rcases List.mem_append.mp hb with hb | hb
      · exact h1 _ _ s1 b hb
      · exact h2 _ _ s2 b hb
  sub := fun b hb => by
    simp only [List.mem_cons, List.not_mem_nil, or_false] at hb
    rcases hb with e | e | e | e
    · rw [e]; simp
    · rw [e]; simp
    · rw [e]; exact List.mem_append_right _ (List.mem_append_left _ S.mem1)
    · rw [e]; exact List.mem_append_right _ (List.mem_append_right _ S.mem2)
  noKeys := fun A s Q E hA ok h => getAttrOr_miss_zip ok.1 rfl rfl rfl zip_no_keys (by decide +kernel) hA h
  iter := fun A s d Q E hA ok hd hdf h => by
    obtain ⟨hz, hTI, ⟨a, b, hTO⟩, s1, s2⟩ := ok
    have dz : d ≠ z := fun e => hdf (by rw [e]; simp)
    have dTI : d ≠ TI := fun e => hdf (by rw [e]; simp)
    have dTO : d ≠ TO := fun e => hdf (by rw [e]; simp)
    have d1 : d ∉ fp1 := fun e => hdf (List.mem_append_right _ (List.mem_append_left _ e))
    have d2 : d ∉ fp2 := fun e => hdf (List.mem_append_right _ (List.mem_append_right _ e))
    have di1 : d ≠ i1 := fun e => d1 (by rw [e]; exact S.mem1)
    have di2 : d ≠ i2 := fun e => d2 (by rw [e]; exact S.mem2)
    refine wpAny_pyIter_zip hz (h z [z, TO, i1, i2] (fun i h => IsTupOf2 h TI (.ref i1) (.ref i2) ∧ St1 i h ∧ St2 i h ∧
      ((IsZip h z TI TO .none ∧ ∃ a b, IsTupOf2 h TO a b) ∨ ∃ T f oT, IsZipHeld h z TI TO T f ∧ h.get? T = some oT ∧ T ≠ z ∧ T ≠ i1 ∧ T ≠ i2 ∧ T ≠ d)) s.heap s.toks ?_
      ⟨hTI, s1, s2, .inl ⟨hz, a, b, hTO⟩⟩ (fun _ _ e => e) fun b hb => .inl hb)
    exact {
      off := fun hm => by
        simp only [List.mem_cons, List.not_mem_nil, or_false] at hm
        rcases hm with e | e | e | e
        · exact dz e
        · exact dTO e
        · exact di1 e
        · exact di2 e
      frame := fun i ha hb st k => by
        obtain ⟨hTI, s1, s2, hz⟩ := st
        refine ⟨k _ _ (Ne.symm dTI) hTI, (D1 A0 hA0).frame _ _ _ s1 fun b m o e => k b o (fun q => d1 (q ▸ m)) e, (D2 A0 hA0).frame _ _ _ s2 fun b m o e => k b o (fun q => d2 (q ▸ m)) e, ?_⟩
        rcases hz with ⟨hz, a, b, hTO⟩ | ⟨T, f, oT, hz, hT, r1, r2, r3, r4⟩
        · exact .inl ⟨k _ _ (Ne.symm dz) hz, a, b, k _ _ (Ne.symm dTO) hTO⟩
        · exact .inr ⟨T, f, oT, k _ _ (Ne.symm dz) hz, k _ _ r4 hT, r1, r2, r3, r4⟩
      item := fun i sa Qa Ea hi st hds hQ => by
        obtain ⟨hTI, s1, s2, hz⟩ := st
        have l1 : i < n1 := Nat.lt_of_lt_of_le hi (Nat.min_le_left ..)
        have l2 : i < n2 := Nat.lt_of_lt_of_le hi (Nat.min_le_right ..)
        have lt : ∀ {c o}, sa.heap.get? c = some o → sa.heap.objs.size ≠ c := fun e => Nat.ne_of_gt (Heap.lt_size e)
        obtain ⟨o1, e1⟩ := h1 _ _ s1 i1 S.mem1
        obtain ⟨o2, e2⟩ := h2 _ _ s2 i2 S.mem2
        rcases hz with ⟨hz, a, b, hTO⟩ | ⟨T, f, oT, hz, hT, r1, r2, r3, r4⟩
        · refine wpAny_pyNext_zipD2_item S (D1 A.in1 hA) (D2 A.in1 hA) hz hTI hTO s1 s2 l1 l2 fun x y h' tk px py a1 a2 t1 t2 a5 a6 k => ?_
          exact hQ sa.heap.objs.size x y h' tk ⟨px, py⟩ (.inl ⟨_, a5, rfl, _, rfl⟩)
            ⟨k _ _ S.TIz S.TITO S.TIi1 S.TIi2 hTI, t1, t2, .inr ⟨sa.heap.objs.size, false, _, a1, a5, lt hz, lt e1, lt e2, Nat.ne_of_gt hds⟩⟩
            fun c o hc e => k c o (fun x => hc (by simp [x])) (fun x => hc (by simp [x])) (fun x => hc (by simp [x])) (fun x => hc (by simp [x])) e
        · refine next_held S (D1 A.in1 hA) (D2 A.in1 hA) hz hT hTI s1 s2 l1 l2 fun x y h' tk px py a1 t1 t2 a5 a6 k => ?_
          exact hQ sa.heap.objs.size x y h' tk ⟨px, py⟩ (.inl ⟨_, a5, rfl, _, rfl⟩)
            ⟨k _ _ S.TIz S.TIi1 S.TIi2 hTI, t1, t2, .inr ⟨T, true, oT, a1, k _ _ r1 r2 r3 hT, r1, r2, r3, r4⟩⟩
            fun c o hc e => k c o (fun x => hc (by simp [x])) (fun x => hc (by simp [x])) (fun x => hc (by simp [x])) e
      done := fun sa Qa Ea st hQ => by
        obtain ⟨hTI, s1, s2, hz⟩ := st
        have fin : min n1 n2 = n1 ∨ min n1 n2 = n2 := by omega
        rcases hz with ⟨hz, a, b, hTO⟩ | ⟨T, f, oT, hz, hT, r1, r2, r3, r4⟩
        · exact wpAny_pyNext_zipD2_end S (D1 A.in1 hA) (D2 A.in1 hA) hz hTI hTO s1 s2 (Nat.min_le_left ..) (Nat.min_le_right ..) fin fun h' tk k => hQ h' tk fun c o hc e => k c o (fun x => hc (by simp [x])) (fun x => hc (by simp [x])) (fun x => hc (by simp [x])) (fun x => hc (by simp [x])) e
        · exact stop_held S (D1 A.in1 hA) (D2 A.in1 hA) hz hT hTI s1 s2 (Nat.min_le_left ..) (Nat.min_le_right ..) fin fun h' tk k => hQ h' tk fun c o hc e => k c o (fun x => hc (by simp [x])) (fun x => hc (by simp [x])) (fun x => hc (by simp [x])) e }
end Uq
namespace Uq
open PySem PySem.Spec PyProof.Rows L2
/-! ### dict(zip(t, l)), t a tuple of keys, l a list -/
theorem rel_key : ∀ {k : Key} {u : Value}, RelV (kV k) u → keyIs k u = true
  | .inl i, _, ⟨t, e⟩ => by
    rw [e]
    exact keyIs_int i t
  | .inr x, _, ⟨t, e⟩ => by
    rw [e]
    exact keyIs_str x t
theorem kv_zip : ∀ {ks : List Key} {ys : List V} {us : List Value}, Vals ys us → KV (ks.zip ys) (ks.zip us)
  | [], _, _, _ => .nil
  | _ :: _, _, _, .nil => .nil
  | k :: ks, _, _, .cons r rs => .cons ⟨rfl, r⟩ (kv_zip rs)
def tDz (K : PySem.W.Frag) (ta : TA) : TE := fun σ H Q => ta σ H fun vs H1 => ∃ (a b : Addr) (ks : List Key) (ys : List V), vs = [.ref a, .ref b] ∧ SqT K H1 a (ks.map kV) ∧ SqL K H1 b ys ∧ ∀ p, H1 p = none → Q (.ref p) (upd H1 p (.dK (mergeK [] (ks.zip ys))))
theorem ltA {x y : Nat} (h : x < y) : ¬ (show Addr from x) = y := Nat.ne_of_lt h
theorem gtA {x y : Nat} (h : y < x) : ¬ (show Addr from x) = y := Nat.ne_of_gt h
theorem notin2 {x u v : Addr} (h1 : ¬ x = u) (h2 : ¬ x = v) : x ∉ [u, v] := by
  simp only [List.mem_cons, List.not_mem_nil, or_false, not_or]
  exact ⟨h1, h2⟩
theorem apart5 {a b n : Nat} (ha : a < n) (hb : b < n) : ZipSep2 (n + 4) (n + 2) (n + 3) n (n + 1) [n, a] [n + 1, b] where
  TIz := ltA (by omega)
  TOz := ltA (by omega)
  TITO := ltA (by omega)
  TIi1 := gtA (by omega)
  mem1 := List.mem_cons_self
  zf1 := notin2 (gtA (by omega)) (gtA (by omega))
  Tf1 := notin2 (gtA (by omega)) (gtA (by omega))
  TIi2 := gtA (by omega)
  mem2 := List.mem_cons_self
  zf2 := notin2 (gtA (by omega)) (gtA (by omega))
  Tf2 := notin2 (gtA (by omega)) (gtA (by omega))
  sep1_2 := notin2 (ltA (by omega)) (gtA (by omega))
  sep2_1 := notin2 (gtA (by omega)) (gtA (by omega))
theorem pe_dz {X : Cx} {e1 e2 : Expr} {ta : TA} {p1 p2 q1 q2 : Pos} (hc : X.calm = true) (hgd : Gl X "dict") (hmd : X.mg "dict" = none) (hgz : Gl X "zip") (hmz : X.mg "zip" = none) (ha : PA X [e1, e2] ta)
    (hs : starEach [e1, e2] X.env = (false, eval e1 X.env) :: starEach [e2] X.env := by rfl) (hpl : ∀ pos : Pos, (backTo pos (starEach [e2] X.env)).any (·.1) = false := by intro _; rfl) :
    PE X (.Call (.Name "dict" p1) [.Call (.Name "zip" p2) [e1, e2] [] q2] [] q1) (tDz X.K ta) := by
  refine ⟨fun pins s σ H Q I h => ?_⟩
  refine wpAny_Call_Name_kw (ld_blt I hgd hmd boot_dict ?_ (by decide) (by decide))
  refine PyProof.Rows.callWith_type1 ?_ rfl rfl
  refine args_cons ?_ rfl
  refine Call_ (ld_blt I hgz hmz boot_zip (PyProof.Rows.callWith_type1 (thn (ha.run q2 pins s σ H _ I h) ?_) hs (hpl q2)))
  rintro us s1 ⟨vs, H1, I1, r1, a, b, ks, ys, rfl, ht, hl, q⟩
  obtain ⟨u1, u2, rfl, ra, rb⟩ := vals2 r1
  cases (show u1 = Value.ref a from ra)
  cases (show u2 = Value.ref b from rb)
  obtain ⟨its, rv, pt, hz⟩ := I1.tuple ht
  obtain ⟨its2, rv2, pl, hz2⟩ := I1.list hl
  have isT : s1.heap.IsTuple a its.toArray := pt
  have isL := pl.isList
  have la : a < s1.heap.objs.size := by
    obtain ⟨o, e, _⟩ := isT
    exact Heap.lt_size e
  have lb : b < s1.heap.objs.size := by
    obtain ⟨o, e, _⟩ := isL
    exact Heap.lt_size e
  refine zip_begins2 (begins_tuple a its.toArray) (begins_list b its2.toArray) isT isL fun h' hz' hTI hTO g1 g2 hsz hk => ?_
  refine args_nil ?_
  generalize en : s1.heap.objs.size = n at *
  have isT' : h'.IsTuple a its.toArray := isT.at fun o e => hk _ o e
  have isL' : h'.IsList b its2.toArray := isL.at fun o e => hk _ o e
  have P := zip_pairs (prog := X.prog) (w := X.w) (apart5 la lb) (n1 := its.toArray.size) (n2 := its2.toArray.size)
    (fun A hA => Draws.tuple hA n a (Nat.ne_of_lt la) its.toArray) (fun A hA => Draws.list hA (n + 1) b (Nat.ne_of_lt (Nat.lt_succ_of_lt lb)) its2.toArray)
    (fun i h st c hcm => by
      obtain ⟨⟨o, e, _⟩, o2, e2, _⟩ := st
      simp only [List.mem_cons, List.not_mem_nil, or_false] at hcm
      rcases hcm with z | z
      · exact ⟨o, z ▸ e⟩
      · exact ⟨o2, z ▸ e2⟩)
    (fun i h st c hcm => by
      obtain ⟨⟨o, e, _⟩, o2, e2, _⟩ := st
      simp only [List.mem_cons, List.not_mem_nil, or_false] at hcm
      rcases hcm with z | z
      · exact ⟨o, z ▸ e⟩
      · exact ⟨o2, z ▸ e2⟩) X.A (I1.ok.hd hc)
  have lk : ks.length = its.length := by
    have z := rv.length
    rw [List.length_map] at z
    exact z
  have have' : PairsHave (mixKind X.prog X.w) (min its.toArray.size its2.toArray.size) (fun i k v => its.toArray[i]? = some k ∧ its2.toArray[i]? = some v) (ks.zip its2) := by
    refine ⟨by rw [List.length_zip, List.size_toArray, List.size_toArray, lk], fun i key v r => ?_⟩
    obtain ⟨e1, e2⟩ := r
    rw [List.getElem?_toArray] at e1 e2
    have hi : i < ks.length := by
      rw [lk]
      exact (List.getElem?_eq_some_iff.mp e1).1
    have ek : ks[i]? = some ks[i] := List.getElem?_eq_getElem hi
    refine ⟨ks[i], ?_, ?_⟩
    · rw [List.getElem?_zip_eq_some]
      exact ⟨ek, e2⟩
    · have em : (ks.map kV)[i]? = some (kV ks[i]) := by
        rw [List.getElem?_map, ek]
        rfl
      obtain ⟨u, eu, ru⟩ := rv.get em
      rw [e1] at eu
      cases eu
      exact rel_key ru
  have small : min its.toArray.size its2.toArray.size ≤ sizeLine := by
    rw [List.size_toArray, List.size_toArray, ← rv2.length]
    exact Nat.le_trans (Nat.min_le_right ..) hz2
  refine PySem.call_dict_pairs (knd := mixKind X.prog X.w) P (I1.ok.hd hc) ⟨hz', hTI, ⟨_, _, hTO⟩, ⟨⟨_, g1, rfl, rfl⟩, isT'⟩, ⟨⟨_, g2, rfl, rfl⟩, isL'⟩⟩ have' small fun h'' tk hd' k => ?_
  have old : ∀ c o, s1.heap.get? c = some o → h''.get? c = some o := fun c o e => by
    have lc : c < n := en ▸ Heap.lt_size e
    have lc' : (c : Nat) < n := lc
    refine k c o ?_ (hk c o e)
    simp only [List.mem_cons, List.not_mem_nil, or_false, not_or]
    exact ⟨ltA (Nat.lt_of_lt_of_le lc' (Nat.le_add_right _ _)), ltA (Nat.lt_of_lt_of_le lc' (Nat.le_add_right _ _)), ltA lc', ltA (Nat.lt_of_lt_of_le lc' (Nat.le_add_right _ _))⟩
  have big := I1.big
  rw [en] at big
  have below : s1.heap.objs.size ≤ h'.objs.size := by
    rw [en, hsz]
    exact Nat.le_add_right _ _
  have hm : (h'.objs.size == sysModules) = false := by
    rw [hsz]
    exact beq_eq_false_iff_ne.mpr (Nat.ne_of_gt (Nat.lt_of_lt_of_le big (Nat.le_add_right _ _)))
  have rel := kv_zip (ks := ks) rv2
  have hlen : (mergeK [] (ks.zip ys)).length ≤ sizeLine := by
    refine Nat.le_trans (length_mergeK (ks.zip ys) []) ?_
    rw [List.length_nil, Nat.zero_add, List.length_zip]
    exact Nat.le_trans (Nat.min_le_right ..) hz2
  exact ⟨.ref h'.objs.size, _, I1.laid (t' := tk) (a := h'.objs.size) (o := .dK (mergeK [] (ks.zip ys))) old below (show ObjOk X.prog X.w _ _ _ (.dK (mergeK [] (ks.zip ys))) from ⟨hlen, hm, merged [] (ks.zip its2), KV.merge rel .nil, hd'⟩), rfl, q _ (I1.hok.fresh below)⟩
end Uq
namespace Uq
open PySem PySem.Spec PyProof.Rows L2
/-! ### in, not in: data within a tuple of data -/
section
variable {X : Cx}
def rInTp (K : PySem.W.Frag) (neg : Bool) : R2 := fun x y H Q => ∃ d ds, Dp K H x d ∧ Dp K H y (.tuple ds) ∧ SeqAt.shaped d = true ∧ SeqAt.shaped (.tuple ds) = true ∧ Q (.bl (if neg then !(ds.any fun z => PyData.eqv z d) else ds.any fun z => PyData.eqv z d)) H
theorem op_notInTp (hu : X.A.units + 65 < cLine) : OpR X (compareOp .NotIn) (rInTp X.K true) := by
  intro pins s σ H x y v u Q I rx ry ⟨d, ds, hd, he, sd, se, q⟩
  obtain ⟨as, r1⟩ := Dp.reads I d x v hd rx
  obtain ⟨bs, r2⟩ := Dp.reads I (.tuple ds) y u he ry
  exact SeqAt.notIn_tuple_reads r2 r1 (SeqAt.canLay_of_shaped se) (SeqAt.canLay_of_shaped sd) (room_in_shaped sd hu) ⟨.bl _, H, I, rfl, q⟩
end
/-- a list display: its place is none of the top's -/
theorem pe_lstN {X : Cx} {es : List Expr} {t : TA} {pos : Pos} (h : PA X es t) : PE X (.List es pos) (tLstB t) := by
  constructor
  intro pins s σ H Q I hq
  apply wpAny_List_spliced
  apply thn (h.run pos pins s σ H _ I hq)
  rintro us s1 ⟨xs, H1, I1, r, z, q⟩
  rw [r.length] at z
  refine ⟨z, ?_⟩
  have hf : H1 s1.heap.objs.size = none := I1.hok.fresh (Nat.le_refl _)
  have new : ObjOk X.prog X.w (upd H1 s1.heap.objs.size (.lst xs)) (s1.heap.push { cls := .type "list", data := .seq us.toArray }) s1.heap.objs.size (.lst xs) := ⟨by rw [r.length]; exact z, us, 0, r, Heap.get?_push_size _ rfl⟩
  exact ⟨.ref s1.heap.objs.size, _, I1.laid (t' := s1.toks) (fun b u e => Heap.get?_push_of_some _ e) (Nat.le_refl _) new, rfl, q _ hf (Nat.ne_of_gt I1.big)⟩
end Uq
namespace Uq
open PySem PySem.Spec PyProof.Rows L2
theorem all_rep (k : Nat) : (List.replicate k true).all id = true := by
  rw [List.all_eq_true]
  intro x hx
  exact (List.mem_replicate.mp hx).2
def topS (i : Nat) : Stmt := PySem.Challenge.pw_anyasked_k18_counts_and_what_a_table_tel.main.body.getD i (.Pass ⟨0, 0, 0, 0⟩)
abbrev s_is_integer : Stmt := topS 14
abbrev N_is_integer : List Str := ["value"]
theorem sc_is_integer : FnScope N_is_integer ["value"] (defScope s_is_integer) := ⟨rfl, rfl, rfl, by decide +kernel, rfl, by decide +kernel, by decide +kernel⟩
abbrev s_is_name : Stmt := topS 15
abbrev N_is_name : List Str := ["value"]
theorem sc_is_name : FnScope N_is_name ["value"] (defScope s_is_name) := ⟨rfl, rfl, rfl, by decide +kernel, rfl, by decide +kernel, by decide +kernel⟩
abbrev s_least_terms : Stmt := topS 16
abbrev N_least_terms : List Str := ["over", "under", "common"]
theorem sc_least_terms : FnScope N_least_terms ["over", "under"] (defScope s_least_terms) := ⟨rfl, rfl, rfl, by decide +kernel, rfl, by decide +kernel, by decide +kernel⟩
abbrev s_read_number : Stmt := topS 17
abbrev N_read_number : List Str := ["word", "most", "number"]
theorem sc_read_number : FnScope N_read_number ["word", "most"] (defScope s_read_number) := ⟨rfl, rfl, rfl, by decide +kernel, rfl, by decide +kernel, by decide +kernel⟩
abbrev s_is_units : Stmt := topS 21
abbrev N_is_units : List Str := ["value", "base", "how"]
theorem sc_is_units : FnScope N_is_units ["value"] (defScope s_is_units) := ⟨rfl, rfl, rfl, by decide +kernel, rfl, by decide +kernel, by decide +kernel⟩
abbrev s_is_counts : Stmt := topS 28
abbrev N_is_counts : List Str := ["page", "value", "count"]
theorem sc_is_counts : FnScope N_is_counts ["page", "value"] (defScope s_is_counts) := ⟨rfl, rfl, rfl, by decide +kernel, rfl, by decide +kernel, by decide +kernel⟩
abbrev s_many_in : Stmt := topS 29
abbrev N_many_in : List Str := ["page", "counts", "part", "among", "end", "count"]
theorem sc_many_in : FnScope N_many_in ["page", "counts", "part"] (defScope s_many_in) := ⟨rfl, rfl, rfl, by decide +kernel, rfl, by decide +kernel, by decide +kernel⟩
abbrev s_way_up : Stmt := topS 36
abbrev N_way_up : List Str := ["lines", "part", "way"]
theorem sc_way_up : FnScope N_way_up ["lines", "part"] (defScope s_way_up) := ⟨rfl, rfl, rfl, by decide +kernel, rfl, by decide +kernel, by decide +kernel⟩
abbrev s_ends_among : Stmt := topS 37
abbrev N_ends_among : List Str := ["lines", "wholes", "line", "part"]
theorem sc_ends_among : FnScope N_ends_among ["lines"] (defScope s_ends_among) := ⟨rfl, rfl, rfl, by decide +kernel, rfl, by decide +kernel, by decide +kernel⟩
abbrev s_read_page : Stmt := topS 38
abbrev N_read_page : List Str := ["text", "rows", "units", "row"]
theorem sc_read_page : FnScope N_read_page ["text"] (defScope s_read_page) := ⟨rfl, rfl, rfl, by decide +kernel, rfl, by decide +kernel, by decide +kernel⟩
abbrev s_read_units : Stmt := topS 39
abbrev N_read_units : List Str := ["words", "units"]
theorem sc_read_units : FnScope N_read_units ["words"] (defScope s_read_units) := ⟨rfl, rfl, rfl, by decide +kernel, rfl, by decide +kernel, by decide +kernel⟩
abbrev s_is_asked : Stmt := topS 40
abbrev N_is_asked : List Str := ["words"]
theorem sc_is_asked : FnScope N_is_asked ["words"] (defScope s_is_asked) := ⟨rfl, rfl, rfl, by decide +kernel, rfl, by decide +kernel, by decide +kernel⟩
abbrev s_read_parts : Stmt := topS 41
abbrev N_read_parts : List Str := ["units", "first", "rows", "lines", "number", "words", "line", "part"]
theorem sc_read_parts : FnScope N_read_parts ["units", "first", "rows"] (defScope s_read_parts) := ⟨rfl, rfl, rfl, by decide +kernel, rfl, by decide +kernel, by decide +kernel⟩
abbrev s_read_part : Stmt := topS 42
abbrev N_read_part : List Str := ["units", "lines", "words", "part", "above", "marks", "shares", "told", "word"]
theorem sc_read_part : FnScope N_read_part ["units", "lines", "words"] (defScope s_read_part) := ⟨rfl, rfl, rfl, by decide +kernel, rfl, by decide +kernel, by decide +kernel⟩
abbrev s_read_share : Stmt := topS 43
abbrev N_read_share : List Str := ["units", "word"]
theorem sc_read_share : FnScope N_read_share ["units", "word"] (defScope s_read_share) := ⟨rfl, rfl, rfl, by decide +kernel, rfl, by decide +kernel, by decide +kernel⟩
abbrev s_is_too_much : Stmt := topS 44
abbrev N_is_too_much : List Str := ["lines", "part"]
theorem sc_is_too_much : FnScope N_is_too_much ["lines", "part"] (defScope s_is_too_much) := ⟨rfl, rfl, rfl, by decide +kernel, rfl, by decide +kernel, by decide +kernel⟩
abbrev s_law_pot : Stmt := topS 48
abbrev N_law_pot : List Str := ["_law_script", "_law_place", "_law_cell", "_law_own", "_law_small"]
theorem sc_law_pot : FnScope N_law_pot ["_law_script", "_law_place"] (defScope s_law_pot) := ⟨rfl, rfl, rfl, by decide +kernel, rfl, by decide +kernel, by decide +kernel⟩
abbrev s_law_take : Stmt := topS 49
abbrev N_law_take : List Str := ["_law_pot_here", "_law_upto", "_law_digit", "_law_prime", "_law_mixed"]
theorem sc_law_take : FnScope N_law_take ["_law_pot_here", "_law_upto"] (defScope s_law_take) := ⟨rfl, rfl, rfl, by decide +kernel, rfl, by decide +kernel, by decide +kernel⟩
abbrev s_law_of : Stmt := topS 50
abbrev N_law_of : List Str := ["_law_pot_here", "_law_some_here"]
theorem sc_law_of : FnScope N_law_of ["_law_pot_here", "_law_some_here"] (defScope s_law_of) := ⟨rfl, rfl, rfl, by decide +kernel, rfl, by decide +kernel, by decide +kernel⟩
abbrev s_law_some : Stmt := topS 51
abbrev N_law_some : List Str := ["_law_pot_here", "_law_pool", "_law_many", "_law_left", "_law_found", "_law_lap"]
theorem sc_law_some : FnScope N_law_some ["_law_pot_here", "_law_pool", "_law_many"] (defScope s_law_some) := ⟨rfl, rfl, rfl, by decide +kernel, rfl, by decide +kernel, by decide +kernel⟩
abbrev s_law_cells : Stmt := topS 52
abbrev N_law_cells : List Str := ["_law_script", "_law_most"]
theorem sc_law_cells : FnScope N_law_cells ["_law_script", "_law_most"] (defScope s_law_cells) := ⟨rfl, rfl, rfl, by decide +kernel, rfl, by decide +kernel, by decide +kernel⟩
abbrev s_law_names : Stmt := topS 53
abbrev N_law_names : List Str := ["_law_pot_here", "_law_many", "_law_pool"]
theorem sc_law_names : FnScope N_law_names ["_law_pot_here", "_law_many"] (defScope s_law_names) := ⟨rfl, rfl, rfl, by decide +kernel, rfl, by decide +kernel, by decide +kernel⟩
abbrev s_law_tree : Stmt := topS 54
abbrev N_law_tree : List Str := ["_law_pot_here", "_law_shapes_here", "_law_shape"]
theorem sc_law_tree : FnScope N_law_tree ["_law_pot_here", "_law_shapes_here"] (defScope s_law_tree) := ⟨rfl, rfl, rfl, by decide +kernel, rfl, by decide +kernel, by decide +kernel⟩
abbrev s_law_shapes : Stmt := topS 55
abbrev N_law_shapes : List Str := []
theorem sc_law_shapes : FnScope N_law_shapes [] (defScope s_law_shapes) := ⟨rfl, rfl, rfl, by decide +kernel, rfl, by decide +kernel, by decide +kernel⟩
abbrev s_law_units : Stmt := topS 56
abbrev N_law_units : List Str := ["_law_pot_here", "_law_most"]
theorem sc_law_units : FnScope N_law_units ["_law_pot_here", "_law_most"] (defScope s_law_units) := ⟨rfl, rfl, rfl, by decide +kernel, rfl, by decide +kernel, by decide +kernel⟩
abbrev s_law_rounded : Stmt := topS 57
abbrev N_law_rounded : List Str := ["_law_how", "_law_above", "_law_under", "_law_low", "_law_rest"]
theorem sc_law_rounded : FnScope N_law_rounded ["_law_how", "_law_above", "_law_under"] (defScope s_law_rounded) := ⟨rfl, rfl, rfl, by decide +kernel, rfl, by decide +kernel, by decide +kernel⟩
abbrev s_law_parts : Stmt := topS 58
abbrev N_law_parts : List Str := ["_law_lore_here", "_law_row"]
theorem sc_law_parts : FnScope N_law_parts ["_law_lore_here"] (defScope s_law_parts) := ⟨rfl, rfl, rfl, by decide +kernel, rfl, by decide +kernel, by decide +kernel⟩
abbrev s_law_ends : Stmt := topS 59
abbrev N_law_ends : List Str := ["_law_lore_here", "_law_wholes", "_law_row", "_law_part"]
theorem sc_law_ends : FnScope N_law_ends ["_law_lore_here"] (defScope s_law_ends) := ⟨rfl, rfl, rfl, by decide +kernel, rfl, by decide +kernel, by decide +kernel⟩
abbrev s_law_ends_of : Stmt := topS 60
abbrev N_law_ends_of : List Str := ["_law_lore_here", "_law_part", "_law_known", "_law_name", "_law_above", "_law_share", "_law_far", "_law_end"]
theorem sc_law_ends_of : FnScope N_law_ends_of ["_law_lore_here", "_law_part"] (defScope s_law_ends_of) := ⟨rfl, rfl, rfl, by decide +kernel, rfl, by decide +kernel, by decide +kernel⟩
abbrev s_law_weights : Stmt := topS 61
abbrev N_law_weights : List Str := ["_law_lore_here", "_law_part", "_law_own", "_law_end"]
theorem sc_law_weights : FnScope N_law_weights ["_law_lore_here", "_law_part"] (defScope s_law_weights) := ⟨rfl, rfl, rfl, by decide +kernel, rfl, by decide +kernel, by decide +kernel⟩
abbrev s_law_number : Stmt := topS 62
abbrev N_law_number : List Str := ["_law_lore_here", "_law_counts", "_law_part", "_law_weight", "_law_many"]
theorem sc_law_number : FnScope N_law_number ["_law_lore_here", "_law_counts", "_law_part"] (defScope s_law_number) := ⟨rfl, rfl, rfl, by decide +kernel, rfl, by decide +kernel, by decide +kernel⟩
abbrev s_law_share_of : Stmt := topS 63
abbrev N_law_share_of : List Str := ["_law_pot_here", "_law_units_here", "_law_many", "_law_whole"]
theorem sc_law_share_of : FnScope N_law_share_of ["_law_pot_here", "_law_units_here", "_law_many", "_law_whole"] (defScope s_law_share_of) := ⟨rfl, rfl, rfl, by decide +kernel, rfl, by decide +kernel, by decide +kernel⟩
abbrev s_law_lore : Stmt := topS 64
abbrev N_law_lore : List Str := ["_law_pot_here", "_law_shapes_here", "_law_most", "_law_size", "_law_names_here", "_law_shape", "_law_units_here", "_law_bare", "_law_name", "_law_above", "_law_counts", "_law_found", "_law_share", "_law_far", "_law_many", "_law_whole", "_law_near", "_law_end"]
theorem sc_law_lore : FnScope N_law_lore ["_law_pot_here", "_law_shapes_here", "_law_most", "_law_size"] (defScope s_law_lore) := ⟨rfl, rfl, rfl, by decide +kernel, rfl, by decide +kernel, by decide +kernel⟩
abbrev s_law_line : Stmt := topS 65
abbrev N_law_line : List Str := ["_law_row", "_law_name", "_law_above", "_law_share", "_law_far", "_law_line_here"]
theorem sc_law_line : FnScope N_law_line ["_law_row"] (defScope s_law_line) := ⟨rfl, rfl, rfl, by decide +kernel, rfl, by decide +kernel, by decide +kernel⟩
abbrev s_law_text : Stmt := topS 66
abbrev N_law_text : List Str := ["_law_lore_here", "_law_head", "_law_row"]
theorem sc_law_text : FnScope N_law_text ["_law_lore_here"] (defScope s_law_text) := ⟨rfl, rfl, rfl, by decide +kernel, rfl, by decide +kernel, by decide +kernel⟩
abbrev s_law_common : Stmt := topS 67
abbrev N_law_common : List Str := ["_law_one", "_law_other", "_law_left", "_law_right_here"]
theorem sc_law_common : FnScope N_law_common ["_law_one", "_law_other"] (defScope s_law_common) := ⟨rfl, rfl, rfl, by decide +kernel, rfl, by decide +kernel, by decide +kernel⟩
abbrev s_law_pair : Stmt := topS 68
abbrev N_law_pair : List Str := ["_law_above", "_law_under", "_law_by"]
theorem sc_law_pair : FnScope N_law_pair ["_law_above", "_law_under"] (defScope s_law_pair) := ⟨rfl, rfl, rfl, by decide +kernel, rfl, by decide +kernel, by decide +kernel⟩
abbrev s_law_are_counts : Stmt := topS 69
abbrev N_law_are_counts : List Str := ["_law_lore_here", "_law_value", "_law_many"]
theorem sc_law_are_counts : FnScope N_law_are_counts ["_law_lore_here", "_law_value"] (defScope s_law_are_counts) := ⟨rfl, rfl, rfl, by decide +kernel, rfl, by decide +kernel, by decide +kernel⟩
abbrev s_law_told : Stmt := topS 70
abbrev N_law_told : List Str := ["_law_look", "_law_caught", "_law_back", "error"]
theorem sc_law_told : FnScope N_law_told ["_law_look"] (defScope s_law_told) := ⟨rfl, rfl, rfl, by decide +kernel, rfl, by decide +kernel, by decide +kernel⟩
abbrev s_law_odd : Stmt := topS 71
abbrev N_law_odd : List Str := ["_law_pot_here", "_law_some_here"]
theorem sc_law_odd : FnScope N_law_odd ["_law_pot_here"] (defScope s_law_odd) := ⟨rfl, rfl, rfl, by decide +kernel, rfl, by decide +kernel, by decide +kernel⟩
abbrev s_law_bent : Stmt := topS 72
abbrev N_law_bent : List Str := ["_law_pot_here", "_law_value", "_law_at", "_law_some_here"]
theorem sc_law_bent : FnScope N_law_bent ["_law_pot_here", "_law_value"] (defScope s_law_bent) := ⟨rfl, rfl, rfl, by decide +kernel, rfl, by decide +kernel, by decide +kernel⟩
abbrev s_law_is_none : Stmt := topS 73
abbrev N_law_is_none : List Str := ["_law_look", "_law_value", "_law_caught"]
theorem sc_law_is_none : FnScope N_law_is_none ["_law_look", "_law_value"] (defScope s_law_is_none) := ⟨rfl, rfl, rfl, by decide +kernel, rfl, by decide +kernel, by decide +kernel⟩
abbrev s_law_share_due : Stmt := topS 74
abbrev N_law_share_due : List Str := ["_law_lore_here", "_law_counts", "_law_part", "_law_other", "_law_whole"]
theorem sc_law_share_due : FnScope N_law_share_due ["_law_lore_here", "_law_counts", "_law_part", "_law_other"] (defScope s_law_share_due) := ⟨rfl, rfl, rfl, by decide +kernel, rfl, by decide +kernel, by decide +kernel⟩
abbrev s_law_is_told : Stmt := topS 75
abbrev N_law_is_told : List Str := ["_law_lore_here", "_law_counts", "_law_page", "_law_table", "_law_parts_here", "_law_part", "_law_other"]
theorem sc_law_is_told : FnScope N_law_is_told ["_law_lore_here", "_law_counts", "_law_page", "_law_table"] (defScope s_law_is_told) := ⟨rfl, rfl, rfl, by decide +kernel, rfl, by decide +kernel, by decide +kernel⟩
abbrev s_law_names_right : Stmt := topS 76
abbrev N_law_names_right : List Str := ["_law_pot_here", "_law_lore_here", "_law_table", "_law_looks", "_law_caught", "_law_first", "_law_odd_here", "_law_look"]
theorem sc_law_names_right : FnScope N_law_names_right ["_law_pot_here", "_law_lore_here", "_law_table"] (defScope s_law_names_right) := ⟨rfl, rfl, rfl, by decide +kernel, rfl, by decide +kernel, by decide +kernel⟩
abbrev s_law_is_judged : Stmt := topS 77
abbrev N_law_is_judged : List Str := ["_law_lore_here", "_law_page", "_law_value", "_law_caught", "_law_table"]
theorem sc_law_is_judged : FnScope N_law_is_judged ["_law_lore_here", "_law_page", "_law_value"] (defScope s_law_is_judged) := ⟨rfl, rfl, rfl, by decide +kernel, rfl, by decide +kernel, by decide +kernel⟩
abbrev s_law_right : Stmt := topS 78
abbrev N_law_right : List Str := ["_law_pot_here", "_law_lore_here", "_law_counts", "_law_page", "_law_table", "_law_more", "_law_some_here", "_law_value", "_law_lap"]
theorem sc_law_right : FnScope N_law_right ["_law_pot_here"] (defScope s_law_right) := ⟨rfl, rfl, rfl, by decide +kernel, rfl, by decide +kernel, by decide +kernel⟩
abbrev s_law_is_other : Stmt := topS 79
abbrev N_law_is_other : List Str := ["_law_lore_here", "_law_counts", "_law_table", "_law_units_here", "_law_bare", "_law_other", "_law_row"]
theorem sc_law_is_other : FnScope N_law_is_other ["_law_lore_here", "_law_counts", "_law_table"] (defScope s_law_is_other) := ⟨rfl, rfl, rfl, by decide +kernel, rfl, by decide +kernel, by decide +kernel⟩
abbrev s_law : Stmt := topS 80
abbrev N_law : List Str := ["_law_script", "_law_place", "_law_pot_here", "_law_lap"]
theorem sc_law : FnScope N_law ["_law_script"] (defScope s_law) := ⟨rfl, rfl, rfl, by decide +kernel, rfl, by decide +kernel, by decide +kernel⟩
section
variable {P : Program} {w : World} {K : PySem.W.Frag} {mg : Str → Option Value} {base : Heap}
theorem ok_law_take {f : Addr} {fd : FuncData} (F : Fun K "_law_take" "_law_take" s_law_take f fd) (m_int : mg "int" = none) : FnOk P w K mg base CX0 1 f fd ["_law_pot_here", "_law_upto"] (sp_law_take K) := by
  refine F.ok sc_law_take (fun vs H Q E h => ?_) (fun cdv A outer s H vs Q E hr h => ?_)
  · obtain ⟨p, c, u, rfl, _⟩ := h
    rfl
  · refine ⟨_, (pss_cons (ps_if (pt_cmpR op_gt (pe_ix ix_list (pv 0) pe_int (fun _ _ => rfl)) pe_int (nomark _)) (pss_cons (ps_set (i := 2) sc_law_take.nd rfl (.inl rfl) (pe_op op_mod (pe_callTy call_int1 (by rfl) m_int (by decide +kernel) (pa_cons (pe_ix ix_list (pv 0) pe_int (fun _ _ => rfl)) pa_nil)) (pv 1)))
        (pss_cons (ps_asg (pe_op op_fdivW (pe_ix ix_list (pv 0) pe_int (fun _ _ => rfl)) (pv 1)) (pg_sub (pv 0) pe_int set_list))
        (pss_one (ps_ret (pv 2))))) pss_nil)
      (pss_cons (ps_asg (pe_op op_add (pe_ix ix_list (pv 0) pe_int (fun _ _ => rfl)) pe_int) (pg_sub (pv 0) pe_int set_list))
      (pss_cons (ps_set (i := 3) sc_law_take.nd rfl (.inl rfl) (pe_ix ix_list (pe_lst (pa_cons pe_int (pa_cons pe_int (pa_cons pe_int (pa_cons pe_int (pa_cons pe_int pa_nil)))))) (pe_op op_mod (pe_callTy call_int1 (by rfl) m_int (by decide +kernel) (pa_cons (pe_ix ix_list (pv 0) pe_int (fun _ _ => rfl)) pa_nil)) pe_int) (fun _ _ => rfl)))
      (pss_cons (ps_set (i := 4) sc_law_take.nd rfl (.inl rfl) (pe_op op_mod (pe_callTy call_int1 (by rfl) m_int (by decide +kernel) (pa_cons (pe_op op_powW (pe_callTy call_int1 (by rfl) m_int (by decide +kernel) (pa_cons (pe_op op_add (pe_op op_add (pe_ix ix_list (pv 0) pe_int (fun _ _ => rfl)) (pe_op op_mul (pe_op op_mul pe_int (pe_ix ix_list (pv 0) pe_int (fun _ _ => rfl))) (pe_ix ix_list (pv 0) pe_int (fun _ _ => rfl)))) pe_int) pa_nil)) pe_int) pa_nil)) (pv 3)))
      (pss_cons (ps_set (i := 4) sc_law_take.nd rfl (.inl rfl) (pe_op op_mod (pe_callTy call_int1 (by rfl) m_int (by decide +kernel) (pa_cons (pe_op op_mul (pv 4) (pe_op op_add (pe_op op_mod (pe_callTy call_int1 (by rfl) m_int (by decide +kernel) (pa_cons (pv 4) pa_nil)) pe_int) (pe_op op_mul pe_int (pe_ix ix_list (pv 0) pe_int (fun _ _ => rfl))))) pa_nil)) pe_int))
      (pss_one (ps_ret (pe_op op_mod (pe_callTy call_int1 (by rfl) m_int (by decide +kernel) (pa_cons (pe_op op_fdivW (pv 4) pe_int) pa_nil)) (pv 1))))))))), ?_⟩
    obtain ⟨p, c, u, rfl, ⟨o, sd, n, hp, o0, o1, s0, s1, n0, n1⟩, hc, hu, hu2, q⟩ := h
    refine ⟨.ref p, rfl, p, _, 0, .int o, rfl, rfl, SqL.of hp, atI_nat (j := 0) rfl, o, 0, rfl, rfl, _, rfl, ite2 (fun e => ?_) (fun e => ?_)⟩
    · have e0 : 0 < o := of_decide_eq_true e
      -- the digit
      refine ⟨.ref p, rfl, p, _, 0, .int o, rfl, rfl, SqL.of hp, atI_nat (j := 0) rfl, .inl ⟨o, rfl, .int u, rfl, o, u, rfl, rfl, (by show (0 : Int) < u; omega), ?_⟩⟩
      refine ⟨.ref p, rfl, p, _, 0, .int o, rfl, rfl, SqL.of hp, atI_nat (j := 0) rfl, .int u, rfl, o, u, rfl, rfl, wide_div (b := 62) (by omega) (by omega) (by decide) (by decide), ?_⟩
      refine ⟨.ref p, rfl, p, _, 0, 0, rfl, rfl, hp, rfl, ?_⟩
      refine ⟨.int (o % u), rfl, ?_⟩
      refine q _ _ (But.refl _ _).put ⟨o / u, sd, n, upd_same, Int.ediv_nonneg (by omega) (by omega), Int.lt_of_le_of_lt (Int.ediv_le_self _ o0) o1, s0, s1, n0, by omega⟩ (Int.emod_nonneg _ (by omega)) (Int.emod_lt_of_pos _ (by omega))
    · -- the count
      refine ⟨.ref p, rfl, p, _, 2, .int n, rfl, rfl, SqL.of hp, atI_nat (j := 2) rfl, n, 1, rfl, rfl, .ref p, rfl, p, _, 2, 2, rfl, rfl, hp, rfl, ?_⟩
      generalize hG : L2.upd H p _ = G
      have hg : G p = some (.lst [.int o, .int sd, .int (n + 1)]) := by
        rw [← hG]
        exact upd_same
      have hB : But p H G := by
        rw [← hG]
        exact (But.refl _ _).put
      refine ⟨by show 5 ≤ sizeLine; decide, fun l nl => ?_⟩
      have hg2 : (upd G l (.lst [.int 2147483647, .int 2147483629, .int 2147483587, .int 2147483579, .int 2147483563])) p = some (.lst [.int o, .int sd, .int (n + 1)]) := by
        rw [upd_ne (ne_of_none hg nl)]
        exact hg
      have hB2 : But p H (upd G l (.lst [.int 2147483647, .int 2147483629, .int 2147483587, .int 2147483579, .int 2147483563])) := hB.new nl
      refine ⟨.ref p, rfl, p, _, 2, .int (n + 1), rfl, rfl, SqL.of hg2, atI_nat (j := 2) rfl, .inl ⟨n + 1, rfl, n + 1, 5, rfl, rfl, (by show (0 : Int) < 5; decide), ?_⟩⟩
      have hpr : ∃ (k : Nat) (z : Int), (n + 1) % 5 = (k : Int) ∧ [V.int 2147483647, .int 2147483629, .int 2147483587, .int 2147483579, .int 2147483563][k]? = some (.int z) ∧ 1 ≤ z ∧ z < 2147483648 := by
        have a0 : 0 ≤ (n + 1) % 5 := Int.emod_nonneg _ (by decide)
        have a1 : (n + 1) % 5 < 5 := Int.emod_lt_of_pos _ (by decide)
        obtain e | e | e | e | e : (n + 1) % 5 = 0 ∨ (n + 1) % 5 = 1 ∨ (n + 1) % 5 = 2 ∨ (n + 1) % 5 = 3 ∨ (n + 1) % 5 = 4 := by omega
        · exact ⟨0, _, e, rfl, by decide, by decide⟩
        · exact ⟨1, _, e, rfl, by decide, by decide⟩
        · exact ⟨2, _, e, rfl, by decide, by decide⟩
        · exact ⟨3, _, e, rfl, by decide, by decide⟩
        · exact ⟨4, _, e, rfl, by decide, by decide⟩
      obtain ⟨k, z, ek, ez, z1, z2⟩ := hpr
      refine ⟨l, _, _, .int z, rfl, rfl, SqL.of upd_same, at_of ek ez, ?_⟩
      generalize hG2 : L2.upd G l _ = G2 at hg2 hB2 ⊢
      -- the stir
      refine ⟨.ref p, rfl, p, _, 1, .int sd, rfl, rfl, SqL.of hg2, atI_nat (j := 1) rfl, .ref p, rfl, p, _, 2, .int (n + 1), rfl, rfl, SqL.of hg2, atI_nat (j := 2) rfl, _, n + 1, rfl, rfl, .inl ⟨by decide, by decide⟩,
        .ref p, rfl, p, _, 2, .int (n + 1), rfl, rfl, SqL.of hg2, atI_nat (j := 2) rfl, _, n + 1, rfl, rfl, .inl ⟨by omega, by omega⟩, sd, _, rfl, rfl, _, _, rfl, rfl, .inl ⟨_, rfl, ?_⟩⟩
      generalize hx : sd + _ = x
      have hx1 : (x + 61).natAbs < 2 ^ 200 := by
        have h9 : (n + 1) * (n + 1) ≤ 100000 * 100000 := Int.mul_le_mul (by omega) (by omega) (by omega) (by decide)
        have h8 : 0 ≤ (n + 1) * (n + 1) := Int.mul_nonneg (by omega) (by omega)
        have h7 := Int.mul_assoc 110017 (n + 1) (n + 1)
        omega
      refine ⟨_, 3, rfl, rfl, powW_ok (j := 3) hx1 (by decide), .inl ⟨_, rfl, .int z, rfl, _, z, rfl, rfl, (by show (0 : Int) < z; omega), ?_⟩⟩
      dsimp only
      generalize hy : (x + 61) ^ _ % z = y
      have y0 : 0 ≤ y := by
        rw [← hy]
        exact Int.emod_nonneg _ (by omega)
      have y1 : y < z := by
        rw [← hy]
        exact Int.emod_lt_of_pos _ (by omega)
      refine ⟨.int y, rfl, .int y, rfl, .inl ⟨y, rfl, y, _, rfl, rfl, (by show (0 : Int) < 10037; decide), .ref p, rfl, p, _, 2, .int (n + 1), rfl, rfl, SqL.of hg2, atI_nat (j := 2) rfl, _, n + 1, rfl, rfl, .inl ⟨by decide, by decide⟩, _, _, rfl, rfl, y, _, rfl, rfl, .inl ⟨by omega, by omega⟩,
        .inl ⟨_, rfl, _, _, rfl, rfl, (by show (0 : Int) < 2305843009213693907; decide), ?_⟩⟩⟩
      dsimp only
      generalize ht : _ % (2305843009213693907 : Int) = t
      refine ⟨.int t, rfl, t, _, rfl, rfl, wide_div (b := 62) (by decide) (by decide) (by decide) (by decide), .inl ⟨_, rfl, .int u, rfl, _, u, rfl, rfl, (by show (0 : Int) < u; omega), ?_⟩⟩
      exact q _ _ hB2 ⟨o, sd, n + 1, hg2, o0, o1, s0, s1, by omega, by omega⟩ (Int.emod_nonneg _ (by omega)) (Int.emod_lt_of_pos _ (by omega))
theorem ok_law_of {f : Addr} {fd : FuncData} (F : Fun K "_law_of" "_law_of" s_law_of f fd) (m_len : mg "len" = none) (c_law_take : Cal P w K mg base 1 "_law_take" ["_law_pot_here", "_law_upto"] (sp_law_take K)) : FnOk P w K mg base CX0 2 f fd ["_law_pot_here", "_law_some_here"] (sp_law_of K) := by
  refine F.ok sc_law_of (fun vs H Q E h => ?_) (fun cdv A outer s H vs Q E hr h => ?_)
  · obtain ⟨p, l, c, xs, rfl, _⟩ := h
    rfl
  · refine ⟨_, (pss_one (ps_ret (pe_ix ix_list (pv 1) (pe_call c_law_take.G (hr.mono (by decide)) (by rfl) c_law_take.g c_law_take.kp c_law_take.b .nil pass0 (pa_cons (pv 0) (pa_cons (pe_callB call_len_seq (by rfl) m_len (by decide +kernel) (pa_cons (pv 1) pa_nil)) pa_nil))) (fun _ _ => rfl)))), ?_⟩
    obtain ⟨p, l, c, xs, rfl, hp, hc, hlp, hl, h0, h1, q⟩ := h
    refine ⟨.ref l, rfl, .ref p, rfl, .ref l, rfl, l, xs, rfl, .inl hl, p, c, xs.length, rfl, hp, hc, by omega, by omega, fun H' d hB hP d0 d1 => ?_⟩
    have hd : d.toNat < xs.length := by omega
    have ed : d = (d.toNat : Int) := by omega
    exact ⟨l, xs, d, xs[d.toNat], rfl, rfl, hB.seqL hlp hl, at_of ed (List.getElem?_eq_getElem hd), q H' d.toNat _ hB hP (List.getElem?_eq_getElem hd)⟩
theorem ok_law_cells {f : Addr} {fd : FuncData} (F : Fun K "_law_cells" "_law_cells" s_law_cells f fd) (m_range : mg "range" = none) (m_max : mg "max" = none) (m_min : mg "min" = none) (m_len : mg "len" = none) (m_list : mg "list" = none) : FnOk P w K mg base CX0 1 f fd ["_law_script", "_law_most"] (sp_law_cells K) := by
  refine F.ok sc_law_cells (fun vs H Q E h => ?_) (fun cdv A outer s H vs Q E hr h => ?_)
  · obtain ⟨a, ns, m, rfl, _⟩ := h
    rfl
  · refine ⟨_, (pss_one (ps_ret (pe_listRg rfl (by rfl) m_list (prg_1 (by rfl) m_range (pe_callB (call_max2 rfl) (by rfl) m_max (by decide +kernel) (pa_cons pe_int (pa_cons (pe_callB (call_min2 rfl) (by rfl) m_min (by decide +kernel) (pa_cons (pv 1) (pa_cons (pe_callB call_len_seq (by rfl) m_len (by decide +kernel) (pa_cons (pv 0) pa_nil)) pa_nil))) pa_nil))))))), ?_⟩
    obtain ⟨a, ns, m, rfl, hl, hn, hm, hm2, q⟩ := h
    refine ⟨.int m, rfl, .ref a, rfl, a, _, rfl, .inl hl, m, _, rfl, 1, _, rfl, _, rfl, ?_, ?_⟩
    · refine RgOk.of_le (by decide) ?_ (by decide) ?_ <;> (rw [List.length_map]; split <;> split <;> omega)
    · intro l nl
      have ek : ∃ k : Nat, (if (if ((ns.map V.int).length : Int) < m then ((ns.map V.int).length : Int) else m) > 1 then (if ((ns.map V.int).length : Int) < m then ((ns.map V.int).length : Int) else m) else 1) = (k : Int) ∧ 1 ≤ k ∧ k ≤ 63 := by
        rw [List.length_map]
        refine ⟨(if (if (ns.length : Int) < m then (ns.length : Int) else m) > 1 then (if (ns.length : Int) < m then (ns.length : Int) else m) else 1).toNat, ?_, ?_, ?_⟩ <;> (split <;> split <;> omega)
      obtain ⟨k, e1, k1, k2⟩ := ek
      rw [e1]
      exact q _ l k nl (sameU nl) upd_same k1 k2
theorem ok_law_pot {f : Addr} {fd : FuncData} (F : Fun K "_law_pot" "_law_pot" s_law_pot f fd) (m_len : mg "len" = none) (m_int : mg "int" = none) (m_abs : mg "abs" = none) : FnOk P w K mg base CX0 1 f fd ["_law_script", "_law_place"] (sp_law_pot K) := by
  refine F.ok sc_law_pot (fun vs H Q E h => ?_) (fun cdv A outer s H vs Q E hr h => ?_)
  · obtain ⟨a, ns, m, rfl, _⟩ := h
    rfl
  · refine ⟨_, (pss_cons (ps_set (i := 2) sc_law_pot.nd rfl (.inl rfl) (pe_ifExp (pt_cmpR op_lt (pv 1) (pe_callB call_len_seq (by rfl) m_len (by decide +kernel) (pa_cons (pv 0) pa_nil)) (nomark _)) (pe_ix ix_list (pv 0) (pv 1) (fun _ _ => rfl)) (pe_op op_add (pe_op op_mul pe_int (pv 1)) pe_int)))
      (pss_cons (ps_set (i := 3) sc_law_pot.nd rfl (.inl rfl) (pe_op op_mul (pe_op op_mod (pe_callTy call_int1 (by rfl) m_int (by decide +kernel) (pa_cons (pe_callB call_abs (by rfl) m_abs (by decide +kernel) (pa_cons (pv 2) pa_nil)) pa_nil)) (pe_op op_powW (pe_op op_powW pe_int pe_int) pe_int)) (pe_callTy call_int1 (by rfl) m_int (by decide +kernel) (pa_cons (pe_cmpR op_ge (pe_callB call_abs (by rfl) m_abs (by decide +kernel) (pa_cons (pv 2) pa_nil)) (pe_op op_powW pe_int pe_int) (nomark _)) pa_nil))))
      (pss_cons (ps_set (i := 4) sc_law_pot.nd rfl (.inl rfl) (pe_op op_mod (pe_callTy call_int1 (by rfl) m_int (by decide +kernel) (pa_cons (pv 2) pa_nil)) pe_int))
      (pss_one (ps_ret (pe_lst (pa_cons (pv 3) (pa_cons (pe_op op_mod (pe_callTy call_int1 (by rfl) m_int (by decide +kernel) (pa_cons (pe_op op_add (pe_op op_add (pe_op op_mul (pv 4) pe_int) (pe_op op_mul (pe_op op_mul pe_int (pv 1)) (pv 1))) pe_int) pa_nil)) pe_int) (pa_cons pe_int pa_nil))))))))), ?_⟩
    obtain ⟨a, ns, m, rfl, hl, hn, hm, hm2, q⟩ := h
    refine rd_cell hl hm ⟨by decide, by decide⟩ rfl rfl fun z => ?_
    refine ⟨.int z, rfl, z, rfl, .inl ⟨_, rfl, 10, 60, rfl, rfl, bigB, _, 5, rfl, rfl, bigA, _, _, rfl, rfl, big_pos, .int z, rfl, z, rfl, 10, 18, rfl, rfl, bigC, _, _, rfl, rfl, .inr ⟨_, rfl, _, _, rfl, rfl, .inr (b01 _), ?_⟩⟩⟩
    · dsimp only
      have o0 := own_ok (if z < 0 then -z else z) (decide ((10 : Int) ^ (18 : Int).toNat ≤ if z < 0 then -z else z))
      generalize ((if z < 0 then -z else z) % ((10 : Int) ^ (60 : Int).toNat) ^ (5 : Int).toNat) * (if decide ((10 : Int) ^ (18 : Int).toNat ≤ if z < 0 then -z else z) = true then (1 : Int) else 0) = o at o0 ⊢
      refine ⟨.int z, rfl, .inl ⟨z, rfl, z, _, rfl, rfl, (by show (0 : Int) < 2305843009213693951; decide), ?_⟩⟩
      dsimp only
      generalize hz : z % 2305843009213693951 = y
      refine ⟨.int o, rfl, .int y, rfl, y, _, rfl, rfl, .inr ⟨by decide, by decide⟩, .int m, rfl, _, m, rfl, rfl, .inl ⟨by decide, by decide⟩, .int m, rfl, _, m, rfl, rfl, .inr ⟨by omega, by omega⟩, _, _, rfl, rfl, _, _, rfl, rfl, .inl ⟨_, rfl, _, _, rfl, rfl, (by show (0 : Int) < 2305843009213693921; decide), ?_⟩⟩
      refine ⟨by show 3 ≤ sizeLine; decide, fun p np => ?_⟩
      refine q _ p np (sameU np) ⟨o, _, 0, upd_same, o0.1, o0.2, Int.emod_nonneg _ (by decide), ?_, by decide, by decide⟩
      exact Int.lt_trans (Int.emod_lt_of_pos _ (by decide)) (by decide)
end
end Uq
namespace Uq
open PySem PySem.Spec PyProof.Rows L2
/-! ### units -/
def How (h : Str) : Prop := h = "near" ∨ h = "even" ∨ h = "down" ∨ h = "up"
def Un (K : PySem.W.Frag) (H : Hp) (u : Addr) (b : Int) (h : Str) : Prop := SqT K H u [.int b, .str h] ∧ 2 ≤ b ∧ b ≤ 100 ∧ How h
theorem Un.same {K : PySem.W.Frag} {H H' : Hp} {u : Addr} {b : Int} {h : Str} (e : Same H H') (x : Un K H u b h) : Un K H' u b h := ⟨sqT_same e x.1, x.2⟩
theorem Un.but {K : PySem.W.Frag} {H H' : Hp} {p u : Addr} {b : Int} {h : Str} (e : But p H H') (n : u ≠ p) (x : Un K H u b h) : Un K H' u b h := ⟨e.seqT n x.1, x.2⟩
/-- a tuple of the module's own -/
def TupK (K : PySem.W.Frag) (a : Addr) (xs : List V) : Prop := ∃ (o : Obj) (its : Array Value) (n : Nat), K.lookup a = some o ∧ o.cls = .type "tuple" ∧ o.data = .seq its n ∧ its.size ≤ sizeLine ∧ Vals xs its.toList
def hows : List V := [.str "near", .str "even", .str "down", .str "up"]
theorem in_hows {h : Str} (x : How h) : inV (.str h) hows = true := by
  rcases x with rfl | rfl | rfl | rfl <;> decide +kernel
theorem ty_tup {K : PySem.W.Frag} {H : Hp} {a : Addr} {xs : List V} (h : SqT K H a xs) : TyX K H (.ref a) (.type "tuple") := by
  rcases h with (h | ⟨o, h⟩) | ⟨o, its, n, h, hc, _⟩
  · exact .base (.tup h)
  · exact .fTuple h
  · exact .kTuple h hc
def sp_is_integer (K : PySem.W.Frag) : Sp := fun vs H Q _ => ∃ i : Int, vs = [.int i] ∧ Q (.bl true) H
def sp_is_units (K : PySem.W.Frag) : Sp := fun vs H Q _ => ∃ (u : Addr) (b : Int) (h : Str), vs = [.ref u] ∧ Un K H u b h ∧ Q (.bl true) H
/-- many / whole rounded -/
def rnd (h : Str) (a b : Int) : Int := if h = "down" ∨ a % b = 0 then a / b else if h = "up" ∨ b < 2 * (a % b) then a / b + 1 else if 2 * (a % b) < b then a / b else if h = "near" then a / b + 1 else a / b + a / b % 2
def sp_law_rounded (K : PySem.W.Frag) : Sp := fun vs H Q _ => ∃ (h : Str) (a b : Int), vs = [.str h, .int a, .int b] ∧ How h ∧ 0 < b ∧ b < 2 ^ 62 ∧ Q (.int (rnd h a b)) H
/-- drawn units -/
def sp_law_units (K : PySem.W.Frag) : Sp := fun vs H Q _ => ∃ (p : Addr) (c : Nat) (m : Int), vs = [.ref p, .int m] ∧ Pot H p c ∧ c < 90000 ∧ 2 ≤ m ∧ m ≤ 100 ∧
  ∀ H' u b h, H p ≠ none → But p H H' → Pot H' p (c + 2) → H u = none → u ≠ p → Un K H' u b h → b ≤ m → H' u = some (.tup [.int b, .str h]) → Q (.ref u) H'
theorem str_of {h x : Str} (e : decide (V.str h = V.str x) = true) : h = x := V.str.inj (of_decide_eq_true e)
theorem str_not {h x : Str} (e : ¬ decide (V.str h = V.str x) = true) : h ≠ x := fun z => e (decide_eq_true (by rw [z]))
theorem int_of {i j : Int} (e : decide (V.int i = V.int j) = true) : i = j := V.int.inj (of_decide_eq_true e)
theorem int_not {i j : Int} (e : ¬ decide (V.int i = V.int j) = true) : i ≠ j := fun z => e (decide_eq_true (by rw [z]))
section
variable {P : Program} {w : World} {K : PySem.W.Frag} {mg : Str → Option Value} {base : Heap}
theorem ok_is_integer {f : Addr} {fd : FuncData} (F : Fun K "is_integer" "is_integer" s_is_integer f fd) (m_isinstance : mg "isinstance" = none) (m_int : mg "int" = none) (m_bool : mg "bool" = none) : FnOk P w K mg base CX0 1 f fd ["value"] (sp_is_integer K) := by
  refine F.ok sc_is_integer (fun vs H Q E h => ?_) (fun cdv A outer s H vs Q E hr h => ?_)
  · obtain ⟨i, rfl, _⟩ := h
    rfl
  · refine ⟨_, (pss_one (ps_ret (pe_and (pe_callB call_isi (by rfl) m_isinstance (by decide +kernel) (pa_cons (pv 0) (pa_cons (pe_bltn (v := .ty "int") (by rfl) m_int (by decide +kernel) rfl) pa_nil))) (pe_one (pe_not (pe_callB call_isi (by rfl) m_isinstance (by decide +kernel) (pa_cons (pv 0) (pa_cons (pe_bltn (v := .ty "bool") (by rfl) m_bool (by decide +kernel) rfl) pa_nil)))))))), ?_⟩
    obtain ⟨i, rfl, q⟩ := h
    exact ⟨.int i, rfl, .int i, .ty "int", _, _, true, rfl, .ty "int", .base (.int i), kit_ty (by decide +kernel), true, rfl, .int i, rfl, .int i, .ty "bool", _, _, false, rfl, .ty "bool", .base (.int i), kit_ty (by decide +kernel), false, rfl, q⟩
theorem ok_is_units {f : Addr} {fd : FuncData} (F : Fun K "is_units" "is_units" s_is_units f fd) (m_isinstance : mg "isinstance" = none) (m_tuple : mg "tuple" = none) (m_len : mg "len" = none) (m_str : mg "str" = none) {a_HOWS : Addr} (g_HOWS : mg "HOWS" = some (.ref a_HOWS)) (t_HOWS : TupK K a_HOWS hows) (c_is_integer : Cal P w K mg base 1 "is_integer" ["value"] (sp_is_integer K)) : FnOk P w K mg base CX0 2 f fd ["value"] (sp_is_units K) := by
  refine F.ok sc_is_units (fun vs H Q E h => ?_) (fun cdv A outer s H vs Q E hr h => ?_)
  · obtain ⟨u, b, h, rfl, _⟩ := h
    rfl
  · refine ⟨_, (pss_cons (ps_if (PW.pt (pw_or (pt_not (pt_val (pe_callB call_isi (by rfl) m_isinstance (by decide +kernel) (pa_cons (pv 0) (pa_cons (pe_bltn (v := .ty "tuple") (by rfl) m_tuple (by decide +kernel) rfl) pa_nil))))) (pw_or1 (pt_cmpR op_ne (pe_callB call_len_seq (by rfl) m_len (by decide +kernel) (pa_cons (pv 0) pa_nil)) pe_int (nomark _))))) (pss_one (ps_ret pe_bl)) pss_nil)
      (pss_cons (ps_asg (pv 0) (pg_tup rfl (pgs_cons (pg_name (i := 1) sc_is_units.nd rfl (.inl rfl)) (pgs_cons (pg_name (i := 2) sc_is_units.nd rfl (.inl rfl)) pgs_nil))))
      (pss_cons (ps_if (PW.pt (pw_or (pt_not (pt_val (pe_call c_is_integer.G (hr.mono (by decide)) (by rfl) c_is_integer.g c_is_integer.kp c_is_integer.b .nil pass0 (pa_cons (pv 1) pa_nil)))) (pw_or1 (pt_not (pt_val (pe_callB call_isi (by rfl) m_isinstance (by decide +kernel) (pa_cons (pv 2) (pa_cons (pe_bltn (v := .ty "str") (by rfl) m_str (by decide +kernel) rfl) pa_nil)))))))) (pss_one (ps_ret pe_bl)) pss_nil)
      (pss_one (ps_ret (pe_and (pe_chain op_le op_le pe_int (pv 1) pe_int) (pe_one (pe_cmpR op_in_seq (pv 2) (pe_glob (v := .ref a_HOWS) (by rfl) g_HOWS rfl) rfl)))))))), ?_⟩
    obtain ⟨u, b, h, rfl, ⟨hu, b0, b1, hh⟩, q⟩ := h
    refine ⟨.ref u, rfl, .ref u, .ty "tuple", _, _, true, rfl, .ty "tuple", ty_tup hu, kit_ty (by decide +kernel), true, rfl, ?_⟩
    refine iteF ⟨.ref u, rfl, u, _, rfl, .inr hu, rfl, _, rfl, iteF ?_⟩
    refine ⟨.ref u, rfl, u, _, rfl, hu, rfl, _, _, rfl, _, _, rfl, rfl, ?_⟩
    refine ⟨.int b, rfl, b, rfl, true, rfl, iteF ⟨.str h, rfl, .str h, .ty "str", _, _, true, rfl, .ty "str", .base (.str h), kit_ty (by decide +kernel), true, rfl, iteF ?_⟩⟩
    refine ⟨.int b, rfl, 2, b, rfl, rfl, _, rfl, iteDY b0 ?_⟩
    refine ⟨b, 100, rfl, rfl, _, rfl, iteDY b1 ?_⟩
    refine ⟨.str h, rfl, a_HOWS, hows, rfl, .inr (.inr t_HOWS), rfl, by decide +kernel, ?_⟩
    rw [in_hows hh]
    exact q
theorem ok_law_rounded {f : Addr} {fd : FuncData} (F : Fun K "_law_rounded" "_law_rounded" s_law_rounded f fd) (m_int : mg "int" = none) : FnOk P w K mg base CX0 1 f fd ["_law_how", "_law_above", "_law_under"] (sp_law_rounded K) := by
  refine F.ok sc_law_rounded (fun vs H Q E h => ?_) (fun cdv A outer s H vs Q E hr h => ?_)
  · obtain ⟨h, a, b, rfl, _⟩ := h
    rfl
  · refine ⟨_, (pss_cons (ps_par (i := 3) (j := 4) (by rfl) sc_law_rounded.nd rfl rfl (by decide) rfl rfl (pa_cons (pe_op op_fdivW (pv 1) (pv 2)) (pa_cons (pe_op op_mod (pe_callTy call_int1 (by rfl) m_int (by decide +kernel) (pa_cons (pv 1) pa_nil)) (pv 2)) pa_nil)) (by rfl))
      (pss_cons (ps_if (PW.pt (pw_or (pt_cmpR op_eq (pv 4) pe_int (nomark _)) (pw_or1 (pt_cmpR op_eq (pv 0) pe_str (nomark _))))) (pss_one (ps_ret (pv 3))) pss_nil)
      (pss_cons (ps_if (pt_cmpR op_eq (pv 0) pe_str (nomark _)) (pss_one (ps_ret (pe_op op_add (pv 3) pe_int))) pss_nil)
      (pss_cons (ps_if (pt_cmpR op_eq (pe_op op_mul pe_int (pv 4)) (pv 2) (nomark _)) (pss_one (ps_ret (pe_ifExp (PW.pt (pw_or (pt_cmpR op_eq (pv 0) pe_str (nomark _)) (pw_or1 (pt_cmpR op_eq (pe_op op_mod (pe_callTy call_int1 (by rfl) m_int (by decide +kernel) (pa_cons (pv 3) pa_nil)) pe_int) pe_int (nomark _))))) (pe_op op_add (pv 3) pe_int) (pv 3)))) pss_nil)
      (pss_one (ps_ret (pe_ifExp (pt_cmpR op_gt (pe_op op_mul pe_int (pv 4)) (pv 2) (nomark _)) (pe_op op_add (pv 3) pe_int) (pv 3)))))))), ?_⟩
    obtain ⟨h, a, b, rfl, hh, b0, b1, q⟩ := h
    refine ⟨.int a, rfl, .int b, rfl, a, b, rfl, rfl, wide_div (b := 62) b0 (by omega) (by decide) (by decide), .int a, rfl, .inl ⟨a, rfl, .int b, rfl, a, b, rfl, rfl, b0, _, _, rfl, ?_⟩⟩
    have Q' : ∀ z, rnd h a b = z → Q (.int z) H := fun z e => e ▸ q
    unfold rnd at Q'
    have r0 := Int.emod_nonneg a (Int.ne_of_gt b0)
    refine ⟨.int (a % b), rfl, rfl, _, rfl, ite2 (fun e => ?_) (fun e => ⟨.str h, rfl, rfl, _, rfl, ite2 (fun e2 => ?_) (fun e2 => ?_)⟩)⟩
    · exact iteT ⟨.int (a / b), rfl, Q' _ (if_pos (.inr (int_of e)))⟩
    · exact ⟨.int (a / b), rfl, Q' _ (if_pos (.inl (str_of e2)))⟩
    · have n1 : ¬ (h = "down" ∨ a % b = 0) := fun z => z.elim (str_not e2) (int_not e)
      refine ⟨.str h, rfl, rfl, _, rfl, ite2 (fun e3 => ?_) (fun e3 => ?_)⟩
      · exact ⟨.int (a / b), rfl, _, _, rfl, rfl, Q' _ (by rw [if_neg n1, if_pos (.inl (str_of e3))])⟩
      · have n2 := str_not e3
        refine ⟨.int (a % b), rfl, _, _, rfl, rfl, .inl ⟨by decide, by decide⟩, .int b, rfl, rfl, _, rfl, ite2 (fun e4 => ?_) (fun e4 => ?_)⟩
        · have e5 : 2 * (a % b) = b := int_of e4
          have n3 : ¬ (h = "up" ∨ b < 2 * (a % b)) := fun z => z.elim n2 (by omega)
          have n4 : ¬ (2 * (a % b) < b) := by omega
          refine ⟨.str h, rfl, rfl, _, rfl, ite2 (fun e6 => ?_) (fun e6 => ⟨.int (a / b), rfl, .inl ⟨_, rfl, _, _, rfl, rfl, (by show (0 : Int) < 2; decide), rfl, _, rfl, ite2 (fun e7 => ?_) (fun e7 => ?_)⟩⟩)⟩
          · exact iteT ⟨.int (a / b), rfl, _, _, rfl, rfl, Q' _ (by rw [if_neg n1, if_neg n3, if_neg n4, if_pos (str_of e6)])⟩
          · have e8 : a / b % 2 = 1 := int_of e7
            exact ⟨.int (a / b), rfl, _, _, rfl, rfl, Q' _ (by rw [if_neg n1, if_neg n3, if_neg n4, if_neg (str_not e6), e8])⟩
          · have e8 : a / b % 2 ≠ 1 := int_not e7
            have e9 : a / b % 2 = 0 := by omega
            exact ⟨.int (a / b), rfl, Q' _ (by rw [if_neg n1, if_neg n3, if_neg n4, if_neg (str_not e6), e9, Int.add_zero])⟩
        · have e5 : 2 * (a % b) ≠ b := int_not e4
          refine ⟨.int (a % b), rfl, _, _, rfl, rfl, .inl ⟨by decide, by decide⟩, .int b, rfl, _, _, rfl, rfl, _, rfl, ite2 (fun e6 => ?_) (fun e6 => ?_)⟩
          · have e7 : b < 2 * (a % b) := of_decide_eq_true e6
            exact ⟨.int (a / b), rfl, _, _, rfl, rfl, Q' _ (by rw [if_neg n1, if_pos (.inr e7)])⟩
          · have e7 : ¬ b < 2 * (a % b) := fun z => e6 (decide_eq_true z)
            exact ⟨.int (a / b), rfl, Q' _ (by rw [if_neg n1, if_neg (fun z => z.elim n2 e7), if_pos (by omega)])⟩
theorem ok_law_units {f : Addr} {fd : FuncData} (F : Fun K "_law_units" "_law_units" s_law_units f fd) (c_law_of : Cal P w K mg base 2 "_law_of" ["_law_pot_here", "_law_some_here"] (sp_law_of K)) (c_law_take : Cal P w K mg base 1 "_law_take" ["_law_pot_here", "_law_upto"] (sp_law_take K)) : FnOk P w K mg base CX0 3 f fd ["_law_pot_here", "_law_most"] (sp_law_units K) := by
  refine F.ok sc_law_units (fun vs H Q E h => ?_) (fun cdv A outer s H vs Q E hr h => ?_)
  · obtain ⟨p, c, m, rfl, _⟩ := h
    rfl
  · refine ⟨_, (pss_one (ps_ret (pe_tup (pa_cons (pe_op op_add pe_int (pe_call c_law_take.G (hr.mono (by decide)) (by rfl) c_law_take.g c_law_take.kp c_law_take.b .nil pass0 (pa_cons (pv 0) (pa_cons (pe_op op_sub (pv 1) pe_int) pa_nil)))) (pa_cons (pe_call c_law_of.G (hr.mono (by decide)) (by rfl) c_law_of.g c_law_of.kp c_law_of.b .nil pass0 (pa_cons (pv 0) (pa_cons (pe_lst (pa_cons pe_str (pa_cons pe_str (pa_cons pe_str (pa_cons pe_str pa_nil))))) pa_nil))) pa_nil))))), ?_⟩
    obtain ⟨p, c, m, rfl, hp, hc, m0, m1, q⟩ := h
    refine ⟨.ref p, rfl, .int m, rfl, m, 1, rfl, rfl, p, c, _, rfl, hp, by omega, by omega, by omega, fun H1 d hB hP d0 d1 => ?_⟩
    refine ⟨_, _, rfl, rfl, .ref p, rfl, by show 4 ≤ sizeLine; decide, fun l nl => ?_⟩
    have nlp : l ≠ p := hP.ne nl
    refine ⟨p, l, c + 1, hows, rfl, hP.new nl, by omega, nlp, SqL.of upd_same, by decide, by decide, fun H2 i v hB2 hP2 hv => ?_⟩
    have hh : ∃ h, v = .str h ∧ How h := by
      have hi := (List.getElem?_eq_some_iff.mp hv).1
      have hi4 : i < 4 := hi
      obtain rfl | rfl | rfl | rfl : i = 0 ∨ i = 1 ∨ i = 2 ∨ i = 3 := by omega
      · exact ⟨"near", (Option.some.inj hv).symm, .inl rfl⟩
      · exact ⟨"even", (Option.some.inj hv).symm, .inr (.inl rfl)⟩
      · exact ⟨"down", (Option.some.inj hv).symm, .inr (.inr (.inl rfl))⟩
      · exact ⟨"up", (Option.some.inj hv).symm, .inr (.inr (.inr rfl))⟩
    obtain ⟨h, rfl, hh⟩ := hh
    refine ⟨by show 2 ≤ sizeLine; decide, fun u nu => ?_⟩
    have b3 : But p H (upd H2 u (.tup [.int (2 + d), .str h])) := ((hB.new nl).trans hB2).new nu
    have nup : u ≠ p := hP2.ne nu
    have Hu : H u = none := by
      cases e : H u with
      | none => rfl
      | some o =>
        have z := (((hB.new nl).trans hB2) u o nup e)
        rw [nu] at z
        cases z
    exact q _ u (2 + d) h hp.some b3 (hP2.new nu) Hu nup ⟨SqT.of upd_same, by omega, by omega, hh⟩ (by omega) upd_same
end
end Uq
namespace Uq
open PySem PySem.Spec PyProof.Rows L2
/-! ### numbers and names as words -/
def nS (n : Nat) : Str := Str.ofString (toString (n : Int))
theorem num_facts : ∀ n : Nat, n < 101 → Txt.isdecimal (nS n) = true ∧ PySem.intText? (nS n) = some (n : Int) ∧ (nS n).length = (if n < 10 then 1 else if n < 100 then 2 else 3) ∧ nS n ≠ Str.ofString "none" ∧ nS n ≠ Str.ofString "some" := by decide +kernel
theorem num_len {n m : Nat} (h : n ≤ m) (hm : m < 101) : (nS n).length ≤ (nS m).length := by
  rw [(num_facts n (by omega)).2.2.1, (num_facts m hm).2.2.1]
  repeat' split
  all_goals omega
theorem small_log {n : Nat} (h : n < 101) : (n : Int).natAbs.log2 < 1920 := by
  have e : ∀ n : Nat, n < 101 → (n : Int).natAbs.log2 < 1920 := by decide +kernel
  exact e n h
structure Nm (x : Str) : Prop where
  low : 1 ≤ x.length
  up : x.length ≤ 8
  asc : Txt.isascii x = true
  alp : Txt.isalpha x = true
  lwr : Txt.islower x = true
/-- a share as it is told by units b -/
inductive Shw (b : Nat) : V → Str → Prop
  | none : Shw b (.str "none") "none"
  | some : Shw b (.str "some") "some"
  | num (n : Nat) (h : n ≤ b) : Shw b (.int n) (nS n)
def wordsV : List V := [.str "none", .str "some"]
def sp_read_number (K : PySem.W.Frag) : Sp := fun vs H Q _ => ∃ n m : Nat, vs = [.str (nS n), .int m] ∧ n ≤ m ∧ m ≤ 100 ∧ Q (.int n) H
def sp_is_name (K : PySem.W.Frag) : Sp := fun vs H Q _ => ∃ x : Str, vs = [.str x] ∧ Nm x ∧ Q (.bl true) H
def sp_read_share (K : PySem.W.Frag) : Sp := fun vs H Q _ => ∃ (u : Addr) (b : Nat) (h w : Str) (v : V), vs = [.ref u, .str w] ∧ Un K H u b h ∧ Shw b v w ∧ Q v H
def sp_read_units (K : PySem.W.Frag) : Sp := fun vs H Q _ => ∃ (l : Addr) (b : Nat) (h : Str), vs = [.ref l] ∧ SqL K H l [.str "in", .str (nS b), .str h] ∧ 2 ≤ b ∧ b ≤ 100 ∧ How h ∧ ∀ H' u, Same H H' → H u = none → H' u = some (.tup [.int b, .str h]) → Q (.ref u) H'
def sp_is_asked (K : PySem.W.Frag) : Sp := fun vs H Q _ => ∃ (l : Addr) (x : Str), vs = [.ref l] ∧ SqL K H l [.str "asked", .str x] ∧ Nm x ∧ Q (.bl true) H
section
variable {P : Program} {w : World} {K : PySem.W.Frag} {mg : Str → Option Value} {base : Heap}
theorem ok_is_name {f : Addr} {fd : FuncData} (F : Fun K "is_name" "is_name" s_is_name f fd) (m_isinstance : mg "isinstance" = none) (m_str : mg "str" = none) (m_len : mg "len" = none) : FnOk P w K mg base CX0 1 f fd ["value"] (sp_is_name K) := by
  refine F.ok sc_is_name (fun vs H Q E h => ?_) (fun cdv A outer s H vs Q E hr h => ?_)
  · obtain ⟨x, rfl, _⟩ := h
    rfl
  · refine ⟨_, (pss_cons (ps_if (PW.pt (pw_or (pt_not (pt_val (pe_callB call_isi (by rfl) m_isinstance (by decide +kernel) (pa_cons (pv 0) (pa_cons (pe_bltn (v := .ty "str") (by rfl) m_str (by decide +kernel) rfl) pa_nil))))) (pw_or1 (pt_not (pt_chain op_le op_le pe_int (pe_callB call_len_str (by rfl) m_len (by decide +kernel) (pa_cons (pv 0) pa_nil)) pe_int))))) (pss_one (ps_ret pe_bl)) pss_nil)
      (pss_one (ps_ret (pe_and (pe_bm0 PySem.F.plainAttrs_str PySem.F.slot_str_isascii PySem.F.type_str_isascii mt_isascii (pv 0)) (pe_and (pe_bm0 PySem.F.plainAttrs_str PySem.F.slot_str_isalpha PySem.F.type_str_isalpha mt_isalpha (pv 0)) (pe_one (pe_bm0 PySem.F.plainAttrs_str PySem.F.slot_str_islower PySem.F.type_str_islower mt_islower (pv 0)))))))), ?_⟩
    obtain ⟨x, rfl, ⟨h1, h2, h3, h4, h5⟩, q⟩ := h
    have z : x.length ≤ sizeLine := Nat.le_trans h2 (by decide)
    refine ⟨.str x, rfl, .str x, .ty "str", _, _, true, rfl, .ty "str", .base (.str x), kit_ty (by decide +kernel), true, rfl, iteF ?_⟩
    refine ⟨.str x, rfl, x, rfl, z, 1, _, rfl, rfl, _, rfl, iteDY (by omega) ⟨_, 8, rfl, rfl, _, rfl, ?_⟩⟩
    rw [decide_eq_true (show ((x.length : Nat) : Int) ≤ 8 by omega)]
    refine iteF ⟨.str x, rfl, rfl, x, rfl, rfl, trivial, _, rfl, ?_⟩
    rw [h3]
    refine iteT ⟨.str x, rfl, rfl, x, rfl, rfl, trivial, _, rfl, ?_⟩
    rw [h4]
    refine iteT ⟨.str x, rfl, rfl, x, rfl, rfl, trivial, ?_⟩
    rw [h5]
    exact q
theorem ok_read_number {f : Addr} {fd : FuncData} (F : Fun K "read_number" "read_number" s_read_number f fd) (m_len : mg "len" = none) (m_str : mg "str" = none) (m_int : mg "int" = none) : FnOk P w K mg base CX0 1 f fd ["word", "most"] (sp_read_number K) := by
  refine F.ok sc_read_number (fun vs H Q E h => ?_) (fun cdv A outer s H vs Q E hr h => ?_)
  · obtain ⟨n, m, rfl, _⟩ := h
    rfl
  · refine ⟨_, (pss_cons (ps_if (PW.pt (pw_or (pt_not (pt_val (pe_bm0 PySem.F.plainAttrs_str PySem.F.slot_str_isdecimal PySem.F.type_str_isdecimal mt_isdecimal (pv 0)))) (pw_or1 (pt_cmpR op_gt (pe_callB call_len_str (by rfl) m_len (by decide +kernel) (pa_cons (pv 0) pa_nil)) (pe_callB call_len_str (by rfl) m_len (by decide +kernel) (pa_cons (pe_callTy call_str_int (by rfl) m_str (by decide +kernel) (pa_cons (pv 1) pa_nil)) pa_nil)) (nomark _))))) (pss_one (ps_ret pe_non)) pss_nil)
      (pss_cons (ps_set (i := 2) sc_read_number.nd rfl (.inl rfl) (pe_callTy call_int_str (by rfl) m_int (by decide +kernel) (pa_cons (pv 0) pa_nil)))
      (pss_cons (ps_if (PW.pt (pw_or (pt_cmpR op_ne (pe_callTy call_str_int (by rfl) m_str (by decide +kernel) (pa_cons (pv 2) pa_nil)) (pv 0) (nomark _)) (pw_or1 (pt_cmpR op_gt (pv 2) (pv 1) (nomark _))))) (pss_one (ps_ret pe_non)) pss_nil)
      (pss_one (ps_ret (pv 2)))))), ?_⟩
    obtain ⟨n, m, rfl, hn, hm, q⟩ := h
    obtain ⟨f1, f2, f3, _⟩ := num_facts n (by omega)
    have fl := num_len hn (show m < 101 by omega)
    have f3m := (num_facts m (by omega)).2.2.1
    have zn : (nS n).length ≤ 3 := by
      rw [f3]
      split <;> (try split) <;> omega
    have zm : (nS m).length ≤ 3 := by
      rw [f3m]
      split <;> (try split) <;> omega
    refine ⟨.str (nS n), rfl, rfl, nS n, rfl, rfl, trivial, _, rfl, ?_⟩
    rw [f1]
    refine iteF ⟨.str (nS n), rfl, nS n, rfl, Nat.le_trans zn (by decide), .int m, rfl, m, rfl, small_log (by omega), nS m, rfl, Nat.le_trans zm (by decide), _, _, rfl, rfl, _, rfl, ?_⟩
    refine iteDN (by omega) ?_
    refine ⟨.str (nS n), rfl, nS n, n, rfl, f2, Nat.le_trans zn (by decide), ?_⟩
    refine ⟨.int n, rfl, n, rfl, small_log (by omega), .str (nS n), rfl, rfl, _, rfl, ?_⟩
    rw [show decide (V.str (Str.ofString (toString (n : Int))) = V.str (nS n)) = true from decide_eq_true rfl]
    refine iteF ⟨.int n, rfl, .int m, rfl, _, _, rfl, rfl, _, rfl, iteDN (by omega) ?_⟩
    exact ⟨.int n, rfl, q⟩
theorem ok_read_share {f : Addr} {fd : FuncData} (F : Fun K "read_share" "read_share" s_read_share f fd) {a_WORDS : Addr} (g_WORDS : mg "WORDS" = some (.ref a_WORDS)) (t_WORDS : TupK K a_WORDS wordsV) (c_read_number : Cal P w K mg base 1 "read_number" ["word", "most"] (sp_read_number K)) : FnOk P w K mg base CX0 2 f fd ["units", "word"] (sp_read_share K) := by
  refine F.ok sc_read_share (fun vs H Q E h => ?_) (fun cdv A outer s H vs Q E hr h => ?_)
  · obtain ⟨u, b, h, w, v, rfl, _⟩ := h
    rfl
  · refine ⟨_, (pss_cons (ps_if (pt_cmpR op_in_seq (pv 1) (pe_glob (v := .ref a_WORDS) (by rfl) g_WORDS rfl) rfl) (pss_one (ps_ret (pv 1))) pss_nil)
      (pss_one (ps_ret (pe_call c_read_number.G (hr.mono (by decide)) (by rfl) c_read_number.g c_read_number.kp c_read_number.b .nil pass0 (pa_cons (pv 1) (pa_cons (pe_ix ix_tup (pv 0) pe_int (fun _ _ => rfl)) pa_nil)))))), ?_⟩
    obtain ⟨u, b, h, w, v, rfl, hu, hs, q⟩ := h
    have hb : b ≤ 100 := by
      have z := hu.2.2.1
      omega
    refine ⟨.str w, rfl, a_WORDS, wordsV, rfl, .inr (.inr t_WORDS), rfl, rfl, _, rfl, ?_⟩
    cases hs with
    | none => exact iteT ⟨.str "none", rfl, q⟩
    | some => exact iteT ⟨.str "some", rfl, q⟩
    | num n hn =>
      obtain ⟨_, _, _, f4, f5⟩ := num_facts n (by omega)
      have e : inV (.str (nS n)) wordsV = false := by
        show ((Str.ofString "none" == nS n) || ((Str.ofString "some" == nS n) || false)) = false
        rw [beq_eq_false_iff_ne.mpr (Ne.symm f4), beq_eq_false_iff_ne.mpr (Ne.symm f5)]
        rfl
      show (if (if false = true then !inV (.str (nS n)) wordsV else inV (.str (nS n)) wordsV) = true then _ else _)
      rw [if_neg Bool.false_ne_true, e]
      refine iteF ⟨.str (nS n), rfl, .ref u, rfl, u, _, 0, .int b, rfl, rfl, hu.1, atI_nat (j := 0) rfl, n, b, rfl, hn, hb, q⟩
theorem ok_read_units {f : Addr} {fd : FuncData} (F : Fun K "read_units" "read_units" s_read_units f fd) (m_len : mg "len" = none) (c_read_number : Cal P w K mg base 1 "read_number" ["word", "most"] (sp_read_number K)) (c_is_units : Cal P w K mg base 2 "is_units" ["value"] (sp_is_units K)) : FnOk P w K mg base CX0 3 f fd ["words"] (sp_read_units K) := by
  refine F.ok sc_read_units (fun vs H Q E h => ?_) (fun cdv A outer s H vs Q E hr h => ?_)
  · obtain ⟨l, b, h, rfl, _⟩ := h
    rfl
  · refine ⟨_, (pss_cons (ps_if (PW.pt (pw_or (pt_cmpR op_ne (pe_callB call_len_seq (by rfl) m_len (by decide +kernel) (pa_cons (pv 0) pa_nil)) pe_int (nomark _)) (pw_or1 (pt_cmpR op_ne (pe_ix ix_list (pv 0) pe_int (fun _ _ => rfl)) pe_str (nomark _))))) (pss_one (ps_ret pe_non)) pss_nil)
      (pss_cons (ps_set (i := 1) sc_read_units.nd rfl (.inl rfl) (pe_tup (pa_cons (pe_call c_read_number.G (hr.mono (by decide)) (by rfl) c_read_number.g c_read_number.kp c_read_number.b .nil pass0 (pa_cons (pe_ix ix_list (pv 0) pe_int (fun _ _ => rfl)) (pa_cons pe_int pa_nil))) (pa_cons (pe_ix ix_list (pv 0) pe_int (fun _ _ => rfl)) pa_nil))))
      (pss_cons (ps_if (pt_not (pt_val (pe_call c_is_units.G (hr.mono (by decide)) (by rfl) c_is_units.g c_is_units.kp c_is_units.b .nil pass0 (pa_cons (pv 1) pa_nil)))) (pss_one (ps_ret pe_non)) pss_nil)
      (pss_one (ps_ret (pv 1)))))), ?_⟩
    obtain ⟨l, b, h, rfl, hl, b1, b2, hh, q⟩ := h
    refine ⟨.ref l, rfl, l, _, rfl, .inl hl, rfl, _, rfl, iteF ?_⟩
    refine ⟨.ref l, rfl, l, _, 0, .str "in", rfl, rfl, hl, atI_nat (j := 0) rfl, rfl, _, rfl, iteF ?_⟩
    refine ⟨.ref l, rfl, l, _, 1, .str (nS b), rfl, rfl, hl, atI_nat (j := 1) rfl, b, 100, rfl, b2, by decide, .ref l, rfl, l, _, 2, .str h, rfl, rfl, hl, atI_nat (j := 2) rfl, by show 2 ≤ sizeLine; decide, fun u nu => ?_⟩
    refine ⟨.ref u, rfl, u, b, h, rfl, ⟨SqT.of upd_same, by omega, by omega, hh⟩, _, rfl, iteF ?_⟩
    exact ⟨.ref u, rfl, q _ u (sameU nu) nu upd_same⟩
theorem ok_is_asked {f : Addr} {fd : FuncData} (F : Fun K "is_asked" "is_asked" s_is_asked f fd) (m_len : mg "len" = none) (c_is_name : Cal P w K mg base 1 "is_name" ["value"] (sp_is_name K)) : FnOk P w K mg base CX0 2 f fd ["words"] (sp_is_asked K) := by
  refine F.ok sc_is_asked (fun vs H Q E h => ?_) (fun cdv A outer s H vs Q E hr h => ?_)
  · obtain ⟨l, x, rfl, _⟩ := h
    rfl
  · refine ⟨_, (pss_one (ps_ret (pe_and (pe_cmpR op_eq (pe_callB call_len_seq (by rfl) m_len (by decide +kernel) (pa_cons (pv 0) pa_nil)) pe_int (nomark _)) (pe_and (pe_cmpR op_eq (pe_ix ix_list (pv 0) pe_int (fun _ _ => rfl)) pe_str (nomark _)) (pe_one (pe_call c_is_name.G (hr.mono (by decide)) (by rfl) c_is_name.g c_is_name.kp c_is_name.b .nil pass0 (pa_cons (pe_ix ix_list (pv 0) pe_int (fun _ _ => rfl)) pa_nil))))))), ?_⟩
    obtain ⟨l, x, rfl, hl, hx, q⟩ := h
    refine ⟨.ref l, rfl, l, _, rfl, .inl hl, rfl, _, rfl, iteT ?_⟩
    refine ⟨.ref l, rfl, l, _, 0, .str "asked", rfl, rfl, hl, atI_nat (j := 0) rfl, rfl, _, rfl, iteT ?_⟩
    exact ⟨.ref l, rfl, l, _, 1, .str x, rfl, rfl, hl, atI_nat (j := 1) rfl, x, rfl, hx, q⟩
end
end Uq
namespace Uq
open PySem PySem.Spec PyProof.Rows L2
/-! ### data beside the pot -/
/-- all that is tracked but at p -/
def off (p : Addr) (H : Hp) : Hp := fun b => if b = p then none else H b
theorem DxAll.length {K : PySem.W.Frag} {H : Hp} : ∀ {ds : List PyData} {vs : List V}, DxAll K H vs ds → vs.length = ds.length
  | _, _, .nil => rfl
  | _, _, .cons _ h => congrArg (· + 1) (DxAll.length h)
theorem DxAll.append {K : PySem.W.Frag} {H : Hp} {es : List PyData} {us : List V} (g : DxAll K H us es) : ∀ {ds : List PyData} {vs : List V}, DxAll K H vs ds → DxAll K H (vs ++ us) (ds ++ es)
  | _, _, .nil => g
  | _, _, .cons a h => .cons a (DxAll.append g h)
theorem DxAll.at {K : PySem.W.Frag} {H : Hp} : ∀ {ds : List PyData} {vs : List V} {i : Nat} {v : V}, DxAll K H vs ds → vs[i]? = some v → ∃ d, d ∈ ds ∧ Dx K H v d
  | _, _, i, _, .nil, e => by simp at e
  | _, _, 0, _, .cons a h, e => by
    cases Option.some.inj e
    exact ⟨_, List.mem_cons_self, a⟩
  | _, _, i + 1, _, .cons a h, e => by
    obtain ⟨d, m, x⟩ := DxAll.at (i := i) h e
    exact ⟨d, List.mem_cons_of_mem _ m, x⟩
section
variable {K : PySem.W.Frag} {p : Addr} {c c1 c2 : Nat} {σ : L2.St} {H0 : Hp}
/-! ### steps -/
theorem seq_set {te : TE} {i : Nat} {u : TS} {D : Ends} {σ : L2.St} {H : Hp} (h : te σ H fun x H1 => u D (σ.set i (some x)) H1) : tSeq (tAsg te (gName i)) u D σ H := h
theorem lst_in {ta : TA} {σ : L2.St} {H : Hp} {Q : VK} (h : ta σ H fun xs H1 => xs.length ≤ sizeLine ∧ ∀ p, H1 p = none → Q (.ref p) (upd H1 p (.lst xs))) : tLst ta σ H Q := h
theorem op_in {r : R2} {ta tb : TE} {σ : L2.St} {H : Hp} {Q : VK} (h : ta σ H fun x H1 => tb σ H1 fun y H2 => r x y H2 Q) : tOp r ta tb σ H Q := h
theorem call_in {sp : Sp} {ta : TA} {E : XK} {σ : L2.St} {H : Hp} {Q : VK} (h : ta σ H fun vs H1 => sp (vs ++ []) H1 Q E) : tCall sp [] E ta σ H Q := h
theorem ret_in {te : TE} {D : Ends} {σ : L2.St} {H : Hp} (h : te σ H D.rt) : tRet te D σ H := h
theorem cb_in {r : List V → Hp → VK → Prop} {ta : TA} {σ : L2.St} {H : Hp} {Q : VK} (h : ta σ H fun vs H1 => r vs H1 Q) : tCB r ta σ H Q := h
/-! ### values of any kind -/
def odds1 : List PyData := [.none, .bool true, .bool false, .int 0, .int 1, .int (-1), .int 100000000, .str "", .str "a", .str "some", .str "near", .tuple [], .list [], .dict [], .tuple [.int 0], .tuple [.tuple []], .list [.int 0]]
def odds2 : List PyData := [.tuple [.int 100, .str "near"], .tuple [.tuple [.str "a", .int 1]], .tuple [.tuple [.tuple [.str "a", .int 1]], .str "more"], .tuple [.int 0, .int 1], .tuple [.tuple [.int 0, .tuple [.int 1, .int 1]]], .str "never", .tuple [.int 1, .int 1, .int 1]]
def odds : List PyData := odds1 ++ odds2
end
end Uq
namespace Uq
open PySem PySem.Spec PyProof.Rows L2
inductive Errs (H : Hp) (v : V) : List Addr → List V → Prop
  | nil : Errs H v [] []
  | cons {a C : Addr} {Cs : List Addr} {xs : List V} : Exc H a C v → Errs H v Cs xs → Errs H v (C :: Cs) (.ref a :: xs)
section
variable {H H' : Hp} {v : V} {Cs Ds : List Addr} {xs ys : List V}
theorem Errs.same (e : Same H H') : ∀ {Cs : List Addr} {xs : List V}, Errs H v Cs xs → Errs H' v Cs xs
  | _, _, .nil => .nil
  | _, _, .cons a h => .cons (a.same e) (Errs.same e h)
theorem Errs.but {p : Addr} {zs : List V} (e : But p H H') (hp : H p = some (.lst zs)) : ∀ {Cs : List Addr} {xs : List V}, Errs H v Cs xs → Errs H' v Cs xs
  | _, _, .nil => .nil
  | _, _, .cons a h => .cons (a.but e hp) (Errs.but e hp h)
theorem Errs.length : ∀ {Cs : List Addr} {xs : List V}, Errs H v Cs xs → xs.length = Cs.length
  | _, _, .nil => rfl
  | _, _, .cons _ h => congrArg (· + 1) (Errs.length h)
theorem Errs.at : ∀ {Cs : List Addr} {xs : List V} {i : Nat} {x : V}, Errs H v Cs xs → xs[i]? = some x → ∃ a C, x = .ref a ∧ Cs[i]? = some C ∧ Exc H a C v
  | _, _, i, _, .nil, e => by simp at e
  | _, _, 0, _, .cons a h, e => by
    cases Option.some.inj e
    exact ⟨_, _, rfl, rfl, a⟩
  | _, _, i + 1, _, .cons a h, e => Errs.at (i := i) h e
end
/-- the displays -/
def tMks (K : PySem.W.Frag) : List Addr → TA
  | [] => tNil
  | C :: r => tCons (tMkV C (sp_init K) (tCons (tVar 0) tNil)) (tMks K r)
section
variable {K : PySem.W.Frag} {σ : L2.St} {v : V}
theorem mk1 {i : Nat} {C : Addr} {H : Hp} {Q : VK} (T : Xcl K C) (e : σ[i]? = some (some v)) (q : ∀ a H1, H a = none → Same H H1 → Exc H1 a C v → Q (.ref a) H1) : tMkV C (sp_init K) (tCons (tVar i) tNil) σ H Q :=
  mkV_of T ⟨v, e, v, rfl, fun a H2 n s x => q a H2 n s x⟩ fun m h => by
    obtain ⟨y, e, h⟩ := h
    exact ⟨y, e, m _ _ h⟩
theorem cons_in {te : TE} {ta : TA} {H : Hp} {Q : List V → Hp → Prop} (h : te σ H fun x H1 => ta σ H1 fun xs H2 => Q (x :: xs) H2) : tCons te ta σ H Q := h
theorem mks (e : σ[0]? = some (some v)) : ∀ (Cs : List Addr) (H : Hp) (Q : List V → Hp → Prop), (∀ C ∈ Cs, Xcl K C) → (∀ xs H1, Same H H1 → Errs H1 v Cs xs → Q xs H1) → tMks K Cs σ H Q
  | [], H, Q, _, q => q [] H (fun _ _ e => e) .nil
  | C :: Cs, H, Q, hX, q => show tCons (tMkV C (sp_init K) (tCons (tVar 0) tNil)) (tMks K Cs) σ H Q from cons_in <| mk1 (hX C List.mem_cons_self) e fun a H1 na s x => mks e Cs H1 _ (fun D hD => hX D (List.mem_cons_of_mem _ hD)) fun xs H2 s2 xs2 => q _ H2 (fun b o h => s2 _ _ (s _ _ h)) (.cons (x.same s2) xs2)
end
end Uq
namespace Uq
open PySem PySem.Spec PyProof.Rows L2
theorem none_of {H H1 : Hp} {l : Addr} (s : Same H H1) (n : H1 l = none) : H l = none := by
  cases e : H l with
  | none => rfl
  | some o => rw [s _ _ e] at n; cases n
end Uq
namespace Uq
open PySem PySem.Spec PyProof.Rows L2
/-! ### the lines of a page: a dict from names to (above, share, far) -/
structure Ln where
  nm : Str
  ab : V
  sh : V
  fa : V
def Lat (K : PySem.W.Frag) (H : Hp) (l : Ln) (kv : Key × V) : Prop := kv.1 = .inr l.nm ∧ ∃ t : Addr, kv.2 = .ref t ∧ SqT K H t [l.ab, l.sh, l.fa]
def Lns (K : PySem.W.Frag) (H : Hp) (d : Addr) (ls : List Ln) : Prop := ∃ kvs : List (Key × V), H d = some (.dK kvs) ∧ Paired (Lat K H) ls kvs
theorem Lat.same {K : PySem.W.Frag} {H H' : Hp} {l : Ln} {kv : Key × V} (e : Same H H') (h : Lat K H l kv) : Lat K H' l kv := by
  obtain ⟨h1, t, h2, h3⟩ := h
  exact ⟨h1, t, h2, sqT_same e h3⟩
theorem paired_mono {α β : Type} {R R' : α → β → Prop} (m : ∀ a b, R a b → R' a b) : ∀ {xs : List α} {ys : List β}, Paired R xs ys → Paired R' xs ys
  | _, _, .nil => .nil
  | _, _, .cons a h => .cons (m _ _ a) (paired_mono m h)
theorem paired_at {α β : Type} {R : α → β → Prop} : ∀ {xs : List α} {ys : List β} {i : Nat} {y : β}, Paired R xs ys → ys[i]? = some y → ∃ x, xs[i]? = some x ∧ R x y
  | _, _, i, _, .nil, e => by simp at e
  | _, _, 0, _, .cons a h, e => by
    cases Option.some.inj e
    exact ⟨_, rfl, a⟩
  | _, _, i + 1, _, .cons a h, e => paired_at (i := i) h e
theorem Lns.same {K : PySem.W.Frag} {H H' : Hp} {d : Addr} {ls : List Ln} (e : Same H H') (h : Lns K H d ls) : Lns K H' d ls := by
  obtain ⟨kvs, h1, h2⟩ := h
  exact ⟨kvs, e _ _ h1, paired_mono (fun _ _ x => x.same e) h2⟩
theorem sqT_upd {K : PySem.W.Frag} {H : Hp} {t d : Addr} {xs : List V} {kvs : List (Key × V)} {o : HO} (h : SqT K H t xs) (hd : H d = some (.dK kvs)) : SqT K (upd H d o) t xs := by
  rcases h with (h | ⟨ob, h⟩) | h
  · have n : t ≠ d := fun z => by
      rw [z, hd] at h
      cases h
    exact .inl (.inl (by rw [upd_ne n]; exact h))
  · have n : t ≠ d := fun z => by
      rw [z, hd] at h
      cases h
    exact .inl (.inr ⟨ob, by rw [upd_ne n]; exact h⟩)
  · exact .inr h
theorem Lat.lock {K : PySem.W.Frag} {H : Hp} {l : Ln} {kv : Key × V} {d : Addr} {kvs : List (Key × V)} {o : HO} (h : Lat K H l kv) (hd : H d = some (.dK kvs)) : Lat K (upd H d o) l kv := by
  obtain ⟨h1, t, h2, h3⟩ := h
  exact ⟨h1, t, h2, sqT_upd h3 hd⟩
/-- a dict locked, walked over and let go -/
theorem unlocked {H H1 : Hp} {d : Addr} {kvs : List (Key × V)} {od : Obj} (hd : H d = some (.dK kvs)) (s : Same (upd H d (.frz od (.dK kvs))) H1) : Same H (upd H1 d (.dK kvs)) := fun b o e => by
  by_cases z : b = d
  · subst z
    rw [upd_same, ← e, hd]
  · rw [upd_ne z]
    exact s b o (by rw [upd_ne z]; exact e)
def wholes (ls : List Ln) : List V := ls.map (·.ab)
def isEnd (ls : List Ln) (l : Ln) : Bool := !inV (.str l.nm) (wholes ls)
def ends (ls : List Ln) : List Str := (ls.filter (isEnd ls)).map (·.nm)
def sp_ends_among (K : PySem.W.Frag) : Sp := fun vs H Q _ => ∃ (d : Addr) (ls : List Ln), vs = [.ref d] ∧ Lns K H d ls ∧ ls.length ≤ 100 ∧ (wholes ls).all flatV = true ∧ ∀ H' t, Same H H' → H t = none → H' t = some (.tup ((ends ls).map V.str)) → Q (.ref t) H'
section
variable {P : Program} {w : World} {K : PySem.W.Frag} {mg : Str → Option Value} {base : Heap}
theorem ok_ends_among {f : Addr} {fd : FuncData} (F : Fun K "ends_among" "ends_among" s_ends_among f fd) (m_tuple : mg "tuple" = none) : FnOk P w K mg base CX0 1 f fd ["lines"] (sp_ends_among K) := by
  refine F.ok sc_ends_among (fun vs H Q E h => ?_) (fun cdv A outer s H vs Q E hr h => ?_)
  · obtain ⟨d, ls, rfl, _⟩ := h
    rfl
  · refine ⟨_, (pss_cons (ps_set (i := 1) sc_ends_among.nd rfl (.inr rfl) (pe_lock (pe_lc (own := [("line", 2)]) (g := gName 2) rfl sc_ends_among.nd (pi_values (pv 0)) (blkOk_by (own := [("line", 2)]) (N := N_ends_among) (sc := defScope s_ends_among) (by decide +kernel)) (fun _ _ _ _ _ => (pg_name (i := 2) sc_ends_among.nd rfl (.inl rfl))) (fun _ _ _ _ _ => pts_nil) (fun _ _ _ _ _ => (pe_ix (r := rIxT K) ix_tup (pv 2) pe_int (fun _ _ => rfl))))))
      (pss_one (ps_ret (pe_callTy call_tuple_of (by rfl) m_tuple (by decide +kernel) (pa_cons (pe_lock (pe_lc (own := [("part", 3)]) (g := gName 3) rfl sc_ends_among.nd (pi_keys (pv 0)) (blkOk_by (own := [("part", 3)]) (N := N_ends_among) (sc := defScope s_ends_among) (by decide +kernel)) (fun _ _ _ _ _ => (pg_name (i := 3) sc_ends_among.nd rfl (.inl rfl))) (fun _ _ _ _ _ => (pts_one (pt_cmpR (r := rIn K true) op_notIn_seq (pv 3) (pv 1) rfl))) (fun _ _ _ _ _ => (pv 3)))) pa_nil))))), ?_⟩
    obtain ⟨d, ls, rfl, ⟨kvs, hd, hp⟩, hz, hf, q⟩ := h
    have hl : ls.length = kvs.length := hp.length
    refine seq_set ⟨d, .dK kvs, hd, trivial, fun od => ?_⟩
    refine ⟨.ref d, rfl, d, od, kvs, rfl, upd_same, fun D nD => ?_⟩
    have nDd : D ≠ d := fun z => by
      rw [z, upd_same] at nD
      cases nD
    have nD0 : H D = none := by
      rw [upd_ne nDd] at nD
      exact nD
    refine lc_it walk_values (fun i H' => Same (upd H d (.frz od (.dK kvs))) H' ∧ H' D = some (.lst ((wholes ls).take i))) ⟨sameU nD, upd_same⟩ (fun i H' _ h => h.1 _ _ upd_same) ?_ ?_
    · rintro i x H1 H2 hi ⟨s1, hD⟩ ⟨rfl, k, hk⟩
      obtain ⟨l, el, _, t, et, ht⟩ := paired_at hp hk
      cases et
      have ht1 := sqT_same s1 (sqT_upd (o := .frz od (.dK kvs)) ht hd)
      refine ⟨rfl, .ref t, rfl, t, _, 0, l.ab, rfl, rfl, ht1, atI_nat (j := 0) rfl, _, hD, ?_, ?_, ?_⟩
      · rw [List.length_take]
        exact small1000 (Nat.le_trans (Nat.min_le_left _ _) (by omega))
      · intro b o e
        rw [upd_ne (ne_of_none e nD)]
        exact s1 _ _ e
      · rw [upd_same, List.take_add_one]
        have e : (wholes ls)[i]? = some l.ab := by
          unfold wholes
          rw [List.getElem?_map, el]
          rfl
        rw [e]
        rfl
    rintro H1 ⟨s1, hD⟩
    refine ⟨s1 _ _ upd_same, ?_⟩
    have sG : Same H (upd H1 d (.dK kvs)) := unlocked hd s1
    have hGD : (upd H1 d (.dK kvs)) D = some (.lst (wholes ls)) := by
      rw [upd_ne nDd, hD, List.take_of_length_le]
      unfold wholes
      rw [List.length_map, hl]
      exact Nat.le_refl _
    have hGd : (upd H1 d (.dK kvs)) d = some (.dK kvs) := upd_same
    generalize L2.upd H1 d (.dK kvs) = G at sG hGD hGd ⊢
    refine ret_in (cb_in (cons_in ⟨d, .dK kvs, hGd, trivial, fun od2 => ?_⟩))
    refine ⟨.ref d, rfl, d, od2, rfl, .inl ⟨kvs, upd_same, fun T nT => ?_⟩⟩
    have nTd : T ≠ d := fun z => by
      rw [z, upd_same] at nT
      cases nT
    have hLD : (upd G d (.frz od2 (.dK kvs))) D = some (.lst (wholes ls)) := by
      rw [upd_ne nDd]
      exact hGD
    refine lc_it walk_keys (fun i H' => Same (upd G d (.frz od2 (.dK kvs))) H' ∧ H' T = some (.lst (((ls.take i).filter (isEnd ls)).map fun l => .str l.nm))) ⟨sameU nT, upd_same⟩ (fun i H' _ h => h.1 _ _ upd_same) ?_ ?_
    · rintro i x H2 H3 hi ⟨s2, hT⟩ ⟨rfl, k, v, hk, rfl⟩
      obtain ⟨l, el, ek, _⟩ := paired_at hp hk
      have ek' : k = .inr l.nm := ek
      subst ek'
      have tk : ls.take (i + 1) = ls.take i ++ [l] := by
        rw [List.take_add_one, el]
        rfl
      refine ⟨rfl, .str l.nm, rfl, .ref D, rfl, D, wholes ls, rfl, .inl (SqL.of (s2 _ _ hLD)), rfl, hf, _, rfl, ?_⟩
      show if isEnd ls l = true then _ else _
      refine ite2 (fun e => ?_) (fun e => ?_)
      · refine ⟨.str l.nm, rfl, _, hT, ?_, ?_, ?_⟩
        · rw [List.length_map]
          refine small1000 (Nat.le_trans (List.length_filter_le _ _) ?_)
          rw [List.length_take]
          exact Nat.le_trans (Nat.min_le_right _ _) (by omega)
        · intro b o eb
          rw [upd_ne (ne_of_none eb nT)]
          exact s2 _ _ eb
        · rw [upd_same, tk, List.filter_append, List.map_append, List.filter_cons_of_pos e]
          rfl
      · refine ⟨s2, ?_⟩
        rw [hT, tk, List.filter_append, List.filter_cons_of_neg e]
        simp
    rintro H2 ⟨s2, hT⟩
    refine ⟨s2 _ _ upd_same, ?_⟩
    have sA : Same H (upd H2 d (.dK kvs)) := sG.trans (unlocked hGd s2)
    have hE : (upd H2 d (.dK kvs)) T = some (.lst ((ends ls).map V.str)) := by
      rw [upd_ne nTd, hT, ← hl, List.take_length]
      unfold ends
      rw [List.map_map]
      rfl
    refine ⟨T, _, rfl, .inl ⟨SqL.of hE, fun r nr => ?_⟩⟩
    exact q _ r (sA.trans (sameU nr)) (none_of sA nr) upd_same
end
end Uq
namespace Uq
open PySem PySem.Spec PyProof.Rows L2
/-! ### from a part up to the first one -/
inductive Way (ls : List Ln) : Str → List Str → Prop
  | top {l : Ln} : l ∈ ls → l.ab = .non → Way ls l.nm [l.nm]
  | up {l : Ln} {q : Str} {w : List Str} : l ∈ ls → l.ab = .str q → Way ls q w → Way ls l.nm (l.nm :: w)
theorem lns_get {K : PySem.W.Frag} {H : Hp} {l : Ln} : ∀ {ls : List Ln} {kvs : List (Key × V)}, Paired (Lat K H) ls kvs → (ls.map (·.nm)).Nodup → l ∈ ls → ∃ t : Addr, valV kvs (.inr l.nm) = some (.ref t) ∧ SqT K H t [l.ab, l.sh, l.fa]
  | _, _, .nil, _, h => nomatch h
  | l0 :: ls, kv :: kvs, .cons a r, nd, h => by
    obtain ⟨e1, t, e2, ht⟩ := a
    rw [List.map_cons, List.nodup_cons] at nd
    rcases List.mem_cons.mp h with z | z
    · subst z
      exact ⟨t, by rw [valV_pos e1, e2], ht⟩
    · obtain ⟨t', v, ht'⟩ := lns_get r nd.2 z
      refine ⟨t', ?_, ht'⟩
      rw [valV_neg]
      · exact v
      · intro e
        rw [e1] at e
        exact nd.1 (List.mem_map.mpr ⟨l, z, (Sum.inr.inj e).symm⟩)
def sp_way_up (K : PySem.W.Frag) : Sp := fun vs H Q _ => ∃ (d : Addr) (ls : List Ln) (p : Str) (w : List Str) (kvs : List (Key × V)), vs = [.ref d, .str p] ∧ Rd H d (.dK kvs) ∧ Paired (Lat K H) ls kvs ∧ (ls.map (·.nm)).Nodup ∧ Way ls p w ∧ w.length ≤ 100 ∧
  ∀ H' r, Same H H' → H r = none → H' r = some (.lst (w.map V.str)) → Q (.ref r) H'
section
variable {P : Program} {w : World} {K : PySem.W.Frag} {mg : Str → Option Value} {base : Heap}
theorem ok_way_up {f : Addr} {fd : FuncData} (F : Fun K "way_up" "way_up" s_way_up f fd) : FnOk P w K mg base CX0 1 f fd ["lines", "part"] (sp_way_up K) := by
  refine F.ok sc_way_up (fun vs H Q E h => ?_) (fun cdv A outer s H vs Q E hr h => ?_)
  · obtain ⟨d, ls, p, w, kvs, rfl, _⟩ := h
    rfl
  · refine ⟨_, (pss_cons (ps_set (i := 2) sc_way_up.nd rfl (.inl rfl) (pe_lst (pa_cons (pv 1) pa_nil)))
      (pss_cons (ps_while PassesOwn.never (pt_cmpR op_notN (pe_ix ix_tup (pe_dget (hu_of hr) (pv 0) (pe_ix ix_list (pv 2) (pe_un un_neg pe_int) (fun _ _ => rfl)) (fun _ _ => rfl)) pe_int (fun _ _ => rfl)) pe_non (nomark _)) (pss_one (ps_expr (pe_bm PySem.F.plainAttrs_list PySem.F.slot_list_append PySem.F.type_list_append mt_append (pv 2) (pa_cons (pe_ix ix_tup (pe_dget (hu_of hr) (pv 0) (pe_ix ix_list (pv 2) (pe_un un_neg pe_int) (fun _ _ => rfl)) (fun _ _ => rfl)) pe_int (fun _ _ => rfl)) pa_nil)))))
      (pss_one (ps_ret (pv 2))))), ?_⟩
    obtain ⟨d, ls, p0, w0, kvs, rfl, hd, hp, nd, hw0, hz, q⟩ := h
    refine seq_set ⟨.str p0, rfl, by show 1 ≤ sizeLine; decide, fun L nL => ?_⟩
    refine ⟨fun m σ H' => ∃ (ws w : List Str) (p : Str), m = w.length ∧ σ = [some (.ref d), some (.str p0), some (.ref L)] ∧ Same H H' ∧ H' L = some (.lst (ws.map V.str ++ [.str p])) ∧ Way ls p w ∧ ws ++ w = w0, ⟨_, [], w0, p0, rfl, rfl, sameU nL, upd_same, hw0, rfl⟩, ?_⟩
    rintro m σ H1 ⟨ws, w, p, rfl, rfl, s1, hL, hw, ew⟩
    have look : ∀ l : Ln, l ∈ ls → ∃ t : Addr, DGet H1 d (.str l.nm) (some (.ref t)) ∧ SqT K H1 t [l.ab, l.sh, l.fa] := fun l hl => by
      obtain ⟨t, ev, ht⟩ := lns_get hp nd hl
      refine ⟨t, .inl ⟨kvs, .inr l.nm, ?_, rfl, ev.symm⟩, sqT_same s1 ht⟩
      rcases hd with hd | ⟨ob, hd⟩
      · exact .inl (s1 _ _ hd)
      · exact .inr ⟨ob, s1 _ _ hd⟩
    have lz : ws.length + w.length ≤ 100 := by
      have z := congrArg List.length ew
      rw [List.length_append] at z
      omega
    cases hw with
    | @top l hl e =>
      obtain ⟨t, hg, ht⟩ := look l hl
      refine ⟨.ref d, rfl, .ref L, rfl, 1, rfl, L, _, -1, .str l.nm, rfl, rfl, SqL.of hL, atI_last _ _, d, .ref t, rfl, hg, t, _, 0, l.ab, rfl, rfl, ht, atI_nat (j := 0) rfl, rfl, _, rfl, ?_⟩
      rw [e]
      refine iteF ⟨.ref L, rfl, q H1 L s1 (by exact nL) ?_⟩
      rw [hL, ← ew, List.map_append]
      rfl
    | @up l pq w hl e hw =>
      obtain ⟨t, hg, ht⟩ := look l hl
      refine ⟨.ref d, rfl, .ref L, rfl, 1, rfl, L, _, -1, .str l.nm, rfl, rfl, SqL.of hL, atI_last _ _, d, .ref t, rfl, hg, t, _, 0, l.ab, rfl, rfl, ht, atI_nat (j := 0) rfl, rfl, _, rfl, ?_⟩
      rw [e]
      refine iteT ⟨fun σ' H' => ∃ (ws' w' : List Str) (p' : Str), w.length = w'.length ∧ σ' = [some (.ref d), some (.str p0), some (.ref L)] ∧ Same H H' ∧ H' L = some (.lst (ws'.map V.str ++ [.str p'])) ∧ Way ls p' w' ∧ ws' ++ w' = w0, fun σ' H' h => ⟨w.length, by simp, h⟩, ?_⟩
      refine ⟨.ref L, rfl, .inl ⟨rfl, _, SqL.of hL⟩, .ref d, rfl, .ref L, rfl, 1, rfl, L, _, -1, .str l.nm, rfl, rfl, SqL.of hL, atI_last _ _, d, .ref t, rfl, hg, t, _, 0, l.ab, rfl, rfl, ht, atI_nat (j := 0) rfl, L, _, _, rfl, rfl, hL, ?_, ?_⟩
      · rw [List.length_append, List.length_map]
        exact small1000 (by simp; omega)
      · refine ⟨ws ++ [l.nm], w, pq, rfl, rfl, fun b o eb => ?_, ?_, hw, ?_⟩
        · rw [upd_ne (ne_of_none eb nL)]
          exact s1 _ _ eb
        · rw [upd_same, e, List.map_append]
          rfl
        · rw [List.append_assoc]
          exact ew
end
end Uq
namespace Uq
open PySem PySem.Spec PyProof.Rows L2
theorem next_in {t : L2.St → Hp → Prop} {r : VK} {b c : L2.St → Hp → Prop} {σ : L2.St} {H : Hp} (h : t σ H) : tNext { nx := t, rt := r, bk := b, ct := c } σ H := h
/-! ### the line of a part -/
/-- shares, and the words that tell them: marks, share words, shares -/
inductive Opts (b : Nat) : V → V → List Str → List Str → List V → Prop
  | none : Opts b .non .non [] [] []
  | sh {v : V} {x : Str} : Shw b v x → Opts b v .non ["is"] [x] [v]
  | fa {v : V} {x : Str} : Shw b v x → Opts b .non v ["all"] [x] [v]
  | both {v u : V} {x y : Str} : Shw b v x → Shw b u y → Opts b v u ["is", "all"] [x, y] [v, u]
def weave : List Str → List Str → List Str
  | m :: ms, w :: ws => m :: w :: weave ms ws
  | _, _ => []
def lineW (nm ab : Str) (ms ws : List Str) : List Str := Str.ofString "part" :: nm :: Str.ofString "of" :: ab :: weave ms ws
theorem u65 {k : Nat} {A : Around} (r : Room k A) : A.units + 65 < cLine := by
  have := r.un
  omega
theorem shw_flat {b : Nat} {v : V} {x : Str} (h : Shw b v x) : flatV v = true ∧ v ≠ .non ∧ eqV v .non = false := by
  cases h <;> exact ⟨rfl, (fun z => nomatch z), rfl⟩
def idx (lo : Int) (n : Nat) : List Nat := sliceRange (sliceBounds (some lo) none (some 2) n).1 (sliceBounds (some lo) none (some 2) n).2.1 (sliceBounds (some lo) none (some 2) n).2.2
theorem idx_all : idx 4 4 = [] ∧ idx 5 4 = [] ∧ idx 4 6 = [4] ∧ idx 5 6 = [5] ∧ idx 4 8 = [4, 6] ∧ idx 5 8 = [5, 7] := by decide +kernel
theorem pick_idx {xs : List V} {lo : Int} {n : Nat} {is : List Nat} (e : xs.length = n) (h : idx lo n = is) : pickV xs (some lo) none (some 2) = is.filterMap (xs[·]?) := by
  subst e
  subst h
  rfl
theorem opts_marks {b : Nat} {sh fa : V} {ms ws : List Str} {vs : List V} (h : Opts b sh fa ms ws vs) (nm ab : Str) : pickV ((lineW nm ab ms ws).map V.str) (some 4) none (some 2) = ms.map V.str := by
  cases h with
  | none => exact pick_idx (n := 4) rfl idx_all.1
  | sh a => exact pick_idx (n := 6) rfl idx_all.2.2.1
  | fa a => exact pick_idx (n := 6) rfl idx_all.2.2.1
  | both a c => exact pick_idx (n := 8) rfl idx_all.2.2.2.2.1
theorem opts_words {b : Nat} {sh fa : V} {ms ws : List Str} {vs : List V} (h : Opts b sh fa ms ws vs) (nm ab : Str) : pickV ((lineW nm ab ms ws).map V.str) (some 5) none (some 2) = ws.map V.str := by
  cases h with
  | none => exact pick_idx (n := 4) rfl idx_all.2.1
  | sh a => exact pick_idx (n := 6) rfl idx_all.2.2.2.1
  | fa a => exact pick_idx (n := 6) rfl idx_all.2.2.2.1
  | both a c => exact pick_idx (n := 8) rfl idx_all.2.2.2.2.2
theorem opts_len {b : Nat} {sh fa : V} {ms ws : List Str} {vs : List V} (h : Opts b sh fa ms ws vs) : ms.length ≤ 2 ∧ ws.length = ms.length ∧ vs.length = ms.length ∧ 4 ≤ (lineW nm ab ms ws).length := by
  cases h <;> exact ⟨by decide, rfl, rfl, by show 4 ≤ _; simp [lineW, weave]⟩
theorem opts_flat {b : Nat} {sh fa : V} {ms ws : List Str} {vs : List V} (h : Opts b sh fa ms ws vs) : vs.all flatV = true ∧ inV .non vs = false := by
  cases h with
  | none => exact ⟨rfl, rfl⟩
  | sh a => exact ⟨by simp [(shw_flat a).1], by simp [inV, (shw_flat a).2.2]⟩
  | fa a => exact ⟨by simp [(shw_flat a).1], by simp [inV, (shw_flat a).2.2]⟩
  | both a c => exact ⟨by simp [(shw_flat a).1, (shw_flat c).1], by simp [inV, (shw_flat a).2.2, (shw_flat c).2.2]⟩
theorem opts_shw {b : Nat} {sh fa : V} {ms ws : List Str} {vs : List V} (h : Opts b sh fa ms ws vs) {i : Nat} {w : Str} (e : ws[i]? = some w) : ∃ v, vs[i]? = some v ∧ Shw b v w := by
  cases h with
  | none => simp at e
  | sh a =>
    match i, e with
    | 0, e => cases Option.some.inj e; exact ⟨_, rfl, a⟩
  | fa a =>
    match i, e with
    | 0, e => cases Option.some.inj e; exact ⟨_, rfl, a⟩
  | both a c =>
    match i, e with
    | 0, e => cases Option.some.inj e; exact ⟨_, rfl, a⟩
    | 1, e => cases Option.some.inj e; exact ⟨_, rfl, c⟩
def marksD : List PyData := [.tuple [], .tuple [.str "is"], .tuple [.str "all"], .tuple [.str "is", .str "all"]]
theorem opts_in {b : Nat} {sh fa : V} {ms ws : List Str} {vs : List V} (h : Opts b sh fa ms ws vs) : (marksD.any fun z => PyData.eqv z (.tuple (ms.map PyData.str))) = true := by
  cases h <;> decide +kernel
theorem opts_shaped {b : Nat} {sh fa : V} {ms ws : List Str} {vs : List V} (h : Opts b sh fa ms ws vs) : SeqAt.shaped (.tuple (ms.map PyData.str)) = true := by
  cases h <;> decide +kernel
theorem marks_shaped : SeqAt.shaped (.tuple marksD) = true := by decide +kernel
theorem opts_get {b : Nat} {sh fa : V} {ms ws : List Str} {vs : List V} (h : Opts b sh fa ms ws vs) : (valV (mergeK [] ((ms.map Sum.inr).zip vs)) (.inr "is")).getD .non = sh ∧ (valV (mergeK [] ((ms.map Sum.inr).zip vs)) (.inr "all")).getD .non = fa := by
  cases h <;> exact ⟨rfl, rfl⟩
theorem dp_strs {K : PySem.W.Frag} {H : Hp} : ∀ l : List Str, DpAll K H (l.map V.str) (l.map PyData.str)
  | [] => .nil
  | x :: l => .cons (.str x) (dp_strs l)
def sp_read_part (K : PySem.W.Frag) : Sp := fun vs H Q _ => ∃ (u d l : Addr) (b : Nat) (h nm ab : Str) (kvs : List (Key × V)) (ls : List Ln) (sh fa : V) (ms ws : List Str) (xs : List V), vs = [.ref u, .ref d, .ref l] ∧ Un K H u b h ∧ H d = some (.dK kvs) ∧
  SqL K H l ((lineW nm ab ms ws).map V.str) ∧ Opts b sh fa ms ws xs ∧ Nm nm ∧ valV kvs (.inr nm) = none ∧ (valV kvs (.inr ab)).isSome = true ∧ ∀ H' t, Same H H' → H t = none → H' t = some (.tup [.str ab, sh, fa]) → Q (.ref t) H'
def sp_is_too_much (K : PySem.W.Frag) : Sp := fun vs H Q _ => ∃ (d : Addr) (ls : List Ln) (p : Str) (w : List Str), vs = [.ref d, .str p] ∧ Lns K H d ls ∧ (wholes ls).all flatV = true ∧ (ls.map (·.nm)).Nodup ∧ Way ls p w ∧ ls.length ≤ 10 ∧ (ends ls).length ≤ 6 ∧ w.length ≤ 4 ∧ ∀ H', Same H H' → Q (.bl false) H'
section
variable {P : Program} {w : World} {K : PySem.W.Frag} {mg : Str → Option Value} {base : Heap}
theorem ok_is_too_much {f : Addr} {fd : FuncData} (F : Fun K "is_too_much" "is_too_much" s_is_too_much f fd) {t9 t6 t3 : Tok} (g_MOST_PARTS : mg "MOST_PARTS" = some (.int 9 t9)) (g_MOST_ENDS : mg "MOST_ENDS" = some (.int 6 t6)) (g_MOST_STEPS : mg "MOST_STEPS" = some (.int 3 t3)) (m_len : mg "len" = none) (c_ends_among : Cal P w K mg base 1 "ends_among" ["lines"] (sp_ends_among K)) (c_way_up : Cal P w K mg base 1 "way_up" ["lines", "part"] (sp_way_up K)) : FnOk P w K mg base CX0 2 f fd ["lines", "part"] (sp_is_too_much K) := by
  refine F.ok sc_is_too_much (fun vs H Q E h => ?_) (fun cdv A outer s H vs Q E hr h => ?_)
  · obtain ⟨d, ls, p, w, rfl, _⟩ := h
    rfl
  · refine ⟨_, (pss_cons (ps_if (PW.pt (pw_or (pt_cmpR op_gt (pe_callB call_lenD (by rfl) m_len (by decide +kernel) (pa_cons (pv 0) pa_nil)) (pe_op op_add (pe_glob (v := .int 9) (by rfl) g_MOST_PARTS ⟨_, rfl⟩) pe_int) (nomark _)) (pw_or1 (pt_cmpR op_gt (pe_callB call_len_seq (by rfl) m_len (by decide +kernel) (pa_cons (pe_call c_ends_among.G (hr.mono (by decide)) (by rfl) c_ends_among.g c_ends_among.kp c_ends_among.b .nil pass0 (pa_cons (pv 0) pa_nil)) pa_nil)) (pe_glob (v := .int 6) (by rfl) g_MOST_ENDS ⟨_, rfl⟩) (nomark _))))) (pss_one (ps_ret pe_bl)) pss_nil)
      (pss_one (ps_ret (pe_cmpR op_gt (pe_callB call_len_seq (by rfl) m_len (by decide +kernel) (pa_cons (pe_call c_way_up.G (hr.mono (by decide)) (by rfl) c_way_up.g c_way_up.kp c_way_up.b .nil pass0 (pa_cons (pv 0) (pa_cons (pv 1) pa_nil))) pa_nil)) (pe_op op_add (pe_glob (v := .int 3) (by rfl) g_MOST_STEPS ⟨_, rfl⟩) pe_int) (nomark _))))), ?_⟩
    obtain ⟨d, ls, p, w, rfl, hL, hf, nd, hw, z1, z2, z3, q⟩ := h
    have hL' := hL
    obtain ⟨kvs, hd, hp⟩ := hL'
    have el : ls.length = kvs.length := hp.length
    refine ⟨.ref d, rfl, d, kvs, rfl, hd, 9, 1, rfl, rfl, _, _, rfl, rfl, _, rfl, iteDN (by omega) ?_⟩
    refine ⟨.ref d, rfl, d, ls, rfl, hL, by omega, hf, fun H1 t s1 nt ht => ?_⟩
    refine ⟨t, _, rfl, .inr (SqT.of ht), _, 6, rfl, rfl, _, rfl, ?_⟩
    refine iteDN (by rw [List.length_map]; omega) ?_
    refine ⟨.ref d, rfl, .str p, rfl, d, ls, p, w, kvs, rfl, .inl (s1 _ _ hd), paired_mono (fun _ _ x => x.same s1) hp, nd, hw, by omega, fun H2 r s2 nr hr2 => ?_⟩
    refine ⟨r, _, rfl, .inl (SqL.of hr2), 3, 1, rfl, rfl, _, _, rfl, rfl, ?_⟩
    show Q (.bl (decide ((3 + 1 : Int) < ((w.map V.str).length : Int)))) H2
    rw [decide_eq_false (by rw [List.length_map]; omega)]
    exact q H2 (s1.trans s2)
theorem ok_read_part {f : Addr} {fd : FuncData} (F : Fun K "read_part" "read_part" s_read_part f fd) (m_dict : mg "dict" = none) (m_zip : mg "zip" = none) {a_MARKS : Addr} (g_MARKS : mg "MARKS" = some (.ref a_MARKS)) (t_MARKS : ∀ H, Dp K H (.ref a_MARKS) (.tuple marksD)) (m_len : mg "len" = none) (m_tuple : mg "tuple" = none) (c_is_name : Cal P w K mg base 1 "is_name" ["value"] (sp_is_name K)) (c_read_share : Cal P w K mg base 2 "read_share" ["units", "word"] (sp_read_share K)) : FnOk P w K mg base CX0 3 f fd ["units", "lines", "words"] (sp_read_part K) := by
  refine F.ok sc_read_part (fun vs H Q E h => ?_) (fun cdv A outer s H vs Q E hr h => ?_)
  · obtain ⟨u, d, l, b, h, nm, ab, kvs, ls, sh, fa, ms, ws, xs, rfl, _⟩ := h
    rfl
  · refine ⟨_, (pss_cons (ps_if (PW.pt (pw_or (pt_cmpR op_lt (pe_callB call_len_seq (by rfl) m_len (by decide +kernel) (pa_cons (pv 2) pa_nil)) pe_int (nomark _)) (pw_or (pt_cmpR op_ne (pe_ix ix_list (pv 2) pe_int (fun _ _ => rfl)) pe_str (nomark _)) (pw_or1 (pt_cmpR op_ne (pe_ix ix_list (pv 2) pe_int (fun _ _ => rfl)) pe_str (nomark _)))))) (pss_one (ps_ret pe_non)) pss_nil)
      (pss_cons (ps_par (i := 3) (j := 4) (by rfl) sc_read_part.nd rfl rfl (by decide) rfl rfl (pa_cons (pe_ix ix_list (pv 2) pe_int (fun _ _ => rfl)) (pa_cons (pe_ix ix_list (pv 2) pe_int (fun _ _ => rfl)) pa_nil)) (by rfl))
      (pss_cons (ps_if (PW.pt (pw_or (pt_not (pt_val (pe_call c_is_name.G (hr.mono (by decide)) (by rfl) c_is_name.g c_is_name.kp c_is_name.b .nil pass0 (pa_cons (pv 3) pa_nil)))) (pw_or (pt_cmp (pc_din (hu_of hr) (pv 3) (pv 1))) (pw_or1 (pt_cmp (pc_dnotin (hu_of hr) (pv 4) (pv 1))))))) (pss_one (ps_ret pe_non)) pss_nil)
      (pss_cons (ps_set (i := 5) sc_read_part.nd rfl (.inl rfl) (pe_callTy call_tuple_of (by rfl) m_tuple (by decide +kernel) (pa_cons (pe_sliceS (pv 2) (po_some pe_int) po_none (po_some pe_int)) pa_nil)))
      (pss_cons (ps_setLc (i := 6) (own := [("word", 8)]) (g := gName 8) rfl sc_read_part.nd rfl rfl (sw_true rfl rfl rfl (by decide +kernel)) (pi_list (pe_sliceS (pv 2) (po_some pe_int) po_none (po_some pe_int))) (blkOk_by (own := [("word", 8)]) (N := N_read_part) (sc := defScope s_read_part) (by decide +kernel)) (fun _ _ _ _ _ => (pg_name (i := 8) sc_read_part.nd rfl (.inl rfl))) (fun _ _ _ _ _ => pts_nil) (fun _ _ _ _ _ => (pe_call c_read_share.G (hr.mono (by decide)) (by rfl) c_read_share.g c_read_share.kp c_read_share.b .nil pass0 (pa_cons (pv 0) (pa_cons (pv 8) pa_nil)))))
      (pss_cons (ps_if (PW.pt (pw_or (pt_cmpR (op_notInTp (u65 hr)) (pv 5) (pe_glob (v := .ref a_MARKS) (by rfl) g_MARKS rfl) rfl) (pw_or (pt_cmpR op_ne (pe_callB call_len_seq (by rfl) m_len (by decide +kernel) (pa_cons (pv 6) pa_nil)) (pe_callB call_len_seq (by rfl) m_len (by decide +kernel) (pa_cons (pv 5) pa_nil)) (nomark _)) (pw_or1 (pt_cmpR op_in_seq pe_non (pv 6) rfl))))) (pss_one (ps_ret pe_non)) pss_nil)
      (pss_cons (ps_set (i := 7) sc_read_part.nd rfl (.inl rfl) (pe_dz rfl (by rfl) m_dict (by rfl) m_zip (pa_cons (pv 5) (pa_cons (pv 6) pa_nil))))
      (pss_one (ps_ret (pe_tup (pa_cons (pv 4) (pa_cons (pe_dget1 (hu_of hr) (pv 7) pe_str ⟨rfl, rfl, rfl, rfl⟩) (pa_cons (pe_dget1 (hu_of hr) (pv 7) pe_str ⟨rfl, rfl, rfl, rfl⟩) pa_nil))))))))))))), ?_⟩
    obtain ⟨u, d, l, b, h, nm, ab, kvs, ls, sh, fa, ms, ws, xs, rfl, hu, hd, hl, ho, hn, h0, h1, q⟩ := h
    obtain ⟨z1, z2, z3, z4⟩ := opts_len (nm := nm) (ab := ab) ho
    refine ⟨.ref l, rfl, l, _, rfl, .inl hl, _, 4, rfl, rfl, _, rfl, iteDN (by rw [List.length_map]; omega) ?_⟩
    refine ⟨.ref l, rfl, l, _, 0, .str "part", rfl, rfl, hl, atI_nat (j := 0) rfl, rfl, _, rfl, iteF ?_⟩
    refine ⟨.ref l, rfl, l, _, 2, .str "of", rfl, rfl, hl, atI_nat (j := 2) rfl, rfl, _, rfl, iteF ?_⟩
    refine ⟨.ref l, rfl, l, _, 1, .str nm, rfl, rfl, hl, atI_nat (j := 1) rfl, .ref l, rfl, l, _, 3, .str ab, rfl, rfl, hl, atI_nat (j := 3) rfl, _, _, rfl, ?_⟩
    obtain ⟨va, hva⟩ := Option.isSome_iff_exists.mp h1
    refine ⟨.str nm, rfl, nm, rfl, hn, true, rfl, iteF ⟨.str nm, rfl, .ref d, rfl, d, none, rfl, .inl ⟨kvs, .inr nm, .inl hd, rfl, h0.symm⟩, _, rfl, iteF ⟨.str ab, rfl, .ref d, rfl, d, some va, rfl, .inl ⟨kvs, .inr ab, .inl hd, rfl, hva.symm⟩, _, rfl, iteF ?_⟩⟩⟩
    -- the marks
    have em := opts_marks ho nm ab
    have ew := opts_words ho nm ab
    refine next_in (seq_set ?_)
    refine ⟨.ref l, rfl, 4, rfl, 2, rfl, l, _, rfl, hl, by decide, by rw [em, List.length_map]; exact Nat.le_trans z1 (by decide), fun m0 n0 => ?_⟩
    rw [em]
    refine ⟨m0, _, rfl, .inl ⟨SqL.of upd_same, fun M nM => ?_⟩⟩
    have s2 : Same H (upd (upd H m0 (.lst (ms.map V.str))) M (.tup (ms.map V.str))) := (sameU n0).trans (sameU nM)
    have hM : (upd (upd H m0 (.lst (ms.map V.str))) M (.tup (ms.map V.str))) M = some (.tup (ms.map V.str)) := upd_same
    generalize L2.upd (L2.upd H m0 (.lst (ms.map V.str))) M (.tup (ms.map V.str)) = H2 at s2 hM ⊢
    -- the shares
    refine seq_set ?_
    refine ⟨.ref l, rfl, 5, rfl, 2, rfl, l, _, rfl, sqL_same s2 hl, by decide, by rw [ew, List.length_map, z2]; exact Nat.le_trans z1 (by decide), fun w0 n1 => ?_⟩
    rw [ew]
    have s3 : Same H2 (upd H2 w0 (.lst (ws.map V.str))) := sameU n1
    have hW : (upd H2 w0 (.lst (ws.map V.str))) w0 = some (.lst (ws.map V.str)) := upd_same
    generalize L2.upd H2 w0 (.lst (ws.map V.str)) = H3 at s3 hW ⊢
    refine ⟨w0, rfl, ⟨_, SqL.of hW⟩, fun D nD => ?_⟩
    refine lc_it (walk_list (xs := ws.map V.str)) (fun i H' => Same H3 H' ∧ H' D = some (.lst (xs.take i))) ⟨sameU nD, upd_same⟩ (fun i H' _ h => SqL.of (h.1 _ _ hW)) ?_ ?_
    · rintro i x H4 H5 hi ⟨s4, hD⟩ ⟨rfl, hx⟩
      rw [List.getElem?_map] at hx
      obtain ⟨w1, e1, rfl⟩ := Option.map_eq_some_iff.mp hx
      obtain ⟨v, ev, hv⟩ := opts_shw ho e1
      refine ⟨rfl, .ref u, rfl, .str w1, rfl, u, b, h, w1, v, rfl, hu.same ((s2.trans s3).trans s4), hv, _, hD, ?_, ?_, ?_⟩
      · rw [List.length_take]
        exact small1000 (Nat.le_trans (Nat.min_le_right _ _) (by omega))
      · intro b' o eb
        rw [upd_ne (ne_of_none eb nD)]
        exact s4 _ _ eb
      · rw [upd_same, List.take_add_one, ev]
        rfl
    rintro H4 ⟨s4, hD⟩
    have sA : Same H2 H4 := s3.trans s4
    have hD' : H4 D = some (.lst xs) := by
      rw [hD, List.take_of_length_le]
      rw [List.length_map]
      omega
    have hM' := sA _ _ hM
    obtain ⟨f1, f2⟩ := opts_flat ho
    refine ⟨.ref M, rfl, .tuple (ms.map PyData.str), marksD, .tup (SqT.of hM') (dp_strs ms), t_MARKS _, opts_shaped ho, marks_shaped, _, rfl, ?_⟩
    show if (!(marksD.any fun z => PyData.eqv z (.tuple (ms.map PyData.str)))) = true then _ else _
    rw [opts_in ho]
    refine iteF ⟨.ref D, rfl, D, xs, rfl, .inl (SqL.of hD'), .ref M, rfl, M, _, rfl, .inr (SqT.of hM'), rfl, _, rfl, ?_⟩
    rw [show decide (V.int (xs.length : Int) = V.int ((ms.map V.str).length : Int)) = true from decide_eq_true (by rw [List.length_map, z3])]
    refine iteF ⟨.ref D, rfl, D, xs, rfl, .inl (SqL.of hD'), rfl, f1, _, rfl, ?_⟩
    show if inV .non xs = true then _ else _
    rw [f2]
    refine iteF ?_
    -- what is told
    have ek : (ms.map Sum.inr).map kV = ms.map V.str := by
      rw [List.map_map]
      rfl
    refine next_in (seq_set ?_)
    refine ⟨.ref M, rfl, .ref D, rfl, M, D, ms.map Sum.inr, xs, rfl, SqT.of (by rw [ek]; exact hM'), SqL.of hD', fun T nT => ?_⟩
    obtain ⟨g1, g2⟩ := opts_get ho
    refine ret_in ?_
    refine ⟨.str ab, rfl, .ref T, rfl, T, rfl, .inl ⟨_, .inl upd_same⟩, _, .inl ⟨_, .inr "is", .inl upd_same, rfl, rfl⟩, .ref T, rfl, T, rfl, .inl ⟨_, .inl upd_same⟩, _, .inl ⟨_, .inr "all", .inl upd_same, rfl, rfl⟩, by show 3 ≤ sizeLine; decide, fun r nr => ?_⟩
    rw [g1, g2]
    have sT := (s2.trans sA).trans (sameU (o := .dK (mergeK [] ((ms.map Sum.inr).zip xs))) nT)
    exact q _ r (sT.trans (sameU nr)) (none_of sT nr) upd_same
end
end Uq
namespace Uq
open PySem PySem.Spec PyProof.Rows L2
theorem walk3 {K : PySem.W.Frag} {a : Addr} {xs : List V} : Walk (Ite3 K a) xs.length (fun H => SqL K H a xs) (YPair (fun i => some (.int ((i : Nat) + 3 : Int))) (fun i => xs[i]?)) := by
  refine ⟨fun i _ hi q => ⟨xs, xs[i], q, List.getElem?_eq_getElem hi⟩, fun _ q => ⟨xs, q, Nat.le_refl _⟩, fun i H v H' _ q y => ?_⟩
  obtain ⟨T, x, h1, h2, h3, h4⟩ := y
  exact ⟨T, .int ((i : Int) + 3), x, h1, h2, h3, rfl, h4 xs q⟩
/-! ### the rows of a page -/
structure Rw where
  nm : Str
  ab : Str
  sh : V
  fa : V
  ms : List Str
  ws : List Str
  xs : List V
def lnOf (r : Rw) : Ln := ⟨r.nm, .str r.ab, r.sh, r.fa⟩
def top (x : Str) : Ln := ⟨x, .non, .non, .non⟩
def linesOf (x : Str) (rs : List Rw) : List Ln := top x :: rs.map lnOf
/-- a row that may stand beneath these lines -/
structure GoodAt (b : Nat) (ls : List Ln) (r : Rw) : Prop where
  opts : Opts b r.sh r.fa r.ms r.ws r.xs
  nam : Nm r.nm
  new : r.nm ∉ ls.map (·.nm)
  abo : r.ab ∈ ls.map (·.nm)
  few : ls.length + 1 ≤ 10
  end_ : (ends (ls ++ [lnOf r])).length ≤ 6
  way : ∃ w, Way (ls ++ [lnOf r]) r.nm w ∧ w.length ≤ 4
def Good (b : Nat) (x : Str) (rs : List Rw) : Prop := ∀ k r, rs[k]? = some r → GoodAt b (linesOf x (rs.take k)) r
theorem lns_none {K : PySem.W.Frag} {H : Hp} {nm : Str} : ∀ {ls : List Ln} {kvs : List (Key × V)}, Paired (Lat K H) ls kvs → nm ∉ ls.map (·.nm) → valV kvs (.inr nm) = none
  | _, _, .nil, _ => rfl
  | l :: ls, kv :: kvs, .cons a r, h => by
    rw [valV_neg]
    · exact lns_none r fun z => h (List.mem_cons_of_mem _ z)
    · intro e
      rw [a.1] at e
      exact h (by rw [List.map_cons, Sum.inr.inj e]; exact List.mem_cons_self)
theorem lns_some {K : PySem.W.Frag} {H : Hp} {nm : Str} : ∀ {ls : List Ln} {kvs : List (Key × V)}, Paired (Lat K H) ls kvs → nm ∈ ls.map (·.nm) → (valV kvs (.inr nm)).isSome = true
  | _, _, .nil, h => nomatch h
  | l :: ls, kv :: kvs, .cons a r, h => by
    by_cases e : kv.1 = Sum.inr nm
    · rw [valV_pos e]
      rfl
    · rw [valV_neg e]
      refine lns_some r ?_
      rcases List.mem_cons.mp h with z | z
      · exact absurd (by rw [a.1, z]) e
      · exact z
theorem put_new {kvs : List (Key × V)} {k : Key} {v : V} (h : valV kvs k = none) : putK kvs k v = kvs ++ [(k, v)] := by
  unfold putK
  rw [valV_any, h]
  rfl
theorem paired_snoc {α β : Type} {R : α → β → Prop} {x : α} {y : β} (r : R x y) : ∀ {xs : List α} {ys : List β}, Paired R xs ys → Paired R (xs ++ [x]) (ys ++ [y])
  | _, _, .nil => .cons r .nil
  | _, _, .cons a h => .cons a (paired_snoc r h)
theorem lines_take {x : Str} {rs : List Rw} {i : Nat} {r : Rw} (e : rs[i]? = some r) : linesOf x (rs.take (i + 1)) = linesOf x (rs.take i) ++ [lnOf r] := by
  unfold linesOf
  rw [List.take_add_one, e, List.map_append]
  rfl
theorem lines_flat (x : Str) (rs : List Rw) : (wholes (linesOf x rs)).all flatV = true := by
  unfold wholes linesOf
  rw [List.all_eq_true]
  intro v hv
  simp only [List.map_cons, List.map_map, List.mem_cons, List.mem_map] at hv
  rcases hv with rfl | ⟨r, _, rfl⟩ <;> rfl
theorem lines_nodup {b : Nat} {x : Str} {rs : List Rw} (h : Good b x rs) : ∀ i, i ≤ rs.length → ((linesOf x (rs.take i)).map (·.nm)).Nodup
  | 0, _ => by simp [linesOf]
  | i + 1, hi => by
    have e : rs[i]? = some rs[i] := List.getElem?_eq_getElem hi
    rw [lines_take e, List.map_append, List.nodup_append]
    refine ⟨lines_nodup h i (by omega), by simp, fun a ha c hc => ?_⟩
    simp only [List.map_cons, List.map_nil, List.mem_singleton] at hc
    subst hc
    intro z
    exact (h i _ e).new (show (lnOf rs[i]).nm ∈ _ from z ▸ ha)
def RowsAt (K : PySem.W.Frag) (H : Hp) (l : V) (r : Rw) : Prop := ∃ a : Addr, l = .ref a ∧ SqL K H a ((lineW r.nm r.ab r.ms r.ws).map V.str)
def sp_read_parts (K : PySem.W.Frag) : Sp := fun vs H Q _ => ∃ (u R : Addr) (b : Nat) (h x : Str) (Ls : List V) (rs : List Rw), vs = [.ref u, .str x, .ref R] ∧ Un K H u b h ∧ SqL K H R Ls ∧ Paired (RowsAt K H) Ls rs ∧ Good b x rs ∧
  ∀ H' d, Same H H' → H d = none → Lns K H' d (linesOf x rs) → Q (.ref d) H'
section
variable {P : Program} {w : World} {K : PySem.W.Frag} {mg : Str → Option Value} {base : Heap}
theorem ok_read_parts {f : Addr} {fd : FuncData} (F : Fun K "read_parts" "read_parts" s_read_parts f fd) (m_enumerate : mg "enumerate" = none) (c_read_part : Cal P w K mg base 3 "read_part" ["units", "lines", "words"] (sp_read_part K)) (c_is_too_much : Cal P w K mg base 2 "is_too_much" ["lines", "part"] (sp_is_too_much K)) : FnOk P w K mg base CX0 4 f fd ["units", "first", "rows"] (sp_read_parts K) := by
  refine F.ok sc_read_parts (fun vs H Q E h => ?_) (fun cdv A outer s H vs Q E hr h => ?_)
  · obtain ⟨u, R, b, h, x, Ls, rs, rfl, _⟩ := h
    rfl
  · refine ⟨_, (pss_cons (ps_set (i := 3) sc_read_parts.nd rfl (.inl rfl) (pe_disp (pps_cons (pv 1) (pe_tup (pa_cons pe_non (pa_cons pe_non (pa_cons pe_non pa_nil)))) pps_nil) rfl rfl (fun z => nomatch z) (by decide)))
      (pss_cons (ps_for PassesOwn.never rfl (pi_enum3 (by rfl) m_enumerate (pa_cons (pv 2) pa_nil)) (pg_tup rfl (pgs_cons (pg_name (i := 4) sc_read_parts.nd rfl (.inl rfl)) (pgs_cons (pg_name (i := 5) sc_read_parts.nd rfl (.inl rfl)) pgs_nil)))
        (pss_cons (ps_set (i := 6) sc_read_parts.nd rfl (.inl rfl) (pe_call c_read_part.G (hr.mono (by decide)) (by rfl) c_read_part.g c_read_part.kp c_read_part.b .nil pass0 (pa_cons (pv 0) (pa_cons (pv 3) (pa_cons (pv 5) pa_nil)))))
        (pss_cons (ps_if (pt_cmpR op_isN (pv 6) pe_non (nomark _)) (pss_one ps_never) pss_nil)
        (pss_cons (ps_set (i := 7) sc_read_parts.nd rfl (.inl rfl) (pe_ix ix_list (pv 5) pe_int (fun _ _ => rfl)))
        (pss_cons (ps_dput (hu_of hr) (pv 3) (pv 7) (pv 6) rfl)
        (pss_one (ps_if (pt_val (pe_call c_is_too_much.G (hr.mono (by decide)) (by rfl) c_is_too_much.g c_is_too_much.kp c_is_too_much.b .nil pass0 (pa_cons (pv 3) (pa_cons (pv 7) pa_nil)))) (pss_one ps_never) pss_nil)))))))
      (pss_one (ps_ret (pv 3))))), ?_⟩
    obtain ⟨u, R, b, h, x, Ls, rs, rfl, hu, hR, hL, hg, q⟩ := h
    have hlen : Ls.length = rs.length := hL.length
    refine seq_set fun d nd => ⟨.str x, rfl, by show 3 ≤ sizeLine; decide, fun t0 nt => ?_⟩
    have ntd : t0 ≠ d := fun z => by
      rw [z, upd_same] at nt
      cases nt
    refine ⟨by rw [upd_ne (Ne.symm ntd)]; exact upd_same, [(.inr x, .ref t0)], rfl, by show 1 ≤ 15; decide, ?_⟩
    have n0 : H t0 = none := by
      rw [upd_ne ntd] at nt
      exact nt
    have hk0 : mergeK [] [((.inr x : Key), V.ref t0)] = [(.inr x, .ref t0)] := rfl
    rw [hk0]
    have sG : Same H (upd (upd (upd H d (.dK [])) t0 (.tup [.non, .non, .non])) d (.dK [(.inr x, .ref t0)])) := fun c o e => by
      rw [upd_ne (ne_of_none e nd), upd_ne (ne_of_none e n0), upd_ne (ne_of_none e nd)]
      exact e
    have hGd : (upd (upd (upd H d (.dK [])) t0 (.tup [.non, .non, .non])) d (.dK [(.inr x, .ref t0)])) d = some (.dK [(.inr x, .ref t0)]) := upd_same
    have hGt : (upd (upd (upd H d (.dK [])) t0 (.tup [.non, .non, .non])) d (.dK [(.inr x, .ref t0)])) t0 = some (.tup [.non, .non, .non]) := by
      rw [upd_ne ntd, upd_same]
    generalize L2.upd (L2.upd (L2.upd H d (.dK [])) t0 (.tup [.non, .non, .non])) d (.dK [(.inr x, .ref t0)]) = G at sG hGd hGt ⊢
    refine ⟨.ref R, rfl, R, Ls, rfl, sqL_same sG hR, for_it (walk3 (xs := Ls)) (fun i σ H' => Same H H' ∧ (∃ kvs, H' d = some (.dK kvs) ∧ Paired (Lat K H') (linesOf x (rs.take i)) kvs) ∧ ∃ s4 s5 s6 s7, σ = [some (.ref u), some (.str x), some (.ref R), some (.ref d), s4, s5, s6, s7]) ⟨sG, ⟨_, hGd, .cons ⟨rfl, t0, rfl, SqT.of hGt⟩ .nil⟩, none, none, none, none, rfl⟩ (fun i σ H' _ h => sqL_same h.1 hR) ?_ ?_⟩
    · rintro i xv σ H1 H2 hi ⟨s1, ⟨kvs, hd, hp⟩, t4, t5, t6, t7, rfl⟩ ⟨T, y, z, rfl, nT, rfl, ey, ez⟩
      cases ey
      have hi2 : i < rs.length := by omega
      have er : rs[i]? = some rs[i] := List.getElem?_eq_getElem hi2
      have hz : RowsAt K H z rs[i] := by
        have e2 : ∀ {xs : List V} {ys : List Rw} {i : Nat} {x : V} {y : Rw}, Paired (RowsAt K H) xs ys → xs[i]? = some x → ys[i]? = some y → RowsAt K H x y := by
          intro xs ys i x y h
          induction h generalizing i with
          | nil => intro a; simp at a
          | cons a r ih =>
            cases i with
            | zero =>
              intro e1 e2
              cases Option.some.inj e1
              cases Option.some.inj e2
              exact a
            | succ i => exact fun e1 e2 => ih e1 e2
        exact e2 hL ez er
      obtain ⟨a, rfl, hw⟩ := hz
      have ga := hg i _ er
      generalize rs[i] = r at er hw ga
      have s2 := s1.trans (sameU (o := .tup [.int ((i : Nat) + 3 : Int), .ref a]) nT)
      have nTd : d ≠ T := ne_of_none hd nT
      have hd2 : (upd H1 T (.tup [.int ((i : Nat) + 3 : Int), .ref a])) d = some (.dK kvs) := by
        rw [upd_ne nTd]
        exact hd
      have hp2 := paired_mono (fun _ _ y => Lat.same (sameU (o := .tup [.int ((i : Nat) + 3 : Int), .ref a]) nT) y) hp
      refine ⟨T, _, rfl, SqT.of upd_same, rfl, _, _, rfl, _, _, rfl, rfl, ?_⟩
      generalize L2.upd H1 T _ = H2 at s2 hd2 hp2 ⊢
      refine seq_set ?_
      refine ⟨.ref u, rfl, .ref d, rfl, .ref a, rfl, u, d, a, b, h, r.nm, r.ab, kvs, linesOf x (rs.take i), r.sh, r.fa, r.ms, r.ws, r.xs, rfl, hu.same s2, hd2, sqL_same s2 hw, ga.opts, ga.nam, lns_none hp2 ga.new, lns_some hp2 ga.abo, fun H3 t s3 nt3 ht3 => ?_⟩
      refine ⟨.ref t, rfl, rfl, _, rfl, ?_⟩
      rw [show decide (V.ref t = V.non) = false from decide_eq_false fun z => nomatch z]
      refine iteF ?_
      refine next_in (seq_set ?_)
      have s23 := s2.trans s3
      refine ⟨.ref a, rfl, a, _, 1, .str r.nm, rfl, rfl, sqL_same s23 hw, atI_nat (j := 1) rfl, ?_⟩
      have hd3 := s3 _ _ hd2
      have hp3 := paired_mono (fun _ _ y => Lat.same s3 y) hp2
      have hz3 : kvs.length < sizeLine := by
        rw [← hp3.length]
        have z := ga.few
        exact small1000 (by omega)
      refine ⟨.ref t, rfl, .ref d, rfl, .str r.nm, rfl, d, _, rfl, .inl ⟨kvs, .inr r.nm, hd3, rfl, hz3, rfl⟩, ?_⟩
      rw [put_new (lns_none hp3 ga.new)]
      have ntd3 : t ≠ d := fun z => by
        rw [z, hd2] at nt3
        cases nt3
      have s4 : Same H (upd H3 d (.dK (kvs ++ [(.inr r.nm, .ref t)]))) := fun c o e => by
        rw [upd_ne (ne_of_none e nd)]
        exact s23 _ _ e
      have hd4 : (upd H3 d (.dK (kvs ++ [(.inr r.nm, .ref t)]))) d = some (.dK (kvs ++ [(.inr r.nm, .ref t)])) := upd_same
      have hp4 : Paired (Lat K (upd H3 d (.dK (kvs ++ [(.inr r.nm, .ref t)])))) (linesOf x (rs.take (i + 1))) (kvs ++ [(.inr r.nm, .ref t)]) := by
        rw [lines_take er]
        exact paired_snoc ⟨rfl, t, rfl, sqT_upd (SqT.of ht3) hd3⟩ (paired_mono (fun _ _ y => Lat.lock y hd3) hp3)
      generalize L2.upd H3 d (.dK (kvs ++ [(.inr r.nm, .ref t)])) = H4 at s4 hd4 hp4 ⊢
      obtain ⟨w, hw1, hw2⟩ := ga.way
      have few := ga.few
      have nd' := lines_nodup hg (i + 1) (by omega)
      refine ⟨.ref d, rfl, .str r.nm, rfl, d, linesOf x (rs.take (i + 1)), r.nm, w, rfl, ⟨_, hd4, hp4⟩, lines_flat _ _, nd', by rw [lines_take er]; exact hw1, ?_, by rw [lines_take er]; exact ga.end_, hw2, fun H5 s5 => ?_⟩
      · rw [lines_take er, List.length_append]
        simp only [List.length_cons, List.length_nil]
        omega
      · refine ⟨_, rfl, iteF ?_⟩
        exact ⟨s4.trans s5, ⟨_, s5 _ _ hd4, paired_mono (fun _ _ y => Lat.same s5 y) hp4⟩, _, _, _, _, rfl⟩
    · rintro σ H1 ⟨s1, ⟨kvs, hd, hp⟩, t4, t5, t6, t7, rfl⟩
      refine ⟨.ref d, rfl, q H1 d s1 nd ⟨kvs, hd, ?_⟩⟩
      rw [hlen, List.take_length] at hp
      exact hp
end
end Uq
namespace Uq
open PySem PySem.Spec PyProof.Rows L2
open TL
/-! ### the text of a page -/
structure Wd (x : Str) : Prop where
  len : x.length ≤ 8
  sp : (32 : Nat) ∉ tl x
  nl : (10 : Nat) ∉ tl x
theorem tl_len (x : Str) : (tl x).length = x.length := by
  show x.cps.toList.length = x.cps.size
  simp
theorem mem_joinL {c : Nat} {y : List Nat} : ∀ {ps : List (List Nat)}, c ∈ joinL y ps → c ∈ y ∨ ∃ p ∈ ps, c ∈ p
  | [], h => nomatch h
  | [p], h => .inr ⟨p, List.mem_cons_self, h⟩
  | p :: q :: r, h => by
    have h' : c ∈ p ++ (y ++ joinL y (q :: r)) := h
    rcases List.mem_append.mp h' with h | h
    · exact .inr ⟨p, List.mem_cons_self, h⟩
    · rcases List.mem_append.mp h with h | h
      · exact .inl h
      · rcases mem_joinL h with h | ⟨p', m, h⟩
        · exact .inl h
        · exact .inr ⟨p', List.mem_cons_of_mem _ m, h⟩
theorem len_joinL {y : List Nat} {n : Nat} : ∀ {ps : List (List Nat)}, (∀ p ∈ ps, p.length + y.length ≤ n) → (joinL y ps).length ≤ n * ps.length
  | [], _ => Nat.zero_le _
  | [p], h => by
    have z := h p List.mem_cons_self
    show p.length ≤ n * 1
    omega
  | p :: q :: r, h => by
    have z := h p List.mem_cons_self
    have i := len_joinL (y := y) (n := n) (ps := q :: r) fun p m => h p (List.mem_cons_of_mem _ m)
    show (p ++ (y ++ joinL y (q :: r))).length ≤ n * ((q :: r).length + 1)
    rw [List.length_append, List.length_append, Nat.mul_succ]
    omega
def spS : Str := Str.ofString " "
def nlS : Str := Str.ofString "\n"
def lineS (ws : List Str) : Str := Txt.join spS ws
def textS (ls : List (List Str)) : Str := Txt.join nlS (ls.map lineS)
theorem line_split {ws : List Str} (hne : ws ≠ []) (h : ∀ w ∈ ws, Wd w) : Txt.split (lineS ws) spS = ws := split_join (s := 32) (S := []) (by decide +kernel) (by decide +kernel) hne fun p m => (h p m).sp
theorem line_nl {ws : List Str} (h : ∀ w ∈ ws, Wd w) : (10 : Nat) ∉ tl (lineS ws) := by
  intro z
  unfold lineS at z
  rw [join_eq, tl_join] at z
  rcases mem_joinL z with z | ⟨p, m, z⟩
  · revert z
    decide +kernel
  · obtain ⟨w, mw, rfl⟩ := List.mem_map.mp m
    exact (h w mw).nl z
theorem line_len {ws : List Str} (h : ∀ w ∈ ws, Wd w) : (lineS ws).length ≤ 9 * ws.length := by
  rw [← tl_len]
  unfold lineS
  rw [join_eq, tl_join]
  have e : (tl spS).length = 1 := by decide +kernel
  have z := len_joinL (y := tl spS) (n := 9) (ps := ws.map tl) fun p m => by
    obtain ⟨w, mw, rfl⟩ := List.mem_map.mp m
    rw [tl_len, e]
    exact Nat.succ_le_succ (h w mw).len
  rw [List.length_map] at z
  exact z
theorem text_split {ls : List (List Str)} (hne : ls ≠ []) (h : ∀ ws ∈ ls, ∀ w ∈ ws, Wd w) : Txt.split (textS ls) nlS = ls.map lineS := by
  refine split_join (s := 10) (S := []) (by decide +kernel) (by decide +kernel) (fun e => hne (List.map_eq_nil_iff.mp e)) fun p m => ?_
  obtain ⟨ws, mw, rfl⟩ := List.mem_map.mp m
  exact line_nl (h ws mw)
theorem text_len {ls : List (List Str)} (h : ∀ ws ∈ ls, (∀ w ∈ ws, Wd w) ∧ ws.length ≤ 8) : (textS ls).length ≤ 73 * ls.length := by
  rw [← tl_len]
  unfold textS
  rw [join_eq, tl_join]
  have e : (tl nlS).length = 1 := by decide +kernel
  have z := len_joinL (y := tl nlS) (n := 73) (ps := (ls.map lineS).map tl) fun p m => by
    obtain ⟨q, mq, rfl⟩ := List.mem_map.mp m
    obtain ⟨ws, mw, rfl⟩ := List.mem_map.mp mq
    have a := line_len (h ws mw).1
    have c := (h ws mw).2
    rw [tl_len, e]
    omega
  rw [List.length_map, List.length_map] at z
  exact z
def rowW (r : Rw) : List Str := lineW r.nm r.ab r.ms r.ws
def pageW (b : Nat) (h x : Str) (rs : List Rw) : List (List Str) := [Str.ofString "in", nS b, h] :: [Str.ofString "asked", x] :: rs.map rowW
def pageT (b : Nat) (h x : Str) (rs : List Rw) : Str := textS (pageW b h x rs)
theorem opts_weave {b : Nat} {sh fa : V} {ms ws : List Str} {vs : List V} (h : Opts b sh fa ms ws vs) : (weave ms ws).length ≤ 4 := by
  cases h <;> simp [weave]
/-- all that a right page is -/
structure Pg (b : Nat) (h x : Str) (rs : List Rw) : Prop where
  b0 : 2 ≤ b
  b1 : b ≤ 100
  how : How h
  nam : Nm x
  good : Good b x rs
  some : rs ≠ []
  wds : ∀ ws ∈ pageW b h x rs, ∀ w ∈ ws, Wd w
theorem Pg.few {b : Nat} {h x : Str} {rs : List Rw} (P : Pg b h x rs) : rs.length ≤ 9 := by
  rcases Nat.lt_or_ge 0 rs.length with z | z
  · have e : rs[rs.length - 1]? = Option.some rs[rs.length - 1] := List.getElem?_eq_getElem (by omega)
    have f := (P.good _ _ e).few
    unfold linesOf at f
    rw [List.length_cons, List.length_map, List.length_take] at f
    omega
  · omega
theorem Pg.len {b : Nat} {h x : Str} {rs : List Rw} (P : Pg b h x rs) : (pageT b h x rs).length ≤ 1000 := by
  have f := P.few
  have z := text_len (ls := pageW b h x rs) fun ws m => ⟨P.wds ws m, by
    unfold pageW at m
    simp only [List.mem_cons, List.mem_map] at m
    rcases m with rfl | rfl | ⟨r, mr, rfl⟩
    · simp
    · simp
    · obtain ⟨k, hk, e⟩ := List.getElem_of_mem mr
      have g := (P.good k r (by rw [List.getElem?_eq_getElem hk, e])).opts
      have w := opts_weave g
      unfold rowW lineW
      simp only [List.length_cons]
      omega⟩
  unfold pageT
  have l : (pageW b h x rs).length = rs.length + 2 := by simp [pageW]
  rw [l] at z
  omega
theorem cut_from {xs : List V} {k : Nat} (hk : k ≤ xs.length) : cutV xs (some (k : Int)) none = xs.drop k := by
  unfold cutV
  rw [show HT.sIx xs.length 0 (some (k : Int)) = min k xs.length from HT.sIx_nat xs.length 0 k, HT.sIx_none, Nat.min_eq_left hk]
  exact List.take_of_length_le (by rw [List.length_drop]; omega)
theorem paired_map {α β γ : Type} {R : α → γ → Prop} {f : β → γ} : ∀ {ys : List α} {xs : List β}, Paired R ys (xs.map f) → Paired (fun y x => R y (f x)) ys xs
  | _, [], .nil => .nil
  | _, _ :: _, .cons a h => .cons a (paired_map h)
def sp_read_page (K : PySem.W.Frag) : Sp := fun vs H Q _ => ∃ (b : Nat) (h x : Str) (rs : List Rw), vs = [.str (pageT b h x rs)] ∧ Pg b h x rs ∧
  ∀ H' t u d, Same H H' → H t = none → H u = none → H d = none → H' t = some (.tup [.ref u, .ref d]) → H' u = some (.tup [.int b, .str h]) → Lns K H' d (linesOf x rs) → Q (.ref t) H'
section
variable {P : Program} {w : World} {K : PySem.W.Frag} {mg : Str → Option Value} {base : Heap}
theorem ok_read_page {f : Addr} {fd : FuncData} (F : Fun K "read_page" "read_page" s_read_page f fd) (m_isinstance : mg "isinstance" = none) (m_str : mg "str" = none) (m_len : mg "len" = none) (c_read_units : Cal P w K mg base 3 "read_units" ["words"] (sp_read_units K)) (c_is_asked : Cal P w K mg base 2 "is_asked" ["words"] (sp_is_asked K)) (c_read_parts : Cal P w K mg base 4 "read_parts" ["units", "first", "rows"] (sp_read_parts K)) : FnOk P w K mg base CX0 5 f fd ["text"] (sp_read_page K) := by
  refine F.ok sc_read_page (fun vs H Q E h => ?_) (fun cdv A outer s H vs Q E hr h => ?_)
  · obtain ⟨b, h, x, rs, rfl, _⟩ := h
    rfl
  · refine ⟨_, (pss_cons (ps_if (pt_not (pt_val (pe_callB call_isi (by rfl) m_isinstance (by decide +kernel) (pa_cons (pv 0) (pa_cons (pe_bltn (v := .ty "str") (by rfl) m_str (by decide +kernel) rfl) pa_nil))))) (pss_one ps_never) pss_nil)
      (pss_cons (ps_setLc (i := 1) (own := [("row", 3)]) (g := gName 3) rfl sc_read_page.nd rfl rfl (sw_true rfl rfl rfl (by decide +kernel)) (pi_list (pe_split (pv 0) pe_str)) (blkOk_by (own := [("row", 3)]) (N := N_read_page) (sc := defScope s_read_page) (by decide +kernel)) (fun _ _ _ _ _ => (pg_name (i := 3) sc_read_page.nd rfl (.inl rfl))) (fun _ _ _ _ _ => pts_nil) (fun _ _ _ _ _ => (pe_split (pv 3) pe_str)))
      (pss_cons (ps_set (i := 2) sc_read_page.nd rfl (.inl rfl) (pe_call c_read_units.G (hr.mono (by decide)) (by rfl) c_read_units.g c_read_units.kp c_read_units.b .nil pass0 (pa_cons (pe_ix ix_list (pv 1) pe_int (fun _ _ => rfl)) pa_nil)))
      (pss_cons (ps_if (pt_cmpR op_isN (pv 2) pe_non (nomark _)) (pss_one ps_never) pss_nil)
      (pss_cons (ps_if (PW.pt (pw_or (pt_cmpR op_lt (pe_callB call_len_seq (by rfl) m_len (by decide +kernel) (pa_cons (pv 1) pa_nil)) pe_int (nomark _)) (pw_or1 (pt_not (pt_val (pe_call c_is_asked.G (hr.mono (by decide)) (by rfl) c_is_asked.g c_is_asked.kp c_is_asked.b .nil pass0 (pa_cons (pe_ix ix_list (pv 1) pe_int (fun _ _ => rfl)) pa_nil))))))) (pss_one ps_never) pss_nil)
      (pss_cons (ps_if (pt_cmpR op_lt (pe_callB call_len_seq (by rfl) m_len (by decide +kernel) (pa_cons (pv 1) pa_nil)) pe_int (nomark _)) (pss_one ps_never) pss_nil)
      (pss_one (ps_ret (pe_tup (pa_cons (pv 2) (pa_cons (pe_call c_read_parts.G (hr.mono (by decide)) (by rfl) c_read_parts.g c_read_parts.kp c_read_parts.b .nil pass0 (pa_cons (pv 2) (pa_cons (pe_ix ix_list (pe_ix ix_list (pv 1) pe_int (fun _ _ => rfl)) pe_int (fun _ _ => rfl)) (pa_cons (pe_slice sl_list (pv 1) (po_some pe_int) po_none) pa_nil)))) pa_nil))))))))))), ?_⟩
    obtain ⟨b, h, x, rs, rfl, P, q⟩ := h
    have zt : (pageT b h x rs).length + 2 ≤ sizeLine := Nat.le_trans (Nat.add_le_add_right P.len 2) (by decide)
    have esp : Txt.split (pageT b h x rs) nlS = (pageW b h x rs).map lineS := text_split (by unfold pageW; simp) P.wds
    refine ⟨.str (pageT b h x rs), rfl, .str _, .ty "str", _, _, true, rfl, .ty "str", .base (.str _), kit_ty (by decide +kernel), true, rfl, iteF ?_⟩
    refine next_in (seq_set ?_)
    refine ⟨.str (pageT b h x rs), rfl, ⟨_, rfl⟩, _, nlS, rfl, rfl, by decide +kernel, zt, fun L nL => ?_⟩
    rw [esp]
    have sL : Same H (upd H L (.lst (((pageW b h x rs).map lineS).map V.str))) := sameU nL
    have hL : (upd H L (.lst (((pageW b h x rs).map lineS).map V.str))) L = some (.lst (((pageW b h x rs).map lineS).map V.str)) := upd_same
    generalize L2.upd H L (.lst (((pageW b h x rs).map lineS).map V.str)) = H1 at sL hL ⊢
    refine ⟨L, rfl, ⟨_, SqL.of hL⟩, fun D nD => ?_⟩
    refine lc_it (walk_list (xs := ((pageW b h x rs).map lineS).map V.str)) (fun i H' => Same H1 H' ∧ ∃ ys, H' D = some (.lst ys) ∧ Paired (fun y ws => ∃ a : Addr, y = .ref a ∧ a ≠ D ∧ H' a = some (.lst (ws.map V.str))) ys ((pageW b h x rs).take i)) ⟨sameU nD, [], upd_same, .nil⟩ (fun i H' _ h => SqL.of (h.1 _ _ hL)) ?_ ?_
    · rintro i y H2 H3 hi ⟨s2, ys, hD, hp⟩ ⟨rfl, hy⟩
      rw [List.getElem?_map, List.getElem?_map] at hy
      obtain ⟨sx, e1, rfl⟩ := Option.map_eq_some_iff.mp hy
      obtain ⟨ws, e2, rfl⟩ := Option.map_eq_some_iff.mp e1
      have mw : ws ∈ pageW b h x rs := List.mem_of_getElem? e2
      have hw := P.wds ws mw
      have ne : ws ≠ [] := by
        unfold pageW at mw
        simp only [List.mem_cons, List.mem_map] at mw
        rcases mw with rfl | rfl | ⟨r, _, rfl⟩
        · simp
        · simp
        · simp [rowW, lineW]
      have es := line_split ne hw
      have few := P.few
      have l8 : ws.length ≤ 8 := by
        unfold pageW at mw
        simp only [List.mem_cons, List.mem_map] at mw
        rcases mw with rfl | rfl | ⟨r, mr, rfl⟩
        · simp
        · simp
        · obtain ⟨k, hk, e⟩ := List.getElem_of_mem mr
          have gd := (P.good k r (by rw [List.getElem?_eq_getElem hk, e])).opts
          have wv := opts_weave gd
          unfold rowW lineW
          simp only [List.length_cons]
          omega
      have zl : (lineS ws).length + 2 ≤ sizeLine := by
        have z := line_len hw
        exact Nat.le_trans (show (lineS ws).length + 2 ≤ 74 by omega) (by decide)
      refine ⟨rfl, .str (lineS ws), rfl, ⟨_, rfl⟩, _, spS, rfl, rfl, by decide +kernel, zl, fun a na => ?_⟩
      rw [es]
      have naD : a ≠ D := fun z => by
        rw [z, hD] at na
        cases na
      refine ⟨ys, by rw [upd_ne (Ne.symm naD)]; exact hD, ?_, ?_, _, upd_same, ?_⟩
      · rw [hp.length, List.length_take]
        refine small1000 (Nat.le_trans (Nat.min_le_right _ _) ?_)
        simp [pageW]
        omega
      · intro c o eb
        rw [upd_ne (ne_of_none eb nD), upd_ne (ne_of_none (s2 _ _ eb) na)]
        exact s2 _ _ eb
      · rw [List.take_add_one, e2]
        refine paired_snoc ⟨a, rfl, naD, by rw [upd_ne naD, upd_same]⟩ (paired_mono (fun y w ⟨c, e, n, hc⟩ => ⟨c, e, n, ?_⟩) hp)
        rw [upd_ne n, upd_ne (ne_of_none hc na)]
        exact hc
    rintro H2 ⟨s2, ys, hD, hp⟩
    rw [List.length_map, List.length_map, List.take_length] at hp
    unfold pageW at hp
    cases hp with
    | @cons y0 _ _ _ r0 hp =>
      cases hp with
      | @cons y1 _ yr _ r1 hp =>
        obtain ⟨a0, rfl, _, h0⟩ := r0
        obtain ⟨a1, rfl, _, h1⟩ := r1
        have hrs := paired_map hp
        have zr := hrs.length
        have z1 : 1 ≤ rs.length := by
          rcases Nat.lt_or_ge 0 rs.length with z | z
          · exact z
          · exact absurd (List.length_eq_zero_iff.mp (by omega)) P.some
        refine seq_set ?_
        refine ⟨.ref D, rfl, D, _, 0, .ref a0, rfl, rfl, SqL.of hD, atI_nat (j := 0) rfl, a0, b, h, rfl, SqL.of h0, P.b0, P.b1, P.how, fun H3 u s3 nu hu => ?_⟩
        have hD3 := s3 _ _ hD
        have h13 := s3 _ _ h1
        refine ⟨.ref u, rfl, rfl, _, rfl, ?_⟩
        rw [show decide (V.ref u = V.non) = false from decide_eq_false fun z => nomatch z]
        refine iteF ?_
        refine next_in ?_
        refine ⟨.ref D, rfl, D, _, rfl, .inl (SqL.of hD3), _, 2, rfl, rfl, _, rfl, iteDN (by simp only [List.length_cons]; omega) ?_⟩
        refine ⟨.ref D, rfl, D, _, 1, .ref a1, rfl, rfl, SqL.of hD3, atI_nat (j := 1) rfl, a1, x, rfl, SqL.of h13, P.nam, true, rfl, iteF ?_⟩
        refine next_in ?_
        refine ⟨.ref D, rfl, D, _, rfl, .inl (SqL.of hD3), _, 3, rfl, rfl, _, rfl, iteDN (by simp only [List.length_cons]; omega) ?_⟩
        refine next_in (ret_in ?_)
        refine ⟨.ref u, rfl, .ref u, rfl, .ref D, rfl, D, _, 1, .ref a1, rfl, rfl, SqL.of hD3, atI_nat (j := 1) rfl, a1, _, 1, .str x, rfl, rfl, SqL.of h13, atI_nat (j := 1) rfl, .ref D, rfl, 2, rfl, D, _, rfl, SqL.of hD3, fun R nR => ?_⟩
        have ec : cutV (V.ref a0 :: V.ref a1 :: yr) (some (2 : Int)) none = yr := by
          exact cut_from (k := 2) (by simp)
        rw [ec]
        have s4 : Same H3 (upd H3 R (.lst yr)) := sameU nR
        have hR : (upd H3 R (.lst yr)) R = some (.lst yr) := upd_same
        generalize L2.upd H3 R (.lst yr) = H4 at s4 hR ⊢
        have sH3 : Same H H3 := (sL.trans s2).trans s3
        have s34 := s3.trans s4
        refine ⟨u, R, b, h, x, yr, rs, rfl, ⟨SqT.of (s4 _ _ hu), by have z := P.b0; omega, by have z := P.b1; omega, P.how⟩, SqL.of hR, paired_mono (fun y r ⟨c, e, _, hc⟩ => ⟨c, e, SqL.of (s34 _ _ hc)⟩) hrs, P.good, fun H5 d s5 nd hd => ?_⟩
        refine ⟨by show 2 ≤ sizeLine; decide, fun t nt => ?_⟩
        have sA : Same H H5 := (sH3.trans s4).trans s5
        have nt' : Same H5 (upd H5 t (.tup [.ref u, .ref d])) := sameU nt
        exact q _ t u d (sA.trans nt') (none_of sA nt) (none_of (sL.trans s2) nu) (none_of (sH3.trans s4) nd) upd_same (nt' _ _ (s5 _ _ (s4 _ _ hu))) (hd.same nt')
end
end Uq
namespace Uq
open PySem PySem.Spec PyProof.Rows L2
/-! ### a page, as an object -/
abbrev s_Page__init_ : Stmt := inClass (topS 35) 0
abbrev N_Page__init_ : List Str := ["self", "text", "units", "lines"]
theorem sc_Page__init_ : FnScope N_Page__init_ ["self", "text"] (defScope s_Page__init_) := ⟨rfl, rfl, rfl, by decide +kernel, rfl, by decide +kernel, by decide +kernel⟩
abbrev s_Page_parts : Stmt := inClass (topS 35) 3
abbrev N_Page_parts : List Str := ["self"]
theorem sc_Page_parts : FnScope N_Page_parts ["self"] (defScope s_Page_parts) := ⟨rfl, rfl, rfl, by decide +kernel, rfl, by decide +kernel, by decide +kernel⟩
abbrev s_Page_ends : Stmt := inClass (topS 35) 4
abbrev N_Page_ends : List Str := ["self"]
theorem sc_Page_ends : FnScope N_Page_ends ["self"] (defScope s_Page_ends) := ⟨rfl, rfl, rfl, by decide +kernel, rfl, by decide +kernel, by decide +kernel⟩
abbrev s_Page__contains_ : Stmt := inClass (topS 35) 6
abbrev N_Page__contains_ : List Str := ["self", "x"]
theorem sc_Page__contains_ : FnScope N_Page__contains_ ["self", "x"] (defScope s_Page__contains_) := ⟨rfl, rfl, rfl, by decide +kernel, rfl, by decide +kernel, by decide +kernel⟩
/-- what the class must tell of its instances' attributes -/
structure PgC (K : PySem.W.Frag) (C : Addr) : Prop where
  cls : Cls K C
  text : NoAttr K C "_text"
  units : NoAttr K C "_units"
  lines : NoAttr K C "_lines"
  ends : NoAttr K C "_ends"
def pgF (b : Nat) (h x : Str) (rs : List Rw) (u d e : Addr) : List (Str × V) := [("_text", .str (pageT b h x rs)), ("_units", .ref u), ("_lines", .ref d), ("_ends", .ref e)]
structure PgO (K : PySem.W.Frag) (C : Addr) (b : Nat) (h x : Str) (rs : List Rw) (H : Hp) (a dx u d e : Addr) : Prop where
  at_ : H a = some (.ins C dx (pgF b h x rs u d e))
  units : H u = some (.tup [.int b, .str h])
  lines : Lns K H d (linesOf x rs)
  ends : H e = some (.tup ((ends (linesOf x rs)).map V.str))
theorem PgO.same {K : PySem.W.Frag} {C : Addr} {b : Nat} {h x : Str} {rs : List Rw} {H H' : Hp} {a dx u d e : Addr} (s : Same H H') (p : PgO K C b h x rs H a dx u d e) : PgO K C b h x rs H' a dx u d e := ⟨s _ _ p.at_, s _ _ p.units, p.lines.same s, s _ _ p.ends⟩
theorem linesOf_len {x : Str} {rs : List Rw} : (linesOf x rs).length = rs.length + 1 := by simp [linesOf]
def sp_Page_parts (K : PySem.W.Frag) (C : Addr) : Sp := fun vs H Q _ => ∃ (b : Nat) (h x : Str) (rs : List Rw) (a dx u d e : Addr), vs = [.ref a] ∧ PgO K C b h x rs H a dx u d e ∧
  ∀ H' t ob, Same H H' → H t = none → H' t = some (.frz ob (.tup (((linesOf x rs).map (·.nm)).map V.str))) → ob.dict = none → Q (.ref t) H'
def sp_Page_ends (K : PySem.W.Frag) (C : Addr) : Sp := fun vs H Q _ => ∃ (b : Nat) (h x : Str) (rs : List Rw) (a dx u d e : Addr), vs = [.ref a] ∧ PgO K C b h x rs H a dx u d e ∧ Q (.ref e) H
def sp_Page__contains_ (K : PySem.W.Frag) (C : Addr) : Sp := fun vs H Q _ => ∃ (b : Nat) (h x : Str) (rs : List Rw) (a dx u d e : Addr) (p : Str), vs = [.ref a, .str p] ∧ PgO K C b h x rs H a dx u d e ∧ Q (.bl (decide (p ∈ (linesOf x rs).map (·.nm)))) H
theorem keys_lns {K : PySem.W.Frag} {H : Hp} : ∀ {ls : List Ln} {kvs : List (Key × V)}, Paired (Lat K H) ls kvs → keysV kvs = ls.map fun l => V.str l.nm
  | _, _, .nil => rfl
  | l :: ls, kv :: kvs, .cons a r => by
    show kV kv.1 :: keysV kvs = V.str l.nm :: _
    rw [keys_lns r, a.1]
    rfl
theorem lns_isSome {K : PySem.W.Frag} {H : Hp} {nm : Str} {ls : List Ln} {kvs : List (Key × V)} (hp : Paired (Lat K H) ls kvs) : (valV kvs (.inr nm)).isSome = decide (nm ∈ ls.map (·.nm)) := by
  by_cases e : nm ∈ ls.map (·.nm)
  · rw [lns_some hp e, decide_eq_true e]
  · rw [lns_none hp e, decide_eq_false e]
    rfl
section
variable {P : Program} {w : World} {K : PySem.W.Frag} {mg : Str → Option Value} {base : Heap} {C : Addr}
theorem ok_Page_parts (c : PgC K C) {f : Addr} {fd : FuncData} (F : Fun K "parts" "Page.parts" s_Page_parts f fd) (m_tuple : mg "tuple" = none) : FnOk P w K mg base CX0 1 f fd ["self"] (sp_Page_parts K C) := by
  refine F.ok sc_Page_parts (fun vs H Q E h => ?_) (fun cdv A outer s H vs Q E hr h => ?_)
  · obtain ⟨b, h, x, rs, a, dx, u, d, e, rfl, _⟩ := h
    rfl
  · refine ⟨_, (pss_one (ps_ret (pe_callTy (call_tuple_dF rfl) (by rfl) m_tuple (by decide +kernel) (pa_cons (pe_fld (pv 0) (by rfl)) pa_nil)))), ?_⟩
    obtain ⟨b, h, x, rs, a, dx, u, d, e, rfl, O, q⟩ := h
    obtain ⟨kvs, hd, hp⟩ := O.lines
    refine ret_in ?_
    refine ⟨.ref a, rfl, a, C, dx, _, .ref d, rfl, O.at_, c.cls, c.lines, rfl, d, kvs, rfl, .inl hd, fun t ob nt eo => ?_⟩
    exact q _ t ob (sameU nt) nt (by rw [upd_same, keys_lns hp, List.map_map]; rfl) eo
theorem ok_Page_ends (c : PgC K C) {f : Addr} {fd : FuncData} (F : Fun K "ends" "Page.ends" s_Page_ends f fd) : FnOk P w K mg base CX0 1 f fd ["self"] (sp_Page_ends K C) := by
  refine F.ok sc_Page_ends (fun vs H Q E h => ?_) (fun cdv A outer s H vs Q E hr h => ?_)
  · obtain ⟨b, h, x, rs, a, dx, u, d, e, rfl, _⟩ := h
    rfl
  · refine ⟨_, (pss_one (ps_ret (pe_fld (pv 0) (by rfl)))), ?_⟩
    obtain ⟨b, h, x, rs, a, dx, u, d, e, rfl, O, q⟩ := h
    refine ret_in ?_
    exact ⟨.ref a, rfl, a, C, dx, _, .ref e, rfl, O.at_, c.cls, c.ends, rfl, q⟩
theorem ok_Page__contains_ (c : PgC K C) {f : Addr} {fd : FuncData} (F : Fun K "__contains__" "Page.__contains__" s_Page__contains_ f fd) (m_isinstance : mg "isinstance" = none) (m_str : mg "str" = none) : FnOk P w K mg base CX0 1 f fd ["self", "x"] (sp_Page__contains_ K C) := by
  refine F.ok sc_Page__contains_ (fun vs H Q E h => ?_) (fun cdv A outer s H vs Q E hr h => ?_)
  · obtain ⟨b, h, x, rs, a, dx, u, d, e, p, rfl, _⟩ := h
    rfl
  · refine ⟨_, (pss_one (ps_ret (pe_and (pe_callB call_isi (by rfl) m_isinstance (by decide +kernel) (pa_cons (pv 1) (pa_cons (pe_bltn (v := .ty "str") (by rfl) m_str (by decide +kernel) rfl) pa_nil))) (pe_one (pe_cmp (pc_din (hu_of hr) (pv 1) (pe_fld (pv 0) (by rfl)))))))), ?_⟩
    obtain ⟨b, h, x, rs, a, dx, u, d, e, p, rfl, O, q⟩ := h
    obtain ⟨kvs, hd, hp⟩ := O.lines
    refine ret_in ?_
    refine ⟨.str p, rfl, .str p, .ty "str", _, _, true, rfl, .ty "str", .base (.str p), kit_ty (by decide +kernel), true, rfl, iteT ?_⟩
    refine ⟨.str p, rfl, .ref a, rfl, a, C, dx, _, .ref d, rfl, O.at_, c.cls, c.lines, rfl, d, _, rfl, .inl ⟨kvs, .inr p, .inl hd, rfl, rfl⟩, ?_⟩
    rw [lns_isSome hp]
    exact q
end
/-! ### its making -/
theorem nodup_lines {b : Nat} {x : Str} {rs : List Rw} (h : Good b x rs) : ((linesOf x rs).map (·.nm)).Nodup := by
  have z := lines_nodup h rs.length (Nat.le_refl _)
  rw [List.take_length] at z
  exact z
theorem sqT_ins {K : PySem.W.Frag} {H : Hp} {t a C dx : Addr} {xs : List V} {fs : List (Str × V)} {o : HO} (h : SqT K H t xs) (ha : H a = some (.ins C dx fs)) : SqT K (upd H a o) t xs := by
  rcases h with (h | ⟨ob, h⟩) | h
  · have n : t ≠ a := fun z => by
      rw [z, ha] at h
      cases h
    exact .inl (.inl (by rw [upd_ne n]; exact h))
  · have n : t ≠ a := fun z => by
      rw [z, ha] at h
      cases h
    exact .inl (.inr ⟨ob, by rw [upd_ne n]; exact h⟩)
  · exact .inr h
theorem Lns.ins {K : PySem.W.Frag} {H : Hp} {d a C dx : Addr} {ls : List Ln} {fs : List (Str × V)} {o : HO} (h : Lns K H d ls) (ha : H a = some (.ins C dx fs)) : Lns K (upd H a o) d ls := by
  obtain ⟨kvs, h1, h2⟩ := h
  have n : d ≠ a := fun z => by
    rw [z, ha] at h1
    cases h1
  exact ⟨kvs, by rw [upd_ne n]; exact h1, paired_mono (fun _ _ ⟨e1, t, e2, e3⟩ => ⟨e1, t, e2, sqT_ins e3 ha⟩) h2⟩
theorem upd_twice {H : Hp} {a : Addr} {o o' : HO} : upd (upd H a o) a o' = upd H a o' := by
  funext b
  by_cases z : b = a
  · subst z
    rw [upd_same, upd_same]
  · rw [upd_ne z, upd_ne z, upd_ne z]
theorem putF_len (f : Str) (v : V) : ∀ fs : List (Str × V), (putF f v fs).length ≤ fs.length + 1
  | [] => Nat.le_refl _
  | (g, x) :: r => by
    unfold putF
    by_cases z : g = f
    · rw [if_pos z]
      exact Nat.le_succ _
    · rw [if_neg z]
      exact Nat.succ_le_succ (putF_len f v r)
theorem flat_wholes {x : Str} {rs : List Rw} : (wholes (linesOf x rs)).all flatV = true := by
  simp [wholes, linesOf, top, lnOf, flatV]
def sp_Page__init_ (K : PySem.W.Frag) (C : Addr) : Sp := fun vs H Q _ => ∃ (b : Nat) (h x : Str) (rs : List Rw) (a dx : Addr), vs = [.ref a, .str (pageT b h x rs)] ∧ Pg b h x rs ∧ H a = some (.ins C dx []) ∧
  ∀ H' u d e, (∀ c o, c ≠ a → H c = some o → H' c = some o) → PgO K C b h x rs H' a dx u d e → Q .non H'
section
variable {P : Program} {w : World} {K : PySem.W.Frag} {mg : Str → Option Value} {base : Heap} {C : Addr}
theorem ok_Page__init_ (c : PgC K C) {f : Addr} {fd : FuncData} (F : Fun K "__init__" "Page.__init__" s_Page__init_ f fd) (c_read_page : Cal P w K mg base 5 "read_page" ["text"] (sp_read_page K)) (c_ends_among : Cal P w K mg base 1 "ends_among" ["lines"] (sp_ends_among K)) : FnOk P w K mg base CX0 6 f fd ["self", "text"] (sp_Page__init_ K C) := by
  refine F.ok sc_Page__init_ (fun vs H Q E h => ?_) (fun cdv A outer s H vs Q E hr h => ?_)
  · obtain ⟨b, h, x, rs, a, dx, rfl, _⟩ := h
    rfl
  · refine ⟨_, (pss_cons (ps_asg (pe_call c_read_page.G (hr.mono (by decide)) (by rfl) c_read_page.g c_read_page.kp c_read_page.b .nil pass0 (pa_cons (pv 1) pa_nil)) (pg_tup rfl (pgs_cons (pg_name (i := 2) sc_Page__init_.nd rfl (.inl rfl)) (pgs_cons (pg_name (i := 3) sc_Page__init_.nd rfl (.inl rfl)) pgs_nil))))
      (pss_cons (ps_fld (pv 0) (pv 1) rfl)
      (pss_cons (ps_fld (pv 0) (pv 2) rfl)
      (pss_cons (ps_fld (pv 0) (pv 3) rfl)
      (pss_one (ps_fld (pv 0) (pe_call c_ends_among.G (hr.mono (by decide)) (by rfl) c_ends_among.g c_ends_among.kp c_ends_among.b .nil pass0 (pa_cons (pv 3) pa_nil)) rfl)))))), ?_⟩
    obtain ⟨b, h, x, rs, a, dx, rfl, hP, ha, q⟩ := h
    refine ⟨.str (pageT b h x rs), rfl, b, h, x, rs, rfl, hP, fun H1 t u d s1 nt nu nd ht hu hd => ?_⟩
    refine ⟨t, _, rfl, SqT.of ht, rfl, ?_⟩
    refine ⟨.ref u, [.ref d], rfl, .ref d, [], rfl, rfl, ?_⟩
    have hA1 : H1 a = some (.ins C dx []) := s1 _ _ ha
    refine ⟨.str (pageT b h x rs), rfl, .ref a, rfl, a, C, dx, _, rfl, hA1, c.cls, c.text, Nat.zero_lt_succ _, ?_⟩
    refine ⟨.ref u, rfl, .ref a, rfl, a, C, dx, _, rfl, upd_same, c.cls, c.units, Nat.lt_of_le_of_lt (putF_len _ _ _) (by decide : 0 + 1 < 1000), ?_⟩
    rw [upd_twice]
    refine ⟨.ref d, rfl, .ref a, rfl, a, C, dx, _, rfl, upd_same, c.cls, c.lines, Nat.lt_of_le_of_lt (Nat.le_trans (putF_len _ _ _) (Nat.succ_le_succ (putF_len _ _ _))) (by decide : 0 + 1 + 1 < 1000), ?_⟩
    rw [upd_twice]
    have au : u ≠ a := (ne_of_none ha nu).symm
    have ad : d ≠ a := (ne_of_none ha nd).symm
    have hF := Nat.lt_of_le_of_lt (Nat.le_trans (putF_len "_lines" (V.ref d) (putF "_units" (V.ref u) (putF "_text" (V.str (pageT b h x rs)) []))) (Nat.succ_le_succ (Nat.le_trans (putF_len _ _ _) (Nat.succ_le_succ (putF_len _ _ _))))) (show 0 + 1 + 1 + 1 < 1000 by decide)
    generalize eF : putF "_lines" (V.ref d) _ = F3 at hF ⊢
    have hd2 : Lns K (upd H1 a (.ins C dx F3)) d (linesOf x rs) := hd.ins hA1
    have hu2 : (upd H1 a (.ins C dx F3)) u = _ := (upd_ne au).trans hu
    have o2 : ∀ c o, c ≠ a → H c = some o → (upd H1 a (.ins C dx F3)) c = some o := fun c o n e => by
      rw [upd_ne n]
      exact s1 _ _ e
    have na2 : (upd H1 a (.ins C dx F3)) a = _ := upd_same
    generalize L2.upd H1 a (.ins C dx F3) = G at hd2 hu2 o2 na2 ⊢
    refine ⟨.ref d, rfl, d, linesOf x rs, rfl, hd2, ?_, ?_, fun G2 e s2 ne he => ?_⟩
    · have := hP.few
      rw [linesOf_len]
      omega
    · exact flat_wholes
    refine ⟨.ref a, rfl, a, C, dx, _, rfl, s2 _ _ na2, c.cls, c.ends, hF, ?_⟩
    have ea : e ≠ a := (ne_of_none na2 ne).symm
    refine q _ u d e (fun c o n ec => ?_) ⟨?_, ?_, ?_, ?_⟩
    · rw [upd_ne n]
      exact s2 _ _ (o2 _ _ n ec)
    · rw [upd_same, ← eF]
      rfl
    · rw [upd_ne au]
      exact s2 _ _ hu2
    · exact (hd2.same s2).ins (s2 _ _ na2)
    · rw [upd_ne ea]
      exact he
end
end Uq
namespace Uq
open PySem PySem.Spec PyProof.Rows L2
/-! ### a page, asked -/
abbrev s_Page__getitem_ : Stmt := inClass (topS 35) 7
abbrev N_Page__getitem_ : List Str := ["self", "at"]
theorem sc_Page__getitem_ : FnScope N_Page__getitem_ ["self", "at"] (defScope s_Page__getitem_) := ⟨rfl, rfl, rfl, by decide +kernel, rfl, by decide +kernel, by decide +kernel⟩
abbrev s_Page_ends_of : Stmt := inClass (topS 35) 11
abbrev N_Page_ends_of : List Str := ["self", "part", "end"]
theorem sc_Page_ends_of : FnScope N_Page_ends_of ["self", "part"] (defScope s_Page_ends_of) := ⟨rfl, rfl, rfl, by decide +kernel, rfl, by decide +kernel, by decide +kernel⟩
end Uq
namespace Uq
open PySem PySem.Spec PyProof.Rows L2
theorem pe_fldK {X : Cx} {K : PySem.W.Frag} {e : Expr} {f : Str} {pos : Pos} {ta : TE} (hK : X.K = K) (he : PE X e ta) (hb : attributeBase e f X.env (eval e X.env) = eval e X.env) : PE X (.Attribute e f pos) (tFld K ta f) := hK ▸ pe_fld he hb
end Uq
namespace Uq
open PySem PySem.Spec PyProof.Rows L2
/-! ### the ends of a part -/
theorem Way.mono {ls ls' : List Ln} (m : ∀ l ∈ ls, l ∈ ls') {p : Str} {w : List Str} (h : Way ls p w) : Way ls' p w := by
  induction h with
  | top a b => exact .top (m _ a) b
  | up a b _ i => exact .up (m _ a) b i
/-- every part has its way up -/
theorem good_way {b : Nat} {x : Str} {rs : List Rw} (g : Good b x rs) : ∀ l ∈ linesOf x rs, ∃ w, Way (linesOf x rs) l.nm w ∧ w.length ≤ 4 := by
  intro l hl
  rcases List.mem_cons.mp hl with z | z
  · subst z
    exact ⟨[x], .top (l := top x) hl rfl, by show 1 ≤ 4; decide⟩
  · obtain ⟨r, hr, rfl⟩ := List.mem_map.mp z
    obtain ⟨k, hk, e⟩ := List.mem_iff_getElem.mp hr
    have ek : rs[k]? = some r := by rw [List.getElem?_eq_getElem hk, e]
    obtain ⟨w, hw, lw⟩ := (g k r ek).way
    refine ⟨w, hw.mono fun l' h' => ?_, lw⟩
    rcases List.mem_append.mp h' with h' | h'
    · rcases List.mem_cons.mp h' with z | z
      · subst z
        exact List.mem_cons_self
      · obtain ⟨r', m, rfl⟩ := List.mem_map.mp z
        exact List.mem_cons_of_mem _ (List.mem_map.mpr ⟨r', List.mem_of_mem_take m, rfl⟩)
    · cases List.mem_singleton.mp h'
      exact hl
def onWay (W : Str → List Str) (p e : Str) : Bool := inV (.str p) ((W e).map V.str)
theorem onWay_iff {W : Str → List Str} {p e : Str} : onWay W p e = true ↔ p ∈ W e := by
  unfold onWay inV
  rw [List.any_eq_true]
  constructor
  · rintro ⟨y, m, h⟩
    obtain ⟨q, mq, rfl⟩ := List.mem_map.mp m
    cases eq_of_beq (show (q == p) = true from h)
    exact mq
  · intro m
    exact ⟨.str p, List.mem_map.mpr ⟨p, m, rfl⟩, show (p == p) = true from beq_self_eq_true p⟩
theorem flat_strs : ∀ ws : List Str, (ws.map V.str).all flatV = true
  | [] => rfl
  | _ :: ws => flat_strs ws
theorem ends_few {ls : List Ln} : (ends ls).length ≤ ls.length := by
  unfold ends
  rw [List.length_map]
  exact List.length_filter_le _ _
def sp_Page_ends_of (K : PySem.W.Frag) (C : Addr) : Sp := fun vs H Q _ => ∃ (b : Nat) (h x : Str) (rs : List Rw) (a dx u d e : Addr) (p : Str) (W : Str → List Str), vs = [.ref a, .str p] ∧ PgO K C b h x rs H a dx u d e ∧ Pg b h x rs ∧ p ∈ (linesOf x rs).map (·.nm) ∧
  (∀ q ∈ ends (linesOf x rs), Way (linesOf x rs) q (W q) ∧ (W q).length ≤ 4) ∧
  ∀ H' t, Same H H' → H t = none → H' t = some (.tup (((ends (linesOf x rs)).filter (onWay W p)).map V.str)) → Q (.ref t) H'
section
variable {P : Program} {w : World} {K : PySem.W.Frag} {mg : Str → Option Value} {base : Heap} {C fC : Addr} {fdC : FuncData}
theorem ok_Page_ends_of (c : PgC K C) {f : Addr} {fd : FuncData} (F : Fun K "ends_of" "Page.ends_of" s_Page_ends_of f fd) (m_tuple : mg "tuple" = none) (c_way_up : Cal P w K mg base 1 "way_up" ["lines", "part"] (sp_way_up K)) (dC : Dun K C fC "__contains__") (FC : FnOk P w K mg base CX0 1 fC fdC ["self", "x"] (sp_Page__contains_ K C)) (bC : Binds K fdC ["self", "x"] []) : FnOk P w K mg base CX0 2 f fd ["self", "part"] (sp_Page_ends_of K C) := by
  refine F.ok sc_Page_ends_of (fun vs H Q E h => ?_) (fun cdv A outer s H vs Q E hr h => ?_)
  · obtain ⟨b, h, x, rs, a, dx, u, d, e, p, W, rfl, _⟩ := h
    rfl
  · refine ⟨_, (pss_cons (ps_if (pt_cmpR (op_notInO dC FC (hr.mono (by decide)) bC) (pv 1) (pv 0) rfl) (pss_one ps_never) pss_nil)
      (pss_one (ps_ret (pe_callTy call_tuple_of (by rfl) m_tuple (by decide +kernel) (pa_cons (pe_lc (own := [("end", 2)]) (g := gName 2) rfl sc_Page_ends_of.nd (pi_tup (pe_fld (pv 0) (by rfl))) (blkOk_by (own := [("end", 2)]) (N := N_Page_ends_of) (sc := defScope s_Page_ends_of) (by decide +kernel)) (fun _ _ _ _ _ => (pg_name (i := 2) sc_Page_ends_of.nd rfl (.inl rfl))) (fun _ _ _ _ _ => (pts_one (pt_cmpR (r := rIn K false) op_in_seq (pv 1) (pe_call c_way_up.G (hr.mono (by decide)) (by rfl) c_way_up.g c_way_up.kp c_way_up.b .nil pass0 (pa_cons (pe_fldK (K := K) rfl (pv 0) (by rfl)) (pa_cons (pv 2) pa_nil))) rfl))) (fun _ _ _ _ _ => (pv 2))) pa_nil))))), ?_⟩
    obtain ⟨b, h, x, rs, a, dx, u, d, e, p, W, rfl, O, hP, hm, hW, q⟩ := h
    refine ⟨.str p, rfl, .ref a, rfl, a, dx, _, rfl, O.at_, ⟨b, h, x, rs, a, dx, u, d, e, p, rfl, O, ?_⟩⟩
    rw [decide_eq_true hm]
    refine ⟨true, rfl, false, rfl, iteF ?_⟩
    obtain ⟨kvs, hd, hp⟩ := O.lines
    have he := O.ends
    have hz := hP.few
    have hz' := linesOf_len (x := x) (rs := rs)
    have nd := nodup_lines hP.good
    have ha := O.at_
    generalize linesOf x rs = ls at hp hz' nd he hW q
    have hef := ends_few (ls := ls)
    generalize ends ls = es at he hW q hef
    refine next_in (ret_in (cb_in (cons_in ?_)))
    refine ⟨.ref a, rfl, a, C, dx, _, .ref e, rfl, ha, c.cls, c.ends, rfl, ?_⟩
    refine ⟨e, rfl, ⟨_, SqT.of he⟩, fun T nT => ?_⟩
    refine lc_it walk_tup (fun i H' => Same H H' ∧ H' T = some (.lst (((es.take i).filter (onWay W p)).map V.str))) ⟨sameU nT, upd_same⟩ (fun i H' _ h => SqT.of (h.1 _ _ he)) ?_ ?_
    · rintro i y H2 H3 hi ⟨s2, hT⟩ ⟨rfl, hk⟩
      rw [List.getElem?_map] at hk
      obtain ⟨z, ez, rfl⟩ := Option.map_eq_some_iff.mp hk
      have tk : es.take (i + 1) = es.take i ++ [z] := by
        rw [List.take_add_one, ez]
        rfl
      have zm : z ∈ es := List.mem_of_getElem? ez
      obtain ⟨hw, lw⟩ := hW z zm
      refine ⟨rfl, .str p, rfl, .ref a, rfl, a, C, dx, _, .ref d, rfl, s2 _ _ ha, c.cls, c.lines, rfl, .str z, rfl, d, ls, z, W z, kvs, rfl, .inl (s2 _ _ hd), paired_mono (fun _ _ r => r.same s2) hp, nd, hw, Nat.le_trans lw (by decide), fun H4 r s4 nr hr4 => ?_⟩
      refine ⟨r, _, rfl, .inl (SqL.of hr4), rfl, flat_strs _, _, rfl, ?_⟩
      show if onWay W p z = true then _ else _
      have s24 := s2.trans s4
      have hT4 := s4 _ _ hT
      refine ite2 (fun e => ?_) (fun e => ?_)
      · refine ⟨.str z, rfl, _, hT4, ?_, ?_, ?_⟩
        · rw [List.length_map]
          refine small1000 (Nat.le_trans (List.length_filter_le _ _) ?_)
          rw [List.length_take]
          exact Nat.le_trans (Nat.min_le_right _ _) (by omega)
        · intro b o eb
          rw [upd_ne (ne_of_none eb nT)]
          exact s24 _ _ eb
        · rw [upd_same, tk, List.filter_append, List.map_append, List.filter_cons_of_pos e]
          rfl
      · refine ⟨s24, ?_⟩
        rw [hT4, tk, List.filter_append, List.filter_cons_of_neg e]
        simp
    rintro H2 ⟨s2, hT⟩
    rw [List.length_map, List.take_length] at hT
    refine ⟨T, _, rfl, .inl ⟨SqL.of hT, fun r nr => ?_⟩⟩
    exact q _ r (s2.trans (sameU nr)) (none_of s2 nr) upd_same
end
end Uq
namespace Uq
open PySem PySem.Spec PyProof.Rows L2
/-! ### some of a pool, each once -/
def sp_law_some (K : PySem.W.Frag) : Sp := fun vs H Q _ => ∃ (p l : Addr) (c m : Nat) (xs : List V), vs = [.ref p, .ref l, .int m] ∧ Pot H p c ∧ c + m < 100000 ∧ SqL K H l xs ∧ m ≤ xs.length ∧ xs.length ≤ 100 ∧
  ∀ H' r ys zs, But p H H' → Pot H' p (c + m) → H r = none → H' r = some (.lst ys) → ys.length = m → (ys ++ zs).Perm xs → Q (.ref r) H'
theorem perm_erase {y : V} : ∀ {zs : List V} {k : Nat}, zs[k]? = some y → (y :: zs.eraseIdx k).Perm zs
  | [], k, e => by simp at e
  | z :: zs, 0, e => by
    cases Option.some.inj e
    exact List.Perm.refl _
  | z :: zs, k + 1, e => (List.Perm.swap _ _ _).trans (List.Perm.cons _ (perm_erase (k := k) e))
theorem perm_pick {ys zs xs : List V} {y : V} {k : Nat} (h : (ys ++ zs).Perm xs) (e : zs[k]? = some y) : ((ys ++ [y]) ++ zs.eraseIdx k).Perm xs := by
  rw [List.append_assoc]
  exact (List.Perm.append_left ys (perm_erase e)).trans h
theorem But.offL {p L : Addr} {H H' : Hp} {o : HO} (h : But p H H') (e : H L = none) : But p H (upd H' L o) := fun b x n eb => by
  rw [upd_ne (ne_of_none eb e)]
  exact h b x n eb
section
variable {P : Program} {w : World} {K : PySem.W.Frag} {mg : Str → Option Value} {base : Heap}
theorem ok_law_some {f : Addr} {fd : FuncData} (F : Fun K "_law_some" "_law_some" s_law_some f fd) (m_list : mg "list" = none) (m_range : mg "range" = none) (m_len : mg "len" = none) (c_law_take : Cal P w K mg base 1 "_law_take" ["_law_pot_here", "_law_upto"] (sp_law_take K)) : FnOk P w K mg base CX0 2 f fd ["_law_pot_here", "_law_pool", "_law_many"] (sp_law_some K) := by
  refine F.ok sc_law_some (fun vs H Q E h => ?_) (fun cdv A outer s H vs Q E hr h => ?_)
  · obtain ⟨p, l, c, m, xs, rfl, _⟩ := h
    rfl
  · refine ⟨_, (pss_cons (ps_par (i := 3) (j := 4) (by rfl) sc_law_some.nd rfl rfl (by decide) rfl rfl (pa_cons (pe_callTy call_list_of (by rfl) m_list (by decide +kernel) (pa_cons (pv 1) pa_nil)) (pa_cons (pe_lst pa_nil) pa_nil)) (by rfl))
      (pss_cons (ps_for PassesOwn.never rfl (pi_range1 (by rfl) m_range (pa_cons (pv 2) pa_nil)) (pg_name (i := 5) sc_law_some.nd rfl (.inl rfl))
        (pss_one (ps_expr (pe_bm PySem.F.plainAttrs_list PySem.F.slot_list_append PySem.F.type_list_append mt_append (pv 4) (pa_cons (pe_bm PySem.F.plainAttrs_list PySem.F.slot_list_pop PySem.F.type_list_pop mt_popAt (pv 3) (pa_cons (pe_call c_law_take.G (hr.mono (by decide)) (by rfl) c_law_take.g c_law_take.kp c_law_take.b .nil pass0 (pa_cons (pv 0) (pa_cons (pe_callB call_len_seq (by rfl) m_len (by decide +kernel) (pa_cons (pv 3) pa_nil)) pa_nil))) pa_nil)) pa_nil)))))
      (pss_one (ps_ret (pv 4))))), ?_⟩
    obtain ⟨p, l, c, m, xs, rfl, hp, hc, hl, hm, hz, q⟩ := h
    have hp' := hp
    obtain ⟨o0, s0, n0, hpa, _⟩ := hp'
    refine ⟨.ref l, rfl, l, xs, rfl, .inl hl, fun L nL => ?_⟩
    refine ⟨Nat.zero_le _, fun R nR => ?_⟩
    have nRL : R ≠ L := fun z => by
      rw [z, upd_same] at nR
      cases nR
    have nR0 : H R = none := by
      rw [upd_ne nRL] at nR
      exact nR
    have npL : p ≠ L := ne_of_none hpa nL
    have npR : p ≠ R := ne_of_none hpa nR0
    refine ⟨_, _, rfl, ?_⟩
    refine ⟨.int m, rfl, m, rfl, ?_⟩
    refine ⟨by omega, by omega, ?_⟩
    refine for_it (walk_range (lo := 0) (n := m)) (fun i σ H' => But p H H' ∧ Pot H' p (c + i) ∧ (∃ x5, σ = [some (.ref p), some (.ref l), some (.int m), some (.ref L), some (.ref R), x5]) ∧ ∃ ys zs, H' R = some (.lst ys) ∧ H' L = some (.lst zs) ∧ ys.length = i ∧ zs.length + i = xs.length ∧ (ys ++ zs).Perm xs) ?_ ?_ ?_ ?_
    · refine ⟨But.of ((sameU nL).trans (sameU nR)), (hp.same (sameU nL)).same (sameU nR), ⟨none, rfl⟩, [], xs, upd_same, by rw [upd_ne (Ne.symm nRL), upd_same], rfl, rfl, List.Perm.refl _⟩
    · intro i σ H' _ _
      trivial
    · rintro i x σ H1 H2 hi ⟨hB, hP, ⟨x5, rfl⟩, ys, zs, hR, hL, ly, lz, pm⟩ ⟨rfl, rfl⟩
      have zlen : 0 < zs.length := by omega
      refine ⟨.ref R, rfl, .inl ⟨rfl, _, SqL.of hR⟩, .ref L, rfl, .inl ⟨rfl, _, SqL.of hL⟩, .ref p, rfl, .ref L, rfl, L, zs, rfl, .inl (SqL.of hL), p, c + i, zs.length, rfl, hP, by omega, by omega, by omega, fun H3 d hB3 hP3 d0 d1 => ?_⟩
      have hR3 := hB3 R _ (Ne.symm npR) hR
      have hL3 := hB3 L _ (Ne.symm npL) hL
      have hd : d.toNat < zs.length := by omega
      have ed : seqIndex? d zs.length = some d.toNat := by
        have h1 : ¬ d < 0 := by omega
        have h2 : d < (zs.length : Int) := by omega
        unfold seqIndex?
        simp [h1, h2, d0]
      refine ⟨L, zs, d, d.toNat, zs[d.toNat], rfl, rfl, hL3, by omega, by omega, ed, List.getElem?_eq_getElem hd, ?_⟩
      refine ⟨R, ys, zs[d.toNat], rfl, rfl, by rw [upd_ne nRL]; exact hR3, small1000 (by omega), ?_⟩
      obtain ⟨o1, s1, n1, hp3, hrest⟩ := hP3
      refine ⟨((hB.trans hB3).offL nL).offL nR0, ⟨o1, s1, n1, ?_, ?_⟩, ⟨_, rfl⟩, ys ++ [zs[d.toNat]], zs.eraseIdx d.toNat, upd_same, ?_, ?_, ?_, perm_pick pm (List.getElem?_eq_getElem hd)⟩
      · rw [upd_ne npR, upd_ne npL]
        exact hp3
      · rw [show c + (i + 1) = c + i + 1 by omega]
        exact hrest
      · rw [upd_ne (Ne.symm nRL), upd_same]
      · rw [List.length_append, ly]
        rfl
      · rw [List.length_eraseIdx_of_lt hd]
        omega
    · rintro σ H1 ⟨hB, hP, ⟨x5, rfl⟩, ys, zs, hR, hL, ly, lz, pm⟩
      exact ⟨.ref R, rfl, q H1 R ys zs hB hP nR0 hR ly pm⟩
end
end Uq
namespace Uq
open PySem PySem.Spec PyProof.Rows L2
/-! ### names, and a shape -/
def pool : List Str := ["a", "b", "all", "is", "of", "part", "some", "none", "told", "in", "zzzzzzzz", "x"]
theorem pool_nodup : pool.Nodup := by decide +kernel
theorem pool_nm : ∀ n ∈ pool, Nm n := by
  intro n h
  have z : ∀ n ∈ pool, 1 ≤ n.length ∧ n.length ≤ 8 ∧ Txt.isascii n = true ∧ Txt.isalpha n = true ∧ Txt.islower n = true := by decide +kernel
  obtain ⟨a, b, c, d, e⟩ := z n h
  exact ⟨a, b, c, d, e⟩
theorem of_pool : ∀ {ys : List V}, (∀ y ∈ ys, y ∈ pool.map V.str) → ∃ ns : List Str, ys = ns.map V.str ∧ ∀ n ∈ ns, n ∈ pool
  | [], _ => ⟨[], rfl, fun _ h => nomatch h⟩
  | y :: ys, h => by
    obtain ⟨ns, rfl, hn⟩ := of_pool (ys := ys) fun z m => h z (List.mem_cons_of_mem _ m)
    obtain ⟨n, m, e⟩ := List.mem_map.mp (h y List.mem_cons_self)
    refine ⟨n :: ns, by rw [← e]; rfl, fun z hz => ?_⟩
    rcases List.mem_cons.mp hz with rfl | hz
    · exact m
    · exact hn z hz
theorem nodup_of_map {ns : List Str} (h : (ns.map V.str).Nodup) : ns.Nodup := by
  unfold List.Nodup at h ⊢
  rw [List.pairwise_map] at h
  exact h.imp fun a e => a (congrArg V.str e)
theorem nodup_strs {ns : List Str} (h : ns.Nodup) : (ns.map V.str).Nodup := by
  unfold List.Nodup at h ⊢
  rw [List.pairwise_map]
  exact h.imp fun a e => a (V.str.inj e)
def sp_law_names (K : PySem.W.Frag) : Sp := fun vs H Q _ => ∃ (p : Addr) (c m : Nat), vs = [.ref p, .int m] ∧ Pot H p c ∧ c + m < 100000 ∧ m ≤ 12 ∧
  ∀ H' r (ns : List Str), But p H H' → Pot H' p (c + m) → H r = none → H' r = some (.lst (ns.map V.str)) → ns.length = m → ns.Nodup → (∀ n ∈ ns, n ∈ pool) → Q (.ref r) H'
def natsV (s : List Nat) : List V := s.map fun n : Nat => V.int (n : Int)
/-- shapes as they lie in the store -/
def ShsAt (H : Hp) (p : Addr) (v : V) (s : List Nat) : Prop := ∃ a, v = .ref a ∧ a ≠ p ∧ H a = some (.lst (natsV s))
def sp_law_tree (K : PySem.W.Frag) : Sp := fun vs H Q _ => ∃ (p S : Addr) (c : Nat) (xs : List V) (ss : List (List Nat)), vs = [.ref p, .ref S] ∧ Pot H p c ∧ c + 20 < 100000 ∧ S ≠ p ∧ SqL K H S xs ∧ Paired (ShsAt H p) xs ss ∧ 0 < ss.length ∧ ss.length ≤ 100 ∧ (∀ s ∈ ss, s.length ≤ 9) ∧
  ∀ H' t r a (ns : List Str) (s : List Nat), But p H H' → Pot H' p (c + 20) → H t = none → H' t = some (.tup [.ref r, .ref a]) → H r = none → H' r = some (.lst (ns.map V.str)) → H' a = some (.lst (natsV s)) → s ∈ ss → ns.length = s.length + 1 → ns.Nodup → (∀ n ∈ ns, n ∈ pool) → a ≠ p → r ≠ p → Q (.ref t) H'
theorem paired_at' {α β : Type} {R : α → β → Prop} : ∀ {xs : List α} {ys : List β} {i : Nat} {x : α}, Paired R xs ys → xs[i]? = some x → ∃ y, ys[i]? = some y ∧ R x y
  | _, _, i, _, .nil, e => by simp at e
  | _, _, 0, _, .cons a h, e => by
    cases Option.some.inj e
    exact ⟨_, rfl, a⟩
  | _, _, i + 1, _, .cons a h, e => paired_at' (i := i) h e
section
variable {P : Program} {w : World} {K : PySem.W.Frag} {mg : Str → Option Value} {base : Heap}
theorem ok_law_names {f : Addr} {fd : FuncData} (F : Fun K "_law_names" "_law_names" s_law_names f fd) (c_law_some : Cal P w K mg base 2 "_law_some" ["_law_pot_here", "_law_pool", "_law_many"] (sp_law_some K)) : FnOk P w K mg base CX0 3 f fd ["_law_pot_here", "_law_many"] (sp_law_names K) := by
  refine F.ok sc_law_names (fun vs H Q E h => ?_) (fun cdv A outer s H vs Q E hr h => ?_)
  · obtain ⟨p, c, m, rfl, _⟩ := h
    rfl
  · refine ⟨_, (pss_cons (ps_set (i := 2) sc_law_names.nd rfl (.inl rfl) (pe_lst (pa_cons pe_str (pa_cons pe_str (pa_cons pe_str (pa_cons pe_str (pa_cons pe_str (pa_cons pe_str (pa_cons pe_str (pa_cons pe_str (pa_cons pe_str (pa_cons pe_str (pa_cons pe_str (pa_cons pe_str pa_nil))))))))))))))
      (pss_one (ps_ret (pe_call c_law_some.G (hr.mono (by decide)) (by rfl) c_law_some.g c_law_some.kp c_law_some.b .nil pass0 (pa_cons (pv 0) (pa_cons (pv 2) (pa_cons (pv 1) pa_nil))))))), ?_⟩
    obtain ⟨p, c, m, rfl, hp, hc, hm, q⟩ := h
    refine seq_set (lst_in ⟨by show 12 ≤ sizeLine; decide, fun L nL => ?_⟩)
    refine ret_in ?_
    refine ⟨.ref p, rfl, .ref L, rfl, .int m, rfl, p, L, c, m, pool.map V.str, rfl, hp.same (sameU nL), hc, SqL.of upd_same, by show m ≤ 12; exact hm, by show 12 ≤ 100; decide, fun H' r ys zs hB hP nr hr2 ly pm => ?_⟩
    have hsub : ∀ y ∈ ys, y ∈ pool.map V.str := fun y hy => pm.mem_iff.mp (List.mem_append_left _ hy)
    have hnd : (ys ++ zs).Nodup := pm.nodup_iff.mpr (nodup_strs pool_nodup)
    obtain ⟨ns, rfl, hn⟩ := of_pool hsub
    rw [List.length_map] at ly
    exact q H' r ns ((But.of (sameU nL)).trans hB) hP (none_of (sameU nL) nr) hr2 ly (nodup_of_map (List.nodup_append.mp hnd).1) hn
theorem ok_law_tree {f : Addr} {fd : FuncData} (F : Fun K "_law_tree" "_law_tree" s_law_tree f fd) (m_len : mg "len" = none) (c_law_of : Cal P w K mg base 2 "_law_of" ["_law_pot_here", "_law_some_here"] (sp_law_of K)) (c_law_names : Cal P w K mg base 3 "_law_names" ["_law_pot_here", "_law_many"] (sp_law_names K)) : FnOk P w K mg base CX0 4 f fd ["_law_pot_here", "_law_shapes_here"] (sp_law_tree K) := by
  refine F.ok sc_law_tree (fun vs H Q E h => ?_) (fun cdv A outer s H vs Q E hr h => ?_)
  · obtain ⟨p, S, c, xs, ss, rfl, _⟩ := h
    rfl
  · refine ⟨_, (pss_cons (ps_set (i := 2) sc_law_tree.nd rfl (.inl rfl) (pe_call c_law_of.G (hr.mono (by decide)) (by rfl) c_law_of.g c_law_of.kp c_law_of.b .nil pass0 (pa_cons (pv 0) (pa_cons (pv 1) pa_nil))))
      (pss_one (ps_ret (pe_tup (pa_cons (pe_call c_law_names.G (hr.mono (by decide)) (by rfl) c_law_names.g c_law_names.kp c_law_names.b .nil pass0 (pa_cons (pv 0) (pa_cons (pe_op op_add (pe_callB call_len_seq (by rfl) m_len (by decide +kernel) (pa_cons (pv 2) pa_nil)) pe_int) pa_nil))) (pa_cons (pv 2) pa_nil)))))), ?_⟩
    obtain ⟨p, S, c, xs, ss, rfl, hp, hc, hSp, hS, hss, h0, h1, h9, q⟩ := h
    have hl := hss.length
    refine seq_set ⟨.ref p, rfl, .ref S, rfl, p, S, c, xs, rfl, hp, by omega, hSp, hS, by omega, by omega, fun H1 i v hB1 hP1 hv => ?_⟩
    obtain ⟨s0, es, a, rfl, nap, ha⟩ := paired_at' hss hv
    have ha1 := hB1 a _ nap ha
    have sm : s0 ∈ ss := List.mem_of_getElem? es
    have s9 := h9 s0 sm
    refine ret_in ?_
    refine ⟨.ref p, rfl, .ref a, rfl, a, _, rfl, .inl (SqL.of ha1), ?_⟩
    have nl : (natsV s0).length = s0.length := by
      unfold natsV
      rw [List.length_map]
    refine ⟨_, 1, rfl, rfl, p, c + 1, (natsV s0).length + 1, rfl, hP1, by omega, by omega, fun H2 r ns hB2 hP2 nr hr2 ln nd hn => ?_⟩
    have ha2 := hB2 a _ nap ha1
    refine ⟨.ref a, rfl, by show 2 ≤ sizeLine; decide, fun t nt => ?_⟩
    obtain ⟨o0, z0, n0, hpa, hz⟩ := hP2
    have npt : p ≠ t := ne_of_none hpa nt
    have hB := hB1.trans hB2
    obtain ⟨o1, z1, n1, hp0, _⟩ := hp
    obtain ⟨o2, z2, n2, hp1, _⟩ := hP1
    have nt0 : H t = none := by
      cases e : H t with
      | none => rfl
      | some o =>
        have := hB t o (fun z => npt z.symm) e
        rw [nt] at this
        cases this
    have nr0 : H r = none := by
      cases e : H r with
      | none => rfl
      | some o =>
        have npr : r ≠ p := fun z => by
          rw [z, hp1] at nr
          cases nr
        have := hB1 r o npr e
        rw [nr] at this
        cases this
    refine q _ t r a ns s0 (hB.offL nt0) ?_ nt0 upd_same nr0 ?_ ?_ sm (by omega) nd hn nap (fun z => by rw [z, hp1] at nr; cases nr)
    · refine (show Pot H2 p (c + 1 + ((natsV s0).length + 1)) from ⟨o0, z0, n0, hpa, hz⟩).mono (by omega) |>.same (sameU nt)
    · exact (sameU nt) _ _ hr2
    · exact (sameU nt) _ _ ha2
end
end Uq
namespace Uq
open PySem PySem.Spec PyProof.Rows L2
/-! ### the shapes -/
def shapes : List (List Nat) := [[0, 0], [0, 0, 0], [0, 0, 1, 1], [0], [0, 1, 1], [0, 0, 0, 0], [0, 0, 1, 1, 2], [0, 0, 1, 1, 3, 3]]
def intsT : List Nat → TA
  | [] => tNil
  | n :: r => tCons (tC (.int (n : Nat))) (intsT r)
def shsT : List (List Nat) → TA
  | [] => tNil
  | s :: r => tCons (tLst (intsT s)) (shsT r)
def ShsN (H0 H : Hp) (v : V) (s : List Nat) : Prop := ∃ a, v = .ref a ∧ H0 a = none ∧ H a = some (.lst (natsV s))
theorem ShsN.same {H0 H H' : Hp} {v : V} {s : List Nat} (e : Same H H') (h : ShsN H0 H v s) : ShsN H0 H' v s := by
  obtain ⟨a, h1, h2, h3⟩ := h
  exact ⟨a, h1, h2, e _ _ h3⟩
theorem ints_run {σ : L2.St} {H : Hp} : ∀ {s : List Nat} {Q : List V → Hp → Prop}, Q (natsV s) H → intsT s σ H Q
  | [], _, h => h
  | n :: r, Q, h => ints_run (s := r) (Q := fun xs H1 => Q (V.int n :: xs) H1) h
theorem shs_run {σ : L2.St} {H0 : Hp} : ∀ {ss : List (List Nat)} {H : Hp} {Q : List V → Hp → Prop}, (∀ s ∈ ss, s.length ≤ 1000) → Same H0 H → (∀ H' xs, Same H H' → Paired (ShsN H0 H') xs ss → Q xs H') → shsT ss σ H Q
  | [], H, _, _, _, h => h H [] (fun _ _ e => e) .nil
  | s :: ss, H, Q, hz, s0, h => by
    show tCons (tLst (intsT s)) (shsT ss) σ H Q
    refine cons_in (lst_in (ints_run ⟨?_, fun a na => ?_⟩))
    · unfold natsV
      rw [List.length_map]
      exact Nat.le_trans (hz s List.mem_cons_self) (by decide)
    · refine shs_run (ss := ss) (fun s m => hz s (List.mem_cons_of_mem _ m)) (s0.trans (sameU na)) fun H' xs s1 hp => ?_
      exact h H' _ ((sameU na).trans s1) (.cons ⟨a, rfl, none_of s0 na, s1 _ _ upd_same⟩ hp)
def sp_law_shapes (K : PySem.W.Frag) : Sp := fun vs H Q _ => vs = [] ∧ ∀ H' S xs, Same H H' → H S = none → H' S = some (.lst xs) → Paired (ShsN H H') xs shapes → Q (.ref S) H'
section
variable {P : Program} {w : World} {K : PySem.W.Frag} {mg : Str → Option Value} {base : Heap}
theorem ok_law_shapes {f : Addr} {fd : FuncData} (F : Fun K "_law_shapes" "_law_shapes" s_law_shapes f fd) : FnOk P w K mg base CX0 1 f fd [] (sp_law_shapes K) := by
  refine F.ok sc_law_shapes (fun vs H Q E h => ?_) (fun cdv A outer s H vs Q E hr h => ?_)
  · obtain ⟨rfl, _⟩ := h
    rfl
  · refine ⟨_, (pss_one (ps_ret (pe_lst (pa_cons (pe_lst (pa_cons pe_int (pa_cons pe_int pa_nil))) (pa_cons (pe_lst (pa_cons pe_int (pa_cons pe_int (pa_cons pe_int pa_nil)))) (pa_cons (pe_lst (pa_cons pe_int (pa_cons pe_int (pa_cons pe_int (pa_cons pe_int pa_nil))))) (pa_cons (pe_lst (pa_cons pe_int pa_nil)) (pa_cons (pe_lst (pa_cons pe_int (pa_cons pe_int (pa_cons pe_int pa_nil)))) (pa_cons (pe_lst (pa_cons pe_int (pa_cons pe_int (pa_cons pe_int (pa_cons pe_int pa_nil))))) (pa_cons (pe_lst (pa_cons pe_int (pa_cons pe_int (pa_cons pe_int (pa_cons pe_int (pa_cons pe_int pa_nil)))))) (pa_cons (pe_lst (pa_cons pe_int (pa_cons pe_int (pa_cons pe_int (pa_cons pe_int (pa_cons pe_int (pa_cons pe_int pa_nil))))))) pa_nil))))))))))), ?_⟩
    obtain ⟨rfl, q⟩ := h
    refine ret_in (lst_in ?_)
    show shsT shapes _ _ _
    refine shs_run (by decide +kernel) (fun _ _ e => e) fun H' xs s1 hp => ⟨?_, fun S nS => ?_⟩
    · have z := hp.length
      rw [z]
      decide
    · exact q _ S xs (s1.trans (sameU nS)) (none_of s1 nS) upd_same (paired_mono (fun _ _ x => x.same (sameU nS)) hp)
end
end Uq
namespace Uq
open PySem PySem.Spec PyProof.Rows L2
/-! ### a lore: units, the first part, rows -/
structure R4 where
  nm : Str
  ab : Str
  sh : V
  fa : V
def RowV (K : PySem.W.Frag) (H : Hp) (v : V) (r : R4) : Prop := ∃ t, v = .ref t ∧ SqT K H t [.str r.nm, .str r.ab, r.sh, r.fa]
structure LoreAt (K : PySem.W.Frag) (H : Hp) (d u R : Addr) (b : Nat) (h x : Str) (vs : List V) (rs : List R4) : Prop where
  dic : H d = some (.dK [(.inr "units", .ref u), (.inr "first", .str x), (.inr "rows", .ref R)])
  uni : SqT K H u [.int b, .str h]
  row : H R = some (.lst vs)
  all : Paired (RowV K H) vs rs
theorem LoreAt.same {K : PySem.W.Frag} {H H' : Hp} {d u R : Addr} {b : Nat} {h x : Str} {vs : List V} {rs : List R4} (e : Same H H') (l : LoreAt K H d u R b h x vs rs) : LoreAt K H' d u R b h x vs rs :=
  ⟨e _ _ l.dic, sqT_same e l.uni, e _ _ l.row, paired_mono (fun _ _ ⟨t, a, c⟩ => ⟨t, a, sqT_same e c⟩) l.all⟩
def partsL (x : Str) (rs : List R4) : List Str := x :: rs.map (·.nm)
def inWholes (rs : List R4) (p : Str) : Bool := !inV (.str p) (rs.map fun r => V.str r.ab)
def endsL (x : Str) (rs : List R4) : List Str := (partsL x rs).filter (inWholes rs)
def sp_law_parts (K : PySem.W.Frag) : Sp := fun vs H Q _ => ∃ (d u R : Addr) (b : Nat) (h x : Str) (ws : List V) (rs : List R4), vs = [.ref d] ∧ LoreAt K H d u R b h x ws rs ∧ rs.length ≤ 100 ∧
  ∀ H' r, Same H H' → H r = none → H' r = some (.lst ((partsL x rs).map V.str)) → Q (.ref r) H'
def sp_law_ends (K : PySem.W.Frag) : Sp := fun vs H Q _ => ∃ (d u R : Addr) (b : Nat) (h x : Str) (ws : List V) (rs : List R4), vs = [.ref d] ∧ LoreAt K H d u R b h x ws rs ∧ rs.length ≤ 100 ∧
  ∀ H' r, Same H H' → H r = none → H' r = some (.lst ((endsL x rs).map V.str)) → Q (.ref r) H'
theorem kn_ur : ¬ (.inr "units" : Key) = (.inr "rows" : Key) := by decide +kernel
theorem kn_fr : ¬ (.inr "first" : Key) = (.inr "rows" : Key) := by decide +kernel
theorem kn_uf : ¬ (.inr "units" : Key) = (.inr "first" : Key) := by decide +kernel
theorem lore_rows {K : PySem.W.Frag} {H : Hp} {d u R : Addr} {b : Nat} {h x : Str} {vs : List V} {rs : List R4} (l : LoreAt K H d u R b h x vs rs) : DGet H d (.str "rows") (some (.ref R)) := .inl ⟨_, .inr "rows", .inl l.dic, rfl, by
  rw [valV_neg kn_ur, valV_neg kn_fr, valV_pos rfl]⟩
theorem lore_first {K : PySem.W.Frag} {H : Hp} {d u R : Addr} {b : Nat} {h x : Str} {vs : List V} {rs : List R4} (l : LoreAt K H d u R b h x vs rs) : DGet H d (.str "first") (some (.str x)) := .inl ⟨_, .inr "first", .inl l.dic, rfl, by
  rw [valV_neg kn_uf, valV_pos rfl]⟩
theorem lore_units {K : PySem.W.Frag} {H : Hp} {d u R : Addr} {b : Nat} {h x : Str} {vs : List V} {rs : List R4} (l : LoreAt K H d u R b h x vs rs) : DGet H d (.str "units") (some (.ref u)) := .inl ⟨_, .inr "units", .inl l.dic, rfl, by
  rw [valV_pos rfl]⟩
section
variable {P : Program} {w : World} {K : PySem.W.Frag} {mg : Str → Option Value} {base : Heap}
theorem ok_law_parts {f : Addr} {fd : FuncData} (F : Fun K "_law_parts" "_law_parts" s_law_parts f fd) : FnOk P w K mg base CX0 1 f fd ["_law_lore_here"] (sp_law_parts K) := by
  refine F.ok sc_law_parts (fun vs H Q E h => ?_) (fun cdv A outer s H vs Q E hr h => ?_)
  · obtain ⟨d, u, R, b, h, x, ws, rs, rfl, _⟩ := h
    rfl
  · refine ⟨_, (pss_one (ps_ret (pe_op op_cat (pe_lst (pa_cons (pe_dget (hu_of hr) (pv 0) pe_str (fun _ _ => rfl)) pa_nil)) (pe_lc (own := [("_law_row", 1)]) (g := gName 1) rfl sc_law_parts.nd (pi_list (pe_dget (hu_of hr) (pv 0) pe_str (fun _ _ => rfl))) (blkOk_by (own := [("_law_row", 1)]) (N := N_law_parts) (sc := defScope s_law_parts) (by decide +kernel)) (fun _ _ _ _ _ => (pg_name (i := 1) sc_law_parts.nd rfl (.inl rfl))) (fun _ _ _ _ _ => pts_nil) (fun _ _ _ _ _ => (pe_ix (r := rIxT K) ix_tup (pv 1) pe_int (fun _ _ => rfl))))))), ?_⟩
    obtain ⟨d, u, R, b, h, x, ws, rs, rfl, L, hz, q⟩ := h
    have hl := L.all.length
    refine ret_in (op_in (lst_in (cons_in ⟨.ref d, rfl, d, .str x, rfl, lore_first L, by show 1 ≤ sizeLine; decide, fun A1 n1 => ?_⟩)))
    have s1 : Same H (upd H A1 (.lst [.str x])) := sameU n1
    have h1 : (upd H A1 (.lst [.str x])) A1 = _ := upd_same
    have L1 := L.same s1
    generalize L2.upd H A1 (.lst [.str x]) = H1 at s1 h1 L1 ⊢
    refine ⟨.ref d, rfl, d, .ref R, rfl, lore_rows L1, R, rfl, ⟨_, SqL.of L1.row⟩, fun T nT => ?_⟩
    refine lc_it walk_list (fun i H' => Same H1 H' ∧ H' T = some (.lst ((rs.take i).map fun r => V.str r.nm))) ⟨sameU nT, upd_same⟩ (fun i H' _ h => SqL.of (h.1 _ _ L1.row)) ?_ ?_
    · rintro i y H2 H3 hi ⟨s2, hT⟩ ⟨rfl, hk⟩
      obtain ⟨r, er, t, rfl, ht⟩ := paired_at' L1.all hk
      refine ⟨rfl, .ref t, rfl, t, _, 0, .str r.nm, rfl, rfl, sqT_same s2 ht, atI_nat (j := 0) rfl, _, hT, ?_, ?_, ?_⟩
      · rw [List.length_map, List.length_take]
        exact small1000 (Nat.le_trans (Nat.min_le_right _ _) (by omega))
      · intro b o eb
        rw [upd_ne (ne_of_none eb nT)]
        exact s2 _ _ eb
      · rw [upd_same, List.take_add_one, er, List.map_append]
        rfl
    rintro H2 ⟨s2, hT⟩
    rw [hl, List.take_length] at hT
    refine ⟨A1, T, _, _, rfl, rfl, s2 _ _ h1, hT, ?_, fun r nr => ?_⟩
    · rw [List.length_map]
      exact Nat.le_trans (by show 1 + rs.length ≤ 101; omega) (by decide : 101 ≤ sizeLine)
    · refine q _ r ((s1.trans s2).trans (sameU nr)) (none_of (s1.trans s2) nr) ?_
      rw [upd_same]
      unfold partsL
      rw [List.map_cons, List.map_map]
      rfl
theorem ok_law_ends {f : Addr} {fd : FuncData} (F : Fun K "_law_ends" "_law_ends" s_law_ends f fd) (c_law_parts : Cal P w K mg base 1 "_law_parts" ["_law_lore_here"] (sp_law_parts K)) : FnOk P w K mg base CX0 2 f fd ["_law_lore_here"] (sp_law_ends K) := by
  refine F.ok sc_law_ends (fun vs H Q E h => ?_) (fun cdv A outer s H vs Q E hr h => ?_)
  · obtain ⟨d, u, R, b, h, x, ws, rs, rfl, _⟩ := h
    rfl
  · refine ⟨_, (pss_cons (ps_set (i := 1) sc_law_ends.nd rfl (.inr rfl) (pe_lc (own := [("_law_row", 2)]) (g := gName 2) rfl sc_law_ends.nd (pi_list (pe_dget (hu_of hr) (pv 0) pe_str (fun _ _ => rfl))) (blkOk_by (own := [("_law_row", 2)]) (N := N_law_ends) (sc := defScope s_law_ends) (by decide +kernel)) (fun _ _ _ _ _ => (pg_name (i := 2) sc_law_ends.nd rfl (.inl rfl))) (fun _ _ _ _ _ => pts_nil) (fun _ _ _ _ _ => (pe_ix (r := rIxT K) ix_tup (pv 2) pe_int (fun _ _ => rfl)))))
      (pss_one (ps_ret (pe_lc (own := [("_law_part", 3)]) (g := gName 3) rfl sc_law_ends.nd (pi_list (pe_call c_law_parts.G (hr.mono (by decide)) (by rfl) c_law_parts.g c_law_parts.kp c_law_parts.b .nil pass0 (pa_cons (pv 0) pa_nil))) (blkOk_by (own := [("_law_part", 3)]) (N := N_law_ends) (sc := defScope s_law_ends) (by decide +kernel)) (fun _ _ _ _ _ => (pg_name (i := 3) sc_law_ends.nd rfl (.inl rfl))) (fun _ _ _ _ _ => (pts_one (pt_cmpR (r := rIn K true) op_notIn_seq (pv 3) (pv 1) rfl))) (fun _ _ _ _ _ => (pv 3)))))), ?_⟩
    obtain ⟨d, u, R, b, h, x, ws, rs, rfl, L, hz, q⟩ := h
    have hl := L.all.length
    refine seq_set ⟨.ref d, rfl, d, .ref R, rfl, lore_rows L, R, rfl, ⟨_, SqL.of L.row⟩, fun T nT => ?_⟩
    refine lc_it walk_list (fun i H' => Same H H' ∧ H' T = some (.lst ((rs.take i).map fun r => V.str r.ab))) ⟨sameU nT, upd_same⟩ (fun i H' _ h => SqL.of (h.1 _ _ L.row)) ?_ ?_
    · rintro i y H2 H3 hi ⟨s2, hT⟩ ⟨rfl, hk⟩
      obtain ⟨r, er, t, rfl, ht⟩ := paired_at' L.all hk
      refine ⟨rfl, .ref t, rfl, t, _, 1, .str r.ab, rfl, rfl, sqT_same s2 ht, atI_nat (j := 1) rfl, _, hT, ?_, ?_, ?_⟩
      · rw [List.length_map, List.length_take]
        exact small1000 (Nat.le_trans (Nat.min_le_right _ _) (by omega))
      · intro b o eb
        rw [upd_ne (ne_of_none eb nT)]
        exact s2 _ _ eb
      · rw [upd_same, List.take_add_one, er, List.map_append]
        rfl
    rintro H2 ⟨s2, hT⟩
    rw [hl, List.take_length] at hT
    refine ret_in ?_
    refine ⟨.ref d, rfl, d, u, R, b, h, x, ws, rs, rfl, L.same s2, hz, fun H3 p s3 np hp => ?_⟩
    have s23 := s2.trans s3
    have hT3 := s3 _ _ hT
    refine ⟨p, rfl, ⟨_, SqL.of hp⟩, fun Z nZ => ?_⟩
    have lp : (partsL x rs).length ≤ 101 := by
      unfold partsL
      rw [List.length_cons, List.length_map]
      omega
    have hf : (rs.map fun r => V.str r.ab).all flatV = true := by
      simp [flatV]
    refine lc_it walk_list (fun i H' => Same H3 H' ∧ H' Z = some (.lst ((((partsL x rs).take i).filter (inWholes rs)).map V.str))) ⟨sameU nZ, upd_same⟩ (fun i H' _ h => SqL.of (h.1 _ _ hp)) ?_ ?_
    · rintro i y H4 H5 hi ⟨s4, hZ⟩ ⟨rfl, hk⟩
      rw [List.getElem?_map] at hk
      obtain ⟨z, ez, rfl⟩ := Option.map_eq_some_iff.mp hk
      have tk : (partsL x rs).take (i + 1) = (partsL x rs).take i ++ [z] := by
        rw [List.take_add_one, ez]
        rfl
      refine ⟨rfl, .str z, rfl, .ref T, rfl, T, _, rfl, .inl (SqL.of (s4 _ _ hT3)), rfl, hf, _, rfl, ?_⟩
      show if inWholes rs z = true then _ else _
      refine ite2 (fun e => ?_) (fun e => ?_)
      · refine ⟨.str z, rfl, _, hZ, ?_, ?_, ?_⟩
        · rw [List.length_map]
          refine small1000 (Nat.le_trans (List.length_filter_le _ _) ?_)
          rw [List.length_take]
          exact Nat.le_trans (Nat.min_le_right _ _) (by omega)
        · intro b o eb
          rw [upd_ne (ne_of_none eb nZ)]
          exact s4 _ _ eb
        · rw [upd_same, tk, List.filter_append, List.map_append, List.filter_cons_of_pos e]
          rfl
      · refine ⟨s4, ?_⟩
        rw [hZ, tk, List.filter_append, List.filter_cons_of_neg e]
        simp
    rintro H4 ⟨s4, hZ⟩
    rw [List.length_map, List.take_length] at hZ
    exact q _ Z (s23.trans s4) (none_of s23 nZ) hZ
end
end Uq
namespace Uq
open PySem PySem.Spec PyProof.Rows L2
/-! ### the ends of a part, of a lore -/
def knowsS (ks : List Str) (p : Str) : Bool := inV (.str p) (ks.map V.str)
def knowStep (ks : List Str) (r : R4) : List Str := if knowsS ks r.ab = true then ks ++ [r.nm] else ks
def knownL (p : Str) (rs : List R4) : List Str := rs.foldl knowStep [p]
def endsOfL (x : Str) (rs : List R4) (p : Str) : List Str := (endsL x rs).filter (knowsS (knownL p rs))
theorem knownL_take {p : Str} {rs : List R4} {i : Nat} {r : R4} (e : rs[i]? = some r) : knownL p (rs.take (i + 1)) = knowStep (knownL p (rs.take i)) r := by
  unfold knownL
  rw [List.take_add_one, e]
  show ((rs.take i) ++ [r]).foldl _ _ = _
  rw [List.foldl_append]
  rfl
theorem foldl_few : ∀ (rs : List R4) (ks : List Str), (rs.foldl knowStep ks).length ≤ ks.length + rs.length
  | [], ks => Nat.le_refl _
  | r :: rs, ks => by
    have z := foldl_few rs (knowStep ks r)
    have y : (knowStep ks r).length ≤ ks.length + 1 := by
      unfold knowStep
      by_cases e : knowsS ks r.ab = true
      · rw [if_pos e, List.length_append]
        exact Nat.le_refl _
      · rw [if_neg e]
        exact Nat.le_succ _
    show (rs.foldl knowStep (knowStep ks r)).length ≤ ks.length + (rs.length + 1)
    omega
theorem knownL_few {p : Str} {rs : List R4} : (knownL p rs).length ≤ 1 + rs.length := foldl_few rs [p]
theorem endsL_few {x : Str} {rs : List R4} : (endsL x rs).length ≤ 1 + rs.length := by
  unfold endsL
  refine Nat.le_trans (List.length_filter_le _ _) ?_
  unfold partsL
  rw [List.length_cons, List.length_map]
  omega
def sp_law_ends_of (K : PySem.W.Frag) : Sp := fun vs H Q _ => ∃ (d u R : Addr) (b : Nat) (h x p : Str) (ws : List V) (rs : List R4), vs = [.ref d, .str p] ∧ LoreAt K H d u R b h x ws rs ∧ rs.length ≤ 100 ∧
  ∀ H' r, Same H H' → H r = none → H' r = some (.lst ((endsOfL x rs p).map V.str)) → Q (.ref r) H'
section
variable {P : Program} {w : World} {K : PySem.W.Frag} {mg : Str → Option Value} {base : Heap}
theorem ok_law_ends_of {f : Addr} {fd : FuncData} (F : Fun K "_law_ends_of" "_law_ends_of" s_law_ends_of f fd) (c_law_ends : Cal P w K mg base 2 "_law_ends" ["_law_lore_here"] (sp_law_ends K)) : FnOk P w K mg base CX0 3 f fd ["_law_lore_here", "_law_part"] (sp_law_ends_of K) := by
  refine F.ok sc_law_ends_of (fun vs H Q E h => ?_) (fun cdv A outer s H vs Q E hr h => ?_)
  · obtain ⟨d, u, R, b, h, x, p, ws, rs, rfl, _⟩ := h
    rfl
  · refine ⟨_, (pss_cons (ps_set (i := 2) sc_law_ends_of.nd rfl (.inr rfl) (pe_lst (pa_cons (pv 1) pa_nil)))
      (pss_cons (ps_for PassesOwn.never rfl (pi_list (pe_dget (hu_of hr) (pv 0) pe_str (fun _ _ => rfl))) (pg_tup rfl (pgs_cons (pg_name (i := 3) sc_law_ends_of.nd rfl (.inl rfl)) (pgs_cons (pg_name (i := 4) sc_law_ends_of.nd rfl (.inl rfl)) (pgs_cons (pg_name (i := 5) sc_law_ends_of.nd rfl (.inl rfl)) (pgs_cons (pg_name (i := 6) sc_law_ends_of.nd rfl (.inl rfl)) pgs_nil)))))
        (pss_one (ps_if (pt_cmpR op_in_seq (pv 4) (pv 2) rfl) (pss_one (ps_expr (pe_bm PySem.F.plainAttrs_list PySem.F.slot_list_append PySem.F.type_list_append mt_append (pv 2) (pa_cons (pv 3) pa_nil)))) pss_nil)))
      (pss_one (ps_ret (pe_lc (own := [("_law_end", 7)]) (g := gName 7) rfl sc_law_ends_of.nd (pi_list (pe_call c_law_ends.G (hr.mono (by decide)) (by rfl) c_law_ends.g c_law_ends.kp c_law_ends.b .nil pass0 (pa_cons (pv 0) pa_nil))) (blkOk_by (own := [("_law_end", 7)]) (N := N_law_ends_of) (sc := defScope s_law_ends_of) (by decide +kernel)) (fun _ _ _ _ _ => (pg_name (i := 7) sc_law_ends_of.nd rfl (.inl rfl))) (fun _ _ _ _ _ => (pts_one (pt_cmpR (r := rIn K false) op_in_seq (pv 7) (pv 2) rfl))) (fun _ _ _ _ _ => (pv 7))))))), ?_⟩
    obtain ⟨d, u, R, b, h, x, p, ws, rs, rfl, L, hz, q⟩ := h
    have hl := L.all.length
    refine seq_set (lst_in ⟨.str p, rfl, by show 1 ≤ sizeLine; decide, fun A0 n0 => ?_⟩)
    have s0 : Same H (upd H A0 (.lst [.str p])) := sameU n0
    have h0 : (upd H A0 (.lst [.str p])) A0 = some (.lst ((knownL p []).map V.str)) := upd_same
    generalize L2.upd H A0 (.lst [.str p]) = H0 at s0 h0 ⊢
    have L0 := L.same s0
    refine ⟨.ref d, rfl, d, .ref R, rfl, lore_rows L0, R, rfl, ⟨_, SqL.of L0.row⟩, ?_⟩
    refine for_it (walk_list (xs := ws)) (fun i σ H' => Same H H' ∧ H' A0 = some (.lst ((knownL p (rs.take i)).map V.str)) ∧ ∃ s3 s4 s5 s6, σ = [some (.ref d), some (.str p), some (.ref A0), s3, s4, s5, s6, none]) ⟨s0, h0, none, none, none, none, rfl⟩ (fun i σ H' _ h => SqL.of (h.1 _ _ L.row)) ?_ ?_
    · rintro i y σ H1 H2 hi ⟨s1, hK, t3, t4, t5, t6, rfl⟩ ⟨rfl, hk⟩
      obtain ⟨r, er, t, rfl, ht⟩ := paired_at' L.all hk
      have kt := knownL_take (p := p) er
      have kf := knownL_few (p := p) (rs := rs.take i)
      rw [List.length_take] at kf
      have kf2 : (knownL p (rs.take i)).length ≤ 101 := by
        have := Nat.min_le_right i rs.length
        omega
      refine ⟨t, _, rfl, sqT_same s1 ht, rfl, _, _, rfl, _, _, rfl, _, _, rfl, _, _, rfl, rfl, ?_⟩
      refine ⟨.str r.ab, rfl, .ref A0, rfl, A0, _, rfl, .inl (SqL.of hK), rfl, flat_strs _, _, rfl, ?_⟩
      show if knowsS (knownL p (rs.take i)) r.ab = true then _ else _
      refine ite2 (fun e => ?_) (fun e => ?_)
      · refine ⟨.ref A0, rfl, .inl ⟨rfl, _, SqL.of hK⟩, .str r.nm, rfl, A0, _, _, rfl, rfl, hK, ?_, ?_⟩
        · rw [List.length_map]
          exact small1000 (by omega)
        · refine ⟨fun b o eb => ?_, ?_, _, _, _, _, rfl⟩
          · rw [upd_ne (ne_of_none eb n0)]
            exact s1 _ _ eb
          · rw [upd_same, kt]
            unfold knowStep
            rw [if_pos e, List.map_append]
            rfl
      · refine ⟨s1, ?_, _, _, _, _, rfl⟩
        rw [hK, kt]
        unfold knowStep
        rw [if_neg e]
    rintro σ H1 ⟨s1, hK, t3, t4, t5, t6, rfl⟩
    rw [hl, List.take_length] at hK
    refine ⟨.ref d, rfl, d, u, R, b, h, x, ws, rs, rfl, L.same s1, hz, fun H2 e s2 ne he => ?_⟩
    have s12 := s1.trans s2
    have hK2 := s2 _ _ hK
    have ef := endsL_few (x := x) (rs := rs)
    refine ⟨e, rfl, ⟨_, SqL.of he⟩, fun Z nZ => ?_⟩
    refine lc_it walk_list (fun i H' => Same H2 H' ∧ H' Z = some (.lst ((((endsL x rs).take i).filter (knowsS (knownL p rs))).map V.str))) ⟨sameU nZ, upd_same⟩ (fun i H' _ h => SqL.of (h.1 _ _ he)) ?_ ?_
    · rintro i y H4 H5 hi ⟨s4, hZ⟩ ⟨rfl, hk⟩
      rw [List.getElem?_map] at hk
      obtain ⟨z, ez, rfl⟩ := Option.map_eq_some_iff.mp hk
      have tk : (endsL x rs).take (i + 1) = (endsL x rs).take i ++ [z] := by
        rw [List.take_add_one, ez]
        rfl
      refine ⟨rfl, .str z, rfl, .ref A0, rfl, A0, _, rfl, .inl (SqL.of (s4 _ _ hK2)), rfl, flat_strs _, _, rfl, ?_⟩
      show if knowsS (knownL p rs) z = true then _ else _
      refine ite2 (fun e => ?_) (fun e => ?_)
      · refine ⟨.str z, rfl, _, hZ, ?_, ?_, ?_⟩
        · rw [List.length_map]
          refine small1000 (Nat.le_trans (List.length_filter_le _ _) ?_)
          rw [List.length_take]
          exact Nat.le_trans (Nat.min_le_right _ _) (by omega)
        · intro b o eb
          rw [upd_ne (ne_of_none eb nZ)]
          exact s4 _ _ eb
        · rw [upd_same, tk, List.filter_append, List.map_append, List.filter_cons_of_pos e]
          rfl
      · refine ⟨s4, ?_⟩
        rw [hZ, tk, List.filter_append, List.filter_cons_of_neg e]
        simp
    rintro H4 ⟨s4, hZ⟩
    rw [List.length_map, List.take_length] at hZ
    exact q _ Z (s12.trans s4) (none_of s12 nZ) hZ
end
end Uq
namespace Uq
open PySem PySem.Spec PyProof.Rows L2
/-! ### weights -/
def weightsL (x : Str) (rs : List R4) (p : Str) : List Int := (endsL x rs).map fun e => if knowsS (endsOfL x rs p) e = true then 1 else 0
def sp_law_weights (K : PySem.W.Frag) : Sp := fun vs H Q _ => ∃ (d u R : Addr) (b : Nat) (h x p : Str) (ws : List V) (rs : List R4), vs = [.ref d, .str p] ∧ LoreAt K H d u R b h x ws rs ∧ rs.length ≤ 100 ∧
  ∀ H' r, Same H H' → H r = none → H' r = some (.tup ((weightsL x rs p).map V.int)) → Q (.ref r) H'
section
variable {P : Program} {w : World} {K : PySem.W.Frag} {mg : Str → Option Value} {base : Heap}
theorem ok_law_weights {f : Addr} {fd : FuncData} (F : Fun K "_law_weights" "_law_weights" s_law_weights f fd) (m_tuple : mg "tuple" = none) (m_int : mg "int" = none) (c_law_ends_of : Cal P w K mg base 3 "_law_ends_of" ["_law_lore_here", "_law_part"] (sp_law_ends_of K)) (c_law_ends : Cal P w K mg base 2 "_law_ends" ["_law_lore_here"] (sp_law_ends K)) : FnOk P w K mg base CX0 4 f fd ["_law_lore_here", "_law_part"] (sp_law_weights K) := by
  refine F.ok sc_law_weights (fun vs H Q E h => ?_) (fun cdv A outer s H vs Q E hr h => ?_)
  · obtain ⟨d, u, R, b, h, x, p, ws, rs, rfl, _⟩ := h
    rfl
  · refine ⟨_, (pss_cons (ps_set (i := 2) sc_law_weights.nd rfl (.inr rfl) (pe_call c_law_ends_of.G (hr.mono (by decide)) (by rfl) c_law_ends_of.g c_law_ends_of.kp c_law_ends_of.b .nil pass0 (pa_cons (pv 0) (pa_cons (pv 1) pa_nil))))
      (pss_one (ps_ret (pe_callTy call_tuple_of (by rfl) m_tuple (by decide +kernel) (pa_cons (pe_lc (own := [("_law_end", 3)]) (g := gName 3) rfl sc_law_weights.nd (pi_list (pe_call c_law_ends.G (hr.mono (by decide)) (by rfl) c_law_ends.g c_law_ends.kp c_law_ends.b .nil pass0 (pa_cons (pv 0) pa_nil))) (blkOk_by (own := [("_law_end", 3)]) (N := N_law_weights) (sc := defScope s_law_weights) (by decide +kernel)) (fun _ _ _ _ _ => (pg_name (i := 3) sc_law_weights.nd rfl (.inl rfl))) (fun _ _ _ _ _ => pts_nil) (fun _ _ _ _ _ => (pe_callTy call_int1 (by rfl) m_int (by decide +kernel) (pa_cons (pe_cmpR (r := rIn K false) op_in_seq (pv 3) (pv 2) rfl) pa_nil)))) pa_nil))))), ?_⟩
    obtain ⟨d, u, R, b, h, x, p, ws, rs, rfl, L, hz, q⟩ := h
    have ef := endsL_few (x := x) (rs := rs)
    refine seq_set ⟨.ref d, rfl, .str p, rfl, d, u, R, b, h, x, p, ws, rs, rfl, L, hz, fun H1 o s1 no ho => ?_⟩
    refine ret_in (cb_in (cons_in ?_))
    refine ⟨.ref d, rfl, d, u, R, b, h, x, ws, rs, rfl, L.same s1, hz, fun H2 e s2 ne he => ?_⟩
    have s12 := s1.trans s2
    have ho2 := s2 _ _ ho
    refine ⟨e, rfl, ⟨_, SqL.of he⟩, fun Z nZ => ?_⟩
    refine lc_it walk_list (fun i H' => Same H2 H' ∧ H' Z = some (.lst (((weightsL x rs p).take i).map V.int))) ⟨sameU nZ, upd_same⟩ (fun i H' _ h => SqL.of (h.1 _ _ he)) ?_ ?_
    · rintro i y H4 H5 hi ⟨s4, hZ⟩ ⟨rfl, hk⟩
      rw [List.getElem?_map] at hk
      obtain ⟨z, ez, rfl⟩ := Option.map_eq_some_iff.mp hk
      refine ⟨rfl, .str z, rfl, .ref o, rfl, o, _, rfl, .inl (SqL.of (s4 _ _ ho2)), rfl, flat_strs _, ?_⟩
      have ew : (weightsL x rs p)[i]? = some (if knowsS (endsOfL x rs p) z = true then 1 else 0) := by
        unfold weightsL
        rw [List.getElem?_map, ez]
        rfl
      refine .inr ⟨knowsS (endsOfL x rs p) z, rfl, _, hZ, ?_, ?_, ?_⟩
      · rw [List.length_map, List.length_take]
        refine small1000 (Nat.le_trans (Nat.min_le_right _ _) ?_)
        unfold weightsL
        rw [List.length_map]
        omega
      · intro b o eb
        rw [upd_ne (ne_of_none eb nZ)]
        exact s4 _ _ eb
      · rw [upd_same, List.take_add_one, ew, List.map_append]
        rfl
    rintro H4 ⟨s4, hZ⟩
    rw [List.length_map] at hZ
    rw [List.take_of_length_le (by unfold weightsL; rw [List.length_map]; exact Nat.le_refl _)] at hZ
    have sA := s12.trans s4
    refine ⟨Z, _, rfl, .inl ⟨SqL.of hZ, fun r nr => ?_⟩⟩
    exact q _ r (sA.trans (sameU nr)) (none_of sA nr) upd_same
end
end Uq
namespace Uq
open PySem PySem.Spec PyProof.Rows L2
/-! ### a share as a lore tells it -/
theorem rnd_in {h : Str} {b m w : Int} (hb : 2 ≤ b) (m0 : 0 ≤ m) (m1 : m ≤ w) (w0 : 0 < w) : 0 ≤ rnd h (b * m) w ∧ rnd h (b * m) w ≤ b := by
  have x1 : b * m ≤ b * w := Int.mul_le_mul_of_nonneg_left m1 (by omega)
  have x0 : 0 ≤ b * m := Int.mul_nonneg (by omega) m0
  have d := Int.emod_add_mul_ediv (b * m) w
  have r0 := Int.emod_nonneg (b * m) (Int.ne_of_gt w0)
  have r1 := Int.emod_lt_of_pos (b * m) w0
  have q0 : 0 ≤ b * m / w := Int.ediv_nonneg x0 (Int.le_of_lt w0)
  have q1 : b * m / w ≤ b := by
    have z := Int.ediv_le_ediv w0 x1
    rw [Int.mul_ediv_cancel _ (Int.ne_of_gt w0)] at z
    exact z
  have q2 : b * m / w = b → b * m % w = 0 := by
    intro e
    rw [e, Int.mul_comm w b] at d
    omega
  unfold rnd
  generalize b * m / w = q at *
  generalize b * m % w = r at *
  split
  · omega
  · rename_i n1
    have r2 : r ≠ 0 := fun z => n1 (.inr z)
    split
    · omega
    · split
      · omega
      · split <;> omega
/-- not told, or a share of these units -/
def ShV (b : Nat) (v : V) : Prop := v = .non ∨ ∃ w, Shw b v w
/-- whether a share is right of so many of so many -/
def rightV (h : Str) (b : Nat) (v : V) (m w : Int) : Bool :=
  if v = .non then true else if w = 0 then false else if v = .str "none" then decide (m = 0) else if v = .str "some" then decide (0 < b * m) && decide (b * m < w) else decide (V.int (rnd h (b * m) w) = v)
theorem right_non {h : Str} {b : Nat} {m w : Int} : rightV h b .non m w = true := if_pos rfl
theorem right_int {h : Str} {b : Nat} {m w : Int} (hw : w ≠ 0) : rightV h b (.int (rnd h (b * m) w)) m w = true := by
  unfold rightV
  rw [if_neg (fun z => nomatch z), if_neg hw, if_neg (fun z => nomatch z), if_neg (fun z => nomatch z)]
  exact decide_eq_true rfl
theorem right_some {h : Str} {b : Nat} {m w : Int} (hw : w ≠ 0) (h0 : 0 < b * m) (h1 : b * m < w) : rightV h b (.str "some") m w = true := by
  unfold rightV
  rw [if_neg (fun z => nomatch z), if_neg hw, if_neg (by decide +kernel), if_pos rfl, decide_eq_true h0, decide_eq_true h1]
  rfl
theorem right_none {h : Str} {b : Nat} {m w : Int} (hw : w ≠ 0) (hm : m = 0) : rightV h b (.str "none") m w = true := by
  unfold rightV
  rw [if_neg (fun z => nomatch z), if_neg hw, if_pos rfl]
  exact decide_eq_true hm
def sp_law_share_of (K : PySem.W.Frag) : Sp := fun vs H Q _ => ∃ (p u : Addr) (c b m w : Nat) (h : Str), vs = [.ref p, .ref u, .int m, .int w] ∧ Pot H p c ∧ c + 3 < 100000 ∧ u ≠ p ∧ Un K H u b h ∧ m ≤ w ∧ w < 2 ^ 40 ∧
  ∀ H' v, But p H H' → Pot H' p (c + 3) → ShV b v → rightV h b v m w = true → Q v H'
section
variable {P : Program} {w : World} {K : PySem.W.Frag} {mg : Str → Option Value} {base : Heap}
theorem ok_law_share_of {f : Addr} {fd : FuncData} (F : Fun K "_law_share_of" "_law_share_of" s_law_share_of f fd) (c_law_take : Cal P w K mg base 1 "_law_take" ["_law_pot_here", "_law_upto"] (sp_law_take K)) (c_law_rounded : Cal P w K mg base 1 "_law_rounded" ["_law_how", "_law_above", "_law_under"] (sp_law_rounded K)) : FnOk P w K mg base CX0 2 f fd ["_law_pot_here", "_law_units_here", "_law_many", "_law_whole"] (sp_law_share_of K) := by
  refine F.ok sc_law_share_of (fun vs H Q E h => ?_) (fun cdv A outer s H vs Q E hr h => ?_)
  · obtain ⟨p, u, c, b, m, w, h, rfl, _⟩ := h
    rfl
  · refine ⟨_, (pss_cons (ps_if (PW.pt (pw_or (pt_cmpR op_eq (pv 3) pe_int (nomark _)) (pw_or1 (pt_cmpR op_eq (pe_call c_law_take.G (hr.mono (by decide)) (by rfl) c_law_take.g c_law_take.kp c_law_take.b .nil pass0 (pa_cons (pv 0) (pa_cons pe_int pa_nil))) pe_int (nomark _))))) (pss_one (ps_ret pe_non)) pss_nil)
      (pss_cons (ps_if (PW.pt (pw_and (pt_cmpR op_eq (pv 2) pe_int (nomark _)) (pw_and1 (pt_cmpR op_eq (pe_call c_law_take.G (hr.mono (by decide)) (by rfl) c_law_take.g c_law_take.kp c_law_take.b .nil pass0 (pa_cons (pv 0) (pa_cons pe_int pa_nil))) pe_int (nomark _))))) (pss_one (ps_ret pe_str)) pss_nil)
      (pss_cons (ps_if (PW.pt (pw_and (pt_chain op_lt op_lt pe_int (pe_op op_mul (pe_ix ix_tup (pv 1) pe_int (fun _ _ => rfl)) (pv 2)) (pv 3)) (pw_and1 (pt_cmpR op_eq (pe_call c_law_take.G (hr.mono (by decide)) (by rfl) c_law_take.g c_law_take.kp c_law_take.b .nil pass0 (pa_cons (pv 0) (pa_cons pe_int pa_nil))) pe_int (nomark _))))) (pss_one (ps_ret pe_str)) pss_nil)
      (pss_one (ps_ret (pe_call c_law_rounded.G (hr.mono (by decide)) (by rfl) c_law_rounded.g c_law_rounded.kp c_law_rounded.b .nil pass0 (pa_cons (pe_ix ix_tup (pv 1) pe_int (fun _ _ => rfl)) (pa_cons (pe_op op_mul (pe_ix ix_tup (pv 1) pe_int (fun _ _ => rfl)) (pv 2)) (pa_cons (pv 3) pa_nil))))))))), ?_⟩
    obtain ⟨p, u, c, b, m, w, h, rfl, hp, hc, nup, hu, hm, hw, q⟩ := h
    -- from the last question on
    have rest : 0 < w → ∀ H1 c1, But p H H1 → Pot H1 p c1 → c1 ≤ c + 3 → Q (.int (rnd h (b * m) w)) H1 := fun w0 H1 c1 hB hP hc1 => by
      obtain ⟨_, b2, b100, hh⟩ := hu
      obtain ⟨r0, r1⟩ := rnd_in (h := h) (b := b) (m := m) (w := w) b2 (by omega) (by omega) (by omega)
      refine q H1 _ hB (hP.mono hc1) (.inr ?_) (right_int (by omega))
      generalize rnd h (↑b * ↑m) ↑w = z at r0 r1 ⊢
      obtain ⟨n, rfl⟩ := Int.eq_ofNat_of_zero_le r0
      exact ⟨_, .num n (by omega)⟩
    have third : ∀ H1 c1, But p H H1 → Pot H1 p c1 → c1 + 1 ≤ c + 3 → 0 < w → tSeq (tIfS (tAnd (tTest (tChain (rI0 fun i j => V.bl (decide (i < j))) (rI0 fun i j => V.bl (decide (i < j))) (tC (V.int 0)) (tOp (rI CMul fun i j => V.int (i * j)) (tOp (rIxT K) (tVar 1) (tC (V.int 0))) (tVar 2)) (tVar 3))) (tTest (tOp rEq (tCall (sp_law_take K) [] E0 (tCons (tVar 0) (tCons (tC (V.int 2)) tNil))) (tC (V.int 0))))) (tRet (tC (V.str "some"))) tNext) (tRet (tCall (sp_law_rounded K) [] E0 (tCons (tOp (rIxT K) (tVar 1) (tC (V.int 1))) (tCons (tOp (rI CMul fun i j => V.int (i * j)) (tOp (rIxT K) (tVar 1) (tC (V.int 0))) (tVar 2)) (tCons (tVar 3) tNil))))) { nx := fun x H' => Q V.non H', rt := Q } (L2.start N_law_share_of [V.ref p, V.ref u, V.int m, V.int w]) H1 := by
      intro H1 c1 hB hP hc1 w0
      have hu1 : Un K H1 u b h := hu.but hB nup
      have hb := hu.2.2.1
      have last : ∀ H2 c2, But p H1 H2 → Pot H2 p c2 → c2 ≤ c + 3 → tRet (tCall (sp_law_rounded K) [] E0 (tCons (tOp (rIxT K) (tVar 1) (tC (V.int 1))) (tCons (tOp (rI CMul fun i j => V.int (i * j)) (tOp (rIxT K) (tVar 1) (tC (V.int 0))) (tVar 2)) (tCons (tVar 3) tNil)))) { nx := fun x H' => Q V.non H', rt := Q } (L2.start N_law_share_of [V.ref p, V.ref u, V.int m, V.int w]) H2 := by
        intro H2 c2 hB2 hP2 hc2
        have hu2 : Un K H2 u b h := hu1.but hB2 nup
        refine ⟨.ref u, rfl, u, _, 1, .str h, rfl, rfl, hu2.1, atI_nat (j := 1) rfl, .ref u, rfl, u, _, 0, .int b, rfl, rfl, hu2.1, atI_nat (j := 0) rfl, .int m, rfl, _, _, rfl, rfl, .inl ⟨by omega, by omega⟩, .int w, rfl, h, _, _, rfl, hu.2.2.2, by omega, by omega, ?_⟩
        exact rest w0 H2 c2 (hB.trans hB2) hP2 hc2
      refine ⟨.ref u, rfl, u, _, 0, .int b, rfl, rfl, hu1.1, atI_nat (j := 0) rfl, .int m, rfl, _, _, rfl, rfl, .inl ⟨by omega, by omega⟩, _, _, rfl, rfl, _, rfl, ?_⟩
      refine ite2 (fun ea => ?_) (fun e => ?_)
      · refine ⟨.int w, rfl, _, _, rfl, rfl, _, rfl, ?_⟩
        refine ite2 (fun eb => ?_) (fun e => ?_)
        · refine ⟨.ref p, rfl, p, c1, 2, rfl, hP, by omega, by omega, by omega, fun H2 d2 hB2 hP2 _ _ => ?_⟩
          refine ⟨rfl, _, rfl, ?_⟩
          refine ite2 (fun e => ?_) (fun e => ?_)
          · exact q H2 _ (hB.trans hB2) (hP2.mono hc1) (.inr ⟨_, .some⟩) (right_some (by omega) (of_decide_eq_true ea) (of_decide_eq_true eb))
          · exact last H2 (c1 + 1) hB2 hP2 hc1
        · exact last H1 c1 (But.refl _ _) hP (by omega)
      · exact ⟨_, rfl, last H1 c1 (But.refl _ _) hP (by omega)⟩
    refine ⟨.int w, rfl, rfl, _, rfl, ?_⟩
    refine ite2 (fun e => ?_) (fun e => ?_)
    · exact q H _ (But.refl _ _) (hp.mono (by omega)) (.inl rfl) right_non
    have w0 : 0 < w := by
      have := int_not e
      omega
    refine ⟨.ref p, rfl, p, c, 4, rfl, hp, by omega, by omega, by omega, fun H1 d1 hB1 hP1 _ _ => ?_⟩
    refine ⟨rfl, _, rfl, ?_⟩
    refine ite2 (fun e => ?_) (fun e => ?_)
    · exact q H1 _ hB1 (hP1.mono (by omega)) (.inl rfl) right_non
    refine next_in ?_
    refine ⟨.int m, rfl, rfl, _, rfl, ?_⟩
    refine ite2 (fun em => ?_) (fun e => ?_)
    · refine ⟨.ref p, rfl, p, c + 1, 3, rfl, hP1, by omega, by omega, by omega, fun H2 d2 hB2 hP2 _ _ => ?_⟩
      refine ⟨rfl, _, rfl, ?_⟩
      refine ite2 (fun e => ?_) (fun e => ?_)
      · exact q H2 _ (hB1.trans hB2) (hP2.mono (by omega)) (.inr ⟨_, .none⟩) (right_none (by omega) (int_of em))
      · exact third H2 _ (hB1.trans hB2) hP2 (by omega) w0
    · exact third H1 _ hB1 hP1 (by omega) w0
end
end Uq
namespace Uq
open PySem PySem.Spec PyProof.Rows L2
/-! ### how many are in a part -/
def numberL (x : Str) (rs : List R4) (cs : List Int) (p : Str) : Int := (List.zipWith (· * ·) (weightsL x rs p) cs).sum
def sp_law_number (K : PySem.W.Frag) : Sp := fun vs H Q _ => ∃ (d u R C : Addr) (b : Nat) (h x p : Str) (ws : List V) (rs : List R4) (cs : List Int), vs = [.ref d, .ref C, .str p] ∧ LoreAt K H d u R b h x ws rs ∧ rs.length ≤ 100 ∧ SqT K H C (cs.map V.int) ∧ cs.length = (endsL x rs).length ∧ (∀ c ∈ cs, -(2 ^ 64) < c ∧ c < 2 ^ 64) ∧
  ∀ H', Same H H' → Q (.int (numberL x rs cs p)) H'
theorem walk_zipT {K : PySem.W.Frag} {a b : Addr} {xs ys : List V} {n : Nat} (hn : n = min xs.length ys.length) : Walk (RZ.ItzT K a b) n (fun H => SqT K H a xs ∧ SqT K H b ys) (YPair (fun i => xs[i]?) (fun i => ys[i]?)) := by
  subst hn
  refine ⟨fun i H hi q => ?_, fun H q => ⟨xs, ys, q.1, q.2, by omega⟩, fun i H v H' hi q y => ?_⟩
  · have h1 : i < xs.length := by omega
    have h2 : i < ys.length := by omega
    exact ⟨xs, ys, xs[i], ys[i], q.1, q.2, List.getElem?_eq_getElem h1, List.getElem?_eq_getElem h2⟩
  · obtain ⟨T, x, z, h1, h2, h3, h4, h5⟩ := y
    exact ⟨T, x, z, h1, h2, h3, h4 xs q.1, h5 ys q.2⟩
section
variable {P : Program} {w : World} {K : PySem.W.Frag} {mg : Str → Option Value} {base : Heap}
theorem ok_law_number {f : Addr} {fd : FuncData} (F : Fun K "_law_number" "_law_number" s_law_number f fd) (m_sum : mg "sum" = none) (m_zip : mg "zip" = none) (c_law_weights : Cal P w K mg base 4 "_law_weights" ["_law_lore_here", "_law_part"] (sp_law_weights K)) : FnOk P w K mg base CX0 5 f fd ["_law_lore_here", "_law_counts", "_law_part"] (sp_law_number K) := by
  refine F.ok sc_law_number (fun vs H Q E h => ?_) (fun cdv A outer s H vs Q E hr h => ?_)
  · obtain ⟨d, u, R, C, b, h, x, p, ws, rs, cs, rfl, _⟩ := h
    rfl
  · refine ⟨_, (pss_one (ps_ret (pe_callB (cr_sum rfl) (by rfl) m_sum (by decide +kernel) (pa_cons (pe_lc (own := [("_law_weight", 3), ("_law_many", 4)]) (g := gTup K 2 (gCons (gName 3) (gCons (gName 4) gNil))) rfl sc_law_number.nd (RZ.pi_zipA (by rfl) m_zip (pa_cons (pe_call c_law_weights.G (hr.mono (by decide)) (by rfl) c_law_weights.g c_law_weights.kp c_law_weights.b .nil pass0 (pa_cons (pv 0) (pa_cons (pv 2) pa_nil))) (pa_cons (pv 1) pa_nil))) (blkOk_by (own := [("_law_weight", 3), ("_law_many", 4)]) (N := N_law_number) (sc := defScope s_law_number) (by decide +kernel)) (fun _ _ _ _ _ => (pg_tup rfl (pgs_cons (pg_name (i := 3) sc_law_number.nd rfl (.inl rfl)) (pgs_cons (pg_name (i := 4) sc_law_number.nd rfl (.inl rfl)) pgs_nil)))) (fun _ _ _ _ _ => pts_nil) (fun _ _ _ _ _ => (pe_op op_mul (pv 3) (pv 4)))) pa_nil)))), ?_⟩
    obtain ⟨d, u, R, C, b, h, x, p, ws, rs, cs, rfl, L, hz, hC, hlen, hcs, q⟩ := h
    have ef := endsL_few (x := x) (rs := rs)
    have wl : (weightsL x rs p).length = (endsL x rs).length := by
      unfold weightsL
      rw [List.length_map]
    refine ret_in (cb_in (cons_in ?_))
    refine ⟨.ref d, rfl, .str p, rfl, d, u, R, b, h, x, p, ws, rs, rfl, L, hz, fun H1 W s1 nW hW => ?_⟩
    have hC1 := sqT_same s1 hC
    refine ⟨.ref C, rfl, W, C, _, _, rfl, .inr ⟨SqT.of hW, hC1, fun Z nZ => ?_⟩⟩
    refine lc_it (walk_zipT (n := (endsL x rs).length) (xs := (weightsL x rs p).map V.int) (ys := cs.map V.int) (by rw [List.length_map, List.length_map, wl, hlen]; omega)) (fun i H' => Same H1 H' ∧ H' Z = some (.lst (((List.zipWith (· * ·) (weightsL x rs p) cs).take i).map V.int))) ⟨sameU nZ, upd_same⟩ (fun i H' _ hP => ⟨SqT.of (hP.1 _ _ hW), sqT_same hP.1 hC1⟩) ?_ ?_
    · rintro i y H4 H5 hi ⟨s4, hZ⟩ ⟨T, a, c, rfl, nT, rfl, ea, ec⟩
      replace ea : ((weightsL x rs p).map V.int)[i]? = some a := ea
      replace ec : (cs.map V.int)[i]? = some c := ec
      rw [List.getElem?_map] at ea ec
      obtain ⟨a', ea', rfl⟩ := Option.map_eq_some_iff.mp ea
      obtain ⟨c', ec', rfl⟩ := Option.map_eq_some_iff.mp ec
      have hZT : Z ≠ T := ne_of_none hZ nT
      have s45 := s4.trans (sameU (o := .tup [.int a', .int c']) nT)
      have hZ5 := (sameU (o := .tup [.int a', .int c']) nT) _ _ hZ
      have ew : (List.zipWith (· * ·) (weightsL x rs p) cs)[i]? = some (a' * c') := by
        rw [List.getElem?_zipWith, ea', ec']
      refine ⟨T, _, rfl, SqT.of upd_same, rfl, _, _, rfl, _, _, rfl, rfl, rfl, .int a', rfl, .int c', rfl, a', c', rfl, rfl, .inr (hcs c' (List.mem_of_getElem? ec')), _, hZ5, ?_, ?_, ?_⟩
      · rw [List.length_map, List.length_take]
        refine small1000 (Nat.le_trans (Nat.min_le_left _ _) ?_)
        omega
      · intro b o eb
        rw [upd_ne (ne_of_none eb nZ)]
        exact s45 _ _ eb
      · rw [upd_same, List.take_add_one, ew, List.map_append]
        rfl
    rintro H4 ⟨s4, hZ⟩
    have lz : (List.zipWith (· * ·) (weightsL x rs p) cs).length = (endsL x rs).length := by
      rw [List.length_zipWith, wl, hlen]
      omega
    rw [← lz, List.take_length] at hZ
    exact ⟨Z, _, rfl, SqL.of hZ, q H4 (s1.trans s4)⟩
end
end Uq
namespace Uq
open PySem PySem.Spec PyProof.Rows L2
open TL
/-! ### the line of a row -/
theorem line_tl (ws : List Str) : tl (lineS ws) = joinL (tl spS) (ws.map tl) := by
  unfold lineS
  rw [join_eq, tl_join]
theorem c_part : tl "part " = tl "part" ++ tl spS := by decide +kernel
theorem c_of : tl " of " = tl spS ++ tl "of" ++ tl spS := by decide +kernel
theorem c_is : tl " is " = tl spS ++ tl "is" ++ tl spS := by decide +kernel
theorem c_all : tl " all " = tl spS ++ tl "all" ++ tl spS := by decide +kernel
theorem c_nil : tl "" = [] := by decide +kernel
def sp_law_line (K : PySem.W.Frag) : Sp := fun vs H Q _ => ∃ (t : Addr) (b : Nat) (nm ab : Str) (sh fa : V) (ms ws : List Str) (xs : List V), vs = [.ref t] ∧ SqT K H t [.str nm, .str ab, sh, fa] ∧ nm.length ≤ 8 ∧ ab.length ≤ 8 ∧ b ≤ 100 ∧ Opts b sh fa ms ws xs ∧ Q (.str (lineS (lineW nm ab ms ws))) H
theorem line_0 (nm ab : Str) : ((("part " : Str) ++ nm ++ " of " ++ ab ++ "") ++ "" : Str) = lineS (lineW nm ab [] []) := by
  refine ext_tl ?_
  rw [line_tl]
  simp only [tl_append, c_part, c_of, c_nil, lineW, weave, List.map_cons, List.map_nil, joinL, List.append_assoc, List.append_nil]
theorem line_1 (nm ab w : Str) : ((("part " : Str) ++ nm ++ " of " ++ ab ++ (" is " ++ w)) ++ "" : Str) = lineS (lineW nm ab ["is"] [w]) := by
  refine ext_tl ?_
  rw [line_tl]
  simp only [tl_append, c_part, c_of, c_is, c_nil, lineW, weave, List.map_cons, List.map_nil, joinL, List.append_assoc, List.append_nil]
theorem line_2 (nm ab w : Str) : ((("part " : Str) ++ nm ++ " of " ++ ab ++ "") ++ (" all " ++ w) : Str) = lineS (lineW nm ab ["all"] [w]) := by
  refine ext_tl ?_
  rw [line_tl]
  simp only [tl_append, c_part, c_of, c_all, c_nil, lineW, weave, List.map_cons, List.map_nil, joinL, List.append_assoc, List.append_nil, List.nil_append]
theorem line_3 (nm ab w y : Str) : ((("part " : Str) ++ nm ++ " of " ++ ab ++ (" is " ++ w)) ++ (" all " ++ y) : Str) = lineS (lineW nm ab ["is", "all"] [w, y]) := by
  refine ext_tl ?_
  rw [line_tl]
  simp only [tl_append, c_part, c_of, c_is, c_all, c_nil, lineW, weave, List.map_cons, List.map_nil, joinL, List.append_assoc, List.append_nil]
theorem len_app (a b : Str) : (a ++ b).length = a.length + b.length := by
  rw [← tl_len, tl_append, List.length_append, tl_len, tl_len]
theorem shw_len {b : Nat} {v : V} {w : Str} (h : Shw b v w) (hb : b ≤ 100) : w.length ≤ 4 := by
  cases h with
  | none => decide +kernel
  | some => decide +kernel
  | num n hn =>
    rw [(num_facts n (by omega)).2.2.1]
    split
    · decide
    · split <;> decide
def rStr : List V → Hp → VK → Prop := fun xs H Q => (∃ i, xs = [V.int i] ∧ i.natAbs.log2 < 1920 ∧ Q (.str (toString i)) H) ∨ ∃ a, xs = [V.str a] ∧ Q (.str a) H
theorem call_strV {X : Cx} : CallR X (.type "str") rStr := call_str_int.or SkE.call_str_str
theorem str_in {b : Nat} {v : V} {w : Str} {H : Hp} {Q : VK} (h : Shw b v w) (hb : b ≤ 100) (q : Q (.str w) H) : rStr [v] H Q := by
  cases h with
  | none => exact .inr ⟨_, rfl, q⟩
  | some => exact .inr ⟨_, rfl, q⟩
  | num n hn =>
    refine .inl ⟨n, rfl, ?_, q⟩
    have z : (n : Int).natAbs = n := rfl
    rw [z]
    refine Nat.lt_of_le_of_lt (Nat.log2_le_self n) (by omega)
theorem l5 : ("part " : Str).length = 5 ∧ (" of " : Str).length = 4 ∧ (" is " : Str).length = 4 ∧ (" all " : Str).length = 5 ∧ ("" : Str).length = 0 := by decide +kernel
section
variable {P : Program} {w : World} {K : PySem.W.Frag} {mg : Str → Option Value} {base : Heap}
theorem ok_law_line {f : Addr} {fd : FuncData} (F : Fun K "_law_line" "_law_line" s_law_line f fd) (m_str : mg "str" = none) : FnOk P w K mg base CX0 1 f fd ["_law_row"] (sp_law_line K) := by
  refine F.ok sc_law_line (fun vs H Q E h => ?_) (fun cdv A outer s H vs Q E hr h => ?_)
  · obtain ⟨t, b, nm, ab, sh, fa, ms, ws, xs, rfl, _⟩ := h
    rfl
  · refine ⟨_, (pss_cons (ps_asg (pv 0) (pg_tup rfl (pgs_cons (pg_name (i := 1) sc_law_line.nd rfl (.inl rfl)) (pgs_cons (pg_name (i := 2) sc_law_line.nd rfl (.inl rfl)) (pgs_cons (pg_name (i := 3) sc_law_line.nd rfl (.inl rfl)) (pgs_cons (pg_name (i := 4) sc_law_line.nd rfl (.inl rfl)) pgs_nil))))))
      (pss_cons (ps_set (i := 5) sc_law_line.nd rfl (.inl rfl) (pe_op op_add_str (pe_op op_add_str (pe_op op_add_str pe_str (pv 1)) pe_str) (pv 2)))
      (pss_cons (ps_set (i := 5) sc_law_line.nd rfl (.inl rfl) (pe_op op_add_str (pv 5) (pe_ifExp (pt_cmpR op_isN (pv 3) pe_non (nomark _)) pe_str (pe_op op_add_str pe_str (pe_callTy call_strV (by rfl) m_str (by decide +kernel) (pa_cons (pv 3) pa_nil))))))
      (pss_one (ps_ret (pe_op op_add_str (pv 5) (pe_ifExp (pt_cmpR op_isN (pv 4) pe_non (nomark _)) pe_str (pe_op op_add_str pe_str (pe_callTy call_strV (by rfl) m_str (by decide +kernel) (pa_cons (pv 4) pa_nil)))))))))), ?_⟩
    obtain ⟨t, b, nm, ab, sh, fa, ms, ws, xs, rfl, ht, h1, h2, hb, ho, q⟩ := h
    obtain ⟨k1, k2, k3, k4, k5⟩ := l5
    have big : 1000 ≤ sizeLine := by decide
    refine ⟨.ref t, rfl, t, _, rfl, ht, rfl, _, _, rfl, _, _, rfl, _, _, rfl, _, _, rfl, rfl, ?_⟩
    refine ⟨.str nm, rfl, _, _, rfl, rfl, by omega, _, _, rfl, rfl, by rw [len_app]; omega, .str ab, rfl, _, _, rfl, rfl, by rw [len_app, len_app]; omega, ?_⟩
    have hlen : ((("part " : Str) ++ nm ++ " of ") ++ ab).length ≤ 25 := by
      rw [len_app, len_app, len_app]
      omega
    cases ho with
    | none =>
      refine ⟨_, rfl, .non, rfl, rfl, true, rfl, iteT ⟨_, _, rfl, rfl, by rw [k5]; omega, ?_⟩⟩
      refine ⟨_, rfl, .non, rfl, rfl, true, rfl, iteT ⟨_, _, rfl, rfl, by rw [len_app, k5]; omega, ?_⟩⟩
      rw [line_0]
      exact q
    | @sh _ x a =>
      have lx := shw_len a hb
      have nv : decide (sh = V.non) = false := decide_eq_false (shw_flat a).2.1
      refine ⟨_, rfl, sh, rfl, rfl, false, congrArg V.bl nv, iteF ⟨sh, rfl, ?_⟩⟩
      try unfold tNil
      refine str_in a hb ?_
      refine ⟨_, _, rfl, rfl, by omega, _, _, rfl, rfl, by rw [len_app (" is " : Str)]; omega, ?_⟩
      refine ⟨_, rfl, .non, rfl, rfl, true, rfl, iteT ⟨_, _, rfl, rfl, by rw [len_app _ ((" is " : Str) ++ x), len_app (" is " : Str), k5]; omega, ?_⟩⟩
      rw [line_1]
      exact q
    | @fa _ x a =>
      have lx := shw_len a hb
      have nv : decide (fa = V.non) = false := decide_eq_false (shw_flat a).2.1
      refine ⟨_, rfl, .non, rfl, rfl, true, rfl, iteT ⟨_, _, rfl, rfl, by rw [k5]; omega, ?_⟩⟩
      refine ⟨_, rfl, fa, rfl, rfl, false, congrArg V.bl nv, iteF ⟨fa, rfl, ?_⟩⟩
      try unfold tNil
      refine str_in a hb ?_
      refine ⟨_, _, rfl, rfl, by omega, _, _, rfl, rfl, by rw [len_app _ ("" : Str), len_app (" all " : Str), k5]; omega, ?_⟩
      rw [line_2]
      exact q
    | @both _ _ x y a c =>
      have lx := shw_len a hb
      have ly := shw_len c hb
      have nv : decide (sh = V.non) = false := decide_eq_false (shw_flat a).2.1
      have nu : decide (fa = V.non) = false := decide_eq_false (shw_flat c).2.1
      refine ⟨_, rfl, sh, rfl, rfl, false, congrArg V.bl nv, iteF ⟨sh, rfl, ?_⟩⟩
      try unfold tNil
      refine str_in a hb ?_
      refine ⟨_, _, rfl, rfl, by omega, _, _, rfl, rfl, by rw [len_app (" is " : Str)]; omega, ?_⟩
      refine ⟨_, rfl, fa, rfl, rfl, false, congrArg V.bl nu, iteF ⟨fa, rfl, ?_⟩⟩
      try unfold tNil
      refine str_in c hb ?_
      refine ⟨_, _, rfl, rfl, by omega, _, _, rfl, rfl, by rw [len_app _ ((" is " : Str) ++ x), len_app (" is " : Str), len_app (" all " : Str)]; omega, ?_⟩
      rw [line_3]
      exact q
end
end Uq
namespace Uq
open PySem PySem.Spec PyProof.Rows L2
open TL
/-! ### the text of a lore -/
def r4 (r : Rw) : R4 := ⟨r.nm, r.ab, r.sh, r.fa⟩
structure RwOk (b : Nat) (r : Rw) : Prop where
  opts : Opts b r.sh r.fa r.ms r.ws r.xs
  nm : r.nm.length ≤ 8
  ab : r.ab.length ≤ 8
  len : (lineS (rowW r)).length ≤ 100
def sp_law_text (K : PySem.W.Frag) : Sp := fun vs H Q _ => ∃ (d u R : Addr) (b : Nat) (h x : Str) (ws : List V) (rs : List Rw), vs = [.ref d] ∧ LoreAt K H d u R b h x ws (rs.map r4) ∧ rs.length ≤ 100 ∧ b ≤ 100 ∧ h.length ≤ 8 ∧ x.length ≤ 8 ∧ (∀ r ∈ rs, RwOk b r) ∧
  ∀ H', Same H H' → Q (.str (pageT b h x rs)) H'
theorem head_1 (b : Nat) (h : Str) : (("in " : Str) ++ nS b ++ " " ++ h : Str) = lineS [Str.ofString "in", nS b, h] := by
  refine ext_tl ?_
  rw [line_tl]
  have c1 : tl "in " = tl "in" ++ tl spS := by decide +kernel
  have c2 : tl " " = tl spS := rfl
  simp only [tl_append, c1, c2, List.map_cons, List.map_nil, joinL, List.append_assoc]
theorem head_2 (x : Str) : (("asked " : Str) ++ x : Str) = lineS [Str.ofString "asked", x] := by
  refine ext_tl ?_
  rw [line_tl]
  have c1 : tl "asked " = tl "asked" ++ tl spS := by decide +kernel
  simp only [tl_append, c1, List.map_cons, List.map_nil, joinL, List.append_assoc]
theorem sum_le {n : Nat} : ∀ {ys : List Str}, (∀ y ∈ ys, y.length ≤ n) → (ys.map (·.length)).sum ≤ ys.length * n
  | [], _ => Nat.zero_le _
  | y :: ys, h => by
    have a := h y List.mem_cons_self
    have c := sum_le (ys := ys) fun z m => h z (List.mem_cons_of_mem _ m)
    rw [List.map_cons, List.sum_cons, List.length_cons, Nat.succ_mul]
    omega
section
variable {P : Program} {w : World} {K : PySem.W.Frag} {mg : Str → Option Value} {base : Heap}
theorem ok_law_text {f : Addr} {fd : FuncData} (F : Fun K "_law_text" "_law_text" s_law_text f fd) (m_str : mg "str" = none) (c_law_line : Cal P w K mg base 1 "_law_line" ["_law_row"] (sp_law_line K)) : FnOk P w K mg base CX0 2 f fd ["_law_lore_here"] (sp_law_text K) := by
  refine F.ok sc_law_text (fun vs H Q E h => ?_) (fun cdv A outer s H vs Q E hr h => ?_)
  · obtain ⟨d, u, R, b, h, x, ws, rs, rfl, _⟩ := h
    rfl
  · refine ⟨_, (pss_cons (ps_set (i := 1) sc_law_text.nd rfl (.inl rfl) (pe_lst (pa_cons (pe_op op_add_str (pe_op op_add_str (pe_op op_add_str pe_str (pe_callTy call_strV (by rfl) m_str (by decide +kernel) (pa_cons (pe_ix ix_tup (pe_dget (hu_of hr) (pv 0) pe_str (fun _ _ => rfl)) pe_int (fun _ _ => rfl)) pa_nil))) pe_str) (pe_ix ix_tup (pe_dget (hu_of hr) (pv 0) pe_str (fun _ _ => rfl)) pe_int (fun _ _ => rfl))) (pa_cons (pe_op op_add_str pe_str (pe_dget (hu_of hr) (pv 0) pe_str (fun _ _ => rfl))) pa_nil))))
      (pss_one (ps_ret (pe_bm PySem.F.plainAttrs_str PySem.F.slot_str_join PySem.F.type_str_join mt_join pe_str (pa_cons (pe_op op_cat (pv 1) (pe_lc (own := [("_law_row", 2)]) (g := gName 2) rfl sc_law_text.nd (pi_list (pe_dget (hu_of hr) (pv 0) pe_str (fun _ _ => rfl))) (blkOk_by (own := [("_law_row", 2)]) (N := N_law_text) (sc := defScope s_law_text) (by decide +kernel)) (fun _ _ _ _ _ => (pg_name (i := 2) sc_law_text.nd rfl (.inl rfl))) (fun _ _ _ _ _ => pts_nil) (fun _ _ _ _ _ => (pe_call c_law_line.G (hr.mono (by decide)) (by rfl) c_law_line.g c_law_line.kp c_law_line.b .nil pass0 (pa_cons (pv 2) pa_nil))))) pa_nil))))), ?_⟩
    obtain ⟨d, u, R, b, h, x, ws, rs, rfl, L, hz, hb, hh, hx, ho, q⟩ := h
    have big : 1000 ≤ sizeLine := by decide
    have nl := (num_facts b (by omega)).2.2.1
    have nl4 : (nS b).length ≤ 3 := by
      rw [nl]
      split
      · decide
      · split <;> decide
    refine seq_set (lst_in ?_)
    refine ⟨.ref d, rfl, d, .ref u, rfl, lore_units L, u, _, 0, .int b, rfl, rfl, L.uni, atI_nat (j := 0) rfl, ?_⟩
    try unfold tNil
    refine str_in (b := b) (.num b (Nat.le_refl _)) hb ?_
    obtain ⟨i3, i1, i6⟩ := (show ("in " : Str).length = 3 ∧ (" " : Str).length = 1 ∧ ("asked " : Str).length = 6 by decide +kernel)
    refine ⟨_, _, rfl, rfl, by omega, _, _, rfl, rfl, by rw [len_app]; omega, .ref d, rfl, d, .ref u, rfl, lore_units L, u, _, 1, .str h, rfl, rfl, L.uni, atI_nat (j := 1) rfl, _, _, rfl, rfl, by rw [len_app, len_app]; omega, .ref d, rfl, d, .str x, rfl, lore_first L, _, _, rfl, rfl, by omega, by show 2 ≤ sizeLine; decide, fun A1 n1 => ?_⟩
    rw [head_1, head_2]
    have hl := L.all.length
    rw [List.length_map] at hl
    have s1 := sameU (o := .lst [.str (lineS [Str.ofString "in", nS b, h]), .str (lineS [Str.ofString "asked", x])]) n1
    have h1 : (upd H A1 (.lst [.str (lineS [Str.ofString "in", nS b, h]), .str (lineS [Str.ofString "asked", x])])) A1 = _ := upd_same
    have L1 := L.same s1
    generalize L2.upd H A1 (.lst [.str (lineS [Str.ofString "in", nS b, h]), .str (lineS [Str.ofString "asked", x])]) = H1 at s1 h1 L1 ⊢
    refine ⟨rfl, .ref A1, rfl, .ref d, rfl, d, .ref R, rfl, lore_rows L1, R, rfl, ⟨_, SqL.of L1.row⟩, fun T nT => ?_⟩
    refine lc_it walk_list (fun i H' => Same H1 H' ∧ H' T = some (.lst ((rs.take i).map fun r => V.str (lineS (rowW r))))) ⟨sameU nT, upd_same⟩ (fun i H' _ h => SqL.of (h.1 _ _ L1.row)) ?_ ?_
    · rintro i y H2 H3 hi ⟨s2, hT⟩ ⟨rfl, hk⟩
      obtain ⟨r', er', t, rfl, ht⟩ := paired_at' L1.all hk
      rw [List.getElem?_map] at er'
      obtain ⟨r, er, rfl⟩ := Option.map_eq_some_iff.mp er'
      have k := ho r (List.mem_of_getElem? er)
      refine ⟨rfl, .ref t, rfl, t, b, r.nm, r.ab, r.sh, r.fa, r.ms, r.ws, r.xs, rfl, sqT_same s2 ht, k.nm, k.ab, hb, k.opts, _, hT, ?_, ?_, ?_⟩
      · rw [List.length_map, List.length_take]
        exact small1000 (Nat.le_trans (Nat.min_le_right _ _) (by omega))
      · intro b o eb
        rw [upd_ne (ne_of_none eb nT)]
        exact s2 _ _ eb
      · rw [upd_same, List.take_add_one, er, List.map_append]
        rfl
    rintro H2 ⟨s2, hT⟩
    rw [hl, List.take_length] at hT
    refine ⟨A1, T, _, _, rfl, rfl, s2 _ _ h1, hT, ?_, fun r nr => ?_⟩
    · rw [List.length_map]
      exact Nat.le_trans (by show 2 + rs.length ≤ 102; omega) (by decide : 102 ≤ sizeLine)
    · have ey : (V.str (lineS [Str.ofString "in", nS b, h]) :: V.str (lineS [Str.ofString "asked", x]) :: rs.map fun r => V.str (lineS (rowW r))) = ((pageW b h x rs).map lineS).map V.str := by
        unfold pageW
        rw [List.map_cons, List.map_cons, List.map_cons, List.map_cons, List.map_map, List.map_map]
        rfl
      have e1 : (lineS [Str.ofString "in", nS b, h]).length ≤ 100 := by
        rw [← head_1, len_app, len_app, len_app]
        omega
      have e2 : (lineS [Str.ofString "asked", x]).length ≤ 100 := by
        rw [← head_2, len_app]
        omega
      have hsum := sum_le (n := 100) (ys := (pageW b h x rs).map lineS) fun y hy => by
        unfold pageW at hy
        rw [List.map_cons, List.map_cons, List.map_map] at hy
        rcases List.mem_cons.mp hy with rfl | hy
        · exact e1
        · rcases List.mem_cons.mp hy with rfl | hy
          · exact e2
          · obtain ⟨r, m, rfl⟩ := List.mem_map.mp hy
            exact (ho r m).len
      have hpl : ((pageW b h x rs).map lineS).length = rs.length + 2 := by
        simp [pageW]
      have n1 : (Str.ofString "\n").length = 1 := by decide +kernel
      refine ⟨_, r, (pageW b h x rs).map lineS, rfl, rfl, .inl (SqL.of ?_), ?_, q _ ((s1.trans s2).trans (sameU nr))⟩
      · rw [upd_same, ← ey]
        rfl
      · rw [hpl] at hsum
        rw [hpl, n1]
        omega
end
end Uq
namespace Uq
open PySem PySem.Spec PyProof.Rows L2
/-! ### what a shape with names makes -/
theorem knowsS_iff {ks : List Str} {p : Str} : knowsS ks p = true ↔ p ∈ ks := onWay_iff (W := fun _ => ks) (e := p)
/-- how far down each part of a shape is -/
def depths (s : List Nat) : List Nat := s.foldl (fun ds v => ds ++ [ds.getD v 0 + 1]) [0]
def endsN (s : List Nat) (k : Nat) : List Nat := (List.range (k + 1)).filter fun i => !(s.take k).contains i
structure Shp (s : List Nat) : Prop where
  one : 1 ≤ s.length
  nine : s.length ≤ 9
  abo : ∀ k, k < s.length → s.getD k 0 ≤ k
  dep : ∀ k, k < s.length → (depths s).getD (k + 1) 0 = (depths s).getD (s.getD k 0) 0 + 1
  top : (depths s).getD 0 0 = 0
  far : ∀ k, k < s.length → (depths s).getD (k + 1) 0 ≤ 3
  end_ : ∀ k, k < s.length + 1 → (endsN s k).length ≤ 6
theorem shp_of {s : List Nat} (h : (1 ≤ s.length ∧ s.length ≤ 9 ∧ (∀ k, k < s.length → s.getD k 0 ≤ k) ∧ (∀ k, k < s.length → (depths s).getD (k + 1) 0 = (depths s).getD (s.getD k 0) 0 + 1) ∧ (depths s).getD 0 0 = 0 ∧ (∀ k, k < s.length → (depths s).getD (k + 1) 0 ≤ 3) ∧ (∀ k, k < s.length + 1 → (endsN s k).length ≤ 6))) : Shp s :=
  ⟨h.1, h.2.1, h.2.2.1, h.2.2.2.1, h.2.2.2.2.1, h.2.2.2.2.2.1, h.2.2.2.2.2.2⟩
/-- rows by a shape, with these names -/
structure RowsOf {α : Type} (nm ab : α → Str) (ns : List Str) (s : List Nat) (rs : List α) : Prop where
  len : rs.length = s.length
  all : ∀ k r, rs[k]? = some r → ns[k + 1]? = some (nm r) ∧ ns[s.getD k 0]? = some (ab r)
theorem rowsOf_map {α β : Type} {nm ab : β → Str} {g : α → β} {ns : List Str} {s : List Nat} {rs : List α} : RowsOf nm ab ns s (rs.map g) ↔ RowsOf (nm ∘ g) (ab ∘ g) ns s rs := by
  constructor
  · rintro ⟨h1, h2⟩
    refine ⟨by rw [← h1, List.length_map], fun k r e => h2 k (g r) (by rw [List.getElem?_map, e]; rfl)⟩
  · rintro ⟨h1, h2⟩
    refine ⟨by rw [← h1, List.length_map], fun k r e => ?_⟩
    rw [List.getElem?_map] at e
    obtain ⟨r', e', rfl⟩ := Option.map_eq_some_iff.mp e
    exact h2 k r' e'
theorem nodup_at {ns : List Str} (h : ns.Nodup) {i j : Nat} {x : Str} (hi : ns[i]? = some x) (hj : ns[j]? = some x) : i = j := by
  obtain ⟨li, ei⟩ := List.getElem?_eq_some_iff.mp hi
  obtain ⟨lj, ej⟩ := List.getElem?_eq_some_iff.mp hj
  exact (List.getElem_inj h).mp (ei.trans ej.symm)
section
variable {α : Type} {nm ab : α → Str} {ns : List Str} {s : List Nat} {rs : List α}
theorem RowsOf.ne (R : RowsOf nm ab ns s rs) (S : Shp s) (nd : ns.Nodup) {j k : Nat} {r r' : α} (ej : rs[j]? = some r') (ek : rs[k]? = some r) (h : j ≤ k) : ab r' ≠ nm r := by
  intro z
  have a := (R.all j r' ej).2
  have c := (R.all k r ek).1
  rw [z] at a
  have e := nodup_at nd a c
  have lj : j < rs.length := (List.getElem?_eq_some_iff.mp ej).1
  have := S.abo j (by rw [← R.len]; exact lj)
  omega
end
/-! ### more is in the part above -/
theorem fold_mono : ∀ (rs : List R4) {A B : List Str}, (∀ e ∈ A, e ∈ B) → ∀ e ∈ rs.foldl knowStep A, e ∈ rs.foldl knowStep B
  | [], _, _, h => h
  | r :: rs, A, B, h => by
    refine fold_mono rs (A := knowStep A r) (B := knowStep B r) fun e he => ?_
    unfold knowStep at he ⊢
    by_cases c : knowsS A r.ab = true
    · have c2 : knowsS B r.ab = true := knowsS_iff.mpr (h _ (knowsS_iff.mp c))
      rw [if_pos c] at he
      rw [if_pos c2]
      rcases List.mem_append.mp he with x | x
      · exact List.mem_append_left _ (h _ x)
      · exact List.mem_append_right _ x
    · rw [if_neg c] at he
      split
      · exact List.mem_append_left _ (h _ he)
      · exact h _ he
theorem step_pos {A : List Str} {r : R4} (h : knowsS A r.ab = true) : knowStep A r = A ++ [r.nm] := if_pos h
theorem step_grow {A : List Str} {r : R4} : ∀ e ∈ A, e ∈ knowStep A r := fun e he => by
  unfold knowStep
  split
  · exact List.mem_append_left _ he
  · exact he
theorem fold_grow : ∀ (rs : List R4) {A : List Str}, ∀ e ∈ A, e ∈ rs.foldl knowStep A
  | [], _, _, h => h
  | r :: rs, _, e, h => fold_grow rs e (step_grow e h)
theorem fold_none : ∀ (rs : List R4) {p : Str}, (∀ r ∈ rs, r.ab ≠ p) → rs.foldl knowStep [p] = [p]
  | [], _, _ => rfl
  | r :: rs, p, h => by
    have c : ¬ knowsS [p] r.ab = true := fun z => h r List.mem_cons_self (List.mem_singleton.mp (knowsS_iff.mp z))
    show rs.foldl knowStep (knowStep [p] r) = [p]
    unfold knowStep
    rw [if_neg c]
    exact fold_none rs fun r' m => h r' (List.mem_cons_of_mem _ m)
theorem known_above {rs : List R4} {k : Nat} {r : R4} (e : rs[k]? = some r) (h : ∀ j r', rs[j]? = some r' → j ≤ k → r'.ab ≠ r.nm) : ∀ x ∈ knownL r.nm rs, x ∈ knownL r.ab rs := by
  obtain ⟨lk, ek⟩ := List.getElem?_eq_some_iff.mp e
  have sp : rs = rs.take (k + 1) ++ rs.drop (k + 1) := (List.take_append_drop _ _).symm
  have a1 : (rs.take (k + 1)).foldl knowStep [r.nm] = [r.nm] := fold_none _ fun r' m => by
    obtain ⟨j, lj, ej⟩ := List.getElem_of_mem m
    rw [List.length_take] at lj
    rw [List.getElem_take] at ej
    exact h j r' (by rw [← ej]; exact List.getElem?_eq_getElem _) (by omega)
  have a2 : r.nm ∈ (rs.take (k + 1)).foldl knowStep [r.ab] := by
    rw [List.take_add_one, e]
    show r.nm ∈ ((rs.take k) ++ [r]).foldl knowStep [r.ab]
    rw [List.foldl_append]
    show r.nm ∈ knowStep ((rs.take k).foldl knowStep [r.ab]) r
    rw [step_pos (knowsS_iff.mpr (fold_grow _ _ List.mem_cons_self))]
    exact List.mem_append_right _ List.mem_cons_self
  unfold knownL
  rw [sp, List.foldl_append, List.foldl_append, a1]
  exact fold_mono _ fun x m => by
    rw [List.mem_singleton.mp m]
    exact a2
theorem zip_mono {f g : Str → Int} : ∀ (es : List Str) (cs : List Int), (∀ e ∈ es, f e ≤ g e) → (∀ c ∈ cs, 0 ≤ c) → (List.zipWith (· * ·) (es.map f) cs).sum ≤ (List.zipWith (· * ·) (es.map g) cs).sum
  | [], _, _, _ => by simp
  | _ :: _, [], _, _ => by simp
  | e :: es, c :: cs, h, hc => by
    have a := zip_mono es cs (fun e m => h e (List.mem_cons_of_mem _ m)) fun c m => hc c (List.mem_cons_of_mem _ m)
    have b := Int.mul_le_mul_of_nonneg_right (h e List.mem_cons_self) (hc c List.mem_cons_self)
    simp only [List.map_cons, List.zipWith_cons_cons, List.sum_cons]
    omega
theorem zip_pos {f : Str → Int} : ∀ (es : List Str) (cs : List Int), (∀ e ∈ es, 0 ≤ f e) → (∀ c ∈ cs, 0 ≤ c) → 0 ≤ (List.zipWith (· * ·) (es.map f) cs).sum
  | [], _, _, _ => by simp
  | _ :: _, [], _, _ => by simp
  | e :: es, c :: cs, h, hc => by
    have a := zip_pos es cs (fun e m => h e (List.mem_cons_of_mem _ m)) fun c m => hc c (List.mem_cons_of_mem _ m)
    have b := Int.mul_nonneg (h e List.mem_cons_self) (hc c List.mem_cons_self)
    simp only [List.map_cons, List.zipWith_cons_cons, List.sum_cons]
    omega
theorem zip_all {f : Str → Int} : ∀ (es : List Str) (cs : List Int), (∀ e ∈ es, f e ≤ 1) → (∀ c ∈ cs, 0 ≤ c) → (List.zipWith (· * ·) (es.map f) cs).sum ≤ cs.sum
  | [], cs, _, hc => by
    have : 0 ≤ cs.sum := by
      induction cs with
      | nil => simp
      | cons c cs ih =>
        have := hc c List.mem_cons_self
        have := ih fun c m => hc c (List.mem_cons_of_mem _ m)
        rw [List.sum_cons]
        omega
    simpa using this
  | _ :: _, [], _, _ => by simp
  | e :: es, c :: cs, h, hc => by
    have a := zip_all es cs (fun e m => h e (List.mem_cons_of_mem _ m)) fun c m => hc c (List.mem_cons_of_mem _ m)
    have b := Int.mul_le_mul_of_nonneg_right (h e List.mem_cons_self) (hc c List.mem_cons_self)
    simp only [List.map_cons, List.zipWith_cons_cons, List.sum_cons]
    omega
theorem ind_le {b c : Bool} (h : b = true → c = true) : (if b = true then (1 : Int) else 0) ≤ if c = true then 1 else 0 := by
  cases b with
  | false => cases c <;> decide
  | true => rw [h rfl]; decide
theorem number_mono {x : Str} {rs : List R4} {cs : List Int} {p q : Str} (h : ∀ e ∈ knownL p rs, e ∈ knownL q rs) (hc : ∀ c ∈ cs, 0 ≤ c) : numberL x rs cs p ≤ numberL x rs cs q := by
  unfold numberL weightsL
  refine zip_mono _ _ (fun e me => ind_le fun k => ?_) hc
  have k1 := knowsS_iff.mp k
  unfold endsOfL at k1 ⊢
  obtain ⟨m1, k2⟩ := List.mem_filter.mp k1
  exact knowsS_iff.mpr (List.mem_filter.mpr ⟨m1, knowsS_iff.mpr (h _ (knowsS_iff.mp k2))⟩)
theorem number_pos {x : Str} {rs : List R4} {cs : List Int} {p : Str} (hc : ∀ c ∈ cs, 0 ≤ c) : 0 ≤ numberL x rs cs p := by
  unfold numberL weightsL
  refine zip_pos _ _ (fun e me => ?_) hc
  split <;> decide
theorem number_all {x : Str} {rs : List R4} {cs : List Int} {p : Str} (hc : ∀ c ∈ cs, 0 ≤ c) : numberL x rs cs p ≤ cs.sum := by
  unfold numberL weightsL
  refine zip_all _ _ (fun e me => ?_) hc
  split <;> decide
end Uq
namespace Uq
open PySem PySem.Spec PyProof.Rows L2
open TL
/-! ### from a lore to a page -/
theorem wd_pool : ∀ n ∈ pool, Wd n := by
  intro n h
  have z : ∀ n ∈ pool, n.length ≤ 8 ∧ (32 : Nat) ∉ TL.tl n ∧ (10 : Nat) ∉ TL.tl n := by decide +kernel
  exact ⟨(z n h).1, (z n h).2.1, (z n h).2.2⟩
theorem wd_num : ∀ n : Nat, n < 101 → Wd (nS n) := by
  intro n h
  have z : ∀ n : Nat, n < 101 → (nS n).length ≤ 8 ∧ (32 : Nat) ∉ TL.tl (nS n) ∧ (10 : Nat) ∉ TL.tl (nS n) := by decide +kernel
  exact ⟨(z n h).1, (z n h).2.1, (z n h).2.2⟩
theorem wd_word : ∀ n ∈ (["in", "asked", "part", "of", "is", "all", "none", "some", "near", "even", "down", "up"] : List Str), Wd n := by
  intro n h
  have z : ∀ n ∈ (["in", "asked", "part", "of", "is", "all", "none", "some", "near", "even", "down", "up"] : List Str), n.length ≤ 8 ∧ (32 : Nat) ∉ TL.tl n ∧ (10 : Nat) ∉ TL.tl n := by decide +kernel
  exact ⟨(z n h).1, (z n h).2.1, (z n h).2.2⟩
theorem wd_how {h : Str} (x : How h) : Wd h := by
  refine wd_word h ?_
  rcases x with rfl | rfl | rfl | rfl <;> decide +kernel
theorem wd_shw {b : Nat} {v : V} {w : Str} (h : Shw b v w) (hb : b ≤ 100) : Wd w := by
  cases h with
  | none => exact wd_word _ (by decide +kernel)
  | some => exact wd_word _ (by decide +kernel)
  | num n hn => exact wd_num n (by omega)
theorem wd_line {b : Nat} {nm ab : Str} {sh fa : V} {ms ws : List Str} {xs : List V} (o : Opts b sh fa ms ws xs) (hb : b ≤ 100) (h1 : Wd nm) (h2 : Wd ab) : ∀ w ∈ lineW nm ab ms ws, Wd w := by
  have p1 : Wd (Str.ofString "part") := wd_word _ (by decide +kernel)
  have p2 : Wd (Str.ofString "of") := wd_word _ (by decide +kernel)
  have p3 : Wd "is" := wd_word _ (by decide +kernel)
  have p4 : Wd "all" := wd_word _ (by decide +kernel)
  intro w m
  unfold lineW at m
  cases o with
  | none =>
    simp only [weave, List.mem_cons, List.not_mem_nil, or_false] at m
    rcases m with rfl | rfl | rfl | rfl <;> assumption
  | sh a =>
    have := wd_shw a hb
    simp only [weave, List.mem_cons, List.not_mem_nil, or_false] at m
    rcases m with rfl | rfl | rfl | rfl | rfl | rfl <;> assumption
  | fa a =>
    have := wd_shw a hb
    simp only [weave, List.mem_cons, List.not_mem_nil, or_false] at m
    rcases m with rfl | rfl | rfl | rfl | rfl | rfl <;> assumption
  | both a c =>
    have := wd_shw a hb
    have := wd_shw c hb
    simp only [weave, List.mem_cons, List.not_mem_nil, or_false] at m
    rcases m with rfl | rfl | rfl | rfl | rfl | rfl | rfl | rfl <;> assumption
section
variable {ns : List Str} {s : List Nat} {rs : List Rw} {x : Str} {b : Nat}
theorem names_take (R : RowsOf Rw.nm Rw.ab ns s rs) (ln : ns.length = s.length + 1) (hx : ns[0]? = some x) {k : Nat} (hk : k ≤ rs.length) : (linesOf x (rs.take k)).map (·.nm) = ns.take (k + 1) := by
  refine List.ext_getElem? fun i => ?_
  unfold linesOf
  rw [List.map_cons]
  cases i with
  | zero =>
    rw [List.getElem?_take, if_pos (Nat.zero_lt_succ _), hx]
    rfl
  | succ i =>
    rw [List.getElem?_cons_succ, List.map_map, List.getElem?_map]
    rcases Nat.lt_or_ge i k with z | z
    · have li : i < rs.length := by omega
      rw [List.getElem?_take, if_pos z, List.getElem?_take, if_pos (by omega), List.getElem?_eq_getElem li, (R.all i _ (List.getElem?_eq_getElem li)).1]
      rfl
    · rw [List.getElem?_take, if_neg (by omega), List.getElem?_take, if_neg (by omega)]
      rfl
theorem whole_iff (R : RowsOf Rw.nm Rw.ab ns s rs) (nd : ns.Nodup) {k i : Nat} {n : Str} (hk : k ≤ rs.length) (e : ns[i]? = some n) : inV (.str n) (wholes (linesOf x (rs.take k))) = (s.take k).contains i := by
  rw [Bool.eq_iff_iff, List.contains_iff_mem]
  unfold inV
  rw [List.any_eq_true]
  unfold wholes linesOf
  rw [List.map_cons, List.map_map]
  have ls := R.len
  constructor
  · rintro ⟨y, m, h⟩
    rcases List.mem_cons.mp m with rfl | m
    · exact nomatch h
    · obtain ⟨r, mr, rfl⟩ := List.mem_map.mp m
      obtain ⟨j, lj, ej⟩ := List.getElem_of_mem mr
      rw [List.length_take] at lj
      rw [List.getElem_take] at ej
      have lj2 : j < rs.length := by omega
      have h2 : r.ab = n := eq_of_beq (show (r.ab == n) = true from h)
      have a := (R.all j r (by rw [← ej]; exact List.getElem?_eq_getElem _)).2
      rw [h2] at a
      have z := nodup_at nd a e
      rw [← z, List.getD_eq_getElem?_getD, List.getElem?_eq_getElem (show j < s.length by omega)]
      show s[j] ∈ _
      refine List.mem_of_getElem? (i := j) ?_
      rw [List.getElem?_take, if_pos (by omega), List.getElem?_eq_getElem]
  · intro m
    obtain ⟨j, lj, ej⟩ := List.getElem_of_mem m
    rw [List.length_take] at lj
    rw [List.getElem_take] at ej
    have lj2 : j < rs.length := by omega
    have a := (R.all j _ (List.getElem?_eq_getElem lj2)).2
    rw [List.getD_eq_getElem?_getD, List.getElem?_eq_getElem (show j < s.length by omega)] at a
    replace a : ns[s[j]]? = some rs[j].ab := a
    rw [ej, e] at a
    refine ⟨.str rs[j].ab, List.mem_cons_of_mem _ (List.mem_map.mpr ⟨rs[j], ?_, rfl⟩), ?_⟩
    · refine List.mem_of_getElem? (i := j) ?_
      rw [List.getElem?_take, if_pos (by omega), List.getElem?_eq_getElem]
    · rw [← Option.some.inj a]
      exact beq_self_eq_true n
theorem ends_take (R : RowsOf Rw.nm Rw.ab ns s rs) (nd : ns.Nodup) (ln : ns.length = s.length + 1) (hx : ns[0]? = some x) {k : Nat} (hk : k ≤ rs.length) : (ends (linesOf x (rs.take k))).length = (endsN s k).length := by
  have nt := names_take R ln hx hk
  have ll : (linesOf x (rs.take k)).length = k + 1 := by
    rw [linesOf_len, List.length_take]
    omega
  unfold ends endsN
  rw [List.length_map]
  have e : linesOf x (rs.take k) = (List.range (k + 1)).map fun i => (linesOf x (rs.take k)).getD i (top x) := by
    refine List.ext_getElem? fun i => ?_
    rw [List.getElem?_map]
    rcases Nat.lt_or_ge i (k + 1) with z | z
    · rw [List.getElem?_range z]
      show _ = some ((linesOf x (rs.take k)).getD i (top x))
      rw [List.getD_eq_getElem?_getD, List.getElem?_eq_getElem (by omega)]
      rfl
    · rw [List.getElem?_eq_none (by omega), List.getElem?_eq_none (by rw [List.length_range]; omega)]
      rfl
  generalize hL : linesOf x (rs.take k) = L at e ll nt ⊢
  have e2 : L.filter (isEnd L) = (((List.range (k + 1)).filter ((isEnd L) ∘ fun i => L.getD i (top x))).map fun i => L.getD i (top x)) := by
    conv => lhs; rw [e]
    rw [List.filter_map]
    rw [← e]
  rw [e2, List.length_map]
  refine congrArg List.length (List.filter_congr fun i m => ?_)
  have hi : i < k + 1 := List.mem_range.mp m
  show (!inV (.str (L.getD i (top x)).nm) (wholes L)) = !(s.take k).contains i
  refine congrArg (fun c => !c) ?_
  rw [← hL]
  refine whole_iff R nd hk ?_
  rw [hL]
  have a : (L.map (·.nm))[i]? = some (L.getD i (top x)).nm := by
    rw [List.getElem?_map, List.getD_eq_getElem?_getD, List.getElem?_eq_getElem (by omega)]
    rfl
  rw [nt, List.getElem?_take, if_pos hi] at a
  exact a
theorem ways (R : RowsOf Rw.nm Rw.ab ns s rs) (S : Shp s) (hx : ns[0]? = some x) {j : Nat} (hj : j ≤ rs.length) : ∀ (m i : Nat), i ≤ m → i ≤ j → ∀ n, ns[i]? = some n → ∃ w, Way (linesOf x (rs.take j)) n w ∧ w.length = (depths s).getD i 0 + 1 := by
  intro m
  induction m with
  | zero =>
    intro i hi hij n e
    have z : i = 0 := by omega
    subst z
    rw [hx] at e
    cases Option.some.inj e
    refine ⟨[x], Way.top (l := top x) List.mem_cons_self rfl, ?_⟩
    rw [S.top]
    rfl
  | succ m ih =>
    intro i hi hij n e
    cases i with
    | zero => exact ih 0 (by omega) hij n e
    | succ i =>
      have li : i < rs.length := by omega
      have hs : i < s.length := by rw [← R.len]; exact li
      have a := R.all i _ (List.getElem?_eq_getElem li)
      have v := S.abo i hs
      obtain ⟨w, hw, lw⟩ := ih (s.getD i 0) (by omega) (by omega) _ a.2
      have en := a.1
      rw [e] at en
      cases Option.some.inj en
      refine ⟨rs[i].nm :: w, Way.up (l := lnOf rs[i]) ?_ rfl hw, ?_⟩
      · refine List.mem_cons_of_mem _ (List.mem_map.mpr ⟨rs[i], List.mem_of_getElem? (i := i) ?_, rfl⟩)
        rw [List.getElem?_take, if_pos (by omega), List.getElem?_eq_getElem]
      · rw [List.length_cons, lw, S.dep i hs]
theorem good_of (R : RowsOf Rw.nm Rw.ab ns s rs) (S : Shp s) (nd : ns.Nodup) (hn : ∀ n ∈ ns, n ∈ pool) (ln : ns.length = s.length + 1) (hx : ns[0]? = some x) (ho : ∀ r ∈ rs, Opts b r.sh r.fa r.ms r.ws r.xs) : Good b x rs := by
  intro k r e
  obtain ⟨lk, ek⟩ := List.getElem?_eq_some_iff.mp e
  have ks : k < s.length := by rw [← R.len]; exact lk
  have nt := names_take R ln hx (k := k) (by omega)
  have a := R.all k r e
  have lt := lines_take (x := x) e
  refine ⟨ho r (List.mem_of_getElem? e), pool_nm _ (hn _ (List.mem_of_getElem? a.1)), ?_, ?_, ?_, ?_, ?_⟩
  · rw [nt]
    intro m
    obtain ⟨i, li, ei⟩ := List.getElem_of_mem m
    rw [List.length_take] at li
    rw [List.getElem_take] at ei
    have z := nodup_at nd (i := i) (by rw [← ei]; exact List.getElem?_eq_getElem _) a.1
    omega
  · rw [nt]
    refine List.mem_of_getElem? (i := s.getD k 0) ?_
    rw [List.getElem?_take, if_pos (by have := S.abo k ks; omega)]
    exact a.2
  · rw [linesOf_len, List.length_take]
    have := S.nine
    omega
  · rw [← lt, ends_take R nd ln hx (by omega)]
    exact S.end_ _ (by omega)
  · rw [← lt]
    obtain ⟨w, hw, lw⟩ := ways R S hx (j := k + 1) (by omega) (k + 1) (k + 1) (Nat.le_refl _) (Nat.le_refl _) _ a.1
    refine ⟨w, hw, ?_⟩
    rw [lw]
    have := S.far k ks
    omega
theorem pg_of {h : Str} (R : RowsOf Rw.nm Rw.ab ns s rs) (S : Shp s) (nd : ns.Nodup) (hn : ∀ n ∈ ns, n ∈ pool) (ln : ns.length = s.length + 1) (hx : ns[0]? = some x) (ho : ∀ r ∈ rs, Opts b r.sh r.fa r.ms r.ws r.xs) (b0 : 2 ≤ b) (b1 : b ≤ 100) (hh : How h) : Pg b h x rs := by
  have mx : x ∈ pool := hn _ (List.mem_of_getElem? hx)
  refine ⟨b0, b1, hh, pool_nm _ mx, good_of R S nd hn ln hx ho, ?_, ?_⟩
  · intro z
    have := S.one
    rw [← R.len, z] at this
    simp at this
  · intro ws m w mw
    unfold pageW at m
    rcases List.mem_cons.mp m with rfl | m
    · simp only [List.mem_cons, List.not_mem_nil, or_false] at mw
      rcases mw with rfl | rfl | rfl
      · exact wd_word _ (by decide +kernel)
      · exact wd_num b (by omega)
      · exact wd_how hh
    · rcases List.mem_cons.mp m with rfl | m
      · simp only [List.mem_cons, List.not_mem_nil, or_false] at mw
        rcases mw with rfl | rfl
        · exact wd_word _ (by decide +kernel)
        · exact wd_pool _ mx
      · obtain ⟨r, mr, rfl⟩ := List.mem_map.mp m
        obtain ⟨k, lk, ek⟩ := List.getElem_of_mem mr
        have a := R.all k r (by rw [← ek]; exact List.getElem?_eq_getElem _)
        exact wd_line (ho r mr) b1 (wd_pool _ (hn _ (List.mem_of_getElem? a.1))) (wd_pool _ (hn _ (List.mem_of_getElem? a.2))) w mw
end
end Uq
namespace Uq
open PySem PySem.Spec PyProof.Rows L2
/-! ### the sum of a tuple of ints -/
def rSumT (K : PySem.W.Frag) : List V → Hp → VK → Prop := fun vs H Q => ∃ (a : Addr) (ns : List Int), vs = [V.ref a] ∧ SqT K H a (ns.map V.int) ∧ Q (.int ns.sum) H
theorem cr_sumT {X : Cx} (hc : X.calm = true) : CallR X (.builtin "sum") (rSumT X.K) := by
  intro pins s σ H vs us Q I r h
  obtain ⟨a, ns, rfl, hs, q⟩ := h
  obtain ⟨its, rv, hl, _⟩ := I.tuple hs
  rw [Vals.ref1 r]
  have hi := rv.ints
  obtain ⟨xs, e⟩ := hi.allInts.items
  have hn : numsOf (intItems xs).toList = ns := by rw [← e]; exact hi.numsOf
  rw [nums_intItems] at hn
  have hl2 : s.heap.IsTuple a (intItems xs) := by rw [← e]; exact hl
  refine PySem.W.ktm_sumG (I.ok.hd hc) hl2 fun h' tk t' hk => ?_
  rw [preSum_eq, List.take_of_length_le (by simp), hn]
  exact ⟨.int _, H, I.kept hk, ⟨_, rfl⟩, q⟩
end Uq
namespace Uq
open PySem PySem.Spec PyProof.Rows L2
/-! ### what makes a lore -/
theorem sqT_lst {K : PySem.W.Frag} {H : Hp} {t l : Addr} {xs ys : List V} {o : HO} (h : SqT K H t xs) (hl : H l = some (.lst ys)) : SqT K (upd H l o) t xs := by
  rcases h with (h | ⟨ob, h⟩) | h
  · have n : t ≠ l := fun z => by
      rw [z, hl] at h
      cases h
    exact .inl (.inl (by rw [upd_ne n]; exact h))
  · have n : t ≠ l := fun z => by
      rw [z, hl] at h
      cases h
    exact .inl (.inr ⟨ob, by rw [upd_ne n]; exact h⟩)
  · exact .inr h
theorem sqT_pot {K : PySem.W.Frag} {H H' : Hp} {t p : Addr} {c : Nat} {xs : List V} (h : SqT K H t xs) (hp : Pot H p c) (hB : But p H H') : SqT K H' t xs := by
  obtain ⟨o, s, n, h0, _⟩ := hp
  rcases h with (h | ⟨ob, h⟩) | h
  · have n : t ≠ p := fun z => by
      rw [z, h0] at h
      cases h
    exact .inl (.inl (hB _ _ n h))
  · have n : t ≠ p := fun z => by
      rw [z, h0] at h
      cases h
    exact .inl (.inr ⟨ob, hB _ _ n h⟩)
  · exact .inr h
theorem RowV.lst {K : PySem.W.Frag} {H : Hp} {v : V} {r : R4} {l : Addr} {ys : List V} {o : HO} (h : RowV K H v r) (hl : H l = some (.lst ys)) : RowV K (upd H l o) v r := by
  obtain ⟨t, e, ht⟩ := h
  exact ⟨t, e, sqT_lst ht hl⟩
theorem RowV.same {K : PySem.W.Frag} {H H' : Hp} {v : V} {r : R4} (h : RowV K H v r) (s : Same H H') : RowV K H' v r := by
  obtain ⟨t, e, ht⟩ := h
  exact ⟨t, e, sqT_same s ht⟩
theorem RowV.pot {K : PySem.W.Frag} {H H' : Hp} {v : V} {r : R4} {p : Addr} {c : Nat} (h : RowV K H v r) (hp : Pot H p c) (hB : But p H H') : RowV K H' v r := by
  obtain ⟨t, e, ht⟩ := h
  exact ⟨t, e, sqT_pot ht hp hB⟩
theorem LoreAt.pot {K : PySem.W.Frag} {H H' : Hp} {d u R p : Addr} {c b : Nat} {h x : Str} {vs : List V} {rs : List R4} (l : LoreAt K H d u R b h x vs rs) (hp : Pot H p c) (hB : But p H H') (hR : R ≠ p) : LoreAt K H' d u R b h x vs rs := by
  have nd : d ≠ p := fun z => by
    obtain ⟨_, _, _, h0, _⟩ := hp
    have e := l.dic
    rw [z, h0] at e
    cases e
  exact ⟨hB _ _ nd l.dic, sqT_pot l.uni hp hB, hB _ _ hR l.row, paired_mono (fun _ _ x => x.pot hp hB) l.all⟩
theorem merge3 {a b c : V} : mergeK ([] : List (Key × V)) [(.inr "units", a), (.inr "first", b), (.inr "rows", c)] = [(.inr "units", a), (.inr "first", b), (.inr "rows", c)] := by
  have h1 : ¬ (.inr "units" : Key) = .inr "first" := by decide +kernel
  have h2 : ¬ (.inr "units" : Key) = .inr "rows" := by decide +kernel
  have h3 : ¬ (.inr "first" : Key) = .inr "rows" := by decide +kernel
  simp [mergeK, putK, h1, h2, h3]
theorem put3 {a b c v : V} : putK ([(.inr "units", a), (.inr "first", b), (.inr "rows", c)] : List (Key × V)) (.inr "rows") v = [(.inr "units", a), (.inr "first", b), (.inr "rows", v)] := by
  have h2 : ¬ (.inr "units" : Key) = .inr "rows" := by decide +kernel
  have h3 : ¬ (.inr "first" : Key) = .inr "rows" := by decide +kernel
  simp [putK, h2, h3]
def bareR (ns : List Str) (s : List Nat) : List R4 := List.zipWith (fun n v => ⟨n, ns.getD v "", .non, .non⟩) (ns.drop 1) s
section
variable {ns : List Str} {s : List Nat}
theorem bare_len (ln : ns.length = s.length + 1) : (bareR ns s).length = s.length := by
  unfold bareR
  rw [List.length_zipWith, List.length_drop]
  omega
theorem bare_rows (ln : ns.length = s.length + 1) (S : Shp s) : RowsOf R4.nm R4.ab ns s (bareR ns s) := by
  refine ⟨bare_len ln, fun k r e => ?_⟩
  unfold bareR at e
  rw [List.getElem?_zipWith] at e
  rw [List.getElem?_drop, Nat.add_comm 1 k] at e
  have lk : k < s.length := by
    rcases Nat.lt_or_ge k s.length with z | z
    · exact z
    · rw [List.getElem?_eq_none z] at e
      cases h : ns[k + 1]? <;> rw [h] at e <;> cases e
  rw [List.getElem?_eq_getElem (show k + 1 < ns.length by omega), List.getElem?_eq_getElem lk] at e
  cases Option.some.inj e
  have v := S.abo k lk
  rw [List.getD_eq_getElem?_getD, List.getElem?_eq_getElem lk] at v
  replace v : s[k] ≤ k := v
  refine ⟨List.getElem?_eq_getElem _, ?_⟩
  show ns[s.getD k 0]? = some (ns.getD s[k] "")
  rw [List.getD_eq_getElem?_getD, List.getElem?_eq_getElem lk]
  show ns[s[k]]? = some (ns.getD s[k] "")
  rw [List.getD_eq_getElem?_getD, List.getElem?_eq_getElem (by omega)]
  rfl
/-- the last part is an end -/
theorem ends_some {x : Str} {rs : List R4} (R : RowsOf R4.nm R4.ab ns s rs) (S : Shp s) (nd : ns.Nodup) : 1 ≤ (endsL x rs).length := by
  have l0 := S.one
  have lr := R.len
  have lk : s.length - 1 < rs.length := by omega
  have a := (R.all _ _ (List.getElem?_eq_getElem lk)).1
  refine List.length_pos_of_mem (a := rs[s.length - 1].nm) ?_
  unfold endsL
  refine List.mem_filter.mpr ⟨?_, ?_⟩
  · unfold partsL
    exact List.mem_cons_of_mem _ (List.mem_map.mpr ⟨_, List.getElem_mem lk, rfl⟩)
  · unfold inWholes
    have z : knowsS (rs.map (·.ab)) rs[s.length - 1].nm = false := by
      rw [Bool.eq_false_iff]
      intro k
      obtain ⟨r, mr, er⟩ := List.mem_map.mp (knowsS_iff.mp k)
      obtain ⟨j, lj, ej⟩ := List.getElem_of_mem mr
      have b := (R.all j r (by rw [← ej]; exact List.getElem?_eq_getElem _)).2
      rw [er] at b
      have e := nodup_at nd b a
      have v := S.abo j (by omega)
      omega
    unfold knowsS at z
    rw [List.map_map] at z
    show (!inV _ _) = true
    rw [show (rs.map fun r => V.str r.ab) = rs.map (V.str ∘ fun x => x.ab) from rfl, z]
    rfl
end
structure CntOk (x : Str) (rs : List R4) (z : Int) (cs : List Int) : Prop where
  len : cs.length = (endsL x rs).length
  nat : ∀ c ∈ cs, 0 ≤ c ∧ c ≤ z
  some : 0 < cs.sum
/-- whether both shares of a row are right, by the law's own numbers -/
def rowR (h : Str) (b : Nat) (x : Str) (qs : List R4) (cs : List Int) (q : R4) : Bool :=
  rightV h b q.sh (numberL x qs cs q.nm) (numberL x qs cs q.ab) && rightV h b q.fa (numberL x qs cs q.nm) cs.sum
def rowR2 (h : Str) (b : Nat) (x : Str) (bs : List R4) (cs : List Int) (q : R4) : Bool :=
  rightV h b q.sh (numberL x bs cs q.nm) (numberL x bs cs q.ab) && rightV h b q.fa (numberL x bs cs q.nm) cs.sum
theorem known_nm {p : Str} {rs rs' : List R4} (h1 : rs'.map (·.nm) = rs.map (·.nm)) (h2 : rs'.map (·.ab) = rs.map (·.ab)) : knownL p rs' = knownL p rs := by
  have z : ∀ (rs rs' : List R4) (ks : List Str), rs'.map (·.nm) = rs.map (·.nm) → rs'.map (·.ab) = rs.map (·.ab) → rs'.foldl knowStep ks = rs.foldl knowStep ks := by
    intro rs
    induction rs with
    | nil =>
      intro rs' ks h1 _
      cases rs' with
      | nil => rfl
      | cons a l => exact absurd h1 (by simp)
    | cons r rs ih =>
      intro rs' ks h1 h2
      cases rs' with
      | nil => exact absurd h1 (by simp)
      | cons a l =>
        rw [List.map_cons, List.map_cons, List.cons.injEq] at h1 h2
        rw [List.foldl_cons, List.foldl_cons]
        have e : knowStep ks a = knowStep ks r := by
          unfold knowStep
          rw [h1.1, h2.1]
        rw [e]
        exact ih l _ h1.2 h2.2
  exact z rs rs' [p] h1 h2
def sp_law_lore (K : PySem.W.Frag) : Sp := fun vs H Q _ => ∃ (p S : Addr) (c : Nat) (m z : Int) (xs : List V) (ss : List (List Nat)), vs = [.ref p, .ref S, .int m, .int z] ∧ Pot H p c ∧ c + 200 < 90000 ∧ S ≠ p ∧ SqL K H S xs ∧ Paired (ShsAt H p) xs ss ∧ 0 < ss.length ∧ ss.length ≤ 100 ∧ (∀ s ∈ ss, Shp s) ∧ 2 ≤ m ∧ m ≤ 100 ∧ 1 ≤ z ∧ z ≤ 2 ^ 30 ∧
  ∀ H' t d u R C (b : Nat) h x vs rs (ns : List Str) s cs, But p H H' → Pot H' p (c + 200) → H' t = some (.tup [.ref d, .ref C]) → R ≠ p → LoreAt K H' d u R b h x vs rs → 2 ≤ b → (b : Int) ≤ m → How h → s ∈ ss → RowsOf R4.nm R4.ab ns s rs → ns.length = s.length + 1 → ns.Nodup → (∀ n ∈ ns, n ∈ pool) → ns[0]? = some x →
    (∀ q ∈ rs, ShV b q.sh ∧ ShV b q.fa) → (∀ q ∈ rs, rowR h b x rs cs q = true) → SqT K H' C (cs.map V.int) → CntOk x rs z cs → Q (.ref t) H'
theorem strs_at {ns : List Str} {i : Nat} {n : Str} (e : ns[i]? = some n) : atI (ns.map V.str) (i : Int) = some (.str n) := atI_nat (j := i) (by rw [List.getElem?_map, e]; rfl)
theorem endsL_nm {x : Str} {rs rs' : List R4} (h1 : rs'.map (·.nm) = rs.map (·.nm)) (h2 : rs'.map (·.ab) = rs.map (·.ab)) : endsL x rs' = endsL x rs := by
  unfold endsL partsL
  rw [h1]
  refine List.filter_congr fun p _ => ?_
  unfold inWholes
  rw [show (rs'.map fun r => V.str r.ab) = (rs'.map (·.ab)).map V.str by rw [List.map_map]; rfl, show (rs.map fun r => V.str r.ab) = (rs.map (·.ab)).map V.str by rw [List.map_map]; rfl, h2]
theorem number_nm {x p : Str} {cs : List Int} {rs rs' : List R4} (h1 : rs'.map (·.nm) = rs.map (·.nm)) (h2 : rs'.map (·.ab) = rs.map (·.ab)) : numberL x rs' cs p = numberL x rs cs p := by
  unfold numberL weightsL endsOfL
  rw [endsL_nm h1 h2, known_nm h1 h2]
theorem gname_in {i : Nat} {v : V} {σ : L2.St} {H : Hp} {N : L2.St → Hp → Prop} (h : N (σ.set i (some v)) H) : gName i v σ H N := h
theorem cut_one {xs : List V} (h : 1 ≤ xs.length) : cutV xs (some (1 : Int)) none = xs.drop 1 := cut_from (k := 1) h
/-- a value's ways, joined -/
theorem seq_setQ {te : TE} {i : Nat} {u : TS} {D : Ends} {σ : L2.St} {H : Hp} (Post : V → Hp → Prop) (h : ∀ Q : VK, (∀ x H1, Post x H1 → Q x H1) → te σ H Q) (g : ∀ x H1, Post x H1 → u D (σ.set i (some x)) H1) : tSeq (tAsg te (gName i)) u D σ H := seq_set (h _ g)
/-- a statement's ways, joined -/
theorem seq_join {t u : TS} {D : Ends} {σ : L2.St} {H : Hp} (Post : L2.St → Hp → Prop) (h : ∀ N : L2.St → Hp → Prop, (∀ σ' H', Post σ' H' → N σ' H') → t { D with nx := N } σ H) (g : ∀ σ' H', Post σ' H' → u D σ' H') : tSeq t u D σ H := h _ g
section
variable {P : Program} {w : World} {K : PySem.W.Frag} {mg : Str → Option Value} {base : Heap}
theorem ok_law_lore {f : Addr} {fd : FuncData} (F : Fun K "_law_lore" "_law_lore" s_law_lore f fd) (m_zip : mg "zip" = none) (m_tuple : mg "tuple" = none) (m_sum : mg "sum" = none) (c_law_tree : Cal P w K mg base 4 "_law_tree" ["_law_pot_here", "_law_shapes_here"] (sp_law_tree K)) (c_law_units : Cal P w K mg base 3 "_law_units" ["_law_pot_here", "_law_most"] (sp_law_units K)) (c_law_ends : Cal P w K mg base 2 "_law_ends" ["_law_lore_here"] (sp_law_ends K)) (c_law_take : Cal P w K mg base 1 "_law_take" ["_law_pot_here", "_law_upto"] (sp_law_take K)) (c_law_number : Cal P w K mg base 5 "_law_number" ["_law_lore_here", "_law_counts", "_law_part"] (sp_law_number K)) (c_law_share_of : Cal P w K mg base 2 "_law_share_of" ["_law_pot_here", "_law_units_here", "_law_many", "_law_whole"] (sp_law_share_of K)) : FnOk P w K mg base CX0 6 f fd ["_law_pot_here", "_law_shapes_here", "_law_most", "_law_size"] (sp_law_lore K) := by
  refine F.ok sc_law_lore (fun vs H Q E h => ?_) (fun cdv A outer s H vs Q E hr h => ?_)
  · obtain ⟨p, S, c, m, z, xs, ss, rfl, _⟩ := h
    rfl
  · refine ⟨_, (pss_cons (ps_asg (pe_call c_law_tree.G (hr.mono (by decide)) (by rfl) c_law_tree.g c_law_tree.kp c_law_tree.b .nil pass0 (pa_cons (pv 0) (pa_cons (pv 1) pa_nil))) (pg_tup rfl (pgs_cons (pg_name (i := 4) sc_law_lore.nd rfl (.inr rfl)) (pgs_cons (pg_name (i := 5) sc_law_lore.nd rfl (.inl rfl)) pgs_nil))))
      (pss_cons (ps_set (i := 6) sc_law_lore.nd rfl (.inl rfl) (pe_call c_law_units.G (hr.mono (by decide)) (by rfl) c_law_units.g c_law_units.kp c_law_units.b .nil pass0 (pa_cons (pv 0) (pa_cons (pv 2) pa_nil))))
      (pss_cons (ps_set (i := 7) sc_law_lore.nd rfl (.inl rfl) (pe_disp (pps_cons pe_str (pv 6) (pps_cons pe_str (pe_ix ix_list (pv 4) pe_int (fun _ _ => rfl)) (pps_cons pe_str (pe_lst pa_nil) pps_nil))) (by rfl) (by rfl) (fun z => by cases z) (by decide)))
      (pss_cons (ps_dput (hu_of hr) (pv 7) pe_str (pe_lc (own := [("_law_name", 8), ("_law_above", 9)]) (g := gTup K 2 (gCons (gName 8) (gCons (gName 9) gNil))) rfl sc_law_lore.nd (pi_zip (by rfl) m_zip (pa_cons (pe_slice sl_list (pv 4) (po_some pe_int) po_none) (pa_cons (pv 5) pa_nil))) (blkOk_by (own := [("_law_name", 8), ("_law_above", 9)]) (N := N_law_lore) (sc := defScope s_law_lore) (by decide +kernel)) (fun _ _ _ _ _ => (pg_tup rfl (pgs_cons (pg_name (i := 8) sc_law_lore.nd rfl (.inl rfl)) (pgs_cons (pg_name (i := 9) sc_law_lore.nd rfl (.inl rfl)) pgs_nil)))) (fun _ _ _ _ _ => pts_nil) (fun _ _ _ _ _ => (pe_tup (pa_cons (pv 8) (pa_cons (pe_ix (r := rIxL K) ix_list (pv 4) (pv 9) (fun _ _ => rfl)) (pa_cons pe_non (pa_cons pe_non pa_nil))))))) rfl)
      (pss_cons (ps_set (i := 10) sc_law_lore.nd rfl (.inl rfl) (pe_callTy call_tuple_of (by rfl) m_tuple (by decide +kernel) (pa_cons (pe_lc (own := [("_law_end", 17)]) (g := gName 17) rfl sc_law_lore.nd (pi_list (pe_call c_law_ends.G (hr.mono (by decide)) (by rfl) c_law_ends.g c_law_ends.kp c_law_ends.b .nil pass0 (pa_cons (pv 7) pa_nil))) (blkOk_by (own := [("_law_end", 17)]) (N := N_law_lore) (sc := defScope s_law_lore) (by decide +kernel)) (fun _ _ _ _ _ => (pg_name (i := 17) sc_law_lore.nd rfl (.inl rfl))) (fun _ _ _ _ _ => pts_nil) (fun _ _ _ _ _ => (pe_call c_law_take.G (hr.mono (by decide)) (by rfl) c_law_take.g c_law_take.kp c_law_take.b .nil pass0 (pa_cons (pv 0) (pa_cons (pv 3) pa_nil))))) pa_nil)))
      (pss_cons (ps_set (i := 10) sc_law_lore.nd rfl (.inl rfl) (pe_ifExp (pt_cmpR op_gt (pe_callB (cr_sumT rfl) (by rfl) m_sum (by decide +kernel) (pa_cons (pv 10) pa_nil)) pe_int (nomark _)) (pv 10) (pe_op op_catA (pe_tup (pa_cons pe_int pa_nil)) (pe_slice sl_tupA (pv 10) (po_some pe_int) po_none))))
      (pss_cons (ps_set (i := 11) sc_law_lore.nd rfl (.inl rfl) (pe_lst pa_nil))
      (pss_cons (ps_for PassesOwn.never rfl (pi_list (pe_dget (hu_of hr) (pv 7) pe_str (fun _ _ => rfl))) (pg_tup rfl (pgs_cons (pg_name (i := 8) sc_law_lore.nd rfl (.inl rfl)) (pgs_cons (pg_name (i := 9) sc_law_lore.nd rfl (.inl rfl)) (pgs_cons (pg_name (i := 12) sc_law_lore.nd rfl (.inl rfl)) (pgs_cons (pg_name (i := 13) sc_law_lore.nd rfl (.inl rfl)) pgs_nil)))))
        (pss_cons (ps_par (i := 14) (j := 15) (by rfl) sc_law_lore.nd rfl rfl (by decide) rfl rfl (pa_cons (pe_call c_law_number.G (hr.mono (by decide)) (by rfl) c_law_number.g c_law_number.kp c_law_number.b .nil pass0 (pa_cons (pv 7) (pa_cons (pv 10) (pa_cons (pv 8) pa_nil)))) (pa_cons (pe_call c_law_number.G (hr.mono (by decide)) (by rfl) c_law_number.g c_law_number.kp c_law_number.b .nil pass0 (pa_cons (pv 7) (pa_cons (pv 10) (pa_cons (pv 9) pa_nil)))) pa_nil)) (by rfl))
        (pss_cons (ps_par (i := 16) (j := 13) (by rfl) sc_law_lore.nd rfl rfl (by decide) rfl rfl (pa_cons (pe_call c_law_share_of.G (hr.mono (by decide)) (by rfl) c_law_share_of.g c_law_share_of.kp c_law_share_of.b .nil pass0 (pa_cons (pv 0) (pa_cons (pv 6) (pa_cons (pv 14) (pa_cons (pv 15) pa_nil))))) (pa_cons pe_non pa_nil)) (by rfl))
        (pss_cons (ps_if (pt_cmpR op_eq (pe_call c_law_take.G (hr.mono (by decide)) (by rfl) c_law_take.g c_law_take.kp c_law_take.b .nil pass0 (pa_cons (pv 0) (pa_cons pe_int pa_nil))) pe_int (nomark _)) (pss_one (ps_set (i := 13) sc_law_lore.nd rfl (.inl rfl) (pe_call c_law_share_of.G (hr.mono (by decide)) (by rfl) c_law_share_of.g c_law_share_of.kp c_law_share_of.b .nil pass0 (pa_cons (pv 0) (pa_cons (pv 6) (pa_cons (pv 14) (pa_cons (pe_callB (cr_sumT rfl) (by rfl) m_sum (by decide +kernel) (pa_cons (pv 10) pa_nil)) pa_nil))))))) pss_nil)
        (pss_one (ps_expr (pe_bm PySem.F.plainAttrs_list PySem.F.slot_list_append PySem.F.type_list_append mt_append (pv 11) (pa_cons (pe_tup (pa_cons (pv 8) (pa_cons (pv 9) (pa_cons (pv 16) (pa_cons (pv 13) pa_nil))))) pa_nil))))))))
      (pss_one (ps_ret (pe_tup (pa_cons (pe_disp (pps_cons pe_str (pv 6) (pps_cons pe_str (pe_ix ix_list (pv 4) pe_int (fun _ _ => rfl)) (pps_cons pe_str (pv 11) pps_nil))) (by rfl) (by rfl) (fun z => by cases z) (by decide)) (pa_cons (pv 10) pa_nil))))))))))))), ?_⟩
    obtain ⟨p, S, c, m, z, xs, ss, rfl, hp, hc, hSp, hS, hss, h0, h1, hsh, hm0, hm1, hz0, hz1, q⟩ := h
    have s4 : 4 ≤ sizeLine := by decide
    -- names and a shape
    refine ⟨.ref p, rfl, .ref S, rfl, p, S, c, xs, ss, rfl, hp, by omega, hSp, hS, hss, h0, h1, fun s ms => (hsh s ms).nine, fun H1 t1 r a ns s hB1 hP1 nt1 ht1 nr hr1 ha1 ms ln nd hn nap nrp => ?_⟩
    have Sh := hsh s ms
    have l9 := Sh.nine
    refine ⟨t1, _, rfl, SqT.of ht1, rfl, ?_⟩
    refine ⟨.ref r, [.ref a], rfl, .ref a, [], rfl, rfl, ?_⟩
    -- units
    refine ⟨.ref p, rfl, .int m, rfl, p, c + 20, m, rfl, hP1, by omega, hm0, hm1, fun H2 u b' h _ hB2 hP2 nu nup hU hbm hu2 => ?_⟩
    obtain ⟨b, rfl⟩ := Int.eq_ofNat_of_zero_le (show 0 ≤ b' by have := hU.2.1; omega)
    have hB02 := hB1.trans hB2
    have hr2 := hB2 _ _ nrp hr1
    have ha2 := hB2 _ _ nap ha1
    obtain ⟨x, hx⟩ : ∃ x, ns[0]? = some x := ⟨_, List.getElem?_eq_getElem (by omega)⟩
    have few : ns.length ≤ 10 := by omega
    -- the bare lore
    dsimp only
    refine gname_in (seq_set ?_)
    refine fun d nd2 => ?_
    refine ⟨.ref u, rfl, .ref r, rfl, r, _, 0, .str x, rfl, rfl, SqL.of ((sameU nd2) _ _ hr2), strs_at hx, ?_⟩
    refine ⟨by show 0 ≤ sizeLine; decide, fun R0 nR0 => ?_⟩
    have ndp : d ≠ p := fun e => hP2.some (e ▸ nd2)
    have nR02 : H2 R0 = none := none_of (sameU nd2) nR0
    have dR : d ≠ R0 := ne_of_none upd_same nR0
    refine ⟨by rw [upd_ne dR]; exact upd_same, [(.inr "units", .ref u), (.inr "first", .str x), (.inr "rows", .ref R0)], rfl, (by show 3 ≤ 15; decide), ?_⟩
    rw [merge3]
    have s2 : Same H2 (upd (upd (upd H2 d (.dK [])) R0 (.lst [])) d (.dK [(.inr "units", .ref u), (.inr "first", .str x), (.inr "rows", .ref R0)])) := fun e o he => by
      rw [upd_ne (ne_of_none he nd2)]
      exact (sameU nR0) _ _ ((sameU nd2) _ _ he)
    have hd3 : (upd (upd (upd H2 d (.dK [])) R0 (.lst [])) d (.dK [(.inr "units", .ref u), (.inr "first", .str x), (.inr "rows", .ref R0)])) d = some (.dK [(.inr "units", .ref u), (.inr "first", .str x), (.inr "rows", .ref R0)]) := upd_same
    generalize L2.upd (L2.upd (L2.upd H2 d (.dK [])) R0 (.lst [])) d (.dK [(.inr "units", .ref u), (.inr "first", .str x), (.inr "rows", .ref R0)]) = H3 at s2 hd3 ⊢
    have hr3 := s2 _ _ hr2
    have ha3 := s2 _ _ ha2
    have hP3 := hP2.same s2
    have hU3 := hU.same s2
    have hB3 := hB02.trans (But.of s2)
    -- its rows
    have RB := bare_rows ln Sh
    have lb := bare_len ln
    refine ⟨.ref r, rfl, 1, rfl, r, _, rfl, SqL.of hr3, fun N nN => ?_⟩
    rw [show cutV (ns.map V.str) (some (1 : Int)) none = (ns.drop 1).map V.str by rw [cut_one (by rw [List.length_map]; omega), List.map_drop]]
    have sN := sameU (o := .lst ((ns.drop 1).map V.str)) nN
    have hN : (upd H3 N (.lst ((ns.drop 1).map V.str))) N = _ := upd_same
    generalize L2.upd H3 N (.lst ((ns.drop 1).map V.str)) = H4 at sN hN ⊢
    have hr4 := sN _ _ hr3
    have ha4 := sN _ _ ha3
    refine ⟨.ref a, rfl, N, a, _, _, rfl, SqL.of hN, SqL.of ha4, fun D nD => ?_⟩
    have l1 : ((ns.drop 1).map V.str).length = s.length := by
      rw [List.length_map, List.length_drop]
      omega
    have l2 : (natsV s).length = s.length := by
      unfold natsV
      rw [List.length_map]
    refine lc_it (walk_zip (n := s.length) (by rw [l1, l2]; omega)) (fun i H' => Same H4 H' ∧ ∃ vs, H' D = some (.lst vs) ∧ Paired (RowV K H') vs ((bareR ns s).take i)) ⟨sameU nD, [], upd_same, .nil⟩ (fun i H' _ h => ⟨SqL.of (h.1 _ _ hN), SqL.of (h.1 _ _ ha4)⟩) ?_ ?_
    · rintro i y H5 H6 hi ⟨s5, vs, hD, hp5⟩ ⟨T, e1, e2, rfl, nT, rfl, k1, k2⟩
      replace k1 : ((ns.drop 1).map V.str)[i]? = some e1 := k1
      replace k2 : (natsV s)[i]? = some e2 := k2
      rw [List.getElem?_map] at k1
      obtain ⟨n, kn, rfl⟩ := Option.map_eq_some_iff.mp k1
      unfold natsV at k2
      rw [List.getElem?_map] at k2
      obtain ⟨v, kv, rfl⟩ := Option.map_eq_some_iff.mp k2
      rw [List.getElem?_drop, Nat.add_comm 1 i] at kn
      have lib : i < (bareR ns s).length := by rw [lb]; exact hi
      have rb := RB.all i _ (List.getElem?_eq_getElem lib)
      have e3 : (bareR ns s)[i].nm = n := Option.some.inj (rb.1.symm.trans kn)
      have e4 : ns[v]? = some (bareR ns s)[i].ab := by
        have := rb.2
        rw [List.getD_eq_getElem?_getD, kv] at this
        exact this
      have e5 : (bareR ns s)[i] = ⟨n, (bareR ns s)[i].ab, .non, .non⟩ := by
        have z : (bareR ns s)[i]? = some (bareR ns s)[i] := List.getElem?_eq_getElem lib
        unfold bareR at z
        rw [List.getElem?_zipWith, List.getElem?_drop, Nat.add_comm 1 i, kn, kv] at z
        have z2 := Option.some.inj z
        unfold bareR
        rw [← z2]
      have s6 := sameU (o := .tup [.str n, .int v]) nT
      have s46 := s5.trans s6
      have hD6 := s6 _ _ hD
      refine ⟨T, _, rfl, SqT.of upd_same, rfl, _, _, rfl, _, _, rfl, rfl, rfl, ?_⟩
      refine ⟨.str n, rfl, .ref r, rfl, .int v, rfl, r, _, v, .str (bareR ns s)[i].ab, rfl, rfl, SqL.of (s46 _ _ hr4), strs_at e4, s4, fun T2 nT2 => ?_⟩
      have s7 := sameU (o := .tup [.str n, .str (bareR ns s)[i].ab, .non, .non]) nT2
      have hD7 := s7 _ _ hD6
      refine ⟨_, hD7, ?_, ?_, _, upd_same, ?_⟩
      · rw [hp5.length, List.length_take]
        exact small1000 (Nat.le_trans (Nat.min_le_right _ _) (by omega))
      · intro e o eb
        rw [upd_ne (ne_of_none eb nD)]
        exact s7 _ _ (s46 _ _ eb)
      · rw [List.take_add_one, List.getElem?_eq_getElem lib]
        refine paired_snoc ?_ (paired_mono (fun _ _ z => RowV.lst ((z.same s6).same s7) hD7) hp5)
        refine RowV.lst ⟨T2, rfl, SqT.of ?_⟩ hD7
        rw [upd_same, e5]
    rintro H5 ⟨s5, vs, hD, hp5⟩
    rw [← lb, List.take_length] at hp5
    have s35 := sN.trans s5
    have hd5 := s35 _ _ hd3
    refine ⟨.ref d, rfl, d, _, rfl, DPut.k (k := .inr "rows") hd5 (by show 3 < sizeLine; decide), ?_⟩
    rw [put3]
    have dD : d ≠ D := fun e => by
      rw [e, hD] at hd5
      cases hd5
    have nD3 : H3 D = none := none_of sN nD
    have hP5 := hP3.same s35
    have hDp : D ≠ p := fun e => hP3.some (e ▸ nD3)
    have LB : LoreAt K (upd H5 d (.dK [(.inr "units", .ref u), (.inr "first", .str x), (.inr "rows", .ref D)])) d u D b h x vs (bareR ns s) := by
      refine ⟨upd_same, ?_, ?_, paired_mono (fun _ _ ⟨t, e, ht⟩ => ⟨t, e, sqT_upd ht hd5⟩) hp5⟩
      · exact sqT_upd (sqT_same s35 hU3.1) hd5
      · rw [upd_ne (Ne.symm dD)]
        exact hD
    have s5B : ∀ e o, e ≠ d → H5 e = some o → (upd H5 d (.dK [(.inr "units", .ref u), (.inr "first", .str x), (.inr "rows", .ref D)])) e = some o := fun e o n he => by
      rw [upd_ne n]
      exact he
    have s2B : Same H2 (upd H5 d (.dK [(.inr "units", .ref u), (.inr "first", .str x), (.inr "rows", .ref D)])) := fun e o he => s5B e o (ne_of_none he nd2) (s35 _ _ (s2 _ _ he))
    generalize L2.upd H5 d (.dK [(.inr "units", .ref u), (.inr "first", .str x), (.inr "rows", .ref D)]) = H6 at LB s5B s2B ⊢
    have hP6 := hP2.same s2B
    have hU6 := hU.same s2B
    have hB6 := hB02.trans (But.of s2B)
    have hr6 := s2B _ _ hr2
    have es1 := ends_some (x := x) RB Sh nd
    have es2 := endsL_few (x := x) (rs := bareR ns s)
    -- the counts
    dsimp only
    refine seq_set (cb_in (cons_in ?_))
    refine ⟨.ref d, rfl, d, u, D, b, h, x, vs, bareR ns s, rfl, LB, by omega, fun H7 e7 s7 ne7 he7 => ?_⟩
    have np7 : e7 ≠ p := fun e => hP6.some (e ▸ ne7)
    refine ⟨e7, rfl, ⟨_, SqL.of he7⟩, fun Z nZ => ?_⟩
    have hP7 := hP6.same s7
    have nZp : Z ≠ p := fun e => hP7.some (e ▸ nZ)
    refine lc_it walk_list (fun i H' => But p H7 H' ∧ Pot H' p (c + 22 + i) ∧ ∃ cs : List Int, H' Z = some (.lst (cs.map V.int)) ∧ cs.length = i ∧ ∀ k ∈ cs, 0 ≤ k ∧ k ≤ z) ⟨But.of (sameU nZ), hP7.same (sameU nZ), [], upd_same, rfl, fun _ h => nomatch h⟩ (fun i H' _ h => SqL.of (h.1 _ _ np7 he7)) ?_ ?_
    · rintro i y H8 H9 hi ⟨hB8, hP8, cs, hZ, lc, hcs⟩ ⟨rfl, hk⟩
      rw [List.length_map] at hi
      refine ⟨rfl, .ref p, rfl, .int z, rfl, p, c + 22 + i, z, rfl, hP8, by omega, hz0, by omega, fun H10 k hB10 hP10 k0 k1 => ?_⟩
      have hZ10 := hB10 _ _ nZp hZ
      refine ⟨_, hZ10, ?_, (hB8.trans hB10).offL nZ, hP10.upd (Ne.symm nZp), cs ++ [k], ?_, ?_, ?_⟩
      · rw [List.length_map, lc]
        exact small1000 (by omega)
      · rw [upd_same, List.map_append]
        rfl
      · rw [List.length_append, lc]
        rfl
      · intro k' mk
        rcases List.mem_append.mp mk with mk | mk
        · exact hcs k' mk
        · rw [List.mem_singleton.mp mk]
          exact ⟨k0, by omega⟩
    rintro H8 ⟨hB8, hP8, cs, hZ, lc, hcs⟩
    rw [List.length_map] at lc hP8
    refine ⟨Z, _, rfl, .inl ⟨SqL.of hZ, fun C nC => ?_⟩⟩
    have sC := sameU (o := .tup (cs.map V.int)) nC
    have hC : (upd H8 C (.tup (cs.map V.int))) C = _ := upd_same
    generalize L2.upd H8 C (.tup (cs.map V.int)) = H9 at sC hC ⊢
    have hP9 := hP8.same sC
    have LB9 := ((LB.same s7).pot hP7 hB8 hDp).same sC
    have hB9 := (hB6.trans (But.of s7)).trans (hB8.trans (But.of sC))
    have hr9 := sC _ _ (hB8 _ _ nrp (s7 _ _ hr6))
    have hU9 : Un K H9 u b h := ((hU6.same s7).but hB8 nup).same sC
    have sum0 : ∀ {ks : List Int}, (∀ k ∈ ks, 0 ≤ k) → 0 ≤ ks.sum := by
      intro ks
      induction ks with
      | nil => exact fun _ => Int.le_refl _
      | cons k ks ih =>
        intro hk
        have a1 := hk k List.mem_cons_self
        have a2 := ih fun j mj => hk j (List.mem_cons_of_mem _ mj)
        rw [List.sum_cons]
        omega
    -- one of them at least
    refine seq_setQ (fun v G => ∃ (C : Addr) (cs : List Int), v = .ref C ∧ Same H9 G ∧ SqT K G C (cs.map V.int) ∧ CntOk x (bareR ns s) z cs) (fun Q' hQ => ?_) ?_
    · refine ⟨.ref C, rfl, C, cs, rfl, SqT.of hC, _, _, rfl, rfl, _, rfl, ite2 (fun e => ?_) (fun e => ?_)⟩
      · exact ⟨.ref C, rfl, hQ _ _ ⟨C, cs, rfl, fun _ _ h => h, SqT.of hC, lc, hcs, of_decide_eq_true e⟩⟩
      · refine ⟨by show 1 ≤ sizeLine; decide, fun T1 n1 => ?_⟩
        have s1 := sameU (o := .tup [.int 1]) n1
        have h1T : (upd H9 T1 (.tup [.int 1])) T1 = _ := upd_same
        generalize L2.upd H9 T1 (.tup [.int 1]) = G1 at s1 h1T ⊢
        have lcs : 1 ≤ cs.length := by omega
        have lc9 : cs.length ≤ 10 := by omega
        have big : 20 ≤ sizeLine := by decide
        have kc : CntOk x (bareR ns s) z (1 :: cs.drop 1) := by
          refine ⟨?_, ?_, ?_⟩
          · rw [List.length_cons, List.length_drop]
            omega
          · intro k mk
            rcases List.mem_cons.mp mk with rfl | mk
            · exact ⟨by decide, hz0⟩
            · exact hcs k (List.mem_of_mem_drop mk)
          · rw [List.sum_cons]
            have := sum0 (ks := cs.drop 1) fun k mk => (hcs k (List.mem_of_mem_drop mk)).1
            omega
        refine ⟨.ref C, rfl, 1, rfl, C, _, rfl, SqT.of (s1 _ _ hC), fun hw => ?_, fun _ T2 n2 => ?_⟩
        · exfalso
          have a1 := hw.1
          rw [show HT.sIx (cs.map V.int).length 0 (some (1 : Int)) = min 1 (cs.map V.int).length from HT.sIx_nat (cs.map V.int).length 0 1, List.length_map] at a1
          omega
        · rw [show cutV (cs.map V.int) (some (1 : Int)) none = (cs.drop 1).map V.int by rw [cut_one (by rw [List.length_map]; omega), List.map_drop]]
          have s2' := sameU (o := .tup ((cs.drop 1).map V.int)) n2
          refine ⟨T1, T2, [.int 1], (cs.drop 1).map V.int, rfl, rfl, SqT.of (s2' _ _ h1T), SqT.of upd_same, ?_, (fun e => nomatch e), fun _ e => ?_, fun _ _ T3 n3 => ?_⟩
          · rw [List.length_map, List.length_drop]
            show 1 + _ ≤ _
            omega
          · have e0 : cs.drop 1 = [] := List.map_eq_nil_iff.mp e
            refine hQ _ _ ⟨T1, 1 :: cs.drop 1, rfl, s1.trans s2', ?_, kc⟩
            have hT := s2' _ _ h1T
            rw [e0] at hT ⊢
            exact SqT.of hT
          · exact hQ _ _ ⟨T3, 1 :: cs.drop 1, rfl, (s1.trans s2').trans (sameU n3), SqT.of upd_same, kc⟩
    rintro v G ⟨C, cs, rfl, sG, hC, kc⟩
    have cpos : ∀ k ∈ cs, 0 ≤ k := fun k mk => (kc.nat k mk).1
    have LG := LB9.same sG
    have hPG := hP9.same sG
    have hrG := sG _ _ hr9
    have hUG := hU9.same sG
    have hBG := hB9.trans (But.of sG)
    have csum : cs.sum ≤ 10 * 2 ^ 30 := by
      have z1 : ∀ {ks : List Int}, (∀ k ∈ ks, k ≤ 2 ^ 30) → ks.sum ≤ ks.length * 2 ^ 30 := by
        intro ks
        induction ks with
        | nil => exact fun _ => by simp
        | cons k ks ih =>
          intro hk
          have a1 := hk k List.mem_cons_self
          have a2 := ih fun j mj => hk j (List.mem_cons_of_mem _ mj)
          rw [List.sum_cons, List.length_cons]
          omega
      have z2 := z1 (ks := cs) fun k mk => by
        have := (kc.nat k mk).2
        omega
      have := kc.len
      omega
    have c64 : ∀ k ∈ cs, -(2 ^ 64) < k ∧ k < 2 ^ 64 := fun k mk => by
      have := kc.nat k mk
      omega
    -- the rows with their shares
    refine seq_set (lst_in ⟨by show 0 ≤ sizeLine; decide, fun FL nFL => ?_⟩)
    have sF := sameU (o := .lst []) nFL
    have nFp : FL ≠ p := fun e => hPG.some (e ▸ nFL)
    have hFL : (upd G FL (.lst [])) FL = some (.lst []) := upd_same
    generalize L2.upd G FL (.lst []) = G1 at sF hFL ⊢
    have LG1 := LG.same sF
    refine ⟨.ref d, rfl, d, .ref D, rfl, lore_rows LG1, D, rfl, ⟨_, SqL.of LG1.row⟩, ?_⟩
    have lvs := LG1.all.length
    refine for_it (walk_list (xs := vs)) (fun i σ H' => But p G H' ∧ Pot H' p (c + 40 + 8 * i) ∧ (∃ ws qs, H' FL = some (.lst ws) ∧ Paired (RowV K H') ws qs ∧ qs.map (·.nm) = ((bareR ns s).take i).map (·.nm) ∧ qs.map (·.ab) = ((bareR ns s).take i).map (·.ab) ∧ ∀ q ∈ qs, (ShV b q.sh ∧ ShV b q.fa) ∧ rowR2 h b x (bareR ns s) cs q = true) ∧ ∃ s8 s9 s12 s13 s14 s15 s16, σ = [some (.ref p), some (.ref S), some (.int m), some (.int z), some (.ref r), some (.ref a), some (.ref u), some (.ref d), s8, s9, some (.ref C), some (.ref FL), s12, s13, s14, s15, s16, none]) ⟨But.of sF, ?_, ⟨[], [], hFL, .nil, rfl, rfl, fun _ h => nomatch h⟩, none, none, none, none, none, none, none, rfl⟩ (fun i σ H' _ h => SqL.of (h.1 _ _ hDp LG.row)) ?_ ?_
    · refine (hPG.same sF).mono ?_
      have := kc.len
      omega
    · rintro i y σ H10 H11 hi ⟨hB10, hP10, ⟨ws, qs, hws, hpq, q1, q2, q3⟩, s8, s9, s12, s13, s14, s15, s16, rfl⟩ ⟨rfl, hk⟩
      have LG10 := LG.pot hPG hB10 hDp
      have hC10 := sqT_pot hC hPG hB10
      obtain ⟨rw_, er, t, rfl, ht⟩ := paired_at' LG10.all hk
      have ili : i < (bareR ns s).length := (List.getElem?_eq_some_iff.mp er).1
      refine ⟨t, _, rfl, ht, rfl, _, _, rfl, _, _, rfl, _, _, rfl, _, _, rfl, rfl, ?_⟩
      refine ⟨.ref d, rfl, .ref C, rfl, .str rw_.nm, rfl, d, u, D, C, b, h, x, rw_.nm, vs, bareR ns s, cs, rfl, LG10, by omega, hC10, kc.len, c64, fun H12 s12' => ?_⟩
      refine ⟨.ref d, rfl, .ref C, rfl, .str rw_.ab, rfl, d, u, D, C, b, h, x, rw_.ab, vs, bareR ns s, cs, rfl, LG10.same s12', by omega, sqT_same s12' hC10, kc.len, c64, fun H13 s13' => ?_⟩
      have le1 : numberL x (bareR ns s) cs rw_.nm ≤ numberL x (bareR ns s) cs rw_.ab := number_mono (known_above er fun j r' ej hj => RB.ne Sh nd ej er hj) cpos
      have le2 := number_all (x := x) (rs := bareR ns s) (p := rw_.ab) cpos
      have le3 := number_all (x := x) (rs := bareR ns s) (p := rw_.nm) cpos
      have le4 := number_pos (x := x) (rs := bareR ns s) (p := rw_.nm) cpos
      obtain ⟨mN, eM⟩ := Int.eq_ofNat_of_zero_le le4
      obtain ⟨wN, eW⟩ := Int.eq_ofNat_of_zero_le (Int.le_trans le4 le1)
      obtain ⟨sN, eS⟩ := Int.eq_ofNat_of_zero_le (sum0 cpos)
      rw [eM, eW] at le1
      rw [eW, eS] at le2
      rw [eM, eS] at le3
      rw [eS] at csum
      rw [eM, eW]
      refine ⟨_, _, rfl, ?_⟩
      have s13 := s12'.trans s13'
      have hP13 := hP10.same s13
      have hU13 : Un K H13 u b h := (hUG.but hB10 nup).same s13
      refine ⟨.ref p, rfl, .ref u, rfl, .int mN, rfl, .int wN, rfl, p, u, c + 40 + 8 * i, b, mN, wN, h, rfl, hP13, by omega, nup, hU13, by omega, by omega, fun H14 v14 hB14 hP14 hv14 hr14 => ?_⟩
      refine ⟨_, _, rfl, ?_⟩
      dsimp only
      have hB1014 : But p H11 H14 := (But.of s13).trans hB14
      have hC14 := sqT_pot hC10 hP10 hB1014
      have hU14 := hU13.but hB14 nup
      refine seq_join (fun σ' H' => But p H11 H' ∧ Pot H' p (c + 40 + 8 * i + 7) ∧ ∃ v13 t12 t14 t15, (ShV b v13 ∧ rightV h b v13 mN sN = true) ∧ σ' = [some (.ref p), some (.ref S), some (.int m), some (.int z), some (.ref r), some (.ref a), some (.ref u), some (.ref d), some (.str rw_.nm), some (.str rw_.ab), some (.ref C), some (.ref FL), t12, some v13, t14, t15, some v14, none]) (fun N hN => ?_) ?_
      · refine ⟨.ref p, rfl, p, c + 40 + 8 * i + 3, 4, rfl, hP14, by omega, by omega, by omega, fun H15 k hB15 hP15 _ _ => ?_⟩
        have hU15 := hU14.but hB15 nup
        have hB1015 := hB1014.trans hB15
        refine ⟨rfl, _, rfl, ?_⟩
        refine ite2 (fun e => ?_) (fun e => ?_)
        · refine ⟨.ref p, rfl, .ref u, rfl, .int mN, rfl, .ref C, rfl, C, cs, rfl, sqT_pot hC10 hP10 hB1015, p, u, c + 40 + 8 * i + 4, b, mN, sN, h, by rw [← eS]; rfl, hP15, by omega, nup, hU15, by omega, by omega, fun H16 v16 hB16 hP16 hv16 hr16 => ?_⟩
          exact hN _ _ ⟨hB1015.trans hB16, hP16, v16, _, _, _, ⟨hv16, hr16⟩, rfl⟩
        · exact hN _ _ ⟨hB1015, hP15.mono (by omega), .non, _, _, _, ⟨.inl rfl, right_non⟩, rfl⟩
      rintro σ' H16 ⟨hB16, hP16, v13, t12, t14, t15, ⟨hv13, hr13⟩, rfl⟩
      have hws16 := hB16 _ _ nFp hws
      refine ⟨.ref FL, rfl, .inl ⟨rfl, _, SqL.of hws16⟩, ?_⟩
      refine ⟨.str rw_.nm, rfl, .str rw_.ab, rfl, v14, rfl, v13, rfl, s4, fun T nT => ?_⟩
      have sT := sameU (o := .tup [.str rw_.nm, .str rw_.ab, v14, v13]) nT
      have hwsT := sT _ _ hws16
      have lq := hpq.length
      have lq2 := congrArg List.length q1
      rw [List.length_map, List.length_map, List.length_take] at lq2
      refine ⟨FL, _, _, rfl, rfl, hwsT, ?_, ?_⟩
      · rw [lq]
        exact small1000 (by omega)
      · refine ⟨((hB10.trans hB16).trans (But.of sT)).offL nFL, ((hP16.same sT).upd (Ne.symm nFp)).mono (by omega), ⟨_, qs ++ [⟨rw_.nm, rw_.ab, v14, v13⟩], upd_same, paired_snoc ?_ (paired_mono (fun _ _ z => RowV.lst ((z.pot hP10 hB16).same sT) hwsT) hpq), ?_, ?_, ?_⟩, _, _, _, _, _, _, _, rfl⟩
        · exact RowV.lst ⟨T, rfl, SqT.of upd_same⟩ hwsT
        · rw [List.take_add_one, er, List.map_append, List.map_append, q1]
          rfl
        · rw [List.take_add_one, er, List.map_append, List.map_append, q2]
          rfl
        · intro q mq
          rcases List.mem_append.mp mq with mq | mq
          · exact q3 q mq
          · rw [List.mem_singleton.mp mq]
            refine ⟨⟨hv14, hv13⟩, ?_⟩
            show (rightV h b v14 (numberL x (bareR ns s) cs rw_.nm) (numberL x (bareR ns s) cs rw_.ab) && rightV h b v13 (numberL x (bareR ns s) cs rw_.nm) cs.sum) = true
            rw [eM, eW, eS, hr14, hr13]
            rfl
    rintro σ H10 ⟨hB10, hP10, ⟨ws, qs, hws, hpq, q1, q2, q3⟩, s8, s9, s12, s13, s14, s15, s16, rfl⟩
    rw [lvs, List.take_length] at q1 q2
    have hr10 := hB10 _ _ nrp hrG
    have hU10 := hUG.but hB10 nup
    have hC10 := sqT_pot hC hPG hB10
    dsimp only
    refine ret_in ?_
    refine cons_in ?_
    refine fun d2 n2 => ?_
    have n2p : d2 ≠ p := fun e => hP10.some (e ▸ n2)
    have sD := sameU (o := .dK []) n2
    refine ⟨.ref u, rfl, .ref r, rfl, r, _, 0, .str x, rfl, rfl, SqL.of (sD _ _ hr10), strs_at hx, .ref FL, rfl, upd_same, [(.inr "units", .ref u), (.inr "first", .str x), (.inr "rows", .ref FL)], rfl, (by show 3 ≤ 15; decide), ?_⟩
    rw [merge3, upd_twice]
    have sE := sameU (o := .dK [(.inr "units", .ref u), (.inr "first", .str x), (.inr "rows", .ref FL)]) n2
    have hd2 : (upd H10 d2 (.dK [(.inr "units", .ref u), (.inr "first", .str x), (.inr "rows", .ref FL)])) d2 = _ := upd_same
    generalize L2.upd H10 d2 (.dK [(.inr "units", .ref u), (.inr "first", .str x), (.inr "rows", .ref FL)]) = H11 at sE hd2 ⊢
    refine ⟨.ref C, rfl, by show 2 ≤ sizeLine; decide, fun t nt => ?_⟩
    have sT := sE.trans (sameU (o := .tup [.ref d2, .ref C]) nt)
    have lq2 := congrArg List.length q1
    rw [List.length_map, List.length_map] at lq2
    refine q _ t d2 u FL C b h x ws qs ns s cs ((hBG.trans hB10).trans (But.of sT)) ((hP10.same sT).mono (by omega)) upd_same nFp ⟨(sameU nt) _ _ hd2, sqT_same sT hU10.1, sT _ _ hws, paired_mono (fun _ _ z => z.same sT) hpq⟩ (by have := hU10.2.1; omega) hbm hU10.2.2.2 ms ⟨by omega, fun k r' e => ?_⟩ ln nd hn hx (fun q mq => (q3 q mq).1) (fun q mq => ?_) (sqT_same sT hC10) ⟨?_, kc.nat, kc.some⟩
    · have e1 : (qs.map (·.nm))[k]? = some r'.nm := by rw [List.getElem?_map, e]; rfl
      have e2 : (qs.map (·.ab))[k]? = some r'.ab := by rw [List.getElem?_map, e]; rfl
      rw [q1, List.getElem?_map] at e1
      rw [q2, List.getElem?_map] at e2
      obtain ⟨y1, f1, g1⟩ := Option.map_eq_some_iff.mp e1
      obtain ⟨y2, f2, g2⟩ := Option.map_eq_some_iff.mp e2
      rw [← g1, ← g2]
      exact ⟨(RB.all k y1 f1).1, (RB.all k y2 f2).2⟩
    · have z := (q3 q mq).2
      unfold rowR2 at z
      unfold rowR
      rw [number_nm q1 q2, number_nm q1 q2]
      exact z
    · rw [endsL_nm q1 q2]
      exact kc.len
end
end Uq
namespace Uq
open PySem PySem.Spec PyProof.Rows L2
/-! ### ways up: where they lead -/
section
variable {ls : List Ln}
theorem line_one (nd : (ls.map (·.nm)).Nodup) {l l' : Ln} (h : l ∈ ls) (h' : l' ∈ ls) (e : l.nm = l'.nm) : l = l' := by
  obtain ⟨i, hi, rfl⟩ := List.getElem_of_mem h
  obtain ⟨j, hj, rfl⟩ := List.getElem_of_mem h'
  have z : i = j := by
    refine (List.getElem_inj (h₀ := by rw [List.length_map]; exact hi) (h₁ := by rw [List.length_map]; exact hj) nd).mp ?_
    rw [List.getElem_map, List.getElem_map, e]
  subst z
  rfl
theorem way_head {p : Str} {w : List Str} (h : Way ls p w) : p ∈ w := by
  cases h <;> exact List.mem_cons_self
theorem way_unique (nd : (ls.map (·.nm)).Nodup) {p : Str} {w : List Str} (h : Way ls p w) : ∀ {w'}, Way ls p w' → w = w' := by
  induction h with
  | @top l a b =>
    intro w' h'
    generalize e : l.nm = q at h'
    cases h' with
    | @top l' a' b' => rfl
    | @up l' q' w1 a' b' c' =>
      have z := line_one nd a a' e
      rw [← z, b] at b'
      cases b'
  | @up l q w1 a b c ih =>
    intro w' h'
    generalize e : l.nm = n at h'
    cases h' with
    | @top l' a' b' =>
      have z := line_one nd a a' e
      rw [← z, b] at b'
      cases b'
    | @up l' q' w1' a' b' c' =>
      have z := line_one nd a a' e
      rw [← z, b] at b'
      cases b'
      rw [ih c']
end
/-! ### a right page: what is beneath, and the ends -/
structure Wys (x : Str) (rs : List Rw) (W : Str → List Str) : Prop where
  way : ∀ l ∈ linesOf x rs, Way (linesOf x rs) l.nm (W l.nm) ∧ (W l.nm).length ≤ 4
theorem wys_some {b : Nat} {x : Str} {rs : List Rw} (g : Good b x rs) : ∃ W, Wys x rs W := by
  have z : ∀ n : Str, ∃ w, ∀ l ∈ linesOf x rs, l.nm = n → Way (linesOf x rs) n w ∧ w.length ≤ 4 := fun n => by
    by_cases h : ∃ l ∈ linesOf x rs, l.nm = n
    · obtain ⟨l, hl, rfl⟩ := h
      obtain ⟨w, hw⟩ := good_way g l hl
      exact ⟨w, fun _ _ _ => hw⟩
    · exact ⟨[], fun l hl e => absurd ⟨l, hl, e⟩ h⟩
  exact ⟨fun n => Classical.choose (z n), ⟨fun l hl => Classical.choose_spec (z l.nm) l hl rfl⟩⟩
theorem isEnd_iff {ls : List Ln} {l : Ln} : isEnd ls l = true ↔ ∀ l' ∈ ls, l'.ab ≠ .str l.nm := by
  unfold isEnd
  rw [Bool.not_eq_true', Bool.eq_false_iff]
  unfold inV wholes
  rw [Ne, List.any_eq_true]
  constructor
  · intro h l' hl' e
    refine h ⟨l'.ab, List.mem_map.mpr ⟨l', hl', rfl⟩, ?_⟩
    rw [e]
    exact beq_self_eq_true l.nm
  · rintro h ⟨v, m, e⟩
    obtain ⟨l', hl', rfl⟩ := List.mem_map.mp m
    refine h l' hl' ?_
    revert e
    cases l'.ab <;> intro e <;> first | exact congrArg V.str (eq_of_beq e) | exact nomatch e
theorem mem_ends {ls : List Ln} {p : Str} : p ∈ ends ls ↔ ∃ l ∈ ls, l.nm = p ∧ ∀ l' ∈ ls, l'.ab ≠ .str p := by
  unfold ends
  rw [List.mem_map]
  constructor
  · rintro ⟨l, m, rfl⟩
    obtain ⟨hl, he⟩ := List.mem_filter.mp m
    exact ⟨l, hl, rfl, isEnd_iff.mp he⟩
  · rintro ⟨l, hl, rfl, he⟩
    exact ⟨l, List.mem_filter.mpr ⟨hl, isEnd_iff.mpr he⟩, rfl⟩
section
variable {b : Nat} {h x : Str} {rs : List Rw} {W : Str → List Str}
def endsOf (x : Str) (rs : List Rw) (W : Str → List Str) (p : Str) : List Str := (ends (linesOf x rs)).filter (onWay W p)
theorem Wys.at_ (Y : Wys x rs W) {p : Str} (h : p ∈ (linesOf x rs).map (·.nm)) : Way (linesOf x rs) p (W p) := by
  obtain ⟨l, hl, rfl⟩ := List.mem_map.mp h
  exact (Y.way l hl).1
theorem ends_sub {p : Str} (h : p ∈ ends (linesOf x rs)) : p ∈ (linesOf x rs).map (·.nm) := by
  obtain ⟨l, hl, e, _⟩ := mem_ends.mp h
  exact List.mem_map.mpr ⟨l, hl, e⟩
theorem Wys.ends (Y : Wys x rs W) : ∀ q ∈ Uq.ends (linesOf x rs), Way (linesOf x rs) q (W q) ∧ (W q).length ≤ 4 := fun q m => by
  obtain ⟨l, hl, rfl⟩ := List.mem_map.mp (ends_sub m)
  exact Y.way l hl
/-- where a part stands -/
theorem nm_at {k : Nat} {r : Rw} (e : rs[k]? = some r) : ((linesOf x rs).map (·.nm))[k + 1]? = some r.nm := by
  unfold linesOf
  rw [List.map_cons, List.getElem?_cons_succ, List.map_map, List.getElem?_map, e]
  rfl
theorem above_at (g : Good b x rs) {k : Nat} {r : Rw} (e : rs[k]? = some r) : ∃ j, j ≤ k ∧ ((linesOf x rs).map (·.nm))[j]? = some r.ab := by
  obtain ⟨j, lj, ej⟩ := List.getElem_of_mem (g k r e).abo
  have lj2 := lj
  rw [List.length_map, linesOf_len, List.length_take] at lj2
  refine ⟨j, by omega, ?_⟩
  have z : ((linesOf x (rs.take k)).map (·.nm))[j]? = some r.ab := by rw [List.getElem?_eq_getElem lj, ej]
  unfold linesOf at z ⊢
  rw [List.map_cons, List.map_map] at z ⊢
  cases j with
  | zero => exact z
  | succ j =>
    rw [List.getElem?_cons_succ, List.getElem?_map, List.getElem?_take, if_pos (by omega)] at z
    rw [List.getElem?_cons_succ, List.getElem?_map]
    exact z
theorem last_end (P : Pg b h x rs) : 1 ≤ (ends (linesOf x rs)).length ∧ (ends (linesOf x rs)).length ≤ 6 := by
  have g := P.good
  have l0 : 0 < rs.length := List.length_pos_iff.mpr P.some
  have e : rs[rs.length - 1]? = some rs[rs.length - 1] := List.getElem?_eq_getElem (by omega)
  constructor
  · refine List.length_pos_of_mem (a := rs[rs.length - 1].nm) (mem_ends.mpr ⟨lnOf rs[rs.length - 1], List.mem_cons_of_mem _ (List.mem_map.mpr ⟨_, List.getElem_mem _, rfl⟩), rfl, fun l hl ha => ?_⟩)
    rcases List.mem_cons.mp hl with z | z
    · rw [z] at ha
      cases ha
    · obtain ⟨r, mr, rfl⟩ := List.mem_map.mp z
      obtain ⟨k, lk, ek⟩ := List.getElem_of_mem mr
      obtain ⟨j, hj, ej⟩ := above_at g (k := k) (r := r) (by rw [← ek]; exact List.getElem?_eq_getElem lk)
      have c : r.ab = rs[rs.length - 1].nm := V.str.inj ha
      rw [c] at ej
      have := nodup_at (nodup_lines g) ej (nm_at e)
      omega
  · have z := (g _ _ e).end_
    rw [← lines_take e, List.take_of_length_le (by omega)] at z
    exact z
end
end Uq
namespace Uq
open PySem PySem.Spec PyProof.Rows L2
open TL
/-! ### rows by their shares alone -/
def sW : V → Str
  | .str s => s
  | .int i => Str.ofString (toString i)
  | _ => ""
def canM (sh fa : V) : List Str := (if sh = .non then ([] : List Str) else [Str.ofString "is"]) ++ (if fa = .non then ([] : List Str) else [Str.ofString "all"])
def canW (sh fa : V) : List Str := (if sh = .non then [] else [sW sh]) ++ (if fa = .non then [] else [sW fa])
def canX (sh fa : V) : List V := (if sh = .non then [] else [sh]) ++ (if fa = .non then [] else [fa])
def mkR (q : R4) : Rw := ⟨q.nm, q.ab, q.sh, q.fa, canM q.sh q.fa, canW q.sh q.fa, canX q.sh q.fa⟩
theorem shw_word {b : Nat} {v : V} {w : Str} (h : Shw b v w) : sW v = w ∧ v ≠ .non := by
  cases h <;> exact ⟨rfl, fun z => nomatch z⟩
theorem opts_can {b : Nat} {v u : V} (hv : ShV b v) (hu : ShV b u) : Opts b v u (canM v u) (canW v u) (canX v u) := by
  unfold canM canW canX
  rcases hv with rfl | ⟨w, hw⟩
  · rcases hu with rfl | ⟨y, hy⟩
    · exact .none
    · have a := shw_word hy
      rw [if_neg a.2, if_neg a.2, if_neg a.2, a.1]
      exact .fa hy
  · have c := shw_word hw
    rcases hu with rfl | ⟨y, hy⟩
    · rw [if_neg c.2, if_neg c.2, if_neg c.2, c.1]
      exact .sh hw
    · have a := shw_word hy
      rw [if_neg c.2, if_neg c.2, if_neg c.2, c.1, if_neg a.2, if_neg a.2, if_neg a.2, a.1]
      exact .both hw hy
/-! ### other shares, the same page beside -/
def sameRows (qs qs' : List R4) : Prop := qs'.map (·.nm) = qs.map (·.nm) ∧ qs'.map (·.ab) = qs.map (·.ab)
theorem sameRows.len {qs qs' : List R4} (e : sameRows qs qs') : qs'.length = qs.length := by
  have := congrArg List.length e.1
  rwa [List.length_map, List.length_map] at this
theorem sameRows.at_ {qs qs' : List R4} (e : sameRows qs qs') {k : Nat} {r' : R4} (h : qs'[k]? = some r') : ∃ r, qs[k]? = some r ∧ r.nm = r'.nm ∧ r.ab = r'.ab := by
  have l := e.len
  obtain ⟨lk, ek⟩ := List.getElem?_eq_some_iff.mp h
  have lk2 : k < qs.length := by omega
  have a := congrArg (·[k]?) e.1
  have c := congrArg (·[k]?) e.2
  simp only [List.getElem?_map] at a c
  rw [h, List.getElem?_eq_getElem lk2] at a c
  exact ⟨qs[k], List.getElem?_eq_getElem lk2, (Option.some.inj a).symm, (Option.some.inj c).symm⟩
theorem sameRows.symm {qs qs' : List R4} (e : sameRows qs qs') : sameRows qs' qs := ⟨e.1.symm, e.2.symm⟩
theorem sameRows.take {qs qs' : List R4} (e : sameRows qs qs') (k : Nat) : sameRows (qs.take k) (qs'.take k) := ⟨by rw [List.map_take, List.map_take, e.1], by rw [List.map_take, List.map_take, e.2]⟩
theorem lines_nm (x : Str) (qs : List R4) : (linesOf x (qs.map mkR)).map (·.nm) = x :: qs.map (·.nm) := by
  unfold linesOf
  rw [List.map_cons, List.map_map, List.map_map]
  rfl
theorem lines_ab (x : Str) (qs : List R4) : (linesOf x (qs.map mkR)).map (·.ab) = .non :: (qs.map (·.ab)).map V.str := by
  unfold linesOf
  rw [List.map_cons, List.map_map, List.map_map, List.map_map]
  rfl
theorem sameRows.line {x : Str} {qs qs' : List R4} (e : sameRows qs qs') : ∀ l ∈ linesOf x (qs.map mkR), ∃ l' ∈ linesOf x (qs'.map mkR), l'.nm = l.nm ∧ l'.ab = l.ab := by
  intro l hl
  rcases List.mem_cons.mp hl with z | z
  · exact ⟨top x, List.mem_cons_self, by rw [z]; exact ⟨rfl, rfl⟩⟩
  · obtain ⟨r, mr, rfl⟩ := List.mem_map.mp z
    obtain ⟨q, mq, rfl⟩ := List.mem_map.mp mr
    obtain ⟨k, lk, ek⟩ := List.getElem_of_mem mq
    obtain ⟨q', e', n, a⟩ := e.symm.at_ (k := k) (r' := q) (by rw [← ek]; exact List.getElem?_eq_getElem lk)
    refine ⟨lnOf (mkR q'), List.mem_cons_of_mem _ (List.mem_map.mpr ⟨mkR q', List.mem_map.mpr ⟨q', List.mem_of_getElem? e', rfl⟩, rfl⟩), n, ?_⟩
    show V.str q'.ab = V.str q.ab
    rw [a]
theorem way_same {ls ls' : List Ln} (m : ∀ l ∈ ls, ∃ l' ∈ ls', l'.nm = l.nm ∧ l'.ab = l.ab) {p : Str} {w : List Str} (h : Way ls p w) : Way ls' p w := by
  induction h with
  | top a b =>
    obtain ⟨l', h', n, ab⟩ := m _ a
    rw [← n]
    exact .top h' (by rw [ab, b])
  | up a b _ i =>
    obtain ⟨l', h', n, ab⟩ := m _ a
    rw [← n]
    exact .up h' (by rw [ab, b]) i
theorem isEnd_nm {ls ls' : List Ln} (e : ls'.map (·.ab) = ls.map (·.ab)) {l l' : Ln} (n : l'.nm = l.nm) : isEnd ls' l' = isEnd ls l := by
  unfold isEnd wholes
  rw [n, e]
theorem ends_same {ls ls' : List Ln} (e1 : ls'.map (·.nm) = ls.map (·.nm)) (e2 : ls'.map (·.ab) = ls.map (·.ab)) : ends ls' = ends ls := by
  have key : ∀ (A B : List Ln), A.map (·.nm) = B.map (·.nm) → (A.filter (isEnd ls')).map (·.nm) = (B.filter (isEnd ls)).map (·.nm) := by
    intro A
    induction A with
    | nil =>
      intro B h
      cases B with
      | nil => rfl
      | cons _ _ => cases h
    | cons a A ih =>
      intro B h
      cases B with
      | nil => cases h
      | cons b B =>
        rw [List.map_cons, List.map_cons] at h
        injection h with h1 h2
        have z := isEnd_nm e2 h1
        by_cases k : isEnd ls b = true
        · rw [List.filter_cons_of_pos k, List.filter_cons_of_pos (z.trans k), List.map_cons, List.map_cons, ih B h2, h1]
        · rw [List.filter_cons_of_neg k, List.filter_cons_of_neg (fun y => k (z.symm.trans y)), ih B h2]
  exact key _ _ e1
theorem pg_same {b : Nat} {h x : Str} {qs qs' : List R4} (P : Pg b h x (qs.map mkR)) (e : sameRows qs qs') (hs : ∀ q ∈ qs', ShV b q.sh ∧ ShV b q.fa) : Pg b h x (qs'.map mkR) := by
  refine ⟨P.b0, P.b1, P.how, P.nam, ?_, ?_, ?_⟩
  · intro k r hk
    rw [List.getElem?_map] at hk
    obtain ⟨q', hq', rfl⟩ := Option.map_eq_some_iff.mp hk
    obtain ⟨q, hq, n, a⟩ := e.at_ hq'
    have g := P.good k (mkR q) (by rw [List.getElem?_map, hq]; rfl)
    have et := e.take k
    rw [← List.map_take] at g ⊢
    have nn : (linesOf x ((qs'.take k).map mkR)).map (·.nm) = (linesOf x ((qs.take k).map mkR)).map (·.nm) := by rw [lines_nm, lines_nm, et.1]
    have aa : (linesOf x ((qs'.take k).map mkR)).map (·.ab) = (linesOf x ((qs.take k).map mkR)).map (·.ab) := by rw [lines_ab, lines_ab, et.2]
    have o := hs q' (List.mem_of_getElem? hq')
    refine ⟨opts_can o.1 o.2, by show Nm q'.nm; rw [← n]; exact g.nam, ?_, ?_, ?_, ?_, ?_⟩
    · rw [nn]
      show q'.nm ∉ _
      rw [← n]
      exact g.new
    · rw [nn]
      show q'.ab ∈ _
      rw [← a]
      exact g.abo
    · have z := congrArg List.length nn
      rw [List.length_map, List.length_map] at z
      rw [z]
      exact g.few
    · rw [ends_same (ls := linesOf x ((qs.take k).map mkR) ++ [lnOf (mkR q)]) (by rw [List.map_append, List.map_append, nn]; show _ ++ [q'.nm] = _ ++ [q.nm]; rw [n]) (by rw [List.map_append, List.map_append, aa]; show _ ++ [V.str q'.ab] = _ ++ [V.str q.ab]; rw [a])]
      exact g.end_
    · obtain ⟨w, hw, lw⟩ := g.way
      refine ⟨w, ?_, lw⟩
      show Way _ q'.nm w
      rw [← n]
      refine way_same (fun l hl => ?_) hw
      rcases List.mem_append.mp hl with z | z
      · obtain ⟨l', h', y⟩ := et.line l z
        exact ⟨l', List.mem_append_left _ h', y⟩
      · rw [List.mem_singleton.mp z]
        refine ⟨lnOf (mkR q'), List.mem_append_right _ List.mem_cons_self, n.symm, ?_⟩
        show V.str q'.ab = V.str q.ab
        rw [a]
  · intro z
    have y := e.len
    rw [List.map_eq_nil_iff] at z
    rw [z] at y
    exact P.some (by rw [List.map_eq_nil_iff]; exact List.length_eq_zero_iff.mp y.symm)
  · intro ws m w mw
    unfold pageW at m
    rcases List.mem_cons.mp m with z | m
    · exact P.wds ws (by unfold pageW; rw [z]; exact List.mem_cons_self) w mw
    · rcases List.mem_cons.mp m with z | m
      · exact P.wds ws (by unfold pageW; rw [z]; exact List.mem_cons_of_mem _ List.mem_cons_self) w mw
      · obtain ⟨r, mr, rfl⟩ := List.mem_map.mp m
        obtain ⟨q', mq', rfl⟩ := List.mem_map.mp mr
        obtain ⟨k, lk, ek⟩ := List.getElem_of_mem mq'
        obtain ⟨q, hq, n, a⟩ := e.at_ (k := k) (r' := q') (by rw [← ek]; exact List.getElem?_eq_getElem lk)
        have o := hs q' mq'
        have old := P.wds (rowW (mkR q)) (by unfold pageW; exact List.mem_cons_of_mem _ (List.mem_cons_of_mem _ (List.mem_map.mpr ⟨mkR q, List.mem_map.mpr ⟨q, List.mem_of_getElem? hq, rfl⟩, rfl⟩)))
        refine wd_line (opts_can o.1 o.2) P.b1 ?_ ?_ w mw
        · show Wd q'.nm
          rw [← n]
          exact old _ (List.mem_cons_of_mem _ List.mem_cons_self)
        · show Wd q'.ab
          rw [← a]
          exact old _ (List.mem_cons_of_mem _ (List.mem_cons_of_mem _ (List.mem_cons_of_mem _ List.mem_cons_self)))
end Uq
namespace Uq
open PySem PySem.Spec PyProof.Rows L2
open TL
/-! ### how long a page's text is when it is written out -/
def Asc (s : Str) : Prop := ∀ c ∈ tl s, c < 128
theorem asc_nm {s : Str} (h : Nm s) : Asc s := fun c m => by
  have a := h.asc
  unfold Txt.isascii at a
  rw [Array.all_eq_true] at a
  obtain ⟨i, hi, e⟩ := List.getElem_of_mem m
  have z := a i (by rwa [Array.length_toList] at hi)
  rw [← e]
  exact of_decide_eq_true z
theorem asc_how {s : Str} (h : How s) : Asc s := by
  rcases h with rfl | rfl | rfl | rfl <;> (unfold Asc; decide +kernel)
theorem asc_num {n : Nat} (h : n ≤ 100) : Asc (nS n) := by
  have z : ∀ n : Fin 101, ∀ c ∈ tl (nS n), c < 128 := by decide +kernel
  exact z ⟨n, by omega⟩
theorem asc_shw {b : Nat} {v : V} {s : Str} (h : Shw b v s) (hb : b ≤ 100) : Asc s := by
  cases h with
  | none => unfold Asc; decide +kernel
  | some => unfold Asc; decide +kernel
  | num n h => exact asc_num (by omega)
theorem asc_lit {s : Str} (h : (tl s).all (fun c => decide (c < 128)) = true) : Asc s := fun c m => of_decide_eq_true (List.all_eq_true.mp h c m)
theorem asc_opts {b : Nat} {v u : V} {ms ws : List Str} {xs : List V} (h : Opts b v u ms ws xs) (hb : b ≤ 100) : ∀ w ∈ weave ms ws, Asc w := by
  have i1 : Asc "is" := asc_lit (by decide +kernel)
  have i2 : Asc "all" := asc_lit (by decide +kernel)
  cases h with
  | none => exact fun w m => nomatch m
  | sh s =>
    intro w m
    simp only [weave, List.mem_cons, List.not_mem_nil, or_false] at m
    rcases m with rfl | rfl
    · exact i1
    · exact asc_shw s hb
  | fa s =>
    intro w m
    simp only [weave, List.mem_cons, List.not_mem_nil, or_false] at m
    rcases m with rfl | rfl
    · exact i2
    · exact asc_shw s hb
  | both s s2 =>
    intro w m
    simp only [weave, List.mem_cons, List.not_mem_nil, or_false] at m
    rcases m with rfl | rfl | rfl | rfl
    · exact i1
    · exact asc_shw s hb
    · exact i2
    · exact asc_shw s2 hb
theorem names_nm {b : Nat} {h x : Str} {rs : List Rw} (P : Pg b h x rs) : ∀ n ∈ (linesOf x rs).map (·.nm), Nm n := by
  intro n m
  obtain ⟨l, hl, rfl⟩ := List.mem_map.mp m
  rcases List.mem_cons.mp hl with z | z
  · rw [z]
    exact P.nam
  · obtain ⟨r, mr, rfl⟩ := List.mem_map.mp z
    obtain ⟨k, lk, ek⟩ := List.getElem_of_mem mr
    exact (P.good k r (by rw [← ek]; exact List.getElem?_eq_getElem lk)).nam
theorem asc_page {b : Nat} {h x : Str} {rs : List Rw} (P : Pg b h x rs) : ∀ ws ∈ pageW b h x rs, (∀ w ∈ ws, Asc w) ∧ ws.length ≤ 8 := by
  intro ws m
  unfold pageW at m
  rcases List.mem_cons.mp m with rfl | m
  · refine ⟨fun w mw => ?_, by simp only [List.length_cons, List.length_nil]; omega⟩
    simp only [List.mem_cons, List.not_mem_nil, or_false] at mw
    rcases mw with rfl | rfl | rfl
    · exact asc_lit (by decide +kernel)
    · exact asc_num P.b1
    · exact asc_how P.how
  rcases List.mem_cons.mp m with rfl | m
  · refine ⟨fun w mw => ?_, by simp only [List.length_cons, List.length_nil]; omega⟩
    simp only [List.mem_cons, List.not_mem_nil, or_false] at mw
    rcases mw with rfl | rfl
    · exact asc_lit (by decide +kernel)
    · exact asc_nm P.nam
  obtain ⟨r, mr, rfl⟩ := List.mem_map.mp m
  obtain ⟨k, lk, ek⟩ := List.getElem_of_mem mr
  have g := P.good k r (by rw [← ek]; exact List.getElem?_eq_getElem lk)
  have o := opts_weave g.opts
  refine ⟨fun w mw => ?_, by unfold rowW lineW; simp only [List.length_cons]; omega⟩
  unfold rowW lineW at mw
  simp only [List.mem_cons] at mw
  rcases mw with rfl | rfl | rfl | rfl | mw
  · exact asc_lit (by decide +kernel)
  · exact asc_nm g.nam
  · exact asc_lit (by decide +kernel)
  · refine asc_nm (names_nm P _ ?_)
    have z := g.abo
    obtain ⟨l, hl, e⟩ := List.mem_map.mp z
    refine List.mem_map.mpr ⟨l, ?_, e⟩
    rcases List.mem_cons.mp hl with y | y
    · rw [y]
      exact List.mem_cons_self
    · obtain ⟨r', mr', e'⟩ := List.mem_map.mp y
      exact List.mem_cons_of_mem _ (List.mem_map.mpr ⟨r', List.mem_of_mem_take mr', e'⟩)
  · exact asc_opts g.opts P.b1 w mw
/-! ### data that may be written out -/
structure OkD (d : PyData) (k n : Nat) : Prop where
  sho : d.showable = true
  dic : d.hasDict = false
  dep : d.depth ≤ k
  lea : d.leavesShort 13 = true
  bul : d.bulk ≤ n
theorem OkD.shown {d : PyData} {k n : Nat} (h : OkD d k n) (hk : k ≤ 60) (hn : n ≤ 2 ^ 20) : d.showable = true ∧ d.hasDict = false ∧ d.depth ≤ 60 ∧ d.shown.length ≤ sizeLine :=
  ⟨h.sho, h.dic, Nat.le_trans h.dep hk, PyData.shown_fits_bulk (B := 13) (by decide) (by decide) h.lea (Nat.le_trans h.bul hn)⟩
theorem okd_non : OkD .none 0 0 := ⟨rfl, rfl, Nat.le_refl _, rfl, Nat.le_refl _⟩
theorem okd_bool (b : Bool) : OkD (.bool b) 0 0 := ⟨rfl, rfl, Nat.le_refl _, rfl, Nat.le_refl _⟩
theorem okd_all {k m : Nat} : ∀ {ds : List PyData}, (∀ d ∈ ds, OkD d k m) → PyData.showableAll ds = true ∧ PyData.hasDictAll ds = false ∧ PyData.depthAll ds ≤ k ∧ PyData.leavesShortAll 13 ds = true ∧ PyData.bulkAll ds ≤ (m + 1) * ds.length
  | [], _ => ⟨rfl, rfl, Nat.zero_le _, rfl, Nat.zero_le _⟩
  | d :: ds, h => by
    have a := h d List.mem_cons_self
    obtain ⟨b1, b2, b3, b4, b5⟩ := okd_all (ds := ds) fun e me => h e (List.mem_cons_of_mem _ me)
    refine ⟨?_, ?_, ?_, ?_, ?_⟩
    · rw [PyData.showableAll, a.sho, b1]; rfl
    · rw [PyData.hasDictAll, a.dic, b2]; rfl
    · rw [PyData.depthAll]; exact Nat.max_le.mpr ⟨a.dep, b3⟩
    · rw [PyData.leavesShortAll, a.lea, b4]; rfl
    · rw [PyData.bulkAll, List.length_cons, Nat.mul_add, Nat.mul_one]
      have := a.bul
      omega
theorem okd_tup {k m : Nat} {ds : List PyData} (h : ∀ d ∈ ds, OkD d k m) : OkD (.tuple ds) (k + 1) ((m + 1) * ds.length) := by
  obtain ⟨b1, b2, b3, b4, b5⟩ := okd_all h
  exact ⟨by rw [PyData.showable]; exact b1, by rw [PyData.hasDict]; exact b2, by rw [PyData.depth]; omega, by rw [PyData.leavesShort]; exact b4, by rw [PyData.bulk]; exact b5⟩
theorem OkD.mono {d : PyData} {k n k' n' : Nat} (h : OkD d k n) (a : k ≤ k') (b : n ≤ n') : OkD d k' n' := ⟨h.sho, h.dic, Nat.le_trans h.dep a, h.lea, Nat.le_trans h.bul b⟩
end Uq
namespace Uq
open PySem PySem.Spec PyProof.Rows L2
/-! ### a lore and its page tell the same -/
theorem partsL_names (x : Str) (qs : List R4) : partsL x qs = (linesOf x (qs.map mkR)).map (·.nm) := (lines_nm x qs).symm
theorem endsL_ends (x : Str) (qs : List R4) : endsL x qs = ends (linesOf x (qs.map mkR)) := by
  unfold endsL ends
  rw [partsL_names, List.filter_map]
  congr 1
  refine List.filter_congr fun l _ => ?_
  show inWholes qs l.nm = isEnd _ l
  unfold inWholes isEnd
  have e : wholes (linesOf x (qs.map mkR)) = V.non :: qs.map fun r => V.str r.ab := by
    show (linesOf x (qs.map mkR)).map (·.ab) = _
    rw [lines_ab, List.map_map]
    rfl
  rw [e]
  rfl
section
variable {b : Nat} {h x : Str} {qs : List R4} {W : Str → List Str}
theorem mem_known {p : Str} (P : Pg b h x (qs.map mkR)) (Y : Wys x (qs.map mkR) W) (hp : p ∈ (linesOf x (qs.map mkR)).map (·.nm)) : ∀ i, i ≤ qs.length → ∀ n, n ∈ knownL p (qs.take i) ↔ n = p ∨ (n ∈ (qs.take i).map (·.nm) ∧ p ∈ W n) := by
  have nd := nodup_lines P.good
  intro i
  induction i with
  | zero =>
    intro _ n
    rw [List.take_zero]
    show n ∈ [p] ↔ _
    rw [List.mem_singleton]
    exact ⟨.inl, fun z => z.elim id fun y => nomatch y.1⟩
  | succ i ih =>
    intro hi n
    have ih := ih (by omega)
    have er : qs[i]? = some qs[i] := List.getElem?_eq_getElem (by omega)
    generalize qs[i] = r at er
    rw [knownL_take er, List.take_add_one, er, List.map_append]
    show n ∈ knowStep _ r ↔ n = p ∨ (n ∈ _ ++ [r.nm] ∧ p ∈ W n)
    have lr : lnOf (mkR r) ∈ linesOf x (qs.map mkR) := List.mem_cons_of_mem _ (List.mem_map.mpr ⟨mkR r, List.mem_map.mpr ⟨r, List.mem_of_getElem? er, rfl⟩, rfl⟩)
    have g := P.good i (mkR r) (by rw [List.getElem?_map, er]; rfl)
    -- the part above
    have ab : r.ab = x ∨ r.ab ∈ (qs.take i).map (·.nm) := by
      obtain ⟨l, hl, e⟩ := List.mem_map.mp g.abo
      rcases List.mem_cons.mp hl with z | z
      · exact .inl (by rw [← show l.nm = r.ab from e, z]; rfl)
      · obtain ⟨r', m', e'⟩ := List.mem_map.mp z
        rw [← List.map_take] at m'
        obtain ⟨q', mq, rfl⟩ := List.mem_map.mp m'
        exact .inr (List.mem_map.mpr ⟨q', mq, by rw [← show l.nm = r.ab from e, ← e']; rfl⟩)
    have abN : r.ab ∈ (linesOf x (qs.map mkR)).map (·.nm) := by
      rw [lines_nm]
      rcases ab with z | z
      · rw [z]
        exact List.mem_cons_self
      · obtain ⟨q', mq, e⟩ := List.mem_map.mp z
        exact List.mem_cons_of_mem _ (List.mem_map.mpr ⟨q', List.mem_of_mem_take mq, e⟩)
    have wr : W r.nm = r.nm :: W r.ab := way_unique nd (Y.way _ lr).1 (.up lr rfl (Y.at_ abN))
    have wx : W x = [x] := way_unique nd (Y.at_ (List.mem_cons_self)) (.top List.mem_cons_self rfl)
    have kn : knowsS (knownL p (qs.take i)) r.ab = true ↔ p ∈ W r.ab := by
      rw [knowsS_iff, ih]
      constructor
      · rintro (z | ⟨_, z⟩)
        · rw [z]
          exact way_head (Y.at_ hp)
        · exact z
      · intro z
        rcases ab with y | y
        · rw [y, wx, List.mem_singleton] at z
          exact .inl (by rw [y, z])
        · exact .inr ⟨y, z⟩
    have new : r.nm ∉ (qs.take i).map (·.nm) := fun m => by
      refine g.new ?_
      rw [← List.map_take, lines_nm]
      exact List.mem_cons_of_mem _ m
    unfold knowStep
    by_cases e : knowsS (knownL p (qs.take i)) r.ab = true
    · rw [if_pos e, List.mem_append, List.mem_singleton, ih, List.mem_append, List.mem_singleton]
      have e' := kn.mp e
      constructor
      · rintro ((z | ⟨z, y⟩) | z)
        · exact .inl z
        · exact .inr ⟨.inl z, y⟩
        · exact .inr ⟨.inr z, by rw [z, wr]; exact List.mem_cons_of_mem _ e'⟩
      · rintro (z | ⟨z | z, y⟩)
        · exact .inl (.inl z)
        · exact .inl (.inr ⟨z, y⟩)
        · exact .inr z
    · rw [if_neg e, ih, List.mem_append, List.mem_singleton]
      have e' : p ∉ W r.ab := fun z => e (kn.mpr z)
      constructor
      · rintro (z | ⟨z, y⟩)
        · exact .inl z
        · exact .inr ⟨.inl z, y⟩
      · rintro (z | ⟨z | z, y⟩)
        · exact .inl z
        · exact .inr ⟨z, y⟩
        · rw [z, wr] at y
          rcases List.mem_cons.mp y with y | y
          · exact .inl (by rw [z, y])
          · exact absurd y e'
theorem endsOf_same {p : Str} (P : Pg b h x (qs.map mkR)) (Y : Wys x (qs.map mkR) W) (hp : p ∈ (linesOf x (qs.map mkR)).map (·.nm)) : endsOfL x qs p = endsOf x (qs.map mkR) W p := by
  have nd := nodup_lines P.good
  unfold endsOfL endsOf
  rw [endsL_ends]
  refine List.filter_congr fun e me => ?_
  have k := mem_known P Y hp qs.length (Nat.le_refl _) e
  rw [List.take_length] at k
  have wx : W x = [x] := way_unique nd (Y.at_ (List.mem_cons_self)) (.top List.mem_cons_self rfl)
  have mN := ends_sub me
  rw [lines_nm] at mN
  rw [Bool.eq_iff_iff, knowsS_iff, onWay_iff, k]
  constructor
  · rintro (z | ⟨_, z⟩)
    · rw [z]
      exact way_head (Y.at_ hp)
    · exact z
  · intro z
    rcases List.mem_cons.mp mN with y | y
    · rw [y, wx, List.mem_singleton] at z
      exact .inl (by rw [y, z])
    · exact .inr ⟨y, z⟩
end
end Uq
namespace Uq
open PySem PySem.Spec PyProof.Rows L2
/-! ### shown, right shares, counts -/
/-- how many are in a part -/
def manyL (x : Str) (rs : List Rw) (W : Str → List Str) (cs : List Int) (p : Str) : Int := (((ends (linesOf x rs)).zip cs).filterMap fun ec => if onWay W p ec.1 = true then some ec.2 else none).sum
def sp_many_in (K : PySem.W.Frag) (C : Addr) : Sp := fun vs H Q _ => ∃ (b : Nat) (h x : Str) (rs : List Rw) (a dx u d e T : Addr) (cs : List Int) (p : Str) (W : Str → List Str), vs = [.ref a, .ref T, .str p] ∧ PgO K C b h x rs H a dx u d e ∧ Pg b h x rs ∧ (∀ q ∈ ends (linesOf x rs), Way (linesOf x rs) q (W q) ∧ (W q).length ≤ 4) ∧ p ∈ (linesOf x rs).map (·.nm) ∧ SqT K H T (cs.map V.int) ∧ cs.length = (ends (linesOf x rs)).length ∧ ∀ H', Same H H' → Q (.int (manyL x rs W cs p)) H'
section
variable {P : Program} {w : World} {K : PySem.W.Frag} {mg : Str → Option Value} {base : Heap} {C : Addr}
theorem ok_many_in (c : PgC K C) {pE fEn : Addr} {dfEn : FuncData} (rE : PropOf K C "ends" pE fEn) (FEn : FnOk P w K mg base CX0 1 fEn dfEn ["self"] (sp_Page_ends K C)) (bEn : Binds K dfEn ["self"] []) {fN : Addr} {dfN : FuncData} (mN : Meth K C "ends_of" fN) (FN : FnOk P w K mg base CX0 2 fN dfN ["self", "part"] (sp_Page_ends_of K C)) (bN : Binds K dfN ["self", "part"] []) {f : Addr} {fd : FuncData} (F : Fun K "many_in" "many_in" s_many_in f fd) (m_sum : mg "sum" = none) (m_zip : mg "zip" = none) : FnOk P w K mg base CX0 4 f fd ["page", "counts", "part"] (sp_many_in K C) := by
  refine F.ok sc_many_in (fun vs H Q E h => ?_) (fun cdv A outer s H vs Q E hr h => ?_)
  · obtain ⟨b, h, x, rs, a, dx, u, d, e, T, cs, p, W, rfl, _⟩ := h
    rfl
  · refine ⟨_, (pss_cons (ps_set (i := 3) sc_many_in.nd rfl (.inr rfl) (pe_meth (pv 0) c.cls mN FN (hr.mono (by decide)) bN .nil pass0 (pa_cons (pv 2) pa_nil)))
      (pss_one (ps_ret (pe_callB (cr_sum rfl) (by rfl) m_sum (by decide +kernel) (pa_cons (pe_lc (own := [("end", 4), ("count", 5)]) (g := gTup K 2 (gCons (gName 4) (gCons (gName 5) gNil))) rfl sc_many_in.nd (RZ.pi_zipA (by rfl) m_zip (pa_cons (pe_prop (pv 0) c.cls rE FEn (hr.mono (by decide)) bEn .nil pass0 (by rfl)) (pa_cons (pv 1) pa_nil))) (blkOk_by (own := [("end", 4), ("count", 5)]) (N := N_many_in) (sc := defScope s_many_in) (by decide +kernel)) (fun _ _ _ _ _ => (pg_tup rfl (pgs_cons (pg_name (i := 4) sc_many_in.nd rfl (.inl rfl)) (pgs_cons (pg_name (i := 5) sc_many_in.nd rfl (.inl rfl)) pgs_nil)))) (fun _ _ _ _ _ => pts_one (pt_cmpR (r := rIn K false) op_in_seq (pv 4) (pv 3) rfl)) (fun _ _ _ _ _ => (pv 5))) pa_nil))))), ?_⟩
    obtain ⟨b, h, x, rs, a, dx, u, d, e, T, cs, p, W, rfl, O, hg, hW, hp, hT, hl, q⟩ := h
    refine seq_set ⟨.ref a, rfl, a, dx, _, rfl, O.at_, rfl, .str p, rfl, b, h, x, rs, a, dx, u, d, e, p, W, rfl, O, hg, hp, hW, fun H1 t s1 n1 h1 => ?_⟩
    have O1 := O.same s1
    have hT1 := sqT_same s1 hT
    have hef := (last_end hg).2
    refine ret_in (cb_in (cons_in ?_))
    refine ⟨.ref a, rfl, a, dx, _, rfl, O1.at_, b, h, x, rs, a, dx, u, d, e, rfl, O1, .ref T, rfl, e, T, _, _, rfl, .inr ⟨SqT.of O1.ends, hT1, fun Z nZ => ?_⟩⟩
    have hE := O1.ends
    have q0 : ∀ H', Same H1 H' → Q (.int (((ends (linesOf x rs)).zip cs).filterMap fun ec => if onWay W p ec.1 = true then some ec.2 else none).sum) H' := fun H' s' => q H' (s1.trans s')
    clear q
    generalize ends (linesOf x rs) = es at h1 hE hl q0 hef
    refine lc_it (walk_zipT (n := es.length) (xs := es.map V.str) (ys := cs.map V.int) (by rw [List.length_map, List.length_map, hl]; omega)) (fun i H' => Same H1 H' ∧ H' Z = some (.lst ((((es.zip cs).take i).filterMap fun ec => if onWay W p ec.1 = true then some ec.2 else none).map V.int))) ⟨sameU nZ, upd_same⟩ (fun i H' _ z => ⟨SqT.of (z.1 _ _ hE), sqT_same z.1 hT1⟩) ?_ ?_
    · rintro i y H4 H5 hi ⟨s4, hZ⟩ ⟨B, ya, yc, rfl, nB, rfl, ea, ec⟩
      replace ea : (es.map V.str)[i]? = some ya := ea
      replace ec : (cs.map V.int)[i]? = some yc := ec
      rw [List.getElem?_map] at ea ec
      obtain ⟨en, ea', rfl⟩ := Option.map_eq_some_iff.mp ea
      obtain ⟨c', ec', rfl⟩ := Option.map_eq_some_iff.mp ec
      have s45 := s4.trans (sameU (o := .tup [.str en, .int c']) nB)
      have hZ5 := (sameU (o := .tup [.str en, .int c']) nB) _ _ hZ
      have ez : (es.zip cs)[i]? = some (en, c') := by
        rw [List.getElem?_zip_eq_some]
        exact ⟨ea', ec'⟩
      have tk : (es.zip cs).take (i + 1) = (es.zip cs).take i ++ [(en, c')] := by rw [List.take_add_one, ez]; rfl
      have io : inV (.str en) ((es.filter (onWay W p)).map V.str) = onWay W p en := by
        rw [Bool.eq_iff_iff]
        refine (onWay_iff (W := fun _ => es.filter (onWay W p)) (e := en)).trans ?_
        rw [List.mem_filter]
        exact ⟨fun z => z.2, fun z => ⟨List.mem_of_getElem? ea', z⟩⟩
      refine ⟨B, _, rfl, SqT.of upd_same, rfl, _, _, rfl, _, _, rfl, rfl, rfl, .str en, rfl, .ref t, rfl, t, _, rfl, .inr (SqT.of (s45 _ _ h1)), rfl, (by rw [List.all_map]; exact List.all_eq_true.mpr fun _ _ => rfl), ?_⟩
      rw [io]
      refine ⟨_, rfl, ite2 (fun z => ?_) (fun z => ?_)⟩
      · refine ⟨.int c', rfl, _, hZ5, ?_, ?_, ?_⟩
        · rw [List.length_map]
          refine small1000 (Nat.le_trans (List.length_filterMap_le _ _) ?_)
          rw [List.length_take]
          exact Nat.le_trans (Nat.min_le_left _ _) (by omega)
        · intro c2 o eb
          rw [upd_ne (ne_of_none eb nZ)]
          exact s45 _ _ eb
        · rw [upd_same, tk, List.filterMap_append, List.map_append]
          have z2 : onWay W p en = true := z
          simp [List.filterMap, z2]
      · refine ⟨s45, ?_⟩
        rw [hZ5, tk, List.filterMap_append]
        have z2 : onWay W p en = false := Bool.eq_false_iff.mpr z
        simp [List.filterMap, z2]
    rintro H4 ⟨s4, hZ⟩
    have lz : es.length = (es.zip cs).length := by rw [List.length_zip]; omega
    rw [lz, List.take_length] at hZ
    exact ⟨Z, _, rfl, SqL.of hZ, q0 _ s4⟩
end
end Uq
namespace Uq
open PySem PySem.Spec PyProof.Rows L2
/-! ### class Table -/
abbrev s_Table__init_ : Stmt := inClass (topS 27) 0
abbrev N_Table__init_ : List Str := ["self", "page", "counts", "part"]
theorem sc_Table__init_ : FnScope N_Table__init_ ["self", "page", "counts"] (defScope s_Table__init_) := ⟨rfl, rfl, rfl, by decide +kernel, rfl, by decide +kernel, by decide +kernel⟩
abbrev s_Table_total : Stmt := inClass (topS 27) 3
abbrev N_Table_total : List Str := ["self"]
theorem sc_Table_total : FnScope N_Table_total ["self"] (defScope s_Table_total) := ⟨rfl, rfl, rfl, by decide +kernel, rfl, by decide +kernel, by decide +kernel⟩
abbrev s_Table__getitem_ : Stmt := inClass (topS 27) 5
abbrev N_Table__getitem_ : List Str := ["self", "at"]
theorem sc_Table__getitem_ : FnScope N_Table__getitem_ ["self", "at"] (defScope s_Table__getitem_) := ⟨rfl, rfl, rfl, by decide +kernel, rfl, by decide +kernel, by decide +kernel⟩
structure TbC (K : PySem.W.Frag) (C : Addr) : Prop where
  cls : Cls K C
  page : NoAttr K C "_page"
  counts : NoAttr K C "_counts"
  many : NoAttr K C "_many"
def tbF (pa T M : Addr) : List (Str × V) := [("_page", .ref pa), ("_counts", .ref T), ("_many", .ref M)]
/-- the numbers of these parts -/
def manyKV (x : Str) (rs : List Rw) (W : Str → List Str) (cs : List Int) (ps : List Str) : List (Key × V) := ps.map fun p => (.inr p, .int (manyL x rs W cs p))
structure TbO (K : PySem.W.Frag) (C Ct : Addr) (b : Nat) (h x : Str) (rs : List Rw) (W : Str → List Str) (cs : List Int) (H : Hp) (a dx pa dp u d e T M : Addr) : Prop where
  at_ : H a = some (.ins Ct dx (tbF pa T M))
  page : PgO K C b h x rs H pa dp u d e
  counts : SqT K H T (cs.map V.int)
  many : H M = some (.dK (manyKV x rs W cs ((linesOf x rs).map (·.nm))))
theorem TbO.same {K : PySem.W.Frag} {C Ct : Addr} {b : Nat} {h x : Str} {rs : List Rw} {W : Str → List Str} {cs : List Int} {H H' : Hp} {a dx pa dp u d e T M : Addr} (s : Same H H') (p : TbO K C Ct b h x rs W cs H a dx pa dp u d e T M) : TbO K C Ct b h x rs W cs H' a dx pa dp u d e T M :=
  ⟨s _ _ p.at_, p.page.same s, sqT_same s p.counts, s _ _ p.many⟩
/-- counts that are right ones of a page -/
structure TbR (b : Nat) (h x : Str) (rs : List Rw) (W : Str → List Str) (cs : List Int) : Prop where
  pg : Pg b h x rs
  way : ∀ q ∈ ends (linesOf x rs), Way (linesOf x rs) q (W q) ∧ (W q).length ≤ 4
  len : cs.length = (ends (linesOf x rs)).length
  pos : ∀ c ∈ cs, 0 ≤ c
  some_ : 0 < cs.sum
theorem manyKV_none {x : Str} {rs : List Rw} {W : Str → List Str} {cs : List Int} {p : Str} : ∀ {ps : List Str}, p ∉ ps → valV (manyKV x rs W cs ps) (.inr p) = none
  | [], _ => rfl
  | q :: ps, h => by
    rw [List.mem_cons, not_or] at h
    show valV ((Sum.inr q, V.int _) :: manyKV x rs W cs ps) (.inr p) = none
    rw [valV_neg fun e => h.1 (Sum.inr.inj e).symm]
    exact manyKV_none h.2
theorem manyKV_some {x : Str} {rs : List Rw} {W : Str → List Str} {cs : List Int} {p : Str} : ∀ {ps : List Str}, p ∈ ps → valV (manyKV x rs W cs ps) (.inr p) = some (.int (manyL x rs W cs p))
  | q :: ps, h => by
    show valV ((Sum.inr q, V.int _) :: manyKV x rs W cs ps) (.inr p) = _
    by_cases e : q = p
    · subst e
      exact valV_pos rfl
    · rw [valV_neg fun z => e (Sum.inr.inj z)]
      exact manyKV_some ((List.mem_cons.mp h).resolve_left fun z => e z.symm)
theorem PgO.ins {K : PySem.W.Frag} {C : Addr} {b : Nat} {h x : Str} {rs : List Rw} {H : Hp} {a dx u d e g C2 dx2 : Addr} {fs : List (Str × V)} {o : HO} (p : PgO K C b h x rs H a dx u d e) (hg : H g = some (.ins C2 dx2 fs)) (n : a ≠ g) : PgO K C b h x rs (upd H g o) a dx u d e := by
  have n1 : u ≠ g := fun z => by
    have := p.units
    rw [z, hg] at this
    cases this
  have n2 : e ≠ g := fun z => by
    have := p.ends
    rw [z, hg] at this
    cases this
  exact ⟨by rw [upd_ne n]; exact p.at_, by rw [upd_ne n1]; exact p.units, p.lines.ins hg, by rw [upd_ne n2]; exact p.ends⟩
def sp_Table_total (K : PySem.W.Frag) (C Ct : Addr) : Sp := fun vs H Q _ => ∃ (b : Nat) (h x : Str) (rs : List Rw) (W : Str → List Str) (cs : List Int) (a dx pa dp u d e T M : Addr), vs = [.ref a] ∧ TbO K C Ct b h x rs W cs H a dx pa dp u d e T M ∧ Q (.int cs.sum) H
section
variable {P : Program} {w : World} {K : PySem.W.Frag} {mg : Str → Option Value} {base : Heap} {C Ct fC : Addr} {fdC : FuncData}
theorem ok_Table_total (c : TbC K Ct) {f : Addr} {fd : FuncData} (F : Fun K "total" "Table.total" s_Table_total f fd) (m_sum : mg "sum" = none) : FnOk P w K mg base CX0 1 f fd ["self"] (sp_Table_total K C Ct) := by
  refine F.ok sc_Table_total (fun vs H Q E h => ?_) (fun cdv A outer s H vs Q E hr h => ?_)
  · obtain ⟨b, h, x, rs, W, cs, a, dx, pa, dp, u, d, e, T, M, rfl, _⟩ := h
    rfl
  · refine ⟨_, (pss_one (ps_ret (pe_callB (cr_sumT rfl) (by rfl) m_sum (by decide +kernel) (pa_cons (pe_fld (pv 0) (by rfl)) pa_nil)))), ?_⟩
    obtain ⟨b, h, x, rs, W, cs, a, dx, pa, dp, u, d, e, T, M, rfl, O, q⟩ := h
    exact ⟨.ref a, rfl, a, Ct, dx, _, .ref T, rfl, O.at_, c.cls, c.counts, rfl, T, cs, rfl, O.counts, q⟩
end
end Uq
namespace Uq
open PySem PySem.Spec PyProof.Rows L2
/-! ### except C as e: an exception that is kept is tracked from the clause on -/
/-- at a: an exception of this class and dict -/
def exk (a : Addr) (cls : Value) (d : Option Addr) : HO := .ext fun h => ∃ (ob : Obj) (fv : Array Value), h.get? a = some ob ∧ Zc cls d ob ∧ ob.data = .fields fv
theorem exk_ok {P : Program} {w : World} {H : Hp} {h : Heap} {a : Addr} {cls : Value} {d : Option Addr} {ob : Obj} {fv : Array Value} (e : h.get? a = some ob) (z : Zc cls d ob) (y : ob.data = .fields fv) : ObjOk P w H h a (exk a cls d) :=
  ⟨⟨ob, fv, e, z, y⟩, ⟨ob, e⟩, fun _ _ ⟨o1, f1, e1, z1, y1⟩ k => ⟨o1, f1, k _ e1, z1, y1⟩⟩
theorem exk_at {P : Program} {w : World} {H : Hp} {h : Heap} {a : Addr} {cls : Value} {d : Option Addr} (ok : HOk P w H h) (e : H a = some (exk a cls d)) : ∃ (ob : Obj) (fv : Array Value), h.get? a = some ob ∧ Zc cls d ob ∧ ob.data = .fields fv := by
  have z : ObjOk P w H h a (.ext fun h => ∃ (ob : Obj) (fv : Array Value), h.get? a = some ob ∧ Zc cls d ob ∧ ob.data = .fields fv) := ok a _ e
  exact z.1
section
variable {X : Cx} {pins : List (Addr × Obj)} {σ : L2.St} {H : Hp} {s : Shared}
/-- what is new since the entry, and not tracked, may be tracked -/
theorem Inv.track {a : Addr} {o : HO} (I : Inv X pins σ H s) (n0 : X.s_0.heap.get? a = none) (na : H a = none) (nL : a ≠ X.env.locals) (nC : ∀ x c, X.env.cells.lookup x = some c → c ≠ a) (nP : ∀ p ∈ X.pn ++ pins, p.1 ≠ a)
    (new : ObjOk X.prog X.w (upd H a o) s.heap a o) : Inv X pins σ (upd H a o) s := by
  have B := I.base
  refine ⟨I.ok, I.os, I.bare, ⟨B.keep, B.slot, fun b u e n hx => ?_, B.there, fun b xs e => ?_, fun b u v e => ?_, fun b ps e => ?_⟩, I.loc, I.cell, ?_, fun x c e => ?_, fun p hp => ?_, fun b u e => ?_, I.len⟩
  · have ne : b ≠ a := fun z => by
      rw [z, n0] at e
      cases e
    rw [upd_ne ne]
    exact B.free b u e n hx
  · have z := B.tups b xs e
    rw [upd_ne (ne_of_none z na)]
    exact z
  · have z := B.frzs b u v e
    rw [upd_ne (ne_of_none z na)]
    exact z
  · obtain ⟨more, z⟩ := B.tbls b ps e
    refine ⟨more, ?_⟩
    rw [upd_ne (ne_of_none z na)]
    exact z
  · rw [upd_ne nL.symm]
    exact I.free
  · rw [upd_ne (nC x c e)]
    exact I.freeC x c e
  · obtain ⟨h1, h2, h3, h4, h5⟩ := I.pin p hp
    refine ⟨h1, ?_, h3, h4, h5⟩
    rw [upd_ne (nP p hp)]
    exact h2
  · by_cases z : b = a
    · subst z
      rw [upd_same] at e
      cases e
      exact new
    · rw [upd_ne z] at e
      refine (I.hok b u e).stay (fun _ _ _ q => q) (fun c q => ?_) fun c xs q => ?_
      · rw [upd_ne (ne_of_none q na)]
        exact q
      · rw [upd_ne (ne_of_none q na)]
        exact q
/-- into the clause's suite, with no pins of its own -/
theorem Inv.clause (I : Inv X pins σ H s) (a : Addr) : Inv (X.suite a (X.pn ++ pins)) [] σ H s := by
  have ok := I.ok.suite a (X.pn ++ pins)
  refine ⟨ok, I.os, I.bare, I.base, I.loc, I.cell, I.free, I.freeC, fun p hp => I.pin p ?_, I.hok, I.len⟩
  have hp' : p ∈ (X.pn ++ pins) ++ [] := hp
  rwa [List.append_nil] at hp'
theorem Inv.unclause {a : Addr} {pn' : List (Addr × Obj)} (I : Inv (X.suite a (X.pn ++ pins)) pn' σ H s) (ok : X.Ok) : Inv X pins σ H s := by
  refine ⟨ok, I.os, I.bare, I.base, I.loc, I.cell, I.free, I.freeC, fun p hp => I.pin p ?_, I.hok, I.len⟩
  exact List.mem_append_left _ hp
end
/-- what a clause that keeps its exception asks -/
def wKeep (K : PySem.W.Frag) (c : Value) (i : Nat) (ts : TS) (Wout : WX) (D : Ends) : WX := fun cls d σ H =>
  ∃ b, PySem.W.exmOne K cls c = some b ∧
    (b = true → ∀ a, H a = none → ts { nx := fun σ' H' => D.nx (σ'.set i none) H', rt := D.rt, bk := fun σ' H' => D.bk (σ'.set i none) H', ct := fun σ' H' => D.ct (σ'.set i none) H' } (σ.set i (some (.ref a))) (upd H a (exk a cls d))) ∧
    (b = false → Wout cls d σ H)
section
variable {X : Cx} {x n : Str} {c : Value} {i : Nat} {body suite : List Stmt} {b₀ : Stmt} {np pos pos' : Pos} {tb : WX → TS} {ts : TS} {Wout : WX}
theorem ps_try_keep (hs : X.stack = X.env :: X.outer) (hf : X.env.frame = some X.env.locals) (hex : X.ex = []) (hN : X.N.Nodup) (hi : X.N[i]? = some n) (hln : X.env.kindOf n = some .local) (hc : Names X x c) (tk : Takes X Wout)
    (hb : ∀ (W : WX) (pn : List (Addr × Obj)) (xe : Value → Shared → Prop), Takes (X.tr pn xe) W → PassesOwn (model X.prog X.w) X.A X.env xe → PSs (X.tr pn xe) body (tb W))
    (hsu : ∀ (a : Addr) (pn : List (Addr × Obj)), PSs (X.suite a pn) (b₀ :: suite) ts) :
    PS X (.Try body [.ExceptHandler (some (.Name x np)) (some n) (b₀ :: suite) pos'] [] [] pos) (fun D σ H => tb (wKeep X.K c i ts Wout D) D σ H) := by
  constructor
  intro pins s σ H D I h
  have ok := I.ok
  have frs_ : X.A.frames = some (X.env :: X.outer) := hs ▸ ok.frames
  refine wpAny_Try_except ?_
  have caught : ∀ (u : Value) (s' : Shared), XE (X.tr (X.pn ++ pins) fun e s₁ => wpAny (model X.prog X.w) X.A (noteFrame e X.env) (fun _ s₂ => wpAny (model X.prog X.w) X.A (setFlight e none) (fun _ s₃ =>
      wpAny (model X.prog X.w) X.A (handleBy e X.env [.ExceptHandler (some (.Name x np)) (some n) (b₀ :: suite) pos']) (SP X pins D) X.xe s₃) X.xe s₂) X.xe s₁) (wKeep X.K c i ts Wout D) u s' →
      wpAny (model X.prog X.w) X.A (noteFrame u X.env) (fun _ s₂ => wpAny (model X.prog X.w) X.A (setFlight u none) (fun _ s₃ =>
        wpAny (model X.prog X.w) X.A (handleBy u X.env [.ExceptHandler (some (.Name x np)) (some n) (b₀ :: suite) pos']) (SP X pins D) X.xe s₃) X.xe s₂) X.xe s' := by
    rintro u s' ⟨a, B, sI, pins', σ', H', cls, d, rfl, J', nb, up, sky, na, os, ag, b, hb1, yes, no⟩
    have J : Inv X pins σ' H' sI := J'.ofTry ok
    have sky2 : Sky B (X.env :: X.outer) a (Zc cls d) X.env.locals s'.heap := hs ▸ sky
    refine Sky.land Zc.steady frs_ hf sky2 fun h3 fly up3 => ?_
    have J3 : Inv X pins σ' H' { s' with heap := h3 } := J.landed nb fly.1 (up.trans up3) os ag
    obtain ⟨o3, v3, g3, z3, y3⟩ := fly.there
    -- where it stands
    have off : ∀ {h : Heap} {o : Obj} {vs : Array Value}, h.FunFrames B (X.env :: X.outer) → h.get? a = some o → o.data = .fields vs → a ∉ frs (X.env :: X.outer) := by
      intro h o vs ff e dd hm
      obtain ⟨_, o', e', nf⟩ := ff.mem hm
      rw [e] at e'
      cases e'
      exact nf _ dd
    have aOff := off fly.2.2.1 g3 y3
    have nL : a ≠ X.env.locals := by
      intro z
      refine aOff (List.mem_filterMap.mpr ⟨X.env, List.mem_cons_self, ?_⟩)
      rw [hf, z]
    have notIn : sI.heap.get? a = none := by
      cases q : sI.heap.get? a with
      | none => rfl
      | some o =>
        have y := nb a o q (by rw [hs]; exact aOff)
        rw [fly.2.1] at y
        cases y
    have n0 : X.s_0.heap.get? a = none := by
      cases q : X.s_0.heap.get? a with
      | none => rfl
      | some o =>
        obtain ⟨o', e1⟩ := J.base.there a o q (by rw [hex]; exact fun z => nomatch z)
        rw [notIn] at e1
        cases e1
    have nC : ∀ y c', X.env.cells.lookup y = some c' → c' ≠ a := by
      intro y c' e z
      obtain ⟨v, o, g, k⟩ := J3.cell y c' e
      rw [z, g3] at g
      cases g
      rw [y3] at k
      cases k
    have nP : ∀ p ∈ X.pn ++ pins, p.1 ≠ a := by
      intro p hp z
      have y := (J.pin p hp).1
      rw [z, notIn] at y
      cases y
    have S3 := Inv.clause J3 a
    refine wpAny_handleBy_cons ?_ (by intro q; cases q)
    refine codeAny_handlers_test ?_
    have kind : PySem.W.Looks (model X.prog X.w) h3 (typeOf (.ref a)) cls := by
      intro A Q E s k q
      refine wpAny_typeOf_ref (k _ _ g3) ?_
      rw [z3.1]
      exact q
    have fits := PySem.W.exm_one (M := model X.prog X.w) J3.kIn kind hb1
    have named : ∀ {Q : Value → Shared → Prop} {E : Value → Shared → Prop}, Q c { s' with heap := h3 } → wpAny (model X.prog X.w) (X.A.mark (some (.ref a))) (eval (.Name x np) X.env) Q E { s' with heap := h3 } := by
      intro Q E q
      rcases hc with ⟨hg, hdb, hm | ⟨hm, hv, hnn⟩⟩
      · exact ld_glob (X := X.suite a (X.pn ++ pins)) S3 hg hm q hdb
      · exact ld_blt (X := X.suite a (X.pn ++ pins)) S3 hg hm hv q hnn hdb
    refine named (fits.here ?_)
    cases b with
    | true =>
      refine codeAny_handlers_suite_as ?_
      refine HandSPX.lands_againZ fly fun h4 fly4 up4 => ?_
      have J4 : Inv X pins σ' H' { s' with heap := h4 } := J.landed nb fly4.1 ((up.trans up3).trans up4) os ag
      obtain ⟨o4, v4, g4, z4, y4⟩ := fly4.there
      have K4 : Inv X pins σ' (upd H' a (exk a cls d)) { s' with heap := h4 } := Inv.track J4 n0 na nL nC nP (exk_ok g4 z4 y4)
      refine store_ok (X := X.suite a (X.pn ++ pins)) (v := .ref a) (Inv.clause K4 a) hN hi (.inl hln) rfl (fun s5 S5 => ?_) (.inr hln)
      refine wpAny_mono ((hsu a (X.pn ++ pins)).run [] s5 _ _ _ S5 (yes rfl a na)) ?_ (fun _ _ z => False.elim z)
      have behind : ∀ {s6 : Shared} {σ6 : L2.St} {H6 : Hp} {Q : Shared → Prop}, Inv (X.suite a (X.pn ++ pins)) [] σ6 H6 s6 → (∀ s7, Inv X pins (σ6.set i none) H6 s7 → Q s7) →
          wpAny (model X.prog X.w) X.A (do bindName X.env n .none; unbindBehindTheSuite X.env n pos') (fun _ s7 => Q s7) X.xe s6 := by
        intro s6 σ6 H6 Q S6 hq
        exact gone_ok (Inv.unclause S6 ok) hN hi hln hq
      rintro (_ | _ | _ | u) s6 hsp
      · obtain ⟨σ6, H6, S6, q6⟩ := hsp
        exact behind S6 fun s7 J7 => ⟨_, _, J7, q6⟩
      · obtain ⟨σ6, H6, S6, q6⟩ := hsp
        exact behind S6 fun s7 J7 => ⟨_, _, J7, q6⟩
      · obtain ⟨σ6, H6, S6, q6⟩ := hsp
        exact behind S6 fun s7 J7 => ⟨_, _, J7, q6⟩
      · obtain ⟨v6, σ6, H6, S6, r6, q6⟩ := hsp
        exact behind S6 fun s7 J7 => ⟨_, _, _, J7, r6, q6⟩
    | false =>
      show wpAny _ X.A (handleBy (.ref a) X.env []) _ _ _
      refine wpAny_handleBy_nil ?_
      have fly_ := fly
      obtain ⟨k1, k2, k3, oe, vs, T, oT, ts', he, hz, hd, h1, hr⟩ := fly_
      unfold PySem.passOn
      refine wpAny_bind (wpAny_field he hd h1 ?_)
      rw [if_neg (by simp : ¬ ((Value.ref T == Value.none) = true))]
      have fin : wpAny (model X.prog X.w) X.A (setFlight (.ref a) X.env.frame) (fun _ s4 => wpAny (model X.prog X.w) X.A (throw (.ref a) : Sem Flow) (SP X pins D) X.xe s4) X.xe { s' with heap := h3 } := by
        rw [hf]
        refine HandSPX.setFlight_upZ fly fun h4 held up4 => ?_
        refine wpAny_throw (tk _ _ ⟨a, B, sI, pins, σ', H', cls, d, rfl, J, nb, (up.trans up3).trans up4, .inr (.inr ?_), na, os, ag, no rfl⟩)
        rw [hs]
        exact held
      first
        | exact wpAny_bind (wpAny_pure (wpAny_bind fin))
        | exact wpAny_bind fin
  have body_ := (hb (wKeep X.K c i ts Wout D) (X.pn ++ pins) _ caught PassesOwn.looking).run [] s σ H D (I.toTry _) h
  refine wpAny_mono body_ ?_ (fun _ _ z => z)
  rintro (_ | _ | _ | u) s1 hsp
  · obtain ⟨σ', H', J', q⟩ := hsp
    exact wpAny_execs_nil ⟨σ', H', J'.ofTry ok, q⟩
  · obtain ⟨σ', H', J', q⟩ := hsp
    exact ⟨σ', H', J'.ofTry ok, q⟩
  · obtain ⟨σ', H', J', q⟩ := hsp
    exact ⟨σ', H', J'.ofTry ok, q⟩
  · obtain ⟨v, σ', H', J', r, q⟩ := hsp
    exact ⟨v, σ', H', J'.ofTry ok, r, q⟩
end
end Uq
namespace Uq
open PySem PySem.Spec PyProof.Rows L2 LamX
/-! ### a lambda called where the slots are known, so that what it lets out is caught with them -/
section
variable {X : Cx} {pins : List (Addr × Obj)} {σ σ₀ : L2.St} {H : Hp} {s : Shared}
abbrev cxG (X : Cx) (Ng : List Str) (q : Str) (sg : Scope) (g : Addr) (cdg : Value) (s : Shared) (H : Hp) : Cx := cxOf C8.CX0 X.prog X.w X.K X.mg X.base Ng q sg g cdg X.A X.stack s H C8.E0
theorem pe_actS {Ng : List Str} {qg : Str} {sg : Scope} {g f c' : Addr} {cdg pm ctv : Value} {params : Arguments} {body : Expr} {scope : Scope} {k i : Nat} {a : Str} {pn : List (Addr × Obj)} {xe : Value → Shared → Prop} {W : WX} {E : XK} {tb : TE} {p1 p2 : Pos}
    (I : Inv X pins σ H s) (L : LamS X.env.scope scope) (hf : s.heap.get? f = some (PySem.W.kla_obj "<lambda>" (X.env.qual ++ "<lambda>") params body scope (cloFrom X.env.cells scope.names []) pm c' ctv)) (hfn : H f = none) (hfr : f ∉ frs X.stack)
    (hbind : bindArgs (PySem.W.kla_fn "<lambda>" (X.env.qual ++ "<lambda>") params body scope (cloFrom X.env.cells scope.names []) pm (.ref c') ctv) ⟨[], []⟩ = pure [])
    (tk : Takes ((cxG X Ng qg sg g cdg s H).tr pn xe) W) (hW : ∀ cls d H', E cls d H' → W cls d σ₀ H') (hr : Room (k + 1) (X.A.deeper (envOfC qg sg s.heap.objs.size g cdg)))
    (hbody : ∀ (A : Around) (outer : List Env) (s : Shared) (H : Hp), Room k (A.deeper (lamEnv X scope s.heap.objs.size f c')) → PE (lamCx X A outer s H E scope f c') body tb)
    (hN : Ng[i]? = some a) (hv : Vis sg a) (hd : (a == ("__debug__" : Str)) = false := by decide) (hcd : (a == ("__classdict__" : Str)) = false := by decide) :
    PE ((cxG X Ng qg sg g cdg s H).tr pn xe) (.Call (.Name a p1) [] [] p2) (fun σZ HZ Q => σZ = σ₀ ∧ σZ[i]? = some (some (.ref f)) ∧ HZ c' = some (CodeO c' (X.env.qual ++ "<lambda>")) ∧ tb σ HZ Q) := by
  constructor
  rintro pinsZ sZ σZ HZ Q IZ ⟨rfl, hs, hc, ht⟩
  have got := (pe_var (pos := p1) (i := i) hN hv hd hcd).run pinsZ sZ σZ HZ (fun v H1 => v = .ref f ∧ H1 = HZ) IZ ⟨.ref f, hs, rfl, rfl⟩
  refine wpAny_Call_Name_kw (thn got ?_)
  rintro u s1 ⟨v, H1, I1, r1, rfl, rfl⟩
  obtain rfl : u = Value.ref f := r1
  have at1 : s1.heap.get? f = some (PySem.W.kla_obj "<lambda>" (X.env.qual ++ "<lambda>") params body scope (cloFrom X.env.cells scope.names []) pm c' ctv) := by
    refine I1.base.keep f _ hf hfn hfr ?_
    intro z
    exact nomatch (show f ∈ ([] : List Addr) from z)
  refine PySem.W.callWith_F0 ⟨_, _, _, _, at1⟩ ?_
  have un : L2.Un (frs X.stack) [] H H1 s.heap s1.heap := I1.base
  have code := I1.hok c' _ hc
  obtain ⟨⟨oc, vs, t, hoc, hdc, hvc⟩, _, _⟩ := code
  have ran : codeAny (model X.prog X.w) (X.A.deeper (envOfC qg sg s.heap.objs.size g cdg)) (.call (.ref f) ⟨[], []⟩) (CR (L2.CX X.prog X.w) (envOfC qg sg s.heap.objs.size g cdg :: X.stack) X.prog X.w H1 s1 Q E) s1 := by
    refine PySem.W.kla_callFunE hr.depth at1 rfl L.co L.gen rfl ⟨c', oc, vs, t, rfl, hoc, hdc, hvc⟩ ?_
    rw [hbind]
    refine wpAny_pure ?_
    refine wpAny_newFunctionEnv (fun y hy => (L.own y hy).2) (fun y hy => nomatch hy) ?_ L.kind
    intro h₁ hns hsb
    refine ⟨I1.nolimit.fresh _ hsb, ?_⟩
    show codeAny _ _ (.expr body (lamEnv X scope s1.heap.objs.size f c')) _ _
    have stays : ∀ b o, s1.heap.get? b = some o → h₁.get? b = some o := by
      intro b o e
      exact hsb.extBut b o (Nat.ne_of_lt (Heap.lt_size e)) (Heap.get?_push_of_some _ e)
    have J : Inv (lamCx X (X.A.deeper (envOfC qg sg s.heap.objs.size g cdg)) (envOfC qg sg s.heap.objs.size g cdg :: X.stack) s1 H1 E scope f c') [] σ H1 { s1 with heap := h₁, toks := s1.toks + ([] : List (Str × Value)).length } := by
      exact lam_start2 I L I1.env0 hr.hd un hns stays
    have val := (hbody _ _ s1 H1 (hr.deeper _)).run [] _ _ H1 Q J ht
    refine PySem.W.kla_codeExpr (wpAny_mono val ?_ fun e s' hq => hq)
    rintro v s' ⟨w', H', J', rv, q⟩
    exact ⟨w', H', J'.os, J'.bare, J'.base, J'.hok, rv, q⟩
  refine wpAny_call (codeAny_mono ran ?_)
  rintro (e | (_ | _ | _ | u)) s' hq
  · exact tk e s' (XE.of_call I1 (fun cls d H' h => hW cls d H' h) hq)
  all_goals first
    | exact False.elim hq
    | exact I1.after hq
/-- the def that calls what it got, its slots known -/
def GivesS (X : Cx) (Ng : List Str) (x : Str) (sg : Scope) (g : Addr) (cdg : Value) (bg : List Stmt) (a : Str) (q : Str) (TT : (XK → Hp → VK → Prop) → Hp → VK → Prop) : Prop :=
  ∀ (f c' : Addr) (s : Shared) (H : Hp) (Q : VK) (tl : XK → Hp → VK → Prop),
    (∀ (W : WX) (pn : List (Addr × Obj)) (xe : Value → Shared → Prop) (E : XK) (σ₀ : L2.St) (p1 p2 : Pos), Takes ((cxG X Ng x sg g cdg s H).tr pn xe) W → (∀ cls d H', E cls d H' → W cls d σ₀ H') →
      PE ((cxG X Ng x sg g cdg s H).tr pn xe) (.Call (.Name a p1) [] [] p2) (fun σZ HZ Q => σZ = σ₀ ∧ σZ[0]? = some (some (.ref f)) ∧ HZ c' = some (CodeO c' q) ∧ tl E HZ Q)) →
    H c' = some (CodeO c' q) → TT tl H Q →
    ∃ t, PSs (cxG X Ng x sg g cdg s H).nox bg t ∧ t { nx := fun _ H' => Q .non H', rt := Q } (L2.start Ng [.ref f]) H
end
section
variable {X : Cx}
/-- x(lambda: body) -/
theorem pe_lamS {T : List (Addr × Str)} {TT : (XK → Hp → VK → Prop) → Hp → VK → Prop} {x a : Str} {g c P : Addr} {k : Nat} {pg : Arguments} {bg : List Stmt} {sg : Scope} {dV kV doc pm cdv ct oc : Value} {an od : Option Addr} {osl : Array (Option Value)} {Ng : List Str}
    {params : Arguments} {body : Expr} {scope : Scope} {t : XK → TE} {p lpos pos : Pos} (hg : Gl X x) (hm : X.mg x = some (.ref g)) (hk : PySem.W.keepIn X.K (.ref g) = true)
    (lk : X.K.lookup g = some ⟨oc, od, .func (PySem.W.fnOf x x pg bg sg dV kV doc pm an cdv ct), osl⟩) (hcg : PySem.W.codeIn X.K cdv x = true) (hb : L2.Binds X.K (PySem.W.fnOf x x pg bg sg dV kV doc pm an cdv ct) [a] []) (Sg : FnScope Ng [a] sg) (hNg : Ng[0]? = some a) (hva : Vis sg a)
    (hG : GivesS X Ng x sg g cdv bg a (X.env.qual ++ "<lambda>") TT)
    (TB : TabB X.base X.mg c P) (hcode : X.env.code = .ref c) (hmT : (P, X.env.qual ++ "<lambda>") ∈ T) (hu : ∀ p ∈ T, p.1 = P → p.2 = X.env.qual ++ "<lambda>") (hr : Room (k + 2) X.A) (L : LamS X.env.scope scope) (hdef : defaultsOf params X.env = ([], []))
    (hbind : ∀ (q : Str) (cl : List (Str × Addr)) (pm cv ctv : Value), bindArgs (PySem.W.kla_fn "<lambda>" q params body scope cl pm cv ctv) ⟨[], []⟩ = pure [])
    (hbody : ∀ (A : Around) (outer : List Env) (s : Shared) (H : Hp) (E : XK) (f c' : Addr), Room k (A.deeper (lamEnv X scope s.heap.objs.size f c')) → PE (lamCx X A outer s H E scope f c') body (t E))
    (hdb : (x == ("__debug__" : Str)) = false := by decide) (hd : (a == ("__debug__" : Str)) = false := by decide) (hcd : (a == ("__classdict__" : Str)) = false := by decide) :
    PE X (.Call (.Name x p) [.Lambda params body scope lpos] [] pos) (tLam T TT t) := by
  constructor
  rintro pins s σ H Q I ⟨hT, h⟩
  refine wpAny_Call_Name_kw (ld_glob I hg hm ?_ hdb)
  refine PySem.W.callWith_K (h₀ := X.base) I.ok.mod.kin hk ?_ (by rfl) (by rfl)
  show wpAny _ _ (spliced ((false, eval (.Lambda params body scope lpos) X.env) :: backTo pos (starEach [] X.env))) _ _ s
  refine Calls.spliced_cons (lam_make2 I TB hcode hmT hu hT hdef (L.has I.ok) ?_)
  intro f c' pm' ctv H1 s' I1 eN T1 hf hfn hfr hco
  refine Calls.spliced_nil ⟨I1.kIn, ?_⟩
  have ran : codeAny (model X.prog X.w) X.A (.call (.ref g) ⟨[.ref f], []⟩) (CR C8.CX0 X.stack X.prog X.w H1 s' Q C8.E0) s' := by
    refine run_ofS (N := Ng) (ps := [a]) (us := [.ref f]) (vs := [.ref f]) lk hcg Sg hr I1.env0 (hb s' [.ref f] I1.kIn rfl) (.cons rfl .nil) rfl ?_
    intro hr'
    have act := hG f c' s' H1 Q (fun E H' Q' => t E σ H' Q') (fun W pn xe E σ₀ p1 p2 tk hW => pe_actS (i := 0) (σ₀ := σ₀) (tb := t E) (p1 := p1) (p2 := p2) I1 L hf hfn hfr (hbind _ _ _ _ _) tk hW hr' (fun A outer s H hr2 => hbody A outer s H E f c' hr2) hNg hva hd hcd) hco (h H1 eN T1)
    obtain ⟨t', ht', hq'⟩ := act
    exact ⟨t', ht'.nox, hq'⟩
  refine wpAny_call (codeAny_mono ran ?_)
  rintro (e | (_ | _ | _ | u)) s2 hq
  all_goals first
    | exact False.elim hq
    | exact I1.after hq
end
end Uq
namespace PySem.W
open PySem PySem.Spec PySem.Calls PyProof.Rows
section
variable {prog : Program} {w : World} {M : Model} {A : Around} {E : Value → Shared → Prop} {s : Shared} {K : Frag} {x C L f : Addr} {h₀ : Heap} {m : Str → Option Value} {ox : Obj} {od : Option Obj} {b tb : Value}
theorem ifBound_B {name : Str} {id : String} {args : List Value} {Q : Option Value → Shared → Prop} (X : K.In s.heap) (I : InstAt s.heap x ox C od) (hs : findIn K (.ref C) name = some (some (.builtin id)))
    (hb : ∀ self, bindSpecial (.builtin id) self = pure (.builtin id, [self])) (h : wpAny M A (call (.builtin id) (.ref x :: args)) (fun v => Q (some v)) E s) : wpAny M A (callSpecialIfBound? (.ref x) name args) Q E s := by
  simp only [callSpecialIfBound?, bindSpecialIfBound?]
  refine wpAny_holding (wpAny_bind (wpAny_bind (wpAny_bind (I.type.here ((looks_findIn X hs).here ?_)))))
  refine wpAny_bind (wpAny_askSetting (wpAny_ite ?_))
  have fin : wpAny M A (call (.builtin id) ([.ref x] ++ args) >>= fun v => pure (some v)) Q E s := wpAny_bind (wpAny_mono h (fun v s' h' => wpAny_pure h') fun _ _ h' => h')
  split
  · exact wpAny_bind ((Looks.of_pure (hb _)).here (wpAny_pure (by exact fin)))
  · exact wpAny_tryCatch (wpAny_bind ((Looks.of_pure (hb _)).here (wpAny_pure (by exact fin))))
open Builtin in
theorem one_ne {Q : Value → Shared → Prop} (hu1 : A.in1.units < cLine) (X : K.In s.heap) (I : InstAt s.heap x ox C od)
    (hs : findIn K (.ref C) "__ne__" = some (some (.builtin "object.__ne__"))) (hm : mroIn K C (.type "object") = some true) (he : findIn K (.ref C) "__eq__" = some (some (.ref f))) (hf : isFn K (.ref f) = true)
    (h : wpAny (model prog w) A.in1 (call (.ref f) [.ref x, b]) (fun v s' => ∃ c, v = .bool c ∧ Q (.bool (!c)) s') E s) :
    wpAny (model prog w) A (tryCompare (.ref x) "__ne__" b) (fun r s' => ∃ v, r = some v ∧ Q v s') E s := by
  unfold tryCompare
  refine wpAny_bind (ifBound_B X I hs PySem.F.cmp_object.ne.bind (wpAny_call (codeAny_call_builtin PySem.F.cmp_object.ne.plain PySem.F.cmpEntry_ne (check_slot (i := "object.__ne__") (owner := "object") (n := "__ne__") (by decide +kernel) (by decide +kernel) (I.type.andThen (looks_mroIn X hm)) (PySem.F.cmpArgs_ne _ _) ?_))))
  unfold Builtin.«object.__ne__»
  refine wpAny_bind (m := slotArgs "__ne__" 1 _) (wpAny_pure ?_)
  refine wpAny_bind (m := cRoomFor _ _) (wpAny_cRoomFor hu1 ?_)
  refine wpAny_bind (m := callSpecialIfBound? (.ref x) (Str.ofString "__eq__") _) (ifBound_K X I he hf (wpAny_mono h (fun r s' hq => ?_) fun _ _ y => y))
  obtain ⟨c, rfl, q⟩ := hq
  refine wpAny_bind (wpAny_truthy_bool ?_)
  refine wpAny_pure ?_
  exact wpAny_pure ⟨_, rfl, q⟩
theorem ne_K {Q : Value → Shared → Prop} (hu : A.units < cLine) (hu1 : A.in1.units < cLine) (F : Fr h₀ L s.heap m) (X₀ : K.In h₀) (I : InstAt s.heap x ox C od) (hb : Looks (model prog w) s.heap (typeOf b) tb) (hn : notFirst K C tb = true)
    (hs : findIn K (.ref C) "__ne__" = some (some (.builtin "object.__ne__"))) (hm : mroIn K C (.type "object") = some true) (he : findIn K (.ref C) "__eq__" = some (some (.ref f))) (hf : isFn K (.ref f) = true)
    (h : wpAny (model prog w) A.in1 (call (.ref f) [.ref x, b]) (fun v s' => ∃ c, v = .bool c ∧ Q (.bool (!c)) s') E s) : wpAny (model prog w) A (richCompare .NotEq (.ref x) b) Q E s := by
  have X := X₀.keeps F.keep
  have one := one_ne (A := A) (E := E) hu1 X I hs hm he hf h
  unfold richCompare
  simp only [oneThing_ref]
  refine wpAny_holding (wpAny_bind (wpAny_cRoomFor hu ?_))
  refine wpAny_bind (I.type.here (wpAny_bind (hb.here ?_)))
  split
  · rename_i q
    have e : subIn K tb (.ref C) = some false := by
      rcases Bool.or_eq_true_iff.mp hn with e | e
      · rw [beq_iff_eq.mp e] at q; simp at q
      · exact beq_iff_eq.mp e
    refine wpAny_bind ((looks_subIn X e).here ?_)
    simp only [Bool.false_eq_true, if_false]
    refine wpAny_bind (wpAny_mono one (fun r s' z => ?_) fun _ _ e => e)
    obtain ⟨v, rfl, hq⟩ := z
    exact wpAny_pure hq
  · refine wpAny_bind (wpAny_pure ?_)
    simp only [Bool.false_eq_true, if_false]
    refine wpAny_bind (wpAny_mono one (fun r s' z => ?_) fun _ _ e => e)
    obtain ⟨v, rfl, hq⟩ := z
    exact wpAny_pure hq
end
end PySem.W
namespace Uq
open PySem PySem.Spec PyProof.Rows L2
/-! ### x == y and x != y by an own __eq__, y of any kind -/
section
variable {X : Cx} {C f : Addr} {k : Nat} {fd : FuncData} {ps : List Str} {sp : Sp}
def rEqA (K : PySem.W.Frag) (C : Addr) (sp : Sp) (neg : Bool) : R2 := fun x y H Q => ∃ a dx fs t, x = .ref a ∧ H a = some (.ins C dx fs) ∧ TyX K H y t ∧ PySem.W.notFirst K C t = true ∧ sp [.ref a, y] H (fun v H1 => ∃ c, v = .bl c ∧ Q (.bl (if neg then !c else c)) H1) E0
theorem op_eqA (d : Dun X.K C f "__eq__") (F : FnOk X.prog X.w X.K X.mg X.base CX0 k f fd ps sp) (hr : Room k X.A) (hb : Binds X.K fd ps []) : OpR X (compareOp .Eq) (rEqA X.K C sp false) := by
  intro pins s σ H x y v u Q I rx ry h
  obtain ⟨a, dx, fs, t, rfl, e, ty, nf, q⟩ := h
  cases (show v = Value.ref a from rx)
  obtain ⟨ox, od, J⟩ := at_ins I e
  obtain ⟨PH, Z, p, _⟩ := kit_of I ry ty
  obtain ⟨m, fr⟩ := I.fr
  show wpAny (model X.prog X.w) X.A (richCompare .Eq (.ref a) u) (EP X pins σ Q) X.xe s
  refine PySem.W.cmp_K (op := .Eq) (tb := t) hr.units0 fr I.ok.mod.kin J (Z.ty _ _ I.kIn p) nf d.at_ d.fn ?_
  refine wpAny_mono (run_in F hr I.env0 hb I (.cons (a := V.ref a) rfl (.cons ry .nil)) q) ?_ (fun _ _ z => z)
  rintro w s' ⟨z, H1, I1, rz, c, rfl, q1⟩
  cases (show w = Value.bool c from rz)
  exact ⟨.bl c, H1, I1, rfl, q1⟩
structure NeC (K : PySem.W.Frag) (C : Addr) : Prop where
  ne : PySem.W.findIn K (.ref C) "__ne__" = some (some (.builtin "object.__ne__"))
  mro : PySem.W.mroIn K C (.type "object") = some true
theorem op_neA (N : NeC X.K C) (d : Dun X.K C f "__eq__") (F : FnOk X.prog X.w X.K X.mg X.base CX0 k f fd ps sp) (hr : Room (k + 1) X.A) (hb : Binds X.K fd ps []) : OpR X (compareOp .NotEq) (rEqA X.K C sp true) := by
  intro pins s σ H x y v u Q I rx ry h
  obtain ⟨a, dx, fs, t, rfl, e, ty, nf, q⟩ := h
  cases (show v = Value.ref a from rx)
  obtain ⟨ox, od, J⟩ := at_ins I e
  obtain ⟨PH, Z, p, _⟩ := kit_of I ry ty
  obtain ⟨m, fr⟩ := I.fr
  show wpAny (model X.prog X.w) X.A (richCompare .NotEq (.ref a) u) (EP X pins σ Q) X.xe s
  refine PySem.W.ne_K (tb := t) hr.units0 hr.in1.units0 fr I.ok.mod.kin J (Z.ty _ _ I.kIn p) nf N.ne N.mro d.at_ d.fn ?_
  refine wpAny_mono (run_in F hr.in1 I.env0.in1 hb I (.cons (a := V.ref a) rfl (.cons ry .nil)) q) ?_ (fun _ _ z => z)
  rintro w s' ⟨z, H1, I1, rz, c, rfl, q1⟩
  cases (show w = Value.bool c from rz)
  exact ⟨c, rfl, .bl (!c), H1, I1, rfl, q1⟩
end
end Uq
namespace Uq
open PySem PySem.Spec PyProof.Rows L2 LamX
/-! ### an exception that was caught, as a value -/
def ExcK (H : Hp) (a C : Addr) (v : V) : Prop := ∃ dx : Addr, H a = some (exk a (.ref C) (some dx)) ∧ H dx = some (.xd [("value", v)])
theorem ExcK.same {H H' : Hp} {a C : Addr} {v : V} (s : Same H H') (e : ExcK H a C v) : ExcK H' a C v := by
  obtain ⟨dx, h1, h2⟩ := e
  exact ⟨dx, s _ _ h1, s _ _ h2⟩
theorem excK_inst {P : Program} {w : World} {H : Hp} {h : Heap} {a C : Addr} {v : V} (hok : HOk P w H h) (e : ExcK H a C v) : ∃ (ox od : Obj) (mA : Str → Option Value) (dx : Addr), PySem.W.InstAt h a ox C (some od) ∧ h.Ns1 dx mA ∧ h.get? dx = some od ∧ ox.dict = some dx ∧ ∀ f, RelO (([("value", v)] : List (Str × V)).lookup f) (mA f) := by
  obtain ⟨dx, h1, h2⟩ := e
  obtain ⟨ob, fv, g, z, y⟩ := exk_at hok h1
  obtain ⟨mA, hns, rel⟩ := hok dx _ h2
  obtain ⟨od, hod, hl⟩ := lookIn_ns hns
  have z1 := z.1
  have z2 := z.2
  cases ob
  dsimp only at z1 z2 y
  subst z1
  subst z2
  subst y
  exact ⟨_, od, mA, dx, ⟨g, rfl, rfl, hod⟩, hns, hod, rfl, rel⟩
def rIsK (K : PySem.W.Frag) : List V → Hp → VK → Prop := fun xs H Q => ∃ (a C : Addr) (v c : V) (u : Value) (b : Bool), xs = [.ref a, c] ∧ ClsV c u ∧ Xcl K C ∧ ExcK H a C v ∧ PySem.W.kitOne K (.ref C) u = some b ∧ Q (.bl b) H
theorem call_isK {X : Cx} : CallR X (.builtin "isinstance") (rIsK X.K) := by
  intro pins s σ H xs us Q I r h
  obtain ⟨a, C, v, c, u, b, rfl, k, T, E, e, q⟩ := h
  obtain ⟨u1, u2, rfl, r1, r2⟩ := vals2 r
  cases (show u1 = Value.ref a from r1)
  have e2 := k.eq r2
  subst e2
  obtain ⟨ox, od, mA, dx, J, _⟩ := excK_inst I.hok E
  have hcl : (PySem.W.clsIn X.K C).isSome = true := by
    obtain ⟨cd, hc, _⟩ := PySem.W.any_some T.hd
    rw [hc]
    rfl
  exact PySem.W.kia_one (PySem.W.kitx_exc (x := a) (ox := ox) (od := some od) hcl T.ga T.gg T.T.exC T.cl T.sp T.tk T.mo) I.kIn J e (fun z => nomatch z) fun tk => ⟨.bl b, H, I.tok tk, rfl, q⟩
/-- x.value -/
def tKv (K : PySem.W.Frag) (te : TE) : TE := fun σ H Q => te σ H fun x H1 => ∃ (a C : Addr) (v : V), x = .ref a ∧ Xcl K C ∧ ExcK H1 a C v ∧ Q v H1
theorem pe_kv {X : Cx} {e : Expr} {te : TE} {pos : Pos} (he : PE X e te) (hb : attributeBase e "value" X.env (eval e X.env) = eval e X.env := by rfl) : PE X (.Attribute e "value" pos) (tKv X.K te) := by
  refine ⟨fun pins s σ H Q I h => ?_⟩
  refine attr_of hb (thn (he.run pins s σ H _ I h) fun u s1 hh => ?_)
  obtain ⟨x, H1, I1, rx, a, C, v, ex, T, E, q⟩ := hh
  subst ex
  obtain rfl : u = Value.ref a := rx
  obtain ⟨ox, od, mA, dx, J, hns, hod, hdx, rel⟩ := excK_inst I1.hok E
  obtain ⟨od2, hod2, hl⟩ := lookIn_ns hns
  obtain rfl : od2 = od := by
    rw [hod] at hod2
    exact (Option.some.inj hod2).symm
  obtain ⟨u, hu, ru⟩ := RelO.some_of (v := v) (o := mA "value") (rel "value")
  exact PySem.HandSPX.exc_get I1.kIn J T.ga T.gg T.T.exC (PySem.W.findObj_own T.hd T.va rfl (by rw [hl, hu])) (handed_of ru) ⟨v, H1, I1.tok _, ru, q⟩
section
variable {X : Cx} {C f : Addr} {k : Nat} {fd : FuncData} {ps : List Str} {sp : Sp} {E : XK}
theorem run_inX {pins : List (Addr × Obj)} {σ : L2.St} {H : Hp} {s : Shared} {Q : VK} {us : List Value} {vs : List V} {A : Around} (F : FnOk X.prog X.w X.K X.mg X.base (L2.CX X.prog X.w) k f fd ps sp) (hx : Passes (L2.CX X.prog X.w) X E) (hr : Room k A) (e0 : Env0 X.prog X.w X.K X.mg X.base A X.stack s H) (hb : Binds X.K fd ps [])
    (I : Inv X pins σ H s) (r : Vals vs us) (h : sp vs H Q E) : wpAny (model X.prog X.w) A (call (.ref f) us) (EP X pins σ Q) X.xe s := by
  have n := r.length.symm.trans (F.len _ _ _ _ h)
  have bd := hb s us I.kIn (by rw [List.append_nil]; exact n)
  rw [List.append_nil] at bd
  refine wpAny_call (codeAny_mono (F.run A X.stack s H ⟨us, []⟩ us vs Q E hr e0 bd r h) ?_)
  rintro (e | (_ | _ | _ | u)) s' got
  · exact hx pins σ H s e s' I got
  all_goals first
    | exact False.elim got
    | exact I.after got
end
/-- a lambda's body lets out what it is asked to -/
theorem lam_takes {X : Cx} {A : Around} {outer : List Env} {s : Shared} {H : Hp} {E : XK} {scope : Scope} {f c' : Addr} : Passes (L2.CX X.prog X.w) (lamCx X A outer s H E scope f c') E :=
  passes_call (takes_of (X := lamCx X A outer s H E scope f c') rfl rfl rfl rfl) fun _ _ _ _ h => h
end Uq
namespace Uq
open PySem PySem.Spec PyProof.Rows L2
/-! ### cuts and sums of tuples, whatever stays itself -/
theorem slA_in {K : PySem.W.Frag} {H : Hp} {C : Addr} {xs : List V} {lo hi : Option Int} {Q : VK} (hx : SqT K H C xs) (h : ∀ H' t, Same H H' → SqT K H' t (cutV xs lo hi) → Q (.ref t) H') : rSlA K (.ref C) lo hi H Q := by
  refine ⟨C, xs, rfl, hx, fun hw => h _ _ (fun _ _ e => e) ?_, fun _ t nt => h _ _ (sameU nt) (SqT.of upd_same)⟩
  unfold cutV
  rw [hw.1, hw.2, List.drop_zero, Nat.sub_zero, List.take_length]
  exact hx
theorem catA_in {K : PySem.W.Frag} {H : Hp} {a b : Addr} {xs ys : List V} {Q : VK} (ha : SqT K H a xs) (hb : SqT K H b ys) (hz : xs.length + ys.length ≤ sizeLine) (h : ∀ H' t, Same H H' → SqT K H' t (xs ++ ys) → Q (.ref t) H') : rCatA K (.ref a) (.ref b) H Q := by
  refine ⟨a, b, xs, ys, rfl, rfl, ha, hb, hz, fun e => h _ _ (fun _ _ e => e) ?_, fun _ e => h _ _ (fun _ _ e => e) ?_, fun _ _ t nt => h _ _ (sameU nt) (SqT.of upd_same)⟩
  · rw [e, List.nil_append]
    exact hb
  · rw [e, List.append_nil]
    exact ha
end Uq
namespace Uq
open PySem PySem.Spec PyProof.Rows L2
/-! ### pages compared -/
abbrev s_Page__eq_ : Stmt := inClass (topS 35) 9
abbrev N_Page__eq_ : List Str := ["self", "other"]
theorem sc_Page__eq_ : FnScope N_Page__eq_ ["self", "other"] (defScope s_Page__eq_) := ⟨rfl, rfl, rfl, by decide +kernel, rfl, by decide +kernel, by decide +kernel⟩
/-- what isinstance asks of the class -/
structure PgT (K : PySem.W.Frag) (C : Addr) : Prop where
  ha : PySem.W.findIn K (.ref C) "__class__" = some (some (.builtin "object.__class__"))
  hn : PySem.W.specialIn K (.builtin "object.__class__") "__get__" = some (some (.builtin "getset_descriptor.__get__"))
  htk : PySem.W.takesIn K (.builtin "object.__class__") = some true
  hm : PySem.W.mroIn K C (.type "object") = some true
theorem pg_is {K : PySem.W.Frag} {C : Addr} {H : Hp} {a dx : Addr} {fs : List (Str × V)} (c : PgC K C) (T : PgT K C) (e : H a = some (.ins C dx fs)) : TyX K H (.ref a) (.ref C) := .base (.ins e c.cls T.ha T.hn T.htk T.hm)
theorem kit_own {K : PySem.W.Frag} {C : Addr} : PySem.W.kitOne K (.ref C) (.ref C) = some true := by
  unfold PySem.W.kitOne
  rw [if_pos (by simp)]
def sp_Page__eq_ (K : PySem.W.Frag) (C : Addr) : Sp := fun vs H Q _ => ∃ (b : Nat) (h x : Str) (rs : List Rw) (a dx u d e : Addr) (b' : Nat) (h' x' : Str) (rs' : List Rw) (a' dx' u' d' e' : Addr), vs = [.ref a, .ref a'] ∧ PgO K C b h x rs H a dx u d e ∧ PgO K C b' h' x' rs' H a' dx' u' d' e' ∧ Q (.bl (decide (V.str (pageT b h x rs) = V.str (pageT b' h' x' rs')))) H
section
variable {P : Program} {w : World} {K : PySem.W.Frag} {mg : Str → Option Value} {base : Heap} {C : Addr}
theorem ok_Page__eq_ (c : PgC K C) (T : PgT K C) (gC : mg "Page" = some (.ref C)) {f : Addr} {fd : FuncData} (F : Fun K "__eq__" "Page.__eq__" s_Page__eq_ f fd) (m_isinstance : mg "isinstance" = none) : FnOk P w K mg base CX0 1 f fd ["self", "other"] (sp_Page__eq_ K C) := by
  refine F.ok sc_Page__eq_ (fun vs H Q E h => ?_) (fun cdv A outer s H vs Q E hr h => ?_)
  · obtain ⟨b, h, x, rs, a, dx, u, d, e, b', h', x', rs', a', dx', u', d', e', rfl, _⟩ := h
    rfl
  · refine ⟨_, (pss_one (ps_ret (pe_and (pe_callB call_isi (by rfl) m_isinstance (by decide +kernel) (pa_cons (pv 1) (pa_cons (pe_glob (v := .ref C) (by rfl) gC rfl) pa_nil))) (pe_one (pe_cmpR op_eq (pe_fld (pv 0) (by rfl)) (pe_fld (pv 1) (by rfl)) (nomark _)))))), ?_⟩
    obtain ⟨b, h, x, rs, a, dx, u, d, e, b', h', x', rs', a', dx', u', d', e', rfl, O, O', q⟩ := h
    refine ret_in ⟨.ref a', rfl, .ref a', .ref C, _, _, true, rfl, .own C, pg_is c T O'.at_, kit_own, true, rfl, iteT ?_⟩
    refine ⟨.ref a, rfl, a, C, dx, _, .str _, rfl, O.at_, c.cls, c.text, rfl, ?_⟩
    exact ⟨.ref a', rfl, a', C, dx', _, .str _, rfl, O'.at_, c.cls, c.text, rfl, rfl, q⟩
end
structure CsOk (x : Str) (qs : List R4) (cs : List Int) : Prop where
  len : cs.length = (endsL x qs).length
  pos : ∀ c ∈ cs, 0 ≤ c
  some_ : 0 < cs.sum
  big : cs.sum < 2 ^ 40
theorem sum_nn : ∀ {cs : List Int}, (∀ c ∈ cs, 0 ≤ c) → 0 ≤ cs.sum
  | [], _ => Int.le_refl _
  | d :: cs, h => by
    rw [List.sum_cons]
    have a := sum_nn (cs := cs) fun k mk => h k (List.mem_cons_of_mem _ mk)
    have b := h d List.mem_cons_self
    omega
theorem le_sum {c : Int} : ∀ {cs : List Int}, (∀ c ∈ cs, 0 ≤ c) → c ∈ cs → c ≤ cs.sum
  | d :: cs, h, m => by
    have a := sum_nn (cs := cs) fun k mk => h k (List.mem_cons_of_mem _ mk)
    have d0 := h d List.mem_cons_self
    rw [List.sum_cons]
    rcases List.mem_cons.mp m with e | m
    · omega
    · have := le_sum (fun k mk => h k (List.mem_cons_of_mem _ mk)) m
      omega
theorem tbR_of {b : Nat} {h x : Str} {qs : List R4} {W : Str → List Str} {cs : List Int} (P : Pg b h x (qs.map mkR)) (Y : Wys x (qs.map mkR) W) (ok : CsOk x qs cs) : TbR b h x (qs.map mkR) W cs := by
  refine ⟨P, fun q me => ?_, by rw [ok.len, endsL_ends], ok.pos, ok.some_⟩
  obtain ⟨l, hl, rfl⟩ := List.mem_map.mp (ends_sub me)
  exact Y.way l hl
theorem tb_is {K : PySem.W.Frag} {C : Addr} {H : Hp} {a dx : Addr} {fs : List (Str × V)} (c : TbC K C) (T : PgT K C) (e : H a = some (.ins C dx fs)) : TyX K H (.ref a) (.ref C) := .base (.ins e c.cls T.ha T.hn T.htk T.hm)
end Uq
namespace Uq
open PySem PySem.Spec PyProof.Rows L2
/-! ### tables told, compared, added; an error where the pages are unlike -/
abbrev s_Table__eq_ : Stmt := inClass (topS 27) 7
abbrev N_Table__eq_ : List Str := ["self", "other"]
theorem sc_Table__eq_ : FnScope N_Table__eq_ ["self", "other"] (defScope s_Table__eq_) := ⟨rfl, rfl, rfl, by decide +kernel, rfl, by decide +kernel, by decide +kernel⟩
abbrev s_Table_page : Stmt := inClass (topS 27) 1
abbrev N_Table_page : List Str := ["self"]
theorem sc_Table_page : FnScope N_Table_page ["self"] (defScope s_Table_page) := ⟨rfl, rfl, rfl, by decide +kernel, rfl, by decide +kernel, by decide +kernel⟩
abbrev s_Table_counts : Stmt := inClass (topS 27) 2
abbrev N_Table_counts : List Str := ["self"]
theorem sc_Table_counts : FnScope N_Table_counts ["self"] (defScope s_Table_counts) := ⟨rfl, rfl, rfl, by decide +kernel, rfl, by decide +kernel, by decide +kernel⟩
abbrev s_AskedError__init_ : Stmt := inClass (topS 3) 0
abbrev N_AskedError__init_ : List Str := ["self", "value"]
theorem sc_AskedError__init_ : FnScope N_AskedError__init_ ["self", "value"] (defScope s_AskedError__init_) := ⟨rfl, rfl, rfl, by decide +kernel, rfl, by decide +kernel, by decide +kernel⟩
theorem lay_ints : ∀ l : List Int, PyData.canLayAll0 (l.map PyData.int) = true
  | [] => rfl
  | _ :: l => by
    rw [List.map_cons, PyData.canLayAll0, lay_ints l]
    rfl
theorem dep_ints : ∀ l : List Int, PyData.depthAll (l.map PyData.int) = 0
  | [] => rfl
  | _ :: l => by
    rw [List.map_cons, PyData.depthAll, dep_ints l]
    rfl
theorem shaped_ints (l : List Int) : SeqAt.shaped (.tuple (l.map PyData.int)) = true := by
  unfold SeqAt.shaped
  rw [PyData.canLay0, lay_ints, PyData.depth, dep_ints]
  rfl
theorem dpI {K : PySem.W.Frag} {H : Hp} : ∀ l : List Int, DpAll K H (l.map V.int) (l.map PyData.int)
  | [] => .nil
  | x :: l => .cons (.int x) (dpI l)
def sp_Table_page (K : PySem.W.Frag) (C Ct : Addr) : Sp := fun vs H Q _ => ∃ (b : Nat) (h x : Str) (rs : List Rw) (W : Str → List Str) (cs : List Int) (a dx pa dp u d e T M : Addr), vs = [.ref a] ∧ TbO K C Ct b h x rs W cs H a dx pa dp u d e T M ∧ Q (.ref pa) H
def sp_Table_counts (K : PySem.W.Frag) (C Ct : Addr) : Sp := fun vs H Q _ => ∃ (b : Nat) (h x : Str) (rs : List Rw) (W : Str → List Str) (cs : List Int) (a dx pa dp u d e T M : Addr), vs = [.ref a] ∧ TbO K C Ct b h x rs W cs H a dx pa dp u d e T M ∧ Q (.ref T) H
section
variable {P : Program} {w : World} {K : PySem.W.Frag} {mg : Str → Option Value} {base : Heap} {C Ct CO : Addr}
theorem ok_AskedError__init_ {f : Addr} {fd : FuncData} (F : Fun K "__init__" "AskedError.__init__" s_AskedError__init_ f fd) : FnOk P w K mg base CX0 1 f fd ["self", "value"] (sp_init K) := by
  refine F.ok sc_AskedError__init_ (fun vs H Q E h => ?_) (fun cdv A outer s H vs Q E hr h => ?_)
  · obtain ⟨a, C, v, rfl, _⟩ := h
    rfl
  · refine ⟨_, pss_one (ps_ost (f := "value") (pv 0) (pv 1)), ?_⟩
    obtain ⟨a, C, v, rfl, T, e, q⟩ := h
    exact ⟨v, rfl, .ref a, rfl, a, C, rfl, T.T, T.va, .inl ⟨e, fun dx hd hn => q dx hd hn⟩⟩
theorem ok_Table_page (c : TbC K Ct) {f : Addr} {fd : FuncData} (F : Fun K "page" "Table.page" s_Table_page f fd) : FnOk P w K mg base CX0 1 f fd ["self"] (sp_Table_page K C Ct) := by
  refine F.ok sc_Table_page (fun vs H Q E h => ?_) (fun cdv A outer s H vs Q E hr h => ?_)
  · obtain ⟨b, h, x, rs, W, cs, a, dx, pa, dp, u, d, e, T, M, rfl, _⟩ := h
    rfl
  · refine ⟨_, (pss_one (ps_ret (pe_fld (pv 0) (by rfl)))), ?_⟩
    obtain ⟨b, h, x, rs, W, cs, a, dx, pa, dp, u, d, e, T, M, rfl, O, q⟩ := h
    exact ret_in ⟨.ref a, rfl, a, Ct, dx, _, .ref pa, rfl, O.at_, c.cls, c.page, rfl, q⟩
theorem ok_Table_counts (c : TbC K Ct) {f : Addr} {fd : FuncData} (F : Fun K "counts" "Table.counts" s_Table_counts f fd) : FnOk P w K mg base CX0 1 f fd ["self"] (sp_Table_counts K C Ct) := by
  refine F.ok sc_Table_counts (fun vs H Q E h => ?_) (fun cdv A outer s H vs Q E hr h => ?_)
  · obtain ⟨b, h, x, rs, W, cs, a, dx, pa, dp, u, d, e, T, M, rfl, _⟩ := h
    rfl
  · refine ⟨_, (pss_one (ps_ret (pe_fld (pv 0) (by rfl)))), ?_⟩
    obtain ⟨b, h, x, rs, W, cs, a, dx, pa, dp, u, d, e, T, M, rfl, O, q⟩ := h
    exact ret_in ⟨.ref a, rfl, a, Ct, dx, _, .ref T, rfl, O.at_, c.cls, c.counts, rfl, q⟩
end
end Uq
namespace Uq
open PySem PySem.Spec PyProof.Rows L2
/-! ### a tuple from behind: xs[::-1] -/
def revK {α : Type} (xs : List α) : List α := ((List.range xs.length).map fun k : Nat => ((xs.length : Int) - 1 + k * (-1)).toNat).filterMap (xs[·]?)
theorem rev_len {α : Type} {xs : List α} : (revK xs).length ≤ xs.length := by
  unfold revK
  refine Nat.le_trans (List.length_filterMap_le _ _) ?_
  rw [List.length_map, List.length_range]
  exact Nat.le_refl _
theorem sliceApplied_rev {prog : Program} {w : World} {A : Around} {E : Value → Shared → Prop} {s : Shared} {sl : Addr} {u : Tok} {n : Nat} {Q : Int × Int × Nat → Shared → Prop} (hs : s.heap.IsSliceOf sl .none .none (.int (-1) u)) (q : Q ((n : Int) - 1, -1, n) s) : wpAny (model prog w) A (Builtin.Slice.sliceApplied (.ref sl) (pure ↑n)) Q E s := by
  obtain ⟨o, e, c, d⟩ := hs
  unfold Builtin.Slice.sliceApplied Builtin.Slice.sliceFields
  refine wpAny_bind (wpAny_bind (wpAny_field e d rfl (wpAny_bind (wpAny_field e d rfl (wpAny_bind (wpAny_field e d rfl (wpAny_pure ?_)))))))
  refine wpAny_bind (HT.slicePart_ (.int (-1) u) ?_)
  rw [if_neg (by decide)]
  refine wpAny_bind (slicePart_none (wpAny_bind (slicePart_none (wpAny_bind (wpAny_pure ?_)))))
  refine wpAny_pure ?_
  have h1 : (Builtin.Slice.sliceAdjust none none (-1) (n : Int)) = ((n : Int) - 1, -1) := rfl
  show Q ((Builtin.Slice.sliceAdjust none none (-1) (n : Int)).1, -1, Builtin.Slice.slicePlaces (Builtin.Slice.sliceAdjust none none (-1) (n : Int)).1 (Builtin.Slice.sliceAdjust none none (-1) (n : Int)).2 (-1)) s
  rw [h1]
  have h2 : Builtin.Slice.slicePlaces ((n : Int) - 1) (-1) (-1) = n := by
    unfold Builtin.Slice.slicePlaces
    rw [if_neg (by decide)]
    split
    · rw [show (-(-1) : Int) = 1 from rfl, Int.ediv_one]
      omega
    · omega
  show Q ((n : Int) - 1, -1, Builtin.Slice.slicePlaces ((n : Int) - 1) (-1) (-1)) s
  rw [h2]
  exact q
theorem getItem_tuple_rev {prog : Program} {w : World} {A : Around} {E : Value → Shared → Prop} {s : Shared} {t sl : Addr} {items : Array Value} {u : Tok} {Q : Value → Shared → Prop} (ht : IsTup s.heap t items) (hs : s.heap.IsSliceOf sl .none .none (.int (-1) u))
    (h : Q (.ref s.heap.objs.size) { s with heap := s.heap.push { cls := .type "tuple", data := .seq (revK items.toList).toArray } }) (hz : items.size ≤ sizeLine) : wpAny (model prog w) A (getItem (.ref t) (.ref sl)) Q E s := by
  have hs0 := hs
  obtain ⟨o, e, c, d⟩ := hs
  have tS : s.TypeIs (.ref sl) "slice" := ⟨o, e, c⟩
  unfold getItem
  refine wpAny_holding ?_
  refine wpAny_bind (wpAny_sequenceKey ht.typeIs (by decide) ?_)
  refine wpAny_bind (wpAny_callSpecial?_slot ht.typeIs slot_tuple_getitem ?_)
  refine wpAny_call_entry slot_tuple_getitem ht.typeIs entry_tuple_getitem ?_ (args_tuple_getitem _ _)
  unfold Builtin.«tuple.__getitem__»
  refine wpAny_bind (wpAny_pure ?_)
  refine wpAny_bind (tupleItemsOf_ ht ?_)
  refine wpAny_bind (wpAny_typeOf tS ?_)
  rw [if_pos (by decide)]
  refine wpAny_bind (sliceApplied_rev hs0 ?_)
  have n1 : ¬ (((items.size : Int) - 1 == 0 && (-1 : Int) == 1 && items.size == items.size) = true) := by simp
  dsimp only
  rw [if_neg n1]
  unfold Builtin.Tuple.tupleExact
  have e2 : ((List.range items.size).filterMap fun k => items[((items.size : Int) - 1 + ↑k * -1).toNat]?) = revK items.toList := by
    unfold revK
    rw [List.filterMap_map, Array.length_toList]
    congr 1
    funext k
    show _ = items.toList[_]?
    rw [Array.getElem?_toList]
  rw [e2]
  refine wpAny_bind (wpAny_newObj_type ?_ ?_)
  · refine wpAny_pure ⟨_, rfl, ?_⟩
    exact wpAny_pure h
  · show (revK items.toList).toArray.size ≤ sizeLine
    rw [List.size_toArray]
    refine Nat.le_trans rev_len ?_
    rw [Array.length_toList]
    exact hz
theorem vals_pickT {xs : List V} {its : List Value} (r : Vals xs its) : Vals (revK xs) (revK its) := by
  unfold revK
  rw [r.length]
  exact vals_pick r _
def tRev (K : PySem.W.Frag) (te : TE) (ts : L2.St → Hp → (Option Int → Hp → Prop) → Prop) : TE := fun σ H Q => te σ H fun x H1 => ts σ H1 fun k H4 => ∃ a xs, x = .ref a ∧ SqT K H4 a xs ∧ k = some (-1) ∧ ∀ p, H4 p = none → Q (.ref p) (upd H4 p (.tup (revK xs)))
theorem pe_rev {X : Cx} {e st : Expr} {te : TE} {ts : L2.St → Hp → (Option Int → Hp → Prop) → Prop} {p2 pos : Pos} (he : PE X e te) (hs : PO X (some st) ts) : PE X (.Subscript e (.Slice none none (some st) p2) pos) (tRev X.K te ts) := by
  constructor
  intro pins s σ H Q I h
  apply Subscript_
  refine thn (he.run pins s σ H _ I h) ?_
  rintro v s1 ⟨x, H1, I1, rx, q1⟩
  apply wpAny_Slice
  refine thn ((po_none (X := X)).run pins s1 σ H1 (fun o H' => o = none ∧ H' = H1) I1 ⟨rfl, rfl⟩) ?_
  rintro vl s2 ⟨l, H2, I2, pl, rfl, rfl⟩
  refine thn ((po_none (X := X)).run pins s2 σ H2 (fun o H' => o = none ∧ H' = H2) I2 ⟨rfl, rfl⟩) ?_
  rintro vu s3 ⟨l2, H3, I3, pu, rfl, rfl⟩
  refine thn (hs.run pins s3 σ H3 _ I3 q1) ?_
  rintro vk s4 ⟨k, H4, I4, pk, a, xs, rfl, hx, rfl, q⟩
  cases (show v = Value.ref a from rx)
  cases pl
  cases pu
  obtain ⟨u, rfl⟩ : ∃ u, vk = .int (-1) u := by
    cases pk
    exact ⟨_, rfl⟩
  have I5 : Inv X pins σ H4 { s4 with heap := s4.heap.push { cls := .type "slice", data := .fields #[.none, .none, .int (-1) u] } } := I4.kept (t' := s4.toks) fun b ob z => Heap.get?_push_of_some _ z
  obtain ⟨its, r, ht, hsz⟩ := I5.tuple hx
  have hlen := r.length
  have hT : typeLookup (.type "tuple") "__getitem__" = pure (some (.builtin _)) := slot_tuple_getitem.lookup
  refine tail_any (ops := [.ref a, .ref s4.heap.objs.size]) ht.typeIs hT ?_ (by with_unfolding_all rfl)
  refine getItem_tuple_rev ht (Heap.IsSliceOf.new ..) ?_ (by rw [List.size_toArray]; omega)
  have rel := vals_pickT r
  refine ⟨.ref _, _, I5.laid (o := .tup (revK xs)) (fun b ob z => Heap.get?_push_of_some _ z) (Nat.le_refl _) ?_, rfl, q _ (I5.hok.fresh (Nat.le_refl _))⟩
  exact ⟨Nat.le_trans rev_len hsz, _, rel, IsTup.new _ _⟩
end Uq
set_option maxHeartbeats 4000000
namespace Uq
open PySem PySem.Spec PyProof.Rows L2
/-! ### a tuple so many times: of nothing, and once, it is itself -/
theorem tuple_mul1 (l : Addr) (items : Array Value) (n : Nat) (dd : Option Addr) (sl : Array (Option Value)) (x : Int) (u : Tok) (c0 : (decide (x < -(2 ^ 63)) || decide (x ≥ 2 ^ 63)) = false) (c1 : (items.isEmpty || x == 1) = true) :
    Meets (Builtin.«tuple.__mul__» ⟨[.ref l, .int x u], []⟩) (fun _ R s => s.heap.get? l = some { cls := .type "tuple", dict := dd, data := .seq items n, slots := sl } ∧ R (.ok (.ret (Value.ref l))) s) :=
  .of_wp fun prog w A R s h => by
    obtain ⟨hp, g, d, tk, os⟩ := s
    obtain ⟨hl, h⟩ := h
    have f1 := AutoSeq1.idx_int
    wp_walk using wpAny_loadPart' hl
    repeat (first
      | (refine wpAny_ite_false (decide_eq_false (by rw [c0]; exact Bool.false_ne_true)) ?_; wp_walk using wpAny_loadPart' hl)
      | (refine wpAny_ite_true (decide_eq_true c1) ?_; wp_walk using wpAny_loadPart' hl))
    exact ⟨_, rfl, h⟩
def rRepT1 (K : PySem.W.Frag) : R2 := fun x y H Q => ∃ l k xs, x = .ref l ∧ y = .int k ∧ SqT K H l xs ∧ 1 ≤ k ∧ k ≤ 1000 ∧ xs.length ≤ 1000 ∧ (xs = [] ∨ k = 1 → Q (.ref l) H) ∧ (¬ (xs = [] ∨ k = 1) → ∀ t, H t = none → Q (.ref t) (upd H t (.tup (List.replicate k.toNat xs).flatten)))
theorem op_repA {X : Cx} : OpR X (binaryOp .Mult) (rRepT1 X.K) := by
  intro pins s σ H x y v u Q I rx ry h
  obtain ⟨l, k, xs, rfl, rfl, hT, h1, h2, hz, q, q2⟩ := h
  by_cases hc : xs = [] ∨ k = 1
  · cases rx
    obtain ⟨t, rfl⟩ := ry
    obtain ⟨its, r, ⟨⟨cls, dd, data, sl⟩, ho, hc', n, hd⟩, hs⟩ := I.tuple hT
    simp only at hc' hd
    subst hc' hd
    have c0 : (decide (k < -(2 ^ 63)) || decide (k ≥ 2 ^ 63)) = false := by
      rw [decide_eq_false (by omega), decide_eq_false (by omega)] <;> rfl
    have c1 : (its.toArray.isEmpty || k == 1) = true := by
      rcases hc with rfl | rfl
      · have e : its = [] := List.eq_nil_of_length_eq_zero r.length.symm
        rw [e]
        rfl
      · simp
    refine wpAny_binaryOp_repeat_ref (T := "tuple") (U := "int") (by decide) ⟨_, ho, rfl⟩ (fun s' => typeIs_int s' k t) noFill_tuple_mul F.fills_int_mul F.slot_int_rmul repeat_tuple F.slot_int_index.lookup
      (call_meets F.slot_int_rmul (typeIs_int s k t) F.entry_int_rmul (F.args_int_rmul_2 _ _) (int_rmul_tuple k t l its.toArray n dd sl)
        ⟨ho, rfl, ⟨_, ho, rfl⟩, call_meets F.slot_tuple_mul ⟨_, ho, rfl⟩ F.entry_tuple_mul (F.args_tuple_mul_2 _ _) (tuple_mul1 l its.toArray n dd sl k t c0 c1) ⟨ho, ?_⟩⟩)
    exact ⟨.ref l, H, I, rfl, q hc⟩
  · refine op_repT pins s σ H _ _ v u Q I rx ry ⟨l, k, xs, rfl, rfl, hT, fun e => hc (.inl e), ?_, h2, hz, q2 hc⟩
    have : k ≠ 1 := fun e => hc (.inr e)
    omega
end Uq
namespace Uq
open PySem PySem.Spec PyProof.Rows L2
/-! ### data beside the pot and beside lists that still grow -/
/-- all that is tracked but at these places -/
def offs (N : List Addr) (H : Hp) : Hp := fun b => if b ∈ N then none else H b
theorem offs_ne {N : List Addr} {b : Addr} {H : Hp} (h : b ∉ N) : offs N H b = H b := if_neg h
theorem offs_in {N : List Addr} {b : Addr} {H : Hp} (h : b ∈ N) : offs N H b = none := if_pos h
theorem offs_sub {N : List Addr} {H : Hp} : Same (offs N H) H := fun b o e => by
  by_cases z : b ∈ N
  · rw [offs_in z] at e
    cases e
  · rw [offs_ne z] at e
    exact e
theorem But.offs {p : Addr} {N : List Addr} {H H' : Hp} (m : p ∈ N) (e : But p H H') : Same (offs N H) (offs N H') := fun b o h => by
  by_cases z : b ∈ N
  · rw [offs_in z] at h
    cases h
  · rw [offs_ne z] at h ⊢
    exact e b o (fun y => z (y ▸ m)) h
theorem offs_upd {N : List Addr} {V : Addr} {H : Hp} {o : HO} (m : V ∈ N) : offs N (upd H V o) = offs N H := by
  funext b
  by_cases z : b ∈ N
  · rw [offs_in z, offs_in z]
  · have ne : b ≠ V := fun e => z (by rw [e]; exact m)
    rw [offs_ne z, offs_ne z, upd_ne ne]
structure PotN (N : List Addr) (H : Hp) (p : Addr) (c : Nat) : Prop where
  pot : Pot H p c
  mem : p ∈ N
  is : ∀ b ∈ N, H b ≠ none
section
variable {N : List Addr} {H H' : Hp} {p a : Addr} {c c' : Nat} {o : HO}
theorem PotN.nin (h : PotN N H p c) (ha : H a = none) : a ∉ N := fun m => h.is a m ha
theorem PotN.ne (h : PotN N H p c) (ha : H a = none) : a ≠ p := h.pot.ne ha
theorem PotN.new (h : PotN N H p c) (ha : H a = none) : PotN N (upd H a o) p c := ⟨h.pot.new ha, h.mem, fun b m e => by
  have ne : b ≠ a := fun z => h.nin ha (by rw [← z]; exact m)
  rw [upd_ne ne] at e
  exact h.is b m e⟩
theorem PotN.but (h : PotN N H p c) (s : But p H H') (hp : Pot H' p c') : PotN N H' p c' := ⟨hp, h.mem, fun b m e => by
  by_cases z : b = p
  · subst z
    exact hp.some e
  · cases hb : H b with
    | none => exact h.is b m hb
    | some x =>
      rw [s b x z hb] at e
      cases e⟩
theorem PotN.same (h : PotN N H p c) (s : Same H H') : PotN N H' p c := h.but (But.of s) (h.pot.same s)
theorem PotN.mono (h : PotN N H p c) (l : c ≤ c') : PotN N H p c' := ⟨h.pot.mono l, h.mem, h.is⟩
theorem PotN.grow (h : PotN N H p c) (ha : H a = none) : PotN (a :: N) (upd H a o) p c := ⟨h.pot.new ha, List.mem_cons_of_mem _ h.mem, fun b m e => by
  rcases List.mem_cons.mp m with rfl | m
  · rw [upd_same] at e
    cases e
  · exact (h.new (o := o) ha).is b m e⟩
/-- such a list is written -/
theorem PotN.put (h : PotN N H p c) (ne : a ≠ p) : PotN N (upd H a o) p c := ⟨h.pot.upd (Ne.symm ne), h.mem, fun b m e => by
  by_cases z : b = a
  · subst z
    rw [upd_same] at e
    cases e
  · rw [upd_ne z] at e
    exact h.is b m e⟩
end
section
variable {K : PySem.W.Frag} {N : List Addr} {p : Addr} {c c1 c2 : Nat} {σ : L2.St} {H0 : Hp}
/-- a display: from wherever on, it gives new data, one of S -/
def DispN (K : PySem.W.Frag) (N : List Addr) (p : Addr) (c c' : Nat) (σ : L2.St) (H0 : Hp) (te : TE) (S : PyData → Prop) : Prop := ∀ H Q, But p H0 H → PotN N H p c → (∀ v H1 d, S d → But p H H1 → PotN N H1 p c' → Dx K (offs N H1) v d → Q v H1) → te σ H Q
def DispNA (K : PySem.W.Frag) (N : List Addr) (p : Addr) (c c' : Nat) (σ : L2.St) (H0 : Hp) (ta : TA) (S : List PyData → Prop) : Prop := ∀ H Q, But p H0 H → PotN N H p c → (∀ vs H1 ds, S ds → But p H H1 → PotN N H1 p c' → DxAll K (offs N H1) vs ds → Q vs H1) → ta σ H Q
theorem dsp_v {te : TE} {v : V} {d : PyData} (h : ∀ H Q, Q v H → te σ H Q) (x : ∀ H, Dx K H v d) : DispN K N p c c σ H0 te (· = d) := fun H Q hB hP q => h H Q (q v H d rfl (But.refl _ _) hP (x _))
theorem dsp_c {v : V} {d : PyData} (x : ∀ H, Dx K H v d) : DispN K N p c c σ H0 (tC v) (· = d) := dsp_v (fun _ _ q => q) x
theorem dsp_var {i : Nat} {v : V} {d : PyData} {S : PyData → Prop} (e : σ[i]? = some (some v)) (x : Dx K (offs N H0) v d) (s : S d) : DispN K N p c c σ H0 (tVar i) S := fun H Q hB hP q => ⟨v, e, q v H d s (But.refl _ _) hP (x.same (hB.offs hP.mem))⟩
theorem dsp_nil : DispNA K N p c c σ H0 tNil (· = []) := fun H Q hB hP q => q [] H [] rfl (But.refl _ _) hP .nil
theorem dsp_consS {te : TE} {ta : TA} {S : PyData → Prop} {SA SB : List PyData → Prop} (h : DispN K N p c c1 σ H0 te S) (g : DispNA K N p c1 c2 σ H0 ta SA) (m : ∀ d ds, S d → SA ds → SB (d :: ds)) : DispNA K N p c c2 σ H0 (tCons te ta) SB := by
  intro H Q hB hP q
  refine h H _ hB hP fun v H1 d1 e1 hB1 hP1 x1 => ?_
  refine g H1 _ (hB.trans hB1) hP1 fun vs H2 ds2 e2 hB2 hP2 x2 => ?_
  exact q (v :: vs) H2 _ (m _ _ e1 e2) (hB1.trans hB2) hP2 (.cons (x1.same (hB2.offs hP1.mem)) x2)
theorem dsp_cons {te : TE} {ta : TA} {d : PyData} {ds : List PyData} (h : DispN K N p c c1 σ H0 te (· = d)) (g : DispNA K N p c1 c2 σ H0 ta (· = ds)) : DispNA K N p c c2 σ H0 (tCons te ta) (· = d :: ds) := dsp_consS h g fun _ _ a b => by rw [a, b]
theorem dsp_tupS {ta : TA} {SA : List PyData → Prop} {S : PyData → Prop} (h : DispNA K N p c c1 σ H0 ta SA) (m : ∀ ds, SA ds → ds.length ≤ sizeLine ∧ S (.tuple ds)) : DispN K N p c c1 σ H0 (tTup ta) S := by
  intro H Q hB hP q
  refine h H _ hB hP fun vs H1 ds e hB1 hP1 x => ⟨by rw [x.length]; exact (m ds e).1, fun a ha => ?_⟩
  have n : a ∉ N := hP1.nin ha
  exact q _ _ (.tuple ds) (m ds e).2 (hB1.new ha) (hP1.new ha) (.tup (.inl (.inl (by rw [offs_ne n, upd_same]))) (x.same ((But.refl p H1 |>.new ha).offs hP1.mem)))
theorem dsp_lstS {ta : TA} {SA : List PyData → Prop} {S : PyData → Prop} (h : DispNA K N p c c1 σ H0 ta SA) (m : ∀ ds, SA ds → ds.length ≤ sizeLine ∧ S (.list ds)) : DispN K N p c c1 σ H0 (tLstB ta) S := by
  intro H Q hB hP q
  refine h H _ hB hP fun vs H1 ds e hB1 hP1 x => ⟨by rw [x.length]; exact (m ds e).1, fun a ha hs => ?_⟩
  have n : a ∉ N := hP1.nin ha
  exact q _ _ (.list ds) (m ds e).2 (hB1.new ha) (hP1.new ha) (.lst (by rw [offs_ne n, upd_same]) hs (x.same ((But.refl p H1 |>.new ha).offs hP1.mem)))
theorem dsp_tup {ta : TA} {ds : List PyData} (h : DispNA K N p c c1 σ H0 ta (· = ds)) (z : ds.length ≤ sizeLine := by decide) : DispN K N p c c1 σ H0 (tTup ta) (· = .tuple ds) := dsp_tupS h fun es e => by
  cases e
  exact ⟨z, rfl⟩
theorem dsp_lst {ta : TA} {ds : List PyData} (h : DispNA K N p c c1 σ H0 ta (· = ds)) (z : ds.length ≤ sizeLine := by decide) : DispN K N p c c1 σ H0 (tLstB ta) (· = .list ds) := dsp_lstS h fun es e => by
  cases e
  exact ⟨z, rfl⟩
theorem dsp_dct0 : DispN K N p c c σ H0 tDNewK (· = .dict []) := by
  intro H Q hB hP q a ha
  have n : a ∉ N := hP.nin ha
  exact q _ _ _ rfl ((But.refl _ _).new ha) (hP.new ha) (.dct (kvs := []) (by rw [offs_ne n, upd_same]) rfl .nil)
theorem dspA_use {ta : TA} {H : Hp} {S : List PyData → Prop} {Q : List V → Hp → Prop} (d : DispNA K N p c c1 σ H ta S) (hP : PotN N H p c) (q : ∀ vs H1 ds, S ds → But p H H1 → PotN N H1 p c1 → DxAll K (offs N H1) vs ds → Q vs H1) : ta σ H Q := d H Q (But.refl _ _) hP q
/-- so many, each of some kind -/
def AllN (n : Nat) (S : PyData → Prop) (ds : List PyData) : Prop := ds.length = n ∧ ∀ d ∈ ds, S d
theorem dsp_n {n : Nat} {te : TE} {ta : TA} {S T : PyData → Prop} (h : DispN K N p c c1 σ H0 te T) (g : DispNA K N p c1 c2 σ H0 ta (AllN n S)) (k : ∀ d, T d → S d) : DispNA K N p c c2 σ H0 (tCons te ta) (AllN (n + 1) S) := dsp_consS h g fun d ds hd hds => ⟨congrArg (· + 1) hds.1, fun e m => by
  rcases List.mem_cons.mp m with rfl | m
  · exact k _ hd
  · exact hds.2 _ m⟩
theorem dsp_s {n : Nat} {te : TE} {ta : TA} {S : PyData → Prop} (h : DispN K N p c c1 σ H0 te S) (g : DispNA K N p c1 c2 σ H0 ta (AllN n S)) : DispNA K N p c c2 σ H0 (tCons te ta) (AllN (n + 1) S) := dsp_n h g fun _ h => h
theorem dsp_k {n : Nat} {te : TE} {ta : TA} {S : PyData → Prop} {d : PyData} (h : DispN K N p c c1 σ H0 te (· = d)) (g : DispNA K N p c1 c2 σ H0 ta (AllN n S)) (k : S d) : DispNA K N p c c2 σ H0 (tCons te ta) (AllN (n + 1) S) := dsp_n h g fun _ e => e ▸ k
theorem dsp_0 {S : PyData → Prop} : DispNA K N p c c σ H0 tNil (AllN 0 S) := fun H Q hB hP q => q [] H [] ⟨rfl, fun d m => nomatch m⟩ (But.refl _ _) hP .nil
end
theorem sqT_nin {K : PySem.W.Frag} {N : List Addr} {a : Addr} {H : Hp} {xs : List V} (n : a ∉ N) (h : SqT K H a xs) : SqT K (offs N H) a xs := by
  rcases h with (h | ⟨ob, h⟩) | h
  · exact .inl (.inl (by rw [offs_ne n]; exact h))
  · exact .inl (.inr ⟨ob, by rw [offs_ne n]; exact h⟩)
  · exact .inr h
/-- what is new of a cut or a sum: itself, or none of these places -/
theorem slA_inV {K : PySem.W.Frag} {N : List Addr} {p : Addr} {c : Nat} {H : Hp} {C : Addr} {xs : List V} {lo hi : Option Int} {Q : VK} (hP : PotN N H p c) (hx : SqT K (offs N H) C xs) (h : ∀ H' t, Same H H' → SqT K (offs N H') t (cutV xs lo hi) → Q (.ref t) H') : rSlA K (.ref C) lo hi H Q := by
  refine ⟨C, xs, rfl, sqT_same offs_sub hx, fun hw => h _ _ (fun _ _ e => e) ?_, fun _ t nt => h _ _ (sameU nt) (sqT_nin (hP.nin nt) (SqT.of upd_same))⟩
  unfold cutV
  rw [hw.1, hw.2, List.drop_zero, Nat.sub_zero, List.take_length]
  exact hx
theorem slA_inVN {K : PySem.W.Frag} {N : List Addr} {p : Addr} {c : Nat} {H : Hp} {C : Addr} {xs : List V} {lo : Option Int} {Q : VK} {σ : L2.St} (hP : PotN N H p c) (hx : SqT K (offs N H) C xs) (h : ∀ H' t, Same H H' → SqT K (offs N H') t (cutV xs lo none) → Q (.ref t) H') : tNoPart σ H fun u H3 => rSlA K (.ref C) lo u H3 Q := slA_inV hP hx h
theorem catA_inV {K : PySem.W.Frag} {N : List Addr} {p : Addr} {c : Nat} {H : Hp} {a b : Addr} {xs ys : List V} {Q : VK} (hP : PotN N H p c) (ha : SqT K (offs N H) a xs) (hb : SqT K (offs N H) b ys) (hz : xs.length + ys.length ≤ sizeLine) (h : ∀ H' t, Same H H' → SqT K (offs N H') t (xs ++ ys) → Q (.ref t) H') : rCatA K (.ref a) (.ref b) H Q := by
  refine ⟨a, b, xs, ys, rfl, rfl, sqT_same offs_sub ha, sqT_same offs_sub hb, hz, fun e => h _ _ (fun _ _ e => e) ?_, fun _ e => h _ _ (fun _ _ e => e) ?_, fun _ _ t nt => h _ _ (sameU nt) (sqT_nin (hP.nin nt) (SqT.of upd_same))⟩
  · rw [e, List.nil_append]
    exact hb
  · rw [e, List.append_nil]
    exact ha
/-- data of any kind drawn, none of it within these lists -/
def sp_law_oddN (K : PySem.W.Frag) : Sp := fun vs H Q _ => ∃ (N : List Addr) (p : Addr) (c : Nat), vs = [.ref p] ∧ PotN N H p c ∧ c < 90000 ∧ ∀ H' v d, d ∈ odds → But p H H' → PotN N H' p (c + 1) → Dx K (offs N H') v d → Q v H'
end Uq
namespace Uq
open PySem PySem.Spec PyProof.Rows L2 LamX
/-! ### a lambda that is handed on: f(lambda: .., more), f's body calls g(it) -/
section
variable {X : Cx} {pins pinsY : List (Addr × Obj)} {σ σ₀ σY : L2.St} {H H2 : Hp} {s s2 : Shared}
/-- the context of a def that g's caller calls, s2 its entry -/
abbrev cxY (X : Cx) (Ny : List Str) (qy : Str) (sy : Scope) (gy : Addr) (cdy : Value) (s : Shared) (H : Hp) : Cx := (cxG X Ny qy sy gy cdy s H).nox
end
end Uq
namespace Uq
open PySem PySem.Spec PyProof.Rows L2 LamX
/-! ### f(lambda: .., more): f hands it on to g -/
section
variable {X : Cx} {pins : List (Addr × Obj)} {σ : L2.St} {H : Hp} {s : Shared}
theorem Inv.pinned {f : Addr} {ob : Obj} (I : Inv X pins σ H s) (e : s.heap.get? f = some ob) (n : H f = none) (nL : f ≠ X.env.locals) (nf : f ∉ X.fs) (nc : ∀ v, ob.data ≠ .cell v) : Inv X ((f, ob) :: pins) σ H s := by
  refine ⟨I.ok, I.os, I.bare, I.base, I.loc, I.cell, I.free, I.freeC, fun p hp => ?_, I.hok, I.len⟩
  rcases List.mem_append.mp hp with h | h
  · exact I.pin p (List.mem_append_left _ h)
  · rcases List.mem_cons.mp h with rfl | h
    · exact ⟨e, n, nL, nf, nc⟩
    · exact I.pin p (List.mem_append_right _ h)
theorem Inv.unpinned {p₀ : Addr × Obj} (I : Inv X (p₀ :: pins) σ H s) : Inv X pins σ H s := by
  refine ⟨I.ok, I.os, I.bare, I.base, I.loc, I.cell, I.free, I.freeC, fun p hp => ?_, I.hok, I.len⟩
  rcases List.mem_append.mp hp with h | h
  · exact I.pin p (List.mem_append_left _ h)
  · exact I.pin p (List.mem_append_right _ (List.mem_cons_of_mem _ h))
end
end Uq
namespace Uq
open PySem PySem.Spec PyProof.Rows L2 LamX TL
/-! ### values of any kind -/
section
variable {K : PySem.W.Frag} {C : Addr} {H : Hp}
/-- a value that is no string -/
def NoStr (K : PySem.W.Frag) (H : Hp) (v : V) : Prop := ∃ t, TyX K H v t ∧ PySem.W.kitOne K t (.type "str") = some false
theorem TyX.same {H' : Hp} {v : V} {t : Value} (s : Same H H') (h : TyX K H v t) : TyX K H' v t := by
  cases h with
  | base b =>
    refine .base ?_
    cases b with
    | non => exact .non
    | bl y => exact .bl y
    | int i => exact .int i
    | str y => exact .str y
    | flt y => exact .flt y
    | lst e => exact .lst (s _ _ e)
    | frz e => exact .frz (s _ _ e)
    | tup e => exact .tup (s _ _ e)
    | dK e => exact .dK (s _ _ e)
    | dT e => exact .dT (s _ _ e)
    | ins e cl ha hn htk hm => exact .ins (s _ _ e) cl ha hn htk hm
  | byt y => exact .byt y
  | set e => exact .set (s _ _ e)
  | kList e c => exact .kList e c
  | kTuple e c => exact .kTuple e c
  | kDict e c => exact .kDict e c
  | fTuple e => exact .fTuple (s _ _ e)
  | fDict e => exact .fDict (s _ _ e)
theorem NoStr.same {H' : Hp} {v : V} (s : Same H H') (h : NoStr K H v) : NoStr K H' v := by
  obtain ⟨t, a, b⟩ := h
  exact ⟨t, TyX.same s a, b⟩
/-- strings, and what is none -/
def AnyV (K : PySem.W.Frag) (H : Hp) (v : V) : Prop := (∃ s, v = .str s) ∨ NoStr K H v
theorem AnyV.same {H' : Hp} {v : V} (s : Same H H') (h : AnyV K H v) : AnyV K H' v := h.imp id fun z => z.same s
theorem sqT_ty {a : Addr} {xs : List V} (h : SqT K H a xs) : TyX K H (.ref a) (.type "tuple") := by
  rcases h with (h | ⟨ob, h⟩) | ⟨o, its, n, e, c, _⟩
  · exact .base (.tup h)
  · exact .fTuple h
  · exact .kTuple e c
end
/-- any value that may be written out -/
def AnyD (K : PySem.W.Frag) (H : Hp) (v : V) : Prop := ∃ d, Dx K H v d ∧ Shows d
theorem AnyD.same {K : PySem.W.Frag} {H H' : Hp} {v : V} (s : Same H H') (h : AnyD K H v) : AnyD K H' v := by
  obtain ⟨d, a, b⟩ := h
  exact ⟨d, Dx.same s a, b⟩
def isI : V → Bool
  | .int _ => true
  | _ => false
def sp_is_integerX (K : PySem.W.Frag) : Sp := fun vs H Q _ => ∃ (v : V) (d : PyData), vs = [v] ∧ Dx K H v d ∧ Q (.bl (isI v)) H
mutual
theorem Dx.dp {K : PySem.W.Frag} {H : Hp} : ∀ {d : PyData} {v : V}, Dx K H v d → d.hasDict = false → Dp K H v d
  | _, _, .non, _ => .non
  | _, _, .bl b, _ => .bl b
  | _, _, .int i, _ => .int i
  | _, _, .str x, _ => .str x
  | _, _, .lst h ns ha, e => .lst (SqL.of h) (DxAll.dp ha (by rw [PyData.hasDict] at e; exact e))
  | _, _, .tup h ha, e => .tup h (DxAll.dp ha (by rw [PyData.hasDict] at e; exact e))
  | _, _, .dct h he ha, e => by rw [PyData.hasDict] at e; cases e
theorem DxAll.dp {K : PySem.W.Frag} {H : Hp} : ∀ {ds : List PyData} {vs : List V}, DxAll K H vs ds → PyData.hasDictAll ds = false → DpAll K H vs ds
  | _, _, .nil, _ => .nil
  | _, _, .cons h1 h2, e => by
    rw [PyData.hasDictAll, Bool.or_eq_false_iff] at e
    exact .cons (Dx.dp h1 e.1) (DxAll.dp h2 e.2)
end
section
variable {P : Program} {w : World} {K : PySem.W.Frag} {mg : Str → Option Value} {base : Heap}
theorem ok_is_integerX {f : Addr} {fd : FuncData} (F : Fun K "is_integer" "is_integer" s_is_integer f fd) (m_isinstance : mg "isinstance" = none) (m_int : mg "int" = none) (m_bool : mg "bool" = none) : FnOk P w K mg base CX0 1 f fd ["value"] (sp_is_integerX K) := by
  refine F.ok sc_is_integer (fun vs H Q E h => ?_) (fun cdv A outer s H vs Q E hr h => ?_)
  · obtain ⟨v, d, rfl, _⟩ := h
    rfl
  · refine ⟨_, (pss_one (ps_ret (pe_and (pe_callB call_isi (by rfl) m_isinstance (by decide +kernel) (pa_cons (pv 0) (pa_cons (pe_bltn (v := .ty "int") (by rfl) m_int (by decide +kernel) rfl) pa_nil))) (pe_one (pe_not (pe_callB call_isi (by rfl) m_isinstance (by decide +kernel) (pa_cons (pv 0) (pa_cons (pe_bltn (v := .ty "bool") (by rfl) m_bool (by decide +kernel) rfl) pa_nil)))))))), ?_⟩
    obtain ⟨v, d, rfl, hd, q⟩ := h
    cases hd with
    | non => exact ⟨_, rfl, _, .ty "int", _, _, false, rfl, .ty "int", .base .non, kit_ty (by decide +kernel), false, rfl, q⟩
    | bl y => exact ⟨_, rfl, _, .ty "int", _, _, true, rfl, .ty "int", .base (.bl y), kit_ty (by decide +kernel), true, rfl, _, rfl, _, .ty "bool", _, _, true, rfl, .ty "bool", .base (.bl y), kit_ty (by decide +kernel), true, rfl, q⟩
    | int i => exact ⟨_, rfl, _, .ty "int", _, _, true, rfl, .ty "int", .base (.int i), kit_ty (by decide +kernel), true, rfl, _, rfl, _, .ty "bool", _, _, false, rfl, .ty "bool", .base (.int i), kit_ty (by decide +kernel), false, rfl, q⟩
    | str x => exact ⟨_, rfl, _, .ty "int", _, _, false, rfl, .ty "int", .base (.str x), kit_ty (by decide +kernel), false, rfl, q⟩
    | lst e _ _ => exact ⟨_, rfl, _, .ty "int", _, _, false, rfl, .ty "int", .base (.lst e), kit_ty (by decide +kernel), false, rfl, q⟩
    | tup e _ => exact ⟨_, rfl, _, .ty "int", _, _, false, rfl, .ty "int", sqT_ty e, kit_ty (by decide +kernel), false, rfl, q⟩
    | dct e _ _ => exact ⟨_, rfl, _, .ty "int", _, _, false, rfl, .ty "int", .base (.dK e), kit_ty (by decide +kernel), false, rfl, q⟩
end
theorem okd_shows {d : PyData} {k n : Nat} (h : OkD d k n) (hk : k ≤ 60) (hn : n ≤ 2 ^ 20) : Shows d := by
  obtain ⟨a, _, b, c⟩ := h.shown hk hn
  exact ⟨a, b, c⟩
theorem okd_lst {k m : Nat} {ds : List PyData} (h : ∀ d ∈ ds, OkD d k m) : OkD (.list ds) (k + 1) ((m + 1) * ds.length) := by
  obtain ⟨b1, b2, b3, b4, b5⟩ := okd_all h
  exact ⟨by rw [PyData.showable]; exact b1, by rw [PyData.hasDict]; exact b2, by rw [PyData.depth]; omega, by rw [PyData.leavesShort]; exact b4, by rw [PyData.bulk]; exact b5⟩
instance (d : PyData) (k n : Nat) : Decidable (OkD d k n) :=
  decidable_of_iff (d.showable = true ∧ d.hasDict = false ∧ d.depth ≤ k ∧ d.leavesShort 13 = true ∧ d.bulk ≤ n) ⟨fun ⟨a, b, c, e, f⟩ => ⟨a, b, c, e, f⟩, fun ⟨a, b, c, e, f⟩ => ⟨a, b, c, e, f⟩⟩
theorem log_small {i : Int} (h : i.natAbs < 2 ^ 40) : i.natAbs.log2 < 1920 := Nat.lt_of_lt_of_le (PySem.Flt.log2_lt_of (show 0 < 40 by decide) h) (by decide)
theorem okd_int {i : Int} (h : i.natAbs < 10 ^ 11) : OkD (.int i) 0 0 := by
  refine ⟨?_, rfl, Nat.le_refl _, ?_, Nat.le_refl _⟩
  · show decide (i.natAbs.log2 < 1920) = true
    exact decide_eq_true (log_small (by omega))
  · show decide ((PyData.shown (.int i)).length ≤ 13) = true
    refine decide_eq_true ?_
    have e := PySem.int_text_length_le10 (a := i) (k := 12) (by decide) (by omega)
    show (Str.ofString (toString i)).length ≤ 13
    rw [PySem.ofString_length]
    exact e
theorem okd_ofString {s : String} {n : Nat} (h : s.length ≤ n) : OkD (.str (Str.ofString s)) 0 n := by
  refine ⟨rfl, rfl, Nat.le_refl _, ?_, ?_⟩
  · show (Str.ofString s).cps.toList.all (fun c => decide (c < 16 ^ 8)) = true
    rw [List.all_eq_true]
    intro c m
    refine decide_eq_true ?_
    have z : ∃ ch : Char, ch.toNat = c := by
      rw [PySem.Str.ofString_eq_toList] at m
      obtain ⟨ch, _, e⟩ := List.mem_map.mp m
      exact ⟨ch, e⟩
    obtain ⟨ch, rfl⟩ := z
    exact ch.val.toNat_lt
  · show (Str.ofString s).cps.size ≤ n
    have e : (Str.ofString s).length = s.length := PySem.ofString_length s
    show (Str.ofString s).length ≤ n
    rw [e]
    exact h
/-- that may be written out, and compared -/
structure OkE (d : PyData) (k n : Nat) : Prop where
  ok : OkD d k n
  lay : d.canLay0 = true
theorem OkE.mono {d : PyData} {k n k' n' : Nat} (h : OkE d k n) (a : k ≤ k') (b : n ≤ n') : OkE d k' n' := ⟨h.ok.mono a b, h.lay⟩
theorem OkE.dep {d : PyData} {k n : Nat} (h : OkE d k n) : d.depth ≤ k := h.ok.dep
theorem OkE.dic {d : PyData} {k n : Nat} (h : OkE d k n) : d.hasDict = false := h.ok.dic
instance (d : PyData) (k n : Nat) : Decidable (OkE d k n) := decidable_of_iff (OkD d k n ∧ d.canLay0 = true) ⟨fun ⟨a, b⟩ => ⟨a, b⟩, fun ⟨a, b⟩ => ⟨a, b⟩⟩
theorem lay_all : ∀ {ds : List PyData}, (∀ d ∈ ds, d.canLay0 = true) → PyData.canLayAll0 ds = true
  | [], _ => rfl
  | d :: ds, h => by
    rw [PyData.canLayAll0, h d List.mem_cons_self, lay_all (ds := ds) fun e m => h e (List.mem_cons_of_mem _ m)]
    rfl
theorem oke_tup {k m : Nat} {ds : List PyData} (h : ∀ d ∈ ds, OkE d k m) : OkE (.tuple ds) (k + 1) ((m + 1) * ds.length) := ⟨okd_tup fun d m => (h d m).ok, by rw [PyData.canLay0]; exact lay_all fun d m => (h d m).lay⟩
theorem oke_lst {k m : Nat} {ds : List PyData} (h : ∀ d ∈ ds, OkE d k m) : OkE (.list ds) (k + 1) ((m + 1) * ds.length) := ⟨okd_lst fun d m => (h d m).ok, by rw [PyData.canLay0]; exact lay_all fun d m => (h d m).lay⟩
theorem oke_int {i : Int} (h : i.natAbs < 10 ^ 11) : OkE (.int i) 0 0 := ⟨okd_int h, rfl⟩
theorem oke_non : OkE .none 0 0 := ⟨okd_non, rfl⟩
theorem oke_bool (b : Bool) : OkE (.bool b) 0 0 := ⟨okd_bool b, rfl⟩
theorem oke_ofString {s : String} {n : Nat} (h : s.length ≤ n) : OkE (.str (Str.ofString s)) 0 n := by
  refine ⟨okd_ofString h, ?_⟩
  show (Str.ofString s).cps.all (fun c => decide (c < 0x110000)) = true
  rw [PySem.Str.ofString_eq_toList, List.all_toArray, List.all_eq_true]
  intro c m
  obtain ⟨ch, _, rfl⟩ := List.mem_map.mp m
  refine decide_eq_true ?_
  have v := ch.valid
  show ch.val.toNat < 0x110000
  rcases v with v | v
  · omega
  · exact v.2
theorem call_listN {X : Cx} : CallR X (.type "list") (fun xs H Q => ∃ p ys, xs = [.ref p] ∧ SqT X.K H p ys ∧ ∀ l, H l = none → l ≠ sysModules → Q (.ref l) (upd H l (.lst ys))) := by
  intro pins s σ H xs us Q I r ⟨p, ys, e, hq, q⟩
  subst e
  obtain ⟨u, rfl, rx⟩ := vals1 r
  cases rx
  obtain ⟨its, r', ⟨o, ho, hc, n, hd⟩, hz⟩ := I.tuple hq
  have hl := r'.length
  refine call_list_seq p (.inr rfl) ho hc hd (fun h' c' kp e => ?_) (by simp only [List.size_toArray]; omega)
  exact ⟨.ref s.heap.objs.size, _, I.laid (t' := s.toks) kp (Nat.le_refl _) (show ObjOk X.prog X.w _ h' _ (.lst ys) from ⟨hz, its, c', r', e⟩), rfl, q _ (I.hok.fresh (Nat.le_refl _)) (Nat.ne_of_gt I.big)⟩
theorem u64 {k : Nat} {A : Around} (r : Room k A) : A.units + 64 < cLine := by
  have := r.un
  omega
/-! ### data, each of some kind -/
/-- each is some data of S -/
def AllS (K : PySem.W.Frag) (H : Hp) (S : PyData → Prop) (xs : List V) : Prop := ∀ v ∈ xs, ∃ d, Dx K H v d ∧ S d
theorem AllS.of {K : PySem.W.Frag} {H : Hp} {S : PyData → Prop} {xs : List V} {ds : List PyData} (h : DxAll K H xs ds) (g : ∀ d ∈ ds, S d) : AllS K H S xs := fun v m => by
  obtain ⟨i, l, e⟩ := List.getElem_of_mem m
  obtain ⟨d, md, hd⟩ := h.at (i := i) (by rw [List.getElem?_eq_getElem l, e])
  exact ⟨d, hd, g d md⟩
theorem AllS.some {K : PySem.W.Frag} {H : Hp} {S : PyData → Prop} : ∀ {xs : List V}, AllS K H S xs → ∃ ds, DxAll K H xs ds ∧ ds.length = xs.length ∧ ∀ d ∈ ds, S d
  | [], _ => ⟨[], .nil, rfl, fun _ m => nomatch m⟩
  | x :: xs, h => by
    obtain ⟨d, hd, sd⟩ := h x List.mem_cons_self
    obtain ⟨ds, hds, l, sds⟩ := AllS.some (xs := xs) fun v m => h v (List.mem_cons_of_mem _ m)
    refine ⟨d :: ds, .cons hd hds, congrArg (· + 1) l, fun e m => ?_⟩
    rcases List.mem_cons.mp m with rfl | m
    · exact sd
    · exact sds e m
theorem AllS.sub {K : PySem.W.Frag} {H : Hp} {S : PyData → Prop} {xs ys : List V} (h : AllS K H S xs) (s : ∀ y ∈ ys, y ∈ xs) : AllS K H S ys := fun v m => h v (s v m)
theorem AllS.app {K : PySem.W.Frag} {H : Hp} {S : PyData → Prop} {xs ys : List V} (h : AllS K H S xs) (g : AllS K H S ys) : AllS K H S (xs ++ ys) := fun v m => by
  rcases List.mem_append.mp m with m | m
  · exact h v m
  · exact g v m
theorem AllS.same {K : PySem.W.Frag} {H H' : Hp} {S : PyData → Prop} {xs : List V} (h : AllS K H S xs) (s : Same H H') : AllS K H' S xs := fun v m => by
  obtain ⟨d, a, b⟩ := h v m
  exact ⟨d, a.same s, b⟩
theorem AllS.mono {K : PySem.W.Frag} {H : Hp} {S T : PyData → Prop} {xs : List V} (h : AllS K H S xs) (k : ∀ d, S d → T d) : AllS K H T xs := fun v m => by
  obtain ⟨d, a, b⟩ := h v m
  exact ⟨d, a, k d b⟩
theorem AllS.one {K : PySem.W.Frag} {H : Hp} {S : PyData → Prop} {v : V} {d : PyData} (h : Dx K H v d) (s : S d) : AllS K H S [v] := fun u m => by
  rw [List.mem_singleton.mp m]
  exact ⟨d, h, s⟩
theorem cut_mem {xs : List V} {lo hi : Option Int} : ∀ y ∈ cutV xs lo hi, y ∈ xs := fun y m => List.mem_of_mem_drop (List.mem_of_mem_take m)
theorem rev_mem {xs : List V} : ∀ y ∈ revK xs, y ∈ xs := fun y m => by
  unfold revK at m
  obtain ⟨k, _, e⟩ := List.mem_filterMap.mp m
  exact List.mem_of_getElem? e
/-! ### a value bent -/
def outI (b : Int) : List PyData := [.int (b + 1), .int (b - 1), .bool (decide (V.int b = V.int 1)), .str (toString b), .int (-1), .int 5, .int 0, .int (-b), .none, .tuple [.int b]]
def outS (s : Str) : List PyData := [.str (s ++ "x"), .str (cutS s none (some (-1))), .str (Txt.upper s), .str (s ++ " "), .list [.str s], .str "more", .str "least", .none, .int 0]
theorem outI_ok {b : Int} (h : b.natAbs ≤ 10 ^ 10) : ∀ d ∈ outI b, OkE d 1 40 := by
  have i0 : ∀ i : Int, i.natAbs ≤ 10 ^ 10 + 1 → OkE (.int i) 1 40 := fun i z => (oke_int (by omega)).mono (by decide) (by decide)
  intro d md
  unfold outI at md
  simp only [List.mem_cons, List.not_mem_nil, or_false] at md
  rcases md with rfl | rfl | rfl | rfl | rfl | rfl | rfl | rfl | rfl | rfl
  · exact i0 _ (by omega)
  · exact i0 _ (by omega)
  · exact (oke_bool _).mono (by decide) (by decide)
  · exact (oke_ofString (n := 40) (Nat.le_trans (PySem.int_text_length_le10 (a := b) (k := 11) (by decide) (by omega)) (show 11 + 1 ≤ 40 by decide))).mono (by decide) (by decide)
  · exact i0 _ (by decide)
  · exact i0 _ (by decide)
  · exact i0 _ (by decide)
  · exact i0 _ (by omega)
  · exact oke_non.mono (by decide) (by decide)
  · refine (oke_tup (k := 0) (m := 0) fun d m => ?_).mono (by decide) (by show (0 + 1) * 1 ≤ 40; decide)
    rw [List.mem_singleton.mp m]
    exact oke_int (by omega)
/-- words that may be bent -/
structure Words (WL : List Str) : Prop where
  out : ∀ s ∈ WL, ∀ d ∈ outS s, OkE d 1 40
  ok : ∀ s ∈ WL, OkE (.str s) 0 40
  lay : ∀ s ∈ WL, (PyData.str s).canLay0 = true
  len : ∀ s ∈ WL, s.length ≤ 40
/-- data to be bent: ints, words, tuples of at most eight, n deep -/
def Bt (WL : List Str) : Nat → PyData → Prop
  | 0, d => (∃ i : Int, d = .int i ∧ i.natAbs ≤ 10 ^ 10) ∨ ∃ s, d = .str s ∧ s ∈ WL
  | n + 1, d => ((∃ i : Int, d = .int i ∧ i.natAbs ≤ 10 ^ 10) ∨ ∃ s, d = .str s ∧ s ∈ WL) ∨ ∃ ds, d = .tuple ds ∧ ds.length ≤ 8 ∧ ∀ e ∈ ds, Bt WL n e
def bz : Nat → Nat
  | 0 => 40
  | n + 1 => (bz n + 1) * 9
theorem bz_up {n : Nat} : bz n ≤ bz (n + 1) := by
  show bz n ≤ (bz n + 1) * 9
  omega
theorem bz_40 : ∀ n, 40 ≤ bz n
  | 0 => Nat.le_refl _
  | n + 1 => Nat.le_trans (bz_40 n) bz_up
theorem Bt.okd {WL : List Str} (W : Words WL) : ∀ {n : Nat} {d : PyData}, Bt WL n d → OkE d n (bz n)
  | 0, d, h => by
    rcases h with ⟨i, rfl, hi⟩ | ⟨s, rfl, hs⟩
    · exact (oke_int (by omega)).mono (by decide) (by decide)
    · exact W.ok s hs
  | n + 1, d, h => by
    rcases h with (⟨i, rfl, hi⟩ | ⟨s, rfl, hs⟩) | ⟨ds, rfl, l, hd⟩
    · exact (oke_int (by omega)).mono (by omega) (by omega)
    · exact (W.ok s hs).mono (by omega) (bz_40 _)
    · refine (oke_tup fun e m => Bt.okd W (hd e m)).mono (Nat.le_refl _) ?_
      show (bz n + 1) * ds.length ≤ (bz n + 1) * 9
      exact Nat.mul_le_mul_left _ (by omega)
theorem Bt.lay {WL : List Str} (W : Words WL) : ∀ {n : Nat} {d : PyData}, Bt WL n d → d.canLay0 = true
  | 0, d, h => by
    rcases h with ⟨i, rfl, hi⟩ | ⟨s, rfl, hs⟩
    · rfl
    · exact W.lay s hs
  | n + 1, d, h => by
    rcases h with (⟨i, rfl, hi⟩ | ⟨s, rfl, hs⟩) | ⟨ds, rfl, l, hd⟩
    · rfl
    · exact W.lay s hs
    · rw [PyData.canLay0]
      exact lay_all fun e m => Bt.lay W (hd e m)
def sp_law_bentN (WL : List Str) (n : Nat) (K : PySem.W.Frag) : Sp := fun vs H Q _ => ∃ (N : List Addr) (p : Addr) (c : Nat) (v : V) (d : PyData), vs = [.ref p, v] ∧ PotN N H p c ∧ c + 2 * n + 4 < 90000 ∧ Dx K (offs N H) v d ∧ Bt WL n d ∧
  ∀ H' v' d' c', OkE d' (n + 1) (bz (n + 1)) → But p H H' → PotN N H' p c' → c' ≤ c + 2 * n + 2 → Dx K (offs N H') v' d' → Q v' H'
theorem cut_last (xs : List V) : (cutV xs (some (-1)) none).length ≤ 1 := by
  unfold cutV
  rw [List.length_take, List.length_drop]
  have e : HT.sIx xs.length 0 (some (-1)) = ((-1 : Int) + (xs.length : Int)).toNat := rfl
  rw [e]
  omega
theorem cut_two (xs : List V) {j : Nat} (h : j < xs.length) : (cutV xs none (some (j : Int))).length + 1 + (cutV xs (some ((j : Int) + 1)) none).length ≤ xs.length := by
  unfold cutV
  rw [List.length_take, List.length_drop, List.length_take, List.length_drop]
  have e1 : HT.sIx xs.length 0 (none : Option Int) = 0 := rfl
  have e2 : HT.sIx xs.length xs.length (some (j : Int)) = j := by rw [HT.sIx_nat]; omega
  have e3 : HT.sIx xs.length 0 (some ((j : Int) + 1)) = j + 1 := by
    have := HT.sIx_nat xs.length 0 (j + 1)
    rw [show ((j : Int) + 1) = ((j + 1 : Nat) : Int) from rfl, this]
    omega
  have e4 : HT.sIx xs.length xs.length (none : Option Int) = xs.length := rfl
  rw [e1, e2, e3, e4]
  omega
theorem okd_nilT : OkE (.tuple []) 1 1 := by decide +kernel
/-- a tuple of such data -/
theorem tupS {K : PySem.W.Frag} {N : List Addr} {t : Addr} {k m : Nat} {H : Hp} {ys : List V} (h : SqT K (offs N H) t ys) (a : AllS K (offs N H) (fun d => OkE d k m) ys) (l : ys.length ≤ 9) : ∃ d, Dx K (offs N H) (.ref t) d ∧ OkE d (k + 1) ((m + 1) * 9) := by
  obtain ⟨es, he, le, ge⟩ := a.some
  exact ⟨.tuple es, .tup h he, (oke_tup ge).mono (Nat.le_refl _) (Nat.mul_le_mul_left _ (by omega))⟩
theorem q1 {K : PySem.W.Frag} {N : List Addr} {p t : Addr} {c n : Nat} {Ha Hb : Hp} {ys : List V} {Q : VK} (sb : Same Ha Hb) (hP : PotN N Ha p c) (ht : SqT K (offs N Hb) t ys) (a : AllS K (offs N Ha) (fun d => OkE d n (bz n)) ys) (l : ys.length ≤ 9)
    (q : ∀ v H1 d, (fun d => OkE d (n + 1 + 1) (bz (n + 1 + 1))) d → But p Ha H1 → PotN N H1 p c → Dx K (offs N H1) v d → Q v H1) : Q (.ref t) Hb := by
  obtain ⟨d, hd, od⟩ := tupS ht (a.same ((But.of sb).offs hP.mem)) l
  exact q _ _ d (od.mono (by omega) (@bz_up (n + 1))) (But.of sb) (hP.same sb) hd
section
variable {P : Program} {w : World} {K : PySem.W.Frag} {mg : Str → Option Value} {base : Heap} {WL : List Str}
theorem ok_law_bent0 (WW : Words WL) {f : Addr} {fd : FuncData} (F : Fun K "_law_bent" "_law_bent" s_law_bent f fd) (m_isinstance : mg "isinstance" = none) (m_tuple : mg "tuple" = none) (m_len : mg "len" = none) (m_list : mg "list" = none) (m_str : mg "str" = none) (m_bool : mg "bool" = none) (m_int : mg "int" = none) (c_law_take : Cal P w K mg base 1 "_law_take" ["_law_pot_here", "_law_upto"] (sp_law_take K)) (c_law_of : Cal P w K mg base 2 "_law_of" ["_law_pot_here", "_law_some_here"] (sp_law_of K)) : FnOk P w K mg base CX0 4 f fd ["_law_pot_here", "_law_value"] (sp_law_bentN WL 0 K) := by
  refine F.ok sc_law_bent (fun vs H Q E h => ?_) (fun cdv A outer s H vs Q E hr h => ?_)
  · obtain ⟨N, p, c, v, d, rfl, _⟩ := h
    rfl
  · refine ⟨_, (pss_cons (ps_if (PW.pt (pw_and (pt_val (pe_callB call_isi (by rfl) m_isinstance (by decide +kernel) (pa_cons (pv 1) (pa_cons (pe_bltn (v := .ty "tuple") (by rfl) m_tuple (by decide +kernel) rfl) pa_nil)))) (pw_and (pt_cmpR (op_neD (u64 hr)) (pv 1) (pe_tup pa_nil) (nomark _)) (pw_and1 (pt_cmpR op_gt (pe_call c_law_take.G (hr.mono (by omega)) (by rfl) c_law_take.g c_law_take.kp c_law_take.b .nil pass0 (pa_cons (pv 0) (pa_cons pe_int pa_nil))) pe_int (nomark _)))))) pss_never pss_nil)
      (pss_cons (ps_if (pt_val (pe_callB call_isi (by rfl) m_isinstance (by decide +kernel) (pa_cons (pv 1) (pa_cons (pe_bltn (v := .ty "tuple") (by rfl) m_tuple (by decide +kernel) rfl) pa_nil)))) pss_never pss_nil)
      (pss_cons (ps_if (pt_val (pe_callB call_isi (by rfl) m_isinstance (by decide +kernel) (pa_cons (pv 1) (pa_cons (pe_bltn (v := .ty "str") (by rfl) m_str (by decide +kernel) rfl) pa_nil)))) (pss_one (ps_ret (pe_call c_law_of.G (hr.mono (by omega)) (by rfl) c_law_of.g c_law_of.kp c_law_of.b .nil pass0 (pa_cons (pv 0) (pa_cons (pe_lst (pa_cons (pe_op op_add_str (pv 1) pe_str) (pa_cons (pe_slice sl_str (pv 1) po_none (po_some (pe_un un_neg pe_int))) (pa_cons (pe_bm0 PySem.F.plainAttrs_str PySem.F.slot_str_upper PySem.F.type_str_upper mt_upper (pv 1)) (pa_cons (pe_op op_add_str (pv 1) pe_str) (pa_cons (pe_lstN (pa_cons (pv 1) pa_nil)) (pa_cons pe_str (pa_cons pe_str (pa_cons pe_non (pa_cons pe_int pa_nil)))))))))) pa_nil))))) pss_nil)
      (pss_cons (ps_if (pt_val (pe_callB call_isi (by rfl) m_isinstance (by decide +kernel) (pa_cons (pv 1) (pa_cons (pe_bltn (v := .ty "bool") (by rfl) m_bool (by decide +kernel) rfl) pa_nil)))) pss_never pss_nil)
      (pss_cons (ps_if (pt_val (pe_callB call_isi (by rfl) m_isinstance (by decide +kernel) (pa_cons (pv 1) (pa_cons (pe_bltn (v := .ty "int") (by rfl) m_int (by decide +kernel) rfl) pa_nil)))) (pss_one (ps_ret (pe_call c_law_of.G (hr.mono (by omega)) (by rfl) c_law_of.g c_law_of.kp c_law_of.b .nil pass0 (pa_cons (pv 0) (pa_cons (pe_lst (pa_cons (pe_op op_add (pv 1) pe_int) (pa_cons (pe_op op_sub (pv 1) pe_int) (pa_cons (pe_cmpR op_eq (pv 1) pe_int (nomark _)) (pa_cons (pe_callTy call_str_int (by rfl) m_str (by decide +kernel) (pa_cons (pv 1) pa_nil)) (pa_cons (pe_un un_neg pe_int) (pa_cons pe_int (pa_cons pe_int (pa_cons (pe_un un_neg (pv 1)) (pa_cons pe_non (pa_cons (pe_tup (pa_cons (pv 1) pa_nil)) pa_nil))))))))))) pa_nil))))) pss_nil)
      pss_never))))), ?_⟩
    obtain ⟨N, p, c, v, d, rfl, hP, hc, hd, hv, q⟩ := h
    rcases hv with ⟨b, rfl, hb⟩ | ⟨x, rfl, hx⟩
    · cases hd
      refine ⟨_, rfl, _, .ty "tuple", _, _, false, rfl, .ty "tuple", .base (.int b), kit_ty (by decide +kernel), false, rfl, iteF (next_in ?_)⟩
      refine ⟨_, rfl, _, .ty "tuple", _, _, false, rfl, .ty "tuple", .base (.int b), kit_ty (by decide +kernel), false, rfl, iteF (next_in ?_)⟩
      refine ⟨_, rfl, _, .ty "str", _, _, false, rfl, .ty "str", .base (.int b), kit_ty (by decide +kernel), false, rfl, iteF (next_in ?_)⟩
      refine ⟨_, rfl, _, .ty "bool", _, _, false, rfl, .ty "bool", .base (.int b), kit_ty (by decide +kernel), false, rfl, iteF (next_in ?_)⟩
      refine ⟨_, rfl, _, .ty "int", _, _, true, rfl, .ty "int", .base (.int b), kit_ty (by decide +kernel), true, rfl, iteT (ret_in ?_)⟩
      have s1 : scal (V.int b) (.int 1) = true := rfl
      refine ⟨.ref p, rfl, lst_in (dspA_use (K := K) (c1 := c) (S := (· = outI b)) ?_ hP fun xs H1 ds e hBa hPa hx => ⟨by rw [hx.length, e]; show 10 ≤ sizeLine; decide, fun l1 n1 => ?_⟩)⟩
      · exact dsp_cons (dsp_v (v := .int (b + 1)) (d := .int (b + 1)) (fun H Q q => ⟨.int b, rfl, b, 1, rfl, rfl, q⟩) fun _ => .int _) (dsp_cons (dsp_v (v := .int (b - 1)) (d := .int (b - 1)) (fun H Q q => ⟨.int b, rfl, b, 1, rfl, rfl, q⟩) fun _ => .int _) (dsp_cons (dsp_v (v := .bl (decide (V.int b = V.int 1))) (d := .bool (decide (V.int b = V.int 1))) (fun H Q q => ⟨.int b, rfl, s1, q⟩) fun _ => .bl _) (dsp_cons (dsp_v (v := .str (toString b)) (d := .str (toString b)) (fun H Q q => ⟨.int b, rfl, b, rfl, log_small (by omega), q⟩) fun _ => .str _) (dsp_cons (dsp_v (v := .int (-1)) (d := .int (-1)) (fun H Q q => ⟨1, rfl, q⟩) fun _ => .int _) (dsp_cons (dsp_c fun _ => .int 5) (dsp_cons (dsp_c fun _ => .int 0) (dsp_cons (dsp_v (v := .int (-b)) (d := .int (-b)) (fun H Q q => ⟨.int b, rfl, b, rfl, q⟩) fun _ => .int _) (dsp_cons (dsp_c fun _ => .non) (dsp_cons (dsp_tup (dsp_cons (dsp_v (v := .int b) (d := .int b) (fun H Q q => ⟨.int b, rfl, q⟩) fun _ => .int _) dsp_nil) (by show 1 ≤ sizeLine; decide)) dsp_nil)))))))))
      cases e
      have hB1 := hBa.new n1 (o := .lst xs)
      have hP1' := hPa.new n1 (o := .lst xs)
      refine ⟨p, l1, c, xs, rfl, hP1'.pot, by omega, hPa.ne n1, SqL.of upd_same, by rw [hx.length]; exact (by decide : 0 < 10), by rw [hx.length]; exact (by decide : 10 ≤ 100000), fun H2 i v hB2 hP2 ev => ?_⟩
      obtain ⟨d, md, hd⟩ := hx.at ev
      exact q H2 v d (c + 1) ((outI_ok hb d md).mono (by omega) (Nat.le_trans (bz_40 _) (Nat.le_refl _))) (hB1.trans hB2) (hP1'.but hB2 hP2) (by omega) (hd.same ((((But.refl _ _).new n1).trans hB2).offs hP.mem))
    · cases hd
      refine ⟨_, rfl, _, .ty "tuple", _, _, false, rfl, .ty "tuple", .base (.str x), kit_ty (by decide +kernel), false, rfl, iteF (next_in ?_)⟩
      refine ⟨_, rfl, _, .ty "tuple", _, _, false, rfl, .ty "tuple", .base (.str x), kit_ty (by decide +kernel), false, rfl, iteF (next_in ?_)⟩
      refine ⟨_, rfl, _, .ty "str", _, _, true, rfl, .ty "str", .base (.str x), kit_ty (by decide +kernel), true, rfl, iteT (ret_in ?_)⟩
      have xl : x.length ≤ 40 := WW.len x hx
      have l1 : ("x" : Str).length = 1 := by decide +kernel
      have l2 : (" " : Str).length = 1 := by decide +kernel
      have big : 1000 ≤ sizeLine := by decide
      refine ⟨.ref p, rfl, lst_in (dspA_use (K := K) (c1 := c) (S := (· = outS x)) ?_ hP fun xs H1 ds e hBa hPa hxa => ⟨by rw [hxa.length, e]; show 9 ≤ sizeLine; decide, fun l1 n1 => ?_⟩)⟩
      · exact dsp_cons (dsp_v (v := .str (x ++ "x")) (d := .str (x ++ "x")) (fun H Q q => ⟨.str x, rfl, x, _, rfl, rfl, by omega, q⟩) fun _ => .str _) (dsp_cons (dsp_v (v := .str (cutS x none (some (-1)))) (d := .str (cutS x none (some (-1)))) (fun H Q q => ⟨.str x, rfl, 1, rfl, -1, rfl, x, rfl, by omega, q⟩) fun _ => .str _) (dsp_cons (dsp_v (v := .str (Txt.upper x)) (d := .str (Txt.upper x)) (fun H Q q => ⟨.str x, rfl, rfl, x, rfl, rfl, by omega, q⟩) fun _ => .str _) (dsp_cons (dsp_v (v := .str (x ++ " ")) (d := .str (x ++ " ")) (fun H Q q => ⟨.str x, rfl, x, _, rfl, rfl, by omega, q⟩) fun _ => .str _) (dsp_cons (dsp_lst (dsp_cons (dsp_v (v := .str x) (d := .str x) (fun H Q q => ⟨.str x, rfl, q⟩) fun _ => .str _) dsp_nil) (by show 1 ≤ sizeLine; decide)) (dsp_cons (dsp_c fun _ => .str "more") (dsp_cons (dsp_c fun _ => .str "least") (dsp_cons (dsp_c fun _ => .non) (dsp_cons (dsp_c fun _ => .int 0) dsp_nil))))))))
      cases e
      have hB1 := hBa.new n1 (o := .lst xs)
      have hP1' := hPa.new n1 (o := .lst xs)
      refine ⟨p, l1, c, xs, rfl, hP1'.pot, by omega, hPa.ne n1, SqL.of upd_same, by rw [hxa.length]; exact (by decide : 0 < 9), by rw [hxa.length]; exact (by decide : 9 ≤ 100000), fun H2 i v hB2 hP2 ev => ?_⟩
      obtain ⟨d, md, hd⟩ := hxa.at ev
      exact q H2 v d (c + 1) ((WW.out x hx d md).mono (by omega) (Nat.le_trans (bz_40 _) (Nat.le_refl _))) (hB1.trans hB2) (hP1'.but hB2 hP2) (by omega) (hd.same ((((But.refl _ _).new n1).trans hB2).offs hP.mem))
theorem ok_law_bentS (WW : Words WL) {n : Nat} (n60 : n ≤ 50) {f : Addr} {fd : FuncData} (F : Fun K "_law_bent" "_law_bent" s_law_bent f fd) (m_isinstance : mg "isinstance" = none) (m_tuple : mg "tuple" = none) (m_len : mg "len" = none) (m_list : mg "list" = none) (m_str : mg "str" = none) (m_bool : mg "bool" = none) (m_int : mg "int" = none) (c_law_take : Cal P w K mg base 1 "_law_take" ["_law_pot_here", "_law_upto"] (sp_law_take K)) (c_law_of : Cal P w K mg base 2 "_law_of" ["_law_pot_here", "_law_some_here"] (sp_law_of K)) (c_law_bent : Cal P w K mg base (4 + n) "_law_bent" ["_law_pot_here", "_law_value"] (sp_law_bentN WL n K)) : FnOk P w K mg base CX0 (4 + n + 1) f fd ["_law_pot_here", "_law_value"] (sp_law_bentN WL (n + 1) K) := by
  refine F.ok sc_law_bent (fun vs H Q E h => ?_) (fun cdv A outer s H vs Q E hr h => ?_)
  · obtain ⟨N, p, c, v, d, rfl, _⟩ := h
    rfl
  · refine ⟨_, (pss_cons (ps_if (PW.pt (pw_and (pt_val (pe_callB call_isi (by rfl) m_isinstance (by decide +kernel) (pa_cons (pv 1) (pa_cons (pe_bltn (v := .ty "tuple") (by rfl) m_tuple (by decide +kernel) rfl) pa_nil)))) (pw_and (pt_cmpR (op_neD (u64 hr)) (pv 1) (pe_tup pa_nil) (nomark _)) (pw_and1 (pt_cmpR op_gt (pe_call c_law_take.G (hr.mono (by omega)) (by rfl) c_law_take.g c_law_take.kp c_law_take.b .nil pass0 (pa_cons (pv 0) (pa_cons pe_int pa_nil))) pe_int (nomark _)))))) (pss_cons (ps_set (i := 2) sc_law_bent.nd rfl (.inl rfl) (pe_call c_law_take.G (hr.mono (by omega)) (by rfl) c_law_take.g c_law_take.kp c_law_take.b .nil pass0 (pa_cons (pv 0) (pa_cons (pe_callB call_len_seq (by rfl) m_len (by decide +kernel) (pa_cons (pv 1) pa_nil)) pa_nil))))
        (pss_one (ps_ret (pe_op op_catA (pe_op op_catA (pe_slice sl_tupA (pv 1) po_none (po_some (pv 2))) (pe_tup (pa_cons (pe_call c_law_bent.G (hr.mono (by omega)) (by rfl) c_law_bent.g c_law_bent.kp c_law_bent.b .nil pass0 (pa_cons (pv 0) (pa_cons (pe_ix ix_tup (pv 1) (pv 2) (fun _ _ => rfl)) pa_nil))) pa_nil))) (pe_slice sl_tupA (pv 1) (po_some (pe_op op_add (pv 2) pe_int)) po_none))))) pss_nil)
      (pss_cons (ps_if (pt_val (pe_callB call_isi (by rfl) m_isinstance (by decide +kernel) (pa_cons (pv 1) (pa_cons (pe_bltn (v := .ty "tuple") (by rfl) m_tuple (by decide +kernel) rfl) pa_nil)))) (pss_cons (ps_set (i := 3) sc_law_bent.nd rfl (.inl rfl) (pe_lst (pa_cons (pe_callTy call_listN (by rfl) m_list (by decide +kernel) (pa_cons (pv 1) pa_nil)) (pa_cons (pe_slice sl_tupA (pv 1) (po_some pe_int) po_none) (pa_cons (pe_slice sl_tupA (pv 1) po_none (po_some (pe_un un_neg pe_int))) (pa_cons (pe_op op_catA (pv 1) (pe_slice sl_tupA (pv 1) (po_some (pe_un un_neg pe_int)) po_none)) (pa_cons (pe_rev (pv 1) (po_some (pe_un un_neg pe_int))) (pa_cons (pe_tup pa_nil) (pa_cons (pe_op op_catA (pv 1) (pe_tup (pa_cons pe_int pa_nil))) (pa_cons pe_non pa_nil))))))))))
        (pss_one (ps_ret (pe_call c_law_of.G (hr.mono (by omega)) (by rfl) c_law_of.g c_law_of.kp c_law_of.b .nil pass0 (pa_cons (pv 0) (pa_cons (pv 3) pa_nil)))))) pss_nil)
      (pss_cons (ps_if (pt_val (pe_callB call_isi (by rfl) m_isinstance (by decide +kernel) (pa_cons (pv 1) (pa_cons (pe_bltn (v := .ty "str") (by rfl) m_str (by decide +kernel) rfl) pa_nil)))) (pss_one (ps_ret (pe_call c_law_of.G (hr.mono (by omega)) (by rfl) c_law_of.g c_law_of.kp c_law_of.b .nil pass0 (pa_cons (pv 0) (pa_cons (pe_lst (pa_cons (pe_op op_add_str (pv 1) pe_str) (pa_cons (pe_slice sl_str (pv 1) po_none (po_some (pe_un un_neg pe_int))) (pa_cons (pe_bm0 PySem.F.plainAttrs_str PySem.F.slot_str_upper PySem.F.type_str_upper mt_upper (pv 1)) (pa_cons (pe_op op_add_str (pv 1) pe_str) (pa_cons (pe_lstN (pa_cons (pv 1) pa_nil)) (pa_cons pe_str (pa_cons pe_str (pa_cons pe_non (pa_cons pe_int pa_nil)))))))))) pa_nil))))) pss_nil)
      (pss_cons (ps_if (pt_val (pe_callB call_isi (by rfl) m_isinstance (by decide +kernel) (pa_cons (pv 1) (pa_cons (pe_bltn (v := .ty "bool") (by rfl) m_bool (by decide +kernel) rfl) pa_nil)))) pss_never pss_nil)
      (pss_cons (ps_if (pt_val (pe_callB call_isi (by rfl) m_isinstance (by decide +kernel) (pa_cons (pv 1) (pa_cons (pe_bltn (v := .ty "int") (by rfl) m_int (by decide +kernel) rfl) pa_nil)))) (pss_one (ps_ret (pe_call c_law_of.G (hr.mono (by omega)) (by rfl) c_law_of.g c_law_of.kp c_law_of.b .nil pass0 (pa_cons (pv 0) (pa_cons (pe_lst (pa_cons (pe_op op_add (pv 1) pe_int) (pa_cons (pe_op op_sub (pv 1) pe_int) (pa_cons (pe_cmpR op_eq (pv 1) pe_int (nomark _)) (pa_cons (pe_callTy call_str_int (by rfl) m_str (by decide +kernel) (pa_cons (pv 1) pa_nil)) (pa_cons (pe_un un_neg pe_int) (pa_cons pe_int (pa_cons pe_int (pa_cons (pe_un un_neg (pv 1)) (pa_cons pe_non (pa_cons (pe_tup (pa_cons (pv 1) pa_nil)) pa_nil))))))))))) pa_nil))))) pss_nil)
      pss_never))))), ?_⟩
    obtain ⟨N, p, c, v, d, rfl, hP, hc, hd, hv, q⟩ := h
    have b40 := bz_40 n
    have bup := @bz_up n
    have bup2 := @bz_up (n + 1)
    rcases hv with (⟨b, rfl, hb⟩ | ⟨x, rfl, hx⟩) | ⟨ds, rfl, l8, hds⟩
    · cases hd
      refine ⟨_, rfl, _, .ty "tuple", _, _, false, rfl, .ty "tuple", .base (.int b), kit_ty (by decide +kernel), false, rfl, iteF (next_in ?_)⟩
      refine ⟨_, rfl, _, .ty "tuple", _, _, false, rfl, .ty "tuple", .base (.int b), kit_ty (by decide +kernel), false, rfl, iteF (next_in ?_)⟩
      refine ⟨_, rfl, _, .ty "str", _, _, false, rfl, .ty "str", .base (.int b), kit_ty (by decide +kernel), false, rfl, iteF (next_in ?_)⟩
      refine ⟨_, rfl, _, .ty "bool", _, _, false, rfl, .ty "bool", .base (.int b), kit_ty (by decide +kernel), false, rfl, iteF (next_in ?_)⟩
      refine ⟨_, rfl, _, .ty "int", _, _, true, rfl, .ty "int", .base (.int b), kit_ty (by decide +kernel), true, rfl, iteT (ret_in ?_)⟩
      have s1 : scal (V.int b) (.int 1) = true := rfl
      refine ⟨.ref p, rfl, lst_in (dspA_use (K := K) (c1 := c) (S := (· = outI b)) ?_ hP fun xs H1 ds e hBa hPa hx => ⟨by rw [hx.length, e]; show 10 ≤ sizeLine; decide, fun l1 n1 => ?_⟩)⟩
      · exact dsp_cons (dsp_v (v := .int (b + 1)) (d := .int (b + 1)) (fun H Q q => ⟨.int b, rfl, b, 1, rfl, rfl, q⟩) fun _ => .int _) (dsp_cons (dsp_v (v := .int (b - 1)) (d := .int (b - 1)) (fun H Q q => ⟨.int b, rfl, b, 1, rfl, rfl, q⟩) fun _ => .int _) (dsp_cons (dsp_v (v := .bl (decide (V.int b = V.int 1))) (d := .bool (decide (V.int b = V.int 1))) (fun H Q q => ⟨.int b, rfl, s1, q⟩) fun _ => .bl _) (dsp_cons (dsp_v (v := .str (toString b)) (d := .str (toString b)) (fun H Q q => ⟨.int b, rfl, b, rfl, log_small (by omega), q⟩) fun _ => .str _) (dsp_cons (dsp_v (v := .int (-1)) (d := .int (-1)) (fun H Q q => ⟨1, rfl, q⟩) fun _ => .int _) (dsp_cons (dsp_c fun _ => .int 5) (dsp_cons (dsp_c fun _ => .int 0) (dsp_cons (dsp_v (v := .int (-b)) (d := .int (-b)) (fun H Q q => ⟨.int b, rfl, b, rfl, q⟩) fun _ => .int _) (dsp_cons (dsp_c fun _ => .non) (dsp_cons (dsp_tup (dsp_cons (dsp_v (v := .int b) (d := .int b) (fun H Q q => ⟨.int b, rfl, q⟩) fun _ => .int _) dsp_nil) (by show 1 ≤ sizeLine; decide)) dsp_nil)))))))))
      cases e
      have hB1 := hBa.new n1 (o := .lst xs)
      have hP1' := hPa.new n1 (o := .lst xs)
      refine ⟨p, l1, c, xs, rfl, hP1'.pot, by omega, hPa.ne n1, SqL.of upd_same, by rw [hx.length]; exact (by decide : 0 < 10), by rw [hx.length]; exact (by decide : 10 ≤ 100000), fun H2 i v hB2 hP2 ev => ?_⟩
      obtain ⟨d, md, hd⟩ := hx.at ev
      exact q H2 v d (c + 1) ((outI_ok hb d md).mono (by omega) (Nat.le_trans (bz_40 _) (Nat.le_refl _))) (hB1.trans hB2) (hP1'.but hB2 hP2) (by omega) (hd.same ((((But.refl _ _).new n1).trans hB2).offs hP.mem))
    · cases hd
      refine ⟨_, rfl, _, .ty "tuple", _, _, false, rfl, .ty "tuple", .base (.str x), kit_ty (by decide +kernel), false, rfl, iteF (next_in ?_)⟩
      refine ⟨_, rfl, _, .ty "tuple", _, _, false, rfl, .ty "tuple", .base (.str x), kit_ty (by decide +kernel), false, rfl, iteF (next_in ?_)⟩
      refine ⟨_, rfl, _, .ty "str", _, _, true, rfl, .ty "str", .base (.str x), kit_ty (by decide +kernel), true, rfl, iteT (ret_in ?_)⟩
      have xl : x.length ≤ 40 := WW.len x hx
      have l1 : ("x" : Str).length = 1 := by decide +kernel
      have l2 : (" " : Str).length = 1 := by decide +kernel
      have big : 1000 ≤ sizeLine := by decide
      refine ⟨.ref p, rfl, lst_in (dspA_use (K := K) (c1 := c) (S := (· = outS x)) ?_ hP fun xs H1 ds e hBa hPa hxa => ⟨by rw [hxa.length, e]; show 9 ≤ sizeLine; decide, fun l1 n1 => ?_⟩)⟩
      · exact dsp_cons (dsp_v (v := .str (x ++ "x")) (d := .str (x ++ "x")) (fun H Q q => ⟨.str x, rfl, x, _, rfl, rfl, by omega, q⟩) fun _ => .str _) (dsp_cons (dsp_v (v := .str (cutS x none (some (-1)))) (d := .str (cutS x none (some (-1)))) (fun H Q q => ⟨.str x, rfl, 1, rfl, -1, rfl, x, rfl, by omega, q⟩) fun _ => .str _) (dsp_cons (dsp_v (v := .str (Txt.upper x)) (d := .str (Txt.upper x)) (fun H Q q => ⟨.str x, rfl, rfl, x, rfl, rfl, by omega, q⟩) fun _ => .str _) (dsp_cons (dsp_v (v := .str (x ++ " ")) (d := .str (x ++ " ")) (fun H Q q => ⟨.str x, rfl, x, _, rfl, rfl, by omega, q⟩) fun _ => .str _) (dsp_cons (dsp_lst (dsp_cons (dsp_v (v := .str x) (d := .str x) (fun H Q q => ⟨.str x, rfl, q⟩) fun _ => .str _) dsp_nil) (by show 1 ≤ sizeLine; decide)) (dsp_cons (dsp_c fun _ => .str "more") (dsp_cons (dsp_c fun _ => .str "least") (dsp_cons (dsp_c fun _ => .non) (dsp_cons (dsp_c fun _ => .int 0) dsp_nil))))))))
      cases e
      have hB1 := hBa.new n1 (o := .lst xs)
      have hP1' := hPa.new n1 (o := .lst xs)
      refine ⟨p, l1, c, xs, rfl, hP1'.pot, by omega, hPa.ne n1, SqL.of upd_same, by rw [hxa.length]; exact (by decide : 0 < 9), by rw [hxa.length]; exact (by decide : 9 ≤ 100000), fun H2 i v hB2 hP2 ev => ?_⟩
      obtain ⟨d, md, hd⟩ := hxa.at ev
      exact q H2 v d (c + 1) ((WW.out x hx d md).mono (by omega) (Nat.le_trans (bz_40 _) (Nat.le_refl _))) (hB1.trans hB2) (hP1'.but hB2 hP2) (by omega) (hd.same ((((But.refl _ _).new n1).trans hB2).offs hP.mem))
    · have big : 1000 ≤ sizeLine := by decide
      have okd := (show Bt WL (n + 1) (.tuple ds) from .inr ⟨ds, rfl, l8, hds⟩).okd WW
      have lay := (show Bt WL (n + 1) (.tuple ds) from .inr ⟨ds, rfl, l8, hds⟩).lay WW
      have hd0 := hd
      cases hd
      rename_i u xs hS hA
      have lx := hA.length
      have aX : AllS K (offs N H) (fun d => OkE d n (bz n)) xs := AllS.of hA fun e m => (hds e m).okd WW
      have backV : ∀ {G : Hp}, But p H G → SqT K (offs N G) u xs := fun hB => sqT_same (hB.offs hP.mem) hS
      have back : ∀ {G : Hp}, But p H G → SqT K G u xs := fun hB => sqT_same offs_sub (backV hB)
      refine ⟨_, rfl, _, .ty "tuple", _, _, true, rfl, .ty "tuple", sqT_ty (back (But.refl _ _)), kit_ty (by decide +kernel), true, rfl, iteT ?_⟩
      refine ⟨.ref u, rfl, by show 0 ≤ sizeLine; omega, fun E1 nE => ?_⟩
      have hBe : But p H (upd H E1 (.tup [])) := (But.refl _ _).new nE
      have hPe := hP.new nE (o := .tup [])
      have shx : SeqAt.shaped (.tuple ds) = true := by
        unfold SeqAt.shaped
        rw [lay, decide_eq_true (Nat.le_trans okd.dep (by omega))]
        rfl
      have hdp : Dp K (upd H E1 (.tup [])) (.ref u) (.tuple ds) := ((hd0.same (hBe.offs hP.mem)).same offs_sub).dp okd.dic
      refine ⟨.tuple ds, .tuple [], hdp, .tup (SqT.of upd_same) .nil, shx, rfl, ?_⟩
      generalize L2.upd H E1 _ = G1 at hBe hPe ⊢
      clear hdp shx hd0 lay okd
      by_cases e0 : ds = []
      · subst e0
        refine ⟨false, rfl, iteF (next_in ?_)⟩
        refine ⟨_, rfl, _, .ty "tuple", _, _, true, rfl, .ty "tuple", sqT_ty (back hBe), kit_ty (by decide +kernel), true, rfl, iteT ?_⟩
        have hT : SqT K (offs N G1) u xs := sqT_same ((hBe).offs hP.mem) hS
        have aT : AllS K (offs N G1) (fun d => OkE d n (bz n)) xs := aX.same ((hBe).offs hP.mem)
        have at_ : ∀ {Ha : Hp}, But p G1 Ha → SqT K (offs N Ha) u xs ∧ AllS K (offs N Ha) (fun d => OkE d n (bz n)) xs := fun hB => ⟨sqT_same (hB.offs hP.mem) hT, aT.same (hB.offs hP.mem)⟩
        refine seq_set (lst_in (dspA_use (K := K) (c1 := c) (S := AllN 8 (fun d => OkE d (n + 1 + 1) (bz (n + 1 + 1)))) ?_ hPe fun ys H1 es e hBa hPa hx => ⟨by rw [hx.length, e.1]; show 8 ≤ sizeLine; omega, fun l1 n1 => ?_⟩))
        · refine dsp_s (c1 := c) (fun Ha Q hB hP q => ⟨.ref u, rfl, u, _, rfl, sqT_same offs_sub (at_ hB).1, fun l nl ns => ?_⟩) (dsp_s (c1 := c) (fun Ha Q hB hP q => ⟨.ref u, rfl, 1, rfl, slA_inVN hP (at_ hB).1 fun Hb t sb ht => ?_⟩) (dsp_s (c1 := c) (fun Ha Q hB hP q => ⟨.ref u, rfl, 1, rfl, -1, rfl, slA_inV hP (at_ hB).1 fun Hb t sb ht => ?_⟩) (dsp_s (c1 := c) (fun Ha Q hB hP q => ⟨.ref u, rfl, .ref u, rfl, 1, rfl, -1, rfl, slA_inVN hP (at_ hB).1 fun Hb t sb ht => ?_⟩) (dsp_s (c1 := c) (fun Ha Q hB hP q => ⟨.ref u, rfl, 1, rfl, -1, rfl, u, _, rfl, sqT_same offs_sub (at_ hB).1, rfl, fun l nl => ?_⟩) (dsp_n (c1 := c) (dsp_tup dsp_nil) (dsp_s (c1 := c) (fun Ha Q hB hP q => ⟨.ref u, rfl, by show 1 ≤ sizeLine; omega, fun l nl => ?_⟩) (dsp_n (dsp_c fun _ => .non) dsp_0 (fun _ e => e ▸ oke_non.mono (by omega) (by omega)))) (fun _ e => e ▸ okd_nilT.mono (by omega) (by omega)))))))
          · obtain ⟨es, he, le, ge⟩ := AllS.some (at_ hB).2
            refine q _ _ (.list es) ((oke_lst ge).mono (by omega) ?_) ((But.refl _ _).new nl) (hP.new nl) (.lst (by rw [offs_ne (hP.nin nl)]; exact upd_same) ns (he.same (((But.refl _ _).new nl).offs hP.mem)))
            exact Nat.le_trans (Nat.mul_le_mul_left _ (show es.length ≤ 9 by omega)) (@bz_up (n + 1))
          · exact q1 sb hP ht ((at_ hB).2.sub cut_mem) (by have := cutV_length xs (some 1) none; omega) q
          · exact q1 sb hP ht ((at_ hB).2.sub cut_mem) (by have := cutV_length xs none (some (-1)); omega) q
          · have := cutV_length xs (some (-1)) none
            exact catA_inV (hP.same sb) (sqT_same ((But.of sb).offs hP.mem) (at_ hB).1) ht (by omega) fun Hc t2 sc ht2 => q1 (sb.trans sc) hP ht2 ((at_ hB).2.app ((at_ hB).2.sub cut_mem)) (by rw [List.length_append]; have := cut_last xs; omega) q
          · exact q1 (sameU nl) hP (sqT_nin (hP.nin nl) (SqT.of upd_same)) ((at_ hB).2.sub rev_mem) (by have := @rev_len V xs; omega) q
          · exact catA_inV (hP.same (sameU nl)) (sqT_same ((But.of (sameU nl)).offs hP.mem) (at_ hB).1) (sqT_nin (hP.nin nl) (SqT.of upd_same)) (by show xs.length + 1 ≤ sizeLine; omega) fun Hc t2 sc ht2 => q1 ((sameU nl).trans sc) hP ht2 ((at_ hB).2.app (AllS.one (d := .int 0) (.int 0) ((oke_int (by decide)).mono (by omega) (by omega)))) (by rw [List.length_append]; show xs.length + 1 ≤ 9; omega) q
        · have hB1 := hBa.new n1 (o := .lst ys)
          have hP1' := hPa.new n1 (o := .lst ys)
          refine ret_in ⟨.ref p, rfl, .ref l1, rfl, p, l1, c, ys, rfl, hP1'.pot, by omega, hPa.ne n1, SqL.of upd_same, by rw [hx.length, e.1]; exact (by decide : 0 < 8), by rw [hx.length, e.1]; exact (by decide : 8 ≤ 100000), fun H2 i v hB2 hP2 ev => ?_⟩
          obtain ⟨d, md, hd⟩ := hx.at ev
          exact q H2 v d (c + 1) (e.2 d md) ((hBe).trans (hB1.trans hB2)) (hP1'.but hB2 hP2) (by omega) (hd.same ((((But.refl _ _).new n1).trans hB2).offs hP.mem))
      rw [show (!PyData.eqv (.tuple ds) (.tuple [])) = true by rcases ds with _ | ⟨d0, ds⟩ <;> first | exact absurd rfl e0 | rfl]
      refine ⟨true, rfl, iteT ?_⟩
      have l1 : 1 ≤ xs.length := by
        rw [lx]
        rcases ds with _ | ⟨d0, ds⟩
        · exact absurd rfl e0
        · show 1 ≤ ds.length + 1
          omega
      refine ⟨.ref p, rfl, p, c, 6, rfl, hPe.pot, by omega, by decide, by decide, fun G2 d hB2 hP2 d0 d6 => ?_⟩
      replace hP2 := hPe.but hB2 hP2
      have hB02 := hBe.trans hB2
      refine ⟨d, 0, rfl, rfl, ?_⟩
      by_cases z : 0 < d
      · refine ⟨_, rfl, iteDY z ?_⟩
        refine seq_set ⟨.ref p, rfl, .ref u, rfl, u, _, rfl, .inr (back hB02), p, c + 1, xs.length, rfl, hP2.pot, by omega, by omega, by omega, fun G3 i hB3 hP3 i0 i2 => ?_⟩
        replace hP3 := hP2.but hB3 hP3
        have hB03 := hB02.trans hB3
        obtain ⟨j, rfl⟩ : ∃ j : Nat, i = j := ⟨i.toNat, by omega⟩
        have hj : j < xs.length := by omega
        refine ret_in ⟨.ref u, rfl, .int j, rfl, j, rfl, slA_inV hP3 (backV hB03) fun G4 L s4 hL => ?_⟩
        have hB04 := hB03.trans (But.of s4)
        have hP4 := hP3.same s4
        have ex : xs[j]? = some xs[j] := List.getElem?_eq_getElem hj
        obtain ⟨e, me, he⟩ := hA.at ex
        refine ⟨.ref p, rfl, .ref u, rfl, .int j, rfl, u, _, j, xs[j], rfl, rfl, back hB04, atI_nat (j := j) ex, N, p, c + 2, xs[j], e, rfl, hP4, by omega, he.same (hB04.offs hP.mem), hds e me, fun G5 v' d' c' od hB5 hP5 hc5 hd5 => ?_⟩
        have hB05 := hB04.trans hB5
        have hL5 : SqT K (offs N G5) L _ := sqT_same (hB5.offs hP.mem) hL
        refine ⟨by show 1 ≤ sizeLine; omega, fun T nT => ?_⟩
        have s6 := sameU (o := .tup [v']) nT
        have hT : SqT K (offs N (upd G5 T (.tup [v']))) T [v'] := sqT_nin (hP5.nin nT) (SqT.of upd_same)
        generalize L2.upd G5 T _ = G6 at s6 hT ⊢
        have hP6 := hP5.same s6
        have k1 := cutV_length xs none (some (j : Int))
        refine catA_inV hP6 (sqT_same ((But.of s6).offs hP.mem) hL5) hT (by show _ + 1 ≤ _; omega) fun G7 Z s7 hZ => ?_
        have hP7 := hP6.same s7
        have hB07 := hB05.trans (But.of (s6.trans s7))
        refine ⟨.ref u, rfl, .int j, rfl, j, 1, rfl, rfl, j + 1, rfl, slA_inVN hP7 (backV hB07) fun G8 R s8 hR => ?_⟩
        have k2 := cutV_length xs (some ((j : Int) + 1)) none
        have k3 := cut_two xs hj
        refine catA_inV (hP7.same s8) (sqT_same ((But.of s8).offs hP.mem) hZ) hR (by rw [List.length_append]; show _ + 1 + _ ≤ _; omega) fun G9 F s9 hF => ?_
        have s59 := ((s6.trans s7).trans s8).trans s9
        have hP9 := hP5.same s59
        have hB09 := hB05.trans (But.of s59)
        have a9 : AllS K (offs N G9) (fun d => OkE d (n + 1) (bz (n + 1))) ((cutV xs none (some (j : Int)) ++ [v']) ++ cutV xs (some ((j : Int) + 1)) none) := by
          have aG : AllS K (offs N G9) (fun d => OkE d (n + 1) (bz (n + 1))) xs := (aX.same (hB09.offs hP.mem)).mono fun d h => h.mono (by omega) bz_up
          exact ((aG.sub cut_mem).app (AllS.one (hd5.same ((But.of s59).offs hP.mem)) od)).app (aG.sub cut_mem)
        obtain ⟨dF, hdF, oF⟩ := tupS hF a9 (by rw [List.length_append, List.length_append]; show _ + 1 + _ ≤ 9; omega)
        exact q G9 _ dF c' oF hB09 hP9 (by omega) hdF
      · refine ⟨_, rfl, iteDN z (next_in ?_)⟩
        refine ⟨_, rfl, _, .ty "tuple", _, _, true, rfl, .ty "tuple", sqT_ty (back hB02), kit_ty (by decide +kernel), true, rfl, iteT ?_⟩
        have hT : SqT K (offs N G2) u xs := sqT_same ((hB02).offs hP.mem) hS
        have aT : AllS K (offs N G2) (fun d => OkE d n (bz n)) xs := aX.same ((hB02).offs hP.mem)
        have at_ : ∀ {Ha : Hp}, But p G2 Ha → SqT K (offs N Ha) u xs ∧ AllS K (offs N Ha) (fun d => OkE d n (bz n)) xs := fun hB => ⟨sqT_same (hB.offs hP.mem) hT, aT.same (hB.offs hP.mem)⟩
        refine seq_set (lst_in (dspA_use (K := K) (c1 := (c + 1)) (S := AllN 8 (fun d => OkE d (n + 1 + 1) (bz (n + 1 + 1)))) ?_ hP2 fun ys H1 es e hBa hPa hx => ⟨by rw [hx.length, e.1]; show 8 ≤ sizeLine; omega, fun l1 n1 => ?_⟩))
        · refine dsp_s (c1 := (c + 1)) (fun Ha Q hB hP q => ⟨.ref u, rfl, u, _, rfl, sqT_same offs_sub (at_ hB).1, fun l nl ns => ?_⟩) (dsp_s (c1 := (c + 1)) (fun Ha Q hB hP q => ⟨.ref u, rfl, 1, rfl, slA_inVN hP (at_ hB).1 fun Hb t sb ht => ?_⟩) (dsp_s (c1 := (c + 1)) (fun Ha Q hB hP q => ⟨.ref u, rfl, 1, rfl, -1, rfl, slA_inV hP (at_ hB).1 fun Hb t sb ht => ?_⟩) (dsp_s (c1 := (c + 1)) (fun Ha Q hB hP q => ⟨.ref u, rfl, .ref u, rfl, 1, rfl, -1, rfl, slA_inVN hP (at_ hB).1 fun Hb t sb ht => ?_⟩) (dsp_s (c1 := (c + 1)) (fun Ha Q hB hP q => ⟨.ref u, rfl, 1, rfl, -1, rfl, u, _, rfl, sqT_same offs_sub (at_ hB).1, rfl, fun l nl => ?_⟩) (dsp_n (c1 := (c + 1)) (dsp_tup dsp_nil) (dsp_s (c1 := (c + 1)) (fun Ha Q hB hP q => ⟨.ref u, rfl, by show 1 ≤ sizeLine; omega, fun l nl => ?_⟩) (dsp_n (dsp_c fun _ => .non) dsp_0 (fun _ e => e ▸ oke_non.mono (by omega) (by omega)))) (fun _ e => e ▸ okd_nilT.mono (by omega) (by omega)))))))
          · obtain ⟨es, he, le, ge⟩ := AllS.some (at_ hB).2
            refine q _ _ (.list es) ((oke_lst ge).mono (by omega) ?_) ((But.refl _ _).new nl) (hP.new nl) (.lst (by rw [offs_ne (hP.nin nl)]; exact upd_same) ns (he.same (((But.refl _ _).new nl).offs hP.mem)))
            exact Nat.le_trans (Nat.mul_le_mul_left _ (show es.length ≤ 9 by omega)) (@bz_up (n + 1))
          · exact q1 sb hP ht ((at_ hB).2.sub cut_mem) (by have := cutV_length xs (some 1) none; omega) q
          · exact q1 sb hP ht ((at_ hB).2.sub cut_mem) (by have := cutV_length xs none (some (-1)); omega) q
          · have := cutV_length xs (some (-1)) none
            exact catA_inV (hP.same sb) (sqT_same ((But.of sb).offs hP.mem) (at_ hB).1) ht (by omega) fun Hc t2 sc ht2 => q1 (sb.trans sc) hP ht2 ((at_ hB).2.app ((at_ hB).2.sub cut_mem)) (by rw [List.length_append]; have := cut_last xs; omega) q
          · exact q1 (sameU nl) hP (sqT_nin (hP.nin nl) (SqT.of upd_same)) ((at_ hB).2.sub rev_mem) (by have := @rev_len V xs; omega) q
          · exact catA_inV (hP.same (sameU nl)) (sqT_same ((But.of (sameU nl)).offs hP.mem) (at_ hB).1) (sqT_nin (hP.nin nl) (SqT.of upd_same)) (by show xs.length + 1 ≤ sizeLine; omega) fun Hc t2 sc ht2 => q1 ((sameU nl).trans sc) hP ht2 ((at_ hB).2.app (AllS.one (d := .int 0) (.int 0) ((oke_int (by decide)).mono (by omega) (by omega)))) (by rw [List.length_append]; show xs.length + 1 ≤ 9; omega) q
        · have hB1 := hBa.new n1 (o := .lst ys)
          have hP1' := hPa.new n1 (o := .lst ys)
          refine ret_in ⟨.ref p, rfl, .ref l1, rfl, p, l1, (c + 1), ys, rfl, hP1'.pot, by omega, hPa.ne n1, SqL.of upd_same, by rw [hx.length, e.1]; exact (by decide : 0 < 8), by rw [hx.length, e.1]; exact (by decide : 8 ≤ 100000), fun H2 i v hB2 hP2 ev => ?_⟩
          obtain ⟨d, md, hd⟩ := hx.at ev
          exact q H2 v d ((c + 1) + 1) (e.2 d md) ((hB02).trans (hB1.trans hB2)) (hP1'.but hB2 hP2) (by omega) (hd.same ((((But.refl _ _).new n1).trans hB2).offs hP.mem))
end
end Uq
namespace Uq
open PySem PySem.Spec PyProof.Rows L2 LamX
/-! ### the end of a law over a state without guards, tables of code beside it -/
abbrev tab0 : Obj := { cls := .none, data := .fields #[] }
section
variable {P : Program} {w : World} {K : PySem.W.Frag} {mg mb : Str → Option Value} {k : Nat} {fa a : Addr} {fd : FuncData} {x : Str} {sp : Sp} {s₁ : Shared} {vs : List Value} {ns : List Int} {cs : List (Addr × Addr)}
theorem core_callGT (KX : K.In s₁.heap) (hns : s₁.heap.Ns mainGlobals mg) (hb : s₁.heap.Ns builtinsNs mb) (hbb : ∀ x : Str, x ≠ "__name__" → mb x = bootBuiltins x) (hlim : s₁.heap.NoLimit) (hg : s₁.gens = #[])
    (t0 : ∀ z ∈ cs, s₁.heap.get? z.2 = some tab0) (tK : ∀ z ∈ cs, K.lookup z.2 = none) (tC : ∀ z ∈ cs, PySem.W.CodeHd s₁.heap z.1 z.2)
    (bm : ∃ (m : Addr) (o : Obj), mg "__builtins__" = some (.ref m) ∧ m ≠ builtinsNs ∧ s₁.heap.get? m = some o ∧ o.cls = .type "module" ∧ o.dict = some builtinsNs ∧ o.data = .plain)
    (ha : s₁.heap.get? a = some { cls := .type "list", data := .seq vs.toArray }) (hr : Room k callerA)
    (F : ∀ base : Heap, K.In base → base.Ns mainGlobals mg → (∀ z ∈ cs, TabB base mg z.1 z.2) → FnG P w K mg base k fa fd [x] sp) (hbind : ∀ (s : Shared) (u : Value), BindsTo s fd ⟨[u], []⟩ [(x, u)])
    (H : Hp) (hT : ∀ z ∈ cs, H z.2 = some (.tbl #[])) (hok : HOk P w H s₁.heap)
    (hA : ∀ b u, H b = some u → (b = a ∧ K.lookup a = none ∧ ∃ ob xs, u = .frz ob (.lst xs)) ∨ ∃ z ∈ cs, b = z.2) (hsp : sp [.ref a] H (fun v _ => v = .bl true) (fun _ _ _ => False)) :
    codeAny (model P w) callerA (.call (.ref fa) ⟨[.ref a], []⟩) (fun r s' => r = .ok (.ret (.bool true)) ∧ OldK s₁.heap s'.heap ∧ s'.os = s₁.os ∧ AllBare s'.gens) s₁ := by
  have free : ∀ {b : Addr} {o : Obj}, s₁.heap.get? b = some o → (∀ us m, o.data ≠ .seq us m) → o.data ≠ .fields #[] → H b = none := by
    intro b o e d1 d2
    cases q : H b with
    | none => rfl
    | some u =>
      exfalso
      rcases hA b u q with ⟨y, _⟩ | ⟨z, mz, y⟩
      · rw [y, ha] at e
        cases e
        exact d1 _ _ rfl
      · rw [y, t0 z mz] at e
        cases e
        exact d2 rfl
  have freeD : ∀ {b : Addr} {o : Obj} {es : Array DictEntry} {ep : Nat}, s₁.heap.get? b = some o → o.data = .dict es ep → H b = none := fun e d => free e (fun _ _ y => by rw [d] at y; cases y) (fun y => by rw [d] at y; cases y)
  have toNs : ∀ {b : Addr} {m : Str → Option Value}, s₁.heap.Ns b m → (hidT s₁.heap H).Ns b m := by
    rintro b m ⟨o, es, ep, e, d, r⟩
    exact ⟨o, es, ep, hidT_get e (freeD e d), d, r⟩
  have KH : K.In (hidT s₁.heap H) := by
    intro b o e
    refine hidT_get (KX b o e) ?_
    cases q : H b with
    | none => rfl
    | some u =>
      exfalso
      rcases hA b u q with ⟨y, n, _⟩ | ⟨z, mz, y⟩
      · rw [y, n] at e
        cases e
      · rw [y, tK z mz] at e
        cases e
  have TB : ∀ z ∈ cs, TabB (hidT s₁.heap H) mg z.1 z.2 := by
    intro z mz
    obtain ⟨g0, ges, gep, ge, gd, _⟩ := hns
    refine ⟨?_, ?_, ?_⟩
    · obtain ⟨o, us, f1, f2, f3, f4, f5, f6, f7, e, rest⟩ := tC z mz
      have dd : o.data = .fields us := rest.2.1
      refine ⟨o, us, f1, f2, f3, f4, f5, f6, f7, hidT_get e (free e (fun _ _ y => by rw [dd] at y; cases y) (fun y => ?_)), rest⟩
      rw [dd] at y
      cases y
      have := rest.2.2.1
      simp at this
    · obtain ⟨m, o, m1, m2, m3, m4, m5, m6⟩ := bm
      refine ⟨m, o, m1, m2, ?_, ?_, hidT_get m3 (free m3 (fun _ _ y => by rw [m6] at y; cases y) (fun y => by rw [m6] at y; cases y)), m4, m5, m6⟩
      · intro y
        rw [y, ge] at m3
        cases m3
        rw [gd] at m6
        cases m6
      · intro y
        rw [y, t0 z mz] at m3
        cases m3
        cases m6
    · intro y
      rw [y, t0 z mz] at ge
      cases ge
      cases gd
  obtain ⟨mc, l1, l2⟩ := hlim
  have e0 : Env0 P w K mg (hidT s₁.heap H) callerA [] s₁ H := by
    refine { frames := rfl, mod := ⟨KH, toNs hns, ⟨mb, toNs hb, hbb⟩, ⟨mc, toNs l1, l2⟩⟩, bs := fun b o e => of_hidT e, bsz := Nat.le_of_eq (hidT_size _ _), funs := trivial, frf := ?_, hok := hok, bare := .of_eq hg }
    intro b z
    exact nomatch (show b ∈ ([] : List Addr) from z)
  have go := (F _ KH (toNs hns) TB).run callerA [] s₁ H ⟨[.ref a], []⟩ [.ref a] [.ref a] _ _ rfl hr e0 (hbind s₁ (.ref a)) (.cons rfl .nil) hsp
  refine codeAny_mono go ?_
  intro r s' h
  cases r with
  | error e => exact False.elim h
  | ok fl =>
    cases fl with
    | next => exact False.elim h
    | brk => exact False.elim h
    | cont => exact False.elim h
    | ret u =>
      obtain ⟨v, H', os, bare, un, hok', rv, q⟩ := h
      have ev : v = .bl true := q
      subst ev
      have eu : u = Value.bool true := rv
      subst eu
      have stay : ∀ b o, (∀ z ∈ cs, b ≠ z.2) → s₁.heap.get? b = some o → s'.heap.get? b = some o := by
        intro b o nz e
        cases hb : H b with
        | none => exact un.keep b o e hb (fun y => nomatch (show b ∈ ([] : List Addr) from y)) (fun y => nomatch (show b ∈ ([] : List Addr) from y))
        | some u =>
          rcases hA b u hb with ⟨_, _, ob, xs, rfl⟩ | ⟨z, mz, y⟩
          · obtain ⟨y1, _⟩ := hok b _ hb
            obtain ⟨y2, _⟩ := hok' b _ (un.frzs b ob _ hb)
            rw [e] at y1
            cases y1
            exact y2
          · exact absurd y (nz z mz)
      have grew : ∀ z ∈ cs, ∃ more : Array Value, s'.heap.get? z.2 = some { cls := .none, data := .fields (#[] ++ more) } := by
        intro z mz
        obtain ⟨more, e⟩ := un.tbls z.2 #[] (hT z mz)
        exact ⟨more, hok' z.2 _ e⟩
      refine ⟨rfl, ⟨fun b o e => ?_, fun b o e => ?_⟩, os, bare⟩
      · by_cases y : ∃ z ∈ cs, b = z.2
        · obtain ⟨z, mz, rfl⟩ := y
          obtain ⟨more, e2⟩ := grew z mz
          have ct := ((tC z mz).tab (ps := #[]) (t0 z mz)).isCodeTable
          rw [t0 z mz] at e
          cases e
          exact .inr (.inl ⟨ct, rfl, #[], more, rfl, e2⟩)
        · exact .inl (stay b o (fun z mz k => y ⟨z, mz, k⟩) e)
      · by_cases y : ∃ z ∈ cs, b = z.2
        · obtain ⟨z, mz, rfl⟩ := y
          obtain ⟨more, e2⟩ := grew z mz
          exact ⟨_, e2⟩
        · exact ⟨o, stay b o (fun z mz k => y ⟨z, mz, k⟩) e⟩
end
/-- what the end asks of the law at the heap h -/
def EndGT (l : PySem.W.OpenLaw) (w : World) (K : PySem.W.Frag) (k n : Nat) (x : Str) (mg : Str → Option Value) (fa : Addr) (h : Heap) : Prop := ∃ (fd : FuncData) (cs : List (Addr × Addr)) (sp : Sp),
  (∀ z ∈ cs, h.get? z.2 = some tab0) ∧ (∀ z ∈ cs, K.lookup z.2 = none) ∧ (∀ z ∈ cs, PySem.W.CodeHd h z.1 z.2) ∧ (∀ (s : Shared) (u : Value), BindsTo s fd ⟨[u], []⟩ [(x, u)]) ∧
  (∀ (H : Hp) (a : Addr) (ns : List Int), ns.length ≤ n → (∀ z ∈ cs, H z.2 = some (.tbl #[])) → SqL K H a (ns.map V.int) → sp [.ref a] H (fun v _ => v = .bl true) (fun _ _ _ => False)) ∧
  ∀ base : Heap, K.In base → base.Ns mainGlobals mg → (∀ z ∈ cs, TabB base mg z.1 z.2) → FnG l.prog w K mg base k fa fd [x] sp
theorem walk_ofGT {l : PySem.W.OpenLaw} {n k : Nat} {q : Program} {loose : List Str} {XP : (Str → Option Value) → Heap → Prop} {YP : World → Heap → Prop} {d : DefRec} {K : Params → PySem.W.Frag} {x : Str}
    (hn : l.most = some n) (hn2 : n ≤ sizeLine) (hdf : d.params.defaults = []) (hr : Room k callerA)
    (hY : ∀ (w : World) (h : Heap), YP w h → (K w.params).In h)
    (F : ∀ (w : World) (mg : Str → Option Value) (fa : Addr) (h : Heap), YP w h → (K w.params).In h → h.Ns mainGlobals mg → mg d.name = some (.ref fa) → EndGT l w (K w.params) k n x mg fa h) :
    PySem.W.WalkO q loose XP YP l.row.toRowW d [] (fun f vs => PySem.call f vs) := by
  apply Att.attach_call hn hdf
  intro w s₀ s₁ mg mb fa o pm cd doc a vs ns G Y ho hd hcd hmg ha hi hlen hg
  have KX := hY w _ Y
  obtain ⟨fd, cs, sp, t0, tK, tC, hb, hsp, hF⟩ := F w mg fa _ Y KX G.T.g hmg
  have rv := vals_ints hi
  have len := hi.length
  have hl : ns.length ≤ sizeLine := Nat.le_trans hlen hn2
  have notA : ∀ z ∈ cs, z.2 ≠ a := by
    intro z mz y
    have e := t0 z mz
    rw [y, ha] at e
    cases e
  let HT : Hp := fun b => if ∃ z ∈ cs, b = z.2 then some (.tbl #[]) else none
  have yes : ∀ z ∈ cs, HT z.2 = some (.tbl #[]) := fun z mz => if_pos ⟨z, mz, rfl⟩
  have at_ : ∀ b u, HT b = some u → (∃ z ∈ cs, b = z.2) ∧ u = .tbl #[] := by
    intro b u e
    by_cases y : ∃ z ∈ cs, b = z.2
    · have e2 : HT b = some (.tbl #[]) := if_pos y
      rw [e2] at e
      exact ⟨y, (Option.some.inj e).symm⟩
    · have e2 : HT b = none := if_neg y
      rw [e2] at e
      cases e
  by_cases hk : K w.params |>.lookup a |>.isSome
  · obtain ⟨ob, hob⟩ := Option.isSome_iff_exists.mp hk
    have e := KX a ob hob
    rw [ha] at e
    cases e
    refine core_callGT (H := HT) KX G.T.g G.T.b G.T.builtins G.T.nolimit hg t0 tK tC G.T.bmain ha hr hF hb yes (fun b u e => ?_) (fun b u e => .inr (at_ b u e).1) ?_
    · obtain ⟨⟨z, mz, rfl⟩, rfl⟩ := at_ b u e
      exact t0 z mz
    · refine hsp _ a ns hlen yes (.inr ⟨_, vs.toArray, _, hob, rfl, rfl, rfl, ?_, ?_⟩)
      · rw [List.size_toArray, len]
        exact hl
      · exact rv
  · have hk' : (K w.params).lookup a = none := Option.not_isSome_iff_eq_none.mp hk
    let H0 : Hp := fun b => if b = a then some (.frz { cls := .type "list", data := .seq vs.toArray } (.lst (ns.map V.int))) else HT b
    have h0 : H0 a = some (.frz { cls := .type "list", data := .seq vs.toArray } (.lst (ns.map V.int))) := if_pos rfl
    have h1 : ∀ b, b ≠ a → H0 b = HT b := fun b z => if_neg z
    have yes0 : ∀ z ∈ cs, H0 z.2 = some (.tbl #[]) := fun z mz => (h1 _ (notA z mz)).trans (yes z mz)
    refine core_callGT (H := H0) KX G.T.g G.T.b G.T.builtins G.T.nolimit hg t0 tK tC G.T.bmain ha hr hF hb yes0 ?_ ?_ ?_
    · intro b u e
      by_cases z : b = a
      · subst z
        rw [h0] at e
        cases e
        exact ⟨ha, by rw [List.length_map]; exact hl, vs, _, rv, ha⟩
      · rw [h1 b z] at e
        obtain ⟨⟨y, my, rfl⟩, rfl⟩ := at_ b u e
        exact t0 y my
    · intro b u e
      by_cases z : b = a
      · subst z
        rw [h0] at e
        exact .inl ⟨rfl, hk', _, _, (Option.some.inj e).symm⟩
      · rw [h1 b z] at e
        exact .inr (at_ b u e).1
    · exact hsp _ a ns hlen yes0 (.inl (.inr ⟨_, h0⟩))
end Uq
namespace Uq
open PySem PySem.Spec PyProof.Rows L2 LamX TL
/-! ### lambdas told; what stays where tables of code are written -/
def TTk (K : PySem.W.Frag) (CA : Addr) : (XK → Hp → VK → Prop) → Hp → VK → Prop := fun tl H Q => ∀ H0, Same H H0 → ∀ (E : XK) (Q' : VK),
  (∀ cls d H', PySem.W.exmOne K cls (.ref CA) = some true → (∀ a, H' a = none → ∀ T, (upd H' a (exk a cls d)) T = none → Q (.ref T) (upd (upd H' a (exk a cls d)) T (.tup [.ref a, .non]))) → E cls d H') →
  (∀ v H1, (∀ T, H1 T = none → Q (.ref T) (upd H1 T (.tup [.non, v]))) → Q' v H1) → tl E H0 Q'
theorem told_gives {X : Cx} {g CA : Addr} {cdg : Value} {q : Str} (gA : X.mg "AskedError" = some (.ref CA)) : GivesS X N_law_told "_law_told" (defScope s_law_told) g cdg (defBody s_law_told) "_law_look" q (TTk X.K CA) := by
  intro f c' s H Q tl act hc h
  have hgl : Gl (cxG X N_law_told "_law_told" (defScope s_law_told) g cdg s H).nox "AskedError" := by rfl
  refine ⟨_, pss_cons (ps_asg (pe_tup (pa_cons pe_non (pa_cons pe_non pa_nil))) (pg_tup rfl (pgs_cons (pg_name (i := 1) sc_law_told.nd rfl (.inl rfl)) (pgs_cons (pg_name (i := 2) sc_law_told.nd rfl (.inl rfl)) pgs_nil)))) (pss_cons (ps_try_keep (X := (cxG X N_law_told "_law_told" (defScope s_law_told) g cdg s H).nox) (c := .ref CA) (i := 3)
    (tb := fun W D σ H => ∃ (E : XK) (σ₀ : L2.St), (∀ cls d H', E cls d H' → W cls d σ₀ H') ∧ σ = σ₀ ∧ σ[0]? = some (some (.ref f)) ∧ H c' = some (CodeO c' q) ∧ tl E H (fun v H1 => D.nx (σ.set 2 (some v)) H1))
    rfl rfl rfl sc_law_told.nd rfl rfl ⟨hgl, by decide, .inl gA⟩ LamX.takes0 (fun W pn xe tk _ => ?_) (fun a pn => pss_one (ps_set (i := 1) sc_law_told.nd rfl (.inl rfl) (pv 3)))) (pss_one (ps_ret (pe_tup (pa_cons (pv 1) (pa_cons (pv 2) pa_nil)))))), ?_⟩
  · refine ⟨fun pins s' σ H' D I h' => ?_⟩
    obtain ⟨E, σ₀, hW, h1, h2, h3, h4⟩ := h'
    exact PSs.run (pss_one (ps_set (i := 2) sc_law_told.nd rfl (.inl rfl) (act W pn xe E σ₀ _ _ tk hW))) pins s' σ H' D I ⟨h1, h2, h3, h4⟩
  · refine ⟨by show 2 ≤ sizeLine; decide, fun T0 nT0 => ⟨T0, _, rfl, SqT.of upd_same, rfl, _, _, rfl, _, _, rfl, rfl, ?_⟩⟩
    have s0 := sameU (o := .tup [.non, .non]) nT0
    generalize L2.upd H T0 (.tup [.non, .non]) = H0 at s0 ⊢
    refine ⟨fun cls d H' => wKeep X.K (.ref CA) 3 (tAsg (tVar 3) (gName 1)) (fun _ _ _ _ => False) { nx := tRet (tTup (tCons (tVar 1) (tCons (tVar 2) tNil))) { nx := fun x H' => Q V.non H', rt := Q }, rt := Q } cls d [some (.ref f), some .non, some .non, none] H', _, fun cls d H' h => h, rfl, rfl, s0 _ _ hc, ?_⟩
    refine h H0 s0 _ _ (fun cls d H' hx hq => ⟨true, hx, fun _ a na => ?_, fun z => nomatch z⟩) (fun v H1 hq => ?_)
    · refine ⟨.ref a, rfl, ?_⟩
      refine ⟨.ref a, rfl, .non, rfl, by show 2 ≤ sizeLine; decide, fun T nT => ?_⟩
      exact hq a na T nT
    · refine ⟨.non, rfl, v, rfl, by show 2 ≤ sizeLine; decide, fun T nT => ?_⟩
      exact hq T nT
theorem u100 {k : Nat} {A : Around} (r : Room k A) : A.units + 100 < cLine := by
  have := r.un
  omega
theorem sqT_ext {K : PySem.W.Frag} {H H' : Hp} {t : Addr} {xs : List V} (e : ExtN H H') (h : SqT K H t xs) : SqT K H' t xs := by
  rcases h with (h | ⟨ob, h⟩) | h
  · exact .inl (.inl (e _ _ h (fun _ z => by cases z)))
  · exact .inl (.inr ⟨ob, e _ _ h (fun _ z => by cases z)⟩)
  · exact .inr h
theorem extN_same {H H' : Hp} (s : Same H H') : ExtN H H' := fun b o h _ => s b o h
theorem tabs_same {T : List (Addr × Str)} {H H' : Hp} (t : Tabs T H) (s : Same H H') : Tabs T H' := Tabs.ext t s
/-- all but the pot and the tables stay -/
def ButN (p : Addr) (H H' : Hp) : Prop := ∀ b o, b ≠ p → H b = some o → (∀ ps, o ≠ .tbl ps) → H' b = some o
theorem ButN.trans {p : Addr} {H H1 H2 : Hp} (a : ButN p H H1) (b : ButN p H1 H2) : ButN p H H2 := fun c o n h k => b c o n (a c o n h k) k
theorem ButN.of {p : Addr} {H H' : Hp} (a : But p H H') : ButN p H H' := fun c o n h _ => a c o n h
theorem ButN.ext {p : Addr} {H H' : Hp} (a : ExtN H H') : ButN p H H' := fun c o _ h k => a c o h k
theorem tabs_but {T : List (Addr × Str)} {p : Addr} {c : Nat} {H H' : Hp} (t : Tabs T H) (hp : Pot H p c) (s : But p H H') : Tabs T H' := by
  obtain ⟨o, sd, n, h0, _⟩ := hp
  intro k mk
  obtain ⟨ps, h1, h2, h3⟩ := t k mk
  refine ⟨ps, s _ _ (fun e => by rw [e, h0] at h1; cases h1) h1, h2, fun pos cv hc => ?_⟩
  obtain ⟨c, e1, e2⟩ := h3 pos cv hc
  exact ⟨c, e1, s _ _ (fun e => by rw [e, h0] at e2; cases e2) e2⟩
theorem Pot.extN {p : Addr} {c : Nat} {H H' : Hp} (hp : Pot H p c) (e : ExtN H H') : Pot H' p c := by
  obtain ⟨o, sd, n, h0, r⟩ := hp
  have z := e _ _ h0 (fun _ z => by cases z)
  exact ⟨o, sd, n, z, r⟩
theorem sqL_ext {K : PySem.W.Frag} {H H' : Hp} {t : Addr} {xs : List V} (e : ExtN H H') (h : SqL K H t xs) : SqL K H' t xs := by
  rcases h with (h | ⟨ob, h⟩) | h
  · exact .inl (.inl (e _ _ h (fun _ z => by cases z)))
  · exact .inl (.inr ⟨ob, e _ _ h (fun _ z => by cases z)⟩)
  · exact .inr h
mutual
theorem Dx.ext {K : PySem.W.Frag} {H H' : Hp} (e : ExtN H H') : ∀ {d : PyData} {v : V}, Dx K H v d → Dx K H' v d
  | _, _, .non => .non
  | _, _, .bl b => .bl b
  | _, _, .int i => .int i
  | _, _, .str x => .str x
  | _, _, .lst h ns ha => .lst (e _ _ h (fun _ z => by cases z)) ns (DxAll.ext e ha)
  | _, _, .tup h ha => .tup (sqT_ext e h) (DxAll.ext e ha)
  | _, _, .dct h he ha => .dct (e _ _ h (fun _ z => by cases z)) he (DxAll.ext e ha)
theorem DxAll.ext {K : PySem.W.Frag} {H H' : Hp} (e : ExtN H H') : ∀ {ds : List PyData} {vs : List V}, DxAll K H vs ds → DxAll K H' vs ds
  | _, _, .nil => .nil
  | _, _, .cons h1 h2 => .cons (Dx.ext e h1) (DxAll.ext e h2)
end
theorem AnyD.ext {K : PySem.W.Frag} {H H' : Hp} {v : V} (e : ExtN H H') (h : AnyD K H v) : AnyD K H' v := by
  obtain ⟨d, a, b⟩ := h
  exact ⟨d, Dx.ext e a, b⟩
theorem tabs_list {T : List (Addr × Str)} {H : Hp} {D : Addr} {xs : List V} {o : HO} (hD : H D = some (.lst xs)) (t : Tabs T H) : Tabs T (upd H D o) := by
  intro z mz
  obtain ⟨ps, h1, h2, h3⟩ := t z mz
  refine ⟨ps, ?_, h2, fun pos cv hc => ?_⟩
  · rw [upd_ne (fun e => by rw [e, hD] at h1; cases h1)]
    exact h1
  · obtain ⟨c, e1, e2⟩ := h3 pos cv hc
    refine ⟨c, e1, ?_⟩
    rw [upd_ne (fun e => by rw [e, hD] at e2; cases e2)]
    exact e2
theorem Lns.ext {K : PySem.W.Frag} {H H' : Hp} {d : Addr} {ls : List Ln} (e : ExtN H H') (h : Lns K H d ls) : Lns K H' d ls := by
  obtain ⟨kvs, e1, ps⟩ := h
  have e2 := e _ _ e1 (fun _ z => by cases z)
  exact ⟨kvs, e2, paired_mono (fun _ _ ⟨h1, t, h2, h3⟩ => ⟨h1, t, h2, sqT_ext e h3⟩) ps⟩
theorem PgO.ext {K : PySem.W.Frag} {C : Addr} {b : Nat} {h x : Str} {rs : List Rw} {H H' : Hp} {a dx u d e : Addr} (y : ExtN H H') (O : PgO K C b h x rs H a dx u d e) : PgO K C b h x rs H' a dx u d e :=
by
  have h1 := y _ _ O.at_ (fun _ z => by cases z)
  have h2 := y _ _ O.units (fun _ z => by cases z)
  have h3 := y _ _ O.ends (fun _ z => by cases z)
  exact ⟨h1, h2, Lns.ext y O.lines, h3⟩
theorem Lns.pot {K : PySem.W.Frag} {H H' : Hp} {d p : Addr} {c : Nat} {ls : List Ln} (h : Lns K H d ls) (hp : Pot H p c) (s : But p H H') : Lns K H' d ls := by
  obtain ⟨kvs, e, ps⟩ := h
  refine ⟨kvs, s _ _ ?_ e, paired_mono (fun _ _ ⟨h1, t, h2, h3⟩ => ⟨h1, t, h2, sqT_pot h3 hp s⟩) ps⟩
  rintro rfl
  obtain ⟨_, _, _, h0, _⟩ := hp
  rw [h0] at e
  cases e
theorem PgO.pot {K : PySem.W.Frag} {C : Addr} {b : Nat} {h x : Str} {rs : List Rw} {H H' : Hp} {a dx u d e p : Addr} {c : Nat} (O : PgO K C b h x rs H a dx u d e) (hp : Pot H p c) (s : But p H H') : PgO K C b h x rs H' a dx u d e := by
  have hp0 := hp
  obtain ⟨_, _, _, h0, _⟩ := hp0
  have ne : ∀ z o, H z = some o → (∀ ys, o ≠ .lst ys) → z ≠ p := fun z o e n k => by
    rw [k, h0] at e
    exact n _ (Option.some.inj e).symm
  exact ⟨s _ _ (ne _ _ O.at_ fun _ k => by cases k) O.at_, s _ _ (ne _ _ O.units fun _ k => by cases k) O.units, O.lines.pot hp s, s _ _ (ne _ _ O.ends fun _ k => by cases k) O.ends⟩
theorem rwok_pg {b : Nat} {h x : Str} {rs : List Rw} (P : Pg b h x rs) : ∀ r ∈ rs, RwOk b r := by
  intro r mr
  obtain ⟨k, lk, ek⟩ := List.getElem_of_mem mr
  have g := P.good k r (by rw [← ek]; exact List.getElem?_eq_getElem lk)
  have m : rowW r ∈ pageW b h x rs := List.mem_cons_of_mem _ (List.mem_cons_of_mem _ (List.mem_map.mpr ⟨r, mr, rfl⟩))
  have wd := P.wds _ m
  refine ⟨g.opts, g.nam.up, (wd r.ab (by unfold rowW lineW; simp)).len, ?_⟩
  have := line_len wd
  have := (asc_page P _ m).2
  omega
/-- the text of a lore -/
theorem text_in {K : PySem.W.Frag} {H : Hp} {d u R : Addr} {b : Nat} {h x : Str} {ws : List V} {qs : List R4} {Q : VK} {E : XK} (L : LoreAt K H d u R b h x ws qs) (P : Pg b h x (qs.map mkR)) (q : ∀ H', Same H H' → Q (.str (pageT b h x (qs.map mkR))) H') : sp_law_text K [.ref d] H Q E := by
  have few := P.few
  rw [List.length_map] at few
  refine ⟨d, u, R, b, h, x, ws, qs.map mkR, rfl, ?_, by rw [List.length_map]; omega, by have := P.b1; omega, (wd_how P.how).len, P.nam.up, rwok_pg P, q⟩
  rw [List.map_map]
  have z : (r4 ∘ mkR) = id := funext fun q => rfl
  rw [z, List.map_id]
  exact L
/-- a page made of its text -/
theorem mkP_in {K : PySem.W.Frag} {C : Addr} {b : Nat} {h x : Str} {rs : List Rw} {H : Hp} {Z : Addr → Hp → Prop} (P : Pg b h x rs) (q : ∀ G a dx u d e, Same H G → PgO K C b h x rs G a dx u d e → Z a G) : ∀ a dx, H a = none → H dx = none → dx ≠ a → sp_Page__init_ K C [.ref a, .str (pageT b h x rs)] (upd (upd H dx (.own a)) a (.ins C dx [])) (fun v H2 => v = .non ∧ Z a H2) E0 := by
  intro a dx na ndx ne
  have s1 : Same H (upd (upd H dx (.own a)) a (.ins C dx [])) := fun z o ez => by
    rw [upd_ne (ne_of_none ez na), upd_ne (ne_of_none ez ndx)]
    exact ez
  refine ⟨b, h, x, rs, a, dx, rfl, P, upd_same, fun G u d e o6 O6 => ⟨rfl, ?_⟩⟩
  exact q G a dx u d e (fun z o ez => o6 _ _ (ne_of_none ez na) (s1 _ _ ez)) O6
theorem shapes_shpL : ∀ s ∈ shapes, Shp s := by
  have z : ∀ s ∈ shapes, (1 ≤ s.length ∧ s.length ≤ 9 ∧ (∀ k, k < s.length → s.getD k 0 ≤ k) ∧ (∀ k, k < s.length → (depths s).getD (k + 1) 0 = (depths s).getD (s.getD k 0) 0 + 1) ∧ (depths s).getD 0 0 = 0 ∧ (∀ k, k < s.length → (depths s).getD (k + 1) 0 ≤ 3) ∧ (∀ k, k < s.length + 1 → (endsN s k).length ≤ 6)) := by decide +kernel
  exact fun s m => shp_of (z s m)
section
variable {P : Program} {w : World} {K : PySem.W.Frag} {mg : Str → Option Value} {base : Heap}
theorem funC_okG {x qual : Str} {st : Stmt} {f : Addr} {fd : FuncData} {N ps : List Str} {k : Nat} {sp : Sp} (F : Fun K x qual st f fd) (S : FnScope N ps (defScope st))
    (len : ∀ vs H Q E, sp vs H Q E → vs.length = ps.length)
    (hbody : ∀ (cdv : Value) (A : Around) (outer : List Env) (s : Shared) (H : Hp) (vs : List V) (Q : VK) (E : XK), fd.code = cdv → A.guards = some [] →
      Room k (A.deeper (envOfC qual (defScope st) s.heap.objs.size f cdv)) → sp vs H Q E →
      ∃ t, PSs (cxOf CX0 P w K mg base N qual (defScope st) f cdv A outer s H E).nox (defBody st) t ∧ t { nx := fun _ H' => Q .non H', rt := Q } (start N vs) H) :
    FnG P w K mg base (k + 1) f fd ps sp := by
  obtain ⟨oc, od, kV, doc, pm, an, cdv, ct, osl, rfl, lk, hcd⟩ := F.ex
  constructor
  · exact len
  intro A outer s H args us vs Q E hg hr e0 hb r hsp
  have hkeep : ∀ b o, base.get? b = some o → s.heap.get? b = some o := fun b o e => (e0.bs b o e).1
  have KX : K.In s.heap := e0.mod.kin.keeps hkeep
  have hpar : ∀ y ∈ ps.zip us, (defScope st).names.lookup y.1 = some .local ∨ ((defScope st).names.lookup y.1 = some .cell ∧ ((cellsFrom (s.heap.objs.size + 1) (defScope st).names []).lookup y.1).isSome = true) := by
    intro y hy
    have hm : y.1 ∈ ps := (List.of_mem_zip (show (y.1, y.2) ∈ ps.zip us from hy)).1
    cases S.par y.1 hm with
    | inl q => exact Or.inl q
    | inr q => exact Or.inr ⟨q, PySem.W.cellsFrom_some _ _ _ (Or.inl q)⟩
  apply codeAny_call_function hr.depth (KX _ _ lk) rfl S.co S.gen rfl (PySem.W.codeRec_of KX hcd)
  apply hb
  apply wpAny_newFunctionEnv_cells S.kind hpar
  rintro env rfl s1 x
  refine ⟨(e0.mod.nolimit.keeps hkeep).keeps x.toInCall.keep, codeAny_func ?_⟩
  obtain ⟨t, ht, hq⟩ := hbody cdv A outer s H vs Q E rfl hg (hr.deeper _) hsp
  have J0 := inv_start (CX := CX0) (E := E) S hr.hd e0 (len _ _ _ _ hsp) r x
  have run := ht.nox.run [] s1 (start N vs) H _ J0 hq
  refine wpAny_mono run (fun fl s' hs => ?_) (fun _ _ hs => hs)
  cases fl with
  | ret u =>
    obtain ⟨v, σ', H', J, rv, q⟩ := hs
    exact ⟨v, H', J.os, J.bare, J.base, J.hok, rv, q⟩
  | next =>
    obtain ⟨σ', H', J, q⟩ := hs
    exact ⟨.non, H', J.os, J.bare, J.base, J.hok, rfl, q⟩
  | brk => exact hs.elim (fun _ h => h.elim fun _ h => h.2.elim)
  | cont => exact hs.elim (fun _ h => h.elim fun _ h => h.2.elim)
end
end Uq
namespace Uq
open PySem PySem.Spec PyProof.Rows L2 LamX TL
/-! ### least terms -/
def red (a b : Int) : Int × Int := (a / ((Nat.gcd a.natAbs b.natAbs : Nat) : Int), b / ((Nat.gcd a.natAbs b.natAbs : Nat) : Int))
def sp_least_terms (K : PySem.W.Frag) : Sp := fun vs H Q _ => ∃ a b : Int, vs = [.int a, .int b] ∧ 0 < b ∧ b < 2 ^ 62 ∧ ∀ H' t, Same H H' → H t = none → H' t = some (.tup [.int (red a b).1, .int (red a b).2]) → Q (.ref t) H'
theorem gcd_pos {a b : Int} (hb : 0 < b) : 0 < ((Nat.gcd a.natAbs b.natAbs : Nat) : Int) := Int.natCast_pos.mpr (Nat.gcd_pos_of_pos_right _ (by omega))
theorem gcd_le {a b : Int} (hb : 0 < b) : ((Nat.gcd a.natAbs b.natAbs : Nat) : Int) ≤ b := by
  have z := Nat.gcd_le_right (n := b.natAbs) a.natAbs (by omega)
  omega
theorem red_lt {a b : Int} (hb : 0 < b) (h0 : 0 ≤ a) (h1 : a < 2 ^ 62) : 0 ≤ (red a b).1 ∧ (red a b).1 < 2 ^ 62 := ⟨Int.ediv_nonneg h0 (Int.le_of_lt (gcd_pos hb)), Int.lt_of_le_of_lt (Int.ediv_le_self _ h0) h1⟩
def sp_law_common (K : PySem.W.Frag) : Sp := fun vs H Q _ => ∃ a b : Int, vs = [.int a, .int b] ∧ Q (.int ((Nat.gcd a.natAbs b.natAbs : Nat) : Int)) H
def sp_law_pair (K : PySem.W.Frag) : Sp := fun vs H Q _ => ∃ a b : Int, vs = [.int a, .int b] ∧ 0 < b ∧ b < 2 ^ 62 ∧ ∀ H' t, Same H H' → H t = none → H' t = some (.tup [.int (red a b).1, .int (red a b).2]) → Q (.ref t) H'
def toNatV : V → Nat
  | .int y => y.toNat
  | _ => 0
def slot3 (σ : L2.St) : Nat := match σ[3]? with
  | some (some v) => toNatV v
  | _ => 0
section
variable {P : Program} {w : World} {K : PySem.W.Frag} {mg : Str → Option Value} {base : Heap}
theorem ok_least_terms {f : Addr} {fd : FuncData} (F : Fun K "least_terms" "least_terms" s_least_terms f fd) (g_gcd : mg "gcd" = some (.builtin "math.gcd")) : FnOk P w K mg base CX0 1 f fd ["over", "under"] (sp_least_terms K) := by
  refine F.ok sc_least_terms (fun vs H Q E h => ?_) (fun cdv A outer s H vs Q E hr h => ?_)
  · obtain ⟨a, b, rfl, _⟩ := h
    rfl
  · refine ⟨_, (pss_cons (ps_set (i := 2) sc_least_terms.nd rfl (.inl rfl) (pe_callBfun cr_gcd (by rfl) g_gcd (pa_cons (pv 0) (pa_cons (pv 1) pa_nil))))
      (pss_one (ps_ret (pe_tup (pa_cons (pe_op op_fdivW (pv 0) (pv 2)) (pa_cons (pe_op op_fdivW (pv 1) (pv 2)) pa_nil)))))), ?_⟩
    obtain ⟨a, b, rfl, b0, b1, q⟩ := h
    refine ⟨.int a, rfl, .int b, rfl, a, b, rfl, ?_⟩
    have g0 := gcd_pos (a := a) b0
    have g1 := gcd_le (a := a) b0
    have wd : ∀ x : Int, CDivW x ((Nat.gcd a.natAbs b.natAbs : Nat) : Int) := fun x => wide_div (b := 62) g0 (by omega) (by decide) (by decide)
    refine ⟨.int a, rfl, .int ((Nat.gcd a.natAbs b.natAbs : Nat) : Int), rfl, a, _, rfl, rfl, wd a, .int b, rfl, .int ((Nat.gcd a.natAbs b.natAbs : Nat) : Int), rfl, b, _, rfl, rfl, wd b, ?_⟩
    exact ⟨by show 2 ≤ sizeLine; decide, fun t nt => q _ t (sameU nt) nt upd_same⟩
theorem ok_law_common {f : Addr} {fd : FuncData} (F : Fun K "_law_common" "_law_common" s_law_common f fd) (m_abs : mg "abs" = none) (m_int : mg "int" = none) : FnOk P w K mg base CX0 1 f fd ["_law_one", "_law_other"] (sp_law_common K) := by
  refine F.ok sc_law_common (fun vs H Q E h => ?_) (fun cdv A outer s H vs Q E hr h => ?_)
  · obtain ⟨a, b, rfl, _⟩ := h
    rfl
  · refine ⟨_, (pss_cons (ps_par (i := 2) (j := 3) (by rfl) sc_law_common.nd rfl rfl (by decide) rfl rfl (pa_cons (pe_callB call_abs (by rfl) m_abs (by decide +kernel) (pa_cons (pv 0) pa_nil)) (pa_cons (pe_callB call_abs (by rfl) m_abs (by decide +kernel) (pa_cons (pv 1) pa_nil)) pa_nil)) (by rfl))
      (pss_cons (ps_while PassesOwn.never (pt_cmpR op_gt (pv 3) pe_int (nomark _)) (pss_one (ps_par (i := 2) (j := 3) (by rfl) sc_law_common.nd rfl rfl (by decide) rfl rfl (pa_cons (pv 3) (pa_cons (pe_op op_mod (pe_callTy call_int1 (by rfl) m_int (by decide +kernel) (pa_cons (pv 2) pa_nil)) (pe_callTy call_int1 (by rfl) m_int (by decide +kernel) (pa_cons (pv 3) pa_nil))) pa_nil)) (by rfl))))
      (pss_one (ps_ret (pv 2))))), ?_⟩
    obtain ⟨a, b, rfl, q⟩ := h
    refine ⟨.int a, rfl, a, rfl, .int b, rfl, b, rfl, _, _, rfl, ?_⟩
    refine while_by (fun σ H1 => ∃ x y : Int, σ = [some (.int a), some (.int b), some (.int x), some (.int y)] ∧ H1 = H ∧ 0 ≤ x ∧ 0 ≤ y ∧ Nat.gcd x.natAbs y.natAbs = Nat.gcd a.natAbs b.natAbs) (fun σ _ => slot3 σ) ?_ ?_ ?_
    · refine ⟨_, _, rfl, rfl, by split <;> omega, by split <;> omega, ?_⟩
      have e : ∀ z : Int, (if z < 0 then -z else z).natAbs = z.natAbs := fun z => by split <;> omega
      rw [e, e]
    · rintro σ H1 ⟨x, y, rfl, rfl, x0, y0, hgcd⟩
      refine ⟨.int y, rfl, y, 0, rfl, rfl, _, rfl, ite2 (fun e => ?_) (fun e => ?_)⟩
      · have e1 : 0 < y := of_decide_eq_true e
        refine ⟨.int y, rfl, .int x, rfl, .inl ⟨x, rfl, .int y, rfl, .inl ⟨y, rfl, x, y, rfl, rfl, e1, _, _, rfl, ?_⟩⟩⟩
        refine ⟨⟨y, x % y, rfl, rfl, y0, Int.emod_nonneg _ (by omega), ?_⟩, ?_⟩
        · have e2 : (x % y).natAbs = x.natAbs % y.natAbs := Int.natAbs_emod_of_nonneg x0 y
          rw [e2, ← hgcd, Nat.gcd_comm x.natAbs, Nat.gcd_rec y.natAbs x.natAbs, Nat.gcd_comm]
        · show (x % y).toNat < y.toNat
          have := Int.emod_lt_of_pos x e1
          omega
      · have e1 : y = 0 := by
          have : ¬ 0 < y := fun z => e (decide_eq_true z)
          omega
        refine ⟨.int x, rfl, ?_⟩
        subst e1
        rw [← hgcd] at q
        have e3 : ((Nat.gcd x.natAbs (0 : Int).natAbs : Nat) : Int) = x := by
          show ((Nat.gcd x.natAbs 0 : Nat) : Int) = x
          rw [Nat.gcd_zero_right]
          omega
        rw [e3] at q
        exact q
    · rintro σ H1 Q1 Q2 hq ⟨v, h1, i, j, e1, e2, k, e3, qq⟩
      exact ⟨v, h1, i, j, e1, e2, k, e3, hq _ _ qq⟩
theorem ok_law_pair {f : Addr} {fd : FuncData} (F : Fun K "_law_pair" "_law_pair" s_law_pair f fd) (c_law_common : Cal P w K mg base 1 "_law_common" ["_law_one", "_law_other"] (sp_law_common K)) : FnOk P w K mg base CX0 2 f fd ["_law_above", "_law_under"] (sp_law_pair K) := by
  refine F.ok sc_law_pair (fun vs H Q E h => ?_) (fun cdv A outer s H vs Q E hr h => ?_)
  · obtain ⟨a, b, rfl, _⟩ := h
    rfl
  · refine ⟨_, (pss_cons (ps_set (i := 2) sc_law_pair.nd rfl (.inl rfl) (pe_call c_law_common.G (hr.mono (by decide)) (by rfl) c_law_common.g c_law_common.kp c_law_common.b .nil pass0 (pa_cons (pv 0) (pa_cons (pv 1) pa_nil))))
      (pss_one (ps_ret (pe_tup (pa_cons (pe_op op_fdivW (pv 0) (pv 2)) (pa_cons (pe_op op_fdivW (pv 1) (pv 2)) pa_nil)))))), ?_⟩
    obtain ⟨a, b, rfl, b0, b1, q⟩ := h
    have g0 := gcd_pos (a := a) b0
    have g1 := gcd_le (a := a) b0
    have wd : ∀ x : Int, CDivW x ((Nat.gcd a.natAbs b.natAbs : Nat) : Int) := fun x => wide_div (b := 62) g0 (by omega) (by decide) (by decide)
    refine ⟨.int a, rfl, .int b, rfl, a, b, rfl, ?_⟩
    refine ⟨.int a, rfl, .int ((Nat.gcd a.natAbs b.natAbs : Nat) : Int), rfl, a, _, rfl, rfl, wd a, .int b, rfl, .int ((Nat.gcd a.natAbs b.natAbs : Nat) : Int), rfl, b, _, rfl, rfl, wd b, ?_⟩
    exact ⟨by show 2 ≤ sizeLine; decide, fun t nt => q _ t (sameU nt) nt upd_same⟩
end
end Uq
namespace Uq
open PySem PySem.Spec PyProof.Rows L2 LamX TL
/-! ### any value as a name -/
def nameB (x : Str) (rs : List Rw) : PyData → Bool
  | .str s => decide (s ∈ (linesOf x rs).map (·.nm))
  | _ => false
section
variable {X : Cx} {C f : Addr} {k : Nat} {fd : FuncData} {ps : List Str} {sp : Sp} {E : XK}
/-- x[i], x of an own class, that may raise -/
def tIxX (C : Addr) (sp : Sp) (E : XK) (ta tb : TE) : TE := fun σ H Q => ta σ H fun x H1 => tb σ H1 fun y H2 => ∃ a dx fs, x = .ref a ∧ H2 a = some (.ins C dx fs) ∧ sp [.ref a, y] H2 Q E
theorem pe_ixX {e i : Expr} {ta tb : TE} {pos : Pos} (d : Dun X.K C f "__getitem__") (hf : PySem.W.fnIn X.K f = true) (F : FnOk X.prog X.w X.K X.mg X.base (L2.CX X.prog X.w) k f fd ps sp) (hx : Passes (L2.CX X.prog X.w) X E) (hr : Room (k + 1) X.A) (hb : Binds X.K fd ps []) (ha : PE X e ta) (hi : PE X i tb)
    (hsl : ∀ a u, subscripted i true (.ref a) u = runValue (.builtin "lifetime.subscript" ⟨[.ref a, u], []⟩) := by intros; with_unfolding_all rfl) : PE X (.Subscript e i pos) (tIxX C sp E ta tb) := by
  refine ⟨fun pins s σ H Q I h => ?_⟩
  refine Subscript_ (binT ha hi I h fun v u s2 x y H2 I2 rx ry q => ?_)
  obtain ⟨a, dx, fs, rfl, e, q⟩ := q
  cases (show v = Value.ref a from rx)
  obtain ⟨ox, od, J⟩ := at_ins I2 e
  obtain ⟨m, fr⟩ := I2.fr
  exact PySem.W.sub_K fr I2.ok.mod.kin J d.at_ hf d.fn (run_inX F hx hr.in1 I2.env0.in1 hb I2 (.cons (a := V.ref a) rfl (.cons ry .nil)) q) (hsl _ _)
end
/-- an error that is raised: its class, the value that it keeps -/
def Raised (C : Addr) (v : V) (H : Hp) (E : XK) : Prop := ∀ (H' : Hp) (dd : Addr), Same H H' → H' dd = some (.xd [("value", v)]) → E (.ref C) (some dd) H'
theorem raise_end {CB : Addr} {v : V} {H : Hp} {E : XK} {ae dd : Addr} {o : HO} (q : Raised CB v H E) (nae : H ae = none) (ndd : (upd H ae o) dd = none) (nda : dd ≠ ae) {o2 o3 : HO} : E (.ref CB) (some dd) (upd (del (upd (upd (upd H ae o) dd o2) ae o3) ae) dd (.xd [("value", v)])) := by
  refine q _ _ (fun z o ez => ?_) upd_same
  have n1 : z ≠ ae := ne_of_none ez nae
  have n2 : z ≠ dd := fun y => by
    rw [upd_ne nda] at ndd
    rw [y, ndd] at ez
    cases ez
  rw [upd_ne n2, del_ne n1, upd_ne n1, upd_ne n2, upd_ne n1]
  exact ez
abbrev s_Table_share : Stmt := inClass (topS 27) 11
abbrev N_Table_share : List Str := ["self", "part", "other", "many", "whole"]
theorem sc_Table_share : FnScope N_Table_share ["self", "part", "other"] (defScope s_Table_share) := ⟨rfl, rfl, rfl, by decide +kernel, rfl, by decide +kernel, by decide +kernel⟩
abbrev s_Table_shows : Stmt := inClass (topS 27) 12
abbrev N_Table_shows : List Str := ["self", "part", "many", "above", "units", "whole", "near"]
theorem sc_Table_shows : FnScope N_Table_shows ["self", "part"] (defScope s_Table_shows) := ⟨rfl, rfl, rfl, by decide +kernel, rfl, by decide +kernel, by decide +kernel⟩
def sp_containsD (K : PySem.W.Frag) (C : Addr) : Sp := fun vs H Q _ => ∃ (b : Nat) (h x : Str) (rs : List Rw) (a dx u d e : Addr) (v : V) (dv : PyData), vs = [.ref a, v] ∧ PgO K C b h x rs H a dx u d e ∧ Dx K H v dv ∧ Q (.bl (nameB x rs dv)) H
def sp_lineD (K : PySem.W.Frag) (C NP : Addr) : Sp := fun vs H Q E => ∃ (b : Nat) (h x : Str) (rs : List Rw) (a dx u d e : Addr) (v : V) (dv : PyData), vs = [.ref a, v] ∧ PgO K C b h x rs H a dx u d e ∧ Good b x rs ∧ Dx K H v dv ∧
  ((∃ l, v = .str l.nm ∧ l ∈ linesOf x rs ∧ ∀ t, SqT K H t [l.ab, l.sh, l.fa] → Q (.ref t) H) ∨ (nameB x rs dv = false ∧ Raised NP v H E))
def sp_atD (K : PySem.W.Frag) (C Ct NP : Addr) : Sp := fun vs H Q E => ∃ (b : Nat) (h x : Str) (rs : List Rw) (W : Str → List Str) (cs : List Int) (a dx pa dp u d e T M : Addr) (v : V) (dv : PyData), vs = [.ref a, v] ∧ TbO K C Ct b h x rs W cs H a dx pa dp u d e T M ∧ Dx K H v dv ∧
  ((∃ p, v = .str p ∧ p ∈ (linesOf x rs).map (·.nm) ∧ Q (.int (manyL x rs W cs p)) H) ∨ (nameB x rs dv = false ∧ Raised NP v H E))
def sp_shareD (K : PySem.W.Frag) (C Ct NP : Addr) : Sp := fun vs H Q E => ∃ (b : Nat) (h x : Str) (rs : List Rw) (W : Str → List Str) (cs : List Int) (a dx pa dp u d e T M : Addr) (v1 v2 : V) (d1 d2 : PyData), vs = [.ref a, v1, v2] ∧ TbO K C Ct b h x rs W cs H a dx pa dp u d e T M ∧ Dx K H v1 d1 ∧ Dx K H v2 d2 ∧
  ((nameB x rs d1 = false ∧ Raised NP v1 H E) ∨ (∃ p1, v1 = .str p1 ∧ p1 ∈ (linesOf x rs).map (·.nm) ∧ ((nameB x rs d2 = false ∧ Raised NP v2 H E) ∨
    (∃ p2, v2 = .str p2 ∧ p2 ∈ (linesOf x rs).map (·.nm) ∧ ((manyL x rs W cs p2 = 0 ∧ Q .non H) ∨ (manyL x rs W cs p2 ≠ 0 ∧ 0 < manyL x rs W cs p2 ∧ manyL x rs W cs p2 < 2 ^ 62 ∧ ∀ H' t, Same H H' → H t = none → H' t = some (.tup [.int (red (manyL x rs W cs p1) (manyL x rs W cs p2)).1, .int (red (manyL x rs W cs p1) (manyL x rs W cs p2)).2]) → Q (.ref t) H'))))))
def sp_showsD (K : PySem.W.Frag) (C Ct NP NA : Addr) : Sp := fun vs H Q E => ∃ (b : Nat) (h x : Str) (rs : List Rw) (W : Str → List Str) (cs : List Int) (a dx pa dp u d e T M : Addr) (v : V) (dv : PyData), vs = [.ref a, v] ∧ TbO K C Ct b h x rs W cs H a dx pa dp u d e T M ∧ Good b x rs ∧ Dx K H v dv ∧
  ((nameB x rs dv = false ∧ Raised NP v H E) ∨ (v = .str x ∧ Raised NA v H E))
section
variable {P : Program} {w : World} {K : PySem.W.Frag} {mg : Str → Option Value} {base : Heap} {C Ct NP NA fC : Addr} {fdC : FuncData}
theorem ok_containsD (c : PgC K C) {f : Addr} {fd : FuncData} (F : Fun K "__contains__" "Page.__contains__" s_Page__contains_ f fd) (m_isinstance : mg "isinstance" = none) (m_str : mg "str" = none) : FnOk P w K mg base CX0 1 f fd ["self", "x"] (sp_containsD K C) := by
  refine F.ok sc_Page__contains_ (fun vs H Q E h => ?_) (fun cdv A outer s H vs Q E hr h => ?_)
  · obtain ⟨b, h, x, rs, a, dx, u, d, e, v, dv, rfl, _⟩ := h
    rfl
  · refine ⟨_, (pss_one (ps_ret (pe_and (pe_callB call_isi (by rfl) m_isinstance (by decide +kernel) (pa_cons (pv 1) (pa_cons (pe_bltn (v := .ty "str") (by rfl) m_str (by decide +kernel) rfl) pa_nil))) (pe_one (pe_cmp (pc_din (hu_of hr) (pv 1) (pe_fld (pv 0) (by rfl)))))))), ?_⟩
    obtain ⟨b, h, x, rs, a, dx, u, d, e, v, dv, rfl, O, hv, q⟩ := h
    refine ret_in ?_
    cases hv with
    | non => exact ⟨_, rfl, _, .ty "str", _, _, false, rfl, .ty "str", .base .non, kit_ty (by decide +kernel), false, rfl, iteF q⟩
    | bl y => exact ⟨_, rfl, _, .ty "str", _, _, false, rfl, .ty "str", .base (.bl y), kit_ty (by decide +kernel), false, rfl, iteF q⟩
    | int i => exact ⟨_, rfl, _, .ty "str", _, _, false, rfl, .ty "str", .base (.int i), kit_ty (by decide +kernel), false, rfl, iteF q⟩
    | str p =>
      obtain ⟨kvs, hd, hp⟩ := O.lines
      refine ⟨.str p, rfl, .str p, .ty "str", _, _, true, rfl, .ty "str", .base (.str p), kit_ty (by decide +kernel), true, rfl, iteT ?_⟩
      refine ⟨.str p, rfl, .ref a, rfl, a, C, dx, _, .ref d, rfl, O.at_, c.cls, c.lines, rfl, d, _, rfl, .inl ⟨kvs, .inr p, .inl hd, rfl, rfl⟩, ?_⟩
      rw [lns_isSome hp]
      exact q
    | lst e _ _ => exact ⟨_, rfl, _, .ty "str", _, _, false, rfl, .ty "str", .base (.lst e), kit_ty (by decide +kernel), false, rfl, iteF q⟩
    | tup e _ => exact ⟨_, rfl, _, .ty "str", _, _, false, rfl, .ty "str", sqT_ty e, kit_ty (by decide +kernel), false, rfl, iteF q⟩
    | dct e _ _ => exact ⟨_, rfl, _, .ty "str", _, _, false, rfl, .ty "str", .base (.dK e), kit_ty (by decide +kernel), false, rfl, iteF q⟩
theorem ok_lineD (c : PgC K C) {fi : Addr} {dfi : FuncData} (Fi : FnOk P w K mg base CX0 1 fi dfi ["self", "value"] (sp_init K)) (bi : Binds K dfi ["self", "value"] []) (tyI : PySem.W.typeIn K (.ref fi) = some (.type "function")) (XNP : Xcl K NP) (iNP : PySem.W.findIn K (.ref NP) "__init__" = some (some (.ref fi))) (gNP : mg "NoPart" = some (.ref NP)) {f : Addr} {fd : FuncData} (F : Fun K "__getitem__" "Page.__getitem__" s_Page__getitem_ f fd) (dC : Dun K C fC "__contains__") (FC : FnOk P w K mg base CX0 1 fC fdC ["self", "x"] (sp_containsD K C)) (bC : Binds K fdC ["self", "x"] []) : FnOk P w K mg base (L2.CX P w) 3 f fd ["self", "at"] (sp_lineD K C NP) := by
  refine F.okX sc_Page__getitem_ (fun vs H Q E h => ?_) (fun cdv A outer s H vs Q E hr h => ?_)
  · obtain ⟨b, h, x, rs, a, dx, u, d, e, v, dv, rfl, _⟩ := h
    rfl
  · refine ⟨_, (pss_cons (ps_if (pt_cmpR (op_notInO dC FC (hr.mono (by decide)) bC) (pv 1) (pv 0) rfl) (pss_one (ps_raise rfl (takes_of rfl rfl rfl rfl) (pmk_oex XNP.T iNP tyI Fi (hr.mono (by decide)) bi .nil pass0 (by rfl) gNP (pa_cons (pv 1) pa_nil)))) pss_nil)
      (pss_one (ps_ret (pe_dget (hu_of hr) (pe_fld (pv 0) (by rfl)) (pv 1) (fun _ _ => rfl))))), ?_⟩
    obtain ⟨b, h, x, rs, a, dx, u, d, e, v, dv, rfl, O, g, hv, q⟩ := h
    refine ⟨v, rfl, .ref a, rfl, a, dx, _, rfl, O.at_, ⟨b, h, x, rs, a, dx, u, d, e, v, dv, rfl, O, hv, ?_⟩⟩
    rcases q with ⟨l, rfl, hl, q⟩ | ⟨nv, q⟩
    · have hm : l.nm ∈ (linesOf x rs).map (·.nm) := List.mem_map.mpr ⟨l, hl, rfl⟩
      cases hv
      refine ⟨true, congrArg V.bl (decide_eq_true hm), false, rfl, iteF ?_⟩
      refine next_in (ret_in ?_)
      obtain ⟨kvs, hd, hp⟩ := O.lines
      obtain ⟨t, hv2, ht⟩ := lns_get hp (nodup_lines g) hl
      exact ⟨.ref a, rfl, a, C, dx, _, .ref d, rfl, O.at_, c.cls, c.lines, rfl, .str l.nm, rfl, d, .ref t, rfl, .inl ⟨kvs, .inr l.nm, .inl hd, rfl, hv2.symm⟩, q t ht⟩
    · rw [nv]
      refine ⟨false, rfl, true, rfl, iteT ?_⟩
      refine ⟨v, rfl, by show 1 ≤ 1000; decide, fun ae nae => ⟨ae, NP, v, rfl, XNP, upd_same, fun dd ndd nda => ⟨rfl, dd, [("value", v)], upd_same, ?_, ?_, ?_⟩⟩⟩
      · rw [upd_ne nda, upd_same]
      · rwa [upd_ne nda] at ndd
      · exact raise_end q nae ndd nda
theorem ok_atD (c : TbC K Ct) {fi : Addr} {dfi : FuncData} (Fi : FnOk P w K mg base CX0 1 fi dfi ["self", "value"] (sp_init K)) (bi : Binds K dfi ["self", "value"] []) (tyI : PySem.W.typeIn K (.ref fi) = some (.type "function")) (XNP : Xcl K NP) (iNP : PySem.W.findIn K (.ref NP) "__init__" = some (some (.ref fi))) (gNP : mg "NoPart" = some (.ref NP)) {f : Addr} {fd : FuncData} (F : Fun K "__getitem__" "Table.__getitem__" s_Table__getitem_ f fd) (dC : Dun K C fC "__contains__") (FC : FnOk P w K mg base CX0 1 fC fdC ["self", "x"] (sp_containsD K C)) (bC : Binds K fdC ["self", "x"] []) : FnOk P w K mg base (L2.CX P w) 3 f fd ["self", "at"] (sp_atD K C Ct NP) := by
  refine F.okX sc_Table__getitem_ (fun vs H Q E h => ?_) (fun cdv A outer s H vs Q E hr h => ?_)
  · obtain ⟨b, h, x, rs, W, cs, a, dx, pa, dp, u, d, e, T, M, v, dv, rfl, _⟩ := h
    rfl
  · refine ⟨_, (pss_cons (ps_if (pt_cmpR (op_notInO dC FC (hr.mono (by decide)) bC) (pv 1) (pe_fld (pv 0) (by rfl)) rfl) (pss_one (ps_raise rfl (takes_of rfl rfl rfl rfl) (pmk_oex XNP.T iNP tyI Fi (hr.mono (by decide)) bi .nil pass0 (by rfl) gNP (pa_cons (pv 1) pa_nil)))) pss_nil)
      (pss_one (ps_ret (pe_dget (hu_of hr) (pe_fld (pv 0) (by rfl)) (pv 1) (fun _ _ => rfl))))), ?_⟩
    obtain ⟨b, h, x, rs, W, cs, a, dx, pa, dp, u, d, e, T, M, v, dv, rfl, O, hv, q⟩ := h
    refine ⟨v, rfl, .ref a, rfl, a, Ct, dx, _, .ref pa, rfl, O.at_, c.cls, c.page, rfl, pa, dp, _, rfl, O.page.at_, ⟨b, h, x, rs, pa, dp, u, d, e, v, dv, rfl, O.page, hv, ?_⟩⟩
    rcases q with ⟨p, rfl, hp, q⟩ | ⟨nv, q⟩
    · cases hv
      refine ⟨true, congrArg V.bl (decide_eq_true hp), false, rfl, iteF ?_⟩
      refine next_in (ret_in ?_)
      exact ⟨.ref a, rfl, a, Ct, dx, _, .ref M, rfl, O.at_, c.cls, c.many, rfl, .str p, rfl, M, _, rfl, .inl ⟨_, .inr p, .inl O.many, rfl, (manyKV_some hp).symm⟩, q⟩
    · rw [nv]
      refine ⟨false, rfl, true, rfl, iteT ?_⟩
      refine ⟨v, rfl, by show 1 ≤ 1000; decide, fun ae nae => ⟨ae, NP, v, rfl, XNP, upd_same, fun dd ndd nda => ⟨rfl, dd, [("value", v)], upd_same, ?_, ?_, ?_⟩⟩⟩
      · rw [upd_ne nda, upd_same]
      · rwa [upd_ne nda] at ndd
      · exact raise_end q nae ndd nda
theorem ok_shareD (c : TbC K Ct) {fT : Addr} {fdT : FuncData} (dT : Dun K Ct fT "__getitem__") (hT : PySem.W.fnIn K fT = true) (FT : FnOk P w K mg base (L2.CX P w) 3 fT fdT ["self", "at"] (sp_atD K C Ct NP)) (bT : Binds K fdT ["self", "at"] []) {f : Addr} {fd : FuncData} (F : Fun K "share" "Table.share" s_Table_share f fd) (c_least_terms : Cal P w K mg base 1 "least_terms" ["over", "under"] (sp_least_terms K)) : FnOk P w K mg base (L2.CX P w) 5 f fd ["self", "part", "other"] (sp_shareD K C Ct NP) := by
  refine F.okX sc_Table_share (fun vs H Q E h => ?_) (fun cdv A outer s H vs Q E hr h => ?_)
  · obtain ⟨b, h, x, rs, W, cs, a, dx, pa, dp, u, d, e, T, M, v1, v2, d1, d2, rfl, _⟩ := h
    rfl
  · refine ⟨_, (pss_cons (ps_par (i := 3) (j := 4) (by rfl) sc_Table_share.nd rfl rfl (by decide) rfl rfl (pa_cons (pe_ixX dT hT FT (passes_call (takes_of rfl rfl rfl rfl) fun _ _ _ _ h => h) (hr.mono (by decide)) bT (pv 0) (pv 1)) (pa_cons (pe_ixX dT hT FT (passes_call (takes_of rfl rfl rfl rfl) fun _ _ _ _ h => h) (hr.mono (by decide)) bT (pv 0) (pv 2)) pa_nil)) (by rfl))
      (pss_cons (ps_if (pt_cmpR op_eq (pv 4) pe_int (nomark _)) (pss_one (ps_ret pe_non)) pss_nil)
      (pss_one (ps_ret (pe_call c_least_terms.G (hr.mono (by decide)) (by rfl) c_least_terms.g c_least_terms.kp c_least_terms.b .nil pass0 (pa_cons (pv 3) (pa_cons (pv 4) pa_nil))))))), ?_⟩
    obtain ⟨b, h, x, rs, W, cs, a, dx, pa, dp, u, d, e, T, M, v1, v2, d1, d2, rfl, O, h1, h2, q⟩ := h
    refine ⟨.ref a, rfl, v1, rfl, a, dx, _, rfl, O.at_, b, h, x, rs, W, cs, a, dx, pa, dp, u, d, e, T, M, v1, d1, rfl, O, h1, ?_⟩
    rcases q with ⟨n1, q⟩ | ⟨p1, rfl, m1, q⟩
    · exact .inr ⟨n1, q⟩
    refine .inl ⟨p1, rfl, m1, ?_⟩
    refine ⟨.ref a, rfl, v2, rfl, a, dx, _, rfl, O.at_, b, h, x, rs, W, cs, a, dx, pa, dp, u, d, e, T, M, v2, d2, rfl, O, h2, ?_⟩
    rcases q with ⟨n2, q⟩ | ⟨p2, rfl, m2, q⟩
    · exact .inr ⟨n2, q⟩
    refine .inl ⟨p2, rfl, m2, ?_⟩
    refine ⟨_, _, rfl, ?_⟩
    dsimp only
    rcases q with ⟨z, q⟩ | ⟨z, z0, z1, q⟩
    · exact ⟨_, rfl, rfl, _, rfl, iteDY (congrArg V.int z) q⟩
    · refine ⟨_, rfl, rfl, _, rfl, iteDN (fun y => z (V.int.inj y)) ?_⟩
      exact next_in (ret_in ⟨_, rfl, _, rfl, _, _, rfl, z0, z1, q⟩)
theorem ok_showsD (c : TbC K Ct) {fi : Addr} {dfi : FuncData} (Fi : FnOk P w K mg base CX0 1 fi dfi ["self", "value"] (sp_init K)) (bi : Binds K dfi ["self", "value"] []) (tyI : PySem.W.typeIn K (.ref fi) = some (.type "function")) (XNA : Xcl K NA) (iNA : PySem.W.findIn K (.ref NA) "__init__" = some (some (.ref fi))) (gNA : mg "NoAbove" = some (.ref NA)) {fG : Addr} {fdG : FuncData} (dG : Dun K C fG "__getitem__") (hG : PySem.W.fnIn K fG = true) (FG : FnOk P w K mg base (L2.CX P w) 3 fG fdG ["self", "at"] (sp_lineD K C NP)) (bG : Binds K fdG ["self", "at"] []) {fT : Addr} {fdT : FuncData} (dT : Dun K Ct fT "__getitem__") (hT : PySem.W.fnIn K fT = true) (FT : FnOk P w K mg base (L2.CX P w) 3 fT fdT ["self", "at"] (sp_atD K C Ct NP)) (bT : Binds K fdT ["self", "at"] []) {f : Addr} {fd : FuncData} (F : Fun K "shows" "Table.shows" s_Table_shows f fd) : FnOk P w K mg base (L2.CX P w) 5 f fd ["self", "part"] (sp_showsD K C Ct NP NA) := by
  refine F.okX sc_Table_shows (fun vs H Q E h => ?_) (fun cdv A outer s H vs Q E hr h => ?_)
  · obtain ⟨b, h, x, rs, W, cs, a, dx, pa, dp, u, d, e, T, M, v, dv, rfl, _⟩ := h
    rfl
  · refine ⟨_, (pss_cons (ps_par (i := 2) (j := 3) (by rfl) sc_Table_shows.nd rfl rfl (by decide) rfl rfl (pa_cons (pe_ixX dT hT FT (passes_call (takes_of rfl rfl rfl rfl) fun _ _ _ _ h => h) (hr.mono (by decide)) bT (pv 0) (pv 1)) (pa_cons (pe_ix ix_tup (pe_ixX dG hG FG (passes_call (takes_of rfl rfl rfl rfl) fun _ _ _ _ h => h) (hr.mono (by decide)) bG (pe_fld (pv 0) (by rfl)) (pv 1)) pe_int (fun _ _ => rfl)) pa_nil)) (by rfl))
      (pss_cons (ps_if (pt_cmpR op_isN (pv 3) pe_non (nomark _)) (pss_one (ps_raise rfl (takes_of rfl rfl rfl rfl) (pmk_oex XNA.T iNA tyI Fi (hr.mono (by decide)) bi .nil pass0 (by rfl) gNA (pa_cons (pv 1) pa_nil)))) pss_nil) pss_never)), ?_⟩
    obtain ⟨b, h, x, rs, W, cs, a, dx, pa, dp, u, d, e, T, M, v, dv, rfl, O, g, hv, q⟩ := h
    refine ⟨.ref a, rfl, v, rfl, a, dx, _, rfl, O.at_, b, h, x, rs, W, cs, a, dx, pa, dp, u, d, e, T, M, v, dv, rfl, O, hv, ?_⟩
    rcases q with ⟨n1, q⟩ | ⟨rfl, q⟩
    · exact .inr ⟨n1, q⟩
    refine .inl ⟨x, rfl, List.mem_map.mpr ⟨_, .head _, rfl⟩, ?_⟩
    refine ⟨.ref a, rfl, a, Ct, dx, _, .ref pa, rfl, O.at_, c.cls, c.page, rfl, .str x, rfl, pa, dp, _, rfl, O.page.at_, b, h, x, rs, pa, dp, u, d, e, .str x, dv, rfl, O.page, g, hv, .inl ⟨_, rfl, .head _, fun t ht => ?_⟩⟩
    refine ⟨t, _, 0, .non, rfl, rfl, ht, atI_nat (j := 0) rfl, ?_⟩
    refine ⟨_, _, rfl, ?_⟩
    dsimp only
    refine ⟨_, rfl, rfl, true, rfl, iteT ?_⟩
    refine ⟨.str x, rfl, by show 1 ≤ 1000; decide, fun ae nae => ⟨ae, NA, .str x, rfl, XNA, upd_same, fun dd ndd nda => ⟨rfl, dd, [("value", .str x)], upd_same, ?_, ?_, ?_⟩⟩⟩
    · rw [upd_ne nda, upd_same]
    · rwa [upd_ne nda] at ndd
    · exact raise_end q nae ndd nda
end
end Uq
namespace Uq
open PySem PySem.Spec PyProof.Rows L2 LamX TL
/-! ### any value as counts -/
theorem boot_isi : bootBuiltins "isinstance" = some (.builtin "isinstance") := by decide +kernel
def natB : PyData → Bool
  | .int i => decide (0 ≤ i)
  | _ => false
def toI : PyData → Int
  | .int i => i
  | _ => 0
def countsB (m : Nat) : PyData → Bool
  | .tuple ds => decide (ds.length = m) && (ds.all natB && decide (0 < (ds.map toI).sum))
  | _ => false
theorem ints_sum (cs : List Int) : ((cs.map PyData.int).map toI).sum = cs.sum := by
  rw [List.map_map]
  congr 1
  exact List.map_id cs
theorem DxAll.at' {K : PySem.W.Frag} {H : Hp} : ∀ {ds : List PyData} {vs : List V} {i : Nat} {v : V}, DxAll K H vs ds → vs[i]? = some v → ∃ d, ds[i]? = some d ∧ Dx K H v d
  | _, _, i, _, .nil, e => by simp at e
  | _, _, 0, _, .cons a h, e => by
    cases Option.some.inj e
    exact ⟨_, rfl, a⟩
  | _, _, i + 1, _, .cons a h, e => DxAll.at' (i := i) h e
theorem nat_ints {K : PySem.W.Frag} {H : Hp} : ∀ {ds : List PyData} {xs : List V}, DxAll K H xs ds → ds.all natB = true → ∃ cs : List Int, ds = cs.map PyData.int ∧ xs = cs.map V.int ∧ ∀ c ∈ cs, 0 ≤ c
  | _, _, .nil, _ => ⟨[], rfl, rfl, fun _ m => nomatch m⟩
  | _, _, @DxAll.cons _ _ v d vs ds h hs, z => by
    rw [List.all_cons, Bool.and_eq_true] at z
    obtain ⟨cs, rfl, rfl, c0⟩ := nat_ints hs z.2
    have z1 := z.1
    cases h <;> try (cases z1; done)
    rename_i i
    exact ⟨i :: cs, rfl, rfl, fun c m => (List.mem_cons.mp m).elim (fun e => by rw [e]; exact of_decide_eq_true z1) (c0 c)⟩
theorem counts_yes {m : Nat} {cs : List Int} (l : cs.length = m) (c0 : ∀ c ∈ cs, 0 ≤ c) (c1 : 0 < cs.sum) : countsB m (.tuple (cs.map PyData.int)) = true := by
  show (decide ((cs.map PyData.int).length = m) && ((cs.map PyData.int).all natB && decide (0 < ((cs.map PyData.int).map toI).sum))) = true
  rw [ints_sum, decide_eq_true c1, decide_eq_true (by rw [List.length_map]; exact l), Bool.true_and, Bool.and_true, List.all_map]
  exact List.all_eq_true.mpr fun c m => decide_eq_true (c0 c m)
def sp_is_countsD (K : PySem.W.Frag) (C : Addr) : Sp := fun vs H Q _ => ∃ (b : Nat) (h x : Str) (rs : List Rw) (a dx u d e : Addr) (v : V) (dv : PyData) (m : Nat), vs = [.ref a, v] ∧ PgO K C b h x rs H a dx u d e ∧ Dx K H v dv ∧ (ends (linesOf x rs)).length = m ∧ m ≤ 6 ∧ ∀ H', Same H H' → Q (.bl (countsB m dv)) H'
def sp_are_countsD (K : PySem.W.Frag) : Sp := fun vs H Q _ => ∃ (d u R : Addr) (b : Nat) (h x : Str) (ws : List V) (rs : List R4) (v : V) (dv : PyData) (m : Nat), vs = [.ref d, v] ∧ LoreAt K H d u R b h x ws rs ∧ rs.length ≤ 100 ∧ Dx K H v dv ∧ (endsL x rs).length = m ∧ m ≤ 6 ∧ ∀ H', Same H H' → Q (.bl (countsB m dv)) H'
def sp_Table_initD (K : PySem.W.Frag) (C Ct BC : Addr) : Sp := fun vs H Q E => ∃ (b : Nat) (h x : Str) (rs : List Rw) (a dx pa dp u d e : Addr) (v : V) (dv : PyData), vs = [.ref a, .ref pa, v] ∧ PgO K C b h x rs H pa dp u d e ∧ Dx K H v dv ∧ (ends (linesOf x rs)).length ≤ 6 ∧ H a = some (.ins Ct dx []) ∧
  ((countsB (ends (linesOf x rs)).length dv = false ∧ ∀ H', Same H H' → Raised BC v H' E) ∨ (∃ (W : Str → List Str) (cs : List Int) (T : Addr), v = .ref T ∧ dv = .tuple (cs.map PyData.int) ∧ SqT K H T (cs.map V.int) ∧ TbR b h x rs W cs ∧
    ∀ (H' : Hp) (M : Addr), (∀ (c : Addr) (o : HO), c ≠ a → H c = some o → H' c = some o) → TbO K C Ct b h x rs W cs H' a dx pa dp u d e T M → Q .non H'))
section
variable {P : Program} {w : World} {K : PySem.W.Frag} {mg : Str → Option Value} {base : Heap} {C Ct BC : Addr}
theorem ok_is_countsD (c : PgC K C) {pE fEn : Addr} {dfEn : FuncData} (rE : PropOf K C "ends" pE fEn) (FEn : FnOk P w K mg base CX0 1 fEn dfEn ["self"] (sp_Page_ends K C)) (bEn : Binds K dfEn ["self"] []) {f : Addr} {fd : FuncData} (F : Fun K "is_counts" "is_counts" s_is_counts f fd) (m_isinstance : mg "isinstance" = none) (m_tuple : mg "tuple" = none) (m_len : mg "len" = none) (m_all : mg "all" = none) (m_sum : mg "sum" = none) (c_is_integerX : Cal P w K mg base 1 "is_integer" ["value"] (sp_is_integerX K)) : FnOk P w K mg base CX0 3 f fd ["page", "value"] (sp_is_countsD K C) := by
  refine F.ok sc_is_counts (fun vs H Q E h => ?_) (fun cdv A outer s H vs Q E hr h => ?_)
  · obtain ⟨b, h, x, rs, a, dx, u, d, e, v, dv, m, rfl, _⟩ := h
    rfl
  · refine ⟨_, (pss_cons (ps_if (PW.pt (pw_or (pt_not (pt_val (pe_callB call_isi (by rfl) m_isinstance (by decide +kernel) (pa_cons (pv 1) (pa_cons (pe_bltn (v := .ty "tuple") (by rfl) m_tuple (by decide +kernel) rfl) pa_nil))))) (pw_or1 (pt_cmpR op_ne (pe_callB call_len_seq (by rfl) m_len (by decide +kernel) (pa_cons (pv 1) pa_nil)) (pe_callB call_len_seq (by rfl) m_len (by decide +kernel) (pa_cons (pe_prop (pv 0) c.cls rE FEn (hr.mono (by decide)) bEn .nil pass0 (by rfl)) pa_nil)) (nomark _))))) (pss_one (ps_ret pe_bl)) pss_nil)
      (pss_cons (ps_if (pt_not (pt_val (pe_callB (cr_all rfl) (by rfl) m_all (by decide +kernel) (pa_cons (pe_lc (own := [("count", 2)]) (g := gName 2) rfl sc_is_counts.nd (pi_tup (pv 1)) (blkOk_by (own := [("count", 2)]) (N := N_is_counts) (sc := defScope s_is_counts) (by decide +kernel)) (fun _ _ _ _ _ => (pg_name (i := 2) sc_is_counts.nd rfl (.inl rfl))) (fun _ _ _ _ _ => pts_nil) (fun _ _ _ _ _ => (pe_and (pe_call c_is_integerX.G (hr.mono (by decide)) (by rfl) c_is_integerX.g c_is_integerX.kp c_is_integerX.b .nil pass0 (pa_cons (pv 2) pa_nil)) (pe_one (pe_cmpR op_ge (pv 2) pe_int (nomark _)))))) pa_nil)))) (pss_one (ps_ret pe_bl)) pss_nil)
      (pss_one (ps_ret (pe_cmpR op_gt (pe_callB (cr_sumT rfl) (by rfl) m_sum (by decide +kernel) (pa_cons (pv 1) pa_nil)) pe_int (nomark _)))))), ?_⟩
    obtain ⟨b, h, x, rs, a, dx, u, d, e, v, dv, m, rfl, O, hv, hm0, m6, q⟩ := h
    have hm : ((ends (linesOf x rs)).map V.str).length = m := by rw [List.length_map]; exact hm0
    have no : ∀ G : Hp, Same H G → countsB m dv = false → Q (.bl false) G := fun G sG z => by
      rw [← z]
      exact q G sG
    cases hv with
    | non => exact ⟨_, rfl, _, .ty "tuple", _, _, false, rfl, .ty "tuple", .base .non, kit_ty (by decide +kernel), false, rfl, iteT (no _ (fun _ _ e => e) rfl)⟩
    | bl y => exact ⟨_, rfl, _, .ty "tuple", _, _, false, rfl, .ty "tuple", .base (.bl y), kit_ty (by decide +kernel), false, rfl, iteT (no _ (fun _ _ e => e) rfl)⟩
    | int i => exact ⟨_, rfl, _, .ty "tuple", _, _, false, rfl, .ty "tuple", .base (.int i), kit_ty (by decide +kernel), false, rfl, iteT (no _ (fun _ _ e => e) rfl)⟩
    | str z => exact ⟨_, rfl, _, .ty "tuple", _, _, false, rfl, .ty "tuple", .base (.str z), kit_ty (by decide +kernel), false, rfl, iteT (no _ (fun _ _ e => e) rfl)⟩
    | lst e0 z1 z2 => exact ⟨_, rfl, _, .ty "tuple", _, _, false, rfl, .ty "tuple", .base (.lst e0), kit_ty (by decide +kernel), false, rfl, iteT (no _ (fun _ _ e => e) rfl)⟩
    | dct e0 z1 z2 => exact ⟨_, rfl, _, .ty "tuple", _, _, false, rfl, .ty "tuple", .base (.dK e0), kit_ty (by decide +kernel), false, rfl, iteT (no _ (fun _ _ e => e) rfl)⟩
    | @tup t xs ds ht ha =>
      refine ⟨_, rfl, _, .ty "tuple", _, _, true, rfl, .ty "tuple", sqT_ty ht, kit_ty (by decide +kernel), true, rfl, ?_⟩
      refine iteF ⟨.ref t, rfl, t, xs, rfl, .inr ht, ?_⟩
      have lx := ha.length
      refine ⟨.ref a, rfl, a, dx, _, rfl, O.at_, b, h, x, rs, a, dx, u, d, e, rfl, O, ?_⟩
      refine ⟨e, _, rfl, .inr (SqT.of O.ends), ?_⟩
      refine ⟨rfl, _, rfl, ?_⟩
      by_cases lm : ds.length = m
      · rw [show xs.length = m by omega, show ((ends (linesOf x rs)).map V.str).length = m from hm]
        refine ite2 (fun z => ?_) (fun _ => ?_)
        · simp at z
        refine next_in ?_
        refine ⟨.ref t, rfl, t, rfl, ⟨_, ht⟩, fun Z nZ => ?_⟩
        refine lc_it (walk_tup (xs := xs)) (fun i H' => Same H H' ∧ H' Z = some (.lst (((ds.take i).map natB).map V.bl))) ⟨sameU nZ, upd_same⟩ (fun i H' _ z => sqT_same z.1 ht) ?_ ?_
        · rintro i y H1 H2 hi ⟨s2, hZ⟩ ⟨rfl, hk⟩
          obtain ⟨e, ee, he⟩ := ha.at' hk
          refine ⟨rfl, ?_⟩
          have go : (∃ xs_ : List V, H2 Z = some (.lst xs_) ∧ xs_.length + 1 ≤ sizeLine ∧ Same H (upd H2 Z (.lst (xs_ ++ [.bl (natB e)]))) ∧ (upd H2 Z (.lst (xs_ ++ [.bl (natB e)]))) Z = some (.lst (((ds.take (i + 1)).map natB).map V.bl))) := by
            refine ⟨_, hZ, ?_, ?_, ?_⟩
            · rw [List.length_map, List.length_map, List.length_take]
              exact small1000 (by omega)
            · intro c2 o eb
              rw [upd_ne (ne_of_none eb nZ)]
              exact s2 _ _ eb
            · rw [upd_same, List.take_add_one, ee, List.map_append, List.map_append]
              rfl
          cases he with
          | non => exact ⟨_, rfl, _, _, rfl, .non, false, rfl, go⟩
          | bl y => exact ⟨_, rfl, _, _, rfl, (.bl y), false, rfl, go⟩
          | int i => exact ⟨_, rfl, _, _, rfl, .int i, true, rfl, .int i, rfl, i, 0, rfl, rfl, go⟩
          | str z => exact ⟨_, rfl, _, _, rfl, (.str z), false, rfl, go⟩
          | lst e0 z1 z2 => exact ⟨_, rfl, _, _, rfl, (Dx.same s2 (.lst e0 z1 z2)), false, rfl, go⟩
          | dct e0 z1 z2 => exact ⟨_, rfl, _, _, rfl, (Dx.same s2 (.dct e0 z1 z2)), false, rfl, go⟩
          | tup e0 e1 => exact ⟨_, rfl, _, _, rfl, (Dx.same s2 (.tup e0 e1)), false, rfl, go⟩
        rintro H2 ⟨s2, hZ⟩
        rw [lx, List.take_length] at hZ
        refine ⟨Z, _, rfl, SqL.of hZ, ?_⟩
        rw [show (ds.map natB).all id = ds.all natB by rw [List.all_map]; rfl]
        have eR : countsB m (.tuple ds) = (ds.all natB && decide (0 < (ds.map toI).sum)) := by
          show (decide (ds.length = m) && (ds.all natB && decide (0 < (ds.map toI).sum))) = _
          rw [decide_eq_true lm]
          rfl
        rw [eR] at q
        cases hA : ds.all natB with
        | false =>
          rw [hA] at q
          exact ⟨false, rfl, iteT (q _ s2)⟩
        | true =>
          rw [hA] at q
          obtain ⟨cs, rfl, rfl, c0⟩ := nat_ints ha hA
          refine ⟨true, rfl, iteF (next_in (ret_in ?_))⟩
          refine ⟨.ref t, rfl, t, cs, rfl, sqT_same s2 ht, _, 0, rfl, rfl, ?_⟩
          have q := q _ s2
          rw [ints_sum, Bool.true_and] at q
          exact q
      · refine iteY ?_ (no _ (fun _ _ e => e) ?_)
        · rw [decide_eq_false (fun z => by
            have y := V.int.inj z
            rw [show ((ends (linesOf x rs)).map V.str).length = m from hm] at y
            omega)]
          rfl
        · show (decide (ds.length = m) && (ds.all natB && decide (0 < (ds.map toI).sum))) = _
          rw [decide_eq_false lm]
          rfl
theorem ok_law_are_countsD {f : Addr} {fd : FuncData} (F : Fun K "_law_are_counts" "_law_are_counts" s_law_are_counts f fd) (m_isinstance : mg "isinstance" = none) (m_tuple : mg "tuple" = none) (m_len : mg "len" = none) (m_all : mg "all" = none) (m_int : mg "int" = none) (m_bool : mg "bool" = none) (m_sum : mg "sum" = none) (c_law_ends : Cal P w K mg base 2 "_law_ends" ["_law_lore_here"] (sp_law_ends K)) : FnOk P w K mg base CX0 3 f fd ["_law_lore_here", "_law_value"] (sp_are_countsD K) := by
  refine F.ok sc_law_are_counts (fun vs H Q E h => ?_) (fun cdv A outer s H vs Q E hr h => ?_)
  · obtain ⟨d, u, R, b, h, x, ws, rs, v, dv, m, rfl, _⟩ := h
    rfl
  · refine ⟨_, (pss_cons (ps_if (PW.pt (pw_or (pt_not (pt_val (pe_callB call_isi (by rfl) m_isinstance (by decide +kernel) (pa_cons (pv 1) (pa_cons (pe_bltn (v := .ty "tuple") (by rfl) m_tuple (by decide +kernel) rfl) pa_nil))))) (pw_or1 (pt_cmpR op_ne (pe_callB call_len_seq (by rfl) m_len (by decide +kernel) (pa_cons (pv 1) pa_nil)) (pe_callB call_len_seq (by rfl) m_len (by decide +kernel) (pa_cons (pe_call c_law_ends.G (hr.mono (by decide)) (by rfl) c_law_ends.g c_law_ends.kp c_law_ends.b .nil pass0 (pa_cons (pv 0) pa_nil)) pa_nil)) (nomark _))))) (pss_one (ps_ret pe_bl)) pss_nil)
      (pss_cons (ps_if (pt_not (pt_val (pe_callB (cr_all rfl) (by rfl) m_all (by decide +kernel) (pa_cons (pe_lc (own := [("_law_many", 2)]) (g := gName 2) rfl sc_law_are_counts.nd (pi_tup (pv 1)) (blkOk_by (own := [("_law_many", 2)]) (N := N_law_are_counts) (sc := defScope s_law_are_counts) (by decide +kernel)) (fun _ _ _ _ _ => (pg_name (i := 2) sc_law_are_counts.nd rfl (.inl rfl))) (fun _ _ _ _ _ => pts_nil) (fun _ _ _ _ _ => (pe_and (pe_callB (r := rIsi K) call_isi (by rfl) m_isinstance boot_isi (pa_cons (pv 2) (pa_cons (pe_bltn (v := .ty "int") (by rfl) m_int (by decide +kernel) rfl) pa_nil))) (pe_and (pe_not (pe_callB (r := rIsi K) call_isi (by rfl) m_isinstance boot_isi (pa_cons (pv 2) (pa_cons (pe_bltn (v := .ty "bool") (by rfl) m_bool (by decide +kernel) rfl) pa_nil)))) (pe_one (pe_cmpR op_ge (pv 2) pe_int (nomark _))))))) pa_nil)))) (pss_one (ps_ret pe_bl)) pss_nil)
      (pss_one (ps_ret (pe_cmpR op_gt (pe_callB (cr_sumT rfl) (by rfl) m_sum (by decide +kernel) (pa_cons (pv 1) pa_nil)) pe_int (nomark _)))))), ?_⟩
    obtain ⟨d, u, R, b, h, x, ws, rs, v, dv, m, rfl, L, few, hv, hm0, m6, q⟩ := h
    have hm : ((endsL x rs).map V.str).length = m := by rw [List.length_map]; exact hm0
    have no : ∀ G : Hp, Same H G → countsB m dv = false → Q (.bl false) G := fun G sG z => by
      rw [← z]
      exact q G sG
    cases hv with
    | non => exact ⟨_, rfl, _, .ty "tuple", _, _, false, rfl, .ty "tuple", .base .non, kit_ty (by decide +kernel), false, rfl, iteT (no _ (fun _ _ e => e) rfl)⟩
    | bl y => exact ⟨_, rfl, _, .ty "tuple", _, _, false, rfl, .ty "tuple", .base (.bl y), kit_ty (by decide +kernel), false, rfl, iteT (no _ (fun _ _ e => e) rfl)⟩
    | int i => exact ⟨_, rfl, _, .ty "tuple", _, _, false, rfl, .ty "tuple", .base (.int i), kit_ty (by decide +kernel), false, rfl, iteT (no _ (fun _ _ e => e) rfl)⟩
    | str z => exact ⟨_, rfl, _, .ty "tuple", _, _, false, rfl, .ty "tuple", .base (.str z), kit_ty (by decide +kernel), false, rfl, iteT (no _ (fun _ _ e => e) rfl)⟩
    | lst e0 z1 z2 => exact ⟨_, rfl, _, .ty "tuple", _, _, false, rfl, .ty "tuple", .base (.lst e0), kit_ty (by decide +kernel), false, rfl, iteT (no _ (fun _ _ e => e) rfl)⟩
    | dct e0 z1 z2 => exact ⟨_, rfl, _, .ty "tuple", _, _, false, rfl, .ty "tuple", .base (.dK e0), kit_ty (by decide +kernel), false, rfl, iteT (no _ (fun _ _ e => e) rfl)⟩
    | @tup t xs ds ht ha =>
      refine ⟨_, rfl, _, .ty "tuple", _, _, true, rfl, .ty "tuple", sqT_ty ht, kit_ty (by decide +kernel), true, rfl, ?_⟩
      refine iteF ⟨.ref t, rfl, t, xs, rfl, .inr ht, ?_⟩
      have lx := ha.length
      refine ⟨.ref d, rfl, d, u, R, b, h, x, ws, rs, rfl, L, few, fun HL l sL nL hL => ?_⟩
      refine ⟨l, _, rfl, .inl (SqL.of hL), ?_⟩
      replace ht := sqT_same sL ht
      replace ha := DxAll.same sL ha
      have q : ∀ G : Hp, Same HL G → Q (.bl (countsB m (.tuple ds))) G := fun G sG => q G (sL.trans sG)
      have no : ∀ G : Hp, Same HL G → countsB m (.tuple ds) = false → Q (.bl false) G := fun G sG z => no G (sL.trans sG) z
      refine ⟨rfl, _, rfl, ?_⟩
      by_cases lm : ds.length = m
      · rw [show xs.length = m by omega, show ((endsL x rs).map V.str).length = m from hm]
        refine ite2 (fun z => ?_) (fun _ => ?_)
        · simp at z
        refine next_in ?_
        refine ⟨.ref t, rfl, t, rfl, ⟨_, ht⟩, fun Z nZ => ?_⟩
        refine lc_it (walk_tup (xs := xs)) (fun i H' => Same HL H' ∧ H' Z = some (.lst (((ds.take i).map natB).map V.bl))) ⟨sameU nZ, upd_same⟩ (fun i H' _ z => sqT_same z.1 ht) ?_ ?_
        · rintro i y H1 H2 hi ⟨s2, hZ⟩ ⟨rfl, hk⟩
          obtain ⟨e, ee, he⟩ := ha.at' hk
          refine ⟨rfl, ?_⟩
          have go : (∃ xs_ : List V, H2 Z = some (.lst xs_) ∧ xs_.length + 1 ≤ sizeLine ∧ Same HL (upd H2 Z (.lst (xs_ ++ [.bl (natB e)]))) ∧ (upd H2 Z (.lst (xs_ ++ [.bl (natB e)]))) Z = some (.lst (((ds.take (i + 1)).map natB).map V.bl))) := by
            refine ⟨_, hZ, ?_, ?_, ?_⟩
            · rw [List.length_map, List.length_map, List.length_take]
              exact small1000 (by omega)
            · intro c2 o eb
              rw [upd_ne (ne_of_none eb nZ)]
              exact s2 _ _ eb
            · rw [upd_same, List.take_add_one, ee, List.map_append, List.map_append]
              rfl
          cases he with
          | non => exact ⟨_, rfl, _, .ty "int", _, _, false, rfl, .ty "int", .base .non, kit_ty (by decide +kernel), false, rfl, go⟩
          | bl y => exact ⟨_, rfl, _, .ty "int", _, _, true, rfl, .ty "int", .base (.bl y), kit_ty (by decide +kernel), true, rfl, _, rfl, _, .ty "bool", _, _, true, rfl, .ty "bool", .base (.bl y), kit_ty (by decide +kernel), true, rfl, false, rfl, go⟩
          | int i => exact ⟨_, rfl, _, .ty "int", _, _, true, rfl, .ty "int", .base (.int i), kit_ty (by decide +kernel), true, rfl, _, rfl, _, .ty "bool", _, _, false, rfl, .ty "bool", .base (.int i), kit_ty (by decide +kernel), false, rfl, true, rfl, .int i, rfl, i, 0, rfl, rfl, go⟩
          | str z => exact ⟨_, rfl, _, .ty "int", _, _, false, rfl, .ty "int", .base (.str z), kit_ty (by decide +kernel), false, rfl, go⟩
          | lst e0 z1 z2 => exact ⟨_, rfl, _, .ty "int", _, _, false, rfl, .ty "int", .base (.lst (s2 _ _ e0)), kit_ty (by decide +kernel), false, rfl, go⟩
          | dct e0 z1 z2 => exact ⟨_, rfl, _, .ty "int", _, _, false, rfl, .ty "int", .base (.dK (s2 _ _ e0)), kit_ty (by decide +kernel), false, rfl, go⟩
          | tup e0 e1 => exact ⟨_, rfl, _, .ty "int", _, _, false, rfl, .ty "int", sqT_ty (sqT_same s2 e0), kit_ty (by decide +kernel), false, rfl, go⟩
        rintro H2 ⟨s2, hZ⟩
        rw [lx, List.take_length] at hZ
        refine ⟨Z, _, rfl, SqL.of hZ, ?_⟩
        rw [show (ds.map natB).all id = ds.all natB by rw [List.all_map]; rfl]
        have eR : countsB m (.tuple ds) = (ds.all natB && decide (0 < (ds.map toI).sum)) := by
          show (decide (ds.length = m) && (ds.all natB && decide (0 < (ds.map toI).sum))) = _
          rw [decide_eq_true lm]
          rfl
        rw [eR] at q
        cases hA : ds.all natB with
        | false =>
          rw [hA] at q
          exact ⟨false, rfl, iteT (q _ s2)⟩
        | true =>
          rw [hA] at q
          obtain ⟨cs, rfl, rfl, c0⟩ := nat_ints ha hA
          refine ⟨true, rfl, iteF (next_in (ret_in ?_))⟩
          refine ⟨.ref t, rfl, t, cs, rfl, sqT_same s2 ht, _, 0, rfl, rfl, ?_⟩
          have q := q _ s2
          rw [ints_sum, Bool.true_and] at q
          exact q
      · refine iteY ?_ (no _ (fun _ _ e => e) ?_)
        · rw [decide_eq_false (fun z => by
            have y := V.int.inj z
            rw [show ((endsL x rs).map V.str).length = m from hm] at y
            omega)]
          rfl
        · show (decide (ds.length = m) && (ds.all natB && decide (0 < (ds.map toI).sum))) = _
          rw [decide_eq_false lm]
          rfl
theorem ok_Table_initD {fi : Addr} {dfi : FuncData} (Fi : FnOk P w K mg base CX0 1 fi dfi ["self", "value"] (sp_init K)) (bi : Binds K dfi ["self", "value"] []) (tyI : PySem.W.typeIn K (.ref fi) = some (.type "function")) (XBC : Xcl K BC) (iBC : PySem.W.findIn K (.ref BC) "__init__" = some (some (.ref fi))) (gBC : mg "BadCounts" = some (.ref BC)) (cP : PgC K C) (c : TbC K Ct) {pP fP : Addr} {dfP : FuncData} (rP : PropOf K C "parts" pP fP) (FP : FnOk P w K mg base CX0 1 fP dfP ["self"] (sp_Page_parts K C)) (bP : Binds K dfP ["self"] []) {f : Addr} {fd : FuncData} (F : Fun K "__init__" "Table.__init__" s_Table__init_ f fd) (c_is_countsD : Cal P w K mg base 3 "is_counts" ["page", "value"] (sp_is_countsD K C)) (c_many_in : Cal P w K mg base 4 "many_in" ["page", "counts", "part"] (sp_many_in K C)) : FnOk P w K mg base (L2.CX P w) 5 f fd ["self", "page", "counts"] (sp_Table_initD K C Ct BC) := by
  refine F.okX sc_Table__init_ (fun vs H Q E h => ?_) (fun cdv A outer s H vs Q E hr h => ?_)
  · obtain ⟨b, h, x, rs, a, dx, pa, dp, u, d, e, v, dv, rfl, _⟩ := h
    rfl
  · refine ⟨_, (pss_cons (ps_if (pt_not (pt_val (pe_call c_is_countsD.G (hr.mono (by decide)) (by rfl) c_is_countsD.g c_is_countsD.kp c_is_countsD.b .nil pass0 (pa_cons (pv 1) (pa_cons (pv 2) pa_nil))))) (pss_one (ps_raise rfl (takes_of rfl rfl rfl rfl) (pmk_oex XBC.T iBC tyI Fi (hr.mono (by decide)) bi .nil pass0 (by rfl) gBC (pa_cons (pv 2) pa_nil)))) pss_nil)
      (pss_cons (ps_fld (pv 0) (pv 1) rfl)
      (pss_cons (ps_fld (pv 0) (pv 2) rfl)
      (pss_one (ps_fld (pv 0) (pe_dc (own := [("part", 3)]) (g := gName 3) rfl sc_Table__init_.nd (pi_tup (pe_prop (pv 1) cP.cls rP FP (hr.mono (by decide)) bP .nil pass0 (by rfl))) (blkOk_by (own := [("part", 3)]) (N := N_Table__init_) (sc := defScope s_Table__init_) (by decide +kernel)) (fun _ _ _ _ _ => (pg_name (i := 3) sc_Table__init_.nd rfl (.inl rfl))) (fun _ _ _ _ _ => pts_nil) (fun _ _ _ _ _ => pv 3) (fun _ _ _ _ _ => (pe_call c_many_in.G (hr.mono (by decide)) (by rfl) c_many_in.g c_many_in.kp c_many_in.b .nil pass0 (pa_cons (pv 1) (pa_cons (pv 2) (pa_cons (pv 3) pa_nil)))))) rfl))))), ?_⟩
    obtain ⟨b, h, x, rs, a, dx, pa, dp, u, d, e, v, dv, rfl, O, hv, m6, hA, q⟩ := h
    refine ⟨.ref pa, rfl, v, rfl, b, h, x, rs, pa, dp, u, d, e, v, dv, _, rfl, O, hv, rfl, m6, fun H1 s1 => ?_⟩
    rcases q with ⟨bad, q⟩ | ⟨W, cs, T, rfl, rfl, hT, R, q⟩
    · rw [bad]
      have q := q H1 s1
      refine ⟨false, rfl, iteT ?_⟩
      refine ⟨v, rfl, by show 1 ≤ 1000; decide, fun ae nae => ⟨ae, BC, v, rfl, XBC, upd_same, fun dd ndd nda => ⟨rfl, dd, [("value", v)], upd_same, ?_, ?_, ?_⟩⟩⟩
      · rw [upd_ne nda, upd_same]
      · rwa [upd_ne nda] at ndd
      · exact raise_end q nae ndd nda
    have good : countsB (ends (linesOf x rs)).length (.tuple (cs.map PyData.int)) = true := counts_yes R.len R.pos R.some_
    rw [good]
    refine ⟨true, rfl, iteF ?_⟩
    have l6 : cs.length ≤ 6 := by
      rw [R.len]
      exact (last_end R.pg).2
    have nA : pa ≠ a := fun z => by
      have := O.at_
      rw [z, hA] at this
      cases this
    have hA1 := s1 _ _ hA
    have O1 := O.same s1
    have hT1 := sqT_same s1 hT
    refine next_in ?_
    refine ⟨.ref pa, rfl, .ref a, rfl, a, Ct, dx, _, rfl, hA1, c.cls, c.page, Nat.zero_lt_succ _, ?_⟩
    refine ⟨.ref T, rfl, .ref a, rfl, a, Ct, dx, _, rfl, upd_same, c.cls, c.counts, Nat.lt_of_le_of_lt (putF_len _ _ _) (by decide : 0 + 1 < 1000), ?_⟩
    rw [upd_twice]
    have hF := Nat.lt_of_le_of_lt (Nat.le_trans (putF_len "_counts" (V.ref T) (putF "_page" (V.ref pa) [])) (Nat.succ_le_succ (putF_len _ _ _))) (show 0 + 1 + 1 < 1000 by decide)
    generalize eF : putF "_counts" (V.ref T) _ = F2 at hF ⊢
    have O2 : PgO K C b h x rs (upd H1 a (.ins Ct dx F2)) pa dp u d e := O1.ins hA1 nA
    have hT2 : SqT K (upd H1 a (.ins Ct dx F2)) T (cs.map V.int) := sqT_ins hT1 hA1
    have o2 : ∀ c o, c ≠ a → H c = some o → (upd H1 a (.ins Ct dx F2)) c = some o := fun c o n e => by
      rw [upd_ne n]
      exact s1 _ _ e
    have na2 : (upd H1 a (.ins Ct dx F2)) a = _ := upd_same
    generalize L2.upd H1 a (.ins Ct dx F2) = G at O2 hT2 o2 na2 ⊢
    refine ⟨.ref pa, rfl, pa, dp, _, rfl, O2.at_, b, h, x, rs, pa, dp, u, d, e, rfl, O2, fun G1 t ob s3 n3 h3 f3 => ?_⟩
    refine ⟨t, rfl, ⟨_, .inl (.inr ⟨ob, h3⟩)⟩, fun M nM => ?_⟩
    have O3 := O2.same s3
    have hT3 := sqT_same s3 hT2
    have nd := nodup_lines R.pg.good
    have few := R.pg.few
    have ln : ((linesOf x rs).map (·.nm)).length = rs.length + 1 := by rw [List.length_map, linesOf_len]
    have ms : ∀ p ∈ (linesOf x rs).map (·.nm), p ∈ (linesOf x rs).map (·.nm) := fun _ m => m
    generalize hns : (linesOf x rs).map (·.nm) = ns at h3 nd ln
    refine dc_tup (xs := ns.map V.str) (fun i H' => Same G1 H' ∧ H' M = some (.dK (manyKV x rs W cs (ns.take i)))) ⟨sameU nM, upd_same⟩ (fun i H' _ z => .inl (.inr ⟨ob, z.1 _ _ h3⟩)) ?_ ?_
    · rintro i y H2 hk ⟨s2, hM⟩
      rw [List.getElem?_map] at hk
      obtain ⟨p, kp, rfl⟩ := Option.map_eq_some_iff.mp hk
      have ip : i < ns.length := (List.getElem?_eq_some_iff.mp kp).1
      have tk : ns.take (i + 1) = ns.take i ++ [p] := by rw [List.take_add_one, kp]; rfl
      have pn : p ∉ ns.take i := fun m => by
        obtain ⟨j, lj, ej⟩ := List.getElem_of_mem m
        rw [List.getElem_take] at ej
        rw [List.length_take] at lj
        have := nodup_at nd (List.getElem?_eq_some_iff.mpr ⟨by omega, ej⟩) kp
        omega
      refine ⟨rfl, .str p, rfl, .ref pa, rfl, .ref T, rfl, .str p, rfl, b, h, x, rs, pa, dp, u, d, e, T, cs, p, W, rfl, O3.same s2, R.pg, R.way, hns ▸ List.mem_of_getElem? kp, sqT_same s2 hT3, R.len, fun H4 s4 => ?_⟩
      refine ⟨_, .inr p, rfl, s4 _ _ hM, ?_, ?_, ?_⟩
      · unfold manyKV
        rw [List.length_map, List.length_take]
        exact small1000 (Nat.le_trans (Nat.min_le_left _ _) (by omega))
      · intro c' o eb
        rw [upd_ne (ne_of_none eb nM)]
        exact s4 _ _ (s2 _ _ eb)
      · rw [upd_same, putK_new _ (manyKV_none pn), tk]
        unfold manyKV
        rw [List.map_append]
        rfl
    rintro H2 ⟨s2, hM⟩
    rw [List.length_map, List.take_length] at hM
    have na3 := s2 _ _ (s3 _ _ na2)
    have na : M ≠ a := (ne_of_none (s3 _ _ na2) nM).symm
    refine ⟨.ref a, rfl, a, Ct, dx, _, rfl, na3, c.cls, c.many, hF, ?_⟩
    refine q _ M (fun c o n ec => ?_) ⟨?_, ?_, ?_, ?_⟩
    · rw [upd_ne n]
      exact s2 _ _ (s3 _ _ (o2 _ _ n ec))
    · rw [upd_same, ← eF]
      rfl
    · exact (O3.same s2).ins na3 nA
    · exact sqT_ins (sqT_same s2 hT3) na3
    · rw [upd_ne na, hns]
      exact hM
end
end Uq
namespace Uq
open PySem PySem.Spec PyProof.Rows L2 LamX TL
/-! ### what a table tells -/
theorem log_smallW {i : Int} (h : i.natAbs < 2 ^ 60) : i.natAbs.log2 < 1920 := Nat.lt_of_lt_of_le (PySem.Flt.log2_lt_of (show 0 < 60 by decide) h) (by decide)
structure OkW (d : PyData) (k n : Nat) : Prop where
  sho : d.showable = true
  dic : d.hasDict = false
  dep : d.depth ≤ k
  lea : d.leavesShort 16 = true
  bul : d.bulk ≤ n
theorem okw_all {k m : Nat} : ∀ {ds : List PyData}, (∀ d ∈ ds, OkW d k m) → PyData.showableAll ds = true ∧ PyData.hasDictAll ds = false ∧ PyData.depthAll ds ≤ k ∧ PyData.leavesShortAll 16 ds = true ∧ PyData.bulkAll ds ≤ (m + 1) * ds.length
  | [], _ => ⟨rfl, rfl, Nat.zero_le _, rfl, Nat.zero_le _⟩
  | d :: ds, h => by
    have a := h d List.mem_cons_self
    obtain ⟨b1, b2, b3, b4, b5⟩ := okw_all (ds := ds) fun e me => h e (List.mem_cons_of_mem _ me)
    refine ⟨?_, ?_, ?_, ?_, ?_⟩
    · rw [PyData.showableAll, a.sho, b1]; rfl
    · rw [PyData.hasDictAll, a.dic, b2]; rfl
    · rw [PyData.depthAll]; exact Nat.max_le.mpr ⟨a.dep, b3⟩
    · rw [PyData.leavesShortAll, a.lea, b4]; rfl
    · rw [PyData.bulkAll, List.length_cons, Nat.mul_add, Nat.mul_one]
      have := a.bul
      omega
theorem okw_tup {k m : Nat} {ds : List PyData} (h : ∀ d ∈ ds, OkW d k m) : OkW (.tuple ds) (k + 1) ((m + 1) * ds.length) := by
  obtain ⟨b1, b2, b3, b4, b5⟩ := okw_all h
  exact ⟨by rw [PyData.showable]; exact b1, by rw [PyData.hasDict]; exact b2, by rw [PyData.depth]; omega, by rw [PyData.leavesShort]; exact b4, by rw [PyData.bulk]; exact b5⟩
theorem OkW.mono {d : PyData} {k n k' n' : Nat} (h : OkW d k n) (a : k ≤ k') (b : n ≤ n') : OkW d k' n' := ⟨h.sho, h.dic, Nat.le_trans h.dep a, h.lea, Nat.le_trans h.bul b⟩
theorem okw_int {i : Int} (h : i.natAbs < 10 ^ 15) : OkW (.int i) 0 0 := by
  refine ⟨?_, rfl, Nat.le_refl _, ?_, Nat.le_refl _⟩
  · show decide (i.natAbs.log2 < 1920) = true
    exact decide_eq_true (log_smallW (by omega))
  · show decide ((PyData.shown (.int i)).length ≤ 16) = true
    refine decide_eq_true ?_
    have e := PySem.int_text_length_le10 (a := i) (k := 15) (by decide) (by omega)
    show (Str.ofString (toString i)).length ≤ 16
    rw [PySem.ofString_length]
    exact e
theorem OkW.shown {d : PyData} {k n : Nat} (h : OkW d k n) (hk : k ≤ 60) (hn : n ≤ 2 ^ 19) : d.showable = true ∧ d.hasDict = false ∧ d.depth ≤ 60 ∧ d.shown.length ≤ sizeLine := by
  refine ⟨h.sho, h.dic, Nat.le_trans h.dep hk, ?_⟩
  have h1 := PyData.shown_le_bulk 16 (by decide) d h.lea
  have h2 : (16 + 2) * d.bulk ≤ 18 * 524288 := Nat.mul_le_mul (by decide) (Nat.le_trans h.bul hn)
  rw [sizeLine_eq]
  omega
theorem okw_ints {l : List Int} (n : l.length ≤ 6) (h : ∀ c ∈ l, 0 ≤ c ∧ c ≤ 10 ^ 14) : OkW (.tuple (l.map PyData.int)) 1 6 := by
  refine (okw_tup (k := 0) (m := 0) fun d m => ?_).mono (Nat.le_refl _) (by rw [List.length_map]; omega)
  obtain ⟨c, mc, rfl⟩ := List.mem_map.mp m
  exact okw_int (by have := (h c mc).1; have := (h c mc).2; omega)
theorem reprS_in {K : PySem.W.Frag} {t A : Addr} {H : Hp} {Q : VK} {xs : List Int} {n : Int} (ht : SqT K H t [.ref A, .int n]) (hA : SqT K H A (xs.map V.int)) (nx : xs.length ≤ 6) (hx : ∀ c ∈ xs, 0 ≤ c ∧ c ≤ 10 ^ 14) (n0 : 0 ≤ n) (n1 : n ≤ 10 ^ 14)
    (q : Q (.str (PyData.tuple [.tuple (xs.map PyData.int), .int n]).shown) H) : rRepr K [.ref t] H Q := by
  have k : OkW (.tuple [.tuple (xs.map PyData.int), .int n]) 2 20 := by
    refine (okw_tup (k := 1) (m := 6) fun d m => ?_).mono (by decide) (by show (6 + 1) * 2 ≤ 20; decide)
    simp only [List.mem_cons, List.not_mem_nil, or_false] at m
    rcases m with rfl | rfl
    · exact okw_ints nx hx
    · exact (okw_int (by omega)).mono (by decide) (by decide)
  obtain ⟨k1, k2, k3, k4⟩ := k.shown (by decide) (by decide)
  exact ⟨.ref t, _, rfl, .tup ht (.cons (.tup hA (dpI xs)) (.cons (.int _) .nil)), k1, k2, k3, k4, q⟩
theorem TbR.small {b : Nat} {h x : Str} {rs : List Rw} {W : Str → List Str} {cs : List Int} (R : TbR b h x rs W cs) (m : cs.sum ≤ 10 ^ 14) : cs.length ≤ 6 ∧ (∀ c ∈ cs, 0 ≤ c ∧ c ≤ 10 ^ 14) := by
  refine ⟨by rw [R.len]; exact (last_end R.pg).2, fun c mc => ⟨R.pos c mc, ?_⟩⟩
  have := le_sum R.pos mc
  omega
theorem zip_filt (g f : Str → Bool) : ∀ {E : List Str} {cs : List Int}, (∀ e ∈ E, g e = f e) → (List.zipWith (· * ·) (E.map fun e => if g e = true then (1 : Int) else 0) cs).sum = ((E.zip cs).filterMap fun ec => if f ec.1 = true then some ec.2 else none).sum
  | [], _, _ => rfl
  | e :: E, [], _ => by simp
  | e :: E, c :: cs, h => by
    have ih := zip_filt g f (E := E) (cs := cs) fun z m => h z (List.mem_cons_of_mem _ m)
    have a := h e List.mem_cons_self
    rw [List.map_cons, List.zipWith_cons_cons, List.sum_cons, List.zip_cons_cons, ih, a]
    by_cases y : f e = true
    · rw [if_pos y, List.filterMap_cons, if_pos y, List.sum_cons, Int.one_mul]
    · rw [if_neg y, List.filterMap_cons, if_neg y, Int.zero_mul, Int.zero_add]
theorem number_many {b : Nat} {h x : Str} {qs : List R4} {W : Str → List Str} {cs : List Int} {p : Str} (P : Pg b h x (qs.map mkR)) (Y : Wys x (qs.map mkR) W) (hp : p ∈ (linesOf x (qs.map mkR)).map (·.nm)) : numberL x qs cs p = manyL x (qs.map mkR) W cs p := by
  unfold numberL weightsL manyL
  rw [endsL_ends]
  refine zip_filt (knowsS (endsOfL x qs p)) (onWay W p) fun e me => ?_
  rw [endsOf_same P Y hp, Bool.eq_iff_iff, knowsS_iff]
  unfold endsOf
  rw [List.mem_filter]
  exact ⟨fun z => z.2, fun z => ⟨me, z⟩⟩
theorem reprN_in {K : PySem.W.Frag} {i : Int} {H : Hp} {Q : VK} (l : i.natAbs < 10 ^ 15) (q : Q (.str (PyData.int i).shown) H) : rRepr K [.int i] H Q := by
  obtain ⟨k1, k2, k3, k4⟩ := (okw_int l).shown (by decide) (by decide)
  exact ⟨.int i, _, rfl, .int i, k1, k2, k3, k4, q⟩
/-- how many for each one -/
def shareD (a b : Int) : PyData := if b = 0 then .none else .tuple [.int (red a b).1, .int (red a b).2]
def ShareV (H : Hp) (v : V) (a b : Int) : Prop := (b = 0 ∧ v = .non) ∨ (b ≠ 0 ∧ ∃ t, v = .ref t ∧ H t = some (.tup [.int (red a b).1, .int (red a b).2]))
theorem red_small {a b : Int} (b0 : 0 < b) (a0 : 0 ≤ a) (a1 : a < 10 ^ 15) (b1 : b < 10 ^ 15) : (red a b).1.natAbs < 10 ^ 15 ∧ (red a b).2.natAbs < 10 ^ 15 := by
  have x := red_lt (b := b) b0 a0 (by omega)
  have g0 := gcd_pos (a := a) b0
  have y1 : (red a b).1 ≤ a := Int.ediv_le_self _ a0
  have y2 : (red a b).2 ≤ b := Int.ediv_le_self _ (by omega)
  have y3 : 0 ≤ (red a b).2 := Int.ediv_nonneg (by omega) (by omega)
  omega
theorem reprV_in {K : PySem.W.Frag} {H : Hp} {Q : VK} {v : V} {a b : Int} (h : ShareV H v a b) (b0 : 0 ≤ b) (a0 : 0 ≤ a) (a1 : a < 10 ^ 15) (b1 : b < 10 ^ 15) (q : Q (.str (shareD a b).shown) H) : rRepr K [v] H Q := by
  rcases h with ⟨z, rfl⟩ | ⟨z, t, rfl, ht⟩
  · rw [shareD, if_pos z] at q
    exact ⟨.non, .none, rfl, .non, by decide +kernel, by decide +kernel, by decide +kernel, by decide +kernel, q⟩
  · rw [shareD, if_neg z] at q
    obtain ⟨r1, r2⟩ := red_small (a := a) (b := b) (by omega) a0 a1 b1
    have k : OkW (.tuple [.int (red a b).1, .int (red a b).2]) 1 6 := by
      refine (okw_tup (k := 0) (m := 0) fun d m => ?_).mono (by decide) (by show (0 + 1) * 2 ≤ 6; decide)
      simp only [List.mem_cons, List.not_mem_nil, or_false] at m
      rcases m with rfl | rfl
      · exact okw_int r1
      · exact okw_int r2
    obtain ⟨k1, k2, k3, k4⟩ := k.shown (by decide) (by decide)
    exact ⟨.ref t, _, rfl, .tup (SqT.of ht) (.cons (.int _) (.cons (.int _) .nil)), k1, k2, k3, k4, q⟩
def sp_law_share_due (K : PySem.W.Frag) : Sp := fun vs H Q _ => ∃ (d u R CC : Addr) (b : Nat) (h x : Str) (p1 p2 : Str) (ws : List V) (qs : List R4) (cs : List Int), vs = [.ref d, .ref CC, .str p1, .str p2] ∧ LoreAt K H d u R b h x ws qs ∧ qs.length ≤ 100 ∧ SqT K H CC (cs.map V.int) ∧ cs.length = (endsL x qs).length ∧ (∀ c ∈ cs, 0 ≤ c) ∧ cs.sum < 10 ^ 15 ∧
  ∀ H' v, Same H H' → ShareV H' v (numberL x qs cs p1) (numberL x qs cs p2) → Q v H'
def sp_law_is_told (K : PySem.W.Frag) (C Ct : Addr) : Sp := fun vs H Q _ => ∃ (d u R CC : Addr) (b : Nat) (h x : Str) (ws : List V) (qs : List R4) (cs : List Int) (W : Str → List Str) (a dx pa dp pu pd pe T M : Addr), vs = [.ref d, .ref CC, .ref pa, .ref a] ∧ LoreAt K H d u R b h x ws qs ∧ Pg b h x (qs.map mkR) ∧ Wys x (qs.map mkR) W ∧ SqT K H CC (cs.map V.int) ∧ TbO K C Ct b h x (qs.map mkR) W cs H a dx pa dp pu pd pe T M ∧ TbR b h x (qs.map mkR) W cs ∧ cs.sum ≤ 10 ^ 14 ∧
  ∀ H', Same H H' → Q (.bl true) H'
section
variable {P : Program} {w : World} {K : PySem.W.Frag} {mg : Str → Option Value} {base : Heap} {C Ct NP : Addr}
theorem ok_law_share_due {f : Addr} {fd : FuncData} (F : Fun K "_law_share_due" "_law_share_due" s_law_share_due f fd) (c_law_number : Cal P w K mg base 5 "_law_number" ["_law_lore_here", "_law_counts", "_law_part"] (sp_law_number K)) (c_law_pair : Cal P w K mg base 2 "_law_pair" ["_law_above", "_law_under"] (sp_law_pair K)) : FnOk P w K mg base CX0 6 f fd ["_law_lore_here", "_law_counts", "_law_part", "_law_other"] (sp_law_share_due K) := by
  refine F.ok sc_law_share_due (fun vs H Q E h => ?_) (fun cdv A outer s H vs Q E hr h => ?_)
  · obtain ⟨d, u, R, CC, b, h, x, p1, p2, ws, qs, cs, rfl, _⟩ := h
    rfl
  · refine ⟨_, (pss_cons (ps_set (i := 4) sc_law_share_due.nd rfl (.inl rfl) (pe_call c_law_number.G (hr.mono (by decide)) (by rfl) c_law_number.g c_law_number.kp c_law_number.b .nil pass0 (pa_cons (pv 0) (pa_cons (pv 1) (pa_cons (pv 3) pa_nil)))))
      (pss_one (ps_ret (pe_ifExp (pt_cmpR op_eq (pv 4) pe_int (nomark _)) pe_non (pe_call c_law_pair.G (hr.mono (by decide)) (by rfl) c_law_pair.g c_law_pair.kp c_law_pair.b .nil pass0 (pa_cons (pe_call c_law_number.G (hr.mono (by decide)) (by rfl) c_law_number.g c_law_number.kp c_law_number.b .nil pass0 (pa_cons (pv 0) (pa_cons (pv 1) (pa_cons (pv 2) pa_nil)))) (pa_cons (pv 4) pa_nil))))))), ?_⟩
    obtain ⟨d, u, R, CC, b, h, x, p1, p2, ws, qs, cs, rfl, L, few, hC, hl, c0, cM, q⟩ := h
    have big : ∀ c ∈ cs, -2 ^ 64 < c ∧ c < 2 ^ 64 := fun c m => by
      have := c0 c m
      have := le_sum c0 m
      omega
    refine seq_set ⟨.ref d, rfl, .ref CC, rfl, .str p2, rfl, d, u, R, CC, b, h, x, p2, ws, qs, cs, rfl, L, few, hC, hl, big, fun H1 s1 => ?_⟩
    have n0 : 0 ≤ numberL x qs cs p2 := number_pos c0
    have n1 : numberL x qs cs p2 ≤ cs.sum := number_all c0
    refine ret_in ⟨_, rfl, rfl, _, rfl, ?_⟩
    by_cases z : numberL x qs cs p2 = 0
    · exact iteDY (congrArg V.int z) (q _ _ s1 (.inl ⟨z, rfl⟩))
    · refine iteDN (fun y => z (V.int.inj y)) ?_
      refine ⟨.ref d, rfl, .ref CC, rfl, .str p1, rfl, d, u, R, CC, b, h, x, p1, ws, qs, cs, rfl, L.same s1, few, sqT_same s1 hC, hl, big, fun H2 s2 => ?_⟩
      exact ⟨_, rfl, _, _, rfl, by omega, by omega, fun H3 t s3 nt ht => q _ _ ((s1.trans s2).trans s3) (.inr ⟨z, t, rfl, ht⟩)⟩
theorem ok_law_is_told (cP : PgC K C) (TP : PgT K C) (c : TbC K Ct) {fQ : Addr} {dfQ : FuncData} (dQ : Dun K C fQ "__eq__") (FQ : FnOk P w K mg base CX0 1 fQ dfQ ["self", "other"] (sp_Page__eq_ K C)) (bQ : Binds K dfQ ["self", "other"] [])
    {fT : Addr} {fdT : FuncData} (dT : Dun K Ct fT "__getitem__") (hT : PySem.W.fnIn K fT = true) (FT : FnOk P w K mg base (L2.CX P w) 3 fT fdT ["self", "at"] (sp_atD K C Ct NP)) (bT : Binds K fdT ["self", "at"] [])
    {fS : Addr} {dfS : FuncData} (mS : Meth K Ct "share" fS) (FS : FnOk P w K mg base (L2.CX P w) 5 fS dfS ["self", "part", "other"] (sp_shareD K C Ct NP)) (bS : Binds K dfS ["self", "part", "other"] [])
    {pP fP : Addr} {dfP : FuncData} (rP : PropOf K Ct "page" pP fP) (FP : FnOk P w K mg base CX0 1 fP dfP ["self"] (sp_Table_page K C Ct)) (bP : Binds K dfP ["self"] [])
    {pN fN : Addr} {dfN : FuncData} (rN : PropOf K Ct "counts" pN fN) (FN : FnOk P w K mg base CX0 1 fN dfN ["self"] (sp_Table_counts K C Ct)) (bN : Binds K dfN ["self"] [])
    {pL fL : Addr} {dfL : FuncData} (rL : PropOf K Ct "total" pL fL) (FL : FnOk P w K mg base CX0 1 fL dfL ["self"] (sp_Table_total K C Ct)) (bL : Binds K dfL ["self"] [])
    {f : Addr} {fd : FuncData} (F : Fun K "_law_is_told" "_law_is_told" s_law_is_told f fd) (m_repr : mg "repr" = none) (m_sum : mg "sum" = none) (c_law_parts : Cal P w K mg base 1 "_law_parts" ["_law_lore_here"] (sp_law_parts K)) (c_law_number : Cal P w K mg base 5 "_law_number" ["_law_lore_here", "_law_counts", "_law_part"] (sp_law_number K)) (c_law_share_due : Cal P w K mg base 6 "_law_share_due" ["_law_lore_here", "_law_counts", "_law_part", "_law_other"] (sp_law_share_due K)) : FnG P w K mg base 8 f fd ["_law_lore_here", "_law_counts", "_law_page", "_law_table"] (sp_law_is_told K C Ct) := by
  refine Fun_okG F sc_law_is_told (fun vs H Q E h => ?_) (fun cdv A outer s H vs Q E hg hr h => ?_)
  · obtain ⟨d, u, R, CC, b, h, x, ws, qs, cs, W, a, dx, pa, dp, pu, pd, pe, T, M, rfl, _⟩ := h
    rfl
  · refine ⟨_, (pss_cons (ps_set (i := 4) sc_law_is_told.nd rfl (.inl rfl) (pe_call c_law_parts.G (hr.mono (by decide)) (by rfl) c_law_parts.g c_law_parts.kp c_law_parts.b .nil pass0 (pa_cons (pv 0) pa_nil)))
      (pss_cons (ps_if (PW.pt (pw_or (pt_cmpR op_ne (pe_callB (call_repr_data hg (ru hr)) (by rfl) m_repr (by decide +kernel) (pa_cons (pe_tup (pa_cons (pe_prop (pv 3) c.cls rN FN (hr.mono (by decide)) bN .nil pass0 (by rfl)) (pa_cons (pe_prop (pv 3) c.cls rL FL (hr.mono (by decide)) bL .nil pass0 (by rfl)) pa_nil))) pa_nil)) (pe_callB (call_repr_data hg (ru hr)) (by rfl) m_repr (by decide +kernel) (pa_cons (pe_tup (pa_cons (pv 1) (pa_cons (pe_callB (cr_sumT rfl) (by rfl) m_sum (by decide +kernel) (pa_cons (pv 1) pa_nil)) pa_nil))) pa_nil)) (nomark _)) (pw_or1 (pt_not (pt_cmpR (op_eqA dQ FQ (hr.mono (by decide)) bQ) (pe_prop (pv 3) c.cls rP FP (hr.mono (by decide)) bP .nil pass0 (by rfl)) (pv 2) (nomark _)))))) (pss_one (ps_ret pe_bl)) pss_nil)
      (pss_cons (ps_for PassesOwn.never rfl (pi_list (pv 4)) (pg_name (i := 5) sc_law_is_told.nd rfl (.inl rfl))
        (pss_cons (ps_if (pt_cmpR op_ne (pe_callB (call_repr_data hg (ru hr)) (by rfl) m_repr (by decide +kernel) (pa_cons (pe_ixX dT hT FT passL (hr.mono (by decide)) bT (pv 3) (pv 5)) pa_nil)) (pe_callB (call_repr_data hg (ru hr)) (by rfl) m_repr (by decide +kernel) (pa_cons (pe_call c_law_number.G (hr.mono (by decide)) (by rfl) c_law_number.g c_law_number.kp c_law_number.b .nil pass0 (pa_cons (pv 0) (pa_cons (pv 1) (pa_cons (pv 5) pa_nil)))) pa_nil)) (nomark _)) (pss_one (ps_ret pe_bl)) pss_nil)
        (pss_one (ps_for PassesOwn.never rfl (pi_list (pv 4)) (pg_name (i := 6) sc_law_is_told.nd rfl (.inl rfl))
          (pss_one (ps_if (pt_cmpR op_ne (pe_callB (call_repr_data hg (ru hr)) (by rfl) m_repr (by decide +kernel) (pa_cons (pe_meth (pv 3) c.cls mS FS (hr.mono (by decide)) bS .nil passL (pa_cons (pv 5) (pa_cons (pv 6) pa_nil))) pa_nil)) (pe_callB (call_repr_data hg (ru hr)) (by rfl) m_repr (by decide +kernel) (pa_cons (pe_call c_law_share_due.G (hr.mono (by decide)) (by rfl) c_law_share_due.g c_law_share_due.kp c_law_share_due.b .nil pass0 (pa_cons (pv 0) (pa_cons (pv 1) (pa_cons (pv 5) (pa_cons (pv 6) pa_nil))))) pa_nil)) (nomark _)) (pss_one (ps_ret pe_bl)) pss_nil))))))
      (pss_one (ps_ret pe_bl))))), ?_⟩
    obtain ⟨d, u, R, CC, b, h, x, ws, qs, cs, W, a, dx, pa, dp, pu, pd, pe, T, M, rfl, L, hP, Y, hC, O, TR, cM, q⟩ := h
    obtain ⟨n1, z1⟩ := TR.small cM
    have c0 := TR.pos
    have few : qs.length ≤ 100 := by
      have := hP.few
      rw [List.length_map] at this
      omega
    have big : ∀ c ∈ cs, -2 ^ 64 < c ∧ c < 2 ^ 64 := fun c m => by
      have := c0 c m
      have := le_sum c0 m
      omega
    have hl : cs.length = (endsL x qs).length := by rw [endsL_ends]; exact TR.len
    have np : ∀ p, 0 ≤ numberL x qs cs p ∧ numberL x qs cs p ≤ cs.sum := fun p => ⟨number_pos c0, number_all c0⟩
    refine seq_set ⟨.ref d, rfl, d, u, R, b, h, x, ws, qs, rfl, L, few, fun H1 l s1 nl hl1 => ?_⟩
    have O1 := O.same s1
    refine ⟨.ref a, rfl, a, dx, _, rfl, O1.at_, b, h, x, qs.map mkR, W, cs, a, dx, pa, dp, pu, pd, pe, T, M, rfl, O1, ?_⟩
    refine ⟨.ref a, rfl, a, dx, _, rfl, O1.at_, b, h, x, qs.map mkR, W, cs, a, dx, pa, dp, pu, pd, pe, T, M, rfl, O1, ?_⟩
    refine ⟨by show 2 ≤ sizeLine; decide, fun Y1 nY1 => ?_⟩
    dsimp only [tNil]
    have sY1 := s1.trans (sameU (o := .tup [.ref T, .int cs.sum]) nY1)
    refine reprS_in (SqT.of upd_same) (sqT_same sY1 O.counts) n1 z1 (sum_nn c0) cM ?_
    refine ⟨.ref CC, rfl, .ref CC, rfl, CC, _, rfl, sqT_same sY1 hC, by show 2 ≤ sizeLine; decide, fun Y2 nY2 => ?_⟩
    have sY2 := sY1.trans (sameU (o := .tup [.ref CC, .int cs.sum]) nY2)
    dsimp only [tNil]
    refine reprS_in (SqT.of upd_same) (sqT_same sY2 hC) n1 z1 (sum_nn c0) cM ?_
    have hl2 : (upd (upd H1 Y1 (.tup [.ref T, .int cs.sum])) Y2 (.tup [.ref CC, .int cs.sum])) l = _ := sameU nY2 _ _ (sameU nY1 _ _ hl1)
    generalize L2.upd _ Y2 _ = H2 at sY2 hl2 ⊢
    have O2 := O.same sY2
    have L2_ := L.same sY2
    have hC2 := sqT_same sY2 hC
    refine ⟨rfl, _, rfl, iteNS rfl ?_⟩
    refine ⟨.ref a, rfl, a, dx, _, rfl, O2.at_, b, h, x, qs.map mkR, W, _, a, dx, pa, dp, pu, pd, pe, T, M, rfl, O2, ?_⟩
    refine ⟨.ref pa, rfl, ?_⟩
    refine ⟨pa, dp, _, .ref C, rfl, O2.page.at_, pg_is cP TP O2.page.at_, by simp [PySem.W.notFirst], b, h, x, qs.map mkR, pa, dp, pu, pd, pe, b, h, x, qs.map mkR, pa, dp, pu, pd, pe, rfl, O2.page, O2.page, ?_⟩
    rw [decide_eq_true rfl]
    refine ⟨true, rfl, true, rfl, iteF ?_⟩
    refine next_in ?_
    have prt : ∀ p ∈ partsL x qs, p ∈ (linesOf x (qs.map mkR)).map (·.nm) := fun p m => by
      rw [← partsL_names]
      exact m
    refine ⟨.ref l, rfl, l, rfl, ⟨_, SqL.of hl2⟩, ?_⟩
    refine for_it (walk_list (xs := (partsL x qs).map V.str)) (fun i σ H' => Same H2 H' ∧ ∃ s5 s6, σ = [some (.ref d), some (.ref CC), some (.ref pa), some (.ref a), some (.ref l), s5, s6]) ⟨fun _ _ e => e, _, _, rfl⟩ (fun i σ H' _ z => SqL.of (z.1 _ _ hl2)) ?_ ?_
    · rintro i y σ G1 G2 hi ⟨sG, s5, s6, rfl⟩ ⟨rfl, hk⟩
      rw [List.getElem?_map] at hk
      obtain ⟨p1, ep1, rfl⟩ := Option.map_eq_some_iff.mp hk
      have mp1 := prt p1 (List.mem_of_getElem? ep1)
      have OG := O2.same sG
      refine ⟨.ref a, rfl, .str p1, rfl, a, dx, _, rfl, OG.at_, b, h, x, qs.map mkR, W, cs, a, dx, pa, dp, pu, pd, pe, T, M, .str p1, .str p1, rfl, OG, .str p1, .inl ⟨p1, rfl, mp1, ?_⟩⟩
      have nm1 := number_many (cs := cs) hP Y mp1
      dsimp only [tNil]
      rw [← nm1]
      have np1 := np p1
      refine reprN_in (by omega) ?_
      refine ⟨.ref d, rfl, .ref CC, rfl, .str p1, rfl, d, u, R, CC, b, h, x, p1, ws, qs, cs, rfl, L2_.same sG, few, sqT_same sG hC2, hl, big, fun G3 s3 => ?_⟩
      dsimp only [tNil]
      refine reprN_in (by omega) ?_
      refine ⟨rfl, _, rfl, iteNS rfl ?_⟩
      refine next_in ?_
      have sG3 := sG.trans s3
      refine ⟨.ref l, rfl, l, rfl, ⟨_, SqL.of (sG3 _ _ hl2)⟩, ?_⟩
      refine for_it (walk_list (xs := (partsL x qs).map V.str)) (fun i σ H' => Same H2 H' ∧ ∃ s6, σ = [some (.ref d), some (.ref CC), some (.ref pa), some (.ref a), some (.ref l), some (.str p1), s6]) ⟨sG3, _, rfl⟩ (fun i σ H' _ z => SqL.of (z.1 _ _ hl2)) ?_ ?_
      · rintro j y σ G4 G5 hj ⟨sJ, s6, rfl⟩ ⟨rfl, hk⟩
        rw [List.getElem?_map] at hk
        obtain ⟨p2, ep2, rfl⟩ := Option.map_eq_some_iff.mp hk
        have mp2 := prt p2 (List.mem_of_getElem? ep2)
        have nm2 := number_many (cs := cs) hP Y mp2
        have np2 := np p2
        have OJ := O2.same sJ
        refine ⟨.ref a, rfl, a, dx, _, rfl, OJ.at_, rfl, .str p1, rfl, .str p2, rfl, b, h, x, qs.map mkR, W, cs, a, dx, pa, dp, pu, pd, pe, T, M, .str p1, .str p2, .str p1, .str p2, rfl, OJ, .str p1, .str p2, .inr ⟨p1, rfl, mp1, .inr ⟨p2, rfl, mp2, ?_⟩⟩⟩
        rw [← nm1, ← nm2]
        by_cases z : numberL x qs cs p2 = 0
        · refine .inl ⟨z, ?_⟩
          have hv0 : ShareV G5 .non (numberL x qs cs p1) (numberL x qs cs p2) := .inl ⟨z, rfl⟩
          dsimp only [tNil]
          refine reprV_in hv0 (by omega) (by omega) (by omega) (by omega) ?_
          refine ⟨.ref d, rfl, .ref CC, rfl, .str p1, rfl, .str p2, rfl, d, u, R, CC, b, h, x, p1, p2, ws, qs, cs, rfl, L2_.same sJ, few, sqT_same sJ hC2, hl, c0, by omega, fun G8 v8 s8 hv8 => ?_⟩
          dsimp only [tNil]
          refine reprV_in hv8 (by omega) (by omega) (by omega) (by omega) ?_
          exact ⟨rfl, _, rfl, iteNS rfl ⟨sJ.trans s8, _, rfl⟩⟩
        · refine .inr ⟨z, by omega, by omega, fun G6 t s6' nt ht => ?_⟩
          have hv0 : ShareV G6 (.ref t) (numberL x qs cs p1) (numberL x qs cs p2) := .inr ⟨z, t, rfl, ht⟩
          have sJ6 := sJ.trans s6'
          dsimp only [tNil]
          refine reprV_in hv0 (by omega) (by omega) (by omega) (by omega) ?_
          refine ⟨.ref d, rfl, .ref CC, rfl, .str p1, rfl, .str p2, rfl, d, u, R, CC, b, h, x, p1, p2, ws, qs, cs, rfl, L2_.same sJ6, few, sqT_same sJ6 hC2, hl, c0, by omega, fun G8 v8 s8 hv8 => ?_⟩
          dsimp only [tNil]
          refine reprV_in hv8 (by omega) (by omega) (by omega) (by omega) ?_
          exact ⟨rfl, _, rfl, iteNS rfl ⟨sJ6.trans s8, _, rfl⟩⟩
      rintro σ G4 ⟨sJ, s6, rfl⟩
      exact ⟨sJ, _, _, rfl⟩
    rintro σ G1 ⟨sG, s5, s6, rfl⟩
    exact q _ (sY2.trans sG)
end
end Uq
set_option maxHeartbeats 4000000
namespace Uq
open PySem PySem.Spec PyProof.Rows L2 LamX
/-! ### a lambda as a value: kept in a list, called by a comprehension of its maker -/
/-- at f: a lambda of this name, body and closure, its code object at c -/
def LamO (f : Addr) (q : Str) (ps : Arguments) (bd : Expr) (sc : Scope) (cl : List (Str × Addr)) (c : Addr) : HO := .ext fun h => ∃ pm tv, h.get? f = some (PySem.W.kla_obj "<lambda>" q ps bd sc cl pm c tv)
theorem lamO_ne {f c : Addr} {q : Str} {ps : Arguments} {bd : Expr} {sc : Scope} {cl : List (Str × Addr)} (ts : Array Value) : LamO f q ps bd sc cl c ≠ .tbl ts := fun z => by
  unfold LamO at z
  cases z
section
variable {X : Cx} {pins : List (Addr × Obj)} {σ : L2.St} {H : Hp} {s : Shared}
theorem lamO_at {f c : Addr} {q : Str} {ps : Arguments} {bd : Expr} {sc : Scope} {cl : List (Str × Addr)} (I : Inv X pins σ H s) (e : H f = some (LamO f q ps bd sc cl c)) : ∃ pm tv, s.heap.get? f = some (PySem.W.kla_obj "<lambda>" q ps bd sc cl pm c tv) :=
  (show ObjOk X.prog X.w H s.heap f (.ext fun h => ∃ pm tv, h.get? f = some (PySem.W.kla_obj "<lambda>" q ps bd sc cl pm c tv)) from I.hok f _ e).1
/-- a lambda is made: it is new -/
theorem lam_new {T : List (Addr × Str)} {cc tp : Addr} {ps : Arguments} {bd : Expr} {sc : Scope} {ap : Pos} {E Q : Value → Shared → Prop} (I : Inv X pins σ H s) (TB : TabB X.base X.mg cc tp) (own : X.env.code = .ref cc)
    (mem : (tp, X.env.qual ++ "<lambda>") ∈ T) (uni : ∀ z ∈ T, z.1 = tp → z.2 = X.env.qual ++ "<lambda>") (all : Tabs T H) (nod : defaultsOf ps X.env = ([], [])) (clo : ∀ y ∈ sc.names, y.2 = .free → ∃ d, X.env.cells.lookup y.1 = some d)
    (go : ∀ (f c : Addr) (pm tv : Value) (G : Hp) (t : Shared), Inv X pins σ G t → ExtN H G → Tabs T G →
      t.heap.get? f = some (PySem.W.kla_obj "<lambda>" (X.env.qual ++ "<lambda>") ps bd sc (cloFrom X.env.cells sc.names []) pm c tv) → G f = none → s.heap.objs.size ≤ f → G c = some (CodeO c (X.env.qual ++ "<lambda>")) → Q (.ref f) t) :
    wpAny (model X.prog X.w) X.A (eval (.Lambda ps bd sc ap) X.env) Q E s := by
  obtain ⟨tab, atT, tri, amg⟩ := all _ mem
  apply PySem.W.kla_eval nod
  have blt : s.heap.BuiltinsAt X.mg tp := TB.bm.keeps I.bk
  have lay : s.heap.get? tp = some { cls := .none, data := .fields tab } := I.hok tp _ atT
  rcases found : codeAmong ap tab.toList with _ | cv
  · apply PySem.W.kla_makeFunction (mg := X.mg) (c := cc) (P := tp) (ps := tab) (closure_ok clo) I.ok.glob (I.mod.glob.keeps I.bk) own (TB.code.keeps I.bk) lay tri found TB.gP blt
    intro c tv k tk kept ge lt record written
    obtain ⟨c₂, ob, fl, nt, er, atc, dat, nam⟩ := record
    cases er
    have below : s.heap.objs.size ≤ k.objs.size := Nat.le_of_lt (Nat.lt_of_le_of_lt ge lt)
    have freshC : H c = none := I.hok.fresh ge
    have J := inv_table (t' := tk) (q := X.env.qual ++ "<lambda>") (c := c) (more := #[rawInt ap.line, rawInt ap.col, .ref c])
      (h' := k.push (PySem.W.kla_obj "<lambda>" (X.env.qual ++ "<lambda>") ps bd sc (cloFrom X.env.cells sc.names []) ((X.mg "__name__").getD .none) c tv)) I atT
      (fun b o nb e => Heap.get?_push_of_some _ (kept b o nb e)) (Heap.get?_push_of_some _ written) ge ⟨ob, fl, nt, Heap.get?_push_of_some _ atc, dat, nam⟩
    have grown : ExtN H (upd (upd H tp (.tbl (tab ++ #[rawInt ap.line, rawInt ap.col, .ref c]))) c (CodeO c (X.env.qual ++ "<lambda>"))) := by
      intro b o e nt
      have b1 : b ≠ c := ne_of_none e freshC
      have b2 : b ≠ tp := by
        rintro rfl
        exact nt tab (Option.some.inj (e.symm.trans atT))
      rw [upd_ne b1, upd_ne b2, e]
    have asList : (tab ++ #[rawInt ap.line, rawInt ap.col, .ref c]).toList = tab.toList ++ [rawInt ap.line, rawInt ap.col, .ref c] := by simp
    apply go k.objs.size c ((X.mg "__name__").getD .none) tv _ _ J grown _ (Heap.get?_push_size _ rfl) _ below upd_same
    · intro z hz
      by_cases same : z.1 = tp
      · rw [uni z hz same, same]
        refine ⟨_, by rw [upd_ne (ne_of_none atT freshC), upd_same], by rw [asList]; exact PySem.TriplesOk_snoc _ _ _ _ tri, ?_⟩
        intro at_ v hv
        rw [asList] at hv
        rcases among_app _ tri hv with old | rfl
        · obtain ⟨c0, ev, e0⟩ := amg at_ v old
          exact ⟨c0, ev, grown _ _ e0 codeO_ne⟩
        · exact ⟨c, rfl, upd_same⟩
      · obtain ⟨ts, a1, a2, a3⟩ := all z hz
        refine ⟨ts, ?_, a2, ?_⟩
        · rw [upd_ne (ne_of_none a1 freshC), upd_ne same]
          exact a1
        · intro at_ v hv
          obtain ⟨c0, ev, e0⟩ := a3 at_ v hv
          exact ⟨c0, ev, grown _ _ e0 codeO_ne⟩
    · rw [upd_ne (Nat.ne_of_gt lt), upd_ne (Nat.ne_of_gt (Nat.lt_of_lt_of_le (Heap.lt_size lay) below))]
      exact I.hok.fresh below
  · obtain ⟨c, rfl, known⟩ := amg ap cv found
    apply PySem.W.kla_makeFunctionHit (mg := X.mg) (c := cc) (P := tp) (ps := tab) (closure_ok clo) I.ok.glob (I.mod.glob.keeps I.bk) own (TB.code.keeps I.bk) lay tri found blt
    intro tv k tk kept below
    exact go k.objs.size c ((X.mg "__name__").getD .none) tv H _ (I.kept (t' := tk) fun b o e => Heap.get?_push_of_some _ (kept b o e)) (ExtN.refl H) all (Heap.get?_push_size _ rfl) (I.hok.fresh below) below known
end
section
variable {X : Cx}
/-- a lambda, as a value -/
def tLamV (X : Cx) (T : List (Addr × Str)) (ps : Arguments) (bd : Expr) (sc : Scope) : TE := fun σ H Q => Tabs T H ∧ ∀ (f c : Addr) (G : Hp), ExtN H G → Tabs T G → G f = none → G c = some (CodeO c (X.env.qual ++ "<lambda>")) → Q (.ref f) (upd G f (LamO f (X.env.qual ++ "<lambda>") ps bd sc (cloFrom X.env.cells sc.names []) c))
theorem pe_lamV {T : List (Addr × Str)} {cc tp : Addr} {ps : Arguments} {bd : Expr} {sc : Scope} {ap : Pos} (TB : TabB X.base X.mg cc tp) (own : X.env.code = .ref cc) (mem : (tp, X.env.qual ++ "<lambda>") ∈ T) (uni : ∀ z ∈ T, z.1 = tp → z.2 = X.env.qual ++ "<lambda>") (L : LamS X.env.scope sc) (nod : defaultsOf ps X.env = ([], [])) :
    PE X (.Lambda ps bd sc ap) (tLamV X T ps bd sc) := by
  constructor
  rintro pins s σ H Q I ⟨all, h⟩
  refine lam_new I TB own mem uni all nod (L.has I.ok) ?_
  intro f c pm tv G t J grown tabs there free below code
  have nL : f ≠ X.env.locals := fun z => by
    rw [z] at below
    exact Nat.lt_irrefl _ (Nat.lt_of_lt_of_le I.lt below)
  have fC : ∀ x d, X.env.cells.lookup x = some d → d ≠ f := fun x d e z => by
    obtain ⟨v, q⟩ := I.cell x d e
    rw [← z] at below
    exact Nat.lt_irrefl _ (Nat.lt_of_lt_of_le q.lt below)
  have fP : ∀ p ∈ X.pn ++ pins, p.1 ≠ f := fun p hp z => by
    rw [← z] at below
    exact Nat.lt_irrefl _ (Nat.lt_of_lt_of_le (Heap.lt_size (I.pin p hp).1) below)
  have n0 : X.s_0.heap.get? f = none := by
    cases e : X.s_0.heap.get? f with
    | none => rfl
    | some o =>
      exact absurd (Nat.lt_of_lt_of_le (Heap.lt_size e) (Nat.le_trans I.sz below)) (Nat.lt_irrefl _)
  refine ⟨.ref f, _, Inv.track J n0 free nL fC fP ?_, rfl, h f c G grown tabs free code⟩
  exact ⟨⟨pm, tv, there⟩, ⟨_, there⟩, fun h1 h2 ⟨pm, tv, e⟩ st => ⟨pm, tv, st _ e⟩⟩
end
end Uq
set_option maxHeartbeats 4000000
namespace Uq
open PySem PySem.Spec PyProof.Rows L2 LamX
/-! ### a lambda's body entered, its maker's cells being as they were -/
section
variable {X : Cx} {pins : List (Addr × Obj)} {σ : L2.St} {H G : Hp} {s t : Shared}
/-- the cells of a def's frame, elsewhere and later -/
def SameCells (X : Cx) (s t : Shared) (G : Hp) : Prop := ∀ y c v, X.env.cells.lookup y = some c → s.heap.IsCell c v → t.heap.IsCell c v ∧ G c = none
theorem clo_of {sc : Scope} (L : LamS X.env.scope sc) (ok : X.Ok) {y : Str} {c : Addr} (e : (cloFrom X.env.cells sc.names []).lookup y = some c) : X.env.cells.lookup y = some c := by
  rcases cloFrom_mem (PySem.mem_of_lookup e) with m | ⟨m, rfl⟩
  · exact nomatch m
  · obtain ⟨d, hd⟩ := L.has ok _ m rfl
    have hd' : X.env.cells.lookup y = some d := hd
    rw [hd']
    rfl
theorem clo_at {sc : Scope} {y : Str} (e : sc.names.lookup y = some .free) : ∃ c, (cloFrom X.env.cells sc.names []).lookup y = some c := mem_lookup (cloFrom_has (cells := X.env.cells) (acc := []) (PySem.mem_of_lookup e))
theorem lam_begin {A : Around} {outer : List Env} {E : XK} {sc : Scope} {f c : Addr} {h : Heap} {n : Nat} (I : Inv X pins σ H s) (L : LamS X.env.scope sc) (e0 : Env0 X.prog X.w X.K X.mg X.base A outer t G) (calm : A.handled = none) (cells : SameCells X s t G)
    (ns : h.Ns t.heap.objs.size fun y => ([] : List (Str × Value)).reverse.lookup y) (kept : ∀ b o, t.heap.get? b = some o → h.get? b = some o) : Inv (lamCx X A outer t G E sc f c) [] σ G { t with heap := h, toks := n } := by
  have up : ∀ {d v}, t.heap.IsCell d v → h.IsCell d v := fun {d v} ⟨o, ho, hd⟩ => ⟨o, kept _ _ ho, hd⟩
  have none_ : ∀ b : Addr, b ∉ (lamCx X A outer t G E sc f c).ex := fun b m => nomatch (show b ∈ ([] : List Addr) from m)
  have noOwn : ∀ {y k}, sc.names.lookup y = some k → k = .local ∨ k = .cell → False := fun {y k} e hk => by
    have z := L.own _ (PySem.mem_of_lookup e)
    rcases hk with rfl | rfl
    · exact z.1 rfl
    · exact z.2 rfl
  refine { ok := ?_, os := rfl, bare := e0.bare, base := Un.kept kept, loc := ⟨_, ns, ?_⟩, cell := ?_, free := e0.hok.fresh (Nat.le_refl _), freeC := ?_, pin := ?_, hok := e0.hok.kept kept, len := I.len }
  · refine { mod := e0.mod, kind := L.kind, glob := rfl, blt := rfl, above := Nat.le_refl _, inj := ?_, has := ?_, cab := ?_, hd := fun _ => calm, frames := Around.frames_deeper e0.frames, stk := .inr ⟨rfl, rfl⟩, exf := fun b m => absurd m (none_ b), bs := e0.bs, bsz := e0.bsz, noex := fun b _ _ => none_ b, exfs := fun b m => absurd m (none_ b), funs := e0.funs, frf := e0.frf }
    · intro y z d e1 e2
      exact I.ok.inj y z d (clo_of L I.ok e1) (clo_of L I.ok e2)
    · rintro y (e | e)
      · exact (noOwn e (.inr rfl)).elim
      · exact clo_at e
    · intro y d z
      exact nomatch (show (false : Bool) = true from z)
  · rintro i y v e1 e2 (e | e | e)
    · exact (noOwn e (.inl rfl)).elim
    · exact (noOwn e (.inr rfl)).elim
    · obtain ⟨m, hm, hl⟩ := I.loc
      have outerKind := L.free _ (PySem.mem_of_lookup e) rfl
      obtain ⟨u, r, q⟩ := hl i y v e1 e2 (outerKind.elim (fun k => .inr (.inl k)) (fun k => .inr (.inr k)))
      obtain ⟨d, hd⟩ := clo_at (X := X) e
      refine ⟨u, r, .inr ⟨.inr e, d, hd, ?_⟩⟩
      have inMaker := clo_of L I.ok hd
      rcases q with ⟨k, _⟩ | ⟨_, d2, e3, hc⟩
      · have k : X.env.scope.names.lookup y = some .local := k
        exfalso
        rcases outerKind with k2 | k2
        · have k2 : X.env.scope.names.lookup y = some .cell := k2
          rw [k] at k2
          cases k2
        · have k2 : X.env.scope.names.lookup y = some .free := k2
          rw [k] at k2
          cases k2
      · obtain rfl : d = d2 := Option.some.inj (inMaker.symm.trans e3)
        exact up (cells y d _ inMaker hc).1
  · intro y d e
    obtain ⟨v, hv⟩ := I.cell y d (clo_of L I.ok e)
    exact ⟨v, up (cells y d v (clo_of L I.ok e) hv).1⟩
  · intro y d e
    obtain ⟨v, hv⟩ := I.cell y d (clo_of L I.ok e)
    exact (cells y d v (clo_of L I.ok e) hv).2
  · intro p hp
    exact nomatch (show p ∈ ([] : List (Addr × Obj)) ++ [] from hp)
end
end Uq
set_option maxHeartbeats 4000000
namespace Uq
open PySem PySem.Spec PyProof.Rows L2 LamX
/-! ### a kept lambda called, within a comprehension of its maker -/
/-- the def that calls what it got, what is known of it staying where all that is tracked stays -/
def GivesW (X : Cx) (Ng : List Str) (x : Str) (sg : Scope) (g : Addr) (cdg : Value) (bg : List Stmt) (a : Str) (TT : (XK → Hp → VK → Prop) → Hp → VK → Prop) : Prop :=
  ∀ (f : Addr) (Pd : Hp → Prop) (s : Shared) (H : Hp) (Q : VK) (tl : XK → Hp → VK → Prop), (∀ H H', Same H H' → Pd H → Pd H') →
    (∀ (W : WX) (pn : List (Addr × Obj)) (xe : Value → Shared → Prop) (E : XK) (σ₀ : L2.St) (p1 p2 : Pos), Takes ((cxG X Ng x sg g cdg s H).tr pn xe) W → (∀ cls d H', E cls d H' → W cls d σ₀ H') →
      PE ((cxG X Ng x sg g cdg s H).tr pn xe) (.Call (.Name a p1) [] [] p2) (fun σZ HZ Q => σZ = σ₀ ∧ σZ[0]? = some (some (.ref f)) ∧ Pd HZ ∧ tl E HZ Q)) →
    Pd H → TT tl H Q →
    ∃ t, PSs (cxG X Ng x sg g cdg s H).nox bg t ∧ t { nx := fun _ H' => Q .non H', rt := Q } (L2.start Ng [.ref f]) H
section
variable {X : Cx} {pins : List (Addr × Obj)} {σ : L2.St} {H : Hp} {s : Shared}
/-- what is known of a kept lambda -/
def Kept (X : Cx) (ps : Arguments) (bd : Expr) (sc : Scope) (f c : Addr) (G : Hp) : Prop := G f = some (LamO f (X.env.qual ++ "<lambda>") ps bd sc (cloFrom X.env.cells sc.names []) c) ∧ G c = some (CodeO c (X.env.qual ++ "<lambda>"))
theorem Kept.same {ps : Arguments} {bd : Expr} {sc : Scope} {f c : Addr} {G G' : Hp} (e : Same G G') (k : Kept X ps bd sc f c G) : Kept X ps bd sc f c G' := ⟨e _ _ k.1, e _ _ k.2⟩
theorem Kept.ext {ps : Arguments} {bd : Expr} {sc : Scope} {f c : Addr} {G G' : Hp} (e : ExtN G G') (k : Kept X ps bd sc f c G) : Kept X ps bd sc f c G' := ⟨e _ _ k.1 lamO_ne, e _ _ k.2 codeO_ne⟩
theorem cells_blk {bs : Scope} {ce : Env} {fp : List Addr} {pz : List (Addr × Obj)} {σz : L2.St} {G : Hp} {t : Shared} (I : Inv X pins σ H s) (fo : ∀ b ∈ fp, FpOk X pins H b) (IZ : Inv (X.blk s H bs ce fp) pz σz G t) : SameCells X s t G := by
  intro y c v e ⟨o, ho, hd⟩
  have free := I.freeC y c e
  have off : c ∉ fp := fun m => (fo c m).2.2.2.2.1 y c e rfl
  have un : L2.Un (X.blk s H bs ce fp).fs fp H G s.heap t.heap := IZ.base
  obtain ⟨sl, e2⟩ := un.any ho free off
  exact ⟨⟨_, e2, hd⟩, un.free c o ho free off⟩
theorem cells_on {t u : Shared} {G G' : Hp} {fs : List Addr} (a : SameCells X s t G) (un : L2.Un fs [] G G' t.heap u.heap) : SameCells X s u G' := by
  intro y c v e ic
  obtain ⟨⟨o, ho, hd⟩, free⟩ := a y c v e ic
  obtain ⟨sl, e2⟩ := un.any ho free (fun z => nomatch z)
  exact ⟨⟨_, e2, hd⟩, un.free c o ho free (fun z => nomatch z)⟩
/-- its call, by the def that got it -/
theorem pe_actW {Y : Cx} (hY : Y.prog = X.prog ∧ Y.w = X.w ∧ Y.K = X.K ∧ Y.mg = X.mg ∧ Y.base = X.base) {Ng : List Str} {qg : Str} {sg : Scope} {g f c : Addr} {cdg : Value} {ps : Arguments} {bd : Expr} {sc : Scope} {k i : Nat} {a : Str} {pn : List (Addr × Obj)} {xe : Value → Shared → Prop} {W : WX} {E : XK} {tb : TE} {σ₀ : L2.St} {t : Shared} {G : Hp} {p1 p2 : Pos}
    (I : Inv X pins σ H s) (L : LamS X.env.scope sc) (cells : SameCells X s t G)
    (nob : ∀ (q : Str) (cl : List (Str × Addr)) (pm cv tv : Value), bindArgs (PySem.W.kla_fn "<lambda>" q ps bd sc cl pm cv tv) ⟨[], []⟩ = pure [])
    (tk : Takes ((cxG Y Ng qg sg g cdg t G).tr pn xe) W) (hW : ∀ cls d H', E cls d H' → W cls d σ₀ H') (hr : Room (k + 1) (Y.A.deeper (envOfC qg sg t.heap.objs.size g cdg)))
    (body : ∀ (A : Around) (outer : List Env) (s : Shared) (H : Hp), Room k (A.deeper (lamEnv X sc s.heap.objs.size f c)) → PE (lamCx X A outer s H E sc f c) bd tb)
    (hN : Ng[i]? = some a) (hv : Vis sg a) (hd : (a == ("__debug__" : Str)) = false := by decide) (hcd : (a == ("__classdict__" : Str)) = false := by decide) :
    PE ((cxG Y Ng qg sg g cdg t G).tr pn xe) (.Call (.Name a p1) [] [] p2) (fun σZ HZ Q => σZ = σ₀ ∧ σZ[i]? = some (some (.ref f)) ∧ Kept X ps bd sc f c HZ ∧ tb σ HZ Q) := by
  obtain ⟨prog, w, K, mg, base, A, N, s0, H0, env, outer, stack, ex, fn, calm, pn0, xe0⟩ := Y
  obtain ⟨h1, h2, h3, h4, h5⟩ := hY
  dsimp only at h1 h2 h3 h4 h5
  subst h1 h2 h3 h4 h5
  constructor
  rintro pz sz σz Hz Q IZ ⟨rfl, at_, ⟨kf, kc⟩, ht⟩
  have got := (pe_var (pos := p1) (i := i) hN hv hd hcd).run pz sz σz Hz (fun v H1 => v = .ref f ∧ H1 = Hz) IZ ⟨.ref f, at_, rfl, rfl⟩
  refine wpAny_Call_Name_kw (thn got ?_)
  rintro u s1 ⟨v, H1, I1, r1, rfl, rfl⟩
  obtain rfl : u = Value.ref f := r1
  obtain ⟨pm, tv, there⟩ := lamO_at I1 kf
  refine PySem.W.callWith_F0 ⟨_, _, _, _, there⟩ ?_
  have known := I1.hok c _ kc
  obtain ⟨⟨oc, vs, nt, c1, c2, c3⟩, _, _⟩ := known
  have cells1 : SameCells X s s1 H1 := cells_on cells (fs := frs stack) I1.base
  have ran : codeAny (model X.prog X.w) (A.deeper (envOfC qg sg t.heap.objs.size g cdg)) (.call (.ref f) ⟨[], []⟩) (CR (L2.CX X.prog X.w) (envOfC qg sg t.heap.objs.size g cdg :: stack) X.prog X.w H1 s1 Q E) s1 := by
    refine PySem.W.kla_callFunE hr.depth there rfl L.co L.gen rfl ⟨c, oc, vs, nt, rfl, c1, c2, c3⟩ ?_
    rw [nob]
    refine wpAny_pure (wpAny_newFunctionEnv (fun y hy => (L.own y hy).2) (fun y hy => nomatch hy) ?_ L.kind)
    intro h ns grown
    refine ⟨I1.nolimit.fresh _ grown, ?_⟩
    show codeAny _ _ (.expr bd (lamEnv X sc s1.heap.objs.size f c)) _ _
    have stays : ∀ b o, s1.heap.get? b = some o → h.get? b = some o := fun b o e => grown.extBut b o (Nat.ne_of_lt (Heap.lt_size e)) (Heap.get?_push_of_some _ e)
    have J : Inv (lamCx X (A.deeper (envOfC qg sg t.heap.objs.size g cdg)) (envOfC qg sg t.heap.objs.size g cdg :: stack) s1 H1 E sc f c) [] σ H1 { s1 with heap := h, toks := s1.toks + ([] : List (Str × Value)).length } := lam_begin I L I1.env0 hr.hd cells1 ns stays
    have val := (body _ _ s1 H1 (hr.deeper _)).run [] _ _ H1 Q J ht
    refine PySem.W.kla_codeExpr (wpAny_mono val ?_ fun e s' hq => hq)
    rintro v s' ⟨w', H', J', rv, q⟩
    exact ⟨w', H', J'.os, J'.bare, J'.base, J'.hok, rv, q⟩
  refine wpAny_call (codeAny_mono ran ?_)
  rintro (e | (_ | _ | _ | u)) s' hq
  · exact tk e s' (XE.of_call I1 (fun cls d H' h => hW cls d H' h) hq)
  all_goals first
    | exact False.elim hq
    | exact I1.after hq
end
/-- by one reading or by another -/
theorem pe_or2 {X : Cx} {e : Expr} {t1 t2 : TE} (h1 : PE X e t1) (h2 : PE X e t2) : PE X e (fun σ H Q => t1 σ H Q ∨ t2 σ H Q) := by
  constructor
  rintro pins s σ H Q I (h | h)
  · exact h1.run pins s σ H Q I h
  · exact h2.run pins s σ H Q I h
end Uq
set_option maxHeartbeats 4000000
namespace Uq
open PySem PySem.Spec PyProof.Rows L2 LamX
/-! ### a list comprehension, its element told with what its maker knows where it begins -/
section
variable {X : Cx}
theorem lc_known {pins : List (Addr × Obj)} {s : Shared} {σ : L2.St} {H : Hp} {Q : VK} {elt tg iter : Expr} {ifs : List Expr} {scope : Scope} {own : List (Str × Nat)} {pos pos' : Pos} {wi : TI} {g : TG} {tt : TT} {te : TE} {use : Option (Value → Sem Unit)} {Qf : Value → Shared → Prop}
    (calm : X.calm = true) (I : Inv X pins σ H s) (src : PI X tg iter wi) (ok : BlkOk X.N X.env.scope scope own) (nd : X.N.Nodup)
    (tgt : ∀ (s : Shared) (H : Hp) (C : Addr) (cl : List (Str × Addr)) (fp : List Addr), PG (X.blk s H scope (compEnvC scope cl C X.env) fp) tg g)
    (tst : ∀ (s : Shared) (H : Hp) (C : Addr) (cl : List (Str × Addr)) (fp : List Addr), PTs (X.blk s H scope (compEnvC scope cl C X.env) fp) ifs tt)
    (el : ∀ (s : Shared) (H : Hp) (C : Addr) (cl : List (Str × Addr)) (fp : List Addr), Inv X pins σ H s → (∀ b ∈ fp, FpOk X pins H b) → PE (X.blk s H scope (compEnvC scope cl C X.env) fp) elt te)
    (plain : ∀ x, foldedSetIterable iter X.env x = pure x) (h : tLc wi g tt te (own.map (·.2)) σ H Q)
    (out : ∀ D C u m G, Inv X pins σ G u → Q (.ref D) G → u.heap.Ns C m → FpOk X pins G C → compPost (model X.prog X.w) X.A X.xe use Qf (.ref D) C (.ok .next) u) :
    wpAny (model X.prog X.w) X.A (comprehension (.ListComp elt [⟨tg, iter, ifs, 0⟩] scope pos) scope X.env pos' (newList []) false (eval iter X.env) use) Qf X.xe s := by
  have clo : ∀ y ∈ scope.names, y.2 = .free → ∃ c, X.env.cells.lookup y.1 = some c := by
    intro y my e
    exact I.ok.has _ (ok.free y my e)
  apply wpAny_comprehension_free (use := use) rfl plain (closure_ok clo) ok.kind
  · intro y my e
    rw [ok.uniq y my, e]
  apply thn (src.run pins s σ H _ I h)
  intro v1 s1 r1
  apply thn r1
  rintro v2 u ⟨it, fp, tn, J, G, rfl, IG, T, st, fo, q⟩
  apply wpAny_newObj_type
  rotate_left
  · show 0 ≤ sizeLine
    decide
  apply newEnv_comp
  obtain ⟨D, eD⟩ : ∃ D, u.heap.objs.size = D := ⟨_, rfl⟩
  rw [eD]
  have newD : G D = none := IG.hok.fresh (Nat.le_of_eq eD)
  obtain ⟨W, ⟨m0, w0⟩, turn⟩ := q D newD
  obtain ⟨u3, e3⟩ : ∃ u3 : Shared, ({ u with heap := u.heap.push { cls := .type "list", data := .seq ([] : List Value).toArray } } : Shared) = u3 := ⟨_, rfl⟩
  rw [e3]
  have h3 : u3.heap = u.heap.push { cls := .type "list", data := .seq ([] : List Value).toArray } := by rw [← e3]
  have J3 : Inv X pins σ (upd G D (.lst [])) u3 := by
    rw [← e3]
    apply IG.laid (t' := u.toks) (fun b o e => Heap.get?_push_of_some _ e) (Nat.le_of_eq eD)
    refine ⟨Nat.zero_le _, [], 0, .nil, ?_⟩
    rw [← eD]
    exact Heap.get?_push_size _ rfl
  have fo3 : ∀ b ∈ fp, FpOk X pins (upd G D (.lst [])) b ∧ b < u3.heap.objs.size := by
    intro b mb
    obtain ⟨o, eo, _⟩ := T.obj _ _ st b mb
    have lt := Heap.lt_size eo
    have ne : b ≠ D := by
      rw [← eD]
      exact Nat.ne_of_lt lt
    refine ⟨⟨?_, (fo b mb).2⟩, ?_⟩
    · rw [upd_ne ne]
      exact (fo b mb).1
    · rw [h3, Heap.size_push]
      exact Nat.lt_succ_of_lt lt
  have st3 : tn 0 u3.heap := by
    apply T.keep _ _ _ st
    intro b _ o e
    rw [h3]
    exact Heap.get?_push_of_some _ e
  have B0 := block_start J3 ok nd fo3
  have gT := tgt u3 (upd G D (.lst [])) u3.heap.objs.size (cellsFrom (u3.heap.objs.size + 1) scope.names (cloFrom X.env.cells scope.names [])) fp
  have tT := tst u3 (upd G D (.lst [])) u3.heap.objs.size (cellsFrom (u3.heap.objs.size + 1) scope.names (cloFrom X.env.cells scope.names [])) fp
  have eT := el u3 (upd G D (.lst [])) u3.heap.objs.size (cellsFrom (u3.heap.objs.size + 1) scope.names (cloFrom X.env.cells scope.names [])) fp J3 (fun b mb => (fo3 b mb).1)
  have off : ∀ b ∈ fp, (upd G D (.lst [])) b = none := fun b mb => (fo3 b mb).1.1
  obtain ⟨ce, eC⟩ : ∃ ce, compEnvC scope (cellsFrom (u3.heap.objs.size + 1) scope.names (cloFrom X.env.cells scope.names [])) u3.heap.objs.size X.env = ce := ⟨_, rfl⟩
  have cL : ce.locals = u3.heap.objs.size := by
    rw [← eC]
    rfl
  show codeAny _ _ (.compStart (.ListComp elt [⟨tg, iter, ifs, 0⟩] scope pos) 0 (.ref it) (.ref D) (compEnvC scope (cellsFrom (u3.heap.objs.size + 1) scope.names (cloFrom X.env.cells scope.names [])) u3.heap.objs.size X.env)) (compPost (model X.prog X.w) X.A X.xe use Qf (.ref D) u3.heap.objs.size) { u3 with heap := pushCells (u3.heap.push { cls := .type "dict", data := .dict #[] }) scope.names }
  rw [eC] at B0 gT tT eT ⊢
  generalize upd G D (.lst []) = G3 at J3 B0 gT tT eT w0 off fo3
  obtain ⟨u4, e4⟩ : ∃ u4 : Shared, ({ u3 with heap := pushCells (u3.heap.push { cls := .type "dict", data := .dict #[] }) scope.names } : Shared) = u4 := ⟨_, rfl⟩
  rw [e4] at B0 ⊢
  have st4 : tn 0 u4.heap := by
    apply T.keep _ _ _ st3
    intro b _ o e
    rw [← e4]
    exact pushCells_keeps _ _ _ _ (Heap.get?_push_of_some _ e)
  have still : ∀ {τ : L2.St} {F : Hp} {t : Shared}, Inv (X.blk u3 G3 scope ce fp) [] τ F t → (∀ b ∈ fp, F b = none) → ∀ b ∈ fp, FpOk (X.blk u3 G3 scope ce fp) [] F b := by
    intro τ F t B no b mb
    refine ⟨no b mb, (B.ok.exf b mb).1, B.ok.exfs b mb, .inl mb, (B.ok.exf b mb).2, ?_⟩
    intro p hp
    exact nomatch (show p ∈ ([] : List (Addr × Obj)) ++ [] from hp)
  apply codeAny_compStart_list (h := T.self X.A 0 _ _ _ st4 ?loop) (h0 := ?loop)
  refine compLoop_any (fun n t => ∃ i F, Inv (X.blk u3 G3 scope ce fp) [] (wipe σ (own.map (·.2))) F t ∧ tn i t.heap ∧ (∀ b ∈ fp, F b = none) ∧ W i n F) ?_ m0 ⟨0, G3, B0, st4, off, w0⟩
  rintro n t5 ⟨i, F5, B5, st5, no5, w5⟩
  rcases turn i n F5 w5 with ⟨stop, qq⟩ | ⟨go, Nx, less, step⟩
  · apply thnF (T.done (X.blk u3 G3 scope ce fp) rfl rfl rfl calm i [] t5 _ F5 (fun _ _ => False) B5 (still B5 no5) st5 stop)
    rintro r t6 ⟨rfl, B6⟩
    have back : Inv X pins σ F5 t6 := J3.call' (ch := fp) B6.os B6.base B6.hok B6.bare fun b mb =>
      let z := (fo3 b mb).1
      ⟨z.2.2.2.1, z.2.1, z.2.2.2.2.1, z.2.2.2.2.2⟩
    have atL : F5 ce.locals = none := B6.free
    rw [cL] at atL
    obtain ⟨m, ns, _⟩ := B6.loc
    have ns : t6.heap.Ns ce.locals m := ns
    rw [cL] at ns
    exact out D u3.heap.objs.size t6 m F5 back qq ns (J3.fpOk (Nat.le_refl _) atL)
  · apply thnF (T.item (X.blk u3 G3 scope ce fp) rfl rfl rfl calm i [] t5 _ F5 (fun _ _ => False) B5 (still B5 no5) st5 go)
    rintro r t6 ⟨w, rfl, r6⟩
    apply thnF r6
    rintro _ t7 ⟨x, F7, B7, rel, yl, st7, no7⟩
    have B7p := B7.pinned (still B7 no7) (T.obj _ _ st7)
    apply thnF (gT.run _ t7 _ F7 x w _ B7p rel (step x F7 yl))
    rintro _ t8 ⟨σ8, F8, B8, wp8, q8⟩
    apply thnF (tT.run _ t8 σ8 F8 _ B8 q8)
    rintro b t9 ⟨F9, B9, q9⟩
    have again : ∀ {t : Shared} {F : Hp}, Inv (X.blk u3 G3 scope ce fp) ([] ++ pinsAt fp t7.heap) σ8 F t → Nx F → ∃ m, m < n ∧ ∃ i F, Inv (X.blk u3 G3 scope ce fp) [] (wipe σ (own.map (·.2))) F t ∧ tn i t.heap ∧ (∀ b ∈ fp, F b = none) ∧ W i m F := by
      intro t F B nx
      obtain ⟨m', lt, w'⟩ := less F nx
      have pin : ∀ b ∈ fp, ∀ o, t7.heap.get? b = some o → t.heap.get? b = some o ∧ F b = none := by
        intro b mb o e
        obtain ⟨z1, z2, _⟩ := B.pin (b, o) (List.mem_append_right _ (List.mem_append_right _ (mem_pinsAt mb e)))
        exact ⟨z1, z2⟩
      refine ⟨m', lt, i + 1, F, (B.unpinned (pins := [])).weak (by rw [← wp8, wipe_length]) ?_, ?_, ?_, w'⟩
      · intro j v e
        rw [← wp8] at e
        exact (wipe_some e).1
      · exact T.keep _ _ _ st7 fun b mb o e => (pin b mb o e).1
      · intro b mb
        obtain ⟨o, e, _⟩ := T.obj _ _ st7 b mb
        exact (pin b mb o e).2
    rcases b with _ | _
    · rw [if_neg Bool.false_ne_true] at q9 ⊢
      exact again B9 q9
    · rw [if_pos rfl] at q9 ⊢
      apply thnF (eT.run _ t9 σ8 F9 _ B9 q9)
      rintro z t10 ⟨y, F10, B10, rel10, acc, atD, room, nx⟩
      exact app_ok (X := X.blk u3 G3 scope ce fp) B10 atD room rel10 fun t11 B11 => again B11 nx
theorem pe_lcK {elt tg iter : Expr} {ifs : List Expr} {scope : Scope} {own : List (Str × Nat)} {pos : Pos} {wi : TI} {g : TG} {tt : TT} {te : L2.St → TE} (calm : X.calm = true) (nd : X.N.Nodup) (src : PI X tg iter wi) (ok : BlkOk X.N X.env.scope scope own)
    (tgt : ∀ (s : Shared) (H : Hp) (C : Addr) (cl : List (Str × Addr)) (fp : List Addr), PG (X.blk s H scope (compEnvC scope cl C X.env) fp) tg g)
    (tst : ∀ (s : Shared) (H : Hp) (C : Addr) (cl : List (Str × Addr)) (fp : List Addr), PTs (X.blk s H scope (compEnvC scope cl C X.env) fp) ifs tt)
    (el : ∀ (pins : List (Addr × Obj)) (σ : L2.St) (s : Shared) (H : Hp) (C : Addr) (cl : List (Str × Addr)) (fp : List Addr), Inv X pins σ H s → (∀ b ∈ fp, FpOk X pins H b) → PE (X.blk s H scope (compEnvC scope cl C X.env) fp) elt (te σ)) (plain : ∀ x, foldedSetIterable iter X.env x = pure x := by intro _; rfl) :
    PE X (.ListComp elt [⟨tg, iter, ifs, 0⟩] scope pos) (fun σ H Q => tLc wi g tt (te σ) (own.map (·.2)) σ H Q) := by
  constructor
  intro pins s σ H Q I h
  rw [eval_ListComp]
  apply lc_known calm I src ok nd tgt tst (fun s H C cl fp => el pins σ s H C cl fp) plain h
  intro D C u m G J q ns fpk
  refine ⟨m, ns, fun h2 sb => ?_⟩
  obtain ⟨a0, a1, a2, a3, a4, a5⟩ := fpk
  exact ⟨.ref D, G, J.turned (t' := u.toks) (fun b o nb e => (sb.2 b nb).trans e) a0 a1 a3 a4 a5, rfl, q⟩
end
end Uq
set_option maxHeartbeats 4000000
namespace Uq
open PySem PySem.Spec PyProof.Rows L2 LamX
/-! ### a kept lambda handed on by a def to another, within a comprehension of its maker -/
section
variable {X : Cx} {pins : List (Addr × Obj)} {σ : L2.St} {H : Hp} {s : Shared}
theorem pe_toldY {Y : Cx} (hY : Y.prog = X.prog ∧ Y.w = X.w ∧ Y.K = X.K ∧ Y.mg = X.mg ∧ Y.base = X.base) {t0 : Shared} {G0 : Hp} {Ny : List Str} {qy : Str} {sy : Scope} {gy : Addr} {cdy : Value} {Ng : List Str} {x a an_ : Str} {sg : Scope} {f c g : Addr} {cdv dV kV doc pmg ct oc : Value} {an od : Option Addr} {osl : Array (Option Value)} {pg : Arguments} {bg : List Stmt} {ps : Arguments} {bd : Expr} {sc : Scope} {k i : Nat} {TT : (XK → Hp → VK → Prop) → Hp → VK → Prop} {t : XK → TE} {p1 p2 p3 : Pos}
    (I : Inv X pins σ H s) (cells0 : SameCells X s t0 G0) (L : LamS X.env.scope sc)
    (nob : ∀ (q : Str) (cl : List (Str × Addr)) (pm cv tv : Value), bindArgs (PySem.W.kla_fn "<lambda>" q ps bd sc cl pm cv tv) ⟨[], []⟩ = pure [])
    (hm : X.mg x = some (.ref g)) (hk : PySem.W.keepIn X.K (.ref g) = true)
    (lk : X.K.lookup g = some ⟨oc, od, .func (PySem.W.fnOf x x pg bg sg dV kV doc pmg an cdv ct), osl⟩) (hcg : PySem.W.codeIn X.K cdv x = true) (hb : L2.Binds X.K (PySem.W.fnOf x x pg bg sg dV kV doc pmg an cdv ct) [a] []) (Sg : FnScope Ng [a] sg) (hNg : Ng[0]? = some a) (hva : Vis sg a)
    (hG : GivesW (cxY Y Ny qy sy gy cdy t0 G0) Ng x sg g cdv bg a TT)
    (hr : Room (k + 2) (cxY Y Ny qy sy gy cdy t0 G0).A) (hg : Gl (cxY Y Ny qy sy gy cdy t0 G0) x)
    (body : ∀ (A : Around) (outer : List Env) (s : Shared) (H : Hp) (E : XK), Room k (A.deeper (lamEnv X sc s.heap.objs.size f c)) → PE (lamCx X A outer s H E sc f c) bd (t E))
    (hNy : Ny[i]? = some an_) (hvy : Vis sy an_)
    (hdb : (x == ("__debug__" : Str)) = false := by decide) (hd : (a == ("__debug__" : Str)) = false := by decide) (hcd : (a == ("__classdict__" : Str)) = false := by decide) (hd2 : (an_ == ("__debug__" : Str)) = false := by decide) (hcd2 : (an_ == ("__classdict__" : Str)) = false := by decide) :
    PE (cxY Y Ny qy sy gy cdy t0 G0) (.Call (.Name x p1) [.Name an_ p2] [] p3) (fun σZ HZ Q => σZ[i]? = some (some (.ref f)) ∧ Kept X ps bd sc f c HZ ∧ TT (fun E H' Q' => t E σ H' Q') HZ Q) := by
  obtain ⟨prog, w, K, mg, base, A, N, s0, H0, env, outer, stack, ex, fn, calm, pn0, xe0⟩ := Y
  obtain ⟨h1, h2, h3, h4, h5⟩ := hY
  dsimp only at h1 h2 h3 h4 h5
  subst h1 h2 h3 h4 h5
  constructor
  rintro pz sz σz Hz Q IZ ⟨at_, kp, ht⟩
  refine wpAny_Call_Name_kw (ld_glob IZ hg hm ?_ hdb)
  refine PySem.W.callWith_K (h₀ := X.base) IZ.ok.mod.kin hk ?_ rfl rfl
  have got := (pe_var (pos := p2) (i := i) hNy hvy hd2 hcd2).run pz sz σz Hz (fun v H1 => v = .ref f ∧ H1 = Hz) IZ ⟨.ref f, at_, rfl, rfl⟩
  refine Calls.spliced_cons (thn got ?_)
  rintro u s1 ⟨v, H1, I1, r1, rfl, rfl⟩
  obtain rfl : u = Value.ref f := r1
  refine Calls.spliced_nil ⟨I1.kIn, ?_⟩
  have ran : codeAny (model X.prog X.w) (A.deeper (envOfC qy sy t0.heap.objs.size gy cdy)) (.call (.ref g) ⟨[.ref f], []⟩) (CR C8.CX0 (envOfC qy sy t0.heap.objs.size gy cdy :: stack) X.prog X.w H1 s1 Q C8.E0) s1 := by
    refine run_ofS (N := Ng) (ps := [a]) (us := [.ref f]) (vs := [.ref f]) lk hcg Sg hr I1.env0 (hb s1 [.ref f] I1.kIn rfl) (.cons rfl .nil) rfl ?_
    intro hr'
    have cells1 : SameCells X s s1 H1 := cells_on cells0 (fs := frs stack) I1.base
    obtain ⟨t', ht', hq'⟩ := hG f (Kept X ps bd sc f c) s1 H1 Q (fun E H' Q' => t E σ H' Q') (fun _ _ e kk => kk.same e) (fun W pn xe E σ₀ p1 p2 tk hW => pe_actW (X := X) (pins := pins) (σ := σ) (H := H) (s := s) (Y := (cxOf C8.CX0 X.prog X.w X.K X.mg X.base Ny qy sy gy cdy A stack t0 G0 C8.E0).nox) (Ng := Ng) (qg := x) (sg := sg) (g := g) (f := f) (c := c) (cdg := cdv) (ps := ps) (bd := bd) (sc := sc) (k := k) (a := a) (t := s1) (G := H1) (pn := pn) (xe := xe) (W := W) (E := E) ⟨rfl, rfl, rfl, rfl, rfl⟩ (i := 0) (σ₀ := σ₀) (tb := t E) (p1 := p1) (p2 := p2) I L cells1 nob tk hW hr' (fun A outer s H hr2 => body A outer s H E hr2) hNg hva hd hcd) kp ht
    exact ⟨t', ht'.nox, hq'⟩
  refine wpAny_call (codeAny_mono ran ?_)
  rintro (e | (_ | _ | _ | u)) s2 hq
  all_goals first
    | exact False.elim hq
    | exact I1.after hq
/-- the def that hands on a kept lambda -/
def GivesP (m : Nat) (X : Cx) (Ny : List Str) (qy : Str) (sy : Scope) (gy : Addr) (cdy : Value) (bdy : List Stmt) (x an_ : Str) (TT : (XK → Hp → VK → Prop) → Hp → VK → Prop) (TD : (XK → Hp → VK → Prop) → List V → Hp → VK → Prop) : Prop :=
  ∀ (f : Addr) (Pd : Hp → Prop) (s : Shared) (H : Hp) (Q : VK) (tl : XK → Hp → VK → Prop) (vs : List V), (∀ H H', Same H H' → Pd H → Pd H') →
    (∀ (p1 p2 p3 : Pos), PE (cxY X Ny qy sy gy cdy s H) (.Call (.Name x p1) [.Name an_ p2] [] p3) (fun σZ HZ Q => σZ[0]? = some (some (.ref f)) ∧ Pd HZ ∧ TT tl HZ Q)) →
    Pd H → TD tl vs H Q → Room m (cxY X Ny qy sy gy cdy s H).A →
    ∃ t, PSs (cxY X Ny qy sy gy cdy s H) bdy t ∧ t { nx := fun _ H' => Q .non H', rt := Q } (L2.start Ny (.ref f :: vs)) H
theorem pe_keptB2 {bs : Scope} {ce : Env} {fp : List Addr} {Ny Ng : List Str} {y x a an1 an_ : Str} {sg sy : Scope} {g gy : Addr} {dV kV doc pmg cdv ct oc dVy kVy docy pmy cdy cty ocy : Value} {an od any ody : Option Addr} {osl osly : Array (Option Value)} {pg pgy : Arguments} {bg bgy : List Stmt} {psy : List Str} {ps : Arguments} {bd : Expr} {sc : Scope} {k j : Nat} {TT : (XK → Hp → VK → Prop) → Hp → VK → Prop} {TD : (XK → Hp → VK → Prop) → List V → Hp → VK → Prop} {ta : TA} {t : XK → TE} {es : List Expr} {p1 p2 p3 : Pos}
    (I : Inv X pins σ H s) (fo : ∀ b ∈ fp, FpOk X pins H b) (L : LamS X.env.scope sc)
    (nob : ∀ (q : Str) (cl : List (Str × Addr)) (pm cv tv : Value), bindArgs (PySem.W.kla_fn "<lambda>" q ps bd sc cl pm cv tv) ⟨[], []⟩ = pure [])
    (hgy : Gl (X.blk s H bs ce fp) y) (hmy : X.mg y = some (.ref gy)) (hky : PySem.W.keepIn X.K (.ref gy) = true)
    (lky : X.K.lookup gy = some ⟨ocy, ody, .func (PySem.W.fnOf y y pgy bgy sy dVy kVy docy pmy any cdy cty), osly⟩) (hcy : PySem.W.codeIn X.K cdy y = true) (hby : L2.Binds X.K (PySem.W.fnOf y y pgy bgy sy dVy kVy docy pmy any cdy cty) (an_ :: psy) []) (Sy : FnScope Ny (an_ :: psy) sy) (hNy : Ny[0]? = some an_) (hvy : Vis sy an_)
    (hm : X.mg x = some (.ref g)) (hk : PySem.W.keepIn X.K (.ref g) = true)
    (lk : X.K.lookup g = some ⟨oc, od, .func (PySem.W.fnOf x x pg bg sg dV kV doc pmg an cdv ct), osl⟩) (hcg : PySem.W.codeIn X.K cdv x = true) (hb : L2.Binds X.K (PySem.W.fnOf x x pg bg sg dV kV doc pmg an cdv ct) [a] []) (Sg : FnScope Ng [a] sg) (hNg : Ng[0]? = some a) (hva : Vis sg a)
    (hG : ∀ (t0 : Shared) (G0 : Hp), GivesW (cxY (X.blk s H bs ce fp) Ny y sy gy cdy t0 G0) Ng x sg g cdv bg a TT) (hgx : ∀ (t0 : Shared) (G0 : Hp), Gl (cxY (X.blk s H bs ce fp) Ny y sy gy cdy t0 G0) x)
    (hD : GivesP (k + 2) (X.blk s H bs ce fp) Ny y sy gy cdy bgy x an_ TT TD)
    (hr : Room (k + 3) X.A)
    (body : ∀ (A : Around) (outer : List Env) (s : Shared) (H : Hp) (E : XK) (f c : Addr), Room k (A.deeper (lamEnv X sc s.heap.objs.size f c)) → PE (lamCx X A outer s H E sc f c) bd (t E))
    (hN1 : X.N[j]? = some an1) (hv1 : Vis ce.scope an1) (ha : PA (X.blk s H bs ce fp) es ta)
    (hst1 : starEach (.Name an1 p2 :: es) ce = (false, eval (.Name an1 p2) ce) :: starEach es ce := by rfl) (hst2 : ((backTo p3 (starEach es ce)).any fun x => x.fst) = false := by rfl)
    (hdy : (y == ("__debug__" : Str)) = false := by decide) (hdb : (x == ("__debug__" : Str)) = false := by decide) (hd : (a == ("__debug__" : Str)) = false := by decide) (hcd : (a == ("__classdict__" : Str)) = false := by decide) (hd1 : (an1 == ("__debug__" : Str)) = false := by decide) (hcd1 : (an1 == ("__classdict__" : Str)) = false := by decide) (hd2 : (an_ == ("__debug__" : Str)) = false := by decide) (hcd2 : (an_ == ("__classdict__" : Str)) = false := by decide) :
    PE (X.blk s H bs ce fp) (.Call (.Name y p1) (.Name an1 p2 :: es) [] p3) (fun σZ HZ Q => ∃ f c, σZ[j]? = some (some (.ref f)) ∧ ta σZ HZ fun vs HA => vs.length = psy.length ∧ Kept X ps bd sc f c HA ∧ TD (fun E H' Q' => t E σ H' Q') vs HA Q) := by
  constructor
  rintro pz sz σz Hz Q IZ ⟨f, c, at_, hta⟩
  refine wpAny_Call_Name_kw (ld_glob IZ hgy hmy ?_ hdy)
  refine PySem.W.callWith_K (h₀ := X.base) IZ.ok.mod.kin hky ?_ hst1 hst2
  show wpAny _ _ (spliced (backTo p3 (starEach (.Name an1 p2 :: es) ce))) _ _ sz
  rw [hst1]
  show wpAny _ _ (spliced ((false, eval (.Name an1 p2) ce) :: backTo p3 (starEach es ce))) _ _ sz
  have got := (pe_var (X := X.blk s H bs ce fp) (pos := p2) (i := j) hN1 hv1 hd1 hcd1).run pz sz σz Hz (fun v H1 => v = .ref f ∧ H1 = Hz) IZ ⟨.ref f, at_, rfl, rfl⟩
  refine Calls.spliced_cons (thn got ?_)
  rintro u s1 ⟨v, H1, I1, r1, rfl, rfl⟩
  obtain rfl : u = Value.ref f := r1
  refine wpAny_mono (ha.run p3 _ s1 σz H1 _ I1 hta) ?_ (fun _ _ z => z)
  rintro us s2 ⟨vs, H2, I2, rv, ln, kp, hTD⟩
  refine ⟨I2.kIn, ?_⟩
  have cells2 : SameCells X s s2 H2 := cells_blk (X := X) I fo I2
  have ran : codeAny (model X.prog X.w) X.A (.call (.ref gy) ⟨.ref f :: us, []⟩) (CR C8.CX0 X.stack X.prog X.w H2 s2 Q C8.E0) s2 := by
    have lu : (Value.ref f :: us).length = (an_ :: psy).length := by
      rw [List.length_cons, List.length_cons, ← rv.length, ln]
    have bd2 := hby s2 (.ref f :: us) I2.kIn (by rw [List.append_nil]; exact lu)
    rw [List.append_nil] at bd2
    refine run_ofS (N := Ny) (ps := an_ :: psy) (us := .ref f :: us) (vs := .ref f :: vs) lky hcy Sy hr I2.env0 bd2 (.cons rfl rv) (by rw [List.length_cons, List.length_cons, ln]) ?_
    intro hr'
    obtain ⟨t', ht', hq'⟩ := hD f (Kept X ps bd sc f c) s2 H2 Q (fun E H' Q' => t E σ H' Q') vs (fun _ _ e kk => kk.same e) (fun p1 p2 p3 => pe_toldY (X := X) (Y := X.blk s H bs ce fp) ⟨rfl, rfl, rfl, rfl, rfl⟩ (i := 0) (TT := TT) (t := t) I cells2 L nob hm hk lk hcg hb Sg hNg hva (hG s2 H2) hr' (hgx s2 H2) (fun A outer s H E hr2 => body A outer s H E f c hr2) hNy hvy hdb hd hcd hd2 hcd2) kp hTD hr'
    exact ⟨t', ht'.nox, hq'⟩
  refine wpAny_call (codeAny_mono ran ?_)
  rintro (e | (_ | _ | _ | u)) s3 hq
  all_goals first
    | exact False.elim hq
    | exact I2.after hq
end
end Uq
namespace Uq
open PySem PySem.Spec PyProof.Rows L2 LamX TL
/-! ### names that are none -/
abbrev lamN : Str := "_law_names_right.<locals>.<lambda>"
abbrev lamJ : Str := "_law_is_judged.<locals>.<lambda>"
abbrev TLs (Pn Pj : Addr) : List (Addr × Str) := [(Pn, lamN), (Pj, lamJ)]
theorem uniN {Pn Pj : Addr} (ne : Pn ≠ Pj) : ∀ z ∈ TLs Pn Pj, z.1 = Pn → z.2 = lamN := fun z m e => by
  simp only [TLs, List.mem_cons, List.not_mem_nil, or_false] at m
  rcases m with rfl | rfl
  · rfl
  · exact absurd e.symm ne
theorem uniJ {Pn Pj : Addr} (ne : Pn ≠ Pj) : ∀ z ∈ TLs Pn Pj, z.1 = Pj → z.2 = lamJ := fun z m e => by
  simp only [TLs, List.mem_cons, List.not_mem_nil, or_false] at m
  rcases m with rfl | rfl
  · exact absurd e ne
  · rfl
def lam1 : Arguments × Expr × Scope := match (defBody s_law_names_right).getD 3 (Stmt.Pass ⟨0, 0, 0, 0⟩) with
  | Stmt.Assign _ (Expr.List [Expr.Lambda p b s _] _) _ => (p, b, s)
  | _ => (defArgs s_law_names_right, .Name "x" ⟨0, 0, 0, 0⟩, defScope s_law_names_right)
def lam2 : Arguments × Expr × Scope := match (defBody s_law_names_right).getD 4 (Stmt.Pass ⟨0, 0, 0, 0⟩) with
  | Stmt.Expr (Expr.Call _ [Expr.Lambda p b s _] _ _) _ => (p, b, s)
  | _ => (defArgs s_law_names_right, .Name "x" ⟨0, 0, 0, 0⟩, defScope s_law_names_right)
def lam3 : Arguments × Expr × Scope := match (defBody s_law_names_right).getD 5 (Stmt.Pass ⟨0, 0, 0, 0⟩) with
  | Stmt.Expr (Expr.Call _ [Expr.Lambda p b s _] _ _) _ => (p, b, s)
  | _ => (defArgs s_law_names_right, .Name "x" ⟨0, 0, 0, 0⟩, defScope s_law_names_right)
def lam4 : Arguments × Expr × Scope := match (defBody s_law_names_right).getD 6 (Stmt.Pass ⟨0, 0, 0, 0⟩) with
  | Stmt.Expr (Expr.Call _ [Expr.Lambda p b s _] _ _) _ => (p, b, s)
  | _ => (defArgs s_law_names_right, .Name "x" ⟨0, 0, 0, 0⟩, defScope s_law_names_right)
theorem boot_repr : bootBuiltins "repr" = some (.builtin "repr") := by decide +kernel
theorem pe_kvK {X : Cx} {K : PySem.W.Frag} (hK : X.K = K) {e : Expr} {te : TE} {pos : Pos} (he : PE X e te) (hb : attributeBase e "value" X.env (eval e X.env) = eval e X.env := by rfl) : PE X (.Attribute e "value" pos) (tKv K te) := by
  subst hK
  exact pe_kv he hb
theorem codeO_nl {c : Addr} {q : Str} (xs : List V) : CodeO c q ≠ .lst xs := fun z => by
  unfold CodeO at z
  cases z
theorem ExcK.keep {H H' : Hp} {a C : Addr} {v : V} (s : Same H H') (h : ExcK H a C v) : ExcK H' a C v := by
  obtain ⟨dd, h1, h2⟩ := h
  exact ⟨dd, s _ _ h1, s _ _ h2⟩
theorem ExcK.lst {H : Hp} {a C D : Addr} {v : V} {xs : List V} {o : HO} (hD : H D = some (.lst xs)) (h : ExcK H a C v) : ExcK (upd H D o) a C v := by
  obtain ⟨dd, h1, h2⟩ := h
  refine ⟨dd, (upd_ne (fun e => ?_)).trans h1, (upd_ne (fun e => ?_)).trans h2⟩
  · rw [e, hD] at h1
    have := Option.some.inj h1
    unfold exk at this
    cases this
  · rw [e, hD] at h2
    cases h2
theorem told_givesW {X : Cx} {K : PySem.W.Frag} {g CA : Addr} {cdg : Value} (hK : X.K = K) (gA : X.mg "AskedError" = some (.ref CA)) : GivesW X N_law_told "_law_told" (defScope s_law_told) g cdg (defBody s_law_told) "_law_look" (TTk K CA) := by
  subst hK
  intro f Pd s H Q tl st act hc h
  have hgl : Gl (cxG X N_law_told "_law_told" (defScope s_law_told) g cdg s H).nox "AskedError" := by rfl
  refine ⟨_, pss_cons (ps_asg (pe_tup (pa_cons pe_non (pa_cons pe_non pa_nil))) (pg_tup rfl (pgs_cons (pg_name (i := 1) sc_law_told.nd rfl (.inl rfl)) (pgs_cons (pg_name (i := 2) sc_law_told.nd rfl (.inl rfl)) pgs_nil)))) (pss_cons (ps_try_keep (X := (cxG X N_law_told "_law_told" (defScope s_law_told) g cdg s H).nox) (c := .ref CA) (i := 3)
    (tb := fun W D σ H => ∃ (E : XK) (σ₀ : L2.St), (∀ cls d H', E cls d H' → W cls d σ₀ H') ∧ σ = σ₀ ∧ σ[0]? = some (some (.ref f)) ∧ Pd H ∧ tl E H (fun v H1 => D.nx (σ.set 2 (some v)) H1))
    rfl rfl rfl sc_law_told.nd rfl rfl ⟨hgl, by decide, .inl gA⟩ LamX.takes0 (fun W pn xe tk _ => ?_) (fun a pn => pss_one (ps_set (i := 1) sc_law_told.nd rfl (.inl rfl) (pv 3)))) (pss_one (ps_ret (pe_tup (pa_cons (pv 1) (pa_cons (pv 2) pa_nil)))))), ?_⟩
  · refine ⟨fun pins s' σ H' D I h' => ?_⟩
    obtain ⟨E, σ₀, hW, h1, h2, h3, h4⟩ := h'
    exact PSs.run (pss_one (ps_set (i := 2) sc_law_told.nd rfl (.inl rfl) (act W pn xe E σ₀ _ _ tk hW))) pins s' σ H' D I ⟨h1, h2, h3, h4⟩
  · refine ⟨by show 2 ≤ sizeLine; decide, fun T0 nT0 => ⟨T0, _, rfl, SqT.of upd_same, rfl, _, _, rfl, _, _, rfl, rfl, ?_⟩⟩
    have s0 := sameU (o := .tup [.non, .non]) nT0
    generalize L2.upd H T0 (.tup [.non, .non]) = H0 at s0 ⊢
    refine ⟨fun cls d H' => wKeep X.K (.ref CA) 3 (tAsg (tVar 3) (gName 1)) (fun _ _ _ _ => False) { nx := tRet (tTup (tCons (tVar 1) (tCons (tVar 2) tNil))) { nx := fun x H' => Q V.non H', rt := Q }, rt := Q } cls d [some (.ref f), some .non, some .non, none] H', _, fun cls d H' h => h, rfl, rfl, st _ _ s0 hc, ?_⟩
    refine h H0 s0 _ _ (fun cls d H' hx hq => ⟨true, hx, fun _ a na => ?_, fun z => nomatch z⟩) (fun v H1 hq => ?_)
    · refine ⟨.ref a, rfl, ?_⟩
      refine ⟨.ref a, rfl, .non, rfl, by show 2 ≤ sizeLine; decide, fun T nT => ?_⟩
      exact hq a na T nT
    · refine ⟨.non, rfl, v, rfl, by show 2 ≤ sizeLine; decide, fun T nT => ?_⟩
      exact hq T nT
section
variable {X : Cx}
theorem pe_toldT {T : List (Addr × Str)} {k : Nat} {CA gt c Pt : Addr} {fdT : FuncData} {params : Arguments} {body : Expr} {scope : Scope} {t : XK → TE} {p lpos pos : Pos} (FT : Fun X.K "_law_told" "_law_told" s_law_told gt fdT) (hm : X.mg "_law_told" = some (.ref gt)) (gA : X.mg "AskedError" = some (.ref CA)) (hg : Gl X "_law_told") (hb : Binds X.K fdT ["_law_look"] [])
    (TB : TabB X.base X.mg c Pt) (hmT : (Pt, X.env.qual ++ "<lambda>") ∈ T) (hu : ∀ p ∈ T, p.1 = Pt → p.2 = X.env.qual ++ "<lambda>") (hcode : X.env.code = .ref c) (hr : Room (k + 2) X.A) (L : LamS X.env.scope scope) (hdef : defaultsOf params X.env = ([], []))
    (hbind : ∀ (q : Str) (cl : List (Str × Addr)) (pm cv ctv : Value), bindArgs (PySem.W.kla_fn "<lambda>" q params body scope cl pm cv ctv) ⟨[], []⟩ = pure [])
    (hbody : ∀ (A : Around) (outer : List Env) (s : Shared) (H : Hp) (E : XK) (f c' : Addr), Room k (A.deeper (lamEnv X scope s.heap.objs.size f c')) → PE (lamCx X A outer s H E scope f c') body (t E)) :
    PE X (.Call (.Name "_law_told" p) [.Lambda params body scope lpos] [] pos) (tLam T (TTk X.K CA) t) := by
  have h0 : N_law_told[0]? = some ("_law_look" : Str) := by rfl
  have hv : Vis (defScope s_law_told) "_law_look" := .inl rfl
  have kp := FT.kp
  obtain ⟨oc, od, kV, doc, pm, an, cdv, ct, osl, rfl, lk, hcd⟩ := FT.ex
  have hG := told_gives (X := X) (g := gt) (cdg := cdv) (q := X.env.qual ++ "<lambda>") gA
  exact @pe_lamS X T (TTk X.K CA) "_law_told" "_law_look" gt c Pt k (defArgs s_law_told) (defBody s_law_told) (defScope s_law_told) .none kV doc pm cdv ct oc an od osl N_law_told params body scope t p lpos pos hg hm kp lk hcd hb sc_law_told h0 hv hG TB hcode hmT hu hr L hdef hbind hbody (by decide) (by decide) (by decide)
end
section
variable {X : Cx} {A : Around} {outer : List Env} {s : Shared} {H : Hp} {E : XK} {scope : Scope} {f c' C Ct NP NA : Addr} {k : Nat} {e1 e2 e3 : Expr} {t1 t2 t3 : TE} {pos : Pos}
theorem pe_lamat {fT : Addr} {fdT : FuncData} (dT : Dun X.K Ct fT "__getitem__") (hT : PySem.W.fnIn X.K fT = true) (FT : FnOk X.prog X.w X.K X.mg X.base (L2.CX X.prog X.w) 3 fT fdT ["self", "at"] (sp_atD X.K C Ct NP)) (bT : Binds X.K fdT ["self", "at"] []) (hr : Room 8 (A.deeper (lamEnv X scope s.heap.objs.size f c'))) (h1 : PE (lamCx X A outer s H E scope f c') e1 t1) (h2 : PE (lamCx X A outer s H E scope f c') e2 t2)
    (hsl : ∀ a u, subscripted e2 true (.ref a) u = runValue (.builtin "lifetime.subscript" ⟨[.ref a, u], []⟩) := by intros; with_unfolding_all rfl) : PE (lamCx X A outer s H E scope f c') (.Subscript e1 e2 pos) (tIxX Ct (sp_atD X.K C Ct NP) E t1 t2) :=
  pe_ixX (X := lamCx X A outer s H E scope f c') dT hT FT (@lam_takes X A outer s H E scope f c') (hr.mono (by decide)) bT h1 h2 hsl
end
def tOrE (t1 t2 : TE) : TE := fun σ H Q => t1 σ H Q ∨ t2 σ H Q
theorem pe_orE {X : Cx} {e : Expr} {t1 t2 : TE} (h1 : PE X e t1) (h2 : PE X e t2) : PE X e (tOrE t1 t2) := pe_or2 h1 h2
def TDn (K : PySem.W.Frag) (NP : Addr) : (XK → Hp → VK → Prop) → List V → Hp → VK → Prop := fun tl vs H Q => ∃ (v : V) (dv : PyData), vs = [v] ∧ Dx K H v dv ∧ Shows dv ∧ (∀ H0, Same H H0 → ∀ (E : XK) (Q' : VK), (∀ (H1 : Hp) (dd : Addr), Same H0 H1 → H1 dd = some (.xd [("value", v)]) → E (.ref NP) (some dd) H1) → tl E H0 Q') ∧ ∀ H', Same H H' → Q (.bl true) H'
theorem none_gives {X : Cx} {CA NP : Addr} {m : Nat} {gy : Addr} {cdy : Value} {K : PySem.W.Frag} (hK : X.K = K) (hg : X.A.guards = some []) (hPA : PySem.W.exmOne K (.ref NP) (.ref CA) = some true) (XNP : Xcl K NP) (gNP : X.mg "NoPart" = some (.ref NP)) (m_isinstance : X.mg "isinstance" = none) (m_repr : X.mg "repr" = none) :
    GivesP m X N_law_is_none "_law_is_none" (defScope s_law_is_none) gy cdy (defBody s_law_is_none) "_law_told" "_law_look" (TTk K CA) (TDn K NP) := by
  subst hK
  intro f Pd s0 H Q tl vs st pass hc h hr
  have hg' : (cxY X N_law_is_none "_law_is_none" (defScope s_law_is_none) gy cdy s0 H).A.guards = some [] := hg
  refine ⟨_, (pss_cons (ps_set (i := 2) sc_law_is_none.nd rfl (.inl rfl) (pe_ix ix_tup (pass _ _ _) pe_int (fun _ _ => rfl)))
      (pss_one (ps_ret (pe_and (pe_callB (r := rIsK X.K) call_isK (by rfl) m_isinstance (by decide +kernel) (pa_cons (pv 2) (pa_cons (pe_glob (v := .ref NP) (by rfl) gNP rfl) pa_nil))) (pe_one (pe_cmpR op_eq (pe_callB (call_reprX hg' (u100 hr)) (by rfl) m_repr (by decide +kernel) (pa_cons (pe_kv (pv 2)) pa_nil)) (pe_callB (call_reprX hg' (u100 hr)) (by rfl) m_repr (by decide +kernel) (pa_cons (pv 1) pa_nil)) (nomark _))))))), ?_⟩
  obtain ⟨v, dv, rfl, hv, sh, ra, q⟩ := h
  refine ⟨rfl, hc, fun H0 sm0 E Q' hE hQ => ?_⟩
  refine ra H0 sm0 E Q' (fun H1 dd s1 hdd => hE _ _ _ hPA (fun ae nae R nR => ?_))
  refine ⟨R, _, 0, .ref ae, rfl, rfl, SqT.of upd_same, rfl, ?_⟩
  have s2 : Same H1 (upd (upd H1 ae (exk ae (.ref NP) (some dd))) R (.tup [.ref ae, .non])) := (sameU nae).trans (sameU nR)
  have ek : ExcK (upd (upd H1 ae (exk ae (.ref NP) (some dd))) R (.tup [.ref ae, .non])) ae NP v := ⟨dd, (sameU nR) _ _ upd_same, s2 _ _ hdd⟩
  have sG : Same H (upd (upd H1 ae (exk ae (.ref NP) (some dd))) R (.tup [.ref ae, .non])) := sm0.trans (s1.trans s2)
  generalize (upd (upd H1 ae (exk ae (.ref NP) (some dd))) R (.tup [.ref ae, .non])) = G at ek sG ⊢
  have hvG := hv.same sG
  refine ⟨.ref ae, rfl, ae, NP, v, .ref NP, .ref NP, true, rfl, .own NP, XNP, ek, kit_own, true, rfl, iteT ?_⟩
  refine ⟨.ref ae, rfl, ae, NP, v, rfl, XNP, ek, v, dv, rfl, hvG, sh, v, rfl, v, dv, rfl, hvG, sh, rfl, ?_⟩
  rw [decide_eq_true rfl]
  exact q _ sG
instance (d : PyData) : Decidable (Shows d) := by
  unfold Shows
  infer_instance
theorem odds_show : ∀ d ∈ odds, Shows d := by decide +kernel
theorem pool_shows : ∀ n ∈ pool, (Shows (.str n) ∧ Shows (.str (n ++ "x")) ∧ Shows (.str (Txt.upper n))) ∧ Shows (.tuple [.str n]) ∧ Shows (.list [.str n]) ∧ n.length ≤ 8 := by decide +kernel
/-- a list of kept things that grows by one -/
theorem kept_more {H G : Hp} {L f c : Addr} {xs : List V} {o p : HO} (hL : H L = some (.lst xs)) (e : ExtN H G) (n : G f = none) (k : G c = some p) (hl : ∀ ys, p ≠ .lst ys) :
    (upd G f o) L = some (.lst xs) ∧ (upd (upd G f o) L (.lst (xs ++ [.ref f]))) L = some (.lst (xs ++ [.ref f])) ∧ ((upd (upd G f o) L (.lst (xs ++ [.ref f]))) f = some o ∧ (upd (upd G f o) L (.lst (xs ++ [.ref f]))) c = some p) ∧ ∀ z q, z ≠ L → H z = some q → (∀ ts, q ≠ .tbl ts) → (upd (upd G f o) L (.lst (xs ++ [.ref f]))) z = some q := by
  have hL2 : G L = some (.lst xs) := e _ _ hL (fun _ z => by cases z)
  have fL : f ≠ L := (ne_of_none hL2 n).symm
  have cL : c ≠ L := fun z => by
    rw [z, hL2] at k
    exact hl _ (Option.some.inj k).symm
  exact ⟨(upd_ne fL.symm).trans hL2, upd_same, ⟨(upd_ne fL).trans upd_same, (upd_ne cL).trans ((upd_ne (ne_of_none k n)).trans k)⟩, fun z q zL hz nt => (upd_ne zL).trans ((upd_ne (ne_of_none (e z q hz nt) n)).trans (e z q hz nt))⟩
theorem lamO_nl {q : Str} {ps : Arguments} {bd : Expr} {sc : Scope} {cl : List (Str × Addr)} {f c : Addr} (xs : List V) : LamO f q ps bd sc cl c ≠ .lst xs := fun z => by
  unfold LamO at z
  cases z
theorem kept_first {H G : Hp} {f c L : Addr} {o p : HO} {TT : List (Addr × Str)} (e : ExtN H G) (n : G f = none) (k : G c = some p) (nL : upd G f o L = none) (T : Tabs TT G) :
    (upd (upd G f o) L (.lst [.ref f])) L = some (.lst [.ref f]) ∧ ((upd (upd G f o) L (.lst [.ref f])) f = some o ∧ (upd (upd G f o) L (.lst [.ref f])) c = some p) ∧ (∀ z q, H z = some q → (∀ ts, q ≠ .tbl ts) → (upd (upd G f o) L (.lst [.ref f])) z = some q ∧ z ≠ L) ∧ Tabs TT (upd (upd G f o) L (.lst [.ref f])) := by
  have fL : f ≠ L := fun z => by
    rw [← z, upd_same] at nL
    cases nL
  have cf : c ≠ f := ne_of_none k n
  have cL : c ≠ L := fun z => by
    rw [← z, upd_ne cf, k] at nL
    cases nL
  refine ⟨upd_same, ⟨(upd_ne fL).trans upd_same, (upd_ne cL).trans ((upd_ne cf).trans k)⟩, fun z q hz nt => ?_, tabs_same (tabs_same T (sameU n)) (sameU nL)⟩
  have a1 := e z q hz nt
  have a2 : (upd G f o) z = some q := (upd_ne (ne_of_none a1 n)).trans a1
  have zL := ne_of_none a2 nL
  exact ⟨(upd_ne zL).trans a2, zL⟩
theorem kept_on {H HF : Hp} {f c L : Addr} {xs : List V} {q r : Str} {ps : Arguments} {bd : Expr} {sc : Scope} {cl : List (Str × Addr)} (hL : H L = some (.lst xs)) (keep : ∀ z q, z ≠ L → H z = some q → (∀ ts, q ≠ .tbl ts) → HF z = some q) (k : H f = some (LamO f q ps bd sc cl c) ∧ H c = some (CodeO c r)) : HF f = some (LamO f q ps bd sc cl c) ∧ HF c = some (CodeO c r) := by
  refine ⟨keep _ _ (fun e => ?_) k.1 (fun ts => lamO_ne ts), keep _ _ (fun e => ?_) k.2 (fun ts => codeO_ne ts)⟩
  · have z := k.1
    rw [e, hL] at z
    exact lamO_nl _ (Option.some.inj z).symm
  · have z := k.2
    rw [e, hL] at z
    exact codeO_nl _ (Option.some.inj z).symm
section
variable {K : PySem.W.Frag} {N : List Addr} {p : Addr} {c c1 c2 : Nat} {σ : L2.St} {H0 : Hp}
theorem dsp_odd {i : Nat} (e : σ[i]? = some (some (.ref p))) (hc : c < 90000) : DispN K N p c (c + 1) σ H0 (tCall (sp_law_oddN K) [] E0 (tCons (tVar i) tNil)) (· ∈ odds) :=
  fun H Q hB hP q => ⟨.ref p, e, N, p, c, rfl, hP, hc, fun H' v d md hB' hP' hd => q v H' d md hB' hP' hd⟩
end
theorem TbO.pot {K : PySem.W.Frag} {C Ct : Addr} {b : Nat} {h x : Str} {rs : List Rw} {W : Str → List Str} {cs : List Int} {H H' : Hp} {a dx pa dp u d e T M p : Addr} {c : Nat} (O : TbO K C Ct b h x rs W cs H a dx pa dp u d e T M) (hp : Pot H p c) (s : But p H H') : TbO K C Ct b h x rs W cs H' a dx pa dp u d e T M := by
  have hp0 := hp
  obtain ⟨_, _, _, h0, _⟩ := hp0
  have ne : ∀ z o, H z = some o → (∀ ys, o ≠ .lst ys) → z ≠ p := fun z o e n k => by
    rw [k, h0] at e
    exact n _ (Option.some.inj e).symm
  exact ⟨s _ _ (ne _ _ O.at_ fun _ k => by cases k) O.at_, O.page.pot hp s, sqT_pot O.counts hp s, s _ _ (ne _ _ O.many fun _ k => by cases k) O.many⟩
theorem TbO.ext {K : PySem.W.Frag} {C Ct : Addr} {b : Nat} {h x : Str} {rs : List Rw} {W : Str → List Str} {cs : List Int} {H H' : Hp} {a dx pa dp u d e T M : Addr} (y : ExtN H H') (O : TbO K C Ct b h x rs W cs H a dx pa dp u d e T M) : TbO K C Ct b h x rs W cs H' a dx pa dp u d e T M :=
by
  have h1 := y _ _ O.at_ (fun _ z => by cases z)
  have h2 := y _ _ O.many (fun _ z => by cases z)
  exact ⟨h1, PgO.ext y O.page, sqT_ext y O.counts, h2⟩
theorem strs_flat : ∀ l : List Str, (l.map V.str).all flatV = true
  | [] => rfl
  | x :: l => by
    rw [List.map_cons, List.all_cons, strs_flat l]
    rfl
theorem name_is {K : PySem.W.Frag} {σ : L2.St} {H : Hp} {R : Bool → Hp → Prop} {b : Nat} {h x : Str} {ws : List V} {qs : List R4} {d u R0 : Addr} {v : V} {dv : PyData} (e6 : σ[6]? = some (some v)) (e1 : σ[1]? = some (some (.ref d))) (hv : Dx K H v dv) (L : LoreAt K H d u R0 b h x ws qs) (few : qs.length ≤ 100) (q : ∀ H', Same H H' → R (nameB x (qs.map mkR) dv) H') :
    tAnd (tB (tCB (rIsi K) (tCons (tVar 6) (tCons (tC (.ty "str")) tNil)))) (tTest (tOp (rIn K false) (tVar 6) (tCall (sp_law_parts K) [] E0 (tCons (tVar 1) tNil)))) σ H R := by
  have r0 : Same H H := fun _ _ e => e
  cases hv with
  | non => exact ⟨_, e6, _, .ty "str", _, _, false, rfl, .ty "str", .base .non, kit_ty (by decide +kernel), false, rfl, iteF (q _ r0)⟩
  | bl y => exact ⟨_, e6, _, .ty "str", _, _, false, rfl, .ty "str", .base (.bl y), kit_ty (by decide +kernel), false, rfl, iteF (q _ r0)⟩
  | int i => exact ⟨_, e6, _, .ty "str", _, _, false, rfl, .ty "str", .base (.int i), kit_ty (by decide +kernel), false, rfl, iteF (q _ r0)⟩
  | str s =>
    refine ⟨_, e6, _, .ty "str", _, _, true, rfl, .ty "str", .base (.str s), kit_ty (by decide +kernel), true, rfl, iteT ?_⟩
    refine ⟨_, e6, _, e1, d, u, R0, b, h, x, ws, qs, rfl, L, few, fun H1 r s1 nr hr => ?_⟩
    refine ⟨r, _, rfl, .inl (SqL.of hr), rfl, strs_flat _, _, rfl, ?_⟩
    have e : (inV (.str s) ((partsL x qs).map V.str)) = nameB x (qs.map mkR) (.str s) := by
      show knowsS (partsL x qs) s = decide (s ∈ (linesOf x (qs.map mkR)).map (·.nm))
      rw [Bool.eq_iff_iff, knowsS_iff, decide_eq_true_iff, partsL_names]
    have z := q H1 s1
    rw [← e] at z
    exact z
  | lst e _ _ => exact ⟨_, e6, _, .ty "str", _, _, false, rfl, .ty "str", .base (.lst e), kit_ty (by decide +kernel), false, rfl, iteF (q _ r0)⟩
  | tup e _ => exact ⟨_, e6, _, .ty "str", _, _, false, rfl, .ty "str", sqT_ty e, kit_ty (by decide +kernel), false, rfl, iteF (q _ r0)⟩
  | dct e _ _ => exact ⟨_, e6, _, .ty "str", _, _, false, rfl, .ty "str", .base (.dK e), kit_ty (by decide +kernel), false, rfl, iteF (q _ r0)⟩
def sp_law_names_right (K : PySem.W.Frag) (C Ct Pn Pj : Addr) : Sp := fun vs H Q _ => ∃ (p : Addr) (c0 : Nat) (d u R : Addr) (b : Nat) (h x : Str) (ws : List V) (qs : List R4) (W : Str → List Str) (cs : List Int) (a dx pa dp pu pd pe T M : Addr), vs = [.ref p, .ref d, .ref a] ∧ Pot H p c0 ∧ c0 + 10 < 90000 ∧ R ≠ p ∧ LoreAt K H d u R b h x ws qs ∧ Pg b h x (qs.map mkR) ∧ x ∈ pool ∧ TbO K C Ct b h x (qs.map mkR) W cs H a dx pa dp pu pd pe T M ∧ TbR b h x (qs.map mkR) W cs ∧ Tabs (TLs Pn Pj) H ∧
  ∀ Hm H', But p H Hm → ExtN Hm H' → Pot H' p (c0 + 2) → Tabs (TLs Pn Pj) H' → Q (.bl true) H'
section
variable {P : Program} {w : World} {K : PySem.W.Frag} {mg : Str → Option Value} {base : Heap} {C Ct NP NA CA Pn Pj : Addr}
theorem ok_law_names_right (ne : Pn ≠ Pj) (c : TbC K Ct) (XNP : Xcl K NP) (gNP : mg "NoPart" = some (.ref NP)) (XNA : Xcl K NA) (gNA : mg "NoAbove" = some (.ref NA)) (gA : mg "AskedError" = some (.ref CA)) (hPA : PySem.W.exmOne K (.ref NP) (.ref CA) = some true) (hAA : PySem.W.exmOne K (.ref NA) (.ref CA) = some true)
    {fTt : Addr} {fdTt : FuncData} (dT : Dun K Ct fTt "__getitem__") (hT : PySem.W.fnIn K fTt = true) (FTt : FnOk P w K mg base (L2.CX P w) 3 fTt fdTt ["self", "at"] (sp_atD K C Ct NP)) (bTt : Binds K fdTt ["self", "at"] [])
    {fS : Addr} {dfS : FuncData} (mS : Meth K Ct "share" fS) (FS : FnOk P w K mg base (L2.CX P w) 5 fS dfS ["self", "part", "other"] (sp_shareD K C Ct NP)) (bS : Binds K dfS ["self", "part", "other"] [])
    {fW : Addr} {dfW : FuncData} (mW : Meth K Ct "shows" fW) (FW : FnOk P w K mg base (L2.CX P w) 5 fW dfW ["self", "part"] (sp_showsD K C Ct NP NA)) (bW : Binds K dfW ["self", "part"] [])
    {gt ct : Addr} {fdT : FuncData} (FT : Fun K "_law_told" "_law_told" s_law_told gt fdT) (bT : Binds K fdT ["_law_look"] []) (gTold : mg "_law_told" = some (.ref gt)) {gn : Addr} {fdN : FuncData} (FNo : Fun K "_law_is_none" "_law_is_none" s_law_is_none gn fdN) (bN_ : Binds K fdN ["_law_look", "_law_value"] []) (gNone : mg "_law_is_none" = some (.ref gn)) (TB : TabB base mg ct Pn) {f : Addr} {fd : FuncData} (F : Fun K "_law_names_right" "_law_names_right" s_law_names_right f fd) (hcd : fd.code = .ref ct) (m_all : mg "all" = none) (m_isinstance : mg "isinstance" = none) (m_str : mg "str" = none) (m_repr : mg "repr" = none) (c_law_of : Cal P w K mg base 2 "_law_of" ["_law_pot_here", "_law_some_here"] (sp_law_of K)) (c_law_odd : Cal P w K mg base 3 "_law_odd" ["_law_pot_here"] (sp_law_oddN K)) (c_law_parts : Cal P w K mg base 1 "_law_parts" ["_law_lore_here"] (sp_law_parts K)) : FnG P w K mg base 13 f fd ["_law_pot_here", "_law_lore_here", "_law_table"] (sp_law_names_right K C Ct Pn Pj) := by
  have kT := FT.kp
  obtain ⟨ocT, odT, kVT, docT, pmT, anT, cdT, ctT, oslT, rfl, lkT, hcT⟩ := FT.ex
  have kN := FNo.kp
  obtain ⟨ocN, odN, kVN, docN, pmN, anN, cdN, ctN, oslN, rfl, lkN, hcN⟩ := FNo.ex
  refine funC_okG F sc_law_names_right (fun vs H Q E h => ?_) (fun cdv A outer s H vs Q E hcv hg hr h => ?_)
  · obtain ⟨p, c0, d, u, R, b, h, x, ws, qs, W, cs, a, dx, pa, dp, pu, pd, pe, T, M, rfl, _⟩ := h
    rfl
  · refine ⟨_, (pss_cons (ps_set (i := 5) sc_law_names_right.nd rfl (.inr rfl) (pe_dget (hu_of hr) (pv 1) pe_str (fun _ _ => rfl)))
      (pss_cons (ps_set (i := 6) sc_law_names_right.nd rfl (.inr rfl) (pe_call c_law_of.G (hr.mono (by decide)) (by rfl) c_law_of.g c_law_of.kp c_law_of.b .nil pass0 (pa_cons (pv 0) (pa_cons (pe_lst (pa_cons pe_str (pa_cons pe_str (pa_cons (pe_op op_add_str (pv 5) pe_str) (pa_cons (pe_bm0 PySem.F.plainAttrs_str PySem.F.slot_str_upper PySem.F.type_str_upper mt_upper (pv 5)) (pa_cons pe_non (pa_cons pe_int (pa_cons pe_bl (pa_cons (pe_tup (pa_cons (pv 5) pa_nil)) (pa_cons (pe_lstN (pa_cons (pv 5) pa_nil)) (pa_cons (pe_call c_law_odd.G (hr.mono (by decide)) (by rfl) c_law_odd.g c_law_odd.kp c_law_odd.b .nil pass0 (pa_cons (pv 0) pa_nil)) pa_nil))))))))))) pa_nil))))
      (pss_cons (ps_if (PW.pt (pw_and (pt_val (pe_callB call_isi (by rfl) m_isinstance (by decide +kernel) (pa_cons (pv 6) (pa_cons (pe_bltn (v := .ty "str") (by rfl) m_str (by decide +kernel) rfl) pa_nil)))) (pw_and1 (pt_cmpR op_in_seq (pv 6) (pe_call c_law_parts.G (hr.mono (by decide)) (by rfl) c_law_parts.g c_law_parts.kp c_law_parts.b .nil pass0 (pa_cons (pv 1) pa_nil)) rfl)))) (pss_one (ps_ret pe_bl)) pss_nil)
      (pss_cons (ps_set (i := 3) sc_law_names_right.nd rfl (.inl rfl) (pe_lst (pa_cons (pe_lamV (T := TLs Pn Pj) TB (hcv.symm.trans hcd) (.head _) (uniN ne) (lamS_by (sc := defScope s_law_names_right) (by decide +kernel)) (by rfl)) pa_nil)))
      (pss_cons (ps_expr (pe_bm PySem.F.plainAttrs_list PySem.F.slot_list_append PySem.F.type_list_append mt_append (pv 3) (pa_cons (pe_lamV (T := TLs Pn Pj) TB (hcv.symm.trans hcd) (.head _) (uniN ne) (lamS_by (sc := defScope s_law_names_right) (by decide +kernel)) (by rfl)) pa_nil)))
      (pss_cons (ps_expr (pe_bm PySem.F.plainAttrs_list PySem.F.slot_list_append PySem.F.type_list_append mt_append (pv 3) (pa_cons (pe_lamV (T := TLs Pn Pj) TB (hcv.symm.trans hcd) (.head _) (uniN ne) (lamS_by (sc := defScope s_law_names_right) (by decide +kernel)) (by rfl)) pa_nil)))
      (pss_cons (ps_expr (pe_bm PySem.F.plainAttrs_list PySem.F.slot_list_append PySem.F.type_list_append mt_append (pv 3) (pa_cons (pe_lamV (T := TLs Pn Pj) TB (hcv.symm.trans hcd) (.head _) (uniN ne) (lamS_by (sc := defScope s_law_names_right) (by decide +kernel)) (by rfl)) pa_nil)))
      (pss_cons (ps_set (i := 4) sc_law_names_right.nd rfl (.inl rfl) (pe_ix (r := rIxT K) ix_tup (pe_toldT (k := 8) (T := TLs Pn Pj) (t := fun E => tMeth Ct "shows" (sp_showsD K C Ct NP NA) [] E (tVar 2) (tCons (tVar 5) tNil)) FT gTold gA (by rfl) bT TB (.head _) (uniN ne) (hcv.symm.trans hcd) (hr.mono (by decide)) (lamS_by (sc := defScope s_law_names_right) (by decide +kernel)) (by rfl) (fun _ _ _ _ _ => rfl) (fun A outer s H E f c' hr2 => pe_meth (X := lamCx _ A outer s H E _ f c') (pv 2) c.cls mW FW (hr2.mono (by decide)) bW .nil (@lam_takes _ A outer s H E _ f c') (pa_cons (pv 5) pa_nil))) pe_int (fun _ _ => rfl)))
      (pss_cons (ps_if (PW.pt (pw_or (pt_not (pt_val (pe_callB (r := rIsK K) call_isK (by rfl) m_isinstance boot_isi (pa_cons (pv 4) (pa_cons (pe_glob (v := .ref NA) (by rfl) gNA rfl) pa_nil))))) (pw_or1 (pt_cmpR op_ne (pe_callB (r := rReprX K) (call_reprX hg (u100 hr)) (by rfl) m_repr boot_repr (pa_cons (pe_kvK (K := K) rfl (pv 4)) pa_nil)) (pe_callB (r := rReprX K) (call_reprX hg (u100 hr)) (by rfl) m_repr boot_repr (pa_cons (pv 5) pa_nil)) (nomark _))))) (pss_one (ps_ret pe_bl)) pss_nil)
      (pss_one (ps_ret (pe_callB (cr_all rfl) (by rfl) m_all (by decide +kernel) (pa_cons (pe_lcK (own := [("_law_look", 7)]) (g := gName 7) rfl sc_law_names_right.nd (pi_list (pv 3)) (blkOk_by (own := [("_law_look", 7)]) (N := N_law_names_right) (sc := defScope s_law_names_right) (by decide +kernel)) (fun _ _ _ _ _ => (pg_name (i := 7) sc_law_names_right.nd rfl (.inl rfl))) (fun _ _ _ _ _ => pts_nil) (fun pins σ s H C' cl fp I fo => (pe_orE (pe_keptB2 (ps := lam1.1) (bd := lam1.2.1) (sc := lam1.2.2) (k := 8) (j := 7) (t := fun E => tIxX Ct (sp_atD K C Ct NP) E (tVar 2) (tVar 6)) I fo (lamS_by (sc := defScope s_law_names_right) (by decide +kernel)) (fun _ _ _ _ _ => rfl) (by rfl) gNone kN lkN hcN bN_ sc_law_is_none rfl (.inl rfl) gTold kT lkT hcT bT sc_law_told (by rfl) (.inl rfl) (fun t0 G0 => told_givesW (K := K) (by rfl) gA) (fun _ _ => by rfl) (none_gives (CA := CA) (NP := NP) (by rfl) hg hPA XNP gNP m_isinstance m_repr) (hr.mono (by decide)) (fun A outer s H E f c' hr2 => pe_lamat dT hT FTt bTt hr2 (pv 2) (pv 6)) (by rfl) (.inl rfl) (pa_cons (pv 6) pa_nil)) (pe_orE (pe_keptB2 (ps := lam2.1) (bd := lam2.2.1) (sc := lam2.2.2) (k := 8) (j := 7) (t := fun E => tMeth Ct "share" (sp_shareD K C Ct NP) [] E (tVar 2) (tCons (tVar 6) (tCons (tVar 5) tNil))) I fo (lamS_by (sc := defScope s_law_names_right) (by decide +kernel)) (fun _ _ _ _ _ => rfl) (by rfl) gNone kN lkN hcN bN_ sc_law_is_none rfl (.inl rfl) gTold kT lkT hcT bT sc_law_told (by rfl) (.inl rfl) (fun t0 G0 => told_givesW (K := K) (by rfl) gA) (fun _ _ => by rfl) (none_gives (CA := CA) (NP := NP) (by rfl) hg hPA XNP gNP m_isinstance m_repr) (hr.mono (by decide)) (fun A outer s H E f c' hr2 => pe_meth (X := lamCx _ A outer s H E _ f c') (pv 2) c.cls mS FS (hr2.mono (by decide)) bS .nil (@lam_takes _ A outer s H E _ f c') (pa_cons (pv 6) (pa_cons (pv 5) pa_nil))) (by rfl) (.inl rfl) (pa_cons (pv 6) pa_nil)) (pe_orE (pe_keptB2 (ps := lam3.1) (bd := lam3.2.1) (sc := lam3.2.2) (k := 8) (j := 7) (t := fun E => tMeth Ct "share" (sp_shareD K C Ct NP) [] E (tVar 2) (tCons (tVar 5) (tCons (tVar 6) tNil))) I fo (lamS_by (sc := defScope s_law_names_right) (by decide +kernel)) (fun _ _ _ _ _ => rfl) (by rfl) gNone kN lkN hcN bN_ sc_law_is_none rfl (.inl rfl) gTold kT lkT hcT bT sc_law_told (by rfl) (.inl rfl) (fun t0 G0 => told_givesW (K := K) (by rfl) gA) (fun _ _ => by rfl) (none_gives (CA := CA) (NP := NP) (by rfl) hg hPA XNP gNP m_isinstance m_repr) (hr.mono (by decide)) (fun A outer s H E f c' hr2 => pe_meth (X := lamCx _ A outer s H E _ f c') (pv 2) c.cls mS FS (hr2.mono (by decide)) bS .nil (@lam_takes _ A outer s H E _ f c') (pa_cons (pv 5) (pa_cons (pv 6) pa_nil))) (by rfl) (.inl rfl) (pa_cons (pv 6) pa_nil)) (pe_keptB2 (ps := lam4.1) (bd := lam4.2.1) (sc := lam4.2.2) (k := 8) (j := 7) (t := fun E => tMeth Ct "shows" (sp_showsD K C Ct NP NA) [] E (tVar 2) (tCons (tVar 6) tNil)) I fo (lamS_by (sc := defScope s_law_names_right) (by decide +kernel)) (fun _ _ _ _ _ => rfl) (by rfl) gNone kN lkN hcN bN_ sc_law_is_none rfl (.inl rfl) gTold kT lkT hcT bT sc_law_told (by rfl) (.inl rfl) (fun t0 G0 => told_givesW (K := K) (by rfl) gA) (fun _ _ => by rfl) (none_gives (CA := CA) (NP := NP) (by rfl) hg hPA XNP gNP m_isinstance m_repr) (hr.mono (by decide)) (fun A outer s H E f c' hr2 => pe_meth (X := lamCx _ A outer s H E _ f c') (pv 2) c.cls mW FW (hr2.mono (by decide)) bW .nil (@lam_takes _ A outer s H E _ f c') (pa_cons (pv 6) pa_nil)) (by rfl) (.inl rfl) (pa_cons (pv 6) pa_nil))))))) pa_nil))))))))))))), ?_⟩
    obtain ⟨p, c0, d, u, R, b, h, x, ws, qs, W, cs, a, dx, pa, dp, pu, pd, pe, T, M, rfl, hp, hc, nRp, L, hP, hx, O, TR, TA, q⟩ := h
    have few : qs.length ≤ 100 := by
      have := hP.few
      rw [List.length_map] at this
      omega
    have px := pool_shows x hx
    have lx := px.2.2.2
    have lx1 : x.length + ("x" : Str).length ≤ sizeLine := Nat.le_trans (Nat.add_le_add_right lx _) (by decide +kernel)
    refine seq_set ⟨.ref d, rfl, d, .str x, rfl, lore_first L, ?_⟩
    have hPN : PotN [p] H p c0 := ⟨hp, .head _, fun b m => by rw [List.mem_singleton.mp m]; exact hp.some⟩
    refine seq_set (call_in ⟨.ref p, rfl, lst_in (dspA_use (K := K) (N := [p]) (c1 := c0 + 1) (S := AllN 10 Shows) (dsp_k (dsp_c (v := .str "nobody") (d := .str "nobody") fun _ => .str "nobody") (dsp_k (dsp_c (v := .str "") (d := .str "") fun _ => .str "") (dsp_k (dsp_v (v := .str (x ++ "x")) (d := .str (x ++ "x")) (fun H Q q => ⟨.str x, rfl, x, _, rfl, rfl, lx1, q⟩) fun _ => .str _) (dsp_k (dsp_v (v := .str (Txt.upper x)) (d := .str (Txt.upper x)) (fun H Q q => ⟨.str x, rfl, rfl, x, rfl, rfl, by omega, q⟩) fun _ => .str _) (dsp_k (dsp_c (v := .non) (d := .none) fun _ => .non) (dsp_k (dsp_c (v := .int 0) (d := .int 0) fun _ => .int 0) (dsp_k (dsp_c (v := .bl true) (d := .bool true) fun _ => .bl true) (dsp_k (dsp_tup (dsp_cons (dsp_v (v := .str x) (d := .str x) (fun H Q q => ⟨.str x, rfl, q⟩) fun _ => .str _) dsp_nil) (by show 1 ≤ sizeLine; decide)) (dsp_k (dsp_lst (dsp_cons (dsp_v (v := .str x) (d := .str x) (fun H Q q => ⟨.str x, rfl, q⟩) fun _ => .str _) dsp_nil) (by show 1 ≤ sizeLine; decide)) (dsp_n (dsp_odd rfl (by omega)) dsp_0 odds_show) px.2.2.1) px.2.1) (by decide +kernel)) (by decide +kernel)) (by decide +kernel)) px.1.2.2) px.1.2.1) (by decide +kernel)) (by decide +kernel)) hPN fun xs H2 ds eds B12 hP2 hxs => ⟨by rw [hxs.length, eds.1]; decide, fun l1 n1 => ?_⟩)⟩)
    have l10 : xs.length = 10 := by rw [hxs.length, eds.1]
    refine ⟨p, l1, c0 + 1, xs, rfl, (hP2.new n1).pot, by omega, hP2.ne n1, SqL.of upd_same, by omega, by omega, fun H4 i v hB4 hP4 ev => ?_⟩
    obtain ⟨dv, hm, hxv⟩ := hxs.at ev
    have sh := eds.2 dv hm
    have B2 : But p H2 H4 := ((But.refl p H2).new n1).trans hB4
    have hv : Dx K H4 v dv := (hxv.same (B2.offs hP2.mem)).same offs_sub
    have B4 := B12.trans B2
    have L4 := L.pot hp B4 nRp
    have O4 := O.pot hp B4
    have T4 := tabs_but TA hp B4
    clear B2 B12 hB4 hxv hxs hm eds l10 hPN TA O L hp hP2
    dsimp only
    refine name_is rfl rfl hv L4 few fun H5 s5 => ?_
    have hP5 := hP4.same s5
    have O5 := O4.same s5
    have T5 := tabs_same T4 s5
    have hv5 := hv.same s5
    have B5 := B4.trans (But.of (p := p) s5)
    clear hv B4 T4 O4 L4 hP4 s5
    cases nb : nameB x (qs.map mkR) dv with
    | true => exact iteT (q _ _ B5 (fun _ _ e _ => e) (hP5.mono (by omega)) T5)
    | false =>
    refine iteF ?_
    refine next_in ?_
    refine seq_set (lst_in ⟨T5, fun f1 c1 G1 e1 T1 n1 k1 => ⟨by show 1 ≤ sizeLine; decide, fun LL nL => ?_⟩⟩)
    obtain ⟨hL1, K1, E1, TB1⟩ := kept_first e1 n1 k1 nL T1
    generalize upd (upd G1 f1 _) LL (.lst [V.ref f1]) = HH1 at hL1 K1 E1 TB1 ⊢
    clear nL k1 n1 T1 e1
    refine ⟨.ref LL, rfl, .inl ⟨rfl, _, SqL.of hL1⟩, ?_⟩
    refine ⟨TB1, fun f2 c2 G2 e2 T2 n2 k2 => ?_⟩
    obtain ⟨hLa, hL2, K2, keep⟩ := kept_more hL1 e2 n2 k2 (fun ys => codeO_nl ys)
    refine ⟨LL, _, .ref f2, rfl, rfl, hLa, by show 1 < sizeLine; decide, ?_⟩
    have TB2 := tabs_list (o := .lst ([V.ref f1] ++ [V.ref f2])) hLa (tabs_same T2 (sameU n2))
    have K1 := kept_on hL1 keep K1
    have E2 : ∀ z q, H5 z = some q → (∀ ts, q ≠ .tbl ts) → (upd (upd G2 f2 _) LL (.lst ([V.ref f1] ++ [V.ref f2]))) z = some q ∧ z ≠ LL := fun z q hz nt => ⟨keep z q (E1 z q hz nt).2 (E1 z q hz nt).1 nt, (E1 z q hz nt).2⟩
    dsimp only
    clear hLa keep TB1 E1 hL1
    generalize upd (upd G2 f2 _) LL (.lst ([V.ref f1] ++ [V.ref f2])) = HH2 at hL2 TB2 E2 K1 K2 ⊢
    refine ⟨.ref LL, rfl, .inl ⟨rfl, _, SqL.of hL2⟩, ?_⟩
    refine ⟨TB2, fun f3 c3 G3 e3 T3 n3 k3 => ?_⟩
    obtain ⟨hLa, hL3, K3, keep⟩ := kept_more hL2 e3 n3 k3 (fun ys => codeO_nl ys)
    refine ⟨LL, _, .ref f3, rfl, rfl, hLa, by show 2 < sizeLine; decide, ?_⟩
    have TB3 := tabs_list (o := .lst (([V.ref f1] ++ [V.ref f2]) ++ [V.ref f3])) hLa (tabs_same T3 (sameU n3))
    have K1 := kept_on hL2 keep K1
    have K2 := kept_on hL2 keep K2
    have E3 : ∀ z q, H5 z = some q → (∀ ts, q ≠ .tbl ts) → (upd (upd G3 f3 _) LL (.lst (([V.ref f1] ++ [V.ref f2]) ++ [V.ref f3]))) z = some q ∧ z ≠ LL := fun z q hz nt => ⟨keep z q (E2 z q hz nt).2 (E2 z q hz nt).1 nt, (E2 z q hz nt).2⟩
    dsimp only
    clear hLa keep TB2 E2 hL2
    generalize upd (upd G3 f3 _) LL (.lst (([V.ref f1] ++ [V.ref f2]) ++ [V.ref f3])) = HH3 at hL3 TB3 E3 K1 K2 K3 ⊢
    refine ⟨.ref LL, rfl, .inl ⟨rfl, _, SqL.of hL3⟩, ?_⟩
    refine ⟨TB3, fun f4 c4 G4 e4 T4 n4 k4 => ?_⟩
    obtain ⟨hLa, hL4, K4, keep⟩ := kept_more hL3 e4 n4 k4 (fun ys => codeO_nl ys)
    refine ⟨LL, _, .ref f4, rfl, rfl, hLa, by show 3 < sizeLine; decide, ?_⟩
    have TB4 := tabs_list (o := .lst (([V.ref f1] ++ [V.ref f2] ++ [V.ref f3]) ++ [V.ref f4])) hLa (tabs_same T4 (sameU n4))
    have K1 := kept_on hL3 keep K1
    have K2 := kept_on hL3 keep K2
    have K3 := kept_on hL3 keep K3
    have E4 : ∀ z q, H5 z = some q → (∀ ts, q ≠ .tbl ts) → (upd (upd G4 f4 _) LL (.lst (([V.ref f1] ++ [V.ref f2] ++ [V.ref f3]) ++ [V.ref f4]))) z = some q ∧ z ≠ LL := fun z q hz nt => ⟨keep z q (E3 z q hz nt).2 (E3 z q hz nt).1 nt, (E3 z q hz nt).2⟩
    dsimp only
    clear hLa keep TB3 E3 hL3
    generalize upd (upd G4 f4 _) LL (.lst (([V.ref f1] ++ [V.ref f2] ++ [V.ref f3]) ++ [V.ref f4])) = HH4 at hL4 TB4 E4 K1 K2 K3 K4 ⊢
    refine seq_set ⟨TB4, fun Ha ea Ta H0 s0 E Q' hE hQ => ?_⟩
    have E5 : ExtN H5 H0 := fun z q hz nt => s0 _ _ (ea _ _ (E4 z q hz nt).1 nt)
    have O0 := O5.ext E5
    refine ⟨.ref a, rfl, a, dx, _, rfl, O0.at_, rfl, .str x, rfl, b, h, x, qs.map mkR, W, cs, a, dx, pa, dp, pu, pd, pe, T, M, .str x, .str x, rfl, O0, TR.pg.good, .str x, .inr ⟨rfl, fun H' dd s1 hd => hE _ _ _ hAA fun ae na T' nT' => ?_⟩⟩
    refine ⟨T', _, 0, .ref ae, rfl, rfl, SqT.of upd_same, rfl, ?_⟩
    have sX := (sameU (o := exk ae (.ref NA) (some dd)) na).trans (sameU (o := .tup [.ref ae, .non]) nT')
    have ek : ExcK (upd (upd H' ae (exk ae (.ref NA) (some dd))) T' (.tup [.ref ae, .non])) ae NA (.str x) := ⟨dd, (sameU nT') _ _ upd_same, sX _ _ hd⟩
    have s0X := s0.trans (s1.trans sX)
    have KG1 := (⟨s0X _ _ (ea _ _ K1.1 (fun ts => lamO_ne ts)), s0X _ _ (ea _ _ K1.2 (fun ts => codeO_ne ts))⟩ : _ ∧ _)
    have KG2 := (⟨s0X _ _ (ea _ _ K2.1 (fun ts => lamO_ne ts)), s0X _ _ (ea _ _ K2.2 (fun ts => codeO_ne ts))⟩ : _ ∧ _)
    have KG3 := (⟨s0X _ _ (ea _ _ K3.1 (fun ts => lamO_ne ts)), s0X _ _ (ea _ _ K3.2 (fun ts => codeO_ne ts))⟩ : _ ∧ _)
    have KG4 := (⟨s0X _ _ (ea _ _ K4.1 (fun ts => lamO_ne ts)), s0X _ _ (ea _ _ K4.2 (fun ts => codeO_ne ts))⟩ : _ ∧ _)
    have hLG := s0X _ _ (ea _ _ hL4 (fun _ z => by cases z))
    have TG := tabs_same Ta s0X
    have EG : ExtN H5 (upd (upd H' ae (exk ae (.ref NA) (some dd))) T' (.tup [.ref ae, .non])) := fun z q hz nt => s0X _ _ (ea _ _ (E4 z q hz nt).1 nt)
    generalize (upd (upd H' ae (exk ae (.ref NA) (some dd))) T' (.tup [.ref ae, .non])) = HG at ek KG1 KG2 KG3 KG4 hLG TG EG ⊢
    clear s0X sX hd s1 E5 O0 hE hQ s0 ea Ta K1 K2 K3 K4 E4 TB4 hL4
    have OG := O5.ext EG
    have hvG := hv5.ext EG
    dsimp only
    refine ⟨.ref ae, rfl, ae, NA, .str x, .ref NA, .ref NA, true, rfl, .own NA, XNA, ek, kit_own, true, rfl, iteF ?_⟩
    refine ⟨.ref ae, rfl, ae, NA, .str x, rfl, XNA, ek, .str x, .str x, rfl, .str x, px.1.1, .str x, rfl, .str x, .str x, rfl, .str x, px.1.1, rfl, _, rfl, iteNS rfl ?_⟩
    refine next_in (ret_in (cb_in (cons_in ?_)))
    refine ⟨.ref LL, rfl, LL, rfl, ⟨_, SqL.of hLG⟩, fun Z nZ => ?_⟩
    refine lc_it (walk_list (xs := ([V.ref f1] ++ [V.ref f2] ++ [V.ref f3] ++ [V.ref f4]))) (fun i H' => Same HG H' ∧ H' Z = some (.lst ((List.replicate i true).map V.bl))) ⟨sameU nZ, upd_same⟩ (fun i H' _ z => SqL.of (z.1 _ _ hLG)) ?_ ?_
    · rintro i y H2 H3 hi ⟨s2, hZ⟩ ⟨rfl, hk⟩
      have i4 : i < 4 := hi
      have O2 := OG.same s2
      have hv2 := hvG.same s2
      have mx : x ∈ (linesOf x (qs.map mkR)).map (·.nm) := List.mem_map.mpr ⟨_, .head _, rfl⟩
      have go : ∀ H', Same H3 H' → ∃ acc, H' Z = some (.lst acc) ∧ acc.length < sizeLine ∧ Same HG (upd H' Z (.lst (acc ++ [V.bl true]))) ∧ (upd H' Z (.lst (acc ++ [V.bl true]))) Z = some (.lst ((List.replicate (i + 1) true).map V.bl)) := fun H' s' => by
        refine ⟨_, s' _ _ hZ, by rw [List.length_map, List.length_replicate]; exact small1000 (by omega), fun z o ez => (upd_ne (ne_of_none ez nZ)).trans (s' _ _ (s2 _ _ ez)), ?_⟩
        rw [upd_same, List.replicate_succ', List.map_append]
        rfl
      match i, i4, hk with
      | 0, _, hk =>
        obtain rfl : V.ref f1 = y := Option.some.inj hk
        refine ⟨rfl, .inl ⟨f1, c1, rfl, v, rfl, rfl, ⟨s2 _ _ KG1.1, s2 _ _ KG1.2⟩, v, dv, rfl, hv2, sh, fun H0 s0 E Q' hE => ?_, go⟩⟩
        have O0 := O2.same s0
        have hv0 := hv2.same s0
        exact ⟨.ref a, rfl, v, rfl, a, dx, _, rfl, O0.at_, b, h, x, qs.map mkR, W, cs, a, dx, pa, dp, pu, pd, pe, T, M, v, dv, rfl, O0, hv0, .inr ⟨nb, hE⟩⟩
      | 1, _, hk =>
        obtain rfl : V.ref f2 = y := Option.some.inj hk
        refine ⟨rfl, .inr (.inl ⟨f2, c2, rfl, v, rfl, rfl, ⟨s2 _ _ KG2.1, s2 _ _ KG2.2⟩, v, dv, rfl, hv2, sh, fun H0 s0 E Q' hE => ?_, go⟩)⟩
        have O0 := O2.same s0
        have hv0 := hv2.same s0
        exact ⟨.ref a, rfl, a, dx, _, rfl, O0.at_, rfl, v, rfl, .str x, rfl, b, h, x, qs.map mkR, W, cs, a, dx, pa, dp, pu, pd, pe, T, M, v, .str x, dv, .str x, rfl, O0, hv0, .str x, .inl ⟨nb, hE⟩⟩
      | 2, _, hk =>
        obtain rfl : V.ref f3 = y := Option.some.inj hk
        refine ⟨rfl, .inr (.inr (.inl ⟨f3, c3, rfl, v, rfl, rfl, ⟨s2 _ _ KG3.1, s2 _ _ KG3.2⟩, v, dv, rfl, hv2, sh, fun H0 s0 E Q' hE => ?_, go⟩))⟩
        have O0 := O2.same s0
        have hv0 := hv2.same s0
        exact ⟨.ref a, rfl, a, dx, _, rfl, O0.at_, rfl, .str x, rfl, v, rfl, b, h, x, qs.map mkR, W, cs, a, dx, pa, dp, pu, pd, pe, T, M, .str x, v, .str x, dv, rfl, O0, .str x, hv0, .inr ⟨x, rfl, mx, .inl ⟨nb, hE⟩⟩⟩
      | 3, _, hk =>
        obtain rfl : V.ref f4 = y := Option.some.inj hk
        refine ⟨rfl, .inr (.inr (.inr ⟨f4, c4, rfl, v, rfl, rfl, ⟨s2 _ _ KG4.1, s2 _ _ KG4.2⟩, v, dv, rfl, hv2, sh, fun H0 s0 E Q' hE => ?_, go⟩))⟩
        have O0 := O2.same s0
        have hv0 := hv2.same s0
        exact ⟨.ref a, rfl, a, dx, _, rfl, O0.at_, rfl, v, rfl, b, h, x, qs.map mkR, W, cs, a, dx, pa, dp, pu, pd, pe, T, M, v, dv, rfl, O0, TR.pg.good, hv0, .inl ⟨nb, hE⟩⟩
    rintro H2 ⟨s2, hZ⟩
    refine ⟨Z, List.replicate _ true, rfl, SqL.of hZ, ?_⟩
    rw [all_rep]
    exact q _ _ B5 (fun z q hz nt => s2 _ _ (EG z q hz nt)) (((hP5.extN EG).same s2).mono (by omega)) (tabs_same TG s2)
end
end Uq
namespace Uq
open PySem PySem.Spec PyProof.Rows L2 LamX TL
/-! ### any value judged -/
theorem tbR_of2 {b : Nat} {h x : Str} {qs : List R4} {W : Str → List Str} {cs : List Int} (P : Pg b h x (qs.map mkR)) (Y : Wys x (qs.map mkR) W) (okl : cs.length = (endsL x qs).length) (okp : ∀ c ∈ cs, 0 ≤ c) (oks : 0 < cs.sum) : TbR b h x (qs.map mkR) W cs := by
  refine ⟨P, fun q me => ?_, by rw [okl, endsL_ends], okp, oks⟩
  obtain ⟨l, hl, rfl⟩ := List.mem_map.mp (ends_sub me)
  exact Y.way l hl
theorem LoreAt.ext {K : PySem.W.Frag} {H H' : Hp} {d u R : Addr} {b : Nat} {h x : Str} {vs : List V} {rs : List R4} (e : ExtN H H') (l : LoreAt K H d u R b h x vs rs) : LoreAt K H' d u R b h x vs rs :=
  ⟨e _ _ l.dic (fun _ z => by cases z), sqT_ext e l.uni, e _ _ l.row (fun _ z => by cases z), paired_mono (fun _ _ ⟨t, a, c⟩ => ⟨t, a, sqT_ext e c⟩) l.all⟩
theorem counts_inv {K : PySem.W.Frag} {H : Hp} {v : V} {dv : PyData} {m : Nat} (hv : Dx K H v dv) (z : countsB m dv = true) : ∃ (T : Addr) (cs : List Int), v = .ref T ∧ dv = .tuple (cs.map PyData.int) ∧ SqT K H T (cs.map V.int) ∧ cs.length = m ∧ (∀ c ∈ cs, 0 ≤ c) ∧ 0 < cs.sum := by
  cases hv <;> try (cases z; done)
  rename_i T xs ds hT ha
  have z : (decide (ds.length = m) && (ds.all natB && decide (0 < (ds.map toI).sum))) = true := z
  rw [Bool.and_eq_true, Bool.and_eq_true] at z
  obtain ⟨cs, rfl, rfl, c0⟩ := nat_ints ha z.2.1
  have z3 := of_decide_eq_true z.2.2
  rw [ints_sum] at z3
  have z1 := of_decide_eq_true z.1
  rw [List.length_map] at z1
  exact ⟨T, cs, rfl, rfl, hT, z1, c0, z3⟩
def sp_law_is_judged (K : PySem.W.Frag) (C Ct Pn Pj : Addr) : Sp := fun vs H Q _ => ∃ (d u R : Addr) (b : Nat) (h x : Str) (ws : List V) (qs : List R4) (W : Str → List Str) (pa dp pu pd pe : Addr) (v : V) (dv : PyData), vs = [.ref d, .ref pa, v] ∧ LoreAt K H d u R b h x ws qs ∧ Pg b h x (qs.map mkR) ∧ Wys x (qs.map mkR) W ∧ PgO K C b h x (qs.map mkR) H pa dp pu pd pe ∧ Dx K H v dv ∧ Shows dv ∧ (∀ cs : List Int, dv = .tuple (cs.map PyData.int) → cs.length ≤ 6 → cs.sum ≤ 10 ^ 14) ∧ Tabs (TLs Pn Pj) H ∧
  ∀ H', ExtN H H' → Tabs (TLs Pn Pj) H' → Q (.bl true) H'
section
variable {P : Program} {w : World} {K : PySem.W.Frag} {mg : Str → Option Value} {base : Heap} {C Ct BC CA Pn Pj : Addr}
theorem ok_law_is_judged (ne : Pn ≠ Pj) (XBC : Xcl K BC) (gBC : mg "BadCounts" = some (.ref BC)) (gA : mg "AskedError" = some (.ref CA)) (hBA : PySem.W.exmOne K (.ref BC) (.ref CA) = some true)
    {fI : Addr} {dfI : FuncData} (MI : Mk K Ct fI) (FI : FnOk P w K mg base (L2.CX P w) 5 fI dfI ["self", "page", "counts"] (sp_Table_initD K C Ct BC)) (bI : Binds K dfI ["self", "page", "counts"] []) (gT : mg "Table" = some (.ref Ct))
    {gt ct : Addr} {fdT : FuncData} (FT : Fun K "_law_told" "_law_told" s_law_told gt fdT) (bT : Binds K fdT ["_law_look"] []) (gTold : mg "_law_told" = some (.ref gt)) (TB : TabB base mg ct Pj) {f : Addr} {fd : FuncData} (F : Fun K "_law_is_judged" "_law_is_judged" s_law_is_judged f fd) (hcd : fd.code = .ref ct) (m_isinstance : mg "isinstance" = none) (m_repr : mg "repr" = none) (c_law_are_countsD : Cal P w K mg base 3 "_law_are_counts" ["_law_lore_here", "_law_value"] (sp_are_countsD K)) (c_law_is_told : CalG P w K mg base 8 "_law_is_told" ["_law_lore_here", "_law_counts", "_law_page", "_law_table"] (sp_law_is_told K C Ct)) : FnG P w K mg base 12 f fd ["_law_lore_here", "_law_page", "_law_value"] (sp_law_is_judged K C Ct Pn Pj) := by
  refine funC_okG F sc_law_is_judged (fun vs H Q E h => ?_) (fun cdv A outer s H vs Q E hcv hg hr h => ?_)
  · obtain ⟨d, u, R, b, h, x, ws, qs, W, pa, dp, pu, pd, pe, v, dv, rfl, _⟩ := h
    rfl
  · refine ⟨_, (pss_cons (ps_asg (pe_toldT (k := 8) (T := TLs Pn Pj) (t := fun E => tMake Ct (sp_Table_initD K C Ct BC) [] E (tCons (tVar 1) (tCons (tVar 2) tNil))) FT gTold gA (by rfl) bT TB (.tail _ (.head _)) (uniJ ne) (hcv.symm.trans hcd) (hr.mono (by decide)) (lamS_by (sc := defScope s_law_is_judged) (by decide +kernel)) (by rfl) (fun _ _ _ _ _ => rfl) (fun A outer s H E f c' hr2 => pe_make (X := lamCx _ A outer s H E _ f c') MI FI (hr2.mono (by decide)) (by rfl) gT bI .nil (@lam_takes _ A outer s H E _ f c') (pa_cons (pv 1) (pa_cons (pv 2) pa_nil)))) (pg_tup rfl (pgs_cons (pg_name (i := 3) sc_law_is_judged.nd rfl (.inl rfl)) (pgs_cons (pg_name (i := 4) sc_law_is_judged.nd rfl (.inl rfl)) pgs_nil))))
      (pss_cons (ps_if (pt_not (pt_val (pe_call c_law_are_countsD.G (hr.mono (by decide)) (by rfl) c_law_are_countsD.g c_law_are_countsD.kp c_law_are_countsD.b .nil pass0 (pa_cons (pv 0) (pa_cons (pv 2) pa_nil))))) (pss_one (ps_ret (pe_and (pe_callB (r := rIsK K) call_isK (by rfl) m_isinstance boot_isi (pa_cons (pv 3) (pa_cons (pe_glob (v := .ref BC) (by rfl) gBC rfl) pa_nil))) (pe_one (pe_cmpR op_eq (pe_callB (r := rReprX K) (call_reprX hg (u100 hr)) (by rfl) m_repr boot_repr (pa_cons (pe_kvK (K := K) rfl (pv 3)) pa_nil)) (pe_callB (r := rReprX K) (call_reprX hg (u100 hr)) (by rfl) m_repr boot_repr (pa_cons (pv 2) pa_nil)) (nomark _)))))) pss_nil)
      (pss_one (ps_ret (pe_and (pe_cmpR op_isN (pv 3) pe_non (nomark _)) (pe_one (pe_callG c_law_is_told.G hg (hr.mono (by decide)) (by rfl) c_law_is_told.g c_law_is_told.kp c_law_is_told.b (pa_cons (pv 0) (pa_cons (pv 2) (pa_cons (pv 1) (pa_cons (pv 4) pa_nil))))))))))), ?_⟩
    obtain ⟨d, u, R, b, h, x, ws, qs, W, pa, dp, pu, pd, pe, v, dv, rfl, L, hP, Y, O, hv, sh, sm, TA, q⟩ := h
    have few : qs.length ≤ 100 := by
      have := hP.few
      rw [List.length_map] at this
      omega
    have m6 : (ends (linesOf x (qs.map mkR))).length ≤ 6 := (last_end hP).2
    have em : (endsL x qs).length = (ends (linesOf x (qs.map mkR))).length := by rw [endsL_ends]
    refine ⟨TA, fun H1 e1 T1 H0 s0 E Q' hE hQ => ?_⟩
    have E0_ : ExtN H H0 := fun z q hz nt => s0 _ _ (e1 _ _ hz nt)
    have T0 := tabs_same T1 s0
    have O0 := O.ext E0_
    have hv0 := hv.ext E0_
    have L0 := L.ext E0_
    refine ⟨.ref pa, rfl, v, rfl, fun tb dtb ntb ndtb nd => ?_⟩
    have s1 : Same H0 (upd (upd H0 dtb (.own tb)) tb (.ins Ct dtb [])) := fun z o ez => by
      rw [upd_ne (ne_of_none ez ntb), upd_ne (ne_of_none ez ndtb)]
      exact ez
    refine ⟨b, h, x, qs.map mkR, tb, dtb, pa, dp, pu, pd, pe, v, dv, rfl, O0.same s1, hv0.same s1, m6, upd_same, ?_⟩
    cases hb : countsB (ends (linesOf x (qs.map mkR))).length dv with
    | false =>
      refine .inl ⟨rfl, fun H2 s2 H3 dd s3 hd => hE _ _ _ hBA fun ae na T' nT' => ?_⟩
      have sX := (sameU (o := exk ae (.ref BC) (some dd)) na).trans (sameU (o := .tup [.ref ae, .non]) nT')
      have ek : ExcK (upd (upd H3 ae (exk ae (.ref BC) (some dd))) T' (.tup [.ref ae, .non])) ae BC v := ⟨dd, (sameU nT') _ _ upd_same, sX _ _ hd⟩
      have s0X := ((s1.trans s2).trans s3).trans sX
      have hT' : (upd (upd H3 ae (exk ae (.ref BC) (some dd))) T' (.tup [.ref ae, .non])) T' = some (.tup [.ref ae, .non]) := upd_same
      generalize (upd (upd H3 ae (exk ae (.ref BC) (some dd))) T' (.tup [.ref ae, .non])) = HG at ek s0X hT' ⊢
      refine ⟨T', _, rfl, SqT.of hT', rfl, _, _, rfl, _, _, rfl, rfl, ?_⟩
      refine ⟨.ref d, rfl, v, rfl, d, u, R, b, h, x, ws, qs, v, dv, _, rfl, L0.same s0X, few, hv0.same s0X, rfl, by omega, fun H6 s6 => ?_⟩
      rw [em, hb]
      have s06 := s0X.trans s6
      have hv6 := hv0.same s06
      have ek6 := ek.keep s6
      refine ⟨false, rfl, iteT (ret_in ?_)⟩
      refine ⟨.ref ae, rfl, ae, BC, v, .ref BC, .ref BC, true, rfl, .own BC, XBC, ek6, kit_own, true, rfl, iteT ?_⟩
      refine ⟨.ref ae, rfl, ae, BC, v, rfl, XBC, ek6, v, dv, rfl, hv6, sh, v, rfl, v, dv, rfl, hv6, sh, rfl, ?_⟩
      rw [decide_eq_true rfl]
      exact q _ (fun z o hz nt => s06 _ _ (E0_ z o hz nt)) (tabs_same T0 s06)
    | true =>
      obtain ⟨T, cs, rfl, rfl, hT, hl, c0, c1⟩ := counts_inv hv0 hb
      have smc := sm cs rfl (by omega)
      have TR := tbR_of2 hP Y (by rw [hl, em]) c0 c1
      refine .inr ⟨W, cs, T, rfl, rfl, sqT_same s1 hT, TR, fun H2 M o2 O2 => ⟨rfl, hQ _ _ fun T' nT' => ?_⟩⟩
      have s02 : Same H0 H2 := fun z o ez => o2 _ _ (ne_of_none ez ntb) (s1 _ _ ez)
      have sT := sameU (o := .tup [.non, .ref tb]) nT'
      have O2' := O2.same sT
      have s0X := s02.trans sT
      have hT' : (upd H2 T' (.tup [.non, .ref tb])) T' = some (.tup [.non, .ref tb]) := upd_same
      generalize (upd H2 T' (.tup [.non, .ref tb])) = HG at O2' s0X hT' ⊢
      refine ⟨T', _, rfl, SqT.of hT', rfl, _, _, rfl, _, _, rfl, rfl, ?_⟩
      refine ⟨.ref d, rfl, .ref T, rfl, d, u, R, b, h, x, ws, qs, .ref T, _, _, rfl, L0.same s0X, few, hv0.same s0X, rfl, by omega, fun H6 s6 => ?_⟩
      rw [em, hb]
      have s06 := s0X.trans s6
      refine ⟨true, rfl, iteF (next_in (ret_in ?_))⟩
      refine ⟨.non, rfl, rfl, true, rfl, iteT ?_⟩
      refine ⟨.ref d, rfl, .ref T, rfl, .ref pa, rfl, .ref tb, rfl, d, u, R, T, b, h, x, ws, qs, cs, W, tb, dtb, pa, dp, pu, pd, pe, T, M, rfl, L0.same s06, hP, Y, sqT_same s06 hT, O2'.same s6, TR, smc, fun H7 s7 => ?_⟩
      have s07 := s06.trans s7
      exact q _ (fun z o hz nt => s07 _ _ (E0_ z o hz nt)) (tabs_same T0 s07)
end
end Uq
namespace Uq
open PySem PySem.Spec PyProof.Rows L2 LamX TL
/-! ### tables compared; a table of another page -/
theorem page_unlike {b b' : Nat} {h h' x x' : Str} {rs rs' : List Rw} (P : Pg b h x rs) (P' : Pg b' h' x' rs') (ne : b ≠ b' ∨ h ≠ h') : V.str (pageT b h x rs) ≠ V.str (pageT b' h' x' rs') := by
  intro e
  have e1 : Txt.split (pageT b h x rs) nlS = Txt.split (pageT b' h' x' rs') nlS := by rw [V.str.inj e]
  rw [show Txt.split (pageT b h x rs) nlS = (pageW b h x rs).map lineS from text_split (by unfold pageW; simp) P.wds, show Txt.split (pageT b' h' x' rs') nlS = (pageW b' h' x' rs').map lineS from text_split (by unfold pageW; simp) P'.wds] at e1
  have e2 : lineS [Str.ofString "in", nS b, h] = lineS [Str.ofString "in", nS b', h'] := (List.cons.inj e1).1
  have e3 : Txt.split (lineS [Str.ofString "in", nS b, h]) spS = Txt.split (lineS [Str.ofString "in", nS b', h']) spS := by rw [e2]
  rw [line_split (by simp) (P.wds _ (.head _)), line_split (by simp) (P'.wds _ (.head _))] at e3
  have e4 : nS b = nS b' := (List.cons.inj (List.cons.inj e3).2).1
  have e5 : h = h' := (List.cons.inj (List.cons.inj (List.cons.inj e3).2).2).1
  have b1 := P.b1
  have b1' := P'.b1
  have f1 := (num_facts b (by omega)).2.1
  have f2 := (num_facts b' (by omega)).2.1
  rw [e4, f2] at f1
  have := Option.some.inj f1
  rcases ne with ne | ne
  · omega
  · exact ne e5
def bareQ (q : R4) : R4 := ⟨q.nm, q.ab, .non, .non⟩
theorem bare_same (qs : List R4) : sameRows qs (qs.map bareQ) := ⟨by rw [List.map_map]; rfl, by rw [List.map_map]; rfl⟩
theorem cut_to {xs : List V} {k : Nat} (hk : k ≤ xs.length) : cutV xs none (some (k : Int)) = xs.take k := by
  unfold cutV
  rw [show HT.sIx xs.length 0 none = 0 from rfl, HT.sIx_nat, Nat.min_eq_left hk]
  rfl
theorem pg_how {b : Nat} {h h' x : Str} {rs : List Rw} (P : Pg b h x rs) (hh : How h') : Pg b h' x rs := by
  refine ⟨P.b0, P.b1, hh, P.nam, P.good, P.some, fun ws m w mw => ?_⟩
  rcases List.mem_cons.mp (show ws ∈ [Str.ofString "in", nS b, h'] :: (pageW b h x rs).tail from m) with rfl | m
  · simp only [List.mem_cons, List.not_mem_nil, or_false] at mw
    rcases mw with rfl | rfl | rfl
    · exact P.wds _ (.head _) _ (.head _)
    · exact P.wds _ (.head _) _ (.tail _ (.head _))
    · exact wd_how hh
  · exact P.wds ws (.tail _ m) w mw
theorem eqvAll_ints : ∀ l m : List Int, PyData.eqvAll (l.map PyData.int) (m.map PyData.int) = decide (l = m)
  | [], [] => by simp [PyData.eqvAll]
  | [], _ :: _ => by simp [PyData.eqvAll]
  | _ :: _, [] => by simp [PyData.eqvAll]
  | a :: r, b :: t => by
    simp only [List.map_cons, PyData.eqvAll, PyData.eqv, eqvAll_ints r t]
    by_cases h : a = b <;> by_cases h' : r = t <;> simp [h, h']
theorem eqJ_in {K : PySem.W.Frag} {H : Hp} {s t : Addr} {l m : List Int} {Q : VK} (hs : SqT K H s (l.map V.int)) (ht : SqT K H t (m.map V.int)) (q : Q (.bl (decide (l = m))) H) : rEqD K (.ref s) (.ref t) H Q := by
  refine ⟨.tuple (l.map PyData.int), .tuple (m.map PyData.int), .tup hs (dpI l), .tup ht (dpI m), shaped_ints l, shaped_ints m, ?_⟩
  rw [PyData.eqv, eqvAll_ints]
  exact q
theorem dxI {K : PySem.W.Frag} {H : Hp} : ∀ l : List Int, DxAll K H (l.map V.int) (l.map PyData.int)
  | [] => .nil
  | x :: l => .cons (.int x) (dxI l)
/-- a table made of a right page and right counts -/
theorem mkTD_in {K : PySem.W.Frag} {C Ct BC : Addr} {b : Nat} {h x : Str} {rs : List Rw} {W : Str → List Str} {cs : List Int} {H : Hp} {pa dp u d e T : Addr} {Z : Addr → Hp → Prop} (O : PgO K C b h x rs H pa dp u d e) (R : TbR b h x rs W cs) (hT : SqT K H T (cs.map V.int))
    (q : ∀ G tb dtb M, Same H G → TbO K C Ct b h x rs W cs G tb dtb pa dp u d e T M → Z tb G) : ∀ tb dtb, H tb = none → H dtb = none → dtb ≠ tb → sp_Table_initD K C Ct BC [.ref tb, .ref pa, .ref T] (upd (upd H dtb (.own tb)) tb (.ins Ct dtb [])) (fun v H2 => v = .non ∧ Z tb H2) E0 := by
  intro tb dtb ntb ndtb ne
  have s1 : Same H (upd (upd H dtb (.own tb)) tb (.ins Ct dtb [])) := fun z o ez => by
    rw [upd_ne (ne_of_none ez ntb), upd_ne (ne_of_none ez ndtb)]
    exact ez
  refine ⟨b, h, x, rs, tb, dtb, pa, dp, u, d, e, .ref T, _, rfl, O.same s1, .tup (sqT_same s1 hT) (dxI cs), (last_end R.pg).2, upd_same, .inr ⟨W, cs, T, rfl, rfl, sqT_same s1 hT, R, fun G M o6 O6 => ⟨rfl, ?_⟩⟩⟩
  exact q G tb dtb M (fun z o ez => o6 _ _ (ne_of_none ez ntb) (s1 _ _ ez)) O6
def sp_Table_eqX (K : PySem.W.Frag) (C Ct : Addr) : Sp := fun vs H Q _ => ∃ (b : Nat) (h x : Str) (rs : List Rw) (W : Str → List Str) (cs : List Int) (a dx pa dp u d e T M : Addr) (y : V), vs = [.ref a, y] ∧ TbO K C Ct b h x rs W cs H a dx pa dp u d e T M ∧
  ((∃ t, TyX K H y t ∧ PySem.W.kitOne K t (.ref Ct) = some false ∧ Q (.bl false) H) ∨
   (∃ (b2 : Nat) (h2 x2 : Str) (rs2 : List Rw) (W2 : Str → List Str) (cs2 : List Int) (a2 dx2 pa2 dp2 u2 d2 e2 T2 M2 : Addr), y = .ref a2 ∧ TbO K C Ct b2 h2 x2 rs2 W2 cs2 H a2 dx2 pa2 dp2 u2 d2 e2 T2 M2 ∧
     ((V.str (pageT b h x rs) ≠ V.str (pageT b2 h2 x2 rs2) ∧ Q (.bl false) H) ∨ (V.str (pageT b h x rs) = V.str (pageT b2 h2 x2 rs2) ∧ Q (.bl (decide (cs = cs2))) H))))
def sp_law_is_other (K : PySem.W.Frag) (C Ct : Addr) : Sp := fun vs H Q _ => ∃ (d u R CC : Addr) (b : Nat) (h x : Str) (ws : List V) (qs : List R4) (cs : List Int) (W : Str → List Str) (a dx pa dp pu pd pe T M : Addr), vs = [.ref d, .ref CC, .ref a] ∧ LoreAt K H d u R b h x ws qs ∧ Pg b h x (qs.map mkR) ∧ SqT K H CC (cs.map V.int) ∧ TbO K C Ct b h x (qs.map mkR) W cs H a dx pa dp pu pd pe T M ∧ CsOk x qs cs ∧
  ∀ H', Same H H' → Q (.bl true) H'
section
variable {P : Program} {w : World} {K : PySem.W.Frag} {mg : Str → Option Value} {base : Heap} {C Ct BC : Addr}
theorem ok_Table_eqX (cP : PgC K C) (TP : PgT K C) {fQ : Addr} {dfQ : FuncData} (dQ : Dun K C fQ "__eq__") (FQ : FnOk P w K mg base CX0 1 fQ dfQ ["self", "other"] (sp_Page__eq_ K C)) (bQ : Binds K dfQ ["self", "other"] []) (c : TbC K Ct) (TT : PgT K Ct) (gT : mg "Table" = some (.ref Ct)) {f : Addr} {fd : FuncData} (F : Fun K "__eq__" "Table.__eq__" s_Table__eq_ f fd) (m_isinstance : mg "isinstance" = none) : FnOk P w K mg base CX0 2 f fd ["self", "other"] (sp_Table_eqX K C Ct) := by
  refine F.ok sc_Table__eq_ (fun vs H Q E h => ?_) (fun cdv A outer s H vs Q E hr h => ?_)
  · obtain ⟨b, h, x, rs, W, cs, a, dx, pa, dp, u, d, e, T, M, y, rfl, _⟩ := h
    rfl
  · refine ⟨_, (pss_one (ps_ret (pe_and (pe_callB (r := rIsi K) call_isi (by rfl) m_isinstance boot_isi (pa_cons (pv 1) (pa_cons (pe_glob (v := .ref Ct) (by rfl) gT rfl) pa_nil))) (pe_and (pe_cmpR (op_eqA dQ FQ (hr.mono (by decide)) bQ) (pe_fld (pv 0) (by rfl)) (pe_fld (pv 1) (by rfl)) (nomark _)) (pe_one (pe_cmpR (op_eqD hr.units) (pe_fld (pv 0) (by rfl)) (pe_fld (pv 1) (by rfl)) (nomark _))))))), ?_⟩
    obtain ⟨b, h, x, rs, W, cs, a, dx, pa, dp, u, d, e, T, M, y, rfl, O, q⟩ := h
    rcases q with ⟨t, ty, kt, q⟩ | ⟨b2, h2, x2, rs2, W2, cs2, a2, dx2, pa2, dp2, u2, d2, e2, T2, M2, rfl, O', q⟩
    · exact ret_in ⟨y, rfl, y, .ref Ct, _, _, false, rfl, .own Ct, ty, kt, false, rfl, iteF q⟩
    refine ret_in ⟨.ref a2, rfl, .ref a2, .ref Ct, _, _, true, rfl, .own Ct, tb_is c TT O'.at_, kit_own, true, rfl, iteT ?_⟩
    refine ⟨.ref a, rfl, a, Ct, dx, _, .ref pa, rfl, O.at_, c.cls, c.page, rfl, .ref a2, rfl, a2, Ct, dx2, _, .ref pa2, rfl, O'.at_, c.cls, c.page, rfl, pa, dp, _, .ref C, rfl, O.page.at_, pg_is cP TP O'.page.at_, by simp [PySem.W.notFirst], b, h, x, rs, pa, dp, u, d, e, b2, h2, x2, rs2, pa2, dp2, u2, d2, e2, rfl, O.page, O'.page, ?_⟩
    rcases q with ⟨n, q⟩ | ⟨y, q⟩
    · exact ⟨_, rfl, _, rfl, iteN (fun z => n (of_decide_eq_true z)) q⟩
    · refine ⟨_, rfl, _, rfl, iteY (decide_eq_true y) ?_⟩
      refine ⟨.ref a, rfl, a, Ct, dx, _, .ref T, rfl, O.at_, c.cls, c.counts, rfl, .ref a2, rfl, a2, Ct, dx2, _, .ref T2, rfl, O'.at_, c.cls, c.counts, rfl, ?_⟩
      exact eqJ_in O.counts O'.counts q
theorem ok_law_is_other {fI : Addr} {dfI : FuncData} (M : Mk K C fI) (FI : FnOk P w K mg base CX0 6 fI dfI ["self", "text"] (sp_Page__init_ K C)) (bI : Binds K dfI ["self", "text"] []) (gC : mg "Page" = some (.ref C)) (c : TbC K Ct) (TT : PgT K Ct) (NT : NeC K Ct) {fT : Addr} {dfT : FuncData} (MT : Mk K Ct fT) (FT : FnOk P w K mg base (L2.CX P w) 5 fT dfT ["self", "page", "counts"] (sp_Table_initD K C Ct BC)) (bT : Binds K dfT ["self", "page", "counts"] []) (gT : mg "Table" = some (.ref Ct))
    {fE : Addr} {dfE : FuncData} (dE : Dun K Ct fE "__eq__") (FE : FnOk P w K mg base CX0 2 fE dfE ["self", "other"] (sp_Table_eqX K C Ct)) (bE : Binds K dfE ["self", "other"] [])
    {f : Addr} {fd : FuncData} (F : Fun K "_law_is_other" "_law_is_other" s_law_is_other f fd) (c_law_text : Cal P w K mg base 2 "_law_text" ["_law_lore_here"] (sp_law_text K)) : FnOk P w K mg base CX0 8 f fd ["_law_lore_here", "_law_counts", "_law_table"] (sp_law_is_other K C Ct) := by
  refine F.ok sc_law_is_other (fun vs H Q E h => ?_) (fun cdv A outer s H vs Q E hr h => ?_)
  · obtain ⟨d, u, R, CC, b, h, x, ws, qs, cs, W, a, dx, pa, dp, pu, pd, pe, T, M, rfl, _⟩ := h
    rfl
  · refine ⟨_, (pss_cons (ps_set (i := 3) sc_law_is_other.nd rfl (.inl rfl) (pe_tup (pa_cons (pe_ix ix_tup (pe_dget (hu_of hr) (pv 0) pe_str (fun _ _ => rfl)) pe_int (fun _ _ => rfl)) (pa_cons (pe_ifExp (pt_cmpR op_ne (pe_ix ix_tup (pe_dget (hu_of hr) (pv 0) pe_str (fun _ _ => rfl)) pe_int (fun _ _ => rfl)) pe_str (nomark _)) pe_str pe_str) pa_nil))))
      (pss_cons (ps_setLc (i := 4) (own := [("_law_row", 6)]) (g := gName 6) rfl sc_law_is_other.nd rfl rfl (sw_true rfl rfl rfl (by decide +kernel)) (pi_list (pe_dget (hu_of hr) (pv 0) pe_str (fun _ _ => rfl))) (blkOk_by (own := [("_law_row", 6)]) (N := N_law_is_other) (sc := defScope s_law_is_other) (by decide +kernel)) (fun _ _ _ _ _ => (pg_name (i := 6) sc_law_is_other.nd rfl (.inl rfl))) (fun _ _ _ _ _ => pts_nil) (fun _ _ _ _ _ => (pe_op (r := rCatA K) op_catA (pe_slice (r := rSlA K) sl_tupA (pv 6) po_none (po_some pe_int)) (pe_tup (pa_cons pe_non (pa_cons pe_non pa_nil))))))
      (pss_cons (ps_set (i := 5) sc_law_is_other.nd rfl (.inl rfl) (pe_disp (pps_cons pe_str (pv 3) (pps_cons pe_str (pe_dget (hu_of hr) (pv 0) pe_str (fun _ _ => rfl)) (pps_cons pe_str (pv 4) pps_nil))) (by rfl) (by rfl) (fun z => by cases z) (by decide)))
      (pss_one (ps_ret (pe_cmpR (op_neA NT dE FE (hr.mono (by decide)) bE) (pv 2) (pe_make MT FT (hr.mono (by decide)) (by rfl) gT bT .nil passL (pa_cons (pe_make M FI (hr.mono (by decide)) (by rfl) gC bI .nil pass0 (pa_cons (pe_call c_law_text.G (hr.mono (by decide)) (by rfl) c_law_text.g c_law_text.kp c_law_text.b .nil pass0 (pa_cons (pv 5) pa_nil)) pa_nil)) (pa_cons (pv 1) pa_nil))) (nomark _))))))), ?_⟩
    obtain ⟨d, u, R, CC, b, h, x, ws, qs, cs, W, a, dx, pa, dp, pu, pd, pe, T, M, rfl, L, hP, hC, O, ok, q⟩ := h
    have few : qs.length ≤ 9 := by
      have := hP.few
      rwa [List.length_map] at this
    obtain ⟨h', hh', nh, pick⟩ : ∃ h' : Str, How h' ∧ h ≠ h' ∧ ((h ≠ "up" ∧ h' = "up") ∨ (h = "up" ∧ h' = "down")) := by
      by_cases e : h = "up"
      · exact ⟨"down", by unfold How; decide +kernel, by rw [e]; decide +kernel, .inr ⟨e, rfl⟩⟩
      · exact ⟨"up", by unfold How; decide +kernel, e, .inl ⟨e, rfl⟩⟩
    have hP1 := pg_how hP hh'
    have PB : Pg b h' x ((qs.map bareQ).map mkR) := pg_same hP1 (bare_same qs) fun q mq => by
      obtain ⟨r, _, rfl⟩ := List.mem_map.mp mq
      exact ⟨.inl rfl, .inl rfl⟩
    have ok2 : CsOk x (qs.map bareQ) cs := ⟨by rw [endsL_nm (bare_same qs).1 (bare_same qs).2]; exact ok.len, ok.pos, ok.some_, ok.big⟩
    obtain ⟨W2, Y2⟩ := wys_some PB.good
    have TR2 := tbR_of PB Y2 ok2
    rcases pick with ⟨e, rfl⟩ | ⟨rfl, rfl⟩
    · refine seq_set ⟨.ref d, rfl, d, .ref u, rfl, lore_units L, u, _, 0, .int b, rfl, rfl, L.uni, atI_nat (j := 0) rfl, ?_⟩
      refine ⟨.ref d, rfl, d, .ref u, rfl, lore_units L, u, _, 1, .str h, rfl, rfl, L.uni, atI_nat (j := 1) rfl, rfl, _, rfl, iteY (by rw [decide_eq_false (fun z => e (V.str.inj z))]; rfl) ?_⟩
      refine ⟨by show 2 ≤ sizeLine; decide, fun U nU => ?_⟩
      have sU := sameU (o := .tup [.int (b : Int), .str "up"]) nU
      have hU : (upd H U (.tup [.int (b : Int), .str "up"])) U = some (.tup [.int (b : Int), .str "up"]) := upd_same
      have LD := L.same sU
      have OD := O.same sU
      have hCD := sqT_same sU hC
      generalize L2.upd H U (.tup [.int (b : Int), .str "up"]) = HD at sU hU LD OD hCD ⊢
      refine seq_set ?_
      refine ⟨.ref d, rfl, d, .ref R, rfl, lore_rows LD, R, rfl, ⟨_, SqL.of LD.row⟩, fun DD nDD => ?_⟩
      have lvs := LD.all.length
      refine lc_it (walk_list (xs := ws)) (fun i H' => Same HD H' ∧ ∃ ys, H' DD = some (.lst ys) ∧ Paired (RowV K H') ys ((qs.take i).map bareQ)) ⟨sameU nDD, [], upd_same, .nil⟩ (fun i H' _ z => SqL.of (z.1 _ _ LD.row)) ?_ ?_
      · rintro i y H6 H7 hi ⟨s6, ys, hDD, pr⟩ ⟨rfl, hk⟩
        obtain ⟨r, er, t6, rfl, ht6⟩ := paired_at' LD.all hk
        refine ⟨rfl, .ref t6, rfl, 2, rfl, ?_⟩
        refine slA_in (sqT_same s6 ht6) fun H8 t8 s8 ht8 => ?_
        rw [show cutV [V.str r.nm, .str r.ab, r.sh, r.fa] none (some (2 : Int)) = [.str r.nm, .str r.ab] from cut_to (k := 2) (by show 2 ≤ 4; decide)] at ht8
        refine ⟨by show 2 ≤ sizeLine; decide, fun T9 nT9 => ?_⟩
        have s9 := sameU (o := .tup [.non, .non]) nT9
        refine catA_in (sqT_same s9 ht8) (SqT.of upd_same) (by show 2 + 2 ≤ sizeLine; decide) fun H10 t10 s10 ht10 => ?_
        have s610 := (s8.trans s9).trans s10
        have hDD10 := s610 _ _ hDD
        have ly := pr.length
        rw [List.length_map, List.length_take] at ly
        refine ⟨ys, hDD10, small1000 (by omega), ?_, ys ++ [.ref t10], upd_same, ?_⟩
        · intro c2 o eb
          rw [upd_ne (ne_of_none eb nDD)]
          exact s610 _ _ (s6 _ _ eb)
        · rw [List.take_add_one, er, List.map_append]
          exact paired_snoc (RowV.lst ⟨t10, rfl, ht10⟩ hDD10) (paired_mono (fun _ _ z => RowV.lst (z.same s610) hDD10) pr)
      rintro HE ⟨sDE, ys2, hDD, pr⟩
      rw [lvs, List.take_length] at pr
      have LE := LD.same sDE
      have OE := OD.same sDE
      have hCE := sqT_same sDE hCD
      have hUE := sDE _ _ hU
      refine seq_set ?_
      refine fun E2 nE2 => ?_
      have sE := sameU (o := .dK []) nE2
      have hE2 : (upd HE E2 (.dK [])) E2 = some (.dK []) := upd_same
      have LF := LE.same sE
      refine ⟨.ref U, rfl, .ref d, rfl, d, .str x, rfl, lore_first LF, .ref DD, rfl, ?_⟩
      refine ⟨hE2, [(.inr "units", .ref U), (.inr "first", .str x), (.inr "rows", .ref DD)], rfl, (by show 3 ≤ 15; decide), ?_⟩
      rw [merge3]
      have sF : Same HE (upd (upd HE E2 (.dK [])) E2 (.dK [(.inr "units", .ref U), (.inr "first", .str x), (.inr "rows", .ref DD)])) := fun z o ez => by
        rw [upd_ne (ne_of_none ez nE2), upd_ne (ne_of_none ez nE2)]
        exact ez
      have LB : LoreAt K (upd (upd HE E2 (.dK [])) E2 (.dK [(.inr "units", .ref U), (.inr "first", .str x), (.inr "rows", .ref DD)])) E2 U DD b "up" x ys2 (qs.map bareQ) :=
        ⟨upd_same, SqT.of (sF _ _ hUE), sF _ _ hDD, paired_mono (fun _ _ z => RowV.same z sF) pr⟩
      have OF1 := OE.same sF
      have hCF := sqT_same sF hCE
      have s0 := (sU.trans sDE).trans sF
      generalize L2.upd (L2.upd HE E2 (.dK [])) E2 (.dK [(.inr "units", .ref U), (.inr "first", .str x), (.inr "rows", .ref DD)]) = HF at LB OF1 hCF s0 ⊢
      refine ret_in ?_
      refine ⟨.ref a, rfl, .ref E2, rfl, ?_⟩
      dsimp only [tNil]
      refine (text_in LB PB fun G2 r2 => mkP_in PB fun G3 a3 dx3 u3 d3 e3 r3 O3 => ?_)
      have r13 := r2.trans r3
      refine ⟨.ref CC, rfl, mkTD_in O3 TR2 (sqT_same r13 hCF) fun G4 tf dtf Mf r4 OF => ?_⟩
      have r14 := r13.trans r4
      have O4 := OF1.same r14
      refine ⟨a, dx, _, .ref Ct, rfl, O4.at_, tb_is c TT OF.at_, by simp [PySem.W.notFirst], b, h, x, qs.map mkR, W, cs, a, dx, pa, dp, pu, pd, pe, T, M, .ref tf, rfl, O4, .inr ⟨b, "up", x, _, W2, cs, tf, dtf, a3, dx3, u3, d3, e3, CC, Mf, rfl, OF, .inl ⟨page_unlike hP PB (.inr nh), ?_⟩⟩⟩
      exact ⟨false, rfl, q _ (s0.trans r14)⟩
    · refine seq_set ⟨.ref d, rfl, d, .ref u, rfl, lore_units L, u, _, 0, .int b, rfl, rfl, L.uni, atI_nat (j := 0) rfl, ?_⟩
      refine ⟨.ref d, rfl, d, .ref u, rfl, lore_units L, u, _, 1, .str "up", rfl, rfl, L.uni, atI_nat (j := 1) rfl, rfl, _, rfl, iteNS rfl ?_⟩
      refine ⟨by show 2 ≤ sizeLine; decide, fun U nU => ?_⟩
      have sU := sameU (o := .tup [.int (b : Int), .str "down"]) nU
      have hU : (upd H U (.tup [.int (b : Int), .str "down"])) U = some (.tup [.int (b : Int), .str "down"]) := upd_same
      have LD := L.same sU
      have OD := O.same sU
      have hCD := sqT_same sU hC
      generalize L2.upd H U (.tup [.int (b : Int), .str "down"]) = HD at sU hU LD OD hCD ⊢
      refine seq_set ?_
      refine ⟨.ref d, rfl, d, .ref R, rfl, lore_rows LD, R, rfl, ⟨_, SqL.of LD.row⟩, fun DD nDD => ?_⟩
      have lvs := LD.all.length
      refine lc_it (walk_list (xs := ws)) (fun i H' => Same HD H' ∧ ∃ ys, H' DD = some (.lst ys) ∧ Paired (RowV K H') ys ((qs.take i).map bareQ)) ⟨sameU nDD, [], upd_same, .nil⟩ (fun i H' _ z => SqL.of (z.1 _ _ LD.row)) ?_ ?_
      · rintro i y H6 H7 hi ⟨s6, ys, hDD, pr⟩ ⟨rfl, hk⟩
        obtain ⟨r, er, t6, rfl, ht6⟩ := paired_at' LD.all hk
        refine ⟨rfl, .ref t6, rfl, 2, rfl, ?_⟩
        refine slA_in (sqT_same s6 ht6) fun H8 t8 s8 ht8 => ?_
        rw [show cutV [V.str r.nm, .str r.ab, r.sh, r.fa] none (some (2 : Int)) = [.str r.nm, .str r.ab] from cut_to (k := 2) (by show 2 ≤ 4; decide)] at ht8
        refine ⟨by show 2 ≤ sizeLine; decide, fun T9 nT9 => ?_⟩
        have s9 := sameU (o := .tup [.non, .non]) nT9
        refine catA_in (sqT_same s9 ht8) (SqT.of upd_same) (by show 2 + 2 ≤ sizeLine; decide) fun H10 t10 s10 ht10 => ?_
        have s610 := (s8.trans s9).trans s10
        have hDD10 := s610 _ _ hDD
        have ly := pr.length
        rw [List.length_map, List.length_take] at ly
        refine ⟨ys, hDD10, small1000 (by omega), ?_, ys ++ [.ref t10], upd_same, ?_⟩
        · intro c2 o eb
          rw [upd_ne (ne_of_none eb nDD)]
          exact s610 _ _ (s6 _ _ eb)
        · rw [List.take_add_one, er, List.map_append]
          exact paired_snoc (RowV.lst ⟨t10, rfl, ht10⟩ hDD10) (paired_mono (fun _ _ z => RowV.lst (z.same s610) hDD10) pr)
      rintro HE ⟨sDE, ys2, hDD, pr⟩
      rw [lvs, List.take_length] at pr
      have LE := LD.same sDE
      have OE := OD.same sDE
      have hCE := sqT_same sDE hCD
      have hUE := sDE _ _ hU
      refine seq_set ?_
      refine fun E2 nE2 => ?_
      have sE := sameU (o := .dK []) nE2
      have hE2 : (upd HE E2 (.dK [])) E2 = some (.dK []) := upd_same
      have LF := LE.same sE
      refine ⟨.ref U, rfl, .ref d, rfl, d, .str x, rfl, lore_first LF, .ref DD, rfl, ?_⟩
      refine ⟨hE2, [(.inr "units", .ref U), (.inr "first", .str x), (.inr "rows", .ref DD)], rfl, (by show 3 ≤ 15; decide), ?_⟩
      rw [merge3]
      have sF : Same HE (upd (upd HE E2 (.dK [])) E2 (.dK [(.inr "units", .ref U), (.inr "first", .str x), (.inr "rows", .ref DD)])) := fun z o ez => by
        rw [upd_ne (ne_of_none ez nE2), upd_ne (ne_of_none ez nE2)]
        exact ez
      have LB : LoreAt K (upd (upd HE E2 (.dK [])) E2 (.dK [(.inr "units", .ref U), (.inr "first", .str x), (.inr "rows", .ref DD)])) E2 U DD b "down" x ys2 (qs.map bareQ) :=
        ⟨upd_same, SqT.of (sF _ _ hUE), sF _ _ hDD, paired_mono (fun _ _ z => RowV.same z sF) pr⟩
      have OF1 := OE.same sF
      have hCF := sqT_same sF hCE
      have s0 := (sU.trans sDE).trans sF
      generalize L2.upd (L2.upd HE E2 (.dK [])) E2 (.dK [(.inr "units", .ref U), (.inr "first", .str x), (.inr "rows", .ref DD)]) = HF at LB OF1 hCF s0 ⊢
      refine ret_in ?_
      refine ⟨.ref a, rfl, .ref E2, rfl, ?_⟩
      dsimp only [tNil]
      refine (text_in LB PB fun G2 r2 => mkP_in PB fun G3 a3 dx3 u3 d3 e3 r3 O3 => ?_)
      have r13 := r2.trans r3
      refine ⟨.ref CC, rfl, mkTD_in O3 TR2 (sqT_same r13 hCF) fun G4 tf dtf Mf r4 OF => ?_⟩
      have r14 := r13.trans r4
      have O4 := OF1.same r14
      refine ⟨a, dx, _, .ref Ct, rfl, O4.at_, tb_is c TT OF.at_, by simp [PySem.W.notFirst], b, "up", x, qs.map mkR, W, cs, a, dx, pa, dp, pu, pd, pe, T, M, .ref tf, rfl, O4, .inr ⟨b, "down", x, _, W2, cs, tf, dtf, a3, dx3, u3, d3, e3, CC, Mf, rfl, OF, .inl ⟨page_unlike hP PB (.inr nh), ?_⟩⟩⟩
      exact ⟨false, rfl, q _ (s0.trans r14)⟩
end
end Uq
namespace Uq
open PySem PySem.Spec PyProof.Rows L2 LamX TL
/-! ### displays by their sizes -/
/-- a tuple of at most so many, each of this size -/
def TupE (k m L : Nat) (d : PyData) : Prop := ∃ ds, d = .tuple ds ∧ ds.length ≤ L ∧ ∀ e ∈ ds, OkE e k m
theorem TupE.ok {k m L : Nat} {d : PyData} (h : TupE k m L d) : OkE d (k + 1) ((m + 1) * L) := by
  obtain ⟨ds, rfl, l, h⟩ := h
  exact (oke_tup h).mono (Nat.le_refl _) (Nat.mul_le_mul_left _ l)
theorem TupE.mono {k m L k' m' L' : Nat} {d : PyData} (h : TupE k m L d) (a : k ≤ k') (b : m ≤ m') (c : L ≤ L') : TupE k' m' L' d := by
  obtain ⟨ds, e, l, h⟩ := h
  exact ⟨ds, e, Nat.le_trans l c, fun x m => (h x m).mono a b⟩
theorem AllS.tup {K : PySem.W.Frag} {H : Hp} {k m L : Nat} {t : Addr} {xs : List V} (h : SqT K H t xs) (a : AllS K H (fun d => OkE d k m) xs) (l : xs.length ≤ L) : ∃ d, Dx K H (.ref t) d ∧ TupE k m L d := by
  obtain ⟨es, he, le, ge⟩ := a.some
  exact ⟨.tuple es, .tup h he, es, rfl, by omega, ge⟩
theorem tupE_inv {K : PySem.W.Frag} {H : Hp} {k m L : Nat} {v : V} {d : PyData} (h : Dx K H v d) (s : TupE k m L d) : ∃ t xs, v = .ref t ∧ SqT K H t xs ∧ AllS K H (fun d => OkE d k m) xs ∧ xs.length ≤ L := by
  obtain ⟨ds, rfl, l, g⟩ := s
  cases h with
  | tup hs ha => exact ⟨_, _, rfl, hs, AllS.of ha g, by rw [ha.length]; exact l⟩
section
variable {K : PySem.W.Frag} {N : List Addr} {p : Addr} {c c1 c2 : Nat} {σ : L2.St} {H0 : Hp} {k m L L1 L2 n : Nat}
theorem dsp_cat {t1 t2 : TE} (h1 : DispN K N p c c1 σ H0 t1 (TupE k m L1)) (h2 : DispN K N p c1 c2 σ H0 t2 (TupE k m L2)) (hz : L1 + L2 ≤ sizeLine := by decide) : DispN K N p c c2 σ H0 (tOp (rCatA K) t1 t2) (TupE k m (L1 + L2)) := by
  intro H Q hB hP q
  refine h1 H _ hB hP fun v H1 d1 e1 hB1 hP1 x1 => ?_
  refine h2 H1 _ (hB.trans hB1) hP1 fun u H2 d2 e2 hB2 hP2 x2 => ?_
  obtain ⟨a, xs, rfl, ha, aa, la⟩ := tupE_inv (x1.same (hB2.offs hP.mem)) e1
  obtain ⟨b, ys, rfl, hb, ab, lb⟩ := tupE_inv x2 e2
  refine catA_inV hP2 ha hb (by omega) fun H3 t s3 ht => ?_
  have so := (But.of (p := p) s3).offs hP.mem
  obtain ⟨d, hd, td⟩ := AllS.tup (L := L1 + L2) ht ((aa.same so).app (ab.same so)) (by rw [List.length_append]; omega)
  exact q _ _ d td ((hB1.trans hB2).trans (But.of s3)) (hP2.same s3) hd
theorem dsp_cut1 {t1 : TE} {j : Int} (h1 : DispN K N p c c1 σ H0 t1 (TupE k m L)) : DispN K N p c c1 σ H0 (tSl (rSlA K) t1 (tPart (tC (.int j))) tNoPart) (TupE k m L) := by
  intro H Q hB hP q
  refine h1 H _ hB hP fun v H1 d1 e1 hB1 hP1 x1 => ?_
  obtain ⟨a, xs, rfl, ha, aa, la⟩ := tupE_inv x1 e1
  refine ⟨j, rfl, slA_inVN hP1 ha fun H3 t s3 ht => ?_⟩
  have so := (But.of (p := p) s3).offs hP.mem
  have := cutV_length xs (some j) none
  obtain ⟨d, hd, td⟩ := AllS.tup (L := L) ht ((aa.same so).sub cut_mem) (by omega)
  exact q _ _ d td (hB1.trans (But.of s3)) (hP1.same s3) hd
/-- t[:-1] -/
theorem dsp_cutL {t1 : TE} (h1 : DispN K N p c c1 σ H0 t1 (TupE k m L)) : DispN K N p c c1 σ H0 (tSl (rSlA K) t1 tNoPart (tPart (tUn (rU fun i => .int (-i)) (tC (.int 1))))) (TupE k m L) := by
  intro H Q hB hP q
  refine h1 H _ hB hP fun v H1 d1 e1 hB1 hP1 x1 => ?_
  obtain ⟨a, xs, rfl, ha, aa, la⟩ := tupE_inv x1 e1
  refine ⟨1, rfl, -1, rfl, slA_inV hP1 ha fun H3 t s3 ht => ?_⟩
  have so := (But.of (p := p) s3).offs hP.mem
  have := cutV_length xs none (some (-1))
  obtain ⟨d, hd, td⟩ := AllS.tup (L := L) ht ((aa.same so).sub cut_mem) (by omega)
  exact q _ _ d td (hB1.trans (But.of s3)) (hP1.same s3) hd
theorem flat_mem {α : Type} {xs : List α} {n : Nat} : ∀ y ∈ (List.replicate n xs).flatten, y ∈ xs := fun y m => by
  obtain ⟨l, ml, my⟩ := List.mem_flatten.mp m
  rw [(List.mem_replicate.mp ml).2] at my
  exact my
theorem repA_inV {H : Hp} {l : Addr} {xs : List V} {j : Nat} {Q : VK} (hP : PotN N H p c) (hx : SqT K (offs N H) l xs) (j1 : 1 ≤ j) (j2 : j ≤ 1000) (hl : xs.length ≤ 1000) (h : ∀ H' t, Same H H' → SqT K (offs N H') t (List.replicate j xs).flatten → Q (.ref t) H') : rRepT1 K (.ref l) (.int j) H Q := by
  refine ⟨l, j, xs, rfl, rfl, sqT_same offs_sub hx, by omega, by omega, hl, fun e => ?_, fun _ t nt => h _ _ (sameU nt) (sqT_nin (hP.nin nt) ?_)⟩
  · refine h _ _ (fun _ _ e => e) ?_
    have z : (List.replicate j xs).flatten = xs := by
      rcases e with rfl | e
      · simp
      · obtain rfl : j = 1 := by omega
        simp
    rw [z]
    exact hx
  · rw [Int.toNat_natCast]
    exact SqT.of upd_same
theorem dsp_listN {t1 : TE} (h1 : DispN K N p c c1 σ H0 t1 (TupE k m L)) : DispN K N p c c1 σ H0 (tCB (fun xs H Q => ∃ p ys, xs = [.ref p] ∧ SqT K H p ys ∧ ∀ l, H l = none → l ≠ sysModules → Q (.ref l) (upd H l (.lst ys))) (tCons t1 tNil)) (fun d => OkE d (k + 1) ((m + 1) * L)) := by
  intro H Q hB hP q
  refine cb_in (h1 H _ hB hP fun v H1 d1 e1 hB1 hP1 x1 => ?_)
  obtain ⟨a, xs, rfl, ha, aa, la⟩ := tupE_inv x1 e1
  refine ⟨a, xs, rfl, sqT_same offs_sub ha, fun l nl ns => ?_⟩
  have so := ((But.refl p H1).new nl (o := .lst xs)).offs hP.mem
  obtain ⟨es, he, le, ge⟩ := aa.some
  exact q _ _ (.list es) ((oke_lst ge).mono (Nat.le_refl _) (Nat.mul_le_mul_left _ (by omega))) (hB1.new nl) (hP1.new nl) (.lst (by rw [offs_ne (hP1.nin nl)]; exact upd_same) ns (he.same so))
theorem dsp_tupN {ta : TA} (h : DispNA K N p c c1 σ H0 ta (AllN n (fun d => OkE d k m))) (hz : n ≤ sizeLine := by decide) : DispN K N p c c1 σ H0 (tTup ta) (TupE k m n) := dsp_tupS h fun ds hd => ⟨by rw [hd.1]; exact hz, ds, rfl, by rw [hd.1]; exact Nat.le_refl _, hd.2⟩
theorem TupE.row {d : PyData} (h : TupE k m L d) {k' m' : Nat} (a : k + 1 ≤ k') (b : (m + 1) * L ≤ m') : OkE d k' m' := h.ok.mono a b
end
instance (d : PyData) : Decidable (Shows d) := by
  unfold Shows
  infer_instance
end Uq
namespace Uq
open PySem PySem.Spec PyProof.Rows L2 LamX TL
/-! ### the law of one page -/
def Vd (d : PyData) : Prop := Shows d ∧ d.leavesShort 13 = true
instance (d : PyData) : Decidable (Vd d) := by
  unfold Vd
  infer_instance
theorem odds_vd : ∀ d ∈ odds, Vd d := by decide +kernel
theorem vd_of {d : PyData} {k n : Nat} (h : OkE d k n) (hk : k ≤ 60) (hn : n ≤ 2 ^ 20) : Vd d := ⟨okd_shows h.ok hk hn, h.ok.lea⟩
theorem vd_tup {d : PyData} {L : Nat} (h : TupE 0 0 L d) (l : L ≤ 1000) : Vd d := vd_of h.ok (by decide) (by omega)
theorem leaf_le {c : Int} (h : (toString c).length ≤ 13) : c ≤ 10 ^ 13 := by
  cases c with
  | ofNat n =>
    have z := (Nat.length_repr_le_iff (n := n) (k := 13) (by decide)).mp h
    show ((n : Nat) : Int) ≤ 10 ^ 13
    omega
  | negSucc n =>
    have := Int.negSucc_lt_zero n
    omega
theorem leaves_all : ∀ {cs : List Int}, PyData.leavesShortAll 13 (cs.map PyData.int) = true → ∀ c ∈ cs, c ≤ 10 ^ 13
  | [], _, _, m => nomatch m
  | x :: cs, h, c, m => by
    rw [List.map_cons, PyData.leavesShortAll, Bool.and_eq_true] at h
    rcases List.mem_cons.mp m with rfl | m
    · have z := h.1
      have z2 : decide ((PyData.shown (.int c)).length ≤ 13) = true := z
      have z3 := of_decide_eq_true z2
      rw [show (PyData.shown (.int c)).length = (toString c).length from PySem.ofString_length _] at z3
      exact leaf_le z3
    · exact leaves_all h.2 c m
theorem sum_leM {M : Int} : ∀ {cs : List Int}, (∀ c ∈ cs, c ≤ M) → cs.sum ≤ cs.length * M
  | [], _ => by simp
  | c :: cs, h => by
    have a := h c List.mem_cons_self
    have b := sum_leM (cs := cs) fun x m => h x (List.mem_cons_of_mem _ m)
    rw [List.sum_cons, List.length_cons, show (((cs.length + 1 : Nat)) : Int) * M = (cs.length : Int) * M + M by rw [Int.natCast_add, Int.add_mul]; simp]
    omega
theorem vd_sum {cs : List Int} (h : Vd (.tuple (cs.map PyData.int))) (l : cs.length ≤ 6) : cs.sum ≤ 10 ^ 14 := by
  have a : PyData.leavesShortAll 13 (cs.map PyData.int) = true := by
    have z := h.2
    rw [PyData.leavesShort] at z
    exact z
  have b := sum_leM (leaves_all a)
  have l6 : (cs.length : Int) ≤ 6 := by omega
  have c : (cs.length : Int) * 10 ^ 13 ≤ 6 * 10 ^ 13 := Int.mul_le_mul_of_nonneg_right l6 (by decide)
  omega
section
variable {K : PySem.W.Frag} {N : List Addr} {p : Addr} {c c1 c2 : Nat} {σ : L2.St} {H0 : Hp} {k m L : Nat}
theorem dsp_repL {t1 t2 : TE} {j : Nat} (h1 : DispN K N p c c1 σ H0 t1 (TupE k m L)) (h2 : ∀ H Q, But p H0 H → PotN N H p c1 → Q (.int j) H → t2 σ H Q) (j1 : 1 ≤ j) (j2 : j ≤ 1000) (hL : L ≤ 1000) : DispN K N p c c1 σ H0 (tOp (rRepT1 K) t1 t2) (TupE k m (j * L)) := by
  intro H Q hB hP q
  refine h1 H _ hB hP fun v H1 d1 e1 hB1 hP1 x1 => h2 _ _ (hB.trans hB1) hP1 ?_
  obtain ⟨a, xs, rfl, ha, aa, la⟩ := tupE_inv x1 e1
  refine repA_inV hP1 ha j1 j2 (by omega) fun H3 t s3 ht => ?_
  have so := (But.of (p := p) s3).offs hP.mem
  obtain ⟨d, hd, td⟩ := AllS.tup (L := j * L) ht ((aa.same so).sub flat_mem) (by
    rw [PyProof.Rows.lm_len_rep_flat]
    exact Nat.mul_le_mul_left _ la)
  exact q _ _ d td (hB1.trans (But.of s3)) (hP1.same s3) hd
end
theorem sqT_offP {K : PySem.W.Frag} {p a : Addr} {c : Nat} {H : Hp} {xs : List V} (hp : Pot H p c) (h : SqT K H a xs) : SqT K (offs [p] H) a xs := by
  obtain ⟨o, sd, n, h0, _⟩ := hp
  have k : ∀ x, H a = some x → (∀ ys, x ≠ .lst ys) → offs [p] H a = some x := fun x e z => by
    rw [offs_ne (fun m => by
      rw [List.mem_singleton.mp m, h0] at e
      exact z _ (Option.some.inj e).symm)]
    exact e
  rcases h with (h | ⟨ob, h⟩) | h
  · exact .inl (.inl (k _ h fun _ z => by cases z))
  · exact .inl (.inr ⟨ob, k _ h fun _ z => by cases z⟩)
  · exact .inr h
theorem sum_leN {n : Int} : ∀ {cs : List Int}, (∀ c ∈ cs, 0 ≤ c ∧ c ≤ n) → cs.sum ≤ cs.length * n
  | [], _ => by simp
  | c :: cs, h => by
    have a := sum_leN (cs := cs) fun k m => h k (List.mem_cons_of_mem _ m)
    have b := h c List.mem_cons_self
    rw [List.sum_cons, List.length_cons, Int.natCast_add, Int.add_mul]
    omega
theorem slA_inN {K : PySem.W.Frag} {H : Hp} {C : Addr} {xs : List V} {lo : Option Int} {Q : VK} {σ : L2.St} (hx : SqT K H C xs) (h : ∀ H' t, Same H H' → SqT K H' t (cutV xs lo none) → Q (.ref t) H') : tNoPart σ H fun u H3 => rSlA K (.ref C) lo u H3 Q := slA_in hx h
def WLc : List Str := []
theorem wlc : Words WLc := by
  refine ⟨?_, ?_, ?_, ?_⟩ <;> decide +kernel
def sp_law_rightX (K : PySem.W.Frag) (Pn Pj : Addr) : Sp := fun vs H Q _ => ∃ (p : Addr) (c : Nat), vs = [.ref p] ∧ Pot H p c ∧ c + 500 < 90000 ∧ Tabs (TLs Pn Pj) H ∧ ∀ H', ButN p H H' → Pot H' p (c + 500) → Tabs (TLs Pn Pj) H' → Q (.bl true) H'
section
variable {P : Program} {w : World} {K : PySem.W.Frag} {mg : Str → Option Value} {base : Heap} {C Ct BC Pn Pj : Addr}
theorem ok_law_right (cP : PgC K C) (TP : PgT K C) {fI : Addr} {dfI : FuncData} (M : Mk K C fI) (FI : FnOk P w K mg base CX0 6 fI dfI ["self", "text"] (sp_Page__init_ K C)) (bI : Binds K dfI ["self", "text"] []) (gC : mg "Page" = some (.ref C)) (c : TbC K Ct) (TT : PgT K Ct) (NT : NeC K Ct) {fT : Addr} {dfT : FuncData} (MT : Mk K Ct fT) (FT : FnOk P w K mg base (L2.CX P w) 5 fT dfT ["self", "page", "counts"] (sp_Table_initD K C Ct BC)) (bT : Binds K dfT ["self", "page", "counts"] []) (gT : mg "Table" = some (.ref Ct))
    {fE : Addr} {dfE : FuncData} (dE : Dun K Ct fE "__eq__") (FE : FnOk P w K mg base CX0 2 fE dfE ["self", "other"] (sp_Table_eqX K C Ct)) (bE : Binds K dfE ["self", "other"] []) (kTup : PySem.W.kitOne K (.type "tuple") (.ref Ct) = some false) (kNon : PySem.W.kitOne K (.type "NoneType") (.ref Ct) = some false) (kPg : PySem.W.kitOne K (.ref C) (.ref Ct) = some false) (nPg : PySem.W.notFirst K Ct (.ref C) = true) (nTup : PySem.W.notFirst K Ct (.type "tuple") = true) (nNon : PySem.W.notFirst K Ct (.type "NoneType") = true)
    {f : Addr} {fd : FuncData} (F : Fun K "_law_right" "_law_right" s_law_right f fd) (m_list : mg "list" = none) (m_len : mg "len" = none) (m_range : mg "range" = none) (c_law_text : Cal P w K mg base 2 "_law_text" ["_law_lore_here"] (sp_law_text K)) (c_law_lore : Cal P w K mg base 6 "_law_lore" ["_law_pot_here", "_law_shapes_here", "_law_most", "_law_size"] (sp_law_lore K)) (c_law_shapes : Cal P w K mg base 1 "_law_shapes" [] (sp_law_shapes K)) (c_law_is_told : CalG P w K mg base 8 "_law_is_told" ["_law_lore_here", "_law_counts", "_law_page", "_law_table"] (sp_law_is_told K C Ct)) (c_law_names_right : CalG P w K mg base 13 "_law_names_right" ["_law_pot_here", "_law_lore_here", "_law_table"] (sp_law_names_right K C Ct Pn Pj)) (c_law_odd : Cal P w K mg base 3 "_law_odd" ["_law_pot_here"] (sp_law_oddN K)) (c_law_bent : Cal P w K mg base 5 "_law_bent" ["_law_pot_here", "_law_value"] (sp_law_bentN WLc 1 K)) (c_law_is_judged : CalG P w K mg base 12 "_law_is_judged" ["_law_lore_here", "_law_page", "_law_value"] (sp_law_is_judged K C Ct Pn Pj)) (c_law_is_other : Cal P w K mg base 8 "_law_is_other" ["_law_lore_here", "_law_counts", "_law_table"] (sp_law_is_other K C Ct)) : FnG P w K mg base 14 f fd ["_law_pot_here"] (sp_law_rightX K Pn Pj) := by
  refine Fun_okG F sc_law_right (fun vs H Q E h => ?_) (fun cdv A outer s H vs Q E hg hr h => ?_)
  · obtain ⟨p, c0, rfl, _⟩ := h
    rfl
  · refine ⟨_, (pss_cons (ps_asg (pe_call c_law_lore.G (hr.mono (by decide)) (by rfl) c_law_lore.g c_law_lore.kp c_law_lore.b .nil pass0 (pa_cons (pv 0) (pa_cons (pe_call0 c_law_shapes.G (hr.mono (by decide)) (by rfl) c_law_shapes.g c_law_shapes.kp c_law_shapes.b .nil pass0) (pa_cons pe_int (pa_cons pe_int pa_nil))))) (pg_tup rfl (pgs_cons (pg_name (i := 1) sc_law_right.nd rfl (.inl rfl)) (pgs_cons (pg_name (i := 2) sc_law_right.nd rfl (.inr rfl)) pgs_nil))))
      (pss_cons (ps_set (i := 3) sc_law_right.nd rfl (.inl rfl) (pe_make M FI (hr.mono (by decide)) (by rfl) gC bI .nil pass0 (pa_cons (pe_call c_law_text.G (hr.mono (by decide)) (by rfl) c_law_text.g c_law_text.kp c_law_text.b .nil pass0 (pa_cons (pv 1) pa_nil)) pa_nil)))
      (pss_cons (ps_par (i := 4) (j := 5) (by rfl) sc_law_right.nd rfl rfl (by decide) rfl rfl (pa_cons (pe_make MT FT (hr.mono (by decide)) (by rfl) gT bT .nil passL (pa_cons (pv 3) (pa_cons (pv 2) pa_nil))) (pa_cons (pe_op (r := rCatA K) op_catA (pe_tup (pa_cons (pe_op op_add (pe_ix ix_tup (pv 2) pe_int (fun _ _ => rfl)) pe_int) pa_nil)) (pe_slice (r := rSlA K) sl_tupA (pv 2) (po_some pe_int) po_none)) pa_nil)) (by rfl))
      (pss_cons (ps_if (PW.pt (pw_or (pt_not (pt_val (pe_callG c_law_is_told.G hg (hr.mono (by decide)) (by rfl) c_law_is_told.g c_law_is_told.kp c_law_is_told.b (pa_cons (pv 1) (pa_cons (pv 2) (pa_cons (pv 3) (pa_cons (pv 4) pa_nil))))))) (pw_or1 (pt_not (pt_val (pe_callG c_law_names_right.G hg (hr.mono (by decide)) (by rfl) c_law_names_right.g c_law_names_right.kp c_law_names_right.b (pa_cons (pv 0) (pa_cons (pv 1) (pa_cons (pv 4) pa_nil))))))))) (pss_one (ps_ret pe_bl)) pss_nil)
      (pss_cons (ps_set (i := 6) sc_law_right.nd rfl (.inl rfl) (pe_lst (pa_cons (pv 2) (pa_cons (pe_op op_repA (pe_tup (pa_cons pe_int pa_nil)) (pe_callB call_len_seq (by rfl) m_len (by decide +kernel) (pa_cons (pv 2) pa_nil))) (pa_cons (pe_op (r := rCatA K) op_catA (pv 2) (pe_tup (pa_cons pe_int pa_nil))) (pa_cons (pe_slice (r := rSlA K) sl_tupA (pv 2) (po_some pe_int) po_none) (pa_cons (pe_callTy call_listN (by rfl) m_list (by decide +kernel) (pa_cons (pv 2) pa_nil)) (pa_cons (pe_tup pa_nil) (pa_cons pe_non (pa_cons pe_int (pa_cons (pe_op (r := rCatA K) op_catA (pe_tup (pa_cons pe_bl pa_nil)) (pe_slice (r := rSlA K) sl_tupA (pv 2) (po_some pe_int) po_none)) pa_nil)))))))))))
      (pss_cons (ps_set (i := 6) sc_law_right.nd rfl (.inl rfl) (pe_op op_cat (pv 6) (pe_lst (pa_cons (pe_op op_repA (pe_tup (pa_cons (pe_op op_powW pe_int pe_int) pa_nil)) (pe_callB call_len_seq (by rfl) m_len (by decide +kernel) (pa_cons (pv 2) pa_nil))) (pa_cons (pe_op (r := rCatA K) op_catA (pe_slice (r := rSlA K) sl_tupA (pv 2) po_none (po_some (pe_un un_neg pe_int))) (pe_tup (pa_cons (pe_un un_neg pe_int) pa_nil))) (pa_cons (pe_call c_law_odd.G (hr.mono (by decide)) (by rfl) c_law_odd.g c_law_odd.kp c_law_odd.b .nil pass0 (pa_cons (pv 0) pa_nil)) pa_nil))))))
      (pss_cons (ps_for PassesOwn.never rfl (pi_list (pe_op op_cat (pv 6) (pe_lc (own := [("_law_lap", 8)]) (g := gName 8) rfl sc_law_right.nd (pi_range1 (by rfl) m_range (pa_cons pe_int pa_nil)) (blkOk_by (own := [("_law_lap", 8)]) (N := N_law_right) (sc := defScope s_law_right) (by decide +kernel)) (fun _ _ _ _ _ => (pg_name (i := 8) sc_law_right.nd rfl (.inl rfl))) (fun _ _ _ _ _ => pts_nil) (fun _ _ _ _ _ => (pe_call c_law_bent.G (hr.mono (by decide)) (by rfl) c_law_bent.g c_law_bent.kp c_law_bent.b .nil pass0 (pa_cons (pv 0) (pa_cons (pv 2) pa_nil))))))) (pg_name (i := 7) sc_law_right.nd rfl (.inl rfl))
        (pss_one (ps_if (pt_not (pt_val (pe_callG c_law_is_judged.G hg (hr.mono (by decide)) (by rfl) c_law_is_judged.g c_law_is_judged.kp c_law_is_judged.b (pa_cons (pv 1) (pa_cons (pv 3) (pa_cons (pv 7) pa_nil)))))) (pss_one (ps_ret pe_bl)) pss_nil)))
      (pss_cons (ps_if (PW.pt (pw_or (pt_not (pt_cmpR (op_eqA dE FE (hr.mono (by decide)) bE) (pv 4) (pe_make MT FT (hr.mono (by decide)) (by rfl) gT bT .nil passL (pa_cons (pv 3) (pa_cons (pv 2) pa_nil))) (nomark _))) (pw_or (pt_cmpR (op_neA NT dE FE (hr.mono (by decide)) bE) (pv 4) (pe_make MT FT (hr.mono (by decide)) (by rfl) gT bT .nil passL (pa_cons (pv 3) (pa_cons (pv 2) pa_nil))) (nomark _)) (pw_or1 (pt_cmpR (op_eqA dE FE (hr.mono (by decide)) bE) (pv 4) (pe_make MT FT (hr.mono (by decide)) (by rfl) gT bT .nil passL (pa_cons (pv 3) (pa_cons (pv 5) pa_nil))) (nomark _)))))) (pss_one (ps_ret pe_bl)) pss_nil)
      (pss_cons (ps_if (PW.pt (pw_or (pt_cmpR (op_eqA dE FE (hr.mono (by decide)) bE) (pv 4) (pv 2) (nomark _)) (pw_or (pt_cmpR (op_eqA dE FE (hr.mono (by decide)) bE) (pv 4) (pv 3) (nomark _)) (pw_or1 (pt_not (pt_cmpR (op_neA NT dE FE (hr.mono (by decide)) bE) (pv 4) pe_non (nomark _))))))) (pss_one (ps_ret pe_bl)) pss_nil)
      (pss_one (ps_ret (pe_call c_law_is_other.G (hr.mono (by decide)) (by rfl) c_law_is_other.g c_law_is_other.kp c_law_is_other.b .nil pass0 (pa_cons (pv 1) (pa_cons (pv 2) (pa_cons (pv 4) pa_nil))))))))))))))), ?_⟩
    obtain ⟨p, c0, rfl, hp, hc, TA, q⟩ := h
    refine ⟨.ref p, rfl, rfl, fun H1 S xs s1 nS hS hxs => ?_⟩
    have hp1 := hp.same s1
    have nSp : S ≠ p := fun e => hp.some (e ▸ nS)
    refine ⟨p, S, c0, 12, 6, xs, shapes, rfl, hp1, by omega, nSp, SqL.of hS, paired_mono (fun _ _ ⟨a, e1, e2, e3⟩ => ⟨a, e1, fun e => hp.some (e ▸ e2), e3⟩) hxs, by decide, by decide, shapes_shpL, by decide, by decide, by decide, by decide, fun H4 t d u R D b h x vs qs ns sh cs hB4 hP4 ht nRp L b0 bm hh ms RO ln nd hn hx hsh hro hC kc => ?_⟩
    have b1 : b ≤ 12 := by omega
    refine ⟨t, _, rfl, SqT.of ht, rfl, _, _, rfl, _, _, rfl, rfl, ?_⟩
    have RW : RowsOf Rw.nm Rw.ab ns sh (qs.map mkR) := rowsOf_map.mpr RO
    have hP : Pg b h x (qs.map mkR) := pg_of RW (shapes_shpL sh ms) nd hn ln hx (fun r m => by
      obtain ⟨q, mq, rfl⟩ := List.mem_map.mp m
      exact opts_can (hsh q mq).1 (hsh q mq).2) b0 (by omega) hh
    have BH4 : But p H H4 := (But.of s1).trans hB4
    obtain ⟨W, Y⟩ := wys_some hP.good
    have csum := sum_leN (n := 6) fun k m => kc.nat k m
    have l6 : cs.length ≤ 6 := by
      rw [kc.len, endsL_ends]
      exact (last_end hP).2
    have cs36 : cs.sum ≤ 1000 := Int.le_trans csum (by omega)
    have ok : CsOk x qs cs := ⟨kc.len, fun k m => (kc.nat k m).1, kc.some, by omega⟩
    have TR := tbR_of hP Y ok
    have T4 := tabs_but TA hp BH4
    have xp : x ∈ pool := hn x (List.mem_of_getElem? hx)
    obtain ⟨k0, ks, ecs⟩ : ∃ k0 ks, cs = k0 :: ks := by
      rcases cs with _ | ⟨k0, ks⟩
      · exact absurd kc.some (by decide)
      · exact ⟨k0, ks, rfl⟩
    have n1 : 1 ≤ cs.length := by
      rw [ecs]
      show 1 ≤ ks.length + 1
      omega
    dsimp only
    refine seq_set ?_
    refine ⟨.ref d, rfl, ?_⟩
    dsimp only [tNil]
    refine (text_in L hP fun H5 s5 => mkP_in hP fun G6 a1 dx1 u1 d1 e1 s6 O1 => ?_)
    have s46 := s5.trans s6
    have hC6 := sqT_same s46 hC
    refine ⟨.ref a1, rfl, .ref D, rfl, mkTD_in O1 TR hC6 fun G7 tb dtb M1 s7 OT => ?_⟩
    have hC7 := sqT_same s7 hC6
    refine ⟨.ref D, rfl, D, _, 0, .int k0, rfl, rfl, hC7, atI_nat (j := 0) (by rw [ecs]; rfl), k0, 1, rfl, rfl, by show 1 ≤ sizeLine; decide, fun Y8 nY8 => ?_⟩
    have s8 := sameU (o := .tup [.int (k0 + 1)]) nY8
    refine ⟨.ref D, rfl, 1, rfl, ?_⟩
    dsimp only
    refine slA_inN (sqT_same s8 hC7) fun H9 t9 s9 ht9 => ?_
    rw [cut_one (by rw [List.length_map]; exact n1), ecs] at ht9
    refine catA_in (sqT_same s9 (SqT.of (H := upd G7 Y8 (.tup [.int (k0 + 1)])) upd_same)) ht9 (by show 1 + (ks.map V.int).length ≤ sizeLine; rw [List.length_map]; exact Nat.le_of_lt (small1000 (by rw [ecs] at l6; have : ks.length + 1 ≤ 6 := l6; omega))) fun HA tm s10 htm => ?_
    have sA := (s8.trans s9).trans s10
    have s4A := (s46.trans s7).trans sA
    have hPA := hP4.same s4A
    have hCA := sqT_same sA hC7
    have LA := L.same s4A
    have OA := O1.same (s7.trans sA)
    have OTA := OT.same sA
    have T_A := tabs_same T4 s4A
    have BA := BH4.trans (But.of (p := p) s4A)
    have hMA : SqT K HA tm (((k0 + 1) :: ks).map V.int) := htm
    clear htm s10 ht9 s9 nY8 s8 hC7 OT s7 hC6 s46 O1 s6 s5 T4 BH4 hC hP4 hB4 L ht s4A sA
    refine ⟨_, _, rfl, ?_⟩
    have OBX := OTA
    refine ⟨.ref d, rfl, .ref D, rfl, .ref a1, rfl, .ref tb, rfl, d, u, R, D, b, h, x, vs, qs, cs, W, tb, dtb, a1, dx1, u1, d1, e1, D, M1, rfl, LA, hP, Y, hCA, OTA, TR, by omega, fun HB sB => ?_⟩
    refine ⟨true, rfl, iteF ?_⟩
    refine ⟨.ref p, rfl, .ref d, rfl, .ref tb, rfl, p, c0 + 200, d, u, R, b, h, x, vs, qs, W, cs, tb, dtb, a1, dx1, u1, d1, e1, D, M1, rfl, hPA.same sB, by omega, nRp, LA.same sB, hP, xp, OTA.same sB, TR, tabs_same T_A sB, fun Hm HC Bm eC hPC T_C => ?_⟩
    refine ⟨true, rfl, iteF ?_⟩
    refine next_in ?_
    have hPB := hPA.same sB
    have hCC := sqT_ext eC (sqT_pot (sqT_same sB hCA) hPB Bm)
    have hMC := sqT_ext eC (sqT_pot (sqT_same sB hMA) hPB Bm)
    have LC := ((LA.same sB).pot hPB Bm nRp).ext eC
    have OC := ((OA.same sB).pot hPB Bm).ext eC
    have OTC := ((OTA.same sB).pot hPB Bm).ext eC
    have BC_ : ButN p H HC := (ButN.of (BA.trans ((But.of (p := p) sB).trans Bm))).trans (ButN.ext eC)
    clear hPB Bm eC sB OBX hMA BA T_A OTA OA LA hCA hPA
    have PNC : PotN [p] HC p (c0 + 200 + 2) := ⟨hPC, .head _, fun b mb => by
      rw [List.mem_singleton.mp mb]
      exact hPC.some⟩
    have hTup : TupE 0 0 6 (.tuple (cs.map PyData.int)) := ⟨_, rfl, by rw [List.length_map]; exact l6, fun e me => by
      obtain ⟨i, mi, rfl⟩ := List.mem_map.mp me
      have := kc.nat i mi
      exact oke_int (by omega)⟩
    have btC : Bt WLc 1 (.tuple (cs.map PyData.int)) := .inr ⟨_, rfl, by rw [List.length_map]; omega, fun e me => by
      obtain ⟨i, mi, rfl⟩ := List.mem_map.mp me
      have := kc.nat i mi
      exact .inl ⟨i, rfl, by omega⟩⟩
    have hDo := sqT_offP hPC hCC
    have hCD : Dx K (offs [p] HC) (.ref D) (.tuple (cs.map PyData.int)) := .tup hDo (dxI cs)
    refine seq_set (lst_in (dspA_use (K := K) (N := [p]) (c1 := c0 + 200 + 2) (S := AllN 9 Vd) (dsp_n (dsp_var rfl hCD hTup) (dsp_n (dsp_repL (j := cs.length) (dsp_tupN (k := 0) (m := 0) (dsp_n (dsp_c (v := .int 0) (d := .int 0) fun _ => .int 0) dsp_0 (fun d e => by rw [e]; exact oke_int (by decide)))) (fun H Q hB hP q => ⟨.ref D, rfl, D, _, rfl, .inr (sqT_same offs_sub (sqT_same (hB.offs (.head _)) hDo)), by rw [List.length_map]; exact q⟩) n1 (by omega) (by decide)) (dsp_n (dsp_cat (dsp_var rfl hCD hTup) (dsp_tupN (k := 0) (m := 0) (dsp_n (dsp_c (v := .int 1) (d := .int 1) fun _ => .int 1) dsp_0 (fun d e => by rw [e]; exact oke_int (by decide)))) (by decide)) (dsp_n (dsp_cut1 (dsp_var rfl hCD hTup)) (dsp_n (dsp_listN (dsp_var rfl hCD hTup)) (dsp_k (dsp_tup dsp_nil) (dsp_k (dsp_c (v := .non) (d := .none) fun _ => .non) (dsp_k (dsp_c (v := .int 7) (d := .int 7) fun _ => .int 7) (dsp_n (dsp_cat (dsp_tupN (k := 0) (m := 0) (dsp_n (dsp_c (v := .bl true) (d := .bool true) fun _ => .bl true) dsp_0 (fun d e => by rw [e]; exact oke_bool _))) (dsp_cut1 (dsp_var rfl hCD hTup)) (by decide)) dsp_0 (fun _ h => vd_tup h (by omega))) (by decide +kernel)) (by decide +kernel)) (by decide +kernel)) (fun _ h => vd_of h (by decide) (by decide))) (fun _ h => vd_tup h (by omega))) (fun _ h => vd_tup h (by omega))) (fun _ h => vd_tup h (by omega))) (fun _ h => vd_tup h (by omega))) PNC fun xs G1 ds e B1 hP1 hx1 => ⟨by rw [hx1.length, e.1]; decide, fun l1 nl1 => ?_⟩))
    have nl1p : l1 ≠ p := hP1.ne nl1
    have PN1 := hP1.new nl1 (o := .lst xs)
    have hL1 : (upd G1 l1 (.lst xs)) l1 = some (.lst xs) := upd_same
    have B1' : But p HC (upd G1 l1 (.lst xs)) := B1.new nl1
    have aX := (AllS.of hx1 e.2).same (((But.refl p G1).new nl1 (o := .lst xs)).offs hP1.mem)
    have lx : xs.length = 9 := hx1.length.trans e.1
    have hCD0 := hCD
    have hDo0 := hDo
    have hCD := hCD0.same (B1'.offs (.head _))
    have hDo := sqT_same (B1'.offs (N := [p]) (.head _)) hDo0
    generalize (upd G1 l1 (.lst xs)) = HE at PN1 hL1 B1' aX hCD hDo ⊢
    clear e hx1 hP1 nl1 B1
    refine seq_set ⟨.ref l1, rfl, lst_in (dspA_use (K := K) (N := [p]) (c1 := c0 + 200 + 2 + 1) (S := AllN 3 Vd) (dsp_n (dsp_repL (j := cs.length) (dsp_tupN (k := 0) (m := 0) (dsp_n (dsp_v (v := .int 100000000) (d := .int 100000000) (te := tOp (rI CPowW fun i j => .int (i ^ j.toNat)) (tC (.int 10)) (tC (.int 8))) (fun H Q q => ⟨10, 8, rfl, rfl, powW_ok (j := 8) (n := 8) (by decide) (by decide), q⟩) fun _ => .int 100000000) dsp_0 (fun d e => by rw [e]; exact oke_int (by decide)))) (fun H Q hB hP q => ⟨.ref D, rfl, D, _, rfl, .inr (sqT_same offs_sub (sqT_same (hB.offs (.head _)) hDo)), by rw [List.length_map]; exact q⟩) n1 (by omega) (by decide)) (dsp_n (dsp_cat (dsp_cutL (dsp_var rfl hCD hTup)) (dsp_tupN (k := 0) (m := 0) (dsp_n (dsp_v (v := .int (-1)) (d := .int (-1)) (te := tUn (rU fun i => .int (-i)) (tC (.int 1))) (fun H Q q => ⟨1, rfl, q⟩) fun _ => .int (-1)) dsp_0 (fun d e => by rw [e]; exact oke_int (by decide)))) (by decide)) (dsp_n (dsp_odd rfl (by omega)) dsp_0 odds_vd) (fun _ h => vd_tup h (by omega))) (fun _ h => vd_tup h (by omega))) PN1 fun ys G2 ds e B2 hP2 hx2 => ⟨by rw [hx2.length, e.1]; decide, fun l2 nl2 => ?_⟩)⟩
    have ly : ys.length = 3 := hx2.length.trans e.1
    have B2' : But p HE (upd G2 l2 (.lst ys)) := B2.new nl2
    refine ⟨l1, l2, xs, ys, rfl, rfl, B2' _ _ nl1p hL1, upd_same, by rw [lx, ly]; decide, fun l3 nl3 => ?_⟩
    have P3 := (hP2.new nl2 (o := .lst ys)).new nl3 (o := .lst (xs ++ ys))
    have B3 : But p HE (upd (upd G2 l2 (.lst ys)) l3 (.lst (xs ++ ys))) := B2'.new nl3
    have h3 : (upd (upd G2 l2 (.lst ys)) l3 (.lst (xs ++ ys))) l3 = some (.lst (xs ++ ys)) := upd_same
    have aF : AllS K (offs [p] (upd (upd G2 l2 (.lst ys)) l3 (.lst (xs ++ ys)))) Vd (xs ++ ys) :=
      (aX.same (B3.offs PN1.mem)).app ((AllS.of hx2 e.2).same ((((But.refl p G2).new nl2).new nl3).offs hP2.mem))
    have l3p : l3 ≠ p := (hP2.new nl2 (o := .lst ys)).ne nl3
    have hCD1 := hCD.same (B3.offs (.head _))
    have lz : (xs ++ ys).length = 12 := by rw [List.length_append, lx, ly]
    have BF := B1'.trans B3
    generalize (upd (upd G2 l2 (.lst ys)) l3 (.lst (xs ++ ys))) = HF at P3 h3 aF hCD1 BF ⊢
    generalize xs ++ ys = zs at h3 aF lz ⊢
    clear B3 B2' ly lx nl3 nl2 hx2 e hP2 B2 hCD hDo hCD0 hDo0 aX B1' hL1 PN1
    refine ⟨.ref l3, rfl, 4, rfl, by decide, by decide, fun Z nZ => ?_⟩
    have Zp : Z ≠ p := P3.ne nZ
    have l3Z : l3 ≠ Z := ne_of_none h3 nZ
    have offs_grow : ∀ {H2 : Hp}, But p HF H2 → Same (offs [p] HF) (offs [Z, p] H2) := fun s b o e => by
      by_cases mb : b ∈ [p]
      · rw [offs_in mb] at e
        cases e
      · rw [offs_ne mb] at e
        have bZ : b ≠ Z := ne_of_none e nZ
        have bp : b ≠ p := fun z => mb (by rw [z]; simp)
        rw [offs_ne (fun z => (List.mem_cons.mp z).elim bZ mb)]
        exact s b o bp e
    refine lc_it (walk_range (lo := 0) (n := 4)) (fun i H' => But p HF H' ∧ PotN [Z, p] H' p (c0 + 200 + 2 + 1 + 8 * i) ∧ ∃ ys : List V, H' Z = some (.lst ys) ∧ ys.length = i ∧ AllS K (offs [Z, p] H') Vd ys) ⟨But.of (sameU nZ), P3.grow nZ, [], upd_same, rfl, fun _ h => nomatch h⟩ (fun _ _ _ _ => trivial) ?_ ?_
    · rintro i y H1 H2 hi ⟨hB, hP_, ys, hZ, ly, aY⟩ ⟨rfl, rfl⟩
      refine ⟨rfl, .ref p, rfl, .ref D, rfl, [Z, p], p, _, .ref D, _, rfl, hP_, by omega, hCD1.same (offs_grow hB), btC, fun H3 v' d' c' od hB3 hP3 hc3 hd3 => ?_⟩
      have hZ3 := hB3 _ _ Zp hZ
      refine ⟨_, hZ3, ?_, (hB.trans hB3).offL nZ, (hP3.mono (by omega)).put Zp, ys ++ [v'], upd_same, ?_, ?_⟩
      · rw [ly]
        exact small1000 (by omega)
      · rw [List.length_append, ly]
        rfl
      · rw [offs_upd (.head _)]
        exact (aY.same (hB3.offs hP_.mem)).app (AllS.one hd3 (vd_of od (by decide) (by decide)))
    rintro H1 ⟨hB, hP', ys, hZ, ly, aY⟩
    refine ⟨l3, Z, zs, ys, rfl, rfl, hB _ _ l3p h3, hZ, by rw [lz, ly]; decide, fun LL nLL => ?_⟩
    have aL : AllS K (upd H1 LL (.lst (zs ++ ys))) Vd (zs ++ ys) := (((aF.same (offs_grow hB)).app aY).same (offs_sub (N := [Z, p]))).same (sameU nLL)
    have hLL : (upd H1 LL (.lst (zs ++ ys))) LL = some (.lst (zs ++ ys)) := upd_same
    have BL : But p HC (upd H1 LL (.lst (zs ++ ys))) := (BF.trans hB).new nLL
    have hPL := hP'.pot.new nLL (o := .lst (zs ++ ys))
    have hCL := sqT_pot hCC PNC.pot BL
    have hML := sqT_pot hMC PNC.pot BL
    have LL_ := LC.pot PNC.pot BL nRp
    have OL := OC.pot PNC.pot BL
    have OTL := OTC.pot PNC.pot BL
    have TL_ := tabs_but T_C PNC.pot BL
    have BLp : ButN p H (upd H1 LL (.lst (zs ++ ys))) := BC_.trans (ButN.of BL)
    generalize (upd H1 LL (.lst (zs ++ ys))) = HL at aL hLL BL hPL hCL hML LL_ OL OTL TL_ BLp ⊢
    generalize zs ++ ys = us at aL hLL ⊢
    clear BL nLL aY ly hZ hP' hB offs_grow l3Z Zp nZ BF lz hCD1 l3p aF h3 P3 btC hTup PNC BC_ OTC OC LC hMC hCC hPC T_C
    refine ⟨LL, rfl, ⟨_, SqL.of hLL⟩, ?_⟩
    refine for_it (walk_list (xs := us)) (fun i σ H' => ExtN HL H' ∧ Tabs (TLs Pn Pj) H' ∧ ∃ s5 s7 s8, σ = [some (.ref p), some (.ref d), some (.ref D), some (.ref a1), some (.ref tb), some (.ref tm), s5, s7, s8]) ⟨fun _ _ e _ => e, TL_, _, _, _, rfl⟩ (fun i σ H' _ z => sqL_ext z.1 (SqL.of hLL)) ?_ ?_
    · rintro i y σ G3 G4 hi ⟨sG, TG, s5, s7, s8, rfl⟩ ⟨rfl, hk⟩
      obtain ⟨dy, hdy, gy⟩ := aL y (List.mem_of_getElem? hk)
      refine ⟨.ref d, rfl, .ref a1, rfl, y, rfl, d, u, R, b, h, x, vs, qs, W, a1, dx1, u1, d1, e1, y, dy, rfl, LL_.ext sG, hP, Y, OL.ext sG, Dx.ext sG hdy, gy.1, fun cs' e l => vd_sum (e ▸ gy) l, TG, fun G5 e5 T5 => ?_⟩
      exact ⟨true, rfl, iteF ⟨fun z o ez nt => e5 z o (sG z o ez nt) nt, T5, _, _, _, rfl⟩⟩
    rintro σ G3 ⟨sG, TG, s5, s7, s8, rfl⟩
    have hPE := hPL.extN sG
    have hCE := sqT_ext sG hCL
    have hME := sqT_ext sG hML
    have LE := LL_.ext sG
    have OE := OL.ext sG
    have OTE := OTL.ext sG
    have BE : ButN p H G3 := BLp.trans (ButN.ext sG)
    clear sG aL hLL hPL hCL hML LL_ OL OTL TL_ BLp
    dsimp only
    have TRm : TbR b h x (qs.map mkR) W ((k0 + 1) :: ks) := by
      have hk0 := kc.nat k0 (by rw [ecs]; exact .head _)
      refine ⟨TR.pg, TR.way, ?_, fun c m => ?_, ?_⟩
      · have := TR.len
        rw [ecs] at this
        exact this
      · rcases List.mem_cons.mp m with rfl | m
        · omega
        · exact TR.pos c (by rw [ecs]; exact .tail _ m)
      · have := TR.some_
        rw [ecs, List.sum_cons] at this
        rw [List.sum_cons]
        omega
    refine ⟨.ref tb, rfl, .ref a1, rfl, .ref D, rfl, mkTD_in OE TR hCE fun G4 t3 dt3 M3 s3 O3 => ?_⟩
    have OT4 := OTE.same s3
    refine ⟨tb, dtb, _, .ref Ct, rfl, OT4.at_, tb_is c TT O3.at_, by simp [PySem.W.notFirst], b, h, x, qs.map mkR, W, cs, tb, dtb, a1, dx1, u1, d1, e1, D, M1, .ref t3, rfl, OT4, .inr ⟨b, h, x, _, W, cs, t3, dt3, a1, dx1, u1, d1, e1, D, M3, rfl, O3, .inr ⟨rfl, ?_⟩⟩⟩
    rw [decide_eq_true rfl]
    refine ⟨true, rfl, true, rfl, iteF ?_⟩
    refine ⟨.ref tb, rfl, .ref a1, rfl, .ref D, rfl, mkTD_in (OE.same s3) TR (sqT_same s3 hCE) fun G5 t4 dt4 M4 s4 O4 => ?_⟩
    have OT5 := OT4.same s4
    refine ⟨tb, dtb, _, .ref Ct, rfl, OT5.at_, tb_is c TT O4.at_, by simp [PySem.W.notFirst], b, h, x, qs.map mkR, W, cs, tb, dtb, a1, dx1, u1, d1, e1, D, M1, .ref t4, rfl, OT5, .inr ⟨b, h, x, _, W, cs, t4, dt4, a1, dx1, u1, d1, e1, D, M4, rfl, O4, .inr ⟨rfl, ?_⟩⟩⟩
    rw [decide_eq_true rfl]
    refine ⟨true, rfl, false, rfl, iteF ?_⟩
    have s34 := s3.trans s4
    refine ⟨.ref tb, rfl, .ref a1, rfl, .ref tm, rfl, mkTD_in (OE.same s34) TRm (sqT_same s34 hME) fun G6 t5 dt5 M5 s5' O5 => ?_⟩
    have s35 := s34.trans s5'
    have OT6 := OTE.same s35
    refine ⟨tb, dtb, _, .ref Ct, rfl, OT6.at_, tb_is c TT O5.at_, by simp [PySem.W.notFirst], b, h, x, qs.map mkR, W, cs, tb, dtb, a1, dx1, u1, d1, e1, D, M1, .ref t5, rfl, OT6, .inr ⟨b, h, x, _, W, _, t5, dt5, a1, dx1, u1, d1, e1, tm, M5, rfl, O5, .inr ⟨rfl, ?_⟩⟩⟩
    rw [decide_eq_false (fun z => by
      rw [ecs] at z
      have := (List.cons.inj z).1
      omega)]
    refine ⟨false, rfl, false, rfl, iteF ?_⟩
    refine next_in ?_
    have hC6' := sqT_same s35 hCE
    have O6' := OE.same s35
    refine ⟨.ref tb, rfl, .ref D, rfl, tb, dtb, _, .type "tuple", rfl, OT6.at_, sqT_ty hC6', nTup, b, h, x, qs.map mkR, W, cs, tb, dtb, a1, dx1, u1, d1, e1, D, M1, .ref D, rfl, OT6, .inl ⟨_, sqT_ty hC6', kTup, false, rfl, false, rfl, iteF ?_⟩⟩
    refine ⟨.ref tb, rfl, .ref a1, rfl, tb, dtb, _, .ref C, rfl, OT6.at_, pg_is cP TP O6'.at_, nPg, b, h, x, qs.map mkR, W, cs, tb, dtb, a1, dx1, u1, d1, e1, D, M1, .ref a1, rfl, OT6, .inl ⟨_, pg_is cP TP O6'.at_, kPg, false, rfl, false, rfl, iteF ?_⟩⟩
    refine ⟨.ref tb, rfl, tb, dtb, _, .type "NoneType", rfl, OT6.at_, .base .non, nNon, b, h, x, qs.map mkR, W, cs, tb, dtb, a1, dx1, u1, d1, e1, D, M1, .non, rfl, OT6, .inl ⟨_, .base .non, kNon, false, rfl, true, rfl, iteF ?_⟩⟩
    refine next_in (ret_in ?_)
    refine ⟨.ref d, rfl, .ref D, rfl, .ref tb, rfl, d, u, R, D, b, h, x, vs, qs, cs, W, tb, dtb, a1, dx1, u1, d1, e1, D, M1, rfl, LE.same s35, hP, hC6', OT6, ok, fun G7 s7' => ?_⟩
    have sZ := s35.trans s7'
    exact q _ (BE.trans (ButN.ext (extN_same sZ))) ((hPE.same sZ).mono (by omega)) (tabs_same TG sZ)
end
end Uq
namespace Uq
open PySem PySem.Spec PyProof.Rows L2 LamX
/-! ### the whole law -/
def sp_lawX (K : PySem.W.Frag) (Pn Pj : Addr) : Sp := fun vs H Q _ => ∃ (a : Addr) (ns : List Int), vs = [.ref a] ∧ SqL K H a (ns.map V.int) ∧ ns.length ≤ 63 ∧ Tabs (TLs Pn Pj) H ∧ ∀ H', Q (.bl true) H'
section
variable {P : Program} {w : World} {K : PySem.W.Frag} {mg : Str → Option Value} {base : Heap} {Pn Pj : Addr}
theorem ok_law {f : Addr} {fd : FuncData} (F : Fun K "law" "law" s_law f fd) (m_all : mg "all" = none) (m_range : mg "range" = none) (c_law_cells : Cal P w K mg base 1 "_law_cells" ["_law_script", "_law_most"] (sp_law_cells K)) (c_law_pot : Cal P w K mg base 1 "_law_pot" ["_law_script", "_law_place"] (sp_law_pot K)) (c_law_right : CalG P w K mg base 14 "_law_right" ["_law_pot_here"] (sp_law_rightX K Pn Pj)) : FnG P w K mg base 15 f fd ["_law_script"] (sp_lawX K Pn Pj) := by
  refine Fun_okG F sc_law (fun vs H Q E h => ?_) (fun cdv A outer s H vs Q E hg hr h => ?_)
  · obtain ⟨a, ns, rfl, _⟩ := h
    rfl
  · refine ⟨_, (pss_cons (ps_for PassesOwn.never rfl (pi_list (pe_call c_law_cells.G (hr.mono (by decide)) (by rfl) c_law_cells.g c_law_cells.kp c_law_cells.b .nil pass0 (pa_cons (pv 0) (pa_cons pe_int pa_nil)))) (pg_name (i := 1) sc_law.nd rfl (.inl rfl))
        (pss_cons (ps_set (i := 2) sc_law.nd rfl (.inr rfl) (pe_call c_law_pot.G (hr.mono (by decide)) (by rfl) c_law_pot.g c_law_pot.kp c_law_pot.b .nil pass0 (pa_cons (pv 0) (pa_cons (pv 1) pa_nil))))
        (pss_one (ps_if (pt_not (pt_val (pe_callB (cr_all rfl) (by rfl) m_all (by decide +kernel) (pa_cons (pe_lc (own := [("_law_lap", 3)]) (g := gName 3) rfl sc_law.nd (pi_range1 (by rfl) m_range (pa_cons pe_int pa_nil)) (blkOk_by (own := [("_law_lap", 3)]) (N := N_law) (sc := defScope s_law) (by decide +kernel)) (fun _ _ _ _ _ => (pg_name (i := 3) sc_law.nd rfl (.inl rfl))) (fun _ _ _ _ _ => pts_nil) (fun _ _ _ _ _ => (pe_callG c_law_right.G hg (hr.mono (by decide)) (by rfl) c_law_right.g c_law_right.kp c_law_right.b (pa_cons (pv 2) pa_nil)))) pa_nil)))) (pss_one (ps_ret pe_bl)) pss_nil))))
      (pss_one (ps_ret pe_bl))), ?_⟩
    obtain ⟨a, ns, rfl, hl, hn, TA, q⟩ := h
    refine ⟨.ref a, rfl, a, ns, 4, rfl, hl, hn, by decide, by decide, fun H1 l k nl sm hk k1 k2 => ?_⟩
    refine ⟨l, rfl, ⟨_, SqL.of hk⟩, ?_⟩
    have T1 := tabs_same TA sm
    refine for_it (walk_list (xs := rgV 0 (k : Int))) (fun i σ H' => ExtN H1 H' ∧ Tabs (TLs Pn Pj) H' ∧ ∃ v1 v2 v3, σ = [some (.ref a), v1, v2, v3]) ⟨ExtN.refl _, T1, _, _, _, rfl⟩ (fun i σ H' _ z => sqL_ext z.1 (SqL.of hk)) ?_ ?_
    · rintro i y σ H2' H2 hi ⟨s2, T2, v1, v2, v3, rfl⟩ ⟨rfl, hx⟩
      have hi : i < k := by
        have e := (List.getElem?_eq_some_iff.mp hx).1
        rw [rgV_length] at e
        omega
      have ex : y = .int (i : Int) := by
        unfold rgV at hx
        rw [List.getElem?_map, List.getElem?_range (by omega)] at hx
        have e := Option.some.inj hx
        rw [← e]
        show V.int (0 + (i : Int)) = V.int (i : Int)
        rw [Int.zero_add]
      subst ex
      refine ⟨.ref a, rfl, .int (i : Int), rfl, a, ns, (i : Int), rfl, sqL_ext s2 (sqL_same sm hl), hn, by omega, by omega, fun H3 p np sm3 hp => ?_⟩
      refine ⟨3, rfl, by decide, by decide, fun D nD => ?_⟩
      have npD : p ≠ D := fun z => hp.some (z ▸ nD)
      have T3 := tabs_same (tabs_same T2 sm3) (sameU (o := .lst []) nD)
      refine lc_it (walk_range (lo := 0) (n := 3)) (fun j H' => ButN p H3 H' ∧ Pot H' p (500 * j) ∧ Tabs (TLs Pn Pj) H' ∧ H' D = some (.lst (List.replicate j (.bl true)))) ⟨ButN.of (But.of (sameU nD)), hp.same (sameU nD), T3, upd_same⟩ (fun _ _ _ _ => trivial) ?_ ?_
      · rintro j y H4 H5 hj ⟨hB, hP, hT, hD⟩ ⟨rfl, rfl⟩
        refine ⟨rfl, .ref p, rfl, p, 500 * j, rfl, hP, by omega, hT, fun H6 hB6 hP6 hT6 => ?_⟩
        have hD6 := hB6 D _ (Ne.symm npD) hD (fun _ z => by cases z)
        refine ⟨_, hD6, ?_, ?_, (hP6.upd npD).mono (by omega), ?_, ?_⟩
        · rw [List.length_replicate]
          exact small1000 (by omega)
        · intro z o nz ez nt
          rw [upd_ne (ne_of_none ez nD)]
          exact (hB.trans hB6) z o nz ez nt
        · intro z mz
          obtain ⟨ps, h1, h2, h3⟩ := hT6 z mz
          refine ⟨ps, ?_, h2, fun pos cv hc => ?_⟩
          · rw [upd_ne (fun e => by rw [e, hD6] at h1; cases h1)]
            exact h1
          · obtain ⟨c, e1, e2⟩ := h3 pos cv hc
            refine ⟨c, e1, ?_⟩
            rw [upd_ne (fun e => by rw [e, hD6] at e2; cases e2)]
            exact e2
        · rw [upd_same, List.replicate_succ']
      rintro H4 ⟨hB, _, hT, hD⟩
      refine ⟨D, List.replicate 3 true, rfl, SqL.of (by rw [hD, List.map_replicate]), ?_⟩
      rw [all_rep]
      refine ⟨true, rfl, iteF ?_⟩
      refine ⟨fun z o ez nt => ?_, hT, _, _, _, rfl⟩
      have e2 := s2 _ _ ez nt
      exact hB z o (ne_of_none e2 np) (sm3 _ _ e2) nt
    rintro σ H2 ⟨s2, T2, v1, v2, v3, rfl⟩
    exact q _
theorem ok_law_bent_0 {f : Addr} {fd : FuncData} (F : Fun K "_law_bent" "_law_bent" s_law_bent f fd) (m_isinstance : mg "isinstance" = none) (m_tuple : mg "tuple" = none) (m_len : mg "len" = none) (m_list : mg "list" = none) (m_str : mg "str" = none) (m_bool : mg "bool" = none) (m_int : mg "int" = none) (c_law_take : Cal P w K mg base 1 "_law_take" ["_law_pot_here", "_law_upto"] (sp_law_take K)) (c_law_of : Cal P w K mg base 2 "_law_of" ["_law_pot_here", "_law_some_here"] (sp_law_of K)) : FnOk P w K mg base CX0 4 f fd ["_law_pot_here", "_law_value"] (sp_law_bentN WLc 0 K) := by
  exact ok_law_bent0 wlc F m_isinstance m_tuple m_len m_list m_str m_bool m_int c_law_take c_law_of
theorem ok_law_bent {f : Addr} {fd : FuncData} (F : Fun K "_law_bent" "_law_bent" s_law_bent f fd) (m_isinstance : mg "isinstance" = none) (m_tuple : mg "tuple" = none) (m_len : mg "len" = none) (m_list : mg "list" = none) (m_str : mg "str" = none) (m_bool : mg "bool" = none) (m_int : mg "int" = none) (c_law_take : Cal P w K mg base 1 "_law_take" ["_law_pot_here", "_law_upto"] (sp_law_take K)) (c_law_of : Cal P w K mg base 2 "_law_of" ["_law_pot_here", "_law_some_here"] (sp_law_of K)) (c_law_bent_0 : Cal P w K mg base 4 "_law_bent" ["_law_pot_here", "_law_value"] (sp_law_bentN WLc 0 K)) : FnOk P w K mg base CX0 5 f fd ["_law_pot_here", "_law_value"] (sp_law_bentN WLc 1 K) := by
  exact ok_law_bentS (n := 0) wlc (by decide) F m_isinstance m_tuple m_len m_list m_str m_bool m_int c_law_take c_law_of c_law_bent_0
theorem ok_law_odd {f : Addr} {fd : FuncData} (F : Fun K "_law_odd" "_law_odd" s_law_odd f fd) (c_law_of : Cal P w K mg base 2 "_law_of" ["_law_pot_here", "_law_some_here"] (sp_law_of K)) : FnOk P w K mg base CX0 3 f fd ["_law_pot_here"] (sp_law_oddN K) := by
  refine F.ok sc_law_odd (fun vs H Q E h => ?_) (fun cdv A outer s H vs Q E hr h => ?_)
  · obtain ⟨N, p, c, rfl, _⟩ := h
    rfl
  · refine ⟨_, (pss_cons (ps_set (i := 1) sc_law_odd.nd rfl (.inl rfl) (pe_lst (pa_cons pe_non (pa_cons pe_bl (pa_cons pe_bl (pa_cons pe_int (pa_cons pe_int (pa_cons (pe_un un_neg pe_int) (pa_cons (pe_op op_powW pe_int pe_int) (pa_cons pe_str (pa_cons pe_str (pa_cons pe_str (pa_cons pe_str (pa_cons (pe_tup pa_nil) (pa_cons (pe_lstN pa_nil) (pa_cons pe_dnewK (pa_cons (pe_tup (pa_cons pe_int pa_nil)) (pa_cons (pe_tup (pa_cons (pe_tup pa_nil) pa_nil)) (pa_cons (pe_lstN (pa_cons pe_int pa_nil)) (pa_cons (pe_tup (pa_cons pe_int (pa_cons pe_str pa_nil))) pa_nil))))))))))))))))))))
      (pss_one (ps_ret (pe_call c_law_of.G (hr.mono (by decide)) (by rfl) c_law_of.g c_law_of.kp c_law_of.b .nil pass0 (pa_cons (pv 0) (pa_cons (pe_op op_cat (pv 1) (pe_lst (pa_cons (pe_tup (pa_cons (pe_tup (pa_cons pe_str (pa_cons pe_int pa_nil))) pa_nil)) (pa_cons (pe_tup (pa_cons (pe_tup (pa_cons (pe_tup (pa_cons pe_str (pa_cons pe_int pa_nil))) pa_nil)) (pa_cons pe_str pa_nil))) (pa_cons (pe_tup (pa_cons pe_int (pa_cons pe_int pa_nil))) (pa_cons (pe_tup (pa_cons (pe_tup (pa_cons pe_int (pa_cons (pe_tup (pa_cons pe_int (pa_cons pe_int pa_nil))) pa_nil))) pa_nil)) (pa_cons pe_str (pa_cons (pe_tup (pa_cons pe_int (pa_cons pe_int (pa_cons pe_int pa_nil)))) pa_nil)))))))) pa_nil)))))), ?_⟩
    obtain ⟨N, p, c, rfl, hP, hc, q⟩ := h
    have D1 : DispNA K N p c c (start N_law_odd [.ref p]) H _ (· = odds1 ++ [.tuple [.int 100, .str "near"]]) := (dsp_cons (dsp_c (v := .non) (d := .none) fun _ => .non) (dsp_cons (dsp_c (v := .bl true) (d := .bool true) fun _ => .bl true) (dsp_cons (dsp_c (v := .bl false) (d := .bool false) fun _ => .bl false) (dsp_cons (dsp_c (v := .int 0) (d := .int 0) fun _ => .int 0) (dsp_cons (dsp_c (v := .int 1) (d := .int 1) fun _ => .int 1) (dsp_cons (dsp_v (v := .int (-1)) (d := .int (-1)) (te := tUn (rU fun i => .int (-i)) (tC (.int 1))) (fun H Q q => ⟨1, rfl, q⟩) fun _ => .int (-1)) (dsp_cons (dsp_v (v := .int 100000000) (d := .int 100000000) (te := tOp (rI CPowW fun i j => .int (i ^ j.toNat)) (tC (.int 10)) (tC (.int 8))) (fun H Q q => ⟨10, 8, rfl, rfl, powW_ok (j := 8) (n := 8) (by decide) (by decide), q⟩) fun _ => .int 100000000) (dsp_cons (dsp_c (v := .str "") (d := .str "") fun _ => .str "") (dsp_cons (dsp_c (v := .str "a") (d := .str "a") fun _ => .str "a") (dsp_cons (dsp_c (v := .str "some") (d := .str "some") fun _ => .str "some") (dsp_cons (dsp_c (v := .str "near") (d := .str "near") fun _ => .str "near") (dsp_cons (dsp_tup dsp_nil) (dsp_cons (dsp_lst dsp_nil) (dsp_cons (dsp_dct0) (dsp_cons (dsp_tup (dsp_cons (dsp_c (v := .int 0) (d := .int 0) fun _ => .int 0) dsp_nil)) (dsp_cons (dsp_tup (dsp_cons (dsp_tup dsp_nil) dsp_nil)) (dsp_cons (dsp_lst (dsp_cons (dsp_c (v := .int 0) (d := .int 0) fun _ => .int 0) dsp_nil)) (dsp_cons (dsp_tup (dsp_cons (dsp_c (v := .int 100) (d := .int 100) fun _ => .int 100) (dsp_cons (dsp_c (v := .str "near") (d := .str "near") fun _ => .str "near") dsp_nil))) dsp_nil))))))))))))))))))
    refine seq_set (lst_in (D1 H _ (But.refl _ _) hP fun xs H1 ds e hB1 hP1 hx => ⟨by rw [hx.length, e]; decide, fun l1 n1 => ?_⟩))
    cases e
    have D2 : DispNA K N p c c ((start N_law_odd [.ref p]).set 1 (some (.ref l1))) (upd H1 l1 (.lst xs)) _ (· = [.tuple [.tuple [.str "a", .int 1]], .tuple [.tuple [.tuple [.str "a", .int 1]], .str "more"], .tuple [.int 0, .int 1], .tuple [.tuple [.int 0, .tuple [.int 1, .int 1]]], .str "never", .tuple [.int 1, .int 1, .int 1]]) := (dsp_cons (dsp_tup (dsp_cons (dsp_tup (dsp_cons (dsp_c (v := .str "a") (d := .str "a") fun _ => .str "a") (dsp_cons (dsp_c (v := .int 1) (d := .int 1) fun _ => .int 1) dsp_nil))) dsp_nil)) (dsp_cons (dsp_tup (dsp_cons (dsp_tup (dsp_cons (dsp_tup (dsp_cons (dsp_c (v := .str "a") (d := .str "a") fun _ => .str "a") (dsp_cons (dsp_c (v := .int 1) (d := .int 1) fun _ => .int 1) dsp_nil))) dsp_nil)) (dsp_cons (dsp_c (v := .str "more") (d := .str "more") fun _ => .str "more") dsp_nil))) (dsp_cons (dsp_tup (dsp_cons (dsp_c (v := .int 0) (d := .int 0) fun _ => .int 0) (dsp_cons (dsp_c (v := .int 1) (d := .int 1) fun _ => .int 1) dsp_nil))) (dsp_cons (dsp_tup (dsp_cons (dsp_tup (dsp_cons (dsp_c (v := .int 0) (d := .int 0) fun _ => .int 0) (dsp_cons (dsp_tup (dsp_cons (dsp_c (v := .int 1) (d := .int 1) fun _ => .int 1) (dsp_cons (dsp_c (v := .int 1) (d := .int 1) fun _ => .int 1) dsp_nil))) dsp_nil))) dsp_nil)) (dsp_cons (dsp_c (v := .str "never") (d := .str "never") fun _ => .str "never") (dsp_cons (dsp_tup (dsp_cons (dsp_c (v := .int 1) (d := .int 1) fun _ => .int 1) (dsp_cons (dsp_c (v := .int 1) (d := .int 1) fun _ => .int 1) (dsp_cons (dsp_c (v := .int 1) (d := .int 1) fun _ => .int 1) dsp_nil)))) dsp_nil))))))
    refine ret_in (call_in ⟨.ref p, rfl, ?_⟩)
    refine op_in ⟨.ref l1, rfl, lst_in (D2 _ _ (But.refl _ _) (hP1.new n1) fun ys H2 es e hB2 hP2 hy => ⟨by rw [hy.length, e]; decide, fun l2 n2 => ?_⟩)⟩
    cases e
    have e1 : H2 l1 = some (.lst xs) := hB2 l1 _ (hP1.ne n1) upd_same
    refine ⟨l1, l2, xs, ys, rfl, rfl, by rw [upd_ne (ne_of_none e1 n2)]; exact e1, upd_same, by rw [hx.length, hy.length]; decide, fun l3 n3 => ?_⟩
    have hP3 := (hP2.new n2 (o := .lst ys)).new n3 (o := .lst (xs ++ ys))
    have hB3 : But p H (upd (upd H2 l2 (.lst ys)) l3 (.lst (xs ++ ys))) := (((hB1.new n1).trans hB2).new n2).new n3
    have hd : DxAll K (offs N (upd (upd H2 l2 (.lst ys)) l3 (.lst (xs ++ ys)))) (xs ++ ys) odds := by
      have s2 : But p H2 (upd (upd H2 l2 (.lst ys)) l3 (.lst (xs ++ ys))) := ((But.refl _ _).new n2).new n3
      have s1 : But p H1 (upd (upd H2 l2 (.lst ys)) l3 (.lst (xs ++ ys))) := (((But.refl _ _).new n1).trans hB2).trans s2
      exact DxAll.append (hy.same (s2.offs hP.mem)) (hx.same (s1.offs hP.mem))
    have hl : (xs ++ ys).length = 24 := hd.length
    refine ⟨p, l3, c, xs ++ ys, rfl, hP3.pot, by omega, (hP2.new n2 (o := .lst ys)).ne n3, SqL.of upd_same, by omega, by omega, fun H4 i v hB4 hP4 ev => ?_⟩
    obtain ⟨d, hm, hx4⟩ := hd.at ev
    exact q H4 v d hm (hB3.trans hB4) (hP3.but hB4 hP4) (hx4.same (hB4.offs hP.mem))
end
end Uq
namespace Uq
open PySem PySem.Spec PyProof.Rows L2 LamX
theorem sub_ty {K : PySem.W.Frag} {n : String} {C : Addr} (h : (PySem.fastFind? n).isSome = true) : PySem.W.subIn K (.type n) (.ref C) = some false := by
  unfold PySem.W.subIn
  show (fastBuiltinMro n).map (·.contains (.ref C)) = some false
  unfold fastBuiltinMro
  cases e : PySem.fastFind? n with
  | none => rw [e] at h; cases h
  | some r =>
    show some ((r.mro.map Value.type).contains (.ref C)) = some false
    congr 1
    rw [← Bool.not_eq_true]
    intro z
    obtain ⟨T, _, k⟩ := List.mem_map.mp (List.contains_iff_mem.mp z)
    cases k
theorem kit_tyF {K : PySem.W.Frag} {n : String} (h : (PySem.fastFind? n).isSome = true) {D : Addr} {v : PySem.ClassData} (e : PySem.W.clsIn K D = some v) (ty : PySem.W.typeIn K (.ref D) = some (.type "type")) : PySem.W.kitOne K (.type n) (.ref D) = some false := by
  unfold PySem.W.kitOne
  rw [if_neg (by simp)]
  unfold PySem.W.kitCls
  show (if ((PySem.W.clsIn K D).isSome && PySem.W.typeIn K (.ref D) == some (.type "type")) = true then PySem.W.subIn K (.type n) (.ref D) else none) = some false
  rw [e, ty, sub_ty h]
  rfl
theorem kit_two {K : PySem.W.Frag} {B D : Addr} {v : PySem.ClassData} (ne : B ≠ D) (e : PySem.W.clsIn K D = some v) (ty : PySem.W.typeIn K (.ref D) = some (.type "type")) (s : PySem.W.subIn K (.ref B) (.ref D) = some false) : PySem.W.kitOne K (.ref B) (.ref D) = some false := by
  unfold PySem.W.kitOne
  rw [if_neg (by simp [ne])]
  unfold PySem.W.kitCls
  show (if ((PySem.W.clsIn K D).isSome && PySem.W.typeIn K (.ref D) == some (.type "type")) = true then PySem.W.subIn K (.ref B) (.ref D) else none) = some false
  rw [e, ty, s]
  rfl
theorem marks_at {K : PySem.W.Frag} {e m0 m1 m2 m3 : Addr} {d d0 d1 d2 d3 : Option Addr} {n n0 n1 n2 n3 : Nat} {s s0 s1 s2 s3 : Array (Option Value)} {t1 t2 t3 t4 : Tok}
    (l : K.lookup e = some ⟨.type "tuple", d, .seq #[.ref m0, .ref m1, .ref m2, .ref m3] n, s⟩) (l0 : K.lookup m0 = some ⟨.type "tuple", d0, .seq #[] n0, s0⟩) (l1 : K.lookup m1 = some ⟨.type "tuple", d1, .seq #[.str "is" t1] n1, s1⟩) (l2 : K.lookup m2 = some ⟨.type "tuple", d2, .seq #[.str "all" t2] n2, s2⟩) (l3 : K.lookup m3 = some ⟨.type "tuple", d3, .seq #[.str "is" t3, .str "all" t4] n3, s3⟩) : ∀ H, Dp K H (.ref e) (.tuple marksD) := fun H => by
  have a0 : Dp K H (.ref m0) (.tuple []) := .tup (.inr ⟨_, _, _, l0, rfl, rfl, by decide, .nil⟩) .nil
  have a1 : Dp K H (.ref m1) (.tuple [.str "is"]) := .tup (xs := [.str "is"]) (.inr ⟨_, _, _, l1, rfl, rfl, (by show 1 ≤ sizeLine; decide), .cons ⟨_, rfl⟩ .nil⟩) (.cons (.str _) .nil)
  have a2 : Dp K H (.ref m2) (.tuple [.str "all"]) := .tup (xs := [.str "all"]) (.inr ⟨_, _, _, l2, rfl, rfl, (by show 1 ≤ sizeLine; decide), .cons ⟨_, rfl⟩ .nil⟩) (.cons (.str _) .nil)
  have a3 : Dp K H (.ref m3) (.tuple [.str "is", .str "all"]) := .tup (xs := [.str "is", .str "all"]) (.inr ⟨_, _, _, l3, rfl, rfl, (by show 2 ≤ sizeLine; decide), .cons ⟨_, rfl⟩ (.cons ⟨_, rfl⟩ .nil)⟩) (.cons (.str _) (.cons (.str _) .nil))
  exact .tup (xs := [.ref m0, .ref m1, .ref m2, .ref m3]) (.inr ⟨_, _, _, l, rfl, rfl, (by show 4 ≤ sizeLine; decide), .cons rfl (.cons rfl (.cons rfl (.cons rfl .nil)))⟩) (.cons a0 (.cons a1 (.cons a2 (.cons a3 .nil))))
theorem all_mk {l : PySem.W.OpenLaw} {w : World} {K : PySem.W.Frag} {h : Heap} {mg : Str → Option Value} {fa : Addr} (X : K.In h) (G : h.Ns mainGlobals mg) (hfa : mg "law" = some (.ref fa))
    {tc1 tP1 : Addr} {tco1 : Value} {tcd1 : Option Addr} {tus1 : Array Value} {tsl1 : Array (Option Value)}
    {tc2 tP2 : Addr} {tco2 : Value} {tcd2 : Option Addr} {tus2 : Array Value} {tsl2 : Array (Option Value)}
    {f_law_cells : Addr} {od_law_cells an_law_cells : Option Addr} {sl_law_cells : Array (Option Value)} {oc_law_cells kV_law_cells dc_law_cells pm_law_cells cd_law_cells ct_law_cells : Value}
    (a_law_cells : PySem.W.nsIn K mainGlobals "_law_cells" = some (some (.ref f_law_cells)))
    (l_law_cells : K.lookup f_law_cells = some ⟨oc_law_cells, od_law_cells, .func (PySem.W.fnOf "_law_cells" "_law_cells" (defArgs s_law_cells) (defBody s_law_cells) (defScope s_law_cells) .none kV_law_cells dc_law_cells pm_law_cells an_law_cells cd_law_cells ct_law_cells), sl_law_cells⟩)
    (k_law_cells : PySem.W.codeIn K cd_law_cells "_law_cells" = true)
    (p_law_cells : PySem.W.keepIn K (.ref f_law_cells) = true)
    {f_law_pot : Addr} {od_law_pot an_law_pot : Option Addr} {sl_law_pot : Array (Option Value)} {oc_law_pot kV_law_pot dc_law_pot pm_law_pot cd_law_pot ct_law_pot : Value}
    (a_law_pot : PySem.W.nsIn K mainGlobals "_law_pot" = some (some (.ref f_law_pot)))
    (l_law_pot : K.lookup f_law_pot = some ⟨oc_law_pot, od_law_pot, .func (PySem.W.fnOf "_law_pot" "_law_pot" (defArgs s_law_pot) (defBody s_law_pot) (defScope s_law_pot) .none kV_law_pot dc_law_pot pm_law_pot an_law_pot cd_law_pot ct_law_pot), sl_law_pot⟩)
    (k_law_pot : PySem.W.codeIn K cd_law_pot "_law_pot" = true)
    (p_law_pot : PySem.W.keepIn K (.ref f_law_pot) = true)
    {f_read_number : Addr} {od_read_number an_read_number : Option Addr} {sl_read_number : Array (Option Value)} {oc_read_number kV_read_number dc_read_number pm_read_number cd_read_number ct_read_number : Value}
    (a_read_number : PySem.W.nsIn K mainGlobals "read_number" = some (some (.ref f_read_number)))
    (l_read_number : K.lookup f_read_number = some ⟨oc_read_number, od_read_number, .func (PySem.W.fnOf "read_number" "read_number" (defArgs s_read_number) (defBody s_read_number) (defScope s_read_number) .none kV_read_number dc_read_number pm_read_number an_read_number cd_read_number ct_read_number), sl_read_number⟩)
    (k_read_number : PySem.W.codeIn K cd_read_number "read_number" = true)
    (p_read_number : PySem.W.keepIn K (.ref f_read_number) = true)
    {f_is_integer : Addr} {od_is_integer an_is_integer : Option Addr} {sl_is_integer : Array (Option Value)} {oc_is_integer kV_is_integer dc_is_integer pm_is_integer cd_is_integer ct_is_integer : Value}
    (a_is_integer : PySem.W.nsIn K mainGlobals "is_integer" = some (some (.ref f_is_integer)))
    (l_is_integer : K.lookup f_is_integer = some ⟨oc_is_integer, od_is_integer, .func (PySem.W.fnOf "is_integer" "is_integer" (defArgs s_is_integer) (defBody s_is_integer) (defScope s_is_integer) .none kV_is_integer dc_is_integer pm_is_integer an_is_integer cd_is_integer ct_is_integer), sl_is_integer⟩)
    (k_is_integer : PySem.W.codeIn K cd_is_integer "is_integer" = true)
    (p_is_integer : PySem.W.keepIn K (.ref f_is_integer) = true)
    {f_is_units : Addr} {od_is_units an_is_units : Option Addr} {sl_is_units : Array (Option Value)} {oc_is_units kV_is_units dc_is_units pm_is_units cd_is_units ct_is_units : Value}
    (a_is_units : PySem.W.nsIn K mainGlobals "is_units" = some (some (.ref f_is_units)))
    (l_is_units : K.lookup f_is_units = some ⟨oc_is_units, od_is_units, .func (PySem.W.fnOf "is_units" "is_units" (defArgs s_is_units) (defBody s_is_units) (defScope s_is_units) .none kV_is_units dc_is_units pm_is_units an_is_units cd_is_units ct_is_units), sl_is_units⟩)
    (k_is_units : PySem.W.codeIn K cd_is_units "is_units" = true)
    (p_is_units : PySem.W.keepIn K (.ref f_is_units) = true)
    {f_read_units : Addr} {od_read_units an_read_units : Option Addr} {sl_read_units : Array (Option Value)} {oc_read_units kV_read_units dc_read_units pm_read_units cd_read_units ct_read_units : Value}
    (a_read_units : PySem.W.nsIn K mainGlobals "read_units" = some (some (.ref f_read_units)))
    (l_read_units : K.lookup f_read_units = some ⟨oc_read_units, od_read_units, .func (PySem.W.fnOf "read_units" "read_units" (defArgs s_read_units) (defBody s_read_units) (defScope s_read_units) .none kV_read_units dc_read_units pm_read_units an_read_units cd_read_units ct_read_units), sl_read_units⟩)
    (k_read_units : PySem.W.codeIn K cd_read_units "read_units" = true)
    (p_read_units : PySem.W.keepIn K (.ref f_read_units) = true)
    {f_is_name : Addr} {od_is_name an_is_name : Option Addr} {sl_is_name : Array (Option Value)} {oc_is_name kV_is_name dc_is_name pm_is_name cd_is_name ct_is_name : Value}
    (a_is_name : PySem.W.nsIn K mainGlobals "is_name" = some (some (.ref f_is_name)))
    (l_is_name : K.lookup f_is_name = some ⟨oc_is_name, od_is_name, .func (PySem.W.fnOf "is_name" "is_name" (defArgs s_is_name) (defBody s_is_name) (defScope s_is_name) .none kV_is_name dc_is_name pm_is_name an_is_name cd_is_name ct_is_name), sl_is_name⟩)
    (k_is_name : PySem.W.codeIn K cd_is_name "is_name" = true)
    (p_is_name : PySem.W.keepIn K (.ref f_is_name) = true)
    {f_is_asked : Addr} {od_is_asked an_is_asked : Option Addr} {sl_is_asked : Array (Option Value)} {oc_is_asked kV_is_asked dc_is_asked pm_is_asked cd_is_asked ct_is_asked : Value}
    (a_is_asked : PySem.W.nsIn K mainGlobals "is_asked" = some (some (.ref f_is_asked)))
    (l_is_asked : K.lookup f_is_asked = some ⟨oc_is_asked, od_is_asked, .func (PySem.W.fnOf "is_asked" "is_asked" (defArgs s_is_asked) (defBody s_is_asked) (defScope s_is_asked) .none kV_is_asked dc_is_asked pm_is_asked an_is_asked cd_is_asked ct_is_asked), sl_is_asked⟩)
    (k_is_asked : PySem.W.codeIn K cd_is_asked "is_asked" = true)
    (p_is_asked : PySem.W.keepIn K (.ref f_is_asked) = true)
    {f_read_share : Addr} {od_read_share an_read_share : Option Addr} {sl_read_share : Array (Option Value)} {oc_read_share kV_read_share dc_read_share pm_read_share cd_read_share ct_read_share : Value}
    (a_read_share : PySem.W.nsIn K mainGlobals "read_share" = some (some (.ref f_read_share)))
    (l_read_share : K.lookup f_read_share = some ⟨oc_read_share, od_read_share, .func (PySem.W.fnOf "read_share" "read_share" (defArgs s_read_share) (defBody s_read_share) (defScope s_read_share) .none kV_read_share dc_read_share pm_read_share an_read_share cd_read_share ct_read_share), sl_read_share⟩)
    (k_read_share : PySem.W.codeIn K cd_read_share "read_share" = true)
    (p_read_share : PySem.W.keepIn K (.ref f_read_share) = true)
    {f_read_part : Addr} {od_read_part an_read_part : Option Addr} {sl_read_part : Array (Option Value)} {oc_read_part kV_read_part dc_read_part pm_read_part cd_read_part ct_read_part : Value}
    (a_read_part : PySem.W.nsIn K mainGlobals "read_part" = some (some (.ref f_read_part)))
    (l_read_part : K.lookup f_read_part = some ⟨oc_read_part, od_read_part, .func (PySem.W.fnOf "read_part" "read_part" (defArgs s_read_part) (defBody s_read_part) (defScope s_read_part) .none kV_read_part dc_read_part pm_read_part an_read_part cd_read_part ct_read_part), sl_read_part⟩)
    (k_read_part : PySem.W.codeIn K cd_read_part "read_part" = true)
    (p_read_part : PySem.W.keepIn K (.ref f_read_part) = true)
    {f_ends_among : Addr} {od_ends_among an_ends_among : Option Addr} {sl_ends_among : Array (Option Value)} {oc_ends_among kV_ends_among dc_ends_among pm_ends_among cd_ends_among ct_ends_among : Value}
    (a_ends_among : PySem.W.nsIn K mainGlobals "ends_among" = some (some (.ref f_ends_among)))
    (l_ends_among : K.lookup f_ends_among = some ⟨oc_ends_among, od_ends_among, .func (PySem.W.fnOf "ends_among" "ends_among" (defArgs s_ends_among) (defBody s_ends_among) (defScope s_ends_among) .none kV_ends_among dc_ends_among pm_ends_among an_ends_among cd_ends_among ct_ends_among), sl_ends_among⟩)
    (k_ends_among : PySem.W.codeIn K cd_ends_among "ends_among" = true)
    (p_ends_among : PySem.W.keepIn K (.ref f_ends_among) = true)
    {f_way_up : Addr} {od_way_up an_way_up : Option Addr} {sl_way_up : Array (Option Value)} {oc_way_up kV_way_up dc_way_up pm_way_up cd_way_up ct_way_up : Value}
    (a_way_up : PySem.W.nsIn K mainGlobals "way_up" = some (some (.ref f_way_up)))
    (l_way_up : K.lookup f_way_up = some ⟨oc_way_up, od_way_up, .func (PySem.W.fnOf "way_up" "way_up" (defArgs s_way_up) (defBody s_way_up) (defScope s_way_up) .none kV_way_up dc_way_up pm_way_up an_way_up cd_way_up ct_way_up), sl_way_up⟩)
    (k_way_up : PySem.W.codeIn K cd_way_up "way_up" = true)
    (p_way_up : PySem.W.keepIn K (.ref f_way_up) = true)
    {f_is_too_much : Addr} {od_is_too_much an_is_too_much : Option Addr} {sl_is_too_much : Array (Option Value)} {oc_is_too_much kV_is_too_much dc_is_too_much pm_is_too_much cd_is_too_much ct_is_too_much : Value}
    (a_is_too_much : PySem.W.nsIn K mainGlobals "is_too_much" = some (some (.ref f_is_too_much)))
    (l_is_too_much : K.lookup f_is_too_much = some ⟨oc_is_too_much, od_is_too_much, .func (PySem.W.fnOf "is_too_much" "is_too_much" (defArgs s_is_too_much) (defBody s_is_too_much) (defScope s_is_too_much) .none kV_is_too_much dc_is_too_much pm_is_too_much an_is_too_much cd_is_too_much ct_is_too_much), sl_is_too_much⟩)
    (k_is_too_much : PySem.W.codeIn K cd_is_too_much "is_too_much" = true)
    (p_is_too_much : PySem.W.keepIn K (.ref f_is_too_much) = true)
    {f_read_parts : Addr} {od_read_parts an_read_parts : Option Addr} {sl_read_parts : Array (Option Value)} {oc_read_parts kV_read_parts dc_read_parts pm_read_parts cd_read_parts ct_read_parts : Value}
    (a_read_parts : PySem.W.nsIn K mainGlobals "read_parts" = some (some (.ref f_read_parts)))
    (l_read_parts : K.lookup f_read_parts = some ⟨oc_read_parts, od_read_parts, .func (PySem.W.fnOf "read_parts" "read_parts" (defArgs s_read_parts) (defBody s_read_parts) (defScope s_read_parts) .none kV_read_parts dc_read_parts pm_read_parts an_read_parts cd_read_parts ct_read_parts), sl_read_parts⟩)
    (k_read_parts : PySem.W.codeIn K cd_read_parts "read_parts" = true)
    (p_read_parts : PySem.W.keepIn K (.ref f_read_parts) = true)
    {f_read_page : Addr} {od_read_page an_read_page : Option Addr} {sl_read_page : Array (Option Value)} {oc_read_page kV_read_page dc_read_page pm_read_page cd_read_page ct_read_page : Value}
    (a_read_page : PySem.W.nsIn K mainGlobals "read_page" = some (some (.ref f_read_page)))
    (l_read_page : K.lookup f_read_page = some ⟨oc_read_page, od_read_page, .func (PySem.W.fnOf "read_page" "read_page" (defArgs s_read_page) (defBody s_read_page) (defScope s_read_page) .none kV_read_page dc_read_page pm_read_page an_read_page cd_read_page ct_read_page), sl_read_page⟩)
    (k_read_page : PySem.W.codeIn K cd_read_page "read_page" = true)
    (p_read_page : PySem.W.keepIn K (.ref f_read_page) = true)
    {f_Page__init_ : Addr} {od_Page__init_ an_Page__init_ : Option Addr} {sl_Page__init_ : Array (Option Value)} {oc_Page__init_ kV_Page__init_ dc_Page__init_ pm_Page__init_ cd_Page__init_ ct_Page__init_ : Value}
    (l_Page__init_ : K.lookup f_Page__init_ = some ⟨oc_Page__init_, od_Page__init_, .func (PySem.W.fnOf "__init__" "Page.__init__" (defArgs s_Page__init_) (defBody s_Page__init_) (defScope s_Page__init_) .none kV_Page__init_ dc_Page__init_ pm_Page__init_ an_Page__init_ cd_Page__init_ ct_Page__init_), sl_Page__init_⟩)
    (k_Page__init_ : PySem.W.codeIn K cd_Page__init_ "Page.__init__" = true)
    (p_Page__init_ : PySem.W.keepIn K (.ref f_Page__init_) = true)
    {f_AskedError__init_ : Addr} {od_AskedError__init_ an_AskedError__init_ : Option Addr} {sl_AskedError__init_ : Array (Option Value)} {oc_AskedError__init_ kV_AskedError__init_ dc_AskedError__init_ pm_AskedError__init_ cd_AskedError__init_ ct_AskedError__init_ : Value}
    (l_AskedError__init_ : K.lookup f_AskedError__init_ = some ⟨oc_AskedError__init_, od_AskedError__init_, .func (PySem.W.fnOf "__init__" "AskedError.__init__" (defArgs s_AskedError__init_) (defBody s_AskedError__init_) (defScope s_AskedError__init_) .none kV_AskedError__init_ dc_AskedError__init_ pm_AskedError__init_ an_AskedError__init_ cd_AskedError__init_ ct_AskedError__init_), sl_AskedError__init_⟩)
    (k_AskedError__init_ : PySem.W.codeIn K cd_AskedError__init_ "AskedError.__init__" = true)
    (p_AskedError__init_ : PySem.W.keepIn K (.ref f_AskedError__init_) = true)
    {f_Page_parts : Addr} {od_Page_parts an_Page_parts : Option Addr} {sl_Page_parts : Array (Option Value)} {oc_Page_parts kV_Page_parts dc_Page_parts pm_Page_parts cd_Page_parts ct_Page_parts : Value}
    (l_Page_parts : K.lookup f_Page_parts = some ⟨oc_Page_parts, od_Page_parts, .func (PySem.W.fnOf "parts" "Page.parts" (defArgs s_Page_parts) (defBody s_Page_parts) (defScope s_Page_parts) .none kV_Page_parts dc_Page_parts pm_Page_parts an_Page_parts cd_Page_parts ct_Page_parts), sl_Page_parts⟩)
    (k_Page_parts : PySem.W.codeIn K cd_Page_parts "Page.parts" = true)
    (p_Page_parts : PySem.W.keepIn K (.ref f_Page_parts) = true)
    {f_Page_ends : Addr} {od_Page_ends an_Page_ends : Option Addr} {sl_Page_ends : Array (Option Value)} {oc_Page_ends kV_Page_ends dc_Page_ends pm_Page_ends cd_Page_ends ct_Page_ends : Value}
    (l_Page_ends : K.lookup f_Page_ends = some ⟨oc_Page_ends, od_Page_ends, .func (PySem.W.fnOf "ends" "Page.ends" (defArgs s_Page_ends) (defBody s_Page_ends) (defScope s_Page_ends) .none kV_Page_ends dc_Page_ends pm_Page_ends an_Page_ends cd_Page_ends ct_Page_ends), sl_Page_ends⟩)
    (k_Page_ends : PySem.W.codeIn K cd_Page_ends "Page.ends" = true)
    (p_Page_ends : PySem.W.keepIn K (.ref f_Page_ends) = true)
    {f_is_integerX : Addr} {od_is_integerX an_is_integerX : Option Addr} {sl_is_integerX : Array (Option Value)} {oc_is_integerX kV_is_integerX dc_is_integerX pm_is_integerX cd_is_integerX ct_is_integerX : Value}
    (a_is_integerX : PySem.W.nsIn K mainGlobals "is_integer" = some (some (.ref f_is_integerX)))
    (l_is_integerX : K.lookup f_is_integerX = some ⟨oc_is_integerX, od_is_integerX, .func (PySem.W.fnOf "is_integer" "is_integer" (defArgs s_is_integer) (defBody s_is_integer) (defScope s_is_integer) .none kV_is_integerX dc_is_integerX pm_is_integerX an_is_integerX cd_is_integerX ct_is_integerX), sl_is_integerX⟩)
    (k_is_integerX : PySem.W.codeIn K cd_is_integerX "is_integer" = true)
    (p_is_integerX : PySem.W.keepIn K (.ref f_is_integerX) = true)
    {f_is_countsD : Addr} {od_is_countsD an_is_countsD : Option Addr} {sl_is_countsD : Array (Option Value)} {oc_is_countsD kV_is_countsD dc_is_countsD pm_is_countsD cd_is_countsD ct_is_countsD : Value}
    (a_is_countsD : PySem.W.nsIn K mainGlobals "is_counts" = some (some (.ref f_is_countsD)))
    (l_is_countsD : K.lookup f_is_countsD = some ⟨oc_is_countsD, od_is_countsD, .func (PySem.W.fnOf "is_counts" "is_counts" (defArgs s_is_counts) (defBody s_is_counts) (defScope s_is_counts) .none kV_is_countsD dc_is_countsD pm_is_countsD an_is_countsD cd_is_countsD ct_is_countsD), sl_is_countsD⟩)
    (k_is_countsD : PySem.W.codeIn K cd_is_countsD "is_counts" = true)
    (p_is_countsD : PySem.W.keepIn K (.ref f_is_countsD) = true)
    {f_Page__contains_ : Addr} {od_Page__contains_ an_Page__contains_ : Option Addr} {sl_Page__contains_ : Array (Option Value)} {oc_Page__contains_ kV_Page__contains_ dc_Page__contains_ pm_Page__contains_ cd_Page__contains_ ct_Page__contains_ : Value}
    (l_Page__contains_ : K.lookup f_Page__contains_ = some ⟨oc_Page__contains_, od_Page__contains_, .func (PySem.W.fnOf "__contains__" "Page.__contains__" (defArgs s_Page__contains_) (defBody s_Page__contains_) (defScope s_Page__contains_) .none kV_Page__contains_ dc_Page__contains_ pm_Page__contains_ an_Page__contains_ cd_Page__contains_ ct_Page__contains_), sl_Page__contains_⟩)
    (k_Page__contains_ : PySem.W.codeIn K cd_Page__contains_ "Page.__contains__" = true)
    (p_Page__contains_ : PySem.W.keepIn K (.ref f_Page__contains_) = true)
    {f_Page_ends_of : Addr} {od_Page_ends_of an_Page_ends_of : Option Addr} {sl_Page_ends_of : Array (Option Value)} {oc_Page_ends_of kV_Page_ends_of dc_Page_ends_of pm_Page_ends_of cd_Page_ends_of ct_Page_ends_of : Value}
    (l_Page_ends_of : K.lookup f_Page_ends_of = some ⟨oc_Page_ends_of, od_Page_ends_of, .func (PySem.W.fnOf "ends_of" "Page.ends_of" (defArgs s_Page_ends_of) (defBody s_Page_ends_of) (defScope s_Page_ends_of) .none kV_Page_ends_of dc_Page_ends_of pm_Page_ends_of an_Page_ends_of cd_Page_ends_of ct_Page_ends_of), sl_Page_ends_of⟩)
    (k_Page_ends_of : PySem.W.codeIn K cd_Page_ends_of "Page.ends_of" = true)
    (p_Page_ends_of : PySem.W.keepIn K (.ref f_Page_ends_of) = true)
    {f_many_in : Addr} {od_many_in an_many_in : Option Addr} {sl_many_in : Array (Option Value)} {oc_many_in kV_many_in dc_many_in pm_many_in cd_many_in ct_many_in : Value}
    (a_many_in : PySem.W.nsIn K mainGlobals "many_in" = some (some (.ref f_many_in)))
    (l_many_in : K.lookup f_many_in = some ⟨oc_many_in, od_many_in, .func (PySem.W.fnOf "many_in" "many_in" (defArgs s_many_in) (defBody s_many_in) (defScope s_many_in) .none kV_many_in dc_many_in pm_many_in an_many_in cd_many_in ct_many_in), sl_many_in⟩)
    (k_many_in : PySem.W.codeIn K cd_many_in "many_in" = true)
    (p_many_in : PySem.W.keepIn K (.ref f_many_in) = true)
    {f_Table_initD : Addr} {od_Table_initD an_Table_initD : Option Addr} {sl_Table_initD : Array (Option Value)} {oc_Table_initD kV_Table_initD dc_Table_initD pm_Table_initD cd_Table_initD ct_Table_initD : Value}
    (l_Table_initD : K.lookup f_Table_initD = some ⟨oc_Table_initD, od_Table_initD, .func (PySem.W.fnOf "__init__" "Table.__init__" (defArgs s_Table__init_) (defBody s_Table__init_) (defScope s_Table__init_) .none kV_Table_initD dc_Table_initD pm_Table_initD an_Table_initD cd_Table_initD ct_Table_initD), sl_Table_initD⟩)
    (k_Table_initD : PySem.W.codeIn K cd_Table_initD "Table.__init__" = true)
    (p_Table_initD : PySem.W.keepIn K (.ref f_Table_initD) = true)
    {f_Page__eq_ : Addr} {od_Page__eq_ an_Page__eq_ : Option Addr} {sl_Page__eq_ : Array (Option Value)} {oc_Page__eq_ kV_Page__eq_ dc_Page__eq_ pm_Page__eq_ cd_Page__eq_ ct_Page__eq_ : Value}
    (l_Page__eq_ : K.lookup f_Page__eq_ = some ⟨oc_Page__eq_, od_Page__eq_, .func (PySem.W.fnOf "__eq__" "Page.__eq__" (defArgs s_Page__eq_) (defBody s_Page__eq_) (defScope s_Page__eq_) .none kV_Page__eq_ dc_Page__eq_ pm_Page__eq_ an_Page__eq_ cd_Page__eq_ ct_Page__eq_), sl_Page__eq_⟩)
    (k_Page__eq_ : PySem.W.codeIn K cd_Page__eq_ "Page.__eq__" = true)
    (p_Page__eq_ : PySem.W.keepIn K (.ref f_Page__eq_) = true)
    {f_Table_eqX : Addr} {od_Table_eqX an_Table_eqX : Option Addr} {sl_Table_eqX : Array (Option Value)} {oc_Table_eqX kV_Table_eqX dc_Table_eqX pm_Table_eqX cd_Table_eqX ct_Table_eqX : Value}
    (l_Table_eqX : K.lookup f_Table_eqX = some ⟨oc_Table_eqX, od_Table_eqX, .func (PySem.W.fnOf "__eq__" "Table.__eq__" (defArgs s_Table__eq_) (defBody s_Table__eq_) (defScope s_Table__eq_) .none kV_Table_eqX dc_Table_eqX pm_Table_eqX an_Table_eqX cd_Table_eqX ct_Table_eqX), sl_Table_eqX⟩)
    (k_Table_eqX : PySem.W.codeIn K cd_Table_eqX "Table.__eq__" = true)
    (p_Table_eqX : PySem.W.keepIn K (.ref f_Table_eqX) = true)
    {f_law_line : Addr} {od_law_line an_law_line : Option Addr} {sl_law_line : Array (Option Value)} {oc_law_line kV_law_line dc_law_line pm_law_line cd_law_line ct_law_line : Value}
    (a_law_line : PySem.W.nsIn K mainGlobals "_law_line" = some (some (.ref f_law_line)))
    (l_law_line : K.lookup f_law_line = some ⟨oc_law_line, od_law_line, .func (PySem.W.fnOf "_law_line" "_law_line" (defArgs s_law_line) (defBody s_law_line) (defScope s_law_line) .none kV_law_line dc_law_line pm_law_line an_law_line cd_law_line ct_law_line), sl_law_line⟩)
    (k_law_line : PySem.W.codeIn K cd_law_line "_law_line" = true)
    (p_law_line : PySem.W.keepIn K (.ref f_law_line) = true)
    {f_law_text : Addr} {od_law_text an_law_text : Option Addr} {sl_law_text : Array (Option Value)} {oc_law_text kV_law_text dc_law_text pm_law_text cd_law_text ct_law_text : Value}
    (a_law_text : PySem.W.nsIn K mainGlobals "_law_text" = some (some (.ref f_law_text)))
    (l_law_text : K.lookup f_law_text = some ⟨oc_law_text, od_law_text, .func (PySem.W.fnOf "_law_text" "_law_text" (defArgs s_law_text) (defBody s_law_text) (defScope s_law_text) .none kV_law_text dc_law_text pm_law_text an_law_text cd_law_text ct_law_text), sl_law_text⟩)
    (k_law_text : PySem.W.codeIn K cd_law_text "_law_text" = true)
    (p_law_text : PySem.W.keepIn K (.ref f_law_text) = true)
    {f_law_take : Addr} {od_law_take an_law_take : Option Addr} {sl_law_take : Array (Option Value)} {oc_law_take kV_law_take dc_law_take pm_law_take cd_law_take ct_law_take : Value}
    (a_law_take : PySem.W.nsIn K mainGlobals "_law_take" = some (some (.ref f_law_take)))
    (l_law_take : K.lookup f_law_take = some ⟨oc_law_take, od_law_take, .func (PySem.W.fnOf "_law_take" "_law_take" (defArgs s_law_take) (defBody s_law_take) (defScope s_law_take) .none kV_law_take dc_law_take pm_law_take an_law_take cd_law_take ct_law_take), sl_law_take⟩)
    (k_law_take : PySem.W.codeIn K cd_law_take "_law_take" = true)
    (p_law_take : PySem.W.keepIn K (.ref f_law_take) = true)
    {f_law_of : Addr} {od_law_of an_law_of : Option Addr} {sl_law_of : Array (Option Value)} {oc_law_of kV_law_of dc_law_of pm_law_of cd_law_of ct_law_of : Value}
    (a_law_of : PySem.W.nsIn K mainGlobals "_law_of" = some (some (.ref f_law_of)))
    (l_law_of : K.lookup f_law_of = some ⟨oc_law_of, od_law_of, .func (PySem.W.fnOf "_law_of" "_law_of" (defArgs s_law_of) (defBody s_law_of) (defScope s_law_of) .none kV_law_of dc_law_of pm_law_of an_law_of cd_law_of ct_law_of), sl_law_of⟩)
    (k_law_of : PySem.W.codeIn K cd_law_of "_law_of" = true)
    (p_law_of : PySem.W.keepIn K (.ref f_law_of) = true)
    {f_law_some : Addr} {od_law_some an_law_some : Option Addr} {sl_law_some : Array (Option Value)} {oc_law_some kV_law_some dc_law_some pm_law_some cd_law_some ct_law_some : Value}
    (a_law_some : PySem.W.nsIn K mainGlobals "_law_some" = some (some (.ref f_law_some)))
    (l_law_some : K.lookup f_law_some = some ⟨oc_law_some, od_law_some, .func (PySem.W.fnOf "_law_some" "_law_some" (defArgs s_law_some) (defBody s_law_some) (defScope s_law_some) .none kV_law_some dc_law_some pm_law_some an_law_some cd_law_some ct_law_some), sl_law_some⟩)
    (k_law_some : PySem.W.codeIn K cd_law_some "_law_some" = true)
    (p_law_some : PySem.W.keepIn K (.ref f_law_some) = true)
    {f_law_names : Addr} {od_law_names an_law_names : Option Addr} {sl_law_names : Array (Option Value)} {oc_law_names kV_law_names dc_law_names pm_law_names cd_law_names ct_law_names : Value}
    (a_law_names : PySem.W.nsIn K mainGlobals "_law_names" = some (some (.ref f_law_names)))
    (l_law_names : K.lookup f_law_names = some ⟨oc_law_names, od_law_names, .func (PySem.W.fnOf "_law_names" "_law_names" (defArgs s_law_names) (defBody s_law_names) (defScope s_law_names) .none kV_law_names dc_law_names pm_law_names an_law_names cd_law_names ct_law_names), sl_law_names⟩)
    (k_law_names : PySem.W.codeIn K cd_law_names "_law_names" = true)
    (p_law_names : PySem.W.keepIn K (.ref f_law_names) = true)
    {f_law_tree : Addr} {od_law_tree an_law_tree : Option Addr} {sl_law_tree : Array (Option Value)} {oc_law_tree kV_law_tree dc_law_tree pm_law_tree cd_law_tree ct_law_tree : Value}
    (a_law_tree : PySem.W.nsIn K mainGlobals "_law_tree" = some (some (.ref f_law_tree)))
    (l_law_tree : K.lookup f_law_tree = some ⟨oc_law_tree, od_law_tree, .func (PySem.W.fnOf "_law_tree" "_law_tree" (defArgs s_law_tree) (defBody s_law_tree) (defScope s_law_tree) .none kV_law_tree dc_law_tree pm_law_tree an_law_tree cd_law_tree ct_law_tree), sl_law_tree⟩)
    (k_law_tree : PySem.W.codeIn K cd_law_tree "_law_tree" = true)
    (p_law_tree : PySem.W.keepIn K (.ref f_law_tree) = true)
    {f_law_units : Addr} {od_law_units an_law_units : Option Addr} {sl_law_units : Array (Option Value)} {oc_law_units kV_law_units dc_law_units pm_law_units cd_law_units ct_law_units : Value}
    (a_law_units : PySem.W.nsIn K mainGlobals "_law_units" = some (some (.ref f_law_units)))
    (l_law_units : K.lookup f_law_units = some ⟨oc_law_units, od_law_units, .func (PySem.W.fnOf "_law_units" "_law_units" (defArgs s_law_units) (defBody s_law_units) (defScope s_law_units) .none kV_law_units dc_law_units pm_law_units an_law_units cd_law_units ct_law_units), sl_law_units⟩)
    (k_law_units : PySem.W.codeIn K cd_law_units "_law_units" = true)
    (p_law_units : PySem.W.keepIn K (.ref f_law_units) = true)
    {f_law_parts : Addr} {od_law_parts an_law_parts : Option Addr} {sl_law_parts : Array (Option Value)} {oc_law_parts kV_law_parts dc_law_parts pm_law_parts cd_law_parts ct_law_parts : Value}
    (a_law_parts : PySem.W.nsIn K mainGlobals "_law_parts" = some (some (.ref f_law_parts)))
    (l_law_parts : K.lookup f_law_parts = some ⟨oc_law_parts, od_law_parts, .func (PySem.W.fnOf "_law_parts" "_law_parts" (defArgs s_law_parts) (defBody s_law_parts) (defScope s_law_parts) .none kV_law_parts dc_law_parts pm_law_parts an_law_parts cd_law_parts ct_law_parts), sl_law_parts⟩)
    (k_law_parts : PySem.W.codeIn K cd_law_parts "_law_parts" = true)
    (p_law_parts : PySem.W.keepIn K (.ref f_law_parts) = true)
    {f_law_ends : Addr} {od_law_ends an_law_ends : Option Addr} {sl_law_ends : Array (Option Value)} {oc_law_ends kV_law_ends dc_law_ends pm_law_ends cd_law_ends ct_law_ends : Value}
    (a_law_ends : PySem.W.nsIn K mainGlobals "_law_ends" = some (some (.ref f_law_ends)))
    (l_law_ends : K.lookup f_law_ends = some ⟨oc_law_ends, od_law_ends, .func (PySem.W.fnOf "_law_ends" "_law_ends" (defArgs s_law_ends) (defBody s_law_ends) (defScope s_law_ends) .none kV_law_ends dc_law_ends pm_law_ends an_law_ends cd_law_ends ct_law_ends), sl_law_ends⟩)
    (k_law_ends : PySem.W.codeIn K cd_law_ends "_law_ends" = true)
    (p_law_ends : PySem.W.keepIn K (.ref f_law_ends) = true)
    {f_law_ends_of : Addr} {od_law_ends_of an_law_ends_of : Option Addr} {sl_law_ends_of : Array (Option Value)} {oc_law_ends_of kV_law_ends_of dc_law_ends_of pm_law_ends_of cd_law_ends_of ct_law_ends_of : Value}
    (a_law_ends_of : PySem.W.nsIn K mainGlobals "_law_ends_of" = some (some (.ref f_law_ends_of)))
    (l_law_ends_of : K.lookup f_law_ends_of = some ⟨oc_law_ends_of, od_law_ends_of, .func (PySem.W.fnOf "_law_ends_of" "_law_ends_of" (defArgs s_law_ends_of) (defBody s_law_ends_of) (defScope s_law_ends_of) .none kV_law_ends_of dc_law_ends_of pm_law_ends_of an_law_ends_of cd_law_ends_of ct_law_ends_of), sl_law_ends_of⟩)
    (k_law_ends_of : PySem.W.codeIn K cd_law_ends_of "_law_ends_of" = true)
    (p_law_ends_of : PySem.W.keepIn K (.ref f_law_ends_of) = true)
    {f_law_weights : Addr} {od_law_weights an_law_weights : Option Addr} {sl_law_weights : Array (Option Value)} {oc_law_weights kV_law_weights dc_law_weights pm_law_weights cd_law_weights ct_law_weights : Value}
    (a_law_weights : PySem.W.nsIn K mainGlobals "_law_weights" = some (some (.ref f_law_weights)))
    (l_law_weights : K.lookup f_law_weights = some ⟨oc_law_weights, od_law_weights, .func (PySem.W.fnOf "_law_weights" "_law_weights" (defArgs s_law_weights) (defBody s_law_weights) (defScope s_law_weights) .none kV_law_weights dc_law_weights pm_law_weights an_law_weights cd_law_weights ct_law_weights), sl_law_weights⟩)
    (k_law_weights : PySem.W.codeIn K cd_law_weights "_law_weights" = true)
    (p_law_weights : PySem.W.keepIn K (.ref f_law_weights) = true)
    {f_law_number : Addr} {od_law_number an_law_number : Option Addr} {sl_law_number : Array (Option Value)} {oc_law_number kV_law_number dc_law_number pm_law_number cd_law_number ct_law_number : Value}
    (a_law_number : PySem.W.nsIn K mainGlobals "_law_number" = some (some (.ref f_law_number)))
    (l_law_number : K.lookup f_law_number = some ⟨oc_law_number, od_law_number, .func (PySem.W.fnOf "_law_number" "_law_number" (defArgs s_law_number) (defBody s_law_number) (defScope s_law_number) .none kV_law_number dc_law_number pm_law_number an_law_number cd_law_number ct_law_number), sl_law_number⟩)
    (k_law_number : PySem.W.codeIn K cd_law_number "_law_number" = true)
    (p_law_number : PySem.W.keepIn K (.ref f_law_number) = true)
    {f_law_rounded : Addr} {od_law_rounded an_law_rounded : Option Addr} {sl_law_rounded : Array (Option Value)} {oc_law_rounded kV_law_rounded dc_law_rounded pm_law_rounded cd_law_rounded ct_law_rounded : Value}
    (a_law_rounded : PySem.W.nsIn K mainGlobals "_law_rounded" = some (some (.ref f_law_rounded)))
    (l_law_rounded : K.lookup f_law_rounded = some ⟨oc_law_rounded, od_law_rounded, .func (PySem.W.fnOf "_law_rounded" "_law_rounded" (defArgs s_law_rounded) (defBody s_law_rounded) (defScope s_law_rounded) .none kV_law_rounded dc_law_rounded pm_law_rounded an_law_rounded cd_law_rounded ct_law_rounded), sl_law_rounded⟩)
    (k_law_rounded : PySem.W.codeIn K cd_law_rounded "_law_rounded" = true)
    (p_law_rounded : PySem.W.keepIn K (.ref f_law_rounded) = true)
    {f_law_share_of : Addr} {od_law_share_of an_law_share_of : Option Addr} {sl_law_share_of : Array (Option Value)} {oc_law_share_of kV_law_share_of dc_law_share_of pm_law_share_of cd_law_share_of ct_law_share_of : Value}
    (a_law_share_of : PySem.W.nsIn K mainGlobals "_law_share_of" = some (some (.ref f_law_share_of)))
    (l_law_share_of : K.lookup f_law_share_of = some ⟨oc_law_share_of, od_law_share_of, .func (PySem.W.fnOf "_law_share_of" "_law_share_of" (defArgs s_law_share_of) (defBody s_law_share_of) (defScope s_law_share_of) .none kV_law_share_of dc_law_share_of pm_law_share_of an_law_share_of cd_law_share_of ct_law_share_of), sl_law_share_of⟩)
    (k_law_share_of : PySem.W.codeIn K cd_law_share_of "_law_share_of" = true)
    (p_law_share_of : PySem.W.keepIn K (.ref f_law_share_of) = true)
    {f_law_lore : Addr} {od_law_lore an_law_lore : Option Addr} {sl_law_lore : Array (Option Value)} {oc_law_lore kV_law_lore dc_law_lore pm_law_lore cd_law_lore ct_law_lore : Value}
    (a_law_lore : PySem.W.nsIn K mainGlobals "_law_lore" = some (some (.ref f_law_lore)))
    (l_law_lore : K.lookup f_law_lore = some ⟨oc_law_lore, od_law_lore, .func (PySem.W.fnOf "_law_lore" "_law_lore" (defArgs s_law_lore) (defBody s_law_lore) (defScope s_law_lore) .none kV_law_lore dc_law_lore pm_law_lore an_law_lore cd_law_lore ct_law_lore), sl_law_lore⟩)
    (k_law_lore : PySem.W.codeIn K cd_law_lore "_law_lore" = true)
    (p_law_lore : PySem.W.keepIn K (.ref f_law_lore) = true)
    {f_law_shapes : Addr} {od_law_shapes an_law_shapes : Option Addr} {sl_law_shapes : Array (Option Value)} {oc_law_shapes kV_law_shapes dc_law_shapes pm_law_shapes cd_law_shapes ct_law_shapes : Value}
    (a_law_shapes : PySem.W.nsIn K mainGlobals "_law_shapes" = some (some (.ref f_law_shapes)))
    (l_law_shapes : K.lookup f_law_shapes = some ⟨oc_law_shapes, od_law_shapes, .func (PySem.W.fnOf "_law_shapes" "_law_shapes" (defArgs s_law_shapes) (defBody s_law_shapes) (defScope s_law_shapes) .none kV_law_shapes dc_law_shapes pm_law_shapes an_law_shapes cd_law_shapes ct_law_shapes), sl_law_shapes⟩)
    (k_law_shapes : PySem.W.codeIn K cd_law_shapes "_law_shapes" = true)
    (p_law_shapes : PySem.W.keepIn K (.ref f_law_shapes) = true)
    {f_containsD : Addr} {od_containsD an_containsD : Option Addr} {sl_containsD : Array (Option Value)} {oc_containsD kV_containsD dc_containsD pm_containsD cd_containsD ct_containsD : Value}
    (l_containsD : K.lookup f_containsD = some ⟨oc_containsD, od_containsD, .func (PySem.W.fnOf "__contains__" "Page.__contains__" (defArgs s_Page__contains_) (defBody s_Page__contains_) (defScope s_Page__contains_) .none kV_containsD dc_containsD pm_containsD an_containsD cd_containsD ct_containsD), sl_containsD⟩)
    (k_containsD : PySem.W.codeIn K cd_containsD "Page.__contains__" = true)
    (p_containsD : PySem.W.keepIn K (.ref f_containsD) = true)
    {f_atD : Addr} {od_atD an_atD : Option Addr} {sl_atD : Array (Option Value)} {oc_atD kV_atD dc_atD pm_atD cd_atD ct_atD : Value}
    (l_atD : K.lookup f_atD = some ⟨oc_atD, od_atD, .func (PySem.W.fnOf "__getitem__" "Table.__getitem__" (defArgs s_Table__getitem_) (defBody s_Table__getitem_) (defScope s_Table__getitem_) .none kV_atD dc_atD pm_atD an_atD cd_atD ct_atD), sl_atD⟩)
    (k_atD : PySem.W.codeIn K cd_atD "Table.__getitem__" = true)
    (p_atD : PySem.W.keepIn K (.ref f_atD) = true)
    {f_least_terms : Addr} {od_least_terms an_least_terms : Option Addr} {sl_least_terms : Array (Option Value)} {oc_least_terms kV_least_terms dc_least_terms pm_least_terms cd_least_terms ct_least_terms : Value}
    (a_least_terms : PySem.W.nsIn K mainGlobals "least_terms" = some (some (.ref f_least_terms)))
    (l_least_terms : K.lookup f_least_terms = some ⟨oc_least_terms, od_least_terms, .func (PySem.W.fnOf "least_terms" "least_terms" (defArgs s_least_terms) (defBody s_least_terms) (defScope s_least_terms) .none kV_least_terms dc_least_terms pm_least_terms an_least_terms cd_least_terms ct_least_terms), sl_least_terms⟩)
    (k_least_terms : PySem.W.codeIn K cd_least_terms "least_terms" = true)
    (p_least_terms : PySem.W.keepIn K (.ref f_least_terms) = true)
    {f_shareD : Addr} {od_shareD an_shareD : Option Addr} {sl_shareD : Array (Option Value)} {oc_shareD kV_shareD dc_shareD pm_shareD cd_shareD ct_shareD : Value}
    (l_shareD : K.lookup f_shareD = some ⟨oc_shareD, od_shareD, .func (PySem.W.fnOf "share" "Table.share" (defArgs s_Table_share) (defBody s_Table_share) (defScope s_Table_share) .none kV_shareD dc_shareD pm_shareD an_shareD cd_shareD ct_shareD), sl_shareD⟩)
    (k_shareD : PySem.W.codeIn K cd_shareD "Table.share" = true)
    (p_shareD : PySem.W.keepIn K (.ref f_shareD) = true)
    {f_Table_page : Addr} {od_Table_page an_Table_page : Option Addr} {sl_Table_page : Array (Option Value)} {oc_Table_page kV_Table_page dc_Table_page pm_Table_page cd_Table_page ct_Table_page : Value}
    (l_Table_page : K.lookup f_Table_page = some ⟨oc_Table_page, od_Table_page, .func (PySem.W.fnOf "page" "Table.page" (defArgs s_Table_page) (defBody s_Table_page) (defScope s_Table_page) .none kV_Table_page dc_Table_page pm_Table_page an_Table_page cd_Table_page ct_Table_page), sl_Table_page⟩)
    (k_Table_page : PySem.W.codeIn K cd_Table_page "Table.page" = true)
    (p_Table_page : PySem.W.keepIn K (.ref f_Table_page) = true)
    {f_Table_counts : Addr} {od_Table_counts an_Table_counts : Option Addr} {sl_Table_counts : Array (Option Value)} {oc_Table_counts kV_Table_counts dc_Table_counts pm_Table_counts cd_Table_counts ct_Table_counts : Value}
    (l_Table_counts : K.lookup f_Table_counts = some ⟨oc_Table_counts, od_Table_counts, .func (PySem.W.fnOf "counts" "Table.counts" (defArgs s_Table_counts) (defBody s_Table_counts) (defScope s_Table_counts) .none kV_Table_counts dc_Table_counts pm_Table_counts an_Table_counts cd_Table_counts ct_Table_counts), sl_Table_counts⟩)
    (k_Table_counts : PySem.W.codeIn K cd_Table_counts "Table.counts" = true)
    (p_Table_counts : PySem.W.keepIn K (.ref f_Table_counts) = true)
    {f_Table_total : Addr} {od_Table_total an_Table_total : Option Addr} {sl_Table_total : Array (Option Value)} {oc_Table_total kV_Table_total dc_Table_total pm_Table_total cd_Table_total ct_Table_total : Value}
    (l_Table_total : K.lookup f_Table_total = some ⟨oc_Table_total, od_Table_total, .func (PySem.W.fnOf "total" "Table.total" (defArgs s_Table_total) (defBody s_Table_total) (defScope s_Table_total) .none kV_Table_total dc_Table_total pm_Table_total an_Table_total cd_Table_total ct_Table_total), sl_Table_total⟩)
    (k_Table_total : PySem.W.codeIn K cd_Table_total "Table.total" = true)
    (p_Table_total : PySem.W.keepIn K (.ref f_Table_total) = true)
    {f_law_common : Addr} {od_law_common an_law_common : Option Addr} {sl_law_common : Array (Option Value)} {oc_law_common kV_law_common dc_law_common pm_law_common cd_law_common ct_law_common : Value}
    (a_law_common : PySem.W.nsIn K mainGlobals "_law_common" = some (some (.ref f_law_common)))
    (l_law_common : K.lookup f_law_common = some ⟨oc_law_common, od_law_common, .func (PySem.W.fnOf "_law_common" "_law_common" (defArgs s_law_common) (defBody s_law_common) (defScope s_law_common) .none kV_law_common dc_law_common pm_law_common an_law_common cd_law_common ct_law_common), sl_law_common⟩)
    (k_law_common : PySem.W.codeIn K cd_law_common "_law_common" = true)
    (p_law_common : PySem.W.keepIn K (.ref f_law_common) = true)
    {f_law_pair : Addr} {od_law_pair an_law_pair : Option Addr} {sl_law_pair : Array (Option Value)} {oc_law_pair kV_law_pair dc_law_pair pm_law_pair cd_law_pair ct_law_pair : Value}
    (a_law_pair : PySem.W.nsIn K mainGlobals "_law_pair" = some (some (.ref f_law_pair)))
    (l_law_pair : K.lookup f_law_pair = some ⟨oc_law_pair, od_law_pair, .func (PySem.W.fnOf "_law_pair" "_law_pair" (defArgs s_law_pair) (defBody s_law_pair) (defScope s_law_pair) .none kV_law_pair dc_law_pair pm_law_pair an_law_pair cd_law_pair ct_law_pair), sl_law_pair⟩)
    (k_law_pair : PySem.W.codeIn K cd_law_pair "_law_pair" = true)
    (p_law_pair : PySem.W.keepIn K (.ref f_law_pair) = true)
    {f_law_share_due : Addr} {od_law_share_due an_law_share_due : Option Addr} {sl_law_share_due : Array (Option Value)} {oc_law_share_due kV_law_share_due dc_law_share_due pm_law_share_due cd_law_share_due ct_law_share_due : Value}
    (a_law_share_due : PySem.W.nsIn K mainGlobals "_law_share_due" = some (some (.ref f_law_share_due)))
    (l_law_share_due : K.lookup f_law_share_due = some ⟨oc_law_share_due, od_law_share_due, .func (PySem.W.fnOf "_law_share_due" "_law_share_due" (defArgs s_law_share_due) (defBody s_law_share_due) (defScope s_law_share_due) .none kV_law_share_due dc_law_share_due pm_law_share_due an_law_share_due cd_law_share_due ct_law_share_due), sl_law_share_due⟩)
    (k_law_share_due : PySem.W.codeIn K cd_law_share_due "_law_share_due" = true)
    (p_law_share_due : PySem.W.keepIn K (.ref f_law_share_due) = true)
    {f_law_is_told : Addr} {od_law_is_told an_law_is_told : Option Addr} {sl_law_is_told : Array (Option Value)} {oc_law_is_told kV_law_is_told dc_law_is_told pm_law_is_told cd_law_is_told ct_law_is_told : Value}
    (a_law_is_told : PySem.W.nsIn K mainGlobals "_law_is_told" = some (some (.ref f_law_is_told)))
    (l_law_is_told : K.lookup f_law_is_told = some ⟨oc_law_is_told, od_law_is_told, .func (PySem.W.fnOf "_law_is_told" "_law_is_told" (defArgs s_law_is_told) (defBody s_law_is_told) (defScope s_law_is_told) .none kV_law_is_told dc_law_is_told pm_law_is_told an_law_is_told cd_law_is_told ct_law_is_told), sl_law_is_told⟩)
    (k_law_is_told : PySem.W.codeIn K cd_law_is_told "_law_is_told" = true)
    (p_law_is_told : PySem.W.keepIn K (.ref f_law_is_told) = true)
    {f_lineD : Addr} {od_lineD an_lineD : Option Addr} {sl_lineD : Array (Option Value)} {oc_lineD kV_lineD dc_lineD pm_lineD cd_lineD ct_lineD : Value}
    (l_lineD : K.lookup f_lineD = some ⟨oc_lineD, od_lineD, .func (PySem.W.fnOf "__getitem__" "Page.__getitem__" (defArgs s_Page__getitem_) (defBody s_Page__getitem_) (defScope s_Page__getitem_) .none kV_lineD dc_lineD pm_lineD an_lineD cd_lineD ct_lineD), sl_lineD⟩)
    (k_lineD : PySem.W.codeIn K cd_lineD "Page.__getitem__" = true)
    (p_lineD : PySem.W.keepIn K (.ref f_lineD) = true)
    {f_showsD : Addr} {od_showsD an_showsD : Option Addr} {sl_showsD : Array (Option Value)} {oc_showsD kV_showsD dc_showsD pm_showsD cd_showsD ct_showsD : Value}
    (l_showsD : K.lookup f_showsD = some ⟨oc_showsD, od_showsD, .func (PySem.W.fnOf "shows" "Table.shows" (defArgs s_Table_shows) (defBody s_Table_shows) (defScope s_Table_shows) .none kV_showsD dc_showsD pm_showsD an_showsD cd_showsD ct_showsD), sl_showsD⟩)
    (k_showsD : PySem.W.codeIn K cd_showsD "Table.shows" = true)
    (p_showsD : PySem.W.keepIn K (.ref f_showsD) = true)
    {f_law_told : Addr} {od_law_told an_law_told : Option Addr} {sl_law_told : Array (Option Value)} {oc_law_told kV_law_told dc_law_told pm_law_told cd_law_told ct_law_told : Value}
    (a_law_told : PySem.W.nsIn K mainGlobals "_law_told" = some (some (.ref f_law_told)))
    (l_law_told : K.lookup f_law_told = some ⟨oc_law_told, od_law_told, .func (PySem.W.fnOf "_law_told" "_law_told" (defArgs s_law_told) (defBody s_law_told) (defScope s_law_told) .none kV_law_told dc_law_told pm_law_told an_law_told cd_law_told ct_law_told), sl_law_told⟩)
    (k_law_told : PySem.W.codeIn K cd_law_told "_law_told" = true)
    (p_law_told : PySem.W.keepIn K (.ref f_law_told) = true)
    {f_law_is_none : Addr} {od_law_is_none an_law_is_none : Option Addr} {sl_law_is_none : Array (Option Value)} {oc_law_is_none kV_law_is_none dc_law_is_none pm_law_is_none cd_law_is_none ct_law_is_none : Value}
    (a_law_is_none : PySem.W.nsIn K mainGlobals "_law_is_none" = some (some (.ref f_law_is_none)))
    (l_law_is_none : K.lookup f_law_is_none = some ⟨oc_law_is_none, od_law_is_none, .func (PySem.W.fnOf "_law_is_none" "_law_is_none" (defArgs s_law_is_none) (defBody s_law_is_none) (defScope s_law_is_none) .none kV_law_is_none dc_law_is_none pm_law_is_none an_law_is_none cd_law_is_none ct_law_is_none), sl_law_is_none⟩)
    (k_law_is_none : PySem.W.codeIn K cd_law_is_none "_law_is_none" = true)
    (p_law_is_none : PySem.W.keepIn K (.ref f_law_is_none) = true)
    {f_law_odd : Addr} {od_law_odd an_law_odd : Option Addr} {sl_law_odd : Array (Option Value)} {oc_law_odd kV_law_odd dc_law_odd pm_law_odd cd_law_odd ct_law_odd : Value}
    (a_law_odd : PySem.W.nsIn K mainGlobals "_law_odd" = some (some (.ref f_law_odd)))
    (l_law_odd : K.lookup f_law_odd = some ⟨oc_law_odd, od_law_odd, .func (PySem.W.fnOf "_law_odd" "_law_odd" (defArgs s_law_odd) (defBody s_law_odd) (defScope s_law_odd) .none kV_law_odd dc_law_odd pm_law_odd an_law_odd cd_law_odd ct_law_odd), sl_law_odd⟩)
    (k_law_odd : PySem.W.codeIn K cd_law_odd "_law_odd" = true)
    (p_law_odd : PySem.W.keepIn K (.ref f_law_odd) = true)
    {f_law_names_right : Addr} {od_law_names_right an_law_names_right : Option Addr} {sl_law_names_right : Array (Option Value)} {oc_law_names_right kV_law_names_right dc_law_names_right pm_law_names_right ct_law_names_right : Value}
    (a_law_names_right : PySem.W.nsIn K mainGlobals "_law_names_right" = some (some (.ref f_law_names_right)))
    (l_law_names_right : K.lookup f_law_names_right = some ⟨oc_law_names_right, od_law_names_right, .func (PySem.W.fnOf "_law_names_right" "_law_names_right" (defArgs s_law_names_right) (defBody s_law_names_right) (defScope s_law_names_right) .none kV_law_names_right dc_law_names_right pm_law_names_right an_law_names_right (.ref tc1) ct_law_names_right), sl_law_names_right⟩)
    (k_law_names_right : PySem.W.codeIn K (.ref tc1) "_law_names_right" = true)
    (p_law_names_right : PySem.W.keepIn K (.ref f_law_names_right) = true)
    {f_law_bent_0 : Addr} {od_law_bent_0 an_law_bent_0 : Option Addr} {sl_law_bent_0 : Array (Option Value)} {oc_law_bent_0 kV_law_bent_0 dc_law_bent_0 pm_law_bent_0 cd_law_bent_0 ct_law_bent_0 : Value}
    (a_law_bent_0 : PySem.W.nsIn K mainGlobals "_law_bent" = some (some (.ref f_law_bent_0)))
    (l_law_bent_0 : K.lookup f_law_bent_0 = some ⟨oc_law_bent_0, od_law_bent_0, .func (PySem.W.fnOf "_law_bent" "_law_bent" (defArgs s_law_bent) (defBody s_law_bent) (defScope s_law_bent) .none kV_law_bent_0 dc_law_bent_0 pm_law_bent_0 an_law_bent_0 cd_law_bent_0 ct_law_bent_0), sl_law_bent_0⟩)
    (k_law_bent_0 : PySem.W.codeIn K cd_law_bent_0 "_law_bent" = true)
    (p_law_bent_0 : PySem.W.keepIn K (.ref f_law_bent_0) = true)
    {f_law_bent : Addr} {od_law_bent an_law_bent : Option Addr} {sl_law_bent : Array (Option Value)} {oc_law_bent kV_law_bent dc_law_bent pm_law_bent cd_law_bent ct_law_bent : Value}
    (a_law_bent : PySem.W.nsIn K mainGlobals "_law_bent" = some (some (.ref f_law_bent)))
    (l_law_bent : K.lookup f_law_bent = some ⟨oc_law_bent, od_law_bent, .func (PySem.W.fnOf "_law_bent" "_law_bent" (defArgs s_law_bent) (defBody s_law_bent) (defScope s_law_bent) .none kV_law_bent dc_law_bent pm_law_bent an_law_bent cd_law_bent ct_law_bent), sl_law_bent⟩)
    (k_law_bent : PySem.W.codeIn K cd_law_bent "_law_bent" = true)
    (p_law_bent : PySem.W.keepIn K (.ref f_law_bent) = true)
    {f_law_are_countsD : Addr} {od_law_are_countsD an_law_are_countsD : Option Addr} {sl_law_are_countsD : Array (Option Value)} {oc_law_are_countsD kV_law_are_countsD dc_law_are_countsD pm_law_are_countsD cd_law_are_countsD ct_law_are_countsD : Value}
    (a_law_are_countsD : PySem.W.nsIn K mainGlobals "_law_are_counts" = some (some (.ref f_law_are_countsD)))
    (l_law_are_countsD : K.lookup f_law_are_countsD = some ⟨oc_law_are_countsD, od_law_are_countsD, .func (PySem.W.fnOf "_law_are_counts" "_law_are_counts" (defArgs s_law_are_counts) (defBody s_law_are_counts) (defScope s_law_are_counts) .none kV_law_are_countsD dc_law_are_countsD pm_law_are_countsD an_law_are_countsD cd_law_are_countsD ct_law_are_countsD), sl_law_are_countsD⟩)
    (k_law_are_countsD : PySem.W.codeIn K cd_law_are_countsD "_law_are_counts" = true)
    (p_law_are_countsD : PySem.W.keepIn K (.ref f_law_are_countsD) = true)
    {f_law_is_judged : Addr} {od_law_is_judged an_law_is_judged : Option Addr} {sl_law_is_judged : Array (Option Value)} {oc_law_is_judged kV_law_is_judged dc_law_is_judged pm_law_is_judged ct_law_is_judged : Value}
    (a_law_is_judged : PySem.W.nsIn K mainGlobals "_law_is_judged" = some (some (.ref f_law_is_judged)))
    (l_law_is_judged : K.lookup f_law_is_judged = some ⟨oc_law_is_judged, od_law_is_judged, .func (PySem.W.fnOf "_law_is_judged" "_law_is_judged" (defArgs s_law_is_judged) (defBody s_law_is_judged) (defScope s_law_is_judged) .none kV_law_is_judged dc_law_is_judged pm_law_is_judged an_law_is_judged (.ref tc2) ct_law_is_judged), sl_law_is_judged⟩)
    (k_law_is_judged : PySem.W.codeIn K (.ref tc2) "_law_is_judged" = true)
    (p_law_is_judged : PySem.W.keepIn K (.ref f_law_is_judged) = true)
    {f_law_is_other : Addr} {od_law_is_other an_law_is_other : Option Addr} {sl_law_is_other : Array (Option Value)} {oc_law_is_other kV_law_is_other dc_law_is_other pm_law_is_other cd_law_is_other ct_law_is_other : Value}
    (a_law_is_other : PySem.W.nsIn K mainGlobals "_law_is_other" = some (some (.ref f_law_is_other)))
    (l_law_is_other : K.lookup f_law_is_other = some ⟨oc_law_is_other, od_law_is_other, .func (PySem.W.fnOf "_law_is_other" "_law_is_other" (defArgs s_law_is_other) (defBody s_law_is_other) (defScope s_law_is_other) .none kV_law_is_other dc_law_is_other pm_law_is_other an_law_is_other cd_law_is_other ct_law_is_other), sl_law_is_other⟩)
    (k_law_is_other : PySem.W.codeIn K cd_law_is_other "_law_is_other" = true)
    (p_law_is_other : PySem.W.keepIn K (.ref f_law_is_other) = true)
    {f_law_right : Addr} {od_law_right an_law_right : Option Addr} {sl_law_right : Array (Option Value)} {oc_law_right kV_law_right dc_law_right pm_law_right cd_law_right ct_law_right : Value}
    (a_law_right : PySem.W.nsIn K mainGlobals "_law_right" = some (some (.ref f_law_right)))
    (l_law_right : K.lookup f_law_right = some ⟨oc_law_right, od_law_right, .func (PySem.W.fnOf "_law_right" "_law_right" (defArgs s_law_right) (defBody s_law_right) (defScope s_law_right) .none kV_law_right dc_law_right pm_law_right an_law_right cd_law_right ct_law_right), sl_law_right⟩)
    (k_law_right : PySem.W.codeIn K cd_law_right "_law_right" = true)
    (p_law_right : PySem.W.keepIn K (.ref f_law_right) = true)
    {f_law : Addr} {od_law an_law : Option Addr} {sl_law : Array (Option Value)} {oc_law kV_law dc_law pm_law cd_law ct_law : Value}
    (a_law : PySem.W.nsIn K mainGlobals "law" = some (some (.ref f_law)))
    (l_law : K.lookup f_law = some ⟨oc_law, od_law, .func (PySem.W.fnOf "law" "law" (defArgs s_law) (defBody s_law) (defScope s_law) .none kV_law dc_law pm_law an_law cd_law ct_law), sl_law⟩)
    (k_law : PySem.W.codeIn K cd_law "law" = true)
    (p_law : PySem.W.keepIn K (.ref f_law) = true)
    (z_range : PySem.W.nsIn K mainGlobals "range" = some none)
    (z_max : PySem.W.nsIn K mainGlobals "max" = some none)
    (z_min : PySem.W.nsIn K mainGlobals "min" = some none)
    (z_len : PySem.W.nsIn K mainGlobals "len" = some none)
    (z_list : PySem.W.nsIn K mainGlobals "list" = some none)
    (z_int : PySem.W.nsIn K mainGlobals "int" = some none)
    (z_abs : PySem.W.nsIn K mainGlobals "abs" = some none)
    (z_str : PySem.W.nsIn K mainGlobals "str" = some none)
    (z_isinstance : PySem.W.nsIn K mainGlobals "isinstance" = some none)
    (z_bool : PySem.W.nsIn K mainGlobals "bool" = some none)
    (z_tuple : PySem.W.nsIn K mainGlobals "tuple" = some none)
    (z_dict : PySem.W.nsIn K mainGlobals "dict" = some none)
    (z_zip : PySem.W.nsIn K mainGlobals "zip" = some none)
    (z_enumerate : PySem.W.nsIn K mainGlobals "enumerate" = some none)
    (z_all : PySem.W.nsIn K mainGlobals "all" = some none)
    (z_sum : PySem.W.nsIn K mainGlobals "sum" = some none)
    (z_repr : PySem.W.nsIn K mainGlobals "repr" = some none)
    {C : Addr}
    (a_C : PySem.W.nsIn K mainGlobals "Page" = some (some (.ref C)))
    (c_pg : PySem.W.plainGet K C Str.empty = true)
    (c_hd : PySem.W.hasDictIn K C = true)
    (c_po : PySem.W.plainOver K C = true)
    (c_sa : PySem.W.findIn K (.ref C) "__setattr__" = some (some (.builtin "object.__setattr__")))
    (n_text : PySem.W.findIn K (.ref C) "_text" = some none)
    (n_units : PySem.W.findIn K (.ref C) "_units" = some none)
    (n_lines : PySem.W.findIn K (.ref C) "_lines" = some none)
    (n_ends : PySem.W.findIn K (.ref C) "_ends" = some none)
    (at_Page__init_ : PySem.W.findIn K (.ref C) "__init__" = some (some (.ref f_Page__init_)))
    (fn_Page__init_ : PySem.W.isFn K (.ref f_Page__init_) = true)
    {pp_Page_parts : Addr} {rest_Page_parts : List Value}
    (at_Page_parts : PySem.W.findIn K (.ref C) "parts" = some (some (.ref pp_Page_parts)))
    (ge_Page_parts : PySem.W.specialIn K (.ref pp_Page_parts) "__get__" = some (some (.builtin "property.__get__")))
    (ta_Page_parts : PySem.W.takesIn K (.ref pp_Page_parts) = some true)
    (re_Page_parts : PySem.W.recIn K pp_Page_parts "property" = some (.ref f_Page_parts :: rest_Page_parts))
    {pp_Page_ends : Addr} {rest_Page_ends : List Value}
    (at_Page_ends : PySem.W.findIn K (.ref C) "ends" = some (some (.ref pp_Page_ends)))
    (ge_Page_ends : PySem.W.specialIn K (.ref pp_Page_ends) "__get__" = some (some (.builtin "property.__get__")))
    (ta_Page_ends : PySem.W.takesIn K (.ref pp_Page_ends) = some true)
    (re_Page_ends : PySem.W.recIn K pp_Page_ends "property" = some (.ref f_Page_ends :: rest_Page_ends))
    (at_Page__contains_ : PySem.W.findIn K (.ref C) "__contains__" = some (some (.ref f_Page__contains_)))
    (fn_Page__contains_ : PySem.W.isFn K (.ref f_Page__contains_) = true)
    (at_Page_ends_of : PySem.W.findIn K (.ref C) "ends_of" = some (some (.ref f_Page_ends_of)))
    (fn_Page_ends_of : PySem.W.isFn K (.ref f_Page_ends_of) = true)
    (at_Page__eq_ : PySem.W.findIn K (.ref C) "__eq__" = some (some (.ref f_Page__eq_)))
    (fn_Page__eq_ : PySem.W.isFn K (.ref f_Page__eq_) = true)
    (at_containsD : PySem.W.findIn K (.ref C) "__contains__" = some (some (.ref f_containsD)))
    (fn_containsD : PySem.W.isFn K (.ref f_containsD) = true)
    (at_lineD : PySem.W.findIn K (.ref C) "__getitem__" = some (some (.ref f_lineD)))
    (fn_lineD : PySem.W.isFn K (.ref f_lineD) = true)
    (fi_lineD : PySem.W.fnIn K f_lineD = true)
    (T_ha : PySem.W.findIn K (.ref C) "__class__" = some (some (.builtin "object.__class__")))
    (T_hn : PySem.W.specialIn K (.builtin "object.__class__") "__get__" = some (some (.builtin "getset_descriptor.__get__")))
    (T_htk : PySem.W.takesIn K (.builtin "object.__class__") = some true)
    (T_hm : PySem.W.mroIn K C (.type "object") = some true)
    (mk_C : PySem.W.makesIn K C = true)
    (kp_C : PySem.W.keepIn K (.ref C) = true)
    {NP : Addr}
    (a_NP : PySem.W.nsIn K mainGlobals "NoPart" = some (some (.ref NP)))
    {NA : Addr}
    (a_NA : PySem.W.nsIn K mainGlobals "NoAbove" = some (some (.ref NA)))
    {BC : Addr}
    (a_BC : PySem.W.nsIn K mainGlobals "BadCounts" = some (some (.ref BC)))
    {CA : Addr}
    (a_CA : PySem.W.nsIn K mainGlobals "AskedError" = some (some (.ref CA)))
    {xclA : PySem.ClassData}
    (xc_xA : PySem.W.subIn K (.ref CA) (.type "BaseException") = some true)
    (xc_yA : PySem.W.typeIn K (.ref CA) = some (.type "type"))
    (xc_cA : PySem.W.clsIn K CA = some xclA)
    {xN_NP : Addr} {xnm_NP xq_NP : Str} {xbs_NP xbm_NP xsub_NP : List Value} {xsn_NP : List Str} {xab_NP : Bool} {xcol_NP : Option Bool} {xdd_NP : Option Addr} {x0_NP x1_NP x2_NP x3_NP x5_NP : Option Value} {xcl_NP : PySem.ClassData}
    (x_NP : K.lookup NP = some (excClassObj xnm_NP xq_NP NP xN_NP xbs_NP xbm_NP true xsn_NP xsub_NP xab_NP xcol_NP xdd_NP x0_NP x1_NP x2_NP x3_NP x5_NP "ValueError.__new__"))
    (rf_NP : PySem.HandSPX.refsVE xbm_NP = true)
    (xc_sa_NP : PySem.W.findIn K (.ref NP) "__setattr__" = some (some (.builtin "object.__setattr__")))
    (xc_ex_NP : PySem.W.subIn K (.ref NP) (.type "BaseException") = some true)
    (xc_ty_NP : PySem.W.typeIn K (.ref NP) = some (.type "type"))
    (xc_kp_NP : PySem.W.keepIn K (.ref NP) = true)
    (xc_ga_NP : PySem.W.findIn K (.ref NP) "__getattribute__" = some (some (.builtin "BaseException.__getattribute__")))
    (xc_gg_NP : PySem.W.findIn K (.ref NP) "__getattr__" = some none)
    (xc_hd_NP : PySem.W.hasDictIn K NP = true)
    (xc_cl_NP : PySem.W.findIn K (.ref NP) "__class__" = some (some (.builtin "object.__class__")))
    (xc_mo_NP : PySem.W.mroIn K NP (.type "object") = some true)
    (xc_va_NP : PySem.W.findIn K (.ref NP) "value" = some none)
    (xc_in_NP : PySem.W.findIn K (.ref NP) "__init__" = some (some (.ref f_AskedError__init_)))
    (xc_sA_NP : PySem.W.subIn K (.ref NP) (.ref CA) = some true)
    (xc_cs_NP : PySem.W.clsIn K NP = some xcl_NP)
    {xN_NA : Addr} {xnm_NA xq_NA : Str} {xbs_NA xbm_NA xsub_NA : List Value} {xsn_NA : List Str} {xab_NA : Bool} {xcol_NA : Option Bool} {xdd_NA : Option Addr} {x0_NA x1_NA x2_NA x3_NA x5_NA : Option Value} {xcl_NA : PySem.ClassData}
    (x_NA : K.lookup NA = some (excClassObj xnm_NA xq_NA NA xN_NA xbs_NA xbm_NA true xsn_NA xsub_NA xab_NA xcol_NA xdd_NA x0_NA x1_NA x2_NA x3_NA x5_NA "ValueError.__new__"))
    (rf_NA : PySem.HandSPX.refsVE xbm_NA = true)
    (xc_sa_NA : PySem.W.findIn K (.ref NA) "__setattr__" = some (some (.builtin "object.__setattr__")))
    (xc_ex_NA : PySem.W.subIn K (.ref NA) (.type "BaseException") = some true)
    (xc_ty_NA : PySem.W.typeIn K (.ref NA) = some (.type "type"))
    (xc_kp_NA : PySem.W.keepIn K (.ref NA) = true)
    (xc_ga_NA : PySem.W.findIn K (.ref NA) "__getattribute__" = some (some (.builtin "BaseException.__getattribute__")))
    (xc_gg_NA : PySem.W.findIn K (.ref NA) "__getattr__" = some none)
    (xc_hd_NA : PySem.W.hasDictIn K NA = true)
    (xc_cl_NA : PySem.W.findIn K (.ref NA) "__class__" = some (some (.builtin "object.__class__")))
    (xc_mo_NA : PySem.W.mroIn K NA (.type "object") = some true)
    (xc_va_NA : PySem.W.findIn K (.ref NA) "value" = some none)
    (xc_in_NA : PySem.W.findIn K (.ref NA) "__init__" = some (some (.ref f_AskedError__init_)))
    (xc_sA_NA : PySem.W.subIn K (.ref NA) (.ref CA) = some true)
    (xc_cs_NA : PySem.W.clsIn K NA = some xcl_NA)
    {xN_BC : Addr} {xnm_BC xq_BC : Str} {xbs_BC xbm_BC xsub_BC : List Value} {xsn_BC : List Str} {xab_BC : Bool} {xcol_BC : Option Bool} {xdd_BC : Option Addr} {x0_BC x1_BC x2_BC x3_BC x5_BC : Option Value} {xcl_BC : PySem.ClassData}
    (x_BC : K.lookup BC = some (excClassObj xnm_BC xq_BC BC xN_BC xbs_BC xbm_BC true xsn_BC xsub_BC xab_BC xcol_BC xdd_BC x0_BC x1_BC x2_BC x3_BC x5_BC "ValueError.__new__"))
    (rf_BC : PySem.HandSPX.refsVE xbm_BC = true)
    (xc_sa_BC : PySem.W.findIn K (.ref BC) "__setattr__" = some (some (.builtin "object.__setattr__")))
    (xc_ex_BC : PySem.W.subIn K (.ref BC) (.type "BaseException") = some true)
    (xc_ty_BC : PySem.W.typeIn K (.ref BC) = some (.type "type"))
    (xc_kp_BC : PySem.W.keepIn K (.ref BC) = true)
    (xc_ga_BC : PySem.W.findIn K (.ref BC) "__getattribute__" = some (some (.builtin "BaseException.__getattribute__")))
    (xc_gg_BC : PySem.W.findIn K (.ref BC) "__getattr__" = some none)
    (xc_hd_BC : PySem.W.hasDictIn K BC = true)
    (xc_cl_BC : PySem.W.findIn K (.ref BC) "__class__" = some (some (.builtin "object.__class__")))
    (xc_mo_BC : PySem.W.mroIn K BC (.type "object") = some true)
    (xc_va_BC : PySem.W.findIn K (.ref BC) "value" = some none)
    (xc_in_BC : PySem.W.findIn K (.ref BC) "__init__" = some (some (.ref f_AskedError__init_)))
    (xc_sA_BC : PySem.W.subIn K (.ref BC) (.ref CA) = some true)
    (xc_cs_BC : PySem.W.clsIn K BC = some xcl_BC)
    (xc_ft : PySem.W.typeIn K (.ref f_AskedError__init_) = some (.type "function"))
    (tb_l1 : K.lookup tc1 = some ⟨tco1, tcd1, .fields tus1, tsl1⟩)
    (tb_v1 : tus1[11]? = some (.ref tP1))
    (tb_n1 : K.lookup tP1 = none) (tb_c1 : PySem.W.codeHdIn K tc1 tP1 = true) (tb_01 : h.get? tP1 = some tab0)
    (tb_l2 : K.lookup tc2 = some ⟨tco2, tcd2, .fields tus2, tsl2⟩)
    (tb_v2 : tus2[11]? = some (.ref tP2))
    (tb_n2 : K.lookup tP2 = none) (tb_c2 : PySem.W.codeHdIn K tc2 tP2 = true) (tb_02 : h.get? tP2 = some tab0)
    (tb_ne : tP1 ≠ tP2)
    {Ct : Addr}
    (a_Ct : PySem.W.nsIn K mainGlobals "Table" = some (some (.ref Ct)))
    (tc_pg : PySem.W.plainGet K Ct Str.empty = true)
    (tc_hd : PySem.W.hasDictIn K Ct = true)
    (tc_po : PySem.W.plainOver K Ct = true)
    (tc_sa : PySem.W.findIn K (.ref Ct) "__setattr__" = some (some (.builtin "object.__setattr__")))
    (tn_page : PySem.W.findIn K (.ref Ct) "_page" = some none)
    (tn_counts : PySem.W.findIn K (.ref Ct) "_counts" = some none)
    (tn_many : PySem.W.findIn K (.ref Ct) "_many" = some none)
    (tT_ha : PySem.W.findIn K (.ref Ct) "__class__" = some (some (.builtin "object.__class__")))
    (tT_hm : PySem.W.mroIn K Ct (.type "object") = some true)
    (at_Table_initD : PySem.W.findIn K (.ref Ct) "__init__" = some (some (.ref f_Table_initD)))
    (fn_Table_initD : PySem.W.isFn K (.ref f_Table_initD) = true)
    (at_Table_eqX : PySem.W.findIn K (.ref Ct) "__eq__" = some (some (.ref f_Table_eqX)))
    (fn_Table_eqX : PySem.W.isFn K (.ref f_Table_eqX) = true)
    (at_atD : PySem.W.findIn K (.ref Ct) "__getitem__" = some (some (.ref f_atD)))
    (fn_atD : PySem.W.isFn K (.ref f_atD) = true)
    (fi_atD : PySem.W.fnIn K f_atD = true)
    (at_shareD : PySem.W.findIn K (.ref Ct) "share" = some (some (.ref f_shareD)))
    (fn_shareD : PySem.W.isFn K (.ref f_shareD) = true)
    {pp_Table_page : Addr} {rest_Table_page : List Value}
    (at_Table_page : PySem.W.findIn K (.ref Ct) "page" = some (some (.ref pp_Table_page)))
    (ge_Table_page : PySem.W.specialIn K (.ref pp_Table_page) "__get__" = some (some (.builtin "property.__get__")))
    (ta_Table_page : PySem.W.takesIn K (.ref pp_Table_page) = some true)
    (re_Table_page : PySem.W.recIn K pp_Table_page "property" = some (.ref f_Table_page :: rest_Table_page))
    {pp_Table_counts : Addr} {rest_Table_counts : List Value}
    (at_Table_counts : PySem.W.findIn K (.ref Ct) "counts" = some (some (.ref pp_Table_counts)))
    (ge_Table_counts : PySem.W.specialIn K (.ref pp_Table_counts) "__get__" = some (some (.builtin "property.__get__")))
    (ta_Table_counts : PySem.W.takesIn K (.ref pp_Table_counts) = some true)
    (re_Table_counts : PySem.W.recIn K pp_Table_counts "property" = some (.ref f_Table_counts :: rest_Table_counts))
    {pp_Table_total : Addr} {rest_Table_total : List Value}
    (at_Table_total : PySem.W.findIn K (.ref Ct) "total" = some (some (.ref pp_Table_total)))
    (ge_Table_total : PySem.W.specialIn K (.ref pp_Table_total) "__get__" = some (some (.builtin "property.__get__")))
    (ta_Table_total : PySem.W.takesIn K (.ref pp_Table_total) = some true)
    (re_Table_total : PySem.W.recIn K pp_Table_total "property" = some (.ref f_Table_total :: rest_Table_total))
    (at_showsD : PySem.W.findIn K (.ref Ct) "shows" = some (some (.ref f_showsD)))
    (fn_showsD : PySem.W.isFn K (.ref f_showsD) = true)
    (mk_Ct : PySem.W.makesIn K Ct = true)
    (kp_Ct : PySem.W.keepIn K (.ref Ct) = true)
    {e_HOWS : Addr} {ed_HOWS : Option Addr} {ei_HOWS : Array Value} {en_HOWS : Nat} {es_HOWS : Array (Option Value)}
    (a_HOWS : PySem.W.nsIn K mainGlobals "HOWS" = some (some (.ref e_HOWS)))
    (l_HOWS : K.lookup e_HOWS = some ⟨.type "tuple", ed_HOWS, .seq ei_HOWS en_HOWS, es_HOWS⟩)
    (v_HOWS : ei_HOWS.size ≤ sizeLine ∧ Vals hows ei_HOWS.toList)
    {e_WORDS : Addr} {ed_WORDS : Option Addr} {ei_WORDS : Array Value} {en_WORDS : Nat} {es_WORDS : Array (Option Value)}
    (a_WORDS : PySem.W.nsIn K mainGlobals "WORDS" = some (some (.ref e_WORDS)))
    (l_WORDS : K.lookup e_WORDS = some ⟨.type "tuple", ed_WORDS, .seq ei_WORDS en_WORDS, es_WORDS⟩)
    (v_WORDS : ei_WORDS.size ≤ sizeLine ∧ Vals wordsV ei_WORDS.toList)
    {t9 : Tok}
    (a_MOST_PARTS : PySem.W.nsIn K mainGlobals "MOST_PARTS" = some (some (.int 9 t9)))
    {t6 : Tok}
    (a_MOST_ENDS : PySem.W.nsIn K mainGlobals "MOST_ENDS" = some (some (.int 6 t6)))
    {t3 : Tok}
    (a_MOST_STEPS : PySem.W.nsIn K mainGlobals "MOST_STEPS" = some (some (.int 3 t3)))
    (a_gcd : PySem.W.nsIn K mainGlobals "gcd" = some (some (.builtin "math.gcd")))
    {e_MARKS mk0 mk1 mk2 mk3 : Addr} {mkd mkd0 mkd1 mkd2 mkd3 : Option Addr} {mkn mkn0 mkn1 mkn2 mkn3 : Nat} {mks mks0 mks1 mks2 mks3 : Array (Option Value)} {mkt1 mkt2 mkt3 mkt4 : Tok}
    (a_MARKS : PySem.W.nsIn K mainGlobals "MARKS" = some (some (.ref e_MARKS)))
    (l_MARKS : K.lookup e_MARKS = some ⟨.type "tuple", mkd, .seq #[.ref mk0, .ref mk1, .ref mk2, .ref mk3] mkn, mks⟩)
    (l_MARK0 : K.lookup mk0 = some ⟨.type "tuple", mkd0, .seq #[] mkn0, mks0⟩)
    (l_MARK1 : K.lookup mk1 = some ⟨.type "tuple", mkd1, .seq #[.str "is" mkt1] mkn1, mks1⟩)
    (l_MARK2 : K.lookup mk2 = some ⟨.type "tuple", mkd2, .seq #[.str "all" mkt2] mkn2, mks2⟩)
    (l_MARK3 : K.lookup mk3 = some ⟨.type "tuple", mkd3, .seq #[.str "is" mkt3, .str "all" mkt4] mkn3, mks3⟩)
    {clvT : PySem.ClassData}
    (zT_cl : PySem.W.clsIn K Ct = some clvT)
    (zT_ty : PySem.W.typeIn K (.ref Ct) = some (.type "type"))
    (zT_pg : PySem.W.subIn K (.ref C) (.ref Ct) = some false)
    (zT_ne : PySem.W.findIn K (.ref Ct) "__ne__" = some (some (.builtin "object.__ne__")))
    (zCC : C ≠ Ct)
    : EndGT l w K 15 63 "_law_script" mg fa h := by
  have e := hfa.symm.trans (PySem.W.mg_of X G a_law)
  cases e
  have tb91 : PySem.W.CodeHd h tc1 tP1 := PySem.W.codeHd_of_K X tb_c1
  have tb92 : PySem.W.CodeHd h tc2 tP2 := PySem.W.codeHd_of_K X tb_c2
  refine ⟨PySem.W.fnOf "law" "law" (defArgs s_law) (defBody s_law) (defScope s_law) .none kV_law dc_law pm_law an_law cd_law ct_law, [(tc1, tP1), (tc2, tP2)], sp_lawX K tP1 tP2, fun z m => ?_, fun z m => ?_, fun z m => ?_, fun s v => .of_eq rfl, fun H a ns hl hH hS => ⟨a, ns, rfl, hS, hl, fun z m => ?_, fun _ => rfl⟩, fun base _ _ TBs => ?_⟩
  · simp only [List.mem_cons, List.not_mem_nil, or_false] at m; rcases m with rfl | rfl <;> first | exact tb_01 | exact tb_02
  · simp only [List.mem_cons, List.not_mem_nil, or_false] at m; rcases m with rfl | rfl <;> first | exact tb_n1 | exact tb_n2
  · simp only [List.mem_cons, List.not_mem_nil, or_false] at m; rcases m with rfl | rfl <;> first | exact tb91 | exact tb92
  · simp only [TLs, List.mem_cons, List.not_mem_nil, or_false] at m; rcases m with rfl | rfl <;> first | exact TabS.nil (hH _ (.head _)) | exact TabS.nil (hH _ (.tail _ (.head _)))
  have TB91 : TabB base mg tc1 tP1 := TBs _ (.head _)
  have TB92 : TabB base mg tc2 tP2 := TBs _ (.tail _ (.head _))
  have m_range : mg "range" = none := PySem.W.mg_none_of X G z_range
  have m_max : mg "max" = none := PySem.W.mg_none_of X G z_max
  have m_min : mg "min" = none := PySem.W.mg_none_of X G z_min
  have m_len : mg "len" = none := PySem.W.mg_none_of X G z_len
  have m_list : mg "list" = none := PySem.W.mg_none_of X G z_list
  have m_int : mg "int" = none := PySem.W.mg_none_of X G z_int
  have m_abs : mg "abs" = none := PySem.W.mg_none_of X G z_abs
  have m_str : mg "str" = none := PySem.W.mg_none_of X G z_str
  have m_isinstance : mg "isinstance" = none := PySem.W.mg_none_of X G z_isinstance
  have m_bool : mg "bool" = none := PySem.W.mg_none_of X G z_bool
  have m_tuple : mg "tuple" = none := PySem.W.mg_none_of X G z_tuple
  have m_dict : mg "dict" = none := PySem.W.mg_none_of X G z_dict
  have m_zip : mg "zip" = none := PySem.W.mg_none_of X G z_zip
  have m_enumerate : mg "enumerate" = none := PySem.W.mg_none_of X G z_enumerate
  have m_all : mg "all" = none := PySem.W.mg_none_of X G z_all
  have m_sum : mg "sum" = none := PySem.W.mg_none_of X G z_sum
  have m_repr : mg "repr" = none := PySem.W.mg_none_of X G z_repr
  have g_HOWS : mg "HOWS" = some (.ref e_HOWS) := PySem.W.mg_of X G a_HOWS
  have t_HOWS : TupK K e_HOWS hows := ⟨_, _, _, l_HOWS, rfl, rfl, v_HOWS.1, v_HOWS.2⟩
  have g_WORDS : mg "WORDS" = some (.ref e_WORDS) := PySem.W.mg_of X G a_WORDS
  have t_WORDS : TupK K e_WORDS wordsV := ⟨_, _, _, l_WORDS, rfl, rfl, v_WORDS.1, v_WORDS.2⟩
  have g_MOST_PARTS : mg "MOST_PARTS" = some (.int 9 t9) := PySem.W.mg_of X G a_MOST_PARTS
  have g_MOST_ENDS : mg "MOST_ENDS" = some (.int 6 t6) := PySem.W.mg_of X G a_MOST_ENDS
  have g_MOST_STEPS : mg "MOST_STEPS" = some (.int 3 t3) := PySem.W.mg_of X G a_MOST_STEPS
  have g_MARKS : mg "MARKS" = some (.ref e_MARKS) := PySem.W.mg_of X G a_MARKS
  have t_MARKS : ∀ H, Dp K H (.ref e_MARKS) (.tuple marksD) := marks_at l_MARKS l_MARK0 l_MARK1 l_MARK2 l_MARK3
  have g_gcd : mg "gcd" = some (.builtin "math.gcd") := PySem.W.mg_of X G a_gcd
  have c : PgC K C := ⟨⟨c_pg, c_hd, c_po, c_sa⟩, n_text, n_units, n_lines, n_ends⟩
  have gC : mg "Page" = some (.ref C) := PySem.W.mg_of X G a_C
  have T : PgT K C := ⟨T_ha, T_hn, T_htk, T_hm⟩
  have ct : TbC K Ct := ⟨⟨tc_pg, tc_hd, tc_po, tc_sa⟩, tn_page, tn_counts, tn_many⟩
  have gCt : mg "Table" = some (.ref Ct) := PySem.W.mg_of X G a_Ct
  have TT : PgT K Ct := ⟨tT_ha, T_hn, T_htk, tT_hm⟩
  have g_NP : mg "NoPart" = some (.ref NP) := PySem.W.mg_of X G a_NP
  have g_NA : mg "NoAbove" = some (.ref NA) := PySem.W.mg_of X G a_NA
  have g_BC : mg "BadCounts" = some (.ref BC) := PySem.W.mg_of X G a_BC
  have g_CA : mg "AskedError" = some (.ref CA) := PySem.W.mg_of X G a_CA
  have xm_NP : PySem.W.exmOne K (.ref NP) (.ref CA) = some true := by simp only [PySem.W.exmOne, PySem.W.kitCls, xc_xA, xc_yA, xc_sA_NP, xc_cA]; rfl
  have X9NP : Xcl K NP := ⟨⟨⟨_, _, _, _, _, _, _, _, _, _, _, _, _, _, _, x_NP, rf_NP⟩, xc_sa_NP, xc_ex_NP, xc_ty_NP, xc_kp_NP⟩, xc_ga_NP, xc_gg_NP, xc_hd_NP, xc_cl_NP, T_hn, T_htk, xc_mo_NP, xc_va_NP⟩
  have xm_NA : PySem.W.exmOne K (.ref NA) (.ref CA) = some true := by simp only [PySem.W.exmOne, PySem.W.kitCls, xc_xA, xc_yA, xc_sA_NA, xc_cA]; rfl
  have X9NA : Xcl K NA := ⟨⟨⟨_, _, _, _, _, _, _, _, _, _, _, _, _, _, _, x_NA, rf_NA⟩, xc_sa_NA, xc_ex_NA, xc_ty_NA, xc_kp_NA⟩, xc_ga_NA, xc_gg_NA, xc_hd_NA, xc_cl_NA, T_hn, T_htk, xc_mo_NA, xc_va_NA⟩
  have xm_BC : PySem.W.exmOne K (.ref BC) (.ref CA) = some true := by simp only [PySem.W.exmOne, PySem.W.kitCls, xc_xA, xc_yA, xc_sA_BC, xc_cA]; rfl
  have X9BC : Xcl K BC := ⟨⟨⟨_, _, _, _, _, _, _, _, _, _, _, _, _, _, _, x_BC, rf_BC⟩, xc_sa_BC, xc_ex_BC, xc_ty_BC, xc_kp_BC⟩, xc_ga_BC, xc_gg_BC, xc_hd_BC, xc_cl_BC, T_hn, T_htk, xc_mo_BC, xc_va_BC⟩
  have NT : NeC K Ct := ⟨zT_ne, tT_hm⟩
  have kTup9 := kit_tyF (n := "tuple") (by decide +kernel) zT_cl zT_ty
  have kNon9 := kit_tyF (n := "NoneType") (by decide +kernel) zT_cl zT_ty
  have kPg9 := kit_two zCC zT_cl zT_ty zT_pg
  have nPg9 : PySem.W.notFirst K Ct (.ref C) = true := by simp [PySem.W.notFirst, zT_pg]
  have nTup9 : PySem.W.notFirst K Ct (.type "tuple") = true := by simp [PySem.W.notFirst, sub_ty (K := K) (n := "tuple") (C := Ct) (by decide +kernel)]
  have nNon9 : PySem.W.notFirst K Ct (.type "NoneType") = true := by simp [PySem.W.notFirst, sub_ty (K := K) (n := "NoneType") (C := Ct) (by decide +kernel)]
  have F_law_cells := fun_mk (st := s_law_cells) l_law_cells k_law_cells p_law_cells
  let c_law_cells : Cal l.prog w K mg base 1 "_law_cells" ["_law_script", "_law_most"] (sp_law_cells K) := ⟨f_law_cells, _, ok_law_cells (F := F_law_cells) (m_range := m_range) (m_max := m_max) (m_min := m_min) (m_len := m_len) (m_list := m_list), p_law_cells, F_law_cells.binds (ps := ["_law_script", "_law_most"]) (fun _ _ _ _ _ _ us hl => match us, hl with | [_, _], _ => rfl), PySem.W.mg_of X G a_law_cells⟩
  have F_law_pot := fun_mk (st := s_law_pot) l_law_pot k_law_pot p_law_pot
  let c_law_pot : Cal l.prog w K mg base 1 "_law_pot" ["_law_script", "_law_place"] (sp_law_pot K) := ⟨f_law_pot, _, ok_law_pot (F := F_law_pot) (m_len := m_len) (m_int := m_int) (m_abs := m_abs), p_law_pot, F_law_pot.binds (ps := ["_law_script", "_law_place"]) (fun _ _ _ _ _ _ us hl => match us, hl with | [_, _], _ => rfl), PySem.W.mg_of X G a_law_pot⟩
  have F_read_number := fun_mk (st := s_read_number) l_read_number k_read_number p_read_number
  let c_read_number : Cal l.prog w K mg base 1 "read_number" ["word", "most"] (sp_read_number K) := ⟨f_read_number, _, ok_read_number (F := F_read_number) (m_len := m_len) (m_str := m_str) (m_int := m_int), p_read_number, F_read_number.binds (ps := ["word", "most"]) (fun _ _ _ _ _ _ us hl => match us, hl with | [_, _], _ => rfl), PySem.W.mg_of X G a_read_number⟩
  have F_is_integer := fun_mk (st := s_is_integer) l_is_integer k_is_integer p_is_integer
  let c_is_integer : Cal l.prog w K mg base 1 "is_integer" ["value"] (sp_is_integer K) := ⟨f_is_integer, _, ok_is_integer (F := F_is_integer) (m_isinstance := m_isinstance) (m_int := m_int) (m_bool := m_bool), p_is_integer, F_is_integer.binds (ps := ["value"]) (fun _ _ _ _ _ _ us hl => match us, hl with | [_], _ => rfl), PySem.W.mg_of X G a_is_integer⟩
  have F_is_units := fun_mk (st := s_is_units) l_is_units k_is_units p_is_units
  let c_is_units : Cal l.prog w K mg base 2 "is_units" ["value"] (sp_is_units K) := ⟨f_is_units, _, ok_is_units (F := F_is_units) (m_isinstance := m_isinstance) (m_tuple := m_tuple) (m_len := m_len) (m_str := m_str) (g_HOWS := g_HOWS) (t_HOWS := t_HOWS) (c_is_integer := c_is_integer), p_is_units, F_is_units.binds (ps := ["value"]) (fun _ _ _ _ _ _ us hl => match us, hl with | [_], _ => rfl), PySem.W.mg_of X G a_is_units⟩
  have F_read_units := fun_mk (st := s_read_units) l_read_units k_read_units p_read_units
  let c_read_units : Cal l.prog w K mg base 3 "read_units" ["words"] (sp_read_units K) := ⟨f_read_units, _, ok_read_units (F := F_read_units) (m_len := m_len) (c_read_number := c_read_number) (c_is_units := c_is_units), p_read_units, F_read_units.binds (ps := ["words"]) (fun _ _ _ _ _ _ us hl => match us, hl with | [_], _ => rfl), PySem.W.mg_of X G a_read_units⟩
  have F_is_name := fun_mk (st := s_is_name) l_is_name k_is_name p_is_name
  let c_is_name : Cal l.prog w K mg base 1 "is_name" ["value"] (sp_is_name K) := ⟨f_is_name, _, ok_is_name (F := F_is_name) (m_isinstance := m_isinstance) (m_str := m_str) (m_len := m_len), p_is_name, F_is_name.binds (ps := ["value"]) (fun _ _ _ _ _ _ us hl => match us, hl with | [_], _ => rfl), PySem.W.mg_of X G a_is_name⟩
  have F_is_asked := fun_mk (st := s_is_asked) l_is_asked k_is_asked p_is_asked
  let c_is_asked : Cal l.prog w K mg base 2 "is_asked" ["words"] (sp_is_asked K) := ⟨f_is_asked, _, ok_is_asked (F := F_is_asked) (m_len := m_len) (c_is_name := c_is_name), p_is_asked, F_is_asked.binds (ps := ["words"]) (fun _ _ _ _ _ _ us hl => match us, hl with | [_], _ => rfl), PySem.W.mg_of X G a_is_asked⟩
  have F_read_share := fun_mk (st := s_read_share) l_read_share k_read_share p_read_share
  let c_read_share : Cal l.prog w K mg base 2 "read_share" ["units", "word"] (sp_read_share K) := ⟨f_read_share, _, ok_read_share (F := F_read_share) (g_WORDS := g_WORDS) (t_WORDS := t_WORDS) (c_read_number := c_read_number), p_read_share, F_read_share.binds (ps := ["units", "word"]) (fun _ _ _ _ _ _ us hl => match us, hl with | [_, _], _ => rfl), PySem.W.mg_of X G a_read_share⟩
  have F_read_part := fun_mk (st := s_read_part) l_read_part k_read_part p_read_part
  let c_read_part : Cal l.prog w K mg base 3 "read_part" ["units", "lines", "words"] (sp_read_part K) := ⟨f_read_part, _, ok_read_part (F := F_read_part) (m_dict := m_dict) (m_zip := m_zip) (g_MARKS := g_MARKS) (t_MARKS := t_MARKS) (m_len := m_len) (m_tuple := m_tuple) (c_is_name := c_is_name) (c_read_share := c_read_share), p_read_part, F_read_part.binds (ps := ["units", "lines", "words"]) (fun _ _ _ _ _ _ us hl => match us, hl with | [_, _, _], _ => rfl), PySem.W.mg_of X G a_read_part⟩
  have F_ends_among := fun_mk (st := s_ends_among) l_ends_among k_ends_among p_ends_among
  let c_ends_among : Cal l.prog w K mg base 1 "ends_among" ["lines"] (sp_ends_among K) := ⟨f_ends_among, _, ok_ends_among (F := F_ends_among) (m_tuple := m_tuple), p_ends_among, F_ends_among.binds (ps := ["lines"]) (fun _ _ _ _ _ _ us hl => match us, hl with | [_], _ => rfl), PySem.W.mg_of X G a_ends_among⟩
  have F_way_up := fun_mk (st := s_way_up) l_way_up k_way_up p_way_up
  let c_way_up : Cal l.prog w K mg base 1 "way_up" ["lines", "part"] (sp_way_up K) := ⟨f_way_up, _, ok_way_up (F := F_way_up) , p_way_up, F_way_up.binds (ps := ["lines", "part"]) (fun _ _ _ _ _ _ us hl => match us, hl with | [_, _], _ => rfl), PySem.W.mg_of X G a_way_up⟩
  have F_is_too_much := fun_mk (st := s_is_too_much) l_is_too_much k_is_too_much p_is_too_much
  let c_is_too_much : Cal l.prog w K mg base 2 "is_too_much" ["lines", "part"] (sp_is_too_much K) := ⟨f_is_too_much, _, ok_is_too_much (F := F_is_too_much) (g_MOST_PARTS := g_MOST_PARTS) (g_MOST_ENDS := g_MOST_ENDS) (g_MOST_STEPS := g_MOST_STEPS) (m_len := m_len) (c_ends_among := c_ends_among) (c_way_up := c_way_up), p_is_too_much, F_is_too_much.binds (ps := ["lines", "part"]) (fun _ _ _ _ _ _ us hl => match us, hl with | [_, _], _ => rfl), PySem.W.mg_of X G a_is_too_much⟩
  have F_read_parts := fun_mk (st := s_read_parts) l_read_parts k_read_parts p_read_parts
  let c_read_parts : Cal l.prog w K mg base 4 "read_parts" ["units", "first", "rows"] (sp_read_parts K) := ⟨f_read_parts, _, ok_read_parts (F := F_read_parts) (m_enumerate := m_enumerate) (c_read_part := c_read_part) (c_is_too_much := c_is_too_much), p_read_parts, F_read_parts.binds (ps := ["units", "first", "rows"]) (fun _ _ _ _ _ _ us hl => match us, hl with | [_, _, _], _ => rfl), PySem.W.mg_of X G a_read_parts⟩
  have F_read_page := fun_mk (st := s_read_page) l_read_page k_read_page p_read_page
  let c_read_page : Cal l.prog w K mg base 5 "read_page" ["text"] (sp_read_page K) := ⟨f_read_page, _, ok_read_page (F := F_read_page) (m_isinstance := m_isinstance) (m_str := m_str) (m_len := m_len) (c_read_units := c_read_units) (c_is_asked := c_is_asked) (c_read_parts := c_read_parts), p_read_page, F_read_page.binds (ps := ["text"]) (fun _ _ _ _ _ _ us hl => match us, hl with | [_], _ => rfl), PySem.W.mg_of X G a_read_page⟩
  have F_Page__init_ := fun_mk (st := s_Page__init_) l_Page__init_ k_Page__init_ p_Page__init_
  have FM_Page__init_ := ok_Page__init_ (P := l.prog) (w := w) (mg := mg) (base := base) (F := F_Page__init_) (c := c) (c_read_page := c_read_page) (c_ends_among := c_ends_among)
  have b_Page__init_ := F_Page__init_.binds (ps := ["self", "text"]) (fun _ _ _ _ _ _ us hl => match us, hl with | [_, _], _ => rfl)
  have M : Mk K C f_Page__init_ := ⟨mk_C, at_Page__init_, fn_Page__init_, kp_C⟩
  have FI := FM_Page__init_
  have bI := b_Page__init_
  have F_AskedError__init_ := fun_mk (st := s_AskedError__init_) l_AskedError__init_ k_AskedError__init_ p_AskedError__init_
  have FM_AskedError__init_ := ok_AskedError__init_ (P := l.prog) (w := w) (mg := mg) (base := base) (F := F_AskedError__init_) 
  have b_AskedError__init_ := F_AskedError__init_.binds (ps := ["self", "value"]) (fun _ _ _ _ _ _ us hl => match us, hl with | [_, _], _ => rfl)
  have Fi := FM_AskedError__init_
  have bi := b_AskedError__init_
  have F_Page_parts := fun_mk (st := s_Page_parts) l_Page_parts k_Page_parts p_Page_parts
  have FM_Page_parts := ok_Page_parts (P := l.prog) (w := w) (mg := mg) (base := base) (F := F_Page_parts) (c := c) (m_tuple := m_tuple)
  have b_Page_parts := F_Page_parts.binds (ps := ["self"]) (fun _ _ _ _ _ _ us hl => match us, hl with | [_], _ => rfl)
  have rP : PropOf K C "parts" pp_Page_parts f_Page_parts := ⟨at_Page_parts, ge_Page_parts, ta_Page_parts, _, re_Page_parts⟩
  have FP := FM_Page_parts
  have bP := b_Page_parts
  have F_Page_ends := fun_mk (st := s_Page_ends) l_Page_ends k_Page_ends p_Page_ends
  have FM_Page_ends := ok_Page_ends (P := l.prog) (w := w) (mg := mg) (base := base) (F := F_Page_ends) (c := c)
  have b_Page_ends := F_Page_ends.binds (ps := ["self"]) (fun _ _ _ _ _ _ us hl => match us, hl with | [_], _ => rfl)
  have rE : PropOf K C "ends" pp_Page_ends f_Page_ends := ⟨at_Page_ends, ge_Page_ends, ta_Page_ends, _, re_Page_ends⟩
  have FEn := FM_Page_ends
  have bEn := b_Page_ends
  have F_is_integerX := fun_mk (st := s_is_integer) l_is_integerX k_is_integerX p_is_integerX
  let c_is_integerX : Cal l.prog w K mg base 1 "is_integer" ["value"] (sp_is_integerX K) := ⟨f_is_integerX, _, ok_is_integerX (F := F_is_integerX) (m_isinstance := m_isinstance) (m_int := m_int) (m_bool := m_bool), p_is_integerX, F_is_integerX.binds (ps := ["value"]) (fun _ _ _ _ _ _ us hl => match us, hl with | [_], _ => rfl), PySem.W.mg_of X G a_is_integerX⟩
  have F_is_countsD := fun_mk (st := s_is_counts) l_is_countsD k_is_countsD p_is_countsD
  let c_is_countsD : Cal l.prog w K mg base 3 "is_counts" ["page", "value"] (sp_is_countsD K C) := ⟨f_is_countsD, _, ok_is_countsD (F := F_is_countsD) (c := c) (rE := rE) (FEn := FEn) (bEn := bEn) (m_isinstance := m_isinstance) (m_tuple := m_tuple) (m_len := m_len) (m_all := m_all) (m_sum := m_sum) (c_is_integerX := c_is_integerX), p_is_countsD, F_is_countsD.binds (ps := ["page", "value"]) (fun _ _ _ _ _ _ us hl => match us, hl with | [_, _], _ => rfl), PySem.W.mg_of X G a_is_countsD⟩
  have F_Page__contains_ := fun_mk (st := s_Page__contains_) l_Page__contains_ k_Page__contains_ p_Page__contains_
  have FM_Page__contains_ := ok_Page__contains_ (P := l.prog) (w := w) (mg := mg) (base := base) (F := F_Page__contains_) (c := c) (m_isinstance := m_isinstance) (m_str := m_str)
  have b_Page__contains_ := F_Page__contains_.binds (ps := ["self", "x"]) (fun _ _ _ _ _ _ us hl => match us, hl with | [_, _], _ => rfl)
  have dC : Dun K C f_Page__contains_ "__contains__" := ⟨at_Page__contains_, fn_Page__contains_⟩
  have FC := FM_Page__contains_
  have bC := b_Page__contains_
  have F_Page_ends_of := fun_mk (st := s_Page_ends_of) l_Page_ends_of k_Page_ends_of p_Page_ends_of
  have FM_Page_ends_of := ok_Page_ends_of (P := l.prog) (w := w) (mg := mg) (base := base) (F := F_Page_ends_of) (c := c) (m_tuple := m_tuple) (c_way_up := c_way_up) (dC := dC) (FC := FC) (bC := bC)
  have b_Page_ends_of := F_Page_ends_of.binds (ps := ["self", "part"]) (fun _ _ _ _ _ _ us hl => match us, hl with | [_, _], _ => rfl)
  have mN : Meth K C "ends_of" f_Page_ends_of := ⟨at_Page_ends_of, fn_Page_ends_of, p_Page_ends_of⟩
  have FN := FM_Page_ends_of
  have bN := b_Page_ends_of
  have F_many_in := fun_mk (st := s_many_in) l_many_in k_many_in p_many_in
  let c_many_in : Cal l.prog w K mg base 4 "many_in" ["page", "counts", "part"] (sp_many_in K C) := ⟨f_many_in, _, ok_many_in (F := F_many_in) (c := c) (rE := rE) (FEn := FEn) (bEn := bEn) (mN := mN) (FN := FN) (bN := bN) (m_sum := m_sum) (m_zip := m_zip), p_many_in, F_many_in.binds (ps := ["page", "counts", "part"]) (fun _ _ _ _ _ _ us hl => match us, hl with | [_, _, _], _ => rfl), PySem.W.mg_of X G a_many_in⟩
  have F_Table_initD := fun_mk (st := s_Table__init_) l_Table_initD k_Table_initD p_Table_initD
  have FM_Table_initD := ok_Table_initD (P := l.prog) (w := w) (mg := mg) (base := base) (F := F_Table_initD) (Fi := FM_AskedError__init_) (bi := b_AskedError__init_) (tyI := xc_ft) (XBC := X9BC) (iBC := xc_in_BC) (gBC := g_BC) (cP := c) (c := ct) (rP := rP) (FP := FP) (bP := bP) (c_is_countsD := c_is_countsD) (c_many_in := c_many_in) (C := C) (Ct := Ct)
  have b_Table_initD := F_Table_initD.binds (ps := ["self", "page", "counts"]) (fun _ _ _ _ _ _ us hl => match us, hl with | [_, _, _], _ => rfl)
  have MtID : Mk K Ct f_Table_initD := ⟨mk_Ct, at_Table_initD, fn_Table_initD, kp_Ct⟩
  have FID := FM_Table_initD
  have bID := b_Table_initD
  have F_Page__eq_ := fun_mk (st := s_Page__eq_) l_Page__eq_ k_Page__eq_ p_Page__eq_
  have FM_Page__eq_ := ok_Page__eq_ (P := l.prog) (w := w) (mg := mg) (base := base) (F := F_Page__eq_) (c := c) (T := T) (gC := gC) (m_isinstance := m_isinstance)
  have b_Page__eq_ := F_Page__eq_.binds (ps := ["self", "other"]) (fun _ _ _ _ _ _ us hl => match us, hl with | [_, _], _ => rfl)
  have dQ : Dun K C f_Page__eq_ "__eq__" := ⟨at_Page__eq_, fn_Page__eq_⟩
  have FQ := FM_Page__eq_
  have bQ := b_Page__eq_
  have F_Table_eqX := fun_mk (st := s_Table__eq_) l_Table_eqX k_Table_eqX p_Table_eqX
  have FM_Table_eqX := ok_Table_eqX (P := l.prog) (w := w) (mg := mg) (base := base) (F := F_Table_eqX) (cP := c) (TP := T) (dQ := dQ) (FQ := FQ) (bQ := bQ) (c := ct) (TT := TT) (gT := gCt) (m_isinstance := m_isinstance) (C := C) (Ct := Ct)
  have b_Table_eqX := F_Table_eqX.binds (ps := ["self", "other"]) (fun _ _ _ _ _ _ us hl => match us, hl with | [_, _], _ => rfl)
  have dE : Dun K Ct f_Table_eqX "__eq__" := ⟨at_Table_eqX, fn_Table_eqX⟩
  have FE := FM_Table_eqX
  have bE := b_Table_eqX
  have F_law_line := fun_mk (st := s_law_line) l_law_line k_law_line p_law_line
  let c_law_line : Cal l.prog w K mg base 1 "_law_line" ["_law_row"] (sp_law_line K) := ⟨f_law_line, _, ok_law_line (F := F_law_line) (m_str := m_str), p_law_line, F_law_line.binds (ps := ["_law_row"]) (fun _ _ _ _ _ _ us hl => match us, hl with | [_], _ => rfl), PySem.W.mg_of X G a_law_line⟩
  have F_law_text := fun_mk (st := s_law_text) l_law_text k_law_text p_law_text
  let c_law_text : Cal l.prog w K mg base 2 "_law_text" ["_law_lore_here"] (sp_law_text K) := ⟨f_law_text, _, ok_law_text (F := F_law_text) (m_str := m_str) (c_law_line := c_law_line), p_law_text, F_law_text.binds (ps := ["_law_lore_here"]) (fun _ _ _ _ _ _ us hl => match us, hl with | [_], _ => rfl), PySem.W.mg_of X G a_law_text⟩
  have F_law_take := fun_mk (st := s_law_take) l_law_take k_law_take p_law_take
  let c_law_take : Cal l.prog w K mg base 1 "_law_take" ["_law_pot_here", "_law_upto"] (sp_law_take K) := ⟨f_law_take, _, ok_law_take (F := F_law_take) (m_int := m_int), p_law_take, F_law_take.binds (ps := ["_law_pot_here", "_law_upto"]) (fun _ _ _ _ _ _ us hl => match us, hl with | [_, _], _ => rfl), PySem.W.mg_of X G a_law_take⟩
  have F_law_of := fun_mk (st := s_law_of) l_law_of k_law_of p_law_of
  let c_law_of : Cal l.prog w K mg base 2 "_law_of" ["_law_pot_here", "_law_some_here"] (sp_law_of K) := ⟨f_law_of, _, ok_law_of (F := F_law_of) (m_len := m_len) (c_law_take := c_law_take), p_law_of, F_law_of.binds (ps := ["_law_pot_here", "_law_some_here"]) (fun _ _ _ _ _ _ us hl => match us, hl with | [_, _], _ => rfl), PySem.W.mg_of X G a_law_of⟩
  have F_law_some := fun_mk (st := s_law_some) l_law_some k_law_some p_law_some
  let c_law_some : Cal l.prog w K mg base 2 "_law_some" ["_law_pot_here", "_law_pool", "_law_many"] (sp_law_some K) := ⟨f_law_some, _, ok_law_some (F := F_law_some) (m_list := m_list) (m_range := m_range) (m_len := m_len) (c_law_take := c_law_take), p_law_some, F_law_some.binds (ps := ["_law_pot_here", "_law_pool", "_law_many"]) (fun _ _ _ _ _ _ us hl => match us, hl with | [_, _, _], _ => rfl), PySem.W.mg_of X G a_law_some⟩
  have F_law_names := fun_mk (st := s_law_names) l_law_names k_law_names p_law_names
  let c_law_names : Cal l.prog w K mg base 3 "_law_names" ["_law_pot_here", "_law_many"] (sp_law_names K) := ⟨f_law_names, _, ok_law_names (F := F_law_names) (c_law_some := c_law_some), p_law_names, F_law_names.binds (ps := ["_law_pot_here", "_law_many"]) (fun _ _ _ _ _ _ us hl => match us, hl with | [_, _], _ => rfl), PySem.W.mg_of X G a_law_names⟩
  have F_law_tree := fun_mk (st := s_law_tree) l_law_tree k_law_tree p_law_tree
  let c_law_tree : Cal l.prog w K mg base 4 "_law_tree" ["_law_pot_here", "_law_shapes_here"] (sp_law_tree K) := ⟨f_law_tree, _, ok_law_tree (F := F_law_tree) (m_len := m_len) (c_law_of := c_law_of) (c_law_names := c_law_names), p_law_tree, F_law_tree.binds (ps := ["_law_pot_here", "_law_shapes_here"]) (fun _ _ _ _ _ _ us hl => match us, hl with | [_, _], _ => rfl), PySem.W.mg_of X G a_law_tree⟩
  have F_law_units := fun_mk (st := s_law_units) l_law_units k_law_units p_law_units
  let c_law_units : Cal l.prog w K mg base 3 "_law_units" ["_law_pot_here", "_law_most"] (sp_law_units K) := ⟨f_law_units, _, ok_law_units (F := F_law_units) (c_law_of := c_law_of) (c_law_take := c_law_take), p_law_units, F_law_units.binds (ps := ["_law_pot_here", "_law_most"]) (fun _ _ _ _ _ _ us hl => match us, hl with | [_, _], _ => rfl), PySem.W.mg_of X G a_law_units⟩
  have F_law_parts := fun_mk (st := s_law_parts) l_law_parts k_law_parts p_law_parts
  let c_law_parts : Cal l.prog w K mg base 1 "_law_parts" ["_law_lore_here"] (sp_law_parts K) := ⟨f_law_parts, _, ok_law_parts (F := F_law_parts) , p_law_parts, F_law_parts.binds (ps := ["_law_lore_here"]) (fun _ _ _ _ _ _ us hl => match us, hl with | [_], _ => rfl), PySem.W.mg_of X G a_law_parts⟩
  have F_law_ends := fun_mk (st := s_law_ends) l_law_ends k_law_ends p_law_ends
  let c_law_ends : Cal l.prog w K mg base 2 "_law_ends" ["_law_lore_here"] (sp_law_ends K) := ⟨f_law_ends, _, ok_law_ends (F := F_law_ends) (c_law_parts := c_law_parts), p_law_ends, F_law_ends.binds (ps := ["_law_lore_here"]) (fun _ _ _ _ _ _ us hl => match us, hl with | [_], _ => rfl), PySem.W.mg_of X G a_law_ends⟩
  have F_law_ends_of := fun_mk (st := s_law_ends_of) l_law_ends_of k_law_ends_of p_law_ends_of
  let c_law_ends_of : Cal l.prog w K mg base 3 "_law_ends_of" ["_law_lore_here", "_law_part"] (sp_law_ends_of K) := ⟨f_law_ends_of, _, ok_law_ends_of (F := F_law_ends_of) (c_law_ends := c_law_ends), p_law_ends_of, F_law_ends_of.binds (ps := ["_law_lore_here", "_law_part"]) (fun _ _ _ _ _ _ us hl => match us, hl with | [_, _], _ => rfl), PySem.W.mg_of X G a_law_ends_of⟩
  have F_law_weights := fun_mk (st := s_law_weights) l_law_weights k_law_weights p_law_weights
  let c_law_weights : Cal l.prog w K mg base 4 "_law_weights" ["_law_lore_here", "_law_part"] (sp_law_weights K) := ⟨f_law_weights, _, ok_law_weights (F := F_law_weights) (m_tuple := m_tuple) (m_int := m_int) (c_law_ends_of := c_law_ends_of) (c_law_ends := c_law_ends), p_law_weights, F_law_weights.binds (ps := ["_law_lore_here", "_law_part"]) (fun _ _ _ _ _ _ us hl => match us, hl with | [_, _], _ => rfl), PySem.W.mg_of X G a_law_weights⟩
  have F_law_number := fun_mk (st := s_law_number) l_law_number k_law_number p_law_number
  let c_law_number : Cal l.prog w K mg base 5 "_law_number" ["_law_lore_here", "_law_counts", "_law_part"] (sp_law_number K) := ⟨f_law_number, _, ok_law_number (F := F_law_number) (m_sum := m_sum) (m_zip := m_zip) (c_law_weights := c_law_weights), p_law_number, F_law_number.binds (ps := ["_law_lore_here", "_law_counts", "_law_part"]) (fun _ _ _ _ _ _ us hl => match us, hl with | [_, _, _], _ => rfl), PySem.W.mg_of X G a_law_number⟩
  have F_law_rounded := fun_mk (st := s_law_rounded) l_law_rounded k_law_rounded p_law_rounded
  let c_law_rounded : Cal l.prog w K mg base 1 "_law_rounded" ["_law_how", "_law_above", "_law_under"] (sp_law_rounded K) := ⟨f_law_rounded, _, ok_law_rounded (F := F_law_rounded) (m_int := m_int), p_law_rounded, F_law_rounded.binds (ps := ["_law_how", "_law_above", "_law_under"]) (fun _ _ _ _ _ _ us hl => match us, hl with | [_, _, _], _ => rfl), PySem.W.mg_of X G a_law_rounded⟩
  have F_law_share_of := fun_mk (st := s_law_share_of) l_law_share_of k_law_share_of p_law_share_of
  let c_law_share_of : Cal l.prog w K mg base 2 "_law_share_of" ["_law_pot_here", "_law_units_here", "_law_many", "_law_whole"] (sp_law_share_of K) := ⟨f_law_share_of, _, ok_law_share_of (F := F_law_share_of) (c_law_take := c_law_take) (c_law_rounded := c_law_rounded), p_law_share_of, F_law_share_of.binds (ps := ["_law_pot_here", "_law_units_here", "_law_many", "_law_whole"]) (fun _ _ _ _ _ _ us hl => match us, hl with | [_, _, _, _], _ => rfl), PySem.W.mg_of X G a_law_share_of⟩
  have F_law_lore := fun_mk (st := s_law_lore) l_law_lore k_law_lore p_law_lore
  let c_law_lore : Cal l.prog w K mg base 6 "_law_lore" ["_law_pot_here", "_law_shapes_here", "_law_most", "_law_size"] (sp_law_lore K) := ⟨f_law_lore, _, ok_law_lore (F := F_law_lore) (m_zip := m_zip) (m_tuple := m_tuple) (m_sum := m_sum) (c_law_tree := c_law_tree) (c_law_units := c_law_units) (c_law_ends := c_law_ends) (c_law_take := c_law_take) (c_law_number := c_law_number) (c_law_share_of := c_law_share_of), p_law_lore, F_law_lore.binds (ps := ["_law_pot_here", "_law_shapes_here", "_law_most", "_law_size"]) (fun _ _ _ _ _ _ us hl => match us, hl with | [_, _, _, _], _ => rfl), PySem.W.mg_of X G a_law_lore⟩
  have F_law_shapes := fun_mk (st := s_law_shapes) l_law_shapes k_law_shapes p_law_shapes
  let c_law_shapes : Cal l.prog w K mg base 1 "_law_shapes" [] (sp_law_shapes K) := ⟨f_law_shapes, _, ok_law_shapes (F := F_law_shapes) , p_law_shapes, F_law_shapes.binds (ps := []) (fun _ _ _ _ _ _ us hl => match us, hl with | [], _ => rfl), PySem.W.mg_of X G a_law_shapes⟩
  have F_containsD := fun_mk (st := s_Page__contains_) l_containsD k_containsD p_containsD
  have FM_containsD := ok_containsD (P := l.prog) (w := w) (mg := mg) (base := base) (F := F_containsD) (c := c) (m_isinstance := m_isinstance) (m_str := m_str)
  have b_containsD := F_containsD.binds (ps := ["self", "x"]) (fun _ _ _ _ _ _ us hl => match us, hl with | [_, _], _ => rfl)
  have dCD : Dun K C f_containsD "__contains__" := ⟨at_containsD, fn_containsD⟩
  have FCD := FM_containsD
  have bCD := b_containsD
  have F_atD := fun_mk (st := s_Table__getitem_) l_atD k_atD p_atD
  have FM_atD := ok_atD (P := l.prog) (w := w) (mg := mg) (base := base) (F := F_atD) (c := ct) (Fi := FM_AskedError__init_) (bi := b_AskedError__init_) (tyI := xc_ft) (XNP := X9NP) (iNP := xc_in_NP) (gNP := g_NP) (dC := dCD) (FC := FM_containsD) (bC := b_containsD) (C := C) (Ct := Ct)
  have b_atD := F_atD.binds (ps := ["self", "at"]) (fun _ _ _ _ _ _ us hl => match us, hl with | [_, _], _ => rfl)
  have dTD : Dun K Ct f_atD "__getitem__" := ⟨at_atD, fn_atD⟩
  have FTD := FM_atD
  have bTD := b_atD
  have F_least_terms := fun_mk (st := s_least_terms) l_least_terms k_least_terms p_least_terms
  let c_least_terms : Cal l.prog w K mg base 1 "least_terms" ["over", "under"] (sp_least_terms K) := ⟨f_least_terms, _, ok_least_terms (F := F_least_terms) (g_gcd := g_gcd), p_least_terms, F_least_terms.binds (ps := ["over", "under"]) (fun _ _ _ _ _ _ us hl => match us, hl with | [_, _], _ => rfl), PySem.W.mg_of X G a_least_terms⟩
  have F_shareD := fun_mk (st := s_Table_share) l_shareD k_shareD p_shareD
  have FM_shareD := ok_shareD (P := l.prog) (w := w) (mg := mg) (base := base) (F := F_shareD) (c := ct) (dT := dTD) (hT := fi_atD) (FT := FM_atD) (bT := b_atD) (c_least_terms := c_least_terms) (C := C) (Ct := Ct)
  have b_shareD := F_shareD.binds (ps := ["self", "part", "other"]) (fun _ _ _ _ _ _ us hl => match us, hl with | [_, _, _], _ => rfl)
  have mS : Meth K Ct "share" f_shareD := ⟨at_shareD, fn_shareD, p_shareD⟩
  have FS := FM_shareD
  have bS := b_shareD
  have F_Table_page := fun_mk (st := s_Table_page) l_Table_page k_Table_page p_Table_page
  have FM_Table_page := ok_Table_page (P := l.prog) (w := w) (mg := mg) (base := base) (F := F_Table_page) (c := ct) (C := C) (Ct := Ct)
  have b_Table_page := F_Table_page.binds (ps := ["self"]) (fun _ _ _ _ _ _ us hl => match us, hl with | [_], _ => rfl)
  have r_Table_page : PropOf K Ct "page" pp_Table_page f_Table_page := ⟨at_Table_page, ge_Table_page, ta_Table_page, _, re_Table_page⟩
  have F_Table_counts := fun_mk (st := s_Table_counts) l_Table_counts k_Table_counts p_Table_counts
  have FM_Table_counts := ok_Table_counts (P := l.prog) (w := w) (mg := mg) (base := base) (F := F_Table_counts) (c := ct) (C := C) (Ct := Ct)
  have b_Table_counts := F_Table_counts.binds (ps := ["self"]) (fun _ _ _ _ _ _ us hl => match us, hl with | [_], _ => rfl)
  have r_Table_counts : PropOf K Ct "counts" pp_Table_counts f_Table_counts := ⟨at_Table_counts, ge_Table_counts, ta_Table_counts, _, re_Table_counts⟩
  have F_Table_total := fun_mk (st := s_Table_total) l_Table_total k_Table_total p_Table_total
  have FM_Table_total := ok_Table_total (P := l.prog) (w := w) (mg := mg) (base := base) (F := F_Table_total) (c := ct) (m_sum := m_sum) (C := C) (Ct := Ct)
  have b_Table_total := F_Table_total.binds (ps := ["self"]) (fun _ _ _ _ _ _ us hl => match us, hl with | [_], _ => rfl)
  have r_Table_total : PropOf K Ct "total" pp_Table_total f_Table_total := ⟨at_Table_total, ge_Table_total, ta_Table_total, _, re_Table_total⟩
  have FO := FM_Table_total
  have bO := b_Table_total
  have rO : PropOf K Ct "total" pp_Table_total f_Table_total := ⟨at_Table_total, ge_Table_total, ta_Table_total, _, re_Table_total⟩
  have FO := FM_Table_total
  have bO := b_Table_total
  have F_law_common := fun_mk (st := s_law_common) l_law_common k_law_common p_law_common
  let c_law_common : Cal l.prog w K mg base 1 "_law_common" ["_law_one", "_law_other"] (sp_law_common K) := ⟨f_law_common, _, ok_law_common (F := F_law_common) (m_abs := m_abs) (m_int := m_int), p_law_common, F_law_common.binds (ps := ["_law_one", "_law_other"]) (fun _ _ _ _ _ _ us hl => match us, hl with | [_, _], _ => rfl), PySem.W.mg_of X G a_law_common⟩
  have F_law_pair := fun_mk (st := s_law_pair) l_law_pair k_law_pair p_law_pair
  let c_law_pair : Cal l.prog w K mg base 2 "_law_pair" ["_law_above", "_law_under"] (sp_law_pair K) := ⟨f_law_pair, _, ok_law_pair (F := F_law_pair) (c_law_common := c_law_common), p_law_pair, F_law_pair.binds (ps := ["_law_above", "_law_under"]) (fun _ _ _ _ _ _ us hl => match us, hl with | [_, _], _ => rfl), PySem.W.mg_of X G a_law_pair⟩
  have F_law_share_due := fun_mk (st := s_law_share_due) l_law_share_due k_law_share_due p_law_share_due
  let c_law_share_due : Cal l.prog w K mg base 6 "_law_share_due" ["_law_lore_here", "_law_counts", "_law_part", "_law_other"] (sp_law_share_due K) := ⟨f_law_share_due, _, ok_law_share_due (F := F_law_share_due) (c_law_number := c_law_number) (c_law_pair := c_law_pair), p_law_share_due, F_law_share_due.binds (ps := ["_law_lore_here", "_law_counts", "_law_part", "_law_other"]) (fun _ _ _ _ _ _ us hl => match us, hl with | [_, _, _, _], _ => rfl), PySem.W.mg_of X G a_law_share_due⟩
  have F_law_is_told := fun_mk (st := s_law_is_told) l_law_is_told k_law_is_told p_law_is_told
  let c_law_is_told : CalG l.prog w K mg base 8 "_law_is_told" ["_law_lore_here", "_law_counts", "_law_page", "_law_table"] (sp_law_is_told K C Ct) := ⟨f_law_is_told, _, ok_law_is_told (F := F_law_is_told) (cP := c) (TP := T) (c := ct) (dQ := dQ) (FQ := FQ) (bQ := bQ) (dT := dTD) (hT := fi_atD) (FT := FM_atD) (bT := b_atD) (mS := mS) (FS := FS) (bS := bS) (rP := r_Table_page) (FP := FM_Table_page) (bP := b_Table_page) (rN := r_Table_counts) (FN := FM_Table_counts) (bN := b_Table_counts) (rL := r_Table_total) (FL := FM_Table_total) (bL := b_Table_total) (m_repr := m_repr) (m_sum := m_sum) (c_law_parts := c_law_parts) (c_law_number := c_law_number) (c_law_share_due := c_law_share_due), p_law_is_told, F_law_is_told.binds (ps := ["_law_lore_here", "_law_counts", "_law_page", "_law_table"]) (fun _ _ _ _ _ _ us hl => match us, hl with | [_, _, _, _], _ => rfl), PySem.W.mg_of X G a_law_is_told⟩
  have F_lineD := fun_mk (st := s_Page__getitem_) l_lineD k_lineD p_lineD
  have FM_lineD := ok_lineD (P := l.prog) (w := w) (mg := mg) (base := base) (F := F_lineD) (c := c) (Fi := FM_AskedError__init_) (bi := b_AskedError__init_) (tyI := xc_ft) (XNP := X9NP) (iNP := xc_in_NP) (gNP := g_NP) (dC := dCD) (FC := FM_containsD) (bC := b_containsD)
  have b_lineD := F_lineD.binds (ps := ["self", "at"]) (fun _ _ _ _ _ _ us hl => match us, hl with | [_, _], _ => rfl)
  have dGD : Dun K C f_lineD "__getitem__" := ⟨at_lineD, fn_lineD⟩
  have FGD := FM_lineD
  have bGD := b_lineD
  have F_showsD := fun_mk (st := s_Table_shows) l_showsD k_showsD p_showsD
  have FM_showsD := ok_showsD (P := l.prog) (w := w) (mg := mg) (base := base) (F := F_showsD) (c := ct) (Fi := FM_AskedError__init_) (bi := b_AskedError__init_) (tyI := xc_ft) (XNA := X9NA) (iNA := xc_in_NA) (gNA := g_NA) (dG := dGD) (hG := fi_lineD) (FG := FM_lineD) (bG := b_lineD) (dT := dTD) (hT := fi_atD) (FT := FM_atD) (bT := b_atD) (C := C) (Ct := Ct)
  have b_showsD := F_showsD.binds (ps := ["self", "part"]) (fun _ _ _ _ _ _ us hl => match us, hl with | [_, _], _ => rfl)
  have mW : Meth K Ct "shows" f_showsD := ⟨at_showsD, fn_showsD, p_showsD⟩
  have FW := FM_showsD
  have bW := b_showsD
  have F_law_told := fun_mk (st := s_law_told) l_law_told k_law_told p_law_told
  have b_law_told := F_law_told.binds (ps := ["_law_look"]) (fun _ _ _ _ _ _ us hl => match us, hl with | [_], _ => rfl)
  have g_law_told : mg "_law_told" = some (.ref f_law_told) := PySem.W.mg_of X G a_law_told
  have F_law_is_none := fun_mk (st := s_law_is_none) l_law_is_none k_law_is_none p_law_is_none
  have b_law_is_none := F_law_is_none.binds (ps := ["_law_look", "_law_value"]) (fun _ _ _ _ _ _ us hl => match us, hl with | [_, _], _ => rfl)
  have g_law_is_none : mg "_law_is_none" = some (.ref f_law_is_none) := PySem.W.mg_of X G a_law_is_none
  have F_law_odd := fun_mk (st := s_law_odd) l_law_odd k_law_odd p_law_odd
  let c_law_odd : Cal l.prog w K mg base 3 "_law_odd" ["_law_pot_here"] (sp_law_oddN K) := ⟨f_law_odd, _, ok_law_odd (F := F_law_odd) (c_law_of := c_law_of), p_law_odd, F_law_odd.binds (ps := ["_law_pot_here"]) (fun _ _ _ _ _ _ us hl => match us, hl with | [_], _ => rfl), PySem.W.mg_of X G a_law_odd⟩
  have F_law_names_right := fun_mk (st := s_law_names_right) l_law_names_right k_law_names_right p_law_names_right
  let c_law_names_right : CalG l.prog w K mg base 13 "_law_names_right" ["_law_pot_here", "_law_lore_here", "_law_table"] (sp_law_names_right K C Ct tP1 tP2) := ⟨f_law_names_right, _, ok_law_names_right (F := F_law_names_right) (ne := tb_ne) (c := ct) (XNP := X9NP) (gNP := g_NP) (XNA := X9NA) (gNA := g_NA) (gA := g_CA) (hPA := xm_NP) (hAA := xm_NA) (dT := dTD) (hT := fi_atD) (FTt := FM_atD) (bTt := b_atD) (mS := mS) (FS := FS) (bS := bS) (mW := mW) (FW := FW) (bW := bW) (FT := F_law_told) (bT := b_law_told) (gTold := g_law_told) (FNo := F_law_is_none) (bN_ := b_law_is_none) (gNone := g_law_is_none) (TB := TB91) (hcd := rfl) (m_all := m_all) (m_isinstance := m_isinstance) (m_str := m_str) (m_repr := m_repr) (c_law_of := c_law_of) (c_law_odd := c_law_odd) (c_law_parts := c_law_parts), p_law_names_right, F_law_names_right.binds (ps := ["_law_pot_here", "_law_lore_here", "_law_table"]) (fun _ _ _ _ _ _ us hl => match us, hl with | [_, _, _], _ => rfl), PySem.W.mg_of X G a_law_names_right⟩
  have F_law_bent_0 := fun_mk (st := s_law_bent) l_law_bent_0 k_law_bent_0 p_law_bent_0
  let c_law_bent_0 : Cal l.prog w K mg base 4 "_law_bent" ["_law_pot_here", "_law_value"] (sp_law_bentN WLc 0 K) := ⟨f_law_bent_0, _, ok_law_bent_0 (F := F_law_bent_0) (m_isinstance := m_isinstance) (m_tuple := m_tuple) (m_len := m_len) (m_list := m_list) (m_str := m_str) (m_bool := m_bool) (m_int := m_int) (c_law_take := c_law_take) (c_law_of := c_law_of), p_law_bent_0, F_law_bent_0.binds (ps := ["_law_pot_here", "_law_value"]) (fun _ _ _ _ _ _ us hl => match us, hl with | [_, _], _ => rfl), PySem.W.mg_of X G a_law_bent_0⟩
  have F_law_bent := fun_mk (st := s_law_bent) l_law_bent k_law_bent p_law_bent
  let c_law_bent : Cal l.prog w K mg base 5 "_law_bent" ["_law_pot_here", "_law_value"] (sp_law_bentN WLc 1 K) := ⟨f_law_bent, _, ok_law_bent (F := F_law_bent) (m_isinstance := m_isinstance) (m_tuple := m_tuple) (m_len := m_len) (m_list := m_list) (m_str := m_str) (m_bool := m_bool) (m_int := m_int) (c_law_take := c_law_take) (c_law_of := c_law_of) (c_law_bent_0 := c_law_bent_0), p_law_bent, F_law_bent.binds (ps := ["_law_pot_here", "_law_value"]) (fun _ _ _ _ _ _ us hl => match us, hl with | [_, _], _ => rfl), PySem.W.mg_of X G a_law_bent⟩
  have F_law_are_countsD := fun_mk (st := s_law_are_counts) l_law_are_countsD k_law_are_countsD p_law_are_countsD
  let c_law_are_countsD : Cal l.prog w K mg base 3 "_law_are_counts" ["_law_lore_here", "_law_value"] (sp_are_countsD K) := ⟨f_law_are_countsD, _, ok_law_are_countsD (F := F_law_are_countsD) (m_isinstance := m_isinstance) (m_tuple := m_tuple) (m_len := m_len) (m_all := m_all) (m_int := m_int) (m_bool := m_bool) (m_sum := m_sum) (c_law_ends := c_law_ends), p_law_are_countsD, F_law_are_countsD.binds (ps := ["_law_lore_here", "_law_value"]) (fun _ _ _ _ _ _ us hl => match us, hl with | [_, _], _ => rfl), PySem.W.mg_of X G a_law_are_countsD⟩
  have F_law_is_judged := fun_mk (st := s_law_is_judged) l_law_is_judged k_law_is_judged p_law_is_judged
  let c_law_is_judged : CalG l.prog w K mg base 12 "_law_is_judged" ["_law_lore_here", "_law_page", "_law_value"] (sp_law_is_judged K C Ct tP1 tP2) := ⟨f_law_is_judged, _, ok_law_is_judged (F := F_law_is_judged) (ne := tb_ne) (XBC := X9BC) (gBC := g_BC) (gA := g_CA) (hBA := xm_BC) (MI := MtID) (FI := FM_Table_initD) (bI := b_Table_initD) (gT := gCt) (FT := F_law_told) (bT := b_law_told) (gTold := g_law_told) (TB := TB92) (hcd := rfl) (m_isinstance := m_isinstance) (m_repr := m_repr) (c_law_are_countsD := c_law_are_countsD) (c_law_is_told := c_law_is_told), p_law_is_judged, F_law_is_judged.binds (ps := ["_law_lore_here", "_law_page", "_law_value"]) (fun _ _ _ _ _ _ us hl => match us, hl with | [_, _, _], _ => rfl), PySem.W.mg_of X G a_law_is_judged⟩
  have F_law_is_other := fun_mk (st := s_law_is_other) l_law_is_other k_law_is_other p_law_is_other
  let c_law_is_other : Cal l.prog w K mg base 8 "_law_is_other" ["_law_lore_here", "_law_counts", "_law_table"] (sp_law_is_other K C Ct) := ⟨f_law_is_other, _, ok_law_is_other (F := F_law_is_other) (M := M) (FI := FI) (bI := bI) (gC := gC) (c := ct) (TT := TT) (NT := NT) (MT := MtID) (FT := FM_Table_initD) (bT := b_Table_initD) (gT := gCt) (dE := dE) (FE := FE) (bE := bE) (c_law_text := c_law_text), p_law_is_other, F_law_is_other.binds (ps := ["_law_lore_here", "_law_counts", "_law_table"]) (fun _ _ _ _ _ _ us hl => match us, hl with | [_, _, _], _ => rfl), PySem.W.mg_of X G a_law_is_other⟩
  have F_law_right := fun_mk (st := s_law_right) l_law_right k_law_right p_law_right
  let c_law_right : CalG l.prog w K mg base 14 "_law_right" ["_law_pot_here"] (sp_law_rightX K tP1 tP2) := ⟨f_law_right, _, ok_law_right (F := F_law_right) (cP := c) (TP := T) (M := M) (FI := FI) (bI := bI) (gC := gC) (c := ct) (TT := TT) (NT := NT) (MT := MtID) (FT := FM_Table_initD) (bT := b_Table_initD) (gT := gCt) (dE := dE) (FE := FE) (bE := bE) (kTup := kTup9) (kNon := kNon9) (kPg := kPg9) (nPg := nPg9) (nTup := nTup9) (nNon := nNon9) (m_list := m_list) (m_len := m_len) (m_range := m_range) (c_law_text := c_law_text) (c_law_lore := c_law_lore) (c_law_shapes := c_law_shapes) (c_law_is_told := c_law_is_told) (c_law_names_right := c_law_names_right) (c_law_odd := c_law_odd) (c_law_bent := c_law_bent) (c_law_is_judged := c_law_is_judged) (c_law_is_other := c_law_is_other), p_law_right, F_law_right.binds (ps := ["_law_pot_here"]) (fun _ _ _ _ _ _ us hl => match us, hl with | [_], _ => rfl), PySem.W.mg_of X G a_law_right⟩
  have F_law := fun_mk (st := s_law) l_law k_law p_law
  exact ok_law (F := F_law) (m_all := m_all) (m_range := m_range) (c_law_cells := c_law_cells) (c_law_pot := c_law_pot) (c_law_right := c_law_right)
end Uq
open PySem PySem.W PyProof.Rows
set_option maxHeartbeats 0 in
theorem PySem.Challenge.cw_anyasked_k18_counts_and_what_a_table_tel_holds : PySem.Challenge.rw_anyasked_k18_counts_and_what_a_table_tel.Holds := by
  w_on; o_law; k_head; (case hw => w_witness2)
  k_fill
  refine Uq.walk_ofGT (l := PySem.Challenge.rw_anyasked_k18_counts_and_what_a_table_tel) (n := 63) (k := 15) (x := "_law_script") rfl (by decide) rfl ⟨rfl, by decide, by decide⟩ (fun w h Y => PySem.W.km_in_of Y) ?F
  case F =>
    intro w mg fa h Y KX G hmg
    have T8 := PySem.W.km_tabs_of Y
    revert KX
    intro KX
    refine' Uq.all_mk KX G hmg (tb_c1 := ?q_tbc1) (tb_01 := ?q_tb01) (tb_c2 := ?q_tbc2) (tb_02 := ?q_tb02) (rf_NP := ?q_rf_NP) (rf_NA := ?q_rf_NA) (rf_BC := ?q_rf_BC)  (zCC := ?q_zCC) (tb_ne := ?q_tbne) (tb_v1 := ?q_tbv1) (tb_n1 := ?q_tbn1) (tb_v2 := ?q_tbv2) (tb_n2 := ?q_tbn2) (a_law_cells := ?q_a_law_cells) (l_law_cells := ?q_l_law_cells) (k_law_cells := ?q_k_law_cells) (p_law_cells := ?q_p_law_cells) (a_law_pot := ?q_a_law_pot) (l_law_pot := ?q_l_law_pot) (k_law_pot := ?q_k_law_pot) (p_law_pot := ?q_p_law_pot) (a_read_number := ?q_a_read_number) (l_read_number := ?q_l_read_number) (k_read_number := ?q_k_read_number) (p_read_number := ?q_p_read_number) (a_is_integer := ?q_a_is_integer) (l_is_integer := ?q_l_is_integer) (k_is_integer := ?q_k_is_integer) (p_is_integer := ?q_p_is_integer) (a_is_units := ?q_a_is_units) (l_is_units := ?q_l_is_units) (k_is_units := ?q_k_is_units) (p_is_units := ?q_p_is_units) (a_read_units := ?q_a_read_units) (l_read_units := ?q_l_read_units) (k_read_units := ?q_k_read_units) (p_read_units := ?q_p_read_units) (a_is_name := ?q_a_is_name) (l_is_name := ?q_l_is_name) (k_is_name := ?q_k_is_name) (p_is_name := ?q_p_is_name) (a_is_asked := ?q_a_is_asked) (l_is_asked := ?q_l_is_asked) (k_is_asked := ?q_k_is_asked) (p_is_asked := ?q_p_is_asked) (a_read_share := ?q_a_read_share) (l_read_share := ?q_l_read_share) (k_read_share := ?q_k_read_share) (p_read_share := ?q_p_read_share) (a_read_part := ?q_a_read_part) (l_read_part := ?q_l_read_part) (k_read_part := ?q_k_read_part) (p_read_part := ?q_p_read_part) (a_ends_among := ?q_a_ends_among) (l_ends_among := ?q_l_ends_among) (k_ends_among := ?q_k_ends_among) (p_ends_among := ?q_p_ends_among) (a_way_up := ?q_a_way_up) (l_way_up := ?q_l_way_up) (k_way_up := ?q_k_way_up) (p_way_up := ?q_p_way_up) (a_is_too_much := ?q_a_is_too_much) (l_is_too_much := ?q_l_is_too_much) (k_is_too_much := ?q_k_is_too_much) (p_is_too_much := ?q_p_is_too_much) (a_read_parts := ?q_a_read_parts) (l_read_parts := ?q_l_read_parts) (k_read_parts := ?q_k_read_parts) (p_read_parts := ?q_p_read_parts) (a_read_page := ?q_a_read_page) (l_read_page := ?q_l_read_page) (k_read_page := ?q_k_read_page) (p_read_page := ?q_p_read_page) (l_Page__init_ := ?q_l_Page__init_) (k_Page__init_ := ?q_k_Page__init_) (p_Page__init_ := ?q_p_Page__init_) (l_AskedError__init_ := ?q_l_AskedError__init_) (k_AskedError__init_ := ?q_k_AskedError__init_) (p_AskedError__init_ := ?q_p_AskedError__init_) (l_Page_parts := ?q_l_Page_parts) (k_Page_parts := ?q_k_Page_parts) (p_Page_parts := ?q_p_Page_parts) (l_Page_ends := ?q_l_Page_ends) (k_Page_ends := ?q_k_Page_ends) (p_Page_ends := ?q_p_Page_ends) (a_is_integerX := ?q_a_is_integerX) (l_is_integerX := ?q_l_is_integerX) (k_is_integerX := ?q_k_is_integerX) (p_is_integerX := ?q_p_is_integerX) (a_is_countsD := ?q_a_is_countsD) (l_is_countsD := ?q_l_is_countsD) (k_is_countsD := ?q_k_is_countsD) (p_is_countsD := ?q_p_is_countsD) (l_Page__contains_ := ?q_l_Page__contains_) (k_Page__contains_ := ?q_k_Page__contains_) (p_Page__contains_ := ?q_p_Page__contains_) (l_Page_ends_of := ?q_l_Page_ends_of) (k_Page_ends_of := ?q_k_Page_ends_of) (p_Page_ends_of := ?q_p_Page_ends_of) (a_many_in := ?q_a_many_in) (l_many_in := ?q_l_many_in) (k_many_in := ?q_k_many_in) (p_many_in := ?q_p_many_in) (l_Table_initD := ?q_l_Table_initD) (k_Table_initD := ?q_k_Table_initD) (p_Table_initD := ?q_p_Table_initD) (l_Page__eq_ := ?q_l_Page__eq_) (k_Page__eq_ := ?q_k_Page__eq_) (p_Page__eq_ := ?q_p_Page__eq_) (l_Table_eqX := ?q_l_Table_eqX) (k_Table_eqX := ?q_k_Table_eqX) (p_Table_eqX := ?q_p_Table_eqX) (a_law_line := ?q_a_law_line) (l_law_line := ?q_l_law_line) (k_law_line := ?q_k_law_line) (p_law_line := ?q_p_law_line) (a_law_text := ?q_a_law_text) (l_law_text := ?q_l_law_text) (k_law_text := ?q_k_law_text) (p_law_text := ?q_p_law_text) (a_law_take := ?q_a_law_take) (l_law_take := ?q_l_law_take) (k_law_take := ?q_k_law_take) (p_law_take := ?q_p_law_take) (a_law_of := ?q_a_law_of) (l_law_of := ?q_l_law_of) (k_law_of := ?q_k_law_of) (p_law_of := ?q_p_law_of) (a_law_some := ?q_a_law_some) (l_law_some := ?q_l_law_some) (k_law_some := ?q_k_law_some) (p_law_some := ?q_p_law_some) (a_law_names := ?q_a_law_names) (l_law_names := ?q_l_law_names) (k_law_names := ?q_k_law_names) (p_law_names := ?q_p_law_names) (a_law_tree := ?q_a_law_tree) (l_law_tree := ?q_l_law_tree) (k_law_tree := ?q_k_law_tree) (p_law_tree := ?q_p_law_tree) (a_law_units := ?q_a_law_units) (l_law_units := ?q_l_law_units) (k_law_units := ?q_k_law_units) (p_law_units := ?q_p_law_units) (a_law_parts := ?q_a_law_parts) (l_law_parts := ?q_l_law_parts) (k_law_parts := ?q_k_law_parts) (p_law_parts := ?q_p_law_parts) (a_law_ends := ?q_a_law_ends) (l_law_ends := ?q_l_law_ends) (k_law_ends := ?q_k_law_ends) (p_law_ends := ?q_p_law_ends) (a_law_ends_of := ?q_a_law_ends_of) (l_law_ends_of := ?q_l_law_ends_of) (k_law_ends_of := ?q_k_law_ends_of) (p_law_ends_of := ?q_p_law_ends_of) (a_law_weights := ?q_a_law_weights) (l_law_weights := ?q_l_law_weights) (k_law_weights := ?q_k_law_weights) (p_law_weights := ?q_p_law_weights) (a_law_number := ?q_a_law_number) (l_law_number := ?q_l_law_number) (k_law_number := ?q_k_law_number) (p_law_number := ?q_p_law_number) (a_law_rounded := ?q_a_law_rounded) (l_law_rounded := ?q_l_law_rounded) (k_law_rounded := ?q_k_law_rounded) (p_law_rounded := ?q_p_law_rounded) (a_law_share_of := ?q_a_law_share_of) (l_law_share_of := ?q_l_law_share_of) (k_law_share_of := ?q_k_law_share_of) (p_law_share_of := ?q_p_law_share_of) (a_law_lore := ?q_a_law_lore) (l_law_lore := ?q_l_law_lore) (k_law_lore := ?q_k_law_lore) (p_law_lore := ?q_p_law_lore) (a_law_shapes := ?q_a_law_shapes) (l_law_shapes := ?q_l_law_shapes) (k_law_shapes := ?q_k_law_shapes) (p_law_shapes := ?q_p_law_shapes) (l_containsD := ?q_l_containsD) (k_containsD := ?q_k_containsD) (p_containsD := ?q_p_containsD) (l_atD := ?q_l_atD) (k_atD := ?q_k_atD) (p_atD := ?q_p_atD) (a_least_terms := ?q_a_least_terms) (l_least_terms := ?q_l_least_terms) (k_least_terms := ?q_k_least_terms) (p_least_terms := ?q_p_least_terms) (l_shareD := ?q_l_shareD) (k_shareD := ?q_k_shareD) (p_shareD := ?q_p_shareD) (l_Table_page := ?q_l_Table_page) (k_Table_page := ?q_k_Table_page) (p_Table_page := ?q_p_Table_page) (l_Table_counts := ?q_l_Table_counts) (k_Table_counts := ?q_k_Table_counts) (p_Table_counts := ?q_p_Table_counts) (l_Table_total := ?q_l_Table_total) (k_Table_total := ?q_k_Table_total) (p_Table_total := ?q_p_Table_total) (a_law_common := ?q_a_law_common) (l_law_common := ?q_l_law_common) (k_law_common := ?q_k_law_common) (p_law_common := ?q_p_law_common) (a_law_pair := ?q_a_law_pair) (l_law_pair := ?q_l_law_pair) (k_law_pair := ?q_k_law_pair) (p_law_pair := ?q_p_law_pair) (a_law_share_due := ?q_a_law_share_due) (l_law_share_due := ?q_l_law_share_due) (k_law_share_due := ?q_k_law_share_due) (p_law_share_due := ?q_p_law_share_due) (a_law_is_told := ?q_a_law_is_told) (l_law_is_told := ?q_l_law_is_told) (k_law_is_told := ?q_k_law_is_told) (p_law_is_told := ?q_p_law_is_told) (l_lineD := ?q_l_lineD) (k_lineD := ?q_k_lineD) (p_lineD := ?q_p_lineD) (l_showsD := ?q_l_showsD) (k_showsD := ?q_k_showsD) (p_showsD := ?q_p_showsD) (a_law_told := ?q_a_law_told) (l_law_told := ?q_l_law_told) (k_law_told := ?q_k_law_told) (p_law_told := ?q_p_law_told) (a_law_is_none := ?q_a_law_is_none) (l_law_is_none := ?q_l_law_is_none) (k_law_is_none := ?q_k_law_is_none) (p_law_is_none := ?q_p_law_is_none) (a_law_odd := ?q_a_law_odd) (l_law_odd := ?q_l_law_odd) (k_law_odd := ?q_k_law_odd) (p_law_odd := ?q_p_law_odd) (a_law_names_right := ?q_a_law_names_right) (l_law_names_right := ?q_l_law_names_right) (k_law_names_right := ?q_k_law_names_right) (p_law_names_right := ?q_p_law_names_right) (a_law_bent_0 := ?q_a_law_bent_0) (l_law_bent_0 := ?q_l_law_bent_0) (k_law_bent_0 := ?q_k_law_bent_0) (p_law_bent_0 := ?q_p_law_bent_0) (a_law_bent := ?q_a_law_bent) (l_law_bent := ?q_l_law_bent) (k_law_bent := ?q_k_law_bent) (p_law_bent := ?q_p_law_bent) (a_law_are_countsD := ?q_a_law_are_countsD) (l_law_are_countsD := ?q_l_law_are_countsD) (k_law_are_countsD := ?q_k_law_are_countsD) (p_law_are_countsD := ?q_p_law_are_countsD) (a_law_is_judged := ?q_a_law_is_judged) (l_law_is_judged := ?q_l_law_is_judged) (k_law_is_judged := ?q_k_law_is_judged) (p_law_is_judged := ?q_p_law_is_judged) (a_law_is_other := ?q_a_law_is_other) (l_law_is_other := ?q_l_law_is_other) (k_law_is_other := ?q_k_law_is_other) (p_law_is_other := ?q_p_law_is_other) (a_law_right := ?q_a_law_right) (l_law_right := ?q_l_law_right) (k_law_right := ?q_k_law_right) (p_law_right := ?q_p_law_right) (a_law := ?q_a_law) (l_law := ?q_l_law) (k_law := ?q_k_law) (p_law := ?q_p_law) (z_range := ?q_z_range) (z_max := ?q_z_max) (z_min := ?q_z_min) (z_len := ?q_z_len) (z_list := ?q_z_list) (z_int := ?q_z_int) (z_abs := ?q_z_abs) (z_str := ?q_z_str) (z_isinstance := ?q_z_isinstance) (z_bool := ?q_z_bool) (z_tuple := ?q_z_tuple) (z_dict := ?q_z_dict) (z_zip := ?q_z_zip) (z_enumerate := ?q_z_enumerate) (z_all := ?q_z_all) (z_sum := ?q_z_sum) (z_repr := ?q_z_repr) (a_C := ?q_a_C) (c_pg := ?q_c_pg) (c_hd := ?q_c_hd) (c_po := ?q_c_po) (c_sa := ?q_c_sa) (n_text := ?q_n_text) (n_units := ?q_n_units) (n_lines := ?q_n_lines) (n_ends := ?q_n_ends) (at_Page__init_ := ?q_at_Page__init_) (fn_Page__init_ := ?q_fn_Page__init_) (at_Page_parts := ?q_at_Page_parts) (ge_Page_parts := ?q_ge_Page_parts) (ta_Page_parts := ?q_ta_Page_parts) (re_Page_parts := ?q_re_Page_parts) (at_Page_ends := ?q_at_Page_ends) (ge_Page_ends := ?q_ge_Page_ends) (ta_Page_ends := ?q_ta_Page_ends) (re_Page_ends := ?q_re_Page_ends) (at_Page__contains_ := ?q_at_Page__contains_) (fn_Page__contains_ := ?q_fn_Page__contains_) (at_Page_ends_of := ?q_at_Page_ends_of) (fn_Page_ends_of := ?q_fn_Page_ends_of) (at_Page__eq_ := ?q_at_Page__eq_) (fn_Page__eq_ := ?q_fn_Page__eq_) (at_containsD := ?q_at_containsD) (fn_containsD := ?q_fn_containsD) (at_lineD := ?q_at_lineD) (fn_lineD := ?q_fn_lineD) (fi_lineD := ?q_fi_lineD) (T_ha := ?q_T_ha) (T_hn := ?q_T_hn) (T_htk := ?q_T_htk) (T_hm := ?q_T_hm) (mk_C := ?q_mk_C) (kp_C := ?q_kp_C) (a_NP := ?q_a_NP) (a_NA := ?q_a_NA) (a_BC := ?q_a_BC) (a_CA := ?q_a_CA) (xc_xA := ?q_xc_xA) (xc_yA := ?q_xc_yA) (xc_cA := ?q_xc_cA) (x_NP := ?q_x_NP) (xc_sa_NP := ?q_xc_sa_NP) (xc_ex_NP := ?q_xc_ex_NP) (xc_ty_NP := ?q_xc_ty_NP) (xc_kp_NP := ?q_xc_kp_NP) (xc_ga_NP := ?q_xc_ga_NP) (xc_gg_NP := ?q_xc_gg_NP) (xc_hd_NP := ?q_xc_hd_NP) (xc_cl_NP := ?q_xc_cl_NP) (xc_mo_NP := ?q_xc_mo_NP) (xc_va_NP := ?q_xc_va_NP) (xc_in_NP := ?q_xc_in_NP) (xc_sA_NP := ?q_xc_sA_NP) (xc_cs_NP := ?q_xc_cs_NP) (x_NA := ?q_x_NA) (xc_sa_NA := ?q_xc_sa_NA) (xc_ex_NA := ?q_xc_ex_NA) (xc_ty_NA := ?q_xc_ty_NA) (xc_kp_NA := ?q_xc_kp_NA) (xc_ga_NA := ?q_xc_ga_NA) (xc_gg_NA := ?q_xc_gg_NA) (xc_hd_NA := ?q_xc_hd_NA) (xc_cl_NA := ?q_xc_cl_NA) (xc_mo_NA := ?q_xc_mo_NA) (xc_va_NA := ?q_xc_va_NA) (xc_in_NA := ?q_xc_in_NA) (xc_sA_NA := ?q_xc_sA_NA) (xc_cs_NA := ?q_xc_cs_NA) (x_BC := ?q_x_BC) (xc_sa_BC := ?q_xc_sa_BC) (xc_ex_BC := ?q_xc_ex_BC) (xc_ty_BC := ?q_xc_ty_BC) (xc_kp_BC := ?q_xc_kp_BC) (xc_ga_BC := ?q_xc_ga_BC) (xc_gg_BC := ?q_xc_gg_BC) (xc_hd_BC := ?q_xc_hd_BC) (xc_cl_BC := ?q_xc_cl_BC) (xc_mo_BC := ?q_xc_mo_BC) (xc_va_BC := ?q_xc_va_BC) (xc_in_BC := ?q_xc_in_BC) (xc_sA_BC := ?q_xc_sA_BC) (xc_cs_BC := ?q_xc_cs_BC) (xc_ft := ?q_xc_ft) (tb_l1 := ?q_tb_l1) (tb_l2 := ?q_tb_l2) (a_Ct := ?q_a_Ct) (tc_pg := ?q_tc_pg) (tc_hd := ?q_tc_hd) (tc_po := ?q_tc_po) (tc_sa := ?q_tc_sa) (tn_page := ?q_tn_page) (tn_counts := ?q_tn_counts) (tn_many := ?q_tn_many) (tT_ha := ?q_tT_ha) (tT_hm := ?q_tT_hm) (at_Table_initD := ?q_at_Table_initD) (fn_Table_initD := ?q_fn_Table_initD) (at_Table_eqX := ?q_at_Table_eqX) (fn_Table_eqX := ?q_fn_Table_eqX) (at_atD := ?q_at_atD) (fn_atD := ?q_fn_atD) (fi_atD := ?q_fi_atD) (at_shareD := ?q_at_shareD) (fn_shareD := ?q_fn_shareD) (at_Table_page := ?q_at_Table_page) (ge_Table_page := ?q_ge_Table_page) (ta_Table_page := ?q_ta_Table_page) (re_Table_page := ?q_re_Table_page) (at_Table_counts := ?q_at_Table_counts) (ge_Table_counts := ?q_ge_Table_counts) (ta_Table_counts := ?q_ta_Table_counts) (re_Table_counts := ?q_re_Table_counts) (at_Table_total := ?q_at_Table_total) (ge_Table_total := ?q_ge_Table_total) (ta_Table_total := ?q_ta_Table_total) (re_Table_total := ?q_re_Table_total) (at_showsD := ?q_at_showsD) (fn_showsD := ?q_fn_showsD) (mk_Ct := ?q_mk_Ct) (kp_Ct := ?q_kp_Ct) (a_HOWS := ?q_a_HOWS) (l_HOWS := ?q_l_HOWS) (a_WORDS := ?q_a_WORDS) (l_WORDS := ?q_l_WORDS) (a_MOST_PARTS := ?q_a_MOST_PARTS) (a_MOST_ENDS := ?q_a_MOST_ENDS) (a_MOST_STEPS := ?q_a_MOST_STEPS) (a_gcd := ?q_a_gcd) (a_MARKS := ?q_a_MARKS) (l_MARKS := ?q_l_MARKS) (l_MARK0 := ?q_l_MARK0) (l_MARK1 := ?q_l_MARK1) (l_MARK2 := ?q_l_MARK2) (l_MARK3 := ?q_l_MARK3) (zT_cl := ?q_zT_cl) (zT_ty := ?q_zT_ty) (zT_pg := ?q_zT_pg) (zT_ne := ?q_zT_ne) (v_HOWS := ?q_v_HOWS) (v_WORDS := ?q_v_WORDS)
    (case q_a_C => k_is)
    (case q_c_pg => k_is)
    (case q_c_hd => k_is)
    (case q_c_po => k_is)
    (case q_c_sa => k_is)
    (case q_n_text => k_is)
    (case q_n_units => k_is)
    (case q_n_lines => k_is)
    (case q_n_ends => k_is)
    (case q_at_Page__init_ => k_is)
    (case q_fn_Page__init_ => k_is)
    (case q_at_Page_parts => k_is)
    (case q_ge_Page_parts => k_is)
    (case q_ta_Page_parts => k_is)
    (case q_re_Page_parts => k_is)
    (case q_at_Page_ends => k_is)
    (case q_ge_Page_ends => k_is)
    (case q_ta_Page_ends => k_is)
    (case q_re_Page_ends => k_is)
    (case q_at_Page__contains_ => k_is)
    (case q_fn_Page__contains_ => k_is)
    (case q_at_Page_ends_of => k_is)
    (case q_fn_Page_ends_of => k_is)
    (case q_at_Page__eq_ => k_is)
    (case q_fn_Page__eq_ => k_is)
    (case q_at_containsD => k_is)
    (case q_fn_containsD => k_is)
    (case q_at_lineD => k_is)
    (case q_fn_lineD => k_is)
    (case q_fi_lineD => k_is)
    (case q_T_ha => k_is)
    (case q_T_hn => k_is)
    (case q_T_htk => k_is)
    (case q_T_hm => k_is)
    (case q_mk_C => k_is)
    (case q_kp_C => k_is)
    (case q_a_NP => k_is)
    (case q_a_NA => k_is)
    (case q_a_BC => k_is)
    (case q_a_CA => k_is)
    (case q_xc_xA => k_is)
    (case q_xc_yA => k_is)
    (case q_xc_cA => k_is)
    (case q_x_NP => k_is)
    (case q_xc_sa_NP => k_is)
    (case q_xc_ex_NP => k_is)
    (case q_xc_ty_NP => k_is)
    (case q_xc_kp_NP => k_is)
    (case q_xc_ga_NP => k_is)
    (case q_xc_gg_NP => k_is)
    (case q_xc_hd_NP => k_is)
    (case q_xc_cl_NP => k_is)
    (case q_xc_mo_NP => k_is)
    (case q_xc_va_NP => k_is)
    (case q_xc_in_NP => k_is)
    (case q_xc_sA_NP => k_is)
    (case q_xc_cs_NP => k_is)
    (case q_x_NA => k_is)
    (case q_xc_sa_NA => k_is)
    (case q_xc_ex_NA => k_is)
    (case q_xc_ty_NA => k_is)
    (case q_xc_kp_NA => k_is)
    (case q_xc_ga_NA => k_is)
    (case q_xc_gg_NA => k_is)
    (case q_xc_hd_NA => k_is)
    (case q_xc_cl_NA => k_is)
    (case q_xc_mo_NA => k_is)
    (case q_xc_va_NA => k_is)
    (case q_xc_in_NA => k_is)
    (case q_xc_sA_NA => k_is)
    (case q_xc_cs_NA => k_is)
    (case q_x_BC => k_is)
    (case q_xc_sa_BC => k_is)
    (case q_xc_ex_BC => k_is)
    (case q_xc_ty_BC => k_is)
    (case q_xc_kp_BC => k_is)
    (case q_xc_ga_BC => k_is)
    (case q_xc_gg_BC => k_is)
    (case q_xc_hd_BC => k_is)
    (case q_xc_cl_BC => k_is)
    (case q_xc_mo_BC => k_is)
    (case q_xc_va_BC => k_is)
    (case q_xc_in_BC => k_is)
    (case q_xc_sA_BC => k_is)
    (case q_xc_cs_BC => k_is)
    (case q_xc_ft => k_is)
    (case q_a_Ct => k_is)
    (case q_tc_pg => k_is)
    (case q_tc_hd => k_is)
    (case q_tc_po => k_is)
    (case q_tc_sa => k_is)
    (case q_tn_page => k_is)
    (case q_tn_counts => k_is)
    (case q_tn_many => k_is)
    (case q_tT_ha => k_is)
    (case q_tT_hm => k_is)
    (case q_at_Table_initD => k_is)
    (case q_fn_Table_initD => k_is)
    (case q_at_Table_eqX => k_is)
    (case q_fn_Table_eqX => k_is)
    (case q_at_atD => k_is)
    (case q_fn_atD => k_is)
    (case q_fi_atD => k_is)
    (case q_at_shareD => k_is)
    (case q_fn_shareD => k_is)
    (case q_at_Table_page => k_is)
    (case q_ge_Table_page => k_is)
    (case q_ta_Table_page => k_is)
    (case q_re_Table_page => k_is)
    (case q_at_Table_counts => k_is)
    (case q_ge_Table_counts => k_is)
    (case q_ta_Table_counts => k_is)
    (case q_re_Table_counts => k_is)
    (case q_at_Table_total => k_is)
    (case q_ge_Table_total => k_is)
    (case q_ta_Table_total => k_is)
    (case q_re_Table_total => k_is)
    (case q_at_showsD => k_is)
    (case q_fn_showsD => k_is)
    (case q_mk_Ct => k_is)
    (case q_kp_Ct => k_is)
    (case q_a_law_cells => k_is)
    (case q_l_law_cells => k_is)
    (case q_k_law_cells => k_is)
    (case q_p_law_cells => k_is)
    (case q_a_law_pot => k_is)
    (case q_l_law_pot => k_is)
    (case q_k_law_pot => k_is)
    (case q_p_law_pot => k_is)
    (case q_a_read_number => k_is)
    (case q_l_read_number => k_is)
    (case q_k_read_number => k_is)
    (case q_p_read_number => k_is)
    (case q_a_is_integer => k_is)
    (case q_l_is_integer => k_is)
    (case q_k_is_integer => k_is)
    (case q_p_is_integer => k_is)
    (case q_a_is_units => k_is)
    (case q_l_is_units => k_is)
    (case q_k_is_units => k_is)
    (case q_p_is_units => k_is)
    (case q_a_read_units => k_is)
    (case q_l_read_units => k_is)
    (case q_k_read_units => k_is)
    (case q_p_read_units => k_is)
    (case q_a_is_name => k_is)
    (case q_l_is_name => k_is)
    (case q_k_is_name => k_is)
    (case q_p_is_name => k_is)
    (case q_a_is_asked => k_is)
    (case q_l_is_asked => k_is)
    (case q_k_is_asked => k_is)
    (case q_p_is_asked => k_is)
    (case q_a_read_share => k_is)
    (case q_l_read_share => k_is)
    (case q_k_read_share => k_is)
    (case q_p_read_share => k_is)
    (case q_a_read_part => k_is)
    (case q_l_read_part => k_is)
    (case q_k_read_part => k_is)
    (case q_p_read_part => k_is)
    (case q_a_ends_among => k_is)
    (case q_l_ends_among => k_is)
    (case q_k_ends_among => k_is)
    (case q_p_ends_among => k_is)
    (case q_a_way_up => k_is)
    (case q_l_way_up => k_is)
    (case q_k_way_up => k_is)
    (case q_p_way_up => k_is)
    (case q_a_is_too_much => k_is)
    (case q_l_is_too_much => k_is)
    (case q_k_is_too_much => k_is)
    (case q_p_is_too_much => k_is)
    (case q_a_read_parts => k_is)
    (case q_l_read_parts => k_is)
    (case q_k_read_parts => k_is)
    (case q_p_read_parts => k_is)
    (case q_a_read_page => k_is)
    (case q_l_read_page => k_is)
    (case q_k_read_page => k_is)
    (case q_p_read_page => k_is)
    (case q_l_Page__init_ => k_is)
    (case q_k_Page__init_ => k_is)
    (case q_p_Page__init_ => k_is)
    (case q_l_AskedError__init_ => k_is)
    (case q_k_AskedError__init_ => k_is)
    (case q_p_AskedError__init_ => k_is)
    (case q_l_Page_parts => k_is)
    (case q_k_Page_parts => k_is)
    (case q_p_Page_parts => k_is)
    (case q_l_Page_ends => k_is)
    (case q_k_Page_ends => k_is)
    (case q_p_Page_ends => k_is)
    (case q_a_is_integerX => k_is)
    (case q_l_is_integerX => k_is)
    (case q_k_is_integerX => k_is)
    (case q_p_is_integerX => k_is)
    (case q_a_is_countsD => k_is)
    (case q_l_is_countsD => k_is)
    (case q_k_is_countsD => k_is)
    (case q_p_is_countsD => k_is)
    (case q_l_Page__contains_ => k_is)
    (case q_k_Page__contains_ => k_is)
    (case q_p_Page__contains_ => k_is)
    (case q_l_Page_ends_of => k_is)
    (case q_k_Page_ends_of => k_is)
    (case q_p_Page_ends_of => k_is)
    (case q_a_many_in => k_is)
    (case q_l_many_in => k_is)
    (case q_k_many_in => k_is)
    (case q_p_many_in => k_is)
    (case q_l_Table_initD => k_is)
    (case q_k_Table_initD => k_is)
    (case q_p_Table_initD => k_is)
    (case q_l_Page__eq_ => k_is)
    (case q_k_Page__eq_ => k_is)
    (case q_p_Page__eq_ => k_is)
    (case q_l_Table_eqX => k_is)
    (case q_k_Table_eqX => k_is)
    (case q_p_Table_eqX => k_is)
    (case q_a_law_line => k_is)
    (case q_l_law_line => k_is)
    (case q_k_law_line => k_is)
    (case q_p_law_line => k_is)
    (case q_a_law_text => k_is)
    (case q_l_law_text => k_is)
    (case q_k_law_text => k_is)
    (case q_p_law_text => k_is)
    (case q_a_law_take => k_is)
    (case q_l_law_take => k_is)
    (case q_k_law_take => k_is)
    (case q_p_law_take => k_is)
    (case q_a_law_of => k_is)
    (case q_l_law_of => k_is)
    (case q_k_law_of => k_is)
    (case q_p_law_of => k_is)
    (case q_a_law_some => k_is)
    (case q_l_law_some => k_is)
    (case q_k_law_some => k_is)
    (case q_p_law_some => k_is)
    (case q_a_law_names => k_is)
    (case q_l_law_names => k_is)
    (case q_k_law_names => k_is)
    (case q_p_law_names => k_is)
    (case q_a_law_tree => k_is)
    (case q_l_law_tree => k_is)
    (case q_k_law_tree => k_is)
    (case q_p_law_tree => k_is)
    (case q_a_law_units => k_is)
    (case q_l_law_units => k_is)
    (case q_k_law_units => k_is)
    (case q_p_law_units => k_is)
    (case q_a_law_parts => k_is)
    (case q_l_law_parts => k_is)
    (case q_k_law_parts => k_is)
    (case q_p_law_parts => k_is)
    (case q_a_law_ends => k_is)
    (case q_l_law_ends => k_is)
    (case q_k_law_ends => k_is)
    (case q_p_law_ends => k_is)
    (case q_a_law_ends_of => k_is)
    (case q_l_law_ends_of => k_is)
    (case q_k_law_ends_of => k_is)
    (case q_p_law_ends_of => k_is)
    (case q_a_law_weights => k_is)
    (case q_l_law_weights => k_is)
    (case q_k_law_weights => k_is)
    (case q_p_law_weights => k_is)
    (case q_a_law_number => k_is)
    (case q_l_law_number => k_is)
    (case q_k_law_number => k_is)
    (case q_p_law_number => k_is)
    (case q_a_law_rounded => k_is)
    (case q_l_law_rounded => k_is)
    (case q_k_law_rounded => k_is)
    (case q_p_law_rounded => k_is)
    (case q_a_law_share_of => k_is)
    (case q_l_law_share_of => k_is)
    (case q_k_law_share_of => k_is)
    (case q_p_law_share_of => k_is)
    (case q_a_law_lore => k_is)
    (case q_l_law_lore => k_is)
    (case q_k_law_lore => k_is)
    (case q_p_law_lore => k_is)
    (case q_a_law_shapes => k_is)
    (case q_l_law_shapes => k_is)
    (case q_k_law_shapes => k_is)
    (case q_p_law_shapes => k_is)
    (case q_l_containsD => k_is)
    (case q_k_containsD => k_is)
    (case q_p_containsD => k_is)
    (case q_l_atD => k_is)
    (case q_k_atD => k_is)
    (case q_p_atD => k_is)
    (case q_a_least_terms => k_is)
    (case q_l_least_terms => k_is)
    (case q_k_least_terms => k_is)
    (case q_p_least_terms => k_is)
    (case q_l_shareD => k_is)
    (case q_k_shareD => k_is)
    (case q_p_shareD => k_is)
    (case q_l_Table_page => k_is)
    (case q_k_Table_page => k_is)
    (case q_p_Table_page => k_is)
    (case q_l_Table_counts => k_is)
    (case q_k_Table_counts => k_is)
    (case q_p_Table_counts => k_is)
    (case q_l_Table_total => k_is)
    (case q_k_Table_total => k_is)
    (case q_p_Table_total => k_is)
    (case q_a_law_common => k_is)
    (case q_l_law_common => k_is)
    (case q_k_law_common => k_is)
    (case q_p_law_common => k_is)
    (case q_a_law_pair => k_is)
    (case q_l_law_pair => k_is)
    (case q_k_law_pair => k_is)
    (case q_p_law_pair => k_is)
    (case q_a_law_share_due => k_is)
    (case q_l_law_share_due => k_is)
    (case q_k_law_share_due => k_is)
    (case q_p_law_share_due => k_is)
    (case q_a_law_is_told => k_is)
    (case q_l_law_is_told => k_is)
    (case q_k_law_is_told => k_is)
    (case q_p_law_is_told => k_is)
    (case q_l_lineD => k_is)
    (case q_k_lineD => k_is)
    (case q_p_lineD => k_is)
    (case q_l_showsD => k_is)
    (case q_k_showsD => k_is)
    (case q_p_showsD => k_is)
    (case q_a_law_told => k_is)
    (case q_l_law_told => k_is)
    (case q_k_law_told => k_is)
    (case q_p_law_told => k_is)
    (case q_a_law_is_none => k_is)
    (case q_l_law_is_none => k_is)
    (case q_k_law_is_none => k_is)
    (case q_p_law_is_none => k_is)
    (case q_a_law_odd => k_is)
    (case q_l_law_odd => k_is)
    (case q_k_law_odd => k_is)
    (case q_p_law_odd => k_is)
    (case q_a_law_names_right => k_is)
    (case q_l_law_names_right => k_is)
    (case q_k_law_names_right => k_is)
    (case q_p_law_names_right => k_is)
    (case q_a_law_bent_0 => k_is)
    (case q_l_law_bent_0 => k_is)
    (case q_k_law_bent_0 => k_is)
    (case q_p_law_bent_0 => k_is)
    (case q_a_law_bent => k_is)
    (case q_l_law_bent => k_is)
    (case q_k_law_bent => k_is)
    (case q_p_law_bent => k_is)
    (case q_a_law_are_countsD => k_is)
    (case q_l_law_are_countsD => k_is)
    (case q_k_law_are_countsD => k_is)
    (case q_p_law_are_countsD => k_is)
    (case q_a_law_is_judged => k_is)
    (case q_l_law_is_judged => k_is)
    (case q_k_law_is_judged => k_is)
    (case q_p_law_is_judged => k_is)
    (case q_a_law_is_other => k_is)
    (case q_l_law_is_other => k_is)
    (case q_k_law_is_other => k_is)
    (case q_p_law_is_other => k_is)
    (case q_a_law_right => k_is)
    (case q_l_law_right => k_is)
    (case q_k_law_right => k_is)
    (case q_p_law_right => k_is)
    (case q_a_law => k_is)
    (case q_l_law => k_is)
    (case q_k_law => k_is)
    (case q_p_law => k_is)
    (case q_z_range => k_is)
    (case q_z_max => k_is)
    (case q_z_min => k_is)
    (case q_z_len => k_is)
    (case q_z_list => k_is)
    (case q_z_int => k_is)
    (case q_z_abs => k_is)
    (case q_z_str => k_is)
    (case q_z_isinstance => k_is)
    (case q_z_bool => k_is)
    (case q_z_tuple => k_is)
    (case q_z_dict => k_is)
    (case q_z_zip => k_is)
    (case q_z_enumerate => k_is)
    (case q_z_all => k_is)
    (case q_z_sum => k_is)
    (case q_z_repr => k_is)
    (case q_a_HOWS => k_is)
    (case q_l_HOWS => k_is)
    (case q_a_WORDS => k_is)
    (case q_l_WORDS => k_is)
    (case q_a_MOST_PARTS => k_is)
    (case q_a_MOST_ENDS => k_is)
    (case q_a_MOST_STEPS => k_is)
    (case q_a_gcd => k_is)
    (case q_a_MARKS => k_is)
    (case q_l_MARKS => k_is)
    (case q_l_MARK0 => k_is)
    (case q_l_MARK1 => k_is)
    (case q_l_MARK2 => k_is)
    (case q_l_MARK3 => k_is)
    (case q_zT_cl => k_is)
    (case q_zT_ty => k_is)
    (case q_zT_pg => k_is)
    (case q_zT_ne => k_is)
    (case q_tb_l1 => k_is)
    (case q_tbv1 => exact rfl)
    (case q_tbn1 => first | k_is | kernel_rfl)
    (case q_tbc1 => kernel_rfl)
    (case q_tb01 => exact T8 _ (by simp))
    (case q_tb_l2 => k_is)
    (case q_tbv2 => exact rfl)
    (case q_tbn2 => first | k_is | kernel_rfl)
    (case q_tbc2 => kernel_rfl)
    (case q_tb02 => exact T8 _ (by simp))
    (case q_tbne => decide)
    (case q_zCC => decide)
    (case q_rf_NP => decide +kernel)
    (case q_rf_NA => decide +kernel)
    (case q_rf_BC => decide +kernel)
    (case q_v_HOWS => exact ⟨by decide, .cons ⟨_, rfl⟩ (.cons ⟨_, rfl⟩ (.cons ⟨_, rfl⟩ (.cons ⟨_, rfl⟩ (.nil))))⟩)
    (case q_v_WORDS => exact ⟨by decide, .cons ⟨_, rfl⟩ (.cons ⟨_, rfl⟩ (.nil))⟩)
