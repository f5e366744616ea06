import PyProof.Rows.All
import Wide.All
import OpenK.AllK
import Wide.FinOn
import HandS.ForSpec
import HandS.ForMost
import HandS.Wide
import HandS.Deep
import HandS.IsInst
import HandS.EndBits
import PySem.Challenge.RW_spanforest_k01_two_meet
set_option Elab.async false
set_option linter.all false
set_option maxRecDepth 100000
set_option maxHeartbeats 2000000
namespace Sp
open PySem L2

/-- a product that Python makes -/
@[irreducible] def MulOk (i j : Int) : Prop := IntMulOk i j
/-! ### operators that the layer lacks -/
section
variable {X : Cx}
/-- ints, bools, None, texts, tracked tuples and lists, and the names of their types -/
inductive Ty6 (K : PySem.W.Frag) (H : Hp) : V → String → Prop
  | int (i : Int) : Ty6 K H (.int i) "int"
  | bl (b : Bool) : Ty6 K H (.bl b) "bool"
  | non : Ty6 K H .non "NoneType"
  | str (x : Str) : Ty6 K H (.str x) "str"
  | lst {a : Addr} {xs : List V} (e : SqL K H a xs) : Ty6 K H (.ref a) "list"
  | tup {a : Addr} {xs : List V} (e : SqT K H a xs) : Ty6 K H (.ref a) "tuple"
theorem Ty6.is {K : PySem.W.Frag} (hK : K = X.K) {pins : List (Addr × Obj)} {σ : L2.St} {H : Hp} {s : Shared} {x : V} {u : Value} {T : String} (t : Ty6 K H x T) (I : Inv X pins σ H s) (r : RelV x u) :
    s.TypeIs u T ∧ (Value.type T == Value.type "builtin_function_or_method") = false := by
  subst hK
  cases t with
  | int i =>
    obtain ⟨k, rfl⟩ := r
    exact ⟨typeIs_int s i k, by decide +kernel⟩
  | bl b =>
    cases r
    exact ⟨rfl, by decide +kernel⟩
  | non =>
    cases r
    exact ⟨rfl, by decide +kernel⟩
  | str z =>
    obtain ⟨k, rfl⟩ := r
    exact ⟨typeIs_str s z k, by decide +kernel⟩
  | lst e =>
    cases r
    obtain ⟨its, rv, p, _⟩ := I.list e
    exact ⟨p.isList.typeIs, by decide +kernel⟩
  | tup e =>
    cases r
    obtain ⟨its, rv, p, _⟩ := I.tuple e
    exact ⟨p.typeIs, by decide +kernel⟩
def rTy6 (K : PySem.W.Frag) : List V → Hp → VK → Prop := fun xs H Q => ∃ (x : V) (T : String), xs = [x] ∧ Ty6 K H x T ∧ Q (.ty T) H
theorem call_type6 : CallR X (.type "type") (rTy6 X.K) := by
  intro pins s σ H xs us Q I r h
  obtain ⟨x, T, rfl, t, q⟩ := h
  obtain ⟨u, rfl, rx⟩ := vals1 r
  obtain ⟨h1, h2⟩ := t.is rfl I rx
  exact call_type_of h1 h2 ⟨.ty T, H, I, rfl, q⟩
def tys : List String := ["int", "bool", "NoneType", "str", "list", "tuple"]
theorem meta_tys {S : String} (h : S ∈ tys) : ∀ s' : Shared, s'.TypeIs (.type S) "type" := by
  simp only [tys, List.mem_cons, List.not_mem_nil, or_false] at h
  rcases h with rfl | rfl | rfl | rfl | rfl | rfl
  · exact TypeEq.meta_int
  · exact TypeEq.meta_bool
  · exact TypeEq.meta_NoneType
  · exact TypeEq.meta_str
  · exact TypeEq.meta_list
  · exact TypeEq.meta_tuple
theorem Ty6.mem {K : PySem.W.Frag} {H : Hp} {x : V} {T : String} (t : Ty6 K H x T) : T ∈ tys := by
  cases t <;> simp [tys]
def rEqTy : R2 := fun x y H Q => ∃ S T, x = .ty S ∧ y = .ty T ∧ S ∈ tys ∧ T ∈ tys ∧ Q (.bl (decide (S = T))) H
theorem op_eqTy : OpR X (compareOp .Eq) rEqTy := by
  intro pins s σ H x y v u Q I rx ry h
  obtain ⟨S, T, rfl, rfl, hS, hT, q⟩ := h
  cases rx
  cases ry
  by_cases e : S = T
  · subst e
    exact TypeEq.eq_type_same (meta_tys hS) ⟨.bl true, H, I, rfl, by simpa using q⟩
  · exact TypeEq.eq_type_other (meta_tys hS) (meta_tys hT) (beq_eq_false_iff_ne.mpr fun z => e (Value.type.inj z)) ⟨.bl false, H, I, rfl, by simpa [e] using q⟩
theorem op_mulX : OpR X (binaryOp .Mult) (rI MulOk fun i j => .int (i * j)) := opI fun _ _ _ _ _ _ _ hc q => PyProof.Rows.mul_int q (by unfold MulOk at hc; exact hc)
end
/-! ### a def of the module, all that a call asks -/
structure Own (P : Program) (w : World) (K : PySem.W.Frag) (mg : Str → Option Value) (base : Heap) (CX : CXT) (k : Nat) (x : Str) (f : Addr) (fd : FuncData) (ps : List Str) (sp : L2.Sp) : Prop where
  ok : FnOk P w K mg base CX k f fd ps sp
  gl : mg x = some (.ref f)
  kp : PySem.W.keepIn K (.ref f) = true
  b : Binds K fd ps []
theorem hu65 {A : Around} {k : Nat} (hr : Room k A) : A.units + 65 < cLine := by have := hr.un; omega
/-! ### the size of ints -/
@[irreducible] def BW (N : Nat) (x : Int) : Prop := Builtin.Int.intBits x ≤ N
theorem BW.iff {N : Nat} {x : Int} : BW N x ↔ x.natAbs < 2 ^ N := by
  unfold BW Builtin.Int.intBits
  by_cases h : x = 0
  · subst h
    simp
    exact Nat.pow_pos (by decide)
  · have hn : x.natAbs ≠ 0 := by omega
    rw [if_neg (by simpa using h)]
    rw [Nat.succ_le_iff, Nat.log2_lt hn]
theorem BW.of {N : Nat} {x : Int} (h : Builtin.Int.intBits x ≤ N) : BW N x := by unfold BW; exact h
theorem BW.mono {N M : Nat} {x : Int} (h : BW N x) (e : N ≤ M) : BW M x := by
  unfold BW at *
  exact Nat.le_trans h e
theorem BW.mul {a b : Nat} {x y : Int} (h1 : BW a x) (h2 : BW b y) : BW (a + b) (x * y) := by
  rw [BW.iff] at *
  rw [Int.natAbs_mul, Nat.pow_add]
  exact Nat.mul_lt_mul'' h1 h2
theorem BW.add {a : Nat} {x y : Int} (h1 : BW a x) (h2 : BW a y) : BW (a + 1) (x + y) := by
  rw [BW.iff] at *
  have h := Int.natAbs_add_le x y
  rw [Nat.pow_succ]
  omega
theorem BW.div {a : Nat} {x k : Int} (h1 : BW a x) (hk : 0 < k) : BW a (x / k) := by
  rw [BW.iff] at *
  refine Nat.lt_of_le_of_lt ?_ h1
  rcases Int.le_total 0 x with h | h
  · have e1 : 0 ≤ x / k := Int.ediv_nonneg h (Int.le_of_lt hk)
    have e2 : x / k ≤ x := Int.ediv_le_self k h
    omega
  · have e1 : x ≤ x / k := by
      rw [Int.le_ediv_iff_mul_le hk]
      have q := Int.mul_nonneg (show 0 ≤ -x by omega) (show 0 ≤ k - 1 by omega)
      rw [Int.neg_mul, Int.mul_sub, Int.mul_one] at q
      omega
    have e2 : x / k ≤ 0 := by
      have := Int.ediv_le_ediv hk h
      simpa using this
    omega
theorem BW.ok {a b : Nat} {x y : Int} (h1 : BW a x) (h2 : BW b y) (h : a + b ≤ 134217728) : MulOk x y := by
  unfold MulOk
  have e : bitsLine = 134217728 := by decide
  unfold BW at h1 h2
  unfold IntMulOk
  intro z
  rw [Bool.and_eq_true] at z
  have z2 := z.2
  unfold Builtin.Int.intTooBig at z2
  have z3 := of_decide_eq_true z2
  rw [e] at z3
  omega
/-! ### what stands -/
section
variable {K : PySem.W.Frag} {H H' H2 : Hp} {a l : Addr} {xs ys zs : List V} {o : HO}
theorem same_new {p : Addr} (h : H p = none) : Same H (upd H p o) := fun b u e => by
  rw [upd_ne (ne_of_none e h)]
  exact e
theorem same_t (e : Same H H') (h : SqT K H a xs) : SqT K H' a xs := by
  rcases h with (h | ⟨o, h⟩) | h
  · exact .inl (.inl (e _ _ h))
  · exact .inl (.inr ⟨o, e _ _ h⟩)
  · exact .inr h
theorem same_at {o : HO} (e : Same H H') (h : H a = some o) : H' a = some o := e _ _ h
/-- the list at l is another one, all else stands -/
structure Chg (l : Addr) (H H' : Hp) : Prop where
  was : ∃ xs, H l = some (.lst xs)
  keep : ∀ b o, b ≠ l → H b = some o → H' b = some o
theorem chg_upd (h : H l = some (.lst xs)) : Chg l H (upd H l (.lst ys)) := ⟨⟨_, h⟩, fun b o n e => by rw [upd_ne n]; exact e⟩
theorem chg_t (e : Chg l H H') (h : SqT K H a xs) : SqT K H' a xs := by
  obtain ⟨⟨ys, hl⟩, k⟩ := e
  rcases h with (h | ⟨o, h⟩) | h
  · exact .inl (.inl (k _ _ (ne_of h hl (by intro z; cases z)) h))
  · exact .inl (.inr ⟨o, k _ _ (ne_of h hl (by intro z; cases z)) h⟩)
  · exact .inr h
/-- what was not there before may change -/
theorem same_chg (e : Same H H') (c : Chg l H' H2) (n : H l = none) : Same H H2 := fun b o q => c.keep b o (ne_of_none q n) (e b o q)
theorem same_back (e : Same H H') {p : Addr} (h : H' p = none) : H p = none := e.free h
end
theorem atI0 {α : Type} {a : α} {xs : List α} : atI (a :: xs) 0 = some a := atI_nat (j := 0) rfl
theorem atI1 {α : Type} {a b : α} {xs : List α} : atI (a :: b :: xs) 1 = some b := atI_nat (j := 1) rfl
theorem atI2 {α : Type} {a b c : α} {xs : List α} : atI (a :: b :: c :: xs) 2 = some c := atI_nat (j := 2) rfl
theorem atI3 {α : Type} {a b c d : α} {xs : List α} : atI (a :: b :: c :: d :: xs) 3 = some d := atI_nat (j := 3) rfl
/-! ### the law's cells -/
theorem sIx_at (n j : Nat) : HT.sIx n 0 (some (j : Int)) = min j n := HT.sIx_nat n 0 j
theorem cut_one {xs : List V} {j : Nat} {v : V} (h : xs[j]? = some v) : cutV xs (some (j : Int)) (some ((j : Int) + 1)) = [v] := by
  obtain ⟨hj, e⟩ := List.getElem?_eq_some_iff.mp h
  have e1 : HT.sIx xs.length 0 (some (j : Int)) = j := by rw [HT.sIx_nat]; omega
  have e2 : HT.sIx xs.length xs.length (some ((j : Int) + 1)) = j + 1 := by
    have := HT.sIx_nat xs.length xs.length (j + 1)
    rw [Int.natCast_add] at this
    rw [show ((1 : Nat) : Int) = 1 from rfl] at this
    rw [this]; omega
  unfold cutV
  rw [e1, e2, List.drop_eq_getElem_cons hj, e]
  have : j + 1 - j = 0 + 1 := by omega
  rw [this, List.take_succ_cons, List.take_zero]
theorem cut_none {xs : List V} {j : Nat} (h : xs.length ≤ j) : cutV xs (some (j : Int)) (some ((j : Int) + 1)) = [] := by
  have e1 : HT.sIx xs.length 0 (some (j : Int)) = xs.length := by rw [HT.sIx_nat]; omega
  unfold cutV
  rw [e1, List.drop_length, List.take_nil]
theorem cell_at (ns : List Int) (j : Nat) : ∃ rest, cutV (ns.map V.int) (some (j : Int)) (some ((j : Int) + 1)) ++ [V.int 0] = V.int (ns.getD j 0) :: rest := by
  by_cases h : j < ns.length
  · have e : (ns.map V.int)[j]? = some (V.int (ns[j])) := by rw [List.getElem?_map, List.getElem?_eq_getElem h]; rfl
    refine ⟨[V.int 0], ?_⟩
    rw [cut_one e, List.getD_eq_getElem?_getD, List.getElem?_eq_getElem h]
    rfl
  · refine ⟨[], ?_⟩
    rw [cut_none (by rw [List.length_map]; omega), List.getD_eq_getElem?_getD, List.getElem?_eq_none (by omega)]
    rfl
/-! ### readings, one step each -/
section
variable {σ : St} {H : Hp} {Q : VK} {QA : List V → Hp → Prop} {QB : Bool → Hp → Prop} {v x y : V} {ta tb tc te : TE} {tA : TA} {t u : TT} {D : Ends} {s1 s2 : TS} {K : PySem.W.Frag}
theorem w_var {i : Nat} (h : σ[i]? = some (some v)) (q : Q v H) : tVar i σ H Q := ⟨v, h, q⟩
theorem w_c (q : Q v H) : tC v σ H Q := q
theorem w_op {r : R2} (q : ta σ H fun x H1 => tb σ H1 fun y H2 => r x y H2 Q) : tOp r ta tb σ H Q := q
theorem w_un {r : V → Hp → VK → Prop} (q : ta σ H fun x H1 => r x H1 Q) : tUn r ta σ H Q := q
theorem w_rI0 {g : Int → Int → V} {i j : Int} (q : Q (g i j) H) : rI0 g (.int i) (.int j) H Q := ⟨i, j, rfl, rfl, q⟩
theorem w_rI {C : Int → Int → Prop} {g : Int → Int → V} {i j : Int} (c : C i j) (q : Q (g i j) H) : rI C g (.int i) (.int j) H Q := ⟨i, j, rfl, rfl, c, q⟩
theorem w_rU {g : Int → V} {i : Int} (q : Q (g i) H) : rU g (.int i) H Q := ⟨i, rfl, q⟩
theorem w_rEq (h : scal x y = true) (q : Q (.bl (decide (x = y))) H) : rEq x y H Q := ⟨h, q⟩
theorem w_rNe (h : scal x y = true) (q : Q (.bl (!decide (x = y))) H) : rNe x y H Q := ⟨h, q⟩
theorem w_rEqI {i j : Int} (q : Q (.bl (decide (i = j))) H) : rEq (.int i) (.int j) H Q := ⟨rfl, by
  have e : decide (V.int i = V.int j) = decide (i = j) := by simp
  rw [← e] at q; exact q⟩
theorem w_rNeI {i j : Int} (q : Q (.bl (!decide (i = j))) H) : rNe (.int i) (.int j) H Q := ⟨rfl, by
  have e : decide (V.int i = V.int j) = decide (i = j) := by simp
  rw [← e] at q; exact q⟩
theorem w_rEqB {i j : Bool} (q : Q (.bl (decide (i = j))) H) : rEq (.bl i) (.bl j) H Q := ⟨rfl, by
  have e : decide (V.bl i = V.bl j) = decide (i = j) := by simp
  rw [← e] at q; exact q⟩
theorem w_rNeB {i j : Bool} (q : Q (.bl (!decide (i = j))) H) : rNe (.bl i) (.bl j) H Q := ⟨rfl, by
  have e : decide (V.bl i = V.bl j) = decide (i = j) := by simp
  rw [← e] at q; exact q⟩
theorem w_ixT {p : Addr} {xs : List V} {i : Int} (h : SqT K H p xs) (ha : atI xs i = some v) (q : Q v H) : rIxT K (.ref p) (.int i) H Q := ⟨p, xs, i, v, rfl, rfl, h, ha, q⟩
theorem w_ixL {p : Addr} {xs : List V} {i : Int} (h : SqL K H p xs) (ha : atI xs i = some v) (q : Q v H) : rIxL K (.ref p) (.int i) H Q := ⟨p, xs, i, v, rfl, rfl, h, ha, q⟩
theorem w_chain {r r' : R2} (q : ta σ H fun x H1 => tb σ H1 fun y H2 => r x y H2 fun z H3 => ∃ k, z = .bl k ∧ if k = true then tc σ H3 fun w H4 => r' y w H4 Q else Q (.bl false) H3) : tChain r r' ta tb tc σ H Q := q
theorem w_ex {P : Bool → Prop} {k : Bool} (q : P k) : ∃ k', V.bl k = V.bl k' ∧ P k' := ⟨k, rfl, q⟩
theorem w_p10_60 (q : Q (.int 1000000000000000000000000000000000000000000000000000000000000) H) : rI CPow (fun i j => .int (i ^ j.toNat)) (.int 10) (.int 60) H Q := ⟨10, 60, rfl, rfl, ⟨by decide, by decide, by decide⟩, by
  have e : (10 : Int) ^ (Int.toNat 60) = 1000000000000000000000000000000000000000000000000000000000000 := by decide +kernel
  rw [← e] at q; exact q⟩
theorem w_p10_59 (q : Q (.int 100000000000000000000000000000000000000000000000000000000000) H) : rI CPow (fun i j => .int (i ^ j.toNat)) (.int 10) (.int 59) H Q := ⟨10, 59, rfl, rfl, ⟨by decide, by decide, by decide⟩, by
  have e : (10 : Int) ^ (Int.toNat 59) = 100000000000000000000000000000000000000000000000000000000000 := by decide +kernel
  rw [← e] at q; exact q⟩
theorem w_p48271 (q : Q (.int 160042582622774077931272282638733506491753459577065720641) H) : rI CPow (fun i j => .int (i ^ j.toNat)) (.int 48271) (.int 12) H Q := ⟨48271, 12, rfl, rfl, ⟨by decide, by decide, by decide⟩, by
  have e : (48271 : Int) ^ (Int.toNat 12) = 160042582622774077931272282638733506491753459577065720641 := by decide +kernel
  rw [← e] at q; exact q⟩
theorem w_p69621 (q : Q (.int 12968301046749891878822577019301343841127466270386200925841) H) : rI CPow (fun i j => .int (i ^ j.toNat)) (.int 69621) (.int 12) H Q := ⟨69621, 12, rfl, rfl, ⟨by decide, by decide, by decide⟩, by
  have e : (69621 : Int) ^ (Int.toNat 12) = 12968301046749891878822577019301343841127466270386200925841 := by decide +kernel
  rw [← e] at q; exact q⟩
theorem w_p16807 (q : Q (.int 143503601609868434285603076356671071740077383739246066639249) H) : rI CPow (fun i j => .int (i ^ j.toNat)) (.int 16807) (.int 14) H Q := ⟨16807, 14, rfl, rfl, ⟨by decide, by decide, by decide⟩, by
  have e : (16807 : Int) ^ (Int.toNat 14) = 143503601609868434285603076356671071740077383739246066639249 := by decide +kernel
  rw [← e] at q; exact q⟩
theorem w_nil (q : QA [] H) : tNil σ H QA := q
theorem w_cons {tr : TA} (q : ta σ H fun x H1 => tr σ H1 fun xs H2 => QA (x :: xs) H2) : tCons ta tr σ H QA := q
/-- what a display asks, its items known -/
def kTup (xs : List V) (H : Hp) (Q : VK) : Prop := xs.length ≤ sizeLine ∧ ∀ p, H p = none → Q (.ref p) (upd H p (.tup xs))
def kLst (xs : List V) (H : Hp) (Q : VK) : Prop := xs.length ≤ sizeLine ∧ ∀ p, H p = none → Q (.ref p) (upd H p (.lst xs))
theorem w_tup (q : tA σ H fun xs H1 => kTup xs H1 Q) : tTup tA σ H Q := q
theorem w_lst (q : tA σ H fun xs H1 => kLst xs H1 Q) : tLst tA σ H Q := q
theorem w_kTup {xs : List V} (z : xs.length ≤ sizeLine) (q : ∀ p H1, H p = none → Same H H1 → H1 p = some (.tup xs) → Q (.ref p) H1) : kTup xs H Q := ⟨z, fun p n => q p _ n (same_new n) upd_same⟩
theorem w_kLst {xs : List V} (z : xs.length ≤ sizeLine) (q : ∀ p H1, H p = none → Same H H1 → H1 p = some (.lst xs) → Q (.ref p) H1) : kLst xs H Q := ⟨z, fun p n => q p _ n (same_new n) upd_same⟩
theorem w_call {sp : Sp} {dvs : List V} {E : XK} (q : tA σ H fun vs H1 => sp (vs ++ dvs) H1 Q E) : tCall sp dvs E tA σ H Q := q
theorem w_cb {r : List V → Hp → VK → Prop} (q : tA σ H fun vs H1 => r vs H1 Q) : tCB r tA σ H Q := q
theorem w_sl {r : V → Option Int → Option Int → Hp → VK → Prop} {tl th : TO} (q : te σ H fun x H1 => tl σ H1 fun l H2 => th σ H2 fun u H3 => r x l u H3 Q) : tSl r te tl th σ H Q := q
theorem w_nopart {QO : Option Int → Hp → Prop} (q : QO none H) : tNoPart σ H QO := q
theorem w_part {QO : Option Int → Hp → Prop} (q : te σ H fun x H1 => ∃ i, x = .int i ∧ QO (some i) H1) : tPart te σ H QO := q
theorem w_exI {P : Int → Prop} {i : Int} (q : P i) : ∃ j, V.int i = V.int j ∧ P j := ⟨i, rfl, q⟩
theorem w_slL {p : Addr} {xs : List V} {lo hi : Option Int} (h : SqL K H p xs) (q : ∀ l H1, H l = none → Same H H1 → H1 l = some (.lst (cutV xs lo hi)) → Q (.ref l) H1) : rSlL K (.ref p) lo hi H Q :=
  ⟨p, xs, rfl, h, fun l n => q l _ n (same_new n) upd_same⟩
theorem w_rCat {p b : Addr} {xs ys : List V} (h1 : H p = some (.lst xs)) (h2 : H b = some (.lst ys)) (z : xs.length + ys.length ≤ sizeLine) (q : ∀ l H1, H l = none → Same H H1 → H1 l = some (.lst (xs ++ ys)) → Q (.ref l) H1) : rCat (.ref p) (.ref b) H Q :=
  ⟨p, b, xs, ys, rfl, rfl, h1, h2, z, fun l n => q l _ n (same_new n) upd_same⟩
theorem w_rTy6 {T : String} (h : Ty6 K H x T) (q : Q (.ty T) H) : rTy6 K [x] H Q := ⟨x, T, rfl, h, q⟩
theorem w_rEqTy {S T : String} (hS : S ∈ tys) (hT : T ∈ tys) (q : Q (.bl (decide (S = T))) H) : rEqTy (.ty S) (.ty T) H Q := ⟨S, T, rfl, rfl, hS, hT, q⟩
def rMax2 : List V → Hp → VK → Prop := fun xs H Q => ∃ i j, xs = [.int i, .int j] ∧ Q (.int (if j > i then j else i)) H
def rMin2 : List V → Hp → VK → Prop := fun xs H Q => ∃ i j, xs = [.int i, .int j] ∧ Q (.int (if j < i then j else i)) H
theorem c_max2 {X : Cx} (hc : X.calm = true) : CallR X (.builtin "max") rMax2 := call_max2 hc
theorem c_min2 {X : Cx} (hc : X.calm = true) : CallR X (.builtin "min") rMin2 := call_min2 hc
theorem w_max2 {i j : Int} (q : Q (.int (max i j)) H) : rMax2 [.int i, .int j] H Q := ⟨i, j, rfl, by
  have e : (if j > i then j else i) = max i j := by simp only [Int.max_def]; split <;> split <;> omega
  rw [← e] at q; exact q⟩
theorem w_min2 {i j : Int} (q : Q (.int (min i j)) H) : rMin2 [.int i, .int j] H Q := ⟨i, j, rfl, by
  have e : (if j < i then j else i) = min i j := by simp only [Int.min_def]; split <;> split <;> omega
  rw [← e] at q; exact q⟩
theorem w_isi {x : V} {c : String} {t : Value} {b : Bool} (ty : TyX K H x t) (e : PySem.W.kitOne K t (.type c) = some b) (q : Q (.bl b) H) : rIsi K [x, .ty c] H Q := ⟨x, .ty c, t, _, b, rfl, .ty c, ty, e, q⟩
theorem w_andV (q : ta σ H fun x H1 => ∃ c, x = .bl c ∧ if c = true then tb σ H1 Q else Q (.bl false) H1) : tAndV ta tb σ H Q := q
theorem w_orV (q : ta σ H fun x H1 => ∃ c, x = .bl c ∧ if c = true then Q (.bl true) H1 else tb σ H1 Q) : tOrV ta tb σ H Q := q
theorem w_notV (q : ta σ H fun x H1 => ∃ c, x = .bl c ∧ Q (.bl (!c)) H1) : tNotV ta σ H Q := q
theorem w_test (q : te σ H fun x H' => ∃ k, x = .bl k ∧ QB k H') : tTest te σ H QB := q
theorem w_B (q : te σ H fun x H' => ∃ k, x = .bl k ∧ QB k H') : tB te σ H QB := q
theorem w_and (q : t σ H fun c H1 => if c = true then u σ H1 QB else QB false H1) : tAnd t u σ H QB := q
theorem w_or (q : t σ H fun c H1 => if c = true then QB true H1 else u σ H1 QB) : tOr t u σ H QB := q
theorem w_not (q : t σ H fun c H1 => QB (!c) H1) : tNot t σ H QB := q
theorem w_if (q : t σ H fun b H1 => if b = true then s1 D σ H1 else s2 D σ H1) : tIfS t s1 s2 D σ H := q
theorem w_ifE (q : t σ H fun c H1 => if c = true then ta σ H1 Q else tb σ H1 Q) : tIf t ta tb σ H Q := q
theorem w_seq (q : s1 { D with nx := s2 D } σ H) : tSeq s1 s2 D σ H := q
theorem w_asg {i : Nat} (q : te σ H fun x H1 => D.nx (σ.set i (some x)) H1) : tAsg te (gName i) D σ H := q
theorem w_asgG {g : TG} (q : te σ H fun x H1 => g x σ H1 D.nx) : tAsg te g D σ H := q
theorem w_drop (q : te σ H fun _ H1 => D.nx σ H1) : tDrop te D σ H := q
theorem w_ret (q : te σ H D.rt) : tRet te D σ H := q
theorem w_retN (q : D.rt .non H) : tRetN D σ H := q
theorem w_next (q : D.nx σ H) : tNext D σ H := q
theorem w_gTup {n : Nat} {g : TGs} {a : Addr} {xs : List V} {R : St → Hp → Prop} (h : SqT K H a xs) (z : xs.length = n) (q : g xs σ H R) : gTup K n g (.ref a) σ H R := ⟨a, xs, rfl, h, z, q⟩
theorem w_gName {i : Nat} {R : St → Hp → Prop} (q : R (σ.set i (some v)) H) : gName i v σ H R := q
theorem w_gCons {g : TG} {gs : TGs} {vs : List V} {R : St → Hp → Prop} (q : g v σ H fun σ' H' => gs vs σ' H' R) : gCons g gs (v :: vs) σ H R := ⟨v, vs, rfl, q⟩
theorem w_gNil {R : St → Hp → Prop} (q : R σ H) : gNil [] σ H R := ⟨rfl, q⟩
/-- if c: x = e, told by the value that x has behind it -/
theorem w_ifI {c : Prop} [Decidable c] {i : Nat} {a b : Int} (h0 : σ.set i (some (.int b)) = σ) (h1 : c → ∀ Q : VK, Q (.int a) H → te σ H Q) (q : D.nx (σ.set i (some (.int (if c then a else b)))) H) :
    if decide c = true then tAsg te (gName i) D σ H else tNext D σ H := by
  by_cases hc : c
  · rw [if_pos hc] at q
    rw [if_pos (decide_eq_true hc)]
    exact h1 hc _ q
  · rw [if_neg hc, h0] at q
    rw [if_neg (by rw [decide_eq_false hc]; exact Bool.false_ne_true)]
    exact q
/-- a loop over what has come -/
def kFor (g : TG) (tb : TS) (D : Ends) (σ : St) (J : It) (H : Hp) : Prop := tFor (fun _ H R => R J H) g tb D σ H
theorem w_for {wi : TI} {g : TG} {tb : TS} (q : wi σ H fun J H1 => kFor g tb D σ J H1) : tFor wi g tb D σ H := q
theorem w_iList {tl : TE} {R : It → Hp → Prop} (q : tl σ H fun x H1 => ∃ a, x = .ref a ∧ (∃ xs, SqL K H1 a xs) ∧ R (Itl K a) H1) : iList K tl σ H R := q
theorem w_iTup {tl : TE} {R : It → Hp → Prop} (q : tl σ H fun x H1 => ∃ a, x = .ref a ∧ (∃ xs, SqT K H1 a xs) ∧ R (Itt K a) H1) : iTup K tl σ H R := q
theorem w_iL {a : Addr} {xs : List V} {R : It → Hp → Prop} (h : SqL K H a xs) (q : R (Itl K a) H) : ∃ a', V.ref a = .ref a' ∧ (∃ xs, SqL K H a' xs) ∧ R (Itl K a') H := ⟨a, rfl, ⟨xs, h⟩, q⟩
theorem w_iT {a : Addr} {xs : List V} {R : It → Hp → Prop} (h : SqT K H a xs) (q : R (Itt K a) H) : ∃ a', V.ref a = .ref a' ∧ (∃ xs, SqT K H a' xs) ∧ R (Itt K a') H := ⟨a, rfl, ⟨xs, h⟩, q⟩
theorem f_list {a : Addr} {xs : List V} {g : TG} {tb : TS} (Pv : Nat → St → Hp → Prop) (h0 : Pv 0 σ H) (hl : ∀ i σ H, i ≤ xs.length → Pv i σ H → SqL K H a xs)
    (hs : ∀ i x σ H, xs[i]? = some x → Pv i σ H → g x σ H fun σ2 H2 => tb { D with nx := Pv (i + 1), ct := Pv (i + 1), bk := D.nx } σ2 H2) (hd : ∀ σ H, Pv xs.length σ H → D.nx σ H) : kFor g tb D σ (Itl K a) H :=
  for_list Pv h0 hl hs hd
theorem w_iteT {A B : Prop} {c : Bool} (hc : c = true) (q : A) : if c = true then A else B := by rw [if_pos hc]; exact q
theorem w_iteF {A B : Prop} {c : Bool} (hc : c = false) (q : B) : if c = true then A else B := by rw [if_neg (by rw [hc]; exact Bool.false_ne_true)]; exact q
theorem w_ite {A B : Prop} {c : Bool} (h1 : c = true → A) (h2 : c = false → B) : if c = true then A else B := by
  cases c with
  | true => exact w_iteT rfl (h1 rfl)
  | false => exact w_iteF rfl (h2 rfl)
end
end Sp

set_option Elab.async false
set_option linter.all false
set_option maxRecDepth 100000
set_option maxHeartbeats 4000000
local macro_rules | `(tactic| walk_at "wp1") => `(tactic| first
  | with_reducible refine Sp.w_seq ?_
  | with_reducible refine Sp.w_asg ?_
  | ((with_reducible refine' Sp.w_var ?k1 ?_); (case k1 => exact rfl))
  | with_reducible refine Sp.w_c ?_
  | with_reducible refine Sp.w_op ?_
  | with_reducible refine Sp.w_rI0 ?_
  | with_reducible refine Sp.w_p10_60 ?_
  | with_reducible refine Sp.w_p10_59 ?_
  | with_reducible refine Sp.w_p48271 ?_
  | with_reducible refine Sp.w_p69621 ?_
  | with_reducible refine Sp.w_p16807 ?_
  | ((with_reducible refine' Sp.w_rI ?k1 ?_); (case k1 => first | exact ⟨by decide, by decide⟩ | decide | (with_reducible assumption) | walk_at "side"))
  | with_reducible refine Sp.w_rEqI ?_
  | with_reducible refine Sp.w_rNeI ?_
  | with_reducible refine Sp.w_rEqB ?_
  | with_reducible refine Sp.w_rNeB ?_
  | with_reducible refine Sp.w_call ?_
  | with_reducible refine Sp.w_cons ?_
  | with_reducible refine Sp.w_nil ?_
  | with_reducible refine Sp.w_cb ?_
  | with_reducible refine Sp.w_tup ?_
  | ((with_reducible refine' Sp.w_kTup ?k1 ?_); (case k1 => (simp only [List.length_cons, List.length_nil]; decide)))
  | with_reducible refine Sp.w_lst ?_
  | ((with_reducible refine' Sp.w_kLst ?k1 ?_); (case k1 => (simp only [List.length_cons, List.length_nil]; decide)))
  | ((with_reducible refine' Sp.w_ixT ?k1 ?k2 ?_); (case k1 => walk_at "seq"); (case k2 => walk_at "ix"))
  | ((with_reducible refine' Sp.w_ixL ?k1 ?k2 ?_); (case k1 => walk_at "seq"); (case k2 => walk_at "ix"))
  | ((with_reducible refine' Sp.w_slL ?k1 ?_); (case k1 => walk_at "seq"))
  | ((with_reducible refine' Sp.w_rCat ?k1 ?k2 ?k3 ?_); (case k1 => walk_at "at"); (case k2 => walk_at "at"); (case k3 => walk_at "side"))
  | with_reducible refine Sp.w_sl ?_
  | with_reducible refine Sp.w_nopart ?_
  | with_reducible refine Sp.w_part ?_
  | with_reducible refine Sp.w_exI ?_
  | with_reducible refine Sp.w_ex ?_
  | with_reducible refine Sp.w_un ?_
  | with_reducible refine Sp.w_rU ?_
  | with_reducible refine Sp.w_chain ?_
  | with_reducible refine Sp.w_andV ?_
  | with_reducible refine Sp.w_orV ?_
  | with_reducible refine Sp.w_notV ?_
  | with_reducible refine Sp.w_test ?_
  | with_reducible refine Sp.w_B ?_
  | with_reducible refine Sp.w_and ?_
  | with_reducible refine Sp.w_or ?_
  | with_reducible refine Sp.w_not ?_
  | with_reducible refine Sp.w_if ?_
  | with_reducible refine Sp.w_ifE ?_
  | with_reducible refine Sp.w_drop ?_
  | with_reducible refine Sp.w_ret ?_
  | with_reducible refine Sp.w_retN ?_
  | with_reducible refine Sp.w_next ?_
  | with_reducible refine Sp.w_max2 ?_
  | with_reducible refine Sp.w_min2 ?_
  | with_reducible refine Sp.w_asgG ?_
  | ((with_reducible refine' Sp.w_gTup ?k1 ?k2 ?_); (case k1 => walk_at "seq"); (case k2 => exact rfl))
  | with_reducible refine Sp.w_gCons ?_
  | with_reducible refine Sp.w_gNil ?_
  | with_reducible refine Sp.w_gName ?_
  | ((with_reducible refine' Sp.w_rTy6 ?k1 ?_); (case k1 => first | exact .int _ | exact .bl _ | exact .str _ | exact .non | exact .tup (by walk_at "seq") | exact .lst (by walk_at "seq")))
  | ((with_reducible refine' Sp.w_rEqTy ?k1 ?k2 ?_); (case k1 => decide); (case k2 => decide))
  | ((with_reducible refine' Sp.w_iteT ?k1 ?_); (case k1 => decide))
  | ((with_reducible refine' Sp.w_iteF ?k1 ?_); (case k1 => decide))
  | with_reducible refine Sp.w_for ?_
  | with_reducible refine Sp.w_iList ?_
  | with_reducible refine Sp.w_iTup ?_
  | ((with_reducible refine' Sp.w_iL ?k1 ?_); (case k1 => walk_at "seq"))
  | ((with_reducible refine' Sp.w_iT ?k1 ?_); (case k1 => walk_at "seq"))
  | fail "wp1")
-- an if that the facts decide
local macro_rules | `(tactic| walk_at "yes") => `(tactic| (refine Sp.w_iteT ?_ ?_; focus (first | (simp only [Bool.not_eq_true', Bool.not_eq_false', Bool.and_eq_true, Bool.or_eq_true, decide_eq_true_eq, decide_eq_false_iff_not, Bool.not_true, Bool.not_false]; omega) | simp_all)))
local macro_rules | `(tactic| walk_at "no") => `(tactic| (refine Sp.w_iteF ?_ ?_; focus (first | (simp only [Bool.not_eq_true', Bool.not_eq_false', Bool.and_eq_true, Bool.or_eq_true, decide_eq_true_eq, decide_eq_false_iff_not, Bool.not_true, Bool.not_false]; omega) | simp_all)))
local macro_rules | `(tactic| walk_at "wp") => `(tactic| repeat walk_at "wp1")
-- a tuple, a list as it stands now, by what is known of it before
local macro_rules | `(tactic| walk_at "seq") => `(tactic| first
  | (with_reducible assumption)
  | with_reducible exact L2.SqT.of (by with_reducible assumption)
  | with_reducible exact L2.SqL.of (by with_reducible assumption)
  | ((with_reducible refine' Sp.same_t ?k1 ?k2); (case k1 => with_reducible assumption); (case k2 => walk_at "seq"))
  | ((with_reducible refine' L2.Same.seq ?k1 ?k2); (case k1 => with_reducible assumption); (case k2 => walk_at "seq")))
local macro_rules | `(tactic| walk_at "at") => `(tactic| first
  | (with_reducible assumption)
  | ((with_reducible refine' Sp.same_at ?k1 ?k2); (case k1 => with_reducible assumption); (case k2 => walk_at "at")))
local macro_rules | `(tactic| walk_at "ix") => `(tactic| first | with_reducible exact Sp.atI0 | with_reducible exact Sp.atI1 | with_reducible exact Sp.atI2 | with_reducible exact Sp.atI3 | (with_reducible assumption))
local macro_rules | `(tactic| walk_at "wp0") => `(tactic| ((try dsimp only [L2.cxOf, L2.Cx.nox, L2.Cx.wish]); walk_at "wp"))

namespace Sp
open PySem L2
def topS (i : Nat) : Stmt := PySem.Challenge.pw_spanforest_k01_two_meet.main.body.getD i (.Pass ⟨0, 0, 0, 0⟩)
/-- what the module's names hold -/
structure Txt (K : PySem.W.Frag) (mg : Str → Option Value) (tB : Tok) : Prop where
  g_BEYOND : mg "_BEYOND" = some (.int 1000000000000000000000000000000000000000000000000000000000000 tB)
  z_type : mg "type" = none
  z_int : mg "int" = none
  z_min : mg "min" = none
  z_max : mg "max" = none
  z_isinstance : mg "isinstance" = none
  z_bool : mg "bool" = none
/-! ### the program's defs -/
def spWhole : L2.Sp := fun vs H Q _ => ∃ i : Int, vs = [.int i] ∧ Q (.bl (decide (-1000000000000000000000000000000000000000000000000000000000000 < i) && decide (i < 1000000000000000000000000000000000000000000000000000000000000))) H
def spEnds : L2.Sp := fun vs H Q _ => ∃ l h : Int, vs = [.int l, .int h] ∧ (-1000000000000000000000000000000000000000000000000000000000000 < l ∧ l < 1000000000000000000000000000000000000000000000000000000000000) ∧ (-1000000000000000000000000000000000000000000000000000000000000 < h ∧ h < 1000000000000000000000000000000000000000000000000000000000000) ∧ l ≤ h ∧ Q .non H
def spStretch : L2.Sp := fun vs H Q _ => ∃ l h m : Int, vs = [.int l, .int h, .int m] ∧ (-1000000000000000000000000000000000000000000000000000000000000 < l ∧ l < 1000000000000000000000000000000000000000000000000000000000000) ∧ (-1000000000000000000000000000000000000000000000000000000000000 < h ∧ h < 1000000000000000000000000000000000000000000000000000000000000) ∧ l ≤ h ∧ (-1000000000000000000000000000000000000000000000000000000000000 < m ∧ m < 1000000000000000000000000000000000000000000000000000000000000) ∧
  ∀ p H1, Same H H1 → H1 p = some (.tup [.int l, .int h, .int m]) → Q (.ref p) H1
/-- a stretch of point 1 -/
def Okay (l h m : Int) : Prop := (-1000000000000000000000000000000000000000000000000000000000000 < l ∧ l < 1000000000000000000000000000000000000000000000000000000000000) ∧ (-1000000000000000000000000000000000000000000000000000000000000 < h ∧ h < 1000000000000000000000000000000000000000000000000000000000000) ∧ l ≤ h ∧ (-1000000000000000000000000000000000000000000000000000000000000 < m ∧ m < 1000000000000000000000000000000000000000000000000000000000000)
def spMeet (K : PySem.W.Frag) : L2.Sp := fun vs H Q _ => ∃ (p q : Addr) (l h m l' h' m' : Int), vs = [.ref p, .ref q] ∧ SqT K H p [.int l, .int h, .int m] ∧ SqT K H q [.int l', .int h', .int m'] ∧ Okay l h m ∧ Okay l' h' m' ∧
  ∀ H1, Same H H1 → Q (.bl (decide (l ≤ h') && decide (l' ≤ h))) H1
section
variable {P : Program} {w : World} {K : PySem.W.Frag} {mg : Str → Option Value} {base : Heap} {tB : Tok}
abbrev s_is_whole : Stmt := topS 5
abbrev N_is_whole : List Str := ["value"]
abbrev p_is_whole : List Str := ["value"]
theorem sc_is_whole : FnScope N_is_whole p_is_whole (defScope s_is_whole) := ⟨rfl, rfl, rfl, by decide +kernel, rfl, by decide +kernel, by decide +kernel⟩

theorem ok_is_whole {f : Addr} {fd : FuncData} (F : Fun K "is_whole" "is_whole" s_is_whole f fd) (T : Txt K mg tB) : FnOk P w K mg base CX0 1 f fd p_is_whole spWhole := by
  refine F.ok sc_is_whole (fun vs H Q E h => ?_) (fun cdv A outer s H vs Q E hr h => ?_)
  · obtain ⟨i, rfl, _⟩ := h
    rfl
  · obtain ⟨i, rfl, k⟩ := h
    refine ⟨_, (pss_one (ps_ret (pe_and (pe_cmpR op_eqTy (pe_callTy call_type6 (by rfl) T.z_type (by decide +kernel) (pa_cons (pv 0) pa_nil)) (pe_bltn (v := .ty "int") (by rfl) T.z_int (by decide +kernel) rfl) (nomark _)) (pe_one (pe_chain op_lt op_lt (pe_un un_neg (pe_glob (v := .int 1000000000000000000000000000000000000000000000000000000000000) rfl T.g_BEYOND ⟨_, rfl⟩)) (pv 0) (pe_glob (v := .int 1000000000000000000000000000000000000000000000000000000000000) rfl T.g_BEYOND ⟨_, rfl⟩)))))), ?_⟩
    walk_at "wp0"
    refine w_ite (fun h => ?_) (fun h => ?_)
    · walk_at "wp"
      rw [h, Bool.true_and] at k
      exact k
    · rw [h, Bool.false_and] at k
      exact k
abbrev s_check_ends : Stmt := topS 6
abbrev N_check_ends : List Str := ["low", "high"]
abbrev p_check_ends : List Str := ["low", "high"]
theorem sc_check_ends : FnScope N_check_ends p_check_ends (defScope s_check_ends) := ⟨rfl, rfl, rfl, by decide +kernel, rfl, by decide +kernel, by decide +kernel⟩

theorem ok_check_ends {f f1 : Addr} {fd fd1 : FuncData} (F : Fun K "check_ends" "check_ends" s_check_ends f fd) (T : Txt K mg tB) (o_is_whole : Own P w K mg base CX0 1 "is_whole" f1 fd1 p_is_whole spWhole) : FnOk P w K mg base CX0 2 f fd p_check_ends spEnds := by
  refine F.ok sc_check_ends (fun vs H Q E h => ?_) (fun cdv A outer s H vs Q E hr h => ?_)
  · obtain ⟨l, h, rfl, _⟩ := h
    rfl
  · obtain ⟨l, h, rfl, ⟨l0, l1⟩, ⟨h0, h1⟩, lh, k⟩ := h
    refine ⟨_, (pss_cons (ps_if (pt_not (pt_val (pe_call o_is_whole.ok (hr.mono (by decide)) (by rfl) o_is_whole.gl o_is_whole.kp o_is_whole.b .nil pass0 (pa_cons (pv 0) pa_nil)))) (pss_one ps_never) pss_nil)
    (pss_cons (ps_if (pt_not (pt_val (pe_call o_is_whole.ok (hr.mono (by decide)) (by rfl) o_is_whole.gl o_is_whole.kp o_is_whole.b .nil pass0 (pa_cons (pv 1) pa_nil)))) (pss_one ps_never) pss_nil)
    (pss_one (ps_if (pt_cmpR op_gt (pv 0) (pv 1) (nomark _)) (pss_one ps_never) pss_nil)))), ?_⟩
    walk_at "wp0"
    refine ⟨l, rfl, ?_⟩
    walk_at "wp"
    walk_at "no"
    walk_at "wp"
    refine ⟨h, rfl, ?_⟩
    walk_at "wp"
    walk_at "no"
    walk_at "wp"
    walk_at "no"
    exact k
abbrev s_stretch_of : Stmt := topS 7
abbrev N_stretch_of : List Str := ["low", "high", "mark"]
abbrev p_stretch_of : List Str := ["low", "high", "mark"]
theorem sc_stretch_of : FnScope N_stretch_of p_stretch_of (defScope s_stretch_of) := ⟨rfl, rfl, rfl, by decide +kernel, rfl, by decide +kernel, by decide +kernel⟩

theorem ok_stretch_of {f f1 f2 : Addr} {fd fd1 fd2 : FuncData} (F : Fun K "stretch_of" "stretch_of" s_stretch_of f fd) (T : Txt K mg tB) (o_is_whole : Own P w K mg base CX0 1 "is_whole" f1 fd1 p_is_whole spWhole)
    (o_check_ends : Own P w K mg base CX0 2 "check_ends" f2 fd2 p_check_ends spEnds) : FnOk P w K mg base CX0 3 f fd p_stretch_of spStretch := by
  refine F.ok sc_stretch_of (fun vs H Q E h => ?_) (fun cdv A outer s H vs Q E hr h => ?_)
  · obtain ⟨l, h, m, rfl, _⟩ := h
    rfl
  · obtain ⟨l, h, m, rfl, hl, hh, lh, ⟨m0, m1⟩, k⟩ := h
    refine ⟨_, (pss_cons (ps_expr (pe_call o_check_ends.ok (hr.mono (by decide)) (by rfl) o_check_ends.gl o_check_ends.kp o_check_ends.b .nil pass0 (pa_cons (pv 0) (pa_cons (pv 1) pa_nil))))
    (pss_cons (ps_if (pt_not (pt_val (pe_call o_is_whole.ok (hr.mono (by decide)) (by rfl) o_is_whole.gl o_is_whole.kp o_is_whole.b .nil pass0 (pa_cons (pv 2) pa_nil)))) (pss_one ps_never) pss_nil)
    (pss_one (ps_ret (pe_tup (pa_cons (pv 0) (pa_cons (pv 1) (pa_cons (pv 2) pa_nil)))))))), ?_⟩
    walk_at "wp0"
    refine ⟨l, h, rfl, hl, hh, lh, ?_⟩
    walk_at "wp"
    refine ⟨m, rfl, ?_⟩
    walk_at "wp"
    walk_at "no"
    walk_at "wp"
    intro p H1 n e hp
    exact k p H1 e hp
abbrev s_meet : Stmt := topS 8
abbrev N_meet : List Str := ["one", "other", "one_low", "one_high", "one_mark", "other_low", "other_high", "other_mark"]
abbrev p_meet : List Str := ["one", "other"]
theorem sc_meet : FnScope N_meet p_meet (defScope s_meet) := ⟨rfl, rfl, rfl, by decide +kernel, rfl, by decide +kernel, by decide +kernel⟩

theorem ok_meet {f f1 : Addr} {fd fd1 : FuncData} (F : Fun K "meet" "meet" s_meet f fd) (T : Txt K mg tB) (o_stretch_of : Own P w K mg base CX0 3 "stretch_of" f1 fd1 p_stretch_of spStretch) : FnOk P w K mg base CX0 4 f fd p_meet (spMeet K) := by
  refine F.ok sc_meet (fun vs H Q E h => ?_) (fun cdv A outer s H vs Q E hr h => ?_)
  · obtain ⟨p, q, l, h, m, l', h', m', rfl, _⟩ := h
    rfl
  · obtain ⟨p, q, l, h, m, l', h', m', rfl, hp, hq, ⟨a1, a2, a3, a4⟩, ⟨b1, b2, b3, b4⟩, k⟩ := h
    refine ⟨_, (pss_cons (ps_asg (pv 0) (pg_tup (by rfl) (pgs_cons (pg_name (i := 2) sc_meet.nd rfl (.inl rfl)) (pgs_cons (pg_name (i := 3) sc_meet.nd rfl (.inl rfl)) (pgs_cons (pg_name (i := 4) sc_meet.nd rfl (.inl rfl)) pgs_nil)))))
    (pss_cons (ps_asg (pv 1) (pg_tup (by rfl) (pgs_cons (pg_name (i := 5) sc_meet.nd rfl (.inl rfl)) (pgs_cons (pg_name (i := 6) sc_meet.nd rfl (.inl rfl)) (pgs_cons (pg_name (i := 7) sc_meet.nd rfl (.inl rfl)) pgs_nil)))))
    (pss_cons (ps_expr (pe_call o_stretch_of.ok (hr.mono (by decide)) (by rfl) o_stretch_of.gl o_stretch_of.kp o_stretch_of.b .nil pass0 (pa_cons (pv 2) (pa_cons (pv 3) (pa_cons (pv 4) pa_nil)))))
    (pss_cons (ps_expr (pe_call o_stretch_of.ok (hr.mono (by decide)) (by rfl) o_stretch_of.gl o_stretch_of.kp o_stretch_of.b .nil pass0 (pa_cons (pv 5) (pa_cons (pv 6) (pa_cons (pv 7) pa_nil)))))
    (pss_one (ps_ret (pe_and (pe_cmpR op_le (pv 2) (pv 6) (nomark _)) (pe_one (pe_cmpR op_le (pv 5) (pv 3) (nomark _)))))))))), ?_⟩
    walk_at "wp0"
    refine ⟨l, h, m, rfl, a1, a2, a3, a4, fun r1 H1 e1 _ => ?_⟩
    walk_at "wp"
    refine ⟨l', h', m', rfl, b1, b2, b3, b4, fun r2 H2 e2 _ => ?_⟩
    walk_at "wp"
    have k := k H2 (e1.trans e2)
    refine w_ite (fun h => ?_) (fun h => ?_)
    · walk_at "wp"
      rw [h, Bool.true_and] at k
      exact k
    · rw [h, Bool.false_and] at k
      exact k
/-! ### the law's own defs -/
def spAt (K : PySem.W.Frag) : L2.Sp := fun vs H Q _ => ∃ (a : Addr) (ns : List Int) (j : Nat), vs = [.ref a, .int (j : Int)] ∧ SqL K H a (ns.map V.int) ∧ ns.length ≤ 63 ∧ ∀ H1, Same H H1 → Q (.int (ns.getD j 0)) H1
abbrev s_law_at : Stmt := topS 10
abbrev N_law_at : List Str := ["_law_script", "_law_place"]
abbrev p_law_at : List Str := ["_law_script", "_law_place"]
theorem sc_law_at : FnScope N_law_at p_law_at (defScope s_law_at) := ⟨rfl, rfl, rfl, by decide +kernel, rfl, by decide +kernel, by decide +kernel⟩

theorem ok_law_at {f : Addr} {fd : FuncData} (F : Fun K "_law_at" "_law_at" s_law_at f fd) (T : Txt K mg tB) : FnOk P w K mg base CX0 1 f fd p_law_at (spAt K) := by
  refine F.ok sc_law_at (fun vs H Q E h => ?_) (fun cdv A outer s H vs Q E hr h => ?_)
  · obtain ⟨a, ns, j, rfl, _⟩ := h
    rfl
  · obtain ⟨a, ns, j, rfl, hS, hl, k⟩ := h
    refine ⟨_, (pss_one (ps_ret (pe_ix ix_list (pe_op op_cat (pe_slice sl_list (pv 0) (po_some (pv 1)) (po_some (pe_op op_add (pv 1) pe_int))) (pe_lst (pa_cons pe_int pa_nil))) pe_int (fun _ _ => rfl)))), ?_⟩
    walk_at "wp0"
    intro l1 H1 n1 e1 h1
    walk_at "wp"
    intro l2 H2 n2 e2 h2
    have hl1 : H2 l1 = _ := e2 _ _ h1
    refine w_rCat hl1 h2 ?_ ?_
    · have := cutV_length (ns.map V.int) (some (j : Int)) (some ((j : Int) + 1))
      rw [List.length_map] at this
      show _ + 1 ≤ sizeLine
      exact Nat.le_trans (show _ ≤ 64 by omega) (by decide)
    intro l3 H3 n3 e3 h3
    walk_at "wp"
    obtain ⟨rest, er⟩ := cell_at ns j
    rw [er] at h3
    refine w_ixL (SqL.of h3) (atI_nat (j := 0) rfl) ?_
    exact k H3 ((e1.trans e2).trans e3)
/-- the law's stretch of a seed -/
def mLow (n : Int) : Int := if n % 4 = 3 then n / 4 * 160042582622774077931272282638733506491753459577065720641 % (2 * 1000000000000000000000000000000000000000000000000000000000000 - 1) - (1000000000000000000000000000000000000000000000000000000000000 - 1) else n / 4 % 61 - 30
def mWid (n : Int) : Int := if n / 3904 % 8 = 1 then n / 4 * 12968301046749891878822577019301343841127466270386200925841 % 1000000000000000000000000000000000000000000000000000000000000 else n / 244 % 16
def mMark (n : Int) : Int := if n / 218624 % 8 = 1 then n / 4 * 143503601609868434285603076356671071740077383739246066639249 % (2 * 1000000000000000000000000000000000000000000000000000000000000 - 1) - (1000000000000000000000000000000000000000000000000000000000000 - 1) else n / 31232 % 7 - 3
def mHigh (n : Int) : Int := min (mLow n + mWid n) (1000000000000000000000000000000000000000000000000000000000000 - 1)
theorem made_okay (n : Int) : Okay (mLow n) (mHigh n) (mMark n) := by
  unfold Okay mHigh mLow mWid mMark
  generalize n / 4 * 160042582622774077931272282638733506491753459577065720641 = x
  generalize n / 4 * 12968301046749891878822577019301343841127466270386200925841 = y
  generalize n / 4 * 143503601609868434285603076356671071740077383739246066639249 = z
  refine ⟨?_, ?_, ?_, ?_⟩ <;> (repeat' split) <;> omega
def spMade : L2.Sp := fun vs H Q _ => ∃ (n : Int), vs = [.int n] ∧ BW 2000000 n ∧ ∀ p H1, Same H H1 → H1 p = some (.tup [.int (mLow n), .int (mHigh n), .int (mMark n)]) → Q (.ref p) H1
abbrev s_law_made : Stmt := topS 11
abbrev N_law_made : List Str := ["_law_seed", "_law_low", "_law_width", "_law_mark"]
abbrev p_law_made : List Str := ["_law_seed"]
theorem sc_law_made : FnScope N_law_made p_law_made (defScope s_law_made) := ⟨rfl, rfl, rfl, by decide +kernel, rfl, by decide +kernel, by decide +kernel⟩

theorem ok_law_made {f : Addr} {fd : FuncData} (F : Fun K "_law_made" "_law_made" s_law_made f fd) (T : Txt K mg tB) : FnOk P w K mg base CX0 1 f fd p_law_made spMade := by
  refine F.ok sc_law_made (fun vs H Q E h => ?_) (fun cdv A outer s H vs Q E hr h => ?_)
  · obtain ⟨n, rfl, _⟩ := h
    rfl
  · obtain ⟨n, rfl, hb, k⟩ := h
    have m1 : MulOk (n / 4) 160042582622774077931272282638733506491753459577065720641 := (hb.div (by decide)).ok (b := 200) (BW.of (by decide +kernel)) (by decide)
    have m2 : MulOk (n / 4) 12968301046749891878822577019301343841127466270386200925841 := (hb.div (by decide)).ok (b := 200) (BW.of (by decide +kernel)) (by decide)
    have m3 : MulOk (n / 4) 143503601609868434285603076356671071740077383739246066639249 := (hb.div (by decide)).ok (b := 200) (BW.of (by decide +kernel)) (by decide)
    have m4 : MulOk 2 1000000000000000000000000000000000000000000000000000000000000 := BW.ok (a := 10) (b := 250) (BW.of (by decide +kernel)) (BW.of (by decide +kernel)) (by decide)
    refine ⟨_, (pss_cons (ps_set (i := 1) sc_law_made.nd rfl (Or.inl rfl) (pe_op op_sub (pe_op op_mod (pe_op op_fdiv (pv 0) pe_int) pe_int) pe_int))
    (pss_cons (ps_if (pt_cmpR op_eq (pe_op op_mod (pv 0) pe_int) pe_int (nomark _)) (pss_one (ps_set (i := 1) sc_law_made.nd rfl (Or.inl rfl) (pe_op op_sub (pe_op op_mod (pe_op op_mulX (pe_op op_fdiv (pv 0) pe_int) (pe_op op_pow pe_int pe_int)) (pe_op op_sub (pe_op op_mulX pe_int (pe_op op_pow pe_int pe_int)) pe_int)) (pe_op op_sub (pe_op op_pow pe_int pe_int) pe_int)))) pss_nil)
    (pss_cons (ps_set (i := 2) sc_law_made.nd rfl (Or.inl rfl) (pe_op op_mod (pe_op op_fdiv (pv 0) pe_int) pe_int))
    (pss_cons (ps_if (pt_cmpR op_eq (pe_op op_mod (pe_op op_fdiv (pv 0) pe_int) pe_int) pe_int (nomark _)) (pss_one (ps_set (i := 2) sc_law_made.nd rfl (Or.inl rfl) (pe_op op_mod (pe_op op_mulX (pe_op op_fdiv (pv 0) pe_int) (pe_op op_pow pe_int pe_int)) (pe_op op_pow pe_int pe_int)))) pss_nil)
    (pss_cons (ps_set (i := 3) sc_law_made.nd rfl (Or.inl rfl) (pe_op op_sub (pe_op op_mod (pe_op op_fdiv (pv 0) pe_int) pe_int) pe_int))
    (pss_cons (ps_if (pt_cmpR op_eq (pe_op op_mod (pe_op op_fdiv (pv 0) pe_int) pe_int) pe_int (nomark _)) (pss_one (ps_set (i := 3) sc_law_made.nd rfl (Or.inl rfl) (pe_op op_sub (pe_op op_mod (pe_op op_mulX (pe_op op_fdiv (pv 0) pe_int) (pe_op op_pow pe_int pe_int)) (pe_op op_sub (pe_op op_mulX pe_int (pe_op op_pow pe_int pe_int)) pe_int)) (pe_op op_sub (pe_op op_pow pe_int pe_int) pe_int)))) pss_nil)
    (pss_one (ps_ret (pe_tup (pa_cons (pv 1) (pa_cons (pe_callB (c_min2 rfl) (by rfl) T.z_min (by decide +kernel) (pa_cons (pe_op op_add (pv 1) (pv 2)) (pa_cons (pe_op op_sub (pe_op op_pow pe_int pe_int) pe_int) pa_nil))) (pa_cons (pv 3) pa_nil)))))))))))), ?_⟩
    walk_at "wp0"
    refine w_ifI (b := n / 4 % 61 - 30) rfl (fun hc Q q => by walk_at "wp"; exact q) ?_
    walk_at "wp"
    refine w_ifI (b := n / 244 % 16) rfl (fun hc Q q => by walk_at "wp"; exact q) ?_
    walk_at "wp"
    refine w_ifI (b := n / 31232 % 7 - 3) rfl (fun hc Q q => by walk_at "wp"; exact q) ?_
    walk_at "wp"
    intro p H1 n1 e1 h1
    exact k p H1 e1 h1
/-! ### the law -/
theorem isi_bool {H : Hp} (b : Bool) {Q : VK} (q : Q (.bl true) H) : rIsi K [.bl b, .ty "bool"] H Q := w_isi (.base (.bl b)) (kit_ty (by decide +kernel)) q
def spLaw (K : PySem.W.Frag) : L2.Sp := fun vs H Q _ => ∃ (a : Addr) (ns : List Int), vs = [.ref a] ∧ SqL K H a (ns.map V.int) ∧ ns.length ≤ 63 ∧ (∀ z ∈ ns, Builtin.Int.intBits z ≤ 1048576) ∧ ∀ H', Q (.bl true) H'
abbrev s_law : Stmt := topS 12
abbrev N_law : List Str := ["_law_script", "_law_one", "_law_other", "_law_low", "_law_due", "_law_found"]
abbrev p_law : List Str := ["_law_script"]
theorem sc_law : FnScope N_law p_law (defScope s_law) := ⟨rfl, rfl, rfl, by decide +kernel, rfl, by decide +kernel, by decide +kernel⟩

theorem cell_bits {ns : List Int} (h : ∀ z ∈ ns, Builtin.Int.intBits z ≤ 1048576) (j : Nat) : BW 1048576 (ns.getD j 0) := by
  rw [List.getD_eq_getElem?_getD]
  cases e : ns[j]? with
  | none => exact BW.of (by decide)
  | some z => exact BW.of (h z (List.mem_of_getElem? e))
theorem okay_next {h1 x m2 l2 h2 : Int} (c2 : 0 - 100000000000000000000000000000000000000000000000000000000000 < h1) (c3 : h1 < 100000000000000000000000000000000000000000000000000000000000) (ok : Okay l2 h2 m2) :
    Okay (h1 + x / 3 % 3 - 1) (h1 + x / 3 % 3 - 1 + x / 9 % 5) m2 := by
  obtain ⟨_, _, _, hm⟩ := ok
  have e1 : 0 ≤ x / 3 % 3 ∧ x / 3 % 3 < 3 := ⟨Int.emod_nonneg _ (by decide), Int.emod_lt_of_pos _ (by decide)⟩
  have e2 : 0 ≤ x / 9 % 5 ∧ x / 9 % 5 < 5 := ⟨Int.emod_nonneg _ (by decide), Int.emod_lt_of_pos _ (by decide)⟩
  generalize x / 3 % 3 = y at *
  generalize x / 9 % 5 = z at *
  refine ⟨⟨?_, ?_⟩, ⟨?_, ?_⟩, ?_, hm⟩ <;> omega
theorem due_is {l1 h1 m1 l2 h2 : Int} (ok1 : Okay l1 h1 m1) (lh : l2 ≤ h2) : (decide (l1 ≤ h2) && decide (l2 ≤ h1)) = decide (max l1 l2 ≤ min h1 h2) ∧ (decide (l2 ≤ h1) && decide (l1 ≤ h2)) = decide (max l1 l2 ≤ min h1 h2) := by
  obtain ⟨_, _, lh1, _⟩ := ok1
  by_cases c1 : l1 ≤ h2 <;> by_cases c2 : l2 ≤ h1 <;> by_cases c3 : max l1 l2 ≤ min h1 h2 <;> simp only [c1, c2, c3, decide_true, decide_false, Bool.and_true, Bool.and_false] <;> simp <;> omega
theorem seed_bits {x c d : Int} (h : BW 1048576 x) (hc : BW 100 c) (hd : BW 1000000 d) : BW 2000000 (x * c + d) := ((h.mul hc).mono (M := 1999999) (by decide)).add (hd.mono (by decide))
theorem ok_law {f f1 f2 f3 : Addr} {fd fd1 fd2 fd3 : FuncData} (F : Fun K "law" "law" s_law f fd) (T : Txt K mg tB) (o_law_at : Own P w K mg base CX0 1 "_law_at" f1 fd1 p_law_at (spAt K)) (o_law_made : Own P w K mg base CX0 1 "_law_made" f2 fd2 p_law_made spMade)
    (o_meet : Own P w K mg base CX0 4 "meet" f3 fd3 p_meet (spMeet K)) : FnOk P w K mg base CX0 5 f fd p_law (spLaw K) := by
  refine F.ok sc_law (fun vs H Q E h => ?_) (fun cdv A outer s H vs Q E hr h => ?_)
  · obtain ⟨a, ns, rfl, _⟩ := h
    rfl
  · obtain ⟨a, ns, rfl, hS, hl, hB, k⟩ := h
    have i0 : MulOk (ns.getD 0 0) 48271 := (cell_bits hB 0).ok (b := 64) (BW.of (by decide +kernel)) (by decide)
    have i1 : MulOk (ns.getD 1 0) 48271 := (cell_bits hB 1).ok (b := 64) (BW.of (by decide +kernel)) (by decide)
    refine ⟨_, (pss_cons (ps_set (i := 1) sc_law.nd rfl (Or.inl rfl) (pe_call o_law_made.ok (hr.mono (by decide)) (by rfl) o_law_made.gl o_law_made.kp o_law_made.b .nil pass0 (pa_cons (pe_op op_add (pe_op op_mulX (pe_call o_law_at.ok (hr.mono (by decide)) (by rfl) o_law_at.gl o_law_at.kp o_law_at.b .nil pass0 (pa_cons (pv 0) (pa_cons pe_int pa_nil))) pe_int) pe_int) pa_nil)))
    (pss_cons (ps_set (i := 2) sc_law.nd rfl (Or.inl rfl) (pe_call o_law_made.ok (hr.mono (by decide)) (by rfl) o_law_made.gl o_law_made.kp o_law_made.b .nil pass0 (pa_cons (pe_op op_add (pe_op op_mulX (pe_call o_law_at.ok (hr.mono (by decide)) (by rfl) o_law_at.gl o_law_at.kp o_law_at.b .nil pass0 (pa_cons (pv 0) (pa_cons pe_int pa_nil))) pe_int) pe_int) pa_nil)))
    (pss_cons (ps_if (PW.pt (pw_and (pt_cmpR op_eq (pe_op op_mod (pe_call o_law_at.ok (hr.mono (by decide)) (by rfl) o_law_at.gl o_law_at.kp o_law_at.b .nil pass0 (pa_cons (pv 0) (pa_cons pe_int pa_nil))) pe_int) pe_int (nomark _)) (pw_and1 (pt_chain op_lt op_lt (pe_op op_sub pe_int (pe_op op_pow pe_int pe_int)) (pe_ix ix_tup (pv 1) pe_int (fun _ _ => rfl)) (pe_op op_pow pe_int pe_int))))) (pss_cons (ps_set (i := 3) sc_law.nd rfl (Or.inl rfl) (pe_op op_sub (pe_op op_add (pe_ix ix_tup (pv 1) pe_int (fun _ _ => rfl)) (pe_op op_mod (pe_op op_fdiv (pe_call o_law_at.ok (hr.mono (by decide)) (by rfl) o_law_at.gl o_law_at.kp o_law_at.b .nil pass0 (pa_cons (pv 0) (pa_cons pe_int pa_nil))) pe_int) pe_int)) pe_int))
      (pss_one (ps_set (i := 2) sc_law.nd rfl (Or.inl rfl) (pe_tup (pa_cons (pv 3) (pa_cons (pe_op op_add (pv 3) (pe_op op_mod (pe_op op_fdiv (pe_call o_law_at.ok (hr.mono (by decide)) (by rfl) o_law_at.gl o_law_at.kp o_law_at.b .nil pass0 (pa_cons (pv 0) (pa_cons pe_int pa_nil))) pe_int) pe_int)) (pa_cons (pe_ix ix_tup (pv 2) pe_int (fun _ _ => rfl)) pa_nil))))))) pss_nil)
    (pss_cons (ps_set (i := 4) sc_law.nd rfl (Or.inl rfl) (pe_cmpR op_le (pe_callB (c_max2 rfl) (by rfl) T.z_max (by decide +kernel) (pa_cons (pe_ix ix_tup (pv 1) pe_int (fun _ _ => rfl)) (pa_cons (pe_ix ix_tup (pv 2) pe_int (fun _ _ => rfl)) pa_nil))) (pe_callB (c_min2 rfl) (by rfl) T.z_min (by decide +kernel) (pa_cons (pe_ix ix_tup (pv 1) pe_int (fun _ _ => rfl)) (pa_cons (pe_ix ix_tup (pv 2) pe_int (fun _ _ => rfl)) pa_nil))) (nomark _)))
    (pss_cons (ps_for PassesOwn.never (by rfl) (pi_list (pe_lst (pa_cons (pe_call o_meet.ok (hr.mono (by decide)) (by rfl) o_meet.gl o_meet.kp o_meet.b .nil pass0 (pa_cons (pv 1) (pa_cons (pv 2) pa_nil))) (pa_cons (pe_call o_meet.ok (hr.mono (by decide)) (by rfl) o_meet.gl o_meet.kp o_meet.b .nil pass0 (pa_cons (pv 2) (pa_cons (pv 1) pa_nil))) pa_nil)))) (pg_name (i := 5) sc_law.nd rfl (.inl rfl)) (pss_one (ps_if (PW.pt (pw_or (pt_not (pt_val (pe_callB call_isi (by rfl) T.z_isinstance (by decide +kernel) (pa_cons (pv 5) (pa_cons (pe_bltn (v := .ty "bool") (by rfl) T.z_bool (by decide +kernel) rfl) pa_nil))))) (pw_or1 (pt_cmpR op_ne (pv 5) (pv 4) (nomark _))))) (pss_one (ps_ret pe_bl)) pss_nil)))
    (pss_one (ps_ret pe_bl))))))), ?_⟩
    walk_at "wp0"
    refine ⟨a, ns, 0, rfl, hS, hl, fun H1 e1 => ?_⟩
    walk_at "wp"
    refine ⟨_, rfl, seed_bits (cell_bits hB 0) (BW.of (by decide +kernel)) (BW.of (by decide +kernel)), fun p H2 e2 hp => ?_⟩
    walk_at "wp"
    have hS2 := Same.seq e2 (Same.seq e1 hS)
    refine ⟨a, ns, 1, rfl, hS2, hl, fun H3 e3 => ?_⟩
    walk_at "wp"
    refine ⟨_, rfl, seed_bits (cell_bits hB 1) (BW.of (by decide +kernel)) (BW.of (by decide +kernel)), fun q H4 e4 hq => ?_⟩
    walk_at "wp"
    -- what is left behind the if, for any second stretch
    have ok1 := made_okay (ns.getD 0 0 * 48271 + 7)
    have ok2 := made_okay (ns.getD 1 0 * 48271 + 11)
    generalize mLow (ns.getD 0 0 * 48271 + 7) = l1 at *
    generalize mHigh (ns.getD 0 0 * 48271 + 7) = h1 at *
    generalize mMark (ns.getD 0 0 * 48271 + 7) = m1 at *
    generalize mLow (ns.getD 1 0 * 48271 + 11) = l2 at *
    generalize mHigh (ns.getD 1 0 * 48271 + 11) = h2 at *
    generalize mMark (ns.getD 1 0 * 48271 + 11) = m2 at *
    have hp4 : H4 p = some (.tup [.int l1, .int h1, .int m1]) := e4 _ _ (e3 _ _ hp)
    have hS4 := Same.seq e4 (Same.seq e3 hS2)
    refine ⟨a, ns, 2, rfl, hS4, hl, fun H5 e5 => ?_⟩
    walk_at "wp"
    have hp5 := e5 _ _ hp4
    refine w_ite (fun c1 => ?_) (fun c1 => ?_)
    · walk_at "wp"
      refine w_ite (fun c2 => ?_) (fun c2 => ?_)
      · walk_at "wp"
        refine w_ite (fun c3 => ?_) (fun c3 => ?_)
        · walk_at "wp"
          refine ⟨a, ns, 2, rfl, by walk_at "seq", hl, fun H6 e6 => ?_⟩
          walk_at "wp"
          refine ⟨a, ns, 2, rfl, by walk_at "seq", hl, fun H7 e7 => ?_⟩
          walk_at "wp"
          intro q' H8 n8 e8 hq8
          have c2 := of_decide_eq_true c2
          have c3 := of_decide_eq_true c3
          have ok3 := okay_next (x := ns.getD 2 0) c2 c3 ok2
          walk_at "wp"
          refine ⟨p, q', l1, h1, m1, (h1 + ns.getD 2 0 / 3 % 3 - 1), (h1 + ns.getD 2 0 / 3 % 3 - 1 + ns.getD 2 0 / 9 % 5), m2, rfl, by walk_at "seq", by walk_at "seq", ok1, ok3, fun G1 f1 => ?_⟩
          walk_at "wp"
          refine ⟨q', p, (h1 + ns.getD 2 0 / 3 % 3 - 1), (h1 + ns.getD 2 0 / 3 % 3 - 1 + ns.getD 2 0 / 9 % 5), m2, l1, h1, m1, rfl, by walk_at "seq", by walk_at "seq", ok3, ok1, fun G2 f2 => ?_⟩
          walk_at "wp"
          intro r G3 n3 f3 hr3
          have d := due_is ok1 ok3.2.2.1
          rw [d.1, d.2] at hr3
          walk_at "wp"
          refine f_list (a := r) (xs := [V.bl _, V.bl _]) (fun i σ H' => (∃ v3 v5, σ = [some (.ref a), some (.ref p), some (.ref q'), v3, some (.bl (decide (max l1 (h1 + ns.getD 2 0 / 3 % 3 - 1) ≤ min h1 (h1 + ns.getD 2 0 / 3 % 3 - 1 + ns.getD 2 0 / 9 % 5)))), v5]) ∧ H' = G3) ⟨⟨_, _, rfl⟩, rfl⟩ (fun i σ H' _ ⟨_, e⟩ => by rw [e]; exact SqL.of hr3) ?_ ?_
          · rintro i y σ H' hi ⟨⟨v3, v5, rfl⟩, rfl⟩
            have hy : y = .bl (decide (max l1 (h1 + ns.getD 2 0 / 3 % 3 - 1) ≤ min h1 (h1 + ns.getD 2 0 / 3 % 3 - 1 + ns.getD 2 0 / 9 % 5))) := by
              match i, hi with
              | 0, hi => exact (Option.some.inj hi).symm
              | 1, hi => exact (Option.some.inj hi).symm
              | i + 2, hi => simp at hi
            subst hy
            walk_at "wp"
            refine isi_bool _ ?_
            walk_at "wp"
            refine w_iteF (by simp) ?_
            walk_at "wp"
            exact ⟨⟨_, _, rfl⟩, rfl⟩
          · rintro σ H' ⟨⟨v3, v5, rfl⟩, rfl⟩
            walk_at "wp"
            exact k _
        · walk_at "wp"
          refine ⟨p, q, l1, h1, m1, l2, h2, m2, rfl, by walk_at "seq", by walk_at "seq", ok1, ok2, fun G1 f1 => ?_⟩
          walk_at "wp"
          refine ⟨q, p, l2, h2, m2, l1, h1, m1, rfl, by walk_at "seq", by walk_at "seq", ok2, ok1, fun G2 f2 => ?_⟩
          walk_at "wp"
          intro r G3 n3 f3 hr3
          have d := due_is ok1 ok2.2.2.1
          rw [d.1, d.2] at hr3
          walk_at "wp"
          refine f_list (a := r) (xs := [V.bl _, V.bl _]) (fun i σ H' => (∃ v3 v5, σ = [some (.ref a), some (.ref p), some (.ref q), v3, some (.bl (decide (max l1 l2 ≤ min h1 h2))), v5]) ∧ H' = G3) ⟨⟨_, _, rfl⟩, rfl⟩ (fun i σ H' _ ⟨_, e⟩ => by rw [e]; exact SqL.of hr3) ?_ ?_
          · rintro i y σ H' hi ⟨⟨v3, v5, rfl⟩, rfl⟩
            have hy : y = .bl (decide (max l1 l2 ≤ min h1 h2)) := by
              match i, hi with
              | 0, hi => exact (Option.some.inj hi).symm
              | 1, hi => exact (Option.some.inj hi).symm
              | i + 2, hi => simp at hi
            subst hy
            walk_at "wp"
            refine isi_bool _ ?_
            walk_at "wp"
            refine w_iteF (by simp) ?_
            walk_at "wp"
            exact ⟨⟨_, _, rfl⟩, rfl⟩
          · rintro σ H' ⟨⟨v3, v5, rfl⟩, rfl⟩
            walk_at "wp"
            exact k _
      · walk_at "wp"
        refine ⟨p, q, l1, h1, m1, l2, h2, m2, rfl, by walk_at "seq", by walk_at "seq", ok1, ok2, fun G1 f1 => ?_⟩
        walk_at "wp"
        refine ⟨q, p, l2, h2, m2, l1, h1, m1, rfl, by walk_at "seq", by walk_at "seq", ok2, ok1, fun G2 f2 => ?_⟩
        walk_at "wp"
        intro r G3 n3 f3 hr3
        have d := due_is ok1 ok2.2.2.1
        rw [d.1, d.2] at hr3
        walk_at "wp"
        refine f_list (a := r) (xs := [V.bl _, V.bl _]) (fun i σ H' => (∃ v3 v5, σ = [some (.ref a), some (.ref p), some (.ref q), v3, some (.bl (decide (max l1 l2 ≤ min h1 h2))), v5]) ∧ H' = G3) ⟨⟨_, _, rfl⟩, rfl⟩ (fun i σ H' _ ⟨_, e⟩ => by rw [e]; exact SqL.of hr3) ?_ ?_
        · rintro i y σ H' hi ⟨⟨v3, v5, rfl⟩, rfl⟩
          have hy : y = .bl (decide (max l1 l2 ≤ min h1 h2)) := by
            match i, hi with
            | 0, hi => exact (Option.some.inj hi).symm
            | 1, hi => exact (Option.some.inj hi).symm
            | i + 2, hi => simp at hi
          subst hy
          walk_at "wp"
          refine isi_bool _ ?_
          walk_at "wp"
          refine w_iteF (by simp) ?_
          walk_at "wp"
          exact ⟨⟨_, _, rfl⟩, rfl⟩
        · rintro σ H' ⟨⟨v3, v5, rfl⟩, rfl⟩
          walk_at "wp"
          exact k _
    · walk_at "wp"
      refine ⟨p, q, l1, h1, m1, l2, h2, m2, rfl, by walk_at "seq", by walk_at "seq", ok1, ok2, fun G1 f1 => ?_⟩
      walk_at "wp"
      refine ⟨q, p, l2, h2, m2, l1, h1, m1, rfl, by walk_at "seq", by walk_at "seq", ok2, ok1, fun G2 f2 => ?_⟩
      walk_at "wp"
      intro r G3 n3 f3 hr3
      have d := due_is ok1 ok2.2.2.1
      rw [d.1, d.2] at hr3
      walk_at "wp"
      refine f_list (a := r) (xs := [V.bl _, V.bl _]) (fun i σ H' => (∃ v3 v5, σ = [some (.ref a), some (.ref p), some (.ref q), v3, some (.bl (decide (max l1 l2 ≤ min h1 h2))), v5]) ∧ H' = G3) ⟨⟨_, _, rfl⟩, rfl⟩ (fun i σ H' _ ⟨_, e⟩ => by rw [e]; exact SqL.of hr3) ?_ ?_
      · rintro i y σ H' hi ⟨⟨v3, v5, rfl⟩, rfl⟩
        have hy : y = .bl (decide (max l1 l2 ≤ min h1 h2)) := by
          match i, hi with
          | 0, hi => exact (Option.some.inj hi).symm
          | 1, hi => exact (Option.some.inj hi).symm
          | i + 2, hi => simp at hi
        subst hy
        walk_at "wp"
        refine isi_bool _ ?_
        walk_at "wp"
        refine w_iteF (by simp) ?_
        walk_at "wp"
        exact ⟨⟨_, _, rfl⟩, rfl⟩
      · rintro σ H' ⟨⟨v3, v5, rfl⟩, rfl⟩
        walk_at "wp"
        exact k _
end
theorem all_mk {l : PySem.W.OpenLaw} {w : World} {K : PySem.W.Frag} {h : Heap} {mg : Str → Option Value} {fa f0 f1 f2 f3 f4 f5 f6 : Addr} {tB : Tok} {od0 an0 : Option Addr} {sl0 : Array (Option Value)} {oc0 kV0 dc0 pm0 cd0 ct0 : Value} {od1 an1 : Option Addr} {sl1 : Array (Option Value)} {oc1 kV1 dc1 pm1 cd1 ct1 : Value} {od2 an2 : Option Addr} {sl2 : Array (Option Value)} {oc2 kV2 dc2 pm2 cd2 ct2 : Value} {od3 an3 : Option Addr} {sl3 : Array (Option Value)} {oc3 kV3 dc3 pm3 cd3 ct3 : Value} {od4 an4 : Option Addr} {sl4 : Array (Option Value)} {oc4 kV4 dc4 pm4 cd4 ct4 : Value} {od5 an5 : Option Addr} {sl5 : Array (Option Value)} {oc5 kV5 dc5 pm5 cd5 ct5 : Value} {od6 an6 : Option Addr} {sl6 : Array (Option Value)} {oc6 kV6 dc6 pm6 cd6 ct6 : Value} (X : K.In h) (G : h.Ns mainGlobals mg) (hfa : mg "law" = some (.ref fa))
    (a0 : PySem.W.nsIn K mainGlobals "is_whole" = some (some (.ref f0))) (l0 : K.lookup f0 = some ⟨oc0, od0, .func (PySem.W.fnOf "is_whole" "is_whole" (defArgs s_is_whole) (defBody s_is_whole) (defScope s_is_whole) .none kV0 dc0 pm0 an0 cd0 ct0), sl0⟩) (c0 : PySem.W.codeIn K cd0 "is_whole" = true) (k0 : PySem.W.keepIn K (.ref f0) = true)
    (a1 : PySem.W.nsIn K mainGlobals "check_ends" = some (some (.ref f1))) (l1 : K.lookup f1 = some ⟨oc1, od1, .func (PySem.W.fnOf "check_ends" "check_ends" (defArgs s_check_ends) (defBody s_check_ends) (defScope s_check_ends) .none kV1 dc1 pm1 an1 cd1 ct1), sl1⟩) (c1 : PySem.W.codeIn K cd1 "check_ends" = true) (k1 : PySem.W.keepIn K (.ref f1) = true)
    (a2 : PySem.W.nsIn K mainGlobals "stretch_of" = some (some (.ref f2))) (l2 : K.lookup f2 = some ⟨oc2, od2, .func (PySem.W.fnOf "stretch_of" "stretch_of" (defArgs s_stretch_of) (defBody s_stretch_of) (defScope s_stretch_of) .none kV2 dc2 pm2 an2 cd2 ct2), sl2⟩) (c2 : PySem.W.codeIn K cd2 "stretch_of" = true) (k2 : PySem.W.keepIn K (.ref f2) = true)
    (a3 : PySem.W.nsIn K mainGlobals "meet" = some (some (.ref f3))) (l3 : K.lookup f3 = some ⟨oc3, od3, .func (PySem.W.fnOf "meet" "meet" (defArgs s_meet) (defBody s_meet) (defScope s_meet) .none kV3 dc3 pm3 an3 cd3 ct3), sl3⟩) (c3 : PySem.W.codeIn K cd3 "meet" = true) (k3 : PySem.W.keepIn K (.ref f3) = true)
    (a4 : PySem.W.nsIn K mainGlobals "_law_at" = some (some (.ref f4))) (l4 : K.lookup f4 = some ⟨oc4, od4, .func (PySem.W.fnOf "_law_at" "_law_at" (defArgs s_law_at) (defBody s_law_at) (defScope s_law_at) .none kV4 dc4 pm4 an4 cd4 ct4), sl4⟩) (c4 : PySem.W.codeIn K cd4 "_law_at" = true) (k4 : PySem.W.keepIn K (.ref f4) = true)
    (a5 : PySem.W.nsIn K mainGlobals "_law_made" = some (some (.ref f5))) (l5 : K.lookup f5 = some ⟨oc5, od5, .func (PySem.W.fnOf "_law_made" "_law_made" (defArgs s_law_made) (defBody s_law_made) (defScope s_law_made) .none kV5 dc5 pm5 an5 cd5 ct5), sl5⟩) (c5 : PySem.W.codeIn K cd5 "_law_made" = true) (k5 : PySem.W.keepIn K (.ref f5) = true)
    (a6 : PySem.W.nsIn K mainGlobals "law" = some (some (.ref f6))) (l6 : K.lookup f6 = some ⟨oc6, od6, .func (PySem.W.fnOf "law" "law" (defArgs s_law) (defBody s_law) (defScope s_law) .none kV6 dc6 pm6 an6 cd6 ct6), sl6⟩) (c6 : PySem.W.codeIn K cd6 "law" = true) (k6 : PySem.W.keepIn K (.ref f6) = true)
    (vtB : PySem.W.nsIn K mainGlobals "_BEYOND" = some (some (.int 1000000000000000000000000000000000000000000000000000000000000 tB)))
    (z_type : PySem.W.nsIn K mainGlobals "type" = some none)
    (z_int : PySem.W.nsIn K mainGlobals "int" = some none)
    (z_min : PySem.W.nsIn K mainGlobals "min" = some none)
    (z_max : PySem.W.nsIn K mainGlobals "max" = some none)
    (z_isinstance : PySem.W.nsIn K mainGlobals "isinstance" = some none)
    (z_bool : PySem.W.nsIn K mainGlobals "bool" = some none) :
    ∃ fd : FuncData, (∀ (s : Shared) (v : Value), BindsTo s fd ⟨[v], []⟩ [("_law_script", v)]) ∧ ∀ base : Heap, K.In base → base.Ns mainGlobals mg → FnOk l.prog w K mg base CX0 5 fa fd ["_law_script"] (spLaw K) := by
  have e := hfa.symm.trans (PySem.W.mg_of X G a6)
  cases e
  have T : Txt K mg tB := ⟨PySem.W.mg_of X G vtB, PySem.W.mg_none_of X G z_type, PySem.W.mg_none_of X G z_int, PySem.W.mg_none_of X G z_min, PySem.W.mg_none_of X G z_max, PySem.W.mg_none_of X G z_isinstance, PySem.W.mg_none_of X G z_bool⟩
  have F0 := fun_mk (st := s_is_whole) l0 c0 k0
  have F1 := fun_mk (st := s_check_ends) l1 c1 k1
  have F2 := fun_mk (st := s_stretch_of) l2 c2 k2
  have F3 := fun_mk (st := s_meet) l3 c3 k3
  have F4 := fun_mk (st := s_law_at) l4 c4 k4
  have F5 := fun_mk (st := s_law_made) l5 c5 k5
  have F6 := fun_mk (st := s_law) l6 c6 k6
  refine ⟨PySem.W.fnOf "law" "law" (defArgs s_law) (defBody s_law) (defScope s_law) .none kV6 dc6 pm6 an6 cd6 ct6, fun s v => .of_eq rfl, fun base _ _ => ?_⟩
  have O0 : Own l.prog w K mg base CX0 _ "is_whole" f0 _ p_is_whole _ := ⟨ok_is_whole F0 T, PySem.W.mg_of X G a0, k0, (F0.binds fun _ _ _ _ _ _ us hl => match us, hl with | [_], _ => rfl)⟩
  have O1 : Own l.prog w K mg base CX0 _ "check_ends" f1 _ p_check_ends _ := ⟨ok_check_ends F1 T O0, PySem.W.mg_of X G a1, k1, (F1.binds fun _ _ _ _ _ _ us hl => match us, hl with | [_, _], _ => rfl)⟩
  have O2 : Own l.prog w K mg base CX0 _ "stretch_of" f2 _ p_stretch_of _ := ⟨ok_stretch_of F2 T O0 O1, PySem.W.mg_of X G a2, k2, (F2.binds fun _ _ _ _ _ _ us hl => match us, hl with | [_, _, _], _ => rfl)⟩
  have O3 : Own l.prog w K mg base CX0 _ "meet" f3 _ p_meet _ := ⟨ok_meet F3 T O2, PySem.W.mg_of X G a3, k3, (F3.binds fun _ _ _ _ _ _ us hl => match us, hl with | [_, _], _ => rfl)⟩
  have O4 : Own l.prog w K mg base CX0 _ "_law_at" f4 _ p_law_at _ := ⟨ok_law_at F4 T, PySem.W.mg_of X G a4, k4, (F4.binds fun _ _ _ _ _ _ us hl => match us, hl with | [_, _], _ => rfl)⟩
  have O5 : Own l.prog w K mg base CX0 _ "_law_made" f5 _ p_law_made _ := ⟨ok_law_made F5 T, PySem.W.mg_of X G a5, k5, (F5.binds fun _ _ _ _ _ _ us hl => match us, hl with | [_], _ => rfl)⟩
  exact ok_law F6 T O4 O5 O3
theorem walk {l : PySem.W.OpenLaw} {q : Program} {loose : List Str} {XP : (Str → Option Value) → Heap → Prop} {YP : World → Heap → Prop} {d : DefRec} {K : Params → PySem.W.Frag} (hn : l.most = some 63) (hdf : d.params.defaults = [])
    (hY : ∀ (w : World) (h : Heap), YP w h → (K w.params).In h)
    (F : ∀ (w : World) (mg : Str → Option Value) (fa : Addr) (h : Heap), (K w.params).In h → h.Ns mainGlobals mg → mg d.name = some (.ref fa) →
      ∃ fd : FuncData, (∀ (s : Shared) (u : Value), BindsTo s fd ⟨[u], []⟩ [("_law_script", u)]) ∧ ∀ base : Heap, (K w.params).In base → base.Ns mainGlobals mg → FnOk l.prog w (K w.params) mg base CX0 5 fa fd ["_law_script"] (spLaw (K w.params))) :
    PySem.W.WalkO q loose XP YP l.row.toRowW d [] (fun f vs => PySem.call f vs) :=
  L2.walk_ofB (n := 63) (k := 5) (x := "_law_script") (CX := fun _ => CX0) (sp := fun w => spLaw (K w.params)) hn (by decide) hdf ⟨rfl, by decide, by decide⟩ hY F (fun _ _ a ns hl hb _ hS => ⟨a, ns, rfl, hS, hl, hb, fun _ => rfl⟩) fun _ _ _ _ _ z => z
end Sp
open PySem PySem.W PyProof.Rows
set_option maxRecDepth 100000 in
set_option maxHeartbeats 0 in
theorem PySem.Challenge.cw_spanforest_k01_two_meet_holds : PySem.Challenge.rw_spanforest_k01_two_meet.Holds := by
  w_on; o_law; k_head; (case hw => w_witness2)
  k_fill
  refine Sp.walk (l := PySem.Challenge.rw_spanforest_k01_two_meet) rfl rfl (fun w h Y => PySem.W.kIn_of Y) ?F
  case F =>
    intro w mg fa h KX G hmg
    refine' Sp.all_mk KX G hmg ?a0 ?l0 ?c0 ?k0 ?a1 ?l1 ?c1 ?k1 ?a2 ?l2 ?c2 ?k2 ?a3 ?l3 ?c3 ?k3 ?a4 ?l4 ?c4 ?k4 ?a5 ?l5 ?c5 ?k5 ?a6 ?l6 ?c6 ?k6 ?vtB ?z_type ?z_int ?z_min ?z_max ?z_isinstance ?z_bool
    (case a0 => k_is)
    (case l0 => k_is)
    (case c0 => k_is)
    (case k0 => k_is)
    (case a1 => k_is)
    (case l1 => k_is)
    (case c1 => k_is)
    (case k1 => k_is)
    (case a2 => k_is)
    (case l2 => k_is)
    (case c2 => k_is)
    (case k2 => k_is)
    (case a3 => k_is)
    (case l3 => k_is)
    (case c3 => k_is)
    (case k3 => k_is)
    (case a4 => k_is)
    (case l4 => k_is)
    (case c4 => k_is)
    (case k4 => k_is)
    (case a5 => k_is)
    (case l5 => k_is)
    (case c5 => k_is)
    (case k5 => k_is)
    (case a6 => k_is)
    (case l6 => k_is)
    (case c6 => k_is)
    (case k6 => k_is)
    (case vtB => k_is)
    (case z_type => k_is)
    (case z_int => k_is)
    (case z_min => k_is)
    (case z_max => k_is)
    (case z_isinstance => k_is)
    (case z_bool => k_is)
#print axioms PySem.Challenge.cw_spanforest_k01_two_meet_holds
