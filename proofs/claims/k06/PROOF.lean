import PyProof.Rows.All
import Wide.All
import OpenK.AllK
import Wide.FinOn
import HandS.ForSpec
import HandS.ForMost
import HandS.Wide
import HandS.Deep
import HandS.IsInst
import HandS.EndBits
import KE.KSortTupUse
import HandS.TupSets
import HandS.TupLe
import HandS.Gcd
import HandS.ExcIs
import PySem.Challenge.RW_spanforest_k06_kept_and_not
set_option Elab.async false
set_option linter.all false
set_option maxRecDepth 100000
set_option maxHeartbeats 2000000
namespace Sp
open PySem L2

/-- a product that Python makes -/
@[irreducible] def MulOk (i j : Int) : Prop := IntMulOk i j
/-! ### operators that the layer lacks -/
section
variable {X : Cx}
/-- ints, bools, None, texts, tracked tuples and lists, and the names of their types -/
inductive Ty6 (K : PySem.W.Frag) (H : Hp) : V → String → Prop
  | int (i : Int) : Ty6 K H (.int i) "int"
  | bl (b : Bool) : Ty6 K H (.bl b) "bool"
  | non : Ty6 K H .non "NoneType"
  | str (x : Str) : Ty6 K H (.str x) "str"
  | lst {a : Addr} {xs : List V} (e : SqL K H a xs) : Ty6 K H (.ref a) "list"
  | tup {a : Addr} {xs : List V} (e : SqT K H a xs) : Ty6 K H (.ref a) "tuple"
theorem Ty6.is {K : PySem.W.Frag} (hK : K = X.K) {pins : List (Addr × Obj)} {σ : L2.St} {H : Hp} {s : Shared} {x : V} {u : Value} {T : String} (t : Ty6 K H x T) (I : Inv X pins σ H s) (r : RelV x u) :
    s.TypeIs u T ∧ (Value.type T == Value.type "builtin_function_or_method") = false := by
  subst hK
  cases t with
  | int i =>
    obtain ⟨k, rfl⟩ := r
    exact ⟨typeIs_int s i k, by decide +kernel⟩
  | bl b =>
    cases r
    exact ⟨rfl, by decide +kernel⟩
  | non =>
    cases r
    exact ⟨rfl, by decide +kernel⟩
  | str z =>
    obtain ⟨k, rfl⟩ := r
    exact ⟨typeIs_str s z k, by decide +kernel⟩
  | lst e =>
    cases r
    obtain ⟨its, rv, p, _⟩ := I.list e
    exact ⟨p.isList.typeIs, by decide +kernel⟩
  | tup e =>
    cases r
    obtain ⟨its, rv, p, _⟩ := I.tuple e
    exact ⟨p.typeIs, by decide +kernel⟩
def rTy6 (K : PySem.W.Frag) : List V → Hp → VK → Prop := fun xs H Q => ∃ (x : V) (T : String), xs = [x] ∧ Ty6 K H x T ∧ Q (.ty T) H
theorem call_type6 : CallR X (.type "type") (rTy6 X.K) := by
  intro pins s σ H xs us Q I r h
  obtain ⟨x, T, rfl, t, q⟩ := h
  obtain ⟨u, rfl, rx⟩ := vals1 r
  obtain ⟨h1, h2⟩ := t.is rfl I rx
  exact call_type_of h1 h2 ⟨.ty T, H, I, rfl, q⟩
def tys : List String := ["int", "bool", "NoneType", "str", "list", "tuple"]
theorem meta_tys {S : String} (h : S ∈ tys) : ∀ s' : Shared, s'.TypeIs (.type S) "type" := by
  simp only [tys, List.mem_cons, List.not_mem_nil, or_false] at h
  rcases h with rfl | rfl | rfl | rfl | rfl | rfl
  · exact TypeEq.meta_int
  · exact TypeEq.meta_bool
  · exact TypeEq.meta_NoneType
  · exact TypeEq.meta_str
  · exact TypeEq.meta_list
  · exact TypeEq.meta_tuple
theorem Ty6.mem {K : PySem.W.Frag} {H : Hp} {x : V} {T : String} (t : Ty6 K H x T) : T ∈ tys := by
  cases t <;> simp [tys]
def rEqTy : R2 := fun x y H Q => ∃ S T, x = .ty S ∧ y = .ty T ∧ S ∈ tys ∧ T ∈ tys ∧ Q (.bl (decide (S = T))) H
theorem op_eqTy : OpR X (compareOp .Eq) rEqTy := by
  intro pins s σ H x y v u Q I rx ry h
  obtain ⟨S, T, rfl, rfl, hS, hT, q⟩ := h
  cases rx
  cases ry
  by_cases e : S = T
  · subst e
    exact TypeEq.eq_type_same (meta_tys hS) ⟨.bl true, H, I, rfl, by simpa using q⟩
  · exact TypeEq.eq_type_other (meta_tys hS) (meta_tys hT) (beq_eq_false_iff_ne.mpr fun z => e (Value.type.inj z)) ⟨.bl false, H, I, rfl, by simpa [e] using q⟩
theorem op_mulX : OpR X (binaryOp .Mult) (rI MulOk fun i j => .int (i * j)) := opI fun _ _ _ _ _ _ _ hc q => PyProof.Rows.mul_int q (by unfold MulOk at hc; exact hc)
end
/-! ### a def of the module, all that a call asks -/
structure Own (P : Program) (w : World) (K : PySem.W.Frag) (mg : Str → Option Value) (base : Heap) (CX : CXT) (k : Nat) (x : Str) (f : Addr) (fd : FuncData) (ps : List Str) (sp : L2.Sp) : Prop where
  ok : FnOk P w K mg base CX k f fd ps sp
  gl : mg x = some (.ref f)
  kp : PySem.W.keepIn K (.ref f) = true
  b : Binds K fd ps []
theorem hu65 {A : Around} {k : Nat} (hr : Room k A) : A.units + 65 < cLine := by have := hr.un; omega
/-! ### the size of ints -/
@[irreducible] def BW (N : Nat) (x : Int) : Prop := Builtin.Int.intBits x ≤ N
theorem BW.iff {N : Nat} {x : Int} : BW N x ↔ x.natAbs < 2 ^ N := by
  unfold BW Builtin.Int.intBits
  by_cases h : x = 0
  · subst h
    simp
    exact Nat.pow_pos (by decide)
  · have hn : x.natAbs ≠ 0 := by omega
    rw [if_neg (by simpa using h)]
    rw [Nat.succ_le_iff, Nat.log2_lt hn]
theorem BW.of {N : Nat} {x : Int} (h : Builtin.Int.intBits x ≤ N) : BW N x := by unfold BW; exact h
theorem BW.mono {N M : Nat} {x : Int} (h : BW N x) (e : N ≤ M) : BW M x := by
  unfold BW at *
  exact Nat.le_trans h e
theorem BW.mul {a b : Nat} {x y : Int} (h1 : BW a x) (h2 : BW b y) : BW (a + b) (x * y) := by
  rw [BW.iff] at *
  rw [Int.natAbs_mul, Nat.pow_add]
  exact Nat.mul_lt_mul'' h1 h2
theorem BW.add {a : Nat} {x y : Int} (h1 : BW a x) (h2 : BW a y) : BW (a + 1) (x + y) := by
  rw [BW.iff] at *
  have h := Int.natAbs_add_le x y
  rw [Nat.pow_succ]
  omega
theorem BW.div {a : Nat} {x k : Int} (h1 : BW a x) (hk : 0 < k) : BW a (x / k) := by
  rw [BW.iff] at *
  refine Nat.lt_of_le_of_lt ?_ h1
  rcases Int.le_total 0 x with h | h
  · have e1 : 0 ≤ x / k := Int.ediv_nonneg h (Int.le_of_lt hk)
    have e2 : x / k ≤ x := Int.ediv_le_self k h
    omega
  · have e1 : x ≤ x / k := by
      rw [Int.le_ediv_iff_mul_le hk]
      have q := Int.mul_nonneg (show 0 ≤ -x by omega) (show 0 ≤ k - 1 by omega)
      rw [Int.neg_mul, Int.mul_sub, Int.mul_one] at q
      omega
    have e2 : x / k ≤ 0 := by
      have := Int.ediv_le_ediv hk h
      simpa using this
    omega
theorem BW.ok {a b : Nat} {x y : Int} (h1 : BW a x) (h2 : BW b y) (h : a + b ≤ 134217728) : MulOk x y := by
  unfold MulOk
  have e : bitsLine = 134217728 := by decide
  unfold BW at h1 h2
  unfold IntMulOk
  intro z
  rw [Bool.and_eq_true] at z
  have z2 := z.2
  unfold Builtin.Int.intTooBig at z2
  have z3 := of_decide_eq_true z2
  rw [e] at z3
  omega
/-! ### what stands -/
section
variable {K : PySem.W.Frag} {H H' H2 : Hp} {a l : Addr} {xs ys zs : List V} {o : HO}
theorem same_new {p : Addr} (h : H p = none) : Same H (upd H p o) := fun b u e => by
  rw [upd_ne (ne_of_none e h)]
  exact e
theorem same_t (e : Same H H') (h : SqT K H a xs) : SqT K H' a xs := by
  rcases h with (h | ⟨o, h⟩) | h
  · exact .inl (.inl (e _ _ h))
  · exact .inl (.inr ⟨o, e _ _ h⟩)
  · exact .inr h
theorem same_at {o : HO} (e : Same H H') (h : H a = some o) : H' a = some o := e _ _ h
/-- the list at l is another one, all else stands -/
structure Chg (l : Addr) (H H' : Hp) : Prop where
  was : ∃ xs, H l = some (.lst xs)
  keep : ∀ b o, b ≠ l → H b = some o → H' b = some o
theorem chg_upd (h : H l = some (.lst xs)) : Chg l H (upd H l (.lst ys)) := ⟨⟨_, h⟩, fun b o n e => by rw [upd_ne n]; exact e⟩
theorem chg_t (e : Chg l H H') (h : SqT K H a xs) : SqT K H' a xs := by
  obtain ⟨⟨ys, hl⟩, k⟩ := e
  rcases h with (h | ⟨o, h⟩) | h
  · exact .inl (.inl (k _ _ (ne_of h hl (by intro z; cases z)) h))
  · exact .inl (.inr ⟨o, k _ _ (ne_of h hl (by intro z; cases z)) h⟩)
  · exact .inr h
/-- what was not there before may change -/
theorem same_chg (e : Same H H') (c : Chg l H' H2) (n : H l = none) : Same H H2 := fun b o q => c.keep b o (ne_of_none q n) (e b o q)
theorem same_back (e : Same H H') {p : Addr} (h : H' p = none) : H p = none := e.free h
end
theorem atI0 {α : Type} {a : α} {xs : List α} : atI (a :: xs) 0 = some a := atI_nat (j := 0) rfl
theorem atI1 {α : Type} {a b : α} {xs : List α} : atI (a :: b :: xs) 1 = some b := atI_nat (j := 1) rfl
theorem atI2 {α : Type} {a b c : α} {xs : List α} : atI (a :: b :: c :: xs) 2 = some c := atI_nat (j := 2) rfl
theorem atI3 {α : Type} {a b c d : α} {xs : List α} : atI (a :: b :: c :: d :: xs) 3 = some d := atI_nat (j := 3) rfl
/-! ### the law's cells -/
theorem sIx_at (n j : Nat) : HT.sIx n 0 (some (j : Int)) = min j n := HT.sIx_nat n 0 j
theorem cut_one {xs : List V} {j : Nat} {v : V} (h : xs[j]? = some v) : cutV xs (some (j : Int)) (some ((j : Int) + 1)) = [v] := by
  obtain ⟨hj, e⟩ := List.getElem?_eq_some_iff.mp h
  have e1 : HT.sIx xs.length 0 (some (j : Int)) = j := by rw [HT.sIx_nat]; omega
  have e2 : HT.sIx xs.length xs.length (some ((j : Int) + 1)) = j + 1 := by
    have := HT.sIx_nat xs.length xs.length (j + 1)
    rw [Int.natCast_add] at this
    rw [show ((1 : Nat) : Int) = 1 from rfl] at this
    rw [this]; omega
  unfold cutV
  rw [e1, e2, List.drop_eq_getElem_cons hj, e]
  have : j + 1 - j = 0 + 1 := by omega
  rw [this, List.take_succ_cons, List.take_zero]
theorem cut_none {xs : List V} {j : Nat} (h : xs.length ≤ j) : cutV xs (some (j : Int)) (some ((j : Int) + 1)) = [] := by
  have e1 : HT.sIx xs.length 0 (some (j : Int)) = xs.length := by rw [HT.sIx_nat]; omega
  unfold cutV
  rw [e1, List.drop_length, List.take_nil]
theorem cell_at (ns : List Int) (j : Nat) : ∃ rest, cutV (ns.map V.int) (some (j : Int)) (some ((j : Int) + 1)) ++ [V.int 0] = V.int (ns.getD j 0) :: rest := by
  by_cases h : j < ns.length
  · have e : (ns.map V.int)[j]? = some (V.int (ns[j])) := by rw [List.getElem?_map, List.getElem?_eq_getElem h]; rfl
    refine ⟨[V.int 0], ?_⟩
    rw [cut_one e, List.getD_eq_getElem?_getD, List.getElem?_eq_getElem h]
    rfl
  · refine ⟨[], ?_⟩
    rw [cut_none (by rw [List.length_map]; omega), List.getD_eq_getElem?_getD, List.getElem?_eq_none (by omega)]
    rfl
/-! ### readings, one step each -/
section
variable {σ : St} {H : Hp} {Q : VK} {QA : List V → Hp → Prop} {QB : Bool → Hp → Prop} {v x y : V} {ta tb tc te : TE} {tA : TA} {t u : TT} {D : Ends} {s1 s2 : TS} {K : PySem.W.Frag}
theorem w_var {i : Nat} (h : σ[i]? = some (some v)) (q : Q v H) : tVar i σ H Q := ⟨v, h, q⟩
theorem w_c (q : Q v H) : tC v σ H Q := q
theorem w_op {r : R2} (q : ta σ H fun x H1 => tb σ H1 fun y H2 => r x y H2 Q) : tOp r ta tb σ H Q := q
theorem w_un {r : V → Hp → VK → Prop} (q : ta σ H fun x H1 => r x H1 Q) : tUn r ta σ H Q := q
theorem w_rI0 {g : Int → Int → V} {i j : Int} (q : Q (g i j) H) : rI0 g (.int i) (.int j) H Q := ⟨i, j, rfl, rfl, q⟩
theorem w_rI {C : Int → Int → Prop} {g : Int → Int → V} {i j : Int} (c : C i j) (q : Q (g i j) H) : rI C g (.int i) (.int j) H Q := ⟨i, j, rfl, rfl, c, q⟩
theorem w_rU {g : Int → V} {i : Int} (q : Q (g i) H) : rU g (.int i) H Q := ⟨i, rfl, q⟩
theorem w_rEq (h : scal x y = true) (q : Q (.bl (decide (x = y))) H) : rEq x y H Q := ⟨h, q⟩
theorem w_rNe (h : scal x y = true) (q : Q (.bl (!decide (x = y))) H) : rNe x y H Q := ⟨h, q⟩
theorem w_rEqI {i j : Int} (q : Q (.bl (decide (i = j))) H) : rEq (.int i) (.int j) H Q := ⟨rfl, by
  have e : decide (V.int i = V.int j) = decide (i = j) := by simp
  rw [← e] at q; exact q⟩
theorem w_rNeI {i j : Int} (q : Q (.bl (!decide (i = j))) H) : rNe (.int i) (.int j) H Q := ⟨rfl, by
  have e : decide (V.int i = V.int j) = decide (i = j) := by simp
  rw [← e] at q; exact q⟩
theorem w_rEqB {i j : Bool} (q : Q (.bl (decide (i = j))) H) : rEq (.bl i) (.bl j) H Q := ⟨rfl, by
  have e : decide (V.bl i = V.bl j) = decide (i = j) := by simp
  rw [← e] at q; exact q⟩
theorem w_rNeB {i j : Bool} (q : Q (.bl (!decide (i = j))) H) : rNe (.bl i) (.bl j) H Q := ⟨rfl, by
  have e : decide (V.bl i = V.bl j) = decide (i = j) := by simp
  rw [← e] at q; exact q⟩
theorem w_ixT {p : Addr} {xs : List V} {i : Int} (h : SqT K H p xs) (ha : atI xs i = some v) (q : Q v H) : rIxT K (.ref p) (.int i) H Q := ⟨p, xs, i, v, rfl, rfl, h, ha, q⟩
theorem w_ixL {p : Addr} {xs : List V} {i : Int} (h : SqL K H p xs) (ha : atI xs i = some v) (q : Q v H) : rIxL K (.ref p) (.int i) H Q := ⟨p, xs, i, v, rfl, rfl, h, ha, q⟩
theorem w_chain {r r' : R2} (q : ta σ H fun x H1 => tb σ H1 fun y H2 => r x y H2 fun z H3 => ∃ k, z = .bl k ∧ if k = true then tc σ H3 fun w H4 => r' y w H4 Q else Q (.bl false) H3) : tChain r r' ta tb tc σ H Q := q
theorem w_ex {P : Bool → Prop} {k : Bool} (q : P k) : ∃ k', V.bl k = V.bl k' ∧ P k' := ⟨k, rfl, q⟩
theorem w_p10_60 (q : Q (.int 1000000000000000000000000000000000000000000000000000000000000) H) : rI CPow (fun i j => .int (i ^ j.toNat)) (.int 10) (.int 60) H Q := ⟨10, 60, rfl, rfl, ⟨by decide, by decide, by decide⟩, by
  have e : (10 : Int) ^ (Int.toNat 60) = 1000000000000000000000000000000000000000000000000000000000000 := by decide +kernel
  rw [← e] at q; exact q⟩
theorem w_p10_59 (q : Q (.int 100000000000000000000000000000000000000000000000000000000000) H) : rI CPow (fun i j => .int (i ^ j.toNat)) (.int 10) (.int 59) H Q := ⟨10, 59, rfl, rfl, ⟨by decide, by decide, by decide⟩, by
  have e : (10 : Int) ^ (Int.toNat 59) = 100000000000000000000000000000000000000000000000000000000000 := by decide +kernel
  rw [← e] at q; exact q⟩
theorem w_p48271 (q : Q (.int 160042582622774077931272282638733506491753459577065720641) H) : rI CPow (fun i j => .int (i ^ j.toNat)) (.int 48271) (.int 12) H Q := ⟨48271, 12, rfl, rfl, ⟨by decide, by decide, by decide⟩, by
  have e : (48271 : Int) ^ (Int.toNat 12) = 160042582622774077931272282638733506491753459577065720641 := by decide +kernel
  rw [← e] at q; exact q⟩
theorem w_p69621 (q : Q (.int 12968301046749891878822577019301343841127466270386200925841) H) : rI CPow (fun i j => .int (i ^ j.toNat)) (.int 69621) (.int 12) H Q := ⟨69621, 12, rfl, rfl, ⟨by decide, by decide, by decide⟩, by
  have e : (69621 : Int) ^ (Int.toNat 12) = 12968301046749891878822577019301343841127466270386200925841 := by decide +kernel
  rw [← e] at q; exact q⟩
theorem w_p16807 (q : Q (.int 143503601609868434285603076356671071740077383739246066639249) H) : rI CPow (fun i j => .int (i ^ j.toNat)) (.int 16807) (.int 14) H Q := ⟨16807, 14, rfl, rfl, ⟨by decide, by decide, by decide⟩, by
  have e : (16807 : Int) ^ (Int.toNat 14) = 143503601609868434285603076356671071740077383739246066639249 := by decide +kernel
  rw [← e] at q; exact q⟩
theorem w_nil (q : QA [] H) : tNil σ H QA := q
theorem w_cons {tr : TA} (q : ta σ H fun x H1 => tr σ H1 fun xs H2 => QA (x :: xs) H2) : tCons ta tr σ H QA := q
/-- what a display asks, its items known -/
def kTup (xs : List V) (H : Hp) (Q : VK) : Prop := xs.length ≤ sizeLine ∧ ∀ p, H p = none → Q (.ref p) (upd H p (.tup xs))
def kLst (xs : List V) (H : Hp) (Q : VK) : Prop := xs.length ≤ sizeLine ∧ ∀ p, H p = none → Q (.ref p) (upd H p (.lst xs))
theorem w_tup (q : tA σ H fun xs H1 => kTup xs H1 Q) : tTup tA σ H Q := q
theorem w_lst (q : tA σ H fun xs H1 => kLst xs H1 Q) : tLst tA σ H Q := q
theorem w_kTup {xs : List V} (z : xs.length ≤ sizeLine) (q : ∀ p H1, H p = none → Same H H1 → H1 p = some (.tup xs) → Q (.ref p) H1) : kTup xs H Q := ⟨z, fun p n => q p _ n (same_new n) upd_same⟩
theorem w_kLst {xs : List V} (z : xs.length ≤ sizeLine) (q : ∀ p H1, H p = none → Same H H1 → H1 p = some (.lst xs) → Q (.ref p) H1) : kLst xs H Q := ⟨z, fun p n => q p _ n (same_new n) upd_same⟩
theorem w_call {sp : Sp} {dvs : List V} {E : XK} (q : tA σ H fun vs H1 => sp (vs ++ dvs) H1 Q E) : tCall sp dvs E tA σ H Q := q
theorem w_cb {r : List V → Hp → VK → Prop} (q : tA σ H fun vs H1 => r vs H1 Q) : tCB r tA σ H Q := q
theorem w_sl {r : V → Option Int → Option Int → Hp → VK → Prop} {tl th : TO} (q : te σ H fun x H1 => tl σ H1 fun l H2 => th σ H2 fun u H3 => r x l u H3 Q) : tSl r te tl th σ H Q := q
theorem w_nopart {QO : Option Int → Hp → Prop} (q : QO none H) : tNoPart σ H QO := q
theorem w_part {QO : Option Int → Hp → Prop} (q : te σ H fun x H1 => ∃ i, x = .int i ∧ QO (some i) H1) : tPart te σ H QO := q
theorem w_exI {P : Int → Prop} {i : Int} (q : P i) : ∃ j, V.int i = V.int j ∧ P j := ⟨i, rfl, q⟩
theorem w_slL {p : Addr} {xs : List V} {lo hi : Option Int} (h : SqL K H p xs) (q : ∀ l H1, H l = none → Same H H1 → H1 l = some (.lst (cutV xs lo hi)) → Q (.ref l) H1) : rSlL K (.ref p) lo hi H Q :=
  ⟨p, xs, rfl, h, fun l n => q l _ n (same_new n) upd_same⟩
theorem w_rCat {p b : Addr} {xs ys : List V} (h1 : H p = some (.lst xs)) (h2 : H b = some (.lst ys)) (z : xs.length + ys.length ≤ sizeLine) (q : ∀ l H1, H l = none → Same H H1 → H1 l = some (.lst (xs ++ ys)) → Q (.ref l) H1) : rCat (.ref p) (.ref b) H Q :=
  ⟨p, b, xs, ys, rfl, rfl, h1, h2, z, fun l n => q l _ n (same_new n) upd_same⟩
theorem w_rTy6 {T : String} (h : Ty6 K H x T) (q : Q (.ty T) H) : rTy6 K [x] H Q := ⟨x, T, rfl, h, q⟩
theorem w_rEqTy {S T : String} (hS : S ∈ tys) (hT : T ∈ tys) (q : Q (.bl (decide (S = T))) H) : rEqTy (.ty S) (.ty T) H Q := ⟨S, T, rfl, rfl, hS, hT, q⟩
def rMax2 : List V → Hp → VK → Prop := fun xs H Q => ∃ i j, xs = [.int i, .int j] ∧ Q (.int (if j > i then j else i)) H
def rMin2 : List V → Hp → VK → Prop := fun xs H Q => ∃ i j, xs = [.int i, .int j] ∧ Q (.int (if j < i then j else i)) H
theorem c_max2 {X : Cx} (hc : X.calm = true) : CallR X (.builtin "max") rMax2 := call_max2 hc
theorem c_min2 {X : Cx} (hc : X.calm = true) : CallR X (.builtin "min") rMin2 := call_min2 hc
theorem w_max2 {i j : Int} (q : Q (.int (max i j)) H) : rMax2 [.int i, .int j] H Q := ⟨i, j, rfl, by
  have e : (if j > i then j else i) = max i j := by simp only [Int.max_def]; split <;> split <;> omega
  rw [← e] at q; exact q⟩
theorem w_min2 {i j : Int} (q : Q (.int (min i j)) H) : rMin2 [.int i, .int j] H Q := ⟨i, j, rfl, by
  have e : (if j < i then j else i) = min i j := by simp only [Int.min_def]; split <;> split <;> omega
  rw [← e] at q; exact q⟩
theorem w_isi {x : V} {c : String} {t : Value} {b : Bool} (ty : TyX K H x t) (e : PySem.W.kitOne K t (.type c) = some b) (q : Q (.bl b) H) : rIsi K [x, .ty c] H Q := ⟨x, .ty c, t, _, b, rfl, .ty c, ty, e, q⟩
theorem w_andV (q : ta σ H fun x H1 => ∃ c, x = .bl c ∧ if c = true then tb σ H1 Q else Q (.bl false) H1) : tAndV ta tb σ H Q := q
theorem w_orV (q : ta σ H fun x H1 => ∃ c, x = .bl c ∧ if c = true then Q (.bl true) H1 else tb σ H1 Q) : tOrV ta tb σ H Q := q
theorem w_notV (q : ta σ H fun x H1 => ∃ c, x = .bl c ∧ Q (.bl (!c)) H1) : tNotV ta σ H Q := q
theorem w_test (q : te σ H fun x H' => ∃ k, x = .bl k ∧ QB k H') : tTest te σ H QB := q
theorem w_B (q : te σ H fun x H' => ∃ k, x = .bl k ∧ QB k H') : tB te σ H QB := q
theorem w_and (q : t σ H fun c H1 => if c = true then u σ H1 QB else QB false H1) : tAnd t u σ H QB := q
theorem w_or (q : t σ H fun c H1 => if c = true then QB true H1 else u σ H1 QB) : tOr t u σ H QB := q
theorem w_not (q : t σ H fun c H1 => QB (!c) H1) : tNot t σ H QB := q
theorem w_if (q : t σ H fun b H1 => if b = true then s1 D σ H1 else s2 D σ H1) : tIfS t s1 s2 D σ H := q
theorem w_ifE (q : t σ H fun c H1 => if c = true then ta σ H1 Q else tb σ H1 Q) : tIf t ta tb σ H Q := q
theorem w_seq (q : s1 { D with nx := s2 D } σ H) : tSeq s1 s2 D σ H := q
theorem w_asg {i : Nat} (q : te σ H fun x H1 => D.nx (σ.set i (some x)) H1) : tAsg te (gName i) D σ H := q
theorem w_asgG {g : TG} (q : te σ H fun x H1 => g x σ H1 D.nx) : tAsg te g D σ H := q
theorem w_drop (q : te σ H fun _ H1 => D.nx σ H1) : tDrop te D σ H := q
theorem w_ret (q : te σ H D.rt) : tRet te D σ H := q
theorem w_retN (q : D.rt .non H) : tRetN D σ H := q
theorem w_next (q : D.nx σ H) : tNext D σ H := q
theorem w_gTup {n : Nat} {g : TGs} {a : Addr} {xs : List V} {R : St → Hp → Prop} (h : SqT K H a xs) (z : xs.length = n) (q : g xs σ H R) : gTup K n g (.ref a) σ H R := ⟨a, xs, rfl, h, z, q⟩
theorem w_gName {i : Nat} {R : St → Hp → Prop} (q : R (σ.set i (some v)) H) : gName i v σ H R := q
theorem w_gCons {g : TG} {gs : TGs} {vs : List V} {R : St → Hp → Prop} (q : g v σ H fun σ' H' => gs vs σ' H' R) : gCons g gs (v :: vs) σ H R := ⟨v, vs, rfl, q⟩
theorem w_gNil {R : St → Hp → Prop} (q : R σ H) : gNil [] σ H R := ⟨rfl, q⟩
/-- if c: x = e, told by the value that x has behind it -/
theorem w_ifI {c : Prop} [Decidable c] {i : Nat} {a b : Int} (h0 : σ.set i (some (.int b)) = σ) (h1 : c → ∀ Q : VK, Q (.int a) H → te σ H Q) (q : D.nx (σ.set i (some (.int (if c then a else b)))) H) :
    if decide c = true then tAsg te (gName i) D σ H else tNext D σ H := by
  by_cases hc : c
  · rw [if_pos hc] at q
    rw [if_pos (decide_eq_true hc)]
    exact h1 hc _ q
  · rw [if_neg hc, h0] at q
    rw [if_neg (by rw [decide_eq_false hc]; exact Bool.false_ne_true)]
    exact q
/-- a loop over what has come -/
def kFor (g : TG) (tb : TS) (D : Ends) (σ : St) (J : It) (H : Hp) : Prop := tFor (fun _ H R => R J H) g tb D σ H
theorem w_for {wi : TI} {g : TG} {tb : TS} (q : wi σ H fun J H1 => kFor g tb D σ J H1) : tFor wi g tb D σ H := q
theorem w_iList {tl : TE} {R : It → Hp → Prop} (q : tl σ H fun x H1 => ∃ a, x = .ref a ∧ (∃ xs, SqL K H1 a xs) ∧ R (Itl K a) H1) : iList K tl σ H R := q
theorem w_iTup {tl : TE} {R : It → Hp → Prop} (q : tl σ H fun x H1 => ∃ a, x = .ref a ∧ (∃ xs, SqT K H1 a xs) ∧ R (Itt K a) H1) : iTup K tl σ H R := q
theorem w_iL {a : Addr} {xs : List V} {R : It → Hp → Prop} (h : SqL K H a xs) (q : R (Itl K a) H) : ∃ a', V.ref a = .ref a' ∧ (∃ xs, SqL K H a' xs) ∧ R (Itl K a') H := ⟨a, rfl, ⟨xs, h⟩, q⟩
theorem w_iT {a : Addr} {xs : List V} {R : It → Hp → Prop} (h : SqT K H a xs) (q : R (Itt K a) H) : ∃ a', V.ref a = .ref a' ∧ (∃ xs, SqT K H a' xs) ∧ R (Itt K a') H := ⟨a, rfl, ⟨xs, h⟩, q⟩
theorem f_list {a : Addr} {xs : List V} {g : TG} {tb : TS} (Pv : Nat → St → Hp → Prop) (h0 : Pv 0 σ H) (hl : ∀ i σ H, i ≤ xs.length → Pv i σ H → SqL K H a xs)
    (hs : ∀ i x σ H, xs[i]? = some x → Pv i σ H → g x σ H fun σ2 H2 => tb { D with nx := Pv (i + 1), ct := Pv (i + 1), bk := D.nx } σ2 H2) (hd : ∀ σ H, Pv xs.length σ H → D.nx σ H) : kFor g tb D σ (Itl K a) H :=
  for_list Pv h0 hl hs hd
theorem w_iteT {A B : Prop} {c : Bool} (hc : c = true) (q : A) : if c = true then A else B := by rw [if_pos hc]; exact q
theorem w_iteF {A B : Prop} {c : Bool} (hc : c = false) (q : B) : if c = true then A else B := by rw [if_neg (by rw [hc]; exact Bool.false_ne_true)]; exact q
theorem w_ite {A B : Prop} {c : Bool} (h1 : c = true → A) (h2 : c = false → B) : if c = true then A else B := by
  cases c with
  | true => exact w_iteT rfl (h1 rfl)
  | false => exact w_iteF rfl (h2 rfl)
end
end Sp

set_option Elab.async false
set_option linter.all false
set_option maxRecDepth 100000
set_option maxHeartbeats 2000000
namespace Sp
open PySem L2
/-! ### data -/
/-- a tree of boxes -/
inductive T where
  | nil
  | node (l : T) (s : Int × Int × Int) (r : T) (h m : Int)
/-- what a value stands for -/
inductive D where
  | non | bl (b : Bool) | int (i : Int) | str (x : Str)
  | tup (ds : List D) | lst (ds : List D)
  | scr (ns : List Int) | box (t : T) | wood (t : T)
/-- the written part, the class of boxes, that of woods -/
structure Wh where
  K : PySem.W.Frag
  b : Addr
  w : Addr
inductive TrR (W : Wh) (H : Hp) : V → T → Prop
  | nil : TrR W H .non .nil
  | node {a dx p : Addr} {vl vr : V} {l r : T} {x y z h m : Int} : H a = some (.ins W.b dx [("stretch", .ref p), ("left", vl), ("right", vr), ("tall", .int h), ("reach", .int m)]) →
      H p = some (.tup [.int x, .int y, .int z]) → TrR W H vl l → TrR W H vr r → TrR W H (.ref a) (.node l (x, y, z) r h m)
mutual
inductive Rp (W : Wh) (H : Hp) : V → D → Prop
  | non : Rp W H .non .non
  | bl (b : Bool) : Rp W H (.bl b) (.bl b)
  | int (i : Int) : Rp W H (.int i) (.int i)
  | str (x : Str) : Rp W H (.str x) (.str x)
  | tup {a : Addr} {xs : List V} {ds : List D} : H a = some (.tup xs) → Rps W H xs ds → Rp W H (.ref a) (.tup ds)
  | lst {a : Addr} {xs : List V} {ds : List D} : H a = some (.lst xs) → Rps W H xs ds → Rp W H (.ref a) (.lst ds)
  | scr {a : Addr} {ns : List Int} : SqL W.K H a (ns.map V.int) → Rp W H (.ref a) (.scr ns)
  | box {v : V} {t : T} : TrR W H v t → Rp W H v (.box t)
  | wood {a dx : Addr} {v : V} {t : T} : H a = some (.ins W.w dx [("_top", v)]) → TrR W H v t → Rp W H (.ref a) (.wood t)
inductive Rps (W : Wh) (H : Hp) : List V → List D → Prop
  | nil : Rps W H [] []
  | cons {v : V} {vs : List V} {d : D} {ds : List D} : Rp W H v d → Rps W H vs ds → Rps W H (v :: vs) (d :: ds)
end
section
variable {W : Wh} {H H' : Hp}
theorem TrR.mono (e : Same H H') : ∀ {v : V} {t : T}, TrR W H v t → TrR W H' v t := fun h => by
  induction h with
  | nil => exact .nil
  | node h1 h2 _ _ ih1 ih2 => exact .node (e _ _ h1) (e _ _ h2) ih1 ih2
mutual
theorem Rp.mono (e : Same H H') : ∀ {d : D} {v : V}, Rp W H v d → Rp W H' v d
  | .non, _, h => by cases h; exact .non
  | .bl _, _, h => by cases h; exact .bl _
  | .int _, _, h => by cases h; exact .int _
  | .str _, _, h => by cases h; exact .str _
  | .tup ds, _, h => by cases h with | tup h1 h2 => exact .tup (e _ _ h1) (Rps.mono e h2)
  | .lst ds, _, h => by cases h with | lst h1 h2 => exact .lst (e _ _ h1) (Rps.mono e h2)
  | .scr _, _, h => by cases h with | scr h1 => exact .scr (Same.seq e h1)
  | .box _, _, h => by cases h with | box h1 => exact .box (h1.mono e)
  | .wood _, _, h => by cases h with | wood h1 h2 => exact .wood (e _ _ h1) (h2.mono e)
theorem Rps.mono (e : Same H H') : ∀ {ds : List D} {vs : List V}, Rps W H vs ds → Rps W H' vs ds
  | [], _, h => by cases h; exact .nil
  | d :: ds, _, h => by cases h with | cons h1 h2 => exact .cons (Rp.mono e h1) (Rps.mono e h2)
end
theorem Rps.length : ∀ {ds : List D} {vs : List V}, Rps W H vs ds → vs.length = ds.length
  | [], _, h => by cases h; rfl
  | _ :: _, _, h => by cases h with | cons _ h2 => simp [Rps.length h2]
theorem Rps.get : ∀ {ds : List D} {vs : List V} {i : Nat} {d : D}, Rps W H vs ds → ds[i]? = some d → ∃ v, vs[i]? = some v ∧ Rp W H v d
  | _, _, 0, _, .cons r _, e => by simp at e; subst e; exact ⟨_, rfl, r⟩
  | _, _, i + 1, d, .cons _ t, e => by
    obtain ⟨v, h1, h2⟩ := Rps.get (i := i) (d := d) t (by simpa using e)
    exact ⟨v, by simpa using h1, h2⟩
  | _, _, _, _, .nil, e => by simp at e
theorem Rps.append : ∀ {ds es : List D} {vs us : List V}, Rps W H vs ds → Rps W H us es → Rps W H (vs ++ us) (ds ++ es)
  | _, _, _, _, .nil, h => h
  | _, _, _, _, .cons r t, h => .cons r (Rps.append t h)
theorem Rps.take : ∀ {ds : List D} {vs : List V} (n : Nat), Rps W H vs ds → Rps W H (vs.take n) (ds.take n)
  | _, _, 0, _ => .nil
  | _, _, _ + 1, .nil => .nil
  | _, _, n + 1, .cons r t => .cons r (Rps.take n t)
theorem Rps.drop : ∀ {ds : List D} {vs : List V} (n : Nat), Rps W H vs ds → Rps W H (vs.drop n) (ds.drop n)
  | _, _, 0, r => r
  | _, _, _ + 1, .nil => .nil
  | _, _, n + 1, .cons _ t => Rps.drop n t
theorem Rps.set {v : V} {d : D} (r : Rp W H v d) : ∀ {ds : List D} {vs : List V} (i : Nat), Rps W H vs ds → Rps W H (vs.set i v) (ds.set i d)
  | _, _, _, .nil => .nil
  | _, _, 0, .cons _ t => .cons r t
  | _, _, i + 1, .cons q t => .cons q (Rps.set r i t)
theorem Rps.ints : ∀ (ns : List Int), Rps W H (ns.map V.int) (ns.map D.int)
  | [] => .nil
  | n :: ns => .cons (.int n) (Rps.ints ns)
theorem Rps.of_ints : ∀ {ns : List Int} {vs : List V}, Rps W H vs (ns.map D.int) → vs = ns.map V.int
  | [], _, h => by cases h; rfl
  | _ :: _, _, h => by cases h with | cons h1 h2 => cases h1; rw [Rps.of_ints h2]; rfl
end
/-! ### no list within -/
mutual
def D.imm : D → Bool
  | .tup ds => D.imms ds
  | .lst _ => false
  | .scr _ => false
  | .wood _ => false
  | _ => true
def D.imms : List D → Bool
  | [] => true
  | d :: ds => d.imm && D.imms ds
end
/-- what is changed in its place: a list, a wood -/
def Mu (o : HO) : Prop := (∃ xs, o = .lst xs) ∨ ∃ (C dx : Addr) (v : V), o = .ins C dx [("_top", v)]
theorem mu_lst {xs : List V} : Mu (.lst xs) := .inl ⟨_, rfl⟩
theorem mu_wood {C dx : Addr} {v : V} : Mu (.ins C dx [("_top", v)]) := .inr ⟨_, _, _, rfl⟩
theorem mu_tup {xs : List V} : ¬ Mu (.tup xs) := fun h => by
  rcases h with ⟨_, z⟩ | ⟨_, _, _, z⟩ <;> cases z
theorem mu_box {C dx : Addr} {a b c d e : Str × V} : ¬ Mu (.ins C dx [a, b, c, d, e]) := fun h => by
  rcases h with ⟨_, z⟩ | ⟨_, _, _, z⟩ <;> cases z
/-- all but lists and woods stand -/
def Keep (H H' : Hp) : Prop := ∀ b o, H b = some o → ¬ Mu o → H' b = some o
section
variable {W : Wh} {H H' : Hp}
theorem Same.keep (e : Same H H') : Keep H H' := fun b o h _ => e b o h
theorem TrR.keep (e : Keep H H') : ∀ {v : V} {t : T}, TrR W H v t → TrR W H' v t := fun h => by
  induction h with
  | nil => exact .nil
  | node h1 h2 _ _ ih1 ih2 => exact .node (e _ _ h1 mu_box) (e _ _ h2 mu_tup) ih1 ih2
mutual
theorem Rp.keep (e : Keep H H') : ∀ {d : D} {v : V}, d.imm = true → Rp W H v d → Rp W H' v d
  | .non, _, _, h => by cases h; exact .non
  | .bl _, _, _, h => by cases h; exact .bl _
  | .int _, _, _, h => by cases h; exact .int _
  | .str _, _, _, h => by cases h; exact .str _
  | .tup ds, _, i, h => by cases h with | tup h1 h2 => exact .tup (e _ _ h1 mu_tup) (Rps.keep e (by rw [D.imm] at i; exact i) h2)
  | .lst ds, _, i, h => by rw [D.imm] at i; cases i
  | .scr _, _, i, h => by rw [D.imm] at i; cases i
  | .box _, _, _, h => by cases h with | box h1 => exact .box (h1.keep e)
  | .wood _, _, i, h => by rw [D.imm] at i; cases i
theorem Rps.keep (e : Keep H H') : ∀ {ds : List D} {vs : List V}, D.imms ds = true → Rps W H vs ds → Rps W H' vs ds
  | [], _, _, h => by cases h; exact .nil
  | d :: ds, _, i, h => by
    rw [D.imms, Bool.and_eq_true] at i
    cases h with | cons h1 h2 => exact .cons (Rp.keep e i.1 h1) (Rps.keep e i.2 h2)
end
end
/-! ### as the library's data -/
mutual
def D.py : D → Option PyData
  | .non => some .none
  | .bl b => some (.bool b)
  | .int i => some (.int i)
  | .str x => some (.str x)
  | .tup ds => (D.pys ds).map .tuple
  | .lst ds => (D.pys ds).map .list
  | .scr _ => none
  | .box _ => none
  | .wood _ => none
def D.pys : List D → Option (List PyData)
  | [] => some []
  | d :: ds => d.py.bind fun p => (D.pys ds).map fun ps => p :: ps
end
section
variable {W : Wh} {H H' : Hp}
mutual
theorem Rp.dp : ∀ {d : D} {v : V} {p : PyData}, Rp W H v d → d.py = some p → Dp W.K H v p
  | .non, _, _, h, e => by cases h; rw [D.py] at e; cases e; exact .non
  | .bl _, _, _, h, e => by cases h; rw [D.py] at e; cases e; exact .bl _
  | .int _, _, _, h, e => by cases h; rw [D.py] at e; cases e; exact .int _
  | .str _, _, _, h, e => by cases h; rw [D.py] at e; cases e; exact .str _
  | .tup ds, _, p, h, e => by
    rw [D.py, Option.map_eq_some_iff] at e
    obtain ⟨ps, e1, rfl⟩ := e
    cases h with | tup h1 h2 => exact .tup (SqT.of h1) (Rps.dp h2 e1)
  | .lst ds, _, p, h, e => by
    rw [D.py, Option.map_eq_some_iff] at e
    obtain ⟨ps, e1, rfl⟩ := e
    cases h with | lst h1 h2 => exact .lst (SqL.of h1) (Rps.dp h2 e1)
  | .scr _, _, _, h, e => by rw [D.py] at e; cases e
  | .box _, _, _, h, e => by rw [D.py] at e; cases e
  | .wood _, _, _, h, e => by rw [D.py] at e; cases e
theorem Rps.dp : ∀ {ds : List D} {vs : List V} {ps : List PyData}, Rps W H vs ds → D.pys ds = some ps → DpAll W.K H vs ps
  | [], _, _, h, e => by cases h; rw [D.pys] at e; cases e; exact .nil
  | d :: ds, _, ps, h, e => by
    rw [D.pys, Option.bind_eq_some_iff] at e
    obtain ⟨p, e1, e2⟩ := e
    rw [Option.map_eq_some_iff] at e2
    obtain ⟨qs, e3, rfl⟩ := e2
    cases h with | cons h1 h2 => exact .cons (Rp.dp h1 e1) (Rps.dp h2 e3)
end
end
/-! ### the frame of a def, as data -/
abbrev DEnv := List (Option D)
def gt : DEnv → Nat → Option D
  | [], _ => none
  | x :: _, 0 => x
  | _ :: r, n + 1 => gt r n
theorem gt_get : ∀ (ρ : DEnv) (i : Nat), gt ρ i = (ρ[i]?).join
  | [], i => by simp [gt]
  | x :: r, 0 => by simp [gt]
  | x :: r, n + 1 => by simp [gt, gt_get r n]
theorem gt_set (ρ : DEnv) (i j : Nat) (x : Option D) : gt (ρ.set i x) j = if i = j ∧ i < ρ.length then x else gt ρ j := by
  rw [gt_get, gt_get, List.getElem?_set]
  by_cases h : i = j
  · subst h
    by_cases h2 : i < ρ.length
    · simp [h2]
    · simp [h2]
  · simp [h]
def RE (W : Wh) (H : Hp) (ρ : DEnv) (σ : St) : Prop := ∀ i d, gt ρ i = some d → ∃ x, σ[i]? = some (some x) ∧ Rp W H x d
theorem RE.mono {W : Wh} {H H' : Hp} {ρ : DEnv} {σ : St} (e : Same H H') (r : RE W H ρ σ) : RE W H' ρ σ := fun i d h => by
  obtain ⟨x, h1, h2⟩ := r i d h
  exact ⟨x, h1, h2.mono e⟩
/-- a list that was not there before -/
def FrL (H H' : Hp) (v : V) : Prop := ∃ a xs, v = .ref a ∧ H a = none ∧ H' a = some (.lst xs)
theorem FrL.back {H H1 H2 : Hp} {v : V} (e : Same H H1) (f : FrL H1 H2 v) : FrL H H2 v := by
  obtain ⟨a, xs, h1, h2, h3⟩ := f
  exact ⟨a, xs, h1, e.free h2, h3⟩
/-! ### readings by data -/
abbrev EM := DEnv → Option D
def tX (W : Wh) (fr : Bool) (m : EM) : TE := fun σ H Q => ∃ ρ d, RE W H ρ σ ∧ m ρ = some d ∧ ∀ v H', Same H H' → Rp W H' v d → (fr = true → FrL H H' v) → Q v H'
def tXs (W : Wh) (m : DEnv → Option (List D)) : TA := fun σ H Q => ∃ ρ ds, RE W H ρ σ ∧ m ρ = some ds ∧ ∀ vs H', Same H H' → Rps W H' vs ds → Q vs H'
def tXt (W : Wh) (m : DEnv → Option Bool) : TT := fun σ H Q => ∃ ρ b, RE W H ρ σ ∧ m ρ = some b ∧ ∀ H', Same H H' → Q b H'
theorem PE.imp {X : Cx} {e : Expr} {t t' : TE} (h : PE X e t) (i : ∀ σ H Q, t' σ H Q → t σ H Q) : PE X e t' := ⟨fun pins s σ H Q I q => h.run pins s σ H Q I (i σ H Q q)⟩
theorem PT.imp {X : Cx} {e : Expr} {t t' : TT} (h : PT X e t) (i : ∀ σ H Q, t' σ H Q → t σ H Q) : PT X e t' := ⟨fun pins s σ H Q I q => h.run pins s σ H Q I (i σ H Q q)⟩
theorem PW.imp {X : Cx} {e : Expr} {t t' : TT} (h : PW X e t) (i : ∀ σ H Q, t' σ H Q → t σ H Q) : PW X e t' := ⟨fun w pins s σ H Q I q => h.run w pins s σ H Q I (i σ H Q q)⟩
theorem PA.imp {X : Cx} {e : List Expr} {t t' : TA} (h : PA X e t) (i : ∀ σ H Q, t' σ H Q → t σ H Q) : PA X e t' := ⟨fun p pins s σ H Q I q => h.run p pins s σ H Q I (i σ H Q q)⟩
theorem PS.imp {X : Cx} {e : Stmt} {t t' : TS} (h : PS X e t) (i : ∀ D σ H, t' D σ H → t D σ H) : PS X e t' := ⟨fun pins s σ H D I q => h.run pins s σ H D I (i D σ H q)⟩
theorem PSs.imp {X : Cx} {e : List Stmt} {t t' : TS} (h : PSs X e t) (i : ∀ D σ H, t' D σ H → t D σ H) : PSs X e t' := ⟨fun pins s σ H D I q => h.run pins s σ H D I (i D σ H q)⟩
abbrev EV (X : Cx) (W : Wh) (e : Expr) (fr : Bool) (m : EM) : Prop := PE X e (tX W fr m)
/-- two readings in a row -/
theorem tX_bin {W : Wh} {fa fb : Bool} {ma mb : EM} {σ : St} {H : Hp} {R : V → V → Hp → Prop} {ρ : DEnv} {x y : D} (r : RE W H ρ σ) (ea : ma ρ = some x) (eb : mb ρ = some y)
    (k : ∀ vx vy H', Same H H' → Rp W H' vx x → Rp W H' vy y → R vx vy H') : tX W fa ma σ H fun vx H1 => tX W fb mb σ H1 fun vy H2 => R vx vy H2 :=
  ⟨ρ, x, r, ea, fun vx H1 e1 r1 _ => ⟨ρ, y, r.mono e1, eb, fun vy H2 e2 r2 _ => k vx vy H2 (e1.trans e2) (r1.mono e2) r2⟩⟩
/-- what an operator of two values does, by data -/
def BinOk (W : Wh) (fr : Bool) (r : R2) (f : D → D → Option D) : Prop :=
  ∀ H x y dx dy d (Q : VK), Rp W H x dx → Rp W H y dy → f dx dy = some d → (∀ v H', Same H H' → Rp W H' v d → (fr = true → FrL H H' v) → Q v H') → r x y H Q
def eOp (f : D → D → Option D) (a b : EM) : EM := fun ρ => (a ρ).bind fun x => (b ρ).bind fun y => f x y
theorem eOp_some {f : D → D → Option D} {a b : EM} {ρ : DEnv} {d : D} (h : eOp f a b ρ = some d) : ∃ x y, a ρ = some x ∧ b ρ = some y ∧ f x y = some d := by
  unfold eOp at h
  rw [Option.bind_eq_some_iff] at h
  obtain ⟨x, h1, h2⟩ := h
  rw [Option.bind_eq_some_iff] at h2
  obtain ⟨y, h3, h4⟩ := h2
  exact ⟨x, y, h1, h3, h4⟩
theorem tOp_of {W : Wh} {fr fa fb : Bool} {r : R2} {f : D → D → Option D} {ma mb : EM} (ok : BinOk W fr r f) : ∀ σ H Q, tX W fr (eOp f ma mb) σ H Q → tOp r (tX W fa ma) (tX W fb mb) σ H Q := by
  intro σ H Q ⟨ρ, d, rr, e, k⟩
  obtain ⟨x, y, e1, e2, e3⟩ := eOp_some e
  exact tX_bin rr e1 e2 fun vx vy H' s r1 r2 => ok H' vx vy x y d Q r1 r2 e3 fun v H2 s2 r3 f3 => k v H2 (s.trans s2) r3 fun z => (f3 z).back s
section
variable {X : Cx} {W : Wh} {a b c e : Expr} {es : List Expr} {pos : Pos} {fr fa fb fc : Bool} {ma mb mc : EM}
def eVar (i : Nat) : EM := fun ρ => gt ρ i
def eC (d : D) : EM := fun _ => some d
theorem ev_var (i : Nat) {x : Str} {pos : Pos} (hN : X.N[i]? = some x := by rfl) (hv : Vis X.env.scope x := by first | exact Or.inl rfl | exact Or.inr (Or.inl rfl) | exact Or.inr (Or.inr rfl)) (hd : (x == ("__debug__" : Str)) = false := by decide)
    (hcd : (x == ("__classdict__" : Str)) = false := by decide) : EV X W (.Name x pos) false (eVar i) :=
  PE.imp (pe_var hN hv hd hcd) fun σ H Q ⟨ρ, d, r, e, k⟩ => by
    obtain ⟨v, h1, h2⟩ := r i d e
    exact ⟨v, h1, k v H (Same.refl H) h2 (fun z => nomatch z)⟩
theorem ev_c {v : V} {d : D} (h : PE X e (tC v)) (hr : ∀ H, Rp W H v d := by intro _; constructor) : EV X W e false (eC d) :=
  PE.imp h fun σ H Q ⟨ρ, d', r, e, k⟩ => by
    cases e
    exact k v H (Same.refl H) (hr H) (fun z => nomatch z)
theorem ev_int {i j pos} : EV X W (.Constant (.int i) j pos) false (eC (.int i)) := ev_c pe_int
theorem ev_bl {i j pos} : EV X W (.Constant (.bool i) j pos) false (eC (.bl i)) := ev_c pe_bl
theorem ev_str {i j pos} : EV X W (.Constant (.str i) j pos) false (eC (.str i)) := ev_c pe_str
theorem ev_non {j pos} : EV X W (.Constant .none j pos) false (eC .non) := ev_c pe_non
theorem ev_op {op : Operator} {r : R2} {f : D → D → Option D} (ok : BinOk W fr r f) (ho : OpR X (binaryOp op) r) (ha : EV X W a fa ma) (hb : EV X W b fb mb) : EV X W (.BinOp a op b pos) fr (eOp f ma mb) :=
  PE.imp (pe_op ho ha hb) (tOp_of ok)
theorem ev_cmp {op : CmpOp} {r : R2} {f : D → D → Option D} (ok : BinOk W fr r f) (ho : OpR X (compareOp op) r) (hm : behindInMarks op b = false) (ha : EV X W a fa ma) (hb : EV X W b fb mb) : EV X W (.Compare a [op] [b] pos) fr (eOp f ma mb) :=
  PE.imp (pe_cmpR ho ha hb hm) (tOp_of ok)
theorem ev_ix {r : R2} {f : D → D → Option D} (ok : BinOk W fr r f) (ho : IxR X r) (ha : EV X W a fa ma) (hb : EV X W b fb mb) (hs : PlainIx b := by exact fun _ _ => rfl) : EV X W (.Subscript a b pos) fr (eOp f ma mb) :=
  PE.imp (pe_ix ho ha hb hs) (tOp_of ok)
/-! #### arguments -/
def eNil : DEnv → Option (List D) := fun _ => some []
def eCons (a : EM) (r : DEnv → Option (List D)) : DEnv → Option (List D) := fun ρ => (a ρ).bind fun x => (r ρ).bind fun xs => some (x :: xs)
theorem eCons_some {a : EM} {r : DEnv → Option (List D)} {ρ : DEnv} {ds : List D} (h : eCons a r ρ = some ds) : ∃ x xs, a ρ = some x ∧ r ρ = some xs ∧ ds = x :: xs := by
  unfold eCons at h
  rw [Option.bind_eq_some_iff] at h
  obtain ⟨x, h1, h2⟩ := h
  rw [Option.bind_eq_some_iff] at h2
  obtain ⟨y, h3, h4⟩ := h2
  exact ⟨x, y, h1, h3, (Option.some.inj h4).symm⟩
theorem ea_nil : PA X [] (tXs W eNil) := PA.imp pa_nil fun σ H Q ⟨ρ, ds, r, e, k⟩ => by
  cases e
  exact k [] H (Same.refl H) .nil
theorem ea_cons {mr : DEnv → Option (List D)} (ha : EV X W e fa ma) (hr : PA X es (tXs W mr)) (hs : starEach (e :: es) X.env = (false, eval e X.env) :: starEach es X.env := by rfl) : PA X (e :: es) (tXs W (eCons ma mr)) :=
  PA.imp (pa_cons ha hr hs) fun σ H Q ⟨ρ, ds, r, e, k⟩ => by
    obtain ⟨x, xs, e1, e2, rfl⟩ := eCons_some e
    exact ⟨ρ, x, r, e1, fun v H1 s1 r1 _ => ⟨ρ, xs, r.mono s1, e2, fun vs H2 s2 r2 => k (v :: vs) H2 (s1.trans s2) (.cons (r1.mono s2) r2)⟩⟩
/-- a call by values -/
def CallOk (W : Wh) (fr : Bool) (r : List V → Hp → VK → Prop) (f : List D → Option D) : Prop :=
  ∀ H vs ds d (Q : VK), Rps W H vs ds → f ds = some d → (∀ v H', Same H H' → Rp W H' v d → (fr = true → FrL H H' v) → Q v H') → r vs H Q
def eCall (f : List D → Option D) (as : DEnv → Option (List D)) : EM := fun ρ => (as ρ).bind f
theorem tCB_of {fr : Bool} {r : List V → Hp → VK → Prop} {f : List D → Option D} {ms : DEnv → Option (List D)} (ok : CallOk W fr r f) : ∀ σ H Q, tX W fr (eCall f ms) σ H Q → tXs W ms σ H fun vs H1 => r vs H1 Q := by
  intro σ H Q ⟨ρ, d, rr, e, k⟩
  unfold eCall at e
  rw [Option.bind_eq_some_iff] at e
  obtain ⟨ds, e1, e2⟩ := e
  exact ⟨ρ, ds, rr, e1, fun vs H1 s1 r1 => ok H1 vs ds d Q r1 e2 fun v H2 s2 r3 f3 => k v H2 (s1.trans s2) r3 fun z => (f3 z).back s1⟩
/-- the promise of a def by data -/
def spD (W : Wh) (fr : Bool) (f : List D → Option D) : L2.Sp := fun vs H Q _ => ∃ ds d, Rps W H vs ds ∧ f ds = some d ∧ ∀ v H', Same H H' → Rp W H' v d → (fr = true → FrL H H' v) → Q v H'
theorem spD_ok {fr : Bool} {f : List D → Option D} {E : XK} : CallOk W fr (fun vs H Q => spD W fr f (vs ++ []) H Q E) f := fun H vs ds d Q r e k => ⟨ds, d, by rw [List.append_nil]; exact r, e, k⟩
end
end Sp

set_option Elab.async false
set_option linter.all false
set_option maxRecDepth 100000
set_option maxHeartbeats 2000000
namespace Sp
open PySem L2
open Classical
noncomputable section
/-! ### operators by data -/
def dII (f : Int → Int → Option D) : D → D → Option D
  | .int i, .int j => f i j
  | _, _ => none
def guard (c : Prop) (d : D) : Option D := if c then some d else none
theorem guard_some {c : Prop} {d e : D} (h : guard c d = some e) : c ∧ d = e := by
  unfold guard at h
  split at h
  · exact ⟨by assumption, Option.some.inj h⟩
  · cases h
theorem guard_of {c : Prop} {d : D} (h : c) : guard c d = some d := by unfold guard; rw [if_pos h]
theorem dII_some {f : Int → Int → Option D} {x y d : D} (h : dII f x y = some d) : ∃ i j, x = .int i ∧ y = .int j ∧ f i j = some d := by
  cases x <;> cases y <;> first | exact ⟨_, _, rfl, rfl, h⟩ | cases h
abbrev dAdd := dII fun i j => some (.int (i + j))
abbrev dSub := dII fun i j => some (.int (i - j))
abbrev dMul := dII fun i j => guard (MulOk i j) (.int (i * j))
abbrev dFdiv := dII fun i j => guard (0 < j ∧ j < 1073741824) (.int (i / j))
abbrev dMod := dII fun i j => guard (0 < j) (.int (i % j))
abbrev dPow := dII fun i j => guard (CPow i j) (.int (i ^ j.toNat))
abbrev dLt := dII fun i j => some (.bl (decide (i < j)))
abbrev dLe := dII fun i j => some (.bl (decide (i ≤ j)))
abbrev dGt := dII fun i j => some (.bl (decide (j < i)))
abbrev dGe := dII fun i j => some (.bl (decide (j ≤ i)))
section
variable {W : Wh} {X : Cx}
theorem bII0 {g : Int → Int → Int} : BinOk W false (rI0 fun i j => .int (g i j)) (dII fun i j => some (.int (g i j))) := by
  intro H x y dx dy d Q r1 r2 e k
  obtain ⟨i, j, rfl, rfl, e⟩ := dII_some e
  cases e; cases r1; cases r2
  exact ⟨i, j, rfl, rfl, k _ H (Same.refl H) (.int _) (fun z => nomatch z)⟩
theorem bIB0 {g : Int → Int → Bool} : BinOk W false (rI0 fun i j => .bl (g i j)) (dII fun i j => some (.bl (g i j))) := by
  intro H x y dx dy d Q r1 r2 e k
  obtain ⟨i, j, rfl, rfl, e⟩ := dII_some e
  cases e; cases r1; cases r2
  exact ⟨i, j, rfl, rfl, k _ H (Same.refl H) (.bl _) (fun z => nomatch z)⟩
theorem bIC {C : Int → Int → Prop} {g : Int → Int → Int} : BinOk W false (rI C fun i j => .int (g i j)) (dII fun i j => guard (C i j) (.int (g i j))) := by
  intro H x y dx dy d Q r1 r2 e k
  obtain ⟨i, j, rfl, rfl, e⟩ := dII_some e
  obtain ⟨c, rfl⟩ := guard_some e
  cases r1; cases r2
  exact ⟨i, j, rfl, rfl, c, k _ H (Same.refl H) (.int _) (fun z => nomatch z)⟩
end
section
variable {X : Cx} {W : Wh} {a b c e : Expr} {es : List Expr} {pos : Pos} {fr fa fb fc : Bool} {ma mb mc : EM}
theorem ev_add (ha : EV X W a fa ma) (hb : EV X W b fb mb) : EV X W (.BinOp a .Add b pos) false (eOp dAdd ma mb) := ev_op bII0 op_add ha hb
theorem ev_sub (ha : EV X W a fa ma) (hb : EV X W b fb mb) : EV X W (.BinOp a .Sub b pos) false (eOp dSub ma mb) := ev_op bII0 op_sub ha hb
theorem ev_mul (ha : EV X W a fa ma) (hb : EV X W b fb mb) : EV X W (.BinOp a .Mult b pos) false (eOp dMul ma mb) := ev_op bIC op_mulX ha hb
theorem ev_fdiv (ha : EV X W a fa ma) (hb : EV X W b fb mb) : EV X W (.BinOp a .FloorDiv b pos) false (eOp dFdiv ma mb) := ev_op (bIC (C := CDiv)) op_fdiv ha hb
theorem ev_mod (ha : EV X W a fa ma) (hb : EV X W b fb mb) : EV X W (.BinOp a .Mod b pos) false (eOp dMod ma mb) := ev_op (bIC (C := fun _ j => 0 < j)) op_mod ha hb
theorem ev_pow (ha : EV X W a fa ma) (hb : EV X W b fb mb) : EV X W (.BinOp a .Pow b pos) false (eOp dPow ma mb) := ev_op bIC op_pow ha hb
theorem ev_lt (ha : EV X W a fa ma) (hb : EV X W b fb mb) : EV X W (.Compare a [.Lt] [b] pos) false (eOp dLt ma mb) := ev_cmp bIB0 op_lt (nomark _) ha hb
theorem ev_le (ha : EV X W a fa ma) (hb : EV X W b fb mb) : EV X W (.Compare a [.LtE] [b] pos) false (eOp dLe ma mb) := ev_cmp bIB0 op_le (nomark _) ha hb
theorem ev_gt (ha : EV X W a fa ma) (hb : EV X W b fb mb) : EV X W (.Compare a [.Gt] [b] pos) false (eOp dGt ma mb) := ev_cmp bIB0 op_gt (nomark _) ha hb
theorem ev_ge (ha : EV X W a fa ma) (hb : EV X W b fb mb) : EV X W (.Compare a [.GtE] [b] pos) false (eOp dGe ma mb) := ev_cmp bIB0 op_ge (nomark _) ha hb
end
/-! #### equality -/
def dEq (x y : D) : Option D := x.py.bind fun p => y.py.bind fun q => guard (SeqAt.shaped p = true ∧ SeqAt.shaped q = true) (.bl (PyData.eqv p q))
def dNe (x y : D) : Option D := x.py.bind fun p => y.py.bind fun q => guard (SeqAt.shaped p = true ∧ SeqAt.shaped q = true) (.bl (!PyData.eqv p q))
/-- x in xs, xs a list -/
def dIn (x y : D) : Option D := match y with
  | .lst ds => x.py.bind fun p => (D.pys ds).bind fun qs => guard (SeqAt.shaped p = true ∧ SeqAt.shaped (.list qs) = true) (.bl (qs.any fun z => PyData.eqv z p))
  | _ => none
def dNotIn (x y : D) : Option D := match y with
  | .lst ds => x.py.bind fun p => (D.pys ds).bind fun qs => guard (SeqAt.shaped p = true ∧ SeqAt.shaped (.list qs) = true) (.bl (!qs.any fun z => PyData.eqv z p))
  | _ => none
theorem py2_some {x y d : D} {g : PyData → PyData → Bool} (h : (x.py.bind fun p => y.py.bind fun q => guard (SeqAt.shaped p = true ∧ SeqAt.shaped q = true) (.bl (g p q))) = some d) :
    ∃ p q, x.py = some p ∧ y.py = some q ∧ SeqAt.shaped p = true ∧ SeqAt.shaped q = true ∧ d = .bl (g p q) := by
  rw [Option.bind_eq_some_iff] at h
  obtain ⟨p, h1, h⟩ := h
  rw [Option.bind_eq_some_iff] at h
  obtain ⟨q, h2, h⟩ := h
  obtain ⟨⟨c1, c2⟩, rfl⟩ := guard_some h
  exact ⟨p, q, h1, h2, c1, c2, rfl⟩
section
variable {X : Cx} {W : Wh} {a b c e : Expr} {es : List Expr} {pos : Pos} {fr fa fb fc : Bool} {ma mb mc : EM}
theorem bEq : BinOk W false (rEqD W.K) dEq := by
  intro H x y dx dy d Q r1 r2 e k
  obtain ⟨p, q, h1, h2, c1, c2, rfl⟩ := py2_some e
  exact ⟨p, q, r1.dp h1, r2.dp h2, c1, c2, k _ H (Same.refl H) (.bl _) (fun z => nomatch z)⟩
theorem bNe : BinOk W false (rNeD W.K) dNe := by
  intro H x y dx dy d Q r1 r2 e k
  obtain ⟨p, q, h1, h2, c1, c2, rfl⟩ := py2_some (g := fun p q => !PyData.eqv p q) e
  exact ⟨p, q, r1.dp h1, r2.dp h2, c1, c2, k _ H (Same.refl H) (.bl _) (fun z => nomatch z)⟩
theorem bIn : BinOk W false (rInD W.K) dIn := by
  intro H x y dx dy d Q r1 r2 e k
  cases dy with
  | lst ds =>
    have e : (dx.py.bind fun p => (D.pys ds).bind fun qs => guard (SeqAt.shaped p = true ∧ SeqAt.shaped (.list qs) = true) (.bl (qs.any fun z => PyData.eqv z p))) = some d := e
    rw [Option.bind_eq_some_iff] at e
    obtain ⟨p, h1, e⟩ := e
    rw [Option.bind_eq_some_iff] at e
    obtain ⟨qs, h2, e⟩ := e
    obtain ⟨⟨c1, c2⟩, rfl⟩ := guard_some e
    exact ⟨p, qs, r1.dp h1, r2.dp (by rw [D.py, h2]; rfl), c1, c2, k _ H (Same.refl H) (.bl _) (fun z => nomatch z)⟩
  | _ => cases e
theorem bNotIn : BinOk W false (rNotInD W.K) dNotIn := by
  intro H x y dx dy d Q r1 r2 e k
  cases dy with
  | lst ds =>
    have e : (dx.py.bind fun p => (D.pys ds).bind fun qs => guard (SeqAt.shaped p = true ∧ SeqAt.shaped (.list qs) = true) (.bl (!qs.any fun z => PyData.eqv z p))) = some d := e
    rw [Option.bind_eq_some_iff] at e
    obtain ⟨p, h1, e⟩ := e
    rw [Option.bind_eq_some_iff] at e
    obtain ⟨qs, h2, e⟩ := e
    obtain ⟨⟨c1, c2⟩, rfl⟩ := guard_some e
    exact ⟨p, qs, r1.dp h1, r2.dp (by rw [D.py, h2]; rfl), c1, c2, k _ H (Same.refl H) (.bl _) (fun z => nomatch z)⟩
  | _ => cases e
theorem ev_eq (hK : X.K = W.K) (hu : X.A.units + 64 < cLine) (ha : EV X W a fa ma) (hb : EV X W b fb mb) : EV X W (.Compare a [.Eq] [b] pos) false (eOp dEq ma mb) := ev_cmp (hK ▸ bEq) (op_eqD hu) (nomark _) ha hb
theorem ev_ne (hK : X.K = W.K) (hu : X.A.units + 64 < cLine) (ha : EV X W a fa ma) (hb : EV X W b fb mb) : EV X W (.Compare a [.NotEq] [b] pos) false (eOp dNe ma mb) := ev_cmp (hK ▸ bNe) (op_neD hu) (nomark _) ha hb
theorem ev_in (hK : X.K = W.K) (hu : X.A.units + 65 < cLine) (hm : behindInMarks .In b = false) (ha : EV X W a fa ma) (hb : EV X W b fb mb) : EV X W (.Compare a [.In] [b] pos) false (eOp dIn ma mb) := ev_cmp (hK ▸ bIn) (op_inD hu) hm ha hb
theorem ev_notIn (hK : X.K = W.K) (hu : X.A.units + 65 < cLine) (hm : behindInMarks .NotIn b = false) (ha : EV X W a fa ma) (hb : EV X W b fb mb) : EV X W (.Compare a [.NotIn] [b] pos) false (eOp dNotIn ma mb) := ev_cmp (hK ▸ bNotIn) (op_notInD hu) hm ha hb
end
/-- ints all -/
def D.ints : List D → Option (List Int)
  | [] => some []
  | .int j :: r => (D.ints r).map fun js => j :: js
  | _ :: _ => none
theorem D.ints_map (ns : List Int) : D.ints (ns.map D.int) = some ns := by
  induction ns with
  | nil => rfl
  | cons n ns ih => rw [List.map_cons, D.ints, ih]; rfl
theorem D.of_ints : ∀ {ds : List D} {ns : List Int}, D.ints ds = some ns → ds = ns.map D.int
  | [], ns, h => by cases h; rfl
  | d :: r, ns, h => by
    cases d with
    | int j =>
      rw [D.ints, Option.map_eq_some_iff] at h
      obtain ⟨js, h1, rfl⟩ := h
      rw [D.of_ints h1]; rfl
    | _ => cases h
/-- k in (2, 3), ints -/
def dInT (x y : D) : Option D := match x, y with
  | .int i, .tup ds => (D.ints ds).map fun js => .bl (decide (i ∈ js))
  | _, _ => none
/-- is None; is True, False (of an int: never) -/
def dIsN (x : D) : Option D := match x with
  | .box .nil => some (.bl true)
  | .box _ => some (.bl false)
  | .non => some (.bl true)
  | _ => some (.bl false)
def dNotN (x : D) : Option D := match x with
  | .box .nil => some (.bl false)
  | .box _ => some (.bl true)
  | .non => some (.bl false)
  | _ => some (.bl true)
theorem Rp.isN {W : Wh} {H : Hp} {v : V} {d : D} (r : Rp W H v d) : dIsN d = some (.bl (decide (v = .non))) ∧ dNotN d = some (.bl (!decide (v = .non))) := by
  cases r with
  | box h => cases h <;> exact ⟨rfl, rfl⟩
  | _ => exact ⟨rfl, rfl⟩
section
variable {X : Cx} {W : Wh} {a b c e : Expr} {es : List Expr} {pos : Pos} {fr fa fb fc : Bool} {ma mb mc : EM}
def eUn (f : D → Option D) (a : EM) : EM := fun ρ => (a ρ).bind f
theorem ev_isN {j pos'} (ha : EV X W a fa ma) : EV X W (.Compare a [.Is] [.Constant .none j pos'] pos) false (eUn dIsN ma) :=
  PE.imp (pe_cmp (pc_isN ha)) fun σ H Q ⟨ρ, d, r, e, k⟩ => by
    unfold eUn at e
    rw [Option.bind_eq_some_iff] at e
    obtain ⟨x, e1, e2⟩ := e
    exact ⟨ρ, x, r, e1, fun v H1 s1 r1 _ => k _ H1 s1 (by rw [r1.isN.1] at e2; cases e2; exact .bl _) (fun z => nomatch z)⟩
theorem ev_notN {j pos'} (ha : EV X W a fa ma) : EV X W (.Compare a [.IsNot] [.Constant .none j pos'] pos) false (eUn dNotN ma) :=
  PE.imp (pe_cmp (pc_notN ha)) fun σ H Q ⟨ρ, d, r, e, k⟩ => by
    unfold eUn at e
    rw [Option.bind_eq_some_iff] at e
    obtain ⟨x, e1, e2⟩ := e
    exact ⟨ρ, x, r, e1, fun v H1 s1 r1 _ => k _ H1 s1 (by rw [r1.isN.2] at e2; cases e2; exact .bl _) (fun z => nomatch z)⟩
end
/-! #### lists -/
def dIx (x y : D) : Option D := match x, y with
  | .lst ds, .int i => atI ds i
  | .tup ds, .int i => atI ds i
  | .scr ns, .int i => (atI ns i).map .int
  | _, _ => none
theorem Rps.atI {W : Wh} {H : Hp} {ds : List D} {vs : List V} {i : Int} {d : D} (r : Rps W H vs ds) (h : atI ds i = some d) : ∃ v, atI vs i = some v ∧ Rp W H v d := by
  unfold L2.atI at h ⊢
  rw [r.length]
  rw [Option.bind_eq_some_iff] at h
  obtain ⟨j, h1, h2⟩ := h
  obtain ⟨v, h3, h4⟩ := r.get h2
  exact ⟨v, by rw [h1]; exact h3, h4⟩
def dCat (x y : D) : Option D := match x, y with
  | .lst ds, .lst es => guard (ds.length + es.length ≤ sizeLine) (.lst (ds ++ es))
  | _, _ => none
/-- no tuple is empty here -/
def dCatT (x y : D) : Option D := match x, y with
  | .tup ds, .tup es => guard (ds ≠ [] ∧ es ≠ [] ∧ ds.length + es.length ≤ sizeLine) (.tup (ds ++ es))
  | _, _ => none
def dRep (x y : D) : Option D := match x, y with
  | .lst ds, .int k => guard (-(2 ^ 63) ≤ k ∧ k < 2 ^ 63 ∧ ds.length * k.toNat ≤ sizeLine) (.lst (List.replicate k.toNat ds).flatten)
  | _, _ => none
theorem Rps.rep {W : Wh} {H : Hp} {ds : List D} {vs : List V} (r : Rps W H vs ds) : ∀ k : Nat, Rps W H (List.replicate k vs).flatten (List.replicate k ds).flatten
  | 0 => .nil
  | k + 1 => by
    rw [List.replicate_succ, List.replicate_succ, List.flatten_cons, List.flatten_cons]
    exact r.append (Rps.rep r k)
theorem frl_upd {H : Hp} {p : Addr} {xs : List V} (h : H p = none) : FrL H (upd H p (.lst xs)) (.ref p) := ⟨p, xs, rfl, h, upd_same⟩
theorem rp_newL {W : Wh} {H : Hp} {p : Addr} {xs : List V} {ds : List D} (h : H p = none) (r : Rps W H xs ds) : Rp W (upd H p (.lst xs)) (.ref p) (.lst ds) := .lst upd_same (r.mono (same_new h))
theorem rp_newT {W : Wh} {H : Hp} {p : Addr} {xs : List V} {ds : List D} (h : H p = none) (r : Rps W H xs ds) : Rp W (upd H p (.tup xs)) (.ref p) (.tup ds) := .tup upd_same (r.mono (same_new h))
section
variable {X : Cx} {W : Wh} {a b c e : Expr} {es : List Expr} {pos : Pos} {fr fa fb fc : Bool} {ma mb mc : EM}
theorem bIxL : BinOk W false (rIxL W.K) (fun x y => match x with | .tup _ => none | x => dIx x y) := by
  intro H x y dx dy d Q r1 r2 e k
  cases dx with
  | lst ds =>
    cases dy with
    | int i =>
      cases r2
      cases r1 with | lst h1 h2 =>
      obtain ⟨v, h3, h4⟩ := h2.atI (show atI ds i = some d from e)
      exact ⟨_, _, i, v, rfl, rfl, SqL.of h1, h3, k v H (Same.refl H) h4 (fun z => nomatch z)⟩
    | _ => cases e
  | scr ns =>
    cases dy with
    | int i =>
      cases r2
      cases r1 with | scr h1 =>
      have e : (atI ns i).map D.int = some d := e
      rw [Option.map_eq_some_iff] at e
      obtain ⟨n, e1, rfl⟩ := e
      refine ⟨_, _, i, .int n, rfl, rfl, h1, ?_, k _ H (Same.refl H) (.int n) (fun z => nomatch z)⟩
      unfold atI at e1 ⊢
      rw [Option.bind_eq_some_iff] at e1
      obtain ⟨j, e2, e3⟩ := e1
      rw [List.length_map, e2]
      show (ns.map V.int)[j]? = _
      rw [List.getElem?_map, e3]; rfl
    | _ => cases e
  | _ => first | cases e | (cases dy <;> cases e)
theorem bIxT : BinOk W false (rIxT W.K) (fun x y => match x with | .tup ds => dIx (.tup ds) y | _ => none) := by
  intro H x y dx dy d Q r1 r2 e k
  cases dx with
  | tup ds =>
    cases dy with
    | int i =>
      cases r2
      cases r1 with | tup h1 h2 =>
      obtain ⟨v, h3, h4⟩ := h2.atI (show atI ds i = some d from e)
      exact ⟨_, _, i, v, rfl, rfl, SqT.of h1, h3, k v H (Same.refl H) h4 (fun z => nomatch z)⟩
    | _ => cases e
  | _ => cases e
theorem BinOk.or {fr : Bool} {r r' : R2} {f f' g : D → D → Option D} (h : BinOk W fr r f) (h' : BinOk W fr r' f') (hg : ∀ x y d, g x y = some d → f x y = some d ∨ f' x y = some d) : BinOk W fr (fun x y H Q => r x y H Q ∨ r' x y H Q) g :=
  fun H x y dx dy d Q r1 r2 e k => (hg dx dy d e).elim (fun z => .inl (h H x y dx dy d Q r1 r2 z k)) (fun z => .inr (h' H x y dx dy d Q r1 r2 z k))
theorem bIx : BinOk W false (fun x y H Q => rIxL W.K x y H Q ∨ rIxT W.K x y H Q) dIx := bIxL.or bIxT fun x y d e => by
  cases x with
  | tup ds => exact .inr e
  | _ => exact .inl e
theorem ev_at (hK : X.K = W.K) (ha : EV X W a fa ma) (hb : EV X W b fb mb) (hs : PlainIx b := by exact fun _ _ => rfl) : EV X W (.Subscript a b pos) false (eOp dIx ma mb) := ev_ix bIx (hK ▸ ix_list.or ix_tup) ha hb hs
theorem bCat : BinOk W true rCat dCat := by
  intro H x y dx dy d Q r1 r2 e k
  cases dx with
  | lst ds =>
    cases dy with
    | lst es =>
      obtain ⟨c, rfl⟩ := guard_some (show guard _ _ = some d from e)
      cases r1 with | lst h1 h2 =>
      cases r2 with | lst h3 h4 =>
      exact ⟨_, _, _, _, rfl, rfl, h1, h3, by rw [h2.length, h4.length]; exact c, fun p n => k _ _ (same_new n) (rp_newL n (h2.append h4)) fun _ => frl_upd n⟩
    | _ => cases e
  | _ => cases e
theorem bCatT : BinOk W false (rCatT W.K) dCatT := by
  intro H x y dx dy d Q r1 r2 e k
  cases dx with
  | tup ds =>
    cases dy with
    | tup es =>
      obtain ⟨⟨c1, c2, c⟩, rfl⟩ := guard_some (show guard _ _ = some d from e)
      cases r1 with | tup h1 h2 =>
      cases r2 with | tup h3 h4 =>
      refine ⟨_, _, _, _, rfl, rfl, SqT.of h1, SqT.of h3, ?_, by rw [h2.length, h4.length]; exact c, fun z => ?_, fun _ p n => k _ _ (same_new n) (rp_newT n (h2.append h4)) (fun z => nomatch z)⟩
      · intro z; subst z; cases h2; exact c1 rfl
      · subst z; cases h4; exact absurd rfl c2
    | _ => cases e
  | _ => cases e
theorem bRep : BinOk W true rRep dRep := by
  intro H x y dx dy d Q r1 r2 e k
  cases dx with
  | lst ds =>
    cases dy with
    | int j =>
      obtain ⟨⟨c1, c2, c⟩, rfl⟩ := guard_some (show guard _ _ = some d from e)
      cases r1 with | lst h1 h2 =>
      cases r2
      exact ⟨_, _, _, rfl, rfl, h1, c1, c2, by rw [h2.length]; exact c, fun p n => k _ _ (same_new n) (rp_newL n (h2.rep _)) fun _ => frl_upd n⟩
    | _ => cases e
  | _ => cases e
theorem ev_cat (ha : EV X W a fa ma) (hb : EV X W b fb mb) : EV X W (.BinOp a .Add b pos) true (eOp dCat ma mb) := ev_op bCat op_cat ha hb
theorem ev_catT (hK : X.K = W.K) (ha : EV X W a fa ma) (hb : EV X W b fb mb) : EV X W (.BinOp a .Add b pos) false (eOp dCatT ma mb) := ev_op (hK ▸ bCatT) op_catT ha hb
theorem ev_rep (ha : EV X W a fa ma) (hb : EV X W b fb mb) : EV X W (.BinOp a .Mult b pos) true (eOp dRep ma mb) := ev_op bRep op_rep ha hb
/-! #### displays -/
def eTup (m : DEnv → Option (List D)) : EM := fun ρ => (m ρ).bind fun ds => guard (ds.length ≤ sizeLine) (.tup ds)
def eLst (m : DEnv → Option (List D)) : EM := fun ρ => (m ρ).bind fun ds => guard (ds.length ≤ sizeLine) (.lst ds)
theorem ev_tup {m : DEnv → Option (List D)} {x1} (h : PA X es (tXs W m)) : EV X W (.Tuple es x1 pos) false (eTup m) :=
  PE.imp (pe_tup h) fun σ H Q ⟨ρ, d, r, e, k⟩ => by
    unfold eTup at e
    rw [Option.bind_eq_some_iff] at e
    obtain ⟨ds, e1, e2⟩ := e
    obtain ⟨c, rfl⟩ := guard_some e2
    exact ⟨ρ, ds, r, e1, fun vs H1 s1 r1 => ⟨by rw [r1.length]; exact c, fun p n => k _ _ (s1.trans (same_new n)) (rp_newT n r1) (fun z => nomatch z)⟩⟩
theorem ev_lst {m : DEnv → Option (List D)} (h : PA X es (tXs W m)) : EV X W (.List es pos) true (eLst m) :=
  PE.imp (pe_lst h) fun σ H Q ⟨ρ, d, r, e, k⟩ => by
    unfold eLst at e
    rw [Option.bind_eq_some_iff] at e
    obtain ⟨ds, e1, e2⟩ := e
    obtain ⟨c, rfl⟩ := guard_some e2
    exact ⟨ρ, ds, r, e1, fun vs H1 s1 r1 => ⟨by rw [r1.length]; exact c, fun p n => k _ _ (s1.trans (same_new n)) (rp_newL n r1) fun _ => (frl_upd n).back s1⟩⟩
/-! #### slices -/
def cutD {α : Type} (xs : List α) (lo hi : Option Int) : List α := (xs.drop (HT.sIx xs.length 0 lo)).take (HT.sIx xs.length xs.length hi - HT.sIx xs.length 0 lo)
def dSl (x : D) (lo hi : Option Int) : Option D := match x with
  | .lst ds => some (.lst (cutD ds lo hi))
  | .scr ns => some (.lst ((cutD ns lo hi).map .int))
  | _ => none
def dSlT (x : D) (lo hi : Option Int) : Option D := match x with
  | .tup ds => guard (¬ (HT.sIx ds.length 0 lo = 0 ∧ HT.sIx ds.length ds.length hi = ds.length)) (.tup (cutD ds lo hi))
  | _ => none
def tXo (W : Wh) (m : DEnv → Option (Option Int)) : TO := fun σ H Q => ∃ ρ o, RE W H ρ σ ∧ m ρ = some o ∧ ∀ H', Same H H' → Q o H'
def oNone : DEnv → Option (Option Int) := fun _ => some none
def oSome (a : EM) : DEnv → Option (Option Int) := fun ρ => (a ρ).bind fun d => match d with | .int i => some (some i) | _ => none
theorem PO.imp {X : Cx} {e : Option Expr} {t t' : TO} (h : PO X e t) (i : ∀ σ H Q, t' σ H Q → t σ H Q) : PO X e t' := ⟨fun pins s σ H Q I q => h.run pins s σ H Q I (i σ H Q q)⟩
theorem eo_none : PO X none (tXo W oNone) := PO.imp po_none fun σ H Q ⟨ρ, o, r, e, k⟩ => by
  cases e
  exact k H (Same.refl H)
theorem eo_some (ha : EV X W a fa ma) : PO X (some a) (tXo W (oSome ma)) := PO.imp (po_some ha) fun σ H Q ⟨ρ, o, r, e, k⟩ => by
  unfold oSome at e
  rw [Option.bind_eq_some_iff] at e
  obtain ⟨d, e1, e2⟩ := e
  cases d with
  | int i =>
    cases e2
    exact ⟨ρ, .int i, r, e1, fun v H1 s1 r1 _ => by cases r1; exact ⟨i, rfl, k H1 s1⟩⟩
  | _ => cases e2
def eSl (f : D → Option Int → Option Int → Option D) (a : EM) (lo hi : DEnv → Option (Option Int)) : EM := fun ρ => (a ρ).bind fun x => (lo ρ).bind fun l => (hi ρ).bind fun h => f x l h
theorem eSl_some {f : D → Option Int → Option Int → Option D} {a : EM} {lo hi : DEnv → Option (Option Int)} {ρ : DEnv} {d : D} (h : eSl f a lo hi ρ = some d) : ∃ x l u, a ρ = some x ∧ lo ρ = some l ∧ hi ρ = some u ∧ f x l u = some d := by
  unfold eSl at h
  rw [Option.bind_eq_some_iff] at h
  obtain ⟨x, h1, h⟩ := h
  rw [Option.bind_eq_some_iff] at h
  obtain ⟨l, h2, h⟩ := h
  rw [Option.bind_eq_some_iff] at h
  obtain ⟨u, h3, h⟩ := h
  exact ⟨x, l, u, h1, h2, h3, h⟩
theorem Rps.cut {W : Wh} {H : Hp} {ds : List D} {vs : List V} (r : Rps W H vs ds) (lo hi : Option Int) : Rps W H (cutV vs lo hi) (cutD ds lo hi) := by
  unfold cutV cutD
  rw [r.length]
  exact (r.drop _).take _
theorem cut_map {α β : Type} (f : α → β) (xs : List α) (lo hi : Option Int) : cutD (xs.map f) lo hi = (cutD xs lo hi).map f := by
  unfold cutD
  rw [List.length_map, List.map_take, List.map_drop]
theorem ev_sl {lo hi : Option Expr} {ml mh : DEnv → Option (Option Int)} {p2} (hK : X.K = W.K) (ha : EV X W a fa ma) (hl : PO X lo (tXo W ml)) (hu : PO X hi (tXo W mh)) : EV X W (.Subscript a (.Slice lo hi none p2) pos) true (eSl dSl ma ml mh) :=
  PE.imp (pe_slice sl_list ha hl hu) fun σ H Q ⟨ρ, d, r, e, k⟩ => by
    obtain ⟨x, l, u, e1, e2, e3, e4⟩ := eSl_some e
    refine ⟨ρ, x, r, e1, fun v H1 s1 r1 _ => ⟨ρ, l, r.mono s1, e2, fun H2 s2 => ⟨ρ, u, r.mono (s1.trans s2), e3, fun H3 s3 => ?_⟩⟩⟩
    have r3 := (r1.mono s2).mono s3
    have s := (s1.trans s2).trans s3
    cases x with
    | lst ds =>
      cases e4
      cases r3 with | lst h1 h2 =>
      exact ⟨_, _, rfl, SqL.of h1, fun p n => k _ _ (s.trans (same_new n)) (rp_newL n (h2.cut l u)) fun _ => (frl_upd n).back s⟩
    | scr ns =>
      cases e4
      cases r3 with | scr h1 =>
      refine ⟨_, _, rfl, by rw [hK]; exact h1, fun p n => k _ _ (s.trans (same_new n)) (rp_newL n ?_) fun _ => (frl_upd n).back s⟩
      have : cutV (ns.map V.int) l u = (cutD ns l u).map V.int := cut_map V.int ns l u
      rw [this]
      exact Rps.ints _
    | _ => cases e4
theorem ev_slT {lo hi : Option Expr} {ml mh : DEnv → Option (Option Int)} {p2} (ha : EV X W a fa ma) (hl : PO X lo (tXo W ml)) (hu : PO X hi (tXo W mh)) : EV X W (.Subscript a (.Slice lo hi none p2) pos) false (eSl dSlT ma ml mh) :=
  PE.imp (pe_slice sl_tup ha hl hu) fun σ H Q ⟨ρ, d, r, e, k⟩ => by
    obtain ⟨x, l, u, e1, e2, e3, e4⟩ := eSl_some e
    refine ⟨ρ, x, r, e1, fun v H1 s1 r1 _ => ⟨ρ, l, r.mono s1, e2, fun H2 s2 => ⟨ρ, u, r.mono (s1.trans s2), e3, fun H3 s3 => ?_⟩⟩⟩
    have r3 := (r1.mono s2).mono s3
    have s := (s1.trans s2).trans s3
    cases x with
    | tup ds =>
      obtain ⟨c, rfl⟩ := guard_some (show guard _ _ = some d from e4)
      cases r3 with | tup h1 h2 =>
      exact ⟨_, _, rfl, SqT.of h1, by rw [h2.length]; exact c, fun p n => k _ _ (s.trans (same_new n)) (rp_newT n (h2.cut l u)) (fun z => nomatch z)⟩
    | _ => cases e4
end
end
end Sp

set_option Elab.async false
set_option linter.all false
set_option maxRecDepth 100000
set_option maxHeartbeats 2000000
namespace Sp
open PySem L2
open Classical
noncomputable section
variable {X : Cx} {W : Wh} {a b c e : Expr} {es : List Expr} {pos : Pos} {fr fa fb fc : Bool} {ma mb mc : EM}
theorem eUn_some {f : D → Option D} {a : EM} {ρ : DEnv} {d : D} (h : eUn f a ρ = some d) : ∃ x, a ρ = some x ∧ f x = some d := by
  unfold eUn at h
  rw [Option.bind_eq_some_iff] at h
  exact h
/-! #### is not True, is not False -/
def dNotBl (k : Bool) (x : D) : Option D := match x with
  | .bl b => some (.bl (!decide (b = k)))
  | .int _ => some (.bl true)
  | .non => some (.bl true)
  | .str _ => some (.bl true)
  | .tup _ => some (.bl true)
  | .lst _ => some (.bl true)
  | _ => none
def rNotBl : R2 := fun x y H Q => ∃ k, y = .bl k ∧ ((∃ b, x = .bl b ∧ Q (.bl (!decide (b = k))) H) ∨ ((∀ b, x ≠ .bl b) ∧ (∀ n, x ≠ .ty n) ∧ Q (.bl true) H))
theorem op_notBlX : OpR X (compareOp .IsNot) rNotBl := by
  intro pins s σ H x y v u Q I rx ry h
  obtain ⟨k, rfl, h⟩ := h
  cases (show u = Value.bool k from ry)
  rcases h with ⟨b, rfl, q⟩ | ⟨nb, nt, q⟩
  · cases (show v = Value.bool b from rx)
    by_cases e : b = k
    · subst e
      exact PySem.wpAny_isNot_self rfl ⟨.bl false, H, I, rfl, by simpa using q⟩
    · exact PySem.wpAny_isNot_other rfl (fun z => e (Value.bool.inj z)) ⟨.bl true, H, I, rfl, by simpa [e] using q⟩
  · have fin : EP X pins σ Q (.bool true) s := ⟨.bl true, H, I, rfl, q⟩
    cases x with
    | non => cases (show v = Value.none from rx); exact PySem.wpAny_isNot_other rfl (fun z => nomatch z) fin
    | bl b => exact absurd rfl (nb b)
    | int i => obtain ⟨t, rfl⟩ := (show ∃ t, v = Value.int i t from rx); exact PySem.wpAny_isNot_other rfl (fun z => nomatch z) fin
    | str i => obtain ⟨t, rfl⟩ := (show ∃ t, v = Value.str i t from rx); exact PySem.wpAny_isNot_other rfl (fun z => nomatch z) fin
    | byt i => obtain ⟨t, rfl⟩ := (show ∃ t, v = Value.bytes i t from rx); exact PySem.wpAny_isNot_other rfl (fun z => nomatch z) fin
    | flt i => obtain ⟨t, rfl⟩ := (show ∃ t, v = Value.float i t from rx); exact PySem.wpAny_isNot_other rfl (fun z => nomatch z) fin
    | ref i => cases (show v = Value.ref i from rx); exact PySem.wpAny_isNot_other rfl (fun z => nomatch z) fin
    | ty n => exact absurd rfl (nt n)
theorem ev_notBl {k : Bool} {j pos'} (ha : EV X W a fa ma) : EV X W (.Compare a [.IsNot] [.Constant (.bool k) j pos'] pos) false (eUn (dNotBl k) ma) :=
  PE.imp (pe_cmpR op_notBlX ha pe_bl (nomark _)) fun σ H Q ⟨ρ, d, r, e, kk⟩ => by
    obtain ⟨x, e1, e2⟩ := eUn_some e
    refine ⟨ρ, x, r, e1, fun v H1 s1 r1 _ => ⟨k, rfl, ?_⟩⟩
    cases r1 with
    | bl b => cases e2; exact .inl ⟨b, rfl, kk _ H1 s1 (.bl _) (fun z => nomatch z)⟩
    | box _ => cases e2
    | wood _ _ => cases e2
    | scr _ => cases e2
    | _ => cases e2; exact .inr ⟨(fun _ z => nomatch z), (fun _ z => nomatch z), kk _ H1 s1 (.bl _) (fun z => nomatch z)⟩
/-! #### k in (2, 3) -/
theorem inV_ints (i : Int) (js : List Int) : inV (.int i) (js.map V.int) = decide (i ∈ js) := by
  unfold inV
  rw [List.any_map]
  induction js with
  | nil => rfl
  | cons j js ih =>
    rw [List.any_cons, ih]
    by_cases c : i = j
    · subst c; simp [eqV]
    · have c' : ¬ j = i := fun z => c z.symm
      simp [eqV, c, c']
theorem bInT : BinOk W false (rIn W.K false) dInT := by
  intro H x y dx dy d Q r1 r2 e k
  cases dx with
  | int i =>
    cases dy with
    | tup ds =>
      have e : ((D.ints ds).map fun js => D.bl (decide (i ∈ js))) = some d := e
      rw [Option.map_eq_some_iff] at e
      obtain ⟨js, e1, rfl⟩ := e
      cases D.of_ints e1
      cases r1
      cases r2 with | tup h1 h2 =>
      have ev := h2.of_ints
      subst ev
      refine ⟨_, _, rfl, .inr (SqT.of h1), rfl, by simp [flatV], ?_⟩
      have e2 := inV_ints i js
      rw [if_neg (by decide), e2]
      exact k _ H (Same.refl H) (.bl _) (fun z => nomatch z)
    | _ => cases e
  | _ => cases e
theorem ev_inT (hK : X.K = W.K) (hm : behindInMarks .In b = false) (ha : EV X W a fa ma) (hb : EV X W b fb mb) : EV X W (.Compare a [.In] [b] pos) false (eOp dInT ma mb) := ev_cmp (hK ▸ bInT) op_in_seq hm ha hb
/-! #### calls -/
section
variable {CXx : CXT} {k : Nat} {f C g : Addr} {fd : FuncData} {ps : List Str} {x m : Str} {p apos : Pos} {o : Expr} {ms : DEnv → Option (List D)} {F : List D → Option D} {E : XK}
theorem ev_call (Fk : FnOk X.prog X.w X.K X.mg X.base CXx k f fd ps (spD W fr F)) (hr : Room k X.A) (hg : Gl X x) (hm : X.mg x = some (.ref f)) (hk : PySem.W.keepIn X.K (.ref f) = true) (hb : Binds X.K fd ps []) (hx : Passes CXx X E)
    (ha : PA X (e :: es) (tXs W ms)) (hd : (x == ("__debug__" : Str)) = false := by decide)
    (he : starEach (e :: es) X.env = (false, eval e X.env) :: starEach es X.env := by rfl) (hpl : (backTo pos (starEach es X.env)).any (·.1) = false := by rfl) : EV X W (.Call (.Name x p) (e :: es) [] pos) fr (eCall F ms) :=
  PE.imp (pe_call Fk hr hg hm hk hb .nil hx ha hd he hpl) (tCB_of (spD_ok (E := E)))
/-- a method of a wood -/
def eMeth (F : List D → Option D) (ma : EM) (ms : DEnv → Option (List D)) : EM := fun ρ => (ma ρ).bind fun w => (ms ρ).bind fun ds => match w with | .wood t => F (.wood t :: ds) | _ => none
theorem eMeth_some {F : List D → Option D} {ρ : DEnv} {d : D} (h : eMeth F ma ms ρ = some d) : ∃ t ds, ma ρ = some (.wood t) ∧ ms ρ = some ds ∧ F (.wood t :: ds) = some d := by
  unfold eMeth at h
  rw [Option.bind_eq_some_iff] at h
  obtain ⟨w, h1, h⟩ := h
  rw [Option.bind_eq_some_iff] at h
  obtain ⟨ds, h2, h⟩ := h
  cases w with
  | wood t => exact ⟨t, ds, h1, h2, h⟩
  | _ => cases h
theorem top_look {m : Str} (hn : m ≠ "_top") (v : V) : ([("_top", v)] : List (Str × V)).lookup m = none := by
  have : (m == ("_top" : Str)) = false := by simpa using hn
  simp [List.lookup, this]
theorem ev_meth {E0 : Expr} (hn : m ≠ "_top") (h : PE X E0 (tMeth W.w m (spD W fr F) [] E (tX W fa ma) (tXs W ms))) : EV X W E0 fr (eMeth F ma ms) := by
  refine PE.imp h fun σ H Q ⟨ρ, d, r, e, kk⟩ => ?_
  obtain ⟨t, ds, e1, e3, e4⟩ := eMeth_some e
  refine ⟨ρ, .wood t, r, e1, fun v H1 s1 r1 _ => ?_⟩
  have r1' := r1
  cases r1 with | wood h2 h3 =>
  refine ⟨_, _, _, rfl, h2, top_look hn _, ρ, ds, r.mono s1, e3, fun vs H2 s2 r2 => ⟨.wood t :: ds, d, ?_, e4, fun v' H' s3 r3 f3 => kk v' H' ((s1.trans s2).trans s3) r3 fun z => (f3 z).back (s1.trans s2)⟩⟩
  rw [List.append_nil]
  exact .cons (r1'.mono s2) r2
theorem ev_meth0 {E0 : Expr} (hn : m ≠ "_top") (h : PE X E0 (tMeth W.w m (spD W fr F) [] E (tX W fa ma) tNil)) : EV X W E0 fr (eMeth F ma eNil) := by
  refine PE.imp h fun σ H Q ⟨ρ, d, r, e, kk⟩ => ?_
  obtain ⟨t, ds, e1, e3, e4⟩ := eMeth_some e
  cases e3
  refine ⟨ρ, .wood t, r, e1, fun v H1 s1 r1 _ => ?_⟩
  have r1' := r1
  cases r1 with | wood h2 h3 =>
  exact ⟨_, _, _, rfl, h2, top_look hn _, [.wood t], d, .cons r1' .nil, e4, fun v' H' s3 r3 f3 => kk v' H' (s1.trans s3) r3 fun z => (f3 z).back s1⟩
theorem ev_callB {id : String} {r : List V → Hp → VK → Prop} (ok : CallOk W fr r F) (hc : CallR X (.builtin id) r) (hg : Gl X x) (hm : X.mg x = none) (hv : bootBuiltins x = some (.builtin id)) (ha : PA X (e :: es) (tXs W ms)) (hn : x ≠ "__name__" := by decide) (hdb : (x == ("__debug__" : Str)) = false := by decide)
    (he : starEach (e :: es) X.env = (false, eval e X.env) :: starEach es X.env := by rfl) (hpl : (backTo pos (starEach es X.env)).any (·.1) = false := by rfl) : EV X W (.Call (.Name x p) (e :: es) [] pos) fr (eCall F ms) :=
  PE.imp (pe_callB hc hg hm hv ha hn hdb he hpl) (tCB_of ok)
theorem ev_callTy {T : String} {r : List V → Hp → VK → Prop} (ok : CallOk W fr r F) (hc : CallR X (.type T) r) (hg : Gl X x) (hm : X.mg x = none) (hv : bootBuiltins x = some (.type T)) (ha : PA X (e :: es) (tXs W ms)) (hn : x ≠ "__name__" := by decide) (hdb : (x == ("__debug__" : Str)) = false := by decide)
    (he : starEach (e :: es) X.env = (false, eval e X.env) :: starEach es X.env := by rfl) (hpl : (backTo pos (starEach es X.env)).any (·.1) = false := by rfl) : EV X W (.Call (.Name x p) (e :: es) [] pos) fr (eCall F ms) :=
  PE.imp (pe_callTy hc hg hm hv ha hn hdb he hpl) (tCB_of ok)
end
/-! #### the built-ins by data -/
def fLen : List D → Option D
  | [.lst ds] => some (.int (ds.length : Nat))
  | [.tup ds] => some (.int (ds.length : Nat))
  | [.scr ns] => some (.int (ns.length : Nat))
  | _ => none
def fMax2 : List D → Option D
  | [.int i, .int j] => some (.int (max i j))
  | _ => none
def fMin2 : List D → Option D
  | [.int i, .int j] => some (.int (min i j))
  | _ => none
def fMaxL : List D → Option D
  | [.lst ds] => (D.ints ds).bind fun ns => ns.max?.map .int
  | _ => none
def fMinL : List D → Option D
  | [.lst ds] => (D.ints ds).bind fun ns => ns.min?.map .int
  | _ => none
def fSum : List D → Option D
  | [.lst ds] => (D.ints ds).map fun ns => .int ns.sum
  | _ => none
def fListOf : List D → Option D
  | [.lst ds] => some (.lst ds)
  | [.tup ds] => some (.lst ds)
  | _ => none
def fInt1 : List D → Option D
  | [.int i] => some (.int i)
  | [.bl b] => some (.int (if b then 1 else 0))
  | _ => none
theorem Rps.one {H : Hp} {vs : List V} {d : D} (r : Rps W H vs [d]) : ∃ v, vs = [v] ∧ Rp W H v d := by
  cases r with | cons h1 h2 => cases h2; exact ⟨_, rfl, h1⟩
theorem Rps.two {H : Hp} {vs : List V} {d d' : D} (r : Rps W H vs [d, d']) : ∃ v v', vs = [v, v'] ∧ Rp W H v d ∧ Rp W H v' d' := by
  cases r with | cons h1 h2 => obtain ⟨v', rfl, h3⟩ := h2.one; exact ⟨_, _, rfl, h1, h3⟩
theorem kLen (hK : X.K = W.K) : CallOk W false (fun xs H Q => ∃ p ys, xs = [.ref p] ∧ (SqL X.K H p ys ∨ SqT X.K H p ys) ∧ Q (.int ys.length) H) fLen := by
  intro H vs ds d Q r e k
  match ds, e with
  | [.lst ds], e =>
    obtain ⟨v, rfl, h⟩ := r.one
    cases e
    cases h with | lst h1 h2 =>
    exact ⟨_, _, rfl, .inl (SqL.of h1), k _ H (Same.refl H) (by rw [h2.length]; exact .int _) (fun z => nomatch z)⟩
  | [.tup ds], e =>
    obtain ⟨v, rfl, h⟩ := r.one
    cases e
    cases h with | tup h1 h2 =>
    exact ⟨_, _, rfl, .inr (SqT.of h1), k _ H (Same.refl H) (by rw [h2.length]; exact .int _) (fun z => nomatch z)⟩
  | [.scr ns], e =>
    obtain ⟨v, rfl, h⟩ := r.one
    cases e
    cases h with | scr h1 =>
    exact ⟨_, _, rfl, .inl (by rw [hK]; exact h1), k _ H (Same.refl H) (by rw [List.length_map]; exact .int _) (fun z => nomatch z)⟩
theorem kMax2 : CallOk W false (fun xs H Q => ∃ i j, xs = [.int i, .int j] ∧ Q (.int (if j > i then j else i)) H) fMax2 := by
  intro H vs ds d Q r e k
  match ds, e with
  | [.int i, .int j], e =>
    obtain ⟨v, v', rfl, h1, h2⟩ := r.two
    cases e; cases h1; cases h2
    have e : (if j > i then j else i) = max i j := by simp only [Int.max_def]; split <;> split <;> omega
    exact ⟨i, j, rfl, by rw [e]; exact k _ H (Same.refl H) (.int _) (fun z => nomatch z)⟩
theorem kMin2 : CallOk W false (fun xs H Q => ∃ i j, xs = [.int i, .int j] ∧ Q (.int (if j < i then j else i)) H) fMin2 := by
  intro H vs ds d Q r e k
  match ds, e with
  | [.int i, .int j], e =>
    obtain ⟨v, v', rfl, h1, h2⟩ := r.two
    cases e; cases h1; cases h2
    have e : (if j < i then j else i) = min i j := by simp only [Int.min_def]; split <;> split <;> omega
    exact ⟨i, j, rfl, by rw [e]; exact k _ H (Same.refl H) (.int _) (fun z => nomatch z)⟩
theorem kMaxL (hK : X.K = W.K) : CallOk W false (rMax X.K) fMaxL := by
  intro H vs ds d Q r e k
  match ds, e with
  | [.lst ds], e =>
    obtain ⟨v, rfl, h⟩ := r.one
    have e : ((D.ints ds).bind fun ns => ns.max?.map .int) = some d := e
    rw [Option.bind_eq_some_iff] at e
    obtain ⟨ns, e1, e⟩ := e
    rw [Option.map_eq_some_iff] at e
    obtain ⟨m, e2, rfl⟩ := e
    cases D.of_ints e1
    cases h with | lst h1 h2 =>
    have ev := h2.of_ints
    subst ev
    have em := List.max?_eq_some_iff.mp e2
    refine ⟨_, ns, rfl, SqL.of h1, List.length_pos_of_mem em.1, fun m' hm hle => ?_⟩
    have : m' = m := Int.le_antisymm (em.2 m' hm) (hle m em.1)
    subst this
    exact k _ H (Same.refl H) (.int _) (fun z => nomatch z)
theorem kMinL (hK : X.K = W.K) : CallOk W false (rMin X.K) fMinL := by
  intro H vs ds d Q r e k
  match ds, e with
  | [.lst ds], e =>
    obtain ⟨v, rfl, h⟩ := r.one
    have e : ((D.ints ds).bind fun ns => ns.min?.map .int) = some d := e
    rw [Option.bind_eq_some_iff] at e
    obtain ⟨ns, e1, e⟩ := e
    rw [Option.map_eq_some_iff] at e
    obtain ⟨m, e2, rfl⟩ := e
    cases D.of_ints e1
    cases h with | lst h1 h2 =>
    have ev := h2.of_ints
    subst ev
    have em := List.min?_eq_some_iff.mp e2
    refine ⟨_, ns, rfl, SqL.of h1, List.length_pos_of_mem em.1, fun m' hm hle => ?_⟩
    have : m' = m := Int.le_antisymm (hle m em.1) (em.2 m' hm)
    subst this
    exact k _ H (Same.refl H) (.int _) (fun z => nomatch z)
theorem kSum (hK : X.K = W.K) : CallOk W false (rSum X.K) fSum := by
  intro H vs ds d Q r e k
  match ds, e with
  | [.lst ds], e =>
    obtain ⟨v, rfl, h⟩ := r.one
    have e : ((D.ints ds).map fun ns => D.int ns.sum) = some d := e
    rw [Option.map_eq_some_iff] at e
    obtain ⟨ns, e1, rfl⟩ := e
    cases D.of_ints e1
    cases h with | lst h1 h2 =>
    have ev := h2.of_ints
    subst ev
    exact ⟨_, ns, rfl, SqL.of h1, k _ H (Same.refl H) (.int _) (fun z => nomatch z)⟩
theorem kListOf (hK : X.K = W.K) : CallOk W true (fun xs H Q => ∃ p ys, xs = [.ref p] ∧ (SqL X.K H p ys ∨ SqT X.K H p ys) ∧ ∀ l, H l = none → Q (.ref l) (upd H l (.lst ys))) fListOf := by
  intro H vs ds d Q r e k
  match ds, e with
  | [.lst ds], e =>
    obtain ⟨v, rfl, h⟩ := r.one
    cases e
    cases h with | lst h1 h2 =>
    exact ⟨_, _, rfl, .inl (SqL.of h1), fun l n => k _ _ (same_new n) (rp_newL n h2) fun _ => frl_upd n⟩
  | [.tup ds], e =>
    obtain ⟨v, rfl, h⟩ := r.one
    cases e
    cases h with | tup h1 h2 =>
    exact ⟨_, _, rfl, .inr (SqT.of h1), fun l n => k _ _ (same_new n) (rp_newL n h2) fun _ => frl_upd n⟩
theorem kInt1 : CallOk W false (fun xs H Q => (∃ i, xs = [.int i] ∧ Q (.int i) H) ∨ ∃ k, xs = [.bl k] ∧ Q (.int (if k then 1 else 0)) H) fInt1 := by
  intro H vs ds d Q r e k
  match ds, e with
  | [.int i], e =>
    obtain ⟨v, rfl, h⟩ := r.one
    cases e; cases h
    exact .inl ⟨i, rfl, k _ H (Same.refl H) (.int _) (fun z => nomatch z)⟩
  | [.bl i], e =>
    obtain ⟨v, rfl, h⟩ := r.one
    cases e; cases h
    exact .inr ⟨i, rfl, k _ H (Same.refl H) (.int _) (fun z => nomatch z)⟩
section
variable {x : Str} {p : Pos} {ms : DEnv → Option (List D)}
/-! #### isinstance, type(x) == int -/
def D.tyn : D → Option String
  | .non => some "NoneType"
  | .bl _ => some "bool"
  | .int _ => some "int"
  | .str _ => some "str"
  | .tup _ => some "tuple"
  | .lst _ => some "list"
  | _ => none
def isiB (t c : String) : Bool := t == c || (t == "bool" && c == "int")
def dIsi (c : String) (d : D) : Option D := d.tyn.map fun t => .bl (isiB t c)
def dTyIs (c : String) (d : D) : Option D := d.tyn.map fun t => .bl (decide (t = c))
theorem kit6 {t c : String} {d : D} (h : d.tyn = some t) (hc : c = "int" ∨ c = "bool" ∨ c = "tuple" ∨ c = "list") : kitB t c = some (isiB t c) := by
  cases d <;> (first | (cases h; rcases hc with rfl | rfl | rfl | rfl <;> decide +kernel) | cases h)
theorem ty6 {H : Hp} {v : V} {d : D} {t : String} (r : Rp W H v d) (h : d.tyn = some t) : Ty6 W.K H v t ∧ TyX W.K H v (.type t) := by
  cases r with
  | non => cases h; exact ⟨.non, .base .non⟩
  | bl b => cases h; exact ⟨.bl b, .base (.bl b)⟩
  | int b => cases h; exact ⟨.int b, .base (.int b)⟩
  | str b => cases h; exact ⟨.str b, .base (.str b)⟩
  | tup h1 h2 => cases h; exact ⟨.tup (SqT.of h1), .base (.tup h1)⟩
  | lst h1 h2 => cases h; exact ⟨.lst (SqL.of h1), .base (.lst h1)⟩
  | box _ => cases h
  | wood _ _ => cases h
  | scr _ => cases h
theorem ev_isi (T : String) {b : Expr} (hT : T = "int" ∨ T = "bool" ∨ T = "tuple" ∨ T = "list") (hK : X.K = W.K) (hg : Gl X "isinstance") (hm : X.mg "isinstance" = none) (ha : EV X W a fa ma) (hb : PE X b (tC (.ty T)))
    (he1 : starEach [b] X.env = (false, eval b X.env) :: starEach [] X.env := by rfl)
    (he : starEach [a, b] X.env = (false, eval a X.env) :: starEach [b] X.env := by rfl) (hpl : (backTo pos (starEach [b] X.env)).any (·.1) = false := by rfl) : EV X W (.Call (.Name "isinstance" p) [a, b] [] pos) false (eUn (dIsi T) ma) :=
  PE.imp (pe_callB call_isi hg hm (by decide +kernel) (pa_cons ha (pa_cons hb pa_nil he1) he) (by decide) (by decide) he hpl) fun σ H Q ⟨ρ, d, r, e, kk⟩ => by
    obtain ⟨x, e1, e2⟩ := eUn_some e
    refine ⟨ρ, x, r, e1, fun v H1 s1 r1 _ => ?_⟩
    unfold dIsi at e2
    rw [Option.map_eq_some_iff] at e2
    obtain ⟨t, e3, rfl⟩ := e2
    exact ⟨v, .ty T, .type t, _, isiB t T, rfl, .ty T, by rw [hK]; exact (ty6 r1 e3).2, kit_ty (kit6 e3 hT), kk _ H1 s1 (.bl _) (fun z => nomatch z)⟩
theorem tyn_tys {d : D} {t : String} (h : d.tyn = some t) : t ∈ tys := by
  cases d <;> cases h <;> decide
theorem ev_tyIs (T : String) {b : Expr} {p' pos' : Pos} (hT : T ∈ tys) (hK : X.K = W.K) (hg : Gl X "type") (hm : X.mg "type" = none) (ha : EV X W a fa ma) (hb : PE X b (tC (.ty T)))
    (he : starEach [a] X.env = (false, eval a X.env) :: starEach [] X.env := by rfl) (hpl : (backTo pos' (starEach [] X.env)).any (·.1) = false := by rfl) : EV X W (.Compare (.Call (.Name "type" p') [a] [] pos') [.Eq] [b] pos) false (eUn (dTyIs T) ma) :=
  PE.imp (pe_cmpR op_eqTy (pe_callTy call_type6 hg hm (by decide +kernel) (pa_cons ha pa_nil he) (by decide) (by decide) he hpl) hb (nomark _)) fun σ H Q ⟨ρ, d, r, e, kk⟩ => by
    obtain ⟨x, e1, e2⟩ := eUn_some e
    refine ⟨ρ, x, r, e1, fun v H1 s1 r1 _ => ?_⟩
    unfold dTyIs at e2
    rw [Option.map_eq_some_iff] at e2
    obtain ⟨t, e3, rfl⟩ := e2
    exact ⟨v, t, rfl, by rw [hK]; exact (ty6 r1 e3).1, t, T, rfl, rfl, tyn_tys e3, hT, kk _ H1 s1 (.bl _) (fun z => nomatch z)⟩
end
/-! ### tests -/
abbrev BM := DEnv → Option Bool
abbrev ET (X : Cx) (W : Wh) (e : Expr) (m : BM) : Prop := PT X e (tXt W m)
def bVal (a : EM) : BM := fun ρ => (a ρ).bind fun d => match d with | .bl b => some b | _ => none
theorem bVal_some {a : EM} {ρ : DEnv} {b : Bool} (h : bVal a ρ = some b) : a ρ = some (.bl b) := by
  unfold bVal at h
  rw [Option.bind_eq_some_iff] at h
  obtain ⟨d, h1, h2⟩ := h
  cases d with
  | bl c => cases h2; exact h1
  | _ => cases h2
theorem et_val (h : EV X W e fa ma) (he : ∀ whole, isTrue e X.env whole = (do let v ← whole; standAt e.pos; holding [v] (truthy v)) := by intro _; rfl) : ET X W e (bVal ma) :=
  PT.imp (pt_val h he) fun σ H Q ⟨ρ, b, r, e, k⟩ => ⟨ρ, _, r, bVal_some e, fun v H1 s1 r1 _ => by cases r1; exact ⟨b, rfl, k H1 s1⟩⟩
def bTruth (a : EM) : BM := fun ρ => (a ρ).bind fun d => match d with | .bl b => some b | .lst ds => some (!ds.isEmpty) | .int i => some (i != 0) | _ => none
theorem et_truth (h : EV X W e fa ma) (he : ∀ whole, isTrue e X.env whole = (do let v ← whole; standAt e.pos; holding [v] (truthy v)) := by intro _; rfl) : ET X W e (bTruth ma) :=
  PT.imp (pt_truth h he) fun σ H Q ⟨ρ, b, r, e, k⟩ => by
    unfold bTruth at e
    rw [Option.bind_eq_some_iff] at e
    obtain ⟨d, e1, e2⟩ := e
    refine ⟨ρ, d, r, e1, fun v H1 s1 r1 _ => ?_⟩
    cases r1 with
    | bl c => cases e2; exact ⟨_, rfl, k H1 s1⟩
    | int c => cases e2; exact ⟨_, rfl, k H1 s1⟩
    | @lst a xs ds h1 h2 =>
      cases e2
      refine ⟨_, .inl ⟨xs, SqL.of h1, rfl⟩, ?_⟩
      have : xs.isEmpty = ds.isEmpty := by cases h2 <;> rfl
      rw [this]
      exact k H1 s1
    | _ => cases e2
def bCmp (f : D → D → Option D) (a b : EM) : BM := bVal (eOp f a b)
/-- a comparison as a test -/
theorem et_cmp {op : CmpOp} {r : R2} {f : D → D → Option D} (ok : BinOk W fr r f) (ho : OpR X (compareOp op) r) (hm : behindInMarks op b = false) (ha : EV X W a fa ma) (hb : EV X W b fb mb) : ET X W (.Compare a [op] [b] pos) (bVal (eOp f ma mb)) :=
  PT.imp (pt_cmpR ho ha hb hm) fun σ H Q ⟨ρ, b, rr, e, k⟩ => by
    have e := bVal_some e
    exact tOp_of ok σ H _ ⟨ρ, _, rr, e, fun v H1 s1 r1 _ => by cases r1; exact ⟨b, rfl, k H1 s1⟩⟩
theorem et_lt (ha : EV X W a fa ma) (hb : EV X W b fb mb) : ET X W (.Compare a [.Lt] [b] pos) (bVal (eOp dLt ma mb)) := et_cmp bIB0 op_lt (nomark _) ha hb
theorem et_le (ha : EV X W a fa ma) (hb : EV X W b fb mb) : ET X W (.Compare a [.LtE] [b] pos) (bVal (eOp dLe ma mb)) := et_cmp bIB0 op_le (nomark _) ha hb
theorem et_gt (ha : EV X W a fa ma) (hb : EV X W b fb mb) : ET X W (.Compare a [.Gt] [b] pos) (bVal (eOp dGt ma mb)) := et_cmp bIB0 op_gt (nomark _) ha hb
theorem et_ge (ha : EV X W a fa ma) (hb : EV X W b fb mb) : ET X W (.Compare a [.GtE] [b] pos) (bVal (eOp dGe ma mb)) := et_cmp bIB0 op_ge (nomark _) ha hb
theorem et_eq (hK : X.K = W.K) (hu : X.A.units + 64 < cLine) (ha : EV X W a fa ma) (hb : EV X W b fb mb) : ET X W (.Compare a [.Eq] [b] pos) (bVal (eOp dEq ma mb)) := et_cmp (hK ▸ bEq) (op_eqD hu) (nomark _) ha hb
theorem et_ne (hK : X.K = W.K) (hu : X.A.units + 64 < cLine) (ha : EV X W a fa ma) (hb : EV X W b fb mb) : ET X W (.Compare a [.NotEq] [b] pos) (bVal (eOp dNe ma mb)) := et_cmp (hK ▸ bNe) (op_neD hu) (nomark _) ha hb
theorem et_in (hK : X.K = W.K) (hu : X.A.units + 65 < cLine) (hm : behindInMarks .In b = false) (ha : EV X W a fa ma) (hb : EV X W b fb mb) : ET X W (.Compare a [.In] [b] pos) (bVal (eOp dIn ma mb)) := et_cmp (hK ▸ bIn) (op_inD hu) hm ha hb
theorem et_notIn (hK : X.K = W.K) (hu : X.A.units + 65 < cLine) (hm : behindInMarks .NotIn b = false) (ha : EV X W a fa ma) (hb : EV X W b fb mb) : ET X W (.Compare a [.NotIn] [b] pos) (bVal (eOp dNotIn ma mb)) := et_cmp (hK ▸ bNotIn) (op_notInD hu) hm ha hb
theorem et_inT (hK : X.K = W.K) (hm : behindInMarks .In b = false) (ha : EV X W a fa ma) (hb : EV X W b fb mb) : ET X W (.Compare a [.In] [b] pos) (bVal (eOp dInT ma mb)) := et_cmp (hK ▸ bInT) op_in_seq hm ha hb
theorem et_isN {j pos'} (ha : EV X W a fa ma) : ET X W (.Compare a [.Is] [.Constant .none j pos'] pos) (bVal (eUn dIsN ma)) :=
  PT.imp (pt_cmp (pc_isN ha)) fun σ H Q ⟨ρ, b, r, e, k⟩ => by
    obtain ⟨x, e1, e2⟩ := eUn_some (bVal_some e)
    exact ⟨ρ, x, r, e1, fun v H1 s1 r1 _ => by rw [r1.isN.1] at e2; cases e2; exact ⟨_, rfl, k H1 s1⟩⟩
theorem et_notN {j pos'} (ha : EV X W a fa ma) : ET X W (.Compare a [.IsNot] [.Constant .none j pos'] pos) (bVal (eUn dNotN ma)) :=
  PT.imp (pt_cmp (pc_notN ha)) fun σ H Q ⟨ρ, b, r, e, k⟩ => by
    obtain ⟨x, e1, e2⟩ := eUn_some (bVal_some e)
    exact ⟨ρ, x, r, e1, fun v H1 s1 r1 _ => by rw [r1.isN.2] at e2; cases e2; exact ⟨_, rfl, k H1 s1⟩⟩
def bAnd (t u : BM) : BM := fun ρ => (t ρ).bind fun c => if c then u ρ else some false
def bOr (t u : BM) : BM := fun ρ => (t ρ).bind fun c => if c then some true else u ρ
def bNot (t : BM) : BM := fun ρ => (t ρ).map (!·)
variable {mt mu : BM} {rest : List Expr}
theorem ew_and1 (ha : ET X W a mt) : PW X (.BoolOp .And [a] pos) (tXt W mt) := pw_and1 ha
theorem ew_or1 (ha : ET X W a mt) : PW X (.BoolOp .Or [a] pos) (tXt W mt) := pw_or1 ha
theorem ew_and (ha : ET X W a mt) (hb : PW X (.BoolOp .And (b :: rest) pos) (tXt W mu)) : PW X (.BoolOp .And (a :: b :: rest) pos) (tXt W (bAnd mt mu)) :=
  PW.imp (pw_and ha hb) fun σ H Q ⟨ρ, c, r, e, k⟩ => by
    unfold bAnd at e
    rw [Option.bind_eq_some_iff] at e
    obtain ⟨d, e1, e2⟩ := e
    refine ⟨ρ, d, r, e1, fun H1 s1 => ?_⟩
    cases d with
    | true => exact ⟨ρ, c, r.mono s1, e2, fun H2 s2 => k H2 (s1.trans s2)⟩
    | false => cases e2; exact k H1 s1
theorem ew_or (ha : ET X W a mt) (hb : PW X (.BoolOp .Or (b :: rest) pos) (tXt W mu)) : PW X (.BoolOp .Or (a :: b :: rest) pos) (tXt W (bOr mt mu)) :=
  PW.imp (pw_or ha hb) fun σ H Q ⟨ρ, c, r, e, k⟩ => by
    unfold bOr at e
    rw [Option.bind_eq_some_iff] at e
    obtain ⟨d, e1, e2⟩ := e
    refine ⟨ρ, d, r, e1, fun H1 s1 => ?_⟩
    cases d with
    | false => exact ⟨ρ, c, r.mono s1, e2, fun H2 s2 => k H2 (s1.trans s2)⟩
    | true => cases e2; exact k H1 s1
theorem et_not (ha : ET X W a mt) : ET X W (.UnaryOp .Not a pos) (bNot mt) :=
  PT.imp (pt_not ha) fun σ H Q ⟨ρ, c, r, e, k⟩ => by
    unfold bNot at e
    rw [Option.map_eq_some_iff] at e
    obtain ⟨d, e1, rfl⟩ := e
    exact ⟨ρ, d, r, e1, fun H1 s1 => k H1 s1⟩
/-- a < b < c -/
def eChain (f g : D → D → Option D) (a b c : EM) : EM := fun ρ => (a ρ).bind fun x => (b ρ).bind fun y => (f x y).bind fun z => match z with
  | .bl true => (c ρ).bind fun w => g y w
  | .bl false => some (.bl false)
  | _ => none
theorem eChain_some {f g : D → D → Option D} {a b c : EM} {ρ : DEnv} {d : D} (h : eChain f g a b c ρ = some d) : ∃ x y z, a ρ = some x ∧ b ρ = some y ∧ f x y = some z ∧ ((z = .bl true ∧ ∃ w, c ρ = some w ∧ g y w = some d) ∨ (z = .bl false ∧ d = .bl false)) := by
  unfold eChain at h
  rw [Option.bind_eq_some_iff] at h
  obtain ⟨x, h1, h⟩ := h
  rw [Option.bind_eq_some_iff] at h
  obtain ⟨y, h2, h⟩ := h
  rw [Option.bind_eq_some_iff] at h
  obtain ⟨z, h3, h⟩ := h
  refine ⟨x, y, z, h1, h2, h3, ?_⟩
  cases z with
  | bl k =>
    cases k with
    | true =>
      have h : ((c ρ).bind fun w => g y w) = some d := h
      rw [Option.bind_eq_some_iff] at h
      exact .inl ⟨rfl, h⟩
    | false => cases h; exact .inr ⟨rfl, rfl⟩
  | _ => cases h
theorem tChain_of {r r' : R2} {f g : D → D → Option D} (ok : BinOk W false r f) (ok' : BinOk W false r' g) : ∀ σ H Q, tX W false (eChain f g ma mb mc) σ H Q → tChain r r' (tX W fa ma) (tX W fb mb) (tX W fc mc) σ H Q := by
  intro σ H Q ⟨ρ, d, rr, e, k⟩
  obtain ⟨x, y, z, e1, e2, e3, h⟩ := eChain_some e
  refine tX_bin rr e1 e2 fun vx vy H1 s1 r1 r2 => ok H1 vx vy x y z _ r1 r2 e3 fun v H2 s2 r3 _ => ?_
  rcases h with ⟨rfl, w, e4, e5⟩ | ⟨rfl, rfl⟩
  · cases r3
    refine ⟨true, rfl, ?_⟩
    rw [if_pos rfl]
    exact ⟨ρ, w, rr.mono (s1.trans s2), e4, fun vw H3 s3 r4 _ => ok' H3 vy vw y w d Q ((r2.mono s2).mono s3) r4 e5 fun v H4 s4 r5 _ => k v H4 (((s1.trans s2).trans s3).trans s4) r5 (fun z => nomatch z)⟩
  · cases r3
    refine ⟨false, rfl, ?_⟩
    rw [if_neg (by decide)]
    exact k _ H2 (s1.trans s2) (.bl _) (fun z => nomatch z)
theorem ev_chain {op op' : CmpOp} {r r' : R2} {f g : D → D → Option D} (ok : BinOk W false r f) (ok' : BinOk W false r' g)
    (h : PE X (.Compare a [op, op'] [b, c] pos) (tChain r r' (tX W fa ma) (tX W fb mb) (tX W fc mc))) : EV X W (.Compare a [op, op'] [b, c] pos) false (eChain f g ma mb mc) := PE.imp h (tChain_of ok ok')
theorem et_chain {op op' : CmpOp} {r r' : R2} {f g : D → D → Option D} (ok : BinOk W false r f) (ok' : BinOk W false r' g)
    (h : PT X (.Compare a [op, op'] [b, c] pos) (tTest (tChain r r' (tX W fa ma) (tX W fb mb) (tX W fc mc)))) : ET X W (.Compare a [op, op'] [b, c] pos) (bVal (eChain f g ma mb mc)) :=
  PT.imp h fun σ H Q ⟨ρ, b, rr, e, k⟩ => tChain_of ok ok' σ H _ ⟨ρ, _, rr, bVal_some e, fun v H1 s1 r1 _ => by cases r1; exact ⟨b, rfl, k H1 s1⟩⟩
/-! #### and, or, not, if as values -/
def eAnd (a b : EM) : EM := fun ρ => (a ρ).bind fun d => match d with | .bl true => b ρ | .bl false => some (.bl false) | _ => none
def eOr (a b : EM) : EM := fun ρ => (a ρ).bind fun d => match d with | .bl true => some (.bl true) | .bl false => b ρ | _ => none
def dNot (x : D) : Option D := match x with | .bl b => some (.bl (!b)) | _ => none
def eIf (t : BM) (a b : EM) : EM := fun ρ => (t ρ).bind fun c => if c then a ρ else b ρ
theorem ev_one {op} (h : EV X W a fa ma) : EV X W (.BoolOp op [a] pos) false ma := PE.imp (pe_one h) fun σ H Q ⟨ρ, d, r, e, k⟩ => ⟨ρ, d, r, e, fun v H1 s1 r1 _ => k v H1 s1 r1 (fun z => nomatch z)⟩
theorem ev_and (ha : EV X W a fa ma) (hb : EV X W (.BoolOp .And (b :: rest) pos) false mb) : EV X W (.BoolOp .And (a :: b :: rest) pos) false (eAnd ma mb) :=
  PE.imp (pe_and ha hb) fun σ H Q ⟨ρ, d, r, e, k⟩ => by
    unfold eAnd at e
    rw [Option.bind_eq_some_iff] at e
    obtain ⟨x, e1, e2⟩ := e
    refine ⟨ρ, x, r, e1, fun v H1 s1 r1 _ => ?_⟩
    cases r1 with
    | bl c =>
      refine ⟨c, rfl, ?_⟩
      cases c with
      | true => exact ⟨ρ, d, r.mono s1, e2, fun v H2 s2 r2 f2 => k v H2 (s1.trans s2) r2 (fun z => nomatch z)⟩
      | false => cases e2; exact k _ H1 s1 (.bl _) (fun z => nomatch z)
    | _ => cases e2
theorem ev_or (ha : EV X W a fa ma) (hb : EV X W (.BoolOp .Or (b :: rest) pos) false mb) : EV X W (.BoolOp .Or (a :: b :: rest) pos) false (eOr ma mb) :=
  PE.imp (pe_or ha hb) fun σ H Q ⟨ρ, d, r, e, k⟩ => by
    unfold eOr at e
    rw [Option.bind_eq_some_iff] at e
    obtain ⟨x, e1, e2⟩ := e
    refine ⟨ρ, x, r, e1, fun v H1 s1 r1 _ => ?_⟩
    cases r1 with
    | bl c =>
      refine ⟨c, rfl, ?_⟩
      cases c with
      | false => exact ⟨ρ, d, r.mono s1, e2, fun v H2 s2 r2 f2 => k v H2 (s1.trans s2) r2 (fun z => nomatch z)⟩
      | true => cases e2; exact k _ H1 s1 (.bl _) (fun z => nomatch z)
    | _ => cases e2
theorem ev_not (ha : EV X W a fa ma) : EV X W (.UnaryOp .Not a pos) false (eUn dNot ma) :=
  PE.imp (pe_not ha) fun σ H Q ⟨ρ, d, r, e, k⟩ => by
    obtain ⟨x, e1, e2⟩ := eUn_some e
    refine ⟨ρ, x, r, e1, fun v H1 s1 r1 _ => ?_⟩
    cases r1 with
    | bl c => cases e2; exact ⟨c, rfl, k _ H1 s1 (.bl _) (fun z => nomatch z)⟩
    | _ => cases e2
theorem ev_if {c : Expr} (hc : ET X W c mt) (ha : EV X W a fa ma) (hb : EV X W b fb mb) : EV X W (.IfExp c a b pos) false (eIf mt ma mb) :=
  PE.imp (pe_ifExp hc ha hb) fun σ H Q ⟨ρ, d, r, e, k⟩ => by
    unfold eIf at e
    rw [Option.bind_eq_some_iff] at e
    obtain ⟨x, e1, e2⟩ := e
    refine ⟨ρ, x, r, e1, fun H1 s1 => ?_⟩
    cases x with
    | true => exact ⟨ρ, d, r.mono s1, e2, fun v H2 s2 r2 _ => k v H2 (s1.trans s2) r2 (fun z => nomatch z)⟩
    | false => exact ⟨ρ, d, r.mono s1, e2, fun v H2 s2 r2 _ => k v H2 (s1.trans s2) r2 (fun z => nomatch z)⟩
end
end Sp

set_option Elab.async false
set_option linter.all false
set_option maxRecDepth 100000
set_option maxHeartbeats 2000000
namespace Sp
open PySem L2
open Classical
noncomputable section
/-! ### the frame of a def, with the lists that are its own -/
inductive SV where
  | no | v (d : D) | own (ds : List D) | wd (a : Option Addr) (t : T)
abbrev SEnv := List SV
def sgt : SEnv → Nat → SV
  | [], _ => .no
  | x :: _, 0 => x
  | _ :: r, n + 1 => sgt r n
theorem sgt_get : ∀ (ρ : SEnv) (i : Nat), sgt ρ i = (ρ[i]?).getD .no
  | [], i => by simp [sgt]
  | x :: r, 0 => by simp [sgt]
  | x :: r, n + 1 => by simp [sgt, sgt_get r n]
theorem sgt_set (ρ : SEnv) (i j : Nat) (x : SV) : sgt (ρ.set i x) j = if i = j ∧ i < ρ.length then x else sgt ρ j := by
  rw [sgt_get, sgt_get, List.getElem?_set]
  by_cases h : i = j
  · subst h
    by_cases h2 : i < ρ.length
    · simp [h2]
    · simp [h2]
  · simp [h]
theorem sgt_lt {ρ : SEnv} {i : Nat} (h : sgt ρ i ≠ .no) : i < ρ.length := by
  rw [sgt_get] at h
  by_cases z : i < ρ.length
  · exact z
  · rw [List.getElem?_eq_none (by omega)] at h
    exact absurd rfl h
def SV.full : SV → Option D
  | .no => none
  | .v d => some d
  | .own ds => some (.lst ds)
  | .wd _ t => some (.wood t)
def full (ρ : SEnv) : DEnv := ρ.map SV.full
theorem gt_full (ρ : SEnv) (i : Nat) : gt (full ρ) i = (sgt ρ i).full := by
  induction ρ generalizing i with
  | nil => rfl
  | cons x r ih => cases i with
    | zero => rfl
    | succ n => exact ih n
def SV.free : SV → Bool
  | .own _ => false
  | .wd _ _ => false
  | _ => true
def noOwn (ρ : SEnv) : Bool := ρ.all SV.free
theorem noOwn_fr {ρ : SEnv} (h : noOwn ρ = true) (i : Nat) : (sgt ρ i).free = true := by
  rw [sgt_get]
  by_cases hl : i < ρ.length
  · rw [List.getElem?_eq_getElem hl]
    exact List.all_eq_true.mp h _ (List.getElem_mem hl)
  · rw [List.getElem?_eq_none (by omega)]; rfl
/-- what stands at the address of one's own (a wood that was handed in keeps its address) -/
def OwnR (W : Wh) (Hd : Hp) (l : Addr) : SV → HO → Prop
  | .own ds, .lst xs => Rps W Hd xs ds
  | .wd a t, .ins C dx [(f, v)] => C = W.w ∧ f = "_top" ∧ (∀ b, a = some b → l = b) ∧ TrR W Hd v t
  | _, _ => False
theorem OwnR.lst {W : Wh} {Hd : Hp} {l : Addr} {ds : List D} {o : HO} (h : OwnR W Hd l (.own ds) o) : ∃ xs, o = .lst xs ∧ Rps W Hd xs ds := by
  cases o with
  | lst xs => exact ⟨xs, rfl, h⟩
  | _ => exact h.elim
theorem OwnR.wd {W : Wh} {Hd : Hp} {l : Addr} {a : Option Addr} {t : T} {o : HO} (h : OwnR W Hd l (.wd a t) o) : ∃ dx v, o = .ins W.w dx [("_top", v)] ∧ (∀ b, a = some b → l = b) ∧ TrR W Hd v t := by
  cases o with
  | ins C dx fs =>
    match fs, h with
    | [(f, v)], h =>
      obtain ⟨rfl, rfl, ha, h⟩ : C = W.w ∧ f = "_top" ∧ (∀ b, a = some b → l = b) ∧ TrR W Hd v t := h
      exact ⟨dx, v, rfl, ha, h⟩
    | [], h => exact h.elim
    | _ :: _ :: _, h => exact h.elim
  | _ => exact h.elim
theorem OwnR.mu {W : Wh} {Hd : Hp} {l : Addr} {sv : SV} {o : HO} (h : OwnR W Hd l sv o) : Mu o := by
  unfold OwnR at h
  split at h
  · exact mu_lst
  · obtain ⟨rfl, rfl, _, h⟩ := h; exact mu_wood
  · exact h.elim
theorem OwnR.mono {W : Wh} {Hd Hd' : Hp} {l : Addr} {sv : SV} {o : HO} (h : OwnR W Hd l sv o) (e : Same Hd Hd') : OwnR W Hd' l sv o := by
  unfold OwnR at h
  split at h
  · exact Rps.mono e h
  · exact ⟨h.1, h.2.1, h.2.2.1, h.2.2.2.mono e⟩
  · exact h.elim
/-- Hb: the heap at the start; Hd: the heap without the lists of one's own -/
structure RS (W : Wh) (Hb Hd H : Hp) (ρ : SEnv) (σ : St) : Prop where
  b : Same Hb Hd
  s : Same Hd H
  len : σ.length = ρ.length
  sl : ∀ i d, sgt ρ i = .v d → ∃ x, σ[i]? = some (some x) ∧ Rp W Hd x d
  ou : ∀ i, (sgt ρ i).free = false → ∃ l o, σ[i]? = some (some (.ref l)) ∧ Hd l = none ∧ H l = some o ∧ OwnR W Hd l (sgt ρ i) o
  nu : ∀ i j l, (sgt ρ i).free = false → (sgt ρ j).free = false → σ[i]? = some (some (.ref l)) → σ[j]? = some (some (.ref l)) → i = j
section
variable {W : Wh} {Hb Hb' Hd Hd' H H' : Hp} {ρ : SEnv} {σ : St}
theorem RS.ow (r : RS W Hb Hd H ρ σ) (i : Nat) (ds : List D) (e : sgt ρ i = .own ds) : ∃ l xs, σ[i]? = some (some (.ref l)) ∧ Hd l = none ∧ H l = some (.lst xs) ∧ Rps W Hd xs ds := by
  obtain ⟨l, o, h1, h2, h3, h4⟩ := r.ou i (by rw [e]; rfl)
  rw [e] at h4
  obtain ⟨xs, rfl, h5⟩ := h4.lst
  exact ⟨l, xs, h1, h2, h3, h5⟩
theorem RS.wo (r : RS W Hb Hd H ρ σ) (i : Nat) (a : Option Addr) (t : T) (e : sgt ρ i = .wd a t) : ∃ l dx v, σ[i]? = some (some (.ref l)) ∧ Hd l = none ∧ H l = some (.ins W.w dx [("_top", v)]) ∧ (∀ b, a = some b → l = b) ∧ TrR W Hd v t := by
  obtain ⟨l, o, h1, h2, h3, h4⟩ := r.ou i (by rw [e]; rfl)
  rw [e] at h4
  obtain ⟨dx, v, rfl, ha, h5⟩ := h4.wd
  exact ⟨l, dx, v, h1, h2, h3, ha, h5⟩
theorem RS.re (r : RS W Hb Hd H ρ σ) : RE W H (full ρ) σ := fun i d h => by
  rw [gt_full] at h
  cases e : sgt ρ i with
  | no => rw [e] at h; cases h
  | v d' =>
    rw [e] at h; cases h
    obtain ⟨x, h1, h2⟩ := r.sl i d e
    exact ⟨x, h1, h2.mono r.s⟩
  | own ds =>
    rw [e] at h; cases h
    obtain ⟨l, xs, h1, _, h3, h4⟩ := r.ow i ds e
    exact ⟨_, h1, .lst h3 (h4.mono r.s)⟩
  | wd a t =>
    rw [e] at h; cases h
    obtain ⟨l, dx, v, h1, _, h3, _, h4⟩ := r.wo i a t e
    exact ⟨_, h1, .wood h3 (h4.mono r.s)⟩
theorem RS.base (r : RS W Hb Hd H ρ σ) (e : Same Hb' Hb) : RS W Hb' Hd H ρ σ := ⟨e.trans r.b, r.s, r.len, r.sl, r.ou, r.nu⟩
theorem RS.up (r : RS W Hb Hd H ρ σ) : RS W Hd Hd H ρ σ := ⟨Same.refl _, r.s, r.len, r.sl, r.ou, r.nu⟩
theorem RS.same (r : RS W Hb Hd H ρ σ) : Same Hb H := r.b.trans r.s
/-- the addresses of one's own -/
def Ow (ρ : SEnv) (σ : St) (l : Addr) : Prop := ∃ i, (sgt ρ i).free = false ∧ σ[i]? = some (some (.ref l))
theorem RS.owD (r : RS W Hb Hd H ρ σ) {l : Addr} (o : Ow ρ σ l) : Hd l = none ∧ ∃ o, H l = some o ∧ Mu o := by
  obtain ⟨i, h1, h2⟩ := o
  obtain ⟨l', o, h3, h4, h5, h6⟩ := r.ou i h1
  rw [h2] at h3
  cases h3
  exact ⟨h4, o, h5, h6.mu⟩
theorem RS.to (r : RS W Hb Hd H ρ σ) (e : Same Hd Hd') (e2 : Same Hd' H') (ho : ∀ l, Ow ρ σ l → Hd' l = none ∧ ∀ o, H l = some o → H' l = some o) : RS W Hb Hd' H' ρ σ where
  b := r.b.trans e
  s := e2
  len := r.len
  sl := fun i d h => by
    obtain ⟨x, h1, h2⟩ := r.sl i d h
    exact ⟨x, h1, h2.mono e⟩
  ou := fun i h => by
    obtain ⟨l, o, h1, h2, h3, h4⟩ := r.ou i h
    obtain ⟨k1, k2⟩ := ho l ⟨i, h, h1⟩
    exact ⟨l, o, h1, k1, k2 o h3, h4.mono e⟩
  nu := r.nu
def cutO (ρ : SEnv) (σ : St) (H : Hp) : Hp := fun b => if Ow ρ σ b then none else H b
theorem RS.grow (r : RS W Hb Hd H ρ σ) (e : Same H H') : RS W Hb (cutO ρ σ H') H' ρ σ := by
  refine r.to (fun b o h => ?_) (fun b o h => ?_) (fun l o => ⟨if_pos o, fun xs h => e _ _ h⟩)
  · unfold cutO
    rw [if_neg (fun z => by rw [(r.owD z).1] at h; cases h)]
    exact e _ _ (r.s _ _ h)
  · unfold cutO at h
    split at h
    · cases h
    · exact h
theorem RS.keepCut (r : RS W Hb Hd H ρ σ) (e : Same H H') : Keep H' (cutO ρ σ H') := fun b o h n => by
  unfold cutO
  rw [if_neg (fun z => by
    obtain ⟨o', h2, h3⟩ := (r.owD z).2
    rw [e _ _ h2] at h
    exact n (Option.some.inj h ▸ h3))]
  exact h
theorem cutO_no (h : noOwn ρ = true) : cutO ρ σ H = H := by
  funext b
  unfold cutO
  rw [if_neg]
  rintro ⟨i, h1, _⟩
  rw [noOwn_fr h i] at h1
  cases h1
theorem sgt_out {ρ : SEnv} {i : Nat} (h : (sgt ρ i).free = false) : i < ρ.length := sgt_lt fun z => by rw [z] at h; cases h
theorem RS.set (r : RS W Hb Hd H ρ σ) {i : Nat} {x : V} {d : D} (h : Rp W Hd x d) : RS W Hb Hd H (ρ.set i (.v d)) (σ.set i (some x)) where
  b := r.b
  s := r.s
  len := by simp [r.len]
  sl := fun j d' e => by
    rw [sgt_set] at e
    split at e
    · rename_i c
      obtain ⟨rfl, c⟩ := c
      cases e
      exact ⟨x, by rw [List.getElem?_set_self (by rw [r.len]; exact c)], h⟩
    · rename_i c
      obtain ⟨y, h1, h2⟩ := r.sl j d' e
      refine ⟨y, ?_, h2⟩
      by_cases ij : i = j
      · subst ij
        exact absurd ⟨rfl, sgt_lt (by rw [e]; intro z; cases z)⟩ c
      · rw [List.getElem?_set_ne ij]; exact h1
  ou := fun j e => by
    rw [sgt_set] at e ⊢
    split at e
    · cases e
    · rename_i c
      rw [if_neg c]
      obtain ⟨l, o, h1, h2⟩ := r.ou j e
      refine ⟨l, o, ?_, h2⟩
      by_cases ij : i = j
      · subst ij
        exact absurd ⟨rfl, sgt_out e⟩ c
      · rw [List.getElem?_set_ne ij]; exact h1
  nu := fun j k l e1 e2 h1 h2 => by
    rw [sgt_set] at e1 e2
    split at e1
    · cases e1
    split at e2
    · cases e2
    rename_i c1 c2
    have n1 : i ≠ j := fun z => by subst z; exact c1 ⟨rfl, sgt_out e1⟩
    have n2 : i ≠ k := fun z => by subst z; exact c2 ⟨rfl, sgt_out e2⟩
    rw [List.getElem?_set_ne n1] at h1
    rw [List.getElem?_set_ne n2] at h2
    exact r.nu j k l e1 e2 h1 h2
/-- a slot that becomes one's own -/
theorem RS.setU (r : RS W Hb Hd H ρ σ) {i : Nat} {l : Addr} {o : HO} {sv : SV} (hf : sv.free = false) (hd : Hd l = none) (hl : H l = some o) (h : OwnR W Hd l sv o) (hn : ∀ j, j ≠ i → (sgt ρ j).free = false → σ[j]? ≠ some (some (.ref l))) : RS W Hb Hd H (ρ.set i sv) (σ.set i (some (.ref l))) where
  b := r.b
  s := r.s
  len := by simp [r.len]
  sl := fun j d' e => by
    rw [sgt_set] at e
    split at e
    · rw [e] at hf; cases hf
    · rename_i c
      obtain ⟨y, h1, h2⟩ := r.sl j d' e
      refine ⟨y, ?_, h2⟩
      by_cases ij : i = j
      · subst ij
        exact absurd ⟨rfl, sgt_lt (by rw [e]; intro z; cases z)⟩ c
      · rw [List.getElem?_set_ne ij]; exact h1
  ou := fun j e => by
    rw [sgt_set] at e ⊢
    split at e
    · rename_i c
      rw [if_pos c]
      obtain ⟨rfl, c⟩ := c
      exact ⟨l, o, by rw [List.getElem?_set_self (by rw [r.len]; exact c)], hd, hl, h⟩
    · rename_i c
      rw [if_neg c]
      obtain ⟨l', o', h1, h2⟩ := r.ou j e
      refine ⟨l', o', ?_, h2⟩
      by_cases ij : i = j
      · subst ij
        exact absurd ⟨rfl, sgt_out e⟩ c
      · rw [List.getElem?_set_ne ij]; exact h1
  nu := fun j k l' e1 e2 h1 h2 => by
    by_cases ij : i = j
    · by_cases ik : i = k
      · exact ij.symm.trans ik
      · subst ij
        rw [sgt_set, if_neg (fun z => ik z.1)] at e2
        rw [List.getElem?_set_ne ik] at h2
        by_cases c : i < ρ.length
        · rw [List.getElem?_set_self (by rw [r.len]; exact c)] at h1
          cases h1
          exact absurd h2 (hn k (Ne.symm ik) e2)
        · rw [sgt_set, if_neg (fun z => c z.2)] at e1
          exact absurd (sgt_out e1) c
    · rw [sgt_set, if_neg (fun z => ij z.1)] at e1
      rw [List.getElem?_set_ne ij] at h1
      by_cases ik : i = k
      · subst ik
        by_cases c : i < ρ.length
        · rw [List.getElem?_set_self (by rw [r.len]; exact c)] at h2
          cases h2
          exact absurd h1 (hn j (Ne.symm ij) e1)
        · rw [sgt_set, if_neg (fun z => c z.2)] at e2
          exact absurd (sgt_out e2) c
      · rw [sgt_set, if_neg (fun z => ik z.1)] at e2
        rw [List.getElem?_set_ne ik] at h2
        exact r.nu j k l' e1 e2 h1 h2
/-- one's own is changed -/
theorem RS.updU (r : RS W Hb Hd H ρ σ) {i : Nat} {l : Addr} {o : HO} {sv : SV} (e : (sgt ρ i).free = false) (hl : σ[i]? = some (some (.ref l))) (hf : sv.free = false) (h : OwnR W Hd l sv o) : RS W Hb Hd (L2.upd H l o) (ρ.set i sv) σ := by
  have hd := (r.owD ⟨i, e, hl⟩).1
  have hs : Same Hd (L2.upd H l o) := fun b o' hb => by rw [upd_ne (ne_of_none hb hd)]; exact r.s _ _ hb
  have il : i < ρ.length := sgt_out e
  have fr : ∀ j, (sgt (ρ.set i sv) j).free = false → (sgt ρ j).free = false := fun j e1 => by
    rw [sgt_set] at e1
    split at e1
    · rename_i c; obtain ⟨rfl, _⟩ := c; exact e
    · exact e1
  refine ⟨r.b, hs, by simp [r.len], fun j d' e1 => ?_, fun j e1 => ?_, fun j k l' e1 e2 h1 h2 => r.nu j k l' (fr j e1) (fr k e2) h1 h2⟩
  · rw [sgt_set] at e1
    split at e1
    · rw [e1] at hf; cases hf
    · exact r.sl j d' e1
  · rw [sgt_set] at e1 ⊢
    split at e1
    · rename_i c
      rw [if_pos c]
      obtain ⟨rfl, c⟩ := c
      exact ⟨l, o, hl, hd, upd_same, h⟩
    · rename_i c
      rw [if_neg c]
      obtain ⟨l', o', h1, h2, h3, h4⟩ := r.ou j e1
      refine ⟨l', o', h1, h2, ?_, h4⟩
      rw [upd_ne]
      · exact h3
      · rintro rfl
        have := r.nu i j l' e e1 hl h1
        subst this
        exact c ⟨rfl, il⟩
theorem RS.upd (r : RS W Hb Hd H ρ σ) {i : Nat} {l : Addr} {ys : List V} {ds es : List D} (e : sgt ρ i = .own ds) (hl : σ[i]? = some (some (.ref l))) (h : Rps W Hd ys es) : RS W Hb Hd (L2.upd H l (.lst ys)) (ρ.set i (.own es)) σ :=
  r.updU (by rw [e]; rfl) hl rfl h
end
/-! ### statements by data -/
inductive Out where
  | nx (ρ : SEnv) | rt (d : D) (ρ : SEnv) | bk (ρ : SEnv) | ct (ρ : SEnv)
abbrev SM := SEnv → Option Out
def OutOk (W : Wh) (fr : Bool) (Hb : Hp) (D' : Ends) : Out → Prop
  | .nx ρ' => ∀ σ' H' Hd', RS W Hb Hd' H' ρ' σ' → D'.nx σ' H'
  | .bk ρ' => ∀ σ' H' Hd', RS W Hb Hd' H' ρ' σ' → D'.bk σ' H'
  | .ct ρ' => ∀ σ' H' Hd', RS W Hb Hd' H' ρ' σ' → D'.ct σ' H'
  | .rt d ρ' => ∀ v σ' H' H2 Hd', RS W Hb Hd' H' ρ' σ' → Same H' H2 → Rp W H2 v d → (fr = true → FrL Hb H2 v) → D'.rt v H2
def tS (W : Wh) (fr : Bool) (m : SM) : TS := fun D' σ H => ∃ Hb Hd ρ o, RS W Hb Hd H ρ σ ∧ m ρ = some o ∧ OutOk W fr Hb D' o
abbrev ES (X : Cx) (W : Wh) (fr : Bool) (st : Stmt) (m : SM) : Prop := PS X st (tS W fr m)
abbrev EB (X : Cx) (W : Wh) (fr : Bool) (st : List Stmt) (m : SM) : Prop := PSs X st (tS W fr m)
section
variable {X : Cx} {W : Wh} {fr : Bool} {st : Stmt} {rest : List Stmt} {m m1 m2 : SM} {e a b : Expr} {es : List Expr} {pos : Pos} {fa fb : Bool} {ma mb : EM} {mt : BM}
def sNext : SM := fun ρ => some (.nx ρ)
def sSeq (a b : SM) : SM := fun ρ => (a ρ).bind fun o => match o with
  | .nx ρ' => b ρ'
  | o => some o
theorem es_nil : EB X W fr [] sNext := PSs.imp pss_nil fun D' σ H ⟨Hb, Hd, ρ, o, r, e, k⟩ => by
  cases e
  exact k σ H Hd r
theorem es_cons (h1 : ES X W fr st m1) (h2 : EB X W fr rest m2) : EB X W fr (st :: rest) (sSeq m1 m2) := PSs.imp (pss_cons h1 h2) fun D' σ H ⟨Hb, Hd, ρ, o, r, e, k⟩ => by
  unfold sSeq at e
  rw [Option.bind_eq_some_iff] at e
  obtain ⟨o1, e1, e2⟩ := e
  refine ⟨Hb, Hd, ρ, o1, r, e1, ?_⟩
  cases o1 with
  | nx ρ' => exact fun σ' H' Hd' r' => ⟨Hb, Hd', ρ', o, r', e2, k⟩
  | rt d => cases e2; exact k
  | bk d => cases e2; exact k
  | ct d => cases e2; exact k
theorem es_one (h1 : ES X W fr st m1) : EB X W fr [st] m1 := pss_one h1
def sFail : SM := fun _ => none
theorem es_fail : ES X W fr st sFail := PS.imp ps_never fun D' σ H ⟨Hb, Hd, ρ, o, r, e, k⟩ => by cases e
def sBrk : SM := fun ρ => some (.bk ρ)
def sCnt : SM := fun ρ => some (.ct ρ)
theorem es_break : ES X W fr (.Break pos) sBrk := PS.imp ps_break fun D' σ H ⟨Hb, Hd, ρ, o, r, e, k⟩ => by cases e; exact k σ H Hd r
theorem es_continue : ES X W fr (.Continue pos) sCnt := PS.imp ps_continue fun D' σ H ⟨Hb, Hd, ρ, o, r, e, k⟩ => by cases e; exact k σ H Hd r
theorem es_pass : ES X W fr (.Pass pos) sNext := PS.imp ps_pass fun D' σ H ⟨Hb, Hd, ρ, o, r, e, k⟩ => by cases e; exact k σ H Hd r
def sDrop (m : EM) : SM := fun ρ => (m (full ρ)).map fun _ => .nx ρ
theorem es_expr (he : EV X W e fa ma) (hs : swapsWith e none pos.line X.env = pure false := by rfl) : ES X W fr (.Expr e pos) (sDrop ma) := PS.imp (ps_expr he hs) fun D' σ H ⟨Hb, Hd, ρ, o, r, e, k⟩ => by
  unfold sDrop at e
  rw [Option.map_eq_some_iff] at e
  obtain ⟨d, e1, rfl⟩ := e
  exact ⟨full ρ, d, r.re, e1, fun v H1 s1 r1 _ => k σ H1 _ (r.grow s1)⟩
def sIf (t : BM) (a b : SM) : SM := fun ρ => (t (full ρ)).bind fun c => if c then a ρ else b ρ
theorem es_if {c : Expr} {x y : List Stmt} (hc : ET X W c mt) (ha : EB X W fr x m1) (hb : EB X W fr y m2) : ES X W fr (.If c x y pos) (sIf mt m1 m2) := PS.imp (ps_if hc ha hb) fun D' σ H ⟨Hb, Hd, ρ, o, r, e, k⟩ => by
  unfold sIf at e
  rw [Option.bind_eq_some_iff] at e
  obtain ⟨d, e1, e2⟩ := e
  refine ⟨full ρ, d, r.re, e1, fun H1 s1 => ?_⟩
  cases d with
  | true => exact ⟨Hb, _, ρ, o, r.grow s1, e2, k⟩
  | false => exact ⟨Hb, _, ρ, o, r.grow s1, e2, k⟩
def sRet (m : EM) : SM := fun ρ => (m (full ρ)).map fun d => .rt d ρ
theorem es_ret (he : EV X W e fa ma) (hf : fr = true → fa = true := by first | exact fun h => h | exact fun h => nomatch h | exact fun _ => rfl) : ES X W fr (.Return (some e) pos) (sRet ma) := PS.imp (ps_ret he) fun D' σ H ⟨Hb, Hd, ρ, o, r, e, k⟩ => by
  unfold sRet at e
  rw [Option.map_eq_some_iff] at e
  obtain ⟨d, e1, rfl⟩ := e
  exact ⟨full ρ, d, r.re, e1, fun v H1 s1 r1 f1 => k v σ H H1 Hd r s1 r1 fun z => (f1 (hf z)).back r.same⟩
def sRetN : SM := fun ρ => some (.rt .non ρ)
theorem es_retN : ES X W false (.Return none pos) sRetN := PS.imp ps_retN fun D' σ H ⟨Hb, Hd, ρ, o, r, e, k⟩ => by
  cases e
  exact k _ σ H H Hd r (Same.refl H) .non (fun z => nomatch z)
/-- return xs, a list of one's own -/
def sRetO (i : Nat) : SM := fun ρ => match sgt ρ i with
  | .own ds => some (.rt (.lst ds) ρ)
  | _ => none
theorem es_retO (i : Nat) {x : Str} {p : Pos} (hN : X.N[i]? = some x := by rfl) (hv : Vis X.env.scope x := by first | exact Or.inl rfl | exact Or.inr (Or.inl rfl) | exact Or.inr (Or.inr rfl)) (hd : (x == ("__debug__" : Str)) = false := by decide)
    (hcd : (x == ("__classdict__" : Str)) = false := by decide) : ES X W fr (.Return (some (.Name x p)) pos) (sRetO i) := PS.imp (ps_ret (pe_var hN hv hd hcd)) fun D' σ H ⟨Hb, Hd, ρ, o, r, e, k⟩ => by
  unfold sRetO at e
  cases hs : sgt ρ i with
  | own ds =>
    rw [hs] at e
    cases e
    obtain ⟨l, xs, h1, h2, h3, h4⟩ := r.ow i ds hs
    exact ⟨_, h1, k _ σ H H Hd r (Same.refl H) (.lst h3 (h4.mono r.s)) fun _ => ⟨l, xs, rfl, r.b.free h2, h3⟩⟩
  | no => rw [hs] at e; cases e
  | v _ => rw [hs] at e; cases e
  | wd _ _ => rw [hs] at e; cases e
/-! #### storing -/
def sSet (i : Nat) (m : EM) : SM := fun ρ => (m (full ρ)).bind fun d => if d.imm = true ∨ noOwn ρ = true then some (.nx (ρ.set i (.v d))) else none
theorem RS.store {Hb Hd H H' : Hp} {ρ : SEnv} {σ : St} {x : V} {d : D} (r : RS W Hb Hd H ρ σ) (s : Same H H') (h : Rp W H' x d) (c : d.imm = true ∨ noOwn ρ = true) (i : Nat) : RS W Hb (cutO ρ σ H') H' (ρ.set i (.v d)) (σ.set i (some x)) := by
  refine (r.grow s).set ?_
  rcases c with c | c
  · exact h.keep (r.keepCut s) c
  · rw [cutO_no c]; exact h
theorem es_asg {g : TG} {i : Nat} {st : Stmt} (h : PS X st (tAsg (tX W fa ma) (gName i))) : ES X W fr st (sSet i ma) := PS.imp h fun D' σ H ⟨Hb, Hd, ρ, o, r, e, k⟩ => by
  unfold sSet at e
  rw [Option.bind_eq_some_iff] at e
  obtain ⟨d, e1, e2⟩ := e
  split at e2
  · cases e2
    rename_i c
    exact ⟨full ρ, d, r.re, e1, fun v H1 s1 r1 _ => k _ _ _ (r.store s1 r1 c i)⟩
  · cases e2
theorem es_set {i : Nat} {x : Str} {pos' : Pos} (hN : X.N.Nodup) (hi : X.N[i]? = some x) (hx : Loc X.env.scope x) (he : EV X W e fa ma) (hs : swapsWith e (some (.Name x pos')) pos.line X.env = pure false := by rfl)
    (hf : X.fn x = true ∨ X.env.scope.names.lookup x = some .local := by first | exact .inl rfl | exact .inr rfl | assumption) : ES X W fr (.Assign [.Name x pos'] e pos) (sSet i ma) := es_asg (g := gName i) (ps_set hN hi hx he hs hf)
/-- a fresh list of no lists, kept beside one's own -/
def sSetF (i : Nat) (m : EM) : SM := fun ρ => (m (full ρ)).bind fun d => match d with
  | .lst ds => if D.imms ds = true then some (.nx (ρ.set i (.v (.lst ds)))) else none
  | _ => none
/-- .. one's own from now on -/
def sOwn (i : Nat) (m : EM) : SM := fun ρ => (m (full ρ)).bind fun d => match d with
  | .lst ds => if D.imms ds = true then some (.nx (ρ.set i (.own ds))) else none
  | _ => none
theorem RS.newF {Hb Hd H H' : Hp} {ρ : SEnv} {σ : St} {v : V} {ds : List D} (r : RS W Hb Hd H ρ σ) (s : Same H H') (h : Rp W H' v (.lst ds)) (f : FrL H H' v) (c : D.imms ds = true) : Rp W (cutO ρ σ H') v (.lst ds) := by
  cases h with | @lst a xs _ h1 h2 =>
  obtain ⟨a', xs', e, n, _⟩ := f
  cases e
  refine .lst ?_ (h2.keep (r.keepCut s) c)
  unfold cutO
  rw [if_neg (fun z => by obtain ⟨_, h3, _⟩ := (r.owD z).2; rw [n] at h3; cases h3)]
  exact h1
theorem es_asgF {i : Nat} {st : Stmt} (h : PS X st (tAsg (tX W true ma) (gName i))) : ES X W fr st (sSetF i ma) := PS.imp h fun D' σ H ⟨Hb, Hd, ρ, o, r, e, k⟩ => by
  unfold sSetF at e
  rw [Option.bind_eq_some_iff] at e
  obtain ⟨d, e1, e2⟩ := e
  cases d with
  | lst ds =>
    have e2 : (if D.imms ds = true then some (Out.nx (ρ.set i (.v (.lst ds)))) else none) = some o := e2
    split at e2
    · cases e2
      rename_i c
      exact ⟨full ρ, _, r.re, e1, fun v H1 s1 r1 f1 => k _ _ _ ((r.grow s1).set (r.newF s1 r1 (f1 rfl) c))⟩
    · cases e2
  | _ => cases e2
theorem es_asgO {i : Nat} {st : Stmt} (h : PS X st (tAsg (tX W true ma) (gName i))) : ES X W fr st (sOwn i ma) := PS.imp h fun D' σ H ⟨Hb, Hd, ρ, o, r, e, k⟩ => by
  unfold sOwn at e
  rw [Option.bind_eq_some_iff] at e
  obtain ⟨d, e1, e2⟩ := e
  cases d with
  | lst ds =>
    have e2 : (if D.imms ds = true then some (Out.nx (ρ.set i (.own ds))) else none) = some o := e2
    split at e2
    · cases e2
      rename_i c
      refine ⟨full ρ, _, r.re, e1, fun v H1 s1 r1 f1 => ?_⟩
      obtain ⟨a, xs, rfl, n, _⟩ := f1 rfl
      cases r1 with | lst h1 h2 =>
      -- the heap without the new list too
      refine k _ _ (fun b => if b = a then none else cutO ρ σ H1 b) ?_
      have hda : Hd a = none := r.s.free n
      have g := r.grow s1
      have r2 : RS W Hb (fun b => if b = a then none else cutO ρ σ H1 b) H1 ρ σ := by
        refine r.to (fun b o h => ?_) (fun b o h => ?_) (fun l ol => ⟨?_, fun xs h => s1 _ _ h⟩)
        · show (if b = a then none else cutO ρ σ H1 b) = some o
          rw [if_neg (ne_of_none h hda)]
          unfold cutO
          rw [if_neg (fun z => by rw [(r.owD z).1] at h; cases h)]
          exact s1 _ _ (r.s _ _ h)
        · have h : (if b = a then none else cutO ρ σ H1 b) = some o := h
          split at h
          · cases h
          · exact g.s _ _ h
        · show (if l = a then none else cutO ρ σ H1 l) = none
          split
          · rfl
          · exact if_pos ol
      refine r2.setU rfl (if_pos rfl) h1 (h2.keep (fun b o h nl => ?_) c) (fun j _ e3 h3 => ?_)
      · show (if b = a then none else cutO ρ σ H1 b) = some o
        rw [if_neg (fun z => by subst z; rw [h1] at h; exact nl (Option.some.inj h ▸ mu_lst))]
        exact r.keepCut s1 b o h nl
      · obtain ⟨_, h4, _⟩ := (r.owD ⟨j, e3, h3⟩).2
        rw [n] at h4; cases h4
    · cases e2
  | _ => cases e2
/-- a, b, c = e -/
def gNames : List Nat → TGs
  | [] => gNil
  | i :: r => gCons (gName i) (gNames r)
def setAll : List Nat → List D → SEnv → SEnv
  | i :: r, d :: ds, ρ => setAll r ds (ρ.set i (.v d))
  | _, _, ρ => ρ
theorem names_of {Hb Hd H : Hp} : ∀ {is : List Nat} {ds : List D} {xs : List V} {ρ : SEnv} {σ : St} {Q : St → Hp → Prop}, is.length = ds.length → RS W Hb Hd H ρ σ → Rps W Hd xs ds → (∀ σ', RS W Hb Hd H (setAll is ds ρ) σ' → Q σ' H) → gNames is xs σ H Q
  | [], [], _, ρ, σ, Q, _, r, h, k => by cases h; exact ⟨rfl, k σ r⟩
  | i :: is, d :: ds, _, ρ, σ, Q, hl, r, h, k => by
    cases h with | cons h1 h2 =>
    exact ⟨_, _, rfl, names_of (by simpa using hl) (r.set h1) h2 k⟩
  | [], _ :: _, _, _, _, _, hl, _, _, _ => by cases hl
  | _ :: _, [], _, _, _, _, hl, _, _, _ => by cases hl
def sUnp (is : List Nat) (m : EM) : SM := fun ρ => (m (full ρ)).bind fun d => match d with
  | .tup ds => if is.length = ds.length ∧ (D.imms ds = true ∨ noOwn ρ = true) then some (.nx (setAll is ds ρ)) else none
  | _ => none
theorem es_unp (hK : X.K = W.K) (is : List Nat) {st : Stmt} (h : PS X st (tAsg (tX W fa ma) (gTup X.K is.length (gNames is)))) : ES X W fr st (sUnp is ma) := PS.imp h fun D' σ H ⟨Hb, Hd, ρ, o, r, e, k⟩ => by
  unfold sUnp at e
  rw [Option.bind_eq_some_iff] at e
  obtain ⟨d, e1, e2⟩ := e
  cases d with
  | tup ds =>
    have e2 : (if is.length = ds.length ∧ (D.imms ds = true ∨ noOwn ρ = true) then some (Out.nx (setAll is ds ρ)) else none) = some o := e2
    split at e2
    · cases e2
      rename_i c
      refine ⟨full ρ, _, r.re, e1, fun v H1 s1 r1 _ => ?_⟩
      cases r1 with | tup h1 h2 =>
      refine ⟨_, _, rfl, SqT.of h1, by rw [h2.length]; exact c.1.symm, names_of c.1 (r.grow s1) ?_ fun σ' r' => k _ _ _ r'⟩
      rcases c.2 with c | c
      · exact h2.keep (r.keepCut s1) c
      · rw [cutO_no c]; exact h2
    · cases e2
  | _ => cases e2
/-- a, b = x, y -/
def sPar (i j : Nat) (m : DEnv → Option (List D)) : SM := fun ρ => (m (full ρ)).bind fun ds => match ds with
  | [x, y] => if (D.imms ds = true ∨ noOwn ρ = true) ∧ i ≠ j then some (.nx ((ρ.set i (.v x)).set j (.v y))) else none
  | _ => none
theorem es_par {i j : Nat} {ms : DEnv → Option (List D)} {st : Stmt} (h : PS X st (tPar i j (tXs W ms))) : ES X W fr st (sPar i j ms) := PS.imp h fun D' σ H ⟨Hb, Hd, ρ, o, r, e, k⟩ => by
  unfold sPar at e
  rw [Option.bind_eq_some_iff] at e
  obtain ⟨ds, e1, e2⟩ := e
  match ds, e1, e2 with
  | [x, y], e1, e2 =>
    by_cases c : (D.imms [x, y] = true ∨ noOwn ρ = true) ∧ i ≠ j
    · have e3 : (if (D.imms [x, y] = true ∨ noOwn ρ = true) ∧ i ≠ j then some (Out.nx ((ρ.set i (.v x)).set j (.v y))) else none) = some o := e2
      rw [if_pos c] at e3
      cases e3
      refine ⟨full ρ, _, r.re, e1, fun vs H1 s1 r1 => ?_⟩
      obtain ⟨v, w, rfl, h1, h2⟩ := r1.two
      have h3 : Rps W (cutO ρ σ H1) [v, w] [x, y] := by
        rcases c.1 with c | c
        · exact Rps.keep (r.keepCut s1) c (.cons h1 (.cons h2 .nil))
        · rw [cutO_no c]; exact .cons h1 (.cons h2 .nil)
      obtain ⟨v', w', e3, h4, h5⟩ := h3.two
      cases e3
      exact ⟨v, w, rfl, k _ _ _ (((r.grow s1).set h4).set h5)⟩
    · have e3 : (if (D.imms [x, y] = true ∨ noOwn ρ = true) ∧ i ≠ j then some (Out.nx ((ρ.set i (.v x)).set j (.v y))) else none) = some o := e2
      rw [if_neg c] at e3
      cases e3
  | [], _, e2 => cases e2
  | [_], _, e2 => cases e2
  | _ :: _ :: _ :: _, _, e2 => cases e2
/-! #### one's own list, changed -/
def sApp (i : Nat) (m : EM) : SM := fun ρ => (m (full ρ)).bind fun d => match sgt ρ i with
  | .own ds => if (d.imm = true) ∧ ds.length < sizeLine then some (.nx (ρ.set i (.own (ds ++ [d])))) else none
  | _ => none
theorem es_app (i : Nat) {st : Stmt} (h : PS X st (tDrop (tBM X.K "list" rAppend (tVar i) (tCons (tX W fa ma) tNil)))) : ES X W fr st (sApp i ma) := PS.imp h fun D' σ H ⟨Hb, Hd, ρ, o, r, e, k⟩ => by
  unfold sApp at e
  rw [Option.bind_eq_some_iff] at e
  obtain ⟨d, e1, e2⟩ := e
  cases hs : sgt ρ i with
  | own ds =>
    rw [hs] at e2
    have e2 : (if (d.imm = true) ∧ ds.length < sizeLine then some (Out.nx (ρ.set i (.own (ds ++ [d])))) else none) = some o := e2
    split at e2
    · cases e2
      rename_i c
      obtain ⟨l, xs, h1, h2, h3, h4⟩ := r.ow i ds hs
      refine ⟨_, h1, .inl ⟨rfl, _, SqL.of h3⟩, full ρ, d, r.re, e1, fun v H1 s1 r1 _ => ?_⟩
      have g := r.grow s1
      have h4' : Rps W (cutO ρ σ H1) xs ds := by
        obtain ⟨l', xs', k1, _, k3, k4⟩ := g.ow i ds hs
        rw [h1] at k1
        cases k1
        rw [s1 _ _ h3] at k3
        cases k3
        exact k4
      exact ⟨l, xs, v, rfl, rfl, s1 _ _ h3, by rw [h4.length]; exact c.2, k _ _ _ (g.upd hs h1 (h4'.append (.cons (r1.keep (r.keepCut s1) c.1) .nil)))⟩
    · cases e2
  | no => rw [hs] at e2; cases e2
  | v _ => rw [hs] at e2; cases e2
  | wd _ _ => rw [hs] at e2; cases e2
def sPop (i j : Nat) : SM := fun ρ => match sgt ρ i with
  | .own ds => ds[ds.length - 1]?.map fun d => .nx ((ρ.set i (.own ds.dropLast)).set j (.v d))
  | _ => none
theorem Rps.dropLast {H : Hp} {ds : List D} {vs : List V} (r : Rps W H vs ds) : Rps W H vs.dropLast ds.dropLast := by
  rw [List.dropLast_eq_take, List.dropLast_eq_take, r.length]
  exact r.take _
theorem es_pop (i j : Nat) {st : Stmt} (h : PS X st (tAsg (tBM0 X.K "list" rPop (tVar i)) (gName j))) : ES X W fr st (sPop i j) := PS.imp h fun D' σ H ⟨Hb, Hd, ρ, o, r, e, k⟩ => by
  unfold sPop at e
  cases hs : sgt ρ i with
  | own ds =>
    rw [hs] at e
    have e : (ds[ds.length - 1]?.map fun d => Out.nx ((ρ.set i (.own ds.dropLast)).set j (.v d))) = some o := e
    rw [Option.map_eq_some_iff] at e
    obtain ⟨d, e1, rfl⟩ := e
    obtain ⟨l, xs, h1, h2, h3, h4⟩ := r.ow i ds hs
    obtain ⟨y, h5, h6⟩ := h4.get e1
    refine ⟨_, h1, .inl ⟨rfl, _, SqL.of h3⟩, l, xs, y, rfl, rfl, h3, by rw [h4.length]; exact h5, ?_⟩
    exact k _ _ _ ((r.upd hs h1 h4.dropLast).set h6)
  | no => rw [hs] at e; cases e
  | v _ => rw [hs] at e; cases e
  | wd _ _ => rw [hs] at e; cases e
/-- xs[k] = e -/
def sPut (i : Nat) (mi me : EM) : SM := fun ρ => (me (full ρ)).bind fun d => (mi (full ρ)).bind fun x => match sgt ρ i, x with
  | .own ds, .int q => (ixN ds.length q).bind fun j => if d.imm = true then some (.nx (ρ.set i (.own (ds.set j d)))) else none
  | _, _ => none
theorem es_put (i : Nat) {st : Stmt} {mi : EM} (h : PS X st (tAsg (tX W fa ma) (gSub (tVar i) (tX W fb mi) rSetL))) : ES X W fr st (sPut i mi ma) := PS.imp h fun D' σ H ⟨Hb, Hd, ρ, o, r, e, k⟩ => by
  unfold sPut at e
  rw [Option.bind_eq_some_iff] at e
  obtain ⟨d, e1, e⟩ := e
  rw [Option.bind_eq_some_iff] at e
  obtain ⟨x, e2, e⟩ := e
  cases hs : sgt ρ i with
  | own ds =>
    rw [hs] at e
    cases x with
    | int q =>
      have e : ((ixN ds.length q).bind fun j => if d.imm = true then some (Out.nx (ρ.set i (.own (ds.set j d)))) else none) = some o := e
      rw [Option.bind_eq_some_iff] at e
      obtain ⟨j, e3, e4⟩ := e
      split at e4
      · cases e4
        rename_i c
        obtain ⟨l, xs, h1, h2, h3, h4⟩ := r.ow i ds hs
        refine ⟨full ρ, d, r.re, e1, fun v H1 s1 r1 _ => ⟨_, h1, full ρ, _, r.re.mono s1, e2, fun v2 H2 s2 r2 _ => ?_⟩⟩
        cases r2
        have s := s1.trans s2
        have g := r.grow s
        have h4' : Rps W (cutO ρ σ H2) xs ds := by
          obtain ⟨l', xs', k1, _, k3, k4⟩ := g.ow i ds hs
          rw [h1] at k1
          cases k1
          rw [s _ _ h3] at k3
          cases k3
          exact k4
        exact ⟨l, xs, q, j, rfl, rfl, s _ _ h3, by rw [h4.length]; exact e3, k _ _ _ (g.upd hs h1 (Rps.set ((r1.mono s2).keep (r.keepCut s) c) j h4'))⟩
      · cases e4
    | _ => cases e
  | no => rw [hs] at e; cases e
  | v _ => rw [hs] at e; cases e
  | wd _ _ => rw [hs] at e; cases e
end
end
end Sp

set_option Elab.async false
set_option linter.all false
set_option maxRecDepth 100000
set_option maxHeartbeats 2000000
namespace Sp
open PySem L2
open Classical
noncomputable section
variable {X : Cx} {W : Wh} {fr : Bool} {st : Stmt} {rest : List Stmt} {m m1 m2 : SM} {e a b : Expr} {es : List Expr} {pos : Pos} {fa fb : Bool} {ma mb me : EM} {mt : BM}
/-! ### loops -/
/-- the target: a name, names in parentheses -/
inductive Tg where
  | one (i : Nat) | many (is : List Nat)
def Tg.g (K : PySem.W.Frag) : Tg → TG
  | .one i => gName i
  | .many is => gTup K is.length (gNames is)
def Tg.put : Tg → D → SEnv → Option SEnv
  | .one i, d, ρ => some (ρ.set i (.v d))
  | .many is, .tup ds, ρ => if is.length = ds.length then some (setAll is ds ρ) else none
  | .many _, _, _ => none
theorem Tg.of {Hb Hd H : Hp} {ρ ρ' : SEnv} {σ : St} {x : V} {d : D} {Q : St → Hp → Prop} {t : Tg} (r : RS W Hb Hd H ρ σ) (h : Rp W Hd x d) (e : t.put d ρ = some ρ') (k : ∀ σ', RS W Hb Hd H ρ' σ' → Q σ' H) : t.g W.K x σ H Q := by
  cases t with
  | one i => cases e; exact k _ (r.set h)
  | many is =>
    cases d with
    | tup ds =>
      have e : (if is.length = ds.length then some (setAll is ds ρ) else none) = some ρ' := e
      split at e
      · cases e
        rename_i c
        cases h with | tup h1 h2 =>
        exact ⟨_, _, rfl, SqT.of (r.s _ _ h1), by rw [h2.length]; exact c.symm, names_of c r h2 k⟩
      · cases e
    | _ => cases e
def forL (t : Tg) (body : SM) : List D → SEnv → Option Out
  | [], ρ => some (.nx ρ)
  | d :: r, ρ => (t.put d ρ).bind fun ρ1 => (body ρ1).bind fun o => match o with
    | .nx ρ2 => forL t body r ρ2
    | .ct ρ2 => forL t body r ρ2
    | .bk ρ2 => some (.nx ρ2)
    | .rt d ρ2 => some (.rt d ρ2)
/-- one turn -/
theorem for_turn {Hb Hd Hd' H : Hp} {ρ : SEnv} {σ : St} {x : V} {d : D} {r : List D} {o : Out} {D' : Ends} {t : Tg} {body : SM} {P : St → Hp → Prop} (hb : Same Hb Hd) (rs : RS W Hd Hd' H ρ σ) (h : Rp W Hd x d) (e : forL t body (d :: r) ρ = some o) (k : OutOk W fr Hb D' o)
    (hP : ∀ ρ2 σ2 H2 Hd2, RS W Hd Hd2 H2 ρ2 σ2 → forL t body r ρ2 = some o → P σ2 H2) : t.g W.K x σ H fun σ2 H2 => tS W fr body { D' with nx := P, ct := P, bk := D'.nx } σ2 H2 := by
  rw [forL, Option.bind_eq_some_iff] at e
  obtain ⟨ρ1, e1, e⟩ := e
  rw [Option.bind_eq_some_iff] at e
  obtain ⟨o1, e2, e3⟩ := e
  refine Tg.of rs (h.mono rs.b) e1 fun σ1 r1 => ⟨Hd, Hd', ρ1, o1, r1, e2, ?_⟩
  cases o1 with
  | nx ρ2 => exact fun σ2 H2 Hd2 r2 => hP ρ2 σ2 H2 Hd2 r2 e3
  | ct ρ2 => exact fun σ2 H2 Hd2 r2 => hP ρ2 σ2 H2 Hd2 r2 e3
  | bk ρ2 => cases e3; exact fun σ2 H2 Hd2 r2 => k σ2 H2 Hd2 (r2.base hb)
  | rt d ρ2 => cases e3; exact fun v σ2 H2 H3 Hd2 r2 s2 h2 f2 => k v σ2 H2 H3 Hd2 (r2.base hb) s2 h2 fun z => (f2 z).back hb
theorem Rps.drop_get {H : Hp} {ds : List D} {xs : List V} {i : Nat} {x : V} (r : Rps W H xs ds) (h : xs[i]? = some x) : ∃ d, ds.drop i = d :: ds.drop (i + 1) ∧ Rp W H x d := by
  obtain ⟨hl, e⟩ := List.getElem?_eq_some_iff.mp h
  have hl' : i < ds.length := by rw [← r.length]; exact hl
  refine ⟨ds[i], List.drop_eq_getElem_cons hl', ?_⟩
  obtain ⟨v, h1, h2⟩ := r.get (List.getElem?_eq_getElem hl')
  rw [h] at h1
  cases h1
  exact h2
/-- over a list that stands in Hd -/
theorem for_data {Hb Hd H : Hp} {ρ : SEnv} {σ : St} {a : Addr} {xs : List V} {ds : List D} {o : Out} {D' : Ends} {t : Tg} {body : SM} (rs : RS W Hb Hd H ρ σ) (h1 : Hd a = some (.lst xs)) (h2 : Rps W Hd xs ds) (e : forL t body ds ρ = some o) (k : OutOk W fr Hb D' o) :
    kFor (t.g W.K) (tS W fr body) D' σ (Itl W.K a) H := by
  refine f_list (fun i σ H => ∃ Hd' ρ', RS W Hd Hd' H ρ' σ ∧ forL t body (ds.drop i) ρ' = some o) ⟨Hd, ρ, rs.up, e⟩ (fun i σ H _ ⟨Hd', ρ', r', _⟩ => SqL.of (r'.same _ _ h1)) (fun i x σ H hx ⟨Hd', ρ', r', e'⟩ => ?_) (fun σ H ⟨Hd', ρ', r', e'⟩ => ?_)
  · obtain ⟨d, e1, h3⟩ := h2.drop_get hx
    rw [e1] at e'
    exact for_turn rs.b r' h3 e' k fun ρ2 σ2 H2 Hd2 r2 e2 => ⟨Hd2, ρ2, r2, e2⟩
  · rw [h2.length, List.drop_length] at e'
    cases e'
    exact k σ H Hd' (r'.base rs.b)
/-- .. what is told of it: a name that stands, something new, anything where nothing is one's own -/
def sForV (t : Tg) (i : Nat) (body : SM) : SM := fun ρ => match sgt ρ i with
  | .v (.lst ds) => forL t body ds ρ
  | _ => none
def sForF (t : Tg) (m : EM) (body : SM) : SM := fun ρ => (m (full ρ)).bind fun d => match d with
  | .lst ds => if D.imms ds = true then forL t body ds ρ else none
  | _ => none
def sForN (t : Tg) (m : EM) (body : SM) : SM := fun ρ => (m (full ρ)).bind fun d => match d with
  | .lst ds => if noOwn ρ = true then forL t body ds ρ else none
  | _ => none
theorem es_forV (hK : X.K = W.K) (t : Tg) (i : Nat) {body : SM} {st : Stmt} (h : PS X st (tFor (iList X.K (tVar i)) (t.g X.K) (tS W fr body))) : ES X W fr st (sForV t i body) := by
  rw [hK] at h
  refine PS.imp h fun D' σ H ⟨Hb, Hd, ρ, o, r, e, k⟩ => ?_
  unfold sForV at e
  split at e
  · rename_i ds hs
    obtain ⟨x, h1, h2⟩ := r.sl i _ hs
    cases h2 with | lst h3 h4 =>
    exact ⟨_, h1, _, rfl, ⟨_, SqL.of (r.s _ _ h3)⟩, for_data r h3 h4 e k⟩
  · cases e
theorem es_forF (hK : X.K = W.K) (t : Tg) {body : SM} {st : Stmt} (h : PS X st (tFor (iList X.K (tX W true ma)) (t.g X.K) (tS W fr body))) : ES X W fr st (sForF t ma body) := by
  rw [hK] at h
  refine PS.imp h fun D' σ H ⟨Hb, Hd, ρ, o, r, e, k⟩ => ?_
  unfold sForF at e
  rw [Option.bind_eq_some_iff] at e
  obtain ⟨d, e1, e2⟩ := e
  cases d with
  | lst ds =>
    by_cases c : D.imms ds = true
    · have e3 : (if D.imms ds = true then forL t body ds ρ else none) = some o := e2
      rw [if_pos c] at e3
      refine ⟨full ρ, _, r.re, e1, fun v H1 s1 r1 f1 => ?_⟩
      have r2 := r.newF s1 r1 (f1 rfl) c
      cases r1 with | lst h1 h2 =>
      cases r2 with | lst h3 h4 =>
      exact ⟨_, rfl, ⟨_, SqL.of h1⟩, for_data (r.grow s1) h3 h4 e3 k⟩
    · have e3 : (if D.imms ds = true then forL t body ds ρ else none) = some o := e2
      rw [if_neg c] at e3
      cases e3
  | _ => cases e2
theorem es_forN (hK : X.K = W.K) (t : Tg) {body : SM} {st : Stmt} (h : PS X st (tFor (iList X.K (tX W fa ma)) (t.g X.K) (tS W fr body))) : ES X W fr st (sForN t ma body) := by
  rw [hK] at h
  refine PS.imp h fun D' σ H ⟨Hb, Hd, ρ, o, r, e, k⟩ => ?_
  unfold sForN at e
  rw [Option.bind_eq_some_iff] at e
  obtain ⟨d, e1, e2⟩ := e
  cases d with
  | lst ds =>
    by_cases c : noOwn ρ = true
    · have e3 : (if noOwn ρ = true then forL t body ds ρ else none) = some o := e2
      rw [if_pos c] at e3
      refine ⟨full ρ, _, r.re, e1, fun v H1 s1 r1 _ => ?_⟩
      have g := r.grow s1
      rw [cutO_no c] at g
      cases r1 with | lst h1 h2 =>
      exact ⟨_, rfl, ⟨_, SqL.of h1⟩, for_data g h1 h2 e3 k⟩
    · have e3 : (if noOwn ρ = true then forL t body ds ρ else none) = some o := e2
      rw [if_neg c] at e3
      cases e3
  | _ => cases e2
/-- over a tuple of no lists -/
def sForT (t : Tg) (m : EM) (body : SM) : SM := fun ρ => (m (full ρ)).bind fun d => match d with
  | .tup ds => if D.imms ds = true then forL t body ds ρ else none
  | _ => none
theorem es_forT (hK : X.K = W.K) (t : Tg) {body : SM} {st : Stmt} (h : PS X st (tFor (iTup X.K (tX W fa ma)) (t.g X.K) (tS W fr body))) : ES X W fr st (sForT t ma body) := by
  rw [hK] at h
  refine PS.imp h fun D' σ H ⟨Hb, Hd, ρ, o, r, e, k⟩ => ?_
  unfold sForT at e
  rw [Option.bind_eq_some_iff] at e
  obtain ⟨d, e1, e2⟩ := e
  cases d with
  | tup ds =>
    by_cases c : D.imms ds = true
    · have e3 : (if D.imms ds = true then forL t body ds ρ else none) = some o := e2
      rw [if_pos c] at e3
      refine ⟨full ρ, _, r.re, e1, fun v H1 s1 r1 _ => ?_⟩
      have g := r.grow s1
      have kp := r.keepCut s1
      cases r1 with | @tup a xs _ h1 h2 =>
      have h3 : cutO ρ σ H1 a = some (.tup xs) := kp _ _ h1 mu_tup
      have h4 : Rps W (cutO ρ σ H1) xs ds := h2.keep kp c
      refine ⟨_, rfl, ⟨_, SqT.of h1⟩, ?_⟩
      refine for_tup (fun i σ' H' => ∃ Hd' ρ', RS W (cutO ρ σ H1) Hd' H' ρ' σ' ∧ forL t body (ds.drop i) ρ' = some o) ⟨_, ρ, g.up, e3⟩ (fun i σ' H' _ ⟨Hd', ρ', r', _⟩ => SqT.of (r'.same _ _ h3)) (fun i x σ' H' hx ⟨Hd', ρ', r', e'⟩ => ?_) (fun σ' H' ⟨Hd', ρ', r', e'⟩ => ?_)
      · obtain ⟨d, e1, h5⟩ := h4.drop_get hx
        rw [e1] at e'
        exact for_turn g.b r' h5 e' k fun ρ2 σ2 H2 Hd2 r2 e2 => ⟨Hd2, ρ2, r2, e2⟩
      · rw [h2.length, List.drop_length] at e'
        cases e'
        exact k σ' H' Hd' (r'.base g.b)
    · have e3 : (if D.imms ds = true then forL t body ds ρ else none) = some o := e2
      rw [if_neg c] at e3
      cases e3
  | _ => cases e2
/-- lo, lo + 1, .. below hi -/
def rng (lo hi : Int) : List Int := (List.range (hi - lo).toNat).map fun k => lo + (k : Nat)
def i62 (i : Int) : Prop := -(2 ^ 62) ≤ i ∧ i < 2 ^ 62
def rng1 : List D → Option (List Int)
  | [.int j] => if i62 j then some (rng 0 j) else none
  | _ => none
def rng2 : List D → Option (List Int)
  | [.int i, .int j] => if i62 i ∧ i62 j then some (rng i j) else none
  | _ => none
theorem rng1_some {ds : List D} {ns : List Int} (h : rng1 ds = some ns) : ∃ j, ds = [.int j] ∧ i62 j ∧ ns = rng 0 j := by
  unfold rng1 at h
  split at h
  · split at h
    · cases h; exact ⟨_, rfl, by assumption, rfl⟩
    · cases h
  · cases h
theorem rng2_some {ds : List D} {ns : List Int} (h : rng2 ds = some ns) : ∃ i j, ds = [.int i, .int j] ∧ i62 i ∧ i62 j ∧ ns = rng i j := by
  unfold rng2 at h
  split at h
  · split at h
    · cases h; rename_i c; exact ⟨_, _, rfl, c.1, c.2, rfl⟩
    · cases h
  · cases h
def sForR (f : List D → Option (List Int)) (t : Tg) (ms : DEnv → Option (List D)) (body : SM) : SM := fun ρ => (ms (full ρ)).bind fun ds => (f ds).bind fun ns => forL t body (ns.map .int) ρ
theorem sForR_some {f : List D → Option (List Int)} {t : Tg} {ms : DEnv → Option (List D)} {body : SM} {ρ : SEnv} {o : Out} (h : sForR f t ms body ρ = some o) : ∃ ds ns, ms (full ρ) = some ds ∧ f ds = some ns ∧ forL t body (ns.map .int) ρ = some o := by
  unfold sForR at h
  rw [Option.bind_eq_some_iff] at h
  obtain ⟨ds, e1, h⟩ := h
  rw [Option.bind_eq_some_iff] at h
  obtain ⟨ns, e2, e3⟩ := h
  exact ⟨ds, ns, e1, e2, e3⟩
theorem rng_drop {lo hi : Int} {i : Nat} (h : i < (hi - lo).toNat) : (rng lo hi).drop i = (lo + (i : Nat)) :: (rng lo hi).drop (i + 1) := by
  have hl : i < (rng lo hi).length := by simp [rng, h]
  rw [List.drop_eq_getElem_cons hl]
  congr 1
  simp [rng]
theorem rng_len (lo hi : Int) : (rng lo hi).length = (hi - lo).toNat := by simp [rng]
theorem for_rng {Hb Hd H : Hp} {ρ : SEnv} {σ : St} {lo hi : Int} {o : Out} {D' : Ends} {t : Tg} {body : SM} (rs : RS W Hb Hd H ρ σ) (e : forL t body ((rng lo hi).map .int) ρ = some o) (k : OutOk W fr Hb D' o) :
    kFor (t.g W.K) (tS W fr body) D' σ (Itr lo (hi - lo).toNat) H := by
  refine for_range (fun i σ H => ∃ Hd' ρ', RS W Hd Hd' H ρ' σ ∧ forL t body (((rng lo hi).drop i).map .int) ρ' = some o) ⟨Hd, ρ, rs.up, e⟩ (fun i σ H hi' ⟨Hd', ρ', r', e'⟩ => ?_) (fun σ H ⟨Hd', ρ', r', e'⟩ => ?_)
  · rw [rng_drop hi', List.map_cons] at e'
    exact for_turn rs.b r' (.int _) e' k fun ρ2 σ2 H2 Hd2 r2 e2 => ⟨Hd2, ρ2, r2, e2⟩
  · rw [← rng_len, List.drop_length] at e'
    cases e'
    exact k σ H Hd' (r'.base rs.b)
theorem es_forR1 (hK : X.K = W.K) (t : Tg) {ms : DEnv → Option (List D)} {body : SM} {st : Stmt} (h : PS X st (tFor (iRng1 (tXs W ms)) (t.g X.K) (tS W fr body))) : ES X W fr st (sForR rng1 t ms body) := by
  rw [hK] at h
  refine PS.imp h fun D' σ H ⟨Hb, Hd, ρ, o, r, e, k⟩ => ?_
  obtain ⟨ds, ns, e1, e2, e3⟩ := sForR_some e
  obtain ⟨j, rfl, c, rfl⟩ := rng1_some e2
  refine ⟨full ρ, _, r.re, e1, fun vs H1 s1 r1 => ?_⟩
  obtain ⟨v, rfl, h1⟩ := r1.one
  cases h1
  refine ⟨j, rfl, c.1, c.2, ?_⟩
  have := for_rng (fr := fr) (r.grow s1) e3 k
  rw [Int.sub_zero] at this
  exact this
theorem es_forR2 (hK : X.K = W.K) (t : Tg) {ms : DEnv → Option (List D)} {body : SM} {st : Stmt} (h : PS X st (tFor (iRng2 (tXs W ms)) (t.g X.K) (tS W fr body))) : ES X W fr st (sForR rng2 t ms body) := by
  rw [hK] at h
  refine PS.imp h fun D' σ H ⟨Hb, Hd, ρ, o, r, e, k⟩ => ?_
  obtain ⟨ds, ns, e1, e2, e3⟩ := sForR_some e
  obtain ⟨i, j, rfl, c1, c2, rfl⟩ := rng2_some e2
  refine ⟨full ρ, _, r.re, e1, fun vs H1 s1 r1 => ?_⟩
  obtain ⟨v, v', rfl, h1, h2⟩ := r1.two
  cases h1; cases h2
  exact ⟨i, j, rfl, ⟨c1.1, c1.2, c2.1, c2.2⟩, for_rng (r.grow s1) e3 k⟩
/-! ### while -/
def whL (t : BM) (body : SM) : Nat → SEnv → Option Out
  | 0, _ => none
  | n + 1, ρ => (t (full ρ)).bind fun c => if c then (body ρ).bind fun o => match o with
      | .nx ρ2 => whL t body n ρ2
      | .ct ρ2 => whL t body n ρ2
      | .bk ρ2 => some (.nx ρ2)
      | .rt d ρ2 => some (.rt d ρ2)
    else some (.nx ρ)
theorem whL_mono {t : BM} {body : SM} {o : Out} : ∀ {n k : Nat} {ρ : SEnv}, n ≤ k → whL t body n ρ = some o → whL t body k ρ = some o
  | 0, _, _, _, h => by cases h
  | n + 1, 0, _, h, _ => absurd h (by omega)
  | n + 1, k + 1, ρ, h, e => by
    rw [whL, Option.bind_eq_some_iff] at e
    obtain ⟨c, e1, e2⟩ := e
    rw [whL, e1, Option.bind_some]
    cases c with
    | false => exact e2
    | true =>
      have e2 : ((body ρ).bind fun o => match o with
        | .nx ρ2 => whL t body n ρ2
        | .ct ρ2 => whL t body n ρ2
        | .bk ρ2 => some (.nx ρ2)
        | .rt d ρ2 => some (.rt d ρ2)) = some o := e2
      rw [Option.bind_eq_some_iff] at e2
      obtain ⟨o1, e3, e4⟩ := e2
      rw [if_pos rfl, e3, Option.bind_some]
      cases o1 with
      | nx ρ2 => exact whL_mono (by omega) e4
      | ct ρ2 => exact whL_mono (by omega) e4
      | bk ρ2 => exact e4
      | rt d ρ2 => exact e4
def sWhile (t : BM) (body : SM) : SM := fun ρ => if h : ∃ o n, whL t body n ρ = some o then some h.choose else none
theorem sWhile_of {t : BM} {body : SM} {ρ : SEnv} {o : Out} {n : Nat} (h : whL t body n ρ = some o) : sWhile t body ρ = some o := by
  unfold sWhile
  have hx : ∃ o n, whL t body n ρ = some o := ⟨o, n, h⟩
  rw [dif_pos hx]
  obtain ⟨k, hk⟩ := hx.choose_spec
  have h1 := whL_mono (Nat.le_max_left n k) h
  have h2 := whL_mono (Nat.le_max_right n k) hk
  rw [h1] at h2
  exact h2.symm
theorem es_while {st : Stmt} {body : SM} (h : PS X st (tWhile (tXt W mt) (tS W fr body))) : ES X W fr st (sWhile mt body) := PS.imp h fun D' σ H ⟨Hb, Hd, ρ, o, r, e, k⟩ => by
  unfold sWhile at e
  split at e
  · rename_i hx
    cases e
    obtain ⟨n, hn⟩ := hx.choose_spec
    generalize hx.choose = o at *
    refine ⟨fun n σ H => ∃ Hd' ρ', RS W Hb Hd' H ρ' σ ∧ whL mt body n ρ' = some o, ⟨n, Hd, ρ, r, hn⟩, ?_⟩
    rintro n σ H ⟨Hd', ρ', r', e'⟩
    cases n with
    | zero => cases e'
    | succ n =>
      rw [whL, Option.bind_eq_some_iff] at e'
      obtain ⟨c, e1, e2⟩ := e'
      refine ⟨full ρ', c, r'.re, e1, fun H1 s1 => ?_⟩
      have g := r'.grow s1
      cases c with
      | false =>
        cases e2
        exact k σ H1 _ g
      | true =>
        rw [if_pos rfl] at e2
        refine w_iteT rfl ?_
        rw [Option.bind_eq_some_iff] at e2
        obtain ⟨o1, e3, e4⟩ := e2
        refine ⟨fun σ H => ∃ Hd' ρ', RS W Hb Hd' H ρ' σ ∧ whL mt body n ρ' = some o, fun σ' H' q => ⟨n, by omega, q⟩, Hb, _, ρ', o1, g, e3, ?_⟩
        cases o1 with
        | nx ρ2 => exact fun σ2 H2 Hd2 r2 => ⟨Hd2, ρ2, r2, e4⟩
        | ct ρ2 => exact fun σ2 H2 Hd2 r2 => ⟨Hd2, ρ2, r2, e4⟩
        | bk ρ2 => cases e4; exact k
        | rt d ρ2 => cases e4; exact k
  · cases e
/-! ### comprehensions -/
def lcL (i : Nat) (t : BM) (me : EM) : List D → DEnv → Option (List D)
  | [], _ => some []
  | x :: r, ρ => (t (ρ.set i (some x))).bind fun c => if c then (me (ρ.set i (some x))).bind fun y => if y.imm = true then (lcL i t me r ρ).map fun ys => y :: ys else none else lcL i t me r ρ
def bYes : BM := fun _ => some true
theorem ec_yes : PTs X [] (tXt W bYes) := ⟨fun pins s σ H Q I ⟨ρ, b, r, e, k⟩ => by cases e; exact pts_nil.run pins s σ H Q I (k H (Same.refl H))⟩
theorem ec_one {c : Expr} (h : ET X W c mt) : PTs X [c] (tXt W mt) := pts_one h
def eLc (i : Nat) (ml : EM) (t : BM) (me : EM) : EM := fun ρ => if i < ρ.length then (ml ρ).bind fun d => match d with
  | .lst ds => if ds.length ≤ sizeLine then (lcL i t me ds ρ).map .lst else none
  | _ => none else none
def eLcR (f : List D → Option (List Int)) (i : Nat) (ms : DEnv → Option (List D)) (t : BM) (me : EM) : EM := fun ρ => if i < ρ.length then (ms ρ).bind fun ds => (f ds).bind fun ns => if ns.length ≤ sizeLine then (lcL i t me (ns.map .int) ρ).map .lst else none else none
theorem re_wipe {H : Hp} {ρ : DEnv} {σ : St} {i : Nat} {x : V} {d : D} (r : RE W H ρ σ) (hl : i < σ.length) (h : Rp W H x d) : RE W H (ρ.set i (some d)) ((wipe σ [i]).set i (some x)) := by
  intro j d' e
  have hw : L2.wipe σ [i] = σ.set i none := rfl
  rw [hw, List.set_set]
  rw [gt_set] at e
  split at e
  · rename_i c
    obtain ⟨rfl, _⟩ := c
    cases e
    exact ⟨x, by rw [List.getElem?_set_self hl], h⟩
  · rename_i c
    by_cases ij : i = j
    · subst ij
      -- the slot lies beyond the environment
      have : ¬ i < ρ.length := fun z => c ⟨rfl, z⟩
      rw [gt_get, List.getElem?_eq_none (by omega)] at e
      cases e
    · obtain ⟨y, h1, h2⟩ := r j d' e
      exact ⟨y, by rw [List.getElem?_set_ne ij]; exact h1, h2⟩
/-- H without D -/
def less (H : Hp) (D : Addr) : Hp := fun b => if b = D then none else H b
theorem less_same {H H1 : Hp} {D : Addr} (e : Same H H1) (n : H D = none) : Same H (less H1 D) := fun b o h => by
  unfold less
  rw [if_neg (ne_of_none h n)]
  exact e _ _ h
theorem less_le {H : Hp} {D : Addr} : Same (less H D) H := fun b o h => by
  unfold less at h
  split at h
  · cases h
  · exact h
theorem less_keep {H : Hp} {D : Addr} {xs : List V} (h : H D = some (.lst xs)) : Keep H (less H D) := fun b o hb n => by
  unfold less
  rw [if_neg (fun z => by subst z; rw [h] at hb; exact n (Option.some.inj hb ▸ mu_lst))]
  exact hb
theorem less_upd {H : Hp} {D : Addr} {o : HO} : less (upd H D o) D = less H D := by
  funext b
  unfold less
  split
  · rfl
  · rename_i h; rw [upd_ne h]
theorem PE.impL {X : Cx} {e : Expr} {t t' : TE} (h : PE X e t) (i : ∀ (σ : St) H Q, σ.length = X.N.length → t' σ H Q → t σ H Q) : PE X e t' := ⟨fun pins s σ H Q I q => h.run pins s σ H Q I (i σ H Q I.len q)⟩
/-- one turn of a comprehension -/
theorem lc_turn {H0 H : Hp} {σ : St} {ρ : DEnv} {i : Nat} {x : V} {d : D} {r : List D} {accD out : List D} {accV : List V} {DD : Addr} {P : Hp → Prop} (hl : i < σ.length) (re : RE W H0 ρ σ) (n0 : H0 DD = none)
    (s : Same H0 (less H DD)) (hD : H DD = some (.lst accV)) (ra : Rps W (less H DD) accV accD) (hx : Rp W H0 x d) (e : lcL i mt me (d :: r) ρ = some out) (hn : accD.length < sizeLine)
    (hP : ∀ H2 accV2 accD2 out2, Same H0 (less H2 DD) → H2 DD = some (.lst accV2) → Rps W (less H2 DD) accV2 accD2 → lcL i mt me r ρ = some out2 → accD2 ++ out2 = accD ++ out → accD2.length ≤ accD.length + 1 → P H2) :
    gName i x (wipe σ [i]) H fun σ2 H2 => wipe σ2 [i] = wipe σ [i] ∧ tXt W mt σ2 H2 fun b H3 =>
      if b = true then tX W fa me σ2 H3 fun y H4 => ∃ acc, H4 DD = some (.lst acc) ∧ acc.length < sizeLine ∧ P (upd H4 DD (.lst (acc ++ [y]))) else P H3 := by
  have hs : Same H0 H := s.trans less_le
  have re1 : RE W H (ρ.set i (some d)) ((wipe σ [i]).set i (some x)) := re_wipe (re.mono hs) hl (hx.mono hs)
  refine ⟨?_, ?_⟩
  · show (((σ.set i none).set i (some x)).set i none) = σ.set i none
    rw [List.set_set, List.set_set]
  rw [lcL, Option.bind_eq_some_iff] at e
  obtain ⟨c, e1, e2⟩ := e
  refine ⟨_, c, re1, e1, fun H3 s3 => ?_⟩
  have sl : Same (less H DD) (less H3 DD) := fun b o h => by
    unfold less at h ⊢
    split
    · rename_i z; rw [if_pos z] at h; cases h
    · rename_i z; rw [if_neg z] at h; exact s3 _ _ h
  cases c with
  | false =>
    rw [if_neg (by decide)] at e2
    refine w_iteF rfl ?_
    exact hP H3 accV accD out (s.trans sl) (s3 _ _ hD) (ra.mono sl) e2 rfl (by omega)
  | true =>
    rw [if_pos rfl] at e2
    refine w_iteT rfl ?_
    rw [Option.bind_eq_some_iff] at e2
    obtain ⟨y, e3, e4⟩ := e2
    by_cases c : y.imm = true
    · rw [if_pos c, Option.map_eq_some_iff] at e4
      obtain ⟨ys, e5, rfl⟩ := e4
      refine ⟨_, y, re1.mono s3, e3, fun v H4 s4 r4 _ => ⟨accV, s4 _ _ (s3 _ _ hD), by rw [ra.length]; exact hn, ?_⟩⟩
      have sl4 : Same (less H3 DD) (less H4 DD) := fun b o h => by
        unfold less at h ⊢
        split
        · rename_i z; rw [if_pos z] at h; cases h
        · rename_i z; rw [if_neg z] at h; exact s4 _ _ h
      have s34 := sl.trans sl4
      refine hP _ (accV ++ [v]) (accD ++ [y]) ys (by rw [less_upd]; exact s.trans s34) upd_same (by rw [less_upd]; exact (ra.mono s34).append (.cons (r4.keep (less_keep (s4 _ _ (s3 _ _ hD))) c) .nil)) e5 (by simp) (by simp)
    · rw [if_neg c] at e4
      cases e4
theorem lc_of {i : Nat} (σ : St) (H : Hp) (Q : VK) (hl : i < σ.length) (h : tX W true (eLc i ma mt me) σ H Q) : tLc (iList W.K (tX W fb ma)) (gName i) (tXt W mt) (tX W fa me) [i] σ H Q := by
  obtain ⟨ρ, d, r, e, k⟩ := h
  unfold eLc at e
  split at e
  · rw [Option.bind_eq_some_iff] at e
    obtain ⟨dl, e1, e2⟩ := e
    cases dl with
    | lst ds =>
      by_cases c : ds.length ≤ sizeLine
      · have e3 : (if ds.length ≤ sizeLine then (lcL i mt me ds ρ).map .lst else none) = some d := e2
        rw [if_pos c, Option.map_eq_some_iff] at e3
        obtain ⟨out, e4, rfl⟩ := e3
        refine ⟨ρ, _, r, e1, fun v H1 s1 r1 _ => ?_⟩
        cases r1 with | @lst a xs _ h1 h2 =>
        refine ⟨a, rfl, ⟨xs, SqL.of h1⟩, fun DD n => ?_⟩
        have sD : Same H1 (less (upd H1 DD (.lst [])) DD) := less_same (same_new n) n
        refine lc_list (xs := xs) (fun j H' => ∃ accV accD out2, Same H1 (less H' DD) ∧ H' DD = some (.lst accV) ∧ Rps W (less H' DD) accV accD ∧ lcL i mt me (ds.drop j) ρ = some out2 ∧ accD ++ out2 = out ∧ accD.length ≤ j)
          ⟨[], [], out, sD, upd_same, .nil, e4, rfl, Nat.le_refl _⟩ (fun j H' _ ⟨_, _, _, s, _⟩ => SqL.of (less_le _ _ (s _ _ h1))) (fun j x H' hx ⟨accV, accD, out2, s, hD, ra, e5, e6, hj⟩ => ?_) (fun H' ⟨accV, accD, out2, s, hD, ra, e5, e6, _⟩ => ?_)
        · obtain ⟨dx, e7, hrx⟩ := h2.drop_get hx
          rw [e7] at e5
          have hjl : j < xs.length := (List.getElem?_eq_some_iff.mp hx).1
          rw [h2.length] at hjl
          exact lc_turn hl (r.mono s1) n s hD ra hrx e5 (by omega) fun H2 accV2 accD2 out3 s2 hD2 ra2 e8 e9 hj2 => ⟨accV2, accD2, out3, s2, hD2, ra2, e8, e9.trans e6, by omega⟩
        · rw [h2.length, List.drop_length] at e5
          cases e5
          rw [List.append_nil] at e6
          subst e6
          exact k _ H' (s1.trans (s.trans less_le)) (.lst hD (ra.mono less_le)) fun _ => ⟨DD, accV, rfl, s1.free n, hD⟩
      · have e3 : (if ds.length ≤ sizeLine then (lcL i mt me ds ρ).map .lst else none) = some d := e2
        rw [if_neg c] at e3
        cases e3
    | _ => cases e2
  · cases e
theorem ev_lc {i : Nat} {E0 : Expr} (hK : X.K = W.K) (hi : i < X.N.length) (h : PE X E0 (tLc (iList X.K (tX W fb ma)) (gName i) (tXt W mt) (tX W fa me) [i])) : EV X W E0 true (eLc i ma mt me) := by
  rw [hK] at h
  exact PE.impL h fun σ H Q hlen q => lc_of σ H Q (by rw [hlen]; exact hi) q
theorem PS.impL {X : Cx} {e : Stmt} {t t' : TS} (h : PS X e t) (i : ∀ D (σ : St) H, σ.length = X.N.length → t' D σ H → t D σ H) : PS X e t' := ⟨fun pins s σ H D I q => h.run pins s σ H D I (i D σ H I.len q)⟩
/-- name = [..] on one line -/
theorem es_lcA {i j : Nat} {st : Stmt} (hK : X.K = W.K) (hi : i < X.N.length) (h : PS X st (tAsg (tLc (iList X.K (tX W fb ma)) (gName i) (tXt W mt) (tX W fa me) [i]) (gName j))) : PS X st (tAsg (tX W true (eLc i ma mt me)) (gName j)) := by
  rw [hK] at h
  exact PS.impL h fun D' σ H hlen q => lc_of σ H _ (by rw [hlen]; exact hi) q
/-- .. over a tuple -/
def eLcT (i : Nat) (ml : EM) (t : BM) (me : EM) : EM := fun ρ => if i < ρ.length then (ml ρ).bind fun d => match d with
  | .tup ds => if ds.length ≤ sizeLine then (lcL i t me ds ρ).map .lst else none
  | _ => none else none
theorem lcT_of {i : Nat} (σ : St) (H : Hp) (Q : VK) (hl : i < σ.length) (h : tX W true (eLcT i ma mt me) σ H Q) : tLc (iTup W.K (tX W fb ma)) (gName i) (tXt W mt) (tX W fa me) [i] σ H Q := by
  obtain ⟨ρ, d, r, e, k⟩ := h
  unfold eLcT at e
  split at e
  · rw [Option.bind_eq_some_iff] at e
    obtain ⟨dl, e1, e2⟩ := e
    cases dl with
    | tup ds =>
      by_cases c : ds.length ≤ sizeLine
      · have e3 : (if ds.length ≤ sizeLine then (lcL i mt me ds ρ).map .lst else none) = some d := e2
        rw [if_pos c, Option.map_eq_some_iff] at e3
        obtain ⟨out, e4, rfl⟩ := e3
        refine ⟨ρ, _, r, e1, fun v H1 s1 r1 _ => ?_⟩
        cases r1 with | @tup a xs _ h1 h2 =>
        refine ⟨a, rfl, ⟨xs, SqT.of h1⟩, fun DD n => ?_⟩
        have sD : Same H1 (less (upd H1 DD (.lst [])) DD) := less_same (same_new n) n
        refine lc_tup (xs := xs) (fun j H' => ∃ accV accD out2, Same H1 (less H' DD) ∧ H' DD = some (.lst accV) ∧ Rps W (less H' DD) accV accD ∧ lcL i mt me (ds.drop j) ρ = some out2 ∧ accD ++ out2 = out ∧ accD.length ≤ j)
          ⟨[], [], out, sD, upd_same, .nil, e4, rfl, Nat.le_refl _⟩ (fun j H' _ ⟨_, _, _, s, _⟩ => SqT.of (less_le _ _ (s _ _ h1))) (fun j x H' hx ⟨accV, accD, out2, s, hD, ra, e5, e6, hj⟩ => ?_) (fun H' ⟨accV, accD, out2, s, hD, ra, e5, e6, _⟩ => ?_)
        · obtain ⟨dx, e7, hrx⟩ := h2.drop_get hx
          rw [e7] at e5
          have hjl : j < xs.length := (List.getElem?_eq_some_iff.mp hx).1
          rw [h2.length] at hjl
          exact lc_turn hl (r.mono s1) n s hD ra hrx e5 (by omega) fun H2 accV2 accD2 out3 s2 hD2 ra2 e8 e9 hj2 => ⟨accV2, accD2, out3, s2, hD2, ra2, e8, e9.trans e6, by omega⟩
        · rw [h2.length, List.drop_length] at e5
          cases e5
          rw [List.append_nil] at e6
          subst e6
          exact k _ H' (s1.trans (s.trans less_le)) (.lst hD (ra.mono less_le)) fun _ => ⟨DD, accV, rfl, s1.free n, hD⟩
      · have e3 : (if ds.length ≤ sizeLine then (lcL i mt me ds ρ).map .lst else none) = some d := e2
        rw [if_neg c] at e3
        cases e3
    | _ => cases e2
  · cases e
theorem ev_lcT {i : Nat} {E0 : Expr} (hK : X.K = W.K) (hi : i < X.N.length) (h : PE X E0 (tLc (iTup X.K (tX W fb ma)) (gName i) (tXt W mt) (tX W fa me) [i])) : EV X W E0 true (eLcT i ma mt me) := by
  rw [hK] at h
  exact PE.impL h fun σ H Q hlen q => lcT_of σ H Q (by rw [hlen]; exact hi) q
theorem es_lcTA {i j : Nat} {st : Stmt} (hK : X.K = W.K) (hi : i < X.N.length) (h : PS X st (tAsg (tLc (iTup X.K (tX W fb ma)) (gName i) (tXt W mt) (tX W fa me) [i]) (gName j))) : PS X st (tAsg (tX W true (eLcT i ma mt me)) (gName j)) := by
  rw [hK] at h
  exact PS.impL h fun D' σ H hlen q => lcT_of σ H _ (by rw [hlen]; exact hi) q
theorem lc_rng {i : Nat} {lo hi : Int} {σ : St} {H H1 : Hp} {ρ : DEnv} {out : List D} {Q : VK} (hl : i < σ.length) (r : RE W H ρ σ) (s1 : Same H H1) (hlen : (rng lo hi).length ≤ sizeLine) (e4 : lcL i mt me ((rng lo hi).map .int) ρ = some out)
    (k : ∀ v H', Same H H' → Rp W H' v (.lst out) → FrL H H' v → Q v H') : ∀ D, H1 D = none → ∃ W' : Nat → Nat → Hp → Prop, (∃ m, W' 0 m (upd H1 D (.lst []))) ∧ ∀ j m H, W' j m H →
      ((Itr lo (hi - lo).toNat).stop j H ∧ Q (.ref D) H) ∨ ((Itr lo (hi - lo).toNat).go j H ∧ ∃ Nx : Hp → Prop, (∀ H', Nx H' → ∃ m', m' < m ∧ W' (j + 1) m' H') ∧ ∀ x H', (Itr lo (hi - lo).toNat).yld j H x H' → gName i x (wipe σ [i]) H' fun σ2 H2 => wipe σ2 [i] = wipe σ [i] ∧ tXt W mt σ2 H2 fun b H3 =>
        if b = true then tX W fa me σ2 H3 fun y H4 => ∃ acc, H4 D = some (.lst acc) ∧ acc.length < sizeLine ∧ Nx (upd H4 D (.lst (acc ++ [y]))) else Nx H3) := by
  intro DD n
  have sD : Same H1 (less (upd H1 DD (.lst [])) DD) := less_same (same_new n) n
  rw [rng_len] at hlen
  refine lc_range (fun j H' => ∃ accV accD out2, Same H1 (less H' DD) ∧ H' DD = some (.lst accV) ∧ Rps W (less H' DD) accV accD ∧ lcL i mt me (((rng lo hi).drop j).map .int) ρ = some out2 ∧ accD ++ out2 = out ∧ accD.length ≤ j)
    ⟨[], [], out, sD, upd_same, .nil, e4, rfl, Nat.le_refl _⟩ (fun j H' hj' ⟨accV, accD, out2, s, hD, ra, e5, e6, hj⟩ => ?_) (fun H' ⟨accV, accD, out2, s, hD, ra, e5, e6, _⟩ => ?_)
  · rw [rng_drop hj', List.map_cons] at e5
    exact lc_turn hl (r.mono s1) n s hD ra (.int _) e5 (by omega) fun H2 accV2 accD2 out3 s2 hD2 ra2 e8 e9 hj2 => ⟨accV2, accD2, out3, s2, hD2, ra2, e8, e9.trans e6, by omega⟩
  · rw [← rng_len, List.drop_length] at e5
    cases e5
    rw [List.append_nil] at e6
    subst e6
    exact k _ H' (s1.trans (s.trans less_le)) (.lst hD (ra.mono less_le)) ⟨DD, accV, rfl, s1.free n, hD⟩
theorem eLcR_some {f : List D → Option (List Int)} {i : Nat} {ms : DEnv → Option (List D)} {ρ : DEnv} {d : D} (h : eLcR f i ms mt me ρ = some d) : ∃ ds ns out, ms ρ = some ds ∧ f ds = some ns ∧ ns.length ≤ sizeLine ∧ lcL i mt me (ns.map .int) ρ = some out ∧ d = .lst out := by
  unfold eLcR at h
  split at h
  · rw [Option.bind_eq_some_iff] at h
    obtain ⟨ds, e1, h⟩ := h
    rw [Option.bind_eq_some_iff] at h
    obtain ⟨ns, e2, h⟩ := h
    split at h
    · rw [Option.map_eq_some_iff] at h
      obtain ⟨out, e3, rfl⟩ := h
      exact ⟨ds, ns, out, e1, e2, by assumption, e3, rfl⟩
    · cases h
  · cases h
theorem lcR1_of {i : Nat} {ms : DEnv → Option (List D)} (σ : St) (H : Hp) (Q : VK) (hl : i < σ.length) (h : tX W true (eLcR rng1 i ms mt me) σ H Q) : tLc (iRng1 (tXs W ms)) (gName i) (tXt W mt) (tX W fa me) [i] σ H Q := by
  obtain ⟨ρ, d, r, e, k⟩ := h
  obtain ⟨ds, ns, out, e1, e2, hsz, e4, rfl⟩ := eLcR_some e
  obtain ⟨j, rfl, c, rfl⟩ := rng1_some e2
  refine ⟨ρ, _, r, e1, fun vs H1 s1 r1 => ?_⟩
  obtain ⟨v, rfl, h1⟩ := r1.one
  cases h1
  refine ⟨j, rfl, c.1, c.2, ?_⟩
  have := lc_rng (W := W) (fa := fa) (lo := 0) (hi := j) hl r s1 hsz e4 (Q := Q) fun v H' s r f => k v H' s r fun _ => f
  rw [Int.sub_zero] at this
  exact this
theorem lcR2_of {i : Nat} {ms : DEnv → Option (List D)} (σ : St) (H : Hp) (Q : VK) (hl : i < σ.length) (h : tX W true (eLcR rng2 i ms mt me) σ H Q) : tLc (iRng2 (tXs W ms)) (gName i) (tXt W mt) (tX W fa me) [i] σ H Q := by
  obtain ⟨ρ, d, r, e, k⟩ := h
  obtain ⟨ds, ns, out, e1, e2, hsz, e4, rfl⟩ := eLcR_some e
  obtain ⟨lo, j, rfl, c1, c, rfl⟩ := rng2_some e2
  refine ⟨ρ, _, r, e1, fun vs H1 s1 r1 => ?_⟩
  obtain ⟨v, v', rfl, h1, h2⟩ := r1.two
  cases h1; cases h2
  exact ⟨lo, j, rfl, ⟨c1.1, c1.2, c.1, c.2⟩, lc_rng (W := W) (fa := fa) hl r s1 hsz e4 (Q := Q) fun v H' s r f => k v H' s r fun _ => f⟩
theorem ev_lcR1 {i : Nat} {E0 : Expr} {ms : DEnv → Option (List D)} (hi : i < X.N.length) (h : PE X E0 (tLc (iRng1 (tXs W ms)) (gName i) (tXt W mt) (tX W fa me) [i])) : EV X W E0 true (eLcR rng1 i ms mt me) :=
  PE.impL h fun σ H Q hlen q => lcR1_of σ H Q (by rw [hlen]; exact hi) q
theorem ev_lcR2 {i : Nat} {E0 : Expr} {ms : DEnv → Option (List D)} (hi : i < X.N.length) (h : PE X E0 (tLc (iRng2 (tXs W ms)) (gName i) (tXt W mt) (tX W fa me) [i])) : EV X W E0 true (eLcR rng2 i ms mt me) :=
  PE.impL h fun σ H Q hlen q => lcR2_of σ H Q (by rw [hlen]; exact hi) q
theorem es_lcR1A {i j : Nat} {ms : DEnv → Option (List D)} {st : Stmt} (hi : i < X.N.length) (h : PS X st (tAsg (tLc (iRng1 (tXs W ms)) (gName i) (tXt W mt) (tX W fa me) [i]) (gName j))) : PS X st (tAsg (tX W true (eLcR rng1 i ms mt me)) (gName j)) :=
  PS.impL h fun D' σ H hlen q => lcR1_of σ H _ (by rw [hlen]; exact hi) q
theorem es_lcR2A {i j : Nat} {ms : DEnv → Option (List D)} {st : Stmt} (hi : i < X.N.length) (h : PS X st (tAsg (tLc (iRng2 (tXs W ms)) (gName i) (tXt W mt) (tX W fa me) [i]) (gName j))) : PS X st (tAsg (tX W true (eLcR rng2 i ms mt me)) (gName j)) :=
  PS.impL h fun D' σ H hlen q => lcR2_of σ H _ (by rw [hlen]; exact hi) q
/-! ### what always returns -/
def NoNx (m : SM) : Prop := ∀ ρ ρ', m ρ ≠ some (.nx ρ')
theorem nn_ret : NoNx (sRet ma) := fun ρ ρ' h => by
  unfold sRet at h
  rw [Option.map_eq_some_iff] at h
  obtain ⟨d, _, h2⟩ := h
  cases h2
theorem nn_retO {i : Nat} : NoNx (sRetO i) := fun ρ ρ' h => by
  unfold sRetO at h
  split at h <;> cases h
theorem nn_seq (h : NoNx m2) : NoNx (sSeq m1 m2) := fun ρ ρ' e => by
  unfold sSeq at e
  rw [Option.bind_eq_some_iff] at e
  obtain ⟨o, e1, e2⟩ := e
  cases o with
  | nx ρ1 => exact h _ _ e2
  | _ => cases e2
theorem nn_if (h1 : NoNx m1) (h2 : NoNx m2) : NoNx (sIf mt m1 m2) := fun ρ ρ' e => by
  unfold sIf at e
  rw [Option.bind_eq_some_iff] at e
  obtain ⟨c, e1, e2⟩ := e
  cases c with
  | true => exact h1 _ _ e2
  | false => exact h2 _ _ e2
/-! ### -x -/
def dNeg (x : D) : Option D := match x with | .int i => some (.int (-i)) | _ => none
theorem ev_neg (ha : EV X W a fa ma) : EV X W (.UnaryOp .USub a pos) false (eUn dNeg ma) :=
  PE.imp (pe_un un_neg ha) fun σ H Q ⟨ρ, d, r, e, k⟩ => by
    obtain ⟨x, e1, e2⟩ := eUn_some e
    refine ⟨ρ, x, r, e1, fun v H1 s1 r1 _ => ?_⟩
    cases r1 with
    | int i => cases e2; exact ⟨i, rfl, k _ H1 s1 (.int _) (fun z => nomatch z)⟩
    | _ => cases e2
/-! ### a def -/
/-- the frame at the start: n names, the arguments first -/
def frm (n : Nat) (ds : List D) : SEnv := ds.map .v ++ List.replicate (n - ds.length) .no
def mDef (p n : Nat) (m : SM) : List D → Option D := fun ds => if ds.length = p then (m (frm n ds)).bind fun o => match o with
  | .nx _ => some .non
  | .rt d _ => some d
  | _ => none else none
theorem mDef_some {p n : Nat} {m : SM} {ds : List D} {d : D} (h : mDef p n m ds = some d) : ds.length = p ∧ ∃ o, m (frm n ds) = some o ∧ ((∃ ρ, o = .nx ρ ∧ d = .non) ∨ ∃ ρ, o = .rt d ρ) := by
  unfold mDef at h
  split at h
  · rename_i c
    rw [Option.bind_eq_some_iff] at h
    obtain ⟨o, e1, e2⟩ := h
    refine ⟨c, o, e1, ?_⟩
    cases o with
    | nx ρ => cases e2; exact .inl ⟨ρ, rfl, rfl⟩
    | rt d' ρ => cases e2; exact .inr ⟨ρ, rfl⟩
    | bk _ => cases e2
    | ct _ => cases e2
  · cases h
theorem sgt_frm {n : Nat} {ds : List D} {i : Nat} : sgt (frm n ds) i = match ds[i]? with | some d => .v d | none => .no := by
  rw [sgt_get]
  unfold frm
  by_cases h : i < ds.length
  · rw [List.getElem?_append_left (by simpa using h), List.getElem?_map, List.getElem?_eq_getElem h]
    rfl
  · rw [List.getElem?_append_right (by simpa using h), List.getElem?_eq_none (l := ds) (by omega)]
    simp only [List.length_map, List.getElem?_replicate]
    split <;> rfl
theorem rs_start {N : List Str} {H : Hp} {vs : List V} {ds : List D} (h : Rps W H vs ds) (hn : ds.length ≤ N.length) : RS W H H H (frm N.length ds) (L2.start N vs) where
  b := Same.refl H
  s := Same.refl H
  len := by
    unfold L2.start frm
    simp [h.length]
  sl := fun i d e => by
    rw [sgt_frm] at e
    cases c : ds[i]? with
    | none => rw [c] at e; cases e
    | some d' =>
      rw [c] at e
      cases e
      obtain ⟨v, h1, h2⟩ := h.get c
      refine ⟨v, ?_, h2⟩
      unfold L2.start
      have hl := (List.getElem?_eq_some_iff.mp h1).1
      rw [List.getElem?_append_left (by simpa using hl), List.getElem?_map, h1]
      rfl
  ou := fun i e => by
    rw [sgt_frm] at e
    split at e <;> cases e
  nu := fun i j l e _ _ _ => by
    rw [sgt_frm] at e
    split at e <;> cases e
section
variable {P : Program} {w : World} {K : PySem.W.Frag} {mg : Str → Option Value} {base : Heap}
/-- a def whose body is known by data -/
theorem def_ok {x qual : Str} {st : Stmt} {f : Addr} {fd : FuncData} {N ps : List Str} {k : Nat} {m : SM} (F : Fun K x qual st f fd) (S : FnScope N ps (defScope st)) (hn : ps.length ≤ N.length) (hfr : fr = true → ∀ ds, ∀ ρ, m (frm N.length ds) ≠ some (.nx ρ))
    (hb : ∀ (cdv : Value) (A : Around) (outer : List Env) (s : Shared) (H : Hp) (E : XK), Room k (A.deeper (PyProof.Rows.envOfC qual (defScope st) s.heap.objs.size f cdv)) →
      EB (cxOf CX0 P w K mg base N qual (defScope st) f cdv A outer s H E).nox W fr (defBody st) m) : FnOk P w K mg base CX0 (k + 1) f fd ps (spD W fr (mDef ps.length N.length m)) := by
  refine F.ok S (fun vs H Q E h => ?_) (fun cdv A outer s H vs Q E hr h => ?_)
  · obtain ⟨ds, d, r, e, _⟩ := h
    rw [r.length]
    exact (mDef_some e).1
  · obtain ⟨ds, d, r, e, k⟩ := h
    obtain ⟨hl, o, e1, h2⟩ := mDef_some e
    refine ⟨_, hb cdv A outer s H E hr, H, H, _, o, rs_start r (by omega), e1, ?_⟩
    rcases h2 with ⟨ρ, rfl, rfl⟩ | ⟨ρ, rfl⟩
    · exact fun σ' H' Hd' r' => k _ H' r'.same .non fun z => absurd e1 (hfr z ds ρ)
    · exact fun v σ' H' H2 Hd' r' s2 h2 f2 => k v H2 (r'.same.trans s2) h2 f2
end
end
end Sp

set_option Elab.async false
set_option linter.all false
set_option maxRecDepth 100000
set_option maxHeartbeats 2000000
namespace Sp
open PySem L2
open Classical
noncomputable section
variable {X : Cx} {W : Wh} {fr : Bool} {st : Stmt} {rest : List Stmt} {m m1 m2 : SM} {e a b c : Expr} {es : List Expr} {pos : Pos} {fa fb fc : Bool} {ma mb mc me : EM} {mt : BM}
/-- a power that is written -/
theorem ev_powc {i j r : Int} {k1 k2 : Nat} {p1 p2 : Pos} (h : CPow i j) (e : i ^ j.toNat = r) : EV X W (.BinOp (.Constant (.int i) k1 p1) .Pow (.Constant (.int j) k2 p2) pos) false (eC (.int r)) := by
  have h0 := ev_pow (X := X) (W := W) (pos := pos) (ev_int (X := X) (W := W) (i := i) (j := k1) (pos := p1)) (ev_int (X := X) (W := W) (i := j) (j := k2) (pos := p2))
  have h1 : eOp dPow (eC (.int i)) (eC (.int j)) = eC (.int r) := by
    funext ρ
    show guard (CPow i j) (.int (i ^ j.toNat)) = some (.int r)
    rw [guard_of h, e]
  rw [h1] at h0
  exact h0
end
end Sp

set_option Elab.async false
set_option linter.all false
set_option maxRecDepth 100000
set_option maxHeartbeats 2000000
namespace Sp
open PySem L2
open Classical
/-- a stretch -/
abbrev S3 := Int × Int × Int
def sd (z : S3) : D := .tup [.int z.1, .int z.2.1, .int z.2.2]
def le3 (a b : S3) : Bool := decide (a.1 < b.1 ∨ (a.1 = b.1 ∧ (a.2.1 < b.2.1 ∨ (a.2.1 = b.2.1 ∧ a.2.2 ≤ b.2.2))))
theorem le3_iff {a b : S3} : le3 a b = true ↔ (a.1 < b.1 ∨ (a.1 = b.1 ∧ (a.2.1 < b.2.1 ∨ (a.2.1 = b.2.1 ∧ a.2.2 ≤ b.2.2)))) := by unfold le3; exact decide_eq_true_iff
theorem le3_trans (a b c : S3) (h1 : le3 a b = true) (h2 : le3 b c = true) : le3 a c = true := by
  rw [le3_iff] at *
  omega
theorem le3_total (a b : S3) : (le3 a b || le3 b a) = true := by
  rw [Bool.or_eq_true, le3_iff, le3_iff]
  omega
theorem le3_anti {a b : S3} (h1 : le3 a b = true) (h2 : le3 b a = true) : a = b := by
  rw [le3_iff] at *
  obtain ⟨x, y, z⟩ := a
  obtain ⟨x', y', z'⟩ := b
  simp only at h1 h2
  have e1 : x = x' := by omega
  have e2 : y = y' := by omega
  have e3 : z = z' := by omega
  rw [e1, e2, e3]
def sort3 (zs : List S3) : List S3 := zs.mergeSort le3
theorem sort3_perm (zs : List S3) : (sort3 zs).Perm zs := List.mergeSort_perm _ _
theorem sort3_pw (zs : List S3) : (sort3 zs).Pairwise (fun a b => le3 a b = true) := List.pairwise_mergeSort le3_trans le3_total zs
theorem sort3_unique {xs zs : List S3} (p : xs.Perm zs) (h : xs.Pairwise (fun a b => le3 a b = true)) : xs = sort3 zs :=
  List.Perm.eq_of_pairwise (fun a b _ _ h1 h2 => le3_anti h1 h2) h (sort3_pw zs) (p.trans (sort3_perm zs).symm)
/-! ### sorted(xs), xs of triples -/
def shI : Nat → Bool := fun _ => false
section
variable {X : Cx} {W : Wh} {pins : List (Addr × Obj)} {σ : St} {H : Hp} {s : Shared}
theorem sd_inv {v : V} {z : S3} (h : Rp W H v (sd z)) : ∃ t, v = .ref t ∧ H t = some (.tup [.int z.1, .int z.2.1, .int z.2.2]) := by
  cases h with | @tup a xs _ h1 h2 =>
  have := Rps.of_ints (W := W) (H := H) (ns := [z.1, z.2.1, z.2.2]) h2
  subst this
  exact ⟨a, rfl, h1⟩
def keyZ (h : Heap) (v : Value) : S3 := match PyProof.Rows.G.tupKeyC h shI v with
  | some [.inl x, .inl y, .inl z] => (x, y, z)
  | _ => (0, 0, 0)
theorem trip_key (I : Inv X pins σ H s) {v : V} {u : Value} {z : S3} (h : Rp W H v (sd z)) (r : RelV v u) : PyProof.Rows.G.tupKeyC s.heap shI u = some [.inl z.1, .inl z.2.1, .inl z.2.2] ∧ ∃ f, PyProof.Rows.TupOf s.heap shI u f := by
  obtain ⟨t, rfl, ht⟩ := sd_inv h
  cases (show u = Value.ref t from r)
  obtain ⟨its, rv, ⟨o, ho, hc, n, hd⟩, _⟩ := I.tuple (SqT.of ht)
  cases rv with | cons r1 rv =>
  cases rv with | cons r2 rv =>
  cases rv with | cons r3 rv =>
  cases rv
  obtain ⟨t1, rfl⟩ := r1
  obtain ⟨t2, rfl⟩ := r2
  obtain ⟨t3, rfl⟩ := r3
  refine ⟨PyProof.Rows.G.tupKeyC_of ho hc hd rfl, .int z.1 t1, t, o, _, n, rfl, ho, hc, hd, rfl, fun _ => ⟨_, _, rfl⟩, fun e => by cases e⟩
theorem lex3 (a b : S3) : PyProof.Rows.lexLt PyProof.Rows.itemOrd [.inl a.1, .inl a.2.1, .inl a.2.2] [.inl b.1, .inl b.2.1, .inl b.2.2] = !le3 b a := by
  have e : PyProof.Rows.lexLt PyProof.Rows.itemOrd [.inl a.1, .inl a.2.1, .inl a.2.2] [.inl b.1, .inl b.2.1, .inl b.2.2] =
    (decide (a.1 < b.1) || (!decide (b.1 < a.1) && (decide (a.2.1 < b.2.1) || (!decide (b.2.1 < a.2.1) && (decide (a.2.2 < b.2.2) || (!decide (b.2.2 < a.2.2) && false)))))) := rfl
  rw [e]
  unfold le3
  rw [Bool.eq_iff_iff]
  simp only [Bool.or_eq_true, Bool.and_eq_true, Bool.not_eq_true', decide_eq_true_eq, decide_eq_false_iff_not, Bool.false_eq_true, and_false, or_false]
  omega
theorem trips_all (I : Inv X pins σ H s) : ∀ {zs : List S3} {xs : List V} {us : List Value}, Rps W H xs (zs.map sd) → Vals xs us → (∃ fs, PyProof.Rows.TupsOf s.heap shI us fs) ∧ (∀ u ∈ us, ∃ z : S3, PyProof.Rows.G.tupKeyC s.heap shI u = some [.inl z.1, .inl z.2.1, .inl z.2.2]) ∧
    us.map (keyZ s.heap) = zs ∧ xs = us.map bkV ∧ (∀ u ∈ us, Rp W H (bkV u) (sd (keyZ s.heap u)))
  | [], _, _, h, r => by
    cases h; cases r
    exact ⟨⟨[], .nil⟩, (fun _ z => absurd z (by simp)), rfl, rfl, (fun _ z => absurd z (by simp))⟩
  | z :: zs, v :: xs, u :: us, .cons h1 h2, .cons r1 r2 => by
    obtain ⟨⟨fs, f1⟩, f2, f3, f4, f5⟩ := trips_all I h2 r2
    obtain ⟨k1, f, k2⟩ := trip_key I h1 r1
    have kz : keyZ s.heap u = z := by unfold keyZ; rw [k1]
    have kb : v = bkV u := by
      obtain ⟨t, rfl, _⟩ := sd_inv h1
      cases (show u = Value.ref t from r1)
      rfl
    refine ⟨⟨_, .cons k2 f1⟩, fun u' hu => ?_, by rw [List.map_cons, kz, f3], by rw [List.map_cons, ← kb, ← f4], fun u' hu => ?_⟩
    · rcases List.mem_cons.mp hu with rfl | hu
      · exact ⟨z, k1⟩
      · exact f2 u' hu
    · rcases List.mem_cons.mp hu with rfl | hu
      · rw [kz, ← kb]; exact h1
      · exact f5 u' hu
theorem rps_map : ∀ {us : List Value} {h : Heap}, (∀ u ∈ us, Rp W H (bkV u) (sd (keyZ h u))) → Rps W H (us.map bkV) ((us.map (keyZ h)).map sd)
  | [], _, _ => .nil
  | u :: us, h, k => .cons (k u List.mem_cons_self) (rps_map fun v hv => k v (List.mem_cons_of_mem _ hv))
def rSorted3 (W : Wh) (K : PySem.W.Frag) : List V → Hp → VK → Prop := fun vs H Q => ∃ (a : Addr) (xs : List V) (zs : List S3), vs = [V.ref a] ∧ SqL K H a xs ∧ Rps W H xs (zs.map sd) ∧
  ∀ (ys : List V) (p : Addr), Rps W H ys ((sort3 zs).map sd) → H p = none → Q (.ref p) (upd H p (.lst ys))
theorem cr_sorted3 : CallR X (.builtin "sorted") (rSorted3 W X.K) := by
  intro pins s σ H vs us Q I r h
  obtain ⟨a, xs, zs, rfl, hs, hx, q⟩ := h
  obtain ⟨its, rv, hl, hz⟩ := I.list hs
  rw [Vals.ref1 r]
  obtain ⟨⟨fs, f1⟩, f2, f3, f4, f5⟩ := trips_all I hx rv
  have hlen : its.length ≤ sizeLine := by rw [← rv.length]; exact hz
  refine PyProof.Rows.G.sorted_tups (shape := shI) hl.isList f1 (fun v hv => let ⟨z, e⟩ := f2 v hv; ⟨_, e⟩) hlen fun st' hp hsort _ => ?_
  -- what came out
  have hp2 : (PyProof.Rows.arrOf st').toList.Perm (its.zip its) := by
    have := Array.perm_iff_toList_perm.mp hp
    rwa [PyProof.Rows.pairsOf_toList] at this
  have hself : ∀ p ∈ (PyProof.Rows.arrOf st').toList, p.1 = p.2 ∧ p.1 ∈ its := fun p hpm => by
    have := hp2.mem_iff.mp hpm
    obtain ⟨i, hi, e⟩ := List.getElem_of_mem this
    rw [List.getElem_zip] at e
    subst e
    exact ⟨rfl, List.getElem_mem _⟩
  generalize hout : ((PyProof.Rows.arrOf st').map (·.2)) = out
  have hol : out.toList = (PyProof.Rows.arrOf st').toList.map (·.2) := by rw [← hout, Array.toList_map]
  have hperm : out.toList.Perm its := by
    rw [hol]
    have := hp2.map (·.2)
    rw [show (its.zip its).map (·.2) = its from List.map_snd_zip (by simp)] at this
    exact this
  have hkeys : ∀ u ∈ its, PyProof.Rows.G.tupKeyC s.heap shI u = some [.inl (keyZ s.heap u).1, .inl (keyZ s.heap u).2.1, .inl (keyZ s.heap u).2.2] := fun u hu => by
    obtain ⟨z, e⟩ := f2 u hu
    have kz : keyZ s.heap u = z := by unfold keyZ; rw [e]
    rw [kz, e]
  have hsz : (PyProof.Rows.arrOf st').size = (PyProof.Rows.pairsOf its).size := by
    have := (Array.perm_iff_toList_perm.mp hp).length_eq
    simpa using this
  have hpw : (out.toList.map (keyZ s.heap)).Pairwise (fun a b => le3 a b = true) := by
    rw [hol, List.map_map]
    rw [List.pairwise_map, List.pairwise_iff_getElem]
    intro i j hi hj hij
    have hi' : i < (PyProof.Rows.arrOf st').size := by simpa using hi
    have hj' : j < (PyProof.Rows.arrOf st').size := by simpa using hj
    have hle := hsort i j (Nat.le_of_lt hij) (by rw [← hsz]; exact hj')
    have mi := hself _ (List.getElem_mem hi)
    have mj := hself _ (List.getElem_mem hj)
    have ki : PyProof.Rows.KK (PyProof.Rows.G.tupKindC s.heap shI) (PyProof.Rows.arrOf st') i = [.inl (keyZ s.heap (PyProof.Rows.arrOf st').toList[i].1).1, .inl (keyZ s.heap (PyProof.Rows.arrOf st').toList[i].1).2.1, .inl (keyZ s.heap (PyProof.Rows.arrOf st').toList[i].1).2.2] := by
      unfold PyProof.Rows.KK
      rw [Array.getElem?_eq_getElem hi']
      show (PyProof.Rows.G.tupKeyC s.heap shI (PyProof.Rows.arrOf st')[i].1).getD [] = _
      rw [← Array.getElem_toList hi', hkeys _ mi.2]
      rfl
    have kj : PyProof.Rows.KK (PyProof.Rows.G.tupKindC s.heap shI) (PyProof.Rows.arrOf st') j = [.inl (keyZ s.heap (PyProof.Rows.arrOf st').toList[j].1).1, .inl (keyZ s.heap (PyProof.Rows.arrOf st').toList[j].1).2.1, .inl (keyZ s.heap (PyProof.Rows.arrOf st').toList[j].1).2.2] := by
      unfold PyProof.Rows.KK
      rw [Array.getElem?_eq_getElem hj']
      show (PyProof.Rows.G.tupKeyC s.heap shI (PyProof.Rows.arrOf st')[j].1).getD [] = _
      rw [← Array.getElem_toList hj', hkeys _ mj.2]
      rfl
    rw [ki, kj] at hle
    have hle2 : PyProof.Rows.lexLt PyProof.Rows.itemOrd [.inl (keyZ s.heap (PyProof.Rows.arrOf st').toList[j].1).1, .inl (keyZ s.heap (PyProof.Rows.arrOf st').toList[j].1).2.1, .inl (keyZ s.heap (PyProof.Rows.arrOf st').toList[j].1).2.2] [.inl (keyZ s.heap (PyProof.Rows.arrOf st').toList[i].1).1, .inl (keyZ s.heap (PyProof.Rows.arrOf st').toList[i].1).2.1, .inl (keyZ s.heap (PyProof.Rows.arrOf st').toList[i].1).2.2] = false := hle
    rw [lex3, Bool.not_eq_false'] at hle2
    show le3 (keyZ s.heap (PyProof.Rows.arrOf st').toList[i].2) (keyZ s.heap (PyProof.Rows.arrOf st').toList[j].2) = true
    rw [← mi.1, ← mj.1]
    exact hle2
  have huniq : out.toList.map (keyZ s.heap) = sort3 zs := sort3_unique (by rw [← f3]; exact hperm.map _) hpw
  have hrps : Rps W H (out.toList.map bkV) ((sort3 zs).map sd) := by
    rw [← huniq]
    exact rps_map fun u hu => f5 u (hperm.mem_iff.mp hu)
  obtain ⟨ep, he'⟩ := PyProof.Rows.sortedAll_at s.heap its out
  have hrefs : ∀ u ∈ out.toList, ∃ a, u = Value.ref a := fun u hu => by
    have h1 := f5 u (hperm.mem_iff.mp hu)
    obtain ⟨t, e, _⟩ := sd_inv h1
    exact ⟨t, bkV_ref e⟩
  have hlo : (out.toList.map bkV).length ≤ sizeLine := by rw [List.length_map, hperm.length_eq]; exact hlen
  exact ⟨.ref _, upd H (s.heap.objs.size + 1) (.lst (out.toList.map bkV)), I.laid (t' := s.toks) (fun _ _ => PyProof.Rows.sortedAll_old) (Nat.le_succ _) ⟨hlo, out.toList, ep, bkV_vals hrefs, he'⟩, rfl, q _ _ hrps (I.hok.fresh (Nat.le_succ _))⟩
end
/-! #### by data -/
noncomputable section
/-- data that are stretches -/
def D.trip : D → Option S3
  | .tup [.int x, .int y, .int z] => some (x, y, z)
  | _ => none
def D.trips : List D → Option (List S3)
  | [] => some []
  | d :: r => d.trip.bind fun z => (D.trips r).map fun zs => z :: zs
theorem D.trip_sd (z : S3) : (sd z).trip = some z := rfl
theorem D.trips_map (zs : List S3) : D.trips (zs.map sd) = some zs := by
  induction zs with
  | nil => rfl
  | cons z zs ih => rw [List.map_cons, D.trips, D.trip_sd, ih]; rfl
theorem D.of_trip {d : D} {z : S3} (h : d.trip = some z) : d = sd z := by
  unfold D.trip at h
  split at h
  · cases h; rfl
  · cases h
theorem D.of_trips : ∀ {ds : List D} {zs : List S3}, D.trips ds = some zs → ds = zs.map sd
  | [], zs, h => by cases h; rfl
  | d :: r, zs, h => by
    rw [D.trips, Option.bind_eq_some_iff] at h
    obtain ⟨z, h1, h2⟩ := h
    rw [Option.map_eq_some_iff] at h2
    obtain ⟨ys, h3, rfl⟩ := h2
    rw [D.of_trip h1, D.of_trips h3]; rfl
def fSorted : List D → Option D
  | [.lst ds] => (D.trips ds).map fun zs => .lst ((sort3 zs).map sd)
  | _ => none
theorem kSorted {X : Cx} {W : Wh} (hK : X.K = W.K) : CallOk W true (rSorted3 W X.K) fSorted := by
  intro H vs ds d Q r e k
  match ds, e with
  | [.lst ds], e =>
    obtain ⟨v, rfl, h⟩ := r.one
    have e : ((D.trips ds).map fun zs => D.lst ((sort3 zs).map sd)) = some d := e
    rw [Option.map_eq_some_iff] at e
    obtain ⟨zs, e1, rfl⟩ := e
    cases D.of_trips e1
    cases h with | lst h1 h2 =>
    exact ⟨_, _, zs, rfl, SqL.of h1, h2, fun ys p r2 n => k _ _ (same_new n) (rp_newL n r2) fun _ => frl_upd n⟩
end
end Sp

set_option Elab.async false
set_option linter.all false
set_option maxRecDepth 100000
set_option maxHeartbeats 2000000
namespace Sp
open PySem L2
open Classical
noncomputable section
/-! ### what a mirror gives -/
def Gv (x : Option Out) (P : Out → Prop) : Prop := ∃ o, x = some o ∧ P o
def Ge (x : Option D) (P : D → Prop) : Prop := ∃ d, x = some d ∧ P d
def Gb (x : Option Bool) (P : Bool → Prop) : Prop := ∃ d, x = some d ∧ P d
def Gl (x : Option (List D)) (P : List D → Prop) : Prop := ∃ d, x = some d ∧ P d
def Go (x : Option (Option Int)) (P : Option Int → Prop) : Prop := ∃ d, x = some d ∧ P d
theorem ge_some {d : D} {P : D → Prop} : Ge (some d) P ↔ P d := ⟨fun ⟨_, e, h⟩ => by cases e; exact h, fun h => ⟨_, rfl, h⟩⟩
theorem gb_some {d : Bool} {P : Bool → Prop} : Gb (some d) P ↔ P d := ⟨fun ⟨_, e, h⟩ => by cases e; exact h, fun h => ⟨_, rfl, h⟩⟩
theorem gl_some {d : List D} {P : List D → Prop} : Gl (some d) P ↔ P d := ⟨fun ⟨_, e, h⟩ => by cases e; exact h, fun h => ⟨_, rfl, h⟩⟩
theorem gv_some {d : Out} {P : Out → Prop} : Gv (some d) P ↔ P d := ⟨fun ⟨_, e, h⟩ => by cases e; exact h, fun h => ⟨_, rfl, h⟩⟩
theorem go_some {d : Option Int} {P : Option Int → Prop} : Go (some d) P ↔ P d := ⟨fun ⟨_, e, h⟩ => by cases e; exact h, fun h => ⟨_, rfl, h⟩⟩
theorem ge_of {x : Option D} {d : D} {P : D → Prop} (e : x = some d) (h : P d) : Ge x P := ⟨d, e, h⟩
theorem ge_guard {c : Prop} {d : D} {P : D → Prop} : Ge (guard c d) P ↔ c ∧ P d := ⟨fun ⟨_, e, h⟩ => by obtain ⟨c, rfl⟩ := guard_some e; exact ⟨c, h⟩, fun ⟨c, h⟩ => ⟨d, guard_of c, h⟩⟩
theorem ge_bind {α : Type} {x : Option α} {f : α → Option D} {P : D → Prop} : Ge (x.bind f) P ↔ ∃ a, x = some a ∧ Ge (f a) P := by
  unfold Ge
  cases x with
  | none => simp
  | some a => simp
section
variable {ρ : DEnv} {P : D → Prop} {PB : Bool → Prop} {PL : List D → Prop} {a b c : EM} {t u : BM} {ms : DEnv → Option (List D)}
theorem ge_var {i : Nat} : Ge (eVar i ρ) P ↔ Ge (gt ρ i) P := Iff.rfl
theorem ge_c {d : D} : Ge (eC d ρ) P ↔ P d := ge_some
theorem ge_op {f : D → D → Option D} : Ge (eOp f a b ρ) P ↔ Ge (a ρ) fun x => Ge (b ρ) fun y => Ge (f x y) P := by
  constructor
  · rintro ⟨d, e, h⟩
    obtain ⟨x, y, e1, e2, e3⟩ := eOp_some e
    exact ⟨x, e1, y, e2, d, e3, h⟩
  · rintro ⟨x, e1, y, e2, d, e3, h⟩
    exact ⟨d, by unfold eOp; rw [e1, Option.bind_some, e2, Option.bind_some, e3], h⟩
theorem ge_un {f : D → Option D} : Ge (eUn f a ρ) P ↔ Ge (a ρ) fun x => Ge (f x) P := by
  constructor
  · rintro ⟨d, e, h⟩
    obtain ⟨x, e1, e3⟩ := eUn_some e
    exact ⟨x, e1, d, e3, h⟩
  · rintro ⟨x, e1, d, e3, h⟩
    exact ⟨d, by unfold eUn; rw [e1, Option.bind_some, e3], h⟩
theorem gl_nil : Gl (eNil ρ) PL ↔ PL [] := gl_some
theorem gl_cons : Gl (eCons a ms ρ) PL ↔ Ge (a ρ) fun x => Gl (ms ρ) fun xs => PL (x :: xs) := by
  constructor
  · rintro ⟨d, e, h⟩
    obtain ⟨x, xs, e1, e2, rfl⟩ := eCons_some e
    exact ⟨x, e1, xs, e2, h⟩
  · rintro ⟨x, e1, xs, e2, h⟩
    exact ⟨x :: xs, by unfold eCons; rw [e1, Option.bind_some, e2, Option.bind_some], h⟩
theorem ge_call {f : List D → Option D} : Ge (eCall f ms ρ) P ↔ Gl (ms ρ) fun ds => Ge (f ds) P := by
  unfold eCall Ge Gl
  cases ms ρ with
  | none => simp
  | some a => simp
theorem ge_meth {f : List D → Option D} : Ge (eMeth f a ms ρ) P ↔ Ge (a ρ) fun w => Gl (ms ρ) fun ds => ∃ t, w = .wood t ∧ Ge (f (.wood t :: ds)) P := by
  constructor
  · rintro ⟨d, e, h⟩
    obtain ⟨t, ds, e1, e2, e3⟩ := eMeth_some e
    exact ⟨_, e1, ds, e2, t, rfl, d, e3, h⟩
  · rintro ⟨w, e1, ds, e2, t, rfl, d, e3, h⟩
    exact ⟨d, by unfold eMeth; rw [e1, Option.bind_some, e2, Option.bind_some]; exact e3, h⟩
theorem ge_tup : Ge (eTup ms ρ) P ↔ Gl (ms ρ) fun ds => ds.length ≤ sizeLine ∧ P (.tup ds) := by
  constructor
  · rintro ⟨d, e, h⟩
    unfold eTup at e
    rw [Option.bind_eq_some_iff] at e
    obtain ⟨ds, e1, e2⟩ := e
    obtain ⟨c, rfl⟩ := guard_some e2
    exact ⟨ds, e1, c, h⟩
  · rintro ⟨ds, e1, c, h⟩
    exact ⟨_, by unfold eTup; rw [e1, Option.bind_some, guard_of c], h⟩
theorem ge_lst : Ge (eLst ms ρ) P ↔ Gl (ms ρ) fun ds => ds.length ≤ sizeLine ∧ P (.lst ds) := by
  constructor
  · rintro ⟨d, e, h⟩
    unfold eLst at e
    rw [Option.bind_eq_some_iff] at e
    obtain ⟨ds, e1, e2⟩ := e
    obtain ⟨c, rfl⟩ := guard_some e2
    exact ⟨ds, e1, c, h⟩
  · rintro ⟨ds, e1, c, h⟩
    exact ⟨_, by unfold eLst; rw [e1, Option.bind_some, guard_of c], h⟩
theorem ge_ii {f : Int → Int → Option D} {i j : Int} : Ge (dII f (.int i) (.int j)) P ↔ Ge (f i j) P := Iff.rfl
theorem ge_sl {f : D → Option Int → Option Int → Option D} {lo hi : DEnv → Option (Option Int)} : Ge (eSl f a lo hi ρ) P ↔ Ge (a ρ) fun x => Go (lo ρ) fun l => Go (hi ρ) fun h => Ge (f x l h) P := by
  constructor
  · rintro ⟨d, e, h⟩
    obtain ⟨x, l, u, e1, e2, e3, e4⟩ := eSl_some e
    exact ⟨x, e1, l, e2, u, e3, d, e4, h⟩
  · rintro ⟨x, e1, l, e2, u, e3, d, e4, h⟩
    exact ⟨d, by unfold eSl; rw [e1, Option.bind_some, e2, Option.bind_some, e3, Option.bind_some, e4], h⟩
theorem go_none {PO : Option Int → Prop} : Go (oNone ρ) PO ↔ PO none := go_some
theorem go_int {PO : Option Int → Prop} : Go (oSome a ρ) PO ↔ Ge (a ρ) fun d => ∃ i, d = .int i ∧ PO (some i) := by
  unfold oSome Go Ge
  cases a ρ with
  | none => simp
  | some d => cases d <;> simp
theorem gb_val : Gb (bVal a ρ) PB ↔ Ge (a ρ) fun d => ∃ b, d = .bl b ∧ PB b := by
  constructor
  · rintro ⟨d, e, h⟩
    exact ⟨_, bVal_some e, _, rfl, h⟩
  · rintro ⟨d, e, b, rfl, h⟩
    exact ⟨b, by unfold bVal; rw [e]; rfl, h⟩
theorem gb_truth : Gb (bTruth a ρ) PB ↔ Ge (a ρ) fun d => (∃ b, d = .bl b ∧ PB b) ∨ (∃ ds, d = .lst ds ∧ PB (!ds.isEmpty)) ∨ ∃ i, d = .int i ∧ PB (i != 0) := by
  unfold bTruth Gb Ge
  cases a ρ with
  | none => simp
  | some d =>
    cases d with
    | bl b => cases b <;> simp
    | lst ds => cases ds <;> simp
    | _ => simp
theorem gb_and : Gb (bAnd t u ρ) PB ↔ Gb (t ρ) fun c => if c = true then Gb (u ρ) PB else PB false := by
  unfold bAnd Gb
  cases t ρ with
  | none => simp
  | some c => cases c <;> simp
theorem gb_or : Gb (bOr t u ρ) PB ↔ Gb (t ρ) fun c => if c = true then PB true else Gb (u ρ) PB := by
  unfold bOr Gb
  cases t ρ with
  | none => simp
  | some c => cases c <;> simp
theorem gb_not : Gb (bNot t ρ) PB ↔ Gb (t ρ) fun c => PB (!c) := by
  unfold bNot Gb
  cases t ρ with
  | none => simp
  | some c => cases c <;> simp
theorem gb_yes : Gb (bYes ρ) PB ↔ PB true := gb_some
theorem ge_and : Ge (eAnd a b ρ) P ↔ Ge (a ρ) fun d => ∃ c, d = .bl c ∧ if c = true then Ge (b ρ) P else P (.bl false) := by
  unfold eAnd Ge
  cases a ρ with
  | none => simp
  | some d =>
    cases d with
    | bl c => cases c <;> simp
    | _ => simp
theorem ge_or : Ge (eOr a b ρ) P ↔ Ge (a ρ) fun d => ∃ c, d = .bl c ∧ if c = true then P (.bl true) else Ge (b ρ) P := by
  unfold eOr Ge
  cases a ρ with
  | none => simp
  | some d =>
    cases d with
    | bl c => cases c <;> simp
    | _ => simp
theorem ge_if : Ge (eIf t a b ρ) P ↔ Gb (t ρ) fun c => if c = true then Ge (a ρ) P else Ge (b ρ) P := by
  unfold eIf Ge Gb
  cases t ρ with
  | none => simp
  | some c => cases c <;> simp
theorem ge_chain {f g : D → D → Option D} : Ge (eChain f g a b c ρ) P ↔ Ge (a ρ) fun x => Ge (b ρ) fun y => Ge (f x y) fun z => ∃ k, z = .bl k ∧ if k = true then Ge (c ρ) fun w => Ge (g y w) P else P (.bl false) := by
  constructor
  · rintro ⟨d, e, h⟩
    obtain ⟨x, y, z, e1, e2, e3, e4⟩ := eChain_some e
    refine ⟨x, e1, y, e2, z, e3, ?_⟩
    rcases e4 with ⟨rfl, w, e5, e6⟩ | ⟨rfl, rfl⟩
    · exact ⟨true, rfl, by rw [if_pos rfl]; exact ⟨w, e5, d, e6, h⟩⟩
    · exact ⟨false, rfl, by rw [if_neg (by decide)]; exact h⟩
  · rintro ⟨x, e1, y, e2, z, e3, k, rfl, h⟩
    cases k with
    | true =>
      rw [if_pos rfl] at h
      obtain ⟨w, e5, d, e6, h⟩ := h
      exact ⟨d, by unfold eChain; rw [e1, Option.bind_some, e2, Option.bind_some, e3, Option.bind_some]; show ((c ρ).bind fun w => g y w) = _; rw [e5, Option.bind_some, e6], h⟩
    | false =>
      rw [if_neg (by decide)] at h
      exact ⟨_, by unfold eChain; rw [e1, Option.bind_some, e2, Option.bind_some, e3, Option.bind_some], h⟩
end
/-! ### statements -/
section
variable {ρ : SEnv} {P : Out → Prop} {m m1 m2 : SM} {a : EM} {t : BM}
theorem gv_next : Gv (sNext ρ) P ↔ P (.nx ρ) := gv_some
theorem gv_brk : Gv (sBrk ρ) P ↔ P (.bk ρ) := gv_some
theorem gv_cnt : Gv (sCnt ρ) P ↔ P (.ct ρ) := gv_some
theorem gv_retN : Gv (sRetN ρ) P ↔ P (.rt .non ρ) := gv_some
/-- behind one statement the next -/
def Nx (m : SM) (P : Out → Prop) : Out → Prop
  | .nx ρ' => Gv (m ρ') P
  | o => P o
theorem gv_seq : Gv (sSeq m1 m2 ρ) P ↔ Gv (m1 ρ) (Nx m2 P) := by
  unfold sSeq Gv
  cases m1 ρ with
  | none => simp
  | some o => cases o <;> simp [Nx, Gv]
theorem nx_nx : Nx m P (.nx ρ) ↔ Gv (m ρ) P := Iff.rfl
theorem nx_rt {d : D} : Nx m P (.rt d ρ) ↔ P (.rt d ρ) := Iff.rfl
theorem nx_bk : Nx m P (.bk ρ) ↔ P (.bk ρ) := Iff.rfl
theorem nx_ct : Nx m P (.ct ρ) ↔ P (.ct ρ) := Iff.rfl
theorem gv_set {i : Nat} : Gv (sSet i a ρ) P ↔ Ge (a (full ρ)) fun d => (d.imm = true ∨ noOwn ρ = true) ∧ P (.nx (ρ.set i (.v d))) := by
  unfold sSet Gv Ge
  cases a (full ρ) with
  | none => simp
  | some d =>
    simp only [Option.bind_some, Option.some.injEq, exists_eq_left']
    by_cases c : d.imm = true ∨ noOwn ρ = true
    · simp [c]
    · simp [c]
theorem gv_setF {i : Nat} : Gv (sSetF i a ρ) P ↔ Ge (a (full ρ)) fun d => ∃ ds, d = .lst ds ∧ D.imms ds = true ∧ P (.nx (ρ.set i (.v d))) := by
  unfold sSetF Gv Ge
  cases a (full ρ) with
  | none => simp
  | some d =>
    cases d with
    | lst ds =>
      by_cases c : D.imms ds = true
      · simp [c]
      · simp [c]
    | _ => simp
theorem gv_own {i : Nat} : Gv (sOwn i a ρ) P ↔ Ge (a (full ρ)) fun d => ∃ ds, d = .lst ds ∧ D.imms ds = true ∧ P (.nx (ρ.set i (.own ds))) := by
  unfold sOwn Gv Ge
  cases a (full ρ) with
  | none => simp
  | some d =>
    cases d with
    | lst ds =>
      by_cases c : D.imms ds = true
      · simp [c]
      · simp [c]
    | _ => simp
theorem gv_ret : Gv (sRet a ρ) P ↔ Ge (a (full ρ)) fun d => P (.rt d ρ) := by
  unfold sRet Gv Ge
  cases a (full ρ) with
  | none => simp
  | some d => simp
theorem gv_drop : Gv (sDrop a ρ) P ↔ Ge (a (full ρ)) fun d => P (.nx ρ) := by
  unfold sDrop Gv Ge
  cases a (full ρ) with
  | none => simp
  | some d => simp
theorem gv_retO {i : Nat} : Gv (sRetO i ρ) P ↔ ∃ ds, sgt ρ i = .own ds ∧ P (.rt (.lst ds) ρ) := by
  unfold sRetO Gv
  cases sgt ρ i with
  | own ds => simp
  | _ => simp
theorem gv_if : Gv (sIf t m1 m2 ρ) P ↔ Gb (t (full ρ)) fun c => if c = true then Gv (m1 ρ) P else Gv (m2 ρ) P := by
  unfold sIf Gv Gb
  cases t (full ρ) with
  | none => simp
  | some c => cases c <;> simp
theorem gv_app {i : Nat} : Gv (sApp i a ρ) P ↔ Ge (a (full ρ)) fun d => ∃ ds, sgt ρ i = .own ds ∧ d.imm = true ∧ ds.length < sizeLine ∧ P (.nx (ρ.set i (.own (ds ++ [d])))) := by
  unfold sApp Gv Ge
  cases a (full ρ) with
  | none => simp
  | some d =>
    cases sgt ρ i with
    | own ds =>
      simp only [Option.bind_some, Option.some.injEq, exists_eq_left', SV.own.injEq]
      by_cases c : d.imm = true ∧ ds.length < sizeLine
      · simp [c]
      · rw [if_neg c]
        constructor
        · rintro ⟨o, h, _⟩; cases h
        · rintro ⟨h1, h2, _⟩; exact absurd ⟨h1, h2⟩ c
    | _ => simp
theorem gv_unp {is : List Nat} : Gv (sUnp is a ρ) P ↔ Ge (a (full ρ)) fun d => ∃ ds, d = .tup ds ∧ is.length = ds.length ∧ (D.imms ds = true ∨ noOwn ρ = true) ∧ P (.nx (setAll is ds ρ)) := by
  unfold sUnp Gv Ge
  cases a (full ρ) with
  | none => simp
  | some d =>
    cases d with
    | tup ds =>
      simp only [Option.bind_some, Option.some.injEq, exists_eq_left', D.tup.injEq]
      by_cases c : is.length = ds.length ∧ (D.imms ds = true ∨ noOwn ρ = true)
      · rw [if_pos c]; simp [c]
      · rw [if_neg c]
        constructor
        · rintro ⟨o, h, _⟩; cases h
        · rintro ⟨h1, h2, _⟩; exact absurd ⟨h1, h2⟩ c
    | _ => simp
theorem gv_pop {i j : Nat} : Gv (sPop i j ρ) P ↔ ∃ ds d, sgt ρ i = .own ds ∧ ds[ds.length - 1]? = some d ∧ P (.nx ((ρ.set i (.own ds.dropLast)).set j (.v d))) := by
  unfold sPop Gv
  cases sgt ρ i with
  | own ds =>
    cases h : ds[ds.length - 1]? with
    | none => simp [h]
    | some d => simp [h]
  | _ => simp
theorem gv_put {i : Nat} {mi : EM} : Gv (sPut i mi a ρ) P ↔ Ge (a (full ρ)) fun d => Ge (mi (full ρ)) fun x => ∃ ds q j, sgt ρ i = .own ds ∧ x = .int q ∧ ixN ds.length q = some j ∧ d.imm = true ∧ P (.nx (ρ.set i (.own (ds.set j d)))) := by
  unfold sPut Gv Ge
  cases a (full ρ) with
  | none => simp
  | some d =>
    cases mi (full ρ) with
    | none => simp
    | some x =>
      cases sgt ρ i with
      | own ds =>
        cases x with
        | int q =>
          simp only [Option.bind_some, Option.some.injEq, exists_eq_left', SV.own.injEq, D.int.injEq]
          cases h : ixN ds.length q with
          | none => simp [h]
          | some j =>
            by_cases c : d.imm = true
            · simp [h, c]
            · simp [h, c]
        | _ => simp
      | _ => simp
theorem gv_par {i j : Nat} {ms : DEnv → Option (List D)} : Gv (sPar i j ms ρ) P ↔ Gl (ms (full ρ)) fun ds => ∃ x y, ds = [x, y] ∧ (D.imms ds = true ∨ noOwn ρ = true) ∧ i ≠ j ∧ P (.nx ((ρ.set i (.v x)).set j (.v y))) := by
  unfold sPar Gv Gl
  cases ms (full ρ) with
  | none => simp
  | some ds =>
    match ds with
    | [x, y] =>
      simp only [Option.bind_some, Option.some.injEq, exists_eq_left', List.cons.injEq, and_true]
      by_cases c : (D.imms [x, y] = true ∨ noOwn ρ = true) ∧ i ≠ j
      · rw [if_pos c]
        constructor
        · rintro ⟨o, h, p⟩; cases h; exact ⟨x, y, ⟨rfl, rfl⟩, c.1, c.2, p⟩
        · rintro ⟨x', y', ⟨rfl, rfl⟩, _, _, p⟩; exact ⟨_, rfl, p⟩
      · rw [if_neg c]
        constructor
        · rintro ⟨o, h, _⟩; cases h
        · rintro ⟨_, _, _, h1, h2, _⟩; exact absurd ⟨h1, h2⟩ c
    | [] => simp
    | [_] => simp
    | _ :: _ :: _ :: _ => simp
/-! #### loops -/
theorem gv_for {tg : Tg} {body : SM} {xs : List D} (I : Nat → SEnv → Prop) (h0 : I 0 ρ)
    (hs : ∀ k d ρ, xs[k]? = some d → I k ρ → ∃ ρ1, tg.put d ρ = some ρ1 ∧ Gv (body ρ1) (fun o => match o with | .nx ρ2 => I (k + 1) ρ2 | .ct ρ2 => I (k + 1) ρ2 | .bk ρ2 => P (.nx ρ2) | .rt d ρ2 => P (.rt d ρ2)))
    (hd : ∀ ρ, I xs.length ρ → P (.nx ρ)) : Gv (forL tg body xs ρ) P := by
  induction xs generalizing I ρ with
  | nil => exact ⟨_, rfl, hd ρ h0⟩
  | cons x xs ih =>
    obtain ⟨ρ1, e1, o, e2, h2⟩ := hs 0 x ρ rfl h0
    rw [forL, e1, Option.bind_some, e2, Option.bind_some]
    cases o with
    | nx ρ2 => exact ih (fun k => I (k + 1)) h2 (fun k d ρ h => hs (k + 1) d ρ (by simpa using h)) (fun ρ h => hd ρ (by simpa using h))
    | ct ρ2 => exact ih (fun k => I (k + 1)) h2 (fun k d ρ h => hs (k + 1) d ρ (by simpa using h)) (fun ρ h => hd ρ (by simpa using h))
    | bk ρ2 => exact ⟨_, rfl, h2⟩
    | rt d ρ2 => exact ⟨_, rfl, h2⟩
theorem gv_forV {tg : Tg} {i : Nat} {body : SM} {ds : List D} (h : sgt ρ i = .v (.lst ds)) (q : Gv (forL tg body ds ρ) P) : Gv (sForV tg i body ρ) P := by
  unfold sForV
  rw [h]
  exact q
theorem gv_forF {tg : Tg} {body : SM} : Gv (sForF tg a body ρ) P ↔ Ge (a (full ρ)) fun d => ∃ ds, d = .lst ds ∧ D.imms ds = true ∧ Gv (forL tg body ds ρ) P := by
  unfold sForF Ge
  cases a (full ρ) with
  | none => simp [Gv]
  | some d =>
    cases d with
    | lst ds =>
      by_cases c : D.imms ds = true
      · simp [c]
      · simp [c, Gv]
    | _ => simp [Gv]
theorem gv_forN {tg : Tg} {body : SM} : Gv (sForN tg a body ρ) P ↔ Ge (a (full ρ)) fun d => ∃ ds, d = .lst ds ∧ noOwn ρ = true ∧ Gv (forL tg body ds ρ) P := by
  unfold sForN Ge
  cases a (full ρ) with
  | none => simp [Gv]
  | some d =>
    cases d with
    | lst ds =>
      by_cases c : noOwn ρ = true
      · simp [c]
      · simp [c, Gv]
    | _ => simp [Gv]
theorem gv_forT {tg : Tg} {body : SM} : Gv (sForT tg a body ρ) P ↔ Ge (a (full ρ)) fun d => ∃ ds, d = .tup ds ∧ D.imms ds = true ∧ Gv (forL tg body ds ρ) P := by
  unfold sForT Ge
  cases a (full ρ) with
  | none => simp [Gv]
  | some d =>
    cases d with
    | tup ds =>
      by_cases c : D.imms ds = true
      · simp [c]
      · simp [c, Gv]
    | _ => simp [Gv]
theorem gv_forR {f : List D → Option (List Int)} {tg : Tg} {ms : DEnv → Option (List D)} {body : SM} : Gv (sForR f tg ms body ρ) P ↔ Gl (ms (full ρ)) fun ds => ∃ ns, f ds = some ns ∧ Gv (forL tg body (ns.map .int) ρ) P := by
  unfold sForR Gl
  cases ms (full ρ) with
  | none => simp [Gv]
  | some ds =>
    cases h : f ds with
    | none => simp [Gv, h]
    | some ns => simp [h]
/-- a while, by an invariant and a measure -/
theorem gv_while {body : SM} (I : SEnv → Prop) (μ : SEnv → Nat) (h0 : I ρ)
    (hs : ∀ ρ, I ρ → Gb (t (full ρ)) fun c => if c = true then Gv (body ρ) (fun o => match o with | .nx ρ2 => I ρ2 ∧ μ ρ2 < μ ρ | .ct ρ2 => I ρ2 ∧ μ ρ2 < μ ρ | .bk ρ2 => P (.nx ρ2) | .rt d ρ2 => P (.rt d ρ2)) else P (.nx ρ)) : Gv (sWhile t body ρ) P := by
  suffices h : ∀ n ρ, μ ρ < n → I ρ → ∃ o, whL t body n ρ = some o ∧ P o by
    obtain ⟨o, e, p⟩ := h (μ ρ + 1) ρ (Nat.lt_succ_self _) h0
    exact ⟨o, sWhile_of e, p⟩
  intro n
  induction n with
  | zero => intro ρ h _; omega
  | succ n ih =>
    intro ρ hn hI
    obtain ⟨c, e, h⟩ := hs ρ hI
    rw [whL, e, Option.bind_some]
    cases c with
    | false =>
      rw [if_neg (by decide)] at h
      exact ⟨_, rfl, h⟩
    | true =>
      rw [if_pos rfl] at h ⊢
      obtain ⟨o, e2, h2⟩ := h
      rw [e2, Option.bind_some]
      cases o with
      | nx ρ2 => exact ih ρ2 (by omega) h2.1
      | ct ρ2 => exact ih ρ2 (by omega) h2.1
      | bk ρ2 => exact ⟨_, rfl, h2⟩
      | rt d ρ2 => exact ⟨_, rfl, h2⟩
/-! #### a def -/
theorem def_gv {p n : Nat} {m : SM} {ds : List D} {d : D} (hp : ds.length = p) (h : Gv (m (frm n ds)) fun o => match o with | .rt d' _ => d' = d | .nx _ => d = .non | _ => False) : mDef p n m ds = some d := by
  obtain ⟨o, e, h⟩ := h
  unfold mDef
  rw [if_pos hp, e, Option.bind_some]
  cases o with
  | rt d' _ => rw [show d' = d from h]
  | nx _ => rw [show d = .non from h]
  | bk _ => exact h.elim
  | ct _ => exact h.elim
/-- .. told by a property of what comes back -/
theorem def_ge {p n : Nat} {m : SM} {ds : List D} {P : D → Prop} (hp : ds.length = p) (h : Gv (m (frm n ds)) fun o => match o with | .rt d' _ => P d' | .nx _ => P .non | _ => False) : Ge (mDef p n m ds) P := by
  obtain ⟨o, e, h⟩ := h
  cases o with
  | rt d' _ => exact ⟨d', def_gv hp ⟨_, e, rfl⟩, h⟩
  | nx _ => exact ⟨.non, def_gv hp ⟨_, e, rfl⟩, h⟩
  | bk _ => exact h.elim
  | ct _ => exact h.elim
end
/-! ### comprehensions -/
section
variable {ρ : DEnv} {P : D → Prop} {a me : EM} {t : BM}
theorem ge_lc {i : Nat} : Ge (eLc i a t me ρ) P ↔ i < ρ.length ∧ Ge (a ρ) fun d => ∃ ds, d = .lst ds ∧ ds.length ≤ sizeLine ∧ Gl (lcL i t me ds ρ) fun out => P (.lst out) := by
  unfold eLc Ge Gl
  by_cases hi : i < ρ.length
  · simp only [hi, if_true, true_and]
    cases a ρ with
    | none => simp
    | some d =>
      cases d with
      | lst ds =>
        simp only [Option.bind_some, Option.some.injEq, exists_eq_left', D.lst.injEq]
        by_cases c : ds.length ≤ sizeLine
        · simp only [c, if_true, true_and, Option.map_eq_some_iff]
          constructor
          · rintro ⟨d, ⟨out, e, rfl⟩, h⟩; exact ⟨out, e, h⟩
          · rintro ⟨out, e, h⟩; exact ⟨_, ⟨out, e, rfl⟩, h⟩
        · simp [c]
      | _ => simp
  · simp [hi]
theorem ge_lcT {i : Nat} : Ge (eLcT i a t me ρ) P ↔ i < ρ.length ∧ Ge (a ρ) fun d => ∃ ds, d = .tup ds ∧ ds.length ≤ sizeLine ∧ Gl (lcL i t me ds ρ) fun out => P (.lst out) := by
  unfold eLcT Ge Gl
  by_cases hi : i < ρ.length
  · simp only [hi, if_true, true_and]
    cases a ρ with
    | none => simp
    | some d =>
      cases d with
      | tup ds =>
        simp only [Option.bind_some, Option.some.injEq, exists_eq_left', D.tup.injEq]
        by_cases c : ds.length ≤ sizeLine
        · simp only [c, if_true, true_and, Option.map_eq_some_iff]
          constructor
          · rintro ⟨d, ⟨out, e, rfl⟩, h⟩; exact ⟨out, e, h⟩
          · rintro ⟨out, e, h⟩; exact ⟨_, ⟨out, e, rfl⟩, h⟩
        · simp [c]
      | _ => simp
  · simp [hi]
theorem ge_lcR {f : List D → Option (List Int)} {i : Nat} {ms : DEnv → Option (List D)} : Ge (eLcR f i ms t me ρ) P ↔ i < ρ.length ∧ Gl (ms ρ) fun ds => ∃ ns, f ds = some ns ∧ ns.length ≤ sizeLine ∧ Gl (lcL i t me (ns.map .int) ρ) fun out => P (.lst out) := by
  constructor
  · rintro ⟨d, e, h⟩
    have hi : i < ρ.length := by unfold eLcR at e; split at e; assumption; cases e
    obtain ⟨ds, ns, out, e1, e2, e3, e4, rfl⟩ := eLcR_some e
    exact ⟨hi, ds, e1, ns, e2, e3, out, e4, h⟩
  · rintro ⟨hi, ds, e1, ns, e2, e3, out, e4, h⟩
    refine ⟨.lst out, ?_, h⟩
    unfold eLcR
    rw [if_pos hi, e1, Option.bind_some, e2, Option.bind_some, if_pos e3, e4]
    rfl
/-- [e for x in xs if t], item by item -/
theorem lcL_map {α : Type} {i : Nat} (f : α → D) (g : α → D) (p : α → Bool) : ∀ xs : List α, (∀ x ∈ xs, t (ρ.set i (some (f x))) = some (p x) ∧ (p x = true → me (ρ.set i (some (f x))) = some (g x) ∧ (g x).imm = true)) →
    lcL i t me (xs.map f) ρ = some ((xs.filter p).map g)
  | [], _ => rfl
  | x :: xs, h => by
    obtain ⟨h1, h2⟩ := h x List.mem_cons_self
    have ih := lcL_map f g p xs fun y hy => h y (List.mem_cons_of_mem _ hy)
    rw [List.map_cons, lcL, h1, Option.bind_some]
    cases c : p x with
    | false =>
      rw [if_neg (by decide), ih, List.filter_cons_of_neg (by rw [c]; decide)]
    | true =>
      obtain ⟨h3, h4⟩ := h2 c
      rw [if_pos rfl, h3, Option.bind_some, if_pos h4, ih, List.filter_cons_of_pos c]
      rfl
theorem gl_lc {α : Type} {i : Nat} {PL : List D → Prop} (f : α → D) (g : α → D) (p : α → Bool) {xs : List α} (h : ∀ x ∈ xs, Gb (t (ρ.set i (some (f x)))) (fun c => c = p x) ∧ (p x = true → Ge (me (ρ.set i (some (f x)))) (fun d => d = g x) ∧ (g x).imm = true)) (q : PL ((xs.filter p).map g)) :
    Gl (lcL i t me (xs.map f) ρ) PL :=
  ⟨_, lcL_map f g p xs fun x hx => by
    obtain ⟨⟨c, e, hc⟩, h2⟩ := h x hx
    subst hc
    refine ⟨e, fun z => ?_⟩
    obtain ⟨⟨d, e2, hd⟩, h3⟩ := h2 z
    subst hd
    exact ⟨e2, h3⟩, q⟩
end
end
end Sp

set_option Elab.async false
set_option linter.all false
set_option maxRecDepth 100000
set_option maxHeartbeats 2000000
namespace Sp
open PySem L2
open Classical
noncomputable section
/-! ### == of plain data (no bools, boxes, woods) -/
mutual
def D.pln : Nat → D → Bool
  | _, .non => true
  | _, .int _ => true
  | _, .str x => PySem.PyData.strOk x
  | 0, .tup _ => false
  | n + 1, .tup ds => D.plns n ds
  | 0, .lst _ => false
  | n + 1, .lst ds => D.plns n ds
  | _, .bl _ => false
  | _, .scr _ => false
  | _, .box _ => false
  | _, .wood _ => false
def D.plns : Nat → List D → Bool
  | _, [] => true
  | n, d :: r => D.pln n d && D.plns n r
end
mutual
theorem pln_py : ∀ (n : Nat) (d : D), D.pln n d = true → ∃ p, d.py = some p ∧ p.canLay0 = true ∧ p.depth ≤ n
  | n, .non, _ => ⟨_, rfl, rfl, Nat.zero_le _⟩
  | n, .int _, _ => ⟨_, rfl, rfl, Nat.zero_le _⟩
  | n, .str x, h => ⟨_, rfl, by rw [D.pln] at h; exact h, Nat.zero_le _⟩
  | 0, .tup _, h => by rw [D.pln] at h; cases h
  | n + 1, .tup ds, h => by
    rw [D.pln] at h
    obtain ⟨ps, e, h1, h2⟩ := plns_py n ds h
    exact ⟨.tuple ps, by rw [D.py, e]; rfl, by rw [PyData.canLay0]; exact h1, by rw [PyData.depth]; omega⟩
  | 0, .lst _, h => by rw [D.pln] at h; cases h
  | n + 1, .lst ds, h => by
    rw [D.pln] at h
    obtain ⟨ps, e, h1, h2⟩ := plns_py n ds h
    exact ⟨.list ps, by rw [D.py, e]; rfl, by rw [PyData.canLay0]; exact h1, by rw [PyData.depth]; omega⟩
  | n, .bl _, h => by cases n <;> (rw [D.pln] at h; cases h)
  | n, .scr _, h => by cases n <;> (rw [D.pln] at h; cases h)
  | n, .box _, h => by cases n <;> (rw [D.pln] at h; cases h)
  | n, .wood _, h => by cases n <;> (rw [D.pln] at h; cases h)
theorem plns_py : ∀ (n : Nat) (ds : List D), D.plns n ds = true → ∃ ps, D.pys ds = some ps ∧ PyData.canLayAll0 ps = true ∧ PyData.depthAll ps ≤ n
  | n, [], _ => ⟨[], rfl, rfl, Nat.zero_le _⟩
  | n, d :: r, h => by
    rw [D.plns, Bool.and_eq_true] at h
    obtain ⟨p, e1, h1, h2⟩ := pln_py n d h.1
    obtain ⟨ps, e2, h3, h4⟩ := plns_py n r h.2
    exact ⟨p :: ps, by rw [D.pys, e1, Option.bind_some, e2]; rfl, by rw [PyData.canLayAll0, h1, h3]; rfl, by rw [PyData.depthAll]; exact Nat.max_le.mpr ⟨h2, h4⟩⟩
end
theorem pys_cons {d : D} {r : List D} {qs : List PyData} (h : D.pys (d :: r) = some qs) : ∃ p ps, d.py = some p ∧ D.pys r = some ps ∧ qs = p :: ps := by
  rw [D.pys, Option.bind_eq_some_iff] at h
  obtain ⟨p, e1, h⟩ := h
  rw [Option.map_eq_some_iff] at h
  obtain ⟨ps, e2, rfl⟩ := h
  exact ⟨p, ps, e1, e2, rfl⟩
theorem py_tup {ds : List D} {q : PyData} (h : D.py (.tup ds) = some q) : ∃ ps, D.pys ds = some ps ∧ q = .tuple ps := by
  rw [D.py, Option.map_eq_some_iff] at h
  obtain ⟨ps, e, rfl⟩ := h
  exact ⟨ps, e, rfl⟩
theorem py_lst {ds : List D} {q : PyData} (h : D.py (.lst ds) = some q) : ∃ ps, D.pys ds = some ps ∧ q = .list ps := by
  rw [D.py, Option.map_eq_some_iff] at h
  obtain ⟨ps, e, rfl⟩ := h
  exact ⟨ps, e, rfl⟩
mutual
theorem pln_eqv : ∀ (n m : Nat) (d e : D) (p q : PyData), D.pln n d = true → D.pln m e = true → d.py = some p → e.py = some q → PyData.eqv p q = decide (d = e) := fun n m d e p q hd he ep eq => by
  cases d with
  | bl _ => cases n <;> (rw [D.pln] at hd; cases hd)
  | scr _ => cases n <;> (rw [D.pln] at hd; cases hd)
  | box _ => cases n <;> (rw [D.pln] at hd; cases hd)
  | wood _ => cases n <;> (rw [D.pln] at hd; cases hd)
  | non =>
    rw [D.py] at ep; cases ep
    cases e with
    | bl _ => cases m <;> (rw [D.pln] at he; cases he)
    | scr _ => cases m <;> (rw [D.pln] at he; cases he)
    | box _ => cases m <;> (rw [D.pln] at he; cases he)
    | wood _ => cases m <;> (rw [D.pln] at he; cases he)
    | non => rw [D.py] at eq; cases eq; simp [PyData.eqv]
    | int _ => rw [D.py] at eq; cases eq; simp [PyData.eqv]
    | str _ => rw [D.py] at eq; cases eq; simp [PyData.eqv]
    | tup _ => obtain ⟨_, _, rfl⟩ := py_tup eq; simp [PyData.eqv]
    | lst _ => obtain ⟨_, _, rfl⟩ := py_lst eq; simp [PyData.eqv]
  | int i =>
    rw [D.py] at ep; cases ep
    cases e with
    | bl _ => cases m <;> (rw [D.pln] at he; cases he)
    | scr _ => cases m <;> (rw [D.pln] at he; cases he)
    | box _ => cases m <;> (rw [D.pln] at he; cases he)
    | wood _ => cases m <;> (rw [D.pln] at he; cases he)
    | non => rw [D.py] at eq; cases eq; simp [PyData.eqv]
    | int j =>
      rw [D.py] at eq; cases eq
      rw [PyData.eqv]
      by_cases c : i = j
      · subst c; simp
      · simp [c]
    | str _ => rw [D.py] at eq; cases eq; simp [PyData.eqv]
    | tup _ => obtain ⟨_, _, rfl⟩ := py_tup eq; simp [PyData.eqv]
    | lst _ => obtain ⟨_, _, rfl⟩ := py_lst eq; simp [PyData.eqv]
  | str i =>
    rw [D.py] at ep; cases ep
    cases e with
    | bl _ => cases m <;> (rw [D.pln] at he; cases he)
    | scr _ => cases m <;> (rw [D.pln] at he; cases he)
    | box _ => cases m <;> (rw [D.pln] at he; cases he)
    | wood _ => cases m <;> (rw [D.pln] at he; cases he)
    | non => rw [D.py] at eq; cases eq; simp [PyData.eqv]
    | int _ => rw [D.py] at eq; cases eq; simp [PyData.eqv]
    | str j =>
      rw [D.py] at eq; cases eq
      rw [PyData.eqv]
      by_cases c : i = j
      · subst c; simp
      · simp [c]
    | tup _ => obtain ⟨_, _, rfl⟩ := py_tup eq; simp [PyData.eqv]
    | lst _ => obtain ⟨_, _, rfl⟩ := py_lst eq; simp [PyData.eqv]
  | tup ds =>
    obtain ⟨ps, e1, rfl⟩ := py_tup ep
    cases n with
    | zero => rw [D.pln] at hd; cases hd
    | succ n =>
    rw [D.pln] at hd
    cases e with
    | bl _ => cases m <;> (rw [D.pln] at he; cases he)
    | scr _ => cases m <;> (rw [D.pln] at he; cases he)
    | box _ => cases m <;> (rw [D.pln] at he; cases he)
    | wood _ => cases m <;> (rw [D.pln] at he; cases he)
    | non => rw [D.py] at eq; cases eq; simp [PyData.eqv]
    | int _ => rw [D.py] at eq; cases eq; simp [PyData.eqv]
    | str _ => rw [D.py] at eq; cases eq; simp [PyData.eqv]
    | tup es =>
      obtain ⟨qs, e2, rfl⟩ := py_tup eq
      cases m with
      | zero => rw [D.pln] at he; cases he
      | succ m =>
        rw [D.pln] at he
        rw [PyData.eqv, plns_eqv n m ds es ps qs hd he e1 e2]
        simp
    | lst _ => obtain ⟨_, _, rfl⟩ := py_lst eq; simp [PyData.eqv]
  | lst ds =>
    obtain ⟨ps, e1, rfl⟩ := py_lst ep
    cases n with
    | zero => rw [D.pln] at hd; cases hd
    | succ n =>
    rw [D.pln] at hd
    cases e with
    | bl _ => cases m <;> (rw [D.pln] at he; cases he)
    | scr _ => cases m <;> (rw [D.pln] at he; cases he)
    | box _ => cases m <;> (rw [D.pln] at he; cases he)
    | wood _ => cases m <;> (rw [D.pln] at he; cases he)
    | non => rw [D.py] at eq; cases eq; simp [PyData.eqv]
    | int _ => rw [D.py] at eq; cases eq; simp [PyData.eqv]
    | str _ => rw [D.py] at eq; cases eq; simp [PyData.eqv]
    | tup _ => obtain ⟨_, _, rfl⟩ := py_tup eq; simp [PyData.eqv]
    | lst es =>
      obtain ⟨qs, e2, rfl⟩ := py_lst eq
      cases m with
      | zero => rw [D.pln] at he; cases he
      | succ m =>
        rw [D.pln] at he
        rw [PyData.eqv, plns_eqv n m ds es ps qs hd he e1 e2]
        simp
termination_by structural _ _ d => d
theorem plns_eqv : ∀ (n m : Nat) (ds es : List D) (ps qs : List PyData), D.plns n ds = true → D.plns m es = true → D.pys ds = some ps → D.pys es = some qs → PyData.eqvAll ps qs = decide (ds = es)
  | n, m, [], [], _, _, _, _, e1, e2 => by cases e1; cases e2; simp [PyData.eqvAll]
  | n, m, [], e :: es, _, qs, _, _, e1, e2 => by
    cases e1
    obtain ⟨q, qs', _, _, rfl⟩ := pys_cons e2
    simp [PyData.eqvAll]
  | n, m, d :: ds, [], ps, _, _, _, e1, e2 => by
    cases e2
    obtain ⟨q, qs', _, _, rfl⟩ := pys_cons e1
    simp [PyData.eqvAll]
  | n, m, d :: ds, e :: es, ps, qs, h1, h2, e1, e2 => by
    rw [D.plns, Bool.and_eq_true] at h1 h2
    obtain ⟨p, ps', e3, e4, rfl⟩ := pys_cons e1
    obtain ⟨q, qs', e5, e6, rfl⟩ := pys_cons e2
    rw [PyData.eqvAll, pln_eqv n m d e p q h1.1 h2.1 e3 e5, plns_eqv n m ds es ps' qs' h1.2 h2.2 e4 e6]
    by_cases c1 : d = e <;> by_cases c2 : ds = es <;> simp [c1, c2]
termination_by structural _ _ ds => ds
end
end
end Sp
namespace Sp
open PySem L2
open Classical
noncomputable section
theorem pln_sh {n : Nat} {p : PyData} (h1 : p.canLay0 = true) (h2 : p.depth ≤ n) (hn : n ≤ 64) : SeqAt.shaped p = true := by
  show (p.canLay0 && decide (p.depth ≤ 64)) = true
  rw [h1, Bool.true_and, decide_eq_true_iff]
  omega
theorem dEq_pln {x y : D} (hx : D.pln 8 x = true) (hy : D.pln 8 y = true) : dEq x y = some (.bl (decide (x = y))) := by
  obtain ⟨p, e1, h1, h2⟩ := pln_py 8 x hx
  obtain ⟨q, e2, h3, h4⟩ := pln_py 8 y hy
  unfold dEq
  rw [e1, Option.bind_some, e2, Option.bind_some, guard_of ⟨pln_sh h1 h2 (by decide), pln_sh h3 h4 (by decide)⟩, pln_eqv 8 8 x y p q hx hy e1 e2]
theorem dNe_pln {x y : D} (hx : D.pln 8 x = true) (hy : D.pln 8 y = true) : dNe x y = some (.bl (!decide (x = y))) := by
  obtain ⟨p, e1, h1, h2⟩ := pln_py 8 x hx
  obtain ⟨q, e2, h3, h4⟩ := pln_py 8 y hy
  unfold dNe
  rw [e1, Option.bind_some, e2, Option.bind_some, guard_of ⟨pln_sh h1 h2 (by decide), pln_sh h3 h4 (by decide)⟩, pln_eqv 8 8 x y p q hx hy e1 e2]
theorem any_pln {n : Nat} {x : D} {p : PyData} (hx : D.pln 8 x = true) (e1 : x.py = some p) : ∀ {ds : List D} {qs : List PyData}, D.plns n ds = true → D.pys ds = some qs → (qs.any fun z => PyData.eqv z p) = decide (x ∈ ds)
  | [], _, _, e => by cases e; simp
  | d :: r, _, h, e => by
    obtain ⟨q, qs, e3, e4, rfl⟩ := pys_cons e
    rw [D.plns, Bool.and_eq_true] at h
    rw [List.any_cons, any_pln hx e1 h.2 e4, pln_eqv n 8 d x q p h.1 hx e3 e1]
    by_cases c : d = x
    · subst c; simp
    · have c' : ¬ x = d := fun z => c z.symm
      simp [c, c']
theorem dIn_pln {x : D} {ds : List D} (hx : D.pln 8 x = true) (hy : D.plns 7 ds = true) : dIn x (.lst ds) = some (.bl (decide (x ∈ ds))) := by
  obtain ⟨p, e1, h1, h2⟩ := pln_py 8 x hx
  obtain ⟨qs, e2, h3, h4⟩ := plns_py 7 ds hy
  show (x.py.bind fun p => (D.pys ds).bind fun qs => guard (SeqAt.shaped p = true ∧ SeqAt.shaped (.list qs) = true) (.bl (qs.any fun z => PyData.eqv z p))) = _
  rw [e1, Option.bind_some, e2, Option.bind_some, guard_of ⟨pln_sh h1 h2 (by decide), pln_sh (n := 8) (by rw [PyData.canLay0]; exact h3) (by rw [PyData.depth]; omega) (by decide)⟩, any_pln hx e1 hy e2]
theorem dNotIn_pln {x : D} {ds : List D} (hx : D.pln 8 x = true) (hy : D.plns 7 ds = true) : dNotIn x (.lst ds) = some (.bl (!decide (x ∈ ds))) := by
  obtain ⟨p, e1, h1, h2⟩ := pln_py 8 x hx
  obtain ⟨qs, e2, h3, h4⟩ := plns_py 7 ds hy
  show (x.py.bind fun p => (D.pys ds).bind fun qs => guard (SeqAt.shaped p = true ∧ SeqAt.shaped (.list qs) = true) (.bl (!qs.any fun z => PyData.eqv z p))) = _
  rw [e1, Option.bind_some, e2, Option.bind_some, guard_of ⟨pln_sh h1 h2 (by decide), pln_sh (n := 8) (by rw [PyData.canLay0]; exact h3) (by rw [PyData.depth]; omega) (by decide)⟩, any_pln hx e1 hy e2]
variable {P : D → Prop}
theorem ge_eq {x y : D} (hx : D.pln 8 x = true) (hy : D.pln 8 y = true) : Ge (dEq x y) P ↔ P (.bl (decide (x = y))) := by rw [dEq_pln hx hy]; exact ge_some
theorem ge_ne {x y : D} (hx : D.pln 8 x = true) (hy : D.pln 8 y = true) : Ge (dNe x y) P ↔ P (.bl (!decide (x = y))) := by rw [dNe_pln hx hy]; exact ge_some
theorem ge_in {x : D} {ds : List D} (hx : D.pln 8 x = true) (hy : D.plns 7 ds = true) : Ge (dIn x (.lst ds)) P ↔ P (.bl (decide (x ∈ ds))) := by rw [dIn_pln hx hy]; exact ge_some
theorem ge_nin {x : D} {ds : List D} (hx : D.pln 8 x = true) (hy : D.plns 7 ds = true) : Ge (dNotIn x (.lst ds)) P ↔ P (.bl (!decide (x ∈ ds))) := by rw [dNotIn_pln hx hy]; exact ge_some
theorem ge_eqB {x y : Bool} : Ge (dEq (.bl x) (.bl y)) P ↔ P (.bl (x == y)) := by
  have : dEq (.bl x) (.bl y) = some (.bl (x == y)) := guard_of ⟨rfl, rfl⟩
  rw [this]; exact ge_some
theorem ge_neB {x y : Bool} : Ge (dNe (.bl x) (.bl y)) P ↔ P (.bl (!(x == y))) := by
  have : dNe (.bl x) (.bl y) = some (.bl (!(x == y))) := guard_of ⟨rfl, rfl⟩
  rw [this]; exact ge_some
/-- ints -/
theorem ge_eqI {i j : Int} : Ge (dEq (.int i) (.int j)) P ↔ P (.bl (decide (i = j))) := by rw [ge_eq rfl rfl]; simp only [D.int.injEq]
theorem ge_neI {i j : Int} : Ge (dNe (.int i) (.int j)) P ↔ P (.bl (!decide (i = j))) := by rw [ge_ne rfl rfl]; simp only [D.int.injEq]
theorem plns_map {α : Type} {n : Nat} {f : α → D} (h : ∀ x, D.pln n (f x) = true) : ∀ xs : List α, D.plns n (xs.map f) = true
  | [] => by simp [D.plns]
  | x :: xs => by rw [List.map_cons, D.plns, h x, plns_map h xs]; rfl
theorem pln_lst {α : Type} {n : Nat} {f : α → D} (h : ∀ x, D.pln n (f x) = true) (xs : List α) : D.pln (n + 1) (.lst (xs.map f)) = true := by rw [D.pln]; exact plns_map h xs
/-! #### tuples of ints -/
def tupI (xs : List Int) : D := .tup (xs.map .int)
theorem pln_int (n : Nat) (i : Int) : D.pln n (.int i) = true := by cases n <;> rfl
theorem pln_tupI (n : Nat) (xs : List Int) : D.pln (n + 1) (tupI xs) = true := by unfold tupI; rw [D.pln]; exact plns_map (pln_int n) xs
theorem sd_tupI (z : S3) : sd z = tupI [z.1, z.2.1, z.2.2] := rfl
theorem pln_sd (n : Nat) (z : S3) : D.pln (n + 1) (sd z) = true := by rw [sd_tupI]; exact pln_tupI n _
theorem map_int_inj : ∀ {xs ys : List Int}, xs.map D.int = ys.map D.int ↔ xs = ys
  | [], [] => by simp
  | [], _ :: _ => by simp
  | _ :: _, [] => by simp
  | x :: xs, y :: ys => by simp [map_int_inj (xs := xs) (ys := ys)]
theorem tupI_inj {xs ys : List Int} : tupI xs = tupI ys ↔ xs = ys := by unfold tupI; rw [D.tup.injEq, map_int_inj]
theorem sd_inj {a b : S3} : sd a = sd b ↔ a = b := by
  obtain ⟨x, y, z⟩ := a
  obtain ⟨x', y', z'⟩ := b
  simp [sd]
theorem map_inj {α : Type} {f : α → D} (h : ∀ x y, f x = f y ↔ x = y) : ∀ {xs ys : List α}, xs.map f = ys.map f ↔ xs = ys
  | [], [] => by simp
  | [], _ :: _ => by simp
  | _ :: _, [] => by simp
  | x :: xs, y :: ys => by simp [h, map_inj h (xs := xs) (ys := ys)]
theorem mem_map_inj {α : Type} {f : α → D} (h : ∀ x y, f x = f y ↔ x = y) {x : α} {xs : List α} : f x ∈ xs.map f ↔ x ∈ xs := by
  constructor
  · intro hm
    obtain ⟨y, hy, e⟩ := List.mem_map.mp hm
    rw [← (h y x).mp e]; exact hy
  · exact fun hm => List.mem_map_of_mem hm
theorem mapsd_inj {xs ys : List S3} : xs.map sd = ys.map sd ↔ xs = ys := map_inj fun _ _ => sd_inj
theorem mem_sd {x : S3} {xs : List S3} : sd x ∈ xs.map sd ↔ x ∈ xs := mem_map_inj fun _ _ => sd_inj
theorem imms_map {α : Type} {f : α → D} (h : ∀ x, (f x).imm = true) : ∀ xs : List α, D.imms (xs.map f) = true
  | [] => rfl
  | x :: xs => by rw [List.map_cons, D.imms, h x, imms_map h xs]; rfl
theorem imm_tupI (xs : List Int) : (tupI xs).imm = true := by unfold tupI; rw [D.imm]; exact imms_map (fun _ => rfl) xs
theorem imm_sd (z : S3) : (sd z).imm = true := rfl
theorem imms_sd (xs : List S3) : D.imms (xs.map sd) = true := imms_map imm_sd xs
theorem imms_app : ∀ {xs ys : List D}, D.imms (xs ++ ys) = (D.imms xs && D.imms ys)
  | [], ys => by simp [D.imms]
  | x :: xs, ys => by simp [D.imms, imms_app (xs := xs) (ys := ys), Bool.and_assoc]
theorem atI_map {α : Type} {f : α → D} (xs : List α) (i : Int) : atI (xs.map f) i = (atI xs i).map f := by
  unfold atI
  rw [List.length_map]
  cases ixN xs.length i with
  | none => rfl
  | some j => simp
theorem atI_nat' {α : Type} {xs : List α} {k : Nat} (h : k < xs.length) : atI xs (k : Int) = some xs[k] := atI_nat (List.getElem?_eq_getElem h)
end
end Sp
namespace Sp
open PySem L2
open Classical
noncomputable section
/-! ### what the rules of data are at the forms met -/
theorem dIx_lst {ds : List D} {i : Int} : dIx (.lst ds) (.int i) = atI ds i := rfl
theorem dIx_tup {ds : List D} {i : Int} : dIx (.tup ds) (.int i) = atI ds i := rfl
theorem dIx_scr {ns : List Int} {i : Int} : dIx (.scr ns) (.int i) = (atI ns i).map .int := rfl
theorem dIx_sd0 {z : S3} : dIx (sd z) (.int 0) = some (.int z.1) := rfl
theorem dIx_sd1 {z : S3} : dIx (sd z) (.int 1) = some (.int z.2.1) := rfl
theorem dIx_sd2 {z : S3} : dIx (sd z) (.int 2) = some (.int z.2.2) := rfl
theorem atI_0 {α : Type} {a : α} {xs : List α} : atI (a :: xs) 0 = some a := Sp.atI0
theorem atI_1 {α : Type} {a b : α} {xs : List α} : atI (a :: b :: xs) 1 = some b := Sp.atI1
theorem atI_2 {α : Type} {a b c : α} {xs : List α} : atI (a :: b :: c :: xs) 2 = some c := Sp.atI2
theorem atI_3 {α : Type} {a b c d : α} {xs : List α} : atI (a :: b :: c :: d :: xs) 3 = some d := Sp.atI3
theorem fLen_lst {ds : List D} : fLen [.lst ds] = some (.int (ds.length : Nat)) := rfl
theorem fLen_tup {ds : List D} : fLen [.tup ds] = some (.int (ds.length : Nat)) := rfl
theorem fLen_scr {ds : List Int} : fLen [.scr ds] = some (.int (ds.length : Nat)) := rfl
theorem fLen_sd {z : S3} : fLen [sd z] = some (.int 3) := rfl
theorem fMax2_ii {i j : Int} : fMax2 [.int i, .int j] = some (.int (max i j)) := rfl
theorem fMin2_ii {i j : Int} : fMin2 [.int i, .int j] = some (.int (min i j)) := rfl
theorem fInt1_i {i : Int} : fInt1 [.int i] = some (.int i) := rfl
theorem fInt1_b {b : Bool} : fInt1 [.bl b] = some (.int (if b then 1 else 0)) := rfl
theorem fListOf_lst {ds : List D} : fListOf [.lst ds] = some (.lst ds) := rfl
theorem fSorted_sd {zs : List S3} : fSorted [.lst (zs.map sd)] = some (.lst ((sort3 zs).map sd)) := by
  show (D.trips (zs.map sd)).map _ = _
  rw [D.trips_map]; rfl
theorem fMaxL_i {ns : List Int} {m : Int} (h : ns.max? = some m) : fMaxL [.lst (ns.map .int)] = some (.int m) := by
  show (D.ints (ns.map .int)).bind _ = _
  rw [D.ints_map, Option.bind_some, h]; rfl
theorem fMinL_i {ns : List Int} {m : Int} (h : ns.min? = some m) : fMinL [.lst (ns.map .int)] = some (.int m) := by
  show (D.ints (ns.map .int)).bind _ = _
  rw [D.ints_map, Option.bind_some, h]; rfl
theorem fSum_i {ns : List Int} : fSum [.lst (ns.map .int)] = some (.int ns.sum) := by
  show (D.ints (ns.map .int)).map _ = _
  rw [D.ints_map]; rfl
theorem dSl_lst {ds : List D} {l h : Option Int} : dSl (.lst ds) l h = some (.lst (cutD ds l h)) := rfl
theorem dSl_scr {ns : List Int} {l h : Option Int} : dSl (.scr ns) l h = some (.lst ((cutD ns l h).map .int)) := rfl
theorem dCat_ll {xs ys : List D} : dCat (.lst xs) (.lst ys) = guard (xs.length + ys.length ≤ sizeLine) (.lst (xs ++ ys)) := rfl
theorem dRep_l {xs : List D} {k : Int} : dRep (.lst xs) (.int k) = guard (-(2 ^ 63) ≤ k ∧ k < 2 ^ 63 ∧ xs.length * k.toNat ≤ sizeLine) (.lst (List.replicate k.toNat xs).flatten) := rfl
theorem dNot_b {b : Bool} : dNot (.bl b) = some (.bl (!b)) := rfl
theorem dNeg_i {i : Int} : dNeg (.int i) = some (.int (-i)) := rfl
theorem dNotBl_b {k b : Bool} : dNotBl k (.bl b) = some (.bl (!decide (b = k))) := rfl
theorem dNotBl_i {k : Bool} {i : Int} : dNotBl k (.int i) = some (.bl true) := rfl
theorem dNotBl_n {k : Bool} : dNotBl k .non = some (.bl true) := rfl
theorem dNotBl_s {k : Bool} {x : Str} : dNotBl k (.str x) = some (.bl true) := rfl
theorem dNotBl_t {k : Bool} {ds : List D} : dNotBl k (.tup ds) = some (.bl true) := rfl
theorem dNotBl_l {k : Bool} {ds : List D} : dNotBl k (.lst ds) = some (.bl true) := rfl
theorem dIsN_non : dIsN .non = some (.bl true) := rfl
theorem dIsN_int {i : Int} : dIsN (.int i) = some (.bl false) := rfl
theorem dIsN_lst {ds : List D} : dIsN (.lst ds) = some (.bl false) := rfl
theorem dNotN_non : dNotN .non = some (.bl false) := rfl
theorem dNotN_lst {ds : List D} : dNotN (.lst ds) = some (.bl true) := rfl
theorem dIsN_nil : dIsN (.box .nil) = some (.bl true) := rfl
theorem dIsN_node {l r : T} {s : S3} {h m : Int} : dIsN (.box (.node l s r h m)) = some (.bl false) := rfl
theorem dNotN_nil : dNotN (.box .nil) = some (.bl false) := rfl
theorem dNotN_node {l r : T} {s : S3} {h m : Int} : dNotN (.box (.node l s r h m)) = some (.bl true) := rfl
theorem isi_int_non  : dIsi "int" (.non) = some (.bl false) := by show some (D.bl (isiB "NoneType" "int")) = _; rw [show isiB "NoneType" "int" = false from by decide]
theorem isi_int_bl {x : Bool} : dIsi "int" (.bl x) = some (.bl true) := by show some (D.bl (isiB "bool" "int")) = _; rw [show isiB "bool" "int" = true from by decide]
theorem isi_int_int {x : Int} : dIsi "int" (.int x) = some (.bl true) := by show some (D.bl (isiB "int" "int")) = _; rw [show isiB "int" "int" = true from by decide]
theorem isi_int_str {x : Str} : dIsi "int" (.str x) = some (.bl false) := by show some (D.bl (isiB "str" "int")) = _; rw [show isiB "str" "int" = false from by decide]
theorem isi_int_tup {x : List D} : dIsi "int" (.tup x) = some (.bl false) := by show some (D.bl (isiB "tuple" "int")) = _; rw [show isiB "tuple" "int" = false from by decide]
theorem isi_int_lst {x : List D} : dIsi "int" (.lst x) = some (.bl false) := by show some (D.bl (isiB "list" "int")) = _; rw [show isiB "list" "int" = false from by decide]
theorem isi_int_sd {z : S3} : dIsi "int" (sd z) = some (.bl false) := isi_int_tup
theorem isi_bool_non  : dIsi "bool" (.non) = some (.bl false) := by show some (D.bl (isiB "NoneType" "bool")) = _; rw [show isiB "NoneType" "bool" = false from by decide]
theorem isi_bool_bl {x : Bool} : dIsi "bool" (.bl x) = some (.bl true) := by show some (D.bl (isiB "bool" "bool")) = _; rw [show isiB "bool" "bool" = true from by decide]
theorem isi_bool_int {x : Int} : dIsi "bool" (.int x) = some (.bl false) := by show some (D.bl (isiB "int" "bool")) = _; rw [show isiB "int" "bool" = false from by decide]
theorem isi_bool_str {x : Str} : dIsi "bool" (.str x) = some (.bl false) := by show some (D.bl (isiB "str" "bool")) = _; rw [show isiB "str" "bool" = false from by decide]
theorem isi_bool_tup {x : List D} : dIsi "bool" (.tup x) = some (.bl false) := by show some (D.bl (isiB "tuple" "bool")) = _; rw [show isiB "tuple" "bool" = false from by decide]
theorem isi_bool_lst {x : List D} : dIsi "bool" (.lst x) = some (.bl false) := by show some (D.bl (isiB "list" "bool")) = _; rw [show isiB "list" "bool" = false from by decide]
theorem isi_bool_sd {z : S3} : dIsi "bool" (sd z) = some (.bl false) := isi_bool_tup
theorem isi_tuple_non  : dIsi "tuple" (.non) = some (.bl false) := by show some (D.bl (isiB "NoneType" "tuple")) = _; rw [show isiB "NoneType" "tuple" = false from by decide]
theorem isi_tuple_bl {x : Bool} : dIsi "tuple" (.bl x) = some (.bl false) := by show some (D.bl (isiB "bool" "tuple")) = _; rw [show isiB "bool" "tuple" = false from by decide]
theorem isi_tuple_int {x : Int} : dIsi "tuple" (.int x) = some (.bl false) := by show some (D.bl (isiB "int" "tuple")) = _; rw [show isiB "int" "tuple" = false from by decide]
theorem isi_tuple_str {x : Str} : dIsi "tuple" (.str x) = some (.bl false) := by show some (D.bl (isiB "str" "tuple")) = _; rw [show isiB "str" "tuple" = false from by decide]
theorem isi_tuple_tup {x : List D} : dIsi "tuple" (.tup x) = some (.bl true) := by show some (D.bl (isiB "tuple" "tuple")) = _; rw [show isiB "tuple" "tuple" = true from by decide]
theorem isi_tuple_lst {x : List D} : dIsi "tuple" (.lst x) = some (.bl false) := by show some (D.bl (isiB "list" "tuple")) = _; rw [show isiB "list" "tuple" = false from by decide]
theorem isi_tuple_sd {z : S3} : dIsi "tuple" (sd z) = some (.bl true) := isi_tuple_tup
theorem isi_list_non  : dIsi "list" (.non) = some (.bl false) := by show some (D.bl (isiB "NoneType" "list")) = _; rw [show isiB "NoneType" "list" = false from by decide]
theorem isi_list_bl {x : Bool} : dIsi "list" (.bl x) = some (.bl false) := by show some (D.bl (isiB "bool" "list")) = _; rw [show isiB "bool" "list" = false from by decide]
theorem isi_list_int {x : Int} : dIsi "list" (.int x) = some (.bl false) := by show some (D.bl (isiB "int" "list")) = _; rw [show isiB "int" "list" = false from by decide]
theorem isi_list_str {x : Str} : dIsi "list" (.str x) = some (.bl false) := by show some (D.bl (isiB "str" "list")) = _; rw [show isiB "str" "list" = false from by decide]
theorem isi_list_tup {x : List D} : dIsi "list" (.tup x) = some (.bl false) := by show some (D.bl (isiB "tuple" "list")) = _; rw [show isiB "tuple" "list" = false from by decide]
theorem isi_list_lst {x : List D} : dIsi "list" (.lst x) = some (.bl true) := by show some (D.bl (isiB "list" "list")) = _; rw [show isiB "list" "list" = true from by decide]
theorem isi_list_sd {z : S3} : dIsi "list" (sd z) = some (.bl false) := isi_list_tup
theorem tyi_non  : dTyIs "int" (.non) = some (.bl false) := by show some (D.bl (decide ("NoneType" = "int"))) = _; rw [show decide ("NoneType" = "int") = false from by decide]
theorem tyi_bl {x : Bool} : dTyIs "int" (.bl x) = some (.bl false) := by show some (D.bl (decide ("bool" = "int"))) = _; rw [show decide ("bool" = "int") = false from by decide]
theorem tyi_int {x : Int} : dTyIs "int" (.int x) = some (.bl true) := by show some (D.bl (decide ("int" = "int"))) = _; rw [show decide ("int" = "int") = true from by decide]
theorem tyi_str {x : Str} : dTyIs "int" (.str x) = some (.bl false) := by show some (D.bl (decide ("str" = "int"))) = _; rw [show decide ("str" = "int") = false from by decide]
theorem tyi_tup {x : List D} : dTyIs "int" (.tup x) = some (.bl false) := by show some (D.bl (decide ("tuple" = "int"))) = _; rw [show decide ("tuple" = "int") = false from by decide]
theorem tyi_lst {x : List D} : dTyIs "int" (.lst x) = some (.bl false) := by show some (D.bl (decide ("list" = "int"))) = _; rw [show decide ("list" = "int") = false from by decide]
variable {P : D → Prop}
theorem ge_eqT {xs ys : List Int} : Ge (dEq (.tup (xs.map .int)) (.tup (ys.map .int))) P ↔ P (.bl (decide (xs = ys))) := by
  rw [ge_eq (show D.pln 8 (.tup (xs.map .int)) = true from pln_tupI 7 xs) (show D.pln 8 (.tup (ys.map .int)) = true from pln_tupI 7 ys)]; simp only [D.tup.injEq, map_int_inj]
theorem ge_neT {xs ys : List Int} : Ge (dNe (.tup (xs.map .int)) (.tup (ys.map .int))) P ↔ P (.bl (!decide (xs = ys))) := by
  rw [ge_ne (show D.pln 8 (.tup (xs.map .int)) = true from pln_tupI 7 xs) (show D.pln 8 (.tup (ys.map .int)) = true from pln_tupI 7 ys)]; simp only [D.tup.injEq, map_int_inj]
theorem ge_eqS {a b : S3} : Ge (dEq (sd a) (sd b)) P ↔ P (.bl (decide (a = b))) := by
  rw [ge_eq (pln_sd 7 a) (pln_sd 7 b)]; simp only [sd_inj]
theorem ge_neS {a b : S3} : Ge (dNe (sd a) (sd b)) P ↔ P (.bl (!decide (a = b))) := by
  rw [ge_ne (pln_sd 7 a) (pln_sd 7 b)]; simp only [sd_inj]
theorem ge_inS {a : S3} {xs : List S3} : Ge (dIn (sd a) (.lst (xs.map sd))) P ↔ P (.bl (decide (a ∈ xs))) := by
  rw [ge_in (pln_sd 7 a) (plns_map (pln_sd 6) xs)]; simp only [mem_sd]
theorem ge_ninS {a : S3} {xs : List S3} : Ge (dNotIn (sd a) (.lst (xs.map sd))) P ↔ P (.bl (!decide (a ∈ xs))) := by
  rw [ge_nin (pln_sd 7 a) (plns_map (pln_sd 6) xs)]; simp only [mem_sd]
theorem ge_eqLS {xs ys : List S3} : Ge (dEq (.lst (xs.map sd)) (.lst (ys.map sd))) P ↔ P (.bl (decide (xs = ys))) := by
  rw [ge_eq (pln_lst (pln_sd 6) xs) (pln_lst (pln_sd 6) ys)]; simp only [D.lst.injEq, mapsd_inj]
theorem ge_neLS {xs ys : List S3} : Ge (dNe (.lst (xs.map sd)) (.lst (ys.map sd))) P ↔ P (.bl (!decide (xs = ys))) := by
  rw [ge_ne (pln_lst (pln_sd 6) xs) (pln_lst (pln_sd 6) ys)]; simp only [D.lst.injEq, mapsd_inj]
theorem gl_lcS {ρ : DEnv} {t : BM} {i : Nat} {PL : List D → Prop} {xs : List S3} (p : S3 → Bool) (hi : i < ρ.length) (h : ∀ x ∈ xs, Gb (t (ρ.set i (some (sd x)))) (fun c => c = p x)) (q : PL ((xs.filter p).map sd)) : Gl (lcL i t (eVar i) (xs.map sd) ρ) PL :=
  gl_lc sd sd p (fun x hx => ⟨h x hx, fun _ => ⟨⟨_, by show gt _ i = _; rw [gt_set, if_pos ⟨rfl, hi⟩], rfl⟩, rfl⟩⟩) q
end
end Sp

set_option Elab.async false
set_option linter.all false
set_option maxRecDepth 100000
namespace Sp
namespace Hq
/-! A heap of ints by its places: pure. -/
def Ok (g : Nat → Int) (n : Nat) : Prop := ∀ i, 0 < i → i < n → g ((i - 1) / 2) ≤ g i
def Up (g : Nat → Int) (n p : Nat) : Prop :=
  (∀ i, 0 < i → i < n → i ≠ p → g ((i - 1) / 2) ≤ g i) ∧ (∀ c, 0 < c → c < n → (c - 1) / 2 = p → 0 < p → g ((p - 1) / 2) ≤ g c)
def Down (g : Nat → Int) (n p : Nat) : Prop :=
  (∀ i, 0 < i → i < n → i ≠ p → (i - 1) / 2 ≠ p → g ((i - 1) / 2) ≤ g i) ∧ (∀ c, 0 < c → c < n → (c - 1) / 2 = p → 0 < p → g ((p - 1) / 2) ≤ g c)
def sw (g : Nat → Int) (i j : Nat) : Nat → Int := fun k => if k = j then g i else if k = i then g j else g k

theorem sw_j {g : Nat → Int} {i j : Nat} : sw g i j j = g i := by simp [sw]
theorem sw_i {g : Nat → Int} {i j : Nat} (h : i ≠ j) : sw g i j i = g j := by simp [sw, h]
theorem sw_o {g : Nat → Int} {i j k : Nat} (h : k ≠ i) (h' : k ≠ j) : sw g i j k = g k := by simp [sw, h, h']

theorem Up.fin {g : Nat → Int} {n p : Nat} (u : Up g n p) (h : 0 < p → g ((p - 1) / 2) ≤ g p) : Ok g n := fun i h0 hn => by
  by_cases e : i = p
  · subst e; exact h h0
  · exact u.1 i h0 hn e

theorem Up.step {g : Nat → Int} {n p : Nat} (u : Up g n p) (hp : 0 < p) (hn : p < n) (hl : g p < g ((p - 1) / 2)) : Up (sw g ((p - 1) / 2) p) n ((p - 1) / 2) := by
  obtain ⟨u1, u2⟩ := u
  have hq : (p - 1) / 2 < p := by omega
  refine ⟨fun i h0 hi hne => ?_, fun c h0 hc he hpp => ?_⟩
  · by_cases e : i = p
    · subst e
      rw [sw_i (by omega), sw_j]; omega
    · rw [sw_o hne e]
      by_cases e1 : (i - 1) / 2 = p
      · rw [e1, sw_j]; exact u2 i h0 hi e1 hp
      · by_cases e2 : (i - 1) / 2 = (p - 1) / 2
        · rw [e2, sw_i (by omega)]
          have := u1 i h0 hi e; rw [e2] at this; omega
        · rw [sw_o e2 e1]; exact u1 i h0 hi e
  · have h1 := u1 ((p - 1) / 2) hpp (by omega) (by omega)
    rw [sw_o (by omega) (by omega)]
    by_cases e : c = p
    · subst e; rw [sw_j]; exact h1
    · rw [sw_o (by omega) e]
      have := u1 c h0 hc e
      rw [he] at this; omega

theorem Down.up {g : Nat → Int} {n p : Nat} (u : Down g n p) (h : ¬ p < n / 2) : Up g n p :=
  ⟨fun i h0 hi hne => u.1 i h0 hi hne (by omega), u.2⟩

theorem Down.step {g : Nat → Int} {n p m : Nat} (u : Down g n p) (hm : 0 < m) (hn : m < n) (he : (m - 1) / 2 = p) (hl : ∀ c, 0 < c → c < n → (c - 1) / 2 = p → g m ≤ g c) : Down (sw g m p) n m := by
  obtain ⟨u1, u2⟩ := u
  have hpm : p < m := by omega
  refine ⟨fun i h0 hi hne hpa => ?_, fun c h0 hc hce _ => ?_⟩
  · by_cases e : i = p
    · subst e
      rw [sw_j, sw_o (by omega) (by omega)]
      exact u2 m hm hn he h0
    · rw [sw_o hne e]
      by_cases e1 : (i - 1) / 2 = p
      · rw [e1, sw_j]; exact hl i h0 hi e1
      · rw [sw_o hpa e1]; exact u1 i h0 hi e e1
  · rw [he, sw_j, sw_o (by omega) (by omega)]
    have := u1 c h0 hc (by omega) (by omega)
    rw [hce] at this; exact this

theorem Ok.least {g : Nat → Int} {n : Nat} (h : Ok g n) : ∀ i, i < n → g 0 ≤ g i
  | 0, _ => Int.le_refl _
  | i + 1, hi => Int.le_trans (h.least (i / 2) (by omega)) (by have := h (i + 1) (by omega) hi; simpa using this)
theorem Ok.congr {g g' : Nat → Int} {n : Nat} (h : Ok g n) (e : ∀ i, i < n → g' i = g i) : Ok g' n := fun i h0 hi => by
  rw [e i hi, e _ (by omega)]; exact h i h0 hi
theorem Up.congr {g g' : Nat → Int} {n p : Nat} (hp : p < n) (h : Up g n p) (e : ∀ i, i < n → g' i = g i) : Up g' n p :=
  ⟨fun i h0 hi hne => by rw [e i hi, e _ (by omega)]; exact h.1 i h0 hi hne, fun c h0 hc he hpp => by rw [e c hc, e _ (by omega)]; exact h.2 c h0 hc he hpp⟩
theorem Down.congr {g g' : Nat → Int} {n p : Nat} (hp : p < n) (h : Down g n p) (e : ∀ i, i < n → g' i = g i) : Down g' n p :=
  ⟨fun i h0 hi hne hne' => by rw [e i hi, e _ (by omega)]; exact h.1 i h0 hi hne hne', fun c h0 hc he hpp => by rw [e c hc, e _ (by omega)]; exact h.2 c h0 hc he hpp⟩

/-- a list of ints by its places -/
def at_ (ns : Array Int) : Nat → Int := fun i => ns.getD i 0
theorem at_lt {ns : Array Int} {i : Nat} (h : i < ns.size) : at_ ns i = ns[i] := by simp [at_, Array.getD, h]
theorem at_swap {ns : Array Int} {i j : Nat} (hi : i < ns.size) (hj : j < ns.size) (k : Nat) (hk : k < ns.size) : at_ (ns.swap i j hi hj) k = sw (at_ ns) j i k := by
  rw [at_lt (by rw [Array.size_swap]; exact hk)]
  rw [Array.getElem_swap]
  unfold sw
  rw [at_lt hi, at_lt hj, at_lt hk]
theorem sw_comm {g : Nat → Int} {i j : Nat} (k : Nat) : sw g i j k = sw g j i k := by
  unfold sw
  by_cases e1 : k = i
  · by_cases e2 : k = j
    · subst e1; subst e2; simp
    · rw [if_neg e2, if_pos e1, if_pos e1]
  · by_cases e2 : k = j
    · rw [if_pos e2, if_neg e1, if_pos e2]
    · rw [if_neg e2, if_neg e1, if_neg e1, if_neg e2]

def upF (ns : Array Int) (p : Nat) : Array Int :=
  if h : 0 < p ∧ p < ns.size ∧ at_ ns p < at_ ns ((p - 1) / 2) then upF (ns.swap ((p - 1) / 2) p (by omega) h.2.1) ((p - 1) / 2) else ns
termination_by p
decreasing_by omega
theorem upF_step {ns : Array Int} {p : Nat} (h0 : 0 < p) (hp : p < ns.size) (hl : at_ ns p < at_ ns ((p - 1) / 2)) : upF ns p = upF (ns.swap ((p - 1) / 2) p (by omega) hp) ((p - 1) / 2) := by
  rw [upF, dif_pos ⟨h0, hp, hl⟩]
theorem upF_end {ns : Array Int} {p : Nat} (h : ¬ (0 < p ∧ p < ns.size ∧ at_ ns p < at_ ns ((p - 1) / 2))) : upF ns p = ns := by
  rw [upF, dif_neg h]
theorem upF_spec : ∀ (p : Nat) (ns : Array Int), p < ns.size → Up (at_ ns) ns.size p → (upF ns p).toList.Perm ns.toList ∧ (upF ns p).size = ns.size ∧ Ok (at_ (upF ns p)) ns.size := by
  intro p
  induction p using Nat.strongRecOn with
  | ind p ih =>
    intro ns hp hU
    by_cases h : 0 < p ∧ p < ns.size ∧ at_ ns p < at_ ns ((p - 1) / 2)
    · rw [upF_step h.1 h.2.1 h.2.2]
      have hz : (ns.swap ((p - 1) / 2) p (by omega) hp).size = ns.size := Array.size_swap
      have := ih ((p - 1) / 2) (by omega) (ns.swap ((p - 1) / 2) p (by omega) hp) (by rw [hz]; omega) (by
        rw [hz]
        refine Up.congr (by omega) (hU.step h.1 hp h.2.2) fun k hk => ?_
        rw [at_swap (by omega) hp k hk]
        exact sw_comm k)
      rw [hz] at this
      exact ⟨this.1.trans (Array.swap_perm _ _).toList, this.2⟩
    · rw [upF_end h]
      exact ⟨List.Perm.refl _, rfl, hU.fin fun h0 => by omega⟩

def dnM (ns : Array Int) (p : Nat) : Nat := if 2 * p + 1 + 1 < ns.size ∧ ¬ at_ ns (2 * p + 1) < at_ ns (2 * p + 1 + 1) then 2 * p + 1 + 1 else 2 * p + 1
theorem dnM_lt {ns : Array Int} {p : Nat} (h : p < ns.size / 2) : dnM ns p < ns.size ∧ p < dnM ns p ∧ (dnM ns p - 1) / 2 = p := by
  unfold dnM; split <;> omega
theorem dnM_least {ns : Array Int} {p : Nat} (h : p < ns.size / 2) (c : Nat) (h0 : 0 < c) (hc : c < ns.size) (he : (c - 1) / 2 = p) : at_ ns (dnM ns p) ≤ at_ ns c := by
  rcases (show c = 2 * p + 1 ∨ c = 2 * p + 1 + 1 by omega) with e | e <;> unfold dnM <;> split <;> subst e <;> omega
def dnF (ns : Array Int) (p : Nat) : Array Int :=
  if h : p < ns.size / 2 then dnF (ns.swap (dnM ns p) p (dnM_lt h).1 (by omega)) (dnM ns p) else upF ns p
termination_by ns.size - p
decreasing_by
  have := dnM_lt h
  rw [Array.size_swap]
  omega
theorem dnF_step {ns : Array Int} {p : Nat} (h : p < ns.size / 2) : dnF ns p = dnF (ns.swap (dnM ns p) p (dnM_lt h).1 (by omega)) (dnM ns p) := by
  rw [dnF, dif_pos h]
theorem dnF_end {ns : Array Int} {p : Nat} (h : ¬ p < ns.size / 2) : dnF ns p = upF ns p := by
  rw [dnF, dif_neg h]
theorem dnF_spec : ∀ (k p : Nat) (ns : Array Int), ns.size - p = k → p < ns.size → Down (at_ ns) ns.size p → (dnF ns p).toList.Perm ns.toList ∧ (dnF ns p).size = ns.size ∧ Ok (at_ (dnF ns p)) ns.size := by
  intro k
  induction k using Nat.strongRecOn with
  | ind k ih =>
    intro p ns hk hp hD
    by_cases h : p < ns.size / 2
    · rw [dnF_step h]
      have hm := dnM_lt h
      have hz : (ns.swap (dnM ns p) p hm.1 hp).size = ns.size := Array.size_swap
      have := ih (ns.size - dnM ns p) (by omega) (dnM ns p) (ns.swap (dnM ns p) p hm.1 hp) (by rw [hz]) (by rw [hz]; exact hm.1) (by
        rw [hz]
        refine Down.congr hm.1 (hD.step (by omega) hm.1 hm.2.2 fun c h0 hc he => dnM_least h c h0 hc he) fun k hk => ?_
        rw [at_swap hm.1 hp k hk]
        exact sw_comm k)
      rw [hz] at this
      exact ⟨this.1.trans (Array.swap_perm _ _).toList, this.2⟩
    · rw [dnF_end h]
      exact upF_spec p ns hp (hD.up h)

def pushF (ns : Array Int) (x : Int) : Array Int := upF (ns.push x) ns.size
def popF (ns : Array Int) : Array Int := if ns.size = 1 then ns.pop else dnF (ns.pop.setIfInBounds 0 (at_ ns (ns.size - 1))) 0

theorem pop_pure {l : List Int} {v f : Int} (h2 : 2 ≤ l.length) (hf : l[0]? = some f) (hv : l[l.length - 1]? = some v) : l.Perm (f :: (l.dropLast).set 0 v) := by
  match l, h2 with
  | a :: b :: r, _ =>
    have : (a :: b :: r).dropLast = a :: (b :: r).dropLast := rfl
    rw [this]
    simp only [List.set_cons_zero]
    simp only [List.getElem?_cons_zero, Option.some.injEq] at hf
    subst hf
    have hl : (b :: r).getLast (by simp) = v := by
      have h := hv
      rw [← List.getLast?_eq_getElem?] at h
      have h3 : (a :: b :: r).getLast? = some ((b :: r).getLast (by simp)) := by simp [List.getLast?_cons, List.getLast?_eq_some_getLast]
      rw [h3] at h
      exact Option.some.inj h
    refine List.Perm.cons _ ?_
    have h4 := List.dropLast_concat_getLast (l := b :: r) (by simp)
    rw [hl] at h4
    exact (List.Perm.of_eq h4.symm).trans List.perm_append_comm

theorem pushF_spec {ns : Array Int} {x : Int} (hok : Ok (at_ ns) ns.size) : (pushF ns x).toList.Perm (x :: ns.toList) ∧ Ok (at_ (pushF ns x)) (pushF ns x).size := by
  have h := upF_spec ns.size (ns.push x) (by rw [Array.size_push]; omega) ⟨fun i h0 hi hne => ?_, fun c h0 hc he hpp => absurd he (by rw [Array.size_push] at hc; omega)⟩
  · refine ⟨h.1.trans ?_, ?_⟩
    · rw [Array.toList_push]; exact List.perm_append_comm
    · unfold pushF; rw [h.2.1]; exact h.2.2
  · rw [Array.size_push] at hi
    have e : ∀ k, k < ns.size → at_ (ns.push x) k = at_ ns k := fun k hk => by
      rw [at_lt (by rw [Array.size_push]; omega), at_lt hk, Array.getElem_push_lt hk]
    rw [e i (by omega), e _ (by omega)]
    exact hok i h0 (by omega)

theorem popF_spec {ns : Array Int} (hpos : 0 < ns.size) (hok : Ok (at_ ns) ns.size) : ns.toList.Perm (at_ ns 0 :: (popF ns).toList) ∧ Ok (at_ (popF ns)) (popF ns).size := by
  unfold popF
  by_cases h1 : ns.size = 1
  · rw [if_pos h1]
    have hl1 : ns.toList.length = 1 := h1
    match hl : ns.toList, hl1 with
    | [x], _ =>
      have e1 : ns = #[x] := by rw [← Array.toArray_toList (xs := ns), hl]
      subst e1
      exact ⟨List.Perm.refl _, fun i h0 hi => absurd hi (by simp)⟩
  · rw [if_neg h1]
    have hp0 : ns.pop.size = ns.size - 1 := Array.size_pop
    have hz : (ns.pop.setIfInBounds 0 (at_ ns (ns.size - 1))).size = ns.size - 1 := by rw [Array.size_setIfInBounds, hp0]
    have hat : ∀ k, 0 < k → k < ns.size - 1 → at_ (ns.pop.setIfInBounds 0 (at_ ns (ns.size - 1))) k = at_ ns k := fun k h0 hk => by
      rw [at_lt (by rw [hz]; exact hk), Array.getElem_setIfInBounds (by rw [hp0]; exact hk), if_neg (by omega), Array.getElem_pop, at_lt (by omega)]
    have h := dnF_spec _ 0 (ns.pop.setIfInBounds 0 (at_ ns (ns.size - 1))) rfl (by rw [hz]; omega) ⟨fun i h0 hi hne hpa => ?_, fun c h0 hc he hpp => absurd hpp (Nat.lt_irrefl _)⟩
    · refine ⟨?_, by rw [h.2.1]; exact h.2.2⟩
      have hpl := pop_pure (l := ns.toList) (f := at_ ns 0) (v := at_ ns (ns.size - 1)) (by show 2 ≤ ns.size; omega) (by rw [at_lt hpos]; simp) (by rw [at_lt (by omega)]; simp)
      refine hpl.trans (List.Perm.cons _ ?_)
      have : (ns.pop.setIfInBounds 0 (at_ ns (ns.size - 1))).toList = ns.toList.dropLast.set 0 (at_ ns (ns.size - 1)) := by rw [Array.toList_setIfInBounds, Array.toList_pop]
      rw [← this]
      exact h.1.symm
    · rw [hz] at hi
      rw [hat i h0 hi, hat _ (by omega) (by omega)]
      exact hok i h0 (by omega)
end Hq
end Sp

set_option Elab.async false
set_option linter.all false
set_option maxRecDepth 100000
set_option maxHeartbeats 2000000
namespace Sp
open PySem L2
namespace HQF
theorem entry_sift : entryFor table "_heapq.heapify.sift" = some Builtin.«_heapq.heapify.sift» := entryFor_of_tree (by kernel_rfl)
theorem plain_sift : plainId "_heapq.heapify.sift" = true := by decide +kernel
theorem entry_push : entryFor table "_heapq.heappush" = some Builtin.«_heapq.heappush» := entryFor_of_tree (by kernel_rfl)
theorem kind_push : builtinKind "_heapq.heappush" = none := by kernel_rfl
theorem plain_push : plainId "_heapq.heappush" = true := by decide +kernel
theorem args_push (a b : Value) : argsOk "_heapq.heappush" ⟨[a, b], []⟩ := by unfold argsOk; kernel_rfl
theorem entry_pop : entryFor table "_heapq.heappop" = some Builtin.«_heapq.heappop» := entryFor_of_tree (by kernel_rfl)
theorem kind_pop : builtinKind "_heapq.heappop" = none := by kernel_rfl
theorem plain_pop : plainId "_heapq.heappop" = true := by decide +kernel
theorem args_pop (a : Value) : argsOk "_heapq.heappop" ⟨[a], []⟩ := by unfold argsOk; kernel_rfl
end HQF

def LI (h : Heap) (a : Addr) (ns : Array Int) : Prop :=
  ∃ (its : Array Value) (n : Nat), its.size = ns.size ∧ (∀ i (hi : i < ns.size), ∃ t, its[i]? = some (.int ns[i] t)) ∧ h.get? a = some { cls := .type "list", data := .seq its n }

theorem LI.swap {h : Heap} {a : Addr} {ns : Array Int} {its : Array Value} {n i j : Nat} {ti tj : Tok} (hsz : its.size = ns.size) (hit : ∀ i (hi : i < ns.size), ∃ t, its[i]? = some (.int ns[i] t))
    (ho : h.get? a = some { cls := .type "list", data := .seq its n }) (hi : i < ns.size) (hj : j < ns.size) (hne : i ≠ j) :
    LI (h.update a (Obj.mapSeq fun xs => (xs.setIfInBounds i (.int ns[j] tj)).setIfInBounds j (.int ns[i] ti))) a (ns.swap i j hi hj) := by
  refine ⟨_, _, ?_, fun k hk => ?_, PySem.IsL.update ho _⟩
  · rw [Array.size_setIfInBounds, Array.size_setIfInBounds, Array.size_swap, hsz]
  · rw [Array.size_swap] at hk
    obtain ⟨tk, hk'⟩ := hit k hk
    rw [Array.getElem_swap, Array.getElem?_setIfInBounds, Array.getElem?_setIfInBounds]
    by_cases e1 : k = i
    · subst e1
      refine ⟨tj, ?_⟩
      rw [if_neg (Ne.symm hne), if_pos rfl, if_pos rfl, if_pos (by omega)]
    · by_cases e2 : k = j
      · subst e2
        refine ⟨ti, ?_⟩
        rw [if_pos rfl, if_neg e1, if_pos rfl, if_pos (by rw [Array.size_setIfInBounds]; omega)]
      · refine ⟨tk, ?_⟩
        rw [if_neg (Ne.symm e2), if_neg (Ne.symm e1), if_neg e1, if_neg e2]
        exact hk'

section
variable {prog : Program} {w : World} {A : Around} {R : Result → Shared → Prop} {a : Addr} {res : Value}

theorem sift_up {N : Nat} (hN : N ≤ sizeLine) : ∀ (p : Nat) (s : Shared) (ns : Array Int), ns.size = N → p < N → LI s.heap a ns →
    (∀ h', LI h' a (Hq.upF ns p) → (∀ b, b ≠ a → h'.get? b = s.heap.get? b) → R (.ok (.ret res)) { s with heap := h' }) →
    codeAny (model prog w) A (.builtin "_heapq.heapify.sift" ⟨[.ref a, .bool false, .bool false, rawInt p, rawInt 0, res, rawInt (-1)], []⟩) R s := by
  intro p
  induction p using Nat.strongRecOn with
  | ind p ih =>
    intro s ns hs hp hL hR
    obtain ⟨its, n, hsz, hit, ho⟩ := hL
    refine codeAny_builtin HQF.entry_sift ?_
    rw [Around.under_plainId HQF.plain_sift _]
    obtain ⟨hp', g, d, tk, os⟩ := s
    unfold Builtin.«_heapq.heapify.sift»
    wp_walk
    simp only [Int.toNat_natCast, Int.toNat_zero]
    rcases Nat.eq_zero_or_pos p with h0 | h0
    · subst h0
      wp_walk
      exact hR hp' (by rw [Hq.upF_end (fun h => absurd h.1 (Nat.lt_irrefl _))]; exact ⟨its, n, hsz, hit, ho⟩) fun _ _ => rfl
    · rw [if_pos h0]
      have hq : (p - 1) / 2 < its.size := by omega
      obtain ⟨tx, hx⟩ := hit p (by omega)
      obtain ⟨ty, hy⟩ := hit ((p - 1) / 2) (by omega)
      refine wpAny_bind ?_
      show wpAny _ _ (match its[p]? with | some v => pure v | none => unsupported "internal:_heapq.index") _ _ _
      rw [hx]
      wp_walk
      show wpAny _ _ (match its[(p - 1) / 2]? with | some v => pure v | none => unsupported "internal:_heapq.index") _ _ _
      rw [hy]
      have hlt := (Ob.RcOp.lt_int (A := A.in1) (s := ⟨hp', g, d, tk, os⟩) ns[p] ns[(p - 1) / 2] tx ty) prog w
      wp_walk using hlt
      by_cases hlt' : ns[p] < ns[(p - 1) / 2]
      · rw [decide_eq_true hlt']
        have hx2 := hx
        have hy2 := hy
        wp_walk
        show wpAny _ _ (match its[(p - 1) / 2]? with | some v => pure v | none => unsupported "internal:_heapq.index") _ _ _
        rw [hy]
        wp_walk
        show wpAny _ _ (match its[p]? with | some v => pure v | none => unsupported "internal:_heapq.index") _ _ _
        rw [hx]
        have hsz' : its.size ≤ sizeLine := by omega
        wp_walk using (wpAny_updateSeq ho rfl (hz := hsz') (_hz' := by rw [Array.size_setIfInBounds, Array.size_setIfInBounds]; omega))
        refine ⟨plainId_quiet HQF.plain_sift _, ih ((p - 1) / 2) (by omega) _ (ns.swap ((p - 1) / 2) p (by omega) (by omega)) (by rw [Array.size_swap]; exact hs) (by omega) (LI.swap hsz hit ho _ _ (by omega)) fun h' hl hb => ?_⟩
        exact hR h' (by rw [Hq.upF_step h0 (by omega) (by rw [Hq.at_lt (by omega), Hq.at_lt (by omega)]; exact hlt')]; exact hl) fun b hne => (hb b hne).trans (Heap.get?_update_other _ _ (Ne.symm hne))
      · rw [decide_eq_false hlt']
        wp_walk
        refine hR hp' ?_ fun _ _ => rfl
        rw [Hq.upF_end (fun h => hlt' (by have h3 := h.2.2; rw [Hq.at_lt (by omega), Hq.at_lt (by omega)] at h3; exact h3))]
        exact ⟨its, n, hsz, hit, ho⟩

theorem sift_down {N : Nat} (hN : N ≤ sizeLine) : ∀ (k p : Nat) (s : Shared) (ns : Array Int), N - p = k → ns.size = N → p < N → LI s.heap a ns →
    (∀ h', LI h' a (Hq.dnF ns p) → (∀ b, b ≠ a → h'.get? b = s.heap.get? b) → R (.ok (.ret res)) { s with heap := h' }) →
    codeAny (model prog w) A (.builtin "_heapq.heapify.sift" ⟨[.ref a, .bool false, .bool true, rawInt p, rawInt 0, res, rawInt (-1)], []⟩) R s := by
  intro k
  induction k using Nat.strongRecOn with
  | ind k ih =>
    intro p s ns hk hs hp hL hR
    have hL' := hL
    obtain ⟨its, n, hsz, hit, ho⟩ := hL
    have hsz' : its.size ≤ sizeLine := by omega
    refine codeAny_builtin HQF.entry_sift ?_
    rw [Around.under_plainId HQF.plain_sift _]
    obtain ⟨hp', g, d, tk, os⟩ := s
    unfold Builtin.«_heapq.heapify.sift»
    wp_walk
    simp only [Int.toNat_natCast, Int.toNat_zero]
    by_cases hc : p < its.size / 2
    · rw [if_pos hc]
      have step : ∀ m, m = Hq.dnM ns p → ∀ ti tj, its[m]? = some (.int (Hq.at_ ns m) ti) → its[p]? = some (.int (Hq.at_ ns p) tj) →
          codeAny (model prog w) A (.builtin "_heapq.heapify.sift" ⟨[.ref a, .bool false, .bool true, rawInt m, rawInt 0, res, rawInt (-1)], []⟩) R
            ⟨hp'.update a (Obj.mapSeq fun xs => (xs.setIfInBounds m (.int (Hq.at_ ns p) tj)).setIfInBounds p (.int (Hq.at_ ns m) ti)), g, d, tk, os⟩ := fun m hm ti tj h1 h2 => by
        subst hm
        have hm := Hq.dnM_lt (ns := ns) (p := p) (by omega)
        refine ih (N - Hq.dnM ns p) (by omega) (Hq.dnM ns p) _ (ns.swap (Hq.dnM ns p) p (by omega) (by omega)) rfl (by rw [Array.size_swap]; exact hs) (by omega) ?_ fun h' hl hb => ?_
        · rw [Hq.at_lt (by omega), Hq.at_lt (by omega)]
          exact LI.swap hsz hit ho _ _ (by omega)
        · exact hR h' (by rw [Hq.dnF_step (by omega)]; exact hl) fun b hne => (hb b hne).trans (Heap.get?_update_other _ _ (Ne.symm hne))
      have hat : ∀ i, i < N → ∃ t, its[i]? = some (.int (Hq.at_ ns i) t) := fun i hi => by
        obtain ⟨t, e⟩ := hit i (by omega)
        exact ⟨t, by rw [Hq.at_lt (by omega)]; exact e⟩
      obtain ⟨tp, ep⟩ := hat p hp
      obtain ⟨tl, el⟩ := hat (2 * p + 1) (by omega)
      by_cases hc2 : 2 * p + 1 + 1 < its.size
      · obtain ⟨tr, er⟩ := hat (2 * p + 1 + 1) (by omega)
        rw [if_pos hc2]
        refine wpAny_bind ?_
        show wpAny _ _ (match its[2 * p + 1]? with | some v => pure v | none => unsupported "internal:_heapq.index") _ _ _
        rw [el]
        wp_walk
        show wpAny _ _ (match its[2 * p + 1 + 1]? with | some v => pure v | none => unsupported "internal:_heapq.index") _ _ _
        rw [er]
        have hlt := (Ob.RcOp.lt_int (A := A.in1) (s := ⟨hp', g, d, tk, os⟩) (Hq.at_ ns (2 * p + 1)) (Hq.at_ ns (2 * p + 1 + 1)) tl tr) prog w
        wp_walk using hlt
        by_cases hb : Hq.at_ ns (2 * p + 1) < Hq.at_ ns (2 * p + 1 + 1)
        · rw [decide_eq_true hb]
          wp_walk
          show wpAny _ _ (match its[2 * p + 1]? with | some v => pure v | none => unsupported "internal:_heapq.index") _ _ _
          rw [el]
          wp_walk
          show wpAny _ _ (match its[p]? with | some v => pure v | none => unsupported "internal:_heapq.index") _ _ _
          rw [ep]
          wp_walk using (wpAny_updateSeq ho rfl (hz := hsz') (_hz' := by rw [Array.size_setIfInBounds, Array.size_setIfInBounds]; omega))
          refine ⟨plainId_quiet HQF.plain_sift _, step (2 * p + 1) (by unfold Hq.dnM; rw [if_neg (fun h => h.2 hb)]) _ _ el ep⟩
        · rw [decide_eq_false hb]
          wp_walk
          show wpAny _ _ (match its[2 * p + 1 + 1]? with | some v => pure v | none => unsupported "internal:_heapq.index") _ _ _
          rw [er]
          wp_walk
          show wpAny _ _ (match its[p]? with | some v => pure v | none => unsupported "internal:_heapq.index") _ _ _
          rw [ep]
          wp_walk using (wpAny_updateSeq ho rfl (hz := hsz') (_hz' := by rw [Array.size_setIfInBounds, Array.size_setIfInBounds]; omega))
          refine ⟨plainId_quiet HQF.plain_sift _, step (2 * p + 1 + 1) (by unfold Hq.dnM; rw [if_pos ⟨by omega, hb⟩]) _ _ er ep⟩
      · rw [if_neg hc2]
        wp_walk
        show wpAny _ _ (match its[2 * p + 1]? with | some v => pure v | none => unsupported "internal:_heapq.index") _ _ _
        rw [el]
        wp_walk
        show wpAny _ _ (match its[p]? with | some v => pure v | none => unsupported "internal:_heapq.index") _ _ _
        rw [ep]
        wp_walk using (wpAny_updateSeq ho rfl (hz := hsz') (_hz' := by rw [Array.size_setIfInBounds, Array.size_setIfInBounds]; omega))
        refine ⟨plainId_quiet HQF.plain_sift _, step (2 * p + 1) (by unfold Hq.dnM; rw [if_neg (fun h => hc2 (by omega))]) _ _ el ep⟩
    · rw [if_neg hc]
      wp_walk
      exact ⟨plainId_quiet HQF.plain_sift _, sift_up hN p _ ns hs hp hL' fun h' hl hb => hR h' (by rw [Hq.dnF_end (by omega)]; exact hl) hb⟩

theorem push_meets (a : Addr) (x : Int) (t : Tok) : Meets (Builtin.«_heapq.heappush» ⟨[.ref a, .int x t], []⟩) (fun _ R s => ∃ ns, LI s.heap a ns ∧ ns.size < sizeLine ∧
    ∀ h', LI h' a (Hq.pushF ns x) → (∀ b, b ≠ a → h'.get? b = s.heap.get? b) → R (.ok (.ret .none)) { s with heap := h' }) := by
  intro prog w A R s h
  obtain ⟨ns, ⟨its, n, hsz, hit, ho⟩, hlt, hR⟩ := h
  obtain ⟨hp', g, d, tk, os⟩ := s
  have hsz' : its.size ≤ sizeLine := by omega
  have f2 := AutoSeq1.sub_list_list
  have hup := PySem.IsL.update ho (fun xs : Array Value => xs.push (.int x t))
  obtain ⟨n2, hup⟩ : ∃ n2, (hp'.update a (Obj.mapSeq fun xs => xs.push (.int x t))).get? a = some { cls := .type "list", data := .seq (its.push (.int x t)) n2 } := ⟨_, hup⟩
  have hL : LI (hp'.update a (Obj.mapSeq fun xs => xs.push (.int x t))) a (ns.push x) := by
    refine ⟨_, _, by rw [Array.size_push, Array.size_push, hsz], fun i hi => ?_, hup⟩
    rw [Array.size_push] at hi
    by_cases e : i = ns.size
    · subst e
      refine ⟨t, ?_⟩
      rw [Array.getElem_push_eq, ← hsz, Array.getElem?_push_size]
    · obtain ⟨t', ht⟩ := hit i (by omega)
      refine ⟨t', ?_⟩
      rw [Array.getElem_push_lt (by omega), Array.getElem?_push, if_neg (by omega)]
      exact ht
  unfold Builtin.«_heapq.heappush»
  wp_walk using (wpAny_updateSeq ho rfl (hz := hsz') (_hz' := by rw [Array.size_push]; omega))
  refine ⟨plainId_quiet HQF.plain_sift _, ?_⟩
  rw [show (its.push (Value.int x t)).size - 1 = ns.size by rw [Array.size_push, Nat.add_sub_cancel, hsz]]
  exact sift_up (N := ns.size + 1) (by omega) ns.size _ (ns.push x) (Array.size_push _) (Nat.lt_succ_self _) hL fun h' hl hb => hR h' hl fun b hne => (hb b hne).trans (Heap.get?_update_other _ _ (Ne.symm hne))

theorem pop_meets (a : Addr) : Meets (Builtin.«_heapq.heappop» ⟨[.ref a], []⟩) (fun _ R s => ∃ ns, LI s.heap a ns ∧ 0 < ns.size ∧ ns.size ≤ sizeLine ∧
    ∀ h' t, LI h' a (Hq.popF ns) → (∀ b, b ≠ a → h'.get? b = s.heap.get? b) → R (.ok (.ret (.int (Hq.at_ ns 0) t))) { s with heap := h' }) := by
  intro prog w A R s h
  obtain ⟨ns, ⟨its, n, hsz, hit, ho⟩, hpos, hlt, hR⟩ := h
  obtain ⟨hp', g, d, tk, os⟩ := s
  have hsz' : its.size ≤ sizeLine := by omega
  have f2 := AutoSeq1.sub_list_list
  obtain ⟨tl, el⟩ := hit (ns.size - 1) (by omega)
  obtain ⟨tf, ef⟩ := hit 0 hpos
  have hbk : its.back? = some (.int ns[ns.size - 1] tl) := by rw [Array.back?_eq_getElem?, hsz]; exact el
  obtain ⟨n2, hup⟩ : ∃ n2, (hp'.update a (Obj.mapSeq fun xs => xs.pop)).get? a = some { cls := .type "list", data := .seq its.pop n2 } := ⟨_, PySem.IsL.update ho (fun xs : Array Value => xs.pop)⟩
  unfold Builtin.«_heapq.heappop»
  wp_walk using (wpAny_updateSeq ho rfl (hz := hsz') (_hz' := by rw [Array.size_pop]; omega))
  rw [hbk]
  wp_walk using (wpAny_updateSeq ho rfl (hz := hsz') (_hz' := by rw [Array.size_pop]; omega))
  by_cases h1 : ns.size = 1
  · rw [show (its.size == 1) = true by rw [hsz, h1]; rfl]
    wp_walk
    have e0 : Hq.at_ ns 0 = ns[ns.size - 1] := by
      rw [Hq.at_lt hpos]
      exact getElem_congr rfl (by omega) _
    have hh := hR (hp'.update a (Obj.mapSeq fun xs => xs.pop)) tl (by
      unfold Hq.popF
      rw [if_pos h1]
      exact ⟨_, _, by rw [Array.size_pop, Array.size_pop, hsz], fun i hi => absurd hi (by rw [Array.size_pop]; omega), hup⟩) fun b hne => Heap.get?_update_other _ _ (Ne.symm hne)
    rw [e0] at hh; exact hh
  · rw [show (its.size == 1) = false by rw [hsz]; exact beq_eq_false_iff_ne.mpr h1]
    wp_walk
    show wpAny _ _ (match its[0]? with | some v => pure v | none => unsupported "internal:_heapq.index") _ _ _
    rw [ef]
    wp_walk using (wpAny_updateSeq hup rfl (hz := by rw [Array.size_pop]; omega) (_hz' := by rw [Array.size_setIfInBounds, Array.size_pop]; omega))
    have hp0 : ns.pop.size = ns.size - 1 := Array.size_pop
    have hnew : LI ((hp'.update a (Obj.mapSeq fun xs => xs.pop)).update a (Obj.mapSeq fun xs => xs.setIfInBounds 0 (.int ns[ns.size - 1] tl))) a (ns.pop.setIfInBounds 0 ns[ns.size - 1]) := by
      refine ⟨_, _, by rw [Array.size_setIfInBounds, Array.size_setIfInBounds, Array.size_pop, Array.size_pop, hsz], fun i hi => ?_, PySem.IsL.update hup _⟩
      rw [Array.size_setIfInBounds, hp0] at hi
      rw [Array.getElem_setIfInBounds (by rw [hp0]; exact hi)]
      by_cases e : 0 = i
      · subst e
        rw [Array.getElem?_setIfInBounds, if_pos rfl, if_pos (by rw [Array.size_pop]; omega), if_pos rfl]
        exact ⟨tl, rfl⟩
      · rw [Array.getElem?_setIfInBounds, if_neg e, if_neg e, Array.getElem_pop, Array.getElem?_pop, if_pos (by omega)]
        exact hit i (by omega)
    refine ⟨plainId_quiet HQF.plain_sift _, ?_⟩
    refine sift_down (N := ns.size - 1) (by omega) _ 0 _ (ns.pop.setIfInBounds 0 ns[ns.size - 1]) rfl (by rw [Array.size_setIfInBounds, hp0]) (by omega) hnew fun h' hl hb => ?_
    have e0 : Hq.at_ ns 0 = ns[0] := Hq.at_lt hpos
    have hh := hR h' tf (by unfold Hq.popF; rw [if_neg h1, Hq.at_lt (by omega)]; exact hl) fun b hne => (hb b hne).trans ((Heap.get?_update_other _ _ (Ne.symm hne)).trans (Heap.get?_update_other _ _ (Ne.symm hne)))
    rw [e0] at hh; exact hh
end
end Sp

set_option Elab.async false
set_option linter.all false
set_option maxRecDepth 100000
set_option maxHeartbeats 2000000
namespace Sp
open PySem L2
open Classical
noncomputable section
def pushL (ns : List Int) (x : Int) : List Int := (Hq.pushF ns.toArray x).toList
def popL (ns : List Int) : List Int := (Hq.popF ns.toArray).toList
def HeapL (ns : List Int) : Prop := Hq.Ok (Hq.at_ ns.toArray) ns.length
theorem at_list (ns : List Int) (i : Nat) : Hq.at_ ns.toArray i = ns.getD i 0 := by
  unfold Hq.at_
  rw [Array.getD_eq_getD_getElem?]
  simp
theorem pushL_spec {ns : List Int} {x : Int} (h : HeapL ns) : (pushL ns x).Perm (x :: ns) ∧ HeapL (pushL ns x) := by
  have := Hq.pushF_spec (ns := ns.toArray) (x := x) h
  exact ⟨this.1, this.2⟩
theorem popL_spec {ns : List Int} (h0 : 0 < ns.length) (h : HeapL ns) : ns.Perm (ns.getD 0 0 :: popL ns) ∧ HeapL (popL ns) := by
  have := Hq.popF_spec (ns := ns.toArray) h0 h
  rw [at_list] at this
  exact ⟨this.1, this.2⟩
theorem HeapL.least {ns : List Int} (h : HeapL ns) {y : Int} (hy : y ∈ ns) : ns.getD 0 0 ≤ y := by
  obtain ⟨i, hi, rfl⟩ := List.getElem_of_mem hy
  have := Hq.Ok.least h i hi
  rw [at_list, at_list] at this
  simpa [List.getD, hi] using this
theorem HeapL.nil : HeapL [] := fun i _ h => absurd h (Nat.not_lt_zero _)

theorem LI.of {h : Heap} {l : Addr} : ∀ {ns : List Int} {its : List Value} {n : Nat}, Vals (ns.map V.int) its → h.get? l = some { cls := .type "list", data := .seq its.toArray n } → LI h l ns.toArray := fun {ns its n} r e => by
  refine ⟨its.toArray, n, ?_, fun i hi => ?_, e⟩
  · have := r.length
    rw [List.length_map] at this
    exact this.symm
  · clear e
    induction ns generalizing its i with
    | nil => exact absurd hi (Nat.not_lt_zero _)
    | cons x r' ih =>
      cases r with
      | cons r1 r2 =>
        obtain ⟨t0, rfl⟩ := r1
        cases i with
        | zero => exact ⟨_, rfl⟩
        | succ i =>
          obtain ⟨t, ht⟩ := ih r2 i (by simpa using hi)
          refine ⟨t, ?_⟩
          simpa using ht
theorem LI.to {h : Heap} {l : Addr} {ns : Array Int} (e : LI h l ns) : ∃ (its : List Value) (n : Nat), Vals (ns.toList.map V.int) its ∧ h.get? l = some { cls := .type "list", data := .seq its.toArray n } := by
  obtain ⟨its, n, hsz, hit, ho⟩ := e
  refine ⟨its.toList, n, ?_, by rw [Array.toArray_toList]; exact ho⟩
  have key : ∀ (ns : List Int) (its : List Value), its.length = ns.length → (∀ i (hi : i < ns.length), ∃ t, its[i]? = some (.int ns[i] t)) → Vals (ns.map V.int) its := by
    intro ns
    induction ns with
    | nil => intro its h1 _; cases its with
      | nil => exact .nil
      | cons _ _ => cases h1
    | cons x r ih => intro its h1 h2; cases its with
      | nil => cases h1
      | cons v vs =>
        obtain ⟨t, ht⟩ := h2 0 (Nat.succ_pos _)
        cases ht
        exact .cons ⟨t, rfl⟩ (ih vs (Nat.succ.inj h1) fun i hi => by
          obtain ⟨t, ht⟩ := h2 (i + 1) (Nat.succ_lt_succ hi)
          exact ⟨t, by simpa using ht⟩)
  refine key _ _ hsz fun i hi => ?_
  obtain ⟨t, ht⟩ := hit i hi
  exact ⟨t, by simpa using ht⟩

section
variable {X : Cx}
def rHpush : List V → Hp → VK → Prop := fun vs H Q => ∃ (l : Addr) (ns : List Int) (x : Int), vs = [.ref l, .int x] ∧ H l = some (.lst (ns.map V.int)) ∧ ns.length < sizeLine ∧ Q .non (upd H l (.lst ((pushL ns x).map V.int)))
def rHpop : List V → Hp → VK → Prop := fun vs H Q => ∃ (l : Addr) (ns : List Int), vs = [.ref l] ∧ H l = some (.lst (ns.map V.int)) ∧ 0 < ns.length ∧ Q (.int (ns.getD 0 0)) (upd H l (.lst ((popL ns).map V.int)))
theorem sz_push (ns : Array Int) (x : Int) : (Hq.pushF ns x).size = ns.size + 1 := by
  unfold Hq.pushF
  have key : ∀ (p : Nat) (ns : Array Int), (Hq.upF ns p).size = ns.size := by
    intro p
    induction p using Nat.strongRecOn with
    | ind p ih =>
      intro ns
      by_cases h : 0 < p ∧ p < ns.size ∧ Hq.at_ ns p < Hq.at_ ns ((p - 1) / 2)
      · rw [Hq.upF_step h.1 h.2.1 h.2.2, ih _ (by omega), Array.size_swap]
      · rw [Hq.upF_end h]
  rw [key, Array.size_push]
theorem sz_up (p : Nat) : ∀ (ns : Array Int), (Hq.upF ns p).size = ns.size := by
  induction p using Nat.strongRecOn with
  | ind p ih =>
    intro ns
    by_cases h : 0 < p ∧ p < ns.size ∧ Hq.at_ ns p < Hq.at_ ns ((p - 1) / 2)
    · rw [Hq.upF_step h.1 h.2.1 h.2.2, ih _ (by omega), Array.size_swap]
    · rw [Hq.upF_end h]
theorem sz_dn : ∀ (k p : Nat) (ns : Array Int), ns.size - p = k → (Hq.dnF ns p).size = ns.size := by
  intro k
  induction k using Nat.strongRecOn with
  | ind k ih =>
    intro p ns hk
    by_cases h : p < ns.size / 2
    · have hm := Hq.dnM_lt h
      rw [Hq.dnF_step h, ih (ns.size - Hq.dnM ns p) (by omega) _ _ (by rw [Array.size_swap]), Array.size_swap]
    · rw [Hq.dnF_end h, sz_up]
theorem sz_pop (ns : Array Int) : (Hq.popF ns).size = ns.size - 1 := by
  unfold Hq.popF
  split
  · rw [Array.size_pop]
  · rw [sz_dn _ _ _ rfl, Array.size_setIfInBounds, Array.size_pop]
theorem len_push (ns : List Int) (x : Int) : (pushL ns x).length = ns.length + 1 := sz_push ns.toArray x
theorem len_pop (ns : List Int) : (popL ns).length = ns.length - 1 := sz_pop ns.toArray
theorem cr_hpush : CallR X (.builtin "_heapq.heappush") rHpush := by
  intro pins s σ H vs us Q I r h
  obtain ⟨l, ns, x, rfl, hH, hlt, q⟩ := h
  cases r with
  | cons r1 r2 =>
  cases r1
  cases r2 with
  | cons r2 r3 =>
  cases r3
  obtain ⟨t, rfl⟩ := r2
  obtain ⟨hz, its, n, rv, hob⟩ := I.hok l _ hH
  refine call_function_meets HQF.kind_push HQF.plain_push HQF.entry_push (HQF.args_push _ _) (push_meets l x _) ⟨ns.toArray, LI.of rv hob, hlt, fun h' hl hb => ?_⟩
  obtain ⟨its', n', rv', he'⟩ := hl.to
  have hlen : ((pushL ns x).map V.int).length ≤ sizeLine := by rw [List.length_map, len_push]; exact hlt
  exact ⟨.non, upd H l (.lst ((pushL ns x).map V.int)), I.write (e := l) (t' := s.toks) (by rw [hH]; trivial) (.inl rfl) (fun b u hne hu => (hb b hne).trans hu) ⟨_, he'⟩ ⟨hlen, its', n', rv', he'⟩, rfl, q⟩
theorem cr_hpop : CallR X (.builtin "_heapq.heappop") rHpop := by
  intro pins s σ H vs us Q I r h
  obtain ⟨l, ns, rfl, hH, hlt, q⟩ := h
  obtain ⟨u, rfl, ru⟩ := r.one
  cases ru
  obtain ⟨hz, its, n, rv, hob⟩ := I.hok l _ hH
  rw [List.length_map] at hz
  refine call_function_meets HQF.kind_pop HQF.plain_pop HQF.entry_pop (HQF.args_pop _) (pop_meets l) ⟨ns.toArray, LI.of rv hob, hlt, hz, fun h' t hl hb => ?_⟩
  obtain ⟨its', n', rv', he'⟩ := hl.to
  have hlen : ((popL ns).map V.int).length ≤ sizeLine := by rw [List.length_map, len_pop]; omega
  rw [at_list]
  exact ⟨.int (ns.getD 0 0), upd H l (.lst ((popL ns).map V.int)), I.write (e := l) (t' := s.toks) (by rw [hH]; trivial) (.inl rfl) (fun b u hne hu => (hb b hne).trans hu) ⟨_, he'⟩ ⟨hlen, its', n', rv', he'⟩, ⟨t, rfl⟩, q⟩
end

/-! ### as statements: heappush(x, e), heappop(x), x one's own list of ints -/
def intsOf : List D → Option (List Int)
  | [] => some []
  | .int x :: r => (intsOf r).map (x :: ·)
  | _ => none
theorem intsOf_map : ∀ ns : List Int, intsOf (ns.map D.int) = some ns
  | [] => rfl
  | x :: r => by
    show (intsOf (r.map D.int)).map (x :: ·) = _
    rw [intsOf_map r]; rfl
theorem intsOf_eq : ∀ {ds : List D} {ns : List Int}, intsOf ds = some ns → ds = ns.map D.int
  | [], ns, h => by cases h; rfl
  | .int x :: r, ns, h => by
    change (intsOf r).map (x :: ·) = some ns at h
    rw [Option.map_eq_some_iff] at h
    obtain ⟨ms, h1, rfl⟩ := h
    rw [intsOf_eq h1]; rfl
  | .non :: _, _, h | .bl _ :: _, _, h | .str _ :: _, _, h | .tup _ :: _, _, h | .lst _ :: _, _, h | .scr _ :: _, _, h | .box _ :: _, _, h | .wood _ :: _, _, h => by cases h
section
variable {W : Wh} {H : Hp}
theorem Rps.intsH : ∀ {ns : List Int} {xs : List V}, Rps W H xs (ns.map D.int) → xs = ns.map V.int
  | [], xs, r => by cases r; rfl
  | n :: ns, xs, r => by
    cases r with
    | cons r1 r2 =>
      cases r1
      rw [Rps.intsH r2]; rfl
theorem Rps.ofInts : ∀ ns : List Int, Rps W H (ns.map V.int) (ns.map D.int)
  | [] => .nil
  | n :: ns => .cons (.int _) (Rps.ofInts ns)
def sHpush (i : Nat) (m : EM) : SM := fun ρ => (m (full ρ)).bind fun d => match sgt ρ i, d with
  | .own ds, .int x => match intsOf ds with
    | some ns => if ns.length < sizeLine then some (.nx (ρ.set i (.own ((pushL ns x).map D.int)))) else none
    | none => none
  | _, _ => none
def sHpop (i : Nat) : SM := fun ρ => match sgt ρ i with
  | .own ds => match intsOf ds with
    | some ns => if 0 < ns.length then some (.nx (ρ.set i (.own ((popL ns).map D.int)))) else none
    | none => none
  | _ => none
variable {X : Cx} {fr fa : Bool} {ma : EM}
theorem es_hpush (i : Nat) {st : Stmt} (h : PS X st (tDrop (tCB rHpush (tCons (tVar i) (tCons (tX W fa ma) tNil))))) : ES X W fr st (sHpush i ma) := PS.imp h fun D' σ H ⟨Hb, Hd, ρ, o, r, e, k⟩ => by
  unfold sHpush at e
  rw [Option.bind_eq_some_iff] at e
  obtain ⟨d, e1, e2⟩ := e
  split at e2
  · rename_i ds x hs
    split at e2
    · rename_i ns hn
      have hn' := intsOf_eq hn
      subst hn'
      split at e2
      · rename_i c
        cases e2
        obtain ⟨l, xs, h1, h2, h3, h4⟩ := r.ow i _ hs
        refine ⟨_, h1, full ρ, .int x, r.re, e1, fun v H1 s1 r1 _ => ?_⟩
        cases r1
        have g := r.grow s1
        have e3 := h4.intsH
        subst e3
        exact ⟨l, ns, x, rfl, s1 _ _ h3, c, k _ _ _ (g.upd hs h1 (Rps.ofInts _))⟩
      · cases e2
    · cases e2
  · cases e2
theorem es_hpop (i : Nat) {st : Stmt} (h : PS X st (tDrop (tCB rHpop (tCons (tVar i) tNil)))) : ES X W fr st (sHpop i) := PS.imp h fun D' σ H ⟨Hb, Hd, ρ, o, r, e, k⟩ => by
  unfold sHpop at e
  split at e
  · rename_i ds hs
    split at e
    · rename_i ns hn
      have hn' := intsOf_eq hn
      subst hn'
      split at e
      · rename_i c
        cases e
        obtain ⟨l, xs, h1, h2, h3, h4⟩ := r.ow i _ hs
        have e3 := h4.intsH
        subst e3
        exact ⟨_, h1, l, ns, rfl, h3, c, k _ _ _ (r.upd hs h1 (Rps.ofInts _))⟩
      · cases e
    · cases e
  · cases e
theorem gv_hpush {ρ : SEnv} {P : Out → Prop} {i : Nat} : Gv (sHpush i ma ρ) P ↔ Ge (ma (full ρ)) fun d => ∃ ns x, sgt ρ i = .own (ns.map D.int) ∧ d = .int x ∧ ns.length < sizeLine ∧ P (.nx (ρ.set i (.own ((pushL ns x).map D.int)))) := by
  unfold sHpush Gv Ge
  constructor
  · rintro ⟨o, e, hp⟩
    rw [Option.bind_eq_some_iff] at e
    obtain ⟨d, e1, e2⟩ := e
    refine ⟨d, e1, ?_⟩
    split at e2
    · rename_i ds x hs
      split at e2
      · rename_i ns hn
        have hn' := intsOf_eq hn
        subst hn'
        split at e2
        · rename_i c
          cases e2
          exact ⟨ns, x, hs, rfl, c, hp⟩
        · cases e2
      · cases e2
    · cases e2
  · rintro ⟨d, e1, ns, x, hs, rfl, c, hp⟩
    refine ⟨_, ?_, hp⟩
    rw [e1, hs]
    simp only [Option.bind_some]
    rw [intsOf_map]
    simp only
    rw [if_pos c]
theorem gv_hpop {ρ : SEnv} {P : Out → Prop} {i : Nat} : Gv (sHpop i ρ) P ↔ ∃ ns, sgt ρ i = .own (ns.map D.int) ∧ 0 < ns.length ∧ P (.nx (ρ.set i (.own ((popL ns).map D.int)))) := by
  unfold sHpop Gv
  constructor
  · rintro ⟨o, e, hp⟩
    split at e
    · rename_i ds hs
      split at e
      · rename_i ns hn
        have hn' := intsOf_eq hn
        subst hn'
        split at e
        · rename_i c
          cases e
          exact ⟨ns, hs, c, hp⟩
        · cases e
      · cases e
    · cases e
  · rintro ⟨ns, hs, c, hp⟩
    refine ⟨_, ?_, hp⟩
    rw [hs]
    simp only
    rw [intsOf_map]
    simp only
    rw [if_pos c]
end
end
end Sp

set_option Elab.async false
set_option linter.all false
set_option maxRecDepth 100000
namespace Sp
open PySem L2
open Classical
noncomputable section
def b_is_whole : SM := (sRet (eAnd (eUn (dTyIs "int") (eVar 0)) (eChain dLt dLt (eUn dNeg (eC (.int 1000000000000000000000000000000000000000000000000000000000000))) (eVar 0) (eC (.int 1000000000000000000000000000000000000000000000000000000000000)))))
def m_is_whole : List D → Option D := mDef 1 1 b_is_whole
def b_check_ends : SM := (sSeq (sIf (bNot (bVal (eCall m_is_whole (eCons (eVar 0) eNil))))
      sFail
      sNext)
    (sSeq (sIf (bNot (bVal (eCall m_is_whole (eCons (eVar 1) eNil))))
      sFail
      sNext)
    (sIf (bVal (eOp dGt (eVar 0) (eVar 1)))
      sFail
      sNext)))
def m_check_ends : List D → Option D := mDef 2 2 b_check_ends
def b_stretch_of : SM := (sSeq (sDrop (eCall m_check_ends (eCons (eVar 0) (eCons (eVar 1) eNil))))
    (sSeq (sIf (bNot (bVal (eCall m_is_whole (eCons (eVar 2) eNil))))
      sFail
      sNext)
    (sRet (eTup (eCons (eVar 0) (eCons (eVar 1) (eCons (eVar 2) eNil)))))))
def m_stretch_of : List D → Option D := mDef 3 3 b_stretch_of
def b_check_row : SM := (sForV (.many [1, 2, 3]) 0
      (sDrop (eCall m_stretch_of (eCons (eVar 1) (eCons (eVar 2) (eCons (eVar 3) eNil))))))
def m_check_row : List D → Option D := mDef 1 4 b_check_row
def b_gaps_of : SM := (sSeq (sDrop (eCall m_check_ends (eCons (eVar 1) (eCons (eVar 2) eNil))))
    (sSeq (sDrop (eCall m_check_row (eCons (eVar 0) eNil)))
    (sSeq (sOwn 3 (eLst eNil))
    (sSeq (sSet 4 (eVar 1))
    (sSeq (sForV (.many [5, 6, 7]) 0
      (sSeq (sIf (bVal (eOp dGt (eVar 5) (eVar 2)))
        sBrk
        sNext)
      (sSeq (sIf (bVal (eOp dLt (eVar 4) (eVar 5)))
        (sApp 3 (eTup (eCons (eVar 4) (eCons (eOp dSub (eVar 5) (eC (.int 1))) eNil))))
        sNext)
      (sSet 4 (eCall fMax2 (eCons (eVar 4) (eCons (eOp dAdd (eVar 6) (eC (.int 1))) eNil)))))))
    (sSeq (sIf (bVal (eOp dLe (eVar 4) (eVar 2)))
      (sApp 3 (eTup (eCons (eVar 4) (eCons (eVar 2) eNil))))
      sNext)
    (sRetO 3)))))))
def m_gaps_of : List D → Option D := mDef 3 8 b_gaps_of
def b_law_at : SM := (sRet (eOp dIx (eOp dCat (eSl dSl (eVar 0) (oSome (eVar 1)) (oSome (eOp dAdd (eVar 1) (eC (.int 1))))) (eLst (eCons (eC (.int 0)) eNil))) (eC (.int 0))))
def m_law_at : List D → Option D := mDef 2 2 b_law_at
def b_law_is_int : SM := (sRet (eAnd (eUn (dIsi "int") (eVar 0)) (eAnd (eUn (dNotBl true) (eVar 0)) (eUn (dNotBl false) (eVar 0)))))
def m_law_is_int : List D → Option D := mDef 1 1 b_law_is_int
def b_law_made : SM := (sSeq (sSet 1 (eOp dSub (eOp dMod (eOp dFdiv (eVar 0) (eC (.int 4))) (eC (.int 61))) (eC (.int 30))))
    (sSeq (sIf (bVal (eOp dEq (eOp dMod (eVar 0) (eC (.int 4))) (eC (.int 3))))
      (sSet 1 (eOp dSub (eOp dMod (eOp dMul (eOp dFdiv (eVar 0) (eC (.int 4))) (eC (.int 160042582622774077931272282638733506491753459577065720641))) (eOp dSub (eOp dMul (eC (.int 2)) (eC (.int 1000000000000000000000000000000000000000000000000000000000000))) (eC (.int 1)))) (eOp dSub (eC (.int 1000000000000000000000000000000000000000000000000000000000000)) (eC (.int 1)))))
      sNext)
    (sSeq (sSet 2 (eOp dMod (eOp dFdiv (eVar 0) (eC (.int 244))) (eC (.int 16))))
    (sSeq (sIf (bVal (eOp dEq (eOp dMod (eOp dFdiv (eVar 0) (eC (.int 3904))) (eC (.int 8))) (eC (.int 1))))
      (sSet 2 (eOp dMod (eOp dMul (eOp dFdiv (eVar 0) (eC (.int 4))) (eC (.int 12968301046749891878822577019301343841127466270386200925841))) (eC (.int 1000000000000000000000000000000000000000000000000000000000000))))
      sNext)
    (sSeq (sSet 3 (eOp dSub (eOp dMod (eOp dFdiv (eVar 0) (eC (.int 31232))) (eC (.int 7))) (eC (.int 3))))
    (sSeq (sIf (bVal (eOp dEq (eOp dMod (eOp dFdiv (eVar 0) (eC (.int 218624))) (eC (.int 8))) (eC (.int 1))))
      (sSet 3 (eOp dSub (eOp dMod (eOp dMul (eOp dFdiv (eVar 0) (eC (.int 4))) (eC (.int 143503601609868434285603076356671071740077383739246066639249))) (eOp dSub (eOp dMul (eC (.int 2)) (eC (.int 1000000000000000000000000000000000000000000000000000000000000))) (eC (.int 1)))) (eOp dSub (eC (.int 1000000000000000000000000000000000000000000000000000000000000)) (eC (.int 1)))))
      sNext)
    (sRet (eTup (eCons (eVar 1) (eCons (eCall fMin2 (eCons (eOp dAdd (eVar 1) (eVar 2)) (eCons (eOp dSub (eC (.int 1000000000000000000000000000000000000000000000000000000000000)) (eC (.int 1))) eNil))) (eCons (eVar 3) eNil)))))))))))
def m_law_made : List D → Option D := mDef 1 4 b_law_made
def b_law_tuple_is : SM := (sSeq (sIf (bOr (bNot (bVal (eUn (dIsi "tuple") (eVar 0)))) (bVal (eOp dNe (eVar 0) (eVar 1))))
      (sRet (eC (.bl false)))
      sNext)
    (sRet (eOp dEq (eCall fLen (eCons (eLcT 2 (eVar 0) (bVal (eCall m_law_is_int (eCons (eVar 2) eNil))) (eVar 2)) eNil)) (eCall fLen (eCons (eVar 1) eNil)))))
def m_law_tuple_is : List D → Option D := mDef 2 3 b_law_tuple_is
def b_law_list_is : SM := (sSeq (sIf (bOr (bNot (bVal (eUn (dIsi "list") (eVar 0)))) (bVal (eOp dNe (eCall fLen (eCons (eVar 0) eNil)) (eCall fLen (eCons (eVar 1) eNil)))))
      (sRet (eC (.bl false)))
      sNext)
    (sRet (eOp dEq (eCall fLen (eCons (eLcR rng1 2 (eCons (eCall fLen (eCons (eVar 1) eNil)) eNil) (bNot (bVal (eCall m_law_tuple_is (eCons (eOp dIx (eVar 0) (eVar 2)) (eCons (eOp dIx (eVar 1) (eVar 2)) eNil))))) (eVar 2)) eNil)) (eC (.int 0)))))
def m_law_list_is : List D → Option D := mDef 2 3 b_law_list_is
def b_law_row : SM := (sSeq (sSet 2 (eCall m_law_at (eCons (eVar 0) (eCons (eVar 1) eNil))))
    (sSeq (sSet 3 (eLcR rng1 9 (eCons (eOp dMod (eVar 2) (eC (.int 7))) eNil) bYes (eCall m_law_made (eCons (eOp dAdd (eOp dMul (eCall m_law_at (eCons (eVar 0) (eCons (eOp dAdd (eOp dAdd (eVar 1) (eC (.int 1))) (eVar 9)) eNil))) (eC (.int 48271))) (eOp dMul (eC (.int 13)) (eVar 9))) eNil))))
    (sSeq (sIf (bVal (eOp dEq (eOp dMod (eOp dFdiv (eVar 2) (eC (.int 7))) (eC (.int 3))) (eC (.int 0))))
      (sSeq (sSet 4 (eOp dAdd (eOp dMul (eVar 2) (eC (.int 48271))) (eC (.int 17))))
      (sSeq (sSet 5 (eOp dSub (eOp dMod (eVar 4) (eC (.int 41))) (eC (.int 20))))
      (sSeq (sSet 6 (eOp dMod (eOp dFdiv (eVar 4) (eC (.int 41))) (eC (.int 4))))
      (sSeq (sSet 7 (eOp dAdd (eC (.int 1)) (eOp dMod (eOp dFdiv (eVar 4) (eC (.int 164))) (eC (.int 3)))))
      (sSeq (sSet 8 (eOp dAdd (eOp dAdd (eOp dMod (eOp dFdiv (eVar 4) (eC (.int 492))) (eC (.int 25))) (eC (.int 6))) (eOp dMul (eC (.int 60)) (eCall fInt1 (eCons (eOp dEq (eOp dMod (eOp dFdiv (eVar 4) (eC (.int 12300))) (eC (.int 16))) (eC (.int 1))) eNil)))))
      (sSet 3 (eOp dCat (eVar 3) (eLcR rng1 9 (eCons (eVar 8) eNil) bYes (eTup (eCons (eOp dAdd (eVar 5) (eOp dMul (eVar 6) (eVar 9))) (eCons (eOp dAdd (eOp dAdd (eVar 5) (eOp dMul (eVar 6) (eVar 9))) (eOp dMod (eVar 9) (eVar 7))) (eCons (eOp dMod (eVar 9) (eC (.int 2))) eNil))))))))))))
      sNext)
    (sRet (eCall fSorted (eCons (eVar 3) eNil))))))
def m_law_row : List D → Option D := mDef 2 10 b_law_row
def b_law_ask : SM := (sSeq (sSet 3 (eCall m_law_made (eCons (eOp dAdd (eOp dMul (eCall m_law_at (eCons (eVar 0) (eCons (eVar 1) eNil))) (eC (.int 48271))) (eC (.int 5))) eNil)))
    (sSeq (sSet 4 (eOp dIx (eVar 3) (eC (.int 0))))
    (sSeq (sSet 5 (eOp dIx (eVar 3) (eC (.int 1))))
    (sSeq (sIf (bAnd (bVal (eOp dGt (eCall fLen (eCons (eVar 2) eNil)) (eC (.int 0)))) (bVal (eOp dGt (eOp dMod (eCall m_law_at (eCons (eVar 0) (eCons (eOp dAdd (eVar 1) (eC (.int 1))) eNil))) (eC (.int 3))) (eC (.int 0)))))
      (sSeq (sSet 6 (eOp dIx (eVar 2) (eOp dMod (eOp dFdiv (eCall m_law_at (eCons (eVar 0) (eCons (eOp dAdd (eVar 1) (eC (.int 1))) eNil))) (eC (.int 3))) (eCall fLen (eCons (eVar 2) eNil)))))
      (sSeq (sSet 4 (eOp dSub (eOp dAdd (eOp dIx (eVar 6) (eOp dMod (eCall m_law_at (eCons (eVar 0) (eCons (eOp dAdd (eVar 1) (eC (.int 2))) eNil))) (eC (.int 2)))) (eOp dMod (eOp dFdiv (eCall m_law_at (eCons (eVar 0) (eCons (eOp dAdd (eVar 1) (eC (.int 2))) eNil))) (eC (.int 2))) (eC (.int 5)))) (eC (.int 2))))
      (sSet 5 (eOp dAdd (eVar 4) (eOp dMod (eOp dFdiv (eCall m_law_at (eCons (eVar 0) (eCons (eOp dAdd (eVar 1) (eC (.int 2))) eNil))) (eC (.int 10))) (eC (.int 40)))))))
      sNext)
    (sSeq (sSet 4 (eCall fMax2 (eCons (eOp dSub (eC (.int 1)) (eC (.int 1000000000000000000000000000000000000000000000000000000000000))) (eCons (eCall fMin2 (eCons (eVar 4) (eCons (eOp dSub (eC (.int 1000000000000000000000000000000000000000000000000000000000000)) (eC (.int 1))) eNil))) eNil))))
    (sRet (eTup (eCons (eVar 4) (eCons (eCall fMax2 (eCons (eVar 4) (eCons (eCall fMin2 (eCons (eVar 5) (eCons (eOp dSub (eC (.int 1000000000000000000000000000000000000000000000000000000000000)) (eC (.int 1))) eNil))) eNil))) eNil)))))))))
def m_law_ask : List D → Option D := mDef 3 7 b_law_ask
def b_law_gaps : SM := (sSeq (sOwn 3 (eLst eNil))
    (sSeq (sForV (.one 4) 0
      (sSeq (sIf (bAnd (bVal (eOp dGt (eOp dIx (eVar 4) (eC (.int 0))) (eVar 1))) (bVal (eOp dLe (eVar 1) (eVar 2))))
        (sApp 3 (eTup (eCons (eVar 1) (eCons (eCall fMin2 (eCons (eOp dSub (eOp dIx (eVar 4) (eC (.int 0))) (eC (.int 1))) (eCons (eVar 2) eNil))) eNil))))
        sNext)
      (sSet 1 (eCall fMax2 (eCons (eVar 1) (eCons (eOp dAdd (eOp dIx (eVar 4) (eC (.int 1))) (eC (.int 1))) eNil))))))
    (sSeq (sIf (bVal (eOp dLe (eVar 1) (eVar 2)))
      (sApp 3 (eTup (eCons (eVar 1) (eCons (eVar 2) eNil))))
      sNext)
    (sRetO 3))))
def m_law_gaps : List D → Option D := mDef 3 5 b_law_gaps
def b_law_k03 : SM := (sSeq (sSetF 1 (eCall m_law_row (eCons (eVar 0) (eCons (eC (.int 4)) eNil))))
    (sSeq (sSet 2 (eCall m_law_ask (eCons (eVar 0) (eCons (eC (.int 0)) (eCons (eVar 1) eNil)))))
    (sSeq (sSetF 3 (eCall fListOf (eCons (eVar 1) eNil)))
    (sSeq (sSetF 4 (eCall m_law_gaps (eCons (eVar 1) (eCons (eOp dIx (eVar 2) (eC (.int 0))) (eCons (eOp dIx (eVar 2) (eC (.int 1))) eNil)))))
    (sSeq (sOwn 5 (eCall m_gaps_of (eCons (eVar 3) (eCons (eOp dIx (eVar 2) (eC (.int 0))) (eCons (eOp dIx (eVar 2) (eC (.int 1))) eNil)))))
    (sSeq (sIf (bNot (bVal (eCall m_law_list_is (eCons (eVar 5) (eCons (eVar 4) eNil)))))
      (sRet (eC (.bl false)))
      sNext)
    (sSeq (sApp 5 (eTup (eCons (eC (.int 0)) (eCons (eC (.int 0)) eNil))))
    (sRet (eAnd (eCall m_law_list_is (eCons (eCall m_gaps_of (eCons (eVar 3) (eCons (eOp dIx (eVar 2) (eC (.int 0))) (eCons (eOp dIx (eVar 2) (eC (.int 1))) eNil)))) (eCons (eVar 4) eNil))) (eCall m_law_list_is (eCons (eVar 3) (eCons (eVar 1) eNil))))))))))))
def m_law_k03 : List D → Option D := mDef 1 6 b_law_k03
def b_clumps_of : SM := (sSeq (sDrop (eCall m_check_row (eCons (eVar 0) eNil)))
    (sSeq (sOwn 1 (eLst eNil))
    (sSeq (sForV (.many [2, 3, 4]) 0
      (sIf (bAnd (bTruth (eVar 1)) (bVal (eOp dLe (eVar 2) (eOp dIx (eOp dIx (eVar 1) (eUn dNeg (eC (.int 1)))) (eC (.int 1))))))
        (sSeq (sUnp [5, 6, 7] (eOp dIx (eVar 1) (eUn dNeg (eC (.int 1)))))
        (sPut 1 (eUn dNeg (eC (.int 1))) (eTup (eCons (eVar 5) (eCons (eCall fMax2 (eCons (eVar 6) (eCons (eVar 3) eNil))) (eCons (eOp dAdd (eVar 7) (eC (.int 1))) eNil))))))
        (sApp 1 (eTup (eCons (eVar 2) (eCons (eVar 3) (eCons (eC (.int 1)) eNil)))))))
    (sRetO 1))))
def m_clumps_of : List D → Option D := mDef 1 8 b_clumps_of
def b_law_clump : SM := (sSeq (sSet 3 (eLc 2 (eVar 1) (bAnd (bVal (eOp dLe (eOp dIx (eVar 0) (eC (.int 0))) (eOp dIx (eVar 2) (eC (.int 0))))) (bVal (eOp dLe (eOp dIx (eVar 2) (eC (.int 1))) (eOp dIx (eVar 0) (eC (.int 1)))))) (eVar 2)))
    (sSeq (sIf (bOr (bVal (eOp dEq (eCall fLen (eCons (eVar 3) eNil)) (eC (.int 0)))) (bVal (eOp dNe (eCall fLen (eCons (eVar 3) eNil)) (eOp dIx (eVar 0) (eC (.int 2))))))
      (sRet (eC (.bl false)))
      sNext)
    (sSeq (sIf (bOr (bVal (eOp dNe (eCall fMinL (eCons (eLc 2 (eVar 3) bYes (eOp dIx (eVar 2) (eC (.int 0)))) eNil)) (eOp dIx (eVar 0) (eC (.int 0))))) (bVal (eOp dNe (eCall fMaxL (eCons (eLc 2 (eVar 3) bYes (eOp dIx (eVar 2) (eC (.int 1)))) eNil)) (eOp dIx (eVar 0) (eC (.int 1))))))
      (sRet (eC (.bl false)))
      sNext)
    (sSeq (sForV (.one 2) 3
      (sSeq (sSet 4 (eLc 5 (eVar 3) (bVal (eChain dLe dLt (eOp dIx (eVar 5) (eC (.int 0))) (eOp dIx (eVar 2) (eC (.int 1))) (eOp dIx (eVar 5) (eC (.int 1))))) (eVar 5)))
      (sIf (bAnd (bVal (eOp dLt (eOp dIx (eVar 2) (eC (.int 1))) (eOp dIx (eVar 0) (eC (.int 1))))) (bVal (eOp dEq (eCall fLen (eCons (eVar 4) eNil)) (eC (.int 0)))))
        (sRet (eC (.bl false)))
        sNext)))
    (sRet (eC (.bl true)))))))
def m_law_clump : List D → Option D := mDef 2 6 b_law_clump
def b_law_triple : SM := (sSeq (sIf (bOr (bNot (bVal (eUn (dIsi "tuple") (eVar 0)))) (bVal (eOp dNe (eCall fLen (eCons (eVar 0) eNil)) (eC (.int 3)))))
      (sRet (eC (.bl false)))
      sNext)
    (sRet (eAnd (eCall m_law_is_int (eCons (eOp dIx (eVar 0) (eC (.int 0))) eNil)) (eAnd (eCall m_law_is_int (eCons (eOp dIx (eVar 0) (eC (.int 1))) eNil)) (eCall m_law_is_int (eCons (eOp dIx (eVar 0) (eC (.int 2))) eNil))))))
def m_law_triple : List D → Option D := mDef 1 1 b_law_triple
def b_law_k04 : SM := (sSeq (sSetF 1 (eCall m_law_row (eCons (eVar 0) (eCons (eC (.int 0)) eNil))))
    (sSeq (sSetF 2 (eCall fListOf (eCons (eVar 1) eNil)))
    (sSeq (sOwn 3 (eCall m_clumps_of (eCons (eVar 2) eNil)))
    (sSeq (sIf (bOr (bNot (bVal (eUn (dIsi "list") (eVar 3)))) (bNot (bVal (eCall m_law_list_is (eCons (eVar 2) (eCons (eVar 1) eNil))))))
      (sRet (eC (.bl false)))
      sNext)
    (sSeq (sSet 4 (eC (.int 0)))
    (sSeq (sForR rng1 (.one 5) (eCons (eCall fLen (eCons (eVar 3) eNil)) eNil)
      (sSeq (sIf (bOr (bNot (bVal (eCall m_law_triple (eCons (eOp dIx (eVar 3) (eVar 5)) eNil)))) (bNot (bVal (eCall m_law_clump (eCons (eOp dIx (eVar 3) (eVar 5)) (eCons (eVar 1) eNil))))))
        (sRet (eC (.bl false)))
        sNext)
      (sSeq (sIf (bAnd (bVal (eOp dGt (eVar 5) (eC (.int 0)))) (bVal (eOp dGe (eOp dIx (eOp dIx (eVar 3) (eOp dSub (eVar 5) (eC (.int 1)))) (eC (.int 1))) (eOp dIx (eOp dIx (eVar 3) (eVar 5)) (eC (.int 0))))))
        (sRet (eC (.bl false)))
        sNext)
      (sSet 4 (eOp dAdd (eVar 4) (eOp dIx (eOp dIx (eVar 3) (eVar 5)) (eC (.int 2))))))))
    (sSeq (sSetF 6 (eCall fListOf (eCons (eVar 3) eNil)))
    (sSeq (sApp 3 (eTup (eCons (eC (.int 0)) (eCons (eC (.int 0)) (eCons (eC (.int 0)) eNil)))))
    (sRet (eAnd (eOp dEq (eVar 4) (eCall fLen (eCons (eVar 1) eNil))) (eOp dEq (eCall m_clumps_of (eCons (eVar 2) eNil)) (eVar 6))))))))))))
def m_law_k04 : List D → Option D := mDef 1 7 b_law_k04
def b_deepest_of : SM := (sSeq (sDrop (eCall m_check_ends (eCons (eVar 1) (eCons (eVar 2) eNil))))
    (sSeq (sDrop (eCall m_check_row (eCons (eVar 0) eNil)))
    (sSeq (sSet 3 (eC (.int 0)))
    (sSeq (sSet 4 (eVar 1))
    (sSeq (sOwn 5 (eLst eNil))
    (sSeq (sForV (.many [6, 7, 8]) 0
      (sSeq (sSet 9 (eCall fMax2 (eCons (eVar 6) (eCons (eVar 1) eNil))))
      (sSeq (sIf (bVal (eOp dGt (eVar 9) (eVar 2)))
        sBrk
        sNext)
      (sSeq (sIf (bVal (eOp dLt (eVar 7) (eVar 9)))
        sCnt
        sNext)
      (sSeq (sHpush 5 (eVar 7))
      (sSeq (sWhile (bVal (eOp dLt (eOp dIx (eVar 5) (eC (.int 0))) (eVar 9))) (sHpop 5))
      (sIf (bVal (eOp dGt (eCall fLen (eCons (eVar 5) eNil)) (eVar 3)))
        (sSeq (sSet 3 (eCall fLen (eCons (eVar 5) eNil)))
        (sSet 4 (eVar 9)))
        sNext)))))))
    (sRet (eTup (eCons (eVar 3) (eCons (eVar 4) eNil))))))))))
def m_deepest_of : List D → Option D := mDef 3 10 b_deepest_of
def b_law_over : SM := (sRet (eCall fLen (eCons (eLc 2 (eVar 0) (bVal (eChain dLe dLe (eOp dIx (eVar 2) (eC (.int 0))) (eVar 1) (eOp dIx (eVar 2) (eC (.int 1))))) (eVar 2)) eNil)))
def m_law_over : List D → Option D := mDef 2 3 b_law_over
def b_law_k05 : SM := (sSeq (sSet 1 (eCall m_law_row (eCons (eVar 0) (eCons (eC (.int 4)) eNil))))
    (sSeq (sSet 2 (eCall m_law_ask (eCons (eVar 0) (eCons (eC (.int 0)) (eCons (eVar 1) eNil)))))
    (sSeq (sSet 3 (eCall fListOf (eCons (eVar 1) eNil)))
    (sSeq (sSet 4 (eCall m_deepest_of (eCons (eVar 3) (eCons (eOp dIx (eVar 2) (eC (.int 0))) (eCons (eOp dIx (eVar 2) (eC (.int 1))) eNil)))))
    (sSeq (sIf (bOr (bNot (bVal (eUn (dIsi "tuple") (eVar 4)))) (bOr (bVal (eOp dNe (eCall fLen (eCons (eVar 4) eNil)) (eC (.int 2)))) (bNot (bVal (eCall m_law_list_is (eCons (eVar 3) (eCons (eVar 1) eNil)))))))
      (sRet (eC (.bl false)))
      sNext)
    (sSeq (sIf (bOr (bNot (bVal (eCall m_law_is_int (eCons (eOp dIx (eVar 4) (eC (.int 0))) eNil)))) (bOr (bNot (bVal (eCall m_law_is_int (eCons (eOp dIx (eVar 4) (eC (.int 1))) eNil)))) (bNot (bVal (eChain dLe dLe (eOp dIx (eVar 2) (eC (.int 0))) (eOp dIx (eVar 4) (eC (.int 1))) (eOp dIx (eVar 2) (eC (.int 1))))))))
      (sRet (eC (.bl false)))
      sNext)
    (sSeq (sIf (bVal (eOp dNe (eCall m_law_over (eCons (eVar 1) (eCons (eOp dIx (eVar 4) (eC (.int 1))) eNil))) (eOp dIx (eVar 4) (eC (.int 0)))))
      (sRet (eC (.bl false)))
      sNext)
    (sSeq (sForN (.one 5) (eOp dCat (eLst (eCons (eOp dIx (eVar 2) (eC (.int 0))) eNil)) (eLc 7 (eVar 1) (bVal (eChain dLe dLe (eOp dIx (eVar 2) (eC (.int 0))) (eOp dIx (eVar 7) (eC (.int 0))) (eOp dIx (eVar 2) (eC (.int 1))))) (eOp dIx (eVar 7) (eC (.int 0)))))
      (sSeq (sSet 6 (eCall m_law_over (eCons (eVar 1) (eCons (eVar 5) eNil))))
      (sIf (bOr (bVal (eOp dGt (eVar 6) (eOp dIx (eVar 4) (eC (.int 0))))) (bAnd (bVal (eOp dEq (eVar 6) (eOp dIx (eVar 4) (eC (.int 0))))) (bVal (eOp dLt (eVar 5) (eOp dIx (eVar 4) (eC (.int 1)))))))
        (sRet (eC (.bl false)))
        sNext)))
    (sRet (eC (.bl true)))))))))))
def m_law_k05 : List D → Option D := mDef 1 8 b_law_k05
end
end Sp

set_option Elab.async false
set_option linter.all false
set_option maxRecDepth 100000
set_option maxHeartbeats 2000000
namespace Sp
open PySem L2
open Classical
noncomputable section
local macro_rules | `(tactic| walk_at "ev") => `(tactic| simp only [gv_next, gv_brk, gv_cnt, gv_retN, gv_seq, nx_nx, nx_rt, nx_bk, nx_ct, gv_set, gv_setF, gv_own, gv_ret, gv_drop, gv_retO, gv_if, gv_app, gv_unp, gv_pop, gv_put, gv_par, gv_forF, gv_forN, gv_forT, gv_forR,
  ge_var, ge_c, ge_op, ge_un, gl_nil, gl_cons, ge_call, ge_meth, ge_tup, ge_lst, ge_ii, ge_sl, go_none, go_int, gb_val, gb_truth, gb_and, gb_or, gb_not, gb_yes, ge_and, ge_or, ge_if, ge_chain, ge_some, gb_some, gl_some, go_some, ge_guard, ge_lc, ge_lcT, ge_lcR, ge_eqI, ge_neI, ge_eqB, ge_neB,
  frm, full, SV.full, gt, sgt, setAll, Tg.put, List.map, List.replicate, List.set, List.length_cons, List.length_nil, List.length_append, List.length_map, List.append_nil, List.nil_append, List.cons_append, Nat.sub_self, Nat.reduceAdd, Nat.reduceSub, Nat.zero_add, Nat.add_zero,
  noOwn, List.all_cons, List.all_nil, SV.free, D.imm, D.imms, imm_sd, imms_sd, imm_tupI, Bool.and_true, Bool.true_and, Bool.and_self, Bool.false_and, Bool.and_false, true_or, or_true, or_self, false_or, or_false, true_and, and_true, if_true, if_false, Bool.false_eq_true,
  D.int.injEq, D.bl.injEq, D.lst.injEq, D.tup.injEq, D.str.injEq, D.box.injEq, D.wood.injEq, SV.v.injEq, SV.own.injEq, Option.some.injEq, exists_eq_left', exists_eq_left, exists_and_left, reduceCtorEq, false_and, and_false, exists_false,
  fLen_lst, fLen_tup, fLen_scr, fLen_sd, fMax2_ii, fMin2_ii, fInt1_i, fInt1_b, fListOf_lst, fSorted_sd, fSum_i, dIx_sd0, dIx_sd1, dIx_sd2, dIx_lst, dIx_tup, dIx_scr, atI_0, atI_1, atI_2, atI_3, dSl_lst, dSl_scr, dCat_ll, dRep_l, dNot_b, dNeg_i, dNotBl_b, dNotBl_i, dNotBl_n, dNotBl_s, dNotBl_t, dNotBl_l, dIsN_non, dIsN_int, dIsN_lst, dNotN_non, dNotN_lst, dIsN_nil, dIsN_node, dNotN_nil, dNotN_node, isi_int_non, isi_int_bl, isi_int_int, isi_int_str, isi_int_tup, isi_int_lst, isi_int_sd, isi_bool_non, isi_bool_bl, isi_bool_int, isi_bool_str, isi_bool_tup, isi_bool_lst, isi_bool_sd, isi_tuple_non, isi_tuple_bl, isi_tuple_int, isi_tuple_str, isi_tuple_tup, isi_tuple_lst, isi_tuple_sd, isi_list_non, isi_list_bl, isi_list_int, isi_list_str, isi_list_tup, isi_list_lst, isi_list_sd, tyi_non, tyi_bl, tyi_int, tyi_str, tyi_tup, tyi_lst, ge_eqT, ge_neT, ge_eqS, ge_neS, ge_inS, ge_ninS, ge_eqLS, ge_neLS, Option.map_some, Bool.not_true, Bool.not_false, Bool.not_not, decide_eq_true_eq, decide_eq_false_iff_not, Bool.not_eq_true', Bool.not_eq_false', Bool.not_eq_true, decide_true, decide_false,
  Int.reduceLT, Nat.reduceLT, Int.reduceLE, Nat.reduceLeDiff, sizeLine_eq, and_self, ite_self, not_false_eq_true, not_true_eq_false, implies_true, imp_self, forall_const, true_implies])
local macro_rules | `(tactic| walk_at "st") => `(tactic| simp only [gv_next, gv_brk, gv_cnt, gv_retN, gv_seq, nx_nx, nx_rt, nx_bk, nx_ct, gv_set, gv_setF, gv_own, gv_ret, gv_drop, gv_retO, gv_app, gv_unp, gv_pop, gv_put, gv_par, gv_forF, gv_forN, gv_forT, gv_forR,
  ge_var, ge_c, ge_op, ge_un, gl_nil, gl_cons, ge_call, ge_meth, ge_tup, ge_lst, ge_ii, ge_sl, go_none, go_int, gb_val, gb_truth, gb_and, gb_or, gb_not, gb_yes, ge_and, ge_or, ge_if, ge_chain, ge_some, gb_some, gl_some, go_some, ge_guard, ge_lc, ge_lcT, ge_lcR, ge_eqI, ge_neI, ge_eqB, ge_neB,
  frm, full, SV.full, gt, sgt, setAll, Tg.put, List.map, List.replicate, List.set, List.length_cons, List.length_nil, List.length_append, List.length_map, List.append_nil, List.nil_append, List.cons_append, Nat.sub_self, Nat.reduceAdd, Nat.reduceSub, Nat.zero_add, Nat.add_zero,
  noOwn, List.all_cons, List.all_nil, SV.free, D.imm, D.imms, imm_sd, imms_sd, imm_tupI, Bool.and_true, Bool.true_and, Bool.and_self, Bool.false_and, Bool.and_false, true_or, or_true, or_self, false_or, or_false, true_and, and_true, if_true, if_false, Bool.false_eq_true,
  D.int.injEq, D.bl.injEq, D.lst.injEq, D.tup.injEq, D.str.injEq, D.box.injEq, D.wood.injEq, SV.v.injEq, SV.own.injEq, Option.some.injEq, exists_eq_left', exists_eq_left, exists_and_left, reduceCtorEq, false_and, and_false, exists_false,
  fLen_lst, fLen_tup, fLen_scr, fLen_sd, fMax2_ii, fMin2_ii, fInt1_i, fInt1_b, fListOf_lst, fSorted_sd, fSum_i, dIx_sd0, dIx_sd1, dIx_sd2, dIx_lst, dIx_tup, dIx_scr, atI_0, atI_1, atI_2, atI_3, dSl_lst, dSl_scr, dCat_ll, dRep_l, dNot_b, dNeg_i, dNotBl_b, dNotBl_i, dNotBl_n, dNotBl_s, dNotBl_t, dNotBl_l, dIsN_non, dIsN_int, dIsN_lst, dNotN_non, dNotN_lst, dIsN_nil, dIsN_node, dNotN_nil, dNotN_node, isi_int_non, isi_int_bl, isi_int_int, isi_int_str, isi_int_tup, isi_int_lst, isi_int_sd, isi_bool_non, isi_bool_bl, isi_bool_int, isi_bool_str, isi_bool_tup, isi_bool_lst, isi_bool_sd, isi_tuple_non, isi_tuple_bl, isi_tuple_int, isi_tuple_str, isi_tuple_tup, isi_tuple_lst, isi_tuple_sd, isi_list_non, isi_list_bl, isi_list_int, isi_list_str, isi_list_tup, isi_list_lst, isi_list_sd, tyi_non, tyi_bl, tyi_int, tyi_str, tyi_tup, tyi_lst, ge_eqT, ge_neT, ge_eqS, ge_neS, ge_inS, ge_ninS, ge_eqLS, ge_neLS, Option.map_some, Bool.not_true, Bool.not_false, Bool.not_not, decide_eq_true_eq, decide_eq_false_iff_not, Bool.not_eq_true', Bool.not_eq_false', Bool.not_eq_true, decide_true, decide_false,
  Int.reduceLT, Nat.reduceLT, Int.reduceLE, Nat.reduceLeDiff, sizeLine_eq, and_self, ite_self, not_false_eq_true, not_true_eq_false, implies_true, imp_self, forall_const, true_implies])

abbrev B60 : Int := 1000000000000000000000000000000000000000000000000000000000000
/-! ### the script's cells -/
def cell (ns : List Int) (i : Int) : Int := ns.getD i.toNat 0
theorem cutD_cell (ns : List Int) (j : Nat) : ∃ rest, cutD ns (some (j : Int)) (some ((j : Int) + 1)) ++ [0] = ns.getD j 0 :: rest := by
  by_cases h : j < ns.length
  · have e1 : HT.sIx ns.length 0 (some (j : Int)) = j := by rw [HT.sIx_nat]; omega
    have e2 : HT.sIx ns.length ns.length (some ((j : Int) + 1)) = j + 1 := by
      have := HT.sIx_nat ns.length ns.length (j + 1)
      rw [Int.natCast_add] at this
      rw [show ((1 : Nat) : Int) = 1 from rfl] at this
      rw [this]; omega
    refine ⟨[0], ?_⟩
    unfold cutD
    rw [e1, e2, List.drop_eq_getElem_cons h, Nat.add_sub_cancel_left, List.take_succ_cons, List.take_zero, List.getD_eq_getElem?_getD, List.getElem?_eq_getElem h]
    rfl
  · have e1 : HT.sIx ns.length 0 (some (j : Int)) = ns.length := by rw [HT.sIx_nat]; omega
    refine ⟨[], ?_⟩
    unfold cutD
    rw [e1, List.drop_length, List.take_nil, List.getD_eq_getElem?_getD, List.getElem?_eq_none (by omega)]
    rfl
theorem cutD_len {α : Type} (xs : List α) (lo hi : Option Int) : (cutD xs lo hi).length ≤ xs.length := by
  unfold cutD
  rw [List.length_take, List.length_drop]
  omega
theorem p_at {ns : List Int} {i : Int} (h0 : 0 ≤ i) (hl : ns.length ≤ 63) : m_law_at [.scr ns, .int i] = some (.int (cell ns i)) := by
  refine def_gv rfl ?_
  unfold b_law_at
  walk_at "ev"
  have hc := cutD_len ns (some i) (some (i + 1))
  refine ⟨by omega, ?_⟩
  obtain ⟨j, rfl⟩ := Int.eq_ofNat_of_zero_le h0
  obtain ⟨rest, e⟩ := cutD_cell ns j
  have e2 : List.map D.int (cutD ns (some (j : Int)) (some ((j : Int) + 1))) ++ [D.int 0] = D.int (ns.getD j 0) :: rest.map D.int := by
    rw [← List.map_cons, ← e, List.map_append]
    rfl
  rw [e2, Sp.atI0]
  exact ge_some.mpr rfl
theorem cell_bits2 {ns : List Int} (h : ∀ z ∈ ns, Builtin.Int.intBits z ≤ 1048576) (i : Int) : BW 1048576 (cell ns i) := by
  unfold cell
  rw [List.getD_eq_getElem?_getD]
  cases e : ns[i.toNat]? with
  | none => exact BW.of (by decide)
  | some z => exact BW.of (h z (List.mem_of_getElem? e))
/-! ### ints -/
theorem p_is_int (d : D) {t : String} (h : d.tyn = some t) : m_law_is_int [d] = some (.bl (decide (t = "int"))) := by
  refine def_gv rfl ?_
  unfold b_law_is_int
  cases d with
  | bl b => cases h; cases b <;> (walk_at "ev"; simp)
  | non => cases h; walk_at "ev"; simp
  | int _ => cases h; walk_at "ev"
  | str _ => cases h; walk_at "ev"; simp
  | tup _ => cases h; walk_at "ev"; simp
  | lst _ => cases h; walk_at "ev"; simp
  | _ => cases h
/-! ### a stretch of a seed -/
theorem gv_ifI {ρ : SEnv} {t : BM} {m : EM} {i : Nat} {c : Prop} [Decidable c] {a b : Int} {P : Out → Prop} (ht : Gb (t (full ρ)) (fun k => k = decide c)) (h0 : ρ.set i (.v (.int b)) = ρ) (h1 : c → Ge (m (full ρ)) (fun d => d = .int a)) (q : P (.nx (ρ.set i (.v (.int (if c then a else b)))))) : Gv (sIf t (sSet i m) sNext ρ) P := by
  rw [gv_if]
  obtain ⟨k, e, rfl⟩ := ht
  refine ⟨_, e, ?_⟩
  by_cases hc : c
  · refine w_iteT (decide_eq_true hc) ?_
    rw [gv_set]
    obtain ⟨d, e2, rfl⟩ := h1 hc
    rw [if_pos hc] at q
    exact ⟨_, e2, .inl rfl, q⟩
  · refine w_iteF (decide_eq_false hc) ?_
    rw [gv_next]
    rw [if_neg hc, h0] at q
    exact q
def mLow (n : Int) : Int := if n % 4 = 3 then n / 4 * 160042582622774077931272282638733506491753459577065720641 % (2 * B60 - 1) - (B60 - 1) else n / 4 % 61 - 30
def mWid (n : Int) : Int := if n / 3904 % 8 = 1 then n / 4 * 12968301046749891878822577019301343841127466270386200925841 % B60 else n / 244 % 16
def mMark (n : Int) : Int := if n / 218624 % 8 = 1 then n / 4 * 143503601609868434285603076356671071740077383739246066639249 % (2 * B60 - 1) - (B60 - 1) else n / 31232 % 7 - 3
def made (n : Int) : S3 := (mLow n, min (mLow n + mWid n) (B60 - 1), mMark n)
/-- a number of point 1, a stretch of it -/
def Num (i : Int) : Prop := -B60 < i ∧ i < B60
def Okay3 (z : S3) : Prop := Num z.1 ∧ Num z.2.1 ∧ Num z.2.2 ∧ z.1 ≤ z.2.1
theorem made_okay (n : Int) : Okay3 (made n) := by
  unfold Okay3 Num made mLow mWid mMark B60
  simp only
  generalize n / 4 * 160042582622774077931272282638733506491753459577065720641 = x
  generalize n / 4 * 12968301046749891878822577019301343841127466270386200925841 = y
  generalize n / 4 * 143503601609868434285603076356671071740077383739246066639249 = z
  refine ⟨?_, ?_, ?_, ?_⟩ <;> (repeat' split) <;> omega
theorem p_made {n : Int} (hb : BW 2000000 n) : m_law_made [.int n] = some (sd (made n)) := by
  have m1 : MulOk (n / 4) 160042582622774077931272282638733506491753459577065720641 := (hb.div (by decide)).ok (b := 200) (BW.of (by decide +kernel)) (by decide)
  have m2 : MulOk (n / 4) 12968301046749891878822577019301343841127466270386200925841 := (hb.div (by decide)).ok (b := 200) (BW.of (by decide +kernel)) (by decide)
  have m3 : MulOk (n / 4) 143503601609868434285603076356671071740077383739246066639249 := (hb.div (by decide)).ok (b := 200) (BW.of (by decide +kernel)) (by decide)
  have m4 : MulOk 2 1000000000000000000000000000000000000000000000000000000000000 := BW.ok (a := 10) (b := 250) (BW.of (by decide +kernel)) (BW.of (by decide +kernel)) (by decide)
  refine def_gv rfl ?_
  unfold b_law_made
  walk_at "st"
  refine gv_ifI (c := n % 4 = 3) (a := n / 4 * 160042582622774077931272282638733506491753459577065720641 % (2 * B60 - 1) - (B60 - 1)) (b := n / 4 % 61 - 30) (by walk_at "ev") rfl (fun _ => by walk_at "ev"; exact ⟨m1, m4, by decide⟩) ?_
  walk_at "st"
  refine gv_ifI (c := n / 3904 % 8 = 1) (a := n / 4 * 12968301046749891878822577019301343841127466270386200925841 % B60) (b := n / 244 % 16) (by walk_at "ev") rfl (fun _ => by walk_at "ev"; exact m2) ?_
  walk_at "st"
  refine gv_ifI (c := n / 218624 % 8 = 1) (a := n / 4 * 143503601609868434285603076356671071740077383739246066639249 % (2 * B60 - 1) - (B60 - 1)) (b := n / 31232 % 7 - 3) (by walk_at "ev") rfl (fun _ => by walk_at "ev"; exact ⟨m3, m4, by decide⟩) ?_
  walk_at "ev"
  rfl
/-! ### told as due -/
theorem int_is (i : Int) : m_law_is_int [.int i] = some (.bl true) := p_is_int (.int i) rfl
theorem ge_is_int {i : Int} {P : D → Prop} : Ge (m_law_is_int [.int i]) P ↔ P (.bl true) := by rw [int_is]; exact ge_some
theorem filter_true {α : Type} (xs : List α) : xs.filter (fun _ => true) = xs := List.filter_eq_self.mpr fun _ _ => rfl
theorem p_tuple_is {xs ys : List Int} (hx : xs.length ≤ 1000) : m_law_tuple_is [tupI xs, tupI ys] = some (.bl (decide (xs = ys))) := by
  refine def_gv rfl ?_
  unfold b_law_tuple_is tupI
  walk_at "ev"
  by_cases c : xs = ys
  · subst c
    simp only [decide_true, Bool.true_eq_false, if_false, if_true]
    walk_at "ev"
    refine ⟨by omega, gl_lc D.int D.int (fun _ => true) (fun x _ => ?_) ?_⟩
    · walk_at "ev"
      simp only [ge_is_int]
      walk_at "ev"
    · rw [filter_true]
      walk_at "ev"
  · simp only [c, decide_false, not_false_eq_true, if_true, if_false]
theorem ge_tuple_is {xs ys : List Int} {P : D → Prop} (hx : xs.length ≤ 1000) : Ge (m_law_tuple_is [tupI xs, tupI ys]) P ↔ P (.bl (decide (xs = ys))) := by rw [p_tuple_is hx]; exact ge_some
theorem i62_nat {n : Nat} (h : n ≤ 16777216) : i62 (n : Int) := ⟨by omega, by omega⟩
theorem rng1_nat {n : Nat} (h : n ≤ 16777216) : rng1 [.int (n : Int)] = some ((List.range n).map fun k : Nat => (k : Int)) := by
  show (if i62 (n : Int) then some (rng 0 n) else none) = _
  rw [if_pos (i62_nat h)]
  unfold rng
  simp
theorem p_list_is {xs ys : List (List Int)} (hx : ∀ x ∈ xs, x.length ≤ 1000) (hl : xs.length ≤ 10000) (hl2 : ys.length ≤ 10000) : m_law_list_is [.lst (xs.map tupI), .lst (ys.map tupI)] = some (.bl (decide (xs = ys))) := by
  refine def_gv rfl ?_
  unfold b_law_list_is
  walk_at "ev"
  by_cases c : xs.length = ys.length
  · have c' : (xs.length : Int) = ys.length := by omega
    simp only [c', not_true, if_false]
    refine ⟨_, rng1_nat (by omega), by simp; omega, ?_⟩
    rw [List.map_map]
    refine gl_lc (fun k : Nat => D.int k) (fun k => D.int k) (fun k => !decide (xs[k]? = ys[k]?)) (fun k hk => ?_) ?_
    · have hk' := List.mem_range.mp hk
      have h1 : k < xs.length := by omega
      have a1 : atI (xs.map tupI) (k : Int) = some (tupI xs[k]) := by rw [atI_map, atI_nat' h1]; rfl
      have a2 : atI (ys.map tupI) (k : Int) = some (tupI ys[k]) := by rw [atI_map, atI_nat' hk']; rfl
      walk_at "ev"
      rw [a1]
      walk_at "ev"
      rw [a2]
      walk_at "ev"
      rw [ge_tuple_is (hx _ (List.getElem_mem h1))]
      rw [List.getElem?_eq_getElem h1, List.getElem?_eq_getElem hk']
      simp
    · walk_at "ev"
      have : (xs = ys) ↔ ((List.range ys.length).filter fun k => !decide (xs[k]? = ys[k]?)).length = 0 := by
        rw [List.length_eq_zero_iff, List.filter_eq_nil_iff]
        constructor
        · intro e a _; subst e; simp
        · intro h
          refine List.ext_getElem? fun k => ?_
          by_cases hk : k < ys.length
          · have := h k (List.mem_range.mpr hk)
            simpa using this
          · rw [List.getElem?_eq_none (by omega), List.getElem?_eq_none (by omega)]
      simp only [this]
      congr 1
      simp
  · have c' : ¬ (xs.length : Int) = ys.length := by omega
    have c2 : ¬ xs = ys := fun e => c (by rw [e])
    simp only [c', c2, decide_false, not_false_eq_true, if_true]
theorem sd_fun : sd = fun z : S3 => tupI [z.1, z.2.1, z.2.2] := rfl
def ints3 (z : S3) : List Int := [z.1, z.2.1, z.2.2]
theorem map_sd (zs : List S3) : zs.map sd = (zs.map ints3).map tupI := by rw [List.map_map]; rfl
theorem ints3_inj {a b : S3} : ints3 a = ints3 b ↔ a = b := by
  obtain ⟨x, y, z⟩ := a
  obtain ⟨x', y', z'⟩ := b
  simp [ints3]
theorem map_ints3 : ∀ {xs ys : List S3}, xs.map ints3 = ys.map ints3 ↔ xs = ys
  | [], [] => by simp
  | [], _ :: _ => by simp
  | _ :: _, [] => by simp
  | x :: xs, y :: ys => by simp [ints3_inj, map_ints3 (xs := xs) (ys := ys)]
theorem p_list_isS {xs ys : List S3} (hl : xs.length ≤ 10000) (hl2 : ys.length ≤ 10000) : m_law_list_is [.lst (xs.map sd), .lst (ys.map sd)] = some (.bl (decide (xs = ys))) := by
  rw [map_sd, map_sd, p_list_is (fun x hx => ?_) (by simpa using hl) (by simpa using hl2)]
  · simp only [map_ints3]
  · obtain ⟨z, _, rfl⟩ := List.mem_map.mp hx
    show 3 ≤ 1000
    decide
theorem p_tuple_isS {a b : S3} : m_law_tuple_is [sd a, sd b] = some (.bl (decide (a = b))) := by
  rw [sd_tupI, sd_tupI, p_tuple_is (by show 3 ≤ 1000; decide)]
  have := ints3_inj (a := a) (b := b)
  unfold ints3 at this
  simp only [this]
/-- pairs -/
def pd (p : Int × Int) : D := tupI [p.1, p.2]
def ints2 (z : Int × Int) : List Int := [z.1, z.2]
theorem map_pd (zs : List (Int × Int)) : zs.map pd = (zs.map ints2).map tupI := by rw [List.map_map]; rfl
theorem map_ints2 : ∀ {xs ys : List (Int × Int)}, xs.map ints2 = ys.map ints2 ↔ xs = ys
  | [], [] => by simp
  | [], _ :: _ => by simp
  | _ :: _, [] => by simp
  | (x, x') :: xs, (y, y') :: ys => by simp [ints2, map_ints2 (xs := xs) (ys := ys)]
theorem p_list_isP {xs ys : List (Int × Int)} (hl : xs.length ≤ 10000) (hl2 : ys.length ≤ 10000) : m_law_list_is [.lst (xs.map pd), .lst (ys.map pd)] = some (.bl (decide (xs = ys))) := by
  rw [map_pd, map_pd, p_list_is (fun x hx => ?_) (by simpa using hl) (by simpa using hl2)]
  · simp only [map_ints2]
  · obtain ⟨z, _, rfl⟩ := List.mem_map.mp hx
    show 2 ≤ 1000
    decide
end
end Sp

set_option Elab.async false
set_option linter.all false
set_option maxRecDepth 100000
set_option maxHeartbeats 2000000
namespace Sp
open PySem L2
open Classical
noncomputable section
local macro_rules | `(tactic| walk_at "ev") => `(tactic| try simp only [gv_next, gv_brk, gv_cnt, gv_retN, gv_seq, nx_nx, nx_rt, nx_bk, nx_ct, gv_set, gv_setF, gv_own, gv_ret, gv_drop, gv_retO, gv_if, gv_app, gv_unp, gv_pop, gv_put, gv_par, gv_forF, gv_forN, gv_forT, gv_forR,
  ge_var, ge_c, ge_op, ge_un, gl_nil, gl_cons, ge_call, ge_meth, ge_tup, ge_lst, ge_ii, ge_sl, go_none, go_int, gb_val, gb_truth, gb_and, gb_or, gb_not, gb_yes, ge_and, ge_or, ge_if, ge_chain, ge_some, gb_some, gl_some, go_some, ge_guard, ge_lc, ge_lcT, ge_lcR, ge_eqI, ge_neI, ge_eqB, ge_neB,
  frm, full, SV.full, gt, sgt, setAll, Tg.put, List.map, List.replicate, List.set, List.length_cons, List.length_nil, List.length_append, List.length_map, List.append_nil, List.nil_append, List.cons_append, Nat.sub_self, Nat.reduceAdd, Nat.reduceSub, Nat.zero_add, Nat.add_zero,
  noOwn, List.all_cons, List.all_nil, SV.free, D.imm, D.imms, imm_sd, imms_sd, imm_tupI, Bool.and_true, Bool.true_and, Bool.and_self, Bool.false_and, Bool.and_false, true_or, or_true, or_self, false_or, or_false, true_and, and_true, if_true, if_false, Bool.false_eq_true,
  D.int.injEq, D.bl.injEq, D.lst.injEq, D.tup.injEq, D.str.injEq, D.box.injEq, D.wood.injEq, SV.v.injEq, SV.own.injEq, Option.some.injEq, exists_eq_left', exists_eq_left, exists_and_left, reduceCtorEq, false_and, and_false, exists_false,
  fLen_lst, fLen_tup, fLen_scr, fLen_sd, fMax2_ii, fMin2_ii, fInt1_i, fInt1_b, fListOf_lst, fSorted_sd, fSum_i, dIx_sd0, dIx_sd1, dIx_sd2, dIx_lst, dIx_tup, dIx_scr, atI_0, atI_1, atI_2, atI_3, dSl_lst, dSl_scr, dCat_ll, dRep_l, dNot_b, dNeg_i, dNotBl_b, dNotBl_i, dNotBl_n, dNotBl_s, dNotBl_t, dNotBl_l, dIsN_non, dIsN_int, dIsN_lst, dNotN_non, dNotN_lst, dIsN_nil, dIsN_node, dNotN_nil, dNotN_node, isi_int_non, isi_int_bl, isi_int_int, isi_int_str, isi_int_tup, isi_int_lst, isi_int_sd, isi_bool_non, isi_bool_bl, isi_bool_int, isi_bool_str, isi_bool_tup, isi_bool_lst, isi_bool_sd, isi_tuple_non, isi_tuple_bl, isi_tuple_int, isi_tuple_str, isi_tuple_tup, isi_tuple_lst, isi_tuple_sd, isi_list_non, isi_list_bl, isi_list_int, isi_list_str, isi_list_tup, isi_list_lst, isi_list_sd, tyi_non, tyi_bl, tyi_int, tyi_str, tyi_tup, tyi_lst, ge_eqT, ge_neT, ge_eqS, ge_neS, ge_inS, ge_ninS, ge_eqLS, ge_neLS, Option.map_some, Bool.not_true, Bool.not_false, Bool.not_not, decide_eq_true_eq, decide_eq_false_iff_not, Bool.not_eq_true', Bool.not_eq_false', Bool.not_eq_true, decide_true, decide_false,
  Int.reduceLT, Nat.reduceLT, Int.reduceLE, Nat.reduceLeDiff, sizeLine_eq, and_self, ite_self, not_false_eq_true, not_true_eq_false, implies_true, imp_self, forall_const, true_implies])
local macro_rules | `(tactic| walk_at "st") => `(tactic| try simp only [gv_next, gv_brk, gv_cnt, gv_retN, gv_seq, nx_nx, nx_rt, nx_bk, nx_ct, gv_set, gv_setF, gv_own, gv_ret, gv_drop, gv_retO, gv_app, gv_unp, gv_pop, gv_put, gv_par, gv_forF, gv_forN, gv_forT, gv_forR,
  ge_var, ge_c, ge_op, ge_un, gl_nil, gl_cons, ge_call, ge_meth, ge_tup, ge_lst, ge_ii, ge_sl, go_none, go_int, gb_val, gb_truth, gb_and, gb_or, gb_not, gb_yes, ge_and, ge_or, ge_if, ge_chain, ge_some, gb_some, gl_some, go_some, ge_guard, ge_lc, ge_lcT, ge_lcR, ge_eqI, ge_neI, ge_eqB, ge_neB,
  frm, full, SV.full, gt, sgt, setAll, Tg.put, List.map, List.replicate, List.set, List.length_cons, List.length_nil, List.length_append, List.length_map, List.append_nil, List.nil_append, List.cons_append, Nat.sub_self, Nat.reduceAdd, Nat.reduceSub, Nat.zero_add, Nat.add_zero,
  noOwn, List.all_cons, List.all_nil, SV.free, D.imm, D.imms, imm_sd, imms_sd, imm_tupI, Bool.and_true, Bool.true_and, Bool.and_self, Bool.false_and, Bool.and_false, true_or, or_true, or_self, false_or, or_false, true_and, and_true, if_true, if_false, Bool.false_eq_true,
  D.int.injEq, D.bl.injEq, D.lst.injEq, D.tup.injEq, D.str.injEq, D.box.injEq, D.wood.injEq, SV.v.injEq, SV.own.injEq, Option.some.injEq, exists_eq_left', exists_eq_left, exists_and_left, reduceCtorEq, false_and, and_false, exists_false,
  fLen_lst, fLen_tup, fLen_scr, fLen_sd, fMax2_ii, fMin2_ii, fInt1_i, fInt1_b, fListOf_lst, fSorted_sd, fSum_i, dIx_sd0, dIx_sd1, dIx_sd2, dIx_lst, dIx_tup, dIx_scr, atI_0, atI_1, atI_2, atI_3, dSl_lst, dSl_scr, dCat_ll, dRep_l, dNot_b, dNeg_i, dNotBl_b, dNotBl_i, dNotBl_n, dNotBl_s, dNotBl_t, dNotBl_l, dIsN_non, dIsN_int, dIsN_lst, dNotN_non, dNotN_lst, dIsN_nil, dIsN_node, dNotN_nil, dNotN_node, isi_int_non, isi_int_bl, isi_int_int, isi_int_str, isi_int_tup, isi_int_lst, isi_int_sd, isi_bool_non, isi_bool_bl, isi_bool_int, isi_bool_str, isi_bool_tup, isi_bool_lst, isi_bool_sd, isi_tuple_non, isi_tuple_bl, isi_tuple_int, isi_tuple_str, isi_tuple_tup, isi_tuple_lst, isi_tuple_sd, isi_list_non, isi_list_bl, isi_list_int, isi_list_str, isi_list_tup, isi_list_lst, isi_list_sd, tyi_non, tyi_bl, tyi_int, tyi_str, tyi_tup, tyi_lst, ge_eqT, ge_neT, ge_eqS, ge_neS, ge_inS, ge_ninS, ge_eqLS, ge_neLS, Option.map_some, Bool.not_true, Bool.not_false, Bool.not_not, decide_eq_true_eq, decide_eq_false_iff_not, Bool.not_eq_true', Bool.not_eq_false', Bool.not_eq_true, decide_true, decide_false,
  Int.reduceLT, Nat.reduceLT, Int.reduceLE, Nat.reduceLeDiff, sizeLine_eq, and_self, ite_self, not_false_eq_true, not_true_eq_false, implies_true, imp_self, forall_const, true_implies])

/-! ### sizes -/
theorem bw64 {x : Int} (h1 : -9223372036854775808 < x) (h2 : x < 9223372036854775808) : BW 64 x := by
  rw [BW.iff]
  omega
theorem mul64 {x y : Int} (h1 : -9223372036854775808 < x ∧ x < 9223372036854775808) (h2 : -9223372036854775808 < y ∧ y < 9223372036854775808) : MulOk x y := (bw64 h1.1 h1.2).ok (bw64 h2.1 h2.2) (by decide)
theorem mulC {x c : Int} (h : BW 1048576 x) (hc : -9223372036854775808 < c ∧ c < 9223372036854775808) : MulOk x c := h.ok (bw64 hc.1 hc.2) (by decide)
theorem seedB {x c d : Int} (h : BW 1048576 x) (hc : -9223372036854775808 < c ∧ c < 9223372036854775808) (hd : -9223372036854775808 < d ∧ d < 9223372036854775808) : BW 2000000 (x * c + d) :=
  ((h.mul (bw64 hc.1 hc.2)).mono (M := 1999999) (by decide)).add ((bw64 hd.1 hd.2).mono (by decide))
theorem rng1_int {j : Int} (h0 : 0 ≤ j) (h : j ≤ 16777216) : rng1 [.int j] = some ((List.range j.toNat).map fun k : Nat => (k : Int)) := by
  have := rng1_nat (n := j.toNat) (by omega)
  rw [Int.toNat_of_nonneg h0] at this
  exact this
theorem map_dint (n : Nat) : ((List.range n).map fun k : Nat => (k : Int)).map D.int = (List.range n).map fun k : Nat => D.int k := by rw [List.map_map]; rfl
/-! ### the row of a script -/
def rowFirst (ns : List Int) (i : Int) : List S3 := (List.range (cell ns i % 7).toNat).map fun k : Nat => made (cell ns (i + 1 + k) * 48271 + 13 * k)
def rowMore (h : Int) : List S3 :=
  let s := h * 48271 + 17
  let base := s % 41 - 20
  let step := s / 41 % 4
  let size := 1 + s / 164 % 3
  (List.range (s / 492 % 25 + 6 + 60 * (if s / 12300 % 16 = 1 then 1 else 0)).toNat).map fun k : Nat => (base + step * k, base + step * k + (k : Int) % size, (k : Int) % 2)
def rowL (ns : List Int) (i : Int) : List S3 := sort3 (rowFirst ns i ++ if cell ns i / 7 % 3 = 0 then rowMore (cell ns i) else [])
theorem rowFirst_len (ns : List Int) (i : Int) : (rowFirst ns i).length ≤ 6 := by
  unfold rowFirst
  rw [List.length_map, List.length_range]
  omega
theorem rowMore_len (h : Int) : (rowMore h).length ≤ 90 := by
  unfold rowMore
  simp only [List.length_map, List.length_range]
  split <;> omega
theorem rowL_len (ns : List Int) (i : Int) : (rowL ns i).length ≤ 96 := by
  unfold rowL
  rw [(sort3_perm _).length_eq, List.length_append]
  have h1 := rowFirst_len ns i
  have h2 := rowMore_len (cell ns i)
  split
  · omega
  · simp only [List.length_nil]; omega
theorem rowMore_ok {h : Int} : ∀ z ∈ rowMore h, Okay3 z := by
  intro z hz
  unfold rowMore at hz
  simp only [List.mem_map, List.mem_range] at hz
  obtain ⟨k, hk, rfl⟩ := hz
  have hk' : (k : Int) < 91 := by
    revert hk
    split <;> omega
  generalize h * 48271 + 17 = s at *
  have e1 : 0 ≤ s / 41 % 4 ∧ s / 41 % 4 < 4 := ⟨by omega, by omega⟩
  have e2 : 0 ≤ s / 41 % 4 * (k : Int) := Int.mul_nonneg e1.1 (by omega)
  have e3 : s / 41 % 4 * (k : Int) ≤ 3 * 91 := Int.mul_le_mul (by omega) (by omega) (by omega) (by omega)
  have e4 : 0 ≤ s % 41 ∧ s % 41 < 41 := ⟨by omega, by omega⟩
  have e5 : 0 < 1 + s / 164 % 3 := by omega
  have e6 := Int.emod_nonneg (k : Int) (show (1 + s / 164 % 3) ≠ 0 by omega)
  have e7 := Int.emod_lt_of_pos (k : Int) e5
  have e8 : 1 + s / 164 % 3 ≤ 3 := by omega
  generalize s / 41 % 4 * (k : Int) = a at *
  generalize (k : Int) % (1 + s / 164 % 3) = b at *
  generalize s % 41 = c at *
  generalize 1 + s / 164 % 3 = d at *
  unfold Okay3 Num B60
  simp only
  refine ⟨⟨?_, ?_⟩, ⟨?_, ?_⟩, ⟨?_, ?_⟩, ?_⟩ <;> omega
theorem rowL_ok {ns : List Int} {i : Int} : ∀ z ∈ rowL ns i, Okay3 z := by
  intro z hz
  unfold rowL at hz
  have := (sort3_perm _).mem_iff.mp hz
  rcases List.mem_append.mp this with h | h
  · unfold rowFirst at h
    obtain ⟨k, _, rfl⟩ := List.mem_map.mp h
    exact made_okay _
  · split at h
    · exact rowMore_ok z h
    · cases h
theorem rowL_pw (ns : List Int) (i : Int) : (rowL ns i).Pairwise (fun a b => le3 a b = true) := sort3_pw _
theorem ge_at {ns : List Int} {i : Int} {P : D → Prop} (h0 : 0 ≤ i) (hl : ns.length ≤ 63) : Ge (m_law_at [.scr ns, .int i]) P ↔ P (.int (cell ns i)) := by rw [p_at h0 hl]; exact ge_some
theorem ge_made {n : Int} {P : D → Prop} (hb : BW 2000000 n) : Ge (m_law_made [.int n]) P ↔ P (sd (made n)) := by rw [p_made hb]; exact ge_some
theorem p_row {ns : List Int} {i : Int} (h0 : 0 ≤ i) (hi : i ≤ 100) (hl : ns.length ≤ 63) (hB : ∀ z ∈ ns, Builtin.Int.intBits z ≤ 1048576) : m_law_row [.scr ns, .int i] = some (.lst ((rowL ns i).map sd)) := by
  refine def_gv rfl ?_
  unfold b_law_row
  walk_at "st"
  rw [ge_at h0 hl]
  walk_at "st"
  refine ⟨_, rng1_int (by omega) (by omega), by rw [List.length_map, List.length_range]; omega, ?_⟩
  rw [map_dint]
  refine gl_lc (fun k : Nat => D.int k) (fun k => sd (made (cell ns (i + 1 + k) * 48271 + 13 * k))) (fun _ => true) (fun k hk => ?_) ?_
  · have hk' := List.mem_range.mp hk
    walk_at "ev"
    rw [ge_at (by omega) hl]
    have hb := cell_bits2 hB (i + 1 + k)
    walk_at "ev"
    refine ⟨mulC hb (by omega), mul64 (by omega) (by omega), ?_⟩
    rw [ge_made (seedB hb (by omega) (by omega))]
  rw [filter_true]
  have hf : (List.range (cell ns i % 7).toNat).map (fun k : Nat => sd (made (cell ns (i + 1 + k) * 48271 + 13 * k))) = (rowFirst ns i).map sd := by unfold rowFirst; rw [List.map_map]; rfl
  rw [hf]
  have hb := cell_bits2 hB i
  walk_at "ev"
  by_cases c : cell ns i / 7 % 3 = 0
  · simp only [c, if_true]
    have hm := rowMore_len (cell ns i)
    have hfl := rowFirst_len ns i
    have emore : rowMore (cell ns i) = (List.range ((cell ns i * 48271 + 17) / 492 % 25 + 6 + 60 * (if (cell ns i * 48271 + 17) / 12300 % 16 = 1 then 1 else 0)).toNat).map fun k : Nat => ((cell ns i * 48271 + 17) % 41 - 20 + (cell ns i * 48271 + 17) / 41 % 4 * k, (cell ns i * 48271 + 17) % 41 - 20 + (cell ns i * 48271 + 17) / 41 % 4 * k + (k : Int) % (1 + (cell ns i * 48271 + 17) / 164 % 3), (k : Int) % 2) := rfl
    generalize hs : cell ns i * 48271 + 17 = s at *
    have ek : (0 : Int) ≤ (if s / 12300 % 16 = 1 then (1 : Int) else 0) ∧ (if s / 12300 % 16 = 1 then (1 : Int) else 0) ≤ 1 := by split <;> omega
    generalize (if s / 12300 % 16 = 1 then (1 : Int) else 0) = e at *
    refine ⟨mulC hb (by omega), mul64 (by omega) (by omega), _, rng1_int (by omega) (by omega), by rw [List.length_map, List.length_range]; omega, ?_⟩
    rw [map_dint]
    refine gl_lc (fun k : Nat => D.int k) (fun k => sd (s % 41 - 20 + s / 41 % 4 * k, s % 41 - 20 + s / 41 % 4 * k + (k : Int) % (1 + s / 164 % 3), (k : Int) % 2)) (fun _ => true) (fun k hk => ?_) ?_
    · have hk' := List.mem_range.mp hk
      walk_at "ev"
      have hm : MulOk (s / 41 % 4) k := mul64 (by omega) (by omega)
      exact ⟨hm, hm, by omega, rfl⟩
    rw [filter_true]
    have h2 : (List.range (s / 492 % 25 + 6 + 60 * e).toNat).map (fun k : Nat => sd (s % 41 - 20 + s / 41 % 4 * k, s % 41 - 20 + s / 41 % 4 * k + (k : Int) % (1 + s / 164 % 3), (k : Int) % 2)) = (rowMore (cell ns i)).map sd := by
      rw [emore, List.map_map]
      rfl
    rw [h2]
    refine ⟨by rw [List.length_map]; omega, ?_⟩
    rw [← List.map_append, fSorted_sd]
    walk_at "ev"
    unfold rowL
    rw [if_pos c]
  · simp only [c, if_false]
    walk_at "ev"
    unfold rowL
    rw [if_neg c, List.append_nil]
/-! ### the question -/
def OkQ (q : Int × Int) : Prop := Num q.1 ∧ Num q.2 ∧ q.1 ≤ q.2
theorem okq_clip (x y : Int) : OkQ (max (1 - 1000000000000000000000000000000000000000000000000000000000000) (min x (1000000000000000000000000000000000000000000000000000000000000 - 1)), max (max (1 - 1000000000000000000000000000000000000000000000000000000000000) (min x (1000000000000000000000000000000000000000000000000000000000000 - 1))) (min y (1000000000000000000000000000000000000000000000000000000000000 - 1))) := by
  unfold OkQ Num B60
  simp only
  refine ⟨⟨?_, ?_⟩, ⟨?_, ?_⟩, ?_⟩ <;> omega
theorem at_sd {xs : List S3} {i : Int} (h0 : 0 ≤ i) (hi : i < xs.length) : atI (xs.map sd) i = some (sd (xs[i.toNat]'(by omega))) := by
  obtain ⟨k, rfl⟩ := Int.eq_ofNat_of_zero_le h0
  rw [atI_map, atI_nat' (by omega)]
  rfl
theorem ge_sd2 {z : S3} {j : Int} (h : j = 0 ∨ j = 1) {P : D → Prop} (q : ∀ x, P (.int x)) : Ge (dIx (sd z) (.int j)) P := by
  rcases h with rfl | rfl
  · exact ge_some.mpr (q _)
  · exact ge_some.mpr (q _)
theorem p_ask {ns : List Int} {i : Int} {row : List S3} (h0 : 0 ≤ i) (hl : ns.length ≤ 63) (hB : ∀ z ∈ ns, Builtin.Int.intBits z ≤ 1048576) :
    Ge (m_law_ask [.scr ns, .int i, .lst (row.map sd)]) fun d => ∃ q, d = pd q ∧ OkQ q := by
  refine def_ge rfl ?_
  unfold b_law_ask
  have hb := cell_bits2 hB i
  walk_at "st"
  rw [ge_at h0 hl]
  walk_at "st"
  refine ⟨mulC hb (by omega), ?_⟩
  rw [ge_made (seedB hb (by omega) (by omega))]
  have fin : ∀ x y : Int, ∃ q, D.tup [D.int (max (1 - 1000000000000000000000000000000000000000000000000000000000000) (min x (1000000000000000000000000000000000000000000000000000000000000 - 1))), D.int (max (max (1 - 1000000000000000000000000000000000000000000000000000000000000) (min x (1000000000000000000000000000000000000000000000000000000000000 - 1))) (min y (1000000000000000000000000000000000000000000000000000000000000 - 1)))] = pd q ∧ OkQ q := fun x y => ⟨_, rfl, okq_clip x y⟩
  walk_at "ev"
  by_cases c : 0 < (row.length : Int)
  · rw [if_pos c, ge_at (by omega) hl]
    walk_at "ev"
    by_cases c2 : 0 < cell ns (i + 1) % 3
    · rw [if_pos c2, ge_at (by omega) hl]
      walk_at "ev"
      refine ⟨c, ?_⟩
      have c3 := Int.emod_lt_of_pos (cell ns (i + 1) / 3) c
      have c4 := Int.emod_nonneg (cell ns (i + 1) / 3) (show (row.length : Int) ≠ 0 by omega)
      rw [at_sd c4 c3]
      walk_at "ev"
      rw [ge_at (by omega) hl]
      walk_at "ev"
      refine ge_sd2 (by omega) fun x => ?_
      rw [ge_at (by omega) hl]
      walk_at "ev"
      rw [ge_at (by omega) hl]
      walk_at "ev"
      exact fin _ _
    · rw [if_neg c2]
      exact fin _ _
  · rw [if_neg c]
    exact fin _ _
/-! ### the program: what is a stretch -/
theorem p_is_whole {i : Int} : m_is_whole [.int i] = some (.bl (decide (Num i))) := by
  refine def_gv rfl ?_
  unfold b_is_whole Num B60
  walk_at "ev"
  by_cases c1 : -1000000000000000000000000000000000000000000000000000000000000 < i <;> by_cases c2 : i < 1000000000000000000000000000000000000000000000000000000000000 <;> simp [c1, c2]
theorem ge_whole {i : Int} {P : D → Prop} : Ge (m_is_whole [.int i]) P ↔ P (.bl (decide (Num i))) := by rw [p_is_whole]; exact ge_some
theorem p_check_ends {q : Int × Int} (h : OkQ q) : m_check_ends [.int q.1, .int q.2] = some .non := by
  refine def_gv rfl ?_
  unfold b_check_ends
  walk_at "ev"
  rw [ge_whole]
  simp only [h.1, h.2.1, decide_true]
  walk_at "ev"
  rw [ge_whole]
  simp only [h.1, h.2.1, decide_true]
  walk_at "ev"
  have := h.2.2
  rw [if_neg (by omega)]
  trivial
theorem ge_check_ends {l h : Int} {P : D → Prop} (ok : OkQ (l, h)) : Ge (m_check_ends [.int l, .int h]) P ↔ P .non := by rw [p_check_ends (q := (l, h)) ok]; exact ge_some
theorem p_stretch_of {z : S3} (h : Okay3 z) : m_stretch_of [.int z.1, .int z.2.1, .int z.2.2] = some (sd z) := by
  obtain ⟨h1, h2, h3, h4⟩ := h
  refine def_gv rfl ?_
  unfold b_stretch_of
  walk_at "ev"
  rw [ge_check_ends ⟨h1, h2, h4⟩, ge_whole]
  simp only [h3, decide_true]
  walk_at "ev"
  rfl
theorem ge_stretch_of {z : S3} {P : D → Prop} (h : Okay3 z) : Ge (m_stretch_of [.int z.1, .int z.2.1, .int z.2.2]) P ↔ P (sd z) := by rw [p_stretch_of h]; exact ge_some
theorem p_check_row {zs : List S3} (h : ∀ z ∈ zs, Okay3 z) : m_check_row [.lst (zs.map sd)] = some .non := by
  refine def_gv rfl ?_
  unfold b_check_row
  refine gv_forV rfl ?_
  refine gv_for (fun _ ρ => ∃ a b c, ρ = [.v (.lst (zs.map sd)), a, b, c]) ⟨_, _, _, rfl⟩ (fun k d ρ hk ⟨a, b, c, e⟩ => ?_) (fun ρ _ => rfl)
  subst e
  rw [List.getElem?_map, Option.map_eq_some_iff] at hk
  obtain ⟨z, hz, rfl⟩ := hk
  refine ⟨_, rfl, ?_⟩
  walk_at "ev"
  rw [ge_stretch_of (h z (List.mem_of_getElem? hz))]
  exact ⟨_, _, _, rfl⟩
theorem ge_check_row {zs : List S3} {P : D → Prop} (h : ∀ z ∈ zs, Okay3 z) : Ge (m_check_row [.lst (zs.map sd)]) P ↔ P .non := by rw [p_check_row h]; exact ge_some
/-! ### gaps -/
def gapsL : List S3 → Int → Int → List (Int × Int)
  | [], l, h => if l ≤ h then [(l, h)] else []
  | z :: r, l, h => (if l < z.1 ∧ l ≤ h then [(l, min (z.1 - 1) h)] else []) ++ gapsL r (max l (z.2.1 + 1)) h
theorem gapsL_len : ∀ (zs : List S3) (l h : Int), (gapsL zs l h).length ≤ zs.length + 1
  | [], l, h => by rw [gapsL]; split <;> simp
  | z :: r, l, h => by
    rw [gapsL, List.length_append]
    have := gapsL_len r (max l (z.2.1 + 1)) h
    split
    · simp only [List.length_cons, List.length_nil]; omega
    · simp only [List.length_cons, List.length_nil]; omega
theorem gapsL_beyond : ∀ (zs : List S3) (l h : Int), h < l → gapsL zs l h = []
  | [], l, h, c => by rw [gapsL, if_neg (by omega)]
  | z :: r, l, h, c => by rw [gapsL, if_neg (by omega), gapsL_beyond r _ _ (by omega)]; rfl
theorem p_law_gaps {zs : List S3} {l h : Int} (hz : zs.length ≤ 1000) : m_law_gaps [.lst (zs.map sd), .int l, .int h] = some (.lst ((gapsL zs l h).map pd)) := by
  refine def_gv rfl ?_
  unfold b_law_gaps
  walk_at "ev"
  refine gv_forV rfl ?_
  refine gv_for (fun k ρ => ∃ l' acc one, ρ = [.v (.lst (zs.map sd)), .v (.int l'), .v (.int h), .own (acc.map pd), one] ∧ acc ++ gapsL (zs.drop k) l' h = gapsL zs l h ∧ acc.length ≤ k) ⟨l, [], _, rfl, rfl, Nat.le_refl _⟩ (fun k d ρ hk ⟨l', acc, one, e, e2, e3⟩ => ?_) (fun ρ ⟨l', acc, one, e, e2, e3⟩ => ?_)
  · subst e
    rw [List.getElem?_map, Option.map_eq_some_iff] at hk
    obtain ⟨z, hz', rfl⟩ := hk
    obtain ⟨hkl, hz2⟩ := List.getElem?_eq_some_iff.mp hz'
    rw [List.drop_eq_getElem_cons hkl, hz2, gapsL] at e2
    refine ⟨_, rfl, ?_⟩
    walk_at "ev"
    by_cases c : l' < z.1
    · by_cases c2 : l' ≤ h
      · rw [if_pos c, if_pos c2]
        rw [if_pos ⟨c, c2⟩] at e2
        refine ⟨by omega, ?_⟩
        exact ⟨_, acc ++ [(l', min (z.1 - 1) h)], _, by rw [List.map_append]; rfl, by rw [List.append_assoc]; exact e2, by simp; omega⟩
      · rw [if_pos c, if_neg c2]
        rw [if_neg (fun z => c2 z.2)] at e2
        exact ⟨_, acc, _, rfl, e2, by omega⟩
    · rw [if_neg c]
      rw [if_neg (fun z => c z.1)] at e2
      exact ⟨_, acc, _, rfl, e2, by omega⟩
  · subst e
    rw [List.length_map, List.drop_length, gapsL] at e2
    rw [List.length_map] at e3
    walk_at "ev"
    by_cases c : l' ≤ h
    · rw [if_pos c] at e2 ⊢
      refine ⟨by omega, ?_⟩
      rw [← e2, List.map_append]
      rfl
    · rw [if_neg c] at e2 ⊢
      rw [← e2, List.append_nil]
theorem p_gaps_of {zs : List S3} {l h : Int} (hq : OkQ (l, h)) (ok : ∀ z ∈ zs, Okay3 z) (hz : zs.length ≤ 1000) : m_gaps_of [.lst (zs.map sd), .int l, .int h] = some (.lst ((gapsL zs l h).map pd)) := by
  refine def_gv rfl ?_
  unfold b_gaps_of
  walk_at "ev"
  rw [ge_check_ends hq, ge_check_row ok]
  walk_at "ev"
  refine gv_forV rfl ?_
  have fin : ∀ (l' : Int) (acc : List (Int × Int)), acc ++ (if l' ≤ h then [(l', h)] else []) = gapsL zs l h → acc.length ≤ 1000 → if l' ≤ h then acc.length < 16777216 ∧ acc.map pd ++ [D.tup [D.int l', D.int h]] = (gapsL zs l h).map pd else acc.map pd = (gapsL zs l h).map pd := by
    intro l' acc e e3
    by_cases c : l' ≤ h
    · rw [if_pos c] at e ⊢
      refine ⟨by omega, ?_⟩
      rw [← e, List.map_append]
      rfl
    · rw [if_neg c] at e ⊢
      rw [← e, List.append_nil]
  refine gv_for (fun k ρ => ∃ l' acc a b c, ρ = [.v (.lst (zs.map sd)), .v (.int l), .v (.int h), .own (acc.map pd), .v (.int l'), a, b, c] ∧ acc ++ gapsL (zs.drop k) l' h = gapsL zs l h ∧ acc.length ≤ k) ⟨l, [], _, _, _, rfl, rfl, Nat.le_refl _⟩ (fun k d ρ hk ⟨l', acc, a, b, c, e, e2, e3⟩ => ?_) (fun ρ ⟨l', acc, a, b, c, e, e2, e3⟩ => ?_)
  · subst e
    rw [List.getElem?_map, Option.map_eq_some_iff] at hk
    obtain ⟨z, hz', rfl⟩ := hk
    obtain ⟨hkl, hz2⟩ := List.getElem?_eq_some_iff.mp hz'
    have okz := ok z (List.mem_of_getElem? hz')
    rw [List.drop_eq_getElem_cons hkl, hz2, gapsL] at e2
    refine ⟨_, rfl, ?_⟩
    walk_at "ev"
    by_cases c : h < z.1
    · rw [if_pos c]
      have h4 := okz.2.2.2
      refine fin l' acc ?_ (by omega)
      rw [← e2, gapsL_beyond _ _ _ (by omega), List.append_nil]
      by_cases c2 : l' ≤ h
      · rw [if_pos c2, if_pos (by omega), show min (z.1 - 1) h = h from by omega]
      · rw [if_neg c2, if_neg (by omega)]
    · rw [if_neg c]
      by_cases c2 : l' < z.1
      · rw [if_pos c2]
        rw [if_pos (by omega), show min (z.1 - 1) h = z.1 - 1 from by omega] at e2
        refine ⟨by omega, ?_⟩
        exact ⟨_, acc ++ [(l', z.1 - 1)], _, _, _, by rw [List.map_append]; rfl, by rw [List.append_assoc]; exact e2, by simp; omega⟩
      · rw [if_neg c2]
        rw [if_neg (fun z => c2 z.1)] at e2
        exact ⟨_, acc, _, _, _, rfl, e2, by omega⟩
  · subst e
    rw [List.length_map, List.drop_length, gapsL] at e2
    rw [List.length_map] at e3
    walk_at "ev"
    exact fin l' acc e2 (by omega)
/-! ### law k03 -/
theorem true_k03 {ns : List Int} (hl : ns.length ≤ 63) (hB : ∀ z ∈ ns, Builtin.Int.intBits z ≤ 1048576) : m_law_k03 [.scr ns] = some (.bl true) := by
  refine def_gv rfl ?_
  unfold b_law_k03
  have hlen := rowL_len ns 4
  have hok := rowL_ok (ns := ns) (i := 4)
  walk_at "ev"
  rw [p_row (by omega) (by omega) hl hB]
  walk_at "ev"
  obtain ⟨dq, eq, q, rfl, okq⟩ := p_ask (i := 0) (row := rowL ns 4) (by omega) hl hB
  rw [eq]
  have ed : ∀ j : Int, dIx (pd q) (.int j) = atI [D.int q.1, D.int q.2] j := fun _ => rfl
  have eg := p_law_gaps (zs := rowL ns 4) (l := q.1) (h := q.2) (by omega)
  have ep := p_gaps_of (zs := rowL ns 4) (l := q.1) (h := q.2) okq hok (by omega)
  have hgl := gapsL_len (rowL ns 4) q.1 q.2
  have el := p_list_isP (xs := gapsL (rowL ns 4) q.1 q.2) (ys := gapsL (rowL ns 4) q.1 q.2) (by omega) (by omega)
  have el2 := p_list_isS (xs := rowL ns 4) (ys := rowL ns 4) (by omega) (by omega)
  have himm : D.imms ((gapsL (rowL ns 4) q.1 q.2).map pd) = true := imms_map (fun p => imm_tupI _) _
  have hpd : (pd q).imm = true := imm_tupI _
  walk_at "ev"
  simp only [ed, hpd, eg, ep, el, el2, himm]
  walk_at "ev"
  simp only [ed, hpd, eg, ep, el, el2, himm]
  walk_at "ev"
  simp only [ed, hpd, eg, ep, el, el2, himm]
  walk_at "ev"
  omega
end
end Sp

set_option Elab.async false
set_option linter.all false
set_option maxRecDepth 100000
set_option maxHeartbeats 2000000
namespace Sp
open PySem L2
open Classical
noncomputable section
local macro_rules | `(tactic| walk_at "ev") => `(tactic| try simp only [gv_next, gv_brk, gv_cnt, gv_retN, gv_seq, nx_nx, nx_rt, nx_bk, nx_ct, gv_set, gv_setF, gv_own, gv_ret, gv_drop, gv_retO, gv_if, gv_app, gv_unp, gv_pop, gv_put, gv_par, gv_forF, gv_forN, gv_forT, gv_forR,
  ge_var, ge_c, ge_op, ge_un, gl_nil, gl_cons, ge_call, ge_meth, ge_tup, ge_lst, ge_ii, ge_sl, go_none, go_int, gb_val, gb_truth, gb_and, gb_or, gb_not, gb_yes, ge_and, ge_or, ge_if, ge_chain, ge_some, gb_some, gl_some, go_some, ge_guard, ge_lc, ge_lcT, ge_lcR, ge_eqI, ge_neI, ge_eqB, ge_neB,
  frm, full, SV.full, gt, sgt, setAll, Tg.put, List.map, List.replicate, List.set, List.length_cons, List.length_nil, List.length_append, List.length_map, List.append_nil, List.nil_append, List.cons_append, Nat.sub_self, Nat.reduceAdd, Nat.reduceSub, Nat.zero_add, Nat.add_zero,
  noOwn, List.all_cons, List.all_nil, SV.free, D.imm, D.imms, imm_sd, imms_sd, imm_tupI, Bool.and_true, Bool.true_and, Bool.and_self, Bool.false_and, Bool.and_false, true_or, or_true, or_self, false_or, or_false, true_and, and_true, if_true, if_false, Bool.false_eq_true,
  D.int.injEq, D.bl.injEq, D.lst.injEq, D.tup.injEq, D.str.injEq, D.box.injEq, D.wood.injEq, SV.v.injEq, SV.own.injEq, Option.some.injEq, exists_eq_left', exists_eq_left, exists_and_left, reduceCtorEq, false_and, and_false, exists_false,
  fLen_lst, fLen_tup, fLen_scr, fLen_sd, fMax2_ii, fMin2_ii, fInt1_i, fInt1_b, fListOf_lst, fSorted_sd, fSum_i, dIx_sd0, dIx_sd1, dIx_sd2, dIx_lst, dIx_tup, dIx_scr, atI_0, atI_1, atI_2, atI_3, dSl_lst, dSl_scr, dCat_ll, dRep_l, dNot_b, dNeg_i, dNotBl_b, dNotBl_i, dNotBl_n, dNotBl_s, dNotBl_t, dNotBl_l, dIsN_non, dIsN_int, dIsN_lst, dNotN_non, dNotN_lst, dIsN_nil, dIsN_node, dNotN_nil, dNotN_node, isi_int_non, isi_int_bl, isi_int_int, isi_int_str, isi_int_tup, isi_int_lst, isi_int_sd, isi_bool_non, isi_bool_bl, isi_bool_int, isi_bool_str, isi_bool_tup, isi_bool_lst, isi_bool_sd, isi_tuple_non, isi_tuple_bl, isi_tuple_int, isi_tuple_str, isi_tuple_tup, isi_tuple_lst, isi_tuple_sd, isi_list_non, isi_list_bl, isi_list_int, isi_list_str, isi_list_tup, isi_list_lst, isi_list_sd, tyi_non, tyi_bl, tyi_int, tyi_str, tyi_tup, tyi_lst, ge_eqT, ge_neT, ge_eqS, ge_neS, ge_inS, ge_ninS, ge_eqLS, ge_neLS, Option.map_some, Bool.not_true, Bool.not_false, Bool.not_not, decide_eq_true_eq, decide_eq_false_iff_not, Bool.not_eq_true', Bool.not_eq_false', Bool.not_eq_true, decide_true, decide_false,
  Int.reduceLT, Nat.reduceLT, Int.reduceLE, Nat.reduceLeDiff, sizeLine_eq, and_self, ite_self, not_false_eq_true, not_true_eq_false, implies_true, imp_self, forall_const, true_implies])
local macro_rules | `(tactic| walk_at "st") => `(tactic| try simp only [gv_next, gv_brk, gv_cnt, gv_retN, gv_seq, nx_nx, nx_rt, nx_bk, nx_ct, gv_set, gv_setF, gv_own, gv_ret, gv_drop, gv_retO, gv_app, gv_unp, gv_pop, gv_put, gv_par, gv_forF, gv_forN, gv_forT, gv_forR,
  ge_var, ge_c, ge_op, ge_un, gl_nil, gl_cons, ge_call, ge_meth, ge_tup, ge_lst, ge_ii, ge_sl, go_none, go_int, gb_val, gb_truth, gb_and, gb_or, gb_not, gb_yes, ge_and, ge_or, ge_if, ge_chain, ge_some, gb_some, gl_some, go_some, ge_guard, ge_lc, ge_lcT, ge_lcR, ge_eqI, ge_neI, ge_eqB, ge_neB,
  frm, full, SV.full, gt, sgt, setAll, Tg.put, List.map, List.replicate, List.set, List.length_cons, List.length_nil, List.length_append, List.length_map, List.append_nil, List.nil_append, List.cons_append, Nat.sub_self, Nat.reduceAdd, Nat.reduceSub, Nat.zero_add, Nat.add_zero,
  noOwn, List.all_cons, List.all_nil, SV.free, D.imm, D.imms, imm_sd, imms_sd, imm_tupI, Bool.and_true, Bool.true_and, Bool.and_self, Bool.false_and, Bool.and_false, true_or, or_true, or_self, false_or, or_false, true_and, and_true, if_true, if_false, Bool.false_eq_true,
  D.int.injEq, D.bl.injEq, D.lst.injEq, D.tup.injEq, D.str.injEq, D.box.injEq, D.wood.injEq, SV.v.injEq, SV.own.injEq, Option.some.injEq, exists_eq_left', exists_eq_left, exists_and_left, reduceCtorEq, false_and, and_false, exists_false,
  fLen_lst, fLen_tup, fLen_scr, fLen_sd, fMax2_ii, fMin2_ii, fInt1_i, fInt1_b, fListOf_lst, fSorted_sd, fSum_i, dIx_sd0, dIx_sd1, dIx_sd2, dIx_lst, dIx_tup, dIx_scr, atI_0, atI_1, atI_2, atI_3, dSl_lst, dSl_scr, dCat_ll, dRep_l, dNot_b, dNeg_i, dNotBl_b, dNotBl_i, dNotBl_n, dNotBl_s, dNotBl_t, dNotBl_l, dIsN_non, dIsN_int, dIsN_lst, dNotN_non, dNotN_lst, dIsN_nil, dIsN_node, dNotN_nil, dNotN_node, isi_int_non, isi_int_bl, isi_int_int, isi_int_str, isi_int_tup, isi_int_lst, isi_int_sd, isi_bool_non, isi_bool_bl, isi_bool_int, isi_bool_str, isi_bool_tup, isi_bool_lst, isi_bool_sd, isi_tuple_non, isi_tuple_bl, isi_tuple_int, isi_tuple_str, isi_tuple_tup, isi_tuple_lst, isi_tuple_sd, isi_list_non, isi_list_bl, isi_list_int, isi_list_str, isi_list_tup, isi_list_lst, isi_list_sd, tyi_non, tyi_bl, tyi_int, tyi_str, tyi_tup, tyi_lst, ge_eqT, ge_neT, ge_eqS, ge_neS, ge_inS, ge_ninS, ge_eqLS, ge_neLS, Option.map_some, Bool.not_true, Bool.not_false, Bool.not_not, decide_eq_true_eq, decide_eq_false_iff_not, Bool.not_eq_true', Bool.not_eq_false', Bool.not_eq_true, decide_true, decide_false,
  Int.reduceLT, Nat.reduceLT, Int.reduceLE, Nat.reduceLeDiff, sizeLine_eq, and_self, ite_self, not_false_eq_true, not_true_eq_false, implies_true, imp_self, forall_const, true_implies])

/-! ### clumps -/
def clumpF (acc : List S3) (z : S3) : List S3 := match acc.getLast? with
  | some c => if z.1 ≤ c.2.1 then acc.dropLast ++ [(c.1, max c.2.1 z.2.1, c.2.2 + 1)] else acc ++ [(z.1, z.2.1, 1)]
  | none => acc ++ [(z.1, z.2.1, 1)]
def clumpsL (zs : List S3) : List S3 := zs.foldl clumpF []
theorem clumpF_nil (z : S3) : clumpF [] z = [(z.1, z.2.1, 1)] := rfl
theorem clumpF_snoc (xs : List S3) (c z : S3) : clumpF (xs ++ [c]) z = if z.1 ≤ c.2.1 then xs ++ [(c.1, max c.2.1 z.2.1, c.2.2 + 1)] else xs ++ [c] ++ [(z.1, z.2.1, 1)] := by
  unfold clumpF
  rw [List.getLast?_concat, List.dropLast_concat]
theorem clumpF_len (acc : List S3) (z : S3) : (clumpF acc z).length ≤ acc.length + 1 := by
  rcases List.eq_nil_or_concat acc with rfl | ⟨xs, c, rfl⟩
  · rw [clumpF_nil]; simp
  · rw [List.concat_eq_append, clumpF_snoc]; split <;> simp
theorem foldl_clump_len : ∀ (zs acc : List S3), (zs.foldl clumpF acc).length ≤ acc.length + zs.length
  | [], acc => by simp
  | z :: zs, acc => by
    have h1 := foldl_clump_len zs (clumpF acc z)
    have h2 := clumpF_len acc z
    rw [List.foldl_cons, List.length_cons]
    omega
theorem clumpsL_len (zs : List S3) : (clumpsL zs).length ≤ zs.length := by
  have := foldl_clump_len zs []
  simpa [clumpsL] using this
/-- g is a clump that c tells -/
structure Grp (g : List S3) (c : S3) : Prop where
  ne : g ≠ []
  lo : ∀ x ∈ g, c.1 ≤ x.1
  loAt : ∃ x ∈ g, x.1 = c.1
  hi : ∀ x ∈ g, x.2.1 ≤ c.2.1
  hiAt : ∃ x ∈ g, x.2.1 = c.2.1
  many : c.2.2 = g.length
  over : ∀ x ∈ g, x.2.1 < c.2.1 → ∃ y ∈ g, y.1 ≤ x.2.1 ∧ x.2.1 < y.2.1
inductive CI : List (List S3) → List S3 → Prop
  | nil : CI [] []
  | snoc {gs : List (List S3)} {cs : List S3} {g : List S3} {c : S3} : CI gs cs → Grp g c → (∀ d ∈ cs, d.2.1 < c.1) → CI (gs ++ [g]) (cs ++ [c])
theorem CI.inv {gs : List (List S3)} {cs : List S3} {c : S3} (h : CI gs (cs ++ [c])) : ∃ gs' g, gs = gs' ++ [g] ∧ CI gs' cs ∧ Grp g c ∧ ∀ d ∈ cs, d.2.1 < c.1 := by
  generalize e : cs ++ [c] = l at h
  cases h with
  | nil => simp at e
  | @snoc gs' cs' g c' h1 h2 h3 =>
    have := List.append_inj' e rfl
    obtain ⟨rfl, e2⟩ := this
    cases e2
    exact ⟨gs', g, rfl, h1, h2, h3⟩
theorem grp_one {z : S3} (ok : z.1 ≤ z.2.1) : Grp [z] (z.1, z.2.1, 1) := by
  refine ⟨by simp, ?_, ⟨z, by simp, rfl⟩, ?_, ⟨z, by simp, rfl⟩, rfl, ?_⟩
  · intro x hx; rw [List.mem_singleton] at hx; subst hx; exact Int.le_refl _
  · intro x hx; rw [List.mem_singleton] at hx; subst hx; exact Int.le_refl _
  · intro x hx h; rw [List.mem_singleton] at hx; subst hx; exact absurd h (by simp)
theorem grp_add {g : List S3} {c z : S3} (G : Grp g c) (ok : z.1 ≤ z.2.1) (hz : z.1 ≤ c.2.1) (hs : ∀ x ∈ g, x.1 ≤ z.1) : Grp (g ++ [z]) (c.1, max c.2.1 z.2.1, c.2.2 + 1) := by
  obtain ⟨xl, hxl, exl⟩ := G.loAt
  obtain ⟨xh, hxh, exh⟩ := G.hiAt
  refine ⟨by simp, ?_, ⟨xl, List.mem_append_left _ hxl, exl⟩, ?_, ?_, ?_, ?_⟩
  · intro x hx
    rcases List.mem_append.mp hx with hx | hx
    · exact G.lo x hx
    · rw [List.mem_singleton] at hx; subst hx
      have := hs xl hxl
      simp only; omega
  · intro x hx
    simp only
    rcases List.mem_append.mp hx with hx | hx
    · have := G.hi x hx; omega
    · rw [List.mem_singleton] at hx; subst hx; omega
  · simp only
    by_cases c1 : z.2.1 ≤ c.2.1
    · exact ⟨xh, List.mem_append_left _ hxh, by omega⟩
    · exact ⟨z, by simp, by omega⟩
  · rw [List.length_append]
    have := G.many
    simp only [List.length_cons, List.length_nil]
    omega
  · intro x hx h
    simp only at h
    rcases List.mem_append.mp hx with hx | hx
    · by_cases c1 : x.2.1 < c.2.1
      · obtain ⟨y, hy, h1, h2⟩ := G.over x hx c1
        exact ⟨y, List.mem_append_left _ hy, h1, h2⟩
      · have := G.hi x hx
        exact ⟨z, by simp, by omega, by omega⟩
    · rw [List.mem_singleton] at hx; subst hx
      have h2 := hs xh hxh
      exact ⟨xh, List.mem_append_left _ hxh, by omega, by omega⟩
theorem clump_fold : ∀ (rest acc : List S3) (gs : List (List S3)), CI gs acc → (∀ z ∈ rest, z.1 ≤ z.2.1) → rest.Pairwise (fun a b => a.1 ≤ b.1) → (∀ g ∈ gs, ∀ x ∈ g, ∀ z ∈ rest, x.1 ≤ z.1) →
    ∃ gs', CI gs' (rest.foldl clumpF acc) ∧ gs'.flatten = gs.flatten ++ rest
  | [], acc, gs, h, _, _, _ => ⟨gs, h, by simp⟩
  | z :: rest, acc, gs, h, ok, pw, hs => by
    rw [List.pairwise_cons] at pw
    have okz := ok z List.mem_cons_self
    have step : ∃ gs2, CI gs2 (clumpF acc z) ∧ gs2.flatten = gs.flatten ++ [z] ∧ ∀ g ∈ gs2, ∀ x ∈ g, ∀ w ∈ rest, x.1 ≤ w.1 := by
      have hall : ∀ x ∈ gs.flatten ++ [z], ∀ w ∈ rest, x.1 ≤ w.1 := fun x hx w hw => by
        rcases List.mem_append.mp hx with hx | hx
        · obtain ⟨g, hg, hxg⟩ := List.mem_flatten.mp hx
          exact hs g hg x hxg w (List.mem_cons_of_mem _ hw)
        · rw [List.mem_singleton] at hx; subst hx
          exact pw.1 w hw
      have conv : ∀ gs2 : List (List S3), gs2.flatten = gs.flatten ++ [z] → ∀ g ∈ gs2, ∀ x ∈ g, ∀ w ∈ rest, x.1 ≤ w.1 := fun gs2 e g hg x hx => hall x (by rw [← e]; exact List.mem_flatten.mpr ⟨g, hg, hx⟩)
      rcases List.eq_nil_or_concat acc with rfl | ⟨xs, c, rfl⟩
      · rw [clumpF_nil]
        generalize e : ([] : List S3) = l at h
        cases h with
        | nil => exact ⟨[] ++ [[z]], CI.snoc (cs := []) .nil (grp_one okz) (fun d hd => by cases hd), by simp, conv _ (by simp)⟩
        | snoc _ _ _ => simp at e
      · rw [List.concat_eq_append] at h ⊢
        obtain ⟨gs', g, rfl, h1, h2, h3⟩ := h.inv
        rw [clumpF_snoc]
        have hsg : ∀ x ∈ g, x.1 ≤ z.1 := fun x hx => hs g (by simp) x hx z List.mem_cons_self
        by_cases cz : z.1 ≤ c.2.1
        · rw [if_pos cz]
          have e : (gs' ++ [g ++ [z]]).flatten = (gs' ++ [g]).flatten ++ [z] := by simp
          exact ⟨gs' ++ [g ++ [z]], .snoc h1 (grp_add h2 okz cz hsg) h3, e, conv _ e⟩
        · rw [if_neg cz]
          have e : (gs' ++ [g] ++ [[z]]).flatten = (gs' ++ [g]).flatten ++ [z] := by simp
          refine ⟨gs' ++ [g] ++ [[z]], .snoc (.snoc h1 h2 h3) (grp_one okz) (fun d hd => ?_), e, conv _ e⟩
          rcases List.mem_append.mp hd with hd | hd
          · have a1 := h3 d hd
            obtain ⟨x, hx, ex⟩ := h2.loAt
            have a2 := hsg x hx
            simp only; omega
          · rw [List.mem_singleton] at hd; subst hd
            simp only; omega
    obtain ⟨gs2, c1, c2, c3⟩ := step
    obtain ⟨gs3, d1, d2⟩ := clump_fold rest (clumpF acc z) gs2 c1 (fun w hw => ok w (List.mem_cons_of_mem _ hw)) pw.2 c3
    exact ⟨gs3, d1, by rw [d2, c2]; simp⟩
/-- what the filter of a clump's span is -/
def inC (c x : S3) : Bool := decide (c.1 ≤ x.1) && decide (x.2.1 ≤ c.2.1)
theorem filter_none {α : Type} {p : α → Bool} {l : List α} (h : ∀ x ∈ l, p x = false) : l.filter p = [] := List.filter_eq_nil_iff.mpr fun x hx => by rw [h x hx]; decide
theorem ci_facts : ∀ {gs : List (List S3)} {cs : List S3}, CI gs cs → (∀ x ∈ gs.flatten, x.1 ≤ x.2.1) →
    (∀ c ∈ cs, Grp (gs.flatten.filter (inC c)) c) ∧ cs.Pairwise (fun c d => c.2.1 < d.1) ∧ (cs.map (·.2.2)).sum = gs.flatten.length ∧ ∀ x ∈ gs.flatten, ∃ c ∈ cs, c.1 ≤ x.1 ∧ x.2.1 ≤ c.2.1 := by
  intro gs cs h
  induction h with
  | nil => exact fun _ => ⟨(fun c hc => nomatch hc), List.Pairwise.nil, rfl, (fun x hx => nomatch hx)⟩
  | @snoc gs cs g c h1 h2 h3 ih =>
    intro ok
    rw [List.flatten_append, List.flatten_singleton] at ok ⊢
    obtain ⟨i1, i2, i3, i4⟩ := ih fun x hx => ok x (List.mem_append_left _ hx)
    have pg : g.filter (inC c) = g := List.filter_eq_self.mpr fun x hx => by
      unfold inC
      rw [decide_eq_true (h2.lo x hx), decide_eq_true (h2.hi x hx)]; rfl
    have pold : ∀ x ∈ gs.flatten, inC c x = false := fun x hx => by
      obtain ⟨d, hd, e1, e2⟩ := i4 x hx
      have := h3 d hd
      have := ok x (List.mem_append_left _ hx)
      unfold inC
      rw [decide_eq_false (by omega : ¬ c.1 ≤ x.1)]; rfl
    refine ⟨fun d hd => ?_, ?_, ?_, fun x hx => ?_⟩
    · rw [List.filter_append]
      rcases List.mem_append.mp hd with hd | hd
      · have : g.filter (inC d) = [] := filter_none fun x hx => by
          have a1 := h3 d hd
          have a2 := h2.lo x hx
          have a3 := ok x (List.mem_append_right _ hx)
          unfold inC
          rw [decide_eq_false (by omega : ¬ x.2.1 ≤ d.2.1), Bool.and_false]
        rw [this, List.append_nil]
        exact i1 d hd
      · rw [List.mem_singleton] at hd; subst hd
        rw [filter_none pold, List.nil_append, pg]
        exact h2
    · rw [List.pairwise_append]
      refine ⟨i2, List.pairwise_singleton _ _, fun d hd e he => ?_⟩
      rw [List.mem_singleton] at he; subst he
      exact h3 d hd
    · rw [List.map_append, List.sum_append, i3, List.length_append]
      simp only [List.map_cons, List.map_nil, List.sum_cons, List.sum_nil]
      have := h2.many
      omega
    · rcases List.mem_append.mp hx with hx | hx
      · obtain ⟨d, hd, e⟩ := i4 x hx
        exact ⟨d, List.mem_append_left _ hd, e⟩
      · exact ⟨c, by simp, h2.lo x hx, h2.hi x hx⟩
theorem clumps_facts {zs : List S3} (ok : ∀ z ∈ zs, Okay3 z) (pw : zs.Pairwise (fun a b => le3 a b = true)) :
    (∀ c ∈ clumpsL zs, Grp (zs.filter (inC c)) c) ∧ (clumpsL zs).Pairwise (fun c d => c.2.1 < d.1) ∧ ((clumpsL zs).map (·.2.2)).sum = zs.length := by
  obtain ⟨gs, h1, h2⟩ := clump_fold zs [] [] .nil (fun z hz => (ok z hz).2.2.2) (pw.imp fun {a b} h => by rw [le3_iff] at h; omega) (fun g hg => by cases hg)
  rw [List.flatten_nil, List.nil_append] at h2
  have := ci_facts h1 (by rw [h2]; exact fun z hz => (ok z hz).2.2.2)
  rw [h2] at this
  exact ⟨this.1, this.2.1, this.2.2.1⟩
/-! #### the program's clumps -/
theorem atI_last' {α : Type} (xs : List α) (c : α) : atI (xs ++ [c]) (-1) = some c := by
  unfold atI ixN
  rw [if_neg (by decide), if_pos (by simp; omega)]
  have : (-1 + ((xs ++ [c]).length : Int)).toNat = xs.length := by rw [List.length_append, List.length_singleton]; omega
  rw [Option.bind_some, this]
  simp
theorem ixN_last {n : Nat} : ixN (n + 1) (-1) = some n := by
  unfold ixN
  rw [if_neg (by decide), if_pos (by omega)]
  congr 1
  omega
theorem p_clumps_of {zs : List S3} (ok : ∀ z ∈ zs, Okay3 z) (hz : zs.length ≤ 1000) : m_clumps_of [.lst (zs.map sd)] = some (.lst ((clumpsL zs).map sd)) := by
  refine def_gv rfl ?_
  unfold b_clumps_of
  walk_at "ev"
  rw [ge_check_row ok]
  walk_at "ev"
  refine gv_forV rfl ?_
  refine gv_for (fun k ρ => ∃ acc a b c d e f, ρ = [.v (.lst (zs.map sd)), .own (acc.map sd), a, b, c, d, e, f] ∧ (zs.drop k).foldl clumpF acc = clumpsL zs ∧ acc.length ≤ k) ⟨[], _, _, _, _, _, _, rfl, rfl, Nat.le_refl _⟩ (fun k dd ρ hk ⟨acc, a, b, c, d, e, f, e1, e2, e3⟩ => ?_) (fun ρ ⟨acc, a, b, c, d, e, f, e1, e2, e3⟩ => ?_)
  · subst e1
    rw [List.getElem?_map, Option.map_eq_some_iff] at hk
    obtain ⟨z, hz', rfl⟩ := hk
    obtain ⟨hkl, hz2⟩ := List.getElem?_eq_some_iff.mp hz'
    rw [List.drop_eq_getElem_cons hkl, hz2, List.foldl_cons] at e2
    refine ⟨_, rfl, ?_⟩
    walk_at "ev"
    rcases List.eq_nil_or_concat acc with rfl | ⟨xs, l, rfl⟩
    · simp only [List.map_nil, List.isEmpty_nil]
      walk_at "ev"
      rw [clumpF_nil] at e2
      exact ⟨[(z.1, z.2.1, 1)], _, _, _, _, _, _, rfl, e2, by simp⟩
    · rw [List.concat_eq_append] at e2 e3 ⊢
      rw [clumpF_snoc] at e2
      rw [List.length_append, List.length_singleton] at e3
      have h0 : (List.map sd (xs ++ [l])).isEmpty = false := by simp
      have h1 : atI (List.map sd (xs ++ [l])) (-1) = some (sd l) := by rw [List.map_append]; exact atI_last' _ _
      have h2 : List.length (xs ++ [l]) = xs.length + 1 := by simp
      simp only [h0, h1, h2]
      walk_at "ev"
      by_cases cz : z.1 ≤ l.2.1
      · rw [if_pos cz] at e2 ⊢
        have hs : ∀ z : S3, sd z = D.tup [.int z.1, .int z.2.1, .int z.2.2] := fun _ => rfl
        simp only [hs]
        walk_at "ev"
        simp only [h2, ixN_last]
        walk_at "ev"
        have hset : (List.map sd (xs ++ [l])).set xs.length (D.tup [.int l.1, .int (max l.2.1 z.2.1), .int (l.2.2 + 1)]) = List.map sd (xs ++ [(l.1, max l.2.1 z.2.1, l.2.2 + 1)]) := by
          rw [List.map_append, List.map_append, List.set_append_right _ _ (by rw [List.length_map]; exact Nat.le_refl _), List.length_map, Nat.sub_self]
          rfl
        rw [hset]
        exact ⟨_, _, _, _, _, _, _, rfl, e2, by simp; omega⟩
      · rw [if_neg cz] at e2 ⊢
        refine ⟨by omega, ?_⟩
        exact ⟨xs ++ [l] ++ [(z.1, z.2.1, 1)], _, _, _, _, _, _, (show _ = [SV.v (D.lst (List.map sd zs)), SV.own (List.map sd ((xs ++ [l]) ++ [(z.1, z.2.1, 1)])), _, _, _, _, _, _] from by rw [List.map_append (l₁ := xs ++ [l])]; rfl), e2, by simp; omega⟩
  · subst e1
    rw [List.length_map, List.drop_length] at e2
    walk_at "ev"
    rw [← e2]
    rfl
/-! #### the law's look at a clump -/
theorem p_triple {c : S3} : m_law_triple [sd c] = some (.bl true) := by
  refine def_gv rfl ?_
  unfold b_law_triple
  walk_at "ev"
  simp only [ge_is_int]
  walk_at "ev"
theorem min_is {ns : List Int} {m : Int} (h : m ∈ ns) (h2 : ∀ x ∈ ns, m ≤ x) : ns.min? = some m := List.min?_eq_some_iff.mpr ⟨h, h2⟩
theorem max_is {ns : List Int} {m : Int} (h : m ∈ ns) (h2 : ∀ x ∈ ns, x ≤ m) : ns.max? = some m := List.max?_eq_some_iff.mpr ⟨h, h2⟩
theorem lc_col {ρ : DEnv} {i : Nat} {f : S3 → Int} {me : EM} {xs : List S3} {PL : List D → Prop} (h : ∀ x ∈ xs, Ge (me (ρ.set i (some (sd x)))) (fun d => d = .int (f x))) (q : PL ((xs.map f).map .int)) : Gl (lcL i bYes me (xs.map sd) ρ) PL :=
  gl_lc sd (fun x => D.int (f x)) (fun _ => true) (fun x hx => ⟨gb_yes.mpr rfl, fun _ => ⟨h x hx, rfl⟩⟩) (by rw [filter_true]; rw [List.map_map] at q; exact q)
theorem p_clump {c : S3} {zs : List S3} (hz : zs.length ≤ 1000) (G : Grp (zs.filter (inC c)) c) : m_law_clump [sd c, .lst (zs.map sd)] = some (.bl true) := by
  refine def_gv rfl ?_
  unfold b_law_clump
  walk_at "ev"
  refine ⟨by omega, ?_⟩
  refine gl_lcS (inC c) (by simp) (fun x hx => ?_) ?_
  · walk_at "ev"
    unfold inC
    by_cases h1 : c.1 ≤ x.1 <;> by_cases h2 : x.2.1 ≤ c.2.1 <;> simp [h1, h2]
  have hlen : (zs.filter (inC c)).length ≤ zs.length := List.length_filter_le _ _
  generalize zs.filter (inC c) = g at *
  obtain ⟨xl, hxl, exl⟩ := G.loAt
  obtain ⟨xh, hxh, exh⟩ := G.hiAt
  have e1 := fMinL_i (min_is (ns := g.map (·.1)) (m := c.1) (List.mem_map.mpr ⟨xl, hxl, exl⟩) (fun y hy => by obtain ⟨x, hx, rfl⟩ := List.mem_map.mp hy; exact G.lo x hx))
  have e2 := fMaxL_i (max_is (ns := g.map (·.2.1)) (m := c.2.1) (List.mem_map.mpr ⟨xh, hxh, exh⟩) (fun y hy => by obtain ⟨x, hx, rfl⟩ := List.mem_map.mp hy; exact G.hi x hx))
  have hne : ¬ (g.length : Int) = 0 := by
    have := List.length_pos_iff.mpr G.ne
    omega
  walk_at "ev"
  rw [if_neg hne]
  simp only [G.many]
  walk_at "ev"
  refine ⟨by omega, lc_col (f := (·.1)) (fun x _ => by walk_at "ev") ?_⟩
  rw [e1]
  walk_at "ev"
  refine ⟨by omega, lc_col (f := (·.2.1)) (fun x _ => by walk_at "ev") ?_⟩
  rw [e2]
  walk_at "ev"
  refine gv_forV rfl ?_
  refine gv_for (fun k ρ => ∃ a b, ρ = [.v (sd c), .v (.lst (zs.map sd)), a, .v (.lst (g.map sd)), b, .no] ∧ (b = .no ∨ ∃ d, b = .v d)) ⟨_, _, rfl, .inl rfl⟩ (fun k dd ρ hk ⟨a, b, e, hb⟩ => ?_) (fun ρ ⟨a, b, e, _⟩ => ?_)
  · subst e
    rw [List.getElem?_map, Option.map_eq_some_iff] at hk
    obtain ⟨x, hx, rfl⟩ := hk
    have hxg := List.mem_of_getElem? hx
    refine ⟨_, rfl, ?_⟩
    have hover : x.2.1 < c.2.1 → ¬ ((g.filter (fun y => decide (y.1 ≤ x.2.1) && decide (x.2.1 < y.2.1))).length : Int) = 0 := fun h => by
      obtain ⟨y, hy, h1, h2⟩ := G.over x hxg h
      have hm : y ∈ g.filter (fun y => decide (y.1 ≤ x.2.1) && decide (x.2.1 < y.2.1)) := List.mem_filter.mpr ⟨hy, by simp [h1, h2]⟩
      have := List.length_pos_of_mem hm
      omega
    have hf : ∀ y : S3, y ∈ g → ∀ ρ : DEnv, gt ρ 2 = some (sd x) → gt ρ 5 = some (sd y) → Gb ((bVal (eChain dLe dLt (eOp dIx (eVar 5) (eC (.int 0))) (eOp dIx (eVar 2) (eC (.int 1))) (eOp dIx (eVar 5) (eC (.int 1))))) ρ) (fun k => k = (decide (y.1 ≤ x.2.1) && decide (x.2.1 < y.2.1))) := fun y hy ρ h1 h2 => by
      rw [gb_val, ge_chain]
      simp only [ge_op, ge_var, h1, h2, ge_c, ge_some]
      walk_at "ev"
      by_cases h1 : y.1 ≤ x.2.1 <;> by_cases h2 : x.2.1 < y.2.1 <;> simp [h1, h2]
    rcases hb with rfl | ⟨bd, rfl⟩ <;>
    · walk_at "ev"
      refine ⟨by omega, gl_lcS (fun y => decide (y.1 ≤ x.2.1) && decide (x.2.1 < y.2.1)) (by simp) (fun y hy => hf y hy _ rfl rfl) ?_⟩
      walk_at "ev"
      by_cases h : x.2.1 < c.2.1
      · rw [if_pos h, if_neg (hover h)]
        exact ⟨_, _, rfl, .inr ⟨_, rfl⟩⟩
      · rw [if_neg h]
        exact ⟨_, _, rfl, .inr ⟨_, rfl⟩⟩
  · subst e
    walk_at "ev"
/-! ### law k04 -/
theorem true_k04 {ns : List Int} (hl : ns.length ≤ 63) (hB : ∀ z ∈ ns, Builtin.Int.intBits z ≤ 1048576) : m_law_k04 [.scr ns] = some (.bl true) := by
  refine def_gv rfl ?_
  unfold b_law_k04
  have hlen := rowL_len ns 0
  have hok := rowL_ok (ns := ns) (i := 0)
  have hcl := clumpsL_len (rowL ns 0)
  obtain ⟨f1, f2, f3⟩ := clumps_facts hok (rowL_pw ns 0)
  walk_at "ev"
  rw [p_row (by omega) (by omega) hl hB]
  walk_at "ev"
  have ep := p_clumps_of hok (by omega)
  have el2 := p_list_isS (xs := rowL ns 0) (ys := rowL ns 0) (by omega) (by omega)
  generalize rowL ns 0 = zs at *
  generalize clumpsL zs = cs at *
  simp only [ep, el2]
  walk_at "ev"
  refine ⟨_, rng1_nat (by omega), ?_⟩
  rw [map_dint]
  refine gv_for (fun k ρ => ∃ a, ρ = [.v (.scr ns), .v (.lst (zs.map sd)), .v (.lst (zs.map sd)), .own (cs.map sd), .v (.int ((cs.take k).map (·.2.2)).sum), a, .no]) ⟨_, rfl⟩ (fun k dd ρ hk ⟨a, e⟩ => ?_) (fun ρ ⟨a, e⟩ => ?_)
  · subst e
    rw [List.getElem?_map, Option.map_eq_some_iff] at hk
    obtain ⟨k', hk2, rfl⟩ := hk
    obtain ⟨hk3, hk4⟩ := List.getElem?_eq_some_iff.mp hk2
    rw [List.length_range] at hk3
    rw [List.getElem_range] at hk4
    subst hk4
    refine ⟨_, rfl, ?_⟩
    have a1 : atI (cs.map sd) (k : Int) = some (sd cs[k]) := by rw [atI_map, atI_nat' hk3]; rfl
    have hG := p_clump (by omega) (f1 cs[k] (List.getElem_mem hk3))
    walk_at "ev"
    simp only [a1, p_triple, hG]
    walk_at "ev"
    simp only [a1, p_triple, hG]
    walk_at "ev"
    have fin : ∃ a, [SV.v (D.scr ns), .v (.lst (zs.map sd)), .v (.lst (zs.map sd)), .own (cs.map sd), .v (.int (((cs.take k).map (·.2.2)).sum + cs[k].2.2)), .v (.int k), .no] = [SV.v (D.scr ns), .v (.lst (zs.map sd)), .v (.lst (zs.map sd)), .own (cs.map sd), .v (.int ((cs.take (k + 1)).map (·.2.2)).sum), a, .no] := by
      refine ⟨.v (.int k), ?_⟩
      have h1 : (cs.take (k + 1)).map (·.2.2) = (cs.take k).map (·.2.2) ++ [cs[k].2.2] := by
        rw [List.take_succ, List.getElem?_eq_getElem hk3, List.map_append]
        rfl
      rw [h1, List.sum_append]
      simp only [List.sum_cons, List.sum_nil, Int.add_zero]
    by_cases c0 : 0 < (k : Int)
    · rw [if_pos c0]
      have a2 : atI (cs.map sd) ((k : Int) - 1) = some (sd (cs[k - 1]'(by omega))) := by
        rw [show (k : Int) - 1 = ((k - 1 : Nat) : Int) from by omega, atI_map, atI_nat' (by omega)]; rfl
      rw [a2]
      walk_at "ev"
      have := List.pairwise_iff_getElem.mp f2 (k - 1) k (by omega) hk3 (by omega)
      rw [if_neg (by omega)]
      exact fin
    · rw [if_neg c0]
      exact fin
  · subst e
    rw [List.length_map, List.length_range, List.take_length, f3]
    walk_at "ev"
    refine ⟨by omega, ?_⟩
    simp only [ep]
    walk_at "ev"
end
end Sp

set_option Elab.async false
set_option linter.all false
set_option maxRecDepth 100000
set_option maxHeartbeats 2000000
namespace Sp
open PySem L2
open Classical
noncomputable section
/-! ### the deepest place, pure -/
def inP (x : Int) (z : S3) : Bool := decide (z.1 ≤ x) && decide (x ≤ z.2.1)
def cnt (zs : List S3) (x : Int) : Nat := (zs.filter (inP x)).length
theorem cnt_append (a b : List S3) (x : Int) : cnt (a ++ b) x = cnt a x + cnt b x := by
  unfold cnt; rw [List.filter_append, List.length_append]
theorem cnt_one (z : S3) (x : Int) : cnt [z] x = if z.1 ≤ x ∧ x ≤ z.2.1 then 1 else 0 := by
  unfold cnt inP
  by_cases h1 : z.1 ≤ x <;> by_cases h2 : x ≤ z.2.1 <;> simp [h1, h2]
theorem cnt_none {b : List S3} {x : Int} (h : ∀ z ∈ b, x < z.1) : cnt b x = 0 := by
  unfold cnt
  rw [List.length_eq_zero_iff, List.filter_eq_nil_iff]
  intro z hz
  have := h z hz
  unfold inP
  simp; omega
structure DI (pre : List S3) (l h m p q : Int) (es : List Int) : Prop where
  lp : l ≤ p
  pq : p ≤ q
  qh : q ≤ h
  le : ∀ z ∈ pre, z.1 ≤ q
  ql : q = l ∨ ∃ z ∈ pre, q = z.1
  hp : HeapL es
  pm : es.Perm ((pre.filter (fun z => decide (q ≤ z.2.1))).map (·.2.1))
  mm : (cnt pre p : Int) = m
  bs : ∀ c, (c = l ∨ ∃ z ∈ pre, c = z.1) → l ≤ c → (cnt pre c : Int) < m ∨ ((cnt pre c : Int) = m ∧ p ≤ c)
theorem DI.start {l h : Int} (hl : l ≤ h) : DI [] l h 0 l l [] where
  lp := Int.le_refl _
  pq := Int.le_refl _
  qh := hl
  le := fun z hz => by cases hz
  ql := .inl rfl
  hp := HeapL.nil
  pm := List.Perm.refl _
  mm := rfl
  bs := fun c hc hlc => .inr ⟨rfl, hlc⟩
theorem DI.len {pre : List S3} {l h m p q : Int} {es : List Int} (d : DI pre l h m p q es) : es.length ≤ pre.length := by
  rw [d.pm.length_eq, List.length_map]
  exact List.length_filter_le _ _
theorem DI.skip {pre : List S3} {l h m p q : Int} {es : List Int} (d : DI pre l h m p q es) {z : S3} (ok : z.1 ≤ z.2.1) (hz : z.2.1 < max z.1 l) : DI (pre ++ [z]) l h m p q es := by
  have hzl : z.2.1 < l := by omega
  have hlq : l ≤ q := Int.le_trans d.lp d.pq
  have hc : ∀ c, l ≤ c → cnt (pre ++ [z]) c = cnt pre c := fun c hc => by
    rw [cnt_append, cnt_one, if_neg (by omega)]; rfl
  refine ⟨d.lp, d.pq, d.qh, fun y hy => ?_, ?_, d.hp, ?_, ?_, fun c hcc hlc => ?_⟩
  · rcases List.mem_append.mp hy with hy | hy
    · exact d.le y hy
    · rw [List.mem_singleton] at hy; subst hy; omega
  · rcases d.ql with e | ⟨y, hy, e⟩
    · exact .inl e
    · exact .inr ⟨y, List.mem_append_left _ hy, e⟩
  · rw [List.filter_append]
    have : [z].filter (fun z => decide (q ≤ z.2.1)) = [] := by
      rw [List.filter_cons_of_neg (by simp; omega)]; rfl
    rw [this, List.append_nil]
    exact d.pm
  · rw [hc p d.lp]; exact d.mm
  · rw [hc c hlc]
    refine d.bs c ?_ hlc
    rcases hcc with e | ⟨y, hy, e⟩
    · exact .inl e
    · rcases List.mem_append.mp hy with hy | hy
      · exact .inr ⟨y, hy, e⟩
      · rw [List.mem_singleton] at hy; subst hy; omega
theorem DI.pushAll {pre : List S3} {l h m p q : Int} {es es2 : List Int} (d : DI pre l h m p q es) {z : S3} {pl : Int} (hpl : pl = max z.1 l) (hqp : q ≤ pl) (hh : pl ≤ h) (hz : pl ≤ z.2.1) (hp2 : HeapL es2)
    (hpm : es2.Perm ((z.2.1 :: es).filter (fun y => decide (pl ≤ y)))) :
    (m < (es2.length : Int) → DI (pre ++ [z]) l h es2.length pl pl es2) ∧ (¬ m < (es2.length : Int) → DI (pre ++ [z]) l h m p pl es2) := by
  have hle : ∀ y ∈ pre ++ [z], y.1 ≤ pl := fun y hy => by
    rcases List.mem_append.mp hy with hy | hy
    · exact Int.le_trans (d.le y hy) hqp
    · rw [List.mem_singleton] at hy; subst hy; omega
  have hql : pl = l ∨ ∃ y ∈ pre ++ [z], pl = y.1 := by
    by_cases e : z.1 ≤ l
    · exact .inl (by omega)
    · exact .inr ⟨z, by simp, by omega⟩
  have hpm2 : es2.Perm (((pre ++ [z]).filter (fun z => decide (pl ≤ z.2.1))).map (·.2.1)) := by
    refine hpm.trans ?_
    have h1 : (z.2.1 :: es).Perm (z.2.1 :: ((pre.filter (fun z => decide (q ≤ z.2.1))).map (·.2.1))) := d.pm.cons _
    refine (h1.filter _).trans ?_
    rw [List.filter_cons_of_pos (by simpa using hz), List.filter_map, List.filter_filter]
    have h2 : pre.filter (fun a => ((fun y => decide (pl ≤ y)) ∘ fun x : S3 => x.2.1) a && decide (q ≤ a.2.1)) = pre.filter (fun z => decide (pl ≤ z.2.1)) := by
      refine List.filter_congr fun a _ => ?_
      simp only [Function.comp]
      by_cases c : pl ≤ a.2.1
      · simp [c]; omega
      · simp [c]
    rw [h2, List.filter_append, List.filter_cons_of_pos (by simpa using hz), List.filter_nil, List.map_append]
    exact (List.perm_append_singleton _ _).symm
  have hlen : es2.length = cnt (pre ++ [z]) pl := by
    rw [hpm2.length_eq, List.length_map]
    unfold cnt
    congr 1
    refine List.filter_congr fun a ha => ?_
    unfold inP
    simp [hle a ha]
  have hc1 : ∀ c, l ≤ c → c < pl → cnt (pre ++ [z]) c = cnt pre c := fun c h1 h2 => by
    rw [cnt_append, cnt_one, if_neg (by omega)]; rfl
  have hcp : cnt (pre ++ [z]) pl = cnt pre pl + 1 := by
    rw [cnt_append, cnt_one, if_pos ⟨by omega, hz⟩]
  have hold : ∀ c, (c = l ∨ ∃ y ∈ pre ++ [z], c = y.1) → l ≤ c → c < pl → (cnt (pre ++ [z]) c : Int) < m ∨ ((cnt (pre ++ [z]) c : Int) = m ∧ p ≤ c) := fun c hc hlc hcp => by
    rw [hc1 c hlc hcp]
    refine d.bs c ?_ hlc
    rcases hc with e | ⟨y, hy, e⟩
    · exact .inl e
    · rcases List.mem_append.mp hy with hy | hy
      · exact .inr ⟨y, hy, e⟩
      · rw [List.mem_singleton] at hy; subst hy; omega
  have hmax : ∀ c, (c = l ∨ ∃ y ∈ pre ++ [z], c = y.1) → c ≤ pl := fun c hc => by
    rcases hc with e | ⟨y, hy, e⟩
    · omega
    · rw [e]; exact hle y hy
  refine ⟨fun hm => ⟨by omega, Int.le_refl _, hh, hle, hql, hp2, hpm2, by rw [hlen], fun c hc hlc => ?_⟩, fun hm => ⟨d.lp, Int.le_trans d.pq hqp, hh, hle, hql, hp2, hpm2, ?_, fun c hc hlc => ?_⟩⟩
  · have h1 := hmax c hc
    by_cases e : c = pl
    · subst e; exact .inr ⟨by rw [hlen], Int.le_refl _⟩
    · have := hold c hc hlc (by omega)
      exact .inl (by omega)
  · by_cases e : p = pl
    · subst e
      have := d.mm
      omega
    · have h3 := d.pq
      rw [hc1 p d.lp (by omega)]; exact d.mm
  · have h1 := hmax c hc
    by_cases e : c = pl
    · subst e
      have h3 := d.pq
      by_cases e2 : (cnt (pre ++ [z]) c : Int) = m
      · exact .inr ⟨e2, by omega⟩
      · exact .inl (by omega)
    · exact hold c hc hlc (by omega)
/-- what deepest_of tells -/
structure Deepest (zs : List S3) (l h m p : Int) : Prop where
  lp : l ≤ p
  ph : p ≤ h
  mm : (cnt zs p : Int) = m
  bs : ∀ c, (c = l ∨ ∃ z ∈ zs, c = z.1) → l ≤ c → c ≤ h → (cnt zs c : Int) < m ∨ ((cnt zs c : Int) = m ∧ p ≤ c)
theorem DI.fin {pre rest : List S3} {l h m p q : Int} {es : List Int} (d : DI pre l h m p q es) (hr : ∀ z ∈ rest, h < z.1) : Deepest (pre ++ rest) l h m p := by
  have hc : ∀ c, c ≤ h → cnt (pre ++ rest) c = cnt pre c := fun c hc => by
    rw [cnt_append, cnt_none (b := rest) fun z hz => by have := hr z hz; omega]; rfl
  have hph : p ≤ h := Int.le_trans d.pq d.qh
  refine ⟨d.lp, hph, by rw [hc p hph]; exact d.mm, fun c hcc hlc hch => ?_⟩
  rw [hc c hch]
  refine d.bs c ?_ hlc
  rcases hcc with e | ⟨y, hy, e⟩
  · exact .inl e
  · rcases List.mem_append.mp hy with hy | hy
    · exact .inr ⟨y, hy, e⟩
    · have := hr y hy; omega
end
end Sp

set_option Elab.async false
set_option linter.all false
set_option maxRecDepth 100000
set_option maxHeartbeats 2000000
namespace Sp
open PySem L2
open Classical
noncomputable section
local macro_rules | `(tactic| walk_at "ev") => `(tactic| try simp only [gv_next, gv_brk, gv_cnt, gv_retN, gv_seq, nx_nx, nx_rt, nx_bk, nx_ct, gv_set, gv_setF, gv_own, gv_ret, gv_drop, gv_retO, gv_if, gv_app, gv_unp, gv_pop, gv_put, gv_par, gv_forF, gv_forN, gv_forT, gv_forR,
  ge_var, ge_c, ge_op, ge_un, gl_nil, gl_cons, ge_call, ge_meth, ge_tup, ge_lst, ge_ii, ge_sl, go_none, go_int, gb_val, gb_truth, gb_and, gb_or, gb_not, gb_yes, ge_and, ge_or, ge_if, ge_chain, ge_some, gb_some, gl_some, go_some, ge_guard, ge_lc, ge_lcT, ge_lcR, ge_eqI, ge_neI, ge_eqB, ge_neB,
  frm, full, SV.full, gt, sgt, setAll, Tg.put, List.map, List.replicate, List.set, List.length_cons, List.length_nil, List.length_append, List.length_map, List.append_nil, List.nil_append, List.cons_append, Nat.sub_self, Nat.reduceAdd, Nat.reduceSub, Nat.zero_add, Nat.add_zero,
  noOwn, List.all_cons, List.all_nil, SV.free, D.imm, D.imms, imm_sd, imms_sd, imm_tupI, Bool.and_true, Bool.true_and, Bool.and_self, Bool.false_and, Bool.and_false, true_or, or_true, or_self, false_or, or_false, true_and, and_true, if_true, if_false, Bool.false_eq_true,
  D.int.injEq, D.bl.injEq, D.lst.injEq, D.tup.injEq, D.str.injEq, D.box.injEq, D.wood.injEq, SV.v.injEq, SV.own.injEq, Option.some.injEq, exists_eq_left', exists_eq_left, exists_and_left, reduceCtorEq, false_and, and_false, exists_false,
  fLen_lst, fLen_tup, fLen_scr, fLen_sd, fMax2_ii, fMin2_ii, fInt1_i, fInt1_b, fListOf_lst, fSorted_sd, fSum_i, dIx_sd0, dIx_sd1, dIx_sd2, dIx_lst, dIx_tup, dIx_scr, atI_0, atI_1, atI_2, atI_3, dSl_lst, dSl_scr, dCat_ll, dRep_l, dNot_b, dNeg_i, dNotBl_b, dNotBl_i, dNotBl_n, dNotBl_s, dNotBl_t, dNotBl_l, dIsN_non, dIsN_int, dIsN_lst, dNotN_non, dNotN_lst, dIsN_nil, dIsN_node, dNotN_nil, dNotN_node, isi_int_non, isi_int_bl, isi_int_int, isi_int_str, isi_int_tup, isi_int_lst, isi_int_sd, isi_bool_non, isi_bool_bl, isi_bool_int, isi_bool_str, isi_bool_tup, isi_bool_lst, isi_bool_sd, isi_tuple_non, isi_tuple_bl, isi_tuple_int, isi_tuple_str, isi_tuple_tup, isi_tuple_lst, isi_tuple_sd, isi_list_non, isi_list_bl, isi_list_int, isi_list_str, isi_list_tup, isi_list_lst, isi_list_sd, tyi_non, tyi_bl, tyi_int, tyi_str, tyi_tup, tyi_lst, ge_eqT, ge_neT, ge_eqS, ge_neS, ge_inS, ge_ninS, ge_eqLS, ge_neLS, Option.map_some, Bool.not_true, Bool.not_false, Bool.not_not, decide_eq_true_eq, decide_eq_false_iff_not, Bool.not_eq_true', Bool.not_eq_false', Bool.not_eq_true, decide_true, decide_false,
  Int.reduceLT, Nat.reduceLT, Int.reduceLE, Nat.reduceLeDiff, sizeLine_eq, and_self, ite_self, not_false_eq_true, not_true_eq_false, implies_true, imp_self, forall_const, true_implies])
local macro_rules | `(tactic| walk_at "st") => `(tactic| try simp only [gv_next, gv_brk, gv_cnt, gv_retN, gv_seq, nx_nx, nx_rt, nx_bk, nx_ct, gv_set, gv_setF, gv_own, gv_ret, gv_drop, gv_retO, gv_app, gv_unp, gv_pop, gv_put, gv_par, gv_forF, gv_forN, gv_forT, gv_forR,
  ge_var, ge_c, ge_op, ge_un, gl_nil, gl_cons, ge_call, ge_meth, ge_tup, ge_lst, ge_ii, ge_sl, go_none, go_int, gb_val, gb_truth, gb_and, gb_or, gb_not, gb_yes, ge_and, ge_or, ge_if, ge_chain, ge_some, gb_some, gl_some, go_some, ge_guard, ge_lc, ge_lcT, ge_lcR, ge_eqI, ge_neI, ge_eqB, ge_neB,
  frm, full, SV.full, gt, sgt, setAll, Tg.put, List.map, List.replicate, List.set, List.length_cons, List.length_nil, List.length_append, List.length_map, List.append_nil, List.nil_append, List.cons_append, Nat.sub_self, Nat.reduceAdd, Nat.reduceSub, Nat.zero_add, Nat.add_zero,
  noOwn, List.all_cons, List.all_nil, SV.free, D.imm, D.imms, imm_sd, imms_sd, imm_tupI, Bool.and_true, Bool.true_and, Bool.and_self, Bool.false_and, Bool.and_false, true_or, or_true, or_self, false_or, or_false, true_and, and_true, if_true, if_false, Bool.false_eq_true,
  D.int.injEq, D.bl.injEq, D.lst.injEq, D.tup.injEq, D.str.injEq, D.box.injEq, D.wood.injEq, SV.v.injEq, SV.own.injEq, Option.some.injEq, exists_eq_left', exists_eq_left, exists_and_left, reduceCtorEq, false_and, and_false, exists_false,
  fLen_lst, fLen_tup, fLen_scr, fLen_sd, fMax2_ii, fMin2_ii, fInt1_i, fInt1_b, fListOf_lst, fSorted_sd, fSum_i, dIx_sd0, dIx_sd1, dIx_sd2, dIx_lst, dIx_tup, dIx_scr, atI_0, atI_1, atI_2, atI_3, dSl_lst, dSl_scr, dCat_ll, dRep_l, dNot_b, dNeg_i, dNotBl_b, dNotBl_i, dNotBl_n, dNotBl_s, dNotBl_t, dNotBl_l, dIsN_non, dIsN_int, dIsN_lst, dNotN_non, dNotN_lst, dIsN_nil, dIsN_node, dNotN_nil, dNotN_node, isi_int_non, isi_int_bl, isi_int_int, isi_int_str, isi_int_tup, isi_int_lst, isi_int_sd, isi_bool_non, isi_bool_bl, isi_bool_int, isi_bool_str, isi_bool_tup, isi_bool_lst, isi_bool_sd, isi_tuple_non, isi_tuple_bl, isi_tuple_int, isi_tuple_str, isi_tuple_tup, isi_tuple_lst, isi_tuple_sd, isi_list_non, isi_list_bl, isi_list_int, isi_list_str, isi_list_tup, isi_list_lst, isi_list_sd, tyi_non, tyi_bl, tyi_int, tyi_str, tyi_tup, tyi_lst, ge_eqT, ge_neT, ge_eqS, ge_neS, ge_inS, ge_ninS, ge_eqLS, ge_neLS, Option.map_some, Bool.not_true, Bool.not_false, Bool.not_not, decide_eq_true_eq, decide_eq_false_iff_not, Bool.not_eq_true', Bool.not_eq_false', Bool.not_eq_true, decide_true, decide_false,
  Int.reduceLT, Nat.reduceLT, Int.reduceLE, Nat.reduceLeDiff, sizeLine_eq, and_self, ite_self, not_false_eq_true, not_true_eq_false, implies_true, imp_self, forall_const, true_implies])

/-! ### deepest -/
theorem p_over {zs : List S3} {x : Int} (hz : zs.length ≤ 1000) : m_law_over [.lst (zs.map sd), .int x] = some (.int (cnt zs x)) := by
  refine def_gv rfl ?_
  unfold b_law_over
  walk_at "ev"
  refine ⟨by omega, gl_lcS (inP x) (by simp) (fun z hz => ?_) ?_⟩
  · walk_at "ev"
    unfold inP
    by_cases h1 : z.1 ≤ x <;> by_cases h2 : x ≤ z.2.1 <;> simp [h1, h2]
  · rw [List.length_map]; rfl
theorem p_deepest_of {zs : List S3} {q : Int × Int} (hq : OkQ q) (ok : ∀ z ∈ zs, Okay3 z) (hs : zs.Pairwise (fun a b => a.1 ≤ b.1)) (hz : zs.length ≤ 1000) :
    Ge (m_deepest_of [.lst (zs.map sd), .int q.1, .int q.2]) fun d => ∃ m p, d = .tup [.int m, .int p] ∧ Deepest zs q.1 q.2 m p := by
  refine def_ge rfl ?_
  unfold b_deepest_of
  have e1 := p_check_ends hq
  have e2 := p_check_row ok
  obtain ⟨l, h⟩ := q
  simp only at e1 e2
  walk_at "ev"
  simp only [e1, e2]
  walk_at "ev"
  have hlh : l ≤ h := hq.2.2
  have fin : ∀ (pre rest : List S3) (m p q : Int) (es : List Int) (a b c d : SV), zs = pre ++ rest → DI pre l h m p q es → (∀ z ∈ rest, h < z.1) →
      Gv (sRet (eTup (eCons (eVar 3) (eCons (eVar 4) eNil))) [SV.v (D.lst (List.map sd zs)), .v (.int l), .v (.int h), .v (.int m), .v (.int p), .own (es.map D.int), a, b, c, d])
        (fun o => match o with | .rt d' ρ => ∃ m p, d' = D.tup [D.int m, D.int p] ∧ Deepest zs l h m p | .nx ρ => False | x => False) := by
    intro pre rest m p q es a b c d e1 e2 e3
    walk_at "ev"
    exact ⟨m, p, rfl, e1 ▸ e2.fin e3⟩
  refine gv_forV rfl ?_
  refine gv_for (fun k ρ => ∃ m p q es a b c d, ρ = [SV.v (D.lst (List.map sd zs)), .v (.int l), .v (.int h), .v (.int m), .v (.int p), .own (es.map D.int), a, b, c, d] ∧ DI (zs.take k) l h m p q es)
    ⟨0, l, l, [], _, _, _, _, rfl, DI.start hlh⟩ (fun k dd ρ hk ⟨m, p, q, es, a, b, c, d, e, di⟩ => ?_) (fun ρ ⟨m, p, q, es, a, b, c, d, e, di⟩ => ?_)
  · subst e
    rw [List.getElem?_map, Option.map_eq_some_iff] at hk
    obtain ⟨z, hz', rfl⟩ := hk
    obtain ⟨hkl, hz2⟩ := List.getElem?_eq_some_iff.mp hz'
    have okz := ok z (List.mem_of_getElem? hz')
    have hlo : z.1 ≤ z.2.1 := okz.2.2.2
    have htk : zs.take (k + 1) = zs.take k ++ [z] := by rw [List.take_succ, hz']; rfl
    refine ⟨_, rfl, ?_⟩
    walk_at "ev"
    by_cases c1 : h < max z.1 l
    · rw [if_pos c1]
      have e3 : ∀ y ∈ zs.drop k, h < y.1 := fun y hy => by
        obtain ⟨i, hi, rfl⟩ := List.getElem_of_mem hy
        rw [List.getElem_drop]
        rw [List.length_drop] at hi
        have hzy : z.1 ≤ (zs[k + i]'(by omega)).1 := by
          by_cases e : i = 0
          · subst e; simp [hz2]
          · have := List.pairwise_iff_getElem.mp hs k (k + i) hkl (by omega) (by omega)
            rw [hz2] at this; exact this
        omega
      have := di.fin e3
      rw [List.take_append_drop] at this
      exact ⟨m, p, rfl, this⟩
    · rw [if_neg c1]
      by_cases c2 : z.2.1 < max z.1 l
      · rw [if_pos c2]
        exact ⟨m, p, q, es, _, _, _, _, rfl, htk ▸ di.skip hlo c2⟩
      · rw [if_neg c2]
        have hqp : q ≤ max z.1 l := by
          rcases di.ql with e | ⟨y, hy, e⟩
          · omega
          · obtain ⟨i, hi, rfl⟩ := List.getElem_of_mem hy
            rw [List.length_take] at hi
            have := List.pairwise_iff_getElem.mp hs i k (by omega) hkl (by omega)
            rw [hz2] at this
            rw [List.getElem_take] at e
            omega
        have hel := di.len
        rw [List.length_take] at hel
        refine gv_hpush.mpr ⟨_, rfl, es, z.2.1, rfl, rfl, by rw [sizeLine_eq]; omega, ?_⟩
        have hps := pushL_spec (x := z.2.1) di.hp
        have hpl := len_push es z.2.1
        generalize pushL es z.2.1 = e0 at hps hpl
        generalize hpp : max z.1 l = pl at *
        show Gv (sSeq _ _ _) _
        walk_at "ev"
        refine gv_while (fun ρ => ∃ es', ρ = [SV.v (D.lst (List.map sd zs)), .v (.int l), .v (.int h), .v (.int m), .v (.int p), .own (es'.map D.int), .v (.int z.1), .v (.int z.2.1), .v (.int z.2.2), .v (.int pl)] ∧
            HeapL es' ∧ (es'.filter (fun y => decide (pl ≤ y))).Perm (e0.filter (fun y => decide (pl ≤ y))) ∧ es'.length ≤ e0.length) (fun ρ => match sgt ρ 5 with | .own ds => ds.length | _ => 0) ⟨e0, rfl, hps.2, List.Perm.refl _, Nat.le_refl _⟩ (fun ρ ⟨es', e, f1, f2, f3⟩ => ?_)
        subst e
        have hmem : z.2.1 ∈ es'.filter (fun y => decide (pl ≤ y)) := by
          refine f2.mem_iff.mpr (List.mem_filter.mpr ⟨hps.1.mem_iff.mpr List.mem_cons_self, ?_⟩)
          simp; omega
        have hne : 0 < es'.length := List.length_pos_of_mem (List.mem_filter.mp hmem).1
        have hix : atI (es'.map D.int) 0 = some (.int (es'.getD 0 0)) := by
          rw [show (0 : Int) = ((0 : Nat) : Int) from rfl, atI_map, atI_nat' hne]
          cases es' with
          | nil => exact absurd hne (by simp)
          | cons x r => rfl
        walk_at "ev"
        rw [hix]
        walk_at "ev"
        by_cases c3 : es'.getD 0 0 < pl
        · rw [if_pos c3]
          have hpo := popL_spec hne f1
          refine gv_hpop.mpr ⟨es', rfl, hne, ⟨popL es', rfl, hpo.2, ?_, by rw [len_pop]; omega⟩, ?_⟩
          · have h1 := hpo.1.filter (fun y => decide (pl ≤ y))
            rw [List.filter_cons_of_neg (by rw [decide_eq_true_eq]; omega)] at h1
            exact h1.symm.trans f2
          · show ((popL es').map D.int).length < _
            rw [List.length_map, len_pop]; omega
        · rw [if_neg c3]
          have hfe : es'.filter (fun y => decide (pl ≤ y)) = es' := List.filter_eq_self.mpr fun y hy => by
            have := f1.least hy
            rw [decide_eq_true_eq]; omega
          rw [hfe] at f2
          obtain ⟨g1, g2⟩ := di.pushAll (pl := pl) hpp.symm hqp (by omega) (by omega) f1 (f2.trans (hps.1.filter _))
          by_cases c4 : m < (es'.length : Int)
          · rw [if_pos c4]
            exact ⟨_, _, pl, es', _, _, _, _, rfl, htk ▸ g1 c4⟩
          · rw [if_neg c4]
            exact ⟨_, _, pl, es', _, _, _, _, rfl, htk ▸ g2 c4⟩
  · subst e
    rw [List.length_map] at di
    exact fin zs [] m p q es a b c d (by simp) (by rw [List.take_length] at di; exact di) (fun z hz => by cases hz)

theorem true_k05 {ns : List Int} (hl : ns.length ≤ 63) (hB : ∀ z ∈ ns, Builtin.Int.intBits z ≤ 1048576) : m_law_k05 [.scr ns] = some (.bl true) := by
  refine def_gv rfl ?_
  unfold b_law_k05
  have hlen := rowL_len ns 4
  have hok := rowL_ok (ns := ns) (i := 4)
  have hpw : (rowL ns 4).Pairwise (fun a b => a.1 ≤ b.1) := (rowL_pw ns 4).imp fun {a b} h => by rw [le3_iff] at h; omega
  walk_at "ev"
  rw [p_row (by omega) (by omega) hl hB]
  walk_at "ev"
  obtain ⟨dq, eq, q, rfl, okq⟩ := p_ask (i := 0) (row := rowL ns 4) (by omega) hl hB
  rw [eq]
  have ed : ∀ j : Int, dIx (pd q) (.int j) = atI [D.int q.1, D.int q.2] j := fun _ => rfl
  have el2 := p_list_isS (xs := rowL ns 4) (ys := rowL ns 4) (by omega) (by omega)
  have hpd : (pd q).imm = true := imm_tupI _
  obtain ⟨dd, ep, m, p, rfl, D1⟩ := p_deepest_of (q := q) okq hok hpw (by omega)
  have hov : ∀ x, m_law_over [.lst ((rowL ns 4).map sd), .int x] = some (.int (cnt (rowL ns 4) x)) := fun x => p_over (by omega)
  generalize rowL ns 4 = zs at *
  walk_at "ev"
  simp only [ed, hpd, ep, el2, hov]
  walk_at "ev"
  simp only [ed, hpd, ep, el2, hov]
  walk_at "ev"
  simp only [ed, hpd, ep, el2, hov]
  walk_at "ev"
  rw [if_neg (by decide), ge_is_int]
  walk_at "ev"
  rw [ge_is_int]
  have d1 := D1.lp
  have d2 := D1.ph
  have d3 := D1.mm
  walk_at "ev"
  rw [if_pos d1, if_neg (by omega), if_neg (by omega)]
  refine ⟨by omega, gl_lc sd (fun z : S3 => D.int z.1) (fun z => decide (q.1 ≤ z.1) && decide (z.1 ≤ q.2)) (fun z hz => ⟨?_, fun _ => ⟨?_, rfl⟩⟩) ?_⟩
  · walk_at "ev"
    simp only [ed]
    walk_at "ev"
    by_cases h1 : q.1 ≤ z.1 <;> by_cases h2 : z.1 ≤ q.2 <;> simp [h1, h2]
  · walk_at "ev"
  · have hlen2 : (zs.filter (fun z => decide (q.1 ≤ z.1) && decide (z.1 ≤ q.2))).length ≤ zs.length := List.length_filter_le _ _
    refine ⟨by rw [List.length_map]; omega, ?_⟩
    refine gv_for (fun _ ρ => ∃ a b c, ρ = [SV.v (D.scr ns), .v (D.lst (zs.map sd)), .v (pd q), .v (D.lst (zs.map sd)), .v (D.tup [D.int m, D.int p]), a, b, c]) ⟨_, _, _, rfl⟩ (fun k dd ρ hk ⟨a, b, c, e⟩ => ?_) (fun ρ ⟨a, b, c, e⟩ => ?_)
    · subst e
      have hmem := List.mem_of_getElem? hk
      obtain ⟨x, rfl, hx1, hx2, hx3⟩ : ∃ x : Int, dd = .int x ∧ (x = q.1 ∨ ∃ z ∈ zs, x = z.1) ∧ q.1 ≤ x ∧ x ≤ q.2 := by
        rcases List.mem_cons.mp hmem with e | hm
        · exact ⟨q.1, e, .inl rfl, Int.le_refl _, okq.2.2⟩
        · obtain ⟨z, hz, rfl⟩ := List.mem_map.mp hm
          obtain ⟨hz1, hz2⟩ := List.mem_filter.mp hz
          simp only [Bool.and_eq_true, decide_eq_true_eq] at hz2
          exact ⟨z.1, rfl, .inr ⟨z, hz1, rfl⟩, hz2.1, hz2.2⟩
      refine ⟨_, rfl, ?_⟩
      have hb := D1.bs x hx1 hx2 hx3
      walk_at "ev"
      simp only [hov]
      walk_at "ev"
      rw [if_neg (by omega)]
      by_cases c1 : (cnt zs x : Int) = m
      · rw [if_pos c1, if_neg (by omega)]
        exact ⟨_, _, _, rfl⟩
      · rw [if_neg c1]
        exact ⟨_, _, _, rfl⟩
    · subst e
      walk_at "ev"
end
end Sp

set_option Elab.async false
set_option linter.all false
set_option maxRecDepth 100000
set_option maxHeartbeats 2000000
namespace Sp
open PySem L2
open Classical
noncomputable section
variable {X : Cx} {W : Wh} {fr : Bool} {st : Stmt} {rest : List Stmt} {m m1 m2 : SM} {e a b c : Expr} {es : List Expr} {pos : Pos} {fa fb fc : Bool} {ma mb mc me : EM} {mt : BM}
/-! ### tuples by order -/
def lt3 (a b : S3) : Bool := !le3 b a
def rGtT (K : PySem.W.Frag) : R2 := fun x y H Q => ∃ (a b : Addr) (ns ms : List Int), x = .ref a ∧ y = .ref b ∧ SqT K H a (ns.map V.int) ∧ SqT K H b (ms.map V.int) ∧
  Q (.bl (Ob.lexAt (fun j => decide (ns.getD j 0 = ms.getD j 0)) (fun j => decide (ms.getD j 0 < ns.getD j 0)) (decide (ns.length > ms.length)) 0 (min ns.length ms.length))) H
theorem op_gtT (hu : X.A.units < cLine) : OpR X (compareOp .Gt) (rGtT X.K) := by
  intro pins s σ H x y v u Q I rx ry h
  obtain ⟨a, b, ns, ms, rfl, rfl, ha, hb, q⟩ := h
  cases rx
  cases ry
  obtain ⟨its, r1, p1, _⟩ := I.tuple ha
  obtain ⟨its2, r2, p2, _⟩ := I.tuple hb
  have i1 : PyProof.Rows.IntsAre its ns := Vals.ints r1
  have i2 : PyProof.Rows.IntsAre its2 ms := Vals.ints r2
  have e1 : its.toArray.size = ns.length := by rw [List.size_toArray]; exact i1.length
  have e2 : its2.toArray.size = ms.length := by rw [List.size_toArray]; exact i2.length
  have at1 : ∀ j (h1 : j < its.toArray.size), ∃ t, its.toArray[j] = .int (ns.getD j 0) t := fun j h1 => PyProof.Rows.IntsAre.int_at i1 _ _ (by simp at h1; simp [h1])
  have at2 : ∀ j (h1 : j < its2.toArray.size), ∃ t, its2.toArray[j] = .int (ms.getD j 0) t := fun j h1 => PyProof.Rows.IntsAre.int_at i2 _ _ (by simp at h1; simp [h1])
  have R := Ob.RcOp.tuples_gt (A := X.A) (s := s) (e := fun j => decide (ns.getD j 0 = ms.getD j 0)) (r := fun j => decide (ms.getD j 0 < ns.getD j 0)) p1 p2 hu (fun j h1 h2 => by
    obtain ⟨t, et⟩ := at1 j h1
    obtain ⟨t', et'⟩ := at2 j h2
    rw [et, et']
    have z : (ns.getD j 0 == ms.getD j 0) = decide (ns.getD j 0 = ms.getD j 0) := by
      by_cases q : ns.getD j 0 = ms.getD j 0
      · rw [decide_eq_true q]; exact beq_iff_eq.mpr q
      · rw [decide_eq_false q]; exact beq_eq_false_iff_ne.mpr q
    rw [← z]
    exact SeqAt.EqAt.int_int _ _ _ _) (fun j h1 h2 _ => by
    obtain ⟨t, et⟩ := at1 j h1
    obtain ⟨t', et'⟩ := at2 j h2
    rw [et, et']
    exact Ob.RcOp.gt_int _ _ _ _)
  refine R _ _ _ _ ?_
  rw [e1, e2]
  exact ⟨.bl _, H, I, rfl, q⟩
def dLtT (x y : D) : Option D := x.trip.bind fun p => y.trip.map fun q => .bl (lt3 p q)
def dGtT (x y : D) : Option D := x.trip.bind fun p => y.trip.map fun q => .bl (lt3 q p)
theorem trip2_some {x y d : D} {g : S3 → S3 → Bool} (h : (x.trip.bind fun p => y.trip.map fun q => D.bl (g p q)) = some d) : ∃ p q, x = sd p ∧ y = sd q ∧ d = .bl (g p q) := by
  rw [Option.bind_eq_some_iff] at h
  obtain ⟨p, h1, h⟩ := h
  rw [Option.map_eq_some_iff] at h
  obtain ⟨q, h2, rfl⟩ := h
  exact ⟨p, q, D.of_trip h1, D.of_trip h2, rfl⟩
theorem lexLt3 (p q : S3) : HT.lexLt [p.1, p.2.1, p.2.2] [q.1, q.2.1, q.2.2] = lt3 p q := by
  simp only [HT.lexLt]
  unfold lt3 le3
  rw [Bool.eq_iff_iff]
  by_cases h1 : p.1 = q.1 <;> by_cases h2 : p.2.1 = q.2.1 <;> by_cases h3 : p.2.2 = q.2.2 <;> simp [h1, h2, h3] <;> omega
theorem lexGt3 (p q : S3) : Ob.lexAt (fun j => decide ([p.1, p.2.1, p.2.2].getD j 0 = [q.1, q.2.1, q.2.2].getD j 0)) (fun j => decide ([q.1, q.2.1, q.2.2].getD j 0 < [p.1, p.2.1, p.2.2].getD j 0)) (decide ([p.1, p.2.1, p.2.2].length > [q.1, q.2.1, q.2.2].length)) 0 (min [p.1, p.2.1, p.2.2].length [q.1, q.2.1, q.2.2].length) = lt3 q p := by
  show (if decide (p.1 = q.1) = true then (if decide (p.2.1 = q.2.1) = true then (if decide (p.2.2 = q.2.2) = true then decide (3 > 3) else decide (q.2.2 < p.2.2)) else decide (q.2.1 < p.2.1)) else decide (q.1 < p.1)) = _
  unfold lt3 le3
  rw [Bool.eq_iff_iff]
  by_cases h1 : p.1 = q.1 <;> by_cases h2 : p.2.1 = q.2.1 <;> by_cases h3 : p.2.2 = q.2.2 <;> simp [h1, h2, h3] <;> omega
theorem sd_sq {H : Hp} {v : V} {z : S3} (h : Rp W H v (sd z)) : ∃ t, v = .ref t ∧ SqT W.K H t ([z.1, z.2.1, z.2.2].map V.int) := by
  obtain ⟨t, rfl, ht⟩ := sd_inv h
  exact ⟨t, rfl, SqT.of ht⟩
theorem bLtT : BinOk W false (rLtT W.K) dLtT := by
  intro H x y dx dy d Q r1 r2 e k
  obtain ⟨p, q, rfl, rfl, rfl⟩ := trip2_some e
  obtain ⟨t, rfl, h1⟩ := sd_sq r1
  obtain ⟨u, rfl, h2⟩ := sd_sq r2
  exact ⟨t, u, _, _, rfl, rfl, h1, h2, by rw [lexLt3]; exact k _ H (Same.refl H) (.bl _) (fun z => nomatch z)⟩
theorem bGtT : BinOk W false (rGtT W.K) dGtT := by
  intro H x y dx dy d Q r1 r2 e k
  obtain ⟨p, q, rfl, rfl, rfl⟩ := trip2_some (g := fun p q => lt3 q p) e
  obtain ⟨t, rfl, h1⟩ := sd_sq r1
  obtain ⟨u, rfl, h2⟩ := sd_sq r2
  exact ⟨t, u, _, _, rfl, rfl, h1, h2, by rw [lexGt3]; exact k _ H (Same.refl H) (.bl _) (fun z => nomatch z)⟩
theorem et_ltT (hK : X.K = W.K) (hu : X.A.units < cLine) (ha : EV X W a fa ma) (hb : EV X W b fb mb) : ET X W (.Compare a [.Lt] [b] pos) (bVal (eOp dLtT ma mb)) := et_cmp (hK ▸ bLtT) (op_ltT hu) (nomark _) ha hb
theorem et_gtT (hK : X.K = W.K) (hu : X.A.units < cLine) (ha : EV X W a fa ma) (hb : EV X W b fb mb) : ET X W (.Compare a [.Gt] [b] pos) (bVal (eOp dGtT ma mb)) := et_cmp (hK ▸ bGtT) (op_gtT hu) (nomark _) ha hb
/-! ### the attributes of a box, of a wood -/
def dStretch (x : D) : Option D := match x with | .box (.node _ s _ _ _) => some (sd s) | _ => none
def dLeft (x : D) : Option D := match x with | .box (.node l _ _ _ _) => some (.box l) | _ => none
def dRight (x : D) : Option D := match x with | .box (.node _ _ r _ _) => some (.box r) | _ => none
def dTall (x : D) : Option D := match x with | .box (.node _ _ _ h _) => some (.int h) | _ => none
def dReach (x : D) : Option D := match x with | .box (.node _ _ _ _ m) => some (.int m) | _ => none
def dTop (x : D) : Option D := match x with | .wood t => some (.box t) | _ => none
theorem TrR.node_inv {H : Hp} {v : V} {l r : T} {s : S3} {h m : Int} (q : TrR W H v (.node l s r h m)) : ∃ a dx p vl vr, v = .ref a ∧ H a = some (.ins W.b dx [("stretch", .ref p), ("left", vl), ("right", vr), ("tall", .int h), ("reach", .int m)]) ∧
    H p = some (.tup [.int s.1, .int s.2.1, .int s.2.2]) ∧ TrR W H vl l ∧ TrR W H vr r := by
  cases q with | node h1 h2 h3 h4 => exact ⟨_, _, _, _, _, rfl, h1, h2, h3, h4⟩
theorem ev_fldB {f : Str} {g : D → Option D} {E0 : Expr} (cl : Cls X.K W.b) (nf : NoAttr X.K W.b f)
    (hg : ∀ (H : Hp) (x d : D) (v : V), Rp W H v x → g x = some d → ∃ a dx fs u, v = .ref a ∧ H a = some (.ins W.b dx fs) ∧ fs.lookup f = some u ∧ Rp W H u d)
    (h : PE X E0 (tFld X.K (tX W fa ma) f)) : EV X W E0 false (eUn g ma) :=
  PE.imp h fun σ H Q ⟨ρ, d, r, e, k⟩ => by
    obtain ⟨x, e1, e2⟩ := eUn_some e
    refine ⟨ρ, x, r, e1, fun v H1 s1 r1 _ => ?_⟩
    obtain ⟨a, dx, fs, u, rfl, h1, h2, h3⟩ := hg H1 x d v r1 e2
    exact ⟨a, W.b, dx, fs, u, rfl, h1, cl, nf, h2, k u H1 s1 h3 (fun z => nomatch z)⟩
theorem box_of {g : D → Option D} {f : Str} (hnil : g (.box .nil) = none) (ho : ∀ x, (∀ t, x ≠ .box t) → g x = none)
    (hn : ∀ (H : Hp) (a dx p : Addr) (vl vr : V) (l r : T) (s : S3) (h m : Int) (d : D), H a = some (.ins W.b dx [("stretch", .ref p), ("left", vl), ("right", vr), ("tall", .int h), ("reach", .int m)]) → Rp W H (.ref p) (sd s) → TrR W H vl l → TrR W H vr r → g (.box (.node l s r h m)) = some d →
      ∃ u, ([("stretch", .ref p), ("left", vl), ("right", vr), ("tall", .int h), ("reach", .int m)] : List (Str × V)).lookup f = some u ∧ Rp W H u d) :
    ∀ (H : Hp) (x d : D) (v : V), Rp W H v x → g x = some d → ∃ a dx fs u, v = .ref a ∧ H a = some (.ins W.b dx fs) ∧ fs.lookup f = some u ∧ Rp W H u d := by
  intro H x d v r e
  cases r with
  | @box v t h =>
    cases t with
    | nil => rw [hnil] at e; cases e
    | node l s r h' m =>
      obtain ⟨a, dx, p, vl, vr, rfl, h1, h2, h3, h4⟩ := h.node_inv
      obtain ⟨u, h5, h6⟩ := hn H a dx p vl vr l r s h' m d h1 (.tup h2 (Rps.ints [s.1, s.2.1, s.2.2])) h3 h4 e
      exact ⟨a, dx, _, u, rfl, h1, h5, h6⟩
  | _ => rw [ho _ (by intro _ z; cases z)] at e; cases e
def IsBox : D → Prop
  | .box _ => True
  | _ => False
theorem ho_box {g : D → Option D} (h : ∀ x : D, ¬ IsBox x → g x = none) (x : D) (hx : ∀ t, x ≠ .box t) : g x = none := h x fun z => by
  cases x with
  | box t => exact hx t rfl
  | _ => exact z
section
variable {E0 : Expr}
theorem ev_fldS (cl : Cls X.K W.b) (nf : NoAttr X.K W.b "stretch") (h : PE X E0 (tFld X.K (tX W fa ma) "stretch")) : EV X W E0 false (eUn dStretch ma) :=
  ev_fldB cl nf (box_of rfl (ho_box fun x z => by cases x <;> first | rfl | exact absurd trivial z) fun H a dx p vl vr l r s h m d h1 h2 h3 h4 e => by cases e; exact ⟨_, rfl, h2⟩) h
theorem ev_fldL (cl : Cls X.K W.b) (nf : NoAttr X.K W.b "left") (h : PE X E0 (tFld X.K (tX W fa ma) "left")) : EV X W E0 false (eUn dLeft ma) :=
  ev_fldB cl nf (box_of rfl (ho_box fun x z => by cases x <;> first | rfl | exact absurd trivial z) fun H a dx p vl vr l r s h m d h1 h2 h3 h4 e => by cases e; exact ⟨_, rfl, .box h3⟩) h
theorem ev_fldR (cl : Cls X.K W.b) (nf : NoAttr X.K W.b "right") (h : PE X E0 (tFld X.K (tX W fa ma) "right")) : EV X W E0 false (eUn dRight ma) :=
  ev_fldB cl nf (box_of rfl (ho_box fun x z => by cases x <;> first | rfl | exact absurd trivial z) fun H a dx p vl vr l r s h m d h1 h2 h3 h4 e => by cases e; exact ⟨_, rfl, .box h4⟩) h
theorem ev_fldH (cl : Cls X.K W.b) (nf : NoAttr X.K W.b "tall") (h : PE X E0 (tFld X.K (tX W fa ma) "tall")) : EV X W E0 false (eUn dTall ma) :=
  ev_fldB cl nf (box_of rfl (ho_box fun x z => by cases x <;> first | rfl | exact absurd trivial z) fun H a dx p vl vr l r s h m d h1 h2 h3 h4 e => by cases e; exact ⟨_, rfl, .int _⟩) h
theorem ev_fldM (cl : Cls X.K W.b) (nf : NoAttr X.K W.b "reach") (h : PE X E0 (tFld X.K (tX W fa ma) "reach")) : EV X W E0 false (eUn dReach ma) :=
  ev_fldB cl nf (box_of rfl (ho_box fun x z => by cases x <;> first | rfl | exact absurd trivial z) fun H a dx p vl vr l r s h m d h1 h2 h3 h4 e => by cases e; exact ⟨_, rfl, .int _⟩) h
theorem ev_fldW (cl : Cls X.K W.w) (nf : NoAttr X.K W.w "_top") (h : PE X E0 (tFld X.K (tX W fa ma) "_top")) : EV X W E0 false (eUn dTop ma) :=
  PE.imp h fun σ H Q ⟨ρ, d, r, e, k⟩ => by
    obtain ⟨x, e1, e2⟩ := eUn_some e
    refine ⟨ρ, x, r, e1, fun v H1 s1 r1 _ => ?_⟩
    cases r1 with
    | wood h1 h2 =>
      cases e2
      exact ⟨_, _, _, _, _, rfl, h1, cl, nf, rfl, k _ H1 s1 (.box h2) (fun z => nomatch z)⟩
    | _ => cases e2
end
/-! ### a new box -/
def tallT : T → Int
  | .nil => 0
  | .node _ _ _ h _ => h
def reachT (s : S3) (l r : T) : Int :=
  let a := match l with | .nil => s.2.1 | .node _ _ _ _ m => max s.2.1 m
  match r with | .nil => a | .node _ _ _ _ m => max a m
def mkT (l : T) (s : S3) (r : T) : T := .node l s r (1 + max (tallT l) (tallT r)) (reachT s l r)
def D.asBox : D → Option T
  | .non => some .nil
  | .box t => some t
  | _ => none
def fBox : List D → Option D
  | [s, l, r] => s.trip.bind fun z => l.asBox.bind fun tl => r.asBox.map fun tr => .box (mkT tl z tr)
  | _ => none
theorem D.asBox_rp {H : Hp} {v : V} {d : D} {t : T} (h : Rp W H v d) (e : d.asBox = some t) : TrR W H v t := by
  cases h with
  | non => cases e; exact .nil
  | box h => cases e; exact h
  | _ => cases e
/-- the promise of Box.__init__ -/
def spInit (W : Wh) : L2.Sp := fun vs H Q _ => ∃ (x dx : Addr) (H0 : Hp) (s : S3) (l r : T) (vl vr vz : V), vs = [.ref x, vz, vl, vr] ∧ H x = some (.ins W.b dx []) ∧ H0 x = none ∧ Same H0 H ∧ Rp W H0 vz (sd s) ∧ TrR W H0 vl l ∧ TrR W H0 vr r ∧
  ∀ H', (∀ b o, H b = some o → b ≠ x → H' b = some o) → H' x = some (.ins W.b dx [("stretch", vz), ("left", vl), ("right", vr), ("tall", .int (1 + max (tallT l) (tallT r))), ("reach", .int (reachT s l r))]) → Q .non H'
/-- Box, all that a call asks -/
structure OwnB (P : Program) (w : World) (K : PySem.W.Frag) (mg : Str → Option Value) (base : Heap) (bC : Addr) (wC : Addr) (k : Nat) (f : Addr) (fd : FuncData) (ps : List Str) : Prop where
  cm : Mk K bC f
  ok : FnOk P w K mg base CX0 k f fd ps (spInit ⟨K, bC, wC⟩)
  b : Binds K fd ps []
theorem ev_box {E : XK} {ms : DEnv → Option (List D)} {E0 : Expr} (h : PE X E0 (tMake W.b (spInit W) [] E (tXs W ms))) : EV X W E0 false (eCall fBox ms) :=
  PE.imp h fun σ H Q ⟨ρ, d, rr, e, k⟩ => by
    unfold eCall at e
    rw [Option.bind_eq_some_iff] at e
    obtain ⟨ds, e1, e2⟩ := e
    refine ⟨ρ, ds, rr, e1, fun vs H1 s1 r1 x dx nx nd ne => ?_⟩
    match ds, e2, r1 with
    | [s, l, r], e2, r1 =>
      have e2 : (s.trip.bind fun z => l.asBox.bind fun tl => r.asBox.map fun tr => D.box (mkT tl z tr)) = some d := e2
      rw [Option.bind_eq_some_iff] at e2
      obtain ⟨z, e3, e2⟩ := e2
      rw [Option.bind_eq_some_iff] at e2
      obtain ⟨tl, e4, e2⟩ := e2
      rw [Option.map_eq_some_iff] at e2
      obtain ⟨tr, e5, rfl⟩ := e2
      cases D.of_trip e3
      cases r1 with | cons h1 r1 =>
      obtain ⟨vl, vr, rfl, h2, h3⟩ := r1.two
      have hs : Same H1 (upd (upd H1 dx (.own x)) x (.ins W.b dx [])) := fun b o q => by rw [upd_ne (ne_of_none q nx), upd_ne (ne_of_none q nd)]; exact q
      obtain ⟨t, rfl, ht⟩ := sd_inv h1
      refine ⟨x, dx, H1, z, tl, tr, vl, vr, _, rfl, upd_same, nx, hs, h1, D.asBox_rp h2 e4, D.asBox_rp h3 e5, fun H' hk hx => ⟨rfl, ?_⟩⟩
      have hs' : Same H1 H' := fun b o q => hk b o (hs b o q) (ne_of_none q nx)
      exact k _ H' (s1.trans hs') (.box (.node hx (hs' _ _ ht) ((D.asBox_rp h2 e4).mono hs') ((D.asBox_rp h3 e5).mono hs'))) (fun z => nomatch z)
    | [], e2, _ => cases e2
    | [_], e2, _ => cases e2
    | [_, _], e2, _ => cases e2
    | _ :: _ :: _ :: _ :: _, e2, _ => cases e2
end
end Sp

set_option Elab.async false
set_option linter.all false
set_option maxRecDepth 100000
set_option maxHeartbeats 2000000
namespace Sp
open PySem L2
open Classical
noncomputable section
/-! ### Box.__init__ -/
section
variable {W : Wh} {Q : VK}
theorem re4 {H : Hp} {x : V} {vz vl vr : V} {s : S3} {l r : T} (h1 : Rp W H vz (sd s)) (h2 : TrR W H vl l) (h3 : TrR W H vr r) : RE W H [none, some (sd s), some (.box l), some (.box r)] [some x, some vz, some vl, some vr] := by
  intro i d e
  match i, e with
  | 1, e => cases e; exact ⟨_, rfl, h1⟩
  | 2, e => cases e; exact ⟨_, rfl, .box h2⟩
  | 3, e => cases e; exact ⟨_, rfl, .box h3⟩
  | 0, e => cases e
  | n + 4, e => cases e
theorem init_reads {mT mR : EM} {fa fb : Bool} {vs : List V} {H : Hp} {E : XK} (cl : Cls W.K W.b) (n1 : NoAttr W.K W.b "stretch") (n2 : NoAttr W.K W.b "left") (n3 : NoAttr W.K W.b "right") (n4 : NoAttr W.K W.b "tall") (n5 : NoAttr W.K W.b "reach")
    (hT : ∀ s l r, mT [none, some (sd s), some (.box l), some (.box r)] = some (.int (1 + max (tallT l) (tallT r)))) (hR : ∀ s l r, mR [none, some (sd s), some (.box l), some (.box r)] = some (.int (reachT s l r)))
    (h : spInit W vs H Q E) : (tSeq (sFld W.K (tVar 0) (tVar 1) "stretch") (tSeq (sFld W.K (tVar 0) (tVar 2) "left") (tSeq (sFld W.K (tVar 0) (tVar 3) "right") (tSeq (sFld W.K (tVar 0) (tX W fa mT) "tall") (sFld W.K (tVar 0) (tX W fb mR) "reach")))))
      { nx := fun _ H' => Q .non H', rt := Q } (vs.map some) H := by
  obtain ⟨x, dx, H0, s, l, r, vl, vr, vz, rfl, hx, n0, s0, hz, hl, hr, k⟩ := h
  have sU : ∀ {H1 : Hp} {o : HO}, Same H0 H1 → Same H0 (upd H1 x o) := fun {H1 o} h b o' e => by rw [upd_ne (ne_of_none e n0)]; exact h b o' e
  refine ⟨vz, rfl, .ref x, rfl, x, W.b, dx, [], rfl, hx, cl, n1, (show (0:Nat) < 1000 from by decide), ?_⟩
  refine ⟨vl, rfl, .ref x, rfl, x, W.b, dx, _, rfl, upd_same, cl, n2, (show (1:Nat) < 1000 from by decide), ?_⟩
  refine ⟨vr, rfl, .ref x, rfl, x, W.b, dx, _, rfl, upd_same, cl, n3, (show (2:Nat) < 1000 from by decide), ?_⟩
  have s3 := sU (o := .ins W.b dx (putF "right" vr (putF "left" vl (putF "stretch" vz [])))) (sU (o := .ins W.b dx (putF "left" vl (putF "stretch" vz []))) (sU (o := .ins W.b dx (putF "stretch" vz [])) s0))
  refine ⟨_, _, re4 (hz.mono s3) (hl.mono s3) (hr.mono s3), hT s l r, fun v4 H4 e4 r4 _ => ?_⟩
  cases r4
  refine ⟨.ref x, rfl, x, W.b, dx, _, rfl, e4 _ _ upd_same, cl, n4, (show (3:Nat) < 1000 from by decide), ?_⟩
  have s5 := sU (o := .ins W.b dx (putF "tall" (.int (1 + max (tallT l) (tallT r))) (putF "right" vr (putF "left" vl (putF "stretch" vz []))))) (s3.trans e4)
  refine ⟨_, _, re4 (hz.mono s5) (hl.mono s5) (hr.mono s5), hR s l r, fun v5 H5 e5 r5 _ => ?_⟩
  cases r5
  refine ⟨.ref x, rfl, x, W.b, dx, _, rfl, e5 _ _ upd_same, cl, n5, (show (4:Nat) < 1000 from by decide), ?_⟩
  refine k _ (fun b o e nb => ?_) ?_
  · rw [upd_ne nb]
    refine e5 _ _ ?_
    rw [upd_ne nb]
    refine e4 _ _ ?_
    rw [upd_ne nb, upd_ne nb, upd_ne nb]
    exact e
  · rw [upd_same]
    rfl
end
/-! ### a def that only grows the list that it is handed -/
def spG (W : Wh) (f : List D → Option (List D)) : L2.Sp := fun vs H Q _ => ∃ (vs0 : List V) (ds : List D) (l : Addr) (xs : List V) (acc new : List D), vs = vs0 ++ [.ref l] ∧ Rps W H vs0 ds ∧ H l = some (.lst xs) ∧ Rps W (less H l) xs acc ∧ f ds = some new ∧ acc.length + new.length ≤ sizeLine ∧
  ∀ H' xs', Same (less H l) (less H' l) → H' l = some (.lst xs') → Rps W (less H' l) xs' (acc ++ new) → Q .non H'
theorem less_mono {H H' : Hp} {l : Addr} (e : Same H H') : Same (less H l) (less H' l) := fun b o h => by
  unfold less at h ⊢
  split
  · rename_i z; rw [if_pos z] at h; cases h
  · rename_i z; rw [if_neg z] at h; exact e _ _ h
theorem less_less {H H' : Hp} {l : Addr} {xs xs' : List V} (hl : H l = some (.lst xs)) (hl' : H' l = some (.lst xs')) (e : Same (less H l) (less H' l)) : Keep H H' := fun b o h n => by
  by_cases c : b = l
  · subst c; rw [hl] at h; exact absurd (Option.some.inj h ▸ mu_lst) n
  · have : less H l b = some o := by unfold less; rw [if_neg c]; exact h
    have h2 := e b o this
    unfold less at h2
    rw [if_neg c] at h2
    exact h2
theorem spG_never {P : Program} {w : World} {K : PySem.W.Frag} {mg : Str → Option Value} {base : Heap} {CX : CXT} {k : Nat} {f : Addr} {fd : FuncData} {ps : List Str} {sp : L2.Sp} (h : ∀ vs H Q E, ¬ sp vs H Q E) : FnOk P w K mg base CX k f fd ps sp :=
  ⟨fun vs H Q E q => absurd q (h _ _ _ _), fun A outer s H args us vs Q E _ _ _ _ q => absurd q (h _ _ _ _)⟩
/-- a statement that calls such a def with one's own list last -/
def sGath (i : Nat) (f : List D → Option (List D)) (ms : DEnv → Option (List D)) : SM := fun ρ => (ms (full ρ)).bind fun ds => match sgt ρ i with
  | .own acc => (f ds).bind fun new => if D.imms (acc ++ new) = true ∧ acc.length + new.length ≤ sizeLine then some (.nx (ρ.set i (.own (acc ++ new)))) else none
  | _ => none
section
variable {X : Cx} {W : Wh} {fr : Bool} {f1 f2 f3 : Bool} {m1 m2 m3 : EM}
theorem gath_after {Hb Hd H H1 H' : Hp} {ρ : SEnv} {σ : St} {i : Nat} {l : Addr} {xs xs' : List V} {acc new : List D} (r : RS W Hb Hd H ρ σ) (hs : sgt ρ i = .own acc) (h1 : σ[i]? = some (some (.ref l))) (h3 : H l = some (.lst xs)) (s1 : Same H H1)
    (hi : D.imms (acc ++ new) = true) (e : Same (less H1 l) (less H' l)) (hx : H' l = some (.lst xs')) (hr : Rps W (less H' l) xs' (acc ++ new)) : ∃ Hd', RS W Hb Hd' H' (ρ.set i (.own (acc ++ new))) σ := by
  -- the heap with the old list back
  have s2 : Same H (upd H' l (.lst xs)) := fun b o hb => by
    by_cases c : b = l
    · subst c; rw [upd_same, ← hb]; exact h3.symm
    · rw [upd_ne c]
      have : less H1 l b = some o := by unfold less; rw [if_neg c]; exact s1 _ _ hb
      have h2 := e b o this
      unfold less at h2
      rw [if_neg c] at h2
      exact h2
  have g := r.grow s2
  have hk := r.keepCut s2
  have g2 := g.upd (ys := xs') (es := acc ++ new) hs h1 (hr.keep (fun b o hb n => hk b o (by
    have hb' := less_le _ _ hb
    by_cases c : b = l
    · subst c; rw [hx] at hb'; exact absurd (Option.some.inj hb' ▸ mu_lst) n
    · rw [upd_ne c]; exact hb') n) hi)
  rw [upd_upd] at g2
  have : upd H' l (.lst xs') = H' := by
    funext b
    by_cases c : b = l
    · subst c; rw [upd_same, hx]
    · rw [upd_ne c]
  rw [this] at g2
  exact ⟨_, g2⟩
theorem es_gath2 (i : Nat) {f : List D → Option (List D)} {E : XK} {st : Stmt} (h : PS X st (tDrop (tCall (spG W f) [] E (tCons (tX W f1 m1) (tCons (tX W f2 m2) (tCons (tVar i) tNil)))))) : ES X W fr st (sGath i f (eCons m1 (eCons m2 eNil))) := PS.imp h fun D' σ H ⟨Hb, Hd, ρ, o, r, e, k⟩ => by
  unfold sGath at e
  rw [Option.bind_eq_some_iff] at e
  obtain ⟨ds, e1, e2⟩ := e
  obtain ⟨a, ds1, e3, e4, rfl⟩ := eCons_some e1
  obtain ⟨b, ds2, e5, e6, rfl⟩ := eCons_some e4
  cases e6
  cases hs : sgt ρ i with
  | own acc =>
    rw [hs] at e2
    have e2 : ((f [a, b]).bind fun new => if D.imms (acc ++ new) = true ∧ acc.length + new.length ≤ sizeLine then some (Out.nx (ρ.set i (.own (acc ++ new)))) else none) = some o := e2
    rw [Option.bind_eq_some_iff] at e2
    obtain ⟨new, e7, e8⟩ := e2
    by_cases c : D.imms (acc ++ new) = true ∧ acc.length + new.length ≤ sizeLine
    · rw [if_pos c] at e8
      cases e8
      obtain ⟨l, xs, h1, h2, h3, h4⟩ := r.ow i acc hs
      refine ⟨full ρ, a, r.re, e3, fun v1 H1 s1 r1 _ => ⟨full ρ, b, r.re.mono s1, e5, fun v2 H2 s2 r2 _ => ⟨_, h1, [v1, v2], [a, b], l, xs, acc, new, rfl, .cons (r1.mono s2) (.cons r2 .nil), s2 _ _ (s1 _ _ h3), ?_, e7, c.2, fun H' xs' e9 hx hr => ?_⟩⟩⟩
      · exact h4.mono (less_same (r.s.trans (s1.trans s2)) h2)
      · obtain ⟨Hd', g⟩ := gath_after r hs h1 h3 (s1.trans s2) c.1 e9 hx hr
        exact k _ _ _ g
    · rw [if_neg c] at e8
      cases e8
  | no => rw [hs] at e2; cases e2
  | v _ => rw [hs] at e2; cases e2
  | wd _ _ => rw [hs] at e2; cases e2
theorem es_gath3 (i : Nat) {f : List D → Option (List D)} {E : XK} {st : Stmt} (h : PS X st (tDrop (tCall (spG W f) [] E (tCons (tX W f1 m1) (tCons (tX W f2 m2) (tCons (tX W f3 m3) (tCons (tVar i) tNil))))))) : ES X W fr st (sGath i f (eCons m1 (eCons m2 (eCons m3 eNil)))) := PS.imp h fun D' σ H ⟨Hb, Hd, ρ, o, r, e, k⟩ => by
  unfold sGath at e
  rw [Option.bind_eq_some_iff] at e
  obtain ⟨ds, e1, e2⟩ := e
  obtain ⟨a, ds1, e3, e4, rfl⟩ := eCons_some e1
  obtain ⟨b, ds2, e5, e6, rfl⟩ := eCons_some e4
  obtain ⟨d, ds3, e5', e6', rfl⟩ := eCons_some e6
  cases e6'
  cases hs : sgt ρ i with
  | own acc =>
    rw [hs] at e2
    have e2 : ((f [a, b, d]).bind fun new => if D.imms (acc ++ new) = true ∧ acc.length + new.length ≤ sizeLine then some (Out.nx (ρ.set i (.own (acc ++ new)))) else none) = some o := e2
    rw [Option.bind_eq_some_iff] at e2
    obtain ⟨new, e7, e8⟩ := e2
    by_cases c : D.imms (acc ++ new) = true ∧ acc.length + new.length ≤ sizeLine
    · rw [if_pos c] at e8
      cases e8
      obtain ⟨l, xs, h1, h2, h3, h4⟩ := r.ow i acc hs
      refine ⟨full ρ, a, r.re, e3, fun v1 H1 s1 r1 _ => ⟨full ρ, b, r.re.mono s1, e5, fun v2 H2 s2 r2 _ => ⟨full ρ, d, r.re.mono (s1.trans s2), e5', fun v3 H3 s3 r3 _ => ⟨_, h1, [v1, v2, v3], [a, b, d], l, xs, acc, new, rfl, .cons ((r1.mono s2).mono s3) (.cons (r2.mono s3) (.cons r3 .nil)), s3 _ _ (s2 _ _ (s1 _ _ h3)), ?_, e7, c.2, fun H' xs' e9 hx hr => ?_⟩⟩⟩⟩
      · exact h4.mono (less_same (r.s.trans ((s1.trans s2).trans s3)) h2)
      · obtain ⟨Hd', g⟩ := gath_after r hs h1 h3 ((s1.trans s2).trans s3) c.1 e9 hx hr
        exact k _ _ _ g
    · rw [if_neg c] at e8
      cases e8
  | no => rw [hs] at e2; cases e2
  | v _ => rw [hs] at e2; cases e2
  | wd _ _ => rw [hs] at e2; cases e2
end
/-! ### the boxes in order -/
def T.dep : T → Nat
  | .nil => 0
  | .node l _ r _ _ => 1 + max l.dep r.dep
/-- a row of boxes: the stretch, the depth, the height, the reach -/
abbrev BRow := S3 × Int × Int × Int
def bd (b : BRow) : D := .tup [sd b.1, .int b.2.1, .int b.2.2.1, .int b.2.2.2]
def placed : T → Int → List BRow
  | .nil, _ => []
  | .node l s r h m, d => placed l (d + 1) ++ (s, d, h, m) :: placed r (d + 1)
def looked : T → Int → Int → List T
  | .nil, _, _ => []
  | .node l s r h m, lo, hi => if m < lo then [] else looked l lo hi ++ .node l s r h m :: (if s.1 ≤ hi then looked r lo hi else [])
def gPlaced (n : Nat) : List D → Option (List D)
  | [.box t, .int d] => if t.dep < n then some ((placed t d).map bd) else none
  | _ => none
def gLooked (n : Nat) : List D → Option (List D)
  | [.box t, .int lo, .int hi] => if t.dep < n then some ((looked t lo hi).map .box) else none
  | _ => none
theorem gPlaced_some {n : Nat} {ds new : List D} (h : gPlaced n ds = some new) : ∃ t d, ds = [.box t, .int d] ∧ t.dep < n ∧ new = (placed t d).map bd := by
  unfold gPlaced at h
  split at h
  · split at h
    · cases h; exact ⟨_, _, rfl, by assumption, rfl⟩
    · cases h
  · cases h
theorem gLooked_some {n : Nat} {ds new : List D} (h : gLooked n ds = some new) : ∃ t lo hi, ds = [.box t, .int lo, .int hi] ∧ t.dep < n ∧ new = (looked t lo hi).map .box := by
  unfold gLooked at h
  split at h
  · split at h
    · cases h; exact ⟨_, _, _, rfl, by assumption, rfl⟩
    · cases h
  · cases h
theorem spG_zero {W : Wh} {f : List D → Option (List D)} (hf : ∀ ds, f ds = none) : ∀ vs H Q E, ¬ spG W f vs H Q E := fun vs H Q E ⟨_, ds, _, _, _, _, _, _, _, _, e, _⟩ => by rw [hf] at e; cases e
theorem gPlaced0 (ds : List D) : gPlaced 0 ds = none := by
  unfold gPlaced
  split
  · rw [if_neg (by omega)]
  · rfl
theorem gLooked0 (ds : List D) : gLooked 0 ds = none := by
  unfold gLooked
  split
  · rw [if_neg (by omega)]
  · rfl
section
variable {W : Wh} {Q : VK} {E : XK} {n : Nat}
theorem re2 {H : Hp} {v u : V} {t : T} {d : Int} (h : TrR W H v t) : RE W H [some (.box t), some (.int d), none] [some v, some (.int d), some u] := by
  intro i e he
  match i, he with
  | 0, he => cases he; exact ⟨_, rfl, .box h⟩
  | 1, he => cases he; exact ⟨_, rfl, .int _⟩
  | 2, he => cases he
  | n + 3, he => cases he
theorem Rps.snoc {H : Hp} : ∀ {ds : List D} {vs : List V} {d : D} {v : V}, Rps W H vs ds → Rp W H v d → Rps W H (vs ++ [v]) (ds ++ [d]) := fun h1 h2 => h1.append (.cons h2 .nil)
/-- gather_placed, its body -/
theorem gp_reads {vs : List V} {H : Hp} {f1 f2 f3 f4 f5 : Bool} {mt : BM} {mL mD mT mR mD2 : EM}
    (ht : ∀ t d, mt [some (.box t), some (.int d), none] = some (match t with | .nil => true | _ => false))
    (hL : ∀ l s r h m d, mL [some (.box (.node l s r h m)), some (.int d), none] = some (.box l)) (hR : ∀ l s r h m d, mR [some (.box (.node l s r h m)), some (.int d), none] = some (.box r))
    (hD : ∀ t d, mD [some (.box t), some (.int d), none] = some (.int (d + 1))) (hD2 : ∀ t d, mD2 [some (.box t), some (.int d), none] = some (.int (d + 1)))
    (hT : ∀ l s r h m d, mT [some (.box (.node l s r h m)), some (.int d), none] = some (bd (s, d, h, m)))
    (h : spG W (gPlaced (n + 1)) vs H Q E) : (tSeq (tIfS (tXt W mt) tRetN tNext) (tSeq (tDrop (tCall (spG W (gPlaced n)) [] E (tCons (tX W f1 mL) (tCons (tX W f2 mD) (tCons (tVar 2) tNil))))) (tSeq (tDrop (tBM W.K "list" rAppend (tVar 2) (tCons (tX W f3 mT) tNil)))
      (tDrop (tCall (spG W (gPlaced n)) [] E (tCons (tX W f4 mR) (tCons (tX W f5 mD2) (tCons (tVar 2) tNil)))))))) { nx := fun _ H' => Q .non H', rt := Q } (vs.map some) H := by
  obtain ⟨vs0, ds, l, xs, acc, new, rfl, h1, h2, h3, h4, h5, k⟩ := h
  obtain ⟨t, d, rfl, hn, rfl⟩ := gPlaced_some h4
  obtain ⟨v, v', rfl, h6, h7⟩ := h1.two
  cases h7
  cases h6 with | box h6 =>
  refine ⟨_, _, re2 h6, ht t d, fun H1 s1 => ?_⟩
  have h2' := s1 _ _ h2
  have h3' := h3.mono (less_mono (l := l) s1)
  cases t with
  | nil =>
    refine w_iteT rfl ?_
    exact k H1 xs (less_mono s1) h2' (by rw [show (placed .nil d).map bd = [] from rfl, List.append_nil]; exact h3')
  | node tl s tr h m =>
    refine w_iteF rfl ?_
    rw [T.dep] at hn
    have e1 : placed (.node tl s tr h m) d = placed tl (d + 1) ++ (s, d, h, m) :: placed tr (d + 1) := rfl
    rw [e1] at h5 k
    simp only [List.map_append, List.map_cons, List.length_append, List.length_cons, List.length_map] at h5 k
    have t1 := h6.mono s1
    refine ⟨_, _, re2 t1, hL tl s tr h m d, fun v2 H2 s2 r2 _ => ⟨_, _, re2 (t1.mono s2), hD _ d, fun v3 H3 s3 r3 _ => ⟨_, rfl, ?_⟩⟩⟩
    have s13 := s1.trans (s2.trans s3)
    refine ⟨[v2, v3], [.box tl, .int (d + 1)], l, xs, acc, (placed tl (d + 1)).map bd, rfl, .cons (r2.mono s3) (.cons r3 .nil), s13 _ _ h2, h3.mono (less_mono s13), ?_, by rw [List.length_map]; omega, fun H4 xs4 s4 hx4 hr4 => ?_⟩
    · show (if tl.dep < n then some _ else none) = _
      rw [if_pos (by omega)]
    have kp4 := less_less (s13 _ _ h2) hx4 s4
    have t4 := (h6.mono s13).keep kp4
    refine ⟨_, rfl, .inl ⟨rfl, _, SqL.of hx4⟩, _, _, re2 t4, hT tl s tr h m d, fun v5 H5 s5 r5 _ => ?_⟩
    have hx5 := s5 _ _ hx4
    have r5' : Rp W (less H5 l) v5 (bd (s, d, h, m)) := r5.keep (less_keep hx5) rfl
    have hr5 := hr4.mono (less_mono (l := l) s5)
    refine ⟨l, xs4, v5, rfl, rfl, hx5, ?_, ?_⟩
    · rw [hr4.length, List.length_append, List.length_map]; omega
    have t6 : TrR W (upd H5 l (.lst (xs4 ++ [v5]))) v (.node tl s tr h m) := (t4.mono s5).keep (less_less hx5 upd_same (by rw [less_upd]; exact Same.refl _))
    refine ⟨_, _, re2 t6, hR tl s tr h m d, fun v7 H7 s7 r7 _ => ⟨_, _, re2 (t6.mono s7), hD2 _ d, fun v8 H8 s8 r8 _ => ⟨_, rfl, ?_⟩⟩⟩
    have s78 := s7.trans s8
    have s58 : Same (less H5 l) (less H8 l) := fun b o hb => less_mono s78 b o (by rw [less_upd]; exact hb)
    refine ⟨[v7, v8], [.box tr, .int (d + 1)], l, xs4 ++ [v5], acc ++ (placed tl (d + 1)).map bd ++ [bd (s, d, h, m)], (placed tr (d + 1)).map bd, rfl, .cons (r7.mono s8) (.cons r8 .nil), s78 _ _ upd_same, (hr5.snoc r5').mono s58, ?_, by simp only [List.length_append, List.length_map, List.length_cons, List.length_nil]; omega, fun H9 xs9 s9 hx9 hr9 => ?_⟩
    · show (if tr.dep < n then some _ else none) = _
      rw [if_pos (by omega)]
    exact k H9 xs9 (((((less_mono s13).trans s4).trans (less_mono s5)).trans s58).trans s9) hx9 (by simpa using hr9)
theorem re3 {H : Hp} {v u : V} {t : T} {lo hi : Int} (h : TrR W H v t) : RE W H [some (.box t), some (.int lo), some (.int hi), none] [some v, some (.int lo), some (.int hi), some u] := by
  intro i e he
  match i, he with
  | 0, he => cases he; exact ⟨_, rfl, .box h⟩
  | 1, he => cases he; exact ⟨_, rfl, .int _⟩
  | 2, he => cases he; exact ⟨_, rfl, .int _⟩
  | 3, he => cases he
  | n + 4, he => cases he
def lookEnd (t : T) (lo : Int) : Bool := match t with | .nil => true | .node _ _ _ _ m => decide (m < lo)
/-- gather_looked, its body -/
theorem gl_reads {vs : List V} {H : Hp} {f1 f2 f3 f4 f5 f6 f7 : Bool} {mt mc : BM} {mL mA mB mT mR mA2 mB2 : EM}
    (ht : ∀ t lo hi, mt [some (.box t), some (.int lo), some (.int hi), none] = some (lookEnd t lo))
    (hL : ∀ l s r h m lo hi, mL [some (.box (.node l s r h m)), some (.int lo), some (.int hi), none] = some (.box l)) (hR : ∀ l s r h m lo hi, mR [some (.box (.node l s r h m)), some (.int lo), some (.int hi), none] = some (.box r))
    (hA : ∀ t lo hi, mA [some (.box t), some (.int lo), some (.int hi), none] = some (.int lo)) (hB : ∀ t lo hi, mB [some (.box t), some (.int lo), some (.int hi), none] = some (.int hi))
    (hA2 : ∀ t lo hi, mA2 [some (.box t), some (.int lo), some (.int hi), none] = some (.int lo)) (hB2 : ∀ t lo hi, mB2 [some (.box t), some (.int lo), some (.int hi), none] = some (.int hi))
    (hT : ∀ t lo hi, mT [some (.box t), some (.int lo), some (.int hi), none] = some (.box t))
    (hc : ∀ l s r h m lo hi, mc [some (.box (.node l s r h m)), some (.int lo), some (.int hi), none] = some (decide (s.1 ≤ hi)))
    (h : spG W (gLooked (n + 1)) vs H Q E) : (tSeq (tIfS (tXt W mt) tRetN tNext) (tSeq (tDrop (tCall (spG W (gLooked n)) [] E (tCons (tX W f1 mL) (tCons (tX W f2 mA) (tCons (tX W f3 mB) (tCons (tVar 3) tNil)))))) (tSeq (tDrop (tBM W.K "list" rAppend (tVar 3) (tCons (tX W f4 mT) tNil)))
      (tIfS (tXt W mc) (tDrop (tCall (spG W (gLooked n)) [] E (tCons (tX W f5 mR) (tCons (tX W f6 mA2) (tCons (tX W f7 mB2) (tCons (tVar 3) tNil)))))) tNext)))) { nx := fun _ H' => Q .non H', rt := Q } (vs.map some) H := by
  obtain ⟨vs0, ds, l, xs, acc, new, rfl, h1, h2, h3, h4, h5, k⟩ := h
  obtain ⟨t, lo, hi, rfl, hn, rfl⟩ := gLooked_some h4
  cases h1 with | cons h6 h1 =>
  cases h1 with | cons h7 h1 =>
  cases h1 with | cons h8 h1 =>
  cases h1
  cases h7
  cases h8
  rename_i v
  cases h6 with | box h6 =>
  refine ⟨_, _, re3 h6, ht t lo hi, fun H1 s1 => ?_⟩
  have h2' := s1 _ _ h2
  have h3' := h3.mono (less_mono (l := l) s1)
  have none_case : looked t lo hi = [] → Q .non H1 := fun e => by
    rw [e] at k
    exact k H1 xs (less_mono s1) h2' (by rw [List.map_nil, List.append_nil]; exact h3')
  cases t with
  | nil =>
    refine w_iteT rfl ?_
    exact none_case rfl
  | node tl s tr hh m =>
    by_cases cm : m < lo
    · refine w_iteT (decide_eq_true cm) ?_
      exact none_case (by rw [looked, if_pos cm])
    refine w_iteF (decide_eq_false cm) ?_
    rw [T.dep] at hn
    have e1 : looked (.node tl s tr hh m) lo hi = looked tl lo hi ++ .node tl s tr hh m :: (if s.1 ≤ hi then looked tr lo hi else []) := by rw [looked, if_neg cm]
    rw [e1] at h5 k
    simp only [List.map_append, List.map_cons, List.length_append, List.length_cons, List.length_map] at h5 k
    have t1 := h6.mono s1
    refine ⟨_, _, re3 t1, hL tl s tr hh m lo hi, fun v2 H2 s2 r2 _ => ⟨_, _, re3 (t1.mono s2), hA _ lo hi, fun v3 H3 s3 r3 _ => ⟨_, _, re3 ((t1.mono s2).mono s3), hB _ lo hi, fun v3' H3' s3' r3' _ => ⟨_, rfl, ?_⟩⟩⟩⟩
    have s13 := s1.trans (s2.trans (s3.trans s3'))
    refine ⟨[v2, v3, v3'], [.box tl, .int lo, .int hi], l, xs, acc, (looked tl lo hi).map .box, rfl, .cons ((r2.mono s3).mono s3') (.cons (r3.mono s3') (.cons r3' .nil)), s13 _ _ h2, h3.mono (less_mono s13), ?_, by rw [List.length_map]; omega, fun H4 xs4 s4 hx4 hr4 => ?_⟩
    · show (if tl.dep < n then some _ else none) = _
      rw [if_pos (by omega)]
    have kp4 := less_less (s13 _ _ h2) hx4 s4
    have t4 := (h6.mono s13).keep kp4
    refine ⟨_, rfl, .inl ⟨rfl, _, SqL.of hx4⟩, _, _, re3 t4, hT _ lo hi, fun v5 H5 s5 r5 _ => ?_⟩
    have hx5 := s5 _ _ hx4
    have r5' : Rp W (less H5 l) v5 (.box (.node tl s tr hh m)) := r5.keep (less_keep hx5) rfl
    have hr5 := hr4.mono (less_mono (l := l) s5)
    refine ⟨l, xs4, v5, rfl, rfl, hx5, ?_, ?_⟩
    · rw [hr4.length, List.length_append, List.length_map]; omega
    have t6 : TrR W (upd H5 l (.lst (xs4 ++ [v5]))) v (.node tl s tr hh m) := (t4.mono s5).keep (less_less hx5 upd_same (by rw [less_upd]; exact Same.refl _))
    refine ⟨_, _, re3 t6, hc tl s tr hh m lo hi, fun H6 s6 => ?_⟩
    have s56 : Same (less H5 l) (less H6 l) := fun b o hb => less_mono s6 b o (by rw [less_upd]; exact hb)
    by_cases c2 : s.1 ≤ hi
    · rw [if_pos c2] at h5 k
      refine w_iteT (decide_eq_true c2) ?_
      have t7 := t6.mono s6
      refine ⟨_, _, re3 t7, hR tl s tr hh m lo hi, fun v7 H7 s7 r7 _ => ⟨_, _, re3 (t7.mono s7), hA2 _ lo hi, fun v8 H8 s8 r8 _ => ⟨_, _, re3 ((t7.mono s7).mono s8), hB2 _ lo hi, fun v9 H9 s9 r9 _ => ⟨_, rfl, ?_⟩⟩⟩⟩
      have s79 := s6.trans (s7.trans (s8.trans s9))
      have s59 : Same (less H5 l) (less H9 l) := fun b o hb => less_mono s79 b o (by rw [less_upd]; exact hb)
      refine ⟨[v7, v8, v9], [.box tr, .int lo, .int hi], l, xs4 ++ [v5], acc ++ (looked tl lo hi).map .box ++ [.box (.node tl s tr hh m)], (looked tr lo hi).map .box, rfl, .cons ((r7.mono s8).mono s9) (.cons (r8.mono s9) (.cons r9 .nil)), s79 _ _ upd_same, (hr5.snoc r5').mono s59, ?_, by simp only [List.length_append, List.length_map, List.length_cons, List.length_nil]; omega, fun H10 xs10 s10 hx10 hr10 => ?_⟩
      · show (if tr.dep < n then some _ else none) = _
        rw [if_pos (by omega)]
      exact k H10 xs10 (((((less_mono s13).trans s4).trans (less_mono s5)).trans s59).trans s10) hx10 (by simpa using hr10)
    · rw [if_neg c2] at h5 k
      refine w_iteF (decide_eq_false c2) ?_
      exact k H6 (xs4 ++ [v5]) ((((less_mono s13).trans s4).trans (less_mono s5)).trans s56) (s6 _ _ upd_same) (by simpa using (hr5.snoc r5').mono s56)
theorem spGp_len {vs : List V} {H : Hp} (h : spG W (gPlaced n) vs H Q E) : vs.length = 3 := by
  obtain ⟨vs0, ds, l, xs, acc, new, rfl, h1, h2, h3, h4, _⟩ := h
  obtain ⟨t, d, rfl, _, _⟩ := gPlaced_some h4
  rw [List.length_append, h1.length]; rfl
theorem spGl_len {vs : List V} {H : Hp} (h : spG W (gLooked n) vs H Q E) : vs.length = 4 := by
  obtain ⟨vs0, ds, l, xs, acc, new, rfl, h1, h2, h3, h4, _⟩ := h
  obtain ⟨t, lo, hi, rfl, _, _⟩ := gLooked_some h4
  rw [List.length_append, h1.length]; rfl
end
end
end Sp

set_option Elab.async false
set_option linter.all false
set_option maxRecDepth 100000
set_option maxHeartbeats 2000000
namespace Sp
open PySem L2
open Classical
noncomputable section
/-! ### a def that changes the wood that it is handed first -/
theorem less_wood {H : Hp} {l C dx : Addr} {v : V} (h : H l = some (.ins C dx [("_top", v)])) : Keep H (less H l) := fun b o hb n => by
  unfold less
  rw [if_neg (fun z => by subst z; rw [h] at hb; exact n (Option.some.inj hb ▸ mu_wood))]
  exact hb
section
variable {X : Cx} {W : Wh} {fr fa : Bool} {ma : EM} {Hb Hd H : Hp} {ρ : SEnv} {σ : St}
theorem RS.lessTo (r : RS W Hb Hd H ρ σ) {l : Addr} (hb : Hb l = none) : Same Hb (less H l) := fun b o h => by
  unfold less
  rw [if_neg (ne_of_none h hb)]
  exact r.same _ _ h
theorem RS.lessUp (r : RS W Hb Hd H ρ σ) {l : Addr} (hd : Hd l = none) : Same Hd (less H l) := fun b o h => by
  unfold less
  rw [if_neg (ne_of_none h hd)]
  exact r.s _ _ h
/-- self._top = e -/
def sTop (i : Nat) (m : EM) : SM := fun ρ => (m (full ρ)).bind fun d => d.asBox.bind fun t => match sgt ρ i with
  | .wd a _ => some (.nx (ρ.set i (.wd a t)))
  | _ => none
theorem es_top (i : Nat) {st : Stmt} (cl : Cls W.K W.w) (nf : NoAttr W.K W.w "_top") (h : PS X st (sFld W.K (tVar i) (tX W fa ma) "_top")) : ES X W fr st (sTop i ma) := PS.imp h fun D' σ H ⟨Hb, Hd, ρ, o, r, e, k⟩ => by
  unfold sTop at e
  rw [Option.bind_eq_some_iff] at e
  obtain ⟨d, e1, e⟩ := e
  rw [Option.bind_eq_some_iff] at e
  obtain ⟨t, e2, e3⟩ := e
  cases hs : sgt ρ i with
  | wd a t0 =>
    rw [hs] at e3
    cases e3
    obtain ⟨l, dx, v, h1, h2, h3, ha, h4⟩ := r.wo i a t0 hs
    refine ⟨full ρ, d, r.re, e1, fun u H1 s1 r1 _ => ⟨.ref l, h1, l, W.w, dx, _, rfl, s1 _ _ h3, cl, nf, (show (1 : Nat) < 1000 from by decide), ?_⟩⟩
    have g := r.grow s1
    have hb : TrR W (cutO ρ σ H1) u t := (D.asBox_rp r1 e2).keep (r.keepCut s1)
    exact k _ _ _ (g.updU (sv := .wd a t) (by rw [hs]; rfl) h1 rfl ⟨rfl, rfl, ha, hb⟩)
  | no => rw [hs] at e3; cases e3
  | v _ => rw [hs] at e3; cases e3
  | own _ => rw [hs] at e3; cases e3
theorem gv_top {i : Nat} {P : Out → Prop} : Gv (sTop i ma ρ) P ↔ Ge (ma (full ρ)) fun d => ∃ t a t0, d.asBox = some t ∧ sgt ρ i = .wd a t0 ∧ P (.nx (ρ.set i (.wd a t))) := by
  unfold sTop Gv Ge
  constructor
  · rintro ⟨o, e, hp⟩
    rw [Option.bind_eq_some_iff] at e
    obtain ⟨d, e1, e⟩ := e
    rw [Option.bind_eq_some_iff] at e
    obtain ⟨t, e2, e3⟩ := e
    cases hs : sgt ρ i with
    | wd a t0 => rw [hs] at e3; cases e3; exact ⟨d, e1, t, a, t0, e2, rfl, hp⟩
    | no => rw [hs] at e3; cases e3
    | v _ => rw [hs] at e3; cases e3
    | own _ => rw [hs] at e3; cases e3
  · rintro ⟨d, e1, t, a, t0, e2, hs, hp⟩
    refine ⟨_, ?_, hp⟩
    rw [e1, Option.bind_some, e2, Option.bind_some, hs]
end
/-- what such a def promises: f tells the wood behind and the value, or the class of the error -/
def spM (W : Wh) (f : T → List D → Option (Except Addr (T × D))) : L2.Sp := fun vs H Q E => ∃ (l dx : Addr) (v : V) (t : T) (vs0 : List V) (ds : List D) (r : Except Addr (T × D)), vs = .ref l :: vs0 ∧ H l = some (.ins W.w dx [("_top", v)]) ∧ TrR W (less H l) v t ∧ Rps W (less H l) vs0 ds ∧ f t ds = some r ∧
  match r with
  | .ok (t', d) => ∀ H' dx' v' u, Same (less H l) (less H' l) → H' l = some (.ins W.w dx' [("_top", v')]) → TrR W (less H' l) v' t' → Rp W (less H' l) u d → Q u H'
  | .error C => ∀ H' dx' v', Same (less H l) (less H' l) → H' l = some (.ins W.w dx' [("_top", v')]) → TrR W (less H' l) v' t → E (.ref C) none H'
section
variable {W : Wh} {H : Hp}
theorem rs_startW {N : List Str} {l dx : Addr} {v : V} {t : T} {vs : List V} {ds : List D} (hl : H l = some (.ins W.w dx [("_top", v)])) (ht : TrR W (less H l) v t) (h : Rps W (less H l) vs ds) (hn : ds.length + 1 ≤ N.length) :
    RS W (less H l) (less H l) H (.wd (some l) t :: frm (N.length - 1) ds) (L2.start N (.ref l :: vs)) := by
  have hz : (less H l) l = none := by unfold less; exact if_pos rfl
  have r0 := rs_start (W := W) (N := N.tail) (H := less H l) h (by rw [List.length_tail]; omega)
  have es : L2.start N (.ref l :: vs) = some (.ref l) :: L2.start N.tail vs := by
    unfold L2.start
    rw [List.map_cons, List.cons_append, List.length_cons, List.length_tail, show N.length - (vs.length + 1) = N.length - 1 - vs.length from by omega]
  rw [List.length_tail] at r0
  rw [es]
  have fr0 : ∀ j, (sgt (frm (N.length - 1) ds) j).free = true := fun j => by
    rw [sgt_frm]
    split <;> rfl
  refine ⟨Same.refl _, less_le, by rw [List.length_cons, List.length_cons, r0.len], fun i d e => ?_, fun i e => ?_, fun i j l' e1 e2 _ _ => ?_⟩
  · cases i with
    | zero => cases e
    | succ i => exact r0.sl i d e
  · cases i with
    | zero => exact ⟨l, _, rfl, hz, hl, rfl, rfl, fun b hb => Option.some.inj hb, ht⟩
    | succ i => exact absurd (fr0 i) (by rw [show sgt (frm (N.length - 1) ds) i = sgt (.wd (some l) t :: frm (N.length - 1) ds) (i + 1) from rfl, e]; decide)
  · cases i with
    | zero =>
      cases j with
      | zero => rfl
      | succ j => exact absurd (fr0 j) (by rw [show sgt (frm (N.length - 1) ds) j = sgt (.wd (some l) t :: frm (N.length - 1) ds) (j + 1) from rfl, e2]; decide)
    | succ i => exact absurd (fr0 i) (by rw [show sgt (frm (N.length - 1) ds) i = sgt (.wd (some l) t :: frm (N.length - 1) ds) (i + 1) from rfl, e1]; decide)
/-- .. its body, no error left -/
theorem run_reads {N : List Str} {l dx : Addr} {v : V} {t t' : T} {vs : List V} {ds : List D} {d : D} {m : SM} {Q : VK} (hl : H l = some (.ins W.w dx [("_top", v)])) (ht : TrR W (less H l) v t) (h : Rps W (less H l) vs ds) (hn : ds.length + 1 ≤ N.length) (hi : d.imm = true)
    (hm : ∃ o, m (.wd (some l) t :: frm (N.length - 1) ds) = some o ∧ ((∃ ρ', o = .nx ρ' ∧ d = .non ∧ sgt ρ' 0 = .wd (some l) t') ∨ ∃ ρ', o = .rt d ρ' ∧ sgt ρ' 0 = .wd (some l) t'))
    (k : ∀ H' dx' v' u, Same (less H l) (less H' l) → H' l = some (.ins W.w dx' [("_top", v')]) → TrR W (less H' l) v' t' → Rp W (less H' l) u d → Q u H') : tS W false m { nx := fun _ H' => Q .non H', rt := Q } (L2.start N (.ref l :: vs)) H := by
  obtain ⟨o, e, ho⟩ := hm
  have hz : (less H l) l = none := by unfold less; exact if_pos rfl
  refine ⟨_, _, _, o, rs_startW hl ht h hn, e, ?_⟩
  rcases ho with ⟨ρ', rfl, rfl, e0⟩ | ⟨ρ', rfl, e0⟩
  · intro σ' H' Hd' r
    obtain ⟨l', dx', v', h1, h2, h3, ha, h4⟩ := r.wo 0 _ _ e0
    have := ha l rfl
    subst this
    exact k H' dx' v' .non (r.lessTo hz) h3 (h4.mono (r.lessUp h2)) .non
  · intro u σ' H' H2 Hd' r s2 hu _
    obtain ⟨l', dx', v', h1, h2, h3, ha, h4⟩ := r.wo 0 _ _ e0
    have := ha l rfl
    subst this
    have h3' := s2 _ _ h3
    exact k H2 dx' v' u ((r.lessTo hz).trans (less_mono s2)) h3' ((h4.mono (r.lessUp h2)).mono (less_mono s2)) (hu.keep (less_wood h3') hi)
/-- .. its body: a statement, a test that is true, the error -/
theorem raise_reads {N : List Str} {l dx C : Addr} {v : V} {t : T} {vs : List V} {ds : List D} {m1 : SM} {mt : BM} {rest : TS} {D' : Ends} {E : XK} {ρ1 : SEnv} (hl : H l = some (.ins W.w dx [("_top", v)])) (ht : TrR W (less H l) v t) (h : Rps W (less H l) vs ds) (hn : ds.length + 1 ≤ N.length)
    (e1 : m1 (.wd (some l) t :: frm (N.length - 1) ds) = some (.nx ρ1)) (e0 : sgt ρ1 0 = .wd (some l) t) (e2 : mt (full ρ1) = some true)
    (k : ∀ H' dx' v', Same (less H l) (less H' l) → H' l = some (.ins W.w dx' [("_top", v')]) → TrR W (less H' l) v' t → E (.ref C) none H') :
    tSeq (tS W false m1) (tSeq (tIfS (tXt W mt) (fun _ _ H' => E (.ref C) none H') tNext) rest) D' (L2.start N (.ref l :: vs)) H := by
  have hz : (less H l) l = none := by unfold less; exact if_pos rfl
  refine ⟨_, _, _, _, rs_startW hl ht h hn, e1, ?_⟩
  intro σ' H' Hd' r
  refine ⟨full ρ1, true, r.re, e2, fun H2 s2 => w_iteT rfl ?_⟩
  obtain ⟨l', dx', v', h1, h2, h3, ha, h4⟩ := r.wo 0 _ _ e0
  have := ha l rfl
  subst this
  exact k H2 dx' v' ((r.lessTo hz).trans (less_mono s2)) (s2 _ _ h3) ((h4.mono (r.lessUp h2)).mono (less_mono s2))
end
theorem spM_len {W : Wh} {f : T → List D → Option (Except Addr (T × D))} {n : Nat} (hn : ∀ t ds r, f t ds = some r → ds.length = n) {vs : List V} {H : Hp} {Q : VK} {E : XK} (h : spM W f vs H Q E) : vs.length = n + 1 := by
  obtain ⟨l, dx, v, t, vs0, ds, r, rfl, _, _, hds, hf, _⟩ := h
  rw [List.length_cons, hds.length, hn _ _ _ hf]
/-- an own class of errors under ValueError, all that a raise asks -/
structure OwnE (K : PySem.W.Frag) (mg : Str → Option Value) (x : Str) (C : Addr) : Prop where
  g : mg x = some (.ref C)
  x : PySem.W.excIn K C [.type "ValueError", .type "Exception", .type "BaseException", .type "object"] "ValueError.__new__" = true
  k : PySem.W.keepIn K (.ref C) = true
  b : PySem.W.subIn K (.ref C) (.type "BaseException") = some true
  t : PySem.W.typeIn K (.ref C) = some (.type "type")
/-! ### one's own wood, handed to such a def -/
section
variable {X : Cx} {W : Wh} {fr fa : Bool} {ma : EM} {m1 m2 : SM}
theorem wood_after {Hb Hd H H1 H' : Hp} {ρ : SEnv} {σ : St} {i : Nat} {l dx dx' : Addr} {v v' : V} {a : Option Addr} {t t' : T} (r : RS W Hb Hd H ρ σ) (hs : sgt ρ i = .wd a t) (h1 : σ[i]? = some (some (.ref l))) (h3 : H l = some (.ins W.w dx [("_top", v)])) (ha : ∀ b, a = some b → l = b) (s1 : Same H H1)
    (e : Same (less H1 l) (less H' l)) (hx : H' l = some (.ins W.w dx' [("_top", v')])) (hr : TrR W (less H' l) v' t') : ∃ Hd', RS W Hb Hd' H' (ρ.set i (.wd a t')) σ := by
  have s2 : Same H (upd H' l (.ins W.w dx [("_top", v)])) := fun b o hb => by
    by_cases c : b = l
    · subst c; rw [upd_same, ← hb]; exact h3.symm
    · rw [upd_ne c]
      have : less H1 l b = some o := by unfold less; rw [if_neg c]; exact s1 _ _ hb
      have h2 := e b o this
      unfold less at h2
      rw [if_neg c] at h2
      exact h2
  have g := r.grow s2
  have hk := r.keepCut s2
  have g2 := g.updU (sv := .wd a t') (o := .ins W.w dx' [("_top", v')]) (by rw [hs]; rfl) h1 rfl ⟨rfl, rfl, ha, hr.keep (fun b o hb n => hk b o (by
    have hb' := less_le _ _ hb
    by_cases c : b = l
    · subst c; rw [hx] at hb'; exact absurd (Option.some.inj hb' ▸ mu_wood) n
    · rw [upd_ne c]; exact hb') n)⟩
  rw [upd_upd] at g2
  have : upd H' l (.ins W.w dx' [("_top", v')]) = H' := by
    funext b
    by_cases c : b = l
    · subst c; rw [upd_same, hx]
    · rw [upd_ne c]
  rw [this] at g2
  exact ⟨_, g2⟩
/-- if not f(wood, e): A else: B -/
def sIfDo (i : Nat) (f : T → List D → Option (Except Addr (T × D))) (me : EM) (A B : SM) : SM := fun ρ => (me (full ρ)).bind fun d => match sgt ρ i with
  | .wd a t => if d.imm = true then (f t [d]).bind fun r => match r with
    | .ok (t', .bl b) => if b = true then B (ρ.set i (.wd a t')) else A (ρ.set i (.wd a t'))
    | _ => none
    else none
  | _ => none
theorem es_ifDo (i : Nat) {f : T → List D → Option (Except Addr (T × D))} {E : XK} {c : Expr} {x y : List Stmt} {pos : Pos} (hc : PT X c (tNot (tB (tCall (spM W f) [] E (tCons (tVar i) (tCons (tX W fa ma) tNil)))))) (hA : EB X W fr x m1) (hB : EB X W fr y m2) :
    ES X W fr (.If c x y pos) (sIfDo i f ma m1 m2) := PS.imp (ps_if hc hA hB) fun D' σ H ⟨Hb, Hd, ρ, o, r, e, k⟩ => by
  unfold sIfDo at e
  rw [Option.bind_eq_some_iff] at e
  obtain ⟨d, e1, e⟩ := e
  cases hs : sgt ρ i with
  | wd a t =>
    rw [hs] at e
    have e : (if d.imm = true then (f t [d]).bind fun r => match r with
      | .ok (t', .bl b) => if b = true then m2 (ρ.set i (.wd a t')) else m1 (ρ.set i (.wd a t'))
      | _ => none
      else none) = some o := e
    by_cases ci : d.imm = true
    · rw [if_pos ci, Option.bind_eq_some_iff] at e
      obtain ⟨res, e2, e3⟩ := e
      match res, e2, e3 with
      | .ok (t', .bl b), e2, e3 =>
        obtain ⟨l, dx, v, h1, h2, h3, ha, h4⟩ := r.wo i a t hs
        refine ⟨_, h1, full ρ, d, r.re, e1, fun v1 H1 s1 r1 _ => ?_⟩
        have h3' := s1 _ _ h3
        refine ⟨l, dx, v, t, [v1], [d], .ok (t', .bl b), rfl, h3', h4.mono (less_same (r.s.trans s1) h2), .cons (r1.keep (less_wood h3') ci) .nil, e2, fun H' dx' v' u s' hx tr ru => ?_⟩
        cases ru
        obtain ⟨Hd', g⟩ := wood_after r hs h1 h3 ha s1 s' hx tr
        refine ⟨b, rfl, ?_⟩
        cases b with
        | true => exact ⟨Hb, _, _, o, g, (by simpa using e3), k⟩
        | false => exact ⟨Hb, _, _, o, g, (by simpa using e3), k⟩
    · rw [if_neg ci] at e; cases e
  | no => rw [hs] at e; cases e
  | v _ => rw [hs] at e; cases e
  | own _ => rw [hs] at e; cases e
theorem gv_ifDo {ρ : SEnv} {P : Out → Prop} {i : Nat} {f : T → List D → Option (Except Addr (T × D))} {a : Option Addr} {t t' : T} {b : Bool} (hs : sgt ρ i = .wd a t) (h : Ge (ma (full ρ)) fun d => d.imm = true ∧ f t [d] = some (.ok (t', .bl b))) (q : if b = true then Gv (m2 (ρ.set i (.wd a t'))) P else Gv (m1 (ρ.set i (.wd a t'))) P) : Gv (sIfDo i f ma m1 m2 ρ) P := by
  obtain ⟨d, e1, hi, e2⟩ := h
  have e : sIfDo i f ma m1 m2 ρ = if b = true then m2 (ρ.set i (.wd a t')) else m1 (ρ.set i (.wd a t')) := by
    unfold sIfDo
    rw [e1, Option.bind_some, hs]
    simp only
    rw [if_pos hi, e2, Option.bind_some]
  rw [e]
  cases b with
  | true => simpa using q
  | false => simpa using q
/-- x = Wood() -/
def spInitW (W : Wh) : L2.Sp := fun vs H Q _ => ∃ (x dx : Addr), vs = [.ref x] ∧ H x = some (.ins W.w dx []) ∧ ∀ H', (∀ b o, H b = some o → b ≠ x → H' b = some o) → H' x = some (.ins W.w dx [("_top", .non)]) → Q .non H'
theorem initW_reads {vs : List V} {H : Hp} {Q : VK} {E : XK} (cl : Cls W.K W.w) (nf : NoAttr W.K W.w "_top") (h : spInitW W vs H Q E) : (sFld W.K (tVar 0) (tC .non) "_top") { nx := fun _ H' => Q .non H', rt := Q } (vs.map some) H := by
  obtain ⟨x, dx, rfl, hx, k⟩ := h
  exact ⟨.ref x, rfl, x, W.w, dx, [], rfl, hx, cl, nf, (show (0 : Nat) < 1000 from by decide), k _ (fun b o e nb => by rw [upd_ne nb]; exact e) upd_same⟩
def sNewW (i : Nat) : SM := fun ρ => some (.nx (ρ.set i (.wd none .nil)))
theorem es_newW (i : Nat) {E : XK} {st : Stmt} (h : PS X st (tAsg (tMake W.w (spInitW W) [] E tNil) (gName i))) : ES X W fr st (sNewW i) := PS.imp h fun D' σ H ⟨Hb, Hd, ρ, o, r, e, k⟩ => by
  cases e
  intro x dx nx nd ne
  refine ⟨x, dx, rfl, upd_same, fun H' kp hx => ⟨rfl, ?_⟩⟩
  have s1 : Same H H' := fun b o hb => kp b o (by rw [upd_ne (ne_of_none hb nx), upd_ne (ne_of_none hb nd)]; exact hb) (ne_of_none hb nx)
  have hdx : Hd x = none := r.s.free nx
  have g := r.grow s1
  refine k _ _ (fun b => if b = x then none else cutO ρ σ H' b) ?_
  have r2 : RS W Hb (fun b => if b = x then none else cutO ρ σ H' b) H' ρ σ := by
    refine r.to (fun b o h => ?_) (fun b o h => ?_) (fun l ol => ⟨?_, fun xs h => s1 _ _ h⟩)
    · show (if b = x then none else cutO ρ σ H' b) = some o
      rw [if_neg (ne_of_none h hdx)]
      unfold cutO
      rw [if_neg (fun z => by rw [(r.owD z).1] at h; cases h)]
      exact s1 _ _ (r.s _ _ h)
    · have h : (if b = x then none else cutO ρ σ H' b) = some o := h
      split at h
      · cases h
      · exact g.s _ _ h
    · show (if l = x then none else cutO ρ σ H' l) = none
      split
      · rfl
      · exact if_pos ol
  refine r2.setU rfl (if_pos rfl) hx ⟨rfl, rfl, fun b hb => (nomatch hb), .nil⟩ (fun j _ e3 h3 => ?_)
  obtain ⟨_, h4, _⟩ := (r.owD ⟨j, e3, h3⟩).2
  rw [nx] at h4; cases h4
end
end
end Sp

set_option Elab.async false
set_option linter.all false
set_option maxRecDepth 100000
set_option maxHeartbeats 2000000
namespace Sp
open PySem L2
open Classical
noncomputable section
/-- a method, all that a call asks -/
structure OwnM (P : Program) (w : World) (K : PySem.W.Frag) (mg : Str → Option Value) (base : Heap) (C : Addr) (CX : CXT) (k : Nat) (m : Str) (f : Addr) (fd : FuncData) (ps : List Str) (sp : L2.Sp) : Prop where
  mt : Meth K C m f
  ok : FnOk P w K mg base CX k f fd ps sp
  b : Binds K fd ps []
/-! ### a method that may raise, within a try -/
def tMethE (C : Addr) (m : Str) (sp : L2.Sp) (E : St → XK) (ta : TE) (t : TA) : TE := fun σ H Q => ta σ H fun x H1 => ∃ a dx fs, x = .ref a ∧ H1 a = some (.ins C dx fs) ∧ fs.lookup m = none ∧ t σ H1 fun vs H2 => sp (x :: vs) H2 Q (E σ)
theorem pe_methE {X : Cx} {CX : CXT} {k : Nat} {C f : Addr} {fd : FuncData} {ps : List Str} {m : Str} {sp : L2.Sp} {E : St → XK} {o e : Expr} {es : List Expr} {ta : TE} {t : TA} {apos pos : Pos} {pl : Sem Bool} (he : PE X o ta) (c : Cls X.K C) (hm : Meth X.K C m f)
    (F : FnOk X.prog X.w X.K X.mg X.base CX k f fd ps sp) (hr : Room k X.A) (hb : Binds X.K fd ps []) (hx : ∀ σ, PassesAt CX X σ (E σ)) (ha : PA X (e :: es) t)
    (hst : starEach (e :: es) X.env = (false, eval e X.env) :: starEach es X.env := by rfl) (hpl : (backTo pos (starEach es X.env)).any (·.1) = false := by rfl)
    (ht : eval (.Call (.Attribute o m apos) (e :: es) [] pos) X.env = (do
      let ov ← eval o X.env
      standAt apos.atName
      let (f, first) ← holding [ov] (getMethod ov m pl)
      callWith pos f first (backTo pos (starEach (e :: es) X.env)) (backToKw pos (keywordEach [] X.env))) := by rfl) :
    PE X (.Call (.Attribute o m apos) (e :: es) [] pos) (tMethE C m sp E ta t) := by
  constructor
  intro pins s σ H Q I h
  refine PySem.W.methodCall_KW (pl := pl) (thn (he.run pins s σ H _ I h) fun u s1 hh => ?_) ht
  obtain ⟨x, H1, I1, rx, a, dx, fs, rfl, ea, l, q⟩ := hh
  have eu : u = Value.ref a := rx
  subst eu
  refine getmeth_ok I1 ea c hm l (PySem.W.callWith_K (first := [.ref a]) (h₀ := X.base) I.ok.mod.kin hm.kp (thn (ha.run pos pins s1 σ H1 _ I1 q) fun us s2 hh => ?_) hst hpl)
  obtain ⟨vs, H2, I2, r, q2⟩ := hh
  exact ⟨I2.kIn, run_fnS (us := .ref a :: us) (vs := .ref a :: vs) F hr hb (hx σ) I2 (.cons rfl r) q2⟩
section
variable {W : Wh} {H : Hp}
/-- the end of such a def -/
theorem rt_end {l : Addr} {t' : T} {d : D} {D' : Ends} {ρ' : SEnv} (e0 : sgt ρ' 0 = .wd (some l) t') (hi : d.imm = true)
    (k : ∀ H' dx' v' u, Same (less H l) (less H' l) → H' l = some (.ins W.w dx' [("_top", v')]) → TrR W (less H' l) v' t' → Rp W (less H' l) u d → D'.rt u H') : OutOk W false (less H l) D' (.rt d ρ') := by
  have hz : (less H l) l = none := by unfold less; exact if_pos rfl
  intro u σ' H' H2 Hd' r s2 hu _
  obtain ⟨l', dx', v', h1, h2, h3, ha, h4⟩ := r.wo 0 _ _ e0
  have := ha l rfl
  subst this
  have h3' := s2 _ _ h3
  exact k H2 dx' v' u ((r.lessTo hz).trans (less_mono s2)) h3' ((h4.mono (r.lessUp h2)).mono (less_mono s2)) (hu.keep (less_wood h3') hi)
/-- the call of put or take in the try: from the slots ρ1 (the wood at 0), the wood t, what the call's g tells; behind it the ends D' -/
theorem call_reads {Hb Hd H1 : Hp} {σ : St} {ρ1 : SEnv} {D' : Ends} {S : Addr} {t : T} {l : Addr} {x : Str} {ts : Addr → Value → Option Addr → TS} {g : T → List D → Option (Except Addr (T × D))} {f1 f2 f3 : Bool} {m1 m2 m3 : EM} {a b c : Int} {res : Except Addr (T × D)}
    (hx : x ≠ "_top") (r : RS W Hb Hd H1 ρ1 σ) (e0 : sgt ρ1 0 = .wd (some l) t) (h1 : m1 (full ρ1) = some (.int a)) (h2 : m2 (full ρ1) = some (.int b)) (h3 : m3 (full ρ1) = some (.int c)) (hg : g t [.int a, .int b, .int c] = some res)
    (hok : ∀ t' d, res = .ok (t', d) → ∀ H' Hd', RS W Hb Hd' H' (ρ1.set 0 (.wd (some l) t')) σ → D'.nx σ H')
    (herr : ∀ C, res = .error C → PySem.W.exmOne W.K (.ref C) (.ref S) = some true ∧ ∀ H' Hd' q dd, RS W Hb Hd' H' (ρ1.set 0 (.wd (some l) t)) σ → ts q (.ref C) dd D' σ H') :
    (tDrop (tMethE W.w x (spM W g) (WE (wOnly W.K (.ref S) ts (fun _ _ _ _ => False) D')) (tVar 0) (tCons (tX W f1 m1) (tCons (tX W f2 m2) (tCons (tX W f3 m3) tNil))))) D' σ H1 := by
  obtain ⟨l', dx, v, s1, s2, s3, ha, s4⟩ := r.wo 0 (some l) t e0
  have el := ha l rfl
  subst el
  refine ⟨.ref l', s1, l', dx, _, rfl, s3, top_look hx _, full ρ1, _, r.re, h1, fun v1 H2 e2 r1 _ => ⟨full ρ1, _, r.re.mono e2, h2, fun v2 H3 e3 r2 _ => ⟨full ρ1, _, (r.re.mono e2).mono e3, h3, fun v3 H4 e4 r3 _ => ?_⟩⟩⟩
  have s := e2.trans (e3.trans e4)
  have hl4 := s _ _ s3
  refine ⟨l', dx, v, t, [v1, v2, v3], [.int a, .int b, .int c], res, rfl, hl4, s4.mono (less_same (r.s.trans s) s2), .cons (((r1.mono e3).mono e4).keep (less_wood hl4) rfl) (.cons ((r2.mono e4).keep (less_wood hl4) rfl) (.cons (r3.keep (less_wood hl4) rfl) .nil)), hg, ?_⟩
  cases res with
  | ok y =>
    obtain ⟨t', d⟩ := y
    intro H' dx' v' u s' hx' tr ru
    obtain ⟨Hd', gg⟩ := wood_after r e0 s1 s3 ha s s' hx' tr
    exact hok t' d rfl H' Hd' gg
  | error C =>
    intro H' dx' v' s' hx' tr
    obtain ⟨Hd', gg⟩ := wood_after r e0 s1 s3 ha s s' hx' tr
    exact ⟨true, (herr C rfl).1, fun _ q _ => (herr C rfl).2 H' Hd' q none gg, fun z => nomatch z⟩
end
end
end Sp

set_option Elab.async false
set_option linter.all false
set_option maxRecDepth 100000
set_option maxHeartbeats 2000000
namespace Sp
open PySem L2 PySem.Spec PyProof.Rows
open Classical
noncomputable section
/-! ### a slice of a list with a step -/
def pickD {α : Type} (xs : List α) (lo hi : Option Int) (k : Int) : List α := (sliceRange (sliceBounds lo hi (some k) xs.length).1 (sliceBounds lo hi (some k) xs.length).2.1 (sliceBounds lo hi (some k) xs.length).2.2).filterMap (xs[·]?)
theorem bounds_ok {lo hi : Option Int} {k : Int} {n : Nat} (hk : 0 < k) : 0 ≤ (sliceBounds lo hi (some k) n).1 ∧ (sliceBounds lo hi (some k) n).2.1 ≤ n := by
  unfold sliceBounds
  simp only [Option.getD_some, gt_iff_lt, hk, if_true]
  constructor
  · cases lo <;> simp only <;> omega
  · cases hi <;> simp only <;> omega
theorem pickD_len {α : Type} (xs : List α) (lo hi : Option Int) {k : Int} (hk : 0 < k) : (pickD xs lo hi k).length ≤ xs.length := by
  refine Nat.le_trans (List.length_filterMap_le _ _) (sliceRange_length_le _ _ _ _ (fun _ => bounds_ok hk) (fun h => absurd (show (sliceBounds lo hi (some k) xs.length).2.2 > 0 from hk) h))
theorem pickD_map {α β : Type} (f : α → β) (xs : List α) (lo hi : Option Int) (k : Int) : pickD (xs.map f) lo hi k = (pickD xs lo hi k).map f := by
  unfold pickD
  rw [List.length_map, List.map_filterMap]
  congr 1
  funext i
  rw [List.getElem?_map]
theorem Vals.pick {xs : List V} {its : List Value} (r : Vals xs its) (idx : List Nat) : Vals (idx.filterMap (xs[·]?)) (idx.filterMap (its[·]?)) := by
  induction idx with
  | nil => exact .nil
  | cons i idx ih =>
    have hlen := r.length
    by_cases h : i < xs.length
    · have h2 : i < its.length := by omega
      rw [List.filterMap_cons, List.filterMap_cons, List.getElem?_eq_getElem h, List.getElem?_eq_getElem h2]
      refine .cons ?_ ih
      clear ih hlen
      induction r generalizing i with
      | nil => exact absurd h (Nat.not_lt_zero _)
      | cons r1 r2 ih2 =>
        cases i with
        | zero => exact r1
        | succ i => exact ih2 i (Nat.lt_of_succ_lt_succ h) (Nat.lt_of_succ_lt_succ h2)
    · rw [List.filterMap_cons, List.filterMap_cons, List.getElem?_eq_none (by omega), List.getElem?_eq_none (by omega)]
      exact ih
theorem Rps.pick {W : Wh} {H : Hp} {xs : List V} {ds : List D} (r : Rps W H xs ds) (idx : List Nat) : Rps W H (idx.filterMap (xs[·]?)) (idx.filterMap (ds[·]?)) := by
  induction idx with
  | nil => exact .nil
  | cons i idx ih =>
    have hlen := r.length
    cases hd : ds[i]? with
    | some d =>
      obtain ⟨v, h1, h2⟩ := r.get hd
      rw [List.filterMap_cons, List.filterMap_cons, hd, h1]
      exact .cons h2 ih
    | none =>
      have : xs[i]? = none := by rw [List.getElem?_eq_none_iff] at hd ⊢; omega
      rw [List.filterMap_cons, List.filterMap_cons, hd, this]
      exact ih
section
variable {X : Cx} {e st : Expr} {te : TE} {lo hi : Option Expr} {tl th tt : TO} {pos p2 : Pos}
def rSl3 (K : PySem.W.Frag) (x : V) (lo hi st : Option Int) (H : Hp) (Q : VK) : Prop := ∃ a xs k, x = .ref a ∧ SqL K H a xs ∧ st = some k ∧ 0 < k ∧ ∀ p, H p = none → Q (.ref p) (upd H p (.lst (pickD xs lo hi k)))
def tSl3 (K : PySem.W.Frag) (te : TE) (tl th tt : TO) : TE := fun σ H Q => te σ H fun x H1 => tl σ H1 fun l H2 => th σ H2 fun u H3 => tt σ H3 fun k H4 => rSl3 K x l u k H4 Q
theorem pe_slice3 (he : PE X e te) (hl : PO X lo tl) (hu : PO X hi th) (ht : PO X (some st) tt) : PE X (.Subscript e (.Slice lo hi (some st) p2) pos) (tSl3 X.K te tl th tt) := by
  constructor
  intro pins s σ H Q I h
  refine Subscript_ (thn (he.run pins s σ H _ I h) fun v s1 ⟨x, H1, I1, r1, q1⟩ => ?_)
  refine wpAny_Slice (thn (hl.run pins s1 σ H1 _ I1 q1) fun vl s2 ⟨l, H2, I2, pl, q2⟩ => thn (hu.run pins s2 σ H2 _ I2 q2) fun vu s3 ⟨u, H3, I3, pu, q3⟩ => thn (ht.run pins s3 σ H3 _ I3 q3) fun vt s4 ⟨k0, H4, I4, pt, q4⟩ => ?_)
  obtain ⟨a, xs, k, rfl, hx, rfl, hk, q⟩ := q4
  have I5 : Inv X pins σ H4 { s4 with heap := s4.heap.push { cls := .type "slice", data := .fields #[vl, vu, vt] } } := I4.kept (t' := s4.toks) fun b ob q => Heap.get?_push_of_some _ q
  cases r1
  obtain ⟨its, r, hL, hz⟩ := I5.list hx
  have hlen := r.length
  show wpAny (model X.prog X.w) X.A (subscriptTail e (.Slice lo hi (some st) p2) (.ref a) (.ref s4.heap.objs.size)) (EP X pins σ Q) X.xe { s4 with heap := s4.heap.push { cls := .type "slice", data := .fields #[vl, vu, vt] } }
  refine tail_any (ops := [.ref a, .ref s4.heap.objs.size]) hL.isList.typeIs slot_list_getitem.lookup (wpAny_getItem_list_slice hL.isList (Heap.IsSliceOf.new ..) pl pu pt (by simp; omega) ?_ (by rw [List.size_toArray]; omega)) (by with_unfolding_all rfl)
  have hpk : Vals (pickD xs l u k) (slicePick its.toArray l u (some k)).toList := by
    unfold pickD slicePick
    rw [List.size_toArray, ← hlen]
    have := Vals.pick r (sliceRange (sliceBounds l u (some k) xs.length).1 (sliceBounds l u (some k) xs.length).2.1 (sliceBounds l u (some k) xs.length).2.2)
    simpa using this
  refine ⟨.ref _, _, I5.laid (t' := s4.toks) (o := .lst (pickD xs l u k)) (fun b ob q => Heap.get?_push_of_some _ q) (Nat.le_refl _) ?_, rfl, q _ (I5.hok.fresh (Nat.le_refl _))⟩
  refine ⟨Nat.le_trans (pickD_len xs l u hk) hz, _, 0, hpk, ?_⟩
  rw [Array.toArray_toList]
  exact Heap.get?_push_size _ rfl
end
section
variable {X : Cx} {W : Wh} {a : Expr} {fa : Bool} {ma : EM} {pos p2 : Pos}
def dSl3 (x : D) (lo hi st : Option Int) : Option D := match x, st with
  | .lst ds, some k => if 0 < k then some (.lst (pickD ds lo hi k)) else none
  | _, _ => none
def eSl3 (a : EM) (lo hi st : DEnv → Option (Option Int)) : EM := fun ρ => (a ρ).bind fun x => (lo ρ).bind fun l => (hi ρ).bind fun h => (st ρ).bind fun k => dSl3 x l h k
theorem ev_sl3 {lo hi : Option Expr} {st : Expr} {ml mh mt : DEnv → Option (Option Int)} (hK : X.K = W.K) (ha : EV X W a fa ma) (hl : PO X lo (tXo W ml)) (hu : PO X hi (tXo W mh)) (ht : PO X (some st) (tXo W mt)) : EV X W (.Subscript a (.Slice lo hi (some st) p2) pos) true (eSl3 ma ml mh mt) :=
  PE.imp (pe_slice3 ha hl hu ht) fun σ H Q ⟨ρ, d, r, e, k⟩ => by
    unfold eSl3 at e
    rw [Option.bind_eq_some_iff] at e
    obtain ⟨x, e1, e⟩ := e
    rw [Option.bind_eq_some_iff] at e
    obtain ⟨l, e2, e⟩ := e
    rw [Option.bind_eq_some_iff] at e
    obtain ⟨u, e3, e⟩ := e
    rw [Option.bind_eq_some_iff] at e
    obtain ⟨t, e4, e5⟩ := e
    refine ⟨ρ, x, r, e1, fun v H1 s1 r1 _ => ⟨ρ, l, r.mono s1, e2, fun H2 s2 => ⟨ρ, u, r.mono (s1.trans s2), e3, fun H3 s3 => ⟨ρ, t, r.mono ((s1.trans s2).trans s3), e4, fun H4 s4 => ?_⟩⟩⟩⟩
    have r4 := ((r1.mono s2).mono s3).mono s4
    have s := ((s1.trans s2).trans s3).trans s4
    unfold dSl3 at e5
    split at e5
    · rename_i ds k0
      split at e5
      · rename_i hk
        cases e5
        cases r4 with | lst h1 h2 =>
        exact ⟨_, _, k0, rfl, SqL.of h1, rfl, hk, fun p n => k _ _ (s.trans (same_new n)) (rp_newL n (by unfold pickD; rw [h2.length]; exact Rps.pick h2 _)) fun _ => (frl_upd n).back s⟩
      · cases e5
    · cases e5
theorem ge_sl3 {ρ : DEnv} {P : D → Prop} {ml mh mt : DEnv → Option (Option Int)} : Ge (eSl3 ma ml mh mt ρ) P ↔ Ge (ma ρ) fun x => ∃ l, ml ρ = some l ∧ ∃ u, mh ρ = some u ∧ ∃ k, mt ρ = some k ∧ Ge (dSl3 x l u k) P := by
  unfold Ge eSl3
  constructor
  · rintro ⟨d, e, h⟩
    rw [Option.bind_eq_some_iff] at e
    obtain ⟨x, e1, e⟩ := e
    rw [Option.bind_eq_some_iff] at e
    obtain ⟨l, e2, e⟩ := e
    rw [Option.bind_eq_some_iff] at e
    obtain ⟨u, e3, e⟩ := e
    rw [Option.bind_eq_some_iff] at e
    obtain ⟨t, e4, e5⟩ := e
    exact ⟨x, e1, l, e2, u, e3, t, e4, d, e5, h⟩
  · rintro ⟨x, e1, l, e2, u, e3, t, e4, d, e5, h⟩
    exact ⟨d, by rw [e1, Option.bind_some, e2, Option.bind_some, e3, Option.bind_some, e4, Option.bind_some]; exact e5, h⟩
end
/-! ### beside one's own wood: lists may be kept -/
def MuW (o : HO) : Prop := ∃ (C dx : Addr) (v : V), o = .ins C dx [("_top", v)]
theorem muw_tup {xs : List V} : ¬ MuW (.tup xs) := fun ⟨_, _, _, z⟩ => nomatch z
theorem muw_lst {xs : List V} : ¬ MuW (.lst xs) := fun ⟨_, _, _, z⟩ => nomatch z
theorem muw_box {C dx : Addr} {a b c d e : Str × V} : ¬ MuW (.ins C dx [a, b, c, d, e]) := fun ⟨_, _, _, z⟩ => nomatch z
def KeepW (H H' : Hp) : Prop := ∀ b o, H b = some o → ¬ MuW o → H' b = some o
mutual
/-- no wood within -/
def D.nw : D → Bool
  | .tup ds => D.nws ds
  | .lst ds => D.nws ds
  | .scr _ => false
  | .wood _ => false
  | _ => true
def D.nws : List D → Bool
  | [] => true
  | d :: ds => d.nw && D.nws ds
end
section
variable {W : Wh} {H H' : Hp}
theorem TrR.keepW (e : KeepW H H') : ∀ {v : V} {t : T}, TrR W H v t → TrR W H' v t := fun h => by
  induction h with
  | nil => exact .nil
  | node h1 h2 _ _ ih1 ih2 => exact .node (e _ _ h1 muw_box) (e _ _ h2 muw_tup) ih1 ih2
mutual
theorem Rp.keepW (e : KeepW H H') : ∀ {d : D} {v : V}, d.nw = true → Rp W H v d → Rp W H' v d
  | .non, _, _, h => by cases h; exact .non
  | .bl _, _, _, h => by cases h; exact .bl _
  | .int _, _, _, h => by cases h; exact .int _
  | .str _, _, _, h => by cases h; exact .str _
  | .tup ds, _, i, h => by cases h with | tup h1 h2 => exact .tup (e _ _ h1 muw_tup) (Rps.keepW e (by rw [D.nw] at i; exact i) h2)
  | .lst ds, _, i, h => by cases h with | lst h1 h2 => exact .lst (e _ _ h1 muw_lst) (Rps.keepW e (by rw [D.nw] at i; exact i) h2)
  | .scr _, _, i, h => by rw [D.nw] at i; cases i
  | .box _, _, _, h => by cases h with | box h1 => exact .box (TrR.keepW e h1)
  | .wood _, _, i, h => by rw [D.nw] at i; cases i
theorem Rps.keepW (e : KeepW H H') : ∀ {ds : List D} {vs : List V}, D.nws ds = true → Rps W H vs ds → Rps W H' vs ds
  | [], _, _, h => by cases h; exact .nil
  | d :: ds, _, i, h => by
    rw [D.nws, Bool.and_eq_true] at i
    cases h with | cons h1 h2 => exact .cons (Rp.keepW e i.1 h1) (Rps.keepW e i.2 h2)
end
end
def SV.noL : SV → Bool
  | .own _ => false
  | _ => true
def noLst (ρ : SEnv) : Bool := ρ.all SV.noL
section
variable {X : Cx} {W : Wh} {fr fa : Bool} {ma : EM} {Hb Hd H H' : Hp} {ρ : SEnv} {σ : L2.St}
theorem RS.keepCutW (r : RS W Hb Hd H ρ σ) (e : Same H H') (hn : noLst ρ = true) : KeepW H' (cutO ρ σ H') := fun b o h n => by
  unfold cutO
  rw [if_neg]
  · exact h
  · rintro ⟨i, h1, h2⟩
    obtain ⟨l, o', h3, h4, h5, h6⟩ := r.ou i h1
    rw [h2] at h3
    cases h3
    rw [e _ _ h5] at h
    have hl := sgt_out h1
    have hq : (sgt ρ i).noL = true := by
      rw [sgt_get, List.getElem?_eq_getElem hl]
      exact List.all_eq_true.mp hn _ (List.getElem_mem hl)
    cases hs : sgt ρ i with
    | wd a t =>
      rw [hs] at h6
      obtain ⟨dx, v, rfl, _⟩ := h6.wd
      exact n (Option.some.inj h ▸ ⟨_, _, _, rfl⟩)
    | own ds => rw [hs] at hq; cases hq
    | no => rw [hs] at h1; cases h1
    | v d => rw [hs] at h1; cases h1
def sSetW (i : Nat) (m : EM) : SM := fun ρ => (m (full ρ)).bind fun d => if d.nw = true ∧ noLst ρ = true then some (.nx (ρ.set i (.v d))) else none
theorem es_asgW {i : Nat} {st : Stmt} (h : PS X st (tAsg (tX W fa ma) (gName i))) : ES X W fr st (sSetW i ma) := PS.imp h fun D' σ H ⟨Hb, Hd, ρ, o, r, e, k⟩ => by
  unfold sSetW at e
  rw [Option.bind_eq_some_iff] at e
  obtain ⟨d, e1, e2⟩ := e
  split at e2
  · cases e2
    rename_i c
    exact ⟨full ρ, d, r.re, e1, fun v H1 s1 r1 _ => k _ _ _ ((r.grow s1).set (Rp.keepW (r.keepCutW s1 c.2) c.1 r1))⟩
  · cases e2
theorem gv_setW {i : Nat} {P : Out → Prop} : Gv (sSetW i ma ρ) P ↔ Ge (ma (full ρ)) fun d => d.nw = true ∧ noLst ρ = true ∧ P (.nx (ρ.set i (.v d))) := by
  unfold sSetW Gv Ge
  constructor
  · rintro ⟨o, e, hp⟩
    rw [Option.bind_eq_some_iff] at e
    obtain ⟨d, e1, e2⟩ := e
    split at e2
    · rename_i c
      cases e2
      exact ⟨d, e1, c.1, c.2, hp⟩
    · cases e2
  · rintro ⟨d, e1, c1, c2, hp⟩
    exact ⟨_, by rw [e1, Option.bind_some, if_pos ⟨c1, c2⟩], hp⟩
end
/-- Wood, all that a making asks -/
structure OwnW (P : Program) (w : World) (K : PySem.W.Frag) (mg : Str → Option Value) (base : Heap) (bC : Addr) (wC : Addr) (k : Nat) (f : Addr) (fd : FuncData) (ps : List Str) : Prop where
  cm : Mk K wC f
  ok : FnOk P w K mg base CX0 k f fd ps (spInitW ⟨K, bC, wC⟩)
  b : Binds K fd ps []
theorem spInitW_len {W : Wh} {vs : List V} {H : Hp} {Q : VK} {E : XK} (h : spInitW W vs H Q E) : vs.length = 1 := by
  obtain ⟨x, dx, rfl, _⟩ := h
  rfl
end
end Sp

set_option Elab.async false
set_option linter.all false
set_option maxRecDepth 100000
set_option maxHeartbeats 2000000
namespace Sp
open PySem L2
open Classical
noncomputable section
/-! ### the order of stretches -/
theorem lt3_iff {a b : S3} : lt3 a b = true ↔ (a.1 < b.1 ∨ (a.1 = b.1 ∧ (a.2.1 < b.2.1 ∨ (a.2.1 = b.2.1 ∧ a.2.2 < b.2.2)))) := by
  unfold lt3
  rw [Bool.not_eq_true', Bool.eq_false_iff, Ne, le3_iff]
  omega
theorem lt3_trans {a b c : S3} (h1 : lt3 a b = true) (h2 : lt3 b c = true) : lt3 a c = true := by
  rw [lt3_iff] at *; omega
theorem lt3_irr {a : S3} : lt3 a a = false := by
  rw [Bool.eq_false_iff, Ne, lt3_iff]; omega
theorem lt3_asymm {a b : S3} (h1 : lt3 a b = true) : lt3 b a = false := by
  rw [Bool.eq_false_iff, Ne]; rw [lt3_iff] at *; omega
theorem lt3_ne {a b : S3} (h1 : lt3 a b = true) : a ≠ b := fun e => by subst e; rw [lt3_irr] at h1; cases h1
theorem lt3_tri {a b : S3} (h1 : lt3 a b = false) (h2 : lt3 b a = false) : a = b := by
  rw [Bool.eq_false_iff, Ne, lt3_iff] at h1 h2
  obtain ⟨a1, a2, a3⟩ := a
  obtain ⟨b1, b2, b3⟩ := b
  simp only at h1 h2
  have e1 : a1 = b1 := by omega
  have e2 : a2 = b2 := by omega
  have e3 : a3 = b3 := by omega
  rw [e1, e2, e3]
theorem lt3_le {a b : S3} (h1 : lt3 a b = true) : le3 a b = true := by
  rw [lt3_iff] at h1; rw [le3_iff]; omega
/-! ### boxes: heights, balance -/
def toL : T → List S3
  | .nil => []
  | .node l s r _ _ => toL l ++ s :: toL r
def Good : T → Prop
  | .nil => True
  | .node l s r h m => Good l ∧ Good r ∧ h = 1 + max (tallT l) (tallT r) ∧ m = reachT s l r ∧ tallT l ≤ tallT r + 1 ∧ tallT r ≤ tallT l + 1
theorem tall_nn : ∀ {t : T}, Good t → 0 ≤ tallT t
  | .nil, _ => Int.le_refl _
  | .node l s r h m, g => by
    have h1 := tall_nn g.1
    have h2 := g.2.2.1
    show 0 ≤ h
    omega
theorem tall_pos {t : T} (g : Good t) (h : 0 < tallT t) : ∃ l s r h m, t = .node l s r h m := by
  cases t with
  | nil => exact absurd h (by decide)
  | node l s r h' m => exact ⟨l, s, r, h', m, rfl⟩
theorem good_mk {l r : T} {s : S3} (gl : Good l) (gr : Good r) (h1 : tallT l ≤ tallT r + 1) (h2 : tallT r ≤ tallT l + 1) : Good (mkT l s r) := ⟨gl, gr, rfl, rfl, h1, h2⟩
theorem toL_mk (l : T) (s : S3) (r : T) : toL (mkT l s r) = toL l ++ s :: toL r := rfl
theorem tall_mk (l : T) (s : S3) (r : T) : tallT (mkT l s r) = 1 + max (tallT l) (tallT r) := rfl
def raiseL (s : S3) (l r : T) : T := match l with
  | .nil => mkT .nil s r
  | .node ll ls lr _ _ => if tallT lr ≤ tallT ll then mkT ll ls (mkT lr s r) else match lr with
    | .nil => mkT l s r
    | .node ml ms mr _ _ => mkT (mkT ll ls ml) ms (mkT mr s r)
def raiseR (s : S3) (l r : T) : T := match r with
  | .nil => mkT l s .nil
  | .node rl rs rr _ _ => if tallT rl ≤ tallT rr then mkT (mkT l s rl) rs rr else match rl with
    | .nil => mkT l s r
    | .node ml ms mr _ _ => mkT (mkT l s ml) ms (mkT mr rs rr)
def balT (s : S3) (l r : T) : T := if tallT r + 1 < tallT l then raiseL s l r else if tallT l + 1 < tallT r then raiseR s l r else mkT l s r
theorem raiseL_node {s ls : S3} {ll lr r : T} {lh lm : Int} : raiseL s (.node ll ls lr lh lm) r = if tallT lr ≤ tallT ll then mkT ll ls (mkT lr s r) else match lr with
    | .nil => mkT (.node ll ls lr lh lm) s r
    | .node ml ms mr _ _ => mkT (mkT ll ls ml) ms (mkT mr s r) := rfl
theorem raiseR_node {s rs : S3} {l rl rr : T} {rh rm : Int} : raiseR s l (.node rl rs rr rh rm) = if tallT rl ≤ tallT rr then mkT (mkT l s rl) rs rr else match rl with
    | .nil => mkT l s (.node rl rs rr rh rm)
    | .node ml ms mr _ _ => mkT (mkT l s ml) ms (mkT mr rs rr) := rfl
theorem toL_bal (s : S3) (l r : T) : toL (balT s l r) = toL l ++ s :: toL r := by
  unfold balT
  split
  · cases l with
    | nil => rfl
    | node ll ls lr lh lm =>
      rw [raiseL_node]
      by_cases c : tallT lr ≤ tallT ll
      · rw [if_pos c]; simp [toL_mk, toL]
      · rw [if_neg c]
        cases lr with
        | nil => rfl
        | node ml ms mr mh mm => simp [toL_mk, toL]
  · split
    · cases r with
      | nil => rfl
      | node rl rs rr rh rm =>
        rw [raiseR_node]
        by_cases c : tallT rl ≤ tallT rr
        · rw [if_pos c]; simp [toL_mk, toL]
        · rw [if_neg c]
          cases rl with
          | nil => rfl
          | node ml ms mr mh mm => simp [toL_mk, toL]
    · rfl
theorem bal_good {s : S3} {l r : T} (gl : Good l) (gr : Good r) (h1 : tallT l ≤ tallT r + 2) (h2 : tallT r ≤ tallT l + 2) :
    Good (balT s l r) ∧ max (tallT l) (tallT r) ≤ tallT (balT s l r) ∧ tallT (balT s l r) ≤ 1 + max (tallT l) (tallT r) ∧ (tallT l ≤ tallT r + 1 → tallT r ≤ tallT l + 1 → tallT (balT s l r) = 1 + max (tallT l) (tallT r)) := by
  have nl := tall_nn gl
  have nr := tall_nn gr
  unfold balT
  by_cases c1 : tallT r + 1 < tallT l
  · rw [if_pos c1]
    obtain ⟨ll, ls, lr, lh, lm, rfl⟩ := tall_pos gl (by omega)
    obtain ⟨g1, g2, e1, _, b1, b2⟩ := gl
    change tallT r + 1 < lh at c1
    change lh ≤ tallT r + 2 at h1
    show Good (raiseL s (.node ll ls lr lh lm) r) ∧ max lh (tallT r) ≤ tallT (raiseL s (.node ll ls lr lh lm) r) ∧ tallT (raiseL s (.node ll ls lr lh lm) r) ≤ 1 + max lh (tallT r) ∧ (lh ≤ tallT r + 1 → _)
    rw [raiseL_node]
    by_cases c2 : tallT lr ≤ tallT ll
    · rw [if_pos c2]
      have gi : Good (mkT lr s r) := good_mk g2 gr (by omega) (by omega)
      refine ⟨good_mk g1 gi (by rw [tall_mk]; omega) (by rw [tall_mk]; omega), ?_, ?_, fun z => by omega⟩ <;> rw [tall_mk, tall_mk] <;> omega
    · rw [if_neg c2]
      have n1 := tall_nn g1
      obtain ⟨ml, ms, mr, mh, mm, rfl⟩ := tall_pos g2 (by omega)
      obtain ⟨k1, k2, e2, _, d1, d2⟩ := g2
      have n3 := tall_nn k1
      have n4 := tall_nn k2
      change ¬ mh ≤ tallT ll at c2
      change mh ≤ tallT ll + 1 at b2
      change tallT ll ≤ mh + 1 at b1
      change lh = 1 + max (tallT ll) mh at e1
      simp only
      have ga : Good (mkT ll ls ml) := good_mk g1 k1 (by omega) (by omega)
      have gb : Good (mkT mr s r) := good_mk k2 gr (by omega) (by omega)
      refine ⟨good_mk ga gb (by rw [tall_mk, tall_mk]; omega) (by rw [tall_mk, tall_mk]; omega), ?_, ?_, fun z => by omega⟩ <;> rw [tall_mk, tall_mk, tall_mk] <;> omega
  · rw [if_neg c1]
    by_cases c2 : tallT l + 1 < tallT r
    · rw [if_pos c2]
      obtain ⟨rl, rs, rr, rh, rm, rfl⟩ := tall_pos gr (by omega)
      obtain ⟨g1, g2, e1, _, b1, b2⟩ := gr
      change tallT l + 1 < rh at c2
      change rh ≤ tallT l + 2 at h2
      show Good (raiseR s l (.node rl rs rr rh rm)) ∧ max (tallT l) rh ≤ tallT (raiseR s l (.node rl rs rr rh rm)) ∧ tallT (raiseR s l (.node rl rs rr rh rm)) ≤ 1 + max (tallT l) rh ∧ (tallT l ≤ rh + 1 → rh ≤ tallT l + 1 → _)
      rw [raiseR_node]
      by_cases c3 : tallT rl ≤ tallT rr
      · rw [if_pos c3]
        have gi : Good (mkT l s rl) := good_mk gl g1 (by omega) (by omega)
        refine ⟨good_mk gi g2 (by rw [tall_mk]; omega) (by rw [tall_mk]; omega), ?_, ?_, fun _ z => by omega⟩ <;> rw [tall_mk, tall_mk] <;> omega
      · rw [if_neg c3]
        have n1 := tall_nn g2
        obtain ⟨ml, ms, mr, mh, mm, rfl⟩ := tall_pos g1 (by omega)
        obtain ⟨k1, k2, e2, _, d1, d2⟩ := g1
        have n3 := tall_nn k1
        have n4 := tall_nn k2
        change ¬ mh ≤ tallT rr at c3
        change mh ≤ tallT rr + 1 at b1
        change tallT rr ≤ mh + 1 at b2
        change rh = 1 + max mh (tallT rr) at e1
        simp only
        have ga : Good (mkT l s ml) := good_mk gl k1 (by omega) (by omega)
        have gb : Good (mkT mr rs rr) := good_mk k2 g2 (by omega) (by omega)
        refine ⟨good_mk ga gb (by rw [tall_mk, tall_mk]; omega) (by rw [tall_mk, tall_mk]; omega), ?_, ?_, fun _ z => by omega⟩ <;> rw [tall_mk, tall_mk, tall_mk] <;> omega
    · rw [if_neg c2]
      refine ⟨good_mk gl gr (by omega) (by omega), ?_, ?_, fun _ _ => rfl⟩ <;> rw [tall_mk] <;> omega
/-! ### one more, one less -/
def insT (z : S3) : T → T
  | .nil => mkT .nil z .nil
  | .node l s r _ _ => if lt3 z s = true then balT s (insT z l) r else balT s l (insT z r)
theorem ins_good (z : S3) : ∀ {t : T}, Good t → Good (insT z t) ∧ tallT t ≤ tallT (insT z t) ∧ tallT (insT z t) ≤ tallT t + 1
  | .nil, _ => ⟨good_mk trivial trivial (by decide) (by decide), (show (0 : Int) ≤ 1 from by decide), (show (1 : Int) ≤ 0 + 1 from by decide)⟩
  | .node l s r h m, g => by
    obtain ⟨gl, gr, e, _, b1, b2⟩ := g
    rw [insT]
    have nl := tall_nn gl
    have nr := tall_nn gr
    show _ ∧ h ≤ _ ∧ _ ≤ h + 1
    split
    · obtain ⟨i1, i2, i3⟩ := ins_good z gl
      obtain ⟨k1, k2, k3, k4⟩ := bal_good (s := s) i1 gr (by omega) (by omega)
      refine ⟨k1, ?_, by omega⟩
      by_cases c : tallT (insT z l) ≤ tallT r + 1
      · have := k4 c (by omega); omega
      · omega
    · obtain ⟨i1, i2, i3⟩ := ins_good z gr
      obtain ⟨k1, k2, k3, k4⟩ := bal_good (s := s) gl i1 (by omega) (by omega)
      refine ⟨k1, ?_, by omega⟩
      by_cases c : tallT (insT z r) ≤ tallT l + 1
      · have := k4 (by omega) c; omega
      · omega
def minT : T → S3
  | .nil => (0, 0, 0)
  | .node .nil s _ _ _ => s
  | .node (.node a b c d e) _ _ _ _ => minT (.node a b c d e)
theorem toL_min : ∀ {t : T}, t ≠ .nil → ∃ rest, toL t = minT t :: rest
  | .nil, h => absurd rfl h
  | .node .nil s r h m, _ => ⟨toL r, rfl⟩
  | .node (.node a b c d e) s r h m, _ => by
    obtain ⟨rest, e1⟩ := toL_min (t := .node a b c d e) (fun z => nomatch z)
    refine ⟨rest ++ s :: toL r, ?_⟩
    show toL (.node a b c d e) ++ s :: toL r = minT (.node a b c d e) :: _
    rw [e1]; rfl
def joinT (l r d : T) : T := match l, r with
  | .nil, r => r
  | .node a b c e f, .nil => .node a b c e f
  | .node a b c e f, .node a' b' c' e' f' => balT (minT (.node a' b' c' e' f')) (.node a b c e f) d
def delT (z : S3) : T → T
  | .nil => .nil
  | .node l s r _ _ => if lt3 z s = true then balT s (delT z l) r else if lt3 s z = true then balT s l (delT z r) else joinT l r (delT (minT r) r)
termination_by structural t => t
theorem join_good {l r d : T} (gl : Good l) (gr : Good r) (gd : Good d) (b1 : tallT l ≤ tallT r + 1) (b2 : tallT r ≤ tallT l + 1) (d1 : tallT r - 1 ≤ tallT d) (d2 : tallT d ≤ tallT r) :
    Good (joinT l r d) ∧ max (tallT l) (tallT r) ≤ tallT (joinT l r d) ∧ tallT (joinT l r d) ≤ 1 + max (tallT l) (tallT r) := by
  have nl := tall_nn gl
  have nr := tall_nn gr
  cases l with
  | nil =>
    change 0 ≤ tallT r + 1 at b1
    change tallT r ≤ 0 + 1 at b2
    refine ⟨gr, ?_, ?_⟩
    · show max 0 (tallT r) ≤ tallT r; omega
    · show tallT r ≤ 1 + max 0 (tallT r); omega
  | node a b c e f =>
    cases r with
    | nil =>
      refine ⟨gl, ?_, ?_⟩
      · show max e 0 ≤ e
        change 0 ≤ e at nl
        omega
      · show e ≤ 1 + max e 0; omega
    | node a' b' c' e' f' =>
      obtain ⟨k1, k2, k3, k4⟩ := bal_good (s := minT (.node a' b' c' e' f')) gl gd (by omega) (by omega)
      refine ⟨k1, ?_, ?_⟩
      · show _ ≤ tallT (balT _ _ _)
        by_cases c : tallT (.node a b c e f) ≤ tallT d + 1
        · have := k4 c (by omega); omega
        · omega
      · show tallT (balT _ _ _) ≤ _
        omega
theorem del_good : ∀ {t : T} (z : S3), Good t → Good (delT z t) ∧ tallT t - 1 ≤ tallT (delT z t) ∧ tallT (delT z t) ≤ tallT t
  | .nil, _, _ => ⟨trivial, (show (0 : Int) - 1 ≤ 0 from by decide), (show (0 : Int) ≤ 0 from by decide)⟩
  | .node l s r h m, z, g => by
    obtain ⟨gl, gr, e, _, b1, b2⟩ := g
    rw [delT]
    have nl := tall_nn gl
    have nr := tall_nn gr
    show _ ∧ h - 1 ≤ _ ∧ _ ≤ h
    split
    · obtain ⟨i1, i2, i3⟩ := del_good z gl
      obtain ⟨k1, k2, k3, k4⟩ := bal_good (s := s) i1 gr (by omega) (by omega)
      refine ⟨k1, by omega, ?_⟩
      by_cases c : tallT r ≤ tallT (delT z l) + 1
      · have := k4 (by omega) c; omega
      · omega
    · split
      · obtain ⟨i1, i2, i3⟩ := del_good z gr
        obtain ⟨k1, k2, k3, k4⟩ := bal_good (s := s) gl i1 (by omega) (by omega)
        refine ⟨k1, by omega, ?_⟩
        by_cases c : tallT l ≤ tallT (delT z r) + 1
        · have := k4 c (by omega); omega
        · omega
      · obtain ⟨i1, i2, i3⟩ := del_good (minT r) gr
        obtain ⟨k1, k2, k3⟩ := join_good gl gr i1 b1 b2 i2 i3
        exact ⟨k1, by omega, by omega⟩
/-! ### in order -/
abbrev Srt (zs : List S3) : Prop := zs.Pairwise (fun a b => lt3 a b = true)
theorem srt_node {l r : T} {s : S3} {h m : Int} (p : Srt (toL (.node l s r h m))) : Srt (toL l) ∧ Srt (toL r) ∧ (∀ x ∈ toL l, lt3 x s = true) ∧ (∀ x ∈ toL r, lt3 s x = true) := by
  have p' : Srt (toL l ++ s :: toL r) := p
  obtain ⟨h1, h2, h3⟩ := List.pairwise_append.mp p'
  obtain ⟨h4, h5⟩ := List.pairwise_cons.mp h2
  exact ⟨h1, h5, fun x hx => h3 x hx s List.mem_cons_self, h4⟩
theorem srt_mk {l r : List S3} {s : S3} (h1 : Srt l) (h2 : Srt r) (h3 : ∀ x ∈ l, lt3 x s = true) (h4 : ∀ x ∈ r, lt3 s x = true) : Srt (l ++ s :: r) := by
  refine List.pairwise_append.mpr ⟨h1, List.pairwise_cons.mpr ⟨h4, h2⟩, fun x hx y hy => ?_⟩
  rcases List.mem_cons.mp hy with e | hy
  · subst e; exact h3 x hx
  · exact lt3_trans (h3 x hx) (h4 y hy)
theorem ins_perm (z : S3) : ∀ t : T, (toL (insT z t)).Perm (z :: toL t)
  | .nil => List.Perm.refl _
  | .node l s r h m => by
    rw [insT]
    split
    · rw [toL_bal]
      have := ins_perm z l
      exact (this.append_right (s :: toL r))
    · rw [toL_bal]
      have := ins_perm z r
      refine ((this.cons s).append_left (toL l)).trans ?_
      exact (List.Perm.append_left _ (List.Perm.swap _ _ _)).trans (List.perm_middle)
theorem ins_srt (z : S3) : ∀ {t : T}, Srt (toL t) → z ∉ toL t → Srt (toL (insT z t))
  | .nil, _, _ => List.pairwise_singleton _ _
  | .node l s r h m, p, hz => by
    obtain ⟨p1, p2, p3, p4⟩ := srt_node p
    have hz' : z ∉ toL l ++ s :: toL r := hz
    simp only [List.mem_append, List.mem_cons, not_or] at hz'
    rw [insT]
    split
    · rename_i c
      rw [toL_bal]
      refine srt_mk (ins_srt z p1 hz'.1) p2 (fun x hx => ?_) p4
      rcases List.mem_cons.mp ((ins_perm z l).mem_iff.mp hx) with e | hx
      · subst e; exact c
      · exact p3 x hx
    · rename_i c
      rw [toL_bal]
      refine srt_mk p1 (ins_srt z p2 hz'.2.2) p3 (fun x hx => ?_)
      rcases List.mem_cons.mp ((ins_perm z r).mem_iff.mp hx) with e | hx
      · subst e
        cases c2 : lt3 s x with
        | true => rfl
        | false => exact absurd (lt3_tri (by simpa using c) c2) hz'.2.1
      · exact p4 x hx
theorem filter_all {l : List S3} {z : S3} (h : ∀ x ∈ l, x ≠ z) : l.filter (fun x => decide (x ≠ z)) = l := List.filter_eq_self.mpr fun x hx => decide_eq_true (h x hx)
theorem del_toL : ∀ {t : T} (z : S3), Srt (toL t) → toL (delT z t) = (toL t).filter (fun x => decide (x ≠ z))
  | .nil, _, _ => rfl
  | .node l s r h m, z, p => by
    obtain ⟨p1, p2, p3, p4⟩ := srt_node p
    rw [delT]
    show _ = (toL l ++ s :: toL r).filter _
    rw [List.filter_append]
    by_cases c : lt3 z s = true
    · rw [if_pos c, toL_bal, del_toL z p1, List.filter_cons_of_pos (by simpa using (lt3_ne c).symm)]
      rw [filter_all (l := toL r) fun x hx => (lt3_ne (lt3_trans c (p4 x hx))).symm]
    · rw [if_neg c]
      by_cases c2 : lt3 s z = true
      · rw [if_pos c2, toL_bal, del_toL z p2, List.filter_cons_of_pos (by simpa using lt3_ne c2)]
        rw [filter_all (l := toL l) fun x hx => lt3_ne (lt3_trans (p3 x hx) c2)]
      · rw [if_neg c2]
        have e : z = s := lt3_tri (by simpa using c) (by simpa using c2)
        subst e
        rw [List.filter_cons_of_neg (by simp), filter_all (l := toL l) fun x hx => lt3_ne (p3 x hx), filter_all (l := toL r) fun x hx => (lt3_ne (p4 x hx)).symm]
        cases l with
        | nil => rfl
        | node a b c e f =>
          have ih := del_toL (minT r) p2
          cases hr : r with
          | nil => simp [joinT, toL]
          | node a' b' c' e' f' =>
            rw [← hr]
            have hn : r ≠ .nil := fun z => by rw [z] at hr; cases hr
            have ej : joinT (.node a b c e f) r (delT (minT r) r) = balT (minT r) (.node a b c e f) (delT (minT r) r) := by rw [hr]; rfl
            rw [ej, toL_bal, ih]
            obtain ⟨rest, er⟩ := toL_min hn
            rw [er] at p2 ⊢
            rw [List.filter_cons_of_neg (by simp)]
            rw [filter_all fun x hx => (lt3_ne ((List.pairwise_cons.mp p2).1 x hx)).symm]
end
end Sp

set_option Elab.async false
set_option linter.all false
set_option maxRecDepth 100000
namespace Sp
open PySem L2
open Classical
noncomputable section
def b_tall_of : SM := (sSeq (sIf (bVal (eUn dIsN (eVar 0)))
      (sRet (eC (.int 0)))
      sNext)
    (sRet (eUn dTall (eVar 0))))
def m_tall_of : List D → Option D := mDef 1 1 b_tall_of
def b_reach_over : SM := (sSeq (sSet 3 (eOp dIx (eVar 0) (eC (.int 1))))
    (sSeq (sForT (.one 4) (eTup (eCons (eVar 1) (eCons (eVar 2) eNil)))
      (sIf (bVal (eUn dNotN (eVar 4)))
        (sSet 3 (eCall fMax2 (eCons (eVar 3) (eCons (eUn dReach (eVar 4)) eNil))))
        sNext))
    (sRet (eVar 3))))
def m_reach_over : List D → Option D := mDef 3 5 b_reach_over
def b_raised_left : SM := (sSeq (sIf (bVal (eOp dGe (eCall m_tall_of (eCons (eUn dLeft (eVar 1)) eNil)) (eCall m_tall_of (eCons (eUn dRight (eVar 1)) eNil))))
      (sRet (eCall fBox (eCons (eUn dStretch (eVar 1)) (eCons (eUn dLeft (eVar 1)) (eCons (eCall fBox (eCons (eVar 0) (eCons (eUn dRight (eVar 1)) (eCons (eVar 2) eNil)))) eNil)))))
      sNext)
    (sSeq (sSet 3 (eUn dRight (eVar 1)))
    (sSeq (sSet 4 (eCall fBox (eCons (eUn dStretch (eVar 1)) (eCons (eUn dLeft (eVar 1)) (eCons (eUn dLeft (eVar 3)) eNil)))))
    (sRet (eCall fBox (eCons (eUn dStretch (eVar 3)) (eCons (eVar 4) (eCons (eCall fBox (eCons (eVar 0) (eCons (eUn dRight (eVar 3)) (eCons (eVar 2) eNil)))) eNil))))))))
def m_raised_left : List D → Option D := mDef 3 5 b_raised_left
def b_raised_right : SM := (sSeq (sIf (bVal (eOp dGe (eCall m_tall_of (eCons (eUn dRight (eVar 2)) eNil)) (eCall m_tall_of (eCons (eUn dLeft (eVar 2)) eNil))))
      (sRet (eCall fBox (eCons (eUn dStretch (eVar 2)) (eCons (eCall fBox (eCons (eVar 0) (eCons (eVar 1) (eCons (eUn dLeft (eVar 2)) eNil)))) (eCons (eUn dRight (eVar 2)) eNil)))))
      sNext)
    (sSeq (sSet 3 (eUn dLeft (eVar 2)))
    (sSeq (sSet 4 (eCall fBox (eCons (eUn dStretch (eVar 2)) (eCons (eUn dRight (eVar 3)) (eCons (eUn dRight (eVar 2)) eNil)))))
    (sRet (eCall fBox (eCons (eUn dStretch (eVar 3)) (eCons (eCall fBox (eCons (eVar 0) (eCons (eVar 1) (eCons (eUn dLeft (eVar 3)) eNil)))) (eCons (eVar 4) eNil))))))))
def m_raised_right : List D → Option D := mDef 3 5 b_raised_right
def b_balanced : SM := (sSeq (sIf (bVal (eOp dGt (eCall m_tall_of (eCons (eVar 1) eNil)) (eOp dAdd (eCall m_tall_of (eCons (eVar 2) eNil)) (eC (.int 1)))))
      (sRet (eCall m_raised_left (eCons (eVar 0) (eCons (eVar 1) (eCons (eVar 2) eNil)))))
      sNext)
    (sSeq (sIf (bVal (eOp dGt (eCall m_tall_of (eCons (eVar 2) eNil)) (eOp dAdd (eCall m_tall_of (eCons (eVar 1) eNil)) (eC (.int 1)))))
      (sRet (eCall m_raised_right (eCons (eVar 0) (eCons (eVar 1) (eCons (eVar 2) eNil)))))
      sNext)
    (sRet (eCall fBox (eCons (eVar 0) (eCons (eVar 1) (eCons (eVar 2) eNil)))))))
def m_balanced : List D → Option D := mDef 3 3 b_balanced
def b_has_stretch : SM := (sSeq (sWhile (bAnd (bVal (eUn dNotN (eVar 0))) (bVal (eOp dNe (eUn dStretch (eVar 0)) (eVar 1)))) (sIf (bVal (eOp dLtT (eVar 1) (eUn dStretch (eVar 0))))
        (sSet 0 (eUn dLeft (eVar 0)))
        (sSet 0 (eUn dRight (eVar 0)))))
    (sRet (eUn dNotN (eVar 0))))
def m_has_stretch : List D → Option D := mDef 2 2 b_has_stretch
def b_with_stretch (rec : List D → Option D) : SM := (sSeq (sIf (bVal (eUn dIsN (eVar 0)))
      (sRet (eCall fBox (eCons (eVar 1) (eCons (eC .non) (eCons (eC .non) eNil)))))
      sNext)
    (sSeq (sIf (bVal (eOp dLtT (eVar 1) (eUn dStretch (eVar 0))))
      (sRet (eCall m_balanced (eCons (eUn dStretch (eVar 0)) (eCons (eCall rec (eCons (eUn dLeft (eVar 0)) (eCons (eVar 1) eNil))) (eCons (eUn dRight (eVar 0)) eNil)))))
      sNext)
    (sRet (eCall m_balanced (eCons (eUn dStretch (eVar 0)) (eCons (eUn dLeft (eVar 0)) (eCons (eCall rec (eCons (eUn dRight (eVar 0)) (eCons (eVar 1) eNil))) eNil)))))))
def m_with_stretch : Nat → List D → Option D
  | 0 => fun _ => none
  | n + 1 => mDef 2 2 (b_with_stretch (m_with_stretch n))
def b_first_stretch : SM := (sSeq (sWhile (bVal (eUn dNotN (eUn dLeft (eVar 0)))) (sSet 0 (eUn dLeft (eVar 0))))
    (sRet (eUn dStretch (eVar 0))))
def m_first_stretch : List D → Option D := mDef 1 1 b_first_stretch
def b_without_stretch (rec : List D → Option D) : SM := (sSeq (sIf (bVal (eOp dLtT (eVar 1) (eUn dStretch (eVar 0))))
      (sRet (eCall m_balanced (eCons (eUn dStretch (eVar 0)) (eCons (eCall rec (eCons (eUn dLeft (eVar 0)) (eCons (eVar 1) eNil))) (eCons (eUn dRight (eVar 0)) eNil)))))
      sNext)
    (sSeq (sIf (bVal (eOp dGtT (eVar 1) (eUn dStretch (eVar 0))))
      (sRet (eCall m_balanced (eCons (eUn dStretch (eVar 0)) (eCons (eUn dLeft (eVar 0)) (eCons (eCall rec (eCons (eUn dRight (eVar 0)) (eCons (eVar 1) eNil))) eNil)))))
      sNext)
    (sSeq (sIf (bVal (eUn dIsN (eUn dLeft (eVar 0))))
      (sRet (eUn dRight (eVar 0)))
      sNext)
    (sSeq (sIf (bVal (eUn dIsN (eUn dRight (eVar 0))))
      (sRet (eUn dLeft (eVar 0)))
      sNext)
    (sSeq (sSet 2 (eCall m_first_stretch (eCons (eUn dRight (eVar 0)) eNil)))
    (sRet (eCall m_balanced (eCons (eVar 2) (eCons (eUn dLeft (eVar 0)) (eCons (eCall rec (eCons (eUn dRight (eVar 0)) (eCons (eVar 2) eNil))) eNil))))))))))
def m_without_stretch : Nat → List D → Option D
  | 0 => fun _ => none
  | n + 1 => mDef 2 3 (b_without_stretch (m_without_stretch n))
def b_placed_boxes : SM := (sSeq (sOwn 1 (eLst eNil))
    (sSeq (sGath 1 (gPlaced 180) (eCons (eVar 0) (eCons (eC (.int 0)) eNil)))
    (sRetO 1)))
def m_placed_boxes : List D → Option D := mDef 1 2 b_placed_boxes
def b_Wood_put : SM := (sSeq (sSet 4 (eCall m_stretch_of (eCons (eVar 1) (eCons (eVar 2) (eCons (eVar 3) eNil)))))
    (sSeq (sIf (bVal (eCall m_has_stretch (eCons (eUn dTop (eVar 0)) (eCons (eVar 4) eNil))))
      sFail
      sNext)
    (sTop 0 (eCall (m_with_stretch 180) (eCons (eUn dTop (eVar 0)) (eCons (eVar 4) eNil))))))
def m_Wood_put : List D → Option D := mDef 4 5 b_Wood_put
def b_Wood_take : SM := (sSeq (sSet 4 (eCall m_stretch_of (eCons (eVar 1) (eCons (eVar 2) (eCons (eVar 3) eNil)))))
    (sSeq (sIf (bNot (bVal (eCall m_has_stretch (eCons (eUn dTop (eVar 0)) (eCons (eVar 4) eNil)))))
      sFail
      sNext)
    (sTop 0 (eCall (m_without_stretch 180) (eCons (eUn dTop (eVar 0)) (eCons (eVar 4) eNil))))))
def m_Wood_take : List D → Option D := mDef 4 5 b_Wood_take
def b_Wood_keeps : SM := (sRet (eCall m_has_stretch (eCons (eUn dTop (eVar 0)) (eCons (eCall m_stretch_of (eCons (eVar 1) (eCons (eVar 2) (eCons (eVar 3) eNil)))) eNil))))
def m_Wood_keeps : List D → Option D := mDef 4 4 b_Wood_keeps
def b_Wood_listed : SM := (sRet (eLc 1 (eCall m_placed_boxes (eCons (eUn dTop (eVar 0)) eNil)) bYes (eOp dIx (eVar 1) (eC (.int 0)))))
def m_Wood_listed : List D → Option D := mDef 1 2 b_Wood_listed
def b_Wood_total : SM := (sRet (eCall fLen (eCons (eCall m_placed_boxes (eCons (eUn dTop (eVar 0)) eNil)) eNil)))
def m_Wood_total : List D → Option D := mDef 1 1 b_Wood_total
def b_Wood_height : SM := (sRet (eCall m_tall_of (eCons (eUn dTop (eVar 0)) eNil)))
def m_Wood_height : List D → Option D := mDef 1 1 b_Wood_height
def b_Wood_boxes : SM := (sRet (eCall m_placed_boxes (eCons (eUn dTop (eVar 0)) eNil)))
def m_Wood_boxes : List D → Option D := mDef 1 1 b_Wood_boxes
def b_looked_boxes : SM := (sSeq (sOwn 3 (eLst eNil))
    (sSeq (sGath 3 (gLooked 180) (eCons (eVar 0) (eCons (eVar 1) (eCons (eVar 2) eNil))))
    (sRetO 3)))
def m_looked_boxes : List D → Option D := mDef 3 4 b_looked_boxes
end
end Sp

set_option Elab.async false
set_option linter.all false
set_option maxRecDepth 100000
set_option maxHeartbeats 2000000
namespace Sp
open PySem L2
open Classical
noncomputable section
local macro_rules | `(tactic| walk_at "ev") => `(tactic| try simp only [gv_next, gv_brk, gv_cnt, gv_retN, gv_seq, nx_nx, nx_rt, nx_bk, nx_ct, gv_set, gv_setF, gv_own, gv_ret, gv_drop, gv_retO, gv_if, gv_app, gv_unp, gv_pop, gv_put, gv_par, gv_forF, gv_forN, gv_forT, gv_forR,
  ge_var, ge_c, ge_op, ge_un, gl_nil, gl_cons, ge_call, ge_meth, ge_tup, ge_lst, ge_ii, ge_sl, go_none, go_int, gb_val, gb_truth, gb_and, gb_or, gb_not, gb_yes, ge_and, ge_or, ge_if, ge_chain, ge_some, gb_some, gl_some, go_some, ge_guard, ge_lc, ge_lcT, ge_lcR, ge_eqI, ge_neI, ge_eqB, ge_neB,
  frm, full, SV.full, gt, sgt, setAll, Tg.put, List.map, List.replicate, List.set, List.length_cons, List.length_nil, List.length_append, List.length_map, List.append_nil, List.nil_append, List.cons_append, Nat.sub_self, Nat.reduceAdd, Nat.reduceSub, Nat.zero_add, Nat.add_zero,
  noOwn, List.all_cons, List.all_nil, SV.free, D.imm, D.imms, imm_sd, imms_sd, imm_tupI, Bool.and_true, Bool.true_and, Bool.and_self, Bool.false_and, Bool.and_false, true_or, or_true, or_self, false_or, or_false, true_and, and_true, if_true, if_false, Bool.false_eq_true,
  D.int.injEq, D.bl.injEq, D.lst.injEq, D.tup.injEq, D.str.injEq, D.box.injEq, D.wood.injEq, SV.v.injEq, SV.own.injEq, Option.some.injEq, exists_eq_left', exists_eq_left, exists_and_left, reduceCtorEq, false_and, and_false, exists_false,
  fLen_lst, fLen_tup, fLen_scr, fLen_sd, fMax2_ii, fMin2_ii, fInt1_i, fInt1_b, fListOf_lst, fSorted_sd, fSum_i, dIx_sd0, dIx_sd1, dIx_sd2, dIx_lst, dIx_tup, dIx_scr, atI_0, atI_1, atI_2, atI_3, dSl_lst, dSl_scr, dCat_ll, dRep_l, dNot_b, dNeg_i, dNotBl_b, dNotBl_i, dNotBl_n, dNotBl_s, dNotBl_t, dNotBl_l, dIsN_non, dIsN_int, dIsN_lst, dNotN_non, dNotN_lst, dIsN_nil, dIsN_node, dNotN_nil, dNotN_node, isi_int_non, isi_int_bl, isi_int_int, isi_int_str, isi_int_tup, isi_int_lst, isi_int_sd, isi_bool_non, isi_bool_bl, isi_bool_int, isi_bool_str, isi_bool_tup, isi_bool_lst, isi_bool_sd, isi_tuple_non, isi_tuple_bl, isi_tuple_int, isi_tuple_str, isi_tuple_tup, isi_tuple_lst, isi_tuple_sd, isi_list_non, isi_list_bl, isi_list_int, isi_list_str, isi_list_tup, isi_list_lst, isi_list_sd, tyi_non, tyi_bl, tyi_int, tyi_str, tyi_tup, tyi_lst, ge_eqT, ge_neT, ge_eqS, ge_neS, ge_inS, ge_ninS, ge_eqLS, ge_neLS, Option.map_some, Bool.not_true, Bool.not_false, Bool.not_not, decide_eq_true_eq, decide_eq_false_iff_not, Bool.not_eq_true', Bool.not_eq_false', Bool.not_eq_true, decide_true, decide_false,
  Int.reduceLT, Nat.reduceLT, Int.reduceLE, Nat.reduceLeDiff, sizeLine_eq, and_self, ite_self, not_false_eq_true, not_true_eq_false, implies_true, imp_self, forall_const, true_implies])
local macro_rules | `(tactic| walk_at "st") => `(tactic| try simp only [gv_next, gv_brk, gv_cnt, gv_retN, gv_seq, nx_nx, nx_rt, nx_bk, nx_ct, gv_set, gv_setF, gv_own, gv_ret, gv_drop, gv_retO, gv_app, gv_unp, gv_pop, gv_put, gv_par, gv_forF, gv_forN, gv_forT, gv_forR,
  ge_var, ge_c, ge_op, ge_un, gl_nil, gl_cons, ge_call, ge_meth, ge_tup, ge_lst, ge_ii, ge_sl, go_none, go_int, gb_val, gb_truth, gb_and, gb_or, gb_not, gb_yes, ge_and, ge_or, ge_if, ge_chain, ge_some, gb_some, gl_some, go_some, ge_guard, ge_lc, ge_lcT, ge_lcR, ge_eqI, ge_neI, ge_eqB, ge_neB,
  frm, full, SV.full, gt, sgt, setAll, Tg.put, List.map, List.replicate, List.set, List.length_cons, List.length_nil, List.length_append, List.length_map, List.append_nil, List.nil_append, List.cons_append, Nat.sub_self, Nat.reduceAdd, Nat.reduceSub, Nat.zero_add, Nat.add_zero,
  noOwn, List.all_cons, List.all_nil, SV.free, D.imm, D.imms, imm_sd, imms_sd, imm_tupI, Bool.and_true, Bool.true_and, Bool.and_self, Bool.false_and, Bool.and_false, true_or, or_true, or_self, false_or, or_false, true_and, and_true, if_true, if_false, Bool.false_eq_true,
  D.int.injEq, D.bl.injEq, D.lst.injEq, D.tup.injEq, D.str.injEq, D.box.injEq, D.wood.injEq, SV.v.injEq, SV.own.injEq, Option.some.injEq, exists_eq_left', exists_eq_left, exists_and_left, reduceCtorEq, false_and, and_false, exists_false,
  fLen_lst, fLen_tup, fLen_scr, fLen_sd, fMax2_ii, fMin2_ii, fInt1_i, fInt1_b, fListOf_lst, fSorted_sd, fSum_i, dIx_sd0, dIx_sd1, dIx_sd2, dIx_lst, dIx_tup, dIx_scr, atI_0, atI_1, atI_2, atI_3, dSl_lst, dSl_scr, dCat_ll, dRep_l, dNot_b, dNeg_i, dNotBl_b, dNotBl_i, dNotBl_n, dNotBl_s, dNotBl_t, dNotBl_l, dIsN_non, dIsN_int, dIsN_lst, dNotN_non, dNotN_lst, dIsN_nil, dIsN_node, dNotN_nil, dNotN_node, isi_int_non, isi_int_bl, isi_int_int, isi_int_str, isi_int_tup, isi_int_lst, isi_int_sd, isi_bool_non, isi_bool_bl, isi_bool_int, isi_bool_str, isi_bool_tup, isi_bool_lst, isi_bool_sd, isi_tuple_non, isi_tuple_bl, isi_tuple_int, isi_tuple_str, isi_tuple_tup, isi_tuple_lst, isi_tuple_sd, isi_list_non, isi_list_bl, isi_list_int, isi_list_str, isi_list_tup, isi_list_lst, isi_list_sd, tyi_non, tyi_bl, tyi_int, tyi_str, tyi_tup, tyi_lst, ge_eqT, ge_neT, ge_eqS, ge_neS, ge_inS, ge_ninS, ge_eqLS, ge_neLS, Option.map_some, Bool.not_true, Bool.not_false, Bool.not_not, decide_eq_true_eq, decide_eq_false_iff_not, Bool.not_eq_true', Bool.not_eq_false', Bool.not_eq_true, decide_true, decide_false,
  Int.reduceLT, Nat.reduceLT, Int.reduceLE, Nat.reduceLeDiff, sizeLine_eq, and_self, ite_self, not_false_eq_true, not_true_eq_false, implies_true, imp_self, forall_const, true_implies])

section
variable {l r : T} {s z : S3} {h m : Int} {P : D → Prop}
theorem dStretch_n : dStretch (.box (.node l s r h m)) = some (sd s) := rfl
theorem dLeft_n : dLeft (.box (.node l s r h m)) = some (.box l) := rfl
theorem dRight_n : dRight (.box (.node l s r h m)) = some (.box r) := rfl
theorem dTall_n : dTall (.box (.node l s r h m)) = some (.int h) := rfl
theorem dReach_n : dReach (.box (.node l s r h m)) = some (.int m) := rfl
theorem fBox_bb {l r : T} {z : S3} : fBox [sd z, .box l, .box r] = some (.box (mkT l z r)) := rfl
theorem fBox_nn {z : S3} : fBox [sd z, .non, .non] = some (.box (mkT .nil z .nil)) := rfl
theorem dLtT_ss {a b : S3} : dLtT (sd a) (sd b) = some (.bl (lt3 a b)) := rfl
theorem dGtT_ss {a b : S3} : dGtT (sd a) (sd b) = some (.bl (lt3 b a)) := rfl
end
local macro_rules | `(tactic| walk_at "bx") => `(tactic| (walk_at "ev"; (try simp only [dStretch_n, dLeft_n, dRight_n, dTall_n, dReach_n, fBox_bb, fBox_nn, dLtT_ss, dGtT_ss]); walk_at "ev"; (try simp only [dStretch_n, dLeft_n, dRight_n, dTall_n, dReach_n, fBox_bb, fBox_nn, dLtT_ss, dGtT_ss]); walk_at "ev"))
section
variable {tg : Tg} {body : SM} {x : D} {xs : List D} {ρ ρ1 : SEnv} {P : Out → Prop}
theorem gv_forL_nil : Gv (forL tg body [] ρ) P ↔ P (.nx ρ) := by
  unfold Gv forL
  simp
theorem gv_forL_cons (h : tg.put x ρ = some ρ1) (q : Gv (body ρ1) (fun o => match o with | .nx ρ2 => Gv (forL tg body xs ρ2) P | .ct ρ2 => Gv (forL tg body xs ρ2) P | .bk ρ2 => P (.nx ρ2) | .rt d ρ2 => P (.rt d ρ2))) : Gv (forL tg body (x :: xs) ρ) P := by
  obtain ⟨o, e2, h2⟩ := q
  unfold Gv
  rw [forL, h, Option.bind_some, e2, Option.bind_some]
  cases o with
  | nx ρ2 => exact h2
  | ct ρ2 => exact h2
  | bk ρ2 => exact ⟨_, rfl, h2⟩
  | rt d ρ2 => exact ⟨_, rfl, h2⟩
end
theorem p_tall_of (t : T) : m_tall_of [.box t] = some (.int (tallT t)) := by
  refine def_gv rfl ?_
  unfold b_tall_of
  cases t with
  | nil => walk_at "bx"; rfl
  | node l s r h m => walk_at "bx"; rfl
theorem p_reach_over (s : S3) (l r : T) : m_reach_over [sd s, .box l, .box r] = some (.int (reachT s l r)) := by
  refine def_gv rfl ?_
  unfold b_reach_over
  cases l <;> cases r <;> (walk_at "bx"; refine gv_forL_cons rfl ?_; walk_at "bx"; refine gv_forL_cons rfl ?_; walk_at "bx"; rw [gv_forL_nil]; walk_at "bx"; rfl)
theorem ge_tall {t : T} {P : D → Prop} : Ge (m_tall_of [.box t]) P ↔ P (.int (tallT t)) := by rw [p_tall_of]; exact ge_some
theorem p_raised_left {s ls : S3} {ll lr r : T} {lh lm : Int} (h : ¬ tallT lr ≤ tallT ll → ∃ a b c d e, lr = .node a b c d e) : m_raised_left [sd s, .box (.node ll ls lr lh lm), .box r] = some (.box (raiseL s (.node ll ls lr lh lm) r)) := by
  refine def_gv rfl ?_
  unfold b_raised_left
  rw [raiseL_node]
  walk_at "bx"
  simp only [ge_tall]
  walk_at "bx"
  by_cases c : tallT lr ≤ tallT ll
  · rw [if_pos c, if_pos c]
  · obtain ⟨a, b, c', d, e, rfl⟩ := h c
    rw [if_neg c, if_neg c]
    walk_at "bx"
    walk_at "bx"
theorem p_raised_right {s rs : S3} {l rl rr : T} {rh rm : Int} (h : ¬ tallT rl ≤ tallT rr → ∃ a b c d e, rl = .node a b c d e) : m_raised_right [sd s, .box l, .box (.node rl rs rr rh rm)] = some (.box (raiseR s l (.node rl rs rr rh rm))) := by
  refine def_gv rfl ?_
  unfold b_raised_right
  rw [raiseR_node]
  walk_at "bx"
  simp only [ge_tall]
  walk_at "bx"
  by_cases c : tallT rl ≤ tallT rr
  · rw [if_pos c, if_pos c]
  · obtain ⟨a, b, c', d, e, rfl⟩ := h c
    rw [if_neg c, if_neg c]
    walk_at "bx"
    walk_at "bx"
theorem p_balanced {s : S3} {l r : T} (gl : Good l) (gr : Good r) : m_balanced [sd s, .box l, .box r] = some (.box (balT s l r)) := by
  refine def_gv rfl ?_
  unfold b_balanced balT
  have nl := tall_nn gl
  have nr := tall_nn gr
  walk_at "bx"
  simp only [ge_tall]
  walk_at "bx"
  by_cases c1 : tallT r + 1 < tallT l
  · rw [if_pos c1, if_pos c1]
    obtain ⟨ll, ls, lr, lh, lm, rfl⟩ := tall_pos gl (by omega)
    rw [p_raised_left fun c => tall_pos gl.2.1 (by have := tall_nn gl.1; omega)]
    walk_at "bx"
  · rw [if_neg c1, if_neg c1]
    by_cases c2 : tallT l + 1 < tallT r
    · rw [if_pos c2, if_pos c2]
      obtain ⟨rl, rs, rr, rh, rm, rfl⟩ := tall_pos gr (by omega)
      rw [p_raised_right fun c => tall_pos gr.1 (by have := tall_nn gr.2.1; omega)]
      walk_at "bx"
    · rw [if_neg c2, if_neg c2]
theorem ge_bal {s : S3} {l r : T} {P : D → Prop} (gl : Good l) (gr : Good r) : Ge (m_balanced [sd s, .box l, .box r]) P ↔ P (.box (balT s l r)) := by rw [p_balanced gl gr]; exact ge_some
theorem p_with (z : S3) : ∀ (n : Nat) (t : T), t.dep < n → Good t → m_with_stretch n [.box t, sd z] = some (.box (insT z t))
  | 0, _, h, _ => absurd h (Nat.not_lt_zero _)
  | n + 1, t, h, g => by
    refine def_gv rfl ?_
    unfold b_with_stretch
    cases t with
    | nil => walk_at "bx"; rfl
    | node l s r hh m =>
      rw [T.dep] at h
      obtain ⟨gl, gr, _⟩ := g
      have i1 := p_with z n l (by omega) gl
      have i2 := p_with z n r (by omega) gr
      rw [insT]
      walk_at "bx"
      by_cases c : lt3 z s = true
      · rw [if_pos c, if_pos c, i1]
        walk_at "bx"
        rw [ge_bal (ins_good z gl).1 gr]
      · rw [if_neg c, if_neg c]
        rw [i2]
        walk_at "bx"
        rw [ge_bal gl (ins_good z gr).1]
theorem ge_with {n : Nat} {t : T} {z : S3} {P : D → Prop} (h : t.dep < n) (g : Good t) : Ge (m_with_stretch n [.box t, sd z]) P ↔ P (.box (insT z t)) := by rw [p_with z n t h g]; exact ge_some
theorem p_first {t : T} (h : t ≠ .nil) : m_first_stretch [.box t] = some (sd (minT t)) := by
  refine def_gv rfl ?_
  unfold b_first_stretch
  walk_at "bx"
  refine gv_while (fun ρ => ∃ t', ρ = [SV.v (D.box t')] ∧ t' ≠ .nil ∧ minT t' = minT t) (fun ρ => match sgt ρ 0 with | .v (.box t') => t'.dep | _ => 0) ⟨t, rfl, h, rfl⟩ (fun ρ ⟨t', e, hn, hm⟩ => ?_)
  subst e
  cases t' with
  | nil => exact absurd rfl hn
  | node l s r h m =>
    cases l with
    | nil => walk_at "bx"; rw [← hm]; rfl
    | node a b c d e =>
      walk_at "bx"
      refine ⟨⟨_, rfl, (fun z => nomatch z), hm⟩, ?_⟩
      simp only [T.dep]
      omega
def inT (z : S3) (t : T) : Prop := z ∈ toL t
theorem p_has {t : T} {z : S3} (p : Srt (toL t)) : m_has_stretch [.box t, sd z] = some (.bl (decide (z ∈ toL t))) := by
  refine def_gv rfl ?_
  unfold b_has_stretch
  walk_at "bx"
  refine gv_while (fun ρ => ∃ t', ρ = [SV.v (D.box t'), SV.v (sd z)] ∧ Srt (toL t') ∧ (z ∈ toL t' ↔ z ∈ toL t)) (fun ρ => match sgt ρ 0 with | .v (.box t') => t'.dep | _ => 0) ⟨t, rfl, p, Iff.rfl⟩ (fun ρ ⟨t', e, hp, hm⟩ => ?_)
  subst e
  cases t' with
  | nil =>
    walk_at "bx"
    have hn : z ∉ toL t := fun h => by have := hm.mpr h; cases this
    exact (decide_eq_false hn).symm
  | node l s r h m =>
    obtain ⟨p1, p2, p3, p4⟩ := srt_node hp
    have hz' : z ∈ toL t ↔ z ∈ toL l ∨ z = s ∨ z ∈ toL r := by
      rw [← hm]
      show z ∈ toL l ++ s :: toL r ↔ _
      simp
    walk_at "bx"
    by_cases e : s = z
    · rw [if_neg (fun h => h e)]
      exact (decide_eq_true (hz'.mpr (.inr (.inl e.symm)))).symm
    · rw [if_pos e]
      by_cases c : lt3 z s = true
      · rw [if_pos c]
        refine ⟨⟨_, rfl, p1, ?_⟩, by simp only [T.dep]; omega⟩
        rw [hz']
        refine ⟨.inl, fun h => ?_⟩
        rcases h with h | h | h
        · exact h
        · exact absurd h.symm e
        · have := lt3_asymm (p4 z h); rw [this] at c; cases c
      · rw [if_neg c]
        refine ⟨⟨_, rfl, p2, ?_⟩, by simp only [T.dep]; omega⟩
        rw [hz']
        refine ⟨fun h => .inr (.inr h), fun h => ?_⟩
        rcases h with h | h | h
        · exact absurd (p3 z h) c
        · exact absurd h.symm e
        · exact h
theorem p_without : ∀ (n : Nat) (t : T) (z : S3), t.dep < n → Good t → z ∈ toL t → Srt (toL t) → m_without_stretch n [.box t, sd z] = some (.box (delT z t))
  | 0, _, _, h, _, _, _ => absurd h (Nat.not_lt_zero _)
  | n + 1, t, z, h, g, hz, p => by
    refine def_gv rfl ?_
    unfold b_without_stretch
    cases t with
    | nil => cases hz
    | node l s r hh m =>
      rw [T.dep] at h
      obtain ⟨gl, gr, _⟩ := g
      obtain ⟨p1, p2, p3, p4⟩ := srt_node p
      have hz' : z ∈ toL l ∨ z = s ∨ z ∈ toL r := by
        have : z ∈ toL l ++ s :: toL r := hz
        simpa using this
      rw [delT]
      walk_at "bx"
      by_cases c : lt3 z s = true
      · rw [if_pos c, if_pos c]
        have hzl : z ∈ toL l := by
          rcases hz' with h | h | h
          · exact h
          · subst h; rw [lt3_irr] at c; cases c
          · have := lt3_asymm (p4 z h); rw [this] at c; cases c
        rw [p_without n l z (by omega) gl hzl p1]
        walk_at "bx"
        rw [ge_bal (del_good z gl).1 gr]
      · rw [if_neg c, if_neg c]
        by_cases c2 : lt3 s z = true
        · rw [if_pos c2, if_pos c2]
          have hzr : z ∈ toL r := by
            rcases hz' with h | h | h
            · have := p3 z h; exact absurd this c
            · subst h; rw [lt3_irr] at c2; cases c2
            · exact h
          rw [p_without n r z (by omega) gr hzr p2]
          walk_at "bx"
          rw [ge_bal gl (del_good z gr).1]
        · rw [if_neg c2, if_neg c2]
          cases l with
          | nil => walk_at "bx"; rfl
          | node a b c' e f =>
            cases hr : r with
            | nil => walk_at "bx"; rfl
            | node a' b' c'' e' f' =>
              rw [← hr]
              have hn : r ≠ .nil := fun z => by rw [z] at hr; cases hr
              obtain ⟨rest, er⟩ := toL_min hn
              have hmin : minT r ∈ toL r := by rw [er]; exact List.mem_cons_self
              have e1 := p_without n r (minT r) (by omega) gr hmin p2
              have e2 := p_first hn
              have ej : joinT (.node a b c' e f) r (delT (minT r) r) = balT (minT r) (.node a b c' e f) (delT (minT r) r) := by rw [hr]; rfl
              rw [ej]
              have hnr : dIsN (.box r) = some (.bl false) := by rw [hr]; rfl
              walk_at "bx"
              simp only [hnr]
              walk_at "bx"
              rw [e2]
              walk_at "bx"
              rw [e1]
              walk_at "bx"
              rw [ge_bal gl (del_good (minT r) gr).1]
/-! ### how deep -/
theorem good_dep : ∀ {t : T}, Good t → (t.dep : Int) = tallT t
  | .nil, _ => rfl
  | .node l s r h m, g => by
    have h1 := good_dep g.1
    have h2 := good_dep g.2.1
    have h3 := g.2.2.1
    show ((T.node l s r h m).dep : Int) = h
    rw [T.dep, h3]
    omega
theorem good_size : ∀ {t : T}, Good t → 2 ^ (t.dep / 2) ≤ (toL t).length + 1
  | .nil, _ => by decide
  | .node l s r h m, g => by
    have h1 := good_size g.1
    have h2 := good_size g.2.1
    have d1 := good_dep g.1
    have d2 := good_dep g.2.1
    have b1 := g.2.2.2.2.1
    have b2 := g.2.2.2.2.2
    have e : (toL (.node l s r h m)).length = (toL l).length + 1 + (toL r).length := by
      show (toL l ++ s :: toL r).length = _
      rw [List.length_append, List.length_cons]; omega
    rw [T.dep, e]
    by_cases c : max l.dep r.dep = 0
    · rw [c]; simp
    · have key : 2 ^ ((1 + max l.dep r.dep) / 2) = 2 * 2 ^ ((1 + max l.dep r.dep) / 2 - 1) := by
        rw [← Nat.pow_succ']
        congr 1
        omega
      have m1 : 2 ^ ((1 + max l.dep r.dep) / 2 - 1) ≤ 2 ^ (l.dep / 2) := Nat.pow_le_pow_right (by decide) (by omega)
      have m2 : 2 ^ ((1 + max l.dep r.dep) / 2 - 1) ≤ 2 ^ (r.dep / 2) := Nat.pow_le_pow_right (by decide) (by omega)
      rw [key]
      omega
theorem dep_lt {t : T} (g : Good t) (h : (toL t).length < 1000) : t.dep < 40 := by
  have h1 := good_size g
  by_cases c : t.dep < 40
  · exact c
  · have : 2 ^ 20 ≤ 2 ^ (t.dep / 2) := Nat.pow_le_pow_right (by decide) (by omega)
    have e : (2 : Nat) ^ 20 = 1048576 := by decide
    omega
/-! ### what Box.__init__ works out -/
theorem init_tall (s : S3) (l r : T) : (eOp dAdd (eC (.int 1)) (eCall fMax2 (eCons (eCall m_tall_of (eCons (eVar 2) eNil)) (eCons (eCall m_tall_of (eCons (eVar 3) eNil)) eNil)))) [none, some (sd s), some (.box l), some (.box r)] = some (.int (1 + max (tallT l) (tallT r))) := by
  have h : Ge ((eOp dAdd (eC (.int 1)) (eCall fMax2 (eCons (eCall m_tall_of (eCons (eVar 2) eNil)) (eCons (eCall m_tall_of (eCons (eVar 3) eNil)) eNil)))) [none, some (sd s), some (.box l), some (.box r)]) (fun d => d = .int (1 + max (tallT l) (tallT r))) := by
    walk_at "bx"
    simp only [ge_tall]
    walk_at "bx"
  obtain ⟨d, e, rfl⟩ := h
  exact e
theorem init_reach (s : S3) (l r : T) : (eCall m_reach_over (eCons (eVar 1) (eCons (eVar 2) (eCons (eVar 3) eNil)))) [none, some (sd s), some (.box l), some (.box r)] = some (.int (reachT s l r)) := by
  have h : Ge ((eCall m_reach_over (eCons (eVar 1) (eCons (eVar 2) (eCons (eVar 3) eNil)))) [none, some (sd s), some (.box l), some (.box r)]) (fun d => d = .int (reachT s l r)) := by
    walk_at "bx"
    rw [p_reach_over]
    walk_at "bx"
  obtain ⟨d, e, rfl⟩ := h
  exact e
theorem spInit_len {W : Wh} {vs : List V} {H : Hp} {Q : VK} {E : XK} (h : spInit W vs H Q E) : vs.length = 4 := by
  obtain ⟨x, dx, H0, s, l, r, vl, vr, vz, rfl, _⟩ := h
  rfl
theorem spD_none {P : Program} {w : World} {K : PySem.W.Frag} {mg : Str → Option Value} {base : Heap} {CX : CXT} {k : Nat} {f : Addr} {fd : FuncData} {ps : List Str} {W : Wh} {fr : Bool} : FnOk P w K mg base CX k f fd ps (spD W fr (fun _ => none)) :=
  spG_never fun vs H Q E h => by
    obtain ⟨ds, d, r, e, _⟩ := h
    cases e
theorem start_full {N : List Str} {vs : List V} (h : vs.length = N.length) : L2.start N vs = vs.map some := by
  unfold L2.start
  rw [h, Nat.sub_self]
  simp
theorem gl_end (l : T) (s : S3) (r : T) (h m lo hi : Int) : (bOr (bVal (eUn dIsN (eVar 0))) (bVal (eOp dLt (eUn dReach (eVar 0)) (eVar 1)))) [some (.box (.node l s r h m)), some (.int lo), some (.int hi), none] = some (lookEnd (.node l s r h m) lo) := by
  show some (decide (m < lo)) = some (decide (m < lo))
  rfl
/-! ### the boxes in order -/
theorem gv_gath {i : Nat} {f : List D → Option (List D)} {ms : DEnv → Option (List D)} {ρ : SEnv} {P : Out → Prop} {ds acc new : List D} (h1 : ms (full ρ) = some ds) (h2 : sgt ρ i = .own acc) (h3 : f ds = some new) (h4 : D.imms (acc ++ new) = true) (h5 : acc.length + new.length ≤ sizeLine)
    (q : P (.nx (ρ.set i (.own (acc ++ new))))) : Gv (sGath i f ms ρ) P := by
  refine ⟨_, ?_, q⟩
  unfold sGath
  rw [h1, Option.bind_some, h2]
  show ((f ds).bind fun new => if D.imms (acc ++ new) = true ∧ acc.length + new.length ≤ sizeLine then some (Out.nx (ρ.set i (.own (acc ++ new)))) else none) = _
  rw [h3, Option.bind_some, if_pos ⟨h4, h5⟩]
theorem placed_len : ∀ (t : T) (d : Int), (placed t d).length = (toL t).length
  | .nil, _ => rfl
  | .node l s r h m, d => by
    show (placed l (d + 1) ++ (s, d, h, m) :: placed r (d + 1)).length = (toL l ++ s :: toL r).length
    rw [List.length_append, List.length_append, List.length_cons, List.length_cons, placed_len l, placed_len r]
theorem placed_toL : ∀ (t : T) (d : Int), (placed t d).map (·.1) = toL t
  | .nil, _ => rfl
  | .node l s r h m, d => by
    show (placed l (d + 1) ++ (s, d, h, m) :: placed r (d + 1)).map _ = toL l ++ s :: toL r
    rw [List.map_append, List.map_cons, placed_toL l, placed_toL r]
theorem imms_bd (bs : List BRow) : D.imms (bs.map bd) = true := imms_map (fun b => rfl) _
theorem p_placed {t : T} (h : t.dep < 180) (hl : (toL t).length < 1000) : m_placed_boxes [.box t] = some (.lst ((placed t 0).map bd)) := by
  refine def_gv rfl ?_
  unfold b_placed_boxes
  walk_at "bx"
  have e : gPlaced 180 [D.box t, D.int 0] = some ((placed t 0).map bd) := by
    show (if t.dep < 180 then _ else none) = _
    rw [if_pos h]
  have hz := placed_len t 0
  refine gv_gath (new := (placed t 0).map bd) rfl rfl e (imms_bd _) (by rw [List.length_map]; show 0 + _ ≤ sizeLine; rw [sizeLine_eq]; omega) ?_
  walk_at "bx"
theorem bd_tup (l : T) (s : S3) (r : T) (h m d : Int) : (eTup (eCons (eUn dStretch (eVar 0)) (eCons (eVar 1) (eCons (eUn dTall (eVar 0)) (eCons (eUn dReach (eVar 0)) eNil))))) [some (.box (.node l s r h m)), some (.int d), none] = some (bd (s, d, h, m)) := by
  have hh : Ge ((eTup (eCons (eUn dStretch (eVar 0)) (eCons (eVar 1) (eCons (eUn dTall (eVar 0)) (eCons (eUn dReach (eVar 0)) eNil))))) [some (.box (.node l s r h m)), some (.int d), none]) (fun x => x = bd (s, d, h, m)) := by
    walk_at "bx"
    rfl
  obtain ⟨x, e, rfl⟩ := hh
  exact e
end
end Sp

set_option Elab.async false
set_option linter.all false
set_option maxRecDepth 100000
set_option maxHeartbeats 2000000
namespace Sp
open PySem L2
open Classical
noncomputable section
local macro_rules | `(tactic| walk_at "ev") => `(tactic| try simp only [gv_next, gv_brk, gv_cnt, gv_retN, gv_seq, nx_nx, nx_rt, nx_bk, nx_ct, gv_set, gv_setF, gv_own, gv_ret, gv_drop, gv_retO, gv_if, gv_app, gv_unp, gv_pop, gv_put, gv_par, gv_forF, gv_forN, gv_forT, gv_forR,
  ge_var, ge_c, ge_op, ge_un, gl_nil, gl_cons, ge_call, ge_meth, ge_tup, ge_lst, ge_ii, ge_sl, go_none, go_int, gb_val, gb_truth, gb_and, gb_or, gb_not, gb_yes, ge_and, ge_or, ge_if, ge_chain, ge_some, gb_some, gl_some, go_some, ge_guard, ge_lc, ge_lcT, ge_lcR, ge_eqI, ge_neI, ge_eqB, ge_neB,
  frm, full, SV.full, gt, sgt, setAll, Tg.put, List.map, List.replicate, List.set, List.length_cons, List.length_nil, List.length_append, List.length_map, List.append_nil, List.nil_append, List.cons_append, Nat.sub_self, Nat.reduceAdd, Nat.reduceSub, Nat.zero_add, Nat.add_zero,
  noOwn, List.all_cons, List.all_nil, SV.free, D.imm, D.imms, imm_sd, imms_sd, imm_tupI, Bool.and_true, Bool.true_and, Bool.and_self, Bool.false_and, Bool.and_false, true_or, or_true, or_self, false_or, or_false, true_and, and_true, if_true, if_false, Bool.false_eq_true,
  D.int.injEq, D.bl.injEq, D.lst.injEq, D.tup.injEq, D.str.injEq, D.box.injEq, D.wood.injEq, SV.v.injEq, SV.own.injEq, Option.some.injEq, exists_eq_left', exists_eq_left, exists_and_left, reduceCtorEq, false_and, and_false, exists_false,
  fLen_lst, fLen_tup, fLen_scr, fLen_sd, fMax2_ii, fMin2_ii, fInt1_i, fInt1_b, fListOf_lst, fSorted_sd, fSum_i, dIx_sd0, dIx_sd1, dIx_sd2, dIx_lst, dIx_tup, dIx_scr, atI_0, atI_1, atI_2, atI_3, dSl_lst, dSl_scr, dCat_ll, dRep_l, dNot_b, dNeg_i, dNotBl_b, dNotBl_i, dNotBl_n, dNotBl_s, dNotBl_t, dNotBl_l, dIsN_non, dIsN_int, dIsN_lst, dNotN_non, dNotN_lst, dIsN_nil, dIsN_node, dNotN_nil, dNotN_node, isi_int_non, isi_int_bl, isi_int_int, isi_int_str, isi_int_tup, isi_int_lst, isi_int_sd, isi_bool_non, isi_bool_bl, isi_bool_int, isi_bool_str, isi_bool_tup, isi_bool_lst, isi_bool_sd, isi_tuple_non, isi_tuple_bl, isi_tuple_int, isi_tuple_str, isi_tuple_tup, isi_tuple_lst, isi_tuple_sd, isi_list_non, isi_list_bl, isi_list_int, isi_list_str, isi_list_tup, isi_list_lst, isi_list_sd, tyi_non, tyi_bl, tyi_int, tyi_str, tyi_tup, tyi_lst, ge_eqT, ge_neT, ge_eqS, ge_neS, ge_inS, ge_ninS, ge_eqLS, ge_neLS, Option.map_some, Bool.not_true, Bool.not_false, Bool.not_not, decide_eq_true_eq, decide_eq_false_iff_not, Bool.not_eq_true', Bool.not_eq_false', Bool.not_eq_true, decide_true, decide_false,
  Int.reduceLT, Nat.reduceLT, Int.reduceLE, Nat.reduceLeDiff, sizeLine_eq, and_self, ite_self, not_false_eq_true, not_true_eq_false, implies_true, imp_self, forall_const, true_implies])
local macro_rules | `(tactic| walk_at "st") => `(tactic| try simp only [gv_next, gv_brk, gv_cnt, gv_retN, gv_seq, nx_nx, nx_rt, nx_bk, nx_ct, gv_set, gv_setF, gv_own, gv_ret, gv_drop, gv_retO, gv_app, gv_unp, gv_pop, gv_put, gv_par, gv_forF, gv_forN, gv_forT, gv_forR,
  ge_var, ge_c, ge_op, ge_un, gl_nil, gl_cons, ge_call, ge_meth, ge_tup, ge_lst, ge_ii, ge_sl, go_none, go_int, gb_val, gb_truth, gb_and, gb_or, gb_not, gb_yes, ge_and, ge_or, ge_if, ge_chain, ge_some, gb_some, gl_some, go_some, ge_guard, ge_lc, ge_lcT, ge_lcR, ge_eqI, ge_neI, ge_eqB, ge_neB,
  frm, full, SV.full, gt, sgt, setAll, Tg.put, List.map, List.replicate, List.set, List.length_cons, List.length_nil, List.length_append, List.length_map, List.append_nil, List.nil_append, List.cons_append, Nat.sub_self, Nat.reduceAdd, Nat.reduceSub, Nat.zero_add, Nat.add_zero,
  noOwn, List.all_cons, List.all_nil, SV.free, D.imm, D.imms, imm_sd, imms_sd, imm_tupI, Bool.and_true, Bool.true_and, Bool.and_self, Bool.false_and, Bool.and_false, true_or, or_true, or_self, false_or, or_false, true_and, and_true, if_true, if_false, Bool.false_eq_true,
  D.int.injEq, D.bl.injEq, D.lst.injEq, D.tup.injEq, D.str.injEq, D.box.injEq, D.wood.injEq, SV.v.injEq, SV.own.injEq, Option.some.injEq, exists_eq_left', exists_eq_left, exists_and_left, reduceCtorEq, false_and, and_false, exists_false,
  fLen_lst, fLen_tup, fLen_scr, fLen_sd, fMax2_ii, fMin2_ii, fInt1_i, fInt1_b, fListOf_lst, fSorted_sd, fSum_i, dIx_sd0, dIx_sd1, dIx_sd2, dIx_lst, dIx_tup, dIx_scr, atI_0, atI_1, atI_2, atI_3, dSl_lst, dSl_scr, dCat_ll, dRep_l, dNot_b, dNeg_i, dNotBl_b, dNotBl_i, dNotBl_n, dNotBl_s, dNotBl_t, dNotBl_l, dIsN_non, dIsN_int, dIsN_lst, dNotN_non, dNotN_lst, dIsN_nil, dIsN_node, dNotN_nil, dNotN_node, isi_int_non, isi_int_bl, isi_int_int, isi_int_str, isi_int_tup, isi_int_lst, isi_int_sd, isi_bool_non, isi_bool_bl, isi_bool_int, isi_bool_str, isi_bool_tup, isi_bool_lst, isi_bool_sd, isi_tuple_non, isi_tuple_bl, isi_tuple_int, isi_tuple_str, isi_tuple_tup, isi_tuple_lst, isi_tuple_sd, isi_list_non, isi_list_bl, isi_list_int, isi_list_str, isi_list_tup, isi_list_lst, isi_list_sd, tyi_non, tyi_bl, tyi_int, tyi_str, tyi_tup, tyi_lst, ge_eqT, ge_neT, ge_eqS, ge_neS, ge_inS, ge_ninS, ge_eqLS, ge_neLS, Option.map_some, Bool.not_true, Bool.not_false, Bool.not_not, decide_eq_true_eq, decide_eq_false_iff_not, Bool.not_eq_true', Bool.not_eq_false', Bool.not_eq_true, decide_true, decide_false,
  Int.reduceLT, Nat.reduceLT, Int.reduceLE, Nat.reduceLeDiff, sizeLine_eq, and_self, ite_self, not_false_eq_true, not_true_eq_false, implies_true, imp_self, forall_const, true_implies])

theorem dTop_w {t : T} : dTop (.wood t) = some (.box t) := rfl
/-- a wood as the program keeps it -/
structure Kept (t : T) : Prop where
  good : Good t
  srt : Srt (toL t)
  len : (toL t).length < 900
theorem Kept.dep {t : T} (k : Kept t) : t.dep < 180 := Nat.lt_of_lt_of_le (dep_lt k.good (by have := k.len; omega)) (by decide)
def fPut (C : Addr) : T → List D → Option (Except Addr (T × D)) := fun t ds => match ds with
  | [.int a, .int b, .int c] => if Kept t ∧ Okay3 (a, b, c) then (if (a, b, c) ∈ toL t then some (.error C) else some (.ok (insT (a, b, c) t, .non))) else none
  | _ => none
def fTake (C : Addr) : T → List D → Option (Except Addr (T × D)) := fun t ds => match ds with
  | [.int a, .int b, .int c] => if Kept t ∧ Okay3 (a, b, c) then (if (a, b, c) ∈ toL t then some (.ok (delT (a, b, c) t, .non)) else some (.error C)) else none
  | _ => none
section
variable {C : Addr} {t : T} {ds : List D} {r : Except Addr (T × D)}
theorem fPut_inv (h : fPut C t ds = some r) : ∃ z : S3, ds = [.int z.1, .int z.2.1, .int z.2.2] ∧ Kept t ∧ Okay3 z ∧ ((z ∈ toL t ∧ r = .error C) ∨ (z ∉ toL t ∧ r = .ok (insT z t, .non))) := by
  unfold fPut at h
  split at h
  · rename_i a b c
    by_cases h1 : Kept t ∧ Okay3 (a, b, c)
    · rw [if_pos h1] at h
      by_cases h2 : (a, b, c) ∈ toL t
      · rw [if_pos h2] at h; cases h; exact ⟨(a, b, c), rfl, h1.1, h1.2, .inl ⟨h2, rfl⟩⟩
      · rw [if_neg h2] at h; cases h; exact ⟨(a, b, c), rfl, h1.1, h1.2, .inr ⟨h2, rfl⟩⟩
    · rw [if_neg h1] at h; cases h
  · cases h
theorem fTake_inv (h : fTake C t ds = some r) : ∃ z : S3, ds = [.int z.1, .int z.2.1, .int z.2.2] ∧ Kept t ∧ Okay3 z ∧ ((z ∈ toL t ∧ r = .ok (delT z t, .non)) ∨ (z ∉ toL t ∧ r = .error C)) := by
  unfold fTake at h
  split at h
  · rename_i a b c
    by_cases h1 : Kept t ∧ Okay3 (a, b, c)
    · rw [if_pos h1] at h
      by_cases h2 : (a, b, c) ∈ toL t
      · rw [if_pos h2] at h; cases h; exact ⟨(a, b, c), rfl, h1.1, h1.2, .inl ⟨h2, rfl⟩⟩
      · rw [if_neg h2] at h; cases h; exact ⟨(a, b, c), rfl, h1.1, h1.2, .inr ⟨h2, rfl⟩⟩
    · rw [if_neg h1] at h; cases h
  · cases h
theorem put_len (h : fPut C t ds = some r) : ds.length = 3 := by
  obtain ⟨z, rfl, _⟩ := fPut_inv h; rfl
theorem take_len (h : fTake C t ds = some r) : ds.length = 3 := by
  obtain ⟨z, rfl, _⟩ := fTake_inv h; rfl
theorem ge_has {z : S3} {P : D → Prop} (p : Srt (toL t)) : Ge (m_has_stretch [.box t, sd z]) P ↔ P (.bl (decide (z ∈ toL t))) := by rw [p_has p]; exact ge_some
theorem put_run {t2 : T} {d : D} (h : fPut C t ds = some (.ok (t2, d))) (l : Addr) : d = .non ∧ ∃ o, b_Wood_put (.wd (some l) t :: frm (5 - 1) ds) = some o ∧ ((∃ ρ', o = .nx ρ' ∧ D.non = .non ∧ sgt ρ' 0 = .wd (some l) t2) ∨ ∃ ρ', o = .rt .non ρ' ∧ sgt ρ' 0 = .wd (some l) t2) := by
  obtain ⟨z, rfl, hk, hz, ⟨_, e⟩ | ⟨hn, e⟩⟩ := fPut_inv h
  · cases e
  cases e
  refine ⟨rfl, ?_⟩
  show Gv (b_Wood_put _) _
  unfold b_Wood_put
  walk_at "ev"
  rw [ge_stretch_of hz]
  walk_at "ev"
  simp only [dTop_w]
  walk_at "ev"
  rw [ge_has hk.srt]
  walk_at "ev"
  rw [if_neg hn, gv_top]
  walk_at "ev"
  simp only [dTop_w]
  walk_at "ev"
  rw [ge_with hk.dep hk.good]
  exact ⟨insT z t, rfl, some l, t, rfl, _, rfl, rfl⟩
theorem ge_without {n : Nat} {z : S3} {P : D → Prop} (h : t.dep < n) (g : Good t) (hz : z ∈ toL t) (p : Srt (toL t)) : Ge (m_without_stretch n [.box t, sd z]) P ↔ P (.box (delT z t)) := by rw [p_without n t z h g hz p]; exact ge_some
theorem take_run {t2 : T} {d : D} (h : fTake C t ds = some (.ok (t2, d))) (l : Addr) : d = .non ∧ ∃ o, b_Wood_take (.wd (some l) t :: frm (5 - 1) ds) = some o ∧ ((∃ ρ', o = .nx ρ' ∧ D.non = .non ∧ sgt ρ' 0 = .wd (some l) t2) ∨ ∃ ρ', o = .rt .non ρ' ∧ sgt ρ' 0 = .wd (some l) t2) := by
  obtain ⟨z, rfl, hk, hz, ⟨hn, e⟩ | ⟨_, e⟩⟩ := fTake_inv h
  rotate_left
  · cases e
  cases e
  refine ⟨rfl, ?_⟩
  show Gv (b_Wood_take _) _
  unfold b_Wood_take
  walk_at "ev"
  rw [ge_stretch_of hz]
  walk_at "ev"
  simp only [dTop_w]
  walk_at "ev"
  rw [ge_has hk.srt]
  walk_at "ev"
  rw [if_neg (fun h => h hn), gv_top]
  walk_at "ev"
  simp only [dTop_w]
  walk_at "ev"
  rw [ge_without hk.dep hk.good hn hk.srt]
  exact ⟨delT z t, rfl, some l, t, rfl, _, rfl, rfl⟩
theorem put_raise {C2 : Addr} (h : fPut C t ds = some (.error C2)) (l : Addr) : C2 = C ∧ ∃ ρ1, (sSet 4 (eCall m_stretch_of (eCons (eVar 1) (eCons (eVar 2) (eCons (eVar 3) eNil))))) (.wd (some l) t :: frm (5 - 1) ds) = some (.nx ρ1) ∧ sgt ρ1 0 = .wd (some l) t ∧
    (bVal (eCall m_has_stretch (eCons (eUn dTop (eVar 0)) (eCons (eVar 4) eNil)))) (full ρ1) = some true := by
  obtain ⟨z, rfl, hk, hz, ⟨hn, e⟩ | ⟨_, e⟩⟩ := fPut_inv h
  rotate_left
  · cases e
  cases e
  refine ⟨rfl, ?_⟩
  have h1 : Gv ((sSet 4 (eCall m_stretch_of (eCons (eVar 1) (eCons (eVar 2) (eCons (eVar 3) eNil))))) (.wd (some l) t :: frm (5 - 1) [.int z.1, .int z.2.1, .int z.2.2])) (fun o => o = .nx [.wd (some l) t, .v (.int z.1), .v (.int z.2.1), .v (.int z.2.2), .v (sd z)]) := by
    walk_at "ev"
    rw [ge_stretch_of hz]
    walk_at "ev"
  obtain ⟨o, e1, rfl⟩ := h1
  refine ⟨_, e1, rfl, ?_⟩
  have h2 : Gb ((bVal (eCall m_has_stretch (eCons (eUn dTop (eVar 0)) (eCons (eVar 4) eNil)))) (full [.wd (some l) t, .v (.int z.1), .v (.int z.2.1), .v (.int z.2.2), .v (sd z)])) (fun c => c = true) := by
    walk_at "ev"
    simp only [dTop_w]
    walk_at "ev"
    rw [ge_has hk.srt]
    walk_at "ev"
    exact hn
  obtain ⟨c, e2, rfl⟩ := h2
  exact e2
theorem take_raise {C2 : Addr} (h : fTake C t ds = some (.error C2)) (l : Addr) : C2 = C ∧ ∃ ρ1, (sSet 4 (eCall m_stretch_of (eCons (eVar 1) (eCons (eVar 2) (eCons (eVar 3) eNil))))) (.wd (some l) t :: frm (5 - 1) ds) = some (.nx ρ1) ∧ sgt ρ1 0 = .wd (some l) t ∧
    (bNot (bVal (eCall m_has_stretch (eCons (eUn dTop (eVar 0)) (eCons (eVar 4) eNil))))) (full ρ1) = some true := by
  obtain ⟨z, rfl, hk, hz, ⟨_, e⟩ | ⟨hn, e⟩⟩ := fTake_inv h
  · cases e
  cases e
  refine ⟨rfl, ?_⟩
  have h1 : Gv ((sSet 4 (eCall m_stretch_of (eCons (eVar 1) (eCons (eVar 2) (eCons (eVar 3) eNil))))) (.wd (some l) t :: frm (5 - 1) [.int z.1, .int z.2.1, .int z.2.2])) (fun o => o = .nx [.wd (some l) t, .v (.int z.1), .v (.int z.2.1), .v (.int z.2.2), .v (sd z)]) := by
    walk_at "ev"
    rw [ge_stretch_of hz]
    walk_at "ev"
  obtain ⟨o, e1, rfl⟩ := h1
  refine ⟨_, e1, rfl, ?_⟩
  have h2 : Gb ((bNot (bVal (eCall m_has_stretch (eCons (eUn dTop (eVar 0)) (eCons (eVar 4) eNil))))) (full [.wd (some l) t, .v (.int z.1), .v (.int z.2.1), .v (.int z.2.2), .v (sd z)])) (fun c => c = true) := by
    walk_at "ev"
    simp only [dTop_w]
    walk_at "ev"
    rw [ge_has hk.srt]
    walk_at "ev"
    exact hn
  obtain ⟨c, e2, rfl⟩ := h2
  exact e2
end
end
end Sp

set_option Elab.async false
set_option linter.all false
set_option maxRecDepth 100000
set_option maxHeartbeats 2000000
namespace Sp
open PySem L2
open Classical
noncomputable section
local macro_rules | `(tactic| walk_at "ev") => `(tactic| try simp only [gv_next, gv_brk, gv_cnt, gv_retN, gv_seq, nx_nx, nx_rt, nx_bk, nx_ct, gv_set, gv_setF, gv_own, gv_ret, gv_drop, gv_retO, gv_if, gv_app, gv_unp, gv_pop, gv_put, gv_par, gv_forF, gv_forN, gv_forT, gv_forR,
  ge_var, ge_c, ge_op, ge_un, gl_nil, gl_cons, ge_call, ge_meth, ge_tup, ge_lst, ge_ii, ge_sl, go_none, go_int, gb_val, gb_truth, gb_and, gb_or, gb_not, gb_yes, ge_and, ge_or, ge_if, ge_chain, ge_some, gb_some, gl_some, go_some, ge_guard, ge_lc, ge_lcT, ge_lcR, ge_eqI, ge_neI, ge_eqB, ge_neB,
  frm, full, SV.full, gt, sgt, setAll, Tg.put, List.map, List.replicate, List.set, List.length_cons, List.length_nil, List.length_append, List.length_map, List.append_nil, List.nil_append, List.cons_append, Nat.sub_self, Nat.reduceAdd, Nat.reduceSub, Nat.zero_add, Nat.add_zero,
  noOwn, List.all_cons, List.all_nil, SV.free, D.imm, D.imms, imm_sd, imms_sd, imm_tupI, Bool.and_true, Bool.true_and, Bool.and_self, Bool.false_and, Bool.and_false, true_or, or_true, or_self, false_or, or_false, true_and, and_true, if_true, if_false, Bool.false_eq_true,
  D.int.injEq, D.bl.injEq, D.lst.injEq, D.tup.injEq, D.str.injEq, D.box.injEq, D.wood.injEq, SV.v.injEq, SV.own.injEq, Option.some.injEq, exists_eq_left', exists_eq_left, exists_and_left, reduceCtorEq, false_and, and_false, exists_false,
  fLen_lst, fLen_tup, fLen_scr, fLen_sd, fMax2_ii, fMin2_ii, fInt1_i, fInt1_b, fListOf_lst, fSorted_sd, fSum_i, dIx_sd0, dIx_sd1, dIx_sd2, dIx_lst, dIx_tup, dIx_scr, atI_0, atI_1, atI_2, atI_3, dSl_lst, dSl_scr, dCat_ll, dRep_l, dNot_b, dNeg_i, dNotBl_b, dNotBl_i, dNotBl_n, dNotBl_s, dNotBl_t, dNotBl_l, dIsN_non, dIsN_int, dIsN_lst, dNotN_non, dNotN_lst, dIsN_nil, dIsN_node, dNotN_nil, dNotN_node, isi_int_non, isi_int_bl, isi_int_int, isi_int_str, isi_int_tup, isi_int_lst, isi_int_sd, isi_bool_non, isi_bool_bl, isi_bool_int, isi_bool_str, isi_bool_tup, isi_bool_lst, isi_bool_sd, isi_tuple_non, isi_tuple_bl, isi_tuple_int, isi_tuple_str, isi_tuple_tup, isi_tuple_lst, isi_tuple_sd, isi_list_non, isi_list_bl, isi_list_int, isi_list_str, isi_list_tup, isi_list_lst, isi_list_sd, tyi_non, tyi_bl, tyi_int, tyi_str, tyi_tup, tyi_lst, ge_eqT, ge_neT, ge_eqS, ge_neS, ge_inS, ge_ninS, ge_eqLS, ge_neLS, Option.map_some, Bool.not_true, Bool.not_false, Bool.not_not, decide_eq_true_eq, decide_eq_false_iff_not, Bool.not_eq_true', Bool.not_eq_false', Bool.not_eq_true, decide_true, decide_false,
  Int.reduceLT, Nat.reduceLT, Int.reduceLE, Nat.reduceLeDiff, sizeLine_eq, and_self, ite_self, not_false_eq_true, not_true_eq_false, implies_true, imp_self, forall_const, true_implies])
local macro_rules | `(tactic| walk_at "st") => `(tactic| try simp only [gv_next, gv_brk, gv_cnt, gv_retN, gv_seq, nx_nx, nx_rt, nx_bk, nx_ct, gv_set, gv_setF, gv_own, gv_ret, gv_drop, gv_retO, gv_app, gv_unp, gv_pop, gv_put, gv_par, gv_forF, gv_forN, gv_forT, gv_forR,
  ge_var, ge_c, ge_op, ge_un, gl_nil, gl_cons, ge_call, ge_meth, ge_tup, ge_lst, ge_ii, ge_sl, go_none, go_int, gb_val, gb_truth, gb_and, gb_or, gb_not, gb_yes, ge_and, ge_or, ge_if, ge_chain, ge_some, gb_some, gl_some, go_some, ge_guard, ge_lc, ge_lcT, ge_lcR, ge_eqI, ge_neI, ge_eqB, ge_neB,
  frm, full, SV.full, gt, sgt, setAll, Tg.put, List.map, List.replicate, List.set, List.length_cons, List.length_nil, List.length_append, List.length_map, List.append_nil, List.nil_append, List.cons_append, Nat.sub_self, Nat.reduceAdd, Nat.reduceSub, Nat.zero_add, Nat.add_zero,
  noOwn, List.all_cons, List.all_nil, SV.free, D.imm, D.imms, imm_sd, imms_sd, imm_tupI, Bool.and_true, Bool.true_and, Bool.and_self, Bool.false_and, Bool.and_false, true_or, or_true, or_self, false_or, or_false, true_and, and_true, if_true, if_false, Bool.false_eq_true,
  D.int.injEq, D.bl.injEq, D.lst.injEq, D.tup.injEq, D.str.injEq, D.box.injEq, D.wood.injEq, SV.v.injEq, SV.own.injEq, Option.some.injEq, exists_eq_left', exists_eq_left, exists_and_left, reduceCtorEq, false_and, and_false, exists_false,
  fLen_lst, fLen_tup, fLen_scr, fLen_sd, fMax2_ii, fMin2_ii, fInt1_i, fInt1_b, fListOf_lst, fSorted_sd, fSum_i, dIx_sd0, dIx_sd1, dIx_sd2, dIx_lst, dIx_tup, dIx_scr, atI_0, atI_1, atI_2, atI_3, dSl_lst, dSl_scr, dCat_ll, dRep_l, dNot_b, dNeg_i, dNotBl_b, dNotBl_i, dNotBl_n, dNotBl_s, dNotBl_t, dNotBl_l, dIsN_non, dIsN_int, dIsN_lst, dNotN_non, dNotN_lst, dIsN_nil, dIsN_node, dNotN_nil, dNotN_node, isi_int_non, isi_int_bl, isi_int_int, isi_int_str, isi_int_tup, isi_int_lst, isi_int_sd, isi_bool_non, isi_bool_bl, isi_bool_int, isi_bool_str, isi_bool_tup, isi_bool_lst, isi_bool_sd, isi_tuple_non, isi_tuple_bl, isi_tuple_int, isi_tuple_str, isi_tuple_tup, isi_tuple_lst, isi_tuple_sd, isi_list_non, isi_list_bl, isi_list_int, isi_list_str, isi_list_tup, isi_list_lst, isi_list_sd, tyi_non, tyi_bl, tyi_int, tyi_str, tyi_tup, tyi_lst, ge_eqT, ge_neT, ge_eqS, ge_neS, ge_inS, ge_ninS, ge_eqLS, ge_neLS, Option.map_some, Bool.not_true, Bool.not_false, Bool.not_not, decide_eq_true_eq, decide_eq_false_iff_not, Bool.not_eq_true', Bool.not_eq_false', Bool.not_eq_true, decide_true, decide_false,
  Int.reduceLT, Nat.reduceLT, Int.reduceLE, Nat.reduceLeDiff, sizeLine_eq, and_self, ite_self, not_false_eq_true, not_true_eq_false, implies_true, imp_self, forall_const, true_implies])

/-! ### a deed done: _law_do -/
def deedD (x : Str) (z : S3) (y : Str) : D := .tup [.str x, sd z, .str y]
/-- the wood behind a deed, and whether it went as y says -/
def didT (x : Str) (z : S3) (y : Str) (t : T) : T × Bool :=
  if x = "put" then (if z ∈ toL t then (t, decide (y ≠ "done")) else (insT z t, decide (y = "done")))
  else (if z ∈ toL t then (delT z t, decide (y = "done")) else (t, decide (y ≠ "done")))
def fDo (t : T) (ds : List D) : Option (Except Addr (T × D)) := match ds with
  | [.tup [.str x, zd, .str y]] => zd.trip.bind fun z => if Kept t ∧ Okay3 z ∧ PyData.strOk x = true ∧ PyData.strOk y = true then some (.ok ((didT x z y t).1, .bl (didT x z y t).2)) else none
  | _ => none
theorem fDo_inv {t : T} {ds : List D} {r : Except Addr (T × D)} (h : fDo t ds = some r) : ∃ x z y, ds = [deedD x z y] ∧ Kept t ∧ Okay3 z ∧ PyData.strOk x = true ∧ PyData.strOk y = true ∧ r = .ok ((didT x z y t).1, .bl (didT x z y t).2) := by
  unfold fDo at h
  split at h
  · rename_i x zd y
    rw [Option.bind_eq_some_iff] at h
    obtain ⟨z, h1, h2⟩ := h
    split at h2
    · rename_i c
      cases h2
      exact ⟨x, z, y, by rw [D.of_trip h1]; rfl, c.1, c.2.1, c.2.2.1, c.2.2.2, rfl⟩
    · cases h2
  · cases h
theorem fDo_len {t : T} {ds : List D} {r : Except Addr (T × D)} (h : fDo t ds = some r) : ds.length = 1 := by
  obtain ⟨x, z, y, rfl, _⟩ := fDo_inv h; rfl
theorem fDo_deed {t : T} {x y : Str} {z : S3} (hk : Kept t) (hz : Okay3 z) (sx : PyData.strOk x = true) (sy : PyData.strOk y = true) : fDo t [deedD x z y] = some (.ok ((didT x z y t).1, .bl (didT x z y t).2)) := by
  show (if Kept t ∧ Okay3 z ∧ PyData.strOk x = true ∧ PyData.strOk y = true then _ else none) = _
  rw [if_pos ⟨hk, hz, sx, sy⟩]
theorem ge_eqStr {x y : Str} {P : D → Prop} (hx : PyData.strOk x = true) (hy : PyData.strOk y = true) : Ge (dEq (.str x) (.str y)) P ↔ P (.bl (decide (x = y))) := by rw [ge_eq (by rw [D.pln]; exact hx) (by rw [D.pln]; exact hy)]; simp only [D.str.injEq]
theorem ge_neStr {x y : Str} {P : D → Prop} (hx : PyData.strOk x = true) (hy : PyData.strOk y = true) : Ge (dNe (.str x) (.str y)) P ↔ P (.bl (!decide (x = y))) := by rw [ge_ne (by rw [D.pln]; exact hx) (by rw [D.pln]; exact hy)]; simp only [D.str.injEq]
section
variable {W : Wh} {t : T} {x y : Str} {z : S3} {a : Option Addr} {sv : SV}
theorem do_s1 : (sSet 2 (eOp dIx (eVar 1) (eC (.int 1)))) [.wd a t, .v (deedD x z y), .no] = some (.nx [.wd a t, .v (deedD x z y), .v (sd z)]) := by
  have h : Gv ((sSet 2 (eOp dIx (eVar 1) (eC (.int 1)))) [.wd a t, .v (deedD x z y), .no]) (fun o => o = .nx [.wd a t, .v (deedD x z y), .v (sd z)]) := by
    unfold deedD
    walk_at "ev"
  obtain ⟨o, e, rfl⟩ := h
  exact e
theorem ok_put_s : PyData.strOk "put" = true := by decide +kernel
theorem ok_done_s : PyData.strOk "done" = true := by decide +kernel
theorem do_t (sx : PyData.strOk x = true) : (bVal (eOp dEq (eOp dIx (eVar 1) (eC (.int 0))) (eC (.str "put")))) (full [.wd a t, .v (deedD x z y), sv]) = some (decide (x = "put")) := by
  have h : Gb ((bVal (eOp dEq (eOp dIx (eVar 1) (eC (.int 0))) (eC (.str "put")))) (full [.wd a t, .v (deedD x z y), sv])) (fun c => c = decide (x = "put")) := by
    unfold deedD
    walk_at "ev"
    rw [ge_eqStr sx ok_put_s]
    walk_at "ev"
  obtain ⟨o, e, rfl⟩ := h
  exact e
theorem do_err (sy : PyData.strOk y = true) : (sRet (eOp dNe (eOp dIx (eVar 1) (eC (.int 2))) (eC (.str "done")))) [.wd a t, .v (deedD x z y), sv] = some (.rt (.bl (decide (y ≠ "done"))) [.wd a t, .v (deedD x z y), sv]) := by
  have h : Gv ((sRet (eOp dNe (eOp dIx (eVar 1) (eC (.int 2))) (eC (.str "done")))) [.wd a t, .v (deedD x z y), sv]) (fun o => o = .rt (.bl (decide (y ≠ "done"))) [.wd a t, .v (deedD x z y), sv]) := by
    unfold deedD
    walk_at "ev"
    rw [ge_neStr sy ok_done_s]
    simp
  obtain ⟨o, e, rfl⟩ := h
  exact e
theorem do_end (sy : PyData.strOk y = true) : (sRet (eOp dEq (eOp dIx (eVar 1) (eC (.int 2))) (eC (.str "done")))) [.wd a t, .v (deedD x z y), sv] = some (.rt (.bl (decide (y = "done"))) [.wd a t, .v (deedD x z y), sv]) := by
  have h : Gv ((sRet (eOp dEq (eOp dIx (eVar 1) (eC (.int 2))) (eC (.str "done")))) [.wd a t, .v (deedD x z y), sv]) (fun o => o = .rt (.bl (decide (y = "done"))) [.wd a t, .v (deedD x z y), sv]) := by
    unfold deedD
    walk_at "ev"
    rw [ge_eqStr sy ok_done_s]
  obtain ⟨o, e, rfl⟩ := h
  exact e
theorem do_reads {N : List Str} (hN : N.length = 3) {vs : List V} {H : Hp} {Q : VK} {E : XK} {S cP cM : Addr} {f1 f2 f3 f4 f5 f6 : Bool} (xP : PySem.W.exmOne W.K (.ref cP) (.ref S) = some true) (xM : PySem.W.exmOne W.K (.ref cM) (.ref S) = some true) (h : spM W fDo vs H Q E) :
    tSeq (tS W false (sSet 2 (eOp dIx (eVar 1) (eC (.int 1))))) (tSeq (fun D' σ H => (tIfS (tXt W (bVal (eOp dEq (eOp dIx (eVar 1) (eC (.int 0))) (eC (.str "put")))))
      (tDrop (tMethE W.w "put" (spM W (fPut cP)) (WE (wOnly W.K (.ref S) (fun _ _ _ => tS W false (sRet (eOp dNe (eOp dIx (eVar 1) (eC (.int 2))) (eC (.str "done"))))) (fun _ _ _ _ => False) D')) (tVar 0) (tCons (tX W f1 (eOp dIx (eVar 2) (eC (.int 0)))) (tCons (tX W f2 (eOp dIx (eVar 2) (eC (.int 1)))) (tCons (tX W f3 (eOp dIx (eVar 2) (eC (.int 2)))) tNil)))))
      (tDrop (tMethE W.w "take" (spM W (fTake cM)) (WE (wOnly W.K (.ref S) (fun _ _ _ => tS W false (sRet (eOp dNe (eOp dIx (eVar 1) (eC (.int 2))) (eC (.str "done"))))) (fun _ _ _ _ => False) D')) (tVar 0) (tCons (tX W f4 (eOp dIx (eVar 2) (eC (.int 0)))) (tCons (tX W f5 (eOp dIx (eVar 2) (eC (.int 1)))) (tCons (tX W f6 (eOp dIx (eVar 2) (eC (.int 2)))) tNil)))))) D' σ H)
      (tS W false (sRet (eOp dEq (eOp dIx (eVar 1) (eC (.int 2))) (eC (.str "done")))))) { nx := fun _ H' => Q .non H', rt := Q } (L2.start N vs) H := by
  obtain ⟨l, dx, v, t, vs0, ds, r, rfl, hl, ht, hds, hf, k⟩ := h
  obtain ⟨x, z, y, rfl, hk, hz, sx, sy, rfl⟩ := fDo_inv hf
  have e1 : (sSet 2 (eOp dIx (eVar 1) (eC (.int 1)))) (.wd (some l) t :: frm (N.length - 1) [deedD x z y]) = some (.nx [.wd (some l) t, .v (deedD x z y), .v (sd z)]) := by
    rw [hN]; exact do_s1
  have a0 : ∀ u : SV, (eOp dIx (eVar 2) (eC (.int 0))) (full [u, .v (deedD x z y), .v (sd z)]) = some (.int z.1) := fun u => rfl
  have a1 : ∀ u : SV, (eOp dIx (eVar 2) (eC (.int 1))) (full [u, .v (deedD x z y), .v (sd z)]) = some (.int z.2.1) := fun u => rfl
  have a2 : ∀ u : SV, (eOp dIx (eVar 2) (eC (.int 2))) (full [u, .v (deedD x z y), .v (sd z)]) = some (.int z.2.2) := fun u => rfl
  refine ⟨_, _, _, _, rs_startW hl ht hds (by rw [hN]; exact (show 1 + 1 ≤ 3 from by decide)), e1, fun σ' H' Hd' r => ?_⟩
  refine ⟨_, decide (x = "put"), r.re, do_t sx, fun H2 s2 => ?_⟩
  have g := r.grow s2
  have hdone : ∀ t2 b, didT x z y t = (t2, b) → b = decide (y = "done") → ∀ H3 Hd3, RS W (less H l) Hd3 H3 [.wd (some l) t2, .v (deedD x z y), .v (sd z)] σ' → tS W false (sRet (eOp dEq (eOp dIx (eVar 1) (eC (.int 2))) (eC (.str "done")))) { nx := fun _ H' => Q .non H', rt := Q } σ' H3 := fun t2 b e eb H3 Hd3 r3 => by
    refine ⟨_, _, _, _, r3, do_end sy, ?_⟩
    rw [e] at k
    subst eb
    exact rt_end rfl rfl k
  have herr : ∀ b, didT x z y t = (t, b) → b = decide (y ≠ "done") → ∀ (D' : Ends), D'.rt = Q → ∀ H3 Hd3, RS W (less H l) Hd3 H3 [.wd (some l) t, .v (deedD x z y), .v (sd z)] σ' → tS W false (sRet (eOp dNe (eOp dIx (eVar 1) (eC (.int 2))) (eC (.str "done")))) D' σ' H3 := fun b e eb D' hD H3 Hd3 r3 => by
    refine ⟨_, _, _, _, r3, do_err sy, ?_⟩
    rw [e] at k
    subst eb
    subst hD
    exact rt_end rfl rfl k
  by_cases hx : x = "put"
  · refine w_iteT (decide_eq_true hx) ?_
    by_cases hm : z ∈ toL t
    · have hd : didT x z y t = (t, decide (y ≠ "done")) := by unfold didT; rw [if_pos hx, if_pos hm]
      have hg : fPut cP t [.int z.1, .int z.2.1, .int z.2.2] = some (.error cP) := by
        show (if Kept t ∧ Okay3 z then (if z ∈ toL t then _ else _) else none) = _
        rw [if_pos ⟨hk, hz⟩, if_pos hm]
      refine call_reads (by decide) g rfl (a0 _) (a1 _) (a2 _) hg (fun t' d e => nomatch e) (fun C e => ?_)
      cases e
      exact ⟨xP, fun H3 Hd3 q dd r3 => herr _ hd rfl _ rfl H3 Hd3 r3⟩
    · have hd : didT x z y t = (insT z t, decide (y = "done")) := by unfold didT; rw [if_pos hx, if_neg hm]
      have hg : fPut cP t [.int z.1, .int z.2.1, .int z.2.2] = some (.ok (insT z t, .non)) := by
        show (if Kept t ∧ Okay3 z then (if z ∈ toL t then _ else _) else none) = _
        rw [if_pos ⟨hk, hz⟩, if_neg hm]
      refine call_reads (by decide) g rfl (a0 _) (a1 _) (a2 _) hg (fun t' d e H3 Hd3 r3 => ?_) (fun C e => nomatch e)
      cases e
      exact hdone _ _ hd rfl H3 Hd3 r3
  · refine w_iteF (decide_eq_false hx) ?_
    by_cases hm : z ∈ toL t
    · have hd : didT x z y t = (delT z t, decide (y = "done")) := by unfold didT; rw [if_neg hx, if_pos hm]
      have hg : fTake cM t [.int z.1, .int z.2.1, .int z.2.2] = some (.ok (delT z t, .non)) := by
        show (if Kept t ∧ Okay3 z then (if z ∈ toL t then _ else _) else none) = _
        rw [if_pos ⟨hk, hz⟩, if_pos hm]
      refine call_reads (by decide) g rfl (a0 _) (a1 _) (a2 _) hg (fun t' d e H3 Hd3 r3 => ?_) (fun C e => nomatch e)
      cases e
      exact hdone _ _ hd rfl H3 Hd3 r3
    · have hd : didT x z y t = (t, decide (y ≠ "done")) := by unfold didT; rw [if_neg hx, if_neg hm]
      have hg : fTake cM t [.int z.1, .int z.2.1, .int z.2.2] = some (.error cM) := by
        show (if Kept t ∧ Okay3 z then (if z ∈ toL t then _ else _) else none) = _
        rw [if_pos ⟨hk, hz⟩, if_neg hm]
      refine call_reads (by decide) g rfl (a0 _) (a1 _) (a2 _) hg (fun t' d e => nomatch e) (fun C e => ?_)
      cases e
      exact ⟨xM, fun H3 Hd3 q dd r3 => herr _ hd rfl _ rfl H3 Hd3 r3⟩
end
end
end Sp

set_option Elab.async false
set_option linter.all false
set_option maxRecDepth 100000
namespace Sp
open PySem L2
open Classical
noncomputable section
def b_Wood_looked : SM := (sSeq (sDrop (eCall m_check_ends (eCons (eVar 1) (eCons (eVar 2) eNil))))
    (sRet (eCall fLen (eCons (eCall m_looked_boxes (eCons (eUn dTop (eVar 0)) (eCons (eVar 1) (eCons (eVar 2) eNil)))) eNil))))
def m_Wood_looked : List D → Option D := mDef 3 3 b_Wood_looked
def b_law_run : SM := (sSeq (sSet 1 (eOp dSub (eOp dMod (eVar 0) (eC (.int 41))) (eC (.int 20))))
    (sSeq (sSet 2 (eOp dMod (eOp dFdiv (eVar 0) (eC (.int 41))) (eC (.int 4))))
    (sSeq (sSet 3 (eOp dAdd (eC (.int 1)) (eOp dMod (eOp dFdiv (eVar 0) (eC (.int 164))) (eC (.int 3)))))
    (sSeq (sSet 4 (eOp dAdd (eC (.int 1)) (eOp dMod (eOp dFdiv (eVar 0) (eC (.int 492))) (eC (.int 3)))))
    (sRet (eLcR rng1 5 (eCons (eOp dAdd (eOp dMod (eOp dFdiv (eVar 0) (eC (.int 1476))) (eC (.int 16))) (eC (.int 4))) eNil) bYes (eTup (eCons (eOp dAdd (eVar 1) (eOp dMul (eVar 2) (eVar 5))) (eCons (eOp dAdd (eOp dAdd (eVar 1) (eOp dMul (eVar 2) (eVar 5))) (eOp dMod (eVar 5) (eVar 3))) (eCons (eOp dFdiv (eVar 5) (eVar 4)) eNil))))))))))
def m_law_run : List D → Option D := mDef 1 6 b_law_run
def b_law_near : SM := (sSeq (sSet 2 (eOp dIx (eVar 1) (eOp dMod (eOp dFdiv (eVar 0) (eC (.int 3))) (eCall fLen (eCons (eVar 1) eNil)))))
    (sSeq (sIf (bVal (eOp dGt (eOp dIx (eVar 2) (eC (.int 2))) (eC (.int 0))))
      (sRet (eTup (eCons (eOp dIx (eVar 2) (eC (.int 0))) (eCons (eOp dIx (eVar 2) (eC (.int 1))) (eCons (eOp dSub (eOp dIx (eVar 2) (eC (.int 2))) (eC (.int 1))) eNil)))))
      sNext)
    (sRet (eTup (eCons (eOp dIx (eVar 2) (eC (.int 0))) (eCons (eOp dIx (eVar 2) (eC (.int 1))) (eCons (eOp dAdd (eOp dIx (eVar 2) (eC (.int 2))) (eC (.int 1))) eNil)))))))
def m_law_near : List D → Option D := mDef 2 3 b_law_near
def b_law_picked : SM := (sSeq (sIf (bAnd (bVal (eOp dEq (eOp dMod (eVar 0) (eC (.int 8))) (eC (.int 7)))) (bVal (eOp dLt (eCall fLen (eCons (eVar 2) eNil)) (eC (.int 40)))))
      (sRet (eCall m_law_run (eCons (eVar 1) eNil)))
      sNext)
    (sSeq (sIf (bAnd (bVal (eOp dGt (eCall fLen (eCons (eVar 2) eNil)) (eC (.int 0)))) (bAnd (bVal (eOp dInT (eOp dMod (eVar 0) (eC (.int 8))) (eTup (eCons (eC (.int 2)) (eCons (eC (.int 3)) eNil))))) (bVal (eOp dEq (eOp dMod (eOp dFdiv (eVar 1) (eC (.int 5))) (eC (.int 3))) (eC (.int 0))))))
      (sRet (eLst (eCons (eCall m_law_near (eCons (eVar 1) (eCons (eVar 2) eNil))) eNil)))
      sNext)
    (sSeq (sIf (bAnd (bVal (eOp dGt (eOp dMod (eVar 0) (eC (.int 8))) (eC (.int 3)))) (bVal (eOp dGt (eCall fLen (eCons (eVar 2) eNil)) (eC (.int 0)))))
      (sSeq (sIf (bVal (eOp dEq (eOp dMod (eVar 0) (eC (.int 8))) (eC (.int 6))))
        (sRet (eSl dSl (eSl3 (eVar 2) (oSome (eOp dMod (eVar 1) (eC (.int 2)))) oNone (oSome (eC (.int 2)))) oNone (oSome (eC (.int 20)))))
        sNext)
      (sRet (eLst (eCons (eOp dIx (eVar 2) (eOp dMod (eOp dFdiv (eVar 1) (eC (.int 3))) (eCall fLen (eCons (eVar 2) eNil)))) eNil))))
      sNext)
    (sRet (eLst (eCons (eCall m_law_made (eCons (eVar 1) eNil)) eNil))))))
def m_law_picked : List D → Option D := mDef 3 3 b_law_picked
def b_law_big : SM := (sSeq (sIf (bVal (eOp dNe (eOp dMod (eOp dFdiv (eVar 0) (eC (.int 16))) (eC (.int 16))) (eC (.int 5))))
      (sRet (eLst eNil))
      sNext)
    (sSeq (sSet 1 (eOp dAdd (eC (.int 1)) (eOp dMod (eOp dFdiv (eVar 0) (eC (.int 256))) (eC (.int 9)))))
    (sRet (eLcR rng1 2 (eCons (eOp dAdd (eC (.int 60)) (eOp dMod (eVar 0) (eC (.int 41)))) eNil) bYes (eTup (eCons (eOp dSub (eOp dMul (eC (.int 3)) (eVar 2)) (eC (.int 200))) (eCons (eOp dAdd (eOp dSub (eOp dMul (eC (.int 3)) (eVar 2)) (eC (.int 200))) (eOp dMod (eOp dMul (eVar 2) (eVar 2)) (eVar 1))) (eCons (eVar 2) eNil))))))))
def m_law_big : List D → Option D := mDef 1 3 b_law_big
def b_law_deeds : SM := (sSeq (sSetF 3 (eCall fListOf (eCons (eVar 2) eNil)))
    (sSeq (sOwn 5 (eLc 4 (eVar 2) bYes (eTup (eCons (eC (.str "put")) (eCons (eVar 4) (eCons (eC (.str "done")) eNil))))))
    (sSeq (sForR rng2 (.one 6) (eCons (eVar 1) (eCons (eCall fLen (eCons (eVar 0) eNil)) eNil))
      (sSeq (sForF (.one 4) (eCall m_law_picked (eCons (eOp dIx (eVar 0) (eVar 6)) (eCons (eOp dAdd (eOp dMul (eOp dIx (eVar 0) (eVar 6)) (eC (.int 48271))) (eOp dMul (eC (.int 29)) (eVar 6))) (eCons (eVar 3) eNil))))
        (sIf (bVal (eOp dInT (eOp dMod (eOp dIx (eVar 0) (eVar 6)) (eC (.int 8))) (eTup (eCons (eC (.int 3)) (eCons (eC (.int 5)) (eCons (eC (.int 6)) eNil))))))
          (sSeq (sApp 5 (eTup (eCons (eC (.str "take")) (eCons (eVar 4) (eCons (eIf (bVal (eOp dIn (eVar 4) (eVar 3))) (eC (.str "done")) (eC (.str "missing"))) eNil)))))
          (sSetF 3 (eLc 7 (eVar 3) (bVal (eOp dNe (eVar 7) (eVar 4))) (eVar 7))))
          (sSeq (sApp 5 (eTup (eCons (eC (.str "put")) (eCons (eVar 4) (eCons (eIf (bVal (eOp dIn (eVar 4) (eVar 3))) (eC (.str "twice")) (eC (.str "done"))) eNil)))))
          (sSetF 3 (eOp dCat (eVar 3) (eOp dRep (eLst (eCons (eVar 4) eNil)) (eCall fInt1 (eCons (eOp dNotIn (eVar 4) (eVar 3)) eNil))))))))
      (sIf (bVal (eOp dGt (eCall fLen (eCons (eVar 5) eNil)) (eOp dAdd (eC (.int 40)) (eCall fLen (eCons (eVar 2) eNil)))))
        sBrk
        sNext)))
    (sRet (eSl dSl (eVar 5) oNone (oSome (eOp dAdd (eC (.int 40)) (eCall fLen (eCons (eVar 2) eNil)))))))))
def m_law_deeds : List D → Option D := mDef 3 8 b_law_deeds
def b_law_behind : SM := (sSeq (sIf (bVal (eOp dNe (eOp dIx (eVar 1) (eC (.int 2))) (eC (.str "done"))))
      (sRet (eVar 0))
      sNext)
    (sSeq (sIf (bVal (eOp dEq (eOp dIx (eVar 1) (eC (.int 0))) (eC (.str "put"))))
      (sRet (eCall fSorted (eCons (eOp dCat (eVar 0) (eLst (eCons (eOp dIx (eVar 1) (eC (.int 1))) eNil))) eNil)))
      sNext)
    (sRet (eLc 2 (eVar 0) (bVal (eOp dNe (eVar 2) (eOp dIx (eVar 1) (eC (.int 1))))) (eVar 2)))))
def m_law_behind : List D → Option D := mDef 2 3 b_law_behind
def b_law_ask2 : SM := (sSeq (sSet 2 (eOp dSub (eOp dMod (eVar 0) (eC (.int 81))) (eC (.int 40))))
    (sSeq (sSet 3 (eOp dAdd (eVar 2) (eOp dMod (eOp dFdiv (eVar 0) (eC (.int 81))) (eC (.int 30)))))
    (sSeq (sSet 4 (eOp dMod (eOp dMul (eVar 0) (eC (.int 69621))) (eC (.int 1000003))))
    (sSeq (sIf (bAnd (bVal (eOp dGt (eCall fLen (eCons (eVar 1) eNil)) (eC (.int 0)))) (bVal (eOp dGt (eOp dMod (eOp dFdiv (eVar 0) (eC (.int 2430))) (eC (.int 4))) (eC (.int 0)))))
      (sSeq (sSet 5 (eOp dIx (eVar 1) (eOp dMod (eOp dFdiv (eVar 0) (eC (.int 9720))) (eCall fLen (eCons (eVar 1) eNil)))))
      (sSeq (sSet 2 (eOp dSub (eOp dAdd (eOp dIx (eVar 5) (eOp dMod (eVar 4) (eC (.int 2)))) (eOp dMod (eOp dFdiv (eVar 4) (eC (.int 2))) (eC (.int 5)))) (eC (.int 2))))
      (sSeq (sSet 3 (eOp dAdd (eVar 2) (eOp dMul (eOp dMod (eOp dFdiv (eVar 4) (eC (.int 10))) (eC (.int 20))) (eOp dMod (eOp dFdiv (eVar 4) (eC (.int 200))) (eC (.int 3))))))
      (sIf (bVal (eOp dEq (eOp dMod (eOp dFdiv (eVar 4) (eC (.int 19200))) (eC (.int 3))) (eC (.int 0))))
        (sSet 3 (eOp dSub (eOp dAdd (eOp dIx (eOp dIx (eVar 1) (eOp dMod (eOp dMod (eOp dMul (eVar 0) (eC (.int 16807))) (eC (.int 1000033))) (eCall fLen (eCons (eVar 1) eNil)))) (eC (.int 1))) (eOp dMod (eOp dFdiv (eVar 4) (eC (.int 7))) (eC (.int 5)))) (eC (.int 2))))
        sNext))))
      sNext)
    (sSeq (sIf (bVal (eOp dEq (eOp dMod (eOp dFdiv (eVar 4) (eC (.int 600))) (eC (.int 32))) (eC (.int 3))))
      (sSet 2 (eOp dSub (eC (.int 1)) (eC (.int 1000000000000000000000000000000000000000000000000000000000000))))
      sNext)
    (sSeq (sIf (bVal (eOp dGt (eOp dMod (eOp dFdiv (eVar 4) (eC (.int 600))) (eC (.int 32))) (eC (.int 29))))
      (sSet 3 (eOp dSub (eC (.int 1000000000000000000000000000000000000000000000000000000000000)) (eC (.int 1))))
      sNext)
    (sSeq (sSet 2 (eCall fMax2 (eCons (eOp dSub (eC (.int 1)) (eC (.int 1000000000000000000000000000000000000000000000000000000000000))) (eCons (eCall fMin2 (eCons (eVar 2) (eCons (eOp dSub (eC (.int 1000000000000000000000000000000000000000000000000000000000000)) (eC (.int 1))) eNil))) eNil))))
    (sRet (eTup (eCons (eVar 2) (eCons (eCall fMax2 (eCons (eVar 2) (eCons (eCall fMin2 (eCons (eVar 3) (eCons (eOp dSub (eC (.int 1000000000000000000000000000000000000000000000000000000000000)) (eC (.int 1))) eNil))) eNil))) eNil)))))))))))
def m_law_ask2 : List D → Option D := mDef 2 6 b_law_ask2
def b_law_spot : SM := (sSeq (sForR rng2 (.one 4) (eCons (eVar 1) (eCons (eVar 2) eNil))
      (sIf (bVal (eOp dEq (eOp dIx (eOp dIx (eVar 0) (eVar 4)) (eC (.int 1))) (eVar 3)))
        (sRet (eVar 4))
        sNext))
    (sRet (eOp dSub (eC (.int 0)) (eC (.int 1)))))
def m_law_spot : List D → Option D := mDef 4 5 b_law_spot
def b_law_looked : SM := (sSeq (sOwn 2 (eLst (eCons (eTup (eCons (eC (.int 0)) (eCons (eCall fLen (eCons (eVar 0) eNil)) (eCons (eC (.int 0)) eNil)))) eNil)))
    (sSeq (sSet 3 (eC (.int 0)))
    (sSeq (sForR rng1 (.one 4) (eCons (eOp dAdd (eOp dMul (eC (.int 2)) (eCall fLen (eCons (eVar 0) eNil))) (eC (.int 1))) eNil)
      (sSeq (sIf (bVal (eOp dGe (eVar 4) (eCall fLen (eCons (eVar 2) eNil))))
        (sRet (eVar 3))
        sNext)
      (sSeq (sUnp [5, 6, 7] (eOp dIx (eVar 2) (eVar 4)))
      (sSeq (sSet 8 (eCall m_law_spot (eCons (eVar 0) (eCons (eVar 5) (eCons (eVar 6) (eCons (eVar 7) eNil))))))
      (sIf (bAnd (bVal (eOp dGe (eVar 8) (eC (.int 0)))) (bVal (eOp dGe (eOp dIx (eOp dIx (eVar 0) (eVar 8)) (eC (.int 3))) (eOp dIx (eVar 1) (eC (.int 0))))))
        (sSeq (sSet 3 (eOp dAdd (eVar 3) (eC (.int 1))))
        (sSeq (sApp 2 (eTup (eCons (eVar 5) (eCons (eVar 8) (eCons (eOp dAdd (eVar 7) (eC (.int 1))) eNil)))))
        (sIf (bVal (eOp dLe (eOp dIx (eOp dIx (eOp dIx (eVar 0) (eVar 8)) (eC (.int 0))) (eC (.int 0))) (eOp dIx (eVar 1) (eC (.int 1)))))
          (sApp 2 (eTup (eCons (eOp dAdd (eVar 8) (eC (.int 1))) (eCons (eVar 6) (eCons (eOp dAdd (eVar 7) (eC (.int 1))) eNil)))))
          sNext)))
        sNext)))))
    (sRet (eVar 3)))))
def m_law_looked : List D → Option D := mDef 2 9 b_law_looked
def b_law_least : SM := (sSeq (sSet 1 (eC (.int 0)))
    (sSeq (sSet 2 (eC (.int 0)))
    (sSeq (sForR rng1 (.one 3) (eCons (eVar 0) eNil)
      (sPar 2 1 (eCons (eOp dAdd (eOp dAdd (eC (.int 1)) (eVar 2)) (eVar 1)) (eCons (eVar 2) eNil))))
    (sRet (eVar 2)))))
def m_law_least : List D → Option D := mDef 1 4 b_law_least
def b_law_quick : SM := (sSeq (sSet 3 (eMeth m_Wood_boxes (eVar 0) eNil))
    (sSeq (sSet 4 (eMeth m_Wood_height (eVar 0) eNil))
    (sSeq (sIf (bOr (bNot (bVal (eCall m_law_is_int (eCons (eVar 4) eNil)))) (bOr (bVal (eOp dGt (eVar 4) (eCall fLen (eCons (eVar 1) eNil)))) (bOr (bVal (eOp dNe (eCall fLen (eCons (eVar 3) eNil)) (eCall fLen (eCons (eVar 1) eNil)))) (bVal (eOp dGt (eCall m_law_least (eCons (eVar 4) eNil)) (eCall fLen (eCons (eVar 1) eNil)))))))
      (sRet (eC (.bl false)))
      sNext)
    (sSeq (sForR rng1 (.one 5) (eCons (eC (.int 4)) eNil)
      (sSeq (sSet 6 (eCall m_law_ask2 (eCons (eOp dAdd (eVar 2) (eOp dMul (eC (.int 48271)) (eVar 5))) (eCons (eVar 1) eNil))))
      (sSeq (sIf (bVal (eOp dLt (eVar 5) (eC (.int 2))))
        (sSet 6 (eCall m_law_ask2 (eCons (eOp dAdd (eVar 2) (eOp dMul (eC (.int 48271)) (eVar 5))) (eCons (eLst eNil) eNil))))
        sNext)
      (sSeq (sSet 7 (eMeth m_Wood_looked (eVar 0) (eCons (eOp dIx (eVar 6) (eC (.int 0))) (eCons (eOp dIx (eVar 6) (eC (.int 1))) eNil))))
      (sSeq (sSet 8 (eCall fLen (eCons (eLc 9 (eVar 1) (bAnd (bVal (eOp dLe (eOp dIx (eVar 9) (eC (.int 0))) (eOp dIx (eVar 6) (eC (.int 1))))) (bVal (eOp dLe (eOp dIx (eVar 6) (eC (.int 0))) (eOp dIx (eVar 9) (eC (.int 1)))))) (eVar 9)) eNil)))
      (sIf (bOr (bNot (bVal (eCall m_law_is_int (eCons (eVar 7) eNil)))) (bOr (bVal (eOp dNe (eVar 7) (eCall m_law_looked (eCons (eVar 3) (eCons (eVar 6) eNil))))) (bVal (eOp dGt (eVar 7) (eOp dMul (eOp dAdd (eVar 8) (eC (.int 1))) (eVar 4))))))
        (sRet (eC (.bl false)))
        sNext))))))
    (sRet (eC (.bl true)))))))
def m_law_quick : List D → Option D := mDef 3 10 b_law_quick
def b_law_k09 : SM := (sSeq (sNewW 1)
    (sSeq (sSetW 2 (eLst eNil))
    (sSeq (sSetW 3 (eCall m_law_deeds (eCons (eVar 0) (eCons (eC (.int 1)) (eCons (eCall m_law_big (eCons (eCall m_law_at (eCons (eVar 0) (eCons (eC (.int 0)) eNil))) eNil)) eNil)))))
    (sSeq (sSet 4 (eOp dAdd (eOp dMul (eCall m_law_at (eCons (eVar 0) (eCons (eC (.int 0)) eNil))) (eC (.int 48271))) (eC (.int 3))))
    (sSeq (sForR rng1 (.one 5) (eCons (eCall fLen (eCons (eVar 3) eNil)) eNil)
      (sSeq (sIf (bAnd (bVal (eOp dEq (eVar 5) (eOp dFdiv (eCall fLen (eCons (eVar 3) eNil)) (eC (.int 2))))) (bNot (bVal (eCall m_law_quick (eCons (eVar 1) (eCons (eVar 2) (eCons (eVar 4) eNil)))))))
        (sRet (eC (.bl false)))
        sNext)
      (sSeq (sSet 6 (eOp dIx (eVar 3) (eVar 5)))
      (sSeq (sIfDo 1 fDo (eVar 6)
        (sRet (eC (.bl false)))
        sNext)
      (sSetW 2 (eCall m_law_behind (eCons (eVar 2) (eCons (eVar 6) eNil))))))))
    (sRet (eCall m_law_quick (eCons (eVar 1) (eCons (eVar 2) (eCons (eVar 4) eNil))))))))))
def m_law_k09 : List D → Option D := mDef 1 7 b_law_k09
end
end Sp

set_option Elab.async false
set_option linter.all false
set_option maxRecDepth 100000
set_option maxHeartbeats 2000000
namespace Sp
open PySem L2
open Classical
noncomputable section
local macro_rules | `(tactic| walk_at "ev") => `(tactic| try simp only [gv_next, gv_brk, gv_cnt, gv_retN, gv_seq, nx_nx, nx_rt, nx_bk, nx_ct, gv_set, gv_setF, gv_own, gv_ret, gv_drop, gv_retO, gv_if, gv_app, gv_unp, gv_pop, gv_put, gv_par, gv_forF, gv_forN, gv_forT, gv_forR,
  ge_var, ge_c, ge_op, ge_un, gl_nil, gl_cons, ge_call, ge_meth, ge_tup, ge_lst, ge_ii, ge_sl, go_none, go_int, gb_val, gb_truth, gb_and, gb_or, gb_not, gb_yes, ge_and, ge_or, ge_if, ge_chain, ge_some, gb_some, gl_some, go_some, ge_guard, ge_lc, ge_lcT, ge_lcR, ge_eqI, ge_neI, ge_eqB, ge_neB,
  frm, full, SV.full, gt, sgt, setAll, Tg.put, List.map, List.replicate, List.set, List.length_cons, List.length_nil, List.length_append, List.length_map, List.append_nil, List.nil_append, List.cons_append, Nat.sub_self, Nat.reduceAdd, Nat.reduceSub, Nat.zero_add, Nat.add_zero,
  noOwn, List.all_cons, List.all_nil, SV.free, D.imm, D.imms, imm_sd, imms_sd, imm_tupI, Bool.and_true, Bool.true_and, Bool.and_self, Bool.false_and, Bool.and_false, true_or, or_true, or_self, false_or, or_false, true_and, and_true, if_true, if_false, Bool.false_eq_true,
  D.int.injEq, D.bl.injEq, D.lst.injEq, D.tup.injEq, D.str.injEq, D.box.injEq, D.wood.injEq, SV.v.injEq, SV.own.injEq, Option.some.injEq, exists_eq_left', exists_eq_left, exists_and_left, reduceCtorEq, false_and, and_false, exists_false,
  fLen_lst, fLen_tup, fLen_scr, fLen_sd, fMax2_ii, fMin2_ii, fInt1_i, fInt1_b, fListOf_lst, fSorted_sd, fSum_i, dIx_sd0, dIx_sd1, dIx_sd2, dIx_lst, dIx_tup, dIx_scr, atI_0, atI_1, atI_2, atI_3, dSl_lst, dSl_scr, dCat_ll, dRep_l, dNot_b, dNeg_i, dNotBl_b, dNotBl_i, dNotBl_n, dNotBl_s, dNotBl_t, dNotBl_l, dIsN_non, dIsN_int, dIsN_lst, dNotN_non, dNotN_lst, dIsN_nil, dIsN_node, dNotN_nil, dNotN_node, isi_int_non, isi_int_bl, isi_int_int, isi_int_str, isi_int_tup, isi_int_lst, isi_int_sd, isi_bool_non, isi_bool_bl, isi_bool_int, isi_bool_str, isi_bool_tup, isi_bool_lst, isi_bool_sd, isi_tuple_non, isi_tuple_bl, isi_tuple_int, isi_tuple_str, isi_tuple_tup, isi_tuple_lst, isi_tuple_sd, isi_list_non, isi_list_bl, isi_list_int, isi_list_str, isi_list_tup, isi_list_lst, isi_list_sd, tyi_non, tyi_bl, tyi_int, tyi_str, tyi_tup, tyi_lst, ge_eqT, ge_neT, ge_eqS, ge_neS, ge_inS, ge_ninS, ge_eqLS, ge_neLS, Option.map_some, Bool.not_true, Bool.not_false, Bool.not_not, decide_eq_true_eq, decide_eq_false_iff_not, Bool.not_eq_true', Bool.not_eq_false', Bool.not_eq_true, decide_true, decide_false,
  Int.reduceLT, Nat.reduceLT, Int.reduceLE, Nat.reduceLeDiff, sizeLine_eq, and_self, ite_self, not_false_eq_true, not_true_eq_false, implies_true, imp_self, forall_const, true_implies])
local macro_rules | `(tactic| walk_at "st") => `(tactic| try simp only [gv_next, gv_brk, gv_cnt, gv_retN, gv_seq, nx_nx, nx_rt, nx_bk, nx_ct, gv_set, gv_setF, gv_own, gv_ret, gv_drop, gv_retO, gv_app, gv_unp, gv_pop, gv_put, gv_par, gv_forF, gv_forN, gv_forT, gv_forR,
  ge_var, ge_c, ge_op, ge_un, gl_nil, gl_cons, ge_call, ge_meth, ge_tup, ge_lst, ge_ii, ge_sl, go_none, go_int, gb_val, gb_truth, gb_and, gb_or, gb_not, gb_yes, ge_and, ge_or, ge_if, ge_chain, ge_some, gb_some, gl_some, go_some, ge_guard, ge_lc, ge_lcT, ge_lcR, ge_eqI, ge_neI, ge_eqB, ge_neB,
  frm, full, SV.full, gt, sgt, setAll, Tg.put, List.map, List.replicate, List.set, List.length_cons, List.length_nil, List.length_append, List.length_map, List.append_nil, List.nil_append, List.cons_append, Nat.sub_self, Nat.reduceAdd, Nat.reduceSub, Nat.zero_add, Nat.add_zero,
  noOwn, List.all_cons, List.all_nil, SV.free, D.imm, D.imms, imm_sd, imms_sd, imm_tupI, Bool.and_true, Bool.true_and, Bool.and_self, Bool.false_and, Bool.and_false, true_or, or_true, or_self, false_or, or_false, true_and, and_true, if_true, if_false, Bool.false_eq_true,
  D.int.injEq, D.bl.injEq, D.lst.injEq, D.tup.injEq, D.str.injEq, D.box.injEq, D.wood.injEq, SV.v.injEq, SV.own.injEq, Option.some.injEq, exists_eq_left', exists_eq_left, exists_and_left, reduceCtorEq, false_and, and_false, exists_false,
  fLen_lst, fLen_tup, fLen_scr, fLen_sd, fMax2_ii, fMin2_ii, fInt1_i, fInt1_b, fListOf_lst, fSorted_sd, fSum_i, dIx_sd0, dIx_sd1, dIx_sd2, dIx_lst, dIx_tup, dIx_scr, atI_0, atI_1, atI_2, atI_3, dSl_lst, dSl_scr, dCat_ll, dRep_l, dNot_b, dNeg_i, dNotBl_b, dNotBl_i, dNotBl_n, dNotBl_s, dNotBl_t, dNotBl_l, dIsN_non, dIsN_int, dIsN_lst, dNotN_non, dNotN_lst, dIsN_nil, dIsN_node, dNotN_nil, dNotN_node, isi_int_non, isi_int_bl, isi_int_int, isi_int_str, isi_int_tup, isi_int_lst, isi_int_sd, isi_bool_non, isi_bool_bl, isi_bool_int, isi_bool_str, isi_bool_tup, isi_bool_lst, isi_bool_sd, isi_tuple_non, isi_tuple_bl, isi_tuple_int, isi_tuple_str, isi_tuple_tup, isi_tuple_lst, isi_tuple_sd, isi_list_non, isi_list_bl, isi_list_int, isi_list_str, isi_list_tup, isi_list_lst, isi_list_sd, tyi_non, tyi_bl, tyi_int, tyi_str, tyi_tup, tyi_lst, ge_eqT, ge_neT, ge_eqS, ge_neS, ge_inS, ge_ninS, ge_eqLS, ge_neLS, Option.map_some, Bool.not_true, Bool.not_false, Bool.not_not, decide_eq_true_eq, decide_eq_false_iff_not, Bool.not_eq_true', Bool.not_eq_false', Bool.not_eq_true, decide_true, decide_false,
  Int.reduceLT, Nat.reduceLT, Int.reduceLE, Nat.reduceLeDiff, sizeLine_eq, and_self, ite_self, not_false_eq_true, not_true_eq_false, implies_true, imp_self, forall_const, true_implies])

/-! ### the deeds' stretches -/
def runS (s : Int) (k : Nat) : S3 := (s % 41 - 20 + s / 41 % 4 * k, s % 41 - 20 + s / 41 % 4 * k + (k : Int) % (1 + s / 164 % 3), (k : Int) / (1 + s / 492 % 3))
def runL (s : Int) : List S3 := (List.range (s / 1476 % 16 + 4).toNat).map (runS s)
theorem runS_ok {s : Int} {k : Nat} (hk : k < 20) : Okay3 (runS s k) := by
  have e1 : 0 ≤ s / 41 % 4 * (k : Int) := Int.mul_nonneg (by omega) (by omega)
  have e3 : s / 41 % 4 * (k : Int) ≤ 3 * 20 := Int.mul_le_mul (by omega) (by omega) (by omega) (by omega)
  have e4 : 0 ≤ s % 41 ∧ s % 41 < 41 := ⟨by omega, by omega⟩
  have e5 : 0 < 1 + s / 164 % 3 := by omega
  have e6 := Int.emod_nonneg (k : Int) (show (1 + s / 164 % 3) ≠ 0 by omega)
  have e7 := Int.emod_lt_of_pos (k : Int) e5
  have e8 : 1 + s / 164 % 3 ≤ 3 := by omega
  have e9 : 0 ≤ (k : Int) / (1 + s / 492 % 3) := Int.ediv_nonneg (by omega) (by omega)
  have e10 : (k : Int) / (1 + s / 492 % 3) ≤ (k : Int) := Int.ediv_le_self _ (by omega)
  unfold runS
  generalize s / 41 % 4 * (k : Int) = a at *
  generalize (k : Int) % (1 + s / 164 % 3) = b at *
  generalize (k : Int) / (1 + s / 492 % 3) = g at *
  generalize s % 41 = c at *
  generalize 1 + s / 164 % 3 = d at *
  unfold Okay3 Num B60
  simp only
  refine ⟨⟨?_, ?_⟩, ⟨?_, ?_⟩, ⟨?_, ?_⟩, ?_⟩ <;> omega
theorem runL_ok {s : Int} : ∀ z ∈ runL s, Okay3 z := by
  intro z hz
  obtain ⟨k, hk, rfl⟩ := List.mem_map.mp hz
  exact runS_ok (by have := List.mem_range.mp hk; omega)
theorem runL_len (s : Int) : (runL s).length ≤ 19 := by
  unfold runL
  rw [List.length_map, List.length_range]
  omega
theorem p_run {s : Int} : m_law_run [.int s] = some (.lst ((runL s).map sd)) := by
  refine def_gv rfl ?_
  unfold b_law_run
  walk_at "st"
  refine ⟨_, rng1_int (by omega) (by omega), by rw [List.length_map, List.length_range]; omega, ?_⟩
  rw [map_dint]
  refine gl_lc (fun k : Nat => D.int k) (fun k => sd (runS s k)) (fun _ => true) (fun k hk => ?_) ?_
  · have hk' := List.mem_range.mp hk
    walk_at "ev"
    have hm : MulOk (s / 41 % 4) k := mul64 (by omega) (by omega)
    exact ⟨hm, hm, by omega, ⟨by omega, by omega⟩, rfl⟩
  rw [filter_true]
  unfold runL
  rw [List.map_map]
  rfl
theorem p_near {s : Int} {zs : List S3} (h0 : 0 < zs.length) (hz : zs.length ≤ 1000) (ok : ∀ z ∈ zs, Okay3 z) : Ge (m_law_near [.int s, .lst (zs.map sd)]) fun d => ∃ z, d = sd z ∧ Okay3 z := by
  refine def_ge rfl ?_
  unfold b_law_near
  walk_at "ev"
  refine ⟨by omega, ?_⟩
  have m0 := Int.emod_nonneg (s / 3) (show (zs.length : Int) ≠ 0 by omega)
  have m1 := Int.emod_lt_of_pos (s / 3) (show (0 : Int) < zs.length by omega)
  rw [at_sd m0 m1]
  have hk := ok _ (List.getElem_mem (show (s / 3 % (zs.length : Int)).toNat < zs.length by omega))
  generalize zs[(s / 3 % (zs.length : Int)).toNat]'(by omega) = z at hk
  walk_at "ev"
  obtain ⟨k1, k2, k3, k4⟩ := hk
  unfold Num B60 at k3
  by_cases c : 0 < z.2.2
  · rw [if_pos c]
    refine ⟨(z.1, z.2.1, z.2.2 - 1), rfl, k1, k2, ?_, k4⟩
    unfold Num B60
    simp only
    constructor <;> omega
  · rw [if_neg c]
    refine ⟨(z.1, z.2.1, z.2.2 + 1), rfl, k1, k2, ?_, k4⟩
    unfold Num B60
    simp only
    constructor <;> omega
theorem p_behind {zs : List S3} {x y : Str} {z : S3} (hz : zs.length ≤ 1000) (sx : PyData.strOk x = true) (sy : PyData.strOk y = true) :
    m_law_behind [.lst (zs.map sd), deedD x z y] = some (.lst ((if y ≠ "done" then zs else if x = "put" then sort3 (zs ++ [z]) else zs.filter (fun w => decide (w ≠ z))).map sd)) := by
  refine def_gv rfl ?_
  unfold b_law_behind deedD
  walk_at "ev"
  rw [ge_neStr sy ok_done_s]
  walk_at "ev"
  by_cases c1 : y = "done"
  · rw [if_neg (fun h => h c1), if_neg (fun h => h c1), ge_eqStr sx ok_put_s]
    walk_at "ev"
    by_cases c2 : x = "put"
    · rw [if_pos c2, if_pos c2]
      refine ⟨by omega, ?_⟩
      have e : zs.map sd ++ [sd z] = (zs ++ [z]).map sd := by rw [List.map_append]; rfl
      rw [e, fSorted_sd]
      walk_at "ev"
    · rw [if_neg c2, if_neg c2]
      refine ⟨by omega, gl_lcS (fun w => decide (w ≠ z)) (by simp) (fun w hw => ?_) rfl⟩
      walk_at "ev"
      by_cases e : w = z <;> simp [e]
  · rw [if_pos c1, if_pos c1]
def bigS (c : Int) (k : Nat) : S3 := (3 * (k : Int) - 200, 3 * (k : Int) - 200 + (k : Int) * k % (1 + c / 256 % 9), k)
def bigL (c : Int) : List S3 := if c / 16 % 16 = 5 then (List.range (60 + c % 41).toNat).map (bigS c) else []
theorem bigS_ok {c : Int} {k : Nat} (hk : k < 101) : Okay3 (bigS c k) := by
  have e5 : 0 < 1 + c / 256 % 9 := by omega
  have e6 := Int.emod_nonneg ((k : Int) * k) (show (1 + c / 256 % 9) ≠ 0 by omega)
  have e7 := Int.emod_lt_of_pos ((k : Int) * k) e5
  have e8 : 1 + c / 256 % 9 ≤ 9 := by omega
  unfold bigS
  generalize (k : Int) * k % (1 + c / 256 % 9) = b at *
  generalize 1 + c / 256 % 9 = d at *
  unfold Okay3 Num B60
  simp only
  refine ⟨⟨?_, ?_⟩, ⟨?_, ?_⟩, ⟨?_, ?_⟩, ?_⟩ <;> omega
theorem bigL_ok {c : Int} : ∀ z ∈ bigL c, Okay3 z := by
  intro z hz
  unfold bigL at hz
  split at hz
  · obtain ⟨k, hk, rfl⟩ := List.mem_map.mp hz
    exact bigS_ok (by have := List.mem_range.mp hk; omega)
  · cases hz
theorem bigL_len (c : Int) : (bigL c).length ≤ 100 := by
  unfold bigL
  split
  · rw [List.length_map, List.length_range]; omega
  · simp
theorem bigL_nd (c : Int) : (bigL c).Nodup := by
  unfold bigL
  split
  · rw [List.nodup_iff_pairwise_ne, List.pairwise_map]
    refine List.Pairwise.imp (fun {a b} (h : a < b) e => ?_) List.pairwise_lt_range
    have := congrArg (fun z : S3 => z.2.2) e
    simp only [bigS] at this
    omega
  · exact List.nodup_nil
theorem p_big {c : Int} (hb : BW 2000000 c) : m_law_big [.int c] = some (.lst ((bigL c).map sd)) := by
  refine def_gv rfl ?_
  unfold b_law_big
  walk_at "ev"
  by_cases h : c / 16 % 16 = 5
  · rw [if_neg (fun z => z h)]
    refine ⟨_, rng1_int (by omega) (by omega), by rw [List.length_map, List.length_range]; omega, ?_⟩
    rw [map_dint]
    refine gl_lc (fun k : Nat => D.int k) (fun k => sd (bigS c k)) (fun _ => true) (fun k hk => ?_) ?_
    · have hk' := List.mem_range.mp hk
      walk_at "ev"
      have hm : MulOk (k : Int) k := mul64 (by omega) (by omega)
      have h3 : MulOk 3 (k : Int) := mul64 (by omega) (by omega)
      exact ⟨h3, h3, hm, by omega, rfl⟩
    rw [filter_true]
    unfold bigL
    rw [if_pos h, List.map_map]
    rfl
  · rw [if_pos h]
    unfold bigL
    rw [if_neg h]
    rfl
theorem pickD_sub {α : Type} {xs : List α} {lo hi : Option Int} {k : Int} : ∀ z ∈ pickD xs lo hi k, z ∈ xs := by
  intro z hz
  unfold pickD at hz
  obtain ⟨i, _, h⟩ := List.mem_filterMap.mp hz
  exact List.mem_of_getElem? h
theorem cutD_sub {α : Type} {xs : List α} {lo hi : Option Int} : ∀ z ∈ cutD xs lo hi, z ∈ xs := by
  intro z hz
  unfold cutD at hz
  exact List.mem_of_mem_drop (List.mem_of_mem_take hz)
theorem p_picked {c s : Int} {zs : List S3} (hb : BW 2000000 s) (hz : zs.length ≤ 1000) (ok : ∀ z ∈ zs, Okay3 z) : Ge (m_law_picked [.int c, .int s, .lst (zs.map sd)]) fun d => ∃ ws : List S3, d = .lst (ws.map sd) ∧ ws.length ≤ 20 ∧ ∀ w ∈ ws, Okay3 w := by
  refine def_ge rfl ?_
  unfold b_law_picked
  walk_at "ev"
  have one : ∀ z : S3, Okay3 z → ∃ ws : List S3, [sd z] = ws.map sd ∧ ws.length ≤ 20 ∧ ∀ w ∈ ws, Okay3 w := fun z hz => ⟨[z], rfl, by simp, fun w hw => by rw [List.mem_singleton] at hw; subst hw; exact hz⟩
  have L1 : Ge (m_law_run [D.int s]) fun d => ∃ ws : List S3, d = D.lst (List.map sd ws) ∧ ws.length ≤ 20 ∧ ∀ w ∈ ws, Okay3 w := by
    rw [p_run]
    exact ⟨_, rfl, runL s, rfl, Nat.le_succ_of_le (runL_len s), runL_ok⟩
  have L5 : Ge (m_law_made [D.int s]) fun x => ∃ ws : List S3, [x] = List.map sd ws ∧ ws.length ≤ 20 ∧ ∀ w ∈ ws, Okay3 w := by
    rw [ge_made hb]
    exact one _ (made_okay _)
  have L2 : 0 < zs.length → Ge (m_law_near [D.int s, D.lst (List.map sd zs)]) fun x => ∃ ws : List S3, [x] = List.map sd ws ∧ ws.length ≤ 20 ∧ ∀ w ∈ ws, Okay3 w := fun h0 => by
    obtain ⟨d, e, z, rfl, hz⟩ := p_near (s := s) h0 hz ok
    exact ⟨_, e, one z hz⟩
  have L4 : 0 < zs.length → 0 < (zs.length : Int) ∧ Ge (atI (List.map sd zs) (s / 3 % (zs.length : Int))) fun x => ∃ ws : List S3, [x] = List.map sd ws ∧ ws.length ≤ 20 ∧ ∀ w ∈ ws, Okay3 w := fun h0 => by
    refine ⟨by omega, ?_⟩
    have m0 := Int.emod_nonneg (s / 3) (show (zs.length : Int) ≠ 0 by omega)
    have m1 := Int.emod_lt_of_pos (s / 3) (show (0 : Int) < zs.length by omega)
    rw [at_sd m0 m1]
    exact ⟨_, rfl, one _ (ok _ (List.getElem_mem _))⟩
  have L3 : Ge (eSl3 (eVar 2) (oSome (eOp dMod (eVar 1) (eC (D.int 2)))) oNone (oSome (eC (D.int 2))) [some (D.int c), some (D.int s), some (D.lst (List.map sd zs))]) fun x => Ge (dSl x none (some 20)) fun d => ∃ ws : List S3, d = D.lst (List.map sd ws) ∧ ws.length ≤ 20 ∧ ∀ w ∈ ws, Okay3 w := by
    rw [ge_sl3]
    refine ⟨_, rfl, some (s % 2), ?_, none, rfl, some 2, rfl, ?_⟩
    · have hh : Ge (eOp dMod (eVar 1) (eC (D.int 2)) [some (D.int c), some (D.int s), some (D.lst (List.map sd zs))]) (fun d => d = .int (s % 2)) := by
        walk_at "ev"
      obtain ⟨d, e, rfl⟩ := hh
      unfold oSome
      rw [e]; rfl
    · have e : dSl3 (.lst (zs.map sd)) (some (s % 2)) none (some 2) = some (.lst (pickD (zs.map sd) (some (s % 2)) none 2)) := by
        show (if (0 : Int) < 2 then some (D.lst (pickD (zs.map sd) (some (s % 2)) none 2)) else none) = _
        rw [if_pos (by decide)]
      refine ⟨_, e, _, rfl, cutD (pickD zs (some (s % 2)) none 2) none (some 20), ?_, ?_, fun w hw => ok w (pickD_sub w (cutD_sub w hw))⟩
      · rw [pickD_map, ← cut_map]
      · unfold cutD
        rw [List.length_take]
        refine Nat.le_trans (Nat.min_le_left _ _) ?_
        have e20 : HT.sIx (pickD zs (some (s % 2)) none 2).length (pickD zs (some (s % 2)) none 2).length (some 20) = min 20 (pickD zs (some (s % 2)) none 2).length := HT.sIx_nat _ _ 20
        rw [e20]
        omega
  have hin : ∃ b, dInT (D.int (c % 8)) (D.tup [D.int 2, D.int 3]) = some (.bl b) := ⟨_, rfl⟩
  obtain ⟨b0, hin⟩ := hin
  rw [hin]
  have Lz : (if 0 < (zs.length : Int) then (if c % 8 = 6 then Ge (eSl3 (eVar 2) (oSome (eOp dMod (eVar 1) (eC (D.int 2)))) oNone (oSome (eC (D.int 2))) [some (D.int c), some (D.int s), some (D.lst (List.map sd zs))]) fun x => Ge (dSl x none (some 20)) fun d => ∃ ws : List S3, d = D.lst (List.map sd ws) ∧ ws.length ≤ 20 ∧ ∀ w ∈ ws, Okay3 w
      else 0 < (zs.length : Int) ∧ Ge (atI (List.map sd zs) (s / 3 % (zs.length : Int))) fun x => ∃ ws : List S3, [x] = List.map sd ws ∧ ws.length ≤ 20 ∧ ∀ w ∈ ws, Okay3 w) else Ge (m_law_made [D.int s]) fun x => ∃ ws : List S3, [x] = List.map sd ws ∧ ws.length ≤ 20 ∧ ∀ w ∈ ws, Okay3 w) := by
    split
    · rename_i h0
      split
      · exact L3
      · exact L4 (by omega)
    · exact L5
  walk_at "ev"
  repeat' split
  all_goals first
    | exact L1
    | exact L5
    | exact L3
    | exact L2 (by omega)
    | exact L4 (by omega)
end
end Sp

set_option Elab.async false
set_option linter.all false
set_option maxRecDepth 100000
set_option maxHeartbeats 2000000
namespace Sp
open PySem L2
open Classical
noncomputable section
local macro_rules | `(tactic| walk_at "ev") => `(tactic| try simp only [gv_next, gv_brk, gv_cnt, gv_retN, gv_seq, nx_nx, nx_rt, nx_bk, nx_ct, gv_set, gv_setF, gv_own, gv_ret, gv_drop, gv_retO, gv_if, gv_app, gv_unp, gv_pop, gv_put, gv_par, gv_forF, gv_forN, gv_forT, gv_forR,
  ge_var, ge_c, ge_op, ge_un, gl_nil, gl_cons, ge_call, ge_meth, ge_tup, ge_lst, ge_ii, ge_sl, go_none, go_int, gb_val, gb_truth, gb_and, gb_or, gb_not, gb_yes, ge_and, ge_or, ge_if, ge_chain, ge_some, gb_some, gl_some, go_some, ge_guard, ge_lc, ge_lcT, ge_lcR, ge_eqI, ge_neI, ge_eqB, ge_neB,
  frm, full, SV.full, gt, sgt, setAll, Tg.put, List.map, List.replicate, List.set, List.length_cons, List.length_nil, List.length_append, List.length_map, List.append_nil, List.nil_append, List.cons_append, Nat.sub_self, Nat.reduceAdd, Nat.reduceSub, Nat.zero_add, Nat.add_zero,
  noOwn, List.all_cons, List.all_nil, SV.free, D.imm, D.imms, imm_sd, imms_sd, imm_tupI, Bool.and_true, Bool.true_and, Bool.and_self, Bool.false_and, Bool.and_false, true_or, or_true, or_self, false_or, or_false, true_and, and_true, if_true, if_false, Bool.false_eq_true,
  D.int.injEq, D.bl.injEq, D.lst.injEq, D.tup.injEq, D.str.injEq, D.box.injEq, D.wood.injEq, SV.v.injEq, SV.own.injEq, Option.some.injEq, exists_eq_left', exists_eq_left, exists_and_left, reduceCtorEq, false_and, and_false, exists_false,
  fLen_lst, fLen_tup, fLen_scr, fLen_sd, fMax2_ii, fMin2_ii, fInt1_i, fInt1_b, fListOf_lst, fSorted_sd, fSum_i, dIx_sd0, dIx_sd1, dIx_sd2, dIx_lst, dIx_tup, dIx_scr, atI_0, atI_1, atI_2, atI_3, dSl_lst, dSl_scr, dCat_ll, dRep_l, dNot_b, dNeg_i, dNotBl_b, dNotBl_i, dNotBl_n, dNotBl_s, dNotBl_t, dNotBl_l, dIsN_non, dIsN_int, dIsN_lst, dNotN_non, dNotN_lst, dIsN_nil, dIsN_node, dNotN_nil, dNotN_node, isi_int_non, isi_int_bl, isi_int_int, isi_int_str, isi_int_tup, isi_int_lst, isi_int_sd, isi_bool_non, isi_bool_bl, isi_bool_int, isi_bool_str, isi_bool_tup, isi_bool_lst, isi_bool_sd, isi_tuple_non, isi_tuple_bl, isi_tuple_int, isi_tuple_str, isi_tuple_tup, isi_tuple_lst, isi_tuple_sd, isi_list_non, isi_list_bl, isi_list_int, isi_list_str, isi_list_tup, isi_list_lst, isi_list_sd, tyi_non, tyi_bl, tyi_int, tyi_str, tyi_tup, tyi_lst, ge_eqT, ge_neT, ge_eqS, ge_neS, ge_inS, ge_ninS, ge_eqLS, ge_neLS, Option.map_some, Bool.not_true, Bool.not_false, Bool.not_not, decide_eq_true_eq, decide_eq_false_iff_not, Bool.not_eq_true', Bool.not_eq_false', Bool.not_eq_true, decide_true, decide_false,
  Int.reduceLT, Nat.reduceLT, Int.reduceLE, Nat.reduceLeDiff, sizeLine_eq, and_self, ite_self, not_false_eq_true, not_true_eq_false, implies_true, imp_self, forall_const, true_implies])
local macro_rules | `(tactic| walk_at "st") => `(tactic| try simp only [gv_next, gv_brk, gv_cnt, gv_retN, gv_seq, nx_nx, nx_rt, nx_bk, nx_ct, gv_set, gv_setF, gv_own, gv_ret, gv_drop, gv_retO, gv_app, gv_unp, gv_pop, gv_put, gv_par, gv_forF, gv_forN, gv_forT, gv_forR,
  ge_var, ge_c, ge_op, ge_un, gl_nil, gl_cons, ge_call, ge_meth, ge_tup, ge_lst, ge_ii, ge_sl, go_none, go_int, gb_val, gb_truth, gb_and, gb_or, gb_not, gb_yes, ge_and, ge_or, ge_if, ge_chain, ge_some, gb_some, gl_some, go_some, ge_guard, ge_lc, ge_lcT, ge_lcR, ge_eqI, ge_neI, ge_eqB, ge_neB,
  frm, full, SV.full, gt, sgt, setAll, Tg.put, List.map, List.replicate, List.set, List.length_cons, List.length_nil, List.length_append, List.length_map, List.append_nil, List.nil_append, List.cons_append, Nat.sub_self, Nat.reduceAdd, Nat.reduceSub, Nat.zero_add, Nat.add_zero,
  noOwn, List.all_cons, List.all_nil, SV.free, D.imm, D.imms, imm_sd, imms_sd, imm_tupI, Bool.and_true, Bool.true_and, Bool.and_self, Bool.false_and, Bool.and_false, true_or, or_true, or_self, false_or, or_false, true_and, and_true, if_true, if_false, Bool.false_eq_true,
  D.int.injEq, D.bl.injEq, D.lst.injEq, D.tup.injEq, D.str.injEq, D.box.injEq, D.wood.injEq, SV.v.injEq, SV.own.injEq, Option.some.injEq, exists_eq_left', exists_eq_left, exists_and_left, reduceCtorEq, false_and, and_false, exists_false,
  fLen_lst, fLen_tup, fLen_scr, fLen_sd, fMax2_ii, fMin2_ii, fInt1_i, fInt1_b, fListOf_lst, fSorted_sd, fSum_i, dIx_sd0, dIx_sd1, dIx_sd2, dIx_lst, dIx_tup, dIx_scr, atI_0, atI_1, atI_2, atI_3, dSl_lst, dSl_scr, dCat_ll, dRep_l, dNot_b, dNeg_i, dNotBl_b, dNotBl_i, dNotBl_n, dNotBl_s, dNotBl_t, dNotBl_l, dIsN_non, dIsN_int, dIsN_lst, dNotN_non, dNotN_lst, dIsN_nil, dIsN_node, dNotN_nil, dNotN_node, isi_int_non, isi_int_bl, isi_int_int, isi_int_str, isi_int_tup, isi_int_lst, isi_int_sd, isi_bool_non, isi_bool_bl, isi_bool_int, isi_bool_str, isi_bool_tup, isi_bool_lst, isi_bool_sd, isi_tuple_non, isi_tuple_bl, isi_tuple_int, isi_tuple_str, isi_tuple_tup, isi_tuple_lst, isi_tuple_sd, isi_list_non, isi_list_bl, isi_list_int, isi_list_str, isi_list_tup, isi_list_lst, isi_list_sd, tyi_non, tyi_bl, tyi_int, tyi_str, tyi_tup, tyi_lst, ge_eqT, ge_neT, ge_eqS, ge_neS, ge_inS, ge_ninS, ge_eqLS, ge_neLS, Option.map_some, Bool.not_true, Bool.not_false, Bool.not_not, decide_eq_true_eq, decide_eq_false_iff_not, Bool.not_eq_true', Bool.not_eq_false', Bool.not_eq_true, decide_true, decide_false,
  Int.reduceLT, Nat.reduceLT, Int.reduceLE, Nat.reduceLeDiff, sizeLine_eq, and_self, ite_self, not_false_eq_true, not_true_eq_false, implies_true, imp_self, forall_const, true_implies])

/-! ### the deeds -/
abbrev Deed := Str × S3 × Str
def dd (e : Deed) : D := deedD e.1 e.2.1 e.2.2
def stepS (S : List S3) (e : Deed) : List S3 := if e.1 = "put" then (if e.2.1 ∈ S then S else S ++ [e.2.1]) else S.filter (fun w => decide (w ≠ e.2.1))
def wordOk (S : List S3) (e : Deed) : Prop := Okay3 e.2.1 ∧ ((e.1 = "put" ∧ e.2.2 = (if e.2.1 ∈ S then ("twice" : Str) else ("done" : Str))) ∨ (e.1 = "take" ∧ e.2.2 = (if e.2.1 ∈ S then ("done" : Str) else ("missing" : Str))))
inductive Runs : List Deed → List S3 → Prop
  | nil : Runs [] []
  | snoc {ds : List Deed} {S : List S3} {e : Deed} : Runs ds S → wordOk S e → Runs (ds ++ [e]) (stepS S e)
theorem step_len (S : List S3) (e : Deed) : (stepS S e).length ≤ S.length + 1 := by
  unfold stepS
  split
  · split
    · omega
    · rw [List.length_append]; simp
  · exact Nat.le_succ_of_le (List.length_filter_le _ _)
theorem Runs.len {ds : List Deed} {S : List S3} (h : Runs ds S) : S.length ≤ ds.length := by
  induction h with
  | nil => exact Nat.le_refl _
  | snoc h w ih =>
    rename_i ds S e
    have := step_len S e
    rw [List.length_append, List.length_singleton]
    omega
theorem Runs.ok {ds : List Deed} {S : List S3} (h : Runs ds S) : ∀ z ∈ S, Okay3 z := by
  induction h with
  | nil => intro z hz; cases hz
  | snoc h w ih =>
    rename_i ds S e
    intro z hz
    unfold stepS at hz
    split at hz
    · split at hz
      · exact ih z hz
      · rcases List.mem_append.mp hz with hz | hz
        · exact ih z hz
        · rw [List.mem_singleton] at hz; subst hz; exact w.1
    · exact ih z (List.mem_filter.mp hz).1
theorem Runs.inv {ds : List Deed} {S : List S3} {e : Deed} (h : Runs (ds ++ [e]) S) : ∃ S1, Runs ds S1 ∧ wordOk S1 e ∧ S = stepS S1 e := by
  generalize hx : ds ++ [e] = xs at h
  cases h with
  | nil => simp at hx
  | snoc h w =>
    obtain ⟨rfl, h2⟩ := List.append_inj' hx rfl
    cases h2
    exact ⟨_, h, w, rfl⟩
theorem Runs.take {ds : List Deed} {S : List S3} (h : Runs ds S) (k : Nat) : ∃ S1, Runs (ds.take k) S1 := by
  induction h with
  | nil => exact ⟨[], by simpa using Runs.nil⟩
  | snoc h w ih =>
    rename_i ds S e
    by_cases c : k ≤ ds.length
    · rw [List.take_append_of_le_length c]; exact ih
    · rw [List.take_of_length_le (by rw [List.length_append, List.length_singleton]; omega)]
      exact ⟨_, .snoc h w⟩
theorem Runs.at {ds : List Deed} {S : List S3} (h : Runs ds S) {k : Nat} (hk : k < ds.length) : ∃ S1, Runs (ds.take k) S1 ∧ wordOk S1 ds[k] ∧ Runs (ds.take (k + 1)) (stepS S1 ds[k]) := by
  obtain ⟨S2, h2⟩ := h.take (k + 1)
  have e : ds.take (k + 1) = ds.take k ++ [ds[k]] := by rw [List.take_succ, List.getElem?_eq_getElem hk]; rfl
  rw [e] at h2 ⊢
  obtain ⟨S1, h3, h4, rfl⟩ := h2.inv
  exact ⟨S1, h3, h4, .snoc h3 h4⟩
theorem runs_big : ∀ (pre big : List S3) (ds : List Deed), Runs ds pre → (pre ++ big).Nodup → (∀ z ∈ big, Okay3 z) → Runs (ds ++ big.map fun z => (("put" : Str), z, ("done" : Str))) (pre ++ big)
  | pre, [], ds, h, _, _ => by simpa using h
  | pre, z :: big, ds, h, nd, ok => by
    have hz : z ∉ pre := fun hm => by
      rw [List.nodup_append] at nd
      exact nd.2.2 z hm z List.mem_cons_self rfl
    have h2 := Runs.snoc (e := (("put" : Str), z, ("done" : Str))) h ⟨ok z List.mem_cons_self, .inl ⟨rfl, (if_neg hz).symm⟩⟩
    have e : stepS pre (("put" : Str), z, ("done" : Str)) = pre ++ [z] := by
      unfold stepS
      rw [if_pos rfl, if_neg hz]
    rw [e] at h2
    have := runs_big (pre ++ [z]) big _ h2 (by simpa using nd) (fun w hw => ok w (List.mem_cons_of_mem _ hw))
    simpa using this
theorem imms_dd (ds : List Deed) : D.imms (ds.map dd) = true := imms_map (fun e => by unfold dd deedD; rfl) _
theorem deeds_cut {ds : List Deed} {S : List S3} {n : Nat} (h : Runs ds S) : ∃ ds1 : List Deed, cutD (ds.map dd) none (some (40 + (n : Int))) = ds1.map dd ∧ ds1.length ≤ 40 + n ∧ ∃ x, Runs ds1 x := by
  refine ⟨cutD ds none (some (40 + (n : Int))), cut_map _ _ _ _, ?_⟩
  have e : (40 + (n : Int)) = ((40 + n : Nat) : Int) := by omega
  have e2 : cutD ds none (some (40 + (n : Int))) = ds.take (min (40 + n) ds.length) := by
    unfold cutD
    rw [e, HT.sIx_none, HT.sIx_nat, List.drop_zero, Nat.sub_zero]
  rw [e2]
  exact ⟨by rw [List.length_take]; omega, h.take _⟩
theorem p_deeds {ns : List Int} {i : Nat} {big : List S3} (hi : i ≤ 2) (hl : ns.length ≤ 63) (hB : ∀ z ∈ ns, Builtin.Int.intBits z ≤ 1048576) (nd : big.Nodup) (ok : ∀ z ∈ big, Okay3 z) (hb : big.length ≤ 100) :
    Ge (m_law_deeds [.scr ns, .int i, .lst (big.map sd)]) fun d => ∃ ds S, d = .lst (ds.map dd) ∧ ds.length ≤ 40 + big.length ∧ Runs ds S := by
  refine def_ge rfl ?_
  unfold b_law_deeds
  walk_at "ev"
  refine ⟨by omega, gl_lc sd (fun z => dd (("put" : Str), z, ("done" : Str))) (fun _ => true) (fun z hz => ⟨gb_yes.mpr rfl, fun _ => ⟨?_, rfl⟩⟩) ?_⟩
  · walk_at "ev"
    rfl
  rw [filter_true]
  have e0 : big.map (fun z => dd (("put" : Str), z, ("done" : Str))) = (big.map fun z => (("put" : Str), z, ("done" : Str))).map dd := by rw [List.map_map]; rfl
  rw [e0]
  have h0 := runs_big [] big [] .nil (by simpa using nd) ok
  simp only [List.nil_append] at h0
  refine ⟨imms_dd _, _, if_pos ⟨by unfold i62; omega, by unfold i62; omega⟩, ?_⟩
  refine gv_for (fun _ ρ => ∃ ds S a b c, ρ = [SV.v (.scr ns), .v (.int i), .v (.lst (big.map sd)), .v (.lst (S.map sd)), a, .own (ds.map dd), b, c] ∧ Runs ds S ∧ ds.length ≤ 40 + big.length) ⟨_, _, _, _, _, rfl, h0, by rw [List.length_map]; omega⟩ (fun k d ρ hk ⟨ds, S, a, b, c, e, hR, hlen⟩ => ?_) (fun ρ ⟨ds, S, a, b, c, e, hR, hlen⟩ => ?_)
  · subst e
    have hmem := List.mem_of_getElem? hk
    obtain ⟨x, hx, rfl⟩ := List.mem_map.mp hmem
    unfold rng at hx
    obtain ⟨j, hj, rfl⟩ := List.mem_map.mp hx
    have hj' := List.mem_range.mp hj
    refine ⟨_, rfl, ?_⟩
    have ej : (i : Int) + (j : Int) = ((i + j : Nat) : Int) := by omega
    rw [ej]
    generalize hjj : i + j = m at *
    have hm : m < ns.length := by omega
    have hb2 : BW 1048576 ns[m] := by
      unfold BW
      exact hB _ (List.getElem_mem hm)
    walk_at "ev"
    have ea : atI ns (m : Int) = some ns[m] := atI_nat' hm
    rw [ea]
    walk_at "ev"
    have hSl := hR.len
    refine ⟨mulC hb2 (by omega), mul64 (by omega) (by omega), ?_⟩
    obtain ⟨d, ed, ws, rfl, hwl, hwo⟩ := p_picked (c := ns[m]) (s := ns[m] * 48271 + 29 * (m : Int)) (zs := S) (seedB hb2 (by omega) (by omega)) (by omega) hR.ok
    rw [ed]
    refine ⟨_, rfl, _, rfl, by rw [imms_sd], ?_⟩
    refine gv_for (fun n ρ => ∃ ds' S' a' c', ρ = [SV.v (.scr ns), .v (.int i), .v (.lst (big.map sd)), .v (.lst (S'.map sd)), a', .own (ds'.map dd), .v (.int m), c'] ∧ Runs ds' S' ∧ ds'.length ≤ 40 + big.length + n) ⟨_, _, _, _, rfl, hR, hlen⟩ (fun n d ρ hk2 ⟨ds', S', a', c', e, hR', hlen'⟩ => ?_) (fun ρ ⟨ds', S', a', c', e, hR', hlen'⟩ => ?_)
    · subst e
      rw [List.getElem?_map, Option.map_eq_some_iff] at hk2
      obtain ⟨w, hw, rfl⟩ := hk2
      have hwn := (List.getElem?_eq_some_iff.mp hw).1
      have okw := hwo w (List.mem_of_getElem? hw)
      have hSl' := hR'.len
      refine ⟨_, rfl, ?_⟩
      obtain ⟨b0, hin⟩ : ∃ b, dInT (D.int (ns[m] % 8)) (D.tup [D.int 3, D.int 5, D.int 6]) = some (.bl b) := ⟨_, rfl⟩
      walk_at "ev"
      rw [ea]
      walk_at "ev"
      rw [hin]
      walk_at "ev"
      have st : ¬ (("take" : Str) = "put") := by decide +kernel
      have stepT : ∀ y, stepS S' (("take" : Str), w, y) = S'.filter (fun v => decide (v ≠ w)) := fun y => if_neg st
      have hf : ∀ (c0 : D) (x : SV), Gl (lcL 7 (bVal (eOp dNe (eVar 7) (eVar 4))) (eVar 7) (List.map sd S') [some (D.scr ns), some (D.int i), some (D.lst (List.map sd big)), some (D.lst (List.map sd S')), some (sd w), some c0, some (D.int m), x.full]) (fun out => out = (S'.filter (fun v => decide (v ≠ w))).map sd) := fun c0 x => by
        refine gl_lcS (fun v => decide (v ≠ w)) (by simp) (fun v hv => ?_) rfl
        walk_at "ev"
        by_cases e : v = w <;> simp [e]
      by_cases hb0 : b0 = true
      · rw [if_pos hb0]
        by_cases hm2 : w ∈ S'
        · rw [if_pos hm2]
          refine ⟨by omega, by omega, ?_⟩
          obtain ⟨out, eo, rfl⟩ := hf (D.lst (List.map dd ds' ++ [D.tup [D.str (Str.ofString "take"), sd w, D.str (Str.ofString "done")]])) c'
          refine ⟨_, eo, by rw [imms_sd], ds' ++ [(("take" : Str), w, ("done" : Str))], S'.filter (fun v => decide (v ≠ w)), _, _, by rw [List.map_append]; rfl, ?_, by rw [List.length_append, List.length_singleton]; omega⟩
          have := Runs.snoc hR' (e := (("take" : Str), w, ("done" : Str))) ⟨okw, .inr ⟨rfl, (if_pos hm2).symm⟩⟩
          rw [stepT] at this
          exact this
        · rw [if_neg hm2]
          refine ⟨by omega, by omega, ?_⟩
          obtain ⟨out, eo, rfl⟩ := hf (D.lst (List.map dd ds' ++ [D.tup [D.str (Str.ofString "take"), sd w, D.str (Str.ofString "missing")]])) c'
          refine ⟨_, eo, by rw [imms_sd], ds' ++ [(("take" : Str), w, ("missing" : Str))], S'.filter (fun v => decide (v ≠ w)), _, _, by rw [List.map_append]; rfl, ?_, by rw [List.length_append, List.length_singleton]; omega⟩
          have := Runs.snoc hR' (e := (("take" : Str), w, ("missing" : Str))) ⟨okw, .inr ⟨rfl, (if_neg hm2).symm⟩⟩
          rw [stepT] at this
          exact this
      · rw [if_neg hb0]
        by_cases hm2 : w ∈ S'
        · rw [if_pos hm2]
          simp only [hm2, not_true_eq_false, if_false]
          refine ⟨by omega, by decide, by simp; omega, by simp [imms_sd], ds' ++ [(("put" : Str), w, ("twice" : Str))], S', .v (sd w), c', by rw [List.map_append]; simp; rfl, ?_, by rw [List.length_append, List.length_singleton]; omega⟩
          have := Runs.snoc hR' (e := (("put" : Str), w, ("twice" : Str))) ⟨okw, .inl ⟨rfl, (if_pos hm2).symm⟩⟩
          have es : stepS S' (("put" : Str), w, ("twice" : Str)) = S' := by unfold stepS; rw [if_pos rfl, if_pos hm2]
          rw [es] at this
          exact this
        · rw [if_neg hm2]
          simp only [hm2, not_false_eq_true, if_true]
          refine ⟨by omega, by decide, by simp; omega, (by simp; rw [show List.map sd S' ++ [sd w] = (S' ++ [w]).map sd from by simp]; exact imms_sd _), ds' ++ [(("put" : Str), w, ("done" : Str))], S' ++ [w], .v (sd w), c', by rw [List.map_append, List.map_append]; simp; rfl, ?_, by rw [List.length_append, List.length_singleton]; omega⟩
          have := Runs.snoc hR' (e := (("put" : Str), w, ("done" : Str))) ⟨okw, .inl ⟨rfl, (if_neg hm2).symm⟩⟩
          have es : stepS S' (("put" : Str), w, ("done" : Str)) = S' ++ [w] := by unfold stepS; rw [if_pos rfl, if_neg hm2]
          rw [es] at this
          exact this
    · subst e
      walk_at "ev"
      by_cases hbk : 40 + (big.length : Int) < (ds'.length : Int)
      · rw [if_pos hbk]
        exact deeds_cut hR'
      · rw [if_neg hbk]
        exact ⟨ds', S', a', _, c', rfl, hR', by omega⟩
  · subst e
    walk_at "ev"
    exact deeds_cut hR
end
end Sp

set_option Elab.async false
set_option linter.all false
set_option maxRecDepth 100000
set_option maxHeartbeats 2000000
namespace Sp
open PySem L2
open Classical
noncomputable section
/-! ### a deed done as its word says -/
def behindL (zs : List S3) (e : Deed) : List S3 := if e.2.2 ≠ "done" then zs else if e.1 = "put" then sort3 (zs ++ [e.2.1]) else zs.filter (fun w => decide (w ≠ e.2.1))
theorem srt_le {zs : List S3} (h : Srt zs) : zs.Pairwise (fun a b => le3 a b = true) := h.imp fun {a b} h => lt3_le h
theorem s_tw : ¬ (("twice" : Str) = "done") := by decide +kernel
theorem s_mi : ¬ (("missing" : Str) = "done") := by decide +kernel
theorem s_tp : ¬ (("take" : Str) = "put") := by decide +kernel
structure DidOk (S : List S3) (t t' : T) (e : Deed) : Prop where
  same : ∀ z, z ∈ toL t' ↔ z ∈ stepS S e
  good : Good t'
  srt : Srt (toL t')
  len : (toL t').length ≤ (toL t).length + 1
  beh : toL t' = behindL (toL t) e
theorem did_ok {S : List S3} {t : T} {e : Deed} (hk : Kept t) (w : wordOk S e) (hS : ∀ z, z ∈ toL t ↔ z ∈ S) : (didT e.1 e.2.1 e.2.2 t).2 = true ∧ DidOk S t (didT e.1 e.2.1 e.2.2 t).1 e := by
  obtain ⟨x, z, y⟩ := e
  obtain ⟨hz, ⟨hx, hy⟩ | ⟨hx, hy⟩⟩ := w
  · simp only at hx hy
    subst hx
    unfold didT
    rw [if_pos rfl]
    by_cases hm : z ∈ S
    · rw [if_pos hm] at hy
      subst hy
      rw [if_pos ((hS z).mpr hm)]
      refine ⟨decide_eq_true s_tw, ⟨fun u => ?_, hk.good, hk.srt, Nat.le_succ _, ?_⟩⟩
      · unfold stepS; rw [if_pos rfl, if_pos hm]; exact hS u
      · unfold behindL; rw [if_pos s_tw]
    · rw [if_neg hm] at hy
      subst hy
      have hm' : z ∉ toL t := fun h => hm ((hS z).mp h)
      rw [if_neg hm']
      have hp := ins_perm z t
      have hs := ins_srt z hk.srt hm'
      refine ⟨(decide_eq_true rfl : decide (("done" : Str) = "done") = true), ⟨fun u => ?_, (ins_good z hk.good).1, hs, by rw [hp.length_eq, List.length_cons]; exact Nat.le_refl _, ?_⟩⟩
      · unfold stepS; rw [if_pos rfl, if_neg hm, hp.mem_iff, List.mem_cons, List.mem_append, List.mem_singleton, hS u]
        exact Or.comm
      · unfold behindL
        rw [if_neg (fun h => h rfl), if_pos rfl]
        exact sort3_unique (hp.trans (List.perm_append_singleton _ _).symm) (srt_le hs)
  · simp only at hx hy
    subst hx
    unfold didT
    rw [if_neg s_tp]
    by_cases hm : z ∈ S
    · rw [if_pos hm] at hy
      subst hy
      rw [if_pos ((hS z).mpr hm)]
      have hd := del_toL z hk.srt
      refine ⟨(decide_eq_true rfl : decide (("done" : Str) = "done") = true), ⟨fun u => ?_, (del_good z hk.good).1, ?_, ?_, ?_⟩⟩
      · unfold stepS; rw [if_neg s_tp, hd, List.mem_filter, List.mem_filter, hS u]
      · rw [hd]; exact hk.srt.filter _
      · rw [hd]; exact Nat.le_succ_of_le (List.length_filter_le _ _)
      · unfold behindL
        rw [if_neg (fun h => h rfl), if_neg s_tp]
        exact hd
    · rw [if_neg hm] at hy
      subst hy
      have hm' : z ∉ toL t := fun h => hm ((hS z).mp h)
      rw [if_neg hm']
      refine ⟨decide_eq_true s_mi, ⟨fun u => ?_, hk.good, hk.srt, Nat.le_succ _, ?_⟩⟩
      · unfold stepS
        rw [if_neg s_tp, List.mem_filter, hS u, decide_eq_true_eq]
        exact ⟨fun h => ⟨h, fun e => hm (by have e' : u = z := e; rw [← e']; exact h)⟩, fun h => h.1⟩
      · unfold behindL; rw [if_pos s_mi]
end
end Sp

set_option Elab.async false
set_option linter.all false
set_option maxRecDepth 100000
set_option maxHeartbeats 2000000
namespace Sp
open PySem L2
open Classical
noncomputable section
local macro_rules | `(tactic| walk_at "ev") => `(tactic| try simp only [gv_next, gv_brk, gv_cnt, gv_retN, gv_seq, nx_nx, nx_rt, nx_bk, nx_ct, gv_set, gv_setF, gv_own, gv_ret, gv_drop, gv_retO, gv_if, gv_app, gv_unp, gv_pop, gv_put, gv_par, gv_forF, gv_forN, gv_forT, gv_forR,
  ge_var, ge_c, ge_op, ge_un, gl_nil, gl_cons, ge_call, ge_meth, ge_tup, ge_lst, ge_ii, ge_sl, go_none, go_int, gb_val, gb_truth, gb_and, gb_or, gb_not, gb_yes, ge_and, ge_or, ge_if, ge_chain, ge_some, gb_some, gl_some, go_some, ge_guard, ge_lc, ge_lcT, ge_lcR, ge_eqI, ge_neI, ge_eqB, ge_neB,
  frm, full, SV.full, gt, sgt, setAll, Tg.put, List.map, List.replicate, List.set, List.length_cons, List.length_nil, List.length_append, List.length_map, List.append_nil, List.nil_append, List.cons_append, Nat.sub_self, Nat.reduceAdd, Nat.reduceSub, Nat.zero_add, Nat.add_zero,
  noOwn, List.all_cons, List.all_nil, SV.free, D.imm, D.imms, imm_sd, imms_sd, imm_tupI, Bool.and_true, Bool.true_and, Bool.and_self, Bool.false_and, Bool.and_false, true_or, or_true, or_self, false_or, or_false, true_and, and_true, if_true, if_false, Bool.false_eq_true,
  D.int.injEq, D.bl.injEq, D.lst.injEq, D.tup.injEq, D.str.injEq, D.box.injEq, D.wood.injEq, SV.v.injEq, SV.own.injEq, Option.some.injEq, exists_eq_left', exists_eq_left, exists_and_left, reduceCtorEq, false_and, and_false, exists_false,
  fLen_lst, fLen_tup, fLen_scr, fLen_sd, fMax2_ii, fMin2_ii, fInt1_i, fInt1_b, fListOf_lst, fSorted_sd, fSum_i, dIx_sd0, dIx_sd1, dIx_sd2, dIx_lst, dIx_tup, dIx_scr, atI_0, atI_1, atI_2, atI_3, dSl_lst, dSl_scr, dCat_ll, dRep_l, dNot_b, dNeg_i, dNotBl_b, dNotBl_i, dNotBl_n, dNotBl_s, dNotBl_t, dNotBl_l, dIsN_non, dIsN_int, dIsN_lst, dNotN_non, dNotN_lst, dIsN_nil, dIsN_node, dNotN_nil, dNotN_node, isi_int_non, isi_int_bl, isi_int_int, isi_int_str, isi_int_tup, isi_int_lst, isi_int_sd, isi_bool_non, isi_bool_bl, isi_bool_int, isi_bool_str, isi_bool_tup, isi_bool_lst, isi_bool_sd, isi_tuple_non, isi_tuple_bl, isi_tuple_int, isi_tuple_str, isi_tuple_tup, isi_tuple_lst, isi_tuple_sd, isi_list_non, isi_list_bl, isi_list_int, isi_list_str, isi_list_tup, isi_list_lst, isi_list_sd, tyi_non, tyi_bl, tyi_int, tyi_str, tyi_tup, tyi_lst, ge_eqT, ge_neT, ge_eqS, ge_neS, ge_inS, ge_ninS, ge_eqLS, ge_neLS, Option.map_some, Bool.not_true, Bool.not_false, Bool.not_not, decide_eq_true_eq, decide_eq_false_iff_not, Bool.not_eq_true', Bool.not_eq_false', Bool.not_eq_true, decide_true, decide_false,
  Int.reduceLT, Nat.reduceLT, Int.reduceLE, Nat.reduceLeDiff, sizeLine_eq, and_self, ite_self, not_false_eq_true, not_true_eq_false, implies_true, imp_self, forall_const, true_implies])
local macro_rules | `(tactic| walk_at "st") => `(tactic| try simp only [gv_next, gv_brk, gv_cnt, gv_retN, gv_seq, nx_nx, nx_rt, nx_bk, nx_ct, gv_set, gv_setF, gv_own, gv_ret, gv_drop, gv_retO, gv_app, gv_unp, gv_pop, gv_put, gv_par, gv_forF, gv_forN, gv_forT, gv_forR,
  ge_var, ge_c, ge_op, ge_un, gl_nil, gl_cons, ge_call, ge_meth, ge_tup, ge_lst, ge_ii, ge_sl, go_none, go_int, gb_val, gb_truth, gb_and, gb_or, gb_not, gb_yes, ge_and, ge_or, ge_if, ge_chain, ge_some, gb_some, gl_some, go_some, ge_guard, ge_lc, ge_lcT, ge_lcR, ge_eqI, ge_neI, ge_eqB, ge_neB,
  frm, full, SV.full, gt, sgt, setAll, Tg.put, List.map, List.replicate, List.set, List.length_cons, List.length_nil, List.length_append, List.length_map, List.append_nil, List.nil_append, List.cons_append, Nat.sub_self, Nat.reduceAdd, Nat.reduceSub, Nat.zero_add, Nat.add_zero,
  noOwn, List.all_cons, List.all_nil, SV.free, D.imm, D.imms, imm_sd, imms_sd, imm_tupI, Bool.and_true, Bool.true_and, Bool.and_self, Bool.false_and, Bool.and_false, true_or, or_true, or_self, false_or, or_false, true_and, and_true, if_true, if_false, Bool.false_eq_true,
  D.int.injEq, D.bl.injEq, D.lst.injEq, D.tup.injEq, D.str.injEq, D.box.injEq, D.wood.injEq, SV.v.injEq, SV.own.injEq, Option.some.injEq, exists_eq_left', exists_eq_left, exists_and_left, reduceCtorEq, false_and, and_false, exists_false,
  fLen_lst, fLen_tup, fLen_scr, fLen_sd, fMax2_ii, fMin2_ii, fInt1_i, fInt1_b, fListOf_lst, fSorted_sd, fSum_i, dIx_sd0, dIx_sd1, dIx_sd2, dIx_lst, dIx_tup, dIx_scr, atI_0, atI_1, atI_2, atI_3, dSl_lst, dSl_scr, dCat_ll, dRep_l, dNot_b, dNeg_i, dNotBl_b, dNotBl_i, dNotBl_n, dNotBl_s, dNotBl_t, dNotBl_l, dIsN_non, dIsN_int, dIsN_lst, dNotN_non, dNotN_lst, dIsN_nil, dIsN_node, dNotN_nil, dNotN_node, isi_int_non, isi_int_bl, isi_int_int, isi_int_str, isi_int_tup, isi_int_lst, isi_int_sd, isi_bool_non, isi_bool_bl, isi_bool_int, isi_bool_str, isi_bool_tup, isi_bool_lst, isi_bool_sd, isi_tuple_non, isi_tuple_bl, isi_tuple_int, isi_tuple_str, isi_tuple_tup, isi_tuple_lst, isi_tuple_sd, isi_list_non, isi_list_bl, isi_list_int, isi_list_str, isi_list_tup, isi_list_lst, isi_list_sd, tyi_non, tyi_bl, tyi_int, tyi_str, tyi_tup, tyi_lst, ge_eqT, ge_neT, ge_eqS, ge_neS, ge_inS, ge_ninS, ge_eqLS, ge_neLS, Option.map_some, Bool.not_true, Bool.not_false, Bool.not_not, decide_eq_true_eq, decide_eq_false_iff_not, Bool.not_eq_true', Bool.not_eq_false', Bool.not_eq_true, decide_true, decide_false,
  Int.reduceLT, Nat.reduceLT, Int.reduceLE, Nat.reduceLeDiff, sizeLine_eq, and_self, ite_self, not_false_eq_true, not_true_eq_false, implies_true, imp_self, forall_const, true_implies])

theorem p_height (t : T) : m_Wood_height [.wood t] = some (.int (tallT t)) := by
  refine def_gv rfl ?_
  unfold b_Wood_height
  walk_at "ev"
  simp only [dTop_w]
  walk_at "ev"
  rw [ge_tall]
theorem p_boxes {t : T} (k : Kept t) : m_Wood_boxes [.wood t] = some (.lst ((placed t 0).map bd)) := by
  refine def_gv rfl ?_
  unfold b_Wood_boxes
  walk_at "ev"
  simp only [dTop_w]
  walk_at "ev"
  rw [p_placed k.dep (by have := k.len; omega)]
  walk_at "ev"
theorem p_keeps {t : T} {z : S3} (k : Kept t) (hz : Okay3 z) : m_Wood_keeps [.wood t, .int z.1, .int z.2.1, .int z.2.2] = some (.bl (decide (z ∈ toL t))) := by
  refine def_gv rfl ?_
  unfold b_Wood_keeps
  walk_at "ev"
  simp only [dTop_w]
  walk_at "ev"
  rw [ge_stretch_of hz]
  walk_at "ev"
  rw [ge_has k.srt]
theorem p_behind2 {zs : List S3} {S : List S3} {e : Deed} (hz : zs.length ≤ 1000) (w : wordOk S e) : m_law_behind [.lst (zs.map sd), dd e] = some (.lst ((behindL zs e).map sd)) := by
  have sx : PyData.strOk e.1 = true ∧ PyData.strOk e.2.2 = true := by
    rcases w.2 with ⟨h1, h2⟩ | ⟨h1, h2⟩ <;> rw [h1, h2] <;> split <;> exact ⟨by decide +kernel, by decide +kernel⟩
  exact p_behind hz sx.1 sx.2
/-- the least number of boxes of a wood of that height -/
def leastN : Nat → Nat
  | 0 => 0
  | 1 => 1
  | n + 2 => 1 + leastN (n + 1) + leastN n
theorem least_le : ∀ {t : T}, Good t → leastN t.dep ≤ (toL t).length
  | .nil, _ => Nat.le_refl _
  | .node l s r h m, g => by
    have h1 := least_le g.1
    have h2 := least_le g.2.1
    have d1 := good_dep g.1
    have d2 := good_dep g.2.1
    have b1 := g.2.2.2.2.1
    have b2 := g.2.2.2.2.2
    have e : (toL (.node l s r h m)).length = (toL l).length + 1 + (toL r).length := by
      show (toL l ++ s :: toL r).length = _
      rw [List.length_append, List.length_cons]; omega
    have mono : ∀ n, leastN n ≤ leastN (n + 1) := fun n => by
      cases n with
      | zero => decide
      | succ n => rw [leastN]; omega
    rw [T.dep, e]
    by_cases c1 : l.dep = r.dep
    · rw [← c1, Nat.max_self]
      rw [← c1] at h2
      cases hl : l.dep with
      | zero => rw [show leastN (1 + 0) = 1 from rfl]; omega
      | succ n =>
        rw [show 1 + (n + 1) = n + 2 by omega, leastN]
        have := mono n
        rw [hl] at h1 h2
        omega
    · by_cases c2 : l.dep = r.dep + 1
      · rw [show 1 + max l.dep r.dep = r.dep + 2 by omega, leastN]
        rw [c2] at h1
        omega
      · have c3 : r.dep = l.dep + 1 := by omega
        rw [show 1 + max l.dep r.dep = l.dep + 2 by omega, leastN]
        rw [c3] at h2
        omega
theorem p_least {n : Nat} (hn : n ≤ 1000) : m_law_least [.int n] = some (.int (leastN n)) := by
  refine def_gv rfl ?_
  unfold b_law_least
  walk_at "ev"
  refine ⟨_, rng1_nat (by omega), ?_⟩
  rw [map_dint]
  refine gv_for (fun k ρ => ∃ a, ρ = [SV.v (.int n), .v (.int (if k = 0 then 0 else leastN (k - 1))), .v (.int (leastN k)), a]) ⟨_, rfl⟩ (fun k d ρ hk ⟨a, e⟩ => ?_) (fun ρ ⟨a, e⟩ => ?_)
  · subst e
    refine ⟨_, rfl, ?_⟩
    have hx : (1 + (leastN k : Int) + if k = 0 then 0 else (leastN (k - 1) : Int)) = (leastN (k + 1) : Int) := by
      cases k with
      | zero => rfl
      | succ k =>
        rw [if_neg (by omega), leastN, show k + 1 - 1 = k by omega]
        omega
    walk_at "ev"
    rw [hx]
    exact ⟨_, _, rfl, by decide, _, rfl⟩
  · subst e
    rw [List.length_map, List.length_range]
    walk_at "ev"
end
end Sp

set_option Elab.async false
set_option linter.all false
set_option maxRecDepth 100000
set_option maxHeartbeats 2000000
namespace Sp
open PySem L2
open Classical
noncomputable section
local macro_rules | `(tactic| walk_at "ev") => `(tactic| try simp only [gv_next, gv_brk, gv_cnt, gv_retN, gv_seq, nx_nx, nx_rt, nx_bk, nx_ct, gv_set, gv_setF, gv_own, gv_ret, gv_drop, gv_retO, gv_if, gv_app, gv_unp, gv_pop, gv_put, gv_par, gv_forF, gv_forN, gv_forT, gv_forR,
  ge_var, ge_c, ge_op, ge_un, gl_nil, gl_cons, ge_call, ge_meth, ge_tup, ge_lst, ge_ii, ge_sl, go_none, go_int, gb_val, gb_truth, gb_and, gb_or, gb_not, gb_yes, ge_and, ge_or, ge_if, ge_chain, ge_some, gb_some, gl_some, go_some, ge_guard, ge_lc, ge_lcT, ge_lcR, ge_eqI, ge_neI, ge_eqB, ge_neB,
  frm, full, SV.full, gt, sgt, setAll, Tg.put, List.map, List.replicate, List.set, List.length_cons, List.length_nil, List.length_append, List.length_map, List.append_nil, List.nil_append, List.cons_append, Nat.sub_self, Nat.reduceAdd, Nat.reduceSub, Nat.zero_add, Nat.add_zero,
  noOwn, List.all_cons, List.all_nil, SV.free, D.imm, D.imms, imm_sd, imms_sd, imm_tupI, Bool.and_true, Bool.true_and, Bool.and_self, Bool.false_and, Bool.and_false, true_or, or_true, or_self, false_or, or_false, true_and, and_true, if_true, if_false, Bool.false_eq_true,
  D.int.injEq, D.bl.injEq, D.lst.injEq, D.tup.injEq, D.str.injEq, D.box.injEq, D.wood.injEq, SV.v.injEq, SV.own.injEq, Option.some.injEq, exists_eq_left', exists_eq_left, exists_and_left, reduceCtorEq, false_and, and_false, exists_false,
  fLen_lst, fLen_tup, fLen_scr, fLen_sd, fMax2_ii, fMin2_ii, fInt1_i, fInt1_b, fListOf_lst, fSorted_sd, fSum_i, dIx_sd0, dIx_sd1, dIx_sd2, dIx_lst, dIx_tup, dIx_scr, atI_0, atI_1, atI_2, atI_3, dSl_lst, dSl_scr, dCat_ll, dRep_l, dNot_b, dNeg_i, dNotBl_b, dNotBl_i, dNotBl_n, dNotBl_s, dNotBl_t, dNotBl_l, dIsN_non, dIsN_int, dIsN_lst, dNotN_non, dNotN_lst, dIsN_nil, dIsN_node, dNotN_nil, dNotN_node, isi_int_non, isi_int_bl, isi_int_int, isi_int_str, isi_int_tup, isi_int_lst, isi_int_sd, isi_bool_non, isi_bool_bl, isi_bool_int, isi_bool_str, isi_bool_tup, isi_bool_lst, isi_bool_sd, isi_tuple_non, isi_tuple_bl, isi_tuple_int, isi_tuple_str, isi_tuple_tup, isi_tuple_lst, isi_tuple_sd, isi_list_non, isi_list_bl, isi_list_int, isi_list_str, isi_list_tup, isi_list_lst, isi_list_sd, tyi_non, tyi_bl, tyi_int, tyi_str, tyi_tup, tyi_lst, ge_eqT, ge_neT, ge_eqS, ge_neS, ge_inS, ge_ninS, ge_eqLS, ge_neLS, Option.map_some, Bool.not_true, Bool.not_false, Bool.not_not, decide_eq_true_eq, decide_eq_false_iff_not, Bool.not_eq_true', Bool.not_eq_false', Bool.not_eq_true, decide_true, decide_false,
  Int.reduceLT, Nat.reduceLT, Int.reduceLE, Nat.reduceLeDiff, sizeLine_eq, and_self, ite_self, not_false_eq_true, not_true_eq_false, implies_true, imp_self, forall_const, true_implies])
local macro_rules | `(tactic| walk_at "st") => `(tactic| try simp only [gv_next, gv_brk, gv_cnt, gv_retN, gv_seq, nx_nx, nx_rt, nx_bk, nx_ct, gv_set, gv_setF, gv_own, gv_ret, gv_drop, gv_retO, gv_app, gv_unp, gv_pop, gv_put, gv_par, gv_forF, gv_forN, gv_forT, gv_forR,
  ge_var, ge_c, ge_op, ge_un, gl_nil, gl_cons, ge_call, ge_meth, ge_tup, ge_lst, ge_ii, ge_sl, go_none, go_int, gb_val, gb_truth, gb_and, gb_or, gb_not, gb_yes, ge_and, ge_or, ge_if, ge_chain, ge_some, gb_some, gl_some, go_some, ge_guard, ge_lc, ge_lcT, ge_lcR, ge_eqI, ge_neI, ge_eqB, ge_neB,
  frm, full, SV.full, gt, sgt, setAll, Tg.put, List.map, List.replicate, List.set, List.length_cons, List.length_nil, List.length_append, List.length_map, List.append_nil, List.nil_append, List.cons_append, Nat.sub_self, Nat.reduceAdd, Nat.reduceSub, Nat.zero_add, Nat.add_zero,
  noOwn, List.all_cons, List.all_nil, SV.free, D.imm, D.imms, imm_sd, imms_sd, imm_tupI, Bool.and_true, Bool.true_and, Bool.and_self, Bool.false_and, Bool.and_false, true_or, or_true, or_self, false_or, or_false, true_and, and_true, if_true, if_false, Bool.false_eq_true,
  D.int.injEq, D.bl.injEq, D.lst.injEq, D.tup.injEq, D.str.injEq, D.box.injEq, D.wood.injEq, SV.v.injEq, SV.own.injEq, Option.some.injEq, exists_eq_left', exists_eq_left, exists_and_left, reduceCtorEq, false_and, and_false, exists_false,
  fLen_lst, fLen_tup, fLen_scr, fLen_sd, fMax2_ii, fMin2_ii, fInt1_i, fInt1_b, fListOf_lst, fSorted_sd, fSum_i, dIx_sd0, dIx_sd1, dIx_sd2, dIx_lst, dIx_tup, dIx_scr, atI_0, atI_1, atI_2, atI_3, dSl_lst, dSl_scr, dCat_ll, dRep_l, dNot_b, dNeg_i, dNotBl_b, dNotBl_i, dNotBl_n, dNotBl_s, dNotBl_t, dNotBl_l, dIsN_non, dIsN_int, dIsN_lst, dNotN_non, dNotN_lst, dIsN_nil, dIsN_node, dNotN_nil, dNotN_node, isi_int_non, isi_int_bl, isi_int_int, isi_int_str, isi_int_tup, isi_int_lst, isi_int_sd, isi_bool_non, isi_bool_bl, isi_bool_int, isi_bool_str, isi_bool_tup, isi_bool_lst, isi_bool_sd, isi_tuple_non, isi_tuple_bl, isi_tuple_int, isi_tuple_str, isi_tuple_tup, isi_tuple_lst, isi_tuple_sd, isi_list_non, isi_list_bl, isi_list_int, isi_list_str, isi_list_tup, isi_list_lst, isi_list_sd, tyi_non, tyi_bl, tyi_int, tyi_str, tyi_tup, tyi_lst, ge_eqT, ge_neT, ge_eqS, ge_neS, ge_inS, ge_ninS, ge_eqLS, ge_neLS, Option.map_some, Bool.not_true, Bool.not_false, Bool.not_not, decide_eq_true_eq, decide_eq_false_iff_not, Bool.not_eq_true', Bool.not_eq_false', Bool.not_eq_true, decide_true, decide_false,
  Int.reduceLT, Nat.reduceLT, Int.reduceLE, Nat.reduceLeDiff, sizeLine_eq, and_self, ite_self, not_false_eq_true, not_true_eq_false, implies_true, imp_self, forall_const, true_implies])

theorem p_ask2 {s : Int} {zs : List S3} (hb : BW 2000000 s) : Ge (m_law_ask2 [.int s, .lst (zs.map sd)]) fun d => ∃ q, d = pd q ∧ OkQ q := by
  refine def_ge rfl ?_
  unfold b_law_ask2
  have m1 : MulOk s 69621 := hb.ok (bw64 (by decide) (by decide)) (by decide)
  have m2 : MulOk s 16807 := hb.ok (bw64 (by decide) (by decide)) (by decide)
  have tail : ∀ (t4 : Int) (a : SV) (x y : Int) (P : Out → Prop), (∀ q, OkQ q → ∀ ρ, P (.rt (pd q) ρ)) → Gv ((sSeq (sIf (bVal (eOp dEq (eOp dMod (eOp dFdiv (eVar 4) (eC (.int 600))) (eC (.int 32))) (eC (.int 3))))
      (sSet 2 (eOp dSub (eC (.int 1)) (eC (.int 1000000000000000000000000000000000000000000000000000000000000))))
      sNext)
    (sSeq (sIf (bVal (eOp dGt (eOp dMod (eOp dFdiv (eVar 4) (eC (.int 600))) (eC (.int 32))) (eC (.int 29))))
      (sSet 3 (eOp dSub (eC (.int 1000000000000000000000000000000000000000000000000000000000000)) (eC (.int 1))))
      sNext)
    (sSeq (sSet 2 (eCall fMax2 (eCons (eOp dSub (eC (.int 1)) (eC (.int 1000000000000000000000000000000000000000000000000000000000000))) (eCons (eCall fMin2 (eCons (eVar 2) (eCons (eOp dSub (eC (.int 1000000000000000000000000000000000000000000000000000000000000)) (eC (.int 1))) eNil))) eNil))))
    (sRet (eTup (eCons (eVar 2) (eCons (eCall fMax2 (eCons (eVar 2) (eCons (eCall fMin2 (eCons (eVar 3) (eCons (eOp dSub (eC (.int 1000000000000000000000000000000000000000000000000000000000000)) (eC (.int 1))) eNil))) eNil))) eNil))))))) [SV.v (.int s), .v (.lst (zs.map sd)), .v (.int x), .v (.int y), .v (.int t4), a]) P := fun t4 a x y P hP => by
    walk_at "ev"
    by_cases c1 : t4 / 600 % 32 = 3
    · rw [if_pos c1]
      by_cases c2 : 29 < t4 / 600 % 32
      · rw [if_pos c2]; exact hP _ (okq_clip _ _) _
      · rw [if_neg c2]; exact hP _ (okq_clip _ _) _
    · rw [if_neg c1]
      by_cases c2 : 29 < t4 / 600 % 32
      · rw [if_pos c2]; exact hP _ (okq_clip _ _) _
      · rw [if_neg c2]; exact hP _ (okq_clip _ _) _
  generalize hR : (sSeq (sIf (bVal (eOp dEq (eOp dMod (eOp dFdiv (eVar 4) (eC (.int 600))) (eC (.int 32))) (eC (.int 3))))
      (sSet 2 (eOp dSub (eC (.int 1)) (eC (.int 1000000000000000000000000000000000000000000000000000000000000))))
      sNext)
    (sSeq (sIf (bVal (eOp dGt (eOp dMod (eOp dFdiv (eVar 4) (eC (.int 600))) (eC (.int 32))) (eC (.int 29))))
      (sSet 3 (eOp dSub (eC (.int 1000000000000000000000000000000000000000000000000000000000000)) (eC (.int 1))))
      sNext)
    (sSeq (sSet 2 (eCall fMax2 (eCons (eOp dSub (eC (.int 1)) (eC (.int 1000000000000000000000000000000000000000000000000000000000000))) (eCons (eCall fMin2 (eCons (eVar 2) (eCons (eOp dSub (eC (.int 1000000000000000000000000000000000000000000000000000000000000)) (eC (.int 1))) eNil))) eNil))))
    (sRet (eTup (eCons (eVar 2) (eCons (eCall fMax2 (eCons (eVar 2) (eCons (eCall fMin2 (eCons (eVar 3) (eCons (eOp dSub (eC (.int 1000000000000000000000000000000000000000000000000000000000000)) (eC (.int 1))) eNil))) eNil))) eNil))))))) = REST at tail ⊢
  clear hR
  walk_at "ev"
  refine ⟨m1, ?_⟩
  have e3 : ∀ (a : SV) (x y : Int), Gv (REST [SV.v (.int s), .v (.lst (zs.map sd)), .v (.int x), .v (.int y), .v (.int (s * 69621 % 1000003)), a]) (fun o => match o with | .rt d' ρ => ∃ q, d' = pd q ∧ OkQ q | .nx ρ => ∃ q, D.non = pd q ∧ OkQ q | x => False) := fun a x y => tail _ a x y _ (fun q h ρ => ⟨q, rfl, h⟩)
  by_cases c1 : 0 < (zs.length : Int)
  · rw [if_pos c1]
    by_cases c2 : 0 < s / 2430 % 4
    · rw [if_pos c2]
      refine ⟨c1, ?_⟩
      rw [at_sd (Int.emod_nonneg _ (by omega)) (Int.emod_lt_of_pos _ c1)]
      walk_at "ev"
      refine ge_sd2 (by omega) fun x => ?_
      walk_at "ev"
      refine ⟨mul64 (by omega) (by omega), ?_⟩
      by_cases c3 : s * 69621 % 1000003 / 19200 % 3 = 0
      · rw [if_pos c3]
        refine ⟨m2, c1, ?_⟩
        rw [at_sd (Int.emod_nonneg _ (by omega)) (Int.emod_lt_of_pos _ c1)]
        walk_at "ev"
        exact e3 _ _ _
      · rw [if_neg c3]
        exact e3 _ _ _
    · rw [if_neg c2]
      exact e3 _ _ _
  · rw [if_neg c1]
    exact e3 _ _ _
theorem looked_len : ∀ (t : T) (lo hi : Int), (looked t lo hi).length ≤ (toL t).length
  | .nil, _, _ => Nat.le_refl _
  | .node l s r h m, lo, hi => by
    show (if m < lo then [] else looked l lo hi ++ .node l s r h m :: (if s.1 ≤ hi then looked r lo hi else [])).length ≤ (toL l ++ s :: toL r).length
    have h1 := looked_len l lo hi
    have h2 := looked_len r lo hi
    rw [List.length_append, List.length_cons]
    split
    · simp
    · rw [List.length_append, List.length_cons]
      split
      · omega
      · simp only [List.length_nil]; omega
theorem imms_box (ts : List T) : D.imms (ts.map D.box) = true := imms_map (fun _ => rfl) _
theorem p_looked_boxes {t : T} {lo hi : Int} (k : Kept t) : m_looked_boxes [.box t, .int lo, .int hi] = some (.lst ((looked t lo hi).map .box)) := by
  refine def_gv rfl ?_
  unfold b_looked_boxes
  walk_at "ev"
  have e : gLooked 180 [D.box t, D.int lo, D.int hi] = some ((looked t lo hi).map .box) := by
    show (if t.dep < 180 then _ else none) = _
    rw [if_pos k.dep]
  have hz := looked_len t lo hi
  have hk := k.len
  refine gv_gath (new := (looked t lo hi).map .box) rfl rfl e (imms_box _) (by rw [List.length_map]; show 0 + _ ≤ sizeLine; rw [sizeLine_eq]; omega) ?_
  walk_at "ev"
theorem p_wood_looked {t : T} {q : Int × Int} (k : Kept t) (hq : OkQ q) : m_Wood_looked [.wood t, .int q.1, .int q.2] = some (.int (looked t q.1 q.2).length) := by
  refine def_gv rfl ?_
  unfold b_Wood_looked
  have hk := k.len
  have hz := looked_len t q.1 q.2
  walk_at "ev"
  rw [p_check_ends hq]
  walk_at "ev"
  simp only [dTop_w]
  walk_at "ev"
  rw [p_looked_boxes k]
  walk_at "ev"
end
end Sp

set_option Elab.async false
set_option linter.all false
set_option maxRecDepth 100000
set_option maxHeartbeats 2000000
namespace Sp
open PySem L2
open Classical
noncomputable section
local macro_rules | `(tactic| walk_at "ev") => `(tactic| try simp only [gv_next, gv_brk, gv_cnt, gv_retN, gv_seq, nx_nx, nx_rt, nx_bk, nx_ct, gv_set, gv_setF, gv_own, gv_ret, gv_drop, gv_retO, gv_if, gv_app, gv_unp, gv_pop, gv_put, gv_par, gv_forF, gv_forN, gv_forT, gv_forR,
  ge_var, ge_c, ge_op, ge_un, gl_nil, gl_cons, ge_call, ge_meth, ge_tup, ge_lst, ge_ii, ge_sl, go_none, go_int, gb_val, gb_truth, gb_and, gb_or, gb_not, gb_yes, ge_and, ge_or, ge_if, ge_chain, ge_some, gb_some, gl_some, go_some, ge_guard, ge_lc, ge_lcT, ge_lcR, ge_eqI, ge_neI, ge_eqB, ge_neB,
  frm, full, SV.full, gt, sgt, setAll, Tg.put, List.map, List.replicate, List.set, List.length_cons, List.length_nil, List.length_append, List.length_map, List.append_nil, List.nil_append, List.cons_append, Nat.sub_self, Nat.reduceAdd, Nat.reduceSub, Nat.zero_add, Nat.add_zero,
  noOwn, List.all_cons, List.all_nil, SV.free, D.imm, D.imms, imm_sd, imms_sd, imm_tupI, Bool.and_true, Bool.true_and, Bool.and_self, Bool.false_and, Bool.and_false, true_or, or_true, or_self, false_or, or_false, true_and, and_true, if_true, if_false, Bool.false_eq_true,
  D.int.injEq, D.bl.injEq, D.lst.injEq, D.tup.injEq, D.str.injEq, D.box.injEq, D.wood.injEq, SV.v.injEq, SV.own.injEq, Option.some.injEq, exists_eq_left', exists_eq_left, exists_and_left, reduceCtorEq, false_and, and_false, exists_false,
  fLen_lst, fLen_tup, fLen_scr, fLen_sd, fMax2_ii, fMin2_ii, fInt1_i, fInt1_b, fListOf_lst, fSorted_sd, fSum_i, dIx_sd0, dIx_sd1, dIx_sd2, dIx_lst, dIx_tup, dIx_scr, atI_0, atI_1, atI_2, atI_3, dSl_lst, dSl_scr, dCat_ll, dRep_l, dNot_b, dNeg_i, dNotBl_b, dNotBl_i, dNotBl_n, dNotBl_s, dNotBl_t, dNotBl_l, dIsN_non, dIsN_int, dIsN_lst, dNotN_non, dNotN_lst, dIsN_nil, dIsN_node, dNotN_nil, dNotN_node, isi_int_non, isi_int_bl, isi_int_int, isi_int_str, isi_int_tup, isi_int_lst, isi_int_sd, isi_bool_non, isi_bool_bl, isi_bool_int, isi_bool_str, isi_bool_tup, isi_bool_lst, isi_bool_sd, isi_tuple_non, isi_tuple_bl, isi_tuple_int, isi_tuple_str, isi_tuple_tup, isi_tuple_lst, isi_tuple_sd, isi_list_non, isi_list_bl, isi_list_int, isi_list_str, isi_list_tup, isi_list_lst, isi_list_sd, tyi_non, tyi_bl, tyi_int, tyi_str, tyi_tup, tyi_lst, ge_eqT, ge_neT, ge_eqS, ge_neS, ge_inS, ge_ninS, ge_eqLS, ge_neLS, Option.map_some, Bool.not_true, Bool.not_false, Bool.not_not, decide_eq_true_eq, decide_eq_false_iff_not, Bool.not_eq_true', Bool.not_eq_false', Bool.not_eq_true, decide_true, decide_false,
  Int.reduceLT, Nat.reduceLT, Int.reduceLE, Nat.reduceLeDiff, sizeLine_eq, and_self, ite_self, not_false_eq_true, not_true_eq_false, implies_true, imp_self, forall_const, true_implies])
local macro_rules | `(tactic| walk_at "st") => `(tactic| try simp only [gv_next, gv_brk, gv_cnt, gv_retN, gv_seq, nx_nx, nx_rt, nx_bk, nx_ct, gv_set, gv_setF, gv_own, gv_ret, gv_drop, gv_retO, gv_app, gv_unp, gv_pop, gv_put, gv_par, gv_forF, gv_forN, gv_forT, gv_forR,
  ge_var, ge_c, ge_op, ge_un, gl_nil, gl_cons, ge_call, ge_meth, ge_tup, ge_lst, ge_ii, ge_sl, go_none, go_int, gb_val, gb_truth, gb_and, gb_or, gb_not, gb_yes, ge_and, ge_or, ge_if, ge_chain, ge_some, gb_some, gl_some, go_some, ge_guard, ge_lc, ge_lcT, ge_lcR, ge_eqI, ge_neI, ge_eqB, ge_neB,
  frm, full, SV.full, gt, sgt, setAll, Tg.put, List.map, List.replicate, List.set, List.length_cons, List.length_nil, List.length_append, List.length_map, List.append_nil, List.nil_append, List.cons_append, Nat.sub_self, Nat.reduceAdd, Nat.reduceSub, Nat.zero_add, Nat.add_zero,
  noOwn, List.all_cons, List.all_nil, SV.free, D.imm, D.imms, imm_sd, imms_sd, imm_tupI, Bool.and_true, Bool.true_and, Bool.and_self, Bool.false_and, Bool.and_false, true_or, or_true, or_self, false_or, or_false, true_and, and_true, if_true, if_false, Bool.false_eq_true,
  D.int.injEq, D.bl.injEq, D.lst.injEq, D.tup.injEq, D.str.injEq, D.box.injEq, D.wood.injEq, SV.v.injEq, SV.own.injEq, Option.some.injEq, exists_eq_left', exists_eq_left, exists_and_left, reduceCtorEq, false_and, and_false, exists_false,
  fLen_lst, fLen_tup, fLen_scr, fLen_sd, fMax2_ii, fMin2_ii, fInt1_i, fInt1_b, fListOf_lst, fSorted_sd, fSum_i, dIx_sd0, dIx_sd1, dIx_sd2, dIx_lst, dIx_tup, dIx_scr, atI_0, atI_1, atI_2, atI_3, dSl_lst, dSl_scr, dCat_ll, dRep_l, dNot_b, dNeg_i, dNotBl_b, dNotBl_i, dNotBl_n, dNotBl_s, dNotBl_t, dNotBl_l, dIsN_non, dIsN_int, dIsN_lst, dNotN_non, dNotN_lst, dIsN_nil, dIsN_node, dNotN_nil, dNotN_node, isi_int_non, isi_int_bl, isi_int_int, isi_int_str, isi_int_tup, isi_int_lst, isi_int_sd, isi_bool_non, isi_bool_bl, isi_bool_int, isi_bool_str, isi_bool_tup, isi_bool_lst, isi_bool_sd, isi_tuple_non, isi_tuple_bl, isi_tuple_int, isi_tuple_str, isi_tuple_tup, isi_tuple_lst, isi_tuple_sd, isi_list_non, isi_list_bl, isi_list_int, isi_list_str, isi_list_tup, isi_list_lst, isi_list_sd, tyi_non, tyi_bl, tyi_int, tyi_str, tyi_tup, tyi_lst, ge_eqT, ge_neT, ge_eqS, ge_neS, ge_inS, ge_ninS, ge_eqLS, ge_neLS, Option.map_some, Bool.not_true, Bool.not_false, Bool.not_not, decide_eq_true_eq, decide_eq_false_iff_not, Bool.not_eq_true', Bool.not_eq_false', Bool.not_eq_true, decide_true, decide_false,
  Int.reduceLT, Nat.reduceLT, Int.reduceLE, Nat.reduceLeDiff, sizeLine_eq, and_self, ite_self, not_false_eq_true, not_true_eq_false, implies_true, imp_self, forall_const, true_implies])

/-! ### where a part of the boxes stands in their row -/
structure Seg (rows : List BRow) (b e : Nat) (d : Int) (t : T) : Prop where
  en : e = b + (toL t).length
  le : e ≤ rows.length
  at' : ∀ i, i < (toL t).length → rows[b + i]? = (placed t d)[i]?
theorem placed_ge : ∀ (t : T) (d : Int), ∀ x ∈ placed t d, d ≤ x.2.1
  | .nil, _, _, h => by cases h
  | .node l s r h m, d, x, hx => by
    have hx' : x ∈ placed l (d + 1) ++ (s, d, h, m) :: placed r (d + 1) := hx
    rcases List.mem_append.mp hx' with h1 | h1
    · have := placed_ge l (d + 1) x h1; omega
    · rcases List.mem_cons.mp h1 with h2 | h2
      · subst h2; exact Int.le_refl _
      · have := placed_ge r (d + 1) x h2; omega
theorem seg_top (t : T) : Seg (placed t 0) 0 (placed t 0).length 0 t := ⟨by rw [placed_len]; omega, Nat.le_refl _, fun i _ => by rw [Nat.zero_add]⟩
section
variable {rows : List BRow} {b e : Nat} {d h m : Int} {l r t : T} {s : S3}
theorem len_node : (toL (.node l s r h m)).length = (toL l).length + 1 + (toL r).length := by
  show (toL l ++ s :: toL r).length = _
  rw [List.length_append, List.length_cons]; omega
theorem Seg.mid (g : Seg rows b e d (.node l s r h m)) : rows[b + (toL l).length]? = some (s, d, h, m) := by
  rw [g.at' _ (by rw [len_node]; omega)]
  show (placed l (d + 1) ++ (s, d, h, m) :: placed r (d + 1))[_]? = _
  rw [List.getElem?_append_right (by rw [placed_len]; omega), placed_len, Nat.sub_self]
  rfl
theorem Seg.left (g : Seg rows b e d (.node l s r h m)) : Seg rows b (b + (toL l).length) (d + 1) l := by
  have e1 := g.en
  have e2 := g.le
  rw [len_node] at e1
  refine ⟨rfl, by omega, fun i hi => ?_⟩
  rw [g.at' _ (by rw [len_node]; omega)]
  show (placed l (d + 1) ++ (s, d, h, m) :: placed r (d + 1))[_]? = _
  rw [List.getElem?_append_left (by rw [placed_len]; omega)]
theorem Seg.right (g : Seg rows b e d (.node l s r h m)) : Seg rows (b + (toL l).length + 1) e (d + 1) r := by
  have e1 := g.en
  have e2 := g.le
  rw [len_node] at e1
  refine ⟨by omega, by omega, fun i hi => ?_⟩
  rw [show b + (toL l).length + 1 + i = b + ((toL l).length + 1 + i) by omega, g.at' _ (by rw [len_node]; omega)]
  show (placed l (d + 1) ++ (s, d, h, m) :: placed r (d + 1))[_]? = _
  rw [List.getElem?_append_right (by rw [placed_len]; omega), placed_len, show (toL l).length + 1 + i - (toL l).length = i + 1 by omega]
  rfl
theorem Seg.before (g : Seg rows b e d (.node l s r h m)) {i : Nat} (hi : i < (toL l).length) : ∃ x, rows[b + i]? = some x ∧ x.2.1 ≠ d := by
  have g2 := g.left.at' i hi
  have hl : i < (placed l (d + 1)).length := by rw [placed_len]; exact hi
  rw [List.getElem?_eq_getElem hl] at g2
  refine ⟨_, g2, ?_⟩
  have := placed_ge l (d + 1) _ (List.getElem_mem hl)
  omega
theorem bd_1 {x : BRow} : dIx (bd x) (.int 1) = some (.int x.2.1) := rfl
theorem bd_0 {x : BRow} : dIx (bd x) (.int 0) = some (sd x.1) := rfl
theorem bd_2 {x : BRow} : dIx (bd x) (.int 2) = some (.int x.2.2.1) := rfl
theorem bd_3 {x : BRow} : dIx (bd x) (.int 3) = some (.int x.2.2.2) := rfl
theorem at_bd {xs : List BRow} {i : Nat} {x : BRow} (h : xs[i]? = some x) : atI (xs.map bd) (i : Int) = some (bd x) := by
  have hi := (List.getElem?_eq_some_iff.mp h).1
  rw [atI_nat' (by rw [List.length_map]; exact hi), List.getElem_map]
  rw [List.getElem?_eq_getElem hi] at h
  rw [Option.some.inj h]
theorem rng2_nat {b e : Nat} (h : e ≤ 16777216) (hb : b ≤ 16777216) : rng2 [.int b, .int e] = some (rng b e) := if_pos ⟨i62_nat hb, i62_nat h⟩
theorem rng_get {b e k : Nat} {d : D} (h : ((rng b e).map D.int)[k]? = some d) : k < e - b ∧ d = .int ((b + k : Nat) : Int) := by
  rw [List.getElem?_map, Option.map_eq_some_iff] at h
  obtain ⟨x, hx, rfl⟩ := h
  unfold rng at hx
  rw [List.getElem?_map, Option.map_eq_some_iff] at hx
  obtain ⟨j, hj, rfl⟩ := hx
  have hk := (List.getElem?_eq_some_iff.mp hj).1
  rw [List.length_range] at hk
  rw [List.getElem?_range hk] at hj
  cases hj
  exact ⟨by omega, by congr 1⟩
theorem rngD_len {b e : Nat} : ((rng b e).map D.int).length = e - b := by
  rw [List.length_map, rng_len]
  omega
def reachO : T → Option Int
  | .nil => none
  | .node _ _ _ _ m => some m
def spotT (b : Nat) : T → Int
  | .nil => -1
  | .node l _ _ _ _ => (b + (toL l).length : Nat)
theorem p_spot (g : Seg rows b e d t) (hr : rows.length ≤ 1000) : m_law_spot [.lst (rows.map bd), .int b, .int e, .int d] = some (.int (spotT b t)) := by
  refine def_gv rfl ?_
  unfold b_law_spot
  have he := g.le
  have hb := g.en
  walk_at "ev"
  refine ⟨_, rng2_nat (by omega) (by omega), ?_⟩
  refine gv_for (fun k ρ => ∃ a, ρ = [SV.v (.lst (rows.map bd)), .v (.int b), .v (.int e), .v (.int d), a] ∧ match t with | .nil => True | .node l _ _ _ _ => k ≤ (toL l).length) ⟨_, rfl, by cases t <;> simp⟩ (fun k x ρ hk ⟨a, eq, hi⟩ => ?_) (fun ρ ⟨a, eq, hi⟩ => ?_)
  · subst eq
    obtain ⟨hk, rfl⟩ := rng_get hk
    cases t with
    | nil => simp [toL] at hb; omega
    | node l s r h m =>
      simp only at hi
      refine ⟨_, rfl, ?_⟩
      walk_at "ev"
      by_cases c : k < (toL l).length
      · obtain ⟨x, hx, hn⟩ := g.before c
        rw [at_bd hx]
        walk_at "ev"
        simp only [bd_1]
        walk_at "ev"
        rw [if_neg hn]
        exact ⟨_, rfl, by omega⟩
      · have ek : k = (toL l).length := by omega
        subst ek
        rw [at_bd g.mid]
        walk_at "ev"
        simp only [bd_1]
        walk_at "ev"
        rfl
  · subst eq
    rw [rngD_len] at hi
    cases t with
    | nil => walk_at "ev"; rfl
    | node l s r h m => simp only [len_node] at hb hi; omega
theorem look_node {lo hi : Int} : (looked (.node l s r h m) lo hi).length = if m < lo then 0 else (looked l lo hi).length + 1 + (if s.1 ≤ hi then (looked r lo hi).length else 0) := by
  show (if m < lo then [] else looked l lo hi ++ .node l s r h m :: (if s.1 ≤ hi then looked r lo hi else [])).length = _
  split
  · rfl
  · rw [List.length_append, List.length_cons]
    split
    · omega
    · simp
theorem reach_ex : ∀ {t : T}, Good t → ∀ m, reachO t = some m → ∃ x ∈ toL t, x.2.1 = m
  | .nil, _, m, e => by cases e
  | .node l s r h m, g, m2, e2 => by
    have e' : m = m2 := Option.some.inj e2
    subst e'
    obtain ⟨gl, gr, _, em, _⟩ := g
    have mem : ∀ x, x ∈ toL (.node l s r h m) ↔ x ∈ toL l ∨ x = s ∨ x ∈ toL r := fun x => by
      show x ∈ toL l ++ s :: toL r ↔ _
      simp
    have hl := reach_ex gl
    have hr := reach_ex gr
    have key : m = s.2.1 ∨ reachO l = some m ∨ reachO r = some m := by
      rw [em]
      cases l <;> cases r <;> simp only [reachT, reachO, Int.max_def] <;> (repeat' split) <;> simp
    rcases key with e | e | e
    · exact ⟨s, (mem s).mpr (.inr (.inl rfl)), e.symm⟩
    · obtain ⟨x, hx, e2⟩ := hl m e
      exact ⟨x, (mem x).mpr (.inl hx), e2⟩
    · obtain ⟨x, hx, e2⟩ := hr m e
      exact ⟨x, (mem x).mpr (.inr (.inr hx)), e2⟩
end
def hitB (lo hi : Int) (w : S3) : Bool := decide (w.1 ≤ hi ∧ lo ≤ w.2.1)
theorem mul_step {n1 n2 k1 k2 k h1 h2 h : Nat} (a : n1 ≤ k1 * h1) (b : n2 ≤ k2 * h2) (c : h1 + 1 ≤ h) (d : h2 + 1 ≤ h) (e : k1 + k2 ≤ k) (f : 0 < k) : 1 + n1 + n2 ≤ k * h := by
  obtain ⟨g, rfl⟩ : ∃ g, h = g + 1 := ⟨h - 1, by omega⟩
  have i1 : k1 * h1 ≤ k1 * g := Nat.mul_le_mul_left _ (by omega)
  have i2 : k2 * h2 ≤ k2 * g := Nat.mul_le_mul_left _ (by omega)
  have i3 : (k1 + k2) * g ≤ k * g := Nat.mul_le_mul_right _ e
  rw [Nat.add_mul] at i3
  rw [Nat.mul_add, Nat.mul_one]
  omega
/-- boxes looked at: those with one that meets under them, and one row of others -/
theorem look_le (lo hi : Int) : ∀ {t : T}, Good t → Srt (toL t) → ∃ n z, (looked t lo hi).length = n + z ∧ n ≤ ((toL t).filter (hitB lo hi)).length * t.dep ∧ z ≤ t.dep ∧ (0 < z → ∃ x ∈ toL t, hi < x.1)
  | .nil, _, _ => ⟨0, 0, rfl, Nat.zero_le _, Nat.zero_le _, fun h => absurd h (by decide)⟩
  | .node l s r h m, g, p => by
    rw [look_node]
    by_cases cm : m < lo
    · rw [if_pos cm]
      exact ⟨0, 0, rfl, Nat.zero_le _, Nat.zero_le _, fun h => absurd h (by decide)⟩
    rw [if_neg cm]
    obtain ⟨p1, p2, p3, p4⟩ := srt_node p
    obtain ⟨n1, z1, e1, a1, b1, c1⟩ := look_le lo hi g.1 p1
    obtain ⟨n2, z2, e2, a2, b2, c2⟩ := look_le lo hi g.2.1 p2
    obtain ⟨x, hx, ex⟩ := reach_ex g m rfl
    have mem : ∀ x, x ∈ toL (.node l s r h m) ↔ x ∈ toL l ∨ x = s ∨ x ∈ toL r := fun x => by
      show x ∈ toL l ++ s :: toL r ↔ _
      simp
    have ek : ((toL (.node l s r h m)).filter (hitB lo hi)).length = ((toL l).filter (hitB lo hi)).length + (if hitB lo hi s = true then 1 else 0) + ((toL r).filter (hitB lo hi)).length := by
      show ((toL l ++ s :: toL r).filter (hitB lo hi)).length = _
      rw [List.filter_append, List.length_append, List.filter_cons]
      split
      · rw [List.length_cons]; omega
      · omega
    have dp : (T.node l s r h m).dep = 1 + max l.dep r.dep := rfl
    generalize hK : ((toL (.node l s r h m)).filter (hitB lo hi)).length = K at *
    generalize hH : (T.node l s r h m).dep = H at *
    have hk12 : ((toL l).filter (hitB lo hi)).length + ((toL r).filter (hitB lo hi)).length ≤ K := by rw [ek]; omega
    -- a row of others on both sides is none
    have hz1 : s.1 ≤ hi → z1 = 0 := fun hs => by
      by_cases c : 0 < z1
      · obtain ⟨y, hy, hy2⟩ := c1 c
        have := p3 y hy
        rw [lt3_iff] at this
        omega
      · omega
    by_cases hs : s.1 ≤ hi
    · rw [if_pos hs]
      have hz := hz1 hs
      by_cases hk : K = 0
      · have k1 : ((toL l).filter (hitB lo hi)).length = 0 := by omega
        have k2 : ((toL r).filter (hitB lo hi)).length = 0 := by omega
        rw [k1, Nat.zero_mul] at a1
        rw [k2, Nat.zero_mul] at a2
        refine ⟨0, 1 + z2, by omega, Nat.zero_le _, by omega, fun _ => ⟨x, hx, ?_⟩⟩
        have : ¬ hitB lo hi x = true := fun hh => by
          have hm : x ∈ (toL (.node l s r h m)).filter (hitB lo hi) := List.mem_filter.mpr ⟨hx, hh⟩
          have := List.length_pos_of_mem hm
          omega
        unfold hitB at this
        rw [decide_eq_true_eq] at this
        omega
      · refine ⟨1 + n1 + n2, z2, by omega, mul_step a1 a2 (by omega) (by omega) hk12 (by omega), by omega, fun hz2 => ?_⟩
        obtain ⟨y, hy, hy2⟩ := c2 hz2
        exact ⟨y, (mem y).mpr (.inr (.inr hy)), hy2⟩
    · rw [if_neg hs]
      by_cases hk : K = 0
      · have k1 : ((toL l).filter (hitB lo hi)).length = 0 := by omega
        rw [k1, Nat.zero_mul] at a1
        exact ⟨0, 1 + z1, by omega, Nat.zero_le _, by omega, fun _ => ⟨s, (mem s).mpr (.inr (.inl rfl)), by omega⟩⟩
      · refine ⟨1 + n1 + 0, z1, by omega, mul_step a1 (k2 := 0) (h2 := 0) (Nat.zero_le _) (by omega) (by omega) (by omega) (by omega), by omega, fun hz1 => ?_⟩
        obtain ⟨y, hy, hy2⟩ := c1 hz1
        exact ⟨y, (mem y).mpr (.inl hy), hy2⟩
theorem look_bound {t : T} (g : Good t) (p : Srt (toL t)) (lo hi : Int) : (looked t lo hi).length ≤ (((toL t).filter (hitB lo hi)).length + 1) * t.dep := by
  obtain ⟨n, z, e, a, b, _⟩ := look_le lo hi g p
  rw [Nat.add_mul, Nat.one_mul]
  omega
end
end Sp

set_option Elab.async false
set_option linter.all false
set_option maxRecDepth 100000
set_option maxHeartbeats 2000000
namespace Sp
open PySem L2
open Classical
noncomputable section
local macro_rules | `(tactic| walk_at "ev") => `(tactic| try simp only [gv_next, gv_brk, gv_cnt, gv_retN, gv_seq, nx_nx, nx_rt, nx_bk, nx_ct, gv_set, gv_setF, gv_own, gv_ret, gv_drop, gv_retO, gv_if, gv_app, gv_unp, gv_pop, gv_put, gv_par, gv_forF, gv_forN, gv_forT, gv_forR,
  ge_var, ge_c, ge_op, ge_un, gl_nil, gl_cons, ge_call, ge_meth, ge_tup, ge_lst, ge_ii, ge_sl, go_none, go_int, gb_val, gb_truth, gb_and, gb_or, gb_not, gb_yes, ge_and, ge_or, ge_if, ge_chain, ge_some, gb_some, gl_some, go_some, ge_guard, ge_lc, ge_lcT, ge_lcR, ge_eqI, ge_neI, ge_eqB, ge_neB,
  frm, full, SV.full, gt, sgt, setAll, Tg.put, List.map, List.replicate, List.set, List.length_cons, List.length_nil, List.length_append, List.length_map, List.append_nil, List.nil_append, List.cons_append, Nat.sub_self, Nat.reduceAdd, Nat.reduceSub, Nat.zero_add, Nat.add_zero,
  noOwn, List.all_cons, List.all_nil, SV.free, D.imm, D.imms, imm_sd, imms_sd, imm_tupI, Bool.and_true, Bool.true_and, Bool.and_self, Bool.false_and, Bool.and_false, true_or, or_true, or_self, false_or, or_false, true_and, and_true, if_true, if_false, Bool.false_eq_true,
  D.int.injEq, D.bl.injEq, D.lst.injEq, D.tup.injEq, D.str.injEq, D.box.injEq, D.wood.injEq, SV.v.injEq, SV.own.injEq, Option.some.injEq, exists_eq_left', exists_eq_left, exists_and_left, reduceCtorEq, false_and, and_false, exists_false,
  fLen_lst, fLen_tup, fLen_scr, fLen_sd, fMax2_ii, fMin2_ii, fInt1_i, fInt1_b, fListOf_lst, fSorted_sd, fSum_i, dIx_sd0, dIx_sd1, dIx_sd2, dIx_lst, dIx_tup, dIx_scr, atI_0, atI_1, atI_2, atI_3, dSl_lst, dSl_scr, dCat_ll, dRep_l, dNot_b, dNeg_i, dNotBl_b, dNotBl_i, dNotBl_n, dNotBl_s, dNotBl_t, dNotBl_l, dIsN_non, dIsN_int, dIsN_lst, dNotN_non, dNotN_lst, dIsN_nil, dIsN_node, dNotN_nil, dNotN_node, isi_int_non, isi_int_bl, isi_int_int, isi_int_str, isi_int_tup, isi_int_lst, isi_int_sd, isi_bool_non, isi_bool_bl, isi_bool_int, isi_bool_str, isi_bool_tup, isi_bool_lst, isi_bool_sd, isi_tuple_non, isi_tuple_bl, isi_tuple_int, isi_tuple_str, isi_tuple_tup, isi_tuple_lst, isi_tuple_sd, isi_list_non, isi_list_bl, isi_list_int, isi_list_str, isi_list_tup, isi_list_lst, isi_list_sd, tyi_non, tyi_bl, tyi_int, tyi_str, tyi_tup, tyi_lst, ge_eqT, ge_neT, ge_eqS, ge_neS, ge_inS, ge_ninS, ge_eqLS, ge_neLS, Option.map_some, Bool.not_true, Bool.not_false, Bool.not_not, decide_eq_true_eq, decide_eq_false_iff_not, Bool.not_eq_true', Bool.not_eq_false', Bool.not_eq_true, decide_true, decide_false,
  Int.reduceLT, Nat.reduceLT, Int.reduceLE, Nat.reduceLeDiff, sizeLine_eq, and_self, ite_self, not_false_eq_true, not_true_eq_false, implies_true, imp_self, forall_const, true_implies])
local macro_rules | `(tactic| walk_at "st") => `(tactic| try simp only [gv_next, gv_brk, gv_cnt, gv_retN, gv_seq, nx_nx, nx_rt, nx_bk, nx_ct, gv_set, gv_setF, gv_own, gv_ret, gv_drop, gv_retO, gv_app, gv_unp, gv_pop, gv_put, gv_par, gv_forF, gv_forN, gv_forT, gv_forR,
  ge_var, ge_c, ge_op, ge_un, gl_nil, gl_cons, ge_call, ge_meth, ge_tup, ge_lst, ge_ii, ge_sl, go_none, go_int, gb_val, gb_truth, gb_and, gb_or, gb_not, gb_yes, ge_and, ge_or, ge_if, ge_chain, ge_some, gb_some, gl_some, go_some, ge_guard, ge_lc, ge_lcT, ge_lcR, ge_eqI, ge_neI, ge_eqB, ge_neB,
  frm, full, SV.full, gt, sgt, setAll, Tg.put, List.map, List.replicate, List.set, List.length_cons, List.length_nil, List.length_append, List.length_map, List.append_nil, List.nil_append, List.cons_append, Nat.sub_self, Nat.reduceAdd, Nat.reduceSub, Nat.zero_add, Nat.add_zero,
  noOwn, List.all_cons, List.all_nil, SV.free, D.imm, D.imms, imm_sd, imms_sd, imm_tupI, Bool.and_true, Bool.true_and, Bool.and_self, Bool.false_and, Bool.and_false, true_or, or_true, or_self, false_or, or_false, true_and, and_true, if_true, if_false, Bool.false_eq_true,
  D.int.injEq, D.bl.injEq, D.lst.injEq, D.tup.injEq, D.str.injEq, D.box.injEq, D.wood.injEq, SV.v.injEq, SV.own.injEq, Option.some.injEq, exists_eq_left', exists_eq_left, exists_and_left, reduceCtorEq, false_and, and_false, exists_false,
  fLen_lst, fLen_tup, fLen_scr, fLen_sd, fMax2_ii, fMin2_ii, fInt1_i, fInt1_b, fListOf_lst, fSorted_sd, fSum_i, dIx_sd0, dIx_sd1, dIx_sd2, dIx_lst, dIx_tup, dIx_scr, atI_0, atI_1, atI_2, atI_3, dSl_lst, dSl_scr, dCat_ll, dRep_l, dNot_b, dNeg_i, dNotBl_b, dNotBl_i, dNotBl_n, dNotBl_s, dNotBl_t, dNotBl_l, dIsN_non, dIsN_int, dIsN_lst, dNotN_non, dNotN_lst, dIsN_nil, dIsN_node, dNotN_nil, dNotN_node, isi_int_non, isi_int_bl, isi_int_int, isi_int_str, isi_int_tup, isi_int_lst, isi_int_sd, isi_bool_non, isi_bool_bl, isi_bool_int, isi_bool_str, isi_bool_tup, isi_bool_lst, isi_bool_sd, isi_tuple_non, isi_tuple_bl, isi_tuple_int, isi_tuple_str, isi_tuple_tup, isi_tuple_lst, isi_tuple_sd, isi_list_non, isi_list_bl, isi_list_int, isi_list_str, isi_list_tup, isi_list_lst, isi_list_sd, tyi_non, tyi_bl, tyi_int, tyi_str, tyi_tup, tyi_lst, ge_eqT, ge_neT, ge_eqS, ge_neS, ge_inS, ge_ninS, ge_eqLS, ge_neLS, Option.map_some, Bool.not_true, Bool.not_false, Bool.not_not, decide_eq_true_eq, decide_eq_false_iff_not, Bool.not_eq_true', Bool.not_eq_false', Bool.not_eq_true, decide_true, decide_false,
  Int.reduceLT, Nat.reduceLT, Int.reduceLE, Nat.reduceLeDiff, sizeLine_eq, and_self, ite_self, not_false_eq_true, not_true_eq_false, implies_true, imp_self, forall_const, true_implies])

/-! ### the law's own walk over the boxes -/
structure Part (rows : List BRow) (p : S3 × T) : Prop where
  ex : ∃ (b e : Nat) (d : Int), p.1 = ((b : Int), (e : Int), d) ∧ Seg rows b e d p.2
def szT (t : T) : Nat := 2 * (toL t).length + 1
theorem parts_le : ∀ (ps : List (S3 × T)), ps.length ≤ (ps.map fun p => szT p.2).sum
  | [] => Nat.le_refl _
  | p :: ps => by
    have := parts_le ps
    rw [List.length_cons, List.map_cons, List.sum_cons]
    unfold szT at *
    omega
theorem at_mid {dn tl : List S3} {z : S3} {k : Nat} (h : dn.length = k) : atI ((dn ++ z :: tl).map sd) (k : Int) = some (sd z) := by
  subst h
  rw [atI_nat' (by rw [List.length_map, List.length_append, List.length_cons]; omega), List.getElem_map, List.getElem_append_right (Nat.le_refl _)]
  simp
theorem sd_tup (z : S3) : sd z = .tup [.int z.1, .int z.2.1, .int z.2.2] := rfl
theorem pd_0 {q : Int × Int} : dIx (pd q) (.int 0) = some (.int q.1) := rfl
theorem pd_1 {q : Int × Int} : dIx (pd q) (.int 1) = some (.int q.2) := rfl
theorem sum_app (f : S3 × T → Nat) (a b : List (S3 × T)) : ((a ++ b).map f).sum = (a.map f).sum + (b.map f).sum := by rw [List.map_append, List.sum_append]
theorem p_law_looked {t : T} {q : Int × Int} (hr : (toL t).length ≤ 500) : m_law_looked [.lst ((placed t 0).map bd), pd q] = some (.int (looked t q.1 q.2).length) := by
  refine def_gv rfl ?_
  unfold b_law_looked
  have hl := placed_len t 0
  generalize hrows : placed t 0 = rows at *
  have g0 : Seg rows 0 rows.length 0 t := by rw [← hrows]; exact seg_top t
  walk_at "ev"
  refine ⟨mul64 (by omega) (by omega), _, rng1_nat (n := 2 * rows.length + 1) (by omega), ?_⟩
  rw [map_dint]
  refine gv_for (fun k ρ => ∃ (dn : List S3) (ps : List (S3 × T)) (many : Nat) (a4 a5 a6 a7 a8 : SV), ρ = [.v (.lst (rows.map bd)), .v (pd q), .own ((dn ++ ps.map (·.1)).map sd), .v (.int many), a4, a5, a6, a7, a8] ∧ dn.length = k ∧ (∀ p ∈ ps, Part rows p) ∧
    many + (ps.map fun p => (looked p.2 q.1 q.2).length).sum = (looked t q.1 q.2).length ∧ k + (ps.map fun p => szT p.2).sum ≤ 2 * rows.length + 1)
    ⟨[], [((0, rows.length, 0), t)], 0, _, _, _, _, _, rfl, rfl, fun p hp => ?_, by simp, by simp [szT]; omega⟩ (fun k x ρ hk ⟨dn, ps, many, a4, a5, a6, a7, a8, eq, hd, hp, hs, hz⟩ => ?_) (fun ρ ⟨dn, ps, many, a4, a5, a6, a7, a8, eq, hd, hp, hs, hz⟩ => ?_)
  · rw [List.mem_singleton] at hp
    subst hp
    exact ⟨0, _, 0, rfl, g0⟩
  · subst eq
    rw [List.getElem?_map, Option.map_eq_some_iff] at hk
    obtain ⟨j, hj, rfl⟩ := hk
    have hjl := (List.getElem?_eq_some_iff.mp hj).1
    rw [List.length_range] at hjl
    rw [List.getElem?_range hjl] at hj
    cases hj
    refine ⟨_, rfl, ?_⟩
    have hle := parts_le ps
    cases ps with
    | nil =>
      walk_at "ev"
      rw [if_pos (by simp; omega)]
      simp at hs
      rw [hs]
    | cons p ps =>
      obtain ⟨⟨b, e, d⟩, tt⟩ := p
      obtain ⟨⟨b', e', d', e1, g⟩⟩ := hp _ List.mem_cons_self
      cases e1
      simp only [List.map_cons, List.sum_cons, List.length_cons] at hs hz hle
      simp only [List.map_cons]
      walk_at "ev"
      rw [if_neg (by simp; omega), at_mid hd]
      simp only [sd_tup]
      walk_at "ev"
      rw [p_spot g (by omega)]
      walk_at "ev"
      have hps : ∀ p ∈ ps, Part rows p := fun p h => hp p (List.mem_cons_of_mem _ h)
      cases tt with
      | nil =>
        rw [show spotT b' T.nil = -1 from rfl, if_neg (by decide)]
        refine ⟨dn ++ [((b' : Int), (e' : Int), d)], ps, many, SV.v (.int (k : Nat)), .v (.int (b' : Nat)), .v (.int (e' : Nat)), .v (.int d), .v (.int (-1)), by simp [sd], by simp [hd], hps, ?_, ?_⟩
        · have : (looked .nil q.1 q.2).length = 0 := rfl
          omega
        · have : szT T.nil = 1 := rfl
          omega
      | node l s r h m =>
        rw [show spotT b' (T.node l s r h m) = ((b' + (toL l).length : Nat) : Int) from rfl, if_pos (by omega), at_bd g.mid]
        walk_at "ev"
        simp only [bd_3, pd_0]
        walk_at "ev"
        rw [look_node] at hs
        have hsz : szT (.node l s r h m) = szT l + szT r + 1 := by unfold szT; rw [len_node]; omega
        rw [hsz] at hz
        by_cases cm : m < q.1
        · rw [if_pos cm] at hs
          rw [if_neg (by omega)]
          exact ⟨dn ++ [((b' : Int), (e' : Int), d)], ps, many, SV.v (.int (k : Nat)), .v (.int (b' : Nat)), .v (.int (e' : Nat)), .v (.int d), .v (.int ((b' + (toL l).length : Nat) : Int)), by simp [sd], by simp [hd], hps, by omega, by omega⟩
        · rw [if_neg cm] at hs
          rw [if_pos (by omega)]
          refine ⟨by omega, ?_⟩
          simp only [bd_0, pd_1]
          walk_at "ev"
          by_cases cs : s.1 ≤ q.2
          · rw [if_pos cs] at hs ⊢
            refine ⟨by omega, dn ++ [((b' : Int), (e' : Int), d)], ps ++ [(((b' : Int), ((b' + (toL l).length : Nat) : Int), d + 1), l), ((((b' + (toL l).length : Nat) : Int) + 1, (e' : Int), d + 1), r)], many + 1, SV.v (.int (k : Nat)), .v (.int (b' : Nat)), .v (.int (e' : Nat)), .v (.int d), .v (.int ((b' + (toL l).length : Nat) : Int)), ?_, by simp [hd], ?_, ?_, ?_⟩
            · simp [sd]
            · intro p hp2
              rcases List.mem_append.mp hp2 with h2 | h2
              · exact hps p h2
              · simp only [List.mem_cons, List.mem_singleton, List.not_mem_nil, or_false] at h2
                rcases h2 with rfl | rfl
                · exact ⟨_, _, _, rfl, g.left⟩
                · exact ⟨b' + (toL l).length + 1, _, _, rfl, g.right⟩
            · rw [sum_app]
              simp
              omega
            · rw [sum_app]
              simp
              omega
          · rw [if_neg cs] at hs ⊢
            refine ⟨dn ++ [((b' : Int), (e' : Int), d)], ps ++ [(((b' : Int), ((b' + (toL l).length : Nat) : Int), d + 1), l)], many + 1, SV.v (.int (k : Nat)), .v (.int (b' : Nat)), .v (.int (e' : Nat)), .v (.int d), .v (.int ((b' + (toL l).length : Nat) : Int)), ?_, by simp [hd], ?_, ?_, ?_⟩
            · simp [sd]
            · intro p hp2
              rcases List.mem_append.mp hp2 with h2 | h2
              · exact hps p h2
              · rw [List.mem_singleton] at h2
                subst h2
                exact ⟨_, _, _, rfl, g.left⟩
            · rw [sum_app]
              simp
              omega
            · rw [sum_app]
              simp
              omega
  · subst eq
    rw [List.length_map, List.length_range] at hz
    have hle := parts_le ps
    have : ps = [] := by
      cases ps with
      | nil => rfl
      | cons p ps => simp only [List.map_cons, List.sum_cons] at hz; unfold szT at hz; omega
    subst this
    simp at hs
    walk_at "ev"
    rw [hs]
end
end Sp

set_option Elab.async false
set_option linter.all false
set_option maxRecDepth 100000
set_option maxHeartbeats 2000000
namespace Sp
open PySem L2
open Classical
noncomputable section
local macro_rules | `(tactic| walk_at "ev") => `(tactic| try simp only [gv_next, gv_brk, gv_cnt, gv_retN, gv_seq, nx_nx, nx_rt, nx_bk, nx_ct, gv_set, gv_setF, gv_own, gv_ret, gv_drop, gv_retO, gv_if, gv_app, gv_unp, gv_pop, gv_put, gv_par, gv_forF, gv_forN, gv_forT, gv_forR,
  ge_var, ge_c, ge_op, ge_un, gl_nil, gl_cons, ge_call, ge_meth, ge_tup, ge_lst, ge_ii, ge_sl, go_none, go_int, gb_val, gb_truth, gb_and, gb_or, gb_not, gb_yes, ge_and, ge_or, ge_if, ge_chain, ge_some, gb_some, gl_some, go_some, ge_guard, ge_lc, ge_lcT, ge_lcR, ge_eqI, ge_neI, ge_eqB, ge_neB,
  frm, full, SV.full, gt, sgt, setAll, Tg.put, List.map, List.replicate, List.set, List.length_cons, List.length_nil, List.length_append, List.length_map, List.append_nil, List.nil_append, List.cons_append, Nat.sub_self, Nat.reduceAdd, Nat.reduceSub, Nat.zero_add, Nat.add_zero,
  noOwn, List.all_cons, List.all_nil, SV.free, D.imm, D.imms, imm_sd, imms_sd, imm_tupI, Bool.and_true, Bool.true_and, Bool.and_self, Bool.false_and, Bool.and_false, true_or, or_true, or_self, false_or, or_false, true_and, and_true, if_true, if_false, Bool.false_eq_true,
  D.int.injEq, D.bl.injEq, D.lst.injEq, D.tup.injEq, D.str.injEq, D.box.injEq, D.wood.injEq, SV.v.injEq, SV.own.injEq, Option.some.injEq, exists_eq_left', exists_eq_left, exists_and_left, reduceCtorEq, false_and, and_false, exists_false,
  fLen_lst, fLen_tup, fLen_scr, fLen_sd, fMax2_ii, fMin2_ii, fInt1_i, fInt1_b, fListOf_lst, fSorted_sd, fSum_i, dIx_sd0, dIx_sd1, dIx_sd2, dIx_lst, dIx_tup, dIx_scr, atI_0, atI_1, atI_2, atI_3, dSl_lst, dSl_scr, dCat_ll, dRep_l, dNot_b, dNeg_i, dNotBl_b, dNotBl_i, dNotBl_n, dNotBl_s, dNotBl_t, dNotBl_l, dIsN_non, dIsN_int, dIsN_lst, dNotN_non, dNotN_lst, dIsN_nil, dIsN_node, dNotN_nil, dNotN_node, isi_int_non, isi_int_bl, isi_int_int, isi_int_str, isi_int_tup, isi_int_lst, isi_int_sd, isi_bool_non, isi_bool_bl, isi_bool_int, isi_bool_str, isi_bool_tup, isi_bool_lst, isi_bool_sd, isi_tuple_non, isi_tuple_bl, isi_tuple_int, isi_tuple_str, isi_tuple_tup, isi_tuple_lst, isi_tuple_sd, isi_list_non, isi_list_bl, isi_list_int, isi_list_str, isi_list_tup, isi_list_lst, isi_list_sd, tyi_non, tyi_bl, tyi_int, tyi_str, tyi_tup, tyi_lst, ge_eqT, ge_neT, ge_eqS, ge_neS, ge_inS, ge_ninS, ge_eqLS, ge_neLS, Option.map_some, Bool.not_true, Bool.not_false, Bool.not_not, decide_eq_true_eq, decide_eq_false_iff_not, Bool.not_eq_true', Bool.not_eq_false', Bool.not_eq_true, decide_true, decide_false,
  Int.reduceLT, Nat.reduceLT, Int.reduceLE, Nat.reduceLeDiff, sizeLine_eq, and_self, ite_self, not_false_eq_true, not_true_eq_false, implies_true, imp_self, forall_const, true_implies])
local macro_rules | `(tactic| walk_at "st") => `(tactic| try simp only [gv_next, gv_brk, gv_cnt, gv_retN, gv_seq, nx_nx, nx_rt, nx_bk, nx_ct, gv_set, gv_setF, gv_own, gv_ret, gv_drop, gv_retO, gv_app, gv_unp, gv_pop, gv_put, gv_par, gv_forF, gv_forN, gv_forT, gv_forR,
  ge_var, ge_c, ge_op, ge_un, gl_nil, gl_cons, ge_call, ge_meth, ge_tup, ge_lst, ge_ii, ge_sl, go_none, go_int, gb_val, gb_truth, gb_and, gb_or, gb_not, gb_yes, ge_and, ge_or, ge_if, ge_chain, ge_some, gb_some, gl_some, go_some, ge_guard, ge_lc, ge_lcT, ge_lcR, ge_eqI, ge_neI, ge_eqB, ge_neB,
  frm, full, SV.full, gt, sgt, setAll, Tg.put, List.map, List.replicate, List.set, List.length_cons, List.length_nil, List.length_append, List.length_map, List.append_nil, List.nil_append, List.cons_append, Nat.sub_self, Nat.reduceAdd, Nat.reduceSub, Nat.zero_add, Nat.add_zero,
  noOwn, List.all_cons, List.all_nil, SV.free, D.imm, D.imms, imm_sd, imms_sd, imm_tupI, Bool.and_true, Bool.true_and, Bool.and_self, Bool.false_and, Bool.and_false, true_or, or_true, or_self, false_or, or_false, true_and, and_true, if_true, if_false, Bool.false_eq_true,
  D.int.injEq, D.bl.injEq, D.lst.injEq, D.tup.injEq, D.str.injEq, D.box.injEq, D.wood.injEq, SV.v.injEq, SV.own.injEq, Option.some.injEq, exists_eq_left', exists_eq_left, exists_and_left, reduceCtorEq, false_and, and_false, exists_false,
  fLen_lst, fLen_tup, fLen_scr, fLen_sd, fMax2_ii, fMin2_ii, fInt1_i, fInt1_b, fListOf_lst, fSorted_sd, fSum_i, dIx_sd0, dIx_sd1, dIx_sd2, dIx_lst, dIx_tup, dIx_scr, atI_0, atI_1, atI_2, atI_3, dSl_lst, dSl_scr, dCat_ll, dRep_l, dNot_b, dNeg_i, dNotBl_b, dNotBl_i, dNotBl_n, dNotBl_s, dNotBl_t, dNotBl_l, dIsN_non, dIsN_int, dIsN_lst, dNotN_non, dNotN_lst, dIsN_nil, dIsN_node, dNotN_nil, dNotN_node, isi_int_non, isi_int_bl, isi_int_int, isi_int_str, isi_int_tup, isi_int_lst, isi_int_sd, isi_bool_non, isi_bool_bl, isi_bool_int, isi_bool_str, isi_bool_tup, isi_bool_lst, isi_bool_sd, isi_tuple_non, isi_tuple_bl, isi_tuple_int, isi_tuple_str, isi_tuple_tup, isi_tuple_lst, isi_tuple_sd, isi_list_non, isi_list_bl, isi_list_int, isi_list_str, isi_list_tup, isi_list_lst, isi_list_sd, tyi_non, tyi_bl, tyi_int, tyi_str, tyi_tup, tyi_lst, ge_eqT, ge_neT, ge_eqS, ge_neS, ge_inS, ge_ninS, ge_eqLS, ge_neLS, Option.map_some, Bool.not_true, Bool.not_false, Bool.not_not, decide_eq_true_eq, decide_eq_false_iff_not, Bool.not_eq_true', Bool.not_eq_false', Bool.not_eq_true, decide_true, decide_false,
  Int.reduceLT, Nat.reduceLT, Int.reduceLE, Nat.reduceLeDiff, sizeLine_eq, and_self, ite_self, not_false_eq_true, not_true_eq_false, implies_true, imp_self, forall_const, true_implies])

theorem gv_newW {i : Nat} {ρ : SEnv} {P : Out → Prop} : Gv (sNewW i ρ) P ↔ P (.nx (ρ.set i (.wd none .nil))) := gv_some
theorem Runs.fun' {ds : List Deed} {S1 : List S3} (h : Runs ds S1) : ∀ {S2 : List S3}, Runs ds S2 → S2 = S1 := by
  induction h with
  | nil =>
    intro S2 h2
    generalize hx : ([] : List Deed) = xs at h2
    cases h2 with
    | nil => rfl
    | snoc h w => simp at hx
  | snoc h w ih =>
    intro S2 h2
    obtain ⟨S3, h3, _, rfl⟩ := h2.inv
    rw [ih h3]
/-! ### the wood behind some of the deeds -/
structure At (ds : List Deed) (k : Nat) (t : T) : Prop where
  ex : ∃ S, Runs (ds.take k) S ∧ ∀ z, z ∈ toL t ↔ z ∈ S
  good : Good t
  srt : Srt (toL t)
  len : (toL t).length ≤ k
theorem At.zero (ds : List Deed) : At ds 0 .nil := ⟨⟨[], by simpa using Runs.nil, fun z => Iff.rfl⟩, trivial, List.Pairwise.nil, Nat.le_refl _⟩
section
variable {ds : List Deed} {k : Nat} {t : T} {S : List S3}
theorem At.kept (h : At ds k t) (hk : k < 900) : Kept t := ⟨h.good, h.srt, Nat.lt_of_le_of_lt h.len hk⟩
theorem At.ok (h : At ds k t) : ∀ z ∈ toL t, Okay3 z := fun z hz => by
  obtain ⟨S, R, e⟩ := h.ex
  exact R.ok z ((e z).mp hz)
theorem At.step (R : Runs ds S) (hk : k < ds.length) (h8 : k < 800) (h : At ds k t) : ∃ t', fDo t [dd ds[k]] = some (.ok (t', .bl true)) ∧ At ds (k + 1) t' ∧ m_law_behind [.lst ((toL t).map sd), dd ds[k]] = some (.lst ((toL t').map sd)) ∧
    ∃ S1, wordOk S1 ds[k] ∧ (∀ z, z ∈ toL t ↔ z ∈ S1) ∧ (∀ z, z ∈ toL t' ↔ z ∈ stepS S1 ds[k]) := by
  obtain ⟨S1, r1, w, r2⟩ := R.at hk
  obtain ⟨S2, r3, e⟩ := h.ex
  have : S2 = S1 := (r1.fun' r3)
  subst this
  have kt := h.kept (by omega)
  have hw := w.2
  obtain ⟨h1, h2⟩ := did_ok kt w e
  have sx : PyData.strOk ds[k].1 = true ∧ PyData.strOk ds[k].2.2 = true := by
    rcases hw with ⟨h1, h2⟩ | ⟨h1, h2⟩ <;> rw [h1, h2] <;> split <;> exact ⟨by decide +kernel, by decide +kernel⟩
  refine ⟨(didT ds[k].1 ds[k].2.1 ds[k].2.2 t).1, ?_, ⟨⟨_, r2, h2.same⟩, h2.good, h2.srt, Nat.le_trans h2.len (by have := h.len; omega)⟩, ?_, S2, w, e, h2.same⟩
  · unfold dd
    rw [fDo_deed kt w.1 sx.1 sx.2, h1]
  · rw [p_behind2 (by have := h.len; omega) w, h2.beh]
end
theorem at_dd {ds : List Deed} {k : Nat} (h : k < ds.length) : atI (ds.map dd) (k : Int) = some (dd ds[k]) := by
  rw [atI_nat' (by rw [List.length_map]; exact h), List.getElem_map]
theorem imm_dd (e : Deed) : (dd e).imm = true := rfl
theorem nws_map {α : Type} {f : α → D} (h : ∀ x, (f x).nw = true) : ∀ xs : List α, D.nws (xs.map f) = true
  | [] => rfl
  | x :: xs => by rw [List.map_cons, D.nws, h x, nws_map h xs]; rfl
theorem nw_dds (ds : List Deed) : (D.lst (ds.map dd)).nw = true := by rw [D.nw]; exact nws_map (fun _ => rfl) _
theorem nw_sds (zs : List S3) : (D.lst (zs.map sd)).nw = true := by rw [D.nw]; exact nws_map (fun _ => rfl) _
theorem noL_v {d : D} : (SV.v d).noL = true := rfl
theorem noL_wd {a : Option Addr} {t : T} : (SV.wd a t).noL = true := rfl
theorem noL_no : SV.no.noL = true := rfl
/-! ### k09 -/
theorem p_quick {t : T} {s : Int} (k : Kept t) (hb : ∀ j : Nat, j < 4 → BW 2000000 (s + 48271 * j)) (hl : (toL t).length ≤ 500) : m_law_quick [.wood t, .lst ((toL t).map sd), .int s] = some (.bl true) := by
  refine def_gv rfl ?_
  unfold b_law_quick
  have ed := good_dep k.good
  have hle := least_le k.good
  have hsz := dep_lt k.good (by omega)
  have hdl : t.dep ≤ (toL t).length := by
    refine Nat.le_trans ?_ hle
    have : ∀ n, n ≤ leastN n ∧ n + 1 ≤ leastN (n + 1) := fun n => by
      induction n with
      | zero => exact ⟨Nat.le_refl _, Nat.le_refl _⟩
      | succ n ih => exact ⟨ih.2, by rw [leastN]; omega⟩
    exact (this _).1
  have hpl := placed_len t 0
  walk_at "ev"
  rw [p_boxes k]
  walk_at "ev"
  rw [p_height, ← ed]
  walk_at "ev"
  simp only [ge_is_int]
  walk_at "ev"
  rw [if_neg (by omega), if_neg (by omega), p_least (by omega)]
  walk_at "ev"
  rw [if_neg (by omega)]
  walk_at "ev"
  refine ⟨_, rng1_nat (n := 4) (by omega), ?_⟩
  rw [map_dint]
  refine gv_for (fun _ ρ => ∃ a5 a6 a7 a8 a9, ρ = [SV.v (.wood t), .v (.lst ((toL t).map sd)), .v (.int s), .v (.lst ((placed t 0).map bd)), .v (.int t.dep), a5, a6, a7, a8, a9]) ⟨_, _, _, _, _, rfl⟩ (fun n x ρ hk ⟨a5, a6, a7, a8, a9, eq⟩ => ?_) (fun ρ ⟨a5, a6, a7, a8, a9, eq⟩ => ?_)
  · subst eq
    rw [List.getElem?_map, Option.map_eq_some_iff] at hk
    obtain ⟨j, hj, rfl⟩ := hk
    have hjl := (List.getElem?_eq_some_iff.mp hj).1
    rw [List.length_range] at hjl
    rw [List.getElem?_range hjl] at hj
    cases hj
    refine ⟨_, rfl, ?_⟩
    have rest : ∀ (q : Int × Int) (a7 a8 a9 : SV) (P : Out → Prop), OkQ q → (∀ ρ, (∃ a5 a6 a7 a8 a9, ρ = [SV.v (.wood t), .v (.lst ((toL t).map sd)), .v (.int s), .v (.lst ((placed t 0).map bd)), .v (.int t.dep), a5, a6, a7, a8, a9]) → P (.nx ρ)) →
      Gv ((sSeq (sSet 7 (eMeth m_Wood_looked (eVar 0) (eCons (eOp dIx (eVar 6) (eC (.int 0))) (eCons (eOp dIx (eVar 6) (eC (.int 1))) eNil))))
        (sSeq (sSet 8 (eCall fLen (eCons (eLc 9 (eVar 1) (bAnd (bVal (eOp dLe (eOp dIx (eVar 9) (eC (.int 0))) (eOp dIx (eVar 6) (eC (.int 1))))) (bVal (eOp dLe (eOp dIx (eVar 6) (eC (.int 0))) (eOp dIx (eVar 9) (eC (.int 1)))))) (eVar 9)) eNil)))
        (sIf (bOr (bNot (bVal (eCall m_law_is_int (eCons (eVar 7) eNil)))) (bOr (bVal (eOp dNe (eVar 7) (eCall m_law_looked (eCons (eVar 3) (eCons (eVar 6) eNil))))) (bVal (eOp dGt (eVar 7) (eOp dMul (eOp dAdd (eVar 8) (eC (.int 1))) (eVar 4))))))
          (sRet (eC (.bl false)))
          sNext))) [SV.v (.wood t), .v (.lst ((toL t).map sd)), .v (.int s), .v (.lst ((placed t 0).map bd)), .v (.int t.dep), .v (.int n), .v (pd q), a7, a8, a9]) P := fun q a7 a8 a9 P hq hP => by
      walk_at "ev"
      simp only [pd_0, pd_1]
      walk_at "ev"
      rw [p_wood_looked k hq]
      walk_at "ev"
      refine ⟨by omega, gl_lcS (hitB q.1 q.2) (by simp) (fun w hw => ?_) ?_⟩
      · walk_at "ev"
        simp only [pd_0, pd_1]
        walk_at "ev"
        unfold hitB
        by_cases c1 : w.1 ≤ q.2
        · rw [if_pos c1]; simp [c1]
        · rw [if_neg c1]; simp [c1]
      have hbd := look_bound k.good k.srt q.1 q.2
      have hfl := List.length_filter_le (hitB q.1 q.2) (toL t)
      generalize (toL t).filter (hitB q.1 q.2) = F at *
      walk_at "ev"
      simp only [ge_is_int]
      walk_at "ev"
      rw [p_law_looked hl]
      walk_at "ev"
      refine ⟨mul64 (by omega) (by omega), ?_⟩
      rw [if_neg (by
        have : (((F.length + 1) * t.dep : Nat) : Int) = ((F.length : Int) + 1) * (t.dep : Int) := by rw [Int.natCast_mul]; rfl
        omega)]
      exact hP _ ⟨_, _, _, _, _, rfl⟩
    generalize hR : (sSeq (sSet 7 (eMeth m_Wood_looked (eVar 0) (eCons (eOp dIx (eVar 6) (eC (.int 0))) (eCons (eOp dIx (eVar 6) (eC (.int 1))) eNil)))) _) = REST at rest ⊢
    clear hR
    walk_at "ev"
    refine ⟨mul64 (by omega) (by omega), ?_⟩
    obtain ⟨d1, ed1, q1, rfl, hq1⟩ := p_ask2 (s := s + 48271 * (n : Int)) (zs := toL t) (hb n hjl)
    obtain ⟨d2, ed2, q2, rfl, hq2⟩ := p_ask2 (s := s + 48271 * (n : Int)) (zs := []) (hb n hjl)
    rw [ed1]
    walk_at "ev"
    by_cases c : (n : Int) < 2
    · rw [if_pos c]
      have ed2' : m_law_ask2 [D.int (s + 48271 * (n : Int)), D.lst []] = some (pd q2) := ed2
      rw [ed2']
      walk_at "ev"
      refine ⟨.inl rfl, mul64 (by omega) (by omega), .inl rfl, rest q2 _ _ _ _ hq2 fun ρ h => ?_⟩
      exact h
    · rw [if_neg c]
      refine ⟨.inl rfl, rest q1 _ _ _ _ hq1 fun ρ h => ?_⟩
      exact h
  · subst eq
    walk_at "ev"
end
end Sp

set_option Elab.async false
set_option linter.all false
set_option maxRecDepth 100000
set_option maxHeartbeats 2000000
namespace Sp
open PySem L2
open Classical
noncomputable section
local macro_rules | `(tactic| walk_at "ev") => `(tactic| try simp only [gv_next, gv_brk, gv_cnt, gv_retN, gv_seq, nx_nx, nx_rt, nx_bk, nx_ct, gv_set, gv_setF, gv_own, gv_ret, gv_drop, gv_retO, gv_if, gv_app, gv_unp, gv_pop, gv_put, gv_par, gv_forF, gv_forN, gv_forT, gv_forR,
  ge_var, ge_c, ge_op, ge_un, gl_nil, gl_cons, ge_call, ge_meth, ge_tup, ge_lst, ge_ii, ge_sl, go_none, go_int, gb_val, gb_truth, gb_and, gb_or, gb_not, gb_yes, ge_and, ge_or, ge_if, ge_chain, ge_some, gb_some, gl_some, go_some, ge_guard, ge_lc, ge_lcT, ge_lcR, ge_eqI, ge_neI, ge_eqB, ge_neB,
  frm, full, SV.full, gt, sgt, setAll, Tg.put, List.map, List.replicate, List.set, List.length_cons, List.length_nil, List.length_append, List.length_map, List.append_nil, List.nil_append, List.cons_append, Nat.sub_self, Nat.reduceAdd, Nat.reduceSub, Nat.zero_add, Nat.add_zero,
  noOwn, List.all_cons, List.all_nil, SV.free, D.imm, D.imms, imm_sd, imms_sd, imm_tupI, Bool.and_true, Bool.true_and, Bool.and_self, Bool.false_and, Bool.and_false, true_or, or_true, or_self, false_or, or_false, true_and, and_true, if_true, if_false, Bool.false_eq_true,
  D.int.injEq, D.bl.injEq, D.lst.injEq, D.tup.injEq, D.str.injEq, D.box.injEq, D.wood.injEq, SV.v.injEq, SV.own.injEq, Option.some.injEq, exists_eq_left', exists_eq_left, exists_and_left, reduceCtorEq, false_and, and_false, exists_false,
  fLen_lst, fLen_tup, fLen_scr, fLen_sd, fMax2_ii, fMin2_ii, fInt1_i, fInt1_b, fListOf_lst, fSorted_sd, fSum_i, dIx_sd0, dIx_sd1, dIx_sd2, dIx_lst, dIx_tup, dIx_scr, atI_0, atI_1, atI_2, atI_3, dSl_lst, dSl_scr, dCat_ll, dRep_l, dNot_b, dNeg_i, dNotBl_b, dNotBl_i, dNotBl_n, dNotBl_s, dNotBl_t, dNotBl_l, dIsN_non, dIsN_int, dIsN_lst, dNotN_non, dNotN_lst, dIsN_nil, dIsN_node, dNotN_nil, dNotN_node, isi_int_non, isi_int_bl, isi_int_int, isi_int_str, isi_int_tup, isi_int_lst, isi_int_sd, isi_bool_non, isi_bool_bl, isi_bool_int, isi_bool_str, isi_bool_tup, isi_bool_lst, isi_bool_sd, isi_tuple_non, isi_tuple_bl, isi_tuple_int, isi_tuple_str, isi_tuple_tup, isi_tuple_lst, isi_tuple_sd, isi_list_non, isi_list_bl, isi_list_int, isi_list_str, isi_list_tup, isi_list_lst, isi_list_sd, tyi_non, tyi_bl, tyi_int, tyi_str, tyi_tup, tyi_lst, ge_eqT, ge_neT, ge_eqS, ge_neS, ge_inS, ge_ninS, ge_eqLS, ge_neLS, Option.map_some, Bool.not_true, Bool.not_false, Bool.not_not, decide_eq_true_eq, decide_eq_false_iff_not, Bool.not_eq_true', Bool.not_eq_false', Bool.not_eq_true, decide_true, decide_false,
  Int.reduceLT, Nat.reduceLT, Int.reduceLE, Nat.reduceLeDiff, sizeLine_eq, and_self, ite_self, not_false_eq_true, not_true_eq_false, implies_true, imp_self, forall_const, true_implies])
local macro_rules | `(tactic| walk_at "st") => `(tactic| try simp only [gv_next, gv_brk, gv_cnt, gv_retN, gv_seq, nx_nx, nx_rt, nx_bk, nx_ct, gv_set, gv_setF, gv_own, gv_ret, gv_drop, gv_retO, gv_app, gv_unp, gv_pop, gv_put, gv_par, gv_forF, gv_forN, gv_forT, gv_forR,
  ge_var, ge_c, ge_op, ge_un, gl_nil, gl_cons, ge_call, ge_meth, ge_tup, ge_lst, ge_ii, ge_sl, go_none, go_int, gb_val, gb_truth, gb_and, gb_or, gb_not, gb_yes, ge_and, ge_or, ge_if, ge_chain, ge_some, gb_some, gl_some, go_some, ge_guard, ge_lc, ge_lcT, ge_lcR, ge_eqI, ge_neI, ge_eqB, ge_neB,
  frm, full, SV.full, gt, sgt, setAll, Tg.put, List.map, List.replicate, List.set, List.length_cons, List.length_nil, List.length_append, List.length_map, List.append_nil, List.nil_append, List.cons_append, Nat.sub_self, Nat.reduceAdd, Nat.reduceSub, Nat.zero_add, Nat.add_zero,
  noOwn, List.all_cons, List.all_nil, SV.free, D.imm, D.imms, imm_sd, imms_sd, imm_tupI, Bool.and_true, Bool.true_and, Bool.and_self, Bool.false_and, Bool.and_false, true_or, or_true, or_self, false_or, or_false, true_and, and_true, if_true, if_false, Bool.false_eq_true,
  D.int.injEq, D.bl.injEq, D.lst.injEq, D.tup.injEq, D.str.injEq, D.box.injEq, D.wood.injEq, SV.v.injEq, SV.own.injEq, Option.some.injEq, exists_eq_left', exists_eq_left, exists_and_left, reduceCtorEq, false_and, and_false, exists_false,
  fLen_lst, fLen_tup, fLen_scr, fLen_sd, fMax2_ii, fMin2_ii, fInt1_i, fInt1_b, fListOf_lst, fSorted_sd, fSum_i, dIx_sd0, dIx_sd1, dIx_sd2, dIx_lst, dIx_tup, dIx_scr, atI_0, atI_1, atI_2, atI_3, dSl_lst, dSl_scr, dCat_ll, dRep_l, dNot_b, dNeg_i, dNotBl_b, dNotBl_i, dNotBl_n, dNotBl_s, dNotBl_t, dNotBl_l, dIsN_non, dIsN_int, dIsN_lst, dNotN_non, dNotN_lst, dIsN_nil, dIsN_node, dNotN_nil, dNotN_node, isi_int_non, isi_int_bl, isi_int_int, isi_int_str, isi_int_tup, isi_int_lst, isi_int_sd, isi_bool_non, isi_bool_bl, isi_bool_int, isi_bool_str, isi_bool_tup, isi_bool_lst, isi_bool_sd, isi_tuple_non, isi_tuple_bl, isi_tuple_int, isi_tuple_str, isi_tuple_tup, isi_tuple_lst, isi_tuple_sd, isi_list_non, isi_list_bl, isi_list_int, isi_list_str, isi_list_tup, isi_list_lst, isi_list_sd, tyi_non, tyi_bl, tyi_int, tyi_str, tyi_tup, tyi_lst, ge_eqT, ge_neT, ge_eqS, ge_neS, ge_inS, ge_ninS, ge_eqLS, ge_neLS, Option.map_some, Bool.not_true, Bool.not_false, Bool.not_not, decide_eq_true_eq, decide_eq_false_iff_not, Bool.not_eq_true', Bool.not_eq_false', Bool.not_eq_true, decide_true, decide_false,
  Int.reduceLT, Nat.reduceLT, Int.reduceLE, Nat.reduceLeDiff, sizeLine_eq, and_self, ite_self, not_false_eq_true, not_true_eq_false, implies_true, imp_self, forall_const, true_implies])

local macro_rules | `(tactic| walk_at "wx") => `(tactic| (walk_at "ev"; repeat (simp only [gv_setW, gv_newW, pd_0, pd_1, bd_0, bd_1, bd_2, bd_3, dTop_w, nw_sds, nw_dds, noLst, noL_v, noL_wd, noL_no, List.all_cons, List.all_nil, Bool.and_self, Bool.and_true, Bool.true_and, true_and, and_true]; walk_at "ev")))

theorem true_k09 {ns : List Int} (hl : ns.length ≤ 63) (hB : ∀ z ∈ ns, Builtin.Int.intBits z ≤ 1048576) : m_law_k09 [.scr ns] = some (.bl true) := by
  refine def_gv rfl ?_
  unfold b_law_k09
  have hb0 := cell_bits2 hB 0
  have hbig : BW 2000000 (cell ns 0) := hb0.mono (by decide)
  walk_at "wx"
  refine ⟨rfl, ?_⟩
  rw [ge_at (by decide) hl]
  walk_at "wx"
  rw [p_big hbig]
  walk_at "wx"
  obtain ⟨d, ed, ds, S, rfl, hdl, hR⟩ := p_deeds (i := 1) (by decide) hl hB (bigL_nd (cell ns 0)) bigL_ok (bigL_len _)
  have hbl := bigL_len (cell ns 0)
  have ed' : m_law_deeds [D.scr ns, D.int 1, D.lst (List.map sd (bigL (cell ns 0)))] = some (D.lst (ds.map dd)) := ed
  rw [ed']
  walk_at "wx"
  rw [ge_at (by decide) hl]
  walk_at "wx"
  refine ⟨mulC hb0 (by decide), ?_⟩
  have hq : ∀ j : Nat, j < 4 → BW 2000000 (cell ns 0 * 48271 + 3 + 48271 * j) := fun j hj => by
    have := seedB (c := 48271) (d := 3 + 48271 * (j : Int)) hb0 (by decide) (by omega)
    rw [← Int.add_assoc] at this
    exact this
  generalize hseed : cell ns 0 * 48271 + 3 = seed at *
  refine ⟨_, rng1_nat (n := ds.length) (by omega), ?_⟩
  rw [map_dint]
  refine gv_for (fun k ρ => ∃ t a5 a6, ρ = [SV.v (.scr ns), .wd none t, .v (.lst ((toL t).map sd)), .v (.lst (ds.map dd)), .v (.int seed), a5, a6] ∧ a5.noL = true ∧ a6.noL = true ∧ At ds k t) ⟨.nil, _, _, rfl, rfl, rfl, At.zero ds⟩ (fun k x ρ hk ⟨t, a5, a6, eq, n5, n6, hA⟩ => ?_) (fun ρ ⟨t, a5, a6, eq, n5, n6, hA⟩ => ?_)
  · subst eq
    rw [List.getElem?_map, Option.map_eq_some_iff] at hk
    obtain ⟨j, hj, rfl⟩ := hk
    have hjl := (List.getElem?_eq_some_iff.mp hj).1
    rw [List.length_range] at hjl
    rw [List.getElem?_range hjl] at hj
    cases hj
    refine ⟨_, rfl, ?_⟩
    have hal := hA.len
    obtain ⟨t', h1, h2, h3, _⟩ := hA.step hR hjl (by omega)
    have rest : Gv ((sSeq (sSet 6 (eOp dIx (eVar 3) (eVar 5)))
      (sSeq (sIfDo 1 fDo (eVar 6)
        (sRet (eC (.bl false)))
        sNext)
      (sSetW 2 (eCall m_law_behind (eCons (eVar 2) (eCons (eVar 6) eNil)))))) [SV.v (.scr ns), .wd none t, .v (.lst ((toL t).map sd)), .v (.lst (ds.map dd)), .v (.int seed), .v (.int k), a6]) (fun o => o = .nx [SV.v (.scr ns), .wd none t', .v (.lst ((toL t').map sd)), .v (.lst (ds.map dd)), .v (.int seed), .v (.int k), .v (dd ds[k])]) := by
      walk_at "wx"
      rw [at_dd hjl]
      walk_at "wx"
      refine ⟨rfl, gv_ifDo rfl ⟨_, rfl, rfl, h1⟩ ?_⟩
      walk_at "wx"
      rw [h3]
      walk_at "wx"
    obtain ⟨o, eo, rfl⟩ := rest
    generalize hREST : (sSeq (sSet 6 (eOp dIx (eVar 3) (eVar 5))) _) = REST at eo ⊢
    clear hREST
    walk_at "wx"
    have fin : ∀ P : Out → Prop, (∀ ρ, (∃ t a5 a6, ρ = [SV.v (.scr ns), .wd none t, .v (.lst ((toL t).map sd)), .v (.lst (ds.map dd)), .v (.int seed), a5, a6] ∧ a5.noL = true ∧ a6.noL = true ∧ At ds (k + 1) t) → P (.nx ρ)) → Gv (REST [SV.v (.scr ns), .wd none t, .v (.lst ((toL t).map sd)), .v (.lst (ds.map dd)), .v (.int seed), .v (.int k), a6]) P := fun P hP => ⟨_, eo, hP _ ⟨t', _, _, rfl, rfl, rfl, h2⟩⟩
    split
    · rw [p_quick (hA.kept (by omega)) hq (by omega)]
      walk_at "wx"
      exact fin _ fun ρ h => h
    · exact fin _ fun ρ h => h
  · subst eq
    rw [List.length_map, List.length_range] at hA
    walk_at "wx"
    have hal := hA.len
    rw [p_quick (hA.kept (by omega)) hq (by omega)]
    walk_at "wx"
end
end Sp

set_option Elab.async false
set_option linter.all false
set_option maxRecDepth 100000
set_option maxHeartbeats 2000000
namespace Sp
open PySem L2
open Classical
noncomputable section
/-! ### a new list put behind one's own; a tuple of two new lists kept beside one's own -/
section
variable {X : Cx} {W : Wh} {fr : Bool} {ma mb : EM}
def sAppF (i : Nat) (m : EM) : SM := fun ρ => (m (full ρ)).bind fun d => match d, sgt ρ i with
  | .lst es, .own ds => if D.imms es = true ∧ ds.length < sizeLine then some (.nx (ρ.set i (.own (ds ++ [.lst es])))) else none
  | _, _ => none
theorem es_appF (i : Nat) {st : Stmt} (h : PS X st (tDrop (tBM X.K "list" rAppend (tVar i) (tCons (tX W true ma) tNil)))) : ES X W fr st (sAppF i ma) := PS.imp h fun D' σ H ⟨Hb, Hd, ρ, o, r, e, k⟩ => by
  unfold sAppF at e
  rw [Option.bind_eq_some_iff] at e
  obtain ⟨d, e1, e2⟩ := e
  cases d with
  | lst es =>
    cases hs : sgt ρ i with
    | own ds =>
      rw [hs] at e2
      have e2 : (if D.imms es = true ∧ ds.length < sizeLine then some (Out.nx (ρ.set i (.own (ds ++ [.lst es])))) else none) = some o := e2
      split at e2
      · cases e2
        rename_i c
        obtain ⟨l, xs, h1, h2, h3, h4⟩ := r.ow i ds hs
        refine ⟨_, h1, .inl ⟨rfl, _, SqL.of h3⟩, full ρ, _, r.re, e1, fun v H1 s1 r1 f1 => ?_⟩
        have g := r.grow s1
        have h4' : Rps W (cutO ρ σ H1) xs ds := by
          obtain ⟨l', xs', k1, _, k3, k4⟩ := g.ow i ds hs
          rw [h1] at k1
          cases k1
          rw [s1 _ _ h3] at k3
          cases k3
          exact k4
        exact ⟨l, xs, v, rfl, rfl, s1 _ _ h3, by rw [h4.length]; exact c.2, k _ _ _ (g.upd hs h1 (h4'.append (.cons (r.newF s1 r1 (f1 rfl) c.1) .nil)))⟩
      · cases e2
    | no => rw [hs] at e2; cases e2
    | v _ => rw [hs] at e2; cases e2
    | wd _ _ => rw [hs] at e2; cases e2
  | _ => cases e2
theorem gv_appF {ρ : SEnv} {i : Nat} {P : Out → Prop} : Gv (sAppF i ma ρ) P ↔ Ge (ma (full ρ)) fun d => ∃ es ds, d = .lst es ∧ sgt ρ i = .own ds ∧ D.imms es = true ∧ ds.length < sizeLine ∧ P (.nx (ρ.set i (.own (ds ++ [.lst es])))) := by
  unfold sAppF Gv Ge
  constructor
  · rintro ⟨o, e, hp⟩
    rw [Option.bind_eq_some_iff] at e
    obtain ⟨d, e1, e2⟩ := e
    cases d with
    | lst es =>
      cases hs : sgt ρ i with
      | own ds =>
        rw [hs] at e2
        have e2 : (if D.imms es = true ∧ ds.length < sizeLine then some (Out.nx (ρ.set i (.own (ds ++ [.lst es])))) else none) = some o := e2
        split at e2
        · rename_i c
          cases e2
          exact ⟨_, e1, es, ds, rfl, rfl, c.1, c.2, hp⟩
        · cases e2
      | no => rw [hs] at e2; cases e2
      | v _ => rw [hs] at e2; cases e2
      | wd _ _ => rw [hs] at e2; cases e2
    | _ => cases e2
  · rintro ⟨d, e1, es, ds, rfl, hs, c1, c2, hp⟩
    refine ⟨_, ?_, hp⟩
    rw [e1, Option.bind_some, hs]
    exact if_pos ⟨c1, c2⟩
/-- x = (a, b), two new lists -/
def sSet2F (i : Nat) (ma mb : EM) : SM := fun ρ => (ma (full ρ)).bind fun x => (mb (full ρ)).bind fun y => match x, y with
  | .lst ds, .lst es => if D.imms ds = true ∧ D.imms es = true then some (.nx (ρ.set i (.v (.tup [.lst ds, .lst es])))) else none
  | _, _ => none
theorem es_asg2F {i : Nat} {st : Stmt} (h : PS X st (tAsg (tTup (tCons (tX W true ma) (tCons (tX W true mb) tNil))) (gName i))) : ES X W fr st (sSet2F i ma mb) := PS.imp h fun D' σ H ⟨Hb, Hd, ρ, o, r, e, k⟩ => by
  unfold sSet2F at e
  rw [Option.bind_eq_some_iff] at e
  obtain ⟨x, e1, e⟩ := e
  rw [Option.bind_eq_some_iff] at e
  obtain ⟨y, e2, e3⟩ := e
  cases x with
  | lst ds =>
    cases y with
    | lst es =>
      have e3 : (if D.imms ds = true ∧ D.imms es = true then some (Out.nx (ρ.set i (.v (.tup [.lst ds, .lst es])))) else none) = some o := e3
      split at e3
      · cases e3
        rename_i c
        refine ⟨full ρ, _, r.re, e1, fun v H1 s1 r1 f1 => ⟨full ρ, _, r.re.mono s1, e2, fun v2 H2 s2 r2 f2 => ⟨by rw [sizeLine_eq]; exact (by decide : 2 ≤ 16777216), fun p np => ?_⟩⟩⟩
        have s12 := s1.trans s2
        have s3 : Same H (upd H2 p (.tup [v, v2])) := s12.trans (same_new np)
        have g := r.grow s3
        refine k _ _ _ (g.set ?_)
        have a1 : Rp W (cutO ρ σ (upd H2 p (.tup [v, v2]))) v (.lst ds) := by
          have f1' : FrL H (upd H2 p (.tup [v, v2])) v := by
            obtain ⟨a, xs, q1, q2, q3⟩ := f1 rfl
            exact ⟨a, xs, q1, q2, (s2.trans (same_new np)) _ _ q3⟩
          exact r.newF s3 (r1.mono (s2.trans (same_new np))) f1' c.1
        have a2 : Rp W (cutO ρ σ (upd H2 p (.tup [v, v2]))) v2 (.lst es) := by
          have f2' : FrL H (upd H2 p (.tup [v, v2])) v2 := by
            obtain ⟨a, xs, q1, q2, q3⟩ := (f2 rfl).back s1
            exact ⟨a, xs, q1, q2, (same_new np) _ _ q3⟩
          exact r.newF s3 (r2.mono (same_new np)) f2' c.2
        refine .tup (r.keepCut s3 p _ upd_same mu_tup) (.cons a1 (.cons a2 .nil))
      · cases e3
    | _ => cases e3
  | _ => cases e3
theorem gv_set2F {ρ : SEnv} {i : Nat} {P : Out → Prop} : Gv (sSet2F i ma mb ρ) P ↔ Ge (ma (full ρ)) fun x => Ge (mb (full ρ)) fun y => ∃ ds es, x = .lst ds ∧ y = .lst es ∧ D.imms ds = true ∧ D.imms es = true ∧ P (.nx (ρ.set i (.v (.tup [.lst ds, .lst es])))) := by
  unfold sSet2F Gv Ge
  constructor
  · rintro ⟨o, e, hp⟩
    rw [Option.bind_eq_some_iff] at e
    obtain ⟨x, e1, e⟩ := e
    rw [Option.bind_eq_some_iff] at e
    obtain ⟨y, e2, e3⟩ := e
    cases x with
    | lst ds =>
      cases y with
      | lst es =>
        have e3 : (if D.imms ds = true ∧ D.imms es = true then some (Out.nx (ρ.set i (.v (.tup [.lst ds, .lst es])))) else none) = some o := e3
        split at e3
        · rename_i c
          cases e3
          exact ⟨_, e1, _, e2, ds, es, rfl, rfl, c.1, c.2, hp⟩
        · cases e3
      | _ => cases e3
    | _ => cases e3
  · rintro ⟨x, e1, y, e2, ds, es, rfl, rfl, c1, c2, hp⟩
    refine ⟨_, ?_, hp⟩
    rw [e1, Option.bind_some, e2, Option.bind_some]
    exact if_pos ⟨c1, c2⟩
end
end
end Sp

set_option Elab.async false
set_option linter.all false
set_option maxRecDepth 100000
set_option maxHeartbeats 2000000
namespace Sp
open PySem L2 PyProof.Rows PySem.Calls
open Classical
noncomputable section
section
variable {X : Cx} {W : Wh} {a b c d : Expr} {fa fb fc fd : Bool} {ma mb mc md : EM} {pos : Pos} {ta tb tc td : TE}
/-! ### a <= b <= c <= d -/
def tChain3 (r : R2) (ta tb tc td : TE) : TE := fun σ H Q => ta σ H fun x H1 => tb σ H1 fun y H2 => r x y H2 fun z H3 => ∃ k, z = .bl k ∧
  (if k = true then tc σ H3 fun w H4 => r y w H4 fun z2 H5 => ∃ k2, z2 = .bl k2 ∧ (if k2 = true then td σ H5 fun u H6 => r w u H6 Q else Q (.bl false) H5) else Q (.bl false) H3)
theorem pt_chain3 {op : CmpOp} {r : R2} (ho : OpR X (compareOp op) r) (ha : PE X a ta) (hb : PE X b tb) (hc : PE X c tc) (hd : PE X d td)
    (hm : lastMarks [op, op, op] [b, c, d] = false := by with_unfolding_all rfl) : PT X (.Compare a [op, op, op] [b, c, d] pos) (tTest (tChain3 r ta tb tc td)) := by
  refine ⟨fun pins s σ H Q I h => ?_⟩
  refine isTrue_chain (thn (ha.run pins s σ H _ I h) fun v s1 ⟨x, H1, I1, r1, q1⟩ => test_link (thn (hb.run pins s1 σ H1 _ I1 q1) fun u s2 ⟨y, H2, I2, r2, q2⟩ =>
    thn (ho pins s2 σ H2 x y v u _ I2 r1 r2 q2) fun d s3 ⟨z, H3, I3, r3, k, e, q3⟩ => ?_)) hm
  subst e
  cases r3
  refine wpAny_truthy_bool ?_
  cases k with
  | false =>
    obtain ⟨k', e', q'⟩ := q3
    cases e'
    exact ite_ff ⟨H3, I3, q'⟩
  | true =>
    refine ite_tt (test_link (thn (hc.run pins s3 σ H3 _ I3 q3) fun w' s4 ⟨z', H4, I4, r4, q4⟩ => thn (ho pins s4 σ H4 y z' u w' _ I4 r2 r4 q4) fun d' s5 ⟨z2, H5, I5, r5, k2, e2, q5⟩ => ?_))
    subst e2
    cases r5
    refine wpAny_truthy_bool ?_
    cases k2 with
    | false =>
      obtain ⟨k', e', q'⟩ := q5
      cases e'
      exact ite_ff ⟨H5, I5, q'⟩
    | true =>
      refine ite_tt (test_last (thn (hd.run pins s5 σ H5 _ I5 q5) fun w2 s6 ⟨z3, H6, I6, r6, q6⟩ => thn (ho pins s6 σ H6 z' z3 w' w2 _ I6 r4 r6 q6) fun d' s7 ⟨z4, H7, I7, r7, k3, e3, q7⟩ => ?_))
      subst e3
      cases r7
      exact wpAny_truthy_bool ⟨H7, I7, q7⟩
def eChain3 (a b c d : EM) : EM := fun ρ => match a ρ, b ρ, c ρ, d ρ with
  | some (.int x), some (.int y), some (.int z), some (.int w) => some (.bl (decide (x ≤ y ∧ y ≤ z ∧ z ≤ w)))
  | _, _, _, _ => none
theorem eChain3_some {ρ : DEnv} {v : D} (h : eChain3 ma mb mc md ρ = some v) : ∃ x y z w : Int, ma ρ = some (.int x) ∧ mb ρ = some (.int y) ∧ mc ρ = some (.int z) ∧ md ρ = some (.int w) ∧ v = .bl (decide (x ≤ y ∧ y ≤ z ∧ z ≤ w)) := by
  unfold eChain3 at h
  split at h
  · rename_i x y z w h1 h2 h3 h4
    cases h
    exact ⟨x, y, z, w, h1, h2, h3, h4, rfl⟩
  · cases h
theorem et_chain3 (ha : EV X W a fa ma) (hb : EV X W b fb mb) (hc : EV X W c fc mc) (hd : EV X W d fd md) (hm : lastMarks [.LtE, .LtE, .LtE] [b, c, d] = false := by with_unfolding_all rfl) : ET X W (.Compare a [.LtE, .LtE, .LtE] [b, c, d] pos) (bVal (eChain3 ma mb mc md)) :=
  PT.imp (pt_chain3 op_le ha hb hc hd hm) fun σ H Q ⟨ρ, bb, rr, e, k⟩ => by
    obtain ⟨x, y, z, w, e1, e2, e3, e4, e5⟩ := eChain3_some (bVal_some e)
    have e5 : bb = decide (x ≤ y ∧ y ≤ z ∧ z ≤ w) := by cases e5; rfl
    refine ⟨ρ, _, rr, e1, fun v1 H1 s1 r1 _ => ⟨ρ, _, rr.mono s1, e2, fun v2 H2 s2 r2 _ => ?_⟩⟩
    cases r1
    cases r2
    refine ⟨x, y, rfl, rfl, ?_⟩
    refine ⟨decide (x ≤ y), rfl, ?_⟩
    by_cases c1 : x ≤ y
    · rw [if_pos (decide_eq_true c1)]
      refine ⟨ρ, _, rr.mono (s1.trans s2), e3, fun v3 H3 s3 r3 _ => ?_⟩
      cases r3
      refine ⟨y, z, rfl, rfl, ?_⟩
      refine ⟨decide (y ≤ z), rfl, ?_⟩
      by_cases c2 : y ≤ z
      · rw [if_pos (decide_eq_true c2)]
        refine ⟨ρ, _, rr.mono ((s1.trans s2).trans s3), e4, fun v4 H4 s4 r4 _ => ?_⟩
        cases r4
        refine ⟨z, w, rfl, rfl, ?_⟩
        refine ⟨decide (z ≤ w), rfl, ?_⟩
        have : bb = decide (z ≤ w) := by rw [e5]; simp [c1, c2]
        rw [← this]
        exact k H4 (((s1.trans s2).trans s3).trans s4)
      · rw [if_neg (by simpa using c2)]
        have : bb = false := by rw [e5]; simp [c2]
        refine ⟨false, rfl, ?_⟩
        rw [← this]
        exact k H3 ((s1.trans s2).trans s3)
    · rw [if_neg (by simpa using c1)]
      have : bb = false := by rw [e5]; simp [c1]
      refine ⟨false, rfl, ?_⟩
      rw [← this]
      exact k H2 (s1.trans s2)
theorem ge_chain3 {ρ : DEnv} {P : D → Prop} : Ge (eChain3 ma mb mc md ρ) P ↔ ∃ x y z w : Int, ma ρ = some (.int x) ∧ mb ρ = some (.int y) ∧ mc ρ = some (.int z) ∧ md ρ = some (.int w) ∧ P (.bl (decide (x ≤ y ∧ y ≤ z ∧ z ≤ w))) := by
  constructor
  · rintro ⟨v, e, hp⟩
    obtain ⟨x, y, z, w, e1, e2, e3, e4, rfl⟩ := eChain3_some e
    exact ⟨x, y, z, w, e1, e2, e3, e4, hp⟩
  · rintro ⟨x, y, z, w, e1, e2, e3, e4, hp⟩
    refine ⟨_, ?_, hp⟩
    unfold eChain3
    rw [e1, e2, e3, e4]
end
end
end Sp

set_option Elab.async false
set_option linter.all false
set_option maxRecDepth 100000
namespace Sp
open PySem L2
open Classical
noncomputable section
def b_law_spots : SM := (sSeq (sOwn 1 (eLst (eCons (eTup (eCons (eC (.int 0)) (eCons (eCall fLen (eCons (eVar 0) eNil)) (eCons (eC (.int 0)) eNil)))) eNil)))
    (sSeq (sOwn 2 (eLst eNil))
    (sSeq (sForR rng1 (.one 3) (eCons (eCall fLen (eCons (eVar 0) eNil)) eNil)
      (sSeq (sIf (bVal (eOp dGe (eVar 3) (eCall fLen (eCons (eVar 1) eNil))))
        sFail
        sNext)
      (sSeq (sUnp [4, 5, 6] (eOp dIx (eVar 1) (eVar 3)))
      (sSeq (sSetF 7 (eLcR rng2 8 (eCons (eVar 4) (eCons (eVar 5) eNil)) (bVal (eOp dEq (eOp dIx (eOp dIx (eVar 0) (eVar 8)) (eC (.int 1))) (eVar 6))) (eVar 8)))
      (sSeq (sIf (bOr (bVal (eOp dNe (eCall fLen (eCons (eVar 7) eNil)) (eC (.int 1)))) (bVal (eOp dNe (eCall fMinL (eCons (eLcR rng2 8 (eCons (eVar 4) (eCons (eVar 5) eNil)) bYes (eOp dIx (eOp dIx (eVar 0) (eVar 8)) (eC (.int 1)))) eNil)) (eVar 6))))
        sFail
        sNext)
      (sSeq (sApp 2 (eTup (eCons (eOp dIx (eVar 7) (eC (.int 0))) (eCons (eVar 4) (eCons (eVar 5) eNil)))))
      (sSeq (sIf (bVal (eOp dLt (eVar 4) (eOp dIx (eVar 7) (eC (.int 0)))))
        (sApp 1 (eTup (eCons (eVar 4) (eCons (eOp dIx (eVar 7) (eC (.int 0))) (eCons (eOp dAdd (eVar 6) (eC (.int 1))) eNil)))))
        sNext)
      (sIf (bVal (eOp dLt (eOp dAdd (eOp dIx (eVar 7) (eC (.int 0))) (eC (.int 1))) (eVar 5)))
        (sApp 1 (eTup (eCons (eOp dAdd (eOp dIx (eVar 7) (eC (.int 0))) (eC (.int 1))) (eCons (eVar 5) (eCons (eOp dAdd (eVar 6) (eC (.int 1))) eNil)))))
        sNext))))))))
    (sRetO 2))))
def m_law_spots : List D → Option D := mDef 1 9 b_law_spots
def b_law_box : SM := (sSeq (sIf (bOr (bNot (bVal (eUn (dIsi "tuple") (eVar 0)))) (bOr (bVal (eOp dNe (eCall fLen (eCons (eVar 0) eNil)) (eC (.int 4)))) (bNot (bVal (eCall m_law_tuple_is (eCons (eOp dIx (eVar 0) (eC (.int 0))) (eCons (eVar 1) eNil)))))))
      (sRet (eC (.bl false)))
      sNext)
    (sRet (eAnd (eCall m_law_is_int (eCons (eOp dIx (eVar 0) (eC (.int 1))) eNil)) (eAnd (eCall m_law_is_int (eCons (eOp dIx (eVar 0) (eC (.int 2))) eNil)) (eCall m_law_is_int (eCons (eOp dIx (eVar 0) (eC (.int 3))) eNil))))))
def m_law_box : List D → Option D := mDef 2 2 b_law_box
def b_law_under : SM := (sSeq (sForR rng2 (.one 4) (eCons (eVar 1) (eCons (eVar 2) eNil))
      (sIf (bVal (eOp dEq (eOp dIx (eOp dIx (eVar 0) (eVar 4)) (eC (.int 1))) (eVar 3)))
        (sRet (eOp dIx (eOp dIx (eVar 0) (eVar 4)) (eC (.int 2))))
        sNext))
    (sRet (eC (.int 0))))
def m_law_under : List D → Option D := mDef 4 5 b_law_under
def b_law_stands : SM := (sSeq (sOwn 2 (eMeth m_Wood_boxes (eVar 0) eNil))
    (sSeq (sSet 3 (eMeth m_Wood_height (eVar 0) eNil))
    (sSeq (sIf (bOr (bNot (bVal (eUn (dIsi "list") (eVar 2)))) (bOr (bVal (eOp dNe (eCall fLen (eCons (eVar 2) eNil)) (eCall fLen (eCons (eVar 1) eNil)))) (bNot (bVal (eCall m_law_is_int (eCons (eVar 3) eNil))))))
      (sRet (eC (.bl false)))
      sNext)
    (sSeq (sForR rng1 (.one 4) (eCons (eCall fLen (eCons (eVar 1) eNil)) eNil)
      (sIf (bNot (bVal (eCall m_law_box (eCons (eOp dIx (eVar 2) (eVar 4)) (eCons (eOp dIx (eVar 1) (eVar 4)) eNil)))))
        (sRet (eC (.bl false)))
        sNext))
    (sSeq (sSetF 5 (eCall m_law_spots (eCons (eVar 2) eNil)))
    (sSeq (sIf (bOr (bVal (eUn dIsN (eVar 5))) (bVal (eOp dNe (eVar 3) (eCall m_law_under (eCons (eVar 2) (eCons (eC (.int 0)) (eCons (eCall fLen (eCons (eVar 2) eNil)) (eCons (eC (.int 0)) eNil))))))))
      (sRet (eC (.bl false)))
      sNext)
    (sSeq (sForV (.many [6, 7, 8]) 5
      (sSeq (sSet 9 (eCall m_law_under (eCons (eVar 2) (eCons (eVar 7) (eCons (eVar 6) (eCons (eOp dAdd (eOp dIx (eOp dIx (eVar 2) (eVar 6)) (eC (.int 1))) (eC (.int 1))) eNil))))))
      (sSeq (sSet 10 (eCall m_law_under (eCons (eVar 2) (eCons (eOp dAdd (eVar 6) (eC (.int 1))) (eCons (eVar 8) (eCons (eOp dAdd (eOp dIx (eOp dIx (eVar 2) (eVar 6)) (eC (.int 1))) (eC (.int 1))) eNil))))))
      (sSeq (sIf (bOr (bVal (eOp dNe (eOp dIx (eOp dIx (eVar 2) (eVar 6)) (eC (.int 2))) (eOp dAdd (eC (.int 1)) (eCall fMax2 (eCons (eVar 9) (eCons (eVar 10) eNil)))))) (bNot (bVal (eChain dLe dLe (eOp dSub (eC (.int 0)) (eC (.int 1))) (eOp dSub (eVar 9) (eVar 10)) (eC (.int 1))))))
        (sRet (eC (.bl false)))
        sNext)
      (sIf (bVal (eOp dNe (eOp dIx (eOp dIx (eVar 2) (eVar 6)) (eC (.int 3))) (eCall fMaxL (eCons (eLcR rng2 4 (eCons (eVar 7) (eCons (eVar 8) eNil)) bYes (eOp dIx (eOp dIx (eVar 1) (eVar 4)) (eC (.int 1)))) eNil))))
        (sRet (eC (.bl false)))
        sNext)))))
    (sSeq (sSetF 11 (eCall fListOf (eCons (eVar 2) eNil)))
    (sSeq (sAppF 2 (eSl dSl (eVar 11) oNone (oSome (eC (.int 1)))))
    (sRet (eAnd (eOp dEq (eMeth m_Wood_boxes (eVar 0) eNil) (eVar 11)) (eOp dEq (eVar 2) (eOp dCat (eVar 11) (eLst (eCons (eSl dSl (eVar 11) oNone (oSome (eC (.int 1)))) eNil)))))))))))))))
def m_law_stands : List D → Option D := mDef 2 12 b_law_stands
def b_law_k07 : SM := (sSeq (sNewW 1)
    (sSeq (sSetW 2 (eLst eNil))
    (sSeq (sSetW 3 (eCall m_law_deeds (eCons (eVar 0) (eCons (eC (.int 0)) (eCons (eCall m_law_big (eCons (eCall m_law_at (eCons (eVar 0) (eCons (eC (.int 0)) eNil))) eNil)) eNil)))))
    (sSeq (sForR rng1 (.one 4) (eCons (eCall fLen (eCons (eVar 3) eNil)) eNil)
      (sSeq (sIf (bAnd (bVal (eOp dEq (eVar 4) (eOp dFdiv (eCall fLen (eCons (eVar 3) eNil)) (eC (.int 2))))) (bNot (bVal (eCall m_law_stands (eCons (eVar 1) (eCons (eVar 2) eNil))))))
        (sRet (eC (.bl false)))
        sNext)
      (sSeq (sSet 5 (eOp dIx (eVar 3) (eVar 4)))
      (sSeq (sIfDo 1 fDo (eVar 5)
        (sRet (eC (.bl false)))
        sNext)
      (sSetW 2 (eCall m_law_behind (eCons (eVar 2) (eCons (eVar 5) eNil))))))))
    (sRet (eCall m_law_stands (eCons (eVar 1) (eCons (eVar 2) eNil))))))))
def m_law_k07 : List D → Option D := mDef 1 6 b_law_k07
def b_meet : SM := (sSeq (sUnp [2, 3, 4] (eVar 0))
    (sSeq (sUnp [5, 6, 7] (eVar 1))
    (sSeq (sDrop (eCall m_stretch_of (eCons (eVar 2) (eCons (eVar 3) (eCons (eVar 4) eNil)))))
    (sSeq (sDrop (eCall m_stretch_of (eCons (eVar 5) (eCons (eVar 6) (eCons (eVar 7) eNil)))))
    (sRet (eAnd (eOp dLe (eVar 2) (eVar 6)) (eOp dLe (eVar 5) (eVar 3))))))))
def m_meet : List D → Option D := mDef 2 8 b_meet
def b_Wood_meeting : SM := (sSeq (sSet 3 (eCall m_stretch_of (eCons (eVar 1) (eCons (eVar 2) (eCons (eC (.int 0)) eNil)))))
    (sRet (eLc 4 (eCall m_looked_boxes (eCons (eUn dTop (eVar 0)) (eCons (eVar 1) (eCons (eVar 2) eNil)))) (bVal (eCall m_meet (eCons (eUn dStretch (eVar 4)) (eCons (eVar 3) eNil)))) (eUn dStretch (eVar 4)))))
def m_Wood_meeting : List D → Option D := mDef 3 5 b_Wood_meeting
def b_Wood_holding : SM := (sRet (eMeth m_Wood_meeting (eVar 0) (eCons (eVar 1) (eCons (eVar 1) eNil))))
def m_Wood_holding : List D → Option D := mDef 2 2 b_Wood_holding
def b_law_deeds2 : SM := (sSeq (sSetF 3 (eCall fListOf (eCons (eVar 2) eNil)))
    (sSeq (sOwn 5 (eLc 4 (eVar 2) bYes (eTup (eCons (eC (.str "put")) (eCons (eVar 4) (eCons (eC (.str "done")) eNil))))))
    (sSeq (sForR rng2 (.one 6) (eCons (eVar 1) (eCons (eCall fLen (eCons (eVar 0) eNil)) eNil))
      (sSeq (sForF (.one 4) (eCall m_law_picked (eCons (eOp dIx (eVar 0) (eVar 6)) (eCons (eOp dAdd (eOp dMul (eOp dIx (eVar 0) (eVar 6)) (eC (.int 48271))) (eOp dMul (eC (.int 29)) (eVar 6))) (eCons (eVar 3) eNil))))
        (sIf (bVal (eOp dInT (eOp dMod (eOp dIx (eVar 0) (eVar 6)) (eC (.int 8))) (eTup (eCons (eC (.int 3)) (eCons (eC (.int 5)) (eCons (eC (.int 6)) eNil))))))
          (sSeq (sApp 5 (eTup (eCons (eC (.str "take")) (eCons (eVar 4) (eCons (eIf (bVal (eOp dIn (eVar 4) (eVar 3))) (eC (.str "done")) (eC (.str "missing"))) eNil)))))
          (sSetF 3 (eLc 7 (eVar 3) (bVal (eOp dNe (eVar 7) (eVar 4))) (eVar 7))))
          (sSeq (sApp 5 (eTup (eCons (eC (.str "put")) (eCons (eVar 4) (eCons (eIf (bVal (eOp dIn (eVar 4) (eVar 3))) (eC (.str "twice")) (eC (.str "done"))) eNil)))))
          (sSetF 3 (eOp dCat (eVar 3) (eOp dRep (eLst (eCons (eVar 4) eNil)) (eCall fInt1 (eCons (eOp dNotIn (eVar 4) (eVar 3)) eNil))))))))
      (sIf (bVal (eOp dGt (eCall fLen (eCons (eVar 5) eNil)) (eOp dAdd (eC (.int 40)) (eCall fLen (eCons (eVar 2) eNil)))))
        sBrk
        sNext)))
    (sSeq (sIf (bVal (eOp dGt (eCall fLen (eCons (eVar 2) eNil)) (eC (.int 0))))
      (sRet (eSl dSl (eVar 5) oNone (oSome (eOp dAdd (eC (.int 12)) (eCall fLen (eCons (eVar 2) eNil))))))
      sNext)
    (sRet (eSl dSl (eVar 5) oNone (oSome (eC (.int 40)))))))))
def m_law_deeds2 : List D → Option D := mDef 3 8 b_law_deeds2
def b_law_told : SM := (sSeq (sOwn 3 (eMeth m_Wood_meeting (eVar 0) (eCons (eOp dIx (eVar 2) (eC (.int 0))) (eCons (eOp dIx (eVar 2) (eC (.int 1))) eNil))))
    (sSeq (sIf (bNot (bVal (eCall m_law_list_is (eCons (eVar 3) (eCons (eLc 6 (eVar 1) (bAnd (bVal (eOp dLe (eOp dIx (eVar 6) (eC (.int 0))) (eOp dIx (eVar 2) (eC (.int 1))))) (bVal (eOp dLe (eOp dIx (eVar 2) (eC (.int 0))) (eOp dIx (eVar 6) (eC (.int 1)))))) (eVar 6)) eNil)))))
      (sRet (eC (.bl false)))
      sNext)
    (sSeq (sApp 3 (eTup (eCons (eC (.int 0)) (eCons (eC (.int 0)) (eCons (eC (.int 0)) eNil)))))
    (sSeq (sSetF 4 (eLc 6 (eVar 1) (bAnd (bVal (eOp dLe (eOp dIx (eVar 6) (eC (.int 0))) (eOp dIx (eVar 2) (eC (.int 1))))) (bVal (eOp dLe (eOp dIx (eVar 2) (eC (.int 0))) (eOp dIx (eVar 6) (eC (.int 1)))))) (eVar 6)))
    (sSeq (sIf (bOr (bNot (bVal (eCall m_law_list_is (eCons (eMeth m_Wood_meeting (eVar 0) (eCons (eOp dIx (eVar 2) (eC (.int 0))) (eCons (eOp dIx (eVar 2) (eC (.int 1))) eNil))) (eCons (eVar 4) eNil))))) (bVal (eOp dNe (eVar 3) (eOp dCat (eVar 4) (eLst (eCons (eTup (eCons (eC (.int 0)) (eCons (eC (.int 0)) (eCons (eC (.int 0)) eNil)))) eNil))))))
      (sRet (eC (.bl false)))
      sNext)
    (sSeq (sSetF 5 (eLc 6 (eVar 1) (bVal (eChain dLe dLe (eOp dIx (eVar 6) (eC (.int 0))) (eOp dIx (eVar 2) (eC (.int 0))) (eOp dIx (eVar 6) (eC (.int 1))))) (eVar 6)))
    (sSeq (sOwn 3 (eMeth m_Wood_holding (eVar 0) (eCons (eOp dIx (eVar 2) (eC (.int 0))) eNil)))
    (sSeq (sIf (bNot (bVal (eCall m_law_list_is (eCons (eVar 3) (eCons (eVar 5) eNil)))))
      (sRet (eC (.bl false)))
      sNext)
    (sSeq (sApp 3 (eTup (eCons (eC (.int 0)) (eCons (eC (.int 0)) (eCons (eC (.int 0)) eNil)))))
    (sRet (eAnd (eCall m_law_list_is (eCons (eMeth m_Wood_holding (eVar 0) (eCons (eOp dIx (eVar 2) (eC (.int 0))) eNil)) (eCons (eVar 5) eNil))) (eOp dEq (eVar 3) (eOp dCat (eVar 5) (eLst (eCons (eTup (eCons (eC (.int 0)) (eCons (eC (.int 0)) (eCons (eC (.int 0)) eNil)))) eNil)))))))))))))))
def m_law_told : List D → Option D := mDef 3 7 b_law_told
def b_law_k08 : SM := (sSeq (sNewW 1)
    (sSeq (sSetW 2 (eLst eNil))
    (sSeq (sSetW 3 (eCall m_law_big (eCons (eCall m_law_at (eCons (eVar 0) (eCons (eC (.int 0)) eNil))) eNil)))
    (sSeq (sSetW 4 (eCall m_law_deeds2 (eCons (eVar 0) (eCons (eC (.int 1)) (eCons (eVar 3) eNil)))))
    (sSeq (sSetW 5 (eCall m_law_ask2 (eCons (eOp dAdd (eOp dMul (eCall m_law_at (eCons (eVar 0) (eCons (eC (.int 0)) eNil))) (eC (.int 69621))) (eC (.int 5))) (eCons (eLst eNil) eNil))))
    (sSeq (sIf (bNot (bVal (eCall m_law_told (eCons (eVar 1) (eCons (eVar 2) (eCons (eVar 5) eNil))))))
      (sRet (eC (.bl false)))
      sNext)
    (sSeq (sForR rng1 (.one 6) (eCons (eCall fLen (eCons (eVar 4) eNil)) eNil)
      (sSeq (sIf (bAnd (bVal (eOp dEq (eVar 6) (eOp dFdiv (eCall fLen (eCons (eVar 4) eNil)) (eC (.int 2))))) (bNot (bVal (eCall m_law_told (eCons (eVar 1) (eCons (eVar 2) (eCons (eVar 5) eNil)))))))
        (sRet (eC (.bl false)))
        sNext)
      (sSeq (sSetW 7 (eCall m_law_ask2 (eCons (eOp dAdd (eOp dMul (eCall m_law_at (eCons (eVar 0) (eCons (eC (.int 0)) eNil))) (eC (.int 48271))) (eOp dMul (eC (.int 69621)) (eVar 6))) (eCons (eVar 2) eNil))))
      (sSeq (sIf (bAnd (bOr (bVal (eOp dGe (eVar 6) (eCall fLen (eCons (eVar 3) eNil)))) (bVal (eOp dEq (eOp dMod (eVar 6) (eC (.int 20))) (eC (.int 0))))) (bNot (bVal (eCall m_law_told (eCons (eVar 1) (eCons (eVar 2) (eCons (eVar 7) eNil)))))))
        (sRet (eC (.bl false)))
        sNext)
      (sSeq (sSet 8 (eOp dIx (eVar 4) (eVar 6)))
      (sSeq (sIfDo 1 fDo (eVar 8)
        (sRet (eC (.bl false)))
        sNext)
      (sSeq (sSetW 2 (eCall m_law_behind (eCons (eVar 2) (eCons (eVar 8) eNil))))
      (sIf (bAnd (bOr (bVal (eOp dGe (eVar 6) (eCall fLen (eCons (eVar 3) eNil)))) (bVal (eOp dEq (eOp dMod (eVar 6) (eC (.int 20))) (eC (.int 0))))) (bNot (bVal (eCall m_law_told (eCons (eVar 1) (eCons (eVar 2) (eCons (eVar 7) eNil)))))))
        (sRet (eC (.bl false)))
        sNext))))))))
    (sSeq (sIf (bNot (bVal (eCall m_law_told (eCons (eVar 1) (eCons (eVar 2) (eCons (eVar 5) eNil))))))
      (sRet (eC (.bl false)))
      sNext)
    (sRet (eCall m_law_told (eCons (eVar 1) (eCons (eVar 2) (eCons (eCall m_law_ask2 (eCons (eOp dAdd (eOp dMul (eCall m_law_at (eCons (eVar 0) (eCons (eC (.int 0)) eNil))) (eC (.int 48271))) (eC (.int 7))) (eCons (eVar 2) eNil))) eNil)))))))))))))
def m_law_k08 : List D → Option D := mDef 1 9 b_law_k08
def b_Wood_gaps : SM := (sRet (eCall m_gaps_of (eCons (eMeth m_Wood_listed (eVar 0) eNil) (eCons (eVar 1) (eCons (eVar 2) eNil)))))
def m_Wood_gaps : List D → Option D := mDef 3 3 b_Wood_gaps
def b_Wood_clumps : SM := (sRet (eCall m_clumps_of (eCons (eMeth m_Wood_listed (eVar 0) eNil) eNil)))
def m_Wood_clumps : List D → Option D := mDef 1 1 b_Wood_clumps
def b_Wood_deepest : SM := (sRet (eCall m_deepest_of (eCons (eMeth m_Wood_listed (eVar 0) eNil) (eCons (eVar 1) (eCons (eVar 2) eNil)))))
def m_Wood_deepest : List D → Option D := mDef 3 3 b_Wood_deepest
def b_law_big2 : SM := (sSeq (sIf (bVal (eOp dNe (eOp dMod (eOp dFdiv (eVar 0) (eC (.int 16))) (eC (.int 16))) (eC (.int 5))))
      (sRet (eLst eNil))
      sNext)
    (sSeq (sSet 1 (eOp dAdd (eC (.int 1)) (eOp dMod (eOp dFdiv (eVar 0) (eC (.int 256))) (eC (.int 9)))))
    (sRet (eLcR rng1 2 (eCons (eOp dAdd (eC (.int 64)) (eOp dMod (eVar 0) (eC (.int 21)))) eNil) bYes (eTup (eCons (eOp dSub (eOp dMul (eC (.int 3)) (eVar 2)) (eC (.int 90))) (eCons (eOp dAdd (eOp dSub (eOp dMul (eC (.int 3)) (eVar 2)) (eC (.int 90))) (eOp dMod (eOp dMul (eVar 2) (eVar 2)) (eVar 1))) (eCons (eVar 2) eNil))))))))
def m_law_big2 : List D → Option D := mDef 1 3 b_law_big2
def b_law_deeds3 : SM := (sSeq (sSetF 3 (eCall fListOf (eCons (eVar 2) eNil)))
    (sSeq (sOwn 5 (eLc 4 (eVar 2) bYes (eTup (eCons (eC (.str "put")) (eCons (eVar 4) (eCons (eC (.str "done")) eNil))))))
    (sSeq (sForR rng2 (.one 6) (eCons (eVar 1) (eCons (eCall fLen (eCons (eVar 0) eNil)) eNil))
      (sSeq (sForF (.one 4) (eCall m_law_picked (eCons (eOp dIx (eVar 0) (eVar 6)) (eCons (eOp dAdd (eOp dMul (eOp dIx (eVar 0) (eVar 6)) (eC (.int 48271))) (eOp dMul (eC (.int 29)) (eVar 6))) (eCons (eVar 3) eNil))))
        (sIf (bVal (eOp dInT (eOp dMod (eOp dIx (eVar 0) (eVar 6)) (eC (.int 8))) (eTup (eCons (eC (.int 3)) (eCons (eC (.int 5)) (eCons (eC (.int 6)) eNil))))))
          (sSeq (sApp 5 (eTup (eCons (eC (.str "take")) (eCons (eVar 4) (eCons (eIf (bVal (eOp dIn (eVar 4) (eVar 3))) (eC (.str "done")) (eC (.str "missing"))) eNil)))))
          (sSetF 3 (eLc 7 (eVar 3) (bVal (eOp dNe (eVar 7) (eVar 4))) (eVar 7))))
          (sSeq (sApp 5 (eTup (eCons (eC (.str "put")) (eCons (eVar 4) (eCons (eIf (bVal (eOp dIn (eVar 4) (eVar 3))) (eC (.str "twice")) (eC (.str "done"))) eNil)))))
          (sSetF 3 (eOp dCat (eVar 3) (eOp dRep (eLst (eCons (eVar 4) eNil)) (eCall fInt1 (eCons (eOp dNotIn (eVar 4) (eVar 3)) eNil))))))))
      (sIf (bVal (eOp dGt (eCall fLen (eCons (eVar 5) eNil)) (eC (.int 40))))
        sBrk
        sNext)))
    (sRet (eSl dSl (eVar 5) oNone (oSome (eCall fMax2 (eCons (eC (.int 40)) (eCons (eOp dAdd (eCall fLen (eCons (eVar 2) eNil)) (eC (.int 12))) eNil)))))))))
def m_law_deeds3 : List D → Option D := mDef 3 8 b_law_deeds3
def b_law_parts : SM := (sSeq (sIf (bNot (bVal (eUn (dIsi "list") (eVar 0))))
      (sRet (eC (.bl false)))
      sNext)
    (sSeq (sForV (.one 2) 0
      (sSeq (sIf (bOr (bNot (bVal (eUn (dIsi "tuple") (eVar 2)))) (bVal (eOp dNe (eCall fLen (eCons (eVar 2) eNil)) (eVar 1))))
        (sRet (eC (.bl false)))
        sNext)
      (sIf (bVal (eOp dNe (eCall fLen (eCons (eLcT 3 (eVar 2) (bVal (eCall m_law_is_int (eCons (eVar 3) eNil))) (eVar 3)) eNil)) (eVar 1)))
        (sRet (eC (.bl false)))
        sNext)))
    (sRet (eC (.bl true)))))
def m_law_parts : List D → Option D := mDef 2 4 b_law_parts
def b_law_gaps2 : SM := (sSeq (sIf (bNot (bVal (eCall m_law_parts (eCons (eVar 0) (eCons (eC (.int 2)) eNil)))))
      (sRet (eC (.bl false)))
      sNext)
    (sSeq (sSet 4 (eOp dCat (eOp dCat (eLst (eCons (eOp dIx (eVar 2) (eC (.int 0))) (eCons (eOp dIx (eVar 2) (eC (.int 1))) eNil))) (eLc 3 (eVar 1) bYes (eOp dSub (eOp dIx (eVar 3) (eC (.int 0))) (eC (.int 1))))) (eLc 3 (eVar 1) bYes (eOp dAdd (eOp dIx (eVar 3) (eC (.int 1))) (eC (.int 1))))))
    (sSeq (sSet 4 (eOp dCat (eOp dCat (eVar 4) (eLc 3 (eVar 0) bYes (eOp dSub (eOp dIx (eVar 3) (eC (.int 0))) (eC (.int 1))))) (eLc 3 (eVar 0) bYes (eOp dAdd (eOp dIx (eVar 3) (eC (.int 1))) (eC (.int 1))))))
    (sSeq (sForR rng1 (.one 5) (eCons (eCall fLen (eCons (eVar 0) eNil)) eNil)
      (sSeq (sSet 3 (eOp dIx (eVar 0) (eVar 5)))
      (sSeq (sIf (bOr (bNot (bVal (eChain3 (eOp dIx (eVar 2) (eC (.int 0))) (eOp dIx (eVar 3) (eC (.int 0))) (eOp dIx (eVar 3) (eC (.int 1))) (eOp dIx (eVar 2) (eC (.int 1)))))) (bAnd (bVal (eOp dGt (eVar 5) (eC (.int 0)))) (bVal (eOp dGe (eOp dAdd (eOp dIx (eOp dIx (eVar 0) (eOp dSub (eVar 5) (eC (.int 1)))) (eC (.int 1))) (eC (.int 1))) (eOp dIx (eVar 3) (eC (.int 0)))))))
        (sRet (eC (.bl false)))
        sNext)
      (sIf (bVal (eOp dGt (eCall fLen (eCons (eLc 7 (eVar 1) (bAnd (bVal (eOp dLe (eOp dIx (eVar 7) (eC (.int 0))) (eOp dIx (eVar 3) (eC (.int 1))))) (bVal (eOp dLe (eOp dIx (eVar 3) (eC (.int 0))) (eOp dIx (eVar 7) (eC (.int 1)))))) (eVar 7)) eNil)) (eC (.int 0))))
        (sRet (eC (.bl false)))
        sNext))))
    (sSeq (sForV (.one 6) 4
      (sIf (bAnd (bVal (eChain dLe dLe (eOp dIx (eVar 2) (eC (.int 0))) (eVar 6) (eOp dIx (eVar 2) (eC (.int 1))))) (bVal (eOp dEq (eOp dAdd (eCall m_law_over (eCons (eVar 1) (eCons (eVar 6) eNil))) (eCall m_law_over (eCons (eVar 0) (eCons (eVar 6) eNil)))) (eC (.int 0)))))
        (sRet (eC (.bl false)))
        sNext))
    (sRet (eC (.bl true))))))))
def m_law_gaps2 : List D → Option D := mDef 3 8 b_law_gaps2
def b_law_deepest : SM := (sSeq (sIf (bOr (bNot (bVal (eCall m_law_parts (eCons (eLst (eCons (eVar 0) eNil)) (eCons (eC (.int 2)) eNil))))) (bNot (bVal (eChain dLe dLe (eOp dIx (eVar 2) (eC (.int 0))) (eOp dIx (eVar 0) (eC (.int 1))) (eOp dIx (eVar 2) (eC (.int 1)))))))
      (sRet (eC (.bl false)))
      sNext)
    (sSeq (sIf (bVal (eOp dNe (eCall m_law_over (eCons (eVar 1) (eCons (eOp dIx (eVar 0) (eC (.int 1))) eNil))) (eOp dIx (eVar 0) (eC (.int 0)))))
      (sRet (eC (.bl false)))
      sNext)
    (sSeq (sForN (.one 3) (eOp dCat (eLst (eCons (eOp dIx (eVar 2) (eC (.int 0))) eNil)) (eLc 5 (eVar 1) (bVal (eChain dLe dLe (eOp dIx (eVar 2) (eC (.int 0))) (eOp dIx (eVar 5) (eC (.int 0))) (eOp dIx (eVar 2) (eC (.int 1))))) (eOp dIx (eVar 5) (eC (.int 0)))))
      (sSeq (sSet 4 (eCall m_law_over (eCons (eVar 1) (eCons (eVar 3) eNil))))
      (sIf (bOr (bVal (eOp dGt (eVar 4) (eOp dIx (eVar 0) (eC (.int 0))))) (bAnd (bVal (eOp dEq (eVar 4) (eOp dIx (eVar 0) (eC (.int 0))))) (bVal (eOp dLt (eVar 3) (eOp dIx (eVar 0) (eC (.int 1)))))))
        (sRet (eC (.bl false)))
        sNext)))
    (sRet (eC (.bl true))))))
def m_law_deepest : List D → Option D := mDef 3 6 b_law_deepest
def b_law_clumps : SM := (sSeq (sIf (bOr (bNot (bVal (eCall m_law_parts (eCons (eVar 0) (eCons (eC (.int 3)) eNil))))) (bVal (eOp dNe (eCall fSum (eCons (eLc 2 (eVar 0) bYes (eOp dIx (eVar 2) (eC (.int 2)))) eNil)) (eCall fLen (eCons (eVar 1) eNil)))))
      (sRet (eC (.bl false)))
      sNext)
    (sSeq (sForR rng1 (.one 3) (eCons (eCall fLen (eCons (eVar 0) eNil)) eNil)
      (sSeq (sUnp [4, 5, 6] (eOp dIx (eVar 0) (eVar 3)))
      (sSeq (sSet 7 (eLc 2 (eVar 1) (bAnd (bVal (eOp dLe (eVar 4) (eOp dIx (eVar 2) (eC (.int 0))))) (bVal (eOp dLe (eOp dIx (eVar 2) (eC (.int 1))) (eVar 5)))) (eVar 2)))
      (sSeq (sIf (bOr (bVal (eOp dEq (eCall fLen (eCons (eVar 7) eNil)) (eC (.int 0)))) (bOr (bVal (eOp dNe (eCall fLen (eCons (eVar 7) eNil)) (eVar 6))) (bAnd (bVal (eOp dGt (eVar 3) (eC (.int 0)))) (bVal (eOp dGe (eOp dIx (eOp dIx (eVar 0) (eOp dSub (eVar 3) (eC (.int 1)))) (eC (.int 1))) (eVar 4))))))
        (sRet (eC (.bl false)))
        sNext)
      (sSeq (sIf (bOr (bVal (eOp dNe (eCall fMinL (eCons (eLc 2 (eVar 7) bYes (eOp dIx (eVar 2) (eC (.int 0)))) eNil)) (eVar 4))) (bVal (eOp dNe (eCall fMaxL (eCons (eLc 2 (eVar 7) bYes (eOp dIx (eVar 2) (eC (.int 1)))) eNil)) (eVar 5))))
        (sRet (eC (.bl false)))
        sNext)
      (sForV (.one 2) 7
        (sSeq (sSet 8 (eLc 9 (eVar 7) (bVal (eChain dLe dLt (eOp dIx (eVar 9) (eC (.int 0))) (eOp dIx (eVar 2) (eC (.int 1))) (eOp dIx (eVar 9) (eC (.int 1))))) (eVar 9)))
        (sIf (bAnd (bVal (eOp dLt (eOp dIx (eVar 2) (eC (.int 1))) (eVar 5))) (bVal (eOp dEq (eCall fLen (eCons (eVar 8) eNil)) (eC (.int 0)))))
          (sRet (eC (.bl false)))
          sNext))))))))
    (sRet (eC (.bl true)))))
def m_law_clumps : List D → Option D := mDef 2 10 b_law_clumps
def b_law_gaps_of : SM := (sSeq (sOwn 3 (eLst eNil))
    (sSeq (sForV (.one 4) 0
      (sSeq (sIf (bAnd (bVal (eOp dGt (eOp dIx (eVar 4) (eC (.int 0))) (eVar 1))) (bVal (eOp dLe (eVar 1) (eVar 2))))
        (sApp 3 (eTup (eCons (eVar 1) (eCons (eCall fMin2 (eCons (eOp dSub (eOp dIx (eVar 4) (eC (.int 0))) (eC (.int 1))) (eCons (eVar 2) eNil))) eNil))))
        sNext)
      (sSet 1 (eCall fMax2 (eCons (eVar 1) (eCons (eOp dAdd (eOp dIx (eVar 4) (eC (.int 1))) (eC (.int 1))) eNil))))))
    (sSeq (sIf (bVal (eOp dLe (eVar 1) (eVar 2)))
      (sApp 3 (eTup (eCons (eVar 1) (eCons (eVar 2) eNil))))
      sNext)
    (sRetO 3))))
def m_law_gaps_of : List D → Option D := mDef 3 5 b_law_gaps_of
def b_law_hang : SM := (sSeq (sOwn 1 (eLst eNil))
    (sSeq (sForV (.one 2) 0
      (sIf (bAnd (bVal (eOp dGt (eCall fLen (eCons (eVar 1) eNil)) (eC (.int 0)))) (bVal (eOp dLe (eOp dIx (eVar 2) (eC (.int 0))) (eOp dIx (eOp dIx (eVar 1) (eUn dNeg (eC (.int 1)))) (eC (.int 1))))))
        (sSeq (sPop 1 3)
        (sApp 1 (eTup (eCons (eOp dIx (eVar 3) (eC (.int 0))) (eCons (eCall fMax2 (eCons (eOp dIx (eVar 3) (eC (.int 1))) (eCons (eOp dIx (eVar 2) (eC (.int 1))) eNil))) (eCons (eOp dAdd (eOp dIx (eVar 3) (eC (.int 2))) (eC (.int 1))) eNil))))))
        (sApp 1 (eTup (eCons (eOp dIx (eVar 2) (eC (.int 0))) (eCons (eOp dIx (eVar 2) (eC (.int 1))) (eCons (eC (.int 1)) eNil)))))))
    (sRetO 1)))
def m_law_hang : List D → Option D := mDef 1 4 b_law_hang
def b_law_stands2 : SM := (sSeq (sOwn 3 (eMeth m_Wood_gaps (eVar 0) (eCons (eOp dIx (eVar 2) (eC (.int 0))) (eCons (eOp dIx (eVar 2) (eC (.int 1))) eNil))))
    (sSeq (sOwn 4 (eMeth m_Wood_clumps (eVar 0) eNil))
    (sSeq (sIf (bVal (eOp dGt (eCall fLen (eCons (eVar 1) eNil)) (eC (.int 40))))
      (sIf (bOr (bVal (eOp dNe (eVar 3) (eCall m_law_gaps_of (eCons (eVar 1) (eCons (eOp dIx (eVar 2) (eC (.int 0))) (eCons (eOp dIx (eVar 2) (eC (.int 1))) eNil)))))) (bVal (eOp dNe (eVar 4) (eCall m_law_hang (eCons (eVar 1) eNil)))))
        (sRet (eC (.bl false)))
        sNext)
      (sIf (bOr (bNot (bVal (eCall m_law_gaps2 (eCons (eVar 3) (eCons (eVar 1) (eCons (eVar 2) eNil)))))) (bNot (bVal (eCall m_law_clumps (eCons (eVar 4) (eCons (eVar 1) eNil))))))
        (sRet (eC (.bl false)))
        sNext))
    (sSeq (sSet2F 5 (eCall fListOf (eCons (eVar 3) eNil)) (eCall fListOf (eCons (eVar 4) eNil)))
    (sSeq (sApp 3 (eTup (eCons (eC (.int 0)) (eCons (eC (.int 0)) eNil))))
    (sSeq (sApp 4 (eTup (eCons (eC (.int 0)) (eCons (eC (.int 0)) (eCons (eC (.int 0)) eNil)))))
    (sSeq (sIf (bOr (bVal (eOp dNe (eMeth m_Wood_gaps (eVar 0) (eCons (eOp dIx (eVar 2) (eC (.int 0))) (eCons (eOp dIx (eVar 2) (eC (.int 1))) eNil))) (eOp dIx (eVar 5) (eC (.int 0))))) (bVal (eOp dNe (eMeth m_Wood_clumps (eVar 0) eNil) (eOp dIx (eVar 5) (eC (.int 1))))))
      (sRet (eC (.bl false)))
      sNext)
    (sSeq (sIf (bOr (bVal (eOp dNe (eVar 3) (eOp dCat (eOp dIx (eVar 5) (eC (.int 0))) (eLst (eCons (eTup (eCons (eC (.int 0)) (eCons (eC (.int 0)) eNil))) eNil))))) (bVal (eOp dNe (eVar 4) (eOp dCat (eOp dIx (eVar 5) (eC (.int 1))) (eLst (eCons (eTup (eCons (eC (.int 0)) (eCons (eC (.int 0)) (eCons (eC (.int 0)) eNil)))) eNil))))))
      (sRet (eC (.bl false)))
      sNext)
    (sRet (eCall m_law_deepest (eCons (eMeth m_Wood_deepest (eVar 0) (eCons (eOp dIx (eVar 2) (eC (.int 0))) (eCons (eOp dIx (eVar 2) (eC (.int 1))) eNil))) (eCons (eVar 1) (eCons (eVar 2) eNil)))))))))))))
def m_law_stands2 : List D → Option D := mDef 3 6 b_law_stands2
def b_law_k10 : SM := (sSeq (sNewW 1)
    (sSeq (sSetW 2 (eLst eNil))
    (sSeq (sSetW 3 (eCall m_law_deeds3 (eCons (eVar 0) (eCons (eC (.int 1)) (eCons (eCall m_law_big2 (eCons (eCall m_law_at (eCons (eVar 0) (eCons (eC (.int 0)) eNil))) eNil)) eNil)))))
    (sSeq (sSet 4 (eOp dAdd (eOp dMul (eCall m_law_at (eCons (eVar 0) (eCons (eC (.int 0)) eNil))) (eC (.int 48271))) (eC (.int 3))))
    (sSeq (sForR rng1 (.one 5) (eCons (eCall fLen (eCons (eVar 3) eNil)) eNil)
      (sSeq (sIf (bAnd (bVal (eOp dEq (eVar 5) (eOp dFdiv (eCall fLen (eCons (eVar 3) eNil)) (eC (.int 2))))) (bNot (bVal (eCall m_law_stands2 (eCons (eVar 1) (eCons (eVar 2) (eCons (eCall m_law_ask2 (eCons (eVar 4) (eCons (eLst eNil) eNil))) eNil)))))))
        (sRet (eC (.bl false)))
        sNext)
      (sSeq (sSet 6 (eOp dIx (eVar 3) (eVar 5)))
      (sSeq (sIfDo 1 fDo (eVar 6)
        (sRet (eC (.bl false)))
        sNext)
      (sSetW 2 (eCall m_law_behind (eCons (eVar 2) (eCons (eVar 6) eNil))))))))
    (sSeq (sIf (bNot (bVal (eCall m_law_stands2 (eCons (eVar 1) (eCons (eVar 2) (eCons (eCall m_law_ask2 (eCons (eVar 4) (eCons (eLst eNil) eNil))) eNil))))))
      (sRet (eC (.bl false)))
      sNext)
    (sRet (eCall m_law_stands2 (eCons (eVar 1) (eCons (eVar 2) (eCons (eCall m_law_ask2 (eCons (eOp dAdd (eVar 4) (eC (.int 48271))) (eCons (eVar 2) eNil))) eNil)))))))))))
def m_law_k10 : List D → Option D := mDef 1 7 b_law_k10
end
end Sp

set_option Elab.async false
set_option linter.all false
set_option maxRecDepth 100000
set_option maxHeartbeats 2000000
namespace Sp
open PySem L2
open Classical
noncomputable section
local macro_rules | `(tactic| walk_at "ev") => `(tactic| try simp only [gv_next, gv_brk, gv_cnt, gv_retN, gv_seq, nx_nx, nx_rt, nx_bk, nx_ct, gv_set, gv_setF, gv_own, gv_ret, gv_drop, gv_retO, gv_if, gv_app, gv_unp, gv_pop, gv_put, gv_par, gv_forF, gv_forN, gv_forT, gv_forR,
  ge_var, ge_c, ge_op, ge_un, gl_nil, gl_cons, ge_call, ge_meth, ge_tup, ge_lst, ge_ii, ge_sl, go_none, go_int, gb_val, gb_truth, gb_and, gb_or, gb_not, gb_yes, ge_and, ge_or, ge_if, ge_chain, ge_some, gb_some, gl_some, go_some, ge_guard, ge_lc, ge_lcT, ge_lcR, ge_eqI, ge_neI, ge_eqB, ge_neB,
  frm, full, SV.full, gt, sgt, setAll, Tg.put, List.map, List.replicate, List.set, List.length_cons, List.length_nil, List.length_append, List.length_map, List.append_nil, List.nil_append, List.cons_append, Nat.sub_self, Nat.reduceAdd, Nat.reduceSub, Nat.zero_add, Nat.add_zero,
  noOwn, List.all_cons, List.all_nil, SV.free, D.imm, D.imms, imm_sd, imms_sd, imm_tupI, Bool.and_true, Bool.true_and, Bool.and_self, Bool.false_and, Bool.and_false, true_or, or_true, or_self, false_or, or_false, true_and, and_true, if_true, if_false, Bool.false_eq_true,
  D.int.injEq, D.bl.injEq, D.lst.injEq, D.tup.injEq, D.str.injEq, D.box.injEq, D.wood.injEq, SV.v.injEq, SV.own.injEq, Option.some.injEq, exists_eq_left', exists_eq_left, exists_and_left, reduceCtorEq, false_and, and_false, exists_false,
  fLen_lst, fLen_tup, fLen_scr, fLen_sd, fMax2_ii, fMin2_ii, fInt1_i, fInt1_b, fListOf_lst, fSorted_sd, fSum_i, dIx_sd0, dIx_sd1, dIx_sd2, dIx_lst, dIx_tup, dIx_scr, atI_0, atI_1, atI_2, atI_3, dSl_lst, dSl_scr, dCat_ll, dRep_l, dNot_b, dNeg_i, dNotBl_b, dNotBl_i, dNotBl_n, dNotBl_s, dNotBl_t, dNotBl_l, dIsN_non, dIsN_int, dIsN_lst, dNotN_non, dNotN_lst, dIsN_nil, dIsN_node, dNotN_nil, dNotN_node, isi_int_non, isi_int_bl, isi_int_int, isi_int_str, isi_int_tup, isi_int_lst, isi_int_sd, isi_bool_non, isi_bool_bl, isi_bool_int, isi_bool_str, isi_bool_tup, isi_bool_lst, isi_bool_sd, isi_tuple_non, isi_tuple_bl, isi_tuple_int, isi_tuple_str, isi_tuple_tup, isi_tuple_lst, isi_tuple_sd, isi_list_non, isi_list_bl, isi_list_int, isi_list_str, isi_list_tup, isi_list_lst, isi_list_sd, tyi_non, tyi_bl, tyi_int, tyi_str, tyi_tup, tyi_lst, ge_eqT, ge_neT, ge_eqS, ge_neS, ge_inS, ge_ninS, ge_eqLS, ge_neLS, Option.map_some, Bool.not_true, Bool.not_false, Bool.not_not, decide_eq_true_eq, decide_eq_false_iff_not, Bool.not_eq_true', Bool.not_eq_false', Bool.not_eq_true, decide_true, decide_false,
  Int.reduceLT, Nat.reduceLT, Int.reduceLE, Nat.reduceLeDiff, sizeLine_eq, and_self, ite_self, not_false_eq_true, not_true_eq_false, implies_true, imp_self, forall_const, true_implies])
local macro_rules | `(tactic| walk_at "st") => `(tactic| try simp only [gv_next, gv_brk, gv_cnt, gv_retN, gv_seq, nx_nx, nx_rt, nx_bk, nx_ct, gv_set, gv_setF, gv_own, gv_ret, gv_drop, gv_retO, gv_app, gv_unp, gv_pop, gv_put, gv_par, gv_forF, gv_forN, gv_forT, gv_forR,
  ge_var, ge_c, ge_op, ge_un, gl_nil, gl_cons, ge_call, ge_meth, ge_tup, ge_lst, ge_ii, ge_sl, go_none, go_int, gb_val, gb_truth, gb_and, gb_or, gb_not, gb_yes, ge_and, ge_or, ge_if, ge_chain, ge_some, gb_some, gl_some, go_some, ge_guard, ge_lc, ge_lcT, ge_lcR, ge_eqI, ge_neI, ge_eqB, ge_neB,
  frm, full, SV.full, gt, sgt, setAll, Tg.put, List.map, List.replicate, List.set, List.length_cons, List.length_nil, List.length_append, List.length_map, List.append_nil, List.nil_append, List.cons_append, Nat.sub_self, Nat.reduceAdd, Nat.reduceSub, Nat.zero_add, Nat.add_zero,
  noOwn, List.all_cons, List.all_nil, SV.free, D.imm, D.imms, imm_sd, imms_sd, imm_tupI, Bool.and_true, Bool.true_and, Bool.and_self, Bool.false_and, Bool.and_false, true_or, or_true, or_self, false_or, or_false, true_and, and_true, if_true, if_false, Bool.false_eq_true,
  D.int.injEq, D.bl.injEq, D.lst.injEq, D.tup.injEq, D.str.injEq, D.box.injEq, D.wood.injEq, SV.v.injEq, SV.own.injEq, Option.some.injEq, exists_eq_left', exists_eq_left, exists_and_left, reduceCtorEq, false_and, and_false, exists_false,
  fLen_lst, fLen_tup, fLen_scr, fLen_sd, fMax2_ii, fMin2_ii, fInt1_i, fInt1_b, fListOf_lst, fSorted_sd, fSum_i, dIx_sd0, dIx_sd1, dIx_sd2, dIx_lst, dIx_tup, dIx_scr, atI_0, atI_1, atI_2, atI_3, dSl_lst, dSl_scr, dCat_ll, dRep_l, dNot_b, dNeg_i, dNotBl_b, dNotBl_i, dNotBl_n, dNotBl_s, dNotBl_t, dNotBl_l, dIsN_non, dIsN_int, dIsN_lst, dNotN_non, dNotN_lst, dIsN_nil, dIsN_node, dNotN_nil, dNotN_node, isi_int_non, isi_int_bl, isi_int_int, isi_int_str, isi_int_tup, isi_int_lst, isi_int_sd, isi_bool_non, isi_bool_bl, isi_bool_int, isi_bool_str, isi_bool_tup, isi_bool_lst, isi_bool_sd, isi_tuple_non, isi_tuple_bl, isi_tuple_int, isi_tuple_str, isi_tuple_tup, isi_tuple_lst, isi_tuple_sd, isi_list_non, isi_list_bl, isi_list_int, isi_list_str, isi_list_tup, isi_list_lst, isi_list_sd, tyi_non, tyi_bl, tyi_int, tyi_str, tyi_tup, tyi_lst, ge_eqT, ge_neT, ge_eqS, ge_neS, ge_inS, ge_ninS, ge_eqLS, ge_neLS, Option.map_some, Bool.not_true, Bool.not_false, Bool.not_not, decide_eq_true_eq, decide_eq_false_iff_not, Bool.not_eq_true', Bool.not_eq_false', Bool.not_eq_true, decide_true, decide_false,
  Int.reduceLT, Nat.reduceLT, Int.reduceLE, Nat.reduceLeDiff, sizeLine_eq, and_self, ite_self, not_false_eq_true, not_true_eq_false, implies_true, imp_self, forall_const, true_implies])

local macro_rules | `(tactic| walk_at "wx") => `(tactic| (walk_at "ev"; repeat (simp only [gv_setW, gv_newW, pd_0, pd_1, bd_0, bd_1, bd_2, bd_3, dTop_w, nw_sds, nw_dds, noLst, noL_v, noL_wd, noL_no, List.all_cons, List.all_nil, Bool.and_self, Bool.and_true, Bool.true_and, true_and, and_true]; walk_at "ev")))

/-! ### what a wood tells of those that meet -/
theorem p_meet {a b : S3} (ha : Okay3 a) (hb : Okay3 b) : m_meet [sd a, sd b] = some (.bl (decide (a.1 ≤ b.2.1 ∧ b.1 ≤ a.2.1))) := by
  refine def_gv rfl ?_
  unfold b_meet
  simp only [sd_tup]
  walk_at "ev"
  rw [ge_stretch_of ha]
  walk_at "ev"
  rw [ge_stretch_of hb]
  walk_at "ev"
  by_cases c : a.1 ≤ b.2.1
  · rw [if_pos c]; simp [c]
  · rw [if_neg c]; simp [c]
def boxS : T → S3
  | .nil => (0, 0, 0)
  | .node _ s _ _ _ => s
theorem reach_le : ∀ {t : T}, Good t → ∀ m, reachO t = some m → ∀ x ∈ toL t, x.2.1 ≤ m
  | .nil, _, m, e, x, hx => by cases hx
  | .node l s r h m, g, m2, e2, x, hx => by
    have e' : m = m2 := Option.some.inj e2
    subst e'
    obtain ⟨gl, gr, _, em, _⟩ := g
    have hl := reach_le gl
    have hr := reach_le gr
    have hx' : x ∈ toL l ∨ x = s ∨ x ∈ toL r := by
      have : x ∈ toL l ++ s :: toL r := hx
      simpa using this
    have k1 : s.2.1 ≤ m := by
      rw [em]
      cases l <;> cases r <;> simp only [reachT] <;> omega
    have k2 : ∀ a, reachO l = some a → a ≤ m := fun a ea => by
      rw [em]
      cases l with
      | nil => cases ea
      | node l1 s1 r1 h1 m1 => cases ea; cases r <;> simp only [reachT] <;> omega
    have k3 : ∀ a, reachO r = some a → a ≤ m := fun a ea => by
      rw [em]
      cases r with
      | nil => cases ea
      | node l1 s1 r1 h1 m1 => cases ea; cases l <;> simp only [reachT] <;> omega
    rcases hx' with h1 | h1 | h1
    · cases l with
      | nil => cases h1
      | node l1 s1 r1 h1' m1 => exact Int.le_trans (hl m1 rfl x h1) (k2 m1 rfl)
    · subst h1; exact k1
    · cases r with
      | nil => cases h1
      | node l1 s1 r1 h1' m1 => exact Int.le_trans (hr m1 rfl x h1) (k3 m1 rfl)
theorem look_mem (lo hi : Int) : ∀ (t : T), ∀ b ∈ looked t lo hi, ∃ l s r h m, b = .node l s r h m ∧ s ∈ toL t
  | .nil, b, hb => by cases hb
  | .node l s r h m, b, hb => by
    have mem : ∀ x, x ∈ toL (.node l s r h m) ↔ x ∈ toL l ∨ x = s ∨ x ∈ toL r := fun x => by
      show x ∈ toL l ++ s :: toL r ↔ _
      simp
    have hb' : b ∈ (if m < lo then [] else looked l lo hi ++ .node l s r h m :: (if s.1 ≤ hi then looked r lo hi else [])) := hb
    split at hb'
    · cases hb'
    · rcases List.mem_append.mp hb' with h1 | h1
      · obtain ⟨l1, s1, r1, h1', m1, e, hs⟩ := look_mem lo hi l b h1
        exact ⟨l1, s1, r1, h1', m1, e, (mem s1).mpr (.inl hs)⟩
      · rcases List.mem_cons.mp h1 with h2 | h2
        · exact ⟨l, s, r, h, m, h2, (mem s).mpr (.inr (.inl rfl))⟩
        · split at h2
          · obtain ⟨l1, s1, r1, h1', m1, e, hs⟩ := look_mem lo hi r b h2
            exact ⟨l1, s1, r1, h1', m1, e, (mem s1).mpr (.inr (.inr hs))⟩
          · cases h2
theorem look_hits (lo hi : Int) : ∀ {t : T}, Good t → Srt (toL t) → ((looked t lo hi).filter (fun b => hitB lo hi (boxS b))).map boxS = (toL t).filter (hitB lo hi)
  | .nil, _, _ => rfl
  | .node l s r h m, g, p => by
    obtain ⟨p1, p2, p3, p4⟩ := srt_node p
    have ih1 := look_hits lo hi g.1 p1
    have ih2 := look_hits lo hi g.2.1 p2
    have hre := reach_le g m rfl
    show ((if m < lo then [] else looked l lo hi ++ .node l s r h m :: (if s.1 ≤ hi then looked r lo hi else [])).filter (fun b => hitB lo hi (boxS b))).map boxS = _
    by_cases cm : m < lo
    · rw [if_pos cm]
      refine (filter_none (p := hitB lo hi) fun x hx => ?_).symm
      have := hre x hx
      unfold hitB
      rw [decide_eq_false_iff_not]
      omega
    · rw [if_neg cm]
      show _ = (toL l ++ s :: toL r).filter (hitB lo hi)
      rw [List.filter_append, List.map_append, ih1, List.filter_append]
      congr 1
      have hr : ((if s.1 ≤ hi then looked r lo hi else []).filter (fun b => hitB lo hi (boxS b))).map boxS = (toL r).filter (hitB lo hi) := by
        by_cases cs : s.1 ≤ hi
        · rw [if_pos cs, ih2]
        · rw [if_neg cs]
          refine (filter_none (p := hitB lo hi) fun x hx => ?_).symm
          have := p4 x hx
          rw [lt3_iff] at this
          unfold hitB
          rw [decide_eq_false_iff_not]
          omega
      rw [List.filter_cons, List.filter_cons]
      show (if hitB lo hi s = true then _ else _ : List T).map boxS = _
      split
      · rw [List.map_cons, hr]; rfl
      · exact hr
theorem p_meeting {t : T} {q : Int × Int} (k : Kept t) (ok : ∀ z ∈ toL t, Okay3 z) (hq : OkQ q) : m_Wood_meeting [.wood t, .int q.1, .int q.2] = some (.lst (((toL t).filter (hitB q.1 q.2)).map sd)) := by
  refine def_gv rfl ?_
  unfold b_Wood_meeting
  have hz : Okay3 (q.1, q.2, 0) := ⟨hq.1, hq.2.1, (show Num 0 from by unfold Num B60; omega), hq.2.2⟩
  have hll := looked_len t q.1 q.2
  have hkl := k.len
  walk_at "ev"
  rw [ge_stretch_of (z := (q.1, q.2, 0)) hz]
  walk_at "ev"
  simp only [dTop_w]
  walk_at "ev"
  rw [p_looked_boxes k]
  walk_at "ev"
  refine ⟨by omega, gl_lc D.box (fun b => sd (boxS b)) (fun b => hitB q.1 q.2 (boxS b)) (fun b hb => ?_) ?_⟩
  · obtain ⟨l, s, r, h, m, rfl, hs⟩ := look_mem _ _ t b hb
    walk_at "ev"
    simp only [dStretch_n]
    walk_at "ev"
    rw [p_meet (ok s hs) hz]
    walk_at "ev"
    exact ⟨rfl, fun _ => rfl⟩
  · rw [← look_hits q.1 q.2 k.good k.srt, List.map_map]
    rfl
theorem p_holding {t : T} {x : Int} (k : Kept t) (ok : ∀ z ∈ toL t, Okay3 z) (hx : Num x) : m_Wood_holding [.wood t, .int x] = some (.lst (((toL t).filter (hitB x x)).map sd)) := by
  refine def_gv rfl ?_
  unfold b_Wood_holding
  walk_at "ev"
  have h := p_meeting (q := (x, x)) k ok ⟨hx, hx, Int.le_refl _⟩
  simp only at h
  rw [h]
  walk_at "ev"
theorem ge_list_isS {xs ys : List S3} {P : D → Prop} (hl : xs.length ≤ 10000) (hl2 : ys.length ≤ 10000) : Ge (m_law_list_is [.lst (xs.map sd), .lst (ys.map sd)]) P ↔ P (.bl (decide (xs = ys))) := by rw [p_list_isS hl hl2]; exact ge_some
theorem gl_of {x : Option (List D)} {v : List D} {P : List D → Prop} (h : Gl x (fun out => out = v)) (q : P v) : Gl x P := by
  obtain ⟨o, e, rfl⟩ := h
  exact ⟨_, e, q⟩
theorem z000 (xs : List S3) : xs.map sd ++ [D.tup [.int 0, .int 0, .int 0]] = (xs ++ [((0, 0, 0) : S3)]).map sd := by simp [sd]
theorem p_told {t : T} {q : Int × Int} (k : Kept t) (ok : ∀ z ∈ toL t, Okay3 z) (hq : OkQ q) : m_law_told [.wood t, .lst ((toL t).map sd), pd q] = some (.bl true) := by
  refine def_gv rfl ?_
  unfold b_law_told
  have hkl := k.len
  have hf1 := List.length_filter_le (hitB q.1 q.2) (toL t)
  have hf2 := List.length_filter_le (hitB q.1 q.1) (toL t)
  have e1 := p_meeting k ok hq
  have e2 := p_holding k ok hq.1
  have lc1 : ∀ ρ : DEnv, gt ρ 2 = some (pd q) → 6 < ρ.length → Gl (lcL 6 (bAnd (bVal (eOp dLe (eOp dIx (eVar 6) (eC (.int 0))) (eOp dIx (eVar 2) (eC (.int 1))))) (bVal (eOp dLe (eOp dIx (eVar 2) (eC (.int 0))) (eOp dIx (eVar 6) (eC (.int 1)))))) (eVar 6) ((toL t).map sd) ρ) (fun out => out = ((toL t).filter (hitB q.1 q.2)).map sd) := fun ρ h2 h6 => by
    refine gl_lcS (hitB q.1 q.2) h6 (fun w hw => ?_) rfl
    have g6 : gt (ρ.set 6 (some (sd w))) 6 = some (sd w) := by rw [gt_set, if_pos ⟨rfl, h6⟩]
    have g2 : gt (ρ.set 6 (some (sd w))) 2 = some (pd q) := by rw [gt_set, if_neg (fun h => by omega), h2]
    simp only [gb_and, gb_val, ge_op, ge_var, ge_c, g6, g2, ge_some]
    simp only [pd_0, pd_1]
    walk_at "ev"
    unfold hitB
    by_cases c1 : w.1 ≤ q.2
    · rw [if_pos c1]; simp [c1]
    · rw [if_neg c1]; simp [c1]
  have lc2 : ∀ ρ : DEnv, gt ρ 2 = some (pd q) → 6 < ρ.length → Gl (lcL 6 (bVal (eChain dLe dLe (eOp dIx (eVar 6) (eC (.int 0))) (eOp dIx (eVar 2) (eC (.int 0))) (eOp dIx (eVar 6) (eC (.int 1))))) (eVar 6) ((toL t).map sd) ρ) (fun out => out = ((toL t).filter (hitB q.1 q.1)).map sd) := fun ρ h2 h6 => by
    refine gl_lcS (hitB q.1 q.1) h6 (fun w hw => ?_) rfl
    have g6 : gt (ρ.set 6 (some (sd w))) 6 = some (sd w) := by rw [gt_set, if_pos ⟨rfl, h6⟩]
    have g2 : gt (ρ.set 6 (some (sd w))) 2 = some (pd q) := by rw [gt_set, if_neg (fun h => by omega), h2]
    simp only [gb_val, ge_chain, ge_op, ge_var, ge_c, g6, g2, ge_some]
    simp only [pd_0]
    walk_at "ev"
    unfold hitB
    by_cases c1 : w.1 ≤ q.1
    · rw [if_pos (by simpa using c1)]; simp [c1]
    · rw [if_neg (by simpa using c1)]; simp [c1]
  generalize (toL t).filter (hitB q.1 q.2) = F at *
  generalize (toL t).filter (hitB q.1 q.1) = G at *
  generalize hzs : toL t = zs at *
  walk_at "ev"
  simp only [pd_0, pd_1]
  walk_at "ev"
  rw [e1]
  walk_at "ev"
  refine ⟨by omega, gl_of (lc1 _ rfl (by simp)) ?_⟩
  rw [ge_list_isS (by omega) (by omega)]
  walk_at "ev"
  refine ⟨by omega, by omega, gl_of (lc1 _ rfl (by simp)) ⟨imms_sd _, ?_⟩⟩
  rw [ge_list_isS (by omega) (by omega)]
  walk_at "ev"
  refine ⟨by omega, ?_⟩
  simp only [z000]
  walk_at "ev"
  refine ⟨by omega, gl_of (lc2 _ rfl (by simp)) ⟨imms_sd _, ?_⟩⟩
  rw [e2]
  walk_at "ev"
  rw [ge_list_isS (by omega) (by omega)]
  walk_at "ev"
  refine ⟨by omega, ?_⟩
  rw [ge_list_isS (by omega) (by omega)]
  walk_at "ev"
  refine ⟨by omega, ?_⟩
  simp only [z000]
  walk_at "ev"
end
end Sp

set_option Elab.async false
set_option linter.all false
set_option maxRecDepth 100000
set_option maxHeartbeats 2000000
namespace Sp
open PySem L2
open Classical
noncomputable section
local macro_rules | `(tactic| walk_at "ev") => `(tactic| try simp only [gv_next, gv_brk, gv_cnt, gv_retN, gv_seq, nx_nx, nx_rt, nx_bk, nx_ct, gv_set, gv_setF, gv_own, gv_ret, gv_drop, gv_retO, gv_if, gv_app, gv_unp, gv_pop, gv_put, gv_par, gv_forF, gv_forN, gv_forT, gv_forR,
  ge_var, ge_c, ge_op, ge_un, gl_nil, gl_cons, ge_call, ge_meth, ge_tup, ge_lst, ge_ii, ge_sl, go_none, go_int, gb_val, gb_truth, gb_and, gb_or, gb_not, gb_yes, ge_and, ge_or, ge_if, ge_chain, ge_some, gb_some, gl_some, go_some, ge_guard, ge_lc, ge_lcT, ge_lcR, ge_eqI, ge_neI, ge_eqB, ge_neB,
  frm, full, SV.full, gt, sgt, setAll, Tg.put, List.map, List.replicate, List.set, List.length_cons, List.length_nil, List.length_append, List.length_map, List.append_nil, List.nil_append, List.cons_append, Nat.sub_self, Nat.reduceAdd, Nat.reduceSub, Nat.zero_add, Nat.add_zero,
  noOwn, List.all_cons, List.all_nil, SV.free, D.imm, D.imms, imm_sd, imms_sd, imm_tupI, Bool.and_true, Bool.true_and, Bool.and_self, Bool.false_and, Bool.and_false, true_or, or_true, or_self, false_or, or_false, true_and, and_true, if_true, if_false, Bool.false_eq_true,
  D.int.injEq, D.bl.injEq, D.lst.injEq, D.tup.injEq, D.str.injEq, D.box.injEq, D.wood.injEq, SV.v.injEq, SV.own.injEq, Option.some.injEq, exists_eq_left', exists_eq_left, exists_and_left, reduceCtorEq, false_and, and_false, exists_false,
  fLen_lst, fLen_tup, fLen_scr, fLen_sd, fMax2_ii, fMin2_ii, fInt1_i, fInt1_b, fListOf_lst, fSorted_sd, fSum_i, dIx_sd0, dIx_sd1, dIx_sd2, dIx_lst, dIx_tup, dIx_scr, atI_0, atI_1, atI_2, atI_3, dSl_lst, dSl_scr, dCat_ll, dRep_l, dNot_b, dNeg_i, dNotBl_b, dNotBl_i, dNotBl_n, dNotBl_s, dNotBl_t, dNotBl_l, dIsN_non, dIsN_int, dIsN_lst, dNotN_non, dNotN_lst, dIsN_nil, dIsN_node, dNotN_nil, dNotN_node, isi_int_non, isi_int_bl, isi_int_int, isi_int_str, isi_int_tup, isi_int_lst, isi_int_sd, isi_bool_non, isi_bool_bl, isi_bool_int, isi_bool_str, isi_bool_tup, isi_bool_lst, isi_bool_sd, isi_tuple_non, isi_tuple_bl, isi_tuple_int, isi_tuple_str, isi_tuple_tup, isi_tuple_lst, isi_tuple_sd, isi_list_non, isi_list_bl, isi_list_int, isi_list_str, isi_list_tup, isi_list_lst, isi_list_sd, tyi_non, tyi_bl, tyi_int, tyi_str, tyi_tup, tyi_lst, ge_eqT, ge_neT, ge_eqS, ge_neS, ge_inS, ge_ninS, ge_eqLS, ge_neLS, Option.map_some, Bool.not_true, Bool.not_false, Bool.not_not, decide_eq_true_eq, decide_eq_false_iff_not, Bool.not_eq_true', Bool.not_eq_false', Bool.not_eq_true, decide_true, decide_false,
  Int.reduceLT, Nat.reduceLT, Int.reduceLE, Nat.reduceLeDiff, sizeLine_eq, and_self, ite_self, not_false_eq_true, not_true_eq_false, implies_true, imp_self, forall_const, true_implies])
local macro_rules | `(tactic| walk_at "st") => `(tactic| try simp only [gv_next, gv_brk, gv_cnt, gv_retN, gv_seq, nx_nx, nx_rt, nx_bk, nx_ct, gv_set, gv_setF, gv_own, gv_ret, gv_drop, gv_retO, gv_app, gv_unp, gv_pop, gv_put, gv_par, gv_forF, gv_forN, gv_forT, gv_forR,
  ge_var, ge_c, ge_op, ge_un, gl_nil, gl_cons, ge_call, ge_meth, ge_tup, ge_lst, ge_ii, ge_sl, go_none, go_int, gb_val, gb_truth, gb_and, gb_or, gb_not, gb_yes, ge_and, ge_or, ge_if, ge_chain, ge_some, gb_some, gl_some, go_some, ge_guard, ge_lc, ge_lcT, ge_lcR, ge_eqI, ge_neI, ge_eqB, ge_neB,
  frm, full, SV.full, gt, sgt, setAll, Tg.put, List.map, List.replicate, List.set, List.length_cons, List.length_nil, List.length_append, List.length_map, List.append_nil, List.nil_append, List.cons_append, Nat.sub_self, Nat.reduceAdd, Nat.reduceSub, Nat.zero_add, Nat.add_zero,
  noOwn, List.all_cons, List.all_nil, SV.free, D.imm, D.imms, imm_sd, imms_sd, imm_tupI, Bool.and_true, Bool.true_and, Bool.and_self, Bool.false_and, Bool.and_false, true_or, or_true, or_self, false_or, or_false, true_and, and_true, if_true, if_false, Bool.false_eq_true,
  D.int.injEq, D.bl.injEq, D.lst.injEq, D.tup.injEq, D.str.injEq, D.box.injEq, D.wood.injEq, SV.v.injEq, SV.own.injEq, Option.some.injEq, exists_eq_left', exists_eq_left, exists_and_left, reduceCtorEq, false_and, and_false, exists_false,
  fLen_lst, fLen_tup, fLen_scr, fLen_sd, fMax2_ii, fMin2_ii, fInt1_i, fInt1_b, fListOf_lst, fSorted_sd, fSum_i, dIx_sd0, dIx_sd1, dIx_sd2, dIx_lst, dIx_tup, dIx_scr, atI_0, atI_1, atI_2, atI_3, dSl_lst, dSl_scr, dCat_ll, dRep_l, dNot_b, dNeg_i, dNotBl_b, dNotBl_i, dNotBl_n, dNotBl_s, dNotBl_t, dNotBl_l, dIsN_non, dIsN_int, dIsN_lst, dNotN_non, dNotN_lst, dIsN_nil, dIsN_node, dNotN_nil, dNotN_node, isi_int_non, isi_int_bl, isi_int_int, isi_int_str, isi_int_tup, isi_int_lst, isi_int_sd, isi_bool_non, isi_bool_bl, isi_bool_int, isi_bool_str, isi_bool_tup, isi_bool_lst, isi_bool_sd, isi_tuple_non, isi_tuple_bl, isi_tuple_int, isi_tuple_str, isi_tuple_tup, isi_tuple_lst, isi_tuple_sd, isi_list_non, isi_list_bl, isi_list_int, isi_list_str, isi_list_tup, isi_list_lst, isi_list_sd, tyi_non, tyi_bl, tyi_int, tyi_str, tyi_tup, tyi_lst, ge_eqT, ge_neT, ge_eqS, ge_neS, ge_inS, ge_ninS, ge_eqLS, ge_neLS, Option.map_some, Bool.not_true, Bool.not_false, Bool.not_not, decide_eq_true_eq, decide_eq_false_iff_not, Bool.not_eq_true', Bool.not_eq_false', Bool.not_eq_true, decide_true, decide_false,
  Int.reduceLT, Nat.reduceLT, Int.reduceLE, Nat.reduceLeDiff, sizeLine_eq, and_self, ite_self, not_false_eq_true, not_true_eq_false, implies_true, imp_self, forall_const, true_implies])

theorem deeds_cutI {ds : List Deed} {S : List S3} {c : Int} {m : Nat} (h : Runs ds S) (h0 : 0 ≤ c) (h1 : c ≤ m) : ∃ ds1 : List Deed, cutD (ds.map dd) none (some c) = ds1.map dd ∧ ds1.length ≤ m ∧ ∃ x, Runs ds1 x := by
  obtain ⟨n, rfl⟩ := Int.eq_ofNat_of_zero_le h0
  refine ⟨cutD ds none (some (n : Int)), cut_map _ _ _ _, ?_⟩
  have e2 : cutD ds none (some (n : Int)) = ds.take (min n ds.length) := by
    unfold cutD
    rw [HT.sIx_none, HT.sIx_nat, List.drop_zero, Nat.sub_zero]
  rw [e2]
  exact ⟨by rw [List.length_take]; omega, h.take _⟩
theorem p_deeds2 {ns : List Int} {i : Nat} {big : List S3} (hi : i ≤ 2) (hl : ns.length ≤ 63) (hB : ∀ z ∈ ns, Builtin.Int.intBits z ≤ 1048576) (nd : big.Nodup) (ok : ∀ z ∈ big, Okay3 z) (hb : big.length ≤ 100) :
    Ge (m_law_deeds2 [.scr ns, .int i, .lst (big.map sd)]) fun d => ∃ ds S, d = .lst (ds.map dd) ∧ ds.length ≤ 40 + big.length ∧ Runs ds S := by
  refine def_ge rfl ?_
  unfold b_law_deeds2
  walk_at "ev"
  refine ⟨by omega, gl_lc sd (fun z => dd (("put" : Str), z, ("done" : Str))) (fun _ => true) (fun z hz => ⟨gb_yes.mpr rfl, fun _ => ⟨?_, rfl⟩⟩) ?_⟩
  · walk_at "ev"
    rfl
  rw [filter_true]
  have e0 : big.map (fun z => dd (("put" : Str), z, ("done" : Str))) = (big.map fun z => (("put" : Str), z, ("done" : Str))).map dd := by rw [List.map_map]; rfl
  rw [e0]
  have h0 := runs_big [] big [] .nil (by simpa using nd) ok
  simp only [List.nil_append] at h0
  refine ⟨imms_dd _, _, if_pos ⟨by unfold i62; omega, by unfold i62; omega⟩, ?_⟩
  refine gv_for (fun _ ρ => ∃ ds S a b c, ρ = [SV.v (.scr ns), .v (.int i), .v (.lst (big.map sd)), .v (.lst (S.map sd)), a, .own (ds.map dd), b, c] ∧ Runs ds S ∧ ds.length ≤ 40 + big.length) ⟨_, _, _, _, _, rfl, h0, by rw [List.length_map]; omega⟩ (fun k d ρ hk ⟨ds, S, a, b, c, e, hR, hlen⟩ => ?_) (fun ρ ⟨ds, S, a, b, c, e, hR, hlen⟩ => ?_)
  · subst e
    have hmem := List.mem_of_getElem? hk
    obtain ⟨x, hx, rfl⟩ := List.mem_map.mp hmem
    unfold rng at hx
    obtain ⟨j, hj, rfl⟩ := List.mem_map.mp hx
    have hj' := List.mem_range.mp hj
    refine ⟨_, rfl, ?_⟩
    have ej : (i : Int) + (j : Int) = ((i + j : Nat) : Int) := by omega
    rw [ej]
    generalize hjj : i + j = m at *
    have hm : m < ns.length := by omega
    have hb2 : BW 1048576 ns[m] := by
      unfold BW
      exact hB _ (List.getElem_mem hm)
    walk_at "ev"
    have ea : atI ns (m : Int) = some ns[m] := atI_nat' hm
    rw [ea]
    walk_at "ev"
    have hSl := hR.len
    refine ⟨mulC hb2 (by omega), mul64 (by omega) (by omega), ?_⟩
    obtain ⟨d, ed, ws, rfl, hwl, hwo⟩ := p_picked (c := ns[m]) (s := ns[m] * 48271 + 29 * (m : Int)) (zs := S) (seedB hb2 (by omega) (by omega)) (by omega) hR.ok
    rw [ed]
    refine ⟨_, rfl, _, rfl, by rw [imms_sd], ?_⟩
    refine gv_for (fun n ρ => ∃ ds' S' a' c', ρ = [SV.v (.scr ns), .v (.int i), .v (.lst (big.map sd)), .v (.lst (S'.map sd)), a', .own (ds'.map dd), .v (.int m), c'] ∧ Runs ds' S' ∧ ds'.length ≤ 40 + big.length + n) ⟨_, _, _, _, rfl, hR, hlen⟩ (fun n d ρ hk2 ⟨ds', S', a', c', e, hR', hlen'⟩ => ?_) (fun ρ ⟨ds', S', a', c', e, hR', hlen'⟩ => ?_)
    · subst e
      rw [List.getElem?_map, Option.map_eq_some_iff] at hk2
      obtain ⟨w, hw, rfl⟩ := hk2
      have hwn := (List.getElem?_eq_some_iff.mp hw).1
      have okw := hwo w (List.mem_of_getElem? hw)
      have hSl' := hR'.len
      refine ⟨_, rfl, ?_⟩
      obtain ⟨b0, hin⟩ : ∃ b, dInT (D.int (ns[m] % 8)) (D.tup [D.int 3, D.int 5, D.int 6]) = some (.bl b) := ⟨_, rfl⟩
      walk_at "ev"
      rw [ea]
      walk_at "ev"
      rw [hin]
      walk_at "ev"
      have st : ¬ (("take" : Str) = "put") := by decide +kernel
      have stepT : ∀ y, stepS S' (("take" : Str), w, y) = S'.filter (fun v => decide (v ≠ w)) := fun y => if_neg st
      have hf : ∀ (c0 : D) (x : SV), Gl (lcL 7 (bVal (eOp dNe (eVar 7) (eVar 4))) (eVar 7) (List.map sd S') [some (D.scr ns), some (D.int i), some (D.lst (List.map sd big)), some (D.lst (List.map sd S')), some (sd w), some c0, some (D.int m), x.full]) (fun out => out = (S'.filter (fun v => decide (v ≠ w))).map sd) := fun c0 x => by
        refine gl_lcS (fun v => decide (v ≠ w)) (by simp) (fun v hv => ?_) rfl
        walk_at "ev"
        by_cases e : v = w <;> simp [e]
      by_cases hb0 : b0 = true
      · rw [if_pos hb0]
        by_cases hm2 : w ∈ S'
        · rw [if_pos hm2]
          refine ⟨by omega, by omega, ?_⟩
          obtain ⟨out, eo, rfl⟩ := hf (D.lst (List.map dd ds' ++ [D.tup [D.str (Str.ofString "take"), sd w, D.str (Str.ofString "done")]])) c'
          refine ⟨_, eo, by rw [imms_sd], ds' ++ [(("take" : Str), w, ("done" : Str))], S'.filter (fun v => decide (v ≠ w)), _, _, by rw [List.map_append]; rfl, ?_, by rw [List.length_append, List.length_singleton]; omega⟩
          have := Runs.snoc hR' (e := (("take" : Str), w, ("done" : Str))) ⟨okw, .inr ⟨rfl, (if_pos hm2).symm⟩⟩
          rw [stepT] at this
          exact this
        · rw [if_neg hm2]
          refine ⟨by omega, by omega, ?_⟩
          obtain ⟨out, eo, rfl⟩ := hf (D.lst (List.map dd ds' ++ [D.tup [D.str (Str.ofString "take"), sd w, D.str (Str.ofString "missing")]])) c'
          refine ⟨_, eo, by rw [imms_sd], ds' ++ [(("take" : Str), w, ("missing" : Str))], S'.filter (fun v => decide (v ≠ w)), _, _, by rw [List.map_append]; rfl, ?_, by rw [List.length_append, List.length_singleton]; omega⟩
          have := Runs.snoc hR' (e := (("take" : Str), w, ("missing" : Str))) ⟨okw, .inr ⟨rfl, (if_neg hm2).symm⟩⟩
          rw [stepT] at this
          exact this
      · rw [if_neg hb0]
        by_cases hm2 : w ∈ S'
        · rw [if_pos hm2]
          simp only [hm2, not_true_eq_false, if_false]
          refine ⟨by omega, by decide, by simp; omega, by simp [imms_sd], ds' ++ [(("put" : Str), w, ("twice" : Str))], S', .v (sd w), c', by rw [List.map_append]; simp; rfl, ?_, by rw [List.length_append, List.length_singleton]; omega⟩
          have := Runs.snoc hR' (e := (("put" : Str), w, ("twice" : Str))) ⟨okw, .inl ⟨rfl, (if_pos hm2).symm⟩⟩
          have es : stepS S' (("put" : Str), w, ("twice" : Str)) = S' := by unfold stepS; rw [if_pos rfl, if_pos hm2]
          rw [es] at this
          exact this
        · rw [if_neg hm2]
          simp only [hm2, not_false_eq_true, if_true]
          refine ⟨by omega, by decide, by simp; omega, (by simp; rw [show List.map sd S' ++ [sd w] = (S' ++ [w]).map sd from by simp]; exact imms_sd _), ds' ++ [(("put" : Str), w, ("done" : Str))], S' ++ [w], .v (sd w), c', by rw [List.map_append, List.map_append]; simp; rfl, ?_, by rw [List.length_append, List.length_singleton]; omega⟩
          have := Runs.snoc hR' (e := (("put" : Str), w, ("done" : Str))) ⟨okw, .inl ⟨rfl, (if_neg hm2).symm⟩⟩
          have es : stepS S' (("put" : Str), w, ("done" : Str)) = S' ++ [w] := by unfold stepS; rw [if_pos rfl, if_neg hm2]
          rw [es] at this
          exact this
    · subst e
      walk_at "ev"
      by_cases hbk : 40 + (big.length : Int) < (ds'.length : Int)
      · rw [if_pos hbk]
        by_cases c0 : 0 < (big.length : Int)
        · rw [if_pos c0]
          exact deeds_cutI hR' (by omega) (by omega)
        · rw [if_neg c0]
          exact deeds_cutI hR' (by omega) (by omega)
      · rw [if_neg hbk]
        exact ⟨ds', S', a', _, c', rfl, hR', by omega⟩
  · subst e
    walk_at "ev"
    by_cases c0 : 0 < (big.length : Int)
    · rw [if_pos c0]
      exact deeds_cutI hR (by omega) (by omega)
    · rw [if_neg c0]
      exact deeds_cutI hR (by omega) (by omega)
theorem p_deeds3 {ns : List Int} {i : Nat} {big : List S3} (hi : i ≤ 2) (hl : ns.length ≤ 63) (hB : ∀ z ∈ ns, Builtin.Int.intBits z ≤ 1048576) (nd : big.Nodup) (ok : ∀ z ∈ big, Okay3 z) (hb : big.length ≤ 100) :
    Ge (m_law_deeds3 [.scr ns, .int i, .lst (big.map sd)]) fun d => ∃ ds S, d = .lst (ds.map dd) ∧ ds.length ≤ 40 + big.length ∧ Runs ds S := by
  refine def_ge rfl ?_
  unfold b_law_deeds3
  walk_at "ev"
  refine ⟨by omega, gl_lc sd (fun z => dd (("put" : Str), z, ("done" : Str))) (fun _ => true) (fun z hz => ⟨gb_yes.mpr rfl, fun _ => ⟨?_, rfl⟩⟩) ?_⟩
  · walk_at "ev"
    rfl
  rw [filter_true]
  have e0 : big.map (fun z => dd (("put" : Str), z, ("done" : Str))) = (big.map fun z => (("put" : Str), z, ("done" : Str))).map dd := by rw [List.map_map]; rfl
  rw [e0]
  have h0 := runs_big [] big [] .nil (by simpa using nd) ok
  simp only [List.nil_append] at h0
  refine ⟨imms_dd _, _, if_pos ⟨by unfold i62; omega, by unfold i62; omega⟩, ?_⟩
  refine gv_for (fun _ ρ => ∃ ds S a b c, ρ = [SV.v (.scr ns), .v (.int i), .v (.lst (big.map sd)), .v (.lst (S.map sd)), a, .own (ds.map dd), b, c] ∧ Runs ds S ∧ ds.length ≤ 40 + big.length) ⟨_, _, _, _, _, rfl, h0, by rw [List.length_map]; omega⟩ (fun k d ρ hk ⟨ds, S, a, b, c, e, hR, hlen⟩ => ?_) (fun ρ ⟨ds, S, a, b, c, e, hR, hlen⟩ => ?_)
  · subst e
    have hmem := List.mem_of_getElem? hk
    obtain ⟨x, hx, rfl⟩ := List.mem_map.mp hmem
    unfold rng at hx
    obtain ⟨j, hj, rfl⟩ := List.mem_map.mp hx
    have hj' := List.mem_range.mp hj
    refine ⟨_, rfl, ?_⟩
    have ej : (i : Int) + (j : Int) = ((i + j : Nat) : Int) := by omega
    rw [ej]
    generalize hjj : i + j = m at *
    have hm : m < ns.length := by omega
    have hb2 : BW 1048576 ns[m] := by
      unfold BW
      exact hB _ (List.getElem_mem hm)
    walk_at "ev"
    have ea : atI ns (m : Int) = some ns[m] := atI_nat' hm
    rw [ea]
    walk_at "ev"
    have hSl := hR.len
    refine ⟨mulC hb2 (by omega), mul64 (by omega) (by omega), ?_⟩
    obtain ⟨d, ed, ws, rfl, hwl, hwo⟩ := p_picked (c := ns[m]) (s := ns[m] * 48271 + 29 * (m : Int)) (zs := S) (seedB hb2 (by omega) (by omega)) (by omega) hR.ok
    rw [ed]
    refine ⟨_, rfl, _, rfl, by rw [imms_sd], ?_⟩
    refine gv_for (fun n ρ => ∃ ds' S' a' c', ρ = [SV.v (.scr ns), .v (.int i), .v (.lst (big.map sd)), .v (.lst (S'.map sd)), a', .own (ds'.map dd), .v (.int m), c'] ∧ Runs ds' S' ∧ ds'.length ≤ 40 + big.length + n) ⟨_, _, _, _, rfl, hR, hlen⟩ (fun n d ρ hk2 ⟨ds', S', a', c', e, hR', hlen'⟩ => ?_) (fun ρ ⟨ds', S', a', c', e, hR', hlen'⟩ => ?_)
    · subst e
      rw [List.getElem?_map, Option.map_eq_some_iff] at hk2
      obtain ⟨w, hw, rfl⟩ := hk2
      have hwn := (List.getElem?_eq_some_iff.mp hw).1
      have okw := hwo w (List.mem_of_getElem? hw)
      have hSl' := hR'.len
      refine ⟨_, rfl, ?_⟩
      obtain ⟨b0, hin⟩ : ∃ b, dInT (D.int (ns[m] % 8)) (D.tup [D.int 3, D.int 5, D.int 6]) = some (.bl b) := ⟨_, rfl⟩
      walk_at "ev"
      rw [ea]
      walk_at "ev"
      rw [hin]
      walk_at "ev"
      have st : ¬ (("take" : Str) = "put") := by decide +kernel
      have stepT : ∀ y, stepS S' (("take" : Str), w, y) = S'.filter (fun v => decide (v ≠ w)) := fun y => if_neg st
      have hf : ∀ (c0 : D) (x : SV), Gl (lcL 7 (bVal (eOp dNe (eVar 7) (eVar 4))) (eVar 7) (List.map sd S') [some (D.scr ns), some (D.int i), some (D.lst (List.map sd big)), some (D.lst (List.map sd S')), some (sd w), some c0, some (D.int m), x.full]) (fun out => out = (S'.filter (fun v => decide (v ≠ w))).map sd) := fun c0 x => by
        refine gl_lcS (fun v => decide (v ≠ w)) (by simp) (fun v hv => ?_) rfl
        walk_at "ev"
        by_cases e : v = w <;> simp [e]
      by_cases hb0 : b0 = true
      · rw [if_pos hb0]
        by_cases hm2 : w ∈ S'
        · rw [if_pos hm2]
          refine ⟨by omega, by omega, ?_⟩
          obtain ⟨out, eo, rfl⟩ := hf (D.lst (List.map dd ds' ++ [D.tup [D.str (Str.ofString "take"), sd w, D.str (Str.ofString "done")]])) c'
          refine ⟨_, eo, by rw [imms_sd], ds' ++ [(("take" : Str), w, ("done" : Str))], S'.filter (fun v => decide (v ≠ w)), _, _, by rw [List.map_append]; rfl, ?_, by rw [List.length_append, List.length_singleton]; omega⟩
          have := Runs.snoc hR' (e := (("take" : Str), w, ("done" : Str))) ⟨okw, .inr ⟨rfl, (if_pos hm2).symm⟩⟩
          rw [stepT] at this
          exact this
        · rw [if_neg hm2]
          refine ⟨by omega, by omega, ?_⟩
          obtain ⟨out, eo, rfl⟩ := hf (D.lst (List.map dd ds' ++ [D.tup [D.str (Str.ofString "take"), sd w, D.str (Str.ofString "missing")]])) c'
          refine ⟨_, eo, by rw [imms_sd], ds' ++ [(("take" : Str), w, ("missing" : Str))], S'.filter (fun v => decide (v ≠ w)), _, _, by rw [List.map_append]; rfl, ?_, by rw [List.length_append, List.length_singleton]; omega⟩
          have := Runs.snoc hR' (e := (("take" : Str), w, ("missing" : Str))) ⟨okw, .inr ⟨rfl, (if_neg hm2).symm⟩⟩
          rw [stepT] at this
          exact this
      · rw [if_neg hb0]
        by_cases hm2 : w ∈ S'
        · rw [if_pos hm2]
          simp only [hm2, not_true_eq_false, if_false]
          refine ⟨by omega, by decide, by simp; omega, by simp [imms_sd], ds' ++ [(("put" : Str), w, ("twice" : Str))], S', .v (sd w), c', by rw [List.map_append]; simp; rfl, ?_, by rw [List.length_append, List.length_singleton]; omega⟩
          have := Runs.snoc hR' (e := (("put" : Str), w, ("twice" : Str))) ⟨okw, .inl ⟨rfl, (if_pos hm2).symm⟩⟩
          have es : stepS S' (("put" : Str), w, ("twice" : Str)) = S' := by unfold stepS; rw [if_pos rfl, if_pos hm2]
          rw [es] at this
          exact this
        · rw [if_neg hm2]
          simp only [hm2, not_false_eq_true, if_true]
          refine ⟨by omega, by decide, by simp; omega, (by simp; rw [show List.map sd S' ++ [sd w] = (S' ++ [w]).map sd from by simp]; exact imms_sd _), ds' ++ [(("put" : Str), w, ("done" : Str))], S' ++ [w], .v (sd w), c', by rw [List.map_append, List.map_append]; simp; rfl, ?_, by rw [List.length_append, List.length_singleton]; omega⟩
          have := Runs.snoc hR' (e := (("put" : Str), w, ("done" : Str))) ⟨okw, .inl ⟨rfl, (if_neg hm2).symm⟩⟩
          have es : stepS S' (("put" : Str), w, ("done" : Str)) = S' ++ [w] := by unfold stepS; rw [if_pos rfl, if_neg hm2]
          rw [es] at this
          exact this
    · subst e
      walk_at "ev"
      by_cases hbk : 40 < (ds'.length : Int)
      · rw [if_pos hbk]
        exact deeds_cutI hR' (by omega) (by omega)
      · rw [if_neg hbk]
        exact ⟨ds', S', a', _, c', rfl, hR', by omega⟩
  · subst e
    walk_at "ev"
    exact deeds_cutI hR (by omega) (by omega)
def bigSb (c : Int) (k : Nat) : S3 := (3 * (k : Int) - 90, 3 * (k : Int) - 90 + (k : Int) * k % (1 + c / 256 % 9), k)
def bigLb (c : Int) : List S3 := if c / 16 % 16 = 5 then (List.range (64 + c % 21).toNat).map (bigSb c) else []
theorem bigSb_ok {c : Int} {k : Nat} (hk : k < 101) : Okay3 (bigSb c k) := by
  have e5 : 0 < 1 + c / 256 % 9 := by omega
  have e6 := Int.emod_nonneg ((k : Int) * k) (show (1 + c / 256 % 9) ≠ 0 by omega)
  have e7 := Int.emod_lt_of_pos ((k : Int) * k) e5
  have e8 : 1 + c / 256 % 9 ≤ 9 := by omega
  unfold bigSb
  generalize (k : Int) * k % (1 + c / 256 % 9) = b at *
  generalize 1 + c / 256 % 9 = d at *
  unfold Okay3 Num B60
  simp only
  refine ⟨⟨?_, ?_⟩, ⟨?_, ?_⟩, ⟨?_, ?_⟩, ?_⟩ <;> omega
theorem bigLb_ok {c : Int} : ∀ z ∈ bigLb c, Okay3 z := by
  intro z hz
  unfold bigLb at hz
  split at hz
  · obtain ⟨k, hk, rfl⟩ := List.mem_map.mp hz
    exact bigSb_ok (by have := List.mem_range.mp hk; omega)
  · cases hz
theorem bigLb_len (c : Int) : (bigLb c).length ≤ 84 := by
  unfold bigLb
  split
  · rw [List.length_map, List.length_range]; omega
  · simp
theorem bigLb_nd (c : Int) : (bigLb c).Nodup := by
  unfold bigLb
  split
  · rw [List.nodup_iff_pairwise_ne, List.pairwise_map]
    refine List.Pairwise.imp (fun {a b} (h : a < b) e => ?_) List.pairwise_lt_range
    have := congrArg (fun z : S3 => z.2.2) e
    simp only [bigSb] at this
    omega
  · exact List.nodup_nil
theorem p_bigb {c : Int} (hb : BW 2000000 c) : m_law_big2 [.int c] = some (.lst ((bigLb c).map sd)) := by
  refine def_gv rfl ?_
  unfold b_law_big2
  walk_at "ev"
  by_cases h : c / 16 % 16 = 5
  · rw [if_neg (fun z => z h)]
    refine ⟨_, rng1_int (by omega) (by omega), by rw [List.length_map, List.length_range]; omega, ?_⟩
    rw [map_dint]
    refine gl_lc (fun k : Nat => D.int k) (fun k => sd (bigSb c k)) (fun _ => true) (fun k hk => ?_) ?_
    · have hk' := List.mem_range.mp hk
      walk_at "ev"
      have hm : MulOk (k : Int) k := mul64 (by omega) (by omega)
      have h3 : MulOk 3 (k : Int) := mul64 (by omega) (by omega)
      exact ⟨h3, h3, hm, by omega, rfl⟩
    rw [filter_true]
    unfold bigLb
    rw [if_pos h, List.map_map]
    rfl
  · rw [if_pos h]
    unfold bigLb
    rw [if_neg h]
    rfl
end
end Sp

set_option Elab.async false
set_option linter.all false
set_option maxRecDepth 100000
set_option maxHeartbeats 2000000
namespace Sp
open PySem L2
open Classical
noncomputable section
local macro_rules | `(tactic| walk_at "ev") => `(tactic| try simp only [gv_next, gv_brk, gv_cnt, gv_retN, gv_seq, nx_nx, nx_rt, nx_bk, nx_ct, gv_set, gv_setF, gv_own, gv_ret, gv_drop, gv_retO, gv_if, gv_app, gv_unp, gv_pop, gv_put, gv_par, gv_forF, gv_forN, gv_forT, gv_forR,
  ge_var, ge_c, ge_op, ge_un, gl_nil, gl_cons, ge_call, ge_meth, ge_tup, ge_lst, ge_ii, ge_sl, go_none, go_int, gb_val, gb_truth, gb_and, gb_or, gb_not, gb_yes, ge_and, ge_or, ge_if, ge_chain, ge_some, gb_some, gl_some, go_some, ge_guard, ge_lc, ge_lcT, ge_lcR, ge_eqI, ge_neI, ge_eqB, ge_neB,
  frm, full, SV.full, gt, sgt, setAll, Tg.put, List.map, List.replicate, List.set, List.length_cons, List.length_nil, List.length_append, List.length_map, List.append_nil, List.nil_append, List.cons_append, Nat.sub_self, Nat.reduceAdd, Nat.reduceSub, Nat.zero_add, Nat.add_zero,
  noOwn, List.all_cons, List.all_nil, SV.free, D.imm, D.imms, imm_sd, imms_sd, imm_tupI, Bool.and_true, Bool.true_and, Bool.and_self, Bool.false_and, Bool.and_false, true_or, or_true, or_self, false_or, or_false, true_and, and_true, if_true, if_false, Bool.false_eq_true,
  D.int.injEq, D.bl.injEq, D.lst.injEq, D.tup.injEq, D.str.injEq, D.box.injEq, D.wood.injEq, SV.v.injEq, SV.own.injEq, Option.some.injEq, exists_eq_left', exists_eq_left, exists_and_left, reduceCtorEq, false_and, and_false, exists_false,
  fLen_lst, fLen_tup, fLen_scr, fLen_sd, fMax2_ii, fMin2_ii, fInt1_i, fInt1_b, fListOf_lst, fSorted_sd, fSum_i, dIx_sd0, dIx_sd1, dIx_sd2, dIx_lst, dIx_tup, dIx_scr, atI_0, atI_1, atI_2, atI_3, dSl_lst, dSl_scr, dCat_ll, dRep_l, dNot_b, dNeg_i, dNotBl_b, dNotBl_i, dNotBl_n, dNotBl_s, dNotBl_t, dNotBl_l, dIsN_non, dIsN_int, dIsN_lst, dNotN_non, dNotN_lst, dIsN_nil, dIsN_node, dNotN_nil, dNotN_node, isi_int_non, isi_int_bl, isi_int_int, isi_int_str, isi_int_tup, isi_int_lst, isi_int_sd, isi_bool_non, isi_bool_bl, isi_bool_int, isi_bool_str, isi_bool_tup, isi_bool_lst, isi_bool_sd, isi_tuple_non, isi_tuple_bl, isi_tuple_int, isi_tuple_str, isi_tuple_tup, isi_tuple_lst, isi_tuple_sd, isi_list_non, isi_list_bl, isi_list_int, isi_list_str, isi_list_tup, isi_list_lst, isi_list_sd, tyi_non, tyi_bl, tyi_int, tyi_str, tyi_tup, tyi_lst, ge_eqT, ge_neT, ge_eqS, ge_neS, ge_inS, ge_ninS, ge_eqLS, ge_neLS, Option.map_some, Bool.not_true, Bool.not_false, Bool.not_not, decide_eq_true_eq, decide_eq_false_iff_not, Bool.not_eq_true', Bool.not_eq_false', Bool.not_eq_true, decide_true, decide_false,
  Int.reduceLT, Nat.reduceLT, Int.reduceLE, Nat.reduceLeDiff, sizeLine_eq, and_self, ite_self, not_false_eq_true, not_true_eq_false, implies_true, imp_self, forall_const, true_implies])
local macro_rules | `(tactic| walk_at "st") => `(tactic| try simp only [gv_next, gv_brk, gv_cnt, gv_retN, gv_seq, nx_nx, nx_rt, nx_bk, nx_ct, gv_set, gv_setF, gv_own, gv_ret, gv_drop, gv_retO, gv_app, gv_unp, gv_pop, gv_put, gv_par, gv_forF, gv_forN, gv_forT, gv_forR,
  ge_var, ge_c, ge_op, ge_un, gl_nil, gl_cons, ge_call, ge_meth, ge_tup, ge_lst, ge_ii, ge_sl, go_none, go_int, gb_val, gb_truth, gb_and, gb_or, gb_not, gb_yes, ge_and, ge_or, ge_if, ge_chain, ge_some, gb_some, gl_some, go_some, ge_guard, ge_lc, ge_lcT, ge_lcR, ge_eqI, ge_neI, ge_eqB, ge_neB,
  frm, full, SV.full, gt, sgt, setAll, Tg.put, List.map, List.replicate, List.set, List.length_cons, List.length_nil, List.length_append, List.length_map, List.append_nil, List.nil_append, List.cons_append, Nat.sub_self, Nat.reduceAdd, Nat.reduceSub, Nat.zero_add, Nat.add_zero,
  noOwn, List.all_cons, List.all_nil, SV.free, D.imm, D.imms, imm_sd, imms_sd, imm_tupI, Bool.and_true, Bool.true_and, Bool.and_self, Bool.false_and, Bool.and_false, true_or, or_true, or_self, false_or, or_false, true_and, and_true, if_true, if_false, Bool.false_eq_true,
  D.int.injEq, D.bl.injEq, D.lst.injEq, D.tup.injEq, D.str.injEq, D.box.injEq, D.wood.injEq, SV.v.injEq, SV.own.injEq, Option.some.injEq, exists_eq_left', exists_eq_left, exists_and_left, reduceCtorEq, false_and, and_false, exists_false,
  fLen_lst, fLen_tup, fLen_scr, fLen_sd, fMax2_ii, fMin2_ii, fInt1_i, fInt1_b, fListOf_lst, fSorted_sd, fSum_i, dIx_sd0, dIx_sd1, dIx_sd2, dIx_lst, dIx_tup, dIx_scr, atI_0, atI_1, atI_2, atI_3, dSl_lst, dSl_scr, dCat_ll, dRep_l, dNot_b, dNeg_i, dNotBl_b, dNotBl_i, dNotBl_n, dNotBl_s, dNotBl_t, dNotBl_l, dIsN_non, dIsN_int, dIsN_lst, dNotN_non, dNotN_lst, dIsN_nil, dIsN_node, dNotN_nil, dNotN_node, isi_int_non, isi_int_bl, isi_int_int, isi_int_str, isi_int_tup, isi_int_lst, isi_int_sd, isi_bool_non, isi_bool_bl, isi_bool_int, isi_bool_str, isi_bool_tup, isi_bool_lst, isi_bool_sd, isi_tuple_non, isi_tuple_bl, isi_tuple_int, isi_tuple_str, isi_tuple_tup, isi_tuple_lst, isi_tuple_sd, isi_list_non, isi_list_bl, isi_list_int, isi_list_str, isi_list_tup, isi_list_lst, isi_list_sd, tyi_non, tyi_bl, tyi_int, tyi_str, tyi_tup, tyi_lst, ge_eqT, ge_neT, ge_eqS, ge_neS, ge_inS, ge_ninS, ge_eqLS, ge_neLS, Option.map_some, Bool.not_true, Bool.not_false, Bool.not_not, decide_eq_true_eq, decide_eq_false_iff_not, Bool.not_eq_true', Bool.not_eq_false', Bool.not_eq_true, decide_true, decide_false,
  Int.reduceLT, Nat.reduceLT, Int.reduceLE, Nat.reduceLeDiff, sizeLine_eq, and_self, ite_self, not_false_eq_true, not_true_eq_false, implies_true, imp_self, forall_const, true_implies])

local macro_rules | `(tactic| walk_at "wx") => `(tactic| (walk_at "ev"; repeat (simp only [gv_setW, gv_newW, pd_0, pd_1, bd_0, bd_1, bd_2, bd_3, dTop_w, nw_sds, nw_dds, noLst, noL_v, noL_wd, noL_no, List.all_cons, List.all_nil, Bool.and_self, Bool.and_true, Bool.true_and, true_and, and_true]; walk_at "ev")))

theorem nw_pd (q : Int × Int) : (pd q).nw = true := rfl
theorem ge_told {t : T} {q : Int × Int} {P : D → Prop} (k : Kept t) (ok : ∀ z ∈ toL t, Okay3 z) (hq : OkQ q) : Ge (m_law_told [.wood t, .lst ((toL t).map sd), pd q]) P ↔ P (.bl true) := by rw [p_told k ok hq]; exact ge_some
theorem true_k08 {ns : List Int} (hl : ns.length ≤ 63) (hB : ∀ z ∈ ns, Builtin.Int.intBits z ≤ 1048576) : m_law_k08 [.scr ns] = some (.bl true) := by
  refine def_gv rfl ?_
  unfold b_law_k08
  have hb0 := cell_bits2 hB 0
  have hbig : BW 2000000 (cell ns 0) := hb0.mono (by decide)
  have hbl := bigL_len (cell ns 0)
  have A0 : At [] 0 .nil := At.zero []
  have K0 := A0.kept (by decide)
  walk_at "wx"
  refine ⟨rfl, ?_⟩
  rw [ge_at (by decide) hl]
  walk_at "wx"
  rw [p_big hbig]
  walk_at "wx"
  obtain ⟨d, ed, ds, S, rfl, hdl, hR⟩ := p_deeds2 (i := 1) (by decide) hl hB (bigL_nd (cell ns 0)) bigL_ok (bigL_len _)
  have ed' : m_law_deeds2 [D.scr ns, D.int 1, D.lst (List.map sd (bigL (cell ns 0)))] = some (D.lst (ds.map dd)) := ed
  rw [ed']
  walk_at "wx"
  rw [ge_at (by decide) hl]
  walk_at "wx"
  refine ⟨mulC hb0 (by decide), ?_⟩
  obtain ⟨d1, ed1, q1, rfl, hq1⟩ := p_ask2 (s := cell ns 0 * 69621 + 5) (zs := []) (seedB hb0 (by decide) (by decide))
  have ed1' : m_law_ask2 [D.int (cell ns 0 * 69621 + 5), D.lst []] = some (pd q1) := ed1
  rw [ed1']
  walk_at "wx"
  refine ⟨nw_pd _, ?_⟩
  have t0 : m_law_told [D.wood .nil, D.lst [], pd q1] = some (.bl true) := p_told K0 (fun z hz => by cases hz) hq1
  rw [t0]
  walk_at "wx"
  generalize bigL (cell ns 0) = big at *
  refine ⟨_, rng1_nat (n := ds.length) (by omega), ?_⟩
  rw [map_dint]
  refine gv_for (fun k ρ => ∃ t a6 a7 a8, ρ = [SV.v (.scr ns), .wd none t, .v (.lst ((toL t).map sd)), .v (.lst (big.map sd)), .v (.lst (ds.map dd)), .v (pd q1), a6, a7, a8] ∧ a6.noL = true ∧ a7.noL = true ∧ a8.noL = true ∧ At ds k t) ⟨.nil, _, _, _, rfl, rfl, rfl, rfl, At.zero ds⟩ (fun k x ρ hk ⟨t, a6, a7, a8, eq, n6, n7, n8, hA⟩ => ?_) (fun ρ ⟨t, a6, a7, a8, eq, n6, n7, n8, hA⟩ => ?_)
  · subst eq
    rw [List.getElem?_map, Option.map_eq_some_iff] at hk
    obtain ⟨j, hj, rfl⟩ := hk
    have hjl := (List.getElem?_eq_some_iff.mp hj).1
    rw [List.length_range] at hjl
    rw [List.getElem?_range hjl] at hj
    cases hj
    refine ⟨_, rfl, ?_⟩
    have hal := hA.len
    obtain ⟨t', h1, h2, h3, _⟩ := hA.step hR hjl (by omega)
    have kt := hA.kept (by omega)
    have kt' := h2.kept (by omega)
    obtain ⟨d2, ed2, q2, rfl, hq2⟩ := p_ask2 (s := cell ns 0 * 48271 + 69621 * (k : Int)) (zs := toL t) (seedB hb0 (by decide) (by omega))
    have rest : Gv ((sSeq (sSet 8 (eOp dIx (eVar 4) (eVar 6)))
      (sSeq (sIfDo 1 fDo (eVar 8)
        (sRet (eC (.bl false)))
        sNext)
      (sSeq (sSetW 2 (eCall m_law_behind (eCons (eVar 2) (eCons (eVar 8) eNil))))
      (sIf (bAnd (bOr (bVal (eOp dGe (eVar 6) (eCall fLen (eCons (eVar 3) eNil)))) (bVal (eOp dEq (eOp dMod (eVar 6) (eC (.int 20))) (eC (.int 0))))) (bNot (bVal (eCall m_law_told (eCons (eVar 1) (eCons (eVar 2) (eCons (eVar 7) eNil)))))))
        (sRet (eC (.bl false)))
        sNext)))) [SV.v (.scr ns), .wd none t, .v (.lst ((toL t).map sd)), .v (.lst (big.map sd)), .v (.lst (ds.map dd)), .v (pd q1), .v (.int k), .v (pd q2), a8]) (fun o => o = .nx [SV.v (.scr ns), .wd none t', .v (.lst ((toL t').map sd)), .v (.lst (big.map sd)), .v (.lst (ds.map dd)), .v (pd q1), .v (.int k), .v (pd q2), .v (dd ds[k])]) := by
      walk_at "wx"
      rw [at_dd hjl]
      walk_at "wx"
      refine ⟨rfl, gv_ifDo rfl ⟨_, rfl, rfl, h1⟩ ?_⟩
      walk_at "wx"
      rw [h3]
      walk_at "wx"
      simp only [ge_told kt' h2.ok hq2]
      walk_at "wx"
    obtain ⟨o, eo, rfl⟩ := rest
    generalize hREST : (sSeq (sSet 8 (eOp dIx (eVar 4) (eVar 6))) _) = REST at eo ⊢
    clear hREST
    walk_at "wx"
    rw [ge_at (by decide) hl]
    walk_at "wx"
    have fin : ∀ P : Out → Prop, (∀ ρ, (∃ t a6 a7 a8, ρ = [SV.v (.scr ns), .wd none t, .v (.lst ((toL t).map sd)), .v (.lst (big.map sd)), .v (.lst (ds.map dd)), .v (pd q1), a6, a7, a8] ∧ a6.noL = true ∧ a7.noL = true ∧ a8.noL = true ∧ At ds (k + 1) t) → P (.nx ρ)) → Gv (REST [SV.v (.scr ns), .wd none t, .v (.lst ((toL t).map sd)), .v (.lst (big.map sd)), .v (.lst (ds.map dd)), .v (pd q1), .v (.int k), .v (pd q2), a8]) P := fun P hP => ⟨_, eo, hP _ ⟨t', _, _, _, rfl, rfl, rfl, rfl, h2⟩⟩
    simp only [ge_told kt hA.ok hq1]
    walk_at "wx"
    refine ⟨mulC hb0 (by decide), mul64 (by omega) (by omega), ?_⟩
    rw [ed2]
    walk_at "wx"
    simp only [n7, n8, ge_told kt hA.ok hq2]
    walk_at "wx"
    refine ⟨nw_pd _, ?_⟩
    repeat' split
    all_goals exact fin _ fun ρ h => h
  · subst eq
    rw [List.length_map, List.length_range] at hA
    have hal := hA.len
    have kt := hA.kept (by omega)
    walk_at "wx"
    simp only [ge_told kt hA.ok hq1]
    walk_at "wx"
    rw [ge_at (by decide) hl]
    walk_at "wx"
    refine ⟨mulC hb0 (by decide), ?_⟩
    obtain ⟨d2, ed2, q2, rfl, hq2⟩ := p_ask2 (s := cell ns 0 * 48271 + 7) (zs := toL t) (seedB hb0 (by decide) (by decide))
    rw [ed2]
    walk_at "wx"
    rw [ge_told kt hA.ok hq2]
end
end Sp

set_option Elab.async false
set_option linter.all false
set_option maxRecDepth 100000
set_option maxHeartbeats 2000000
namespace Sp
open PySem L2
open Classical
noncomputable section
local macro_rules | `(tactic| walk_at "ev") => `(tactic| try simp only [gv_next, gv_brk, gv_cnt, gv_retN, gv_seq, nx_nx, nx_rt, nx_bk, nx_ct, gv_set, gv_setF, gv_own, gv_ret, gv_drop, gv_retO, gv_if, gv_app, gv_unp, gv_pop, gv_put, gv_par, gv_forF, gv_forN, gv_forT, gv_forR,
  ge_var, ge_c, ge_op, ge_un, gl_nil, gl_cons, ge_call, ge_meth, ge_tup, ge_lst, ge_ii, ge_sl, go_none, go_int, gb_val, gb_truth, gb_and, gb_or, gb_not, gb_yes, ge_and, ge_or, ge_if, ge_chain, ge_some, gb_some, gl_some, go_some, ge_guard, ge_lc, ge_lcT, ge_lcR, ge_eqI, ge_neI, ge_eqB, ge_neB,
  frm, full, SV.full, gt, sgt, setAll, Tg.put, List.map, List.replicate, List.set, List.length_cons, List.length_nil, List.length_append, List.length_map, List.append_nil, List.nil_append, List.cons_append, Nat.sub_self, Nat.reduceAdd, Nat.reduceSub, Nat.zero_add, Nat.add_zero,
  noOwn, List.all_cons, List.all_nil, SV.free, D.imm, D.imms, imm_sd, imms_sd, imm_tupI, Bool.and_true, Bool.true_and, Bool.and_self, Bool.false_and, Bool.and_false, true_or, or_true, or_self, false_or, or_false, true_and, and_true, if_true, if_false, Bool.false_eq_true,
  D.int.injEq, D.bl.injEq, D.lst.injEq, D.tup.injEq, D.str.injEq, D.box.injEq, D.wood.injEq, SV.v.injEq, SV.own.injEq, Option.some.injEq, exists_eq_left', exists_eq_left, exists_and_left, reduceCtorEq, false_and, and_false, exists_false,
  fLen_lst, fLen_tup, fLen_scr, fLen_sd, fMax2_ii, fMin2_ii, fInt1_i, fInt1_b, fListOf_lst, fSorted_sd, fSum_i, dIx_sd0, dIx_sd1, dIx_sd2, dIx_lst, dIx_tup, dIx_scr, atI_0, atI_1, atI_2, atI_3, dSl_lst, dSl_scr, dCat_ll, dRep_l, dNot_b, dNeg_i, dNotBl_b, dNotBl_i, dNotBl_n, dNotBl_s, dNotBl_t, dNotBl_l, dIsN_non, dIsN_int, dIsN_lst, dNotN_non, dNotN_lst, dIsN_nil, dIsN_node, dNotN_nil, dNotN_node, isi_int_non, isi_int_bl, isi_int_int, isi_int_str, isi_int_tup, isi_int_lst, isi_int_sd, isi_bool_non, isi_bool_bl, isi_bool_int, isi_bool_str, isi_bool_tup, isi_bool_lst, isi_bool_sd, isi_tuple_non, isi_tuple_bl, isi_tuple_int, isi_tuple_str, isi_tuple_tup, isi_tuple_lst, isi_tuple_sd, isi_list_non, isi_list_bl, isi_list_int, isi_list_str, isi_list_tup, isi_list_lst, isi_list_sd, tyi_non, tyi_bl, tyi_int, tyi_str, tyi_tup, tyi_lst, ge_eqT, ge_neT, ge_eqS, ge_neS, ge_inS, ge_ninS, ge_eqLS, ge_neLS, Option.map_some, Bool.not_true, Bool.not_false, Bool.not_not, decide_eq_true_eq, decide_eq_false_iff_not, Bool.not_eq_true', Bool.not_eq_false', Bool.not_eq_true, decide_true, decide_false,
  Int.reduceLT, Nat.reduceLT, Int.reduceLE, Nat.reduceLeDiff, sizeLine_eq, and_self, ite_self, not_false_eq_true, not_true_eq_false, implies_true, imp_self, forall_const, true_implies])
local macro_rules | `(tactic| walk_at "st") => `(tactic| try simp only [gv_next, gv_brk, gv_cnt, gv_retN, gv_seq, nx_nx, nx_rt, nx_bk, nx_ct, gv_set, gv_setF, gv_own, gv_ret, gv_drop, gv_retO, gv_app, gv_unp, gv_pop, gv_put, gv_par, gv_forF, gv_forN, gv_forT, gv_forR,
  ge_var, ge_c, ge_op, ge_un, gl_nil, gl_cons, ge_call, ge_meth, ge_tup, ge_lst, ge_ii, ge_sl, go_none, go_int, gb_val, gb_truth, gb_and, gb_or, gb_not, gb_yes, ge_and, ge_or, ge_if, ge_chain, ge_some, gb_some, gl_some, go_some, ge_guard, ge_lc, ge_lcT, ge_lcR, ge_eqI, ge_neI, ge_eqB, ge_neB,
  frm, full, SV.full, gt, sgt, setAll, Tg.put, List.map, List.replicate, List.set, List.length_cons, List.length_nil, List.length_append, List.length_map, List.append_nil, List.nil_append, List.cons_append, Nat.sub_self, Nat.reduceAdd, Nat.reduceSub, Nat.zero_add, Nat.add_zero,
  noOwn, List.all_cons, List.all_nil, SV.free, D.imm, D.imms, imm_sd, imms_sd, imm_tupI, Bool.and_true, Bool.true_and, Bool.and_self, Bool.false_and, Bool.and_false, true_or, or_true, or_self, false_or, or_false, true_and, and_true, if_true, if_false, Bool.false_eq_true,
  D.int.injEq, D.bl.injEq, D.lst.injEq, D.tup.injEq, D.str.injEq, D.box.injEq, D.wood.injEq, SV.v.injEq, SV.own.injEq, Option.some.injEq, exists_eq_left', exists_eq_left, exists_and_left, reduceCtorEq, false_and, and_false, exists_false,
  fLen_lst, fLen_tup, fLen_scr, fLen_sd, fMax2_ii, fMin2_ii, fInt1_i, fInt1_b, fListOf_lst, fSorted_sd, fSum_i, dIx_sd0, dIx_sd1, dIx_sd2, dIx_lst, dIx_tup, dIx_scr, atI_0, atI_1, atI_2, atI_3, dSl_lst, dSl_scr, dCat_ll, dRep_l, dNot_b, dNeg_i, dNotBl_b, dNotBl_i, dNotBl_n, dNotBl_s, dNotBl_t, dNotBl_l, dIsN_non, dIsN_int, dIsN_lst, dNotN_non, dNotN_lst, dIsN_nil, dIsN_node, dNotN_nil, dNotN_node, isi_int_non, isi_int_bl, isi_int_int, isi_int_str, isi_int_tup, isi_int_lst, isi_int_sd, isi_bool_non, isi_bool_bl, isi_bool_int, isi_bool_str, isi_bool_tup, isi_bool_lst, isi_bool_sd, isi_tuple_non, isi_tuple_bl, isi_tuple_int, isi_tuple_str, isi_tuple_tup, isi_tuple_lst, isi_tuple_sd, isi_list_non, isi_list_bl, isi_list_int, isi_list_str, isi_list_tup, isi_list_lst, isi_list_sd, tyi_non, tyi_bl, tyi_int, tyi_str, tyi_tup, tyi_lst, ge_eqT, ge_neT, ge_eqS, ge_neS, ge_inS, ge_ninS, ge_eqLS, ge_neLS, Option.map_some, Bool.not_true, Bool.not_false, Bool.not_not, decide_eq_true_eq, decide_eq_false_iff_not, Bool.not_eq_true', Bool.not_eq_false', Bool.not_eq_true, decide_true, decide_false,
  Int.reduceLT, Nat.reduceLT, Int.reduceLE, Nat.reduceLeDiff, sizeLine_eq, and_self, ite_self, not_false_eq_true, not_true_eq_false, implies_true, imp_self, forall_const, true_implies])

local macro_rules | `(tactic| walk_at "wx") => `(tactic| (walk_at "ev"; repeat (simp only [gv_setW, gv_newW, pd_0, pd_1, bd_0, bd_1, bd_2, bd_3, dTop_w, nw_sds, nw_dds, noLst, noL_v, noL_wd, noL_no, List.all_cons, List.all_nil, Bool.and_self, Bool.and_true, Bool.true_and, true_and, and_true]; walk_at "ev")))

/-! ### one tree: where each box stands -/
structure Spot (rows : List BRow) (z : S3) : Prop where
  ex : ∃ (b e : Nat) (d : Int) (l : T) (s : S3) (r : T) (h m : Int), z = (((b + (toL l).length : Nat) : Int), (b : Int), (e : Int)) ∧ Seg rows b e d (.node l s r h m) ∧ Good (.node l s r h m)
structure PartN (rows : List BRow) (p : S3 × T) : Prop where
  ex : ∃ (b e : Nat) (d : Int), p.1 = ((b : Int), (e : Int), d) ∧ Seg rows b e d p.2 ∧ Good p.2 ∧ 0 < (toL p.2).length
section
variable {rows : List BRow} {b e : Nat} {d h m : Int} {l r t : T} {s : S3}
theorem Seg.after (g : Seg rows b e d (.node l s r h m)) {i : Nat} (h1 : (toL l).length < i) (h2 : b + i < e) : ∃ x, rows[b + i]? = some x ∧ x.2.1 ≠ d ∧ d ≤ x.2.1 := by
  have e1 := g.en
  rw [len_node] at e1
  have g2 := g.right.at' (i - (toL l).length - 1) (by omega)
  rw [show b + (toL l).length + 1 + (i - (toL l).length - 1) = b + i by omega] at g2
  have hl : i - (toL l).length - 1 < (placed r (d + 1)).length := by rw [placed_len]; omega
  rw [List.getElem?_eq_getElem hl] at g2
  refine ⟨_, g2, ?_⟩
  have := placed_ge r (d + 1) _ (List.getElem_mem hl)
  omega
/-- a row of the part: its depth is the part's just at the top -/
theorem Seg.deps (g : Seg rows b e d (.node l s r h m)) {i : Nat} (h2 : b + i < e) : ∃ x, rows[b + i]? = some x ∧ (x.2.1 = d ↔ i = (toL l).length) ∧ d ≤ x.2.1 := by
  rcases Nat.lt_trichotomy i (toL l).length with c | c | c
  · have g2 := g.left.at' i c
    have hl : i < (placed l (d + 1)).length := by rw [placed_len]; exact c
    rw [List.getElem?_eq_getElem hl] at g2
    have := placed_ge l (d + 1) _ (List.getElem_mem hl)
    exact ⟨_, g2, ⟨fun z => by omega, fun z => by omega⟩, by omega⟩
  · subst c
    exact ⟨_, g.mid, ⟨fun _ => rfl, fun _ => rfl⟩, Int.le_refl _⟩
  · obtain ⟨x, h3, h4, h5⟩ := g.after c h2
    exact ⟨x, h3, ⟨fun z => absurd z h4, fun z => by omega⟩, h5⟩
def underT : T → Int
  | .nil => 0
  | .node _ _ _ h _ => h
theorem p_under (g : Seg rows b e d t) (hr : rows.length ≤ 1000) : m_law_under [.lst (rows.map bd), .int b, .int e, .int d] = some (.int (tallT t)) := by
  refine def_gv rfl ?_
  unfold b_law_under
  have he := g.le
  have hb := g.en
  walk_at "wx"
  refine ⟨_, rng2_nat (by omega) (by omega), ?_⟩
  refine gv_for (fun k ρ => ∃ a, ρ = [SV.v (.lst (rows.map bd)), .v (.int b), .v (.int e), .v (.int d), a] ∧ match t with | .nil => True | .node l _ _ _ _ => k ≤ (toL l).length) ⟨_, rfl, by cases t <;> simp⟩ (fun k x ρ hk ⟨a, eq, hi⟩ => ?_) (fun ρ ⟨a, eq, hi⟩ => ?_)
  · subst eq
    obtain ⟨hk, rfl⟩ := rng_get hk
    cases t with
    | nil => simp [toL] at hb; omega
    | node l s r h m =>
      simp only at hi
      refine ⟨_, rfl, ?_⟩
      obtain ⟨x, hx, hd, _⟩ := g.deps (i := k) (by omega)
      walk_at "wx"
      rw [at_bd hx]
      walk_at "wx"
      by_cases c : x.2.1 = d
      · have ek := hd.mp c
        rw [ek, g.mid] at hx
        cases hx
        rw [if_pos rfl]
        rfl
      · rw [if_neg c]
        exact ⟨_, rfl, by have : k ≠ (toL l).length := fun z => c (hd.mpr z); omega⟩
  · subst eq
    rw [rngD_len] at hi
    cases t with
    | nil => walk_at "wx"; rfl
    | node l s r h m => simp only [len_node] at hb hi; omega
def colD (rows : List BRow) (f : BRow → Int) (x : Int) : Int := match rows[x.toNat]? with
  | some r => f r
  | none => 0
theorem colD_at {f : BRow → Int} {i : Nat} {x : BRow} (h : rows[i]? = some x) : colD rows f (i : Int) = f x := by
  unfold colD
  rw [Int.toNat_natCast, h]
theorem rng_mem {b e : Nat} {x : Int} : x ∈ rng b e ↔ ∃ i : Nat, x = ((b + i : Nat) : Int) ∧ b + i < e := by
  unfold rng
  rw [List.mem_map]
  constructor
  · rintro ⟨k, hk, rfl⟩
    have := List.mem_range.mp hk
    exact ⟨k, by omega, by omega⟩
  · rintro ⟨i, rfl, h⟩
    exact ⟨i, List.mem_range.mpr (by omega), by omega⟩
theorem range_one : ∀ {n c : Nat} (f : Nat → Bool), c < n → (∀ i, i < n → (f i = true ↔ i = c)) → (List.range n).filter f = [c]
  | 0, _, _, h, _ => absurd h (Nat.not_lt_zero _)
  | n + 1, c, f, h, hf => by
    rw [List.range_succ, List.filter_append]
    by_cases e : c = n
    · subst e
      have h1 : (List.range c).filter f = [] := List.filter_eq_nil_iff.mpr fun x hx => by
        have hx' := List.mem_range.mp hx
        rw [hf x (by omega)]
        omega
      rw [h1, List.filter_cons_of_pos ((hf c (by omega)).mpr rfl)]
      rfl
    · have h1 := range_one (n := n) (c := c) f (by omega) (fun i hi => hf i (by omega))
      rw [h1, List.filter_cons_of_neg (by rw [hf n (by omega)]; omega)]
      rfl
theorem rng_one {b e c : Nat} (h1 : b ≤ c) (h2 : c < e) : (rng b e).filter (fun x => decide (x = (c : Int))) = [(c : Int)] := by
  unfold rng
  rw [List.filter_map, show ((e : Int) - b).toNat = e - b by omega]
  rw [range_one (c := c - b) _ (by omega) (fun i hi => by simp only [Function.comp, decide_eq_true_eq]; omega)]
  rw [List.map_cons, List.map_nil]
  congr 1
  omega
theorem partsN_le : ∀ (ps : List (S3 × T)), (∀ p ∈ ps, PartN rows p) → ps.length ≤ (ps.map fun p => (toL p.2).length).sum
  | [], _ => Nat.le_refl _
  | p :: ps, h => by
    have := partsN_le ps fun p hp => h p (List.mem_cons_of_mem _ hp)
    obtain ⟨_, _, _, _, _, _, h0⟩ := (h p List.mem_cons_self).ex
    rw [List.length_cons, List.map_cons, List.sum_cons]
    omega
theorem p_spots {t : T} (gt0 : Good t) (hr : (toL t).length ≤ 500) : Ge (m_law_spots [.lst ((placed t 0).map bd)]) fun d => ∃ sp : List S3, d = .lst (sp.map sd) ∧ sp.length ≤ (toL t).length ∧ ∀ z ∈ sp, Spot (placed t 0) z := by
  refine def_ge rfl ?_
  unfold b_law_spots
  have hl := placed_len t 0
  by_cases h0 : (toL t).length = 0
  · have hp : placed t 0 = [] := List.eq_nil_of_length_eq_zero (by omega)
    rw [hp]
    walk_at "wx"
    refine ⟨_, rng1_nat (n := 0) (by omega), ?_⟩
    refine gv_forL_nil.mpr ?_
    walk_at "wx"
    exact ⟨[], rfl, by simp, fun z hz => by cases hz⟩
  generalize hrows : placed t 0 = rows at *
  have g0 : Seg rows 0 rows.length 0 t := by rw [← hrows]; exact seg_top t
  walk_at "wx"
  refine ⟨_, rng1_nat (n := rows.length) (by omega), ?_⟩
  rw [map_dint]
  refine gv_for (fun k ρ => ∃ (dn : List S3) (ps : List (S3 × T)) (sp : List S3) (a3 a4 a5 a6 a7 a8 : SV), ρ = [.v (.lst (rows.map bd)), .own ((dn ++ ps.map (·.1)).map sd), .own (sp.map sd), a3, a4, a5, a6, a7, a8] ∧ dn.length = k ∧ (∀ p ∈ ps, PartN rows p) ∧ (∀ z ∈ sp, Spot rows z) ∧
    k + (ps.map fun p => (toL p.2).length).sum = rows.length ∧ sp.length = k)
    ⟨[], [((0, rows.length, 0), t)], [], _, _, _, _, _, _, rfl, rfl, fun p hp => ?_, fun z hz => (by cases hz), (by simp; omega), rfl⟩ (fun k x ρ hk ⟨dn, ps, sp, a3, a4, a5, a6, a7, a8, eq, hd, hp, hsp, hz, hsl⟩ => ?_) (fun ρ ⟨dn, ps, sp, a3, a4, a5, a6, a7, a8, eq, hd, hp, hsp, hz, hsl⟩ => ?_)
  · rw [List.mem_singleton] at hp
    subst hp
    exact ⟨0, _, 0, rfl, g0, gt0, Nat.pos_of_ne_zero h0⟩
  · subst eq
    rw [List.getElem?_map, Option.map_eq_some_iff] at hk
    obtain ⟨j, hj, rfl⟩ := hk
    have hjl := (List.getElem?_eq_some_iff.mp hj).1
    rw [List.length_range] at hjl
    rw [List.getElem?_range hjl] at hj
    cases hj
    refine ⟨_, rfl, ?_⟩
    have hle := partsN_le ps hp
    cases ps with
    | nil => simp at hz; omega
    | cons p ps =>
      obtain ⟨⟨b, e, d⟩, tt⟩ := p
      obtain ⟨⟨b', e', d', e1, g, gg, hpos⟩⟩ := hp _ List.mem_cons_self
      cases e1
      simp only [List.map_cons, List.sum_cons, List.length_cons] at hz hle
      simp only [List.map_cons]
      have hps : ∀ p ∈ ps, PartN rows p := fun p h => hp p (List.mem_cons_of_mem _ h)
      cases tt with
      | nil => exact absurd hpos (Nat.lt_irrefl 0)
      | node l s r h m =>
      have hge := g.en
      have hgl := g.le
      simp only at hge hgl
      rw [len_node] at hz hge hle
      walk_at "wx"
      rw [if_neg (by omega), at_mid hd]
      simp only [sd_tup]
      walk_at "wx"
      have hcl : (rng (b' : Int) (e' : Int)).length ≤ 16777216 := by rw [rng_len]; omega
      refine ⟨_, rng2_nat (by omega) (by omega), hcl, gl_lc D.int D.int (fun x => decide (x = ((b' + (toL l).length : Nat) : Int))) (fun x hx => ?_) ?_⟩
      · obtain ⟨i, rfl, hi⟩ := rng_mem.mp hx
        obtain ⟨y, hy, hyd, _⟩ := g.deps hi
        walk_at "wx"
        rw [at_bd hy]
        walk_at "wx"
        rw [decide_eq_decide, hyd]
        omega
      rw [rng_one (by omega) (by omega)]
      walk_at "wx"
      rw [if_neg (fun h => h rfl)]
      refine ⟨_, rng2_nat (by omega) (by omega), hcl, gl_lc D.int (fun x => .int (colD rows (fun y => y.2.1) x)) (fun _ => true) (fun x hx => ?_) ?_⟩
      · obtain ⟨i, rfl, hi⟩ := rng_mem.mp hx
        obtain ⟨y, hy, _⟩ := g.deps hi
        walk_at "wx"
        rw [at_bd hy]
        walk_at "wx"
        rw [colD_at hy]
      have em : (rng (b' : Int) (e' : Int)).map (fun x => D.int (colD rows (fun y => y.2.1) x)) = ((rng (b' : Int) (e' : Int)).map (colD rows (fun y => y.2.1))).map D.int := by rw [List.map_map]; rfl
      rw [filter_true, em, fMinL_i (m := d) (min_is ?_ ?_)]
      rotate_left
      · exact List.mem_map.mpr ⟨_, rng_mem.mpr ⟨(toL l).length, rfl, by omega⟩, by rw [colD_at g.mid]⟩
      · intro y hy
        obtain ⟨x, hx, rfl⟩ := List.mem_map.mp hy
        obtain ⟨i, rfl, hi⟩ := rng_mem.mp hx
        obtain ⟨y, hy, _, hyd⟩ := g.deps hi
        rw [colD_at hy]
        exact hyd
      walk_at "wx"
      have fin : ∀ (L : List (S3 × T)) (w : List D), w = (dn ++ ((b' : Int), (e' : Int), d) :: ps.map (fun x => x.fst)).map sd ++ (L.map (fun x => x.fst)).map sd → (∀ p ∈ L, PartN rows p) → (L.map fun p => (toL p.2).length).sum = (toL l).length + (toL r).length →
          ∃ (dn_1 : List S3) (ps_1 : List (S3 × T)) (sp_1 : List S3) (a3 a4 a5 a6 a7 a8_1 : SV), [SV.v (.lst (rows.map bd)), .own w, .own (sp.map sd ++ [.tup [.int ((b' + (toL l).length : Nat) : Int), .int (b' : Int), .int (e' : Int)]]), .v (.int (k : Int)), .v (.int (b' : Int)), .v (.int (e' : Int)), .v (.int d), .v (.lst [.int ((b' + (toL l).length : Nat) : Int)]), a8] =
            [SV.v (.lst (rows.map bd)), .own ((dn_1 ++ ps_1.map (fun x => x.fst)).map sd), .own (sp_1.map sd), a3, a4, a5, a6, a7, a8_1] ∧ dn_1.length = k + 1 ∧ (∀ p ∈ ps_1, PartN rows p) ∧ (∀ z ∈ sp_1, Spot rows z) ∧ k + 1 + (ps_1.map fun p => (toL p.2).length).sum = rows.length ∧ sp_1.length = k + 1 := fun L w hw hL hsum => by
        refine ⟨dn ++ [((b' : Int), (e' : Int), d)], ps ++ L, sp ++ [(((b' + (toL l).length : Nat) : Int), (b' : Int), (e' : Int))], SV.v (.int (k : Int)), .v (.int (b' : Int)), .v (.int (e' : Int)), .v (.int d), .v (.lst [.int ((b' + (toL l).length : Nat) : Int)]), a8, ?_, by simp [hd], fun p hp2 => ?_, fun z hz2 => ?_, ?_, by simp [hsl]⟩
        · rw [hw]
          simp only [List.map_append, List.map_cons, List.map_nil, List.append_assoc, List.cons_append, List.nil_append]
          rfl
        · rcases List.mem_append.mp hp2 with h2 | h2
          · exact hps p h2
          · exact hL p h2
        · rcases List.mem_append.mp hz2 with h2 | h2
          · exact hsp z h2
          · rw [List.mem_singleton] at h2
            subst h2
            exact ⟨b', e', d, l, s, r, h, m, rfl, g, gg⟩
        · rw [sum_app, hsum]
          omega
      have pl : 0 < (toL l).length → PartN rows (((b' : Int), ((b' + (toL l).length : Nat) : Int), d + 1), l) := fun h0 => ⟨_, _, _, rfl, g.left, gg.1, h0⟩
      have pr : 0 < (toL r).length → PartN rows ((((b' + (toL l).length : Nat) : Int) + 1, (e' : Int), d + 1), r) := fun h0 => ⟨b' + (toL l).length + 1, _, _, rfl, g.right, gg.2.1, h0⟩
      refine ⟨by omega, ?_⟩
      by_cases c1 : 0 < (toL l).length
      · rw [if_pos (by omega)]
        refine ⟨by omega, ?_⟩
        by_cases c2 : 0 < (toL r).length
        · rw [if_pos (by omega)]
          refine ⟨by omega, fin [(((b' : Int), ((b' + (toL l).length : Nat) : Int), d + 1), l), ((((b' + (toL l).length : Nat) : Int) + 1, (e' : Int), d + 1), r)] _ (by simp only [List.map_cons, List.map_nil, List.append_assoc]; rfl) (fun p hp => ?_) (by simp)⟩
          simp only [List.mem_cons, List.not_mem_nil, or_false] at hp
          rcases hp with rfl | rfl
          · exact pl c1
          · exact pr c2
        · rw [if_neg (by omega)]
          refine fin [(((b' : Int), ((b' + (toL l).length : Nat) : Int), d + 1), l)] _ rfl (fun p hp => ?_) (show (toL l).length + 0 = (toL l).length + (toL r).length by omega)
          rw [List.mem_singleton] at hp
          subst hp
          exact pl c1
      · rw [if_neg (by omega)]
        by_cases c2 : 0 < (toL r).length
        · rw [if_pos (by omega)]
          refine ⟨by omega, fin [((((b' + (toL l).length : Nat) : Int) + 1, (e' : Int), d + 1), r)] _ rfl (fun p hp => ?_) (show (toL r).length + 0 = (toL l).length + (toL r).length by omega)⟩
          rw [List.mem_singleton] at hp
          subst hp
          exact pr c2
        · rw [if_neg (by omega)]
          exact fin [] _ (by simp) (fun p hp => by cases hp) (show 0 = (toL l).length + (toL r).length by omega)
  · subst eq
    rw [List.length_map, List.length_range] at hz hsl
    walk_at "wx"
    exact ⟨sp, rfl, by omega, hsp⟩
end
end
end Sp

set_option Elab.async false
set_option linter.all false
set_option maxRecDepth 100000
set_option maxHeartbeats 2000000
namespace Sp
open PySem L2
open Classical
noncomputable section
local macro_rules | `(tactic| walk_at "ev") => `(tactic| try simp only [gv_next, gv_brk, gv_cnt, gv_retN, gv_seq, nx_nx, nx_rt, nx_bk, nx_ct, gv_set, gv_setF, gv_own, gv_ret, gv_drop, gv_retO, gv_if, gv_app, gv_unp, gv_pop, gv_put, gv_par, gv_forF, gv_forN, gv_forT, gv_forR,
  ge_var, ge_c, ge_op, ge_un, gl_nil, gl_cons, ge_call, ge_meth, ge_tup, ge_lst, ge_ii, ge_sl, go_none, go_int, gb_val, gb_truth, gb_and, gb_or, gb_not, gb_yes, ge_and, ge_or, ge_if, ge_chain, ge_some, gb_some, gl_some, go_some, ge_guard, ge_lc, ge_lcT, ge_lcR, ge_eqI, ge_neI, ge_eqB, ge_neB,
  frm, full, SV.full, gt, sgt, setAll, Tg.put, List.map, List.replicate, List.set, List.length_cons, List.length_nil, List.length_append, List.length_map, List.append_nil, List.nil_append, List.cons_append, Nat.sub_self, Nat.reduceAdd, Nat.reduceSub, Nat.zero_add, Nat.add_zero,
  noOwn, List.all_cons, List.all_nil, SV.free, D.imm, D.imms, imm_sd, imms_sd, imm_tupI, Bool.and_true, Bool.true_and, Bool.and_self, Bool.false_and, Bool.and_false, true_or, or_true, or_self, false_or, or_false, true_and, and_true, if_true, if_false, Bool.false_eq_true,
  D.int.injEq, D.bl.injEq, D.lst.injEq, D.tup.injEq, D.str.injEq, D.box.injEq, D.wood.injEq, SV.v.injEq, SV.own.injEq, Option.some.injEq, exists_eq_left', exists_eq_left, exists_and_left, reduceCtorEq, false_and, and_false, exists_false,
  fLen_lst, fLen_tup, fLen_scr, fLen_sd, fMax2_ii, fMin2_ii, fInt1_i, fInt1_b, fListOf_lst, fSorted_sd, fSum_i, dIx_sd0, dIx_sd1, dIx_sd2, dIx_lst, dIx_tup, dIx_scr, atI_0, atI_1, atI_2, atI_3, dSl_lst, dSl_scr, dCat_ll, dRep_l, dNot_b, dNeg_i, dNotBl_b, dNotBl_i, dNotBl_n, dNotBl_s, dNotBl_t, dNotBl_l, dIsN_non, dIsN_int, dIsN_lst, dNotN_non, dNotN_lst, dIsN_nil, dIsN_node, dNotN_nil, dNotN_node, isi_int_non, isi_int_bl, isi_int_int, isi_int_str, isi_int_tup, isi_int_lst, isi_int_sd, isi_bool_non, isi_bool_bl, isi_bool_int, isi_bool_str, isi_bool_tup, isi_bool_lst, isi_bool_sd, isi_tuple_non, isi_tuple_bl, isi_tuple_int, isi_tuple_str, isi_tuple_tup, isi_tuple_lst, isi_tuple_sd, isi_list_non, isi_list_bl, isi_list_int, isi_list_str, isi_list_tup, isi_list_lst, isi_list_sd, tyi_non, tyi_bl, tyi_int, tyi_str, tyi_tup, tyi_lst, ge_eqT, ge_neT, ge_eqS, ge_neS, ge_inS, ge_ninS, ge_eqLS, ge_neLS, Option.map_some, Bool.not_true, Bool.not_false, Bool.not_not, decide_eq_true_eq, decide_eq_false_iff_not, Bool.not_eq_true', Bool.not_eq_false', Bool.not_eq_true, decide_true, decide_false,
  Int.reduceLT, Nat.reduceLT, Int.reduceLE, Nat.reduceLeDiff, sizeLine_eq, and_self, ite_self, not_false_eq_true, not_true_eq_false, implies_true, imp_self, forall_const, true_implies])
local macro_rules | `(tactic| walk_at "st") => `(tactic| try simp only [gv_next, gv_brk, gv_cnt, gv_retN, gv_seq, nx_nx, nx_rt, nx_bk, nx_ct, gv_set, gv_setF, gv_own, gv_ret, gv_drop, gv_retO, gv_app, gv_unp, gv_pop, gv_put, gv_par, gv_forF, gv_forN, gv_forT, gv_forR,
  ge_var, ge_c, ge_op, ge_un, gl_nil, gl_cons, ge_call, ge_meth, ge_tup, ge_lst, ge_ii, ge_sl, go_none, go_int, gb_val, gb_truth, gb_and, gb_or, gb_not, gb_yes, ge_and, ge_or, ge_if, ge_chain, ge_some, gb_some, gl_some, go_some, ge_guard, ge_lc, ge_lcT, ge_lcR, ge_eqI, ge_neI, ge_eqB, ge_neB,
  frm, full, SV.full, gt, sgt, setAll, Tg.put, List.map, List.replicate, List.set, List.length_cons, List.length_nil, List.length_append, List.length_map, List.append_nil, List.nil_append, List.cons_append, Nat.sub_self, Nat.reduceAdd, Nat.reduceSub, Nat.zero_add, Nat.add_zero,
  noOwn, List.all_cons, List.all_nil, SV.free, D.imm, D.imms, imm_sd, imms_sd, imm_tupI, Bool.and_true, Bool.true_and, Bool.and_self, Bool.false_and, Bool.and_false, true_or, or_true, or_self, false_or, or_false, true_and, and_true, if_true, if_false, Bool.false_eq_true,
  D.int.injEq, D.bl.injEq, D.lst.injEq, D.tup.injEq, D.str.injEq, D.box.injEq, D.wood.injEq, SV.v.injEq, SV.own.injEq, Option.some.injEq, exists_eq_left', exists_eq_left, exists_and_left, reduceCtorEq, false_and, and_false, exists_false,
  fLen_lst, fLen_tup, fLen_scr, fLen_sd, fMax2_ii, fMin2_ii, fInt1_i, fInt1_b, fListOf_lst, fSorted_sd, fSum_i, dIx_sd0, dIx_sd1, dIx_sd2, dIx_lst, dIx_tup, dIx_scr, atI_0, atI_1, atI_2, atI_3, dSl_lst, dSl_scr, dCat_ll, dRep_l, dNot_b, dNeg_i, dNotBl_b, dNotBl_i, dNotBl_n, dNotBl_s, dNotBl_t, dNotBl_l, dIsN_non, dIsN_int, dIsN_lst, dNotN_non, dNotN_lst, dIsN_nil, dIsN_node, dNotN_nil, dNotN_node, isi_int_non, isi_int_bl, isi_int_int, isi_int_str, isi_int_tup, isi_int_lst, isi_int_sd, isi_bool_non, isi_bool_bl, isi_bool_int, isi_bool_str, isi_bool_tup, isi_bool_lst, isi_bool_sd, isi_tuple_non, isi_tuple_bl, isi_tuple_int, isi_tuple_str, isi_tuple_tup, isi_tuple_lst, isi_tuple_sd, isi_list_non, isi_list_bl, isi_list_int, isi_list_str, isi_list_tup, isi_list_lst, isi_list_sd, tyi_non, tyi_bl, tyi_int, tyi_str, tyi_tup, tyi_lst, ge_eqT, ge_neT, ge_eqS, ge_neS, ge_inS, ge_ninS, ge_eqLS, ge_neLS, Option.map_some, Bool.not_true, Bool.not_false, Bool.not_not, decide_eq_true_eq, decide_eq_false_iff_not, Bool.not_eq_true', Bool.not_eq_false', Bool.not_eq_true, decide_true, decide_false,
  Int.reduceLT, Nat.reduceLT, Int.reduceLE, Nat.reduceLeDiff, sizeLine_eq, and_self, ite_self, not_false_eq_true, not_true_eq_false, implies_true, imp_self, forall_const, true_implies])

local macro_rules | `(tactic| walk_at "wx") => `(tactic| (walk_at "ev"; repeat (simp only [gv_setW, gv_newW, pd_0, pd_1, bd_0, bd_1, bd_2, bd_3, dTop_w, nw_sds, nw_dds, noLst, noL_v, noL_wd, noL_no, List.all_cons, List.all_nil, Bool.and_self, Bool.and_true, Bool.true_and, true_and, and_true]; walk_at "ev")))

theorem p_law_box (x : BRow) : m_law_box [bd x, sd x.1] = some (.bl true) := by
  refine def_gv rfl ?_
  unfold b_law_box bd
  walk_at "wx"
  rw [if_neg (by decide), p_tuple_isS]
  walk_at "wx"
  simp only [ge_is_int]
  walk_at "wx"
theorem gv_forV_iff {tg : Tg} {i : Nat} {body : SM} {ds : List D} {ρ : SEnv} {P : Out → Prop} (h : sgt ρ i = .v (.lst ds)) : Gv (sForV tg i body ρ) P ↔ Gv (forL tg body ds ρ) P := by
  unfold sForV
  rw [h]
theorem tall_max {l r : T} {s : S3} {h m : Int} (g : Good (.node l s r h m)) : h = 1 + max (tallT l) (tallT r) ∧ -1 ≤ tallT l - tallT r ∧ tallT l - tallT r ≤ 1 := by
  obtain ⟨_, _, e, _, b1, b2⟩ := g
  exact ⟨e, by omega, by omega⟩
theorem seg_toL {t tt : T} {b e : Nat} {d : Int} (g : Seg (placed t 0) b e d tt) {i : Nat} (hi : i < (toL tt).length) : (toL t)[b + i]? = (toL tt)[i]? := by
  have h1 := g.at' i hi
  have h2 := congrArg (Option.map (fun x : BRow => x.1)) h1
  rw [← List.getElem?_map, ← List.getElem?_map, placed_toL, placed_toL] at h2
  exact h2
theorem getD_list {z : S3} {zs : List S3} {i : Nat} (h : zs[i]? = some z) : atI (zs.map sd) (i : Int) = some (sd z) := by
  have hi := (List.getElem?_eq_some_iff.mp h).1
  rw [atI_nat' (by rw [List.length_map]; exact hi), List.getElem_map]
  rw [List.getElem?_eq_getElem hi] at h
  rw [Option.some.inj h]
def colS (zs : List S3) (x : Int) : Int := match zs[x.toNat]? with
  | some r => r.2.1
  | none => 0
theorem colS_at {zs : List S3} {i : Nat} {x : S3} (h : zs[i]? = some x) : colS zs (i : Int) = x.2.1 := by
  unfold colS
  rw [Int.toNat_natCast, h]
theorem pln_bd (x : BRow) : D.pln 7 (bd x) = true := rfl
theorem pln_bd6 (x : BRow) : D.pln 6 (bd x) = true := rfl
theorem plns_app : ∀ {n : Nat} {xs ys : List D}, D.plns n (xs ++ ys) = (D.plns n xs && D.plns n ys)
  | n, [], ys => by rw [List.nil_append, D.plns, Bool.true_and]
  | n, x :: xs, ys => by rw [List.cons_append, D.plns, D.plns, plns_app, Bool.and_assoc]
theorem p_stands {t : T} (k : Kept t) (hl : (toL t).length ≤ 500) : m_law_stands [.wood t, .lst ((toL t).map sd)] = some (.bl true) := by
  refine def_gv rfl ?_
  unfold b_law_stands
  have hpl := placed_len t 0
  have hpt := placed_toL t 0
  have g0 := seg_top t
  walk_at "wx"
  rw [p_boxes k]
  walk_at "wx"
  refine ⟨imms_bd _, ?_⟩
  rw [p_height]
  walk_at "wx"
  rw [if_neg (by omega)]
  simp only [ge_is_int]
  walk_at "wx"
  refine ⟨_, rng1_nat (n := (toL t).length) (by omega), ?_⟩
  rw [map_dint]
  refine gv_for (fun _ ρ => ∃ a4, ρ = [SV.v (.wood t), .v (.lst ((toL t).map sd)), .own ((placed t 0).map bd), .v (.int (tallT t)), a4, .no, .no, .no, .no, .no, .no, .no]) ⟨_, rfl⟩ (fun n x ρ hk ⟨a4, eq⟩ => ?_) (fun ρ ⟨a4, eq⟩ => ?_)
  · subst eq
    rw [List.getElem?_map, Option.map_eq_some_iff] at hk
    obtain ⟨j, hj, rfl⟩ := hk
    have hjl := (List.getElem?_eq_some_iff.mp hj).1
    rw [List.length_range] at hjl
    rw [List.getElem?_range hjl] at hj
    cases hj
    refine ⟨_, rfl, ?_⟩
    have hx : (placed t 0)[n]? = some (placed t 0)[n] := List.getElem?_eq_getElem (by omega)
    have hz : (toL t)[n]? = some (placed t 0)[n].1 := by rw [← hpt, List.getElem?_map, hx]; rfl
    walk_at "wx"
    rw [at_bd hx]
    walk_at "wx"
    rw [getD_list hz]
    walk_at "wx"
    rw [p_law_box]
    walk_at "wx"
    exact ⟨_, rfl⟩
  subst eq
  walk_at "wx"
  obtain ⟨d, ed, sp, rfl, hsl, hsp⟩ := p_spots k.good hl
  rw [ed]
  have hu : m_law_under [D.lst (List.map bd (placed t 0)), D.int 0, D.int ↑(placed t 0).length, D.int 0] = some (.int (tallT t)) := p_under g0 (by omega)
  walk_at "wx"
  rw [hu]
  walk_at "wx"
  rw [gv_forV_iff rfl]
  refine gv_for (fun _ ρ => ∃ a4 a6 a7 a8 a9 a10, ρ = [SV.v (.wood t), .v (.lst ((toL t).map sd)), .own ((placed t 0).map bd), .v (.int (tallT t)), a4, .v (.lst (sp.map sd)), a6, a7, a8, a9, a10, .no]) ⟨_, _, _, _, _, _, rfl⟩ (fun n x ρ hk ⟨a4, a6, a7, a8, a9, a10, eq⟩ => ?_) (fun ρ ⟨a4, a6, a7, a8, a9, a10, eq⟩ => ?_)
  · subst eq
    rw [List.getElem?_map, Option.map_eq_some_iff] at hk
    obtain ⟨z, hz, rfl⟩ := hk
    obtain ⟨b, e, d, l, s, r, h, m, rfl, g, gg⟩ := (hsp z (List.mem_of_getElem? hz)).ex
    have hge := g.en
    have hgl := g.le
    refine ⟨_, rfl, ?_⟩
    obtain ⟨t1, t2, t3⟩ := tall_max gg
    have e1 : ((b + (toL l).length : Nat) : Int) + 1 = ((b + (toL l).length + 1 : Nat) : Int) := by omega
    walk_at "wx"
    rw [at_bd g.mid]
    walk_at "wx"
    rw [p_under g.left (by omega)]
    walk_at "wx"
    rw [e1, p_under g.right (by omega)]
    walk_at "wx"
    rw [if_neg (fun hh => hh t1), if_pos (by omega), if_neg (by omega)]
    refine ⟨_, rng2_nat (by omega) (by omega), by rw [rng_len]; omega, gl_lc D.int (fun x => .int (colS (toL t) x)) (fun _ => true) (fun x hx => ?_) ?_⟩
    · obtain ⟨i, rfl, hi⟩ := rng_mem.mp hx
      have hz2 := seg_toL g (i := i) (by omega)
      rw [List.getElem?_eq_getElem (show i < (toL (l.node s r h m)).length by omega)] at hz2
      walk_at "wx"
      rw [getD_list hz2]
      walk_at "wx"
      rw [colS_at hz2]
    have em : (rng (b : Int) (e : Int)).map (fun x => D.int (colS (toL t) x)) = ((rng (b : Int) (e : Int)).map (colS (toL t))).map D.int := by rw [List.map_map]; rfl
    rw [filter_true, em, fMaxL_i (m := m) (max_is ?_ ?_)]
    rotate_left
    · obtain ⟨y, hy, ey⟩ := reach_ex gg m rfl
      obtain ⟨i, hi, ei⟩ := List.mem_iff_getElem.mp hy
      have hz2 := seg_toL g hi
      rw [List.getElem?_eq_getElem hi] at hz2
      exact List.mem_map.mpr ⟨_, rng_mem.mpr ⟨i, rfl, by omega⟩, by rw [colS_at hz2, ei, ey]⟩
    · intro y hy
      obtain ⟨x, hx, rfl⟩ := List.mem_map.mp hy
      obtain ⟨i, rfl, hi⟩ := rng_mem.mp hx
      have hi' : i < (toL (l.node s r h m)).length := by omega
      have hz2 := seg_toL g hi'
      rw [List.getElem?_eq_getElem hi'] at hz2
      rw [colS_at hz2]
      exact reach_le gg m rfl _ (List.getElem_mem hi')
    walk_at "wx"
    exact ⟨_, _, _, _, _, _, rfl⟩
  · subst eq
    walk_at "wx"
    refine ⟨imms_bd _, ?_⟩
    rw [gv_appF]
    walk_at "wx"
    rw [cut_map]
    generalize cutD (placed t 0) none (some 1) = cs
    refine ⟨imms_bd _, by omega, ?_⟩
    rw [p_boxes k]
    walk_at "wx"
    rw [ge_eq (pln_lst (n := 7) pln_bd _) (pln_lst (n := 7) pln_bd _)]
    walk_at "wx"
    refine ⟨by omega, ?_⟩
    have hp : D.pln 8 (D.lst ((placed t 0).map bd ++ [D.lst (cs.map bd)])) = true := by
      rw [D.pln, plns_app, plns_map pln_bd, D.plns, pln_lst (n := 6) pln_bd6]
      rfl
    rw [ge_eq hp hp]
    walk_at "wx"
theorem true_k07 {ns : List Int} (hl : ns.length ≤ 63) (hB : ∀ z ∈ ns, Builtin.Int.intBits z ≤ 1048576) : m_law_k07 [.scr ns] = some (.bl true) := by
  refine def_gv rfl ?_
  unfold b_law_k07
  have hb0 := cell_bits2 hB 0
  have hbig : BW 2000000 (cell ns 0) := hb0.mono (by decide)
  walk_at "wx"
  refine ⟨rfl, ?_⟩
  rw [ge_at (by decide) hl]
  walk_at "wx"
  rw [p_big hbig]
  walk_at "wx"
  obtain ⟨d, ed, ds, S, rfl, hdl, hR⟩ := p_deeds (i := 0) (by decide) hl hB (bigL_nd (cell ns 0)) bigL_ok (bigL_len _)
  have hbl := bigL_len (cell ns 0)
  have ed' : m_law_deeds [D.scr ns, D.int 0, D.lst (List.map sd (bigL (cell ns 0)))] = some (D.lst (ds.map dd)) := ed
  rw [ed']
  walk_at "wx"
  refine ⟨_, rng1_nat (n := ds.length) (by omega), ?_⟩
  rw [map_dint]
  refine gv_for (fun k ρ => ∃ t a5 a6, ρ = [SV.v (.scr ns), .wd none t, .v (.lst ((toL t).map sd)), .v (.lst (ds.map dd)), a5, a6] ∧ a5.noL = true ∧ a6.noL = true ∧ At ds k t) ⟨.nil, _, _, rfl, rfl, rfl, At.zero ds⟩ (fun k x ρ hk ⟨t, a5, a6, eq, n5, n6, hA⟩ => ?_) (fun ρ ⟨t, a5, a6, eq, n5, n6, hA⟩ => ?_)
  · subst eq
    rw [List.getElem?_map, Option.map_eq_some_iff] at hk
    obtain ⟨j, hj, rfl⟩ := hk
    have hjl := (List.getElem?_eq_some_iff.mp hj).1
    rw [List.length_range] at hjl
    rw [List.getElem?_range hjl] at hj
    cases hj
    refine ⟨_, rfl, ?_⟩
    have hal := hA.len
    obtain ⟨t', h1, h2, h3, _⟩ := hA.step hR hjl (by omega)
    have rest : Gv ((sSeq (sSet 5 (eOp dIx (eVar 3) (eVar 4)))
      (sSeq (sIfDo 1 fDo (eVar 5)
        (sRet (eC (.bl false)))
        sNext)
      (sSetW 2 (eCall m_law_behind (eCons (eVar 2) (eCons (eVar 5) eNil)))))) [SV.v (.scr ns), .wd none t, .v (.lst ((toL t).map sd)), .v (.lst (ds.map dd)), .v (.int k), a6]) (fun o => o = .nx [SV.v (.scr ns), .wd none t', .v (.lst ((toL t').map sd)), .v (.lst (ds.map dd)), .v (.int k), .v (dd ds[k])]) := by
      walk_at "wx"
      rw [at_dd hjl]
      walk_at "wx"
      refine ⟨rfl, gv_ifDo rfl ⟨_, rfl, rfl, h1⟩ ?_⟩
      walk_at "wx"
      rw [h3]
      walk_at "wx"
    obtain ⟨o, eo, rfl⟩ := rest
    generalize hREST : (sSeq (sSet 5 (eOp dIx (eVar 3) (eVar 4))) _) = REST at eo ⊢
    clear hREST
    walk_at "wx"
    have fin : ∀ P : Out → Prop, (∀ ρ, (∃ t a5 a6, ρ = [SV.v (.scr ns), .wd none t, .v (.lst ((toL t).map sd)), .v (.lst (ds.map dd)), a5, a6] ∧ a5.noL = true ∧ a6.noL = true ∧ At ds (k + 1) t) → P (.nx ρ)) → Gv (REST [SV.v (.scr ns), .wd none t, .v (.lst ((toL t).map sd)), .v (.lst (ds.map dd)), .v (.int k), a6]) P := fun P hP => ⟨_, eo, hP _ ⟨t', _, _, rfl, rfl, rfl, h2⟩⟩
    split
    · rw [p_stands (hA.kept (by omega)) (by omega)]
      walk_at "wx"
      exact fin _ fun ρ h => h
    · exact fin _ fun ρ h => h
  · subst eq
    rw [List.length_map, List.length_range] at hA
    walk_at "wx"
    have hal := hA.len
    rw [p_stands (hA.kept (by omega)) (by omega)]
    walk_at "wx"
end
end Sp

set_option Elab.async false
set_option linter.all false
set_option maxRecDepth 100000
set_option maxHeartbeats 2000000
namespace Sp
open PySem L2
open Classical
noncomputable section
local macro_rules | `(tactic| walk_at "ev") => `(tactic| try simp only [gv_next, gv_brk, gv_cnt, gv_retN, gv_seq, nx_nx, nx_rt, nx_bk, nx_ct, gv_set, gv_setF, gv_own, gv_ret, gv_drop, gv_retO, gv_if, gv_app, gv_unp, gv_pop, gv_put, gv_par, gv_forF, gv_forN, gv_forT, gv_forR,
  ge_var, ge_c, ge_op, ge_un, gl_nil, gl_cons, ge_call, ge_meth, ge_tup, ge_lst, ge_ii, ge_sl, go_none, go_int, gb_val, gb_truth, gb_and, gb_or, gb_not, gb_yes, ge_and, ge_or, ge_if, ge_chain, ge_some, gb_some, gl_some, go_some, ge_guard, ge_lc, ge_lcT, ge_lcR, ge_eqI, ge_neI, ge_eqB, ge_neB,
  frm, full, SV.full, gt, sgt, setAll, Tg.put, List.map, List.replicate, List.set, List.length_cons, List.length_nil, List.length_append, List.length_map, List.append_nil, List.nil_append, List.cons_append, Nat.sub_self, Nat.reduceAdd, Nat.reduceSub, Nat.zero_add, Nat.add_zero,
  noOwn, List.all_cons, List.all_nil, SV.free, D.imm, D.imms, imm_sd, imms_sd, imm_tupI, Bool.and_true, Bool.true_and, Bool.and_self, Bool.false_and, Bool.and_false, true_or, or_true, or_self, false_or, or_false, true_and, and_true, if_true, if_false, Bool.false_eq_true,
  D.int.injEq, D.bl.injEq, D.lst.injEq, D.tup.injEq, D.str.injEq, D.box.injEq, D.wood.injEq, SV.v.injEq, SV.own.injEq, Option.some.injEq, exists_eq_left', exists_eq_left, exists_and_left, reduceCtorEq, false_and, and_false, exists_false,
  fLen_lst, fLen_tup, fLen_scr, fLen_sd, fMax2_ii, fMin2_ii, fInt1_i, fInt1_b, fListOf_lst, fSorted_sd, fSum_i, dIx_sd0, dIx_sd1, dIx_sd2, dIx_lst, dIx_tup, dIx_scr, atI_0, atI_1, atI_2, atI_3, dSl_lst, dSl_scr, dCat_ll, dRep_l, dNot_b, dNeg_i, dNotBl_b, dNotBl_i, dNotBl_n, dNotBl_s, dNotBl_t, dNotBl_l, dIsN_non, dIsN_int, dIsN_lst, dNotN_non, dNotN_lst, dIsN_nil, dIsN_node, dNotN_nil, dNotN_node, isi_int_non, isi_int_bl, isi_int_int, isi_int_str, isi_int_tup, isi_int_lst, isi_int_sd, isi_bool_non, isi_bool_bl, isi_bool_int, isi_bool_str, isi_bool_tup, isi_bool_lst, isi_bool_sd, isi_tuple_non, isi_tuple_bl, isi_tuple_int, isi_tuple_str, isi_tuple_tup, isi_tuple_lst, isi_tuple_sd, isi_list_non, isi_list_bl, isi_list_int, isi_list_str, isi_list_tup, isi_list_lst, isi_list_sd, tyi_non, tyi_bl, tyi_int, tyi_str, tyi_tup, tyi_lst, ge_eqT, ge_neT, ge_eqS, ge_neS, ge_inS, ge_ninS, ge_eqLS, ge_neLS, Option.map_some, Bool.not_true, Bool.not_false, Bool.not_not, decide_eq_true_eq, decide_eq_false_iff_not, Bool.not_eq_true', Bool.not_eq_false', Bool.not_eq_true, decide_true, decide_false,
  Int.reduceLT, Nat.reduceLT, Int.reduceLE, Nat.reduceLeDiff, sizeLine_eq, and_self, ite_self, not_false_eq_true, not_true_eq_false, implies_true, imp_self, forall_const, true_implies])
local macro_rules | `(tactic| walk_at "st") => `(tactic| try simp only [gv_next, gv_brk, gv_cnt, gv_retN, gv_seq, nx_nx, nx_rt, nx_bk, nx_ct, gv_set, gv_setF, gv_own, gv_ret, gv_drop, gv_retO, gv_app, gv_unp, gv_pop, gv_put, gv_par, gv_forF, gv_forN, gv_forT, gv_forR,
  ge_var, ge_c, ge_op, ge_un, gl_nil, gl_cons, ge_call, ge_meth, ge_tup, ge_lst, ge_ii, ge_sl, go_none, go_int, gb_val, gb_truth, gb_and, gb_or, gb_not, gb_yes, ge_and, ge_or, ge_if, ge_chain, ge_some, gb_some, gl_some, go_some, ge_guard, ge_lc, ge_lcT, ge_lcR, ge_eqI, ge_neI, ge_eqB, ge_neB,
  frm, full, SV.full, gt, sgt, setAll, Tg.put, List.map, List.replicate, List.set, List.length_cons, List.length_nil, List.length_append, List.length_map, List.append_nil, List.nil_append, List.cons_append, Nat.sub_self, Nat.reduceAdd, Nat.reduceSub, Nat.zero_add, Nat.add_zero,
  noOwn, List.all_cons, List.all_nil, SV.free, D.imm, D.imms, imm_sd, imms_sd, imm_tupI, Bool.and_true, Bool.true_and, Bool.and_self, Bool.false_and, Bool.and_false, true_or, or_true, or_self, false_or, or_false, true_and, and_true, if_true, if_false, Bool.false_eq_true,
  D.int.injEq, D.bl.injEq, D.lst.injEq, D.tup.injEq, D.str.injEq, D.box.injEq, D.wood.injEq, SV.v.injEq, SV.own.injEq, Option.some.injEq, exists_eq_left', exists_eq_left, exists_and_left, reduceCtorEq, false_and, and_false, exists_false,
  fLen_lst, fLen_tup, fLen_scr, fLen_sd, fMax2_ii, fMin2_ii, fInt1_i, fInt1_b, fListOf_lst, fSorted_sd, fSum_i, dIx_sd0, dIx_sd1, dIx_sd2, dIx_lst, dIx_tup, dIx_scr, atI_0, atI_1, atI_2, atI_3, dSl_lst, dSl_scr, dCat_ll, dRep_l, dNot_b, dNeg_i, dNotBl_b, dNotBl_i, dNotBl_n, dNotBl_s, dNotBl_t, dNotBl_l, dIsN_non, dIsN_int, dIsN_lst, dNotN_non, dNotN_lst, dIsN_nil, dIsN_node, dNotN_nil, dNotN_node, isi_int_non, isi_int_bl, isi_int_int, isi_int_str, isi_int_tup, isi_int_lst, isi_int_sd, isi_bool_non, isi_bool_bl, isi_bool_int, isi_bool_str, isi_bool_tup, isi_bool_lst, isi_bool_sd, isi_tuple_non, isi_tuple_bl, isi_tuple_int, isi_tuple_str, isi_tuple_tup, isi_tuple_lst, isi_tuple_sd, isi_list_non, isi_list_bl, isi_list_int, isi_list_str, isi_list_tup, isi_list_lst, isi_list_sd, tyi_non, tyi_bl, tyi_int, tyi_str, tyi_tup, tyi_lst, ge_eqT, ge_neT, ge_eqS, ge_neS, ge_inS, ge_ninS, ge_eqLS, ge_neLS, Option.map_some, Bool.not_true, Bool.not_false, Bool.not_not, decide_eq_true_eq, decide_eq_false_iff_not, Bool.not_eq_true', Bool.not_eq_false', Bool.not_eq_true, decide_true, decide_false,
  Int.reduceLT, Nat.reduceLT, Int.reduceLE, Nat.reduceLeDiff, sizeLine_eq, and_self, ite_self, not_false_eq_true, not_true_eq_false, implies_true, imp_self, forall_const, true_implies])

local macro_rules | `(tactic| walk_at "wx") => `(tactic| (walk_at "ev"; repeat (simp only [gv_setW, gv_newW, pd_0, pd_1, bd_0, bd_1, bd_2, bd_3, dTop_w, nw_sds, nw_dds, noLst, noL_v, noL_wd, noL_no, List.all_cons, List.all_nil, Bool.and_self, Bool.and_true, Bool.true_and, true_and, and_true]; walk_at "ev")))

/-! ### what a wood tells of its row -/
theorem p_listed {t : T} (k : Kept t) : m_Wood_listed [.wood t] = some (.lst ((toL t).map sd)) := by
  refine def_gv rfl ?_
  unfold b_Wood_listed
  have hl := placed_len t 0
  have hk := k.len
  walk_at "wx"
  rw [p_placed k.dep (by omega)]
  walk_at "wx"
  refine ⟨by omega, gl_lc bd (fun x => sd x.1) (fun _ => true) (fun x hx => ⟨gb_yes.mpr rfl, fun _ => ⟨?_, rfl⟩⟩) ?_⟩
  · walk_at "wx"
  · rw [filter_true, ← placed_toL t 0, List.map_map]
    rfl
theorem p_total {t : T} (k : Kept t) : m_Wood_total [.wood t] = some (.int (toL t).length) := by
  refine def_gv rfl ?_
  unfold b_Wood_total
  have hl := placed_len t 0
  have hk := k.len
  walk_at "wx"
  rw [p_placed k.dep (by omega)]
  walk_at "wx"
  rw [hl]
section
variable {t : T} {q : Int × Int}
theorem p_Wgaps (k : Kept t) (ok : ∀ z ∈ toL t, Okay3 z) (hq : OkQ q) : m_Wood_gaps [.wood t, .int q.1, .int q.2] = some (.lst ((gapsL (toL t) q.1 q.2).map pd)) := by
  refine def_gv rfl ?_
  unfold b_Wood_gaps
  have hk := k.len
  walk_at "wx"
  rw [p_listed k]
  walk_at "wx"
  rw [p_gaps_of hq ok (by omega)]
  walk_at "wx"
theorem p_Wclumps (k : Kept t) (ok : ∀ z ∈ toL t, Okay3 z) : m_Wood_clumps [.wood t] = some (.lst ((clumpsL (toL t)).map sd)) := by
  refine def_gv rfl ?_
  unfold b_Wood_clumps
  have hk := k.len
  walk_at "wx"
  rw [p_listed k]
  walk_at "wx"
  rw [p_clumps_of ok (by omega)]
  walk_at "wx"
theorem srt_low {zs : List S3} (h : Srt zs) : zs.Pairwise (fun a b => a.1 ≤ b.1) := h.imp fun {a b} h => by rw [lt3_iff] at h; omega
theorem p_Wdeepest (k : Kept t) (ok : ∀ z ∈ toL t, Okay3 z) (hq : OkQ q) : Ge (m_Wood_deepest [.wood t, .int q.1, .int q.2]) fun d => ∃ m p, d = .tup [.int m, .int p] ∧ Deepest (toL t) q.1 q.2 m p := by
  refine def_ge rfl ?_
  unfold b_Wood_deepest
  have hk := k.len
  obtain ⟨d, ed, m, p, rfl, hD⟩ := p_deepest_of hq ok (srt_low k.srt) (by omega)
  walk_at "wx"
  rw [p_listed k]
  walk_at "wx"
  rw [ed]
  exact ⟨_, rfl, m, p, rfl, hD⟩
end
/-! ### gaps: what they are -/
structure GapsOk (zs : List S3) (l h : Int) (gs : List (Int × Int)) : Prop where
  inn : ∀ g ∈ gs, l ≤ g.1 ∧ g.1 ≤ g.2 ∧ g.2 ≤ h
  pw : gs.Pairwise (fun a b => a.2 + 1 < b.1)
  no : ∀ g ∈ gs, ∀ z ∈ zs, ¬ (z.1 ≤ g.2 ∧ g.1 ≤ z.2.1)
  all : ∀ x, l ≤ x → x ≤ h → (∃ z ∈ zs, z.1 ≤ x ∧ x ≤ z.2.1) ∨ ∃ g ∈ gs, g.1 ≤ x ∧ x ≤ g.2
theorem gaps_ok : ∀ (zs : List S3) (l h : Int), zs.Pairwise (fun a b => a.1 ≤ b.1) → (∀ z ∈ zs, z.1 ≤ z.2.1) → GapsOk zs l h (gapsL zs l h)
  | [], l, h, _, _ => by
    rw [gapsL]
    split
    · rename_i c
      refine ⟨fun g hg => ?_, List.pairwise_singleton _ _, fun g _ z hz => (by cases hz), fun x h1 h2 => .inr ⟨(l, h), List.mem_singleton_self _, h1, h2⟩⟩
      rw [List.mem_singleton] at hg
      subst hg
      exact ⟨Int.le_refl _, c, Int.le_refl _⟩
    · exact ⟨fun g hg => (by cases hg), List.Pairwise.nil, fun g hg => (by cases hg), fun x h1 h2 => absurd (Int.le_trans h1 h2) ‹_›⟩
  | z :: r, l, h, pw, ok => by
    rw [List.pairwise_cons] at pw
    have okz := ok z List.mem_cons_self
    obtain ⟨i1, i2, i3, i4⟩ := gaps_ok r (max l (z.2.1 + 1)) h pw.2 (fun w hw => ok w (List.mem_cons_of_mem _ hw))
    rw [gapsL]
    have tailNo : ∀ g ∈ gapsL r (max l (z.2.1 + 1)) h, ∀ w ∈ z :: r, ¬ (w.1 ≤ g.2 ∧ g.1 ≤ w.2.1) := fun g hg w hw => by
      rcases List.mem_cons.mp hw with e | hw
      · subst e
        have := i1 g hg
        omega
      · exact i3 g hg w hw
    have tailAll : ∀ x, l ≤ x → x ≤ h → (∃ w ∈ z :: r, w.1 ≤ x ∧ x ≤ w.2.1) ∨ (∃ g ∈ gapsL r (max l (z.2.1 + 1)) h, g.1 ≤ x ∧ x ≤ g.2) ∨ x < z.1 := fun x h1 h2 => by
      by_cases c : x ≤ z.2.1
      · by_cases c2 : z.1 ≤ x
        · exact .inl ⟨z, List.mem_cons_self, c2, c⟩
        · exact .inr (.inr (by omega))
      · rcases i4 x (by omega) h2 with ⟨w, hw, h3⟩ | ⟨g, hg, h3⟩
        · exact .inl ⟨w, List.mem_cons_of_mem _ hw, h3⟩
        · exact .inr (.inl ⟨g, hg, h3⟩)
    by_cases c : l < z.1 ∧ l ≤ h
    · rw [if_pos c]
      refine ⟨fun g hg => ?_, ?_, fun g hg w hw => ?_, fun x h1 h2 => ?_⟩
      · rcases List.mem_cons.mp hg with e | hg
        · subst e; simp only; omega
        · have := i1 g hg; omega
      · refine List.pairwise_cons.mpr ⟨fun g hg => ?_, i2⟩
        have := i1 g hg
        simp only
        omega
      · rcases List.mem_cons.mp hg with e | hg
        · subst e
          simp only
          rcases List.mem_cons.mp hw with e | hw
          · subst e; omega
          · have := pw.1 w hw; omega
        · exact tailNo g hg w hw
      · rcases tailAll x h1 h2 with h3 | ⟨g, hg, h3⟩ | h3
        · exact .inl h3
        · exact .inr ⟨g, List.mem_cons_of_mem _ hg, h3⟩
        · exact .inr ⟨(l, min (z.1 - 1) h), List.mem_cons_self, h1, by simp only; omega⟩
    · rw [if_neg c, List.nil_append]
      refine ⟨fun g hg => by have := i1 g hg; omega, i2, tailNo, fun x h1 h2 => ?_⟩
      rcases tailAll x h1 h2 with h3 | h3 | h3
      · exact .inl h3
      · exact .inr h3
      · omega
/-! ### the law's looks -/
theorem p_parts {xss : List (List Int)} {n : Nat} (h : ∀ xs ∈ xss, xs.length = n) (hn : n ≤ 1000) : m_law_parts [.lst (xss.map tupI), .int n] = some (.bl true) := by
  refine def_gv rfl ?_
  unfold b_law_parts
  walk_at "wx"
  rw [gv_forV_iff rfl]
  refine gv_for (fun _ ρ => ∃ a b, ρ = [SV.v (.lst (xss.map tupI)), .v (.int n), a, b]) ⟨_, _, rfl⟩ (fun k x ρ hk ⟨a, b, eq⟩ => ?_) (fun ρ ⟨a, b, eq⟩ => ?_)
  · subst eq
    rw [List.getElem?_map, Option.map_eq_some_iff] at hk
    obtain ⟨xs, hx, rfl⟩ := hk
    have hxs := h xs (List.mem_of_getElem? hx)
    refine ⟨_, rfl, ?_⟩
    walk_at "wx"
    simp only [tupI]
    walk_at "wx"
    rw [if_neg (by omega)]
    refine ⟨by omega, gl_lc D.int D.int (fun _ => true) (fun y hy => ?_) ?_⟩
    · walk_at "wx"
      simp only [ge_is_int]
      walk_at "wx"
    rw [filter_true]
    walk_at "wx"
    rw [if_neg (by omega)]
    exact ⟨_, _, rfl⟩
  · subst eq
    walk_at "wx"
def inG (x : Int) (g : Int × Int) : Bool := decide (g.1 ≤ x) && decide (x ≤ g.2)
theorem p_overP {gs : List (Int × Int)} {x : Int} (hz : gs.length ≤ 2000) : m_law_over [.lst (gs.map pd), .int x] = some (.int (gs.filter (inG x)).length) := by
  refine def_gv rfl ?_
  unfold b_law_over
  walk_at "wx"
  refine ⟨by omega, gl_lc pd pd (inG x) (fun g hg => ⟨?_, fun _ => ⟨?_, rfl⟩⟩) ?_⟩
  · walk_at "wx"
    unfold inG
    by_cases h1 : g.1 ≤ x <;> by_cases h2 : x ≤ g.2 <;> simp [h1, h2]
  · walk_at "wx"
  · rw [List.length_map]
end
end Sp

set_option Elab.async false
set_option linter.all false
set_option maxRecDepth 100000
set_option maxHeartbeats 2000000
namespace Sp
open PySem L2
open Classical
noncomputable section
section
variable {X : Cx} {W : Wh} {fr fa fb : Bool} {ma mb : EM} {a b : Expr} {pos : Pos}
/-! ### a text, once -/
def rRepS1 : R2 := fun x y H Q => ∃ s, x = .str s ∧ y = .int 1 ∧ Q (.str s) H
theorem op_repS1 : OpR X (binaryOp .Mult) rRepS1 := by
  intro pins s σ H x y v u Q I rx ry h
  obtain ⟨z, rfl, rfl, q⟩ := h
  obtain ⟨t, rfl⟩ := (show ∃ t, v = Value.str z t from rx)
  obtain ⟨t2, rfl⟩ := (show ∃ t, u = Value.int 1 t from ry)
  refine PySem.P.mul_str (by decide) (fun _ h => ?_) (fun _ h => ?_) ?_
  · cases h
  · cases h
  · rw [if_neg (by decide), if_pos (show ((1 : Int) == 1 || z.length == 0) = true from rfl)]
    exact ⟨.str z, H, I, ⟨t, rfl⟩, q⟩
def dRepS (x y : D) : Option D := match x, y with
  | .str s, .int k => if k = 1 then some (.str s) else none
  | _, _ => none
theorem bRepS : BinOk W false rRepS1 dRepS := by
  intro H x y dx dy d Q r1 r2 e k
  cases dx with
  | str s =>
    cases dy with
    | int i =>
      have e : (if i = 1 then some (D.str s) else none) = some d := e
      split at e
      · rename_i c
        subst c
        cases e
        cases r1
        cases r2
        exact ⟨s, rfl, rfl, k _ H (Same.refl H) (.str _) (fun z => nomatch z)⟩
      · cases e
    | _ => cases e
  | _ => cases e
theorem ev_repS (ha : EV X W a fa ma) (hb : EV X W b fb mb) : EV X W (.BinOp a .Mult b pos) false (eOp dRepS ma mb) := ev_op bRepS op_repS1 ha hb
theorem dRepS_1 {s : Str} : dRepS (.str s) (.int 1) = some (.str s) := rfl
end
/-! ### a slot that nothing is known of -/
theorem RS.poke {W : Wh} {Hb Hd H : Hp} {ρ : SEnv} {σ : L2.St} {i : Nat} {x : Option V} (r : RS W Hb Hd H ρ σ) (h : sgt ρ i = .no) : RS W Hb Hd H ρ (σ.set i x) := by
  have ne : ∀ j, sgt ρ j ≠ .no → i ≠ j := fun j hj e => hj (e ▸ h)
  have nf : ∀ j, (sgt ρ j).free = false → i ≠ j := fun j hj => ne j fun e => by rw [e] at hj; cases hj
  refine ⟨r.b, r.s, by rw [List.length_set]; exact r.len, fun j d e => ?_, fun j e => ?_, fun j k l e1 e2 h1 h2 => ?_⟩
  · rw [List.getElem?_set_ne (ne j (by rw [e]; exact fun z => nomatch z))]
    exact r.sl j d e
  · rw [List.getElem?_set_ne (nf j e)]
    exact r.ou j e
  · rw [List.getElem?_set_ne (nf j e1)] at h1
    rw [List.getElem?_set_ne (nf k e2)] at h2
    exact r.nu j k l e1 e2 h1 h2
/-! ### x = wood.put(..) in a try -/
section
variable {W : Wh}
theorem asg_reads {Hb Hd H1 : Hp} {σ : L2.St} {ρ1 : SEnv} {D' : Ends} {t : T} {l : Addr} {x : Str} {W1 : WX} {g : T → List D → Option (Except Addr (T × D))} {f1 f2 f3 : Bool} {m1 m2 m3 : EM} {a b c : Int} {res : Except Addr (T × D)} {j : Nat}
    (hx : x ≠ "_top") (r : RS W Hb Hd H1 ρ1 σ) (e0 : sgt ρ1 0 = .wd (some l) t) (h1 : m1 (full ρ1) = some (.int a)) (h2 : m2 (full ρ1) = some (.int b)) (h3 : m3 (full ρ1) = some (.int c)) (hg : g t [.int a, .int b, .int c] = some res)
    (hok : ∀ t' d, res = .ok (t', d) → d = .non ∧ ∀ H' Hd', RS W Hb Hd' H' ((ρ1.set 0 (.wd (some l) t')).set j (.v .non)) (σ.set j (some .non)) → D'.nx (σ.set j (some .non)) H')
    (herr : ∀ C, res = .error C → ∀ H' Hd', RS W Hb Hd' H' (ρ1.set 0 (.wd (some l) t)) σ → W1 (.ref C) none σ H') :
    (tAsg (tMethE W.w x (spM W g) (WE W1) (tVar 0) (tCons (tX W f1 m1) (tCons (tX W f2 m2) (tCons (tX W f3 m3) tNil)))) (gName j)) D' σ H1 := by
  obtain ⟨l', dx, v, s1, s2, s3, ha, s4⟩ := r.wo 0 (some l) t e0
  have el := ha l rfl
  subst el
  refine ⟨.ref l', s1, l', dx, _, rfl, s3, top_look hx _, full ρ1, _, r.re, h1, fun v1 H2 e2 r1 _ => ⟨full ρ1, _, r.re.mono e2, h2, fun v2 H3 e3 r2 _ => ⟨full ρ1, _, (r.re.mono e2).mono e3, h3, fun v3 H4 e4 r3 _ => ?_⟩⟩⟩
  have s := e2.trans (e3.trans e4)
  have hl4 := s _ _ s3
  refine ⟨l', dx, v, t, [v1, v2, v3], [.int a, .int b, .int c], res, rfl, hl4, s4.mono (less_same (r.s.trans s) s2), .cons (((r1.mono e3).mono e4).keep (less_wood hl4) rfl) (.cons ((r2.mono e4).keep (less_wood hl4) rfl) (.cons (r3.keep (less_wood hl4) rfl) .nil)), hg, ?_⟩
  cases res with
  | ok y =>
    obtain ⟨t', d⟩ := y
    obtain ⟨rfl, hk⟩ := hok t' d rfl
    intro H' dx' v' u s' hx' tr ru
    obtain ⟨Hd', gg⟩ := wood_after r e0 s1 s3 ha s s' hx' tr
    cases ru
    exact hk H' Hd' (gg.set .non)
  | error C =>
    intro H' dx' v' s' hx' tr
    obtain ⟨Hd', gg⟩ := wood_after r e0 s1 s3 ha s s' hx' tr
    exact herr C rfl H' Hd' gg
end
/-! ### isinstance(e, C) of the error that the suite holds -/
section
variable {X : Cx} {i a C : Addr} {oe : Obj} {pn : List (Addr × Obj)} {v : V} {cv : Value} {b : Bool} {ee ce : Expr} {p pos : Pos} {n : Nat}
/-- a value known while slot n holds the error at a -/
def tE (a : Addr) (n : Nat) (b : Bool) : TE := fun σ H Q => σ[n]? = some (some (.ref a)) ∧ Q (.bl b) H
theorem pe_isE (EC : ExcC X.K C) (hz : Zc (.ref C) none oe) (hf : ∃ vs, oe.data = .fields vs) (he : PE (X.suite a ((a, oe) :: pn)) ee (tVar n)) (hc : PE (X.suite a ((a, oe) :: pn)) ce (tC v)) (hv : ∀ u, RelV v u → u = cv) (hk : PySem.W.kitOne X.K (.ref C) cv = some b)
    (hg : L2.Gl (X.suite a ((a, oe) :: pn)) "isinstance") (hm : X.mg "isinstance" = none)
    (he1 : starEach [ce] (X.suite a ((a, oe) :: pn)).env = (false, eval ce (X.suite a ((a, oe) :: pn)).env) :: starEach [] (X.suite a ((a, oe) :: pn)).env := by rfl)
    (he2 : starEach [ee, ce] (X.suite a ((a, oe) :: pn)).env = (false, eval ee (X.suite a ((a, oe) :: pn)).env) :: starEach [ce] (X.suite a ((a, oe) :: pn)).env := by rfl) (hpl : (backTo pos (starEach [ce] (X.suite a ((a, oe) :: pn)).env)).any (·.1) = false := by rfl) :
    PE (X.suite a ((a, oe) :: pn)) (.Call (.Name "isinstance" p) [ee, ce] [] pos) (tE a n b) :=
  PE.imp (pe_callB (call_isE EC hz hf) hg hm (by decide +kernel) (pa_cons he (pa_cons hc pa_nil he1) he2) (by decide) (by decide) he2 hpl) fun σ H Q ⟨h1, q⟩ => ⟨.ref a, h1, v, cv, b, rfl, hv, hk, q⟩
theorem t_eqE {W : Wh} {a : Addr} {n : Nat} {b1 b2 : Bool} : ∀ σ H Q, (σ[n]? = some (some (.ref a)) ∧ ∀ H', Same H H' → Q (b1 == b2) H') → tTest (tOp (rEqD W.K) (tE a n b1) (tE a n b2)) σ H Q := fun σ H Q ⟨h1, q⟩ => by
  refine ⟨h1, h1, ?_⟩
  have e : dEq (.bl b1) (.bl b2) = some (.bl (b1 == b2)) := by
    obtain ⟨d, e, h⟩ := (ge_eqB (x := b1) (y := b2) (P := fun d => d = .bl (b1 == b2))).mpr rfl
    rw [e, h]
  exact (bEq (W := W)) H (.bl b1) (.bl b2) (.bl b1) (.bl b2) (.bl (b1 == b2)) _ (.bl _) (.bl _) e fun v H' s r _ => by
    cases r
    exact ⟨_, rfl, q H' s⟩
def rInt1 : List V → Hp → VK → Prop := fun xs H Q => (∃ i, xs = [.int i] ∧ Q (.int i) H) ∨ ∃ k, xs = [.bl k] ∧ Q (.int (if k then 1 else 0)) H
/-- [s1, s2][int(isinstance(e, C))] -/
theorem t_word {K : PySem.W.Frag} {a : Addr} {n : Nat} {b : Bool} {s1 s2 : Str} {r : R2} : ∀ σ H Q, (σ[n]? = some (some (.ref a)) ∧ ∀ H', Same H H' → Q (.str (if b then s2 else s1)) H') →
    tOp (fun x y H Q => rIxL K x y H Q ∨ rIxT K x y H Q) (tLst (tCons (tC (.str s1)) (tCons (tC (.str s2)) tNil))) (tCB rInt1 (tCons (tE a n b) tNil)) σ H Q := fun σ H Q ⟨h1, q⟩ => by
  refine ⟨by rw [sizeLine_eq]; exact (by decide : 2 ≤ 16777216), fun p np => ⟨h1, .inr ⟨b, rfl, .inl ⟨p, [.str s1, .str s2], _, .str (if b then s2 else s1), rfl, rfl, SqL.of upd_same, ?_, q _ (same_new np)⟩⟩⟩⟩
  cases b <;> rfl
/-- what the law asks of the classes of the errors: bT of Twice, bM of Missing -/
structure ErrF (K : PySem.W.Frag) (cT cM cB C : Addr) (bT bM : Bool) : Prop where
  ec : ExcC K C
  t : PySem.W.kitOne K (.ref C) (.ref cT) = some bT
  m : PySem.W.kitOne K (.ref C) (.ref cM) = some bM
  b : PySem.W.kitOne K (.ref C) (.ref cB) = some false
  v : PySem.W.kitOne K (.ref C) (.type "ValueError") = some true
def tErr (K : PySem.W.Frag) (cT cM cB : Addr) (R : Addr → Bool → Bool → TS) : Addr → Value → Option Addr → TS := fun a cls d D σ H => ∃ C bT bM, cls = .ref C ∧ d = none ∧ ErrF K cT cM cB C bT bM ∧ R a bT bM D σ H
theorem pss_err {X' : Cx} {ss : List Stmt} {K : PySem.W.Frag} {cT cM cB a : Addr} {R : Addr → Bool → Bool → TS} {cls : Value} {d : Option Addr} (h : ∀ C bT bM, cls = .ref C → d = none → ErrF K cT cM cB C bT bM → PSs X' ss (R a bT bM)) : PSs X' ss (tErr K cT cM cB R a cls d) :=
  ⟨fun pins s σ H D I ⟨C, bT, bM, e1, e2, e3, h4⟩ => (h C bT bM e1 e2 e3).run pins s σ H D I h4⟩
/-- the suite says which of the two it is -/
def tSays (n : Nat) (s1 s2 : Str) : Addr → Bool → Bool → TS := fun a bT bM D σ H => σ[n]? = some (some (.ref a)) ∧ bT = !bM ∧ ∀ H', Same H H' → D.rt (.str (if bT then s2 else s1)) H'
theorem says3 {K : PySem.W.Frag} {X' : Cx} {ss : List Stmt} {n : Nat} {s0 s1 s2 : Str} {a : Addr} {bT bM : Bool} (h : PSs X' ss (tSeq (tIfS (tOr (tTest (tOp (rEqD K) (tE a n bT) (tE a n bM))) (tOr (tB (tE a n false)) (tNot (tB (tE a n true))))) (tRet (tC (.str s0))) tNext)
    (tRet (tOp (fun x y H Q => rIxL K x y H Q ∨ rIxT K x y H Q) (tLst (tCons (tC (.str s1)) (tCons (tC (.str s2)) tNil))) (tCB rInt1 (tCons (tE a n bT) tNil)))))) : PSs X' ss (tSays n s1 s2 a bT bM) :=
  PSs.imp h fun D σ H ⟨h1, h2, k⟩ => by
    refine t_eqE (W := ⟨K, 0, 0⟩) σ H _ ⟨h1, fun H1 e1 => ?_⟩
    have e : (bT == bM) = false := by subst h2; cases bM <;> rfl
    rw [e]
    refine w_iteF rfl ?_
    refine ⟨h1, false, rfl, w_iteF rfl ?_⟩
    refine ⟨h1, true, rfl, w_iteF rfl ?_⟩
    exact t_word (r := fun _ _ _ _ => True) σ H1 _ ⟨h1, fun H2 e2 => k H2 (e1.trans e2)⟩
theorem says1 {K : PySem.W.Frag} {X' : Cx} {ss : List Stmt} {n : Nat} {s0 s1 s2 : Str} {a : Addr} {bT bM : Bool} (h : PSs X' ss (tSeq (tIfS (tTest (tOp (rEqD K) (tE a n bT) (tE a n bM))) (tRet (tC (.str s0))) tNext)
    (tRet (tOp (fun x y H Q => rIxL K x y H Q ∨ rIxT K x y H Q) (tLst (tCons (tC (.str s1)) (tCons (tC (.str s2)) tNil))) (tCB rInt1 (tCons (tE a n bT) tNil)))))) : PSs X' ss (tSays n s1 s2 a bT bM) :=
  PSs.imp h fun D σ H ⟨h1, h2, k⟩ => by
    refine t_eqE (W := ⟨K, 0, 0⟩) σ H _ ⟨h1, fun H1 e1 => ?_⟩
    have e : (bT == bM) = false := by subst h2; cases bM <;> rfl
    rw [e]
    refine w_iteF rfl ?_
    exact t_word (r := fun _ _ _ _ => True) σ H1 _ ⟨h1, fun H2 e2 => k H2 (e1.trans e2)⟩
end
/-! ### if f(wood, e) != e2 -/
section
variable {X : Cx} {W : Wh} {fr fa fb : Bool} {ma mb : EM} {m1 m2 : SM}
def sIfNe (i : Nat) (f : T → List D → Option (Except Addr (T × D))) (me mb : EM) (A B : SM) : SM := fun ρ => (me (full ρ)).bind fun d => match sgt ρ i with
  | .wd a t => if d.imm = true then (f t [d]).bind fun r => match r with
    | .ok (t', w) => (mb (full (ρ.set i (.wd a t')))).bind fun y => (dNe w y).bind fun z => match z with
      | .bl c => if c = true then A (ρ.set i (.wd a t')) else B (ρ.set i (.wd a t'))
      | _ => none
    | _ => none
    else none
  | _ => none
theorem es_ifNe (i : Nat) {f : T → List D → Option (Except Addr (T × D))} {E : XK} {c : Expr} {x y : List Stmt} {pos : Pos} (hc : PT X c (tTest (tOp (rNeD W.K) (tCall (spM W f) [] E (tCons (tVar i) (tCons (tX W fa ma) tNil))) (tX W fb mb)))) (hA : EB X W fr x m1) (hB : EB X W fr y m2) :
    ES X W fr (.If c x y pos) (sIfNe i f ma mb m1 m2) := PS.imp (ps_if hc hA hB) fun D' σ H ⟨Hb, Hd, ρ, o, r, e, k⟩ => by
  unfold sIfNe at e
  rw [Option.bind_eq_some_iff] at e
  obtain ⟨d, e1, e⟩ := e
  cases hs : sgt ρ i with
  | wd a t =>
    rw [hs] at e
    have e : (if d.imm = true then (f t [d]).bind fun r => match r with
      | .ok (t', w) => (mb (full (ρ.set i (.wd a t')))).bind fun y => (dNe w y).bind fun z => match z with
        | .bl c => if c = true then m1 (ρ.set i (.wd a t')) else m2 (ρ.set i (.wd a t'))
        | _ => none
      | _ => none
      else none) = some o := e
    by_cases ci : d.imm = true
    · rw [if_pos ci, Option.bind_eq_some_iff] at e
      obtain ⟨res, e2, e3⟩ := e
      match res, e2, e3 with
      | .ok (t', w), e2, e3 =>
        have e3 : ((mb (full (ρ.set i (.wd a t')))).bind fun y => (dNe w y).bind fun z => match z with
          | .bl c => if c = true then m1 (ρ.set i (.wd a t')) else m2 (ρ.set i (.wd a t'))
          | _ => none) = some o := e3
        rw [Option.bind_eq_some_iff] at e3
        obtain ⟨y, e4, e3⟩ := e3
        rw [Option.bind_eq_some_iff] at e3
        obtain ⟨z, e5, e6⟩ := e3
        obtain ⟨l, dx, v, h1, h2, h3, ha, h4⟩ := r.wo i a t hs
        refine ⟨_, h1, full ρ, d, r.re, e1, fun v1 H1 s1 r1 _ => ?_⟩
        have h3' := s1 _ _ h3
        refine ⟨l, dx, v, t, [v1], [d], .ok (t', w), rfl, h3', h4.mono (less_same (r.s.trans s1) h2), .cons (r1.keep (less_wood h3') ci) .nil, e2, fun H' dx' v' u s' hx tr ru => ?_⟩
        obtain ⟨Hd', g⟩ := wood_after r hs h1 h3 ha s1 s' hx tr
        refine ⟨full (ρ.set i (.wd a t')), y, g.re, e4, fun v2 H2 s2 r2 _ => ?_⟩
        have ru2 : Rp W H2 u w := (ru.mono less_le).mono s2
        refine bNe H2 u v2 w y z _ ru2 r2 e5 fun v3 H3 s3 r3 _ => ?_
        have g3 := g.grow (s2.trans s3)
        cases z with
        | bl c =>
          cases r3
          refine ⟨c, rfl, ?_⟩
          have e6 : (if c = true then m1 (ρ.set i (.wd a t')) else m2 (ρ.set i (.wd a t'))) = some o := e6
          cases c with
          | true => exact ⟨Hb, _, _, o, g3, (by simpa using e6), k⟩
          | false => exact ⟨Hb, _, _, o, g3, (by simpa using e6), k⟩
        | _ => cases e6
    · rw [if_neg ci] at e; cases e
  | no => rw [hs] at e; cases e
  | v _ => rw [hs] at e; cases e
  | own _ => rw [hs] at e; cases e
theorem gv_ifNe {ρ : SEnv} {P : Out → Prop} {i : Nat} {f : T → List D → Option (Except Addr (T × D))} {a : Option Addr} {t t' : T} {w : D} {c : Bool} (hs : sgt ρ i = .wd a t) (h : Ge (ma (full ρ)) fun d => d.imm = true ∧ f t [d] = some (.ok (t', w))) (h2 : Ge (mb (full (ρ.set i (.wd a t')))) fun y => dNe w y = some (.bl c))
    (q : if c = true then Gv (m1 (ρ.set i (.wd a t'))) P else Gv (m2 (ρ.set i (.wd a t'))) P) : Gv (sIfNe i f ma mb m1 m2 ρ) P := by
  obtain ⟨d, e1, hi, e2⟩ := h
  obtain ⟨y, e4, e5⟩ := h2
  have e : sIfNe i f ma mb m1 m2 ρ = if c = true then m1 (ρ.set i (.wd a t')) else m2 (ρ.set i (.wd a t')) := by
    unfold sIfNe
    rw [e1, Option.bind_some, hs]
    simp only
    rw [if_pos hi, e2, Option.bind_some]
    simp only
    rw [e4, Option.bind_some, e5, Option.bind_some]
  rw [e]
  cases c with
  | true => simpa using q
  | false => simpa using q
end
end
end Sp

set_option Elab.async false
set_option linter.all false
set_option maxRecDepth 100000
set_option maxHeartbeats 2000000
namespace Sp
open PySem L2
open Classical
noncomputable section
local macro_rules | `(tactic| walk_at "ev") => `(tactic| try simp only [gv_next, gv_brk, gv_cnt, gv_retN, gv_seq, nx_nx, nx_rt, nx_bk, nx_ct, gv_set, gv_setF, gv_own, gv_ret, gv_drop, gv_retO, gv_if, gv_app, gv_unp, gv_pop, gv_put, gv_par, gv_forF, gv_forN, gv_forT, gv_forR,
  ge_var, ge_c, ge_op, ge_un, gl_nil, gl_cons, ge_call, ge_meth, ge_tup, ge_lst, ge_ii, ge_sl, go_none, go_int, gb_val, gb_truth, gb_and, gb_or, gb_not, gb_yes, ge_and, ge_or, ge_if, ge_chain, ge_some, gb_some, gl_some, go_some, ge_guard, ge_lc, ge_lcT, ge_lcR, ge_eqI, ge_neI, ge_eqB, ge_neB,
  frm, full, SV.full, gt, sgt, setAll, Tg.put, List.map, List.replicate, List.set, List.length_cons, List.length_nil, List.length_append, List.length_map, List.append_nil, List.nil_append, List.cons_append, Nat.sub_self, Nat.reduceAdd, Nat.reduceSub, Nat.zero_add, Nat.add_zero,
  noOwn, List.all_cons, List.all_nil, SV.free, D.imm, D.imms, imm_sd, imms_sd, imm_tupI, Bool.and_true, Bool.true_and, Bool.and_self, Bool.false_and, Bool.and_false, true_or, or_true, or_self, false_or, or_false, true_and, and_true, if_true, if_false, Bool.false_eq_true,
  D.int.injEq, D.bl.injEq, D.lst.injEq, D.tup.injEq, D.str.injEq, D.box.injEq, D.wood.injEq, SV.v.injEq, SV.own.injEq, Option.some.injEq, exists_eq_left', exists_eq_left, exists_and_left, reduceCtorEq, false_and, and_false, exists_false,
  fLen_lst, fLen_tup, fLen_scr, fLen_sd, fMax2_ii, fMin2_ii, fInt1_i, fInt1_b, fListOf_lst, fSorted_sd, fSum_i, dIx_sd0, dIx_sd1, dIx_sd2, dIx_lst, dIx_tup, dIx_scr, atI_0, atI_1, atI_2, atI_3, dSl_lst, dSl_scr, dCat_ll, dRep_l, dNot_b, dNeg_i, dNotBl_b, dNotBl_i, dNotBl_n, dNotBl_s, dNotBl_t, dNotBl_l, dIsN_non, dIsN_int, dIsN_lst, dNotN_non, dNotN_lst, dIsN_nil, dIsN_node, dNotN_nil, dNotN_node, isi_int_non, isi_int_bl, isi_int_int, isi_int_str, isi_int_tup, isi_int_lst, isi_int_sd, isi_bool_non, isi_bool_bl, isi_bool_int, isi_bool_str, isi_bool_tup, isi_bool_lst, isi_bool_sd, isi_tuple_non, isi_tuple_bl, isi_tuple_int, isi_tuple_str, isi_tuple_tup, isi_tuple_lst, isi_tuple_sd, isi_list_non, isi_list_bl, isi_list_int, isi_list_str, isi_list_tup, isi_list_lst, isi_list_sd, tyi_non, tyi_bl, tyi_int, tyi_str, tyi_tup, tyi_lst, ge_eqT, ge_neT, ge_eqS, ge_neS, ge_inS, ge_ninS, ge_eqLS, ge_neLS, Option.map_some, Bool.not_true, Bool.not_false, Bool.not_not, decide_eq_true_eq, decide_eq_false_iff_not, Bool.not_eq_true', Bool.not_eq_false', Bool.not_eq_true, decide_true, decide_false,
  Int.reduceLT, Nat.reduceLT, Int.reduceLE, Nat.reduceLeDiff, sizeLine_eq, and_self, ite_self, not_false_eq_true, not_true_eq_false, implies_true, imp_self, forall_const, true_implies])
local macro_rules | `(tactic| walk_at "st") => `(tactic| try simp only [gv_next, gv_brk, gv_cnt, gv_retN, gv_seq, nx_nx, nx_rt, nx_bk, nx_ct, gv_set, gv_setF, gv_own, gv_ret, gv_drop, gv_retO, gv_app, gv_unp, gv_pop, gv_put, gv_par, gv_forF, gv_forN, gv_forT, gv_forR,
  ge_var, ge_c, ge_op, ge_un, gl_nil, gl_cons, ge_call, ge_meth, ge_tup, ge_lst, ge_ii, ge_sl, go_none, go_int, gb_val, gb_truth, gb_and, gb_or, gb_not, gb_yes, ge_and, ge_or, ge_if, ge_chain, ge_some, gb_some, gl_some, go_some, ge_guard, ge_lc, ge_lcT, ge_lcR, ge_eqI, ge_neI, ge_eqB, ge_neB,
  frm, full, SV.full, gt, sgt, setAll, Tg.put, List.map, List.replicate, List.set, List.length_cons, List.length_nil, List.length_append, List.length_map, List.append_nil, List.nil_append, List.cons_append, Nat.sub_self, Nat.reduceAdd, Nat.reduceSub, Nat.zero_add, Nat.add_zero,
  noOwn, List.all_cons, List.all_nil, SV.free, D.imm, D.imms, imm_sd, imms_sd, imm_tupI, Bool.and_true, Bool.true_and, Bool.and_self, Bool.false_and, Bool.and_false, true_or, or_true, or_self, false_or, or_false, true_and, and_true, if_true, if_false, Bool.false_eq_true,
  D.int.injEq, D.bl.injEq, D.lst.injEq, D.tup.injEq, D.str.injEq, D.box.injEq, D.wood.injEq, SV.v.injEq, SV.own.injEq, Option.some.injEq, exists_eq_left', exists_eq_left, exists_and_left, reduceCtorEq, false_and, and_false, exists_false,
  fLen_lst, fLen_tup, fLen_scr, fLen_sd, fMax2_ii, fMin2_ii, fInt1_i, fInt1_b, fListOf_lst, fSorted_sd, fSum_i, dIx_sd0, dIx_sd1, dIx_sd2, dIx_lst, dIx_tup, dIx_scr, atI_0, atI_1, atI_2, atI_3, dSl_lst, dSl_scr, dCat_ll, dRep_l, dNot_b, dNeg_i, dNotBl_b, dNotBl_i, dNotBl_n, dNotBl_s, dNotBl_t, dNotBl_l, dIsN_non, dIsN_int, dIsN_lst, dNotN_non, dNotN_lst, dIsN_nil, dIsN_node, dNotN_nil, dNotN_node, isi_int_non, isi_int_bl, isi_int_int, isi_int_str, isi_int_tup, isi_int_lst, isi_int_sd, isi_bool_non, isi_bool_bl, isi_bool_int, isi_bool_str, isi_bool_tup, isi_bool_lst, isi_bool_sd, isi_tuple_non, isi_tuple_bl, isi_tuple_int, isi_tuple_str, isi_tuple_tup, isi_tuple_lst, isi_tuple_sd, isi_list_non, isi_list_bl, isi_list_int, isi_list_str, isi_list_tup, isi_list_lst, isi_list_sd, tyi_non, tyi_bl, tyi_int, tyi_str, tyi_tup, tyi_lst, ge_eqT, ge_neT, ge_eqS, ge_neS, ge_inS, ge_ninS, ge_eqLS, ge_neLS, Option.map_some, Bool.not_true, Bool.not_false, Bool.not_not, decide_eq_true_eq, decide_eq_false_iff_not, Bool.not_eq_true', Bool.not_eq_false', Bool.not_eq_true, decide_true, decide_false,
  Int.reduceLT, Nat.reduceLT, Int.reduceLE, Nat.reduceLeDiff, sizeLine_eq, and_self, ite_self, not_false_eq_true, not_true_eq_false, implies_true, imp_self, forall_const, true_implies])

/-! ### a deed done, told by a word: _law_done -/
def doneT (x : Str) (z : S3) (t : T) : T × Str :=
  if x = "put" then (if z ∈ toL t then (t, "twice") else (insT z t, "done"))
  else (if z ∈ toL t then (delT z t, "done") else (t, "missing"))
def fDone (t : T) (ds : List D) : Option (Except Addr (T × D)) := match ds with
  | [.tup (.str x :: zd :: rest)] => zd.trip.bind fun z => if Kept t ∧ Okay3 z ∧ PyData.strOk x = true then some (.ok ((doneT x z t).1, .str (doneT x z t).2)) else none
  | _ => none
theorem fDone_inv {t : T} {ds : List D} {r : Except Addr (T × D)} (h : fDone t ds = some r) : ∃ x z rest, ds = [.tup (.str x :: sd z :: rest)] ∧ Kept t ∧ Okay3 z ∧ PyData.strOk x = true ∧ r = .ok ((doneT x z t).1, .str (doneT x z t).2) := by
  unfold fDone at h
  split at h
  · rename_i x zd rest
    rw [Option.bind_eq_some_iff] at h
    obtain ⟨z, h1, h2⟩ := h
    split at h2
    · rename_i c
      cases h2
      exact ⟨x, z, rest, by rw [D.of_trip h1], c.1, c.2.1, c.2.2, rfl⟩
    · cases h2
  · cases h
theorem fDone_len {t : T} {ds : List D} {r : Except Addr (T × D)} (h : fDone t ds = some r) : ds.length = 1 := by
  obtain ⟨x, z, rest, rfl, _⟩ := fDone_inv h; rfl
theorem fDone_deed {t : T} {x : Str} {z : S3} {rest : List D} (hk : Kept t) (hz : Okay3 z) (sx : PyData.strOk x = true) : fDone t [.tup (.str x :: sd z :: rest)] = some (.ok ((doneT x z t).1, .str (doneT x z t).2)) := by
  show (if Kept t ∧ Okay3 z ∧ PyData.strOk x = true then _ else none) = _
  rw [if_pos ⟨hk, hz, sx⟩]
section
variable {W : Wh} {t : T} {x : Str} {z : S3} {rest : List D} {a : Option Addr} {sv sw : SV}
theorem dn_s1 : (sSet 2 (eOp dIx (eVar 1) (eC (.int 1)))) [.wd a t, .v (.tup (.str x :: sd z :: rest)), .no, .no, .no] = some (.nx [.wd a t, .v (.tup (.str x :: sd z :: rest)), .v (sd z), .no, .no]) := by
  have h : Gv ((sSet 2 (eOp dIx (eVar 1) (eC (.int 1)))) [.wd a t, .v (.tup (.str x :: sd z :: rest)), .no, .no, .no]) (fun o => o = .nx [.wd a t, .v (.tup (.str x :: sd z :: rest)), .v (sd z), .no, .no]) := by
    walk_at "ev"
  obtain ⟨o, e, rfl⟩ := h
  exact e
theorem dn_t (sx : PyData.strOk x = true) : (bVal (eOp dEq (eOp dIx (eVar 1) (eC (.int 0))) (eC (.str "put")))) (full [.wd a t, .v (.tup (.str x :: sd z :: rest)), sv, .no, .no]) = some (decide (x = "put")) := by
  have h : Gb ((bVal (eOp dEq (eOp dIx (eVar 1) (eC (.int 0))) (eC (.str "put")))) (full [.wd a t, .v (.tup (.str x :: sd z :: rest)), sv, .no, .no])) (fun c => c = decide (x = "put")) := by
    walk_at "ev"
    rw [ge_eqStr sx ok_put_s]
    walk_at "ev"
  obtain ⟨o, e, rfl⟩ := h
  exact e
theorem dn_end : (sRet (eOp dRepS (eC (.str "done")) (eCall fInt1 (eCons (eUn dIsN (eVar 3)) eNil)))) [.wd a t, sv, sw, .v .non, .no] = some (.rt (.str "done") [.wd a t, sv, sw, .v .non, .no]) := by
  have h : Gv ((sRet (eOp dRepS (eC (.str "done")) (eCall fInt1 (eCons (eUn dIsN (eVar 3)) eNil)))) [.wd a t, sv, sw, .v .non, .no]) (fun o => o = .rt (.str "done") [.wd a t, sv, sw, .v .non, .no]) := by
    walk_at "ev"
    exact ⟨_, dRepS_1, rfl⟩
  obtain ⟨o, e, rfl⟩ := h
  exact e
theorem done_reads {N : List Str} (hN : N.length = 5) {vs : List V} {H : Hp} {Q : VK} {E : XK} {S cP cM cB : Addr} {f1 f2 f3 f4 f5 f6 : Bool} (xP : PySem.W.exmOne W.K (.ref cP) (.ref S) = some true) (xM : PySem.W.exmOne W.K (.ref cM) (.ref S) = some true)
    (gP : ErrF W.K cP cM cB cP true false) (gM : ErrF W.K cP cM cB cM false true) (h : spM W fDone vs H Q E) :
    tSeq (tS W false (sSet 2 (eOp dIx (eVar 1) (eC (.int 1))))) (tSeq (fun D' σ H => (tIfS (tXt W (bVal (eOp dEq (eOp dIx (eVar 1) (eC (.int 0))) (eC (.str "put")))))
      (tAsg (tMethE W.w "put" (spM W (fPut cP)) (WE (wAs W.K (.ref S) 4 (tErr W.K cP cM cB (tSays 4 "missing" "twice")) (fun _ _ _ _ => False) D')) (tVar 0) (tCons (tX W f1 (eOp dIx (eVar 2) (eC (.int 0)))) (tCons (tX W f2 (eOp dIx (eVar 2) (eC (.int 1)))) (tCons (tX W f3 (eOp dIx (eVar 2) (eC (.int 2)))) tNil)))) (gName 3))
      (tAsg (tMethE W.w "take" (spM W (fTake cM)) (WE (wAs W.K (.ref S) 4 (tErr W.K cP cM cB (tSays 4 "missing" "twice")) (fun _ _ _ _ => False) D')) (tVar 0) (tCons (tX W f4 (eOp dIx (eVar 2) (eC (.int 0)))) (tCons (tX W f5 (eOp dIx (eVar 2) (eC (.int 1)))) (tCons (tX W f6 (eOp dIx (eVar 2) (eC (.int 2)))) tNil)))) (gName 3))) D' σ H)
      (tS W false (sRet (eOp dRepS (eC (.str "done")) (eCall fInt1 (eCons (eUn dIsN (eVar 3)) eNil)))))) { nx := fun _ H' => Q .non H', rt := Q } (L2.start N vs) H := by
  obtain ⟨l, dx, v, t, vs0, ds, r, rfl, hl, ht, hds, hf, k⟩ := h
  obtain ⟨x, z, rest, rfl, hk, hz, sx, rfl⟩ := fDone_inv hf
  have e1 : (sSet 2 (eOp dIx (eVar 1) (eC (.int 1)))) (.wd (some l) t :: frm (N.length - 1) [.tup (.str x :: sd z :: rest)]) = some (.nx [.wd (some l) t, .v (.tup (.str x :: sd z :: rest)), .v (sd z), .no, .no]) := by
    rw [hN]; exact dn_s1
  have a0 : ∀ u : SV, (eOp dIx (eVar 2) (eC (.int 0))) (full [u, .v (.tup (.str x :: sd z :: rest)), .v (sd z), .no, .no]) = some (.int z.1) := fun u => rfl
  have a1 : ∀ u : SV, (eOp dIx (eVar 2) (eC (.int 1))) (full [u, .v (.tup (.str x :: sd z :: rest)), .v (sd z), .no, .no]) = some (.int z.2.1) := fun u => rfl
  have a2 : ∀ u : SV, (eOp dIx (eVar 2) (eC (.int 2))) (full [u, .v (.tup (.str x :: sd z :: rest)), .v (sd z), .no, .no]) = some (.int z.2.2) := fun u => rfl
  refine ⟨_, _, _, _, rs_startW hl ht hds (by rw [hN]; exact (show 1 + 1 ≤ 5 from by decide)), e1, fun σ' H' Hd' r => ?_⟩
  refine ⟨_, decide (x = "put"), r.re, dn_t sx, fun H2 s2 => ?_⟩
  have g := r.grow s2
  have hdone : ∀ t2, doneT x z t = (t2, ("done" : Str)) → ∀ σ3 H3 Hd3, RS W (less H l) Hd3 H3 [.wd (some l) t2, .v (.tup (.str x :: sd z :: rest)), .v (sd z), .v .non, .no] σ3 → tS W false (sRet (eOp dRepS (eC (.str "done")) (eCall fInt1 (eCons (eUn dIsN (eVar 3)) eNil)))) { nx := fun _ H' => Q .non H', rt := Q } σ3 H3 := fun t2 e σ3 H3 Hd3 r3 => by
    refine ⟨_, _, _, _, r3, dn_end, ?_⟩
    rw [e] at k
    exact rt_end rfl rfl k
  have herr : ∀ (C : Addr) (bT bM : Bool) (w : Str), doneT x z t = (t, w) → ErrF W.K cP cM cB C bT bM → bT = !bM → w = (if bT then ("twice" : Str) else ("missing" : Str)) → PySem.W.exmOne W.K (.ref C) (.ref S) = some true → ∀ (D' : Ends), D'.rt = Q → ∀ H3 Hd3, RS W (less H l) Hd3 H3 [.wd (some l) t, .v (.tup (.str x :: sd z :: rest)), .v (sd z), .no, .no] σ' →
      wAs W.K (.ref S) 4 (tErr W.K cP cM cB (tSays 4 "missing" "twice")) (fun _ _ _ _ => False) D' (.ref C) none σ' H3 := fun C bT bM w e F hb hw hx D' hD H3 Hd3 r3 => by
    refine ⟨true, hx, fun _ q hq => ⟨C, bT, bM, rfl, rfl, F, ?_, hb, fun H4 s4 => ?_⟩, fun z => nomatch z⟩
    · rw [List.getElem?_set_self (by rw [r3.len]; exact (by decide : 4 < 5))]
    · rw [e] at k
      subst hw
      have := (rt_end (D' := D') (ρ' := [.wd (some l) t, .v (.tup (.str x :: sd z :: rest)), .v (sd z), .no, .no]) (d := .str (if bT then ("twice" : Str) else ("missing" : Str))) rfl rfl (by rw [hD]; exact k)) (.str (if bT then ("twice" : Str) else ("missing" : Str))) σ' H3 H4 Hd3 r3 s4 (.str _) (fun z => nomatch z)
      exact this
  by_cases hx : x = "put"
  · refine w_iteT (decide_eq_true hx) ?_
    by_cases hm : z ∈ toL t
    · have hd : doneT x z t = (t, ("twice" : Str)) := by unfold doneT; rw [if_pos hx, if_pos hm]
      have hg : fPut cP t [.int z.1, .int z.2.1, .int z.2.2] = some (.error cP) := by
        show (if Kept t ∧ Okay3 z then (if z ∈ toL t then _ else _) else none) = _
        rw [if_pos ⟨hk, hz⟩, if_pos hm]
      refine asg_reads (by decide) g rfl (a0 _) (a1 _) (a2 _) hg (fun t' d e => nomatch e) (fun C e H3 Hd3 r3 => ?_)
      cases e
      exact herr cP true false "twice" hd gP rfl rfl xP _ rfl H3 Hd3 r3
    · have hd : doneT x z t = (insT z t, ("done" : Str)) := by unfold doneT; rw [if_pos hx, if_neg hm]
      have hg : fPut cP t [.int z.1, .int z.2.1, .int z.2.2] = some (.ok (insT z t, .non)) := by
        show (if Kept t ∧ Okay3 z then (if z ∈ toL t then _ else _) else none) = _
        rw [if_pos ⟨hk, hz⟩, if_neg hm]
      refine asg_reads (by decide) g rfl (a0 _) (a1 _) (a2 _) hg (fun t' d e => ?_) (fun C e => nomatch e)
      cases e
      exact ⟨rfl, fun H3 Hd3 r3 => hdone _ hd _ H3 Hd3 r3⟩
  · refine w_iteF (decide_eq_false hx) ?_
    by_cases hm : z ∈ toL t
    · have hd : doneT x z t = (delT z t, ("done" : Str)) := by unfold doneT; rw [if_neg hx, if_pos hm]
      have hg : fTake cM t [.int z.1, .int z.2.1, .int z.2.2] = some (.ok (delT z t, .non)) := by
        show (if Kept t ∧ Okay3 z then (if z ∈ toL t then _ else _) else none) = _
        rw [if_pos ⟨hk, hz⟩, if_pos hm]
      refine asg_reads (by decide) g rfl (a0 _) (a1 _) (a2 _) hg (fun t' d e => ?_) (fun C e => nomatch e)
      cases e
      exact ⟨rfl, fun H3 Hd3 r3 => hdone _ hd _ H3 Hd3 r3⟩
    · have hd : doneT x z t = (t, ("missing" : Str)) := by unfold doneT; rw [if_neg hx, if_neg hm]
      have hg : fTake cM t [.int z.1, .int z.2.1, .int z.2.2] = some (.error cM) := by
        show (if Kept t ∧ Okay3 z then (if z ∈ toL t then _ else _) else none) = _
        rw [if_pos ⟨hk, hz⟩, if_neg hm]
      refine asg_reads (by decide) g rfl (a0 _) (a1 _) (a2 _) hg (fun t' d e => nomatch e) (fun C e H3 Hd3 r3 => ?_)
      cases e
      exact herr cM false true "missing" hd gM rfl rfl xM _ rfl H3 Hd3 r3
end
end
end Sp

set_option Elab.async false
set_option linter.all false
set_option maxRecDepth 100000
set_option maxHeartbeats 2000000
namespace Sp
open PySem L2
open Classical
noncomputable section
/-! ### for k, x in enumerate(xs), xs new -/
def enumL : Nat → List D → List D
  | _, [] => []
  | k, d :: r => .tup [.int (k : Nat), d] :: enumL (k + 1) r
theorem enumL_get : ∀ (ds : List D) (j k : Nat), (enumL j ds)[k]? = (ds[k]?).map fun d => D.tup [.int ((j + k : Nat) : Int), d]
  | [], _, _ => by simp [enumL]
  | d :: r, j, 0 => by simp [enumL]
  | d :: r, j, k + 1 => by
    rw [enumL, List.getElem?_cons_succ, enumL_get r (j + 1) k, List.getElem?_cons_succ, show j + 1 + k = j + (k + 1) by omega]
theorem enumL_len : ∀ (ds : List D) (j : Nat), (enumL j ds).length = ds.length
  | [], _ => rfl
  | d :: r, j => by rw [enumL, List.length_cons, List.length_cons, enumL_len r]
section
variable {X : Cx} {W : Wh} {fr fa : Bool} {ma : EM}
theorem for_turn2 {Hb Hd Hd' H : Hp} {ρ : SEnv} {σ : L2.St} {x : V} {d : D} {r : List D} {o : Out} {D' : Ends} {t : Tg} {body : SM} {P : L2.St → Hp → Prop} (hb : Same Hb Hd) (rs : RS W Hd Hd' H ρ σ) (h : Rp W Hd' x d) (e : forL t body (d :: r) ρ = some o) (k : OutOk W fr Hb D' o)
    (hP : ∀ ρ2 σ2 H2 Hd2, RS W Hd Hd2 H2 ρ2 σ2 → forL t body r ρ2 = some o → P σ2 H2) : t.g W.K x σ H fun σ2 H2 => tS W fr body { D' with nx := P, ct := P, bk := D'.nx } σ2 H2 := by
  rw [forL, Option.bind_eq_some_iff] at e
  obtain ⟨ρ1, e1, e⟩ := e
  rw [Option.bind_eq_some_iff] at e
  obtain ⟨o1, e2, e3⟩ := e
  refine Tg.of rs h e1 fun σ1 r1 => ⟨Hd, Hd', ρ1, o1, r1, e2, ?_⟩
  cases o1 with
  | nx ρ2 => exact fun σ2 H2 Hd2 r2 => hP ρ2 σ2 H2 Hd2 r2 e3
  | ct ρ2 => exact fun σ2 H2 Hd2 r2 => hP ρ2 σ2 H2 Hd2 r2 e3
  | bk ρ2 => cases e3; exact fun σ2 H2 Hd2 r2 => k σ2 H2 Hd2 (r2.base hb)
  | rt d ρ2 => cases e3; exact fun v σ2 H2 H3 Hd2 r2 s2 h2 f2 => k v σ2 H2 H3 Hd2 (r2.base hb) s2 h2 fun z => (f2 z).back hb
theorem for_enum {Hb Hd H : Hp} {ρ : SEnv} {σ : L2.St} {a : Addr} {xs : List V} {ds : List D} {o : Out} {D' : Ends} {t : Tg} {body : SM} (rs : RS W Hb Hd H ρ σ) (h1 : Hd a = some (.lst xs)) (h2 : Rps W Hd xs ds) (e : forL t body (enumL 0 ds) ρ = some o) (k : OutOk W fr Hb D' o) :
    kFor (t.g W.K) (tS W fr body) D' σ (Ite W.K a) H := by
  refine ⟨fun i m σ H => m = xs.length - i ∧ i ≤ xs.length ∧ ∃ Hd' ρ', RS W Hd Hd' H ρ' σ ∧ forL t body ((enumL 0 ds).drop i) ρ' = some o, ⟨xs.length, by simp, Nat.zero_le _, Hd, ρ, rs.up, e⟩, ?_⟩
  rintro i m σ H ⟨rfl, hi, Hd', ρ', r', e'⟩
  have q : SqL W.K H a xs := SqL.of (r'.same _ _ h1)
  by_cases hlt : i < xs.length
  · refine .inr ⟨⟨xs, xs[i], q, by simp [hlt]⟩, fun σ' H' => i + 1 ≤ xs.length ∧ ∃ Hd' ρ', RS W Hd Hd' H' ρ' σ' ∧ forL t body ((enumL 0 ds).drop (i + 1)) ρ' = some o, fun σ' H' p' => ⟨xs.length - (i + 1), by omega, rfl, p'⟩, fun x H' y => ?_⟩
    obtain ⟨T, z, rfl, nT, rfl, hz⟩ := y
    have ez := hz xs q
    obtain ⟨d, e1, h3⟩ := h2.drop_get ez
    have hil : i < ds.length := by rw [← h2.length]; exact hlt
    have hg : (enumL 0 ds)[i]? = some (.tup [.int (i : Nat), d]) := by
      rw [enumL_get, Nat.zero_add]
      have : ds[i]? = some d := by
        have := congrArg List.head? e1
        rw [List.head?_drop] at this
        exact this
      rw [this]; rfl
    obtain ⟨hgl, hge⟩ := List.getElem?_eq_some_iff.mp hg
    rw [List.drop_eq_getElem_cons hgl, hge] at e'
    have s1 : Same H (upd H T (.tup [.int (i : Nat), z])) := same_new nT
    have g := r'.grow s1
    have kp := r'.keepCut s1
    refine for_turn2 rs.b g (.tup (kp T _ upd_same mu_tup) (.cons (.int _) (.cons (h3.mono g.b) .nil))) e' k fun ρ2 σ2 H2 Hd2 r2 e2 => ⟨hlt, Hd2, ρ2, ?_, e2⟩
    exact r2
  · have e2 : i = xs.length := by omega
    subst e2
    rw [h2.length] at e'
    rw [List.drop_of_length_le (by rw [enumL_len]; exact Nat.le_refl _)] at e'
    cases e'
    exact .inl ⟨⟨xs, q, Nat.le_refl _⟩, k σ H Hd' (r'.base rs.b)⟩
def sForE (t : Tg) (m : EM) (body : SM) : SM := fun ρ => (m (full ρ)).bind fun d => match d with
  | .lst ds => if D.imms ds = true then forL t body (enumL 0 ds) ρ else none
  | _ => none
theorem es_forE (hK : X.K = W.K) (t : Tg) {body : SM} {st : Stmt} (h : PS X st (tFor (iEnum X.K (tCons (tX W true ma) tNil)) (t.g X.K) (tS W fr body))) : ES X W fr st (sForE t ma body) := by
  rw [hK] at h
  refine PS.imp h fun D' σ H ⟨Hb, Hd, ρ, o, r, e, k⟩ => ?_
  unfold sForE at e
  rw [Option.bind_eq_some_iff] at e
  obtain ⟨d, e1, e2⟩ := e
  cases d with
  | lst ds =>
    by_cases c : D.imms ds = true
    · have e3 : (if D.imms ds = true then forL t body (enumL 0 ds) ρ else none) = some o := e2
      rw [if_pos c] at e3
      refine ⟨full ρ, _, r.re, e1, fun v H1 s1 r1 f1 => ?_⟩
      have r2 := r.newF s1 r1 (f1 rfl) c
      cases r1 with | lst h1 h2 =>
      cases r2 with | lst h3 h4 =>
      exact ⟨_, _, rfl, SqL.of h1, for_enum (r.grow s1) h3 h4 e3 k⟩
    · have e3 : (if D.imms ds = true then forL t body (enumL 0 ds) ρ else none) = some o := e2
      rw [if_neg c] at e3
      cases e3
  | _ => cases e2
theorem gv_forE {ρ : SEnv} {P : Out → Prop} {tg : Tg} {body : SM} : Gv (sForE tg ma body ρ) P ↔ Ge (ma (full ρ)) fun d => ∃ ds, d = .lst ds ∧ D.imms ds = true ∧ Gv (forL tg body (enumL 0 ds) ρ) P := by
  unfold sForE Ge
  cases ma (full ρ) with
  | none => simp [Gv]
  | some d =>
    cases d with
    | lst ds =>
      by_cases c : D.imms ds = true
      · simp [c]
      · simp [c, Gv]
    | _ => simp [Gv]
end
end
end Sp

set_option Elab.async false
set_option linter.all false
set_option maxRecDepth 100000
namespace Sp
open PySem L2
open Classical
noncomputable section
def b_law_k06 : SM := (sSeq (sNewW 1)
    (sSeq (sSetW 2 (eLst eNil))
    (sSeq (sIf (bOr (bNot (bVal (eCall m_law_list_is (eCons (eMeth m_Wood_listed (eVar 1) eNil) (eCons (eLst eNil) eNil))))) (bOr (bNot (bVal (eCall m_law_is_int (eCons (eMeth m_Wood_total (eVar 1) eNil) eNil)))) (bVal (eOp dNe (eMeth m_Wood_total (eVar 1) eNil) (eC (.int 0))))))
      (sRet (eC (.bl false)))
      sNext)
    (sSeq (sForE (.many [3, 4]) (eCall m_law_deeds (eCons (eVar 0) (eCons (eC (.int 0)) (eCons (eCall m_law_big (eCons (eCall m_law_at (eCons (eVar 0) (eCons (eC (.int 0)) eNil))) eNil)) eNil))))
      (sSeq (sIf (bVal (eOp dNe (eMeth m_Wood_keeps (eVar 1) (eCons (eOp dIx (eOp dIx (eVar 4) (eC (.int 1))) (eC (.int 0))) (eCons (eOp dIx (eOp dIx (eVar 4) (eC (.int 1))) (eC (.int 1))) (eCons (eOp dIx (eOp dIx (eVar 4) (eC (.int 1))) (eC (.int 2))) eNil)))) (eOp dIn (eOp dIx (eVar 4) (eC (.int 1))) (eVar 2))))
        (sRet (eC (.bl false)))
        sNext)
      (sSeq (sIfNe 1 fDone (eVar 4) (eOp dIx (eVar 4) (eC (.int 2)))
        (sRet (eC (.bl false)))
        sNext)
      (sSeq (sSetW 2 (eCall m_law_behind (eCons (eVar 2) (eCons (eVar 4) eNil))))
      (sSeq (sIf (bAnd (bVal (eOp dEq (eOp dMod (eVar 3) (eC (.int 10))) (eC (.int 3)))) (bOr (bVal (eOp dNe (eMeth m_Wood_listed (eVar 1) eNil) (eVar 2))) (bVal (eOp dNe (eMeth m_Wood_total (eVar 1) eNil) (eCall fLen (eCons (eVar 2) eNil))))))
        (sRet (eC (.bl false)))
        sNext)
      (sSeq (sSet 5 (eMeth m_Wood_keeps (eVar 1) (eCons (eOp dIx (eOp dIx (eVar 4) (eC (.int 1))) (eC (.int 0))) (eCons (eOp dIx (eOp dIx (eVar 4) (eC (.int 1))) (eC (.int 1))) (eCons (eOp dIx (eOp dIx (eVar 4) (eC (.int 1))) (eC (.int 2))) eNil)))))
      (sIf (bOr (bNot (bVal (eUn (dIsi "bool") (eVar 5)))) (bVal (eOp dNe (eVar 5) (eOp dEq (eOp dIx (eVar 4) (eC (.int 0))) (eC (.str "put"))))))
        (sRet (eC (.bl false)))
        sNext)))))))
    (sSeq (sSet 6 (eMeth m_Wood_total (eVar 1) eNil))
    (sSeq (sOwn 7 (eMeth m_Wood_listed (eVar 1) eNil))
    (sSeq (sIf (bOr (bNot (bVal (eCall m_law_list_is (eCons (eVar 7) (eCons (eVar 2) eNil))))) (bOr (bNot (bVal (eCall m_law_is_int (eCons (eVar 6) eNil)))) (bVal (eOp dNe (eVar 6) (eCall fLen (eCons (eVar 2) eNil))))))
      (sRet (eC (.bl false)))
      sNext)
    (sSeq (sApp 7 (eTup (eCons (eC (.int 0)) (eCons (eC (.int 0)) (eCons (eC (.int 0)) eNil)))))
    (sSeq (sForF (.one 8) (eOp dCat (eLcR rng1 3 (eCons (eC (.int 4)) eNil) bYes (eCall m_law_made (eCons (eOp dAdd (eOp dMul (eCall m_law_at (eCons (eVar 0) (eCons (eVar 3) eNil))) (eC (.int 69621))) (eVar 3)) eNil))) (eVar 2))
      (sIf (bVal (eOp dNe (eMeth m_Wood_keeps (eVar 1) (eCons (eOp dIx (eVar 8) (eC (.int 0))) (eCons (eOp dIx (eVar 8) (eC (.int 1))) (eCons (eOp dIx (eVar 8) (eC (.int 2))) eNil)))) (eOp dIn (eVar 8) (eVar 2))))
        (sRet (eC (.bl false)))
        sNext))
    (sRet (eAnd (eCall m_law_list_is (eCons (eMeth m_Wood_listed (eVar 1) eNil) (eCons (eVar 2) eNil))) (eOp dEq (eVar 7) (eOp dCat (eVar 2) (eLst (eCons (eTup (eCons (eC (.int 0)) (eCons (eC (.int 0)) (eCons (eC (.int 0)) eNil)))) eNil)))))))))))))))
def m_law_k06 : List D → Option D := mDef 1 9 b_law_k06
end
end Sp

set_option Elab.async false
set_option linter.all false
set_option maxRecDepth 100000
set_option maxHeartbeats 2000000
namespace Sp
open PySem L2
open Classical
noncomputable section
local macro_rules | `(tactic| walk_at "ev") => `(tactic| try simp only [gv_next, gv_brk, gv_cnt, gv_retN, gv_seq, nx_nx, nx_rt, nx_bk, nx_ct, gv_set, gv_setF, gv_own, gv_ret, gv_drop, gv_retO, gv_if, gv_app, gv_unp, gv_pop, gv_put, gv_par, gv_forF, gv_forN, gv_forT, gv_forR,
  ge_var, ge_c, ge_op, ge_un, gl_nil, gl_cons, ge_call, ge_meth, ge_tup, ge_lst, ge_ii, ge_sl, go_none, go_int, gb_val, gb_truth, gb_and, gb_or, gb_not, gb_yes, ge_and, ge_or, ge_if, ge_chain, ge_some, gb_some, gl_some, go_some, ge_guard, ge_lc, ge_lcT, ge_lcR, ge_eqI, ge_neI, ge_eqB, ge_neB,
  frm, full, SV.full, gt, sgt, setAll, Tg.put, List.map, List.replicate, List.set, List.length_cons, List.length_nil, List.length_append, List.length_map, List.append_nil, List.nil_append, List.cons_append, Nat.sub_self, Nat.reduceAdd, Nat.reduceSub, Nat.zero_add, Nat.add_zero,
  noOwn, List.all_cons, List.all_nil, SV.free, D.imm, D.imms, imm_sd, imms_sd, imm_tupI, Bool.and_true, Bool.true_and, Bool.and_self, Bool.false_and, Bool.and_false, true_or, or_true, or_self, false_or, or_false, true_and, and_true, if_true, if_false, Bool.false_eq_true,
  D.int.injEq, D.bl.injEq, D.lst.injEq, D.tup.injEq, D.str.injEq, D.box.injEq, D.wood.injEq, SV.v.injEq, SV.own.injEq, Option.some.injEq, exists_eq_left', exists_eq_left, exists_and_left, reduceCtorEq, false_and, and_false, exists_false,
  fLen_lst, fLen_tup, fLen_scr, fLen_sd, fMax2_ii, fMin2_ii, fInt1_i, fInt1_b, fListOf_lst, fSorted_sd, fSum_i, dIx_sd0, dIx_sd1, dIx_sd2, dIx_lst, dIx_tup, dIx_scr, atI_0, atI_1, atI_2, atI_3, dSl_lst, dSl_scr, dCat_ll, dRep_l, dNot_b, dNeg_i, dNotBl_b, dNotBl_i, dNotBl_n, dNotBl_s, dNotBl_t, dNotBl_l, dIsN_non, dIsN_int, dIsN_lst, dNotN_non, dNotN_lst, dIsN_nil, dIsN_node, dNotN_nil, dNotN_node, isi_int_non, isi_int_bl, isi_int_int, isi_int_str, isi_int_tup, isi_int_lst, isi_int_sd, isi_bool_non, isi_bool_bl, isi_bool_int, isi_bool_str, isi_bool_tup, isi_bool_lst, isi_bool_sd, isi_tuple_non, isi_tuple_bl, isi_tuple_int, isi_tuple_str, isi_tuple_tup, isi_tuple_lst, isi_tuple_sd, isi_list_non, isi_list_bl, isi_list_int, isi_list_str, isi_list_tup, isi_list_lst, isi_list_sd, tyi_non, tyi_bl, tyi_int, tyi_str, tyi_tup, tyi_lst, ge_eqT, ge_neT, ge_eqS, ge_neS, ge_inS, ge_ninS, ge_eqLS, ge_neLS, Option.map_some, Bool.not_true, Bool.not_false, Bool.not_not, decide_eq_true_eq, decide_eq_false_iff_not, Bool.not_eq_true', Bool.not_eq_false', Bool.not_eq_true, decide_true, decide_false,
  Int.reduceLT, Nat.reduceLT, Int.reduceLE, Nat.reduceLeDiff, sizeLine_eq, and_self, ite_self, not_false_eq_true, not_true_eq_false, implies_true, imp_self, forall_const, true_implies])
local macro_rules | `(tactic| walk_at "st") => `(tactic| try simp only [gv_next, gv_brk, gv_cnt, gv_retN, gv_seq, nx_nx, nx_rt, nx_bk, nx_ct, gv_set, gv_setF, gv_own, gv_ret, gv_drop, gv_retO, gv_app, gv_unp, gv_pop, gv_put, gv_par, gv_forF, gv_forN, gv_forT, gv_forR,
  ge_var, ge_c, ge_op, ge_un, gl_nil, gl_cons, ge_call, ge_meth, ge_tup, ge_lst, ge_ii, ge_sl, go_none, go_int, gb_val, gb_truth, gb_and, gb_or, gb_not, gb_yes, ge_and, ge_or, ge_if, ge_chain, ge_some, gb_some, gl_some, go_some, ge_guard, ge_lc, ge_lcT, ge_lcR, ge_eqI, ge_neI, ge_eqB, ge_neB,
  frm, full, SV.full, gt, sgt, setAll, Tg.put, List.map, List.replicate, List.set, List.length_cons, List.length_nil, List.length_append, List.length_map, List.append_nil, List.nil_append, List.cons_append, Nat.sub_self, Nat.reduceAdd, Nat.reduceSub, Nat.zero_add, Nat.add_zero,
  noOwn, List.all_cons, List.all_nil, SV.free, D.imm, D.imms, imm_sd, imms_sd, imm_tupI, Bool.and_true, Bool.true_and, Bool.and_self, Bool.false_and, Bool.and_false, true_or, or_true, or_self, false_or, or_false, true_and, and_true, if_true, if_false, Bool.false_eq_true,
  D.int.injEq, D.bl.injEq, D.lst.injEq, D.tup.injEq, D.str.injEq, D.box.injEq, D.wood.injEq, SV.v.injEq, SV.own.injEq, Option.some.injEq, exists_eq_left', exists_eq_left, exists_and_left, reduceCtorEq, false_and, and_false, exists_false,
  fLen_lst, fLen_tup, fLen_scr, fLen_sd, fMax2_ii, fMin2_ii, fInt1_i, fInt1_b, fListOf_lst, fSorted_sd, fSum_i, dIx_sd0, dIx_sd1, dIx_sd2, dIx_lst, dIx_tup, dIx_scr, atI_0, atI_1, atI_2, atI_3, dSl_lst, dSl_scr, dCat_ll, dRep_l, dNot_b, dNeg_i, dNotBl_b, dNotBl_i, dNotBl_n, dNotBl_s, dNotBl_t, dNotBl_l, dIsN_non, dIsN_int, dIsN_lst, dNotN_non, dNotN_lst, dIsN_nil, dIsN_node, dNotN_nil, dNotN_node, isi_int_non, isi_int_bl, isi_int_int, isi_int_str, isi_int_tup, isi_int_lst, isi_int_sd, isi_bool_non, isi_bool_bl, isi_bool_int, isi_bool_str, isi_bool_tup, isi_bool_lst, isi_bool_sd, isi_tuple_non, isi_tuple_bl, isi_tuple_int, isi_tuple_str, isi_tuple_tup, isi_tuple_lst, isi_tuple_sd, isi_list_non, isi_list_bl, isi_list_int, isi_list_str, isi_list_tup, isi_list_lst, isi_list_sd, tyi_non, tyi_bl, tyi_int, tyi_str, tyi_tup, tyi_lst, ge_eqT, ge_neT, ge_eqS, ge_neS, ge_inS, ge_ninS, ge_eqLS, ge_neLS, Option.map_some, Bool.not_true, Bool.not_false, Bool.not_not, decide_eq_true_eq, decide_eq_false_iff_not, Bool.not_eq_true', Bool.not_eq_false', Bool.not_eq_true, decide_true, decide_false,
  Int.reduceLT, Nat.reduceLT, Int.reduceLE, Nat.reduceLeDiff, sizeLine_eq, and_self, ite_self, not_false_eq_true, not_true_eq_false, implies_true, imp_self, forall_const, true_implies])

local macro_rules | `(tactic| walk_at "wx") => `(tactic| (walk_at "ev"; repeat (simp only [gv_setW, gv_newW, pd_0, pd_1, bd_0, bd_1, bd_2, bd_3, dTop_w, nw_sds, nw_dds, noLst, noL_v, noL_wd, noL_no, List.all_cons, List.all_nil, Bool.and_self, Bool.and_true, Bool.true_and, true_and, and_true]; walk_at "ev")))

theorem ok_tw_s : PyData.strOk "twice" = true := by decide +kernel
theorem ok_mi_s : PyData.strOk "missing" = true := by decide +kernel
theorem ok_tk_s : PyData.strOk "take" = true := by decide +kernel
theorem word_ok {S : List S3} {e : Deed} (w : wordOk S e) : PyData.strOk e.1 = true ∧ PyData.strOk e.2.2 = true := by
  rcases w.2 with ⟨h1, h2⟩ | ⟨h1, h2⟩ <;> rw [h1, h2] <;> split <;> exact ⟨by decide +kernel, by decide +kernel⟩
theorem done_same {x : Str} {z : S3} {y : Str} {t : T} : (doneT x z t).1 = (didT x z y t).1 := by
  unfold doneT didT
  split <;> split <;> rfl
theorem done_word {S : List S3} {e : Deed} {t : T} (w : wordOk S e) (hS : ∀ z, z ∈ toL t ↔ z ∈ S) : (doneT e.1 e.2.1 t).2 = e.2.2 := by
  obtain ⟨x, z, y⟩ := e
  obtain ⟨hz, ⟨hx, hy⟩ | ⟨hx, hy⟩⟩ := w
  · simp only at hx hy ⊢
    subst hx
    unfold doneT
    rw [if_pos rfl, hy]
    by_cases hm : z ∈ S
    · rw [if_pos hm, if_pos ((hS z).mpr hm)]
    · rw [if_neg hm, if_neg (fun h => hm ((hS z).mp h))]
  · simp only at hx hy ⊢
    subst hx
    unfold doneT
    rw [if_neg s_tp, hy]
    by_cases hm : z ∈ S
    · rw [if_pos hm, if_pos ((hS z).mpr hm)]
    · rw [if_neg hm, if_neg (fun h => hm ((hS z).mp h))]
theorem step_in {S : List S3} {e : Deed} (w : wordOk S e) : e.2.1 ∈ stepS S e ↔ e.1 = "put" := by
  unfold stepS
  rcases w.2 with ⟨h1, h2⟩ | ⟨h1, h2⟩
  · rw [if_pos h1]
    refine ⟨fun _ => h1, fun _ => ?_⟩
    split
    · assumption
    · exact List.mem_append_right _ (List.mem_singleton_self _)
  · rw [h1, if_neg s_tp]
    refine ⟨fun h => ?_, fun h => absurd h s_tp⟩
    have := (List.mem_filter.mp h).2
    simp at this
theorem At.stepD {ds : List Deed} {k : Nat} {t : T} {S : List S3} (R : Runs ds S) (hk : k < ds.length) (h8 : k < 800) (h : At ds k t) : ∃ t', fDone t [dd ds[k]] = some (.ok (t', .str ds[k].2.2)) ∧ At ds (k + 1) t' ∧ m_law_behind [.lst ((toL t).map sd), dd ds[k]] = some (.lst ((toL t').map sd)) ∧
    Okay3 ds[k].2.1 ∧ PyData.strOk ds[k].1 = true ∧ PyData.strOk ds[k].2.2 = true ∧ (ds[k].2.1 ∈ toL t' ↔ ds[k].1 = "put") := by
  obtain ⟨t', h1, h2, h3, S1, w, hS, hS'⟩ := h.step R hk h8
  obtain ⟨sx, sy⟩ := word_ok w
  refine ⟨t', ?_, h2, h3, w.1, sx, sy, by rw [hS', step_in w]⟩
  have kt := h.kept (by omega)
  unfold dd at h1 ⊢
  rw [fDo_deed kt w.1 sx sy] at h1
  have e1 : (didT ds[k].1 ds[k].2.1 ds[k].2.2 t).1 = t' := by
    have h1' := Except.ok.inj (Option.some.inj h1)
    exact (Prod.mk.inj h1').1
  have := fDone_deed (rest := [.str ds[k].2.2]) kt w.1 sx
  rw [done_word w hS, done_same (y := ds[k].2.2), e1] at this
  exact this
theorem dd_0 {e : Deed} : dIx (dd e) (.int 0) = some (.str e.1) := rfl
theorem dd_1 {e : Deed} : dIx (dd e) (.int 1) = some (sd e.2.1) := rfl
theorem dd_2 {e : Deed} : dIx (dd e) (.int 2) = some (.str e.2.2) := rfl
theorem ge_keeps {t : T} {z : S3} {P : D → Prop} (k : Kept t) (hz : Okay3 z) : Ge (m_Wood_keeps [.wood t, .int z.1, .int z.2.1, .int z.2.2]) P ↔ P (.bl (decide (z ∈ toL t))) := by rw [p_keeps k hz]; exact ge_some
theorem ge_listed {t : T} {P : D → Prop} (k : Kept t) : Ge (m_Wood_listed [.wood t]) P ↔ P (.lst ((toL t).map sd)) := by rw [p_listed k]; exact ge_some
theorem ge_total {t : T} {P : D → Prop} (k : Kept t) : Ge (m_Wood_total [.wood t]) P ↔ P (.int (toL t).length) := by rw [p_total k]; exact ge_some
theorem true_k06 {ns : List Int} (hl : ns.length ≤ 63) (hB : ∀ z ∈ ns, Builtin.Int.intBits z ≤ 1048576) : m_law_k06 [.scr ns] = some (.bl true) := by
  refine def_gv rfl ?_
  unfold b_law_k06
  have hb0 := cell_bits2 hB 0
  have hbig : BW 2000000 (cell ns 0) := hb0.mono (by decide)
  have K0 : Kept .nil := (At.zero []).kept (by decide)
  have el0 : m_law_list_is [D.lst [], D.lst []] = some (.bl true) := by
    have := p_list_isS (xs := []) (ys := []) (by decide) (by decide)
    simpa using this
  walk_at "wx"
  refine ⟨rfl, ?_⟩
  rw [ge_listed K0]
  show Ge (m_law_list_is [D.lst [], D.lst []]) _
  rw [el0]
  walk_at "wx"
  rw [ge_total K0]
  walk_at "wx"
  simp only [ge_is_int]
  walk_at "wx"
  rw [ge_total K0]
  walk_at "wx"
  rw [if_neg (by decide), gv_forE]
  walk_at "wx"
  rw [ge_at (by decide) hl]
  walk_at "wx"
  rw [p_big hbig]
  walk_at "wx"
  obtain ⟨d, ed, ds, S, rfl, hdl, hR⟩ := p_deeds (i := 0) (by decide) hl hB (bigL_nd (cell ns 0)) bigL_ok (bigL_len _)
  have hbl := bigL_len (cell ns 0)
  have ed' : m_law_deeds [D.scr ns, D.int 0, D.lst (List.map sd (bigL (cell ns 0)))] = some (D.lst (ds.map dd)) := ed
  rw [ed']
  walk_at "wx"
  refine ⟨imms_dd _, ?_⟩
  refine gv_for (fun k ρ => ∃ t a3 a4 a5, ρ = [SV.v (.scr ns), .wd none t, .v (.lst ((toL t).map sd)), a3, a4, a5, .no, .no, .no] ∧ a3.noL = true ∧ a4.noL = true ∧ a5.noL = true ∧ At ds k t) ⟨.nil, _, _, _, rfl, rfl, rfl, rfl, At.zero ds⟩ (fun k x ρ hk ⟨t, a3, a4, a5, eq, n3, n4, n5, hA⟩ => ?_) (fun ρ ⟨t, a3, a4, a5, eq, n3, n4, n5, hA⟩ => ?_)
  · subst eq
    rw [enumL_get, Option.map_eq_some_iff] at hk
    obtain ⟨d, hd, rfl⟩ := hk
    rw [List.getElem?_map, Option.map_eq_some_iff] at hd
    obtain ⟨e, he, rfl⟩ := hd
    obtain ⟨hjl, hee⟩ := List.getElem?_eq_some_iff.mp he
    rw [Nat.zero_add]
    refine ⟨_, rfl, ?_⟩
    have hal := hA.len
    obtain ⟨t', h1, h2, h3, hz, sx, sy, hin⟩ := hA.stepD hR hjl (by omega)
    rw [hee] at h1 h3 hz sx sy hin
    have kt := hA.kept (by omega)
    have kt' := h2.kept (by omega)
    have hal' := h2.len
    walk_at "wx"
    simp only [dd_0, dd_1, dd_2]
    walk_at "wx"
    rw [ge_keeps kt hz]
    walk_at "wx"
    have hne : dNe (.str e.2.2) (.str e.2.2) = some (.bl false) := by
      have := (ge_neStr (P := fun d => d = .bl false) sy sy).mpr (by simp)
      obtain ⟨d, e1, rfl⟩ := this
      exact e1
    rw [if_neg (by simp)]
    refine gv_ifNe (c := false) (t' := t') (w := .str e.2.2) rfl ⟨_, rfl, rfl, h1⟩ ?_ ?_
    · walk_at "wx"
      simp only [dd_2, ge_some]
      exact hne
    walk_at "wx"
    rw [h3]
    walk_at "wx"
    have hdec : decide (e.2.1 ∈ toL t') = decide (e.1 = ("put" : Str)) := decide_eq_decide.mpr hin
    refine ⟨n5, ?_⟩
    by_cases ck : (k : Int) % 10 = 3
    · rw [if_pos ck, ge_listed kt']
      walk_at "wx"
      rw [ge_total kt']
      walk_at "wx"
      simp only [dd_0, dd_1]
      walk_at "wx"
      rw [ge_keeps kt' hz]
      walk_at "wx"
      rw [ge_eqStr sx ok_put_s]
      walk_at "wx"
      rw [hdec, if_neg (by simp)]
      exact ⟨t', _, _, _, rfl, rfl, rfl, rfl, h2⟩
    · rw [if_neg ck]
      simp only [dd_0, dd_1]
      walk_at "wx"
      rw [ge_keeps kt' hz]
      walk_at "wx"
      rw [ge_eqStr sx ok_put_s]
      walk_at "wx"
      rw [hdec, if_neg (by simp)]
      exact ⟨t', _, _, _, rfl, rfl, rfl, rfl, h2⟩
  · subst eq
    rw [enumL_len, List.length_map] at hA
    have hal := hA.len
    have kt := hA.kept (by omega)
    walk_at "wx"
    rw [ge_total kt]
    walk_at "wx"
    rw [ge_listed kt]
    walk_at "wx"
    rw [ge_list_isS (by omega) (by omega)]
    walk_at "wx"
    simp only [ge_is_int]
    walk_at "wx"
    refine ⟨by omega, _, rng1_nat (n := 4) (by omega), by simp, ?_⟩
    rw [map_dint]
    refine gl_lc (fun k : Nat => D.int k) (fun k => sd (made (cell ns k * 69621 + k))) (fun _ => true) (fun k hk => ⟨gb_yes.mpr rfl, fun _ => ⟨?_, rfl⟩⟩) ?_
    · have hk' := List.mem_range.mp hk
      walk_at "wx"
      rw [ge_at (by omega) hl]
      walk_at "wx"
      refine ⟨mulC (cell_bits2 hB _) (by decide), ?_⟩
      rw [ge_made (seedB (cell_bits2 hB _) (by decide) (by omega))]
    rw [filter_true]
    have em : (List.range 4).map (fun k : Nat => sd (made (cell ns k * 69621 + k))) = ((List.range 4).map (fun k : Nat => made (cell ns k * 69621 + k))).map sd := by rw [List.map_map]; rfl
    rw [em, ← List.map_append]
    have okL : ∀ z ∈ (List.range 4).map (fun k : Nat => made (cell ns k * 69621 + k)) ++ toL t, Okay3 z := fun z hz => by
      rcases List.mem_append.mp hz with h | h
      · obtain ⟨k, _, rfl⟩ := List.mem_map.mp h
        exact made_okay _
      · exact hA.ok z h
    have hll : ((List.range 4).map (fun k : Nat => made (cell ns k * 69621 + k))).length = 4 := by simp
    generalize (List.range 4).map (fun k : Nat => made (cell ns k * 69621 + k)) = ms at *
    walk_at "wx"
    refine ⟨by omega, gv_for (fun _ ρ => ∃ a8 : SV, ρ = [SV.v (.scr ns), .wd none t, .v (.lst ((toL t).map sd)), a3, a4, a5, .v (.int (toL t).length), .own ((toL t).map sd ++ [.tup [.int 0, .int 0, .int 0]]), a8]) ⟨_, rfl⟩ (fun k x ρ hk ⟨a8, eq⟩ => ?_) (fun ρ ⟨a8, eq⟩ => ?_)⟩
    · subst eq
      rw [List.getElem?_map, Option.map_eq_some_iff] at hk
      obtain ⟨z, hz, rfl⟩ := hk
      have oz := okL z (List.mem_of_getElem? hz)
      refine ⟨_, rfl, ?_⟩
      walk_at "wx"
      rw [ge_keeps kt oz]
      walk_at "wx"
      rw [if_neg (by simp)]
      exact ⟨_, rfl⟩
    · subst eq
      walk_at "wx"
      rw [ge_listed kt]
      walk_at "wx"
      rw [ge_list_isS (by omega) (by omega)]
      walk_at "wx"
      refine ⟨by omega, ?_⟩
      simp only [z000]
      walk_at "wx"
end
end Sp

set_option Elab.async false
set_option linter.all false
set_option maxRecDepth 100000
namespace Sp
open PySem L2
open Classical
noncomputable section
theorem kit_self {K : PySem.W.Frag} {D : Addr} : PySem.W.kitOne K (.ref D) (.ref D) = some true := by
  unfold PySem.W.kitOne
  rw [if_pos (beq_iff_eq.mpr rfl)]
theorem kit_ref {K : PySem.W.Frag} {D C : Addr} {b : Bool} (hd : PySem.W.hasDictIn K C = true) (ty : PySem.W.typeIn K (.ref C) = some (.type "type")) (s : PySem.W.subIn K (.ref D) (.ref C) = some b) (ne : D ≠ C) : PySem.W.kitOne K (.ref D) (.ref C) = some b := by
  obtain ⟨cd, hc, _⟩ := PySem.W.any_some hd
  have e2 : ((PySem.W.clsIn K C).isSome && PySem.W.typeIn K (.ref C) == some (.type "type")) = true := by rw [hc, ty] <;> rfl
  unfold PySem.W.kitOne
  rw [if_neg (fun h => ne (by have := beq_iff_eq.mp h; cases this; rfl))]
  show (if ((PySem.W.clsIn K C).isSome && PySem.W.typeIn K (.ref C) == some (.type "type")) = true then PySem.W.subIn K (.ref D) (.ref C) else none) = some b
  rw [if_pos e2]
  exact s
theorem ne_sub {K : PySem.W.Frag} {D C : Addr} (s : PySem.W.subIn K (.ref D) (.ref C) = some false) (z : PySem.W.subIn K (.ref C) (.ref C) = some true) : D ≠ C := fun e => by
  subst e
  rw [s] at z
  cases z
theorem kit_VE {K : PySem.W.Frag} {D : Addr} (s : PySem.W.subIn K (.ref D) (.type "ValueError") = some true) : PySem.W.kitOne K (.ref D) (.type "ValueError") = some true := by
  unfold PySem.W.kitOne
  rw [if_neg (fun h => by have := beq_iff_eq.mp h; cases this)]
  show (if PySem.W.kitMeta "ValueError" = true then _ else none) = _
  rw [if_pos (by decide +kernel)]
  exact s
end
end Sp

set_option Elab.async false
set_option linter.all false
set_option maxRecDepth 100000
namespace Sp
open PySem L2
open Classical
noncomputable section
/-! ### the law's own end -/
def spLaw (K : PySem.W.Frag) : L2.Sp := fun vs H Q _ => ∃ (a : Addr) (ns : List Int), vs = [.ref a] ∧ SqL K H a (ns.map V.int) ∧ ns.length ≤ 63 ∧ (∀ z ∈ ns, Builtin.Int.intBits z ≤ 1048576) ∧ ∀ H', Q (.bl true) H'
theorem law_imp {P : Program} {w : World} {K : PySem.W.Frag} {mg : Str → Option Value} {base : Heap} {CX : CXT} {k : Nat} {fa : Addr} {fd : FuncData} {ps : List Str} {bC wC : Addr} {f : List D → Option D}
    (h : ∀ ns : List Int, ns.length ≤ 63 → (∀ z ∈ ns, Builtin.Int.intBits z ≤ 1048576) → f [.scr ns] = some (.bl true)) (F : FnOk P w K mg base CX k fa fd ps (spD ⟨K, bC, wC⟩ false f)) : FnOk P w K mg base CX k fa fd ps (spLaw K) :=
  F.imp fun vs H Q E ⟨a, ns, e, hS, hl, hB, q⟩ => ⟨[.scr ns], .bl true, by rw [e]; exact .cons (.scr hS) .nil, h ns hl hB, fun v H' _ r _ => by cases r; exact q H'⟩
end
end Sp

set_option Elab.async false
set_option linter.all false
set_option maxRecDepth 100000
set_option maxHeartbeats 4000000
namespace Sp
open PySem L2
open Classical
noncomputable section
def topS (i : Nat) : Stmt := PySem.Challenge.pw_spanforest_k06_kept_and_not.main.body.getD i (.Pass ⟨0, 0, 0, 0⟩)
structure Txt (K : PySem.W.Frag) (mg : Str → Option Value) (tB : Tok) (bC wC : Addr) : Prop where
  g_BEYOND : mg "_BEYOND" = some (.int 1000000000000000000000000000000000000000000000000000000000000 tB)
  z_ValueError : mg "ValueError" = none
  z_bool : mg "bool" = none
  z_enumerate : mg "enumerate" = none
  z_int : mg "int" = none
  z_isinstance : mg "isinstance" = none
  z_len : mg "len" = none
  z_list : mg "list" = none
  z_max : mg "max" = none
  z_min : mg "min" = none
  z_range : mg "range" = none
  z_sorted : mg "sorted" = none
  z_tuple : mg "tuple" = none
  z_type : mg "type" = none
  nf_stretch : NoAttr K bC "stretch"
  nf_left : NoAttr K bC "left"
  nf_right : NoAttr K bC "right"
  nf_tall : NoAttr K bC "tall"
  nf_reach : NoAttr K bC "reach"
  nf__top : NoAttr K wC "_top"
  cl_Box : Cls K bC
  cl_Wood : Cls K wC
  g_Box : mg "Box" = some (.ref bC)
  g_Wood : mg "Wood" = some (.ref wC)
section
variable {P : Program} {w : World} {K : PySem.W.Frag} {mg : Str → Option Value} {base : Heap} {tB : Tok} {bC wC : Addr}
abbrev s_tall_of : Stmt := topS 3
abbrev N_tall_of : List Str := ["box"]
abbrev pr_tall_of : List Str := ["box"]
theorem sc_tall_of : FnScope N_tall_of pr_tall_of (defScope s_tall_of) := ⟨rfl, rfl, rfl, by decide +kernel, rfl, by decide +kernel, by decide +kernel⟩
theorem ok_tall_of {f : Addr} {fd : FuncData} (F : Fun K "tall_of" "tall_of" s_tall_of f fd) (T : Txt K mg tB bC wC) : FnOk P w K mg base CX0 1 f fd pr_tall_of (spD ⟨K, bC, wC⟩ false m_tall_of) :=
  def_ok F sc_tall_of (by decide) (fun z => nomatch z) (fun cdv A outer s H E hr =>
    (es_cons (es_if (et_isN (ev_var 0))
      (es_one (es_ret ev_int))
      es_nil)
    (es_one (es_ret (ev_fldH T.cl_Box T.nf_tall (pe_fld (ev_var 0) rfl))))))
abbrev s_reach_over : Stmt := topS 4
abbrev N_reach_over : List Str := ["stretch", "left", "right", "reach", "part"]
abbrev pr_reach_over : List Str := ["stretch", "left", "right"]
theorem sc_reach_over : FnScope N_reach_over pr_reach_over (defScope s_reach_over) := ⟨rfl, rfl, rfl, by decide +kernel, rfl, by decide +kernel, by decide +kernel⟩
theorem ok_reach_over {f : Addr} {fd : FuncData} (F : Fun K "reach_over" "reach_over" s_reach_over f fd) (T : Txt K mg tB bC wC) : FnOk P w K mg base CX0 1 f fd pr_reach_over (spD ⟨K, bC, wC⟩ false m_reach_over) :=
  def_ok F sc_reach_over (by decide) (fun z => nomatch z) (fun cdv A outer s H E hr =>
    (es_cons (es_asg (g := gName 3) (ps_set (i := 3) sc_reach_over.nd rfl (Or.inl rfl) (ev_at rfl (ev_var 0) ev_int)))
    (es_cons (es_forT rfl (.one 4) (ps_for PassesOwn.never (by rfl) (pi_tup (ev_tup (ea_cons (ev_var 1) (ea_cons (ev_var 2) ea_nil)))) (pg_name (i := 4) sc_reach_over.nd rfl (.inl rfl)) 
      (es_one (es_if (et_notN (ev_var 4))
        (es_one (es_asg (g := gName 3) (ps_set (i := 3) sc_reach_over.nd rfl (Or.inl rfl) (ev_callB kMax2 (call_max2 rfl) (by rfl) T.z_max (by decide +kernel) (ea_cons (ev_var 3) (ea_cons (ev_fldM T.cl_Box T.nf_reach (pe_fld (ev_var 4) rfl)) ea_nil))))))
        es_nil))))
    (es_one (es_ret (ev_var 3))))))
abbrev s_Box___init__ : Stmt := inClass (topS 2) 0
abbrev N_Box___init__ : List Str := ["self", "stretch", "left", "right"]
abbrev pr_Box___init__ : List Str := ["self", "stretch", "left", "right"]
theorem sc_Box___init__ : FnScope N_Box___init__ pr_Box___init__ (defScope s_Box___init__) := ⟨rfl, rfl, rfl, by decide +kernel, rfl, by decide +kernel, by decide +kernel⟩
theorem ok_Box___init__ {f f0 f1 : Addr} {fd : FuncData} {fd0 fd1 : FuncData} (F : Fun K "__init__" "Box.__init__" s_Box___init__ f fd) (T : Txt K mg tB bC wC) (o_tall_of : Own P w K mg base CX0 1 "tall_of" f0 fd0 pr_tall_of (spD ⟨K, bC, wC⟩ false m_tall_of)) (o_reach_over : Own P w K mg base CX0 1 "reach_over" f1 fd1 pr_reach_over (spD ⟨K, bC, wC⟩ false m_reach_over)) : FnOk P w K mg base CX0 2 f fd pr_Box___init__ (spInit ⟨K, bC, wC⟩) :=
  F.ok sc_Box___init__ (fun vs H Q E h => spInit_len h) (fun cdv A outer s H vs Q E hr h =>
    ⟨_, pss_cons (ps_fld (pv 0) (pv 1) rfl) (pss_cons (ps_fld (pv 0) (pv 2) rfl) (pss_cons (ps_fld (pv 0) (pv 3) rfl) (pss_cons (ps_fld (pv 0) (ev_add ev_int (ev_callB kMax2 (call_max2 rfl) (by rfl) T.z_max (by decide +kernel) (ea_cons (ev_call o_tall_of.ok (hr.mono (by decide)) (by rfl) o_tall_of.gl o_tall_of.kp o_tall_of.b pass0 (ea_cons (ev_var 2) ea_nil)) (ea_cons (ev_call o_tall_of.ok (hr.mono (by decide)) (by rfl) o_tall_of.gl o_tall_of.kp o_tall_of.b pass0 (ea_cons (ev_var 3) ea_nil)) ea_nil)))) rfl) (pss_one (ps_fld (pv 0) (ev_call o_reach_over.ok (hr.mono (by decide)) (by rfl) o_reach_over.gl o_reach_over.kp o_reach_over.b pass0 (ea_cons (ev_var 1) (ea_cons (ev_var 2) (ea_cons (ev_var 3) ea_nil)))) rfl))))), (by rw [start_full (N := N_Box___init__) (spInit_len h)]; exact init_reads T.cl_Box T.nf_stretch T.nf_left T.nf_right T.nf_tall T.nf_reach init_tall init_reach h)⟩)
abbrev s_raised_left : Stmt := topS 5
abbrev N_raised_left : List Str := ["stretch", "left", "right", "middle", "lower_left"]
abbrev pr_raised_left : List Str := ["stretch", "left", "right"]
theorem sc_raised_left : FnScope N_raised_left pr_raised_left (defScope s_raised_left) := ⟨rfl, rfl, rfl, by decide +kernel, rfl, by decide +kernel, by decide +kernel⟩
theorem ok_raised_left {f f0 : Addr} {fd : FuncData} {fd0 : FuncData} {fb : Addr} {fdb : FuncData} (F : Fun K "raised_left" "raised_left" s_raised_left f fd) (T : Txt K mg tB bC wC) (o_tall_of : Own P w K mg base CX0 1 "tall_of" f0 fd0 pr_tall_of (spD ⟨K, bC, wC⟩ false m_tall_of)) (c_Box : OwnB P w K mg base bC wC 2 fb fdb pr_Box___init__) : FnOk P w K mg base CX0 4 f fd pr_raised_left (spD ⟨K, bC, wC⟩ false m_raised_left) :=
  def_ok F sc_raised_left (by decide) (fun z => nomatch z) (fun cdv A outer s H E hr =>
    (es_cons (es_if (et_ge (ev_call o_tall_of.ok (hr.mono (by decide)) (by rfl) o_tall_of.gl o_tall_of.kp o_tall_of.b pass0 (ea_cons (ev_fldL T.cl_Box T.nf_left (pe_fld (ev_var 1) rfl)) ea_nil)) (ev_call o_tall_of.ok (hr.mono (by decide)) (by rfl) o_tall_of.gl o_tall_of.kp o_tall_of.b pass0 (ea_cons (ev_fldR T.cl_Box T.nf_right (pe_fld (ev_var 1) rfl)) ea_nil)))
      (es_one (es_ret (ev_box (pe_make c_Box.cm c_Box.ok (hr.mono (by decide)) (by rfl) T.g_Box c_Box.b .nil pass0 (ea_cons (ev_fldS T.cl_Box T.nf_stretch (pe_fld (ev_var 1) rfl)) (ea_cons (ev_fldL T.cl_Box T.nf_left (pe_fld (ev_var 1) rfl)) (ea_cons (ev_box (pe_make c_Box.cm c_Box.ok (hr.mono (by decide)) (by rfl) T.g_Box c_Box.b .nil pass0 (ea_cons (ev_var 0) (ea_cons (ev_fldR T.cl_Box T.nf_right (pe_fld (ev_var 1) rfl)) (ea_cons (ev_var 2) ea_nil))))) ea_nil)))))))
      es_nil)
    (es_cons (es_asg (g := gName 3) (ps_set (i := 3) sc_raised_left.nd rfl (Or.inl rfl) (ev_fldR T.cl_Box T.nf_right (pe_fld (ev_var 1) rfl))))
    (es_cons (es_asg (g := gName 4) (ps_set (i := 4) sc_raised_left.nd rfl (Or.inl rfl) (ev_box (pe_make c_Box.cm c_Box.ok (hr.mono (by decide)) (by rfl) T.g_Box c_Box.b .nil pass0 (ea_cons (ev_fldS T.cl_Box T.nf_stretch (pe_fld (ev_var 1) rfl)) (ea_cons (ev_fldL T.cl_Box T.nf_left (pe_fld (ev_var 1) rfl)) (ea_cons (ev_fldL T.cl_Box T.nf_left (pe_fld (ev_var 3) rfl)) ea_nil)))))))
    (es_one (es_ret (ev_box (pe_make c_Box.cm c_Box.ok (hr.mono (by decide)) (by rfl) T.g_Box c_Box.b .nil pass0 (ea_cons (ev_fldS T.cl_Box T.nf_stretch (pe_fld (ev_var 3) rfl)) (ea_cons (ev_var 4) (ea_cons (ev_box (pe_make c_Box.cm c_Box.ok (hr.mono (by decide)) (by rfl) T.g_Box c_Box.b .nil pass0 (ea_cons (ev_var 0) (ea_cons (ev_fldR T.cl_Box T.nf_right (pe_fld (ev_var 3) rfl)) (ea_cons (ev_var 2) ea_nil))))) ea_nil)))))))))))
abbrev s_raised_right : Stmt := topS 6
abbrev N_raised_right : List Str := ["stretch", "left", "right", "middle", "lower_right"]
abbrev pr_raised_right : List Str := ["stretch", "left", "right"]
theorem sc_raised_right : FnScope N_raised_right pr_raised_right (defScope s_raised_right) := ⟨rfl, rfl, rfl, by decide +kernel, rfl, by decide +kernel, by decide +kernel⟩
theorem ok_raised_right {f f0 : Addr} {fd : FuncData} {fd0 : FuncData} {fb : Addr} {fdb : FuncData} (F : Fun K "raised_right" "raised_right" s_raised_right f fd) (T : Txt K mg tB bC wC) (o_tall_of : Own P w K mg base CX0 1 "tall_of" f0 fd0 pr_tall_of (spD ⟨K, bC, wC⟩ false m_tall_of)) (c_Box : OwnB P w K mg base bC wC 2 fb fdb pr_Box___init__) : FnOk P w K mg base CX0 4 f fd pr_raised_right (spD ⟨K, bC, wC⟩ false m_raised_right) :=
  def_ok F sc_raised_right (by decide) (fun z => nomatch z) (fun cdv A outer s H E hr =>
    (es_cons (es_if (et_ge (ev_call o_tall_of.ok (hr.mono (by decide)) (by rfl) o_tall_of.gl o_tall_of.kp o_tall_of.b pass0 (ea_cons (ev_fldR T.cl_Box T.nf_right (pe_fld (ev_var 2) rfl)) ea_nil)) (ev_call o_tall_of.ok (hr.mono (by decide)) (by rfl) o_tall_of.gl o_tall_of.kp o_tall_of.b pass0 (ea_cons (ev_fldL T.cl_Box T.nf_left (pe_fld (ev_var 2) rfl)) ea_nil)))
      (es_one (es_ret (ev_box (pe_make c_Box.cm c_Box.ok (hr.mono (by decide)) (by rfl) T.g_Box c_Box.b .nil pass0 (ea_cons (ev_fldS T.cl_Box T.nf_stretch (pe_fld (ev_var 2) rfl)) (ea_cons (ev_box (pe_make c_Box.cm c_Box.ok (hr.mono (by decide)) (by rfl) T.g_Box c_Box.b .nil pass0 (ea_cons (ev_var 0) (ea_cons (ev_var 1) (ea_cons (ev_fldL T.cl_Box T.nf_left (pe_fld (ev_var 2) rfl)) ea_nil))))) (ea_cons (ev_fldR T.cl_Box T.nf_right (pe_fld (ev_var 2) rfl)) ea_nil)))))))
      es_nil)
    (es_cons (es_asg (g := gName 3) (ps_set (i := 3) sc_raised_right.nd rfl (Or.inl rfl) (ev_fldL T.cl_Box T.nf_left (pe_fld (ev_var 2) rfl))))
    (es_cons (es_asg (g := gName 4) (ps_set (i := 4) sc_raised_right.nd rfl (Or.inl rfl) (ev_box (pe_make c_Box.cm c_Box.ok (hr.mono (by decide)) (by rfl) T.g_Box c_Box.b .nil pass0 (ea_cons (ev_fldS T.cl_Box T.nf_stretch (pe_fld (ev_var 2) rfl)) (ea_cons (ev_fldR T.cl_Box T.nf_right (pe_fld (ev_var 3) rfl)) (ea_cons (ev_fldR T.cl_Box T.nf_right (pe_fld (ev_var 2) rfl)) ea_nil)))))))
    (es_one (es_ret (ev_box (pe_make c_Box.cm c_Box.ok (hr.mono (by decide)) (by rfl) T.g_Box c_Box.b .nil pass0 (ea_cons (ev_fldS T.cl_Box T.nf_stretch (pe_fld (ev_var 3) rfl)) (ea_cons (ev_box (pe_make c_Box.cm c_Box.ok (hr.mono (by decide)) (by rfl) T.g_Box c_Box.b .nil pass0 (ea_cons (ev_var 0) (ea_cons (ev_var 1) (ea_cons (ev_fldL T.cl_Box T.nf_left (pe_fld (ev_var 3) rfl)) ea_nil))))) (ea_cons (ev_var 4) ea_nil)))))))))))
abbrev s_balanced : Stmt := topS 7
abbrev N_balanced : List Str := ["stretch", "left", "right"]
abbrev pr_balanced : List Str := ["stretch", "left", "right"]
theorem sc_balanced : FnScope N_balanced pr_balanced (defScope s_balanced) := ⟨rfl, rfl, rfl, by decide +kernel, rfl, by decide +kernel, by decide +kernel⟩
theorem ok_balanced {f f0 f1 f2 : Addr} {fd : FuncData} {fd0 fd1 fd2 : FuncData} {fb : Addr} {fdb : FuncData} (F : Fun K "balanced" "balanced" s_balanced f fd) (T : Txt K mg tB bC wC) (o_tall_of : Own P w K mg base CX0 1 "tall_of" f0 fd0 pr_tall_of (spD ⟨K, bC, wC⟩ false m_tall_of)) (o_raised_left : Own P w K mg base CX0 4 "raised_left" f1 fd1 pr_raised_left (spD ⟨K, bC, wC⟩ false m_raised_left)) (o_raised_right : Own P w K mg base CX0 4 "raised_right" f2 fd2 pr_raised_right (spD ⟨K, bC, wC⟩ false m_raised_right)) (c_Box : OwnB P w K mg base bC wC 2 fb fdb pr_Box___init__) : FnOk P w K mg base CX0 5 f fd pr_balanced (spD ⟨K, bC, wC⟩ false m_balanced) :=
  def_ok F sc_balanced (by decide) (fun z => nomatch z) (fun cdv A outer s H E hr =>
    (es_cons (es_if (et_gt (ev_call o_tall_of.ok (hr.mono (by decide)) (by rfl) o_tall_of.gl o_tall_of.kp o_tall_of.b pass0 (ea_cons (ev_var 1) ea_nil)) (ev_add (ev_call o_tall_of.ok (hr.mono (by decide)) (by rfl) o_tall_of.gl o_tall_of.kp o_tall_of.b pass0 (ea_cons (ev_var 2) ea_nil)) ev_int))
      (es_one (es_ret (ev_call o_raised_left.ok (hr.mono (by decide)) (by rfl) o_raised_left.gl o_raised_left.kp o_raised_left.b pass0 (ea_cons (ev_var 0) (ea_cons (ev_var 1) (ea_cons (ev_var 2) ea_nil))))))
      es_nil)
    (es_cons (es_if (et_gt (ev_call o_tall_of.ok (hr.mono (by decide)) (by rfl) o_tall_of.gl o_tall_of.kp o_tall_of.b pass0 (ea_cons (ev_var 2) ea_nil)) (ev_add (ev_call o_tall_of.ok (hr.mono (by decide)) (by rfl) o_tall_of.gl o_tall_of.kp o_tall_of.b pass0 (ea_cons (ev_var 1) ea_nil)) ev_int))
      (es_one (es_ret (ev_call o_raised_right.ok (hr.mono (by decide)) (by rfl) o_raised_right.gl o_raised_right.kp o_raised_right.b pass0 (ea_cons (ev_var 0) (ea_cons (ev_var 1) (ea_cons (ev_var 2) ea_nil))))))
      es_nil)
    (es_one (es_ret (ev_box (pe_make c_Box.cm c_Box.ok (hr.mono (by decide)) (by rfl) T.g_Box c_Box.b .nil pass0 (ea_cons (ev_var 0) (ea_cons (ev_var 1) (ea_cons (ev_var 2) ea_nil))))))))))
abbrev s_has_stretch : Stmt := topS 8
abbrev N_has_stretch : List Str := ["box", "stretch"]
abbrev pr_has_stretch : List Str := ["box", "stretch"]
theorem sc_has_stretch : FnScope N_has_stretch pr_has_stretch (defScope s_has_stretch) := ⟨rfl, rfl, rfl, by decide +kernel, rfl, by decide +kernel, by decide +kernel⟩
theorem ok_has_stretch {f : Addr} {fd : FuncData} (F : Fun K "has_stretch" "has_stretch" s_has_stretch f fd) (T : Txt K mg tB bC wC) : FnOk P w K mg base CX0 1 f fd pr_has_stretch (spD ⟨K, bC, wC⟩ false m_has_stretch) :=
  def_ok F sc_has_stretch (by decide) (fun z => nomatch z) (fun cdv A outer s H E hr =>
    (es_cons (es_while (ps_while PassesOwn.never (PW.pt (ew_and (et_notN (ev_var 0)) (ew_and1 (et_ne rfl hr.units (ev_fldS T.cl_Box T.nf_stretch (pe_fld (ev_var 0) rfl)) (ev_var 1))))) (es_one (es_if (et_ltT rfl hr.units0 (ev_var 1) (ev_fldS T.cl_Box T.nf_stretch (pe_fld (ev_var 0) rfl)))
        (es_one (es_asg (g := gName 0) (ps_set (i := 0) sc_has_stretch.nd rfl (Or.inl rfl) (ev_fldL T.cl_Box T.nf_left (pe_fld (ev_var 0) rfl)))))
        (es_one (es_asg (g := gName 0) (ps_set (i := 0) sc_has_stretch.nd rfl (Or.inl rfl) (ev_fldR T.cl_Box T.nf_right (pe_fld (ev_var 0) rfl)))))))))
    (es_one (es_ret (ev_notN (ev_var 0))))))
abbrev s_with_stretch : Stmt := topS 9
abbrev N_with_stretch : List Str := ["box", "stretch"]
abbrev pr_with_stretch : List Str := ["box", "stretch"]
theorem sc_with_stretch : FnScope N_with_stretch pr_with_stretch (defScope s_with_stretch) := ⟨rfl, rfl, rfl, by decide +kernel, rfl, by decide +kernel, by decide +kernel⟩
theorem ok_with_stretch {f f1 : Addr} {fd : FuncData} {fd1 : FuncData} {fb : Addr} {fdb : FuncData} (F : Fun K "with_stretch" "with_stretch" s_with_stretch f fd) (T : Txt K mg tB bC wC) (o_gl : mg "with_stretch" = some (.ref f)) (o_kp : PySem.W.keepIn K (.ref f) = true) (o_b : Binds K fd pr_with_stretch []) (c_Box : OwnB P w K mg base bC wC 2 fb fdb pr_Box___init__) (o_balanced : Own P w K mg base CX0 5 "balanced" f1 fd1 pr_balanced (spD ⟨K, bC, wC⟩ false m_balanced)) : ∀ n, FnOk P w K mg base CX0 (6 + n) f fd pr_with_stretch (spD ⟨K, bC, wC⟩ false (m_with_stretch n))
  | 0 => spD_none
  | n + 1 =>
    have ih := ok_with_stretch F T o_gl o_kp o_b c_Box o_balanced n
    def_ok F sc_with_stretch (by decide) (fun z => nomatch z) (fun cdv A outer s H E hr =>
    (es_cons (es_if (et_isN (ev_var 0))
      (es_one (es_ret (ev_box (pe_make c_Box.cm c_Box.ok (hr.mono (Nat.le_trans (by decide) (Nat.le_add_right 6 n))) (by rfl) T.g_Box c_Box.b .nil pass0 (ea_cons (ev_var 1) (ea_cons ev_non (ea_cons ev_non ea_nil)))))))
      es_nil)
    (es_cons (es_if (et_ltT rfl hr.units0 (ev_var 1) (ev_fldS T.cl_Box T.nf_stretch (pe_fld (ev_var 0) rfl)))
      (es_one (es_ret (ev_call o_balanced.ok (hr.mono (Nat.le_trans (by decide) (Nat.le_add_right 6 n))) (by rfl) o_balanced.gl o_balanced.kp o_balanced.b pass0 (ea_cons (ev_fldS T.cl_Box T.nf_stretch (pe_fld (ev_var 0) rfl)) (ea_cons (ev_call ih hr (by rfl) o_gl o_kp o_b pass0 (ea_cons (ev_fldL T.cl_Box T.nf_left (pe_fld (ev_var 0) rfl)) (ea_cons (ev_var 1) ea_nil))) (ea_cons (ev_fldR T.cl_Box T.nf_right (pe_fld (ev_var 0) rfl)) ea_nil))))))
      es_nil)
    (es_one (es_ret (ev_call o_balanced.ok (hr.mono (Nat.le_trans (by decide) (Nat.le_add_right 6 n))) (by rfl) o_balanced.gl o_balanced.kp o_balanced.b pass0 (ea_cons (ev_fldS T.cl_Box T.nf_stretch (pe_fld (ev_var 0) rfl)) (ea_cons (ev_fldL T.cl_Box T.nf_left (pe_fld (ev_var 0) rfl)) (ea_cons (ev_call ih hr (by rfl) o_gl o_kp o_b pass0 (ea_cons (ev_fldR T.cl_Box T.nf_right (pe_fld (ev_var 0) rfl)) (ea_cons (ev_var 1) ea_nil))) ea_nil)))))))))
abbrev s_first_stretch : Stmt := topS 11
abbrev N_first_stretch : List Str := ["box"]
abbrev pr_first_stretch : List Str := ["box"]
theorem sc_first_stretch : FnScope N_first_stretch pr_first_stretch (defScope s_first_stretch) := ⟨rfl, rfl, rfl, by decide +kernel, rfl, by decide +kernel, by decide +kernel⟩
theorem ok_first_stretch {f : Addr} {fd : FuncData} (F : Fun K "first_stretch" "first_stretch" s_first_stretch f fd) (T : Txt K mg tB bC wC) : FnOk P w K mg base CX0 1 f fd pr_first_stretch (spD ⟨K, bC, wC⟩ false m_first_stretch) :=
  def_ok F sc_first_stretch (by decide) (fun z => nomatch z) (fun cdv A outer s H E hr =>
    (es_cons (es_while (ps_while PassesOwn.never (et_notN (ev_fldL T.cl_Box T.nf_left (pe_fld (ev_var 0) rfl))) (es_one (es_asg (g := gName 0) (ps_set (i := 0) sc_first_stretch.nd rfl (Or.inl rfl) (ev_fldL T.cl_Box T.nf_left (pe_fld (ev_var 0) rfl)))))))
    (es_one (es_ret (ev_fldS T.cl_Box T.nf_stretch (pe_fld (ev_var 0) rfl))))))
abbrev s_without_stretch : Stmt := topS 10
abbrev N_without_stretch : List Str := ["box", "stretch", "follower"]
abbrev pr_without_stretch : List Str := ["box", "stretch"]
theorem sc_without_stretch : FnScope N_without_stretch pr_without_stretch (defScope s_without_stretch) := ⟨rfl, rfl, rfl, by decide +kernel, rfl, by decide +kernel, by decide +kernel⟩
theorem ok_without_stretch {f f0 f1 : Addr} {fd : FuncData} {fd0 fd1 : FuncData} (F : Fun K "without_stretch" "without_stretch" s_without_stretch f fd) (T : Txt K mg tB bC wC) (o_gl : mg "without_stretch" = some (.ref f)) (o_kp : PySem.W.keepIn K (.ref f) = true) (o_b : Binds K fd pr_without_stretch []) (o_balanced : Own P w K mg base CX0 5 "balanced" f0 fd0 pr_balanced (spD ⟨K, bC, wC⟩ false m_balanced)) (o_first_stretch : Own P w K mg base CX0 1 "first_stretch" f1 fd1 pr_first_stretch (spD ⟨K, bC, wC⟩ false m_first_stretch)) : ∀ n, FnOk P w K mg base CX0 (6 + n) f fd pr_without_stretch (spD ⟨K, bC, wC⟩ false (m_without_stretch n))
  | 0 => spD_none
  | n + 1 =>
    have ih := ok_without_stretch F T o_gl o_kp o_b o_balanced o_first_stretch n
    def_ok F sc_without_stretch (by decide) (fun z => nomatch z) (fun cdv A outer s H E hr =>
    (es_cons (es_if (et_ltT rfl hr.units0 (ev_var 1) (ev_fldS T.cl_Box T.nf_stretch (pe_fld (ev_var 0) rfl)))
      (es_one (es_ret (ev_call o_balanced.ok (hr.mono (Nat.le_trans (by decide) (Nat.le_add_right 6 n))) (by rfl) o_balanced.gl o_balanced.kp o_balanced.b pass0 (ea_cons (ev_fldS T.cl_Box T.nf_stretch (pe_fld (ev_var 0) rfl)) (ea_cons (ev_call ih hr (by rfl) o_gl o_kp o_b pass0 (ea_cons (ev_fldL T.cl_Box T.nf_left (pe_fld (ev_var 0) rfl)) (ea_cons (ev_var 1) ea_nil))) (ea_cons (ev_fldR T.cl_Box T.nf_right (pe_fld (ev_var 0) rfl)) ea_nil))))))
      es_nil)
    (es_cons (es_if (et_gtT rfl hr.units0 (ev_var 1) (ev_fldS T.cl_Box T.nf_stretch (pe_fld (ev_var 0) rfl)))
      (es_one (es_ret (ev_call o_balanced.ok (hr.mono (Nat.le_trans (by decide) (Nat.le_add_right 6 n))) (by rfl) o_balanced.gl o_balanced.kp o_balanced.b pass0 (ea_cons (ev_fldS T.cl_Box T.nf_stretch (pe_fld (ev_var 0) rfl)) (ea_cons (ev_fldL T.cl_Box T.nf_left (pe_fld (ev_var 0) rfl)) (ea_cons (ev_call ih hr (by rfl) o_gl o_kp o_b pass0 (ea_cons (ev_fldR T.cl_Box T.nf_right (pe_fld (ev_var 0) rfl)) (ea_cons (ev_var 1) ea_nil))) ea_nil))))))
      es_nil)
    (es_cons (es_if (et_isN (ev_fldL T.cl_Box T.nf_left (pe_fld (ev_var 0) rfl)))
      (es_one (es_ret (ev_fldR T.cl_Box T.nf_right (pe_fld (ev_var 0) rfl))))
      es_nil)
    (es_cons (es_if (et_isN (ev_fldR T.cl_Box T.nf_right (pe_fld (ev_var 0) rfl)))
      (es_one (es_ret (ev_fldL T.cl_Box T.nf_left (pe_fld (ev_var 0) rfl))))
      es_nil)
    (es_cons (es_asg (g := gName 2) (ps_set (i := 2) sc_without_stretch.nd rfl (Or.inl rfl) (ev_call o_first_stretch.ok (hr.mono (Nat.le_trans (by decide) (Nat.le_add_right 6 n))) (by rfl) o_first_stretch.gl o_first_stretch.kp o_first_stretch.b pass0 (ea_cons (ev_fldR T.cl_Box T.nf_right (pe_fld (ev_var 0) rfl)) ea_nil))))
    (es_one (es_ret (ev_call o_balanced.ok (hr.mono (Nat.le_trans (by decide) (Nat.le_add_right 6 n))) (by rfl) o_balanced.gl o_balanced.kp o_balanced.b pass0 (ea_cons (ev_var 2) (ea_cons (ev_fldL T.cl_Box T.nf_left (pe_fld (ev_var 0) rfl)) (ea_cons (ev_call ih hr (by rfl) o_gl o_kp o_b pass0 (ea_cons (ev_fldR T.cl_Box T.nf_right (pe_fld (ev_var 0) rfl)) (ea_cons (ev_var 2) ea_nil))) ea_nil))))))))))))
abbrev s_gather_placed : Stmt := topS 13
abbrev N_gather_placed : List Str := ["box", "depth", "found"]
abbrev pr_gather_placed : List Str := ["box", "depth", "found"]
theorem sc_gather_placed : FnScope N_gather_placed pr_gather_placed (defScope s_gather_placed) := ⟨rfl, rfl, rfl, by decide +kernel, rfl, by decide +kernel, by decide +kernel⟩
theorem ok_gather_placed {f : Addr} {fd : FuncData} (F : Fun K "gather_placed" "gather_placed" s_gather_placed f fd) (T : Txt K mg tB bC wC) (o_gl : mg "gather_placed" = some (.ref f)) (o_kp : PySem.W.keepIn K (.ref f) = true) (o_b : Binds K fd pr_gather_placed []) : ∀ n, FnOk P w K mg base CX0 (1 + n) f fd pr_gather_placed (spG ⟨K, bC, wC⟩ (gPlaced n))
  | 0 => spG_never (spG_zero gPlaced0)
  | n + 1 =>
    have ih := ok_gather_placed F T o_gl o_kp o_b n
    F.ok sc_gather_placed (fun vs H Q E h => spGp_len h) (fun cdv A outer s H vs Q E hr h =>
    ⟨_, pss_cons (ps_if (et_isN (ev_var (W := ⟨K, bC, wC⟩) 0)) (pss_one ps_retN) pss_nil) (pss_cons (ps_expr (pe_call ih hr (by rfl) o_gl o_kp o_b .nil pass0 (pa_cons (ev_fldL (W := ⟨K, bC, wC⟩) T.cl_Box T.nf_left (pe_fld (ev_var (W := ⟨K, bC, wC⟩) 0) rfl)) (pa_cons (ev_add (ev_var (W := ⟨K, bC, wC⟩) 1) (ev_int (W := ⟨K, bC, wC⟩))) (pa_cons (pv 2) pa_nil))))) (pss_cons (ps_expr (pe_bm PySem.F.plainAttrs_list PySem.F.slot_list_append PySem.F.type_list_append mt_append (pv 2) (pa_cons (ev_tup (ea_cons (ev_fldS (W := ⟨K, bC, wC⟩) T.cl_Box T.nf_stretch (pe_fld (ev_var (W := ⟨K, bC, wC⟩) 0) rfl)) (ea_cons (ev_var (W := ⟨K, bC, wC⟩) 1) (ea_cons (ev_fldH (W := ⟨K, bC, wC⟩) T.cl_Box T.nf_tall (pe_fld (ev_var (W := ⟨K, bC, wC⟩) 0) rfl)) (ea_cons (ev_fldM (W := ⟨K, bC, wC⟩) T.cl_Box T.nf_reach (pe_fld (ev_var (W := ⟨K, bC, wC⟩) 0) rfl)) ea_nil))))) pa_nil))) (pss_one (ps_expr (pe_call ih hr (by rfl) o_gl o_kp o_b .nil pass0 (pa_cons (ev_fldR (W := ⟨K, bC, wC⟩) T.cl_Box T.nf_right (pe_fld (ev_var (W := ⟨K, bC, wC⟩) 0) rfl)) (pa_cons (ev_add (ev_var (W := ⟨K, bC, wC⟩) 1) (ev_int (W := ⟨K, bC, wC⟩))) (pa_cons (pv 2) pa_nil)))))))), (by rw [start_full (N := N_gather_placed) (spGp_len h)]; exact gp_reads (fun t d => by cases t <;> rfl) (fun _ _ _ _ _ _ => rfl) (fun _ _ _ _ _ _ => rfl) (fun _ _ => rfl) (fun _ _ => rfl) bd_tup h)⟩)
abbrev s_placed_boxes : Stmt := topS 12
abbrev N_placed_boxes : List Str := ["top", "found"]
abbrev pr_placed_boxes : List Str := ["top"]
theorem sc_placed_boxes : FnScope N_placed_boxes pr_placed_boxes (defScope s_placed_boxes) := ⟨rfl, rfl, rfl, by decide +kernel, rfl, by decide +kernel, by decide +kernel⟩
theorem ok_placed_boxes {f f0 : Addr} {fd : FuncData} {fd0 : FuncData} (F : Fun K "placed_boxes" "placed_boxes" s_placed_boxes f fd) (T : Txt K mg tB bC wC) (o_gather_placed : Own P w K mg base CX0 181 "gather_placed" f0 fd0 pr_gather_placed (spG ⟨K, bC, wC⟩ (gPlaced 180))) : FnOk P w K mg base CX0 182 f fd pr_placed_boxes (spD ⟨K, bC, wC⟩ true m_placed_boxes) :=
  def_ok F sc_placed_boxes (by decide) (fun _ ds ρ => ((nn_seq (nn_seq nn_retO)) : NoNx b_placed_boxes) _ ρ) (fun cdv A outer s H E hr =>
    (es_cons (es_asgO (ps_set (i := 1) sc_placed_boxes.nd rfl (Or.inl rfl) (ev_lst ea_nil)))
    (es_cons (es_gath2 1 (ps_expr (pe_call o_gather_placed.ok (hr.mono (by decide)) (by rfl) o_gather_placed.gl o_gather_placed.kp o_gather_placed.b .nil pass0 (pa_cons (ev_var 0) (pa_cons ev_int (pa_cons (pv 1) pa_nil))))))
    (es_one (es_retO 1)))))
abbrev s_is_whole : Stmt := topS 21
abbrev N_is_whole : List Str := ["value"]
abbrev pr_is_whole : List Str := ["value"]
theorem sc_is_whole : FnScope N_is_whole pr_is_whole (defScope s_is_whole) := ⟨rfl, rfl, rfl, by decide +kernel, rfl, by decide +kernel, by decide +kernel⟩
theorem ok_is_whole {f : Addr} {fd : FuncData} (F : Fun K "is_whole" "is_whole" s_is_whole f fd) (T : Txt K mg tB bC wC) : FnOk P w K mg base CX0 1 f fd pr_is_whole (spD ⟨K, bC, wC⟩ false m_is_whole) :=
  def_ok F sc_is_whole (by decide) (fun z => nomatch z) (fun cdv A outer s H E hr =>
    (es_one (es_ret (ev_and (ev_tyIs "int" (by decide) rfl (by rfl) T.z_type (ev_var 0) (pe_bltn (by rfl) T.z_int (by decide +kernel) rfl)) (ev_one (ev_chain bIB0 bIB0 (pe_chain op_lt op_lt (ev_neg (ev_c (d := .int 1000000000000000000000000000000000000000000000000000000000000) (pe_glob (v := .int 1000000000000000000000000000000000000000000000000000000000000) rfl T.g_BEYOND ⟨_, rfl⟩))) (ev_var 0) (ev_c (d := .int 1000000000000000000000000000000000000000000000000000000000000) (pe_glob (v := .int 1000000000000000000000000000000000000000000000000000000000000) rfl T.g_BEYOND ⟨_, rfl⟩)))))))))
abbrev s_check_ends : Stmt := topS 22
abbrev N_check_ends : List Str := ["low", "high"]
abbrev pr_check_ends : List Str := ["low", "high"]
theorem sc_check_ends : FnScope N_check_ends pr_check_ends (defScope s_check_ends) := ⟨rfl, rfl, rfl, by decide +kernel, rfl, by decide +kernel, by decide +kernel⟩
theorem ok_check_ends {f f0 : Addr} {fd : FuncData} {fd0 : FuncData} (F : Fun K "check_ends" "check_ends" s_check_ends f fd) (T : Txt K mg tB bC wC) (o_is_whole : Own P w K mg base CX0 1 "is_whole" f0 fd0 pr_is_whole (spD ⟨K, bC, wC⟩ false m_is_whole)) : FnOk P w K mg base CX0 2 f fd pr_check_ends (spD ⟨K, bC, wC⟩ false m_check_ends) :=
  def_ok F sc_check_ends (by decide) (fun z => nomatch z) (fun cdv A outer s H E hr =>
    (es_cons (es_if (et_not (et_val (ev_call o_is_whole.ok (hr.mono (by decide)) (by rfl) o_is_whole.gl o_is_whole.kp o_is_whole.b pass0 (ea_cons (ev_var 0) ea_nil))))
      (es_one es_fail)
      es_nil)
    (es_cons (es_if (et_not (et_val (ev_call o_is_whole.ok (hr.mono (by decide)) (by rfl) o_is_whole.gl o_is_whole.kp o_is_whole.b pass0 (ea_cons (ev_var 1) ea_nil))))
      (es_one es_fail)
      es_nil)
    (es_one (es_if (et_gt (ev_var 0) (ev_var 1))
      (es_one es_fail)
      es_nil)))))
abbrev s_stretch_of : Stmt := topS 23
abbrev N_stretch_of : List Str := ["low", "high", "mark"]
abbrev pr_stretch_of : List Str := ["low", "high", "mark"]
theorem sc_stretch_of : FnScope N_stretch_of pr_stretch_of (defScope s_stretch_of) := ⟨rfl, rfl, rfl, by decide +kernel, rfl, by decide +kernel, by decide +kernel⟩
theorem ok_stretch_of {f f0 f1 : Addr} {fd : FuncData} {fd0 fd1 : FuncData} (F : Fun K "stretch_of" "stretch_of" s_stretch_of f fd) (T : Txt K mg tB bC wC) (o_check_ends : Own P w K mg base CX0 2 "check_ends" f0 fd0 pr_check_ends (spD ⟨K, bC, wC⟩ false m_check_ends)) (o_is_whole : Own P w K mg base CX0 1 "is_whole" f1 fd1 pr_is_whole (spD ⟨K, bC, wC⟩ false m_is_whole)) : FnOk P w K mg base CX0 3 f fd pr_stretch_of (spD ⟨K, bC, wC⟩ false m_stretch_of) :=
  def_ok F sc_stretch_of (by decide) (fun z => nomatch z) (fun cdv A outer s H E hr =>
    (es_cons (es_expr (ev_call o_check_ends.ok (hr.mono (by decide)) (by rfl) o_check_ends.gl o_check_ends.kp o_check_ends.b pass0 (ea_cons (ev_var 0) (ea_cons (ev_var 1) ea_nil))))
    (es_cons (es_if (et_not (et_val (ev_call o_is_whole.ok (hr.mono (by decide)) (by rfl) o_is_whole.gl o_is_whole.kp o_is_whole.b pass0 (ea_cons (ev_var 2) ea_nil))))
      (es_one es_fail)
      es_nil)
    (es_one (es_ret (ev_tup (ea_cons (ev_var 0) (ea_cons (ev_var 1) (ea_cons (ev_var 2) ea_nil)))))))))
abbrev s_Wood___init__ : Stmt := inClass (topS 25) 0
abbrev N_Wood___init__ : List Str := ["self"]
abbrev pr_Wood___init__ : List Str := ["self"]
theorem sc_Wood___init__ : FnScope N_Wood___init__ pr_Wood___init__ (defScope s_Wood___init__) := ⟨rfl, rfl, rfl, by decide +kernel, rfl, by decide +kernel, by decide +kernel⟩
theorem ok_Wood___init__ {f : Addr} {fd : FuncData} (F : Fun K "__init__" "Wood.__init__" s_Wood___init__ f fd) (T : Txt K mg tB bC wC) : FnOk P w K mg base CX0 1 f fd pr_Wood___init__ (spInitW ⟨K, bC, wC⟩) :=
  F.ok sc_Wood___init__ (fun vs H Q E h => spInitW_len h) (fun cdv A outer s H vs Q E hr h => ⟨_, pss_one (ps_fld (pv 0) pe_non rfl), (by rw [start_full (N := N_Wood___init__) (spInitW_len h)]; exact initW_reads T.cl_Wood T.nf__top h)⟩)
abbrev s_Wood_put : Stmt := inClass (topS 25) 1
abbrev N_Wood_put : List Str := ["self", "low", "high", "mark", "stretch"]
abbrev pr_Wood_put : List Str := ["self", "low", "high", "mark"]
theorem sc_Wood_put : FnScope N_Wood_put pr_Wood_put (defScope s_Wood_put) := ⟨rfl, rfl, rfl, by decide +kernel, rfl, by decide +kernel, by decide +kernel⟩
theorem ok_Wood_put {f f0 f1 f2 : Addr} {fd : FuncData} {fd0 fd1 fd2 : FuncData} (F : Fun K "put" "Wood.put" s_Wood_put f fd) (T : Txt K mg tB bC wC) {cTwice : Addr} (XTwice : OwnE K mg "Twice" cTwice) (o_stretch_of : Own P w K mg base CX0 3 "stretch_of" f0 fd0 pr_stretch_of (spD ⟨K, bC, wC⟩ false m_stretch_of)) (o_has_stretch : Own P w K mg base CX0 1 "has_stretch" f1 fd1 pr_has_stretch (spD ⟨K, bC, wC⟩ false m_has_stretch)) (o_with_stretch : Own P w K mg base CX0 186 "with_stretch" f2 fd2 pr_with_stretch (spD ⟨K, bC, wC⟩ false (m_with_stretch 180))) : FnOk P w K mg base (L2.CX P w) 187 f fd pr_Wood_put (spM ⟨K, bC, wC⟩ (fPut cTwice)) :=
  F.okX sc_Wood_put (fun vs H Q E h => spM_len (fun t ds r e => put_len e) h) (fun cdv A outer s H vs Q E hr h => by
    obtain ⟨l, dx, v, t, vs0, ds, r, rfl, hl, ht, hds, hf, k⟩ := h
    have hn := put_len hf
    cases r with
    | ok y =>
      obtain ⟨t2, d⟩ := y
      obtain ⟨rfl, hm⟩ := put_run hf l
      exact ⟨_, ((es_cons (es_asg (g := gName 4) (ps_set (i := 4) sc_Wood_put.nd rfl (Or.inl rfl) (ev_call o_stretch_of.ok (hr.mono (by decide)) (by rfl) o_stretch_of.gl o_stretch_of.kp o_stretch_of.b pass0 (ea_cons (ev_var 1) (ea_cons (ev_var 2) (ea_cons (ev_var 3) ea_nil))))))
      (es_cons (es_if (et_val (ev_call o_has_stretch.ok (hr.mono (by decide)) (by rfl) o_has_stretch.gl o_has_stretch.kp o_has_stretch.b pass0 (ea_cons (ev_fldW T.cl_Wood T.nf__top (pe_fld (ev_var 0) rfl)) (ea_cons (ev_var 4) ea_nil))))
        (es_one es_fail)
        es_nil)
      (es_one (es_top 0 T.cl_Wood T.nf__top (ps_fld (pv 0) (ev_call o_with_stretch.ok (hr.mono (by decide)) (by rfl) o_with_stretch.gl o_with_stretch.kp o_with_stretch.b pass0 (ea_cons (ev_fldW T.cl_Wood T.nf__top (pe_fld (ev_var 0) rfl)) (ea_cons (ev_var 4) ea_nil))) rfl))))) : EB _ ⟨K, bC, wC⟩ false _ b_Wood_put), run_reads (N := N_Wood_put) hl ht hds (by rw [hn]; decide) rfl hm k⟩
    | error C =>
      obtain ⟨rfl, ρ1, e1, e0, e2⟩ := put_raise hf l
      exact ⟨_, pss_cons ((es_asg (g := gName 4) (ps_set (i := 4) sc_Wood_put.nd rfl (Or.inl rfl) (ev_call o_stretch_of.ok (hr.mono (by decide)) (by rfl) o_stretch_of.gl o_stretch_of.kp o_stretch_of.b pass0 (ea_cons (ev_var 1) (ea_cons (ev_var 2) (ea_cons (ev_var 3) ea_nil)))))) : ES _ ⟨K, bC, wC⟩ false _ _) (pss_cons (ps_if (et_val (ev_call o_has_stretch.ok (hr.mono (by decide)) (by rfl) o_has_stretch.gl o_has_stretch.kp o_has_stretch.b pass0 (ea_cons (ev_fldW T.cl_Wood T.nf__top (pe_fld (ev_var 0) rfl)) (ea_cons (ev_var 4) ea_nil)))) (pss_one (ps_raise rfl (takes_of rfl rfl rfl rfl) (pmk_own PySem.F.excBase_ValueError XTwice.x XTwice.g XTwice.k (raises_own XTwice.b XTwice.t) (by exact rfl)))) pss_nil) (pss_one ((es_top 0 T.cl_Wood T.nf__top (ps_fld (pv 0) (ev_call o_with_stretch.ok (hr.mono (by decide)) (by rfl) o_with_stretch.gl o_with_stretch.kp o_with_stretch.b pass0 (ea_cons (ev_fldW T.cl_Wood T.nf__top (pe_fld (ev_var 0) rfl)) (ea_cons (ev_var 4) ea_nil))) rfl)) : ES _ ⟨K, bC, wC⟩ false _ _))), raise_reads (N := N_Wood_put) hl ht hds (by rw [hn]; decide) e1 e0 e2 k⟩)
abbrev s_Wood_take : Stmt := inClass (topS 25) 2
abbrev N_Wood_take : List Str := ["self", "low", "high", "mark", "stretch"]
abbrev pr_Wood_take : List Str := ["self", "low", "high", "mark"]
theorem sc_Wood_take : FnScope N_Wood_take pr_Wood_take (defScope s_Wood_take) := ⟨rfl, rfl, rfl, by decide +kernel, rfl, by decide +kernel, by decide +kernel⟩
theorem ok_Wood_take {f f0 f1 f2 : Addr} {fd : FuncData} {fd0 fd1 fd2 : FuncData} (F : Fun K "take" "Wood.take" s_Wood_take f fd) (T : Txt K mg tB bC wC) {cMissing : Addr} (XMissing : OwnE K mg "Missing" cMissing) (o_stretch_of : Own P w K mg base CX0 3 "stretch_of" f0 fd0 pr_stretch_of (spD ⟨K, bC, wC⟩ false m_stretch_of)) (o_has_stretch : Own P w K mg base CX0 1 "has_stretch" f1 fd1 pr_has_stretch (spD ⟨K, bC, wC⟩ false m_has_stretch)) (o_without_stretch : Own P w K mg base CX0 186 "without_stretch" f2 fd2 pr_without_stretch (spD ⟨K, bC, wC⟩ false (m_without_stretch 180))) : FnOk P w K mg base (L2.CX P w) 187 f fd pr_Wood_take (spM ⟨K, bC, wC⟩ (fTake cMissing)) :=
  F.okX sc_Wood_take (fun vs H Q E h => spM_len (fun t ds r e => take_len e) h) (fun cdv A outer s H vs Q E hr h => by
    obtain ⟨l, dx, v, t, vs0, ds, r, rfl, hl, ht, hds, hf, k⟩ := h
    have hn := take_len hf
    cases r with
    | ok y =>
      obtain ⟨t2, d⟩ := y
      obtain ⟨rfl, hm⟩ := take_run hf l
      exact ⟨_, ((es_cons (es_asg (g := gName 4) (ps_set (i := 4) sc_Wood_take.nd rfl (Or.inl rfl) (ev_call o_stretch_of.ok (hr.mono (by decide)) (by rfl) o_stretch_of.gl o_stretch_of.kp o_stretch_of.b pass0 (ea_cons (ev_var 1) (ea_cons (ev_var 2) (ea_cons (ev_var 3) ea_nil))))))
      (es_cons (es_if (et_not (et_val (ev_call o_has_stretch.ok (hr.mono (by decide)) (by rfl) o_has_stretch.gl o_has_stretch.kp o_has_stretch.b pass0 (ea_cons (ev_fldW T.cl_Wood T.nf__top (pe_fld (ev_var 0) rfl)) (ea_cons (ev_var 4) ea_nil)))))
        (es_one es_fail)
        es_nil)
      (es_one (es_top 0 T.cl_Wood T.nf__top (ps_fld (pv 0) (ev_call o_without_stretch.ok (hr.mono (by decide)) (by rfl) o_without_stretch.gl o_without_stretch.kp o_without_stretch.b pass0 (ea_cons (ev_fldW T.cl_Wood T.nf__top (pe_fld (ev_var 0) rfl)) (ea_cons (ev_var 4) ea_nil))) rfl))))) : EB _ ⟨K, bC, wC⟩ false _ b_Wood_take), run_reads (N := N_Wood_take) hl ht hds (by rw [hn]; decide) rfl hm k⟩
    | error C =>
      obtain ⟨rfl, ρ1, e1, e0, e2⟩ := take_raise hf l
      exact ⟨_, pss_cons ((es_asg (g := gName 4) (ps_set (i := 4) sc_Wood_take.nd rfl (Or.inl rfl) (ev_call o_stretch_of.ok (hr.mono (by decide)) (by rfl) o_stretch_of.gl o_stretch_of.kp o_stretch_of.b pass0 (ea_cons (ev_var 1) (ea_cons (ev_var 2) (ea_cons (ev_var 3) ea_nil)))))) : ES _ ⟨K, bC, wC⟩ false _ _) (pss_cons (ps_if (et_not (et_val (ev_call o_has_stretch.ok (hr.mono (by decide)) (by rfl) o_has_stretch.gl o_has_stretch.kp o_has_stretch.b pass0 (ea_cons (ev_fldW T.cl_Wood T.nf__top (pe_fld (ev_var 0) rfl)) (ea_cons (ev_var 4) ea_nil))))) (pss_one (ps_raise rfl (takes_of rfl rfl rfl rfl) (pmk_own PySem.F.excBase_ValueError XMissing.x XMissing.g XMissing.k (raises_own XMissing.b XMissing.t) (by exact rfl)))) pss_nil) (pss_one ((es_top 0 T.cl_Wood T.nf__top (ps_fld (pv 0) (ev_call o_without_stretch.ok (hr.mono (by decide)) (by rfl) o_without_stretch.gl o_without_stretch.kp o_without_stretch.b pass0 (ea_cons (ev_fldW T.cl_Wood T.nf__top (pe_fld (ev_var 0) rfl)) (ea_cons (ev_var 4) ea_nil))) rfl)) : ES _ ⟨K, bC, wC⟩ false _ _))), raise_reads (N := N_Wood_take) hl ht hds (by rw [hn]; decide) e1 e0 e2 k⟩)
abbrev s_Wood_keeps : Stmt := inClass (topS 25) 3
abbrev N_Wood_keeps : List Str := ["self", "low", "high", "mark"]
abbrev pr_Wood_keeps : List Str := ["self", "low", "high", "mark"]
theorem sc_Wood_keeps : FnScope N_Wood_keeps pr_Wood_keeps (defScope s_Wood_keeps) := ⟨rfl, rfl, rfl, by decide +kernel, rfl, by decide +kernel, by decide +kernel⟩
theorem ok_Wood_keeps {f f0 f1 : Addr} {fd : FuncData} {fd0 fd1 : FuncData} (F : Fun K "keeps" "Wood.keeps" s_Wood_keeps f fd) (T : Txt K mg tB bC wC) (o_has_stretch : Own P w K mg base CX0 1 "has_stretch" f0 fd0 pr_has_stretch (spD ⟨K, bC, wC⟩ false m_has_stretch)) (o_stretch_of : Own P w K mg base CX0 3 "stretch_of" f1 fd1 pr_stretch_of (spD ⟨K, bC, wC⟩ false m_stretch_of)) : FnOk P w K mg base CX0 4 f fd pr_Wood_keeps (spD ⟨K, bC, wC⟩ false m_Wood_keeps) :=
  def_ok F sc_Wood_keeps (by decide) (fun z => nomatch z) (fun cdv A outer s H E hr =>
    (es_one (es_ret (ev_call o_has_stretch.ok (hr.mono (by decide)) (by rfl) o_has_stretch.gl o_has_stretch.kp o_has_stretch.b pass0 (ea_cons (ev_fldW T.cl_Wood T.nf__top (pe_fld (ev_var 0) rfl)) (ea_cons (ev_call o_stretch_of.ok (hr.mono (by decide)) (by rfl) o_stretch_of.gl o_stretch_of.kp o_stretch_of.b pass0 (ea_cons (ev_var 1) (ea_cons (ev_var 2) (ea_cons (ev_var 3) ea_nil)))) ea_nil))))))
abbrev s_Wood_listed : Stmt := inClass (topS 25) 4
abbrev N_Wood_listed : List Str := ["self", "placed"]
abbrev pr_Wood_listed : List Str := ["self"]
theorem sc_Wood_listed : FnScope N_Wood_listed pr_Wood_listed (defScope s_Wood_listed) := ⟨rfl, rfl, rfl, by decide +kernel, rfl, by decide +kernel, by decide +kernel⟩
theorem ok_Wood_listed {f f0 : Addr} {fd : FuncData} {fd0 : FuncData} (F : Fun K "listed" "Wood.listed" s_Wood_listed f fd) (T : Txt K mg tB bC wC) (o_placed_boxes : Own P w K mg base CX0 182 "placed_boxes" f0 fd0 pr_placed_boxes (spD ⟨K, bC, wC⟩ true m_placed_boxes)) : FnOk P w K mg base CX0 183 f fd pr_Wood_listed (spD ⟨K, bC, wC⟩ true m_Wood_listed) :=
  def_ok F sc_Wood_listed (by decide) (fun _ ds ρ => (nn_ret : NoNx b_Wood_listed) _ ρ) (fun cdv A outer s H E hr =>
    (es_one (es_ret (ev_lc rfl (by exact (by decide : (1 : Nat) < N_Wood_listed.length)) (pe_lc (own := [("placed", 1)]) (g := gName 1) (by rfl) sc_Wood_listed.nd (pi_list (ev_call o_placed_boxes.ok (hr.mono (by decide)) (by rfl) o_placed_boxes.gl o_placed_boxes.kp o_placed_boxes.b pass0 (ea_cons (ev_fldW T.cl_Wood T.nf__top (pe_fld (ev_var 0) rfl)) ea_nil))) (blkOk_by (own := [("placed", 1)]) (N := N_Wood_listed) (sc := defScope s_Wood_listed) (by decide +kernel)) (fun _ _ _ _ _ => (pg_name (i := 1) sc_Wood_listed.nd rfl (Or.inl rfl))) (fun _ _ _ _ _ => ec_yes) (fun _ _ _ _ _ => (ev_at rfl (ev_var 1) ev_int)))))))
abbrev s_Wood_total : Stmt := inClass (topS 25) 5
abbrev N_Wood_total : List Str := ["self"]
abbrev pr_Wood_total : List Str := ["self"]
theorem sc_Wood_total : FnScope N_Wood_total pr_Wood_total (defScope s_Wood_total) := ⟨rfl, rfl, rfl, by decide +kernel, rfl, by decide +kernel, by decide +kernel⟩
theorem ok_Wood_total {f f0 : Addr} {fd : FuncData} {fd0 : FuncData} (F : Fun K "total" "Wood.total" s_Wood_total f fd) (T : Txt K mg tB bC wC) (o_placed_boxes : Own P w K mg base CX0 182 "placed_boxes" f0 fd0 pr_placed_boxes (spD ⟨K, bC, wC⟩ true m_placed_boxes)) : FnOk P w K mg base CX0 183 f fd pr_Wood_total (spD ⟨K, bC, wC⟩ false m_Wood_total) :=
  def_ok F sc_Wood_total (by decide) (fun z => nomatch z) (fun cdv A outer s H E hr =>
    (es_one (es_ret (ev_callB (kLen rfl) call_len_seq (by rfl) T.z_len (by decide +kernel) (ea_cons (ev_call o_placed_boxes.ok (hr.mono (by decide)) (by rfl) o_placed_boxes.gl o_placed_boxes.kp o_placed_boxes.b pass0 (ea_cons (ev_fldW T.cl_Wood T.nf__top (pe_fld (ev_var 0) rfl)) ea_nil)) ea_nil)))))
abbrev s_law_at : Stmt := topS 27
abbrev N_law_at : List Str := ["_law_script", "_law_place"]
abbrev pr_law_at : List Str := ["_law_script", "_law_place"]
theorem sc_law_at : FnScope N_law_at pr_law_at (defScope s_law_at) := ⟨rfl, rfl, rfl, by decide +kernel, rfl, by decide +kernel, by decide +kernel⟩
theorem ok_law_at {f : Addr} {fd : FuncData} (F : Fun K "_law_at" "_law_at" s_law_at f fd) (T : Txt K mg tB bC wC) : FnOk P w K mg base CX0 1 f fd pr_law_at (spD ⟨K, bC, wC⟩ false m_law_at) :=
  def_ok F sc_law_at (by decide) (fun z => nomatch z) (fun cdv A outer s H E hr =>
    (es_one (es_ret (ev_at rfl (ev_cat (ev_sl rfl (ev_var 0) (eo_some (ev_var 1)) (eo_some (ev_add (ev_var 1) ev_int))) (ev_lst (ea_cons ev_int ea_nil))) ev_int))))
abbrev s_law_is_int : Stmt := topS 28
abbrev N_law_is_int : List Str := ["_law_value"]
abbrev pr_law_is_int : List Str := ["_law_value"]
theorem sc_law_is_int : FnScope N_law_is_int pr_law_is_int (defScope s_law_is_int) := ⟨rfl, rfl, rfl, by decide +kernel, rfl, by decide +kernel, by decide +kernel⟩
theorem ok_law_is_int {f : Addr} {fd : FuncData} (F : Fun K "_law_is_int" "_law_is_int" s_law_is_int f fd) (T : Txt K mg tB bC wC) : FnOk P w K mg base CX0 1 f fd pr_law_is_int (spD ⟨K, bC, wC⟩ false m_law_is_int) :=
  def_ok F sc_law_is_int (by decide) (fun z => nomatch z) (fun cdv A outer s H E hr =>
    (es_one (es_ret (ev_and (ev_isi "int" (by decide) rfl (by rfl) T.z_isinstance (ev_var 0) (pe_bltn (by rfl) T.z_int (by decide +kernel) rfl)) (ev_and (ev_notBl (ev_var 0)) (ev_one (ev_notBl (ev_var 0))))))))
abbrev s_law_made : Stmt := topS 29
abbrev N_law_made : List Str := ["_law_seed", "_law_low", "_law_width", "_law_mark"]
abbrev pr_law_made : List Str := ["_law_seed"]
theorem sc_law_made : FnScope N_law_made pr_law_made (defScope s_law_made) := ⟨rfl, rfl, rfl, by decide +kernel, rfl, by decide +kernel, by decide +kernel⟩
theorem ok_law_made {f : Addr} {fd : FuncData} (F : Fun K "_law_made" "_law_made" s_law_made f fd) (T : Txt K mg tB bC wC) : FnOk P w K mg base CX0 1 f fd pr_law_made (spD ⟨K, bC, wC⟩ false m_law_made) :=
  def_ok F sc_law_made (by decide) (fun z => nomatch z) (fun cdv A outer s H E hr =>
    (es_cons (es_asg (g := gName 1) (ps_set (i := 1) sc_law_made.nd rfl (Or.inl rfl) (ev_sub (ev_mod (ev_fdiv (ev_var 0) ev_int) ev_int) ev_int)))
    (es_cons (es_if (et_eq rfl hr.units (ev_mod (ev_var 0) ev_int) ev_int)
      (es_one (es_asg (g := gName 1) (ps_set (i := 1) sc_law_made.nd rfl (Or.inl rfl) (ev_sub (ev_mod (ev_mul (ev_fdiv (ev_var 0) ev_int) (ev_powc (r := 160042582622774077931272282638733506491753459577065720641) ⟨by decide, by decide, by decide⟩ (by decide +kernel))) (ev_sub (ev_mul ev_int (ev_powc (r := 1000000000000000000000000000000000000000000000000000000000000) ⟨by decide, by decide, by decide⟩ (by decide +kernel))) ev_int)) (ev_sub (ev_powc (r := 1000000000000000000000000000000000000000000000000000000000000) ⟨by decide, by decide, by decide⟩ (by decide +kernel)) ev_int)))))
      es_nil)
    (es_cons (es_asg (g := gName 2) (ps_set (i := 2) sc_law_made.nd rfl (Or.inl rfl) (ev_mod (ev_fdiv (ev_var 0) ev_int) ev_int)))
    (es_cons (es_if (et_eq rfl hr.units (ev_mod (ev_fdiv (ev_var 0) ev_int) ev_int) ev_int)
      (es_one (es_asg (g := gName 2) (ps_set (i := 2) sc_law_made.nd rfl (Or.inl rfl) (ev_mod (ev_mul (ev_fdiv (ev_var 0) ev_int) (ev_powc (r := 12968301046749891878822577019301343841127466270386200925841) ⟨by decide, by decide, by decide⟩ (by decide +kernel))) (ev_powc (r := 1000000000000000000000000000000000000000000000000000000000000) ⟨by decide, by decide, by decide⟩ (by decide +kernel))))))
      es_nil)
    (es_cons (es_asg (g := gName 3) (ps_set (i := 3) sc_law_made.nd rfl (Or.inl rfl) (ev_sub (ev_mod (ev_fdiv (ev_var 0) ev_int) ev_int) ev_int)))
    (es_cons (es_if (et_eq rfl hr.units (ev_mod (ev_fdiv (ev_var 0) ev_int) ev_int) ev_int)
      (es_one (es_asg (g := gName 3) (ps_set (i := 3) sc_law_made.nd rfl (Or.inl rfl) (ev_sub (ev_mod (ev_mul (ev_fdiv (ev_var 0) ev_int) (ev_powc (r := 143503601609868434285603076356671071740077383739246066639249) ⟨by decide, by decide, by decide⟩ (by decide +kernel))) (ev_sub (ev_mul ev_int (ev_powc (r := 1000000000000000000000000000000000000000000000000000000000000) ⟨by decide, by decide, by decide⟩ (by decide +kernel))) ev_int)) (ev_sub (ev_powc (r := 1000000000000000000000000000000000000000000000000000000000000) ⟨by decide, by decide, by decide⟩ (by decide +kernel)) ev_int)))))
      es_nil)
    (es_one (es_ret (ev_tup (ea_cons (ev_var 1) (ea_cons (ev_callB kMin2 (call_min2 rfl) (by rfl) T.z_min (by decide +kernel) (ea_cons (ev_add (ev_var 1) (ev_var 2)) (ea_cons (ev_sub (ev_powc (r := 1000000000000000000000000000000000000000000000000000000000000) ⟨by decide, by decide, by decide⟩ (by decide +kernel)) ev_int) ea_nil))) (ea_cons (ev_var 3) ea_nil)))))))))))))
abbrev s_law_tuple_is : Stmt := topS 30
abbrev N_law_tuple_is : List Str := ["_law_found", "_law_due", "_law_part"]
abbrev pr_law_tuple_is : List Str := ["_law_found", "_law_due"]
theorem sc_law_tuple_is : FnScope N_law_tuple_is pr_law_tuple_is (defScope s_law_tuple_is) := ⟨rfl, rfl, rfl, by decide +kernel, rfl, by decide +kernel, by decide +kernel⟩
theorem ok_law_tuple_is {f f0 : Addr} {fd : FuncData} {fd0 : FuncData} (F : Fun K "_law_tuple_is" "_law_tuple_is" s_law_tuple_is f fd) (T : Txt K mg tB bC wC) (o_law_is_int : Own P w K mg base CX0 1 "_law_is_int" f0 fd0 pr_law_is_int (spD ⟨K, bC, wC⟩ false m_law_is_int)) : FnOk P w K mg base CX0 2 f fd pr_law_tuple_is (spD ⟨K, bC, wC⟩ false m_law_tuple_is) :=
  def_ok F sc_law_tuple_is (by decide) (fun z => nomatch z) (fun cdv A outer s H E hr =>
    (es_cons (es_if (PW.pt (ew_or (et_not (et_val (ev_isi "tuple" (by decide) rfl (by rfl) T.z_isinstance (ev_var 0) (pe_bltn (by rfl) T.z_tuple (by decide +kernel) rfl)))) (ew_or1 (et_ne rfl hr.units (ev_var 0) (ev_var 1)))))
      (es_one (es_ret ev_bl))
      es_nil)
    (es_one (es_ret (ev_eq rfl hr.units (ev_callB (kLen rfl) call_len_seq (by rfl) T.z_len (by decide +kernel) (ea_cons (ev_lcT rfl (by exact (by decide : (2 : Nat) < N_law_tuple_is.length)) (pe_lc (own := [("_law_part", 2)]) (g := gName 2) (by rfl) sc_law_tuple_is.nd (pi_tup (ev_var 0)) (blkOk_by (own := [("_law_part", 2)]) (N := N_law_tuple_is) (sc := defScope s_law_tuple_is) (by decide +kernel)) (fun _ _ _ _ _ => (pg_name (i := 2) sc_law_tuple_is.nd rfl (Or.inl rfl))) (fun _ _ _ _ _ => (ec_one (et_val (ev_call o_law_is_int.ok (hr.mono (by decide)) (by rfl) o_law_is_int.gl o_law_is_int.kp o_law_is_int.b pass0 (ea_cons (ev_var 2) ea_nil))))) (fun _ _ _ _ _ => (ev_var 2)))) ea_nil)) (ev_callB (kLen rfl) call_len_seq (by rfl) T.z_len (by decide +kernel) (ea_cons (ev_var 1) ea_nil)))))))
abbrev s_law_list_is : Stmt := topS 31
abbrev N_law_list_is : List Str := ["_law_found", "_law_due", "_law_k"]
abbrev pr_law_list_is : List Str := ["_law_found", "_law_due"]
theorem sc_law_list_is : FnScope N_law_list_is pr_law_list_is (defScope s_law_list_is) := ⟨rfl, rfl, rfl, by decide +kernel, rfl, by decide +kernel, by decide +kernel⟩
theorem ok_law_list_is {f f0 : Addr} {fd : FuncData} {fd0 : FuncData} (F : Fun K "_law_list_is" "_law_list_is" s_law_list_is f fd) (T : Txt K mg tB bC wC) (o_law_tuple_is : Own P w K mg base CX0 2 "_law_tuple_is" f0 fd0 pr_law_tuple_is (spD ⟨K, bC, wC⟩ false m_law_tuple_is)) : FnOk P w K mg base CX0 3 f fd pr_law_list_is (spD ⟨K, bC, wC⟩ false m_law_list_is) :=
  def_ok F sc_law_list_is (by decide) (fun z => nomatch z) (fun cdv A outer s H E hr =>
    (es_cons (es_if (PW.pt (ew_or (et_not (et_val (ev_isi "list" (by decide) rfl (by rfl) T.z_isinstance (ev_var 0) (pe_bltn (by rfl) T.z_list (by decide +kernel) rfl)))) (ew_or1 (et_ne rfl hr.units (ev_callB (kLen rfl) call_len_seq (by rfl) T.z_len (by decide +kernel) (ea_cons (ev_var 0) ea_nil)) (ev_callB (kLen rfl) call_len_seq (by rfl) T.z_len (by decide +kernel) (ea_cons (ev_var 1) ea_nil))))))
      (es_one (es_ret ev_bl))
      es_nil)
    (es_one (es_ret (ev_eq rfl hr.units (ev_callB (kLen rfl) call_len_seq (by rfl) T.z_len (by decide +kernel) (ea_cons (ev_lcR1 (by exact (by decide : (2 : Nat) < N_law_list_is.length)) (pe_lc (own := [("_law_k", 2)]) (g := gName 2) (by rfl) sc_law_list_is.nd (pi_range1 (by rfl) T.z_range (ea_cons (ev_callB (kLen rfl) call_len_seq (by rfl) T.z_len (by decide +kernel) (ea_cons (ev_var 1) ea_nil)) ea_nil)) (blkOk_by (own := [("_law_k", 2)]) (N := N_law_list_is) (sc := defScope s_law_list_is) (by decide +kernel)) (fun _ _ _ _ _ => (pg_name (i := 2) sc_law_list_is.nd rfl (Or.inl rfl))) (fun _ _ _ _ _ => (ec_one (et_not (et_val (ev_call o_law_tuple_is.ok (hr.mono (by decide)) (by rfl) o_law_tuple_is.gl o_law_tuple_is.kp o_law_tuple_is.b pass0 (ea_cons (ev_at rfl (ev_var 0) (ev_var 2)) (ea_cons (ev_at rfl (ev_var 1) (ev_var 2)) ea_nil))))))) (fun _ _ _ _ _ => (ev_var 2)))) ea_nil)) ev_int)))))
abbrev s_law_run : Stmt := topS 32
abbrev N_law_run : List Str := ["_law_seed", "_law_base", "_law_step", "_law_size", "_law_each", "_law_k"]
abbrev pr_law_run : List Str := ["_law_seed"]
theorem sc_law_run : FnScope N_law_run pr_law_run (defScope s_law_run) := ⟨rfl, rfl, rfl, by decide +kernel, rfl, by decide +kernel, by decide +kernel⟩
theorem ok_law_run {f : Addr} {fd : FuncData} (F : Fun K "_law_run" "_law_run" s_law_run f fd) (T : Txt K mg tB bC wC) : FnOk P w K mg base CX0 1 f fd pr_law_run (spD ⟨K, bC, wC⟩ true m_law_run) :=
  def_ok F sc_law_run (by decide) (fun _ ds ρ => ((nn_seq (nn_seq (nn_seq (nn_seq nn_ret)))) : NoNx b_law_run) _ ρ) (fun cdv A outer s H E hr =>
    (es_cons (es_asg (g := gName 1) (ps_set (i := 1) sc_law_run.nd rfl (Or.inr rfl) (ev_sub (ev_mod (ev_var 0) ev_int) ev_int)))
    (es_cons (es_asg (g := gName 2) (ps_set (i := 2) sc_law_run.nd rfl (Or.inr rfl) (ev_mod (ev_fdiv (ev_var 0) ev_int) ev_int)))
    (es_cons (es_asg (g := gName 3) (ps_set (i := 3) sc_law_run.nd rfl (Or.inr rfl) (ev_add ev_int (ev_mod (ev_fdiv (ev_var 0) ev_int) ev_int))))
    (es_cons (es_asg (g := gName 4) (ps_set (i := 4) sc_law_run.nd rfl (Or.inr rfl) (ev_add ev_int (ev_mod (ev_fdiv (ev_var 0) ev_int) ev_int))))
    (es_one (es_ret (ev_lcR1 (by exact (by decide : (5 : Nat) < N_law_run.length)) (pe_lc (own := [("_law_k", 5)]) (g := gName 5) (by rfl) sc_law_run.nd (pi_range1 (by rfl) T.z_range (ea_cons (ev_add (ev_mod (ev_fdiv (ev_var 0) ev_int) ev_int) ev_int) ea_nil)) (blkOk_by (own := [("_law_k", 5)]) (N := N_law_run) (sc := defScope s_law_run) (by decide +kernel)) (fun _ _ _ _ _ => (pg_name (i := 5) sc_law_run.nd rfl (Or.inl rfl))) (fun _ _ _ _ _ => ec_yes) (fun _ _ _ _ _ => (ev_tup (ea_cons (ev_add (ev_var 1) (ev_mul (ev_var 2) (ev_var 5))) (ea_cons (ev_add (ev_add (ev_var 1) (ev_mul (ev_var 2) (ev_var 5))) (ev_mod (ev_var 5) (ev_var 3))) (ea_cons (ev_fdiv (ev_var 5) (ev_var 4)) ea_nil))))))))))))))
abbrev s_law_near : Stmt := topS 33
abbrev N_law_near : List Str := ["_law_seed", "_law_kept", "_law_one"]
abbrev pr_law_near : List Str := ["_law_seed", "_law_kept"]
theorem sc_law_near : FnScope N_law_near pr_law_near (defScope s_law_near) := ⟨rfl, rfl, rfl, by decide +kernel, rfl, by decide +kernel, by decide +kernel⟩
theorem ok_law_near {f : Addr} {fd : FuncData} (F : Fun K "_law_near" "_law_near" s_law_near f fd) (T : Txt K mg tB bC wC) : FnOk P w K mg base CX0 1 f fd pr_law_near (spD ⟨K, bC, wC⟩ false m_law_near) :=
  def_ok F sc_law_near (by decide) (fun z => nomatch z) (fun cdv A outer s H E hr =>
    (es_cons (es_asg (g := gName 2) (ps_set (i := 2) sc_law_near.nd rfl (Or.inl rfl) (ev_at rfl (ev_var 1) (ev_mod (ev_fdiv (ev_var 0) ev_int) (ev_callB (kLen rfl) call_len_seq (by rfl) T.z_len (by decide +kernel) (ea_cons (ev_var 1) ea_nil))))))
    (es_cons (es_if (et_gt (ev_at rfl (ev_var 2) ev_int) ev_int)
      (es_one (es_ret (ev_tup (ea_cons (ev_at rfl (ev_var 2) ev_int) (ea_cons (ev_at rfl (ev_var 2) ev_int) (ea_cons (ev_sub (ev_at rfl (ev_var 2) ev_int) ev_int) ea_nil))))))
      es_nil)
    (es_one (es_ret (ev_tup (ea_cons (ev_at rfl (ev_var 2) ev_int) (ea_cons (ev_at rfl (ev_var 2) ev_int) (ea_cons (ev_add (ev_at rfl (ev_var 2) ev_int) ev_int) ea_nil)))))))))
abbrev s_law_picked : Stmt := topS 34
abbrev N_law_picked : List Str := ["_law_cell", "_law_seed", "_law_kept"]
abbrev pr_law_picked : List Str := ["_law_cell", "_law_seed", "_law_kept"]
theorem sc_law_picked : FnScope N_law_picked pr_law_picked (defScope s_law_picked) := ⟨rfl, rfl, rfl, by decide +kernel, rfl, by decide +kernel, by decide +kernel⟩
theorem ok_law_picked {f f0 f1 f2 : Addr} {fd : FuncData} {fd0 fd1 fd2 : FuncData} (F : Fun K "_law_picked" "_law_picked" s_law_picked f fd) (T : Txt K mg tB bC wC) (o_law_run : Own P w K mg base CX0 1 "_law_run" f0 fd0 pr_law_run (spD ⟨K, bC, wC⟩ true m_law_run)) (o_law_near : Own P w K mg base CX0 1 "_law_near" f1 fd1 pr_law_near (spD ⟨K, bC, wC⟩ false m_law_near)) (o_law_made : Own P w K mg base CX0 1 "_law_made" f2 fd2 pr_law_made (spD ⟨K, bC, wC⟩ false m_law_made)) : FnOk P w K mg base CX0 2 f fd pr_law_picked (spD ⟨K, bC, wC⟩ true m_law_picked) :=
  def_ok F sc_law_picked (by decide) (fun _ ds ρ => ((nn_seq (nn_seq (nn_seq nn_ret))) : NoNx b_law_picked) _ ρ) (fun cdv A outer s H E hr =>
    (es_cons (es_if (PW.pt (ew_and (et_eq rfl hr.units (ev_mod (ev_var 0) ev_int) ev_int) (ew_and1 (et_lt (ev_callB (kLen rfl) call_len_seq (by rfl) T.z_len (by decide +kernel) (ea_cons (ev_var 2) ea_nil)) ev_int))))
      (es_one (es_ret (ev_call o_law_run.ok (hr.mono (by decide)) (by rfl) o_law_run.gl o_law_run.kp o_law_run.b pass0 (ea_cons (ev_var 1) ea_nil))))
      es_nil)
    (es_cons (es_if (PW.pt (ew_and (et_gt (ev_callB (kLen rfl) call_len_seq (by rfl) T.z_len (by decide +kernel) (ea_cons (ev_var 2) ea_nil)) ev_int) (ew_and (et_inT rfl (by rfl) (ev_mod (ev_var 0) ev_int) (ev_tup (ea_cons ev_int (ea_cons ev_int ea_nil)))) (ew_and1 (et_eq rfl hr.units (ev_mod (ev_fdiv (ev_var 1) ev_int) ev_int) ev_int)))))
      (es_one (es_ret (ev_lst (ea_cons (ev_call o_law_near.ok (hr.mono (by decide)) (by rfl) o_law_near.gl o_law_near.kp o_law_near.b pass0 (ea_cons (ev_var 1) (ea_cons (ev_var 2) ea_nil))) ea_nil))))
      es_nil)
    (es_cons (es_if (PW.pt (ew_and (et_gt (ev_mod (ev_var 0) ev_int) ev_int) (ew_and1 (et_gt (ev_callB (kLen rfl) call_len_seq (by rfl) T.z_len (by decide +kernel) (ea_cons (ev_var 2) ea_nil)) ev_int))))
      (es_cons (es_if (et_eq rfl hr.units (ev_mod (ev_var 0) ev_int) ev_int)
        (es_one (es_ret (ev_sl rfl (ev_sl3 rfl (ev_var 2) (eo_some (ev_mod (ev_var 1) ev_int)) eo_none (eo_some ev_int)) eo_none (eo_some ev_int))))
        es_nil)
      (es_one (es_ret (ev_lst (ea_cons (ev_at rfl (ev_var 2) (ev_mod (ev_fdiv (ev_var 1) ev_int) (ev_callB (kLen rfl) call_len_seq (by rfl) T.z_len (by decide +kernel) (ea_cons (ev_var 2) ea_nil)))) ea_nil)))))
      es_nil)
    (es_one (es_ret (ev_lst (ea_cons (ev_call o_law_made.ok (hr.mono (by decide)) (by rfl) o_law_made.gl o_law_made.kp o_law_made.b pass0 (ea_cons (ev_var 1) ea_nil)) ea_nil))))))))
abbrev s_law_big : Stmt := topS 35
abbrev N_law_big : List Str := ["_law_cell", "_law_size", "_law_k"]
abbrev pr_law_big : List Str := ["_law_cell"]
theorem sc_law_big : FnScope N_law_big pr_law_big (defScope s_law_big) := ⟨rfl, rfl, rfl, by decide +kernel, rfl, by decide +kernel, by decide +kernel⟩
theorem ok_law_big {f : Addr} {fd : FuncData} (F : Fun K "_law_big" "_law_big" s_law_big f fd) (T : Txt K mg tB bC wC) : FnOk P w K mg base CX0 1 f fd pr_law_big (spD ⟨K, bC, wC⟩ true m_law_big) :=
  def_ok F sc_law_big (by decide) (fun _ ds ρ => ((nn_seq (nn_seq nn_ret)) : NoNx b_law_big) _ ρ) (fun cdv A outer s H E hr =>
    (es_cons (es_if (et_ne rfl hr.units (ev_mod (ev_fdiv (ev_var 0) ev_int) ev_int) ev_int)
      (es_one (es_ret (ev_lst ea_nil)))
      es_nil)
    (es_cons (es_asg (g := gName 1) (ps_set (i := 1) sc_law_big.nd rfl (Or.inr rfl) (ev_add ev_int (ev_mod (ev_fdiv (ev_var 0) ev_int) ev_int))))
    (es_one (es_ret (ev_lcR1 (by exact (by decide : (2 : Nat) < N_law_big.length)) (pe_lc (own := [("_law_k", 2)]) (g := gName 2) (by rfl) sc_law_big.nd (pi_range1 (by rfl) T.z_range (ea_cons (ev_add ev_int (ev_mod (ev_var 0) ev_int)) ea_nil)) (blkOk_by (own := [("_law_k", 2)]) (N := N_law_big) (sc := defScope s_law_big) (by decide +kernel)) (fun _ _ _ _ _ => (pg_name (i := 2) sc_law_big.nd rfl (Or.inl rfl))) (fun _ _ _ _ _ => ec_yes) (fun _ _ _ _ _ => (ev_tup (ea_cons (ev_sub (ev_mul ev_int (ev_var 2)) ev_int) (ea_cons (ev_add (ev_sub (ev_mul ev_int (ev_var 2)) ev_int) (ev_mod (ev_mul (ev_var 2) (ev_var 2)) (ev_var 1))) (ea_cons (ev_var 2) ea_nil))))))))))))
abbrev s_law_deeds : Stmt := topS 36
abbrev N_law_deeds : List Str := ["_law_script", "_law_at_here", "_law_big_here", "_law_kept", "_law_one", "_law_deeds_here", "_law_k", "_law_other"]
abbrev pr_law_deeds : List Str := ["_law_script", "_law_at_here", "_law_big_here"]
theorem sc_law_deeds : FnScope N_law_deeds pr_law_deeds (defScope s_law_deeds) := ⟨rfl, rfl, rfl, by decide +kernel, rfl, by decide +kernel, by decide +kernel⟩
theorem ok_law_deeds {f f0 : Addr} {fd : FuncData} {fd0 : FuncData} (F : Fun K "_law_deeds" "_law_deeds" s_law_deeds f fd) (T : Txt K mg tB bC wC) (o_law_picked : Own P w K mg base CX0 2 "_law_picked" f0 fd0 pr_law_picked (spD ⟨K, bC, wC⟩ true m_law_picked)) : FnOk P w K mg base CX0 3 f fd pr_law_deeds (spD ⟨K, bC, wC⟩ true m_law_deeds) :=
  def_ok F sc_law_deeds (by decide) (fun _ ds ρ => ((nn_seq (nn_seq (nn_seq nn_ret))) : NoNx b_law_deeds) _ ρ) (fun cdv A outer s H E hr =>
    (es_cons (es_asgF (ps_set (i := 3) sc_law_deeds.nd rfl (Or.inl rfl) (ev_callTy (kListOf rfl) call_list_of (by rfl) T.z_list (by decide +kernel) (ea_cons (ev_var 2) ea_nil))))
    (es_cons (es_asgO (es_lcA rfl (by exact (by decide : (4 : Nat) < N_law_deeds.length)) (ps_setLc (i := 5) (own := [("_law_one", 4)]) (g := gName 4) (by rfl) sc_law_deeds.nd rfl rfl (sw_true rfl rfl rfl (by decide +kernel)) (pi_list (ev_var 2)) (blkOk_by (own := [("_law_one", 4)]) (N := N_law_deeds) (sc := defScope s_law_deeds) (by decide +kernel)) (fun _ _ _ _ _ => (pg_name (i := 4) sc_law_deeds.nd rfl (Or.inl rfl))) (fun _ _ _ _ _ => ec_yes) (fun _ _ _ _ _ => (ev_tup (ea_cons ev_str (ea_cons (ev_var 4) (ea_cons ev_str ea_nil))))))))
    (es_cons (es_forR2 rfl (.one 6) (ps_for PassesOwn.never (by rfl) (pi_range2 (by rfl) T.z_range (ea_cons (ev_var 1) (ea_cons (ev_callB (kLen rfl) call_len_seq (by rfl) T.z_len (by decide +kernel) (ea_cons (ev_var 0) ea_nil)) ea_nil))) (pg_name (i := 6) sc_law_deeds.nd rfl (.inl rfl)) 
      (es_cons (es_forF rfl (.one 4) (ps_for PassesOwn.never (by rfl) (pi_list (ev_call o_law_picked.ok (hr.mono (by decide)) (by rfl) o_law_picked.gl o_law_picked.kp o_law_picked.b pass0 (ea_cons (ev_at rfl (ev_var 0) (ev_var 6)) (ea_cons (ev_add (ev_mul (ev_at rfl (ev_var 0) (ev_var 6)) ev_int) (ev_mul ev_int (ev_var 6))) (ea_cons (ev_var 3) ea_nil))))) (pg_name (i := 4) sc_law_deeds.nd rfl (.inr rfl)) 
        (es_one (es_if (et_inT rfl (by rfl) (ev_mod (ev_at rfl (ev_var 0) (ev_var 6)) ev_int) (ev_tup (ea_cons ev_int (ea_cons ev_int (ea_cons ev_int ea_nil)))))
          (es_cons (es_app 5 (ps_expr (pe_bm PySem.F.plainAttrs_list PySem.F.slot_list_append PySem.F.type_list_append mt_append (pv 5) (pa_cons (ev_tup (ea_cons ev_str (ea_cons (ev_var 4) (ea_cons (ev_if (et_in rfl (hu65 hr) (by rfl) (ev_var 4) (ev_var 3)) ev_str ev_str) ea_nil)))) pa_nil))))
          (es_one (es_asgF (es_lcA rfl (by exact (by decide : (7 : Nat) < N_law_deeds.length)) (ps_setLc (i := 3) (own := [("_law_other", 7)]) (g := gName 7) (by rfl) sc_law_deeds.nd rfl rfl (sw_true rfl rfl rfl (by decide +kernel)) (pi_list (ev_var 3)) (blkOk_by (own := [("_law_other", 7)]) (N := N_law_deeds) (sc := defScope s_law_deeds) (by decide +kernel)) (fun _ _ _ _ _ => (pg_name (i := 7) sc_law_deeds.nd rfl (Or.inl rfl))) (fun _ _ _ _ _ => (ec_one (et_ne rfl hr.units (ev_var 7) (ev_var 4)))) (fun _ _ _ _ _ => (ev_var 7)))))))
          (es_cons (es_app 5 (ps_expr (pe_bm PySem.F.plainAttrs_list PySem.F.slot_list_append PySem.F.type_list_append mt_append (pv 5) (pa_cons (ev_tup (ea_cons ev_str (ea_cons (ev_var 4) (ea_cons (ev_if (et_in rfl (hu65 hr) (by rfl) (ev_var 4) (ev_var 3)) ev_str ev_str) ea_nil)))) pa_nil))))
          (es_one (es_asgF (ps_set (i := 3) sc_law_deeds.nd rfl (Or.inl rfl) (ev_cat (ev_var 3) (ev_rep (ev_lst (ea_cons (ev_var 4) ea_nil)) (ev_callTy kInt1 call_int1 (by rfl) T.z_int (by decide +kernel) (ea_cons (ev_notIn rfl (hu65 hr) (by rfl) (ev_var 4) (ev_var 3)) ea_nil))))))))))))
      (es_one (es_if (et_gt (ev_callB (kLen rfl) call_len_seq (by rfl) T.z_len (by decide +kernel) (ea_cons (ev_var 5) ea_nil)) (ev_add ev_int (ev_callB (kLen rfl) call_len_seq (by rfl) T.z_len (by decide +kernel) (ea_cons (ev_var 2) ea_nil))))
        (es_one es_break)
        es_nil)))))
    (es_one (es_ret (ev_sl rfl (ev_var 5) eo_none (eo_some (ev_add ev_int (ev_callB (kLen rfl) call_len_seq (by rfl) T.z_len (by decide +kernel) (ea_cons (ev_var 2) ea_nil)))))))))))
abbrev s_law_behind : Stmt := topS 37
abbrev N_law_behind : List Str := ["_law_kept", "_law_deed", "_law_one"]
abbrev pr_law_behind : List Str := ["_law_kept", "_law_deed"]
theorem sc_law_behind : FnScope N_law_behind pr_law_behind (defScope s_law_behind) := ⟨rfl, rfl, rfl, by decide +kernel, rfl, by decide +kernel, by decide +kernel⟩
theorem ok_law_behind {f : Addr} {fd : FuncData} (F : Fun K "_law_behind" "_law_behind" s_law_behind f fd) (T : Txt K mg tB bC wC) : FnOk P w K mg base CX0 1 f fd pr_law_behind (spD ⟨K, bC, wC⟩ false m_law_behind) :=
  def_ok F sc_law_behind (by decide) (fun z => nomatch z) (fun cdv A outer s H E hr =>
    (es_cons (es_if (et_ne rfl hr.units (ev_at rfl (ev_var 1) ev_int) ev_str)
      (es_one (es_ret (ev_var 0)))
      es_nil)
    (es_cons (es_if (et_eq rfl hr.units (ev_at rfl (ev_var 1) ev_int) ev_str)
      (es_one (es_ret (ev_callB (kSorted rfl) cr_sorted3 (by rfl) T.z_sorted (by decide +kernel) (ea_cons (ev_cat (ev_var 0) (ev_lst (ea_cons (ev_at rfl (ev_var 1) ev_int) ea_nil))) ea_nil))))
      es_nil)
    (es_one (es_ret (ev_lc rfl (by exact (by decide : (2 : Nat) < N_law_behind.length)) (pe_lc (own := [("_law_one", 2)]) (g := gName 2) (by rfl) sc_law_behind.nd (pi_list (ev_var 0)) (blkOk_by (own := [("_law_one", 2)]) (N := N_law_behind) (sc := defScope s_law_behind) (by decide +kernel)) (fun _ _ _ _ _ => (pg_name (i := 2) sc_law_behind.nd rfl (Or.inl rfl))) (fun _ _ _ _ _ => (ec_one (et_ne rfl hr.units (ev_var 2) (ev_at rfl (ev_var 1) ev_int)))) (fun _ _ _ _ _ => (ev_var 2)))))))))
abbrev s_law_done : Stmt := topS 38
abbrev N_law_done : List Str := ["_law_wood", "_law_deed", "_law_one", "_law_found", "e"]
abbrev pr_law_done : List Str := ["_law_wood", "_law_deed"]
theorem sc_law_done : FnScope N_law_done pr_law_done (defScope s_law_done) := ⟨rfl, rfl, rfl, by decide +kernel, rfl, by decide +kernel, by decide +kernel⟩
theorem ok_law_done {f f0 f1 : Addr} {fd : FuncData} {fd0 fd1 : FuncData} (F : Fun K "_law_done" "_law_done" s_law_done f fd) (T : Txt K mg tB bC wC) {cTwice cMissing cB cS : Addr} (gS : mg "SpanError" = some (.ref cS)) (gT : mg "Twice" = some (.ref cTwice)) (gM : mg "Missing" = some (.ref cMissing)) (gB : mg "BadStretch" = some (.ref cB)) (xP : PySem.W.exmOne K (.ref cTwice) (.ref cS) = some true) (xM : PySem.W.exmOne K (.ref cMissing) (.ref cS) = some true) (fP : ErrF K cTwice cMissing cB cTwice true false) (fM : ErrF K cTwice cMissing cB cMissing false true) (o_Wood_put : OwnM P w K mg base wC (L2.CX P w) 187 "put" f0 fd0 pr_Wood_put (spM ⟨K, bC, wC⟩ (fPut cTwice))) (o_Wood_take : OwnM P w K mg base wC (L2.CX P w) 187 "take" f1 fd1 pr_Wood_take (spM ⟨K, bC, wC⟩ (fTake cMissing))) : FnOk P w K mg base CX0 188 f fd pr_law_done (spM ⟨K, bC, wC⟩ fDone) :=
  F.ok sc_law_done (fun vs H Q E h => spM_len (fun t ds r e => fDone_len e) h) (fun cdv A outer s H vs Q E hr h =>
    ⟨_, pss_cons ((es_asg (g := gName 2) (ps_set (i := 2) sc_law_done.nd rfl (Or.inl rfl) (ev_at rfl (ev_var 1) ev_int))) : ES _ ⟨K, bC, wC⟩ false _ _) (pss_cons (ps_try_as (tb := fun W1 => tIfS (tXt ⟨K, bC, wC⟩ (bVal (eOp dEq (eOp dIx (eVar 1) (eC (.int 0))) (eC (.str "put"))))) (tAsg (tMethE wC "put" (spM ⟨K, bC, wC⟩ (fPut cTwice)) (WE W1) (tVar 0) (tCons (tX ⟨K, bC, wC⟩ false (eOp dIx (eVar 2) (eC (.int 0)))) (tCons (tX ⟨K, bC, wC⟩ false (eOp dIx (eVar 2) (eC (.int 1)))) (tCons (tX ⟨K, bC, wC⟩ false (eOp dIx (eVar 2) (eC (.int 2)))) tNil)))) (gName 3)) (tAsg (tMethE wC "take" (spM ⟨K, bC, wC⟩ (fTake cMissing)) (WE W1) (tVar 0) (tCons (tX ⟨K, bC, wC⟩ false (eOp dIx (eVar 2) (eC (.int 0)))) (tCons (tX ⟨K, bC, wC⟩ false (eOp dIx (eVar 2) (eC (.int 1)))) (tCons (tX ⟨K, bC, wC⟩ false (eOp dIx (eVar 2) (eC (.int 2)))) tNil)))) (gName 3))) (ts := tErr K cTwice cMissing cB (tSays 4 "missing" "twice")) (Wout := fun _ _ _ _ => False) rfl rfl sc_law_done.nd rfl rfl ⟨rfl, by decide, Or.inl gS⟩ takes0
      (fun W1 pn xe tk _ => pss_one (ps_if (et_eq rfl hr.units (ev_at rfl (ev_var 1) ev_int) ev_str) (pss_one (ps_set (i := 3) sc_law_done.nd rfl (Or.inl rfl) (pe_methE (pv 0) T.cl_Wood o_Wood_put.mt o_Wood_put.ok (hr.mono (by decide)) o_Wood_put.b (fun σ => passAt tk σ) (by exact (pa_cons (ev_at rfl (ev_var 2) ev_int) (pa_cons (ev_at rfl (ev_var 2) ev_int) (pa_cons (ev_at rfl (ev_var 2) ev_int) pa_nil))))))) (pss_one (ps_set (i := 3) sc_law_done.nd rfl (Or.inl rfl) (pe_methE (pv 0) T.cl_Wood o_Wood_take.mt o_Wood_take.ok (hr.mono (by decide)) o_Wood_take.b (fun σ => passAt tk σ) (by exact (pa_cons (ev_at rfl (ev_var 2) ev_int) (pa_cons (ev_at rfl (ev_var 2) ev_int) (pa_cons (ev_at rfl (ev_var 2) ev_int) pa_nil)))))))))
      (fun a oe cls d pn hz hf => pss_err fun C bT bM e1 e2 FF => by
        subst e1; subst e2
        exact (says3 (K := K) (pss_cons (ps_if (PW.pt (pw_or (pt_cmpR (op_eqD hr.units) (pe_isE FF.ec hz hf (pv 4) (pe_glob (v := (.ref cTwice)) rfl gT rfl) (fun u h => h) FF.t (by rfl) T.z_isinstance) (pe_isE FF.ec hz hf (pv 4) (pe_glob (v := (.ref cMissing)) rfl gM rfl) (fun u h => h) FF.m (by rfl) T.z_isinstance) (nomark _)) (pw_or (pt_val (pe_isE FF.ec hz hf (pv 4) (pe_glob (v := (.ref cB)) rfl gB rfl) (fun u h => h) FF.b (by rfl) T.z_isinstance)) (pw_or1 (pt_not (pt_val (pe_isE FF.ec hz hf (pv 4) (pe_bltn (v := .ty "ValueError") (by rfl) T.z_ValueError (by decide +kernel) rfl) (fun u h => h) FF.v (by rfl) T.z_isinstance))))))) (pss_one (ps_ret pe_str)) pss_nil) (pss_one (ps_ret (pe_ix (ix_list.or ix_tup) (pe_lst (pa_cons pe_str (pa_cons pe_str pa_nil))) (pe_callTy call_int1 (by rfl) T.z_int (by decide +kernel) (pa_cons (pe_isE FF.ec hz hf (pv 4) (pe_glob (v := (.ref cTwice)) rfl gT rfl) (fun u h => h) FF.t (by rfl) T.z_isinstance) pa_nil)) (by exact fun _ _ => rfl)))))))) (pss_one ((es_ret (ev_repS ev_str (ev_callTy kInt1 call_int1 (by rfl) T.z_int (by decide +kernel) (ea_cons (ev_isN (ev_var 3)) ea_nil)))) : ES _ ⟨K, bC, wC⟩ false _ _))), done_reads rfl xP xM fP fM h⟩)
abbrev s_law : Stmt := topS 39
abbrev N_law : List Str := ["_law_script", "_law_wood", "_law_kept", "_law_k", "_law_deed", "_law_there", "_law_total", "_law_found", "_law_one"]
abbrev pr_law : List Str := ["_law_script"]
theorem sc_law : FnScope N_law pr_law (defScope s_law) := ⟨rfl, rfl, rfl, by decide +kernel, rfl, by decide +kernel, by decide +kernel⟩
theorem ok_law {f f1 f2 f3 f4 f5 f6 f7 f8 f9 f10 f11 : Addr} {fd : FuncData} {fd1 fd2 fd3 fd4 fd5 fd6 fd7 fd8 fd9 fd10 fd11 : FuncData} {fw : Addr} {fdw : FuncData} (F : Fun K "law" "law" s_law f fd) (T : Txt K mg tB bC wC) (c_Wood : OwnW P w K mg base bC wC 1 fw fdw pr_Wood___init__) (o_Wood_total : OwnM P w K mg base wC CX0 183 "total" f1 fd1 pr_Wood_total (spD ⟨K, bC, wC⟩ false m_Wood_total)) (o_law_is_int : Own P w K mg base CX0 1 "_law_is_int" f2 fd2 pr_law_is_int (spD ⟨K, bC, wC⟩ false m_law_is_int)) (o_law_list_is : Own P w K mg base CX0 3 "_law_list_is" f3 fd3 pr_law_list_is (spD ⟨K, bC, wC⟩ false m_law_list_is)) (o_Wood_listed : OwnM P w K mg base wC CX0 183 "listed" f4 fd4 pr_Wood_listed (spD ⟨K, bC, wC⟩ true m_Wood_listed)) (o_law_deeds : Own P w K mg base CX0 3 "_law_deeds" f5 fd5 pr_law_deeds (spD ⟨K, bC, wC⟩ true m_law_deeds)) (o_law_big : Own P w K mg base CX0 1 "_law_big" f6 fd6 pr_law_big (spD ⟨K, bC, wC⟩ true m_law_big)) (o_law_at : Own P w K mg base CX0 1 "_law_at" f7 fd7 pr_law_at (spD ⟨K, bC, wC⟩ false m_law_at)) (o_Wood_keeps : OwnM P w K mg base wC CX0 4 "keeps" f8 fd8 pr_Wood_keeps (spD ⟨K, bC, wC⟩ false m_Wood_keeps)) (o_law_done : Own P w K mg base CX0 188 "_law_done" f9 fd9 pr_law_done (spM ⟨K, bC, wC⟩ fDone)) (o_law_behind : Own P w K mg base CX0 1 "_law_behind" f10 fd10 pr_law_behind (spD ⟨K, bC, wC⟩ false m_law_behind)) (o_law_made : Own P w K mg base CX0 1 "_law_made" f11 fd11 pr_law_made (spD ⟨K, bC, wC⟩ false m_law_made)) : FnOk P w K mg base CX0 189 f fd pr_law (spD ⟨K, bC, wC⟩ false m_law_k06) :=
  def_ok F sc_law (by decide) (fun z => nomatch z) (fun cdv A outer s H E hr =>
    (es_cons (es_newW 1 (ps_set (i := 1) sc_law.nd rfl (Or.inl rfl) (pe_make0 c_Wood.cm c_Wood.ok (hr.mono (by decide)) (by rfl) T.g_Wood c_Wood.b .nil pass0)))
    (es_cons (es_asgW (ps_set (i := 2) sc_law.nd rfl (Or.inl rfl) (ev_lst ea_nil)))
    (es_cons (es_if (PW.pt (ew_or (et_not (et_val (ev_call o_law_list_is.ok (hr.mono (by decide)) (by rfl) o_law_list_is.gl o_law_list_is.kp o_law_list_is.b pass0 (ea_cons (ev_meth0 (by decide) (pe_meth0 (ev_var 1) T.cl_Wood o_Wood_listed.mt o_Wood_listed.ok (hr.mono (by decide)) o_Wood_listed.b .nil pass0)) (ea_cons (ev_lst ea_nil) ea_nil))))) (ew_or (et_not (et_val (ev_call o_law_is_int.ok (hr.mono (by decide)) (by rfl) o_law_is_int.gl o_law_is_int.kp o_law_is_int.b pass0 (ea_cons (ev_meth0 (by decide) (pe_meth0 (ev_var 1) T.cl_Wood o_Wood_total.mt o_Wood_total.ok (hr.mono (by decide)) o_Wood_total.b .nil pass0)) ea_nil)))) (ew_or1 (et_ne rfl hr.units (ev_meth0 (by decide) (pe_meth0 (ev_var 1) T.cl_Wood o_Wood_total.mt o_Wood_total.ok (hr.mono (by decide)) o_Wood_total.b .nil pass0)) ev_int)))))
      (es_one (es_ret ev_bl))
      es_nil)
    (es_cons (es_forE rfl (.many [3, 4]) (ps_for PassesOwn.never (by rfl) (pi_enum (by rfl) T.z_enumerate (pa_cons (ev_call o_law_deeds.ok (hr.mono (by decide)) (by rfl) o_law_deeds.gl o_law_deeds.kp o_law_deeds.b pass0 (ea_cons (ev_var 0) (ea_cons ev_int (ea_cons (ev_call o_law_big.ok (hr.mono (by decide)) (by rfl) o_law_big.gl o_law_big.kp o_law_big.b pass0 (ea_cons (ev_call o_law_at.ok (hr.mono (by decide)) (by rfl) o_law_at.gl o_law_at.kp o_law_at.b pass0 (ea_cons (ev_var 0) (ea_cons ev_int ea_nil))) ea_nil)) ea_nil)))) pa_nil)) (pg_tup (by rfl) (pgs_cons (pg_name (i := 3) sc_law.nd rfl (.inl rfl)) (pgs_cons (pg_name (i := 4) sc_law.nd rfl (.inl rfl)) pgs_nil))) 
      (es_cons (es_if (et_ne rfl hr.units (ev_meth (by decide) (pe_meth (ev_var 1) T.cl_Wood o_Wood_keeps.mt o_Wood_keeps.ok (hr.mono (by decide)) o_Wood_keeps.b .nil pass0 (ea_cons (ev_at rfl (ev_at rfl (ev_var 4) ev_int) ev_int) (ea_cons (ev_at rfl (ev_at rfl (ev_var 4) ev_int) ev_int) (ea_cons (ev_at rfl (ev_at rfl (ev_var 4) ev_int) ev_int) ea_nil))))) (ev_in rfl (hu65 hr) (by rfl) (ev_at rfl (ev_var 4) ev_int) (ev_var 2)))
        (es_one (es_ret ev_bl))
        es_nil)
      (es_cons (es_ifNe 1 (pt_cmpR (op_neD hr.units) (pe_call o_law_done.ok (hr.mono (by decide)) (by rfl) o_law_done.gl o_law_done.kp o_law_done.b .nil pass0 (pa_cons (pv 1) (pa_cons (ev_var 4) pa_nil))) (ev_at rfl (ev_var 4) ev_int) (nomark _))
        (es_one (es_ret ev_bl))
        es_nil)
      (es_cons (es_asgW (ps_set (i := 2) sc_law.nd rfl (Or.inl rfl) (ev_call o_law_behind.ok (hr.mono (by decide)) (by rfl) o_law_behind.gl o_law_behind.kp o_law_behind.b pass0 (ea_cons (ev_var 2) (ea_cons (ev_var 4) ea_nil)))))
      (es_cons (es_if (PW.pt (ew_and (et_eq rfl hr.units (ev_mod (ev_var 3) ev_int) ev_int) (ew_and1 (PW.pt (ew_or (et_ne rfl hr.units (ev_meth0 (by decide) (pe_meth0 (ev_var 1) T.cl_Wood o_Wood_listed.mt o_Wood_listed.ok (hr.mono (by decide)) o_Wood_listed.b .nil pass0)) (ev_var 2)) (ew_or1 (et_ne rfl hr.units (ev_meth0 (by decide) (pe_meth0 (ev_var 1) T.cl_Wood o_Wood_total.mt o_Wood_total.ok (hr.mono (by decide)) o_Wood_total.b .nil pass0)) (ev_callB (kLen rfl) call_len_seq (by rfl) T.z_len (by decide +kernel) (ea_cons (ev_var 2) ea_nil)))))))))
        (es_one (es_ret ev_bl))
        es_nil)
      (es_cons (es_asg (g := gName 5) (ps_set (i := 5) sc_law.nd rfl (Or.inl rfl) (ev_meth (by decide) (pe_meth (ev_var 1) T.cl_Wood o_Wood_keeps.mt o_Wood_keeps.ok (hr.mono (by decide)) o_Wood_keeps.b .nil pass0 (ea_cons (ev_at rfl (ev_at rfl (ev_var 4) ev_int) ev_int) (ea_cons (ev_at rfl (ev_at rfl (ev_var 4) ev_int) ev_int) (ea_cons (ev_at rfl (ev_at rfl (ev_var 4) ev_int) ev_int) ea_nil)))))))
      (es_one (es_if (PW.pt (ew_or (et_not (et_val (ev_isi "bool" (by decide) rfl (by rfl) T.z_isinstance (ev_var 5) (pe_bltn (by rfl) T.z_bool (by decide +kernel) rfl)))) (ew_or1 (et_ne rfl hr.units (ev_var 5) (ev_eq rfl hr.units (ev_at rfl (ev_var 4) ev_int) ev_str)))))
        (es_one (es_ret ev_bl))
        es_nil)))))))))
    (es_cons (es_asg (g := gName 6) (ps_set (i := 6) sc_law.nd rfl (Or.inl rfl) (ev_meth0 (by decide) (pe_meth0 (ev_var 1) T.cl_Wood o_Wood_total.mt o_Wood_total.ok (hr.mono (by decide)) o_Wood_total.b .nil pass0))))
    (es_cons (es_asgO (ps_set (i := 7) sc_law.nd rfl (Or.inl rfl) (ev_meth0 (by decide) (pe_meth0 (ev_var 1) T.cl_Wood o_Wood_listed.mt o_Wood_listed.ok (hr.mono (by decide)) o_Wood_listed.b .nil pass0))))
    (es_cons (es_if (PW.pt (ew_or (et_not (et_val (ev_call o_law_list_is.ok (hr.mono (by decide)) (by rfl) o_law_list_is.gl o_law_list_is.kp o_law_list_is.b pass0 (ea_cons (ev_var 7) (ea_cons (ev_var 2) ea_nil))))) (ew_or (et_not (et_val (ev_call o_law_is_int.ok (hr.mono (by decide)) (by rfl) o_law_is_int.gl o_law_is_int.kp o_law_is_int.b pass0 (ea_cons (ev_var 6) ea_nil)))) (ew_or1 (et_ne rfl hr.units (ev_var 6) (ev_callB (kLen rfl) call_len_seq (by rfl) T.z_len (by decide +kernel) (ea_cons (ev_var 2) ea_nil)))))))
      (es_one (es_ret ev_bl))
      es_nil)
    (es_cons (es_app 7 (ps_expr (pe_bm PySem.F.plainAttrs_list PySem.F.slot_list_append PySem.F.type_list_append mt_append (pv 7) (pa_cons (ev_tup (ea_cons ev_int (ea_cons ev_int (ea_cons ev_int ea_nil)))) pa_nil))))
    (es_cons (es_forF rfl (.one 8) (ps_for PassesOwn.never (by rfl) (pi_list (ev_cat (ev_lcR1 (by exact (by decide : (3 : Nat) < N_law.length)) (pe_lc (own := [("_law_k", 3)]) (g := gName 3) (by rfl) sc_law.nd (pi_range1 (by rfl) T.z_range (ea_cons ev_int ea_nil)) (blkOk_by (own := [("_law_k", 3)]) (N := N_law) (sc := defScope s_law) (by decide +kernel)) (fun _ _ _ _ _ => (pg_name (i := 3) sc_law.nd rfl (Or.inl rfl))) (fun _ _ _ _ _ => ec_yes) (fun _ _ _ _ _ => (ev_call o_law_made.ok (hr.mono (by decide)) (by rfl) o_law_made.gl o_law_made.kp o_law_made.b pass0 (ea_cons (ev_add (ev_mul (ev_call o_law_at.ok (hr.mono (by decide)) (by rfl) o_law_at.gl o_law_at.kp o_law_at.b pass0 (ea_cons (ev_var 0) (ea_cons (ev_var 3) ea_nil))) ev_int) (ev_var 3)) ea_nil))))) (ev_var 2))) (pg_name (i := 8) sc_law.nd rfl (.inl rfl)) 
      (es_one (es_if (et_ne rfl hr.units (ev_meth (by decide) (pe_meth (ev_var 1) T.cl_Wood o_Wood_keeps.mt o_Wood_keeps.ok (hr.mono (by decide)) o_Wood_keeps.b .nil pass0 (ea_cons (ev_at rfl (ev_var 8) ev_int) (ea_cons (ev_at rfl (ev_var 8) ev_int) (ea_cons (ev_at rfl (ev_var 8) ev_int) ea_nil))))) (ev_in rfl (hu65 hr) (by rfl) (ev_var 8) (ev_var 2)))
        (es_one (es_ret ev_bl))
        es_nil))))
    (es_one (es_ret (ev_and (ev_call o_law_list_is.ok (hr.mono (by decide)) (by rfl) o_law_list_is.gl o_law_list_is.kp o_law_list_is.b pass0 (ea_cons (ev_meth0 (by decide) (pe_meth0 (ev_var 1) T.cl_Wood o_Wood_listed.mt o_Wood_listed.ok (hr.mono (by decide)) o_Wood_listed.b .nil pass0)) (ea_cons (ev_var 2) ea_nil))) (ev_one (ev_eq rfl hr.units (ev_var 7) (ev_cat (ev_var 2) (ev_lst (ea_cons (ev_tup (ea_cons ev_int (ea_cons ev_int (ea_cons ev_int ea_nil)))) ea_nil))))))))))))))))))
end
section
theorem all_mk {l : PySem.W.OpenLaw} {w : World} {K : PySem.W.Frag} {h : Heap} {mg : Str → Option Value} {fa bC wC cS cB cTwice cMissing f0 f1 f2 f3 f4 f5 f6 f7 f8 f9 f10 f11 f12 f13 f14 f15 f16 f17 f18 f19 f20 f21 f22 f23 f24 f25 f26 f27 f28 f29 f30 f31 f32 f33 : Addr} {tB : Tok} {od0 an0 : Option Addr} {sl0 : Array (Option Value)} {oc0 kV0 dc0 pm0 cd0 ct0 : Value} {od1 an1 : Option Addr} {sl1 : Array (Option Value)} {oc1 kV1 dc1 pm1 cd1 ct1 : Value} {od2 an2 : Option Addr} {sl2 : Array (Option Value)} {oc2 kV2 dc2 pm2 cd2 ct2 : Value} {od3 an3 : Option Addr} {sl3 : Array (Option Value)} {oc3 kV3 dc3 pm3 cd3 ct3 : Value} {od4 an4 : Option Addr} {sl4 : Array (Option Value)} {oc4 kV4 dc4 pm4 cd4 ct4 : Value} {od5 an5 : Option Addr} {sl5 : Array (Option Value)} {oc5 kV5 dc5 pm5 cd5 ct5 : Value} {od6 an6 : Option Addr} {sl6 : Array (Option Value)} {oc6 kV6 dc6 pm6 cd6 ct6 : Value} {od7 an7 : Option Addr} {sl7 : Array (Option Value)} {oc7 kV7 dc7 pm7 cd7 ct7 : Value} {od8 an8 : Option Addr} {sl8 : Array (Option Value)} {oc8 kV8 dc8 pm8 cd8 ct8 : Value} {od9 an9 : Option Addr} {sl9 : Array (Option Value)} {oc9 kV9 dc9 pm9 cd9 ct9 : Value} {od10 an10 : Option Addr} {sl10 : Array (Option Value)} {oc10 kV10 dc10 pm10 cd10 ct10 : Value} {od11 an11 : Option Addr} {sl11 : Array (Option Value)} {oc11 kV11 dc11 pm11 cd11 ct11 : Value} {od12 an12 : Option Addr} {sl12 : Array (Option Value)} {oc12 kV12 dc12 pm12 cd12 ct12 : Value} {od13 an13 : Option Addr} {sl13 : Array (Option Value)} {oc13 kV13 dc13 pm13 cd13 ct13 : Value} {od14 an14 : Option Addr} {sl14 : Array (Option Value)} {oc14 kV14 dc14 pm14 cd14 ct14 : Value} {od15 an15 : Option Addr} {sl15 : Array (Option Value)} {oc15 kV15 dc15 pm15 cd15 ct15 : Value} {od16 an16 : Option Addr} {sl16 : Array (Option Value)} {oc16 kV16 dc16 pm16 cd16 ct16 : Value} {od17 an17 : Option Addr} {sl17 : Array (Option Value)} {oc17 kV17 dc17 pm17 cd17 ct17 : Value} {od18 an18 : Option Addr} {sl18 : Array (Option Value)} {oc18 kV18 dc18 pm18 cd18 ct18 : Value} {od19 an19 : Option Addr} {sl19 : Array (Option Value)} {oc19 kV19 dc19 pm19 cd19 ct19 : Value} {od20 an20 : Option Addr} {sl20 : Array (Option Value)} {oc20 kV20 dc20 pm20 cd20 ct20 : Value} {od21 an21 : Option Addr} {sl21 : Array (Option Value)} {oc21 kV21 dc21 pm21 cd21 ct21 : Value} {od22 an22 : Option Addr} {sl22 : Array (Option Value)} {oc22 kV22 dc22 pm22 cd22 ct22 : Value} {od23 an23 : Option Addr} {sl23 : Array (Option Value)} {oc23 kV23 dc23 pm23 cd23 ct23 : Value} {od24 an24 : Option Addr} {sl24 : Array (Option Value)} {oc24 kV24 dc24 pm24 cd24 ct24 : Value} {od25 an25 : Option Addr} {sl25 : Array (Option Value)} {oc25 kV25 dc25 pm25 cd25 ct25 : Value} {od26 an26 : Option Addr} {sl26 : Array (Option Value)} {oc26 kV26 dc26 pm26 cd26 ct26 : Value} {od27 an27 : Option Addr} {sl27 : Array (Option Value)} {oc27 kV27 dc27 pm27 cd27 ct27 : Value} {od28 an28 : Option Addr} {sl28 : Array (Option Value)} {oc28 kV28 dc28 pm28 cd28 ct28 : Value} {od29 an29 : Option Addr} {sl29 : Array (Option Value)} {oc29 kV29 dc29 pm29 cd29 ct29 : Value} {od30 an30 : Option Addr} {sl30 : Array (Option Value)} {oc30 kV30 dc30 pm30 cd30 ct30 : Value} {od31 an31 : Option Addr} {sl31 : Array (Option Value)} {oc31 kV31 dc31 pm31 cd31 ct31 : Value} {od32 an32 : Option Addr} {sl32 : Array (Option Value)} {oc32 kV32 dc32 pm32 cd32 ct32 : Value} {od33 an33 : Option Addr} {sl33 : Array (Option Value)} {oc33 kV33 dc33 pm33 cd33 ct33 : Value} (X : K.In h) (G : h.Ns mainGlobals mg) (hfa : mg "law" = some (.ref fa))
    (gBox : PySem.W.nsIn K mainGlobals "Box" = some (some (.ref bC)))
    (pgBox : PySem.W.plainGet K bC Str.empty = true)
    (hdBox : PySem.W.hasDictIn K bC = true)
    (poBox : PySem.W.plainOver K bC = true)
    (saBox : PySem.W.findIn K (.ref bC) "__setattr__" = some (some (.builtin "object.__setattr__")))
    (mkBox : PySem.W.makesIn K bC = true)
    (kcBox : PySem.W.keepIn K (.ref bC) = true)
    (gWood : PySem.W.nsIn K mainGlobals "Wood" = some (some (.ref wC)))
    (pgWood : PySem.W.plainGet K wC Str.empty = true)
    (hdWood : PySem.W.hasDictIn K wC = true)
    (poWood : PySem.W.plainOver K wC = true)
    (saWood : PySem.W.findIn K (.ref wC) "__setattr__" = some (some (.builtin "object.__setattr__")))
    (mkWood : PySem.W.makesIn K wC = true)
    (kcWood : PySem.W.keepIn K (.ref wC) = true)
    (nf_stretch : PySem.W.findIn K (.ref bC) "stretch" = some none)
    (nf_left : PySem.W.findIn K (.ref bC) "left" = some none)
    (nf_right : PySem.W.findIn K (.ref bC) "right" = some none)
    (nf_tall : PySem.W.findIn K (.ref bC) "tall" = some none)
    (nf_reach : PySem.W.findIn K (.ref bC) "reach" = some none)
    (nf__top : PySem.W.findIn K (.ref wC) "_top" = some none)
    (gS : PySem.W.nsIn K mainGlobals "SpanError" = some (some (.ref cS)))
    (bS : PySem.W.subIn K (.ref cS) (.type "BaseException") = some true)
    (hS : PySem.W.hasDictIn K cS = true)
    (tS : PySem.W.typeIn K (.ref cS) = some (.type "type"))
    (gTwice : PySem.W.nsIn K mainGlobals "Twice" = some (some (.ref cTwice)))
    (xTwice : PySem.W.excIn K cTwice [.type "ValueError", .type "Exception", .type "BaseException", .type "object"] "ValueError.__new__" = true)
    (kTwice : PySem.W.keepIn K (.ref cTwice) = true)
    (bTwice : PySem.W.subIn K (.ref cTwice) (.type "BaseException") = some true)
    (tTwice : PySem.W.typeIn K (.ref cTwice) = some (.type "type"))
    (sTwice : PySem.W.subIn K (.ref cTwice) (.ref cS) = some true)
    (gMissing : PySem.W.nsIn K mainGlobals "Missing" = some (some (.ref cMissing)))
    (xMissing : PySem.W.excIn K cMissing [.type "ValueError", .type "Exception", .type "BaseException", .type "object"] "ValueError.__new__" = true)
    (kMissing : PySem.W.keepIn K (.ref cMissing) = true)
    (bMissing : PySem.W.subIn K (.ref cMissing) (.type "BaseException") = some true)
    (tMissing : PySem.W.typeIn K (.ref cMissing) = some (.type "type"))
    (sMissing : PySem.W.subIn K (.ref cMissing) (.ref cS) = some true)
    (gB : PySem.W.nsIn K mainGlobals "BadStretch" = some (some (.ref cB)))
    (hgTwice : PySem.W.findIn K (.ref cTwice) "__getattribute__" = some (some (.builtin "BaseException.__getattribute__")))
    (hkTwice : PySem.W.findIn K (.ref cTwice) "__getattr__" = some none)
    (hdTwice : PySem.W.hasDictIn K cTwice = true)
    (haTwice : PySem.W.findIn K (.ref cTwice) "__class__" = some (some (.builtin "object.__class__")))
    (hmTwice : PySem.W.mroIn K cTwice (.type "object") = some true)
    (hgMissing : PySem.W.findIn K (.ref cMissing) "__getattribute__" = some (some (.builtin "BaseException.__getattribute__")))
    (hkMissing : PySem.W.findIn K (.ref cMissing) "__getattr__" = some none)
    (hdMissing : PySem.W.hasDictIn K cMissing = true)
    (haMissing : PySem.W.findIn K (.ref cMissing) "__class__" = some (some (.builtin "object.__class__")))
    (hmMissing : PySem.W.mroIn K cMissing (.type "object") = some true)
    (hn0 : PySem.W.specialIn K (.builtin "object.__class__") "__get__" = some (some (.builtin "getset_descriptor.__get__")))
    (ht0 : PySem.W.takesIn K (.builtin "object.__class__") = some true)
    (sTM : PySem.W.subIn K (.ref cTwice) (.ref cMissing) = some false)
    (sMT : PySem.W.subIn K (.ref cMissing) (.ref cTwice) = some false)
    (sTT : PySem.W.subIn K (.ref cTwice) (.ref cTwice) = some true)
    (sMM : PySem.W.subIn K (.ref cMissing) (.ref cMissing) = some true)
    (sTB : PySem.W.subIn K (.ref cTwice) (.ref cB) = some false)
    (sMB : PySem.W.subIn K (.ref cMissing) (.ref cB) = some false)
    (sBB : PySem.W.subIn K (.ref cB) (.ref cB) = some true)
    (sTV : PySem.W.subIn K (.ref cTwice) (.type "ValueError") = some true)
    (sMV : PySem.W.subIn K (.ref cMissing) (.type "ValueError") = some true)
    (hdB : PySem.W.hasDictIn K cB = true)
    (tyB : PySem.W.typeIn K (.ref cB) = some (.type "type"))
    (a0 : PySem.W.nsIn K mainGlobals "tall_of" = some (some (.ref f0)))
    (l0 : K.lookup f0 = some ⟨oc0, od0, .func (PySem.W.fnOf "tall_of" "tall_of" (defArgs s_tall_of) (defBody s_tall_of) (defScope s_tall_of) .none kV0 dc0 pm0 an0 cd0 ct0), sl0⟩)
    (c0 : PySem.W.codeIn K cd0 "tall_of" = true)
    (k0 : PySem.W.keepIn K (.ref f0) = true)
    (a1 : PySem.W.nsIn K mainGlobals "reach_over" = some (some (.ref f1)))
    (l1 : K.lookup f1 = some ⟨oc1, od1, .func (PySem.W.fnOf "reach_over" "reach_over" (defArgs s_reach_over) (defBody s_reach_over) (defScope s_reach_over) .none kV1 dc1 pm1 an1 cd1 ct1), sl1⟩)
    (c1 : PySem.W.codeIn K cd1 "reach_over" = true)
    (k1 : PySem.W.keepIn K (.ref f1) = true)
    (a2 : PySem.W.findIn K (.ref bC) "__init__" = some (some (.ref f2)))
    (i2 : PySem.W.isFn K (.ref f2) = true)
    (l2 : K.lookup f2 = some ⟨oc2, od2, .func (PySem.W.fnOf "__init__" "Box.__init__" (defArgs s_Box___init__) (defBody s_Box___init__) (defScope s_Box___init__) .none kV2 dc2 pm2 an2 cd2 ct2), sl2⟩)
    (c2 : PySem.W.codeIn K cd2 "Box.__init__" = true)
    (k2 : PySem.W.keepIn K (.ref f2) = true)
    (a3 : PySem.W.nsIn K mainGlobals "raised_left" = some (some (.ref f3)))
    (l3 : K.lookup f3 = some ⟨oc3, od3, .func (PySem.W.fnOf "raised_left" "raised_left" (defArgs s_raised_left) (defBody s_raised_left) (defScope s_raised_left) .none kV3 dc3 pm3 an3 cd3 ct3), sl3⟩)
    (c3 : PySem.W.codeIn K cd3 "raised_left" = true)
    (k3 : PySem.W.keepIn K (.ref f3) = true)
    (a4 : PySem.W.nsIn K mainGlobals "raised_right" = some (some (.ref f4)))
    (l4 : K.lookup f4 = some ⟨oc4, od4, .func (PySem.W.fnOf "raised_right" "raised_right" (defArgs s_raised_right) (defBody s_raised_right) (defScope s_raised_right) .none kV4 dc4 pm4 an4 cd4 ct4), sl4⟩)
    (c4 : PySem.W.codeIn K cd4 "raised_right" = true)
    (k4 : PySem.W.keepIn K (.ref f4) = true)
    (a5 : PySem.W.nsIn K mainGlobals "balanced" = some (some (.ref f5)))
    (l5 : K.lookup f5 = some ⟨oc5, od5, .func (PySem.W.fnOf "balanced" "balanced" (defArgs s_balanced) (defBody s_balanced) (defScope s_balanced) .none kV5 dc5 pm5 an5 cd5 ct5), sl5⟩)
    (c5 : PySem.W.codeIn K cd5 "balanced" = true)
    (k5 : PySem.W.keepIn K (.ref f5) = true)
    (a6 : PySem.W.nsIn K mainGlobals "has_stretch" = some (some (.ref f6)))
    (l6 : K.lookup f6 = some ⟨oc6, od6, .func (PySem.W.fnOf "has_stretch" "has_stretch" (defArgs s_has_stretch) (defBody s_has_stretch) (defScope s_has_stretch) .none kV6 dc6 pm6 an6 cd6 ct6), sl6⟩)
    (c6 : PySem.W.codeIn K cd6 "has_stretch" = true)
    (k6 : PySem.W.keepIn K (.ref f6) = true)
    (a7 : PySem.W.nsIn K mainGlobals "with_stretch" = some (some (.ref f7)))
    (l7 : K.lookup f7 = some ⟨oc7, od7, .func (PySem.W.fnOf "with_stretch" "with_stretch" (defArgs s_with_stretch) (defBody s_with_stretch) (defScope s_with_stretch) .none kV7 dc7 pm7 an7 cd7 ct7), sl7⟩)
    (c7 : PySem.W.codeIn K cd7 "with_stretch" = true)
    (k7 : PySem.W.keepIn K (.ref f7) = true)
    (a8 : PySem.W.nsIn K mainGlobals "first_stretch" = some (some (.ref f8)))
    (l8 : K.lookup f8 = some ⟨oc8, od8, .func (PySem.W.fnOf "first_stretch" "first_stretch" (defArgs s_first_stretch) (defBody s_first_stretch) (defScope s_first_stretch) .none kV8 dc8 pm8 an8 cd8 ct8), sl8⟩)
    (c8 : PySem.W.codeIn K cd8 "first_stretch" = true)
    (k8 : PySem.W.keepIn K (.ref f8) = true)
    (a9 : PySem.W.nsIn K mainGlobals "without_stretch" = some (some (.ref f9)))
    (l9 : K.lookup f9 = some ⟨oc9, od9, .func (PySem.W.fnOf "without_stretch" "without_stretch" (defArgs s_without_stretch) (defBody s_without_stretch) (defScope s_without_stretch) .none kV9 dc9 pm9 an9 cd9 ct9), sl9⟩)
    (c9 : PySem.W.codeIn K cd9 "without_stretch" = true)
    (k9 : PySem.W.keepIn K (.ref f9) = true)
    (a10 : PySem.W.nsIn K mainGlobals "gather_placed" = some (some (.ref f10)))
    (l10 : K.lookup f10 = some ⟨oc10, od10, .func (PySem.W.fnOf "gather_placed" "gather_placed" (defArgs s_gather_placed) (defBody s_gather_placed) (defScope s_gather_placed) .none kV10 dc10 pm10 an10 cd10 ct10), sl10⟩)
    (c10 : PySem.W.codeIn K cd10 "gather_placed" = true)
    (k10 : PySem.W.keepIn K (.ref f10) = true)
    (a11 : PySem.W.nsIn K mainGlobals "placed_boxes" = some (some (.ref f11)))
    (l11 : K.lookup f11 = some ⟨oc11, od11, .func (PySem.W.fnOf "placed_boxes" "placed_boxes" (defArgs s_placed_boxes) (defBody s_placed_boxes) (defScope s_placed_boxes) .none kV11 dc11 pm11 an11 cd11 ct11), sl11⟩)
    (c11 : PySem.W.codeIn K cd11 "placed_boxes" = true)
    (k11 : PySem.W.keepIn K (.ref f11) = true)
    (a12 : PySem.W.nsIn K mainGlobals "is_whole" = some (some (.ref f12)))
    (l12 : K.lookup f12 = some ⟨oc12, od12, .func (PySem.W.fnOf "is_whole" "is_whole" (defArgs s_is_whole) (defBody s_is_whole) (defScope s_is_whole) .none kV12 dc12 pm12 an12 cd12 ct12), sl12⟩)
    (c12 : PySem.W.codeIn K cd12 "is_whole" = true)
    (k12 : PySem.W.keepIn K (.ref f12) = true)
    (a13 : PySem.W.nsIn K mainGlobals "check_ends" = some (some (.ref f13)))
    (l13 : K.lookup f13 = some ⟨oc13, od13, .func (PySem.W.fnOf "check_ends" "check_ends" (defArgs s_check_ends) (defBody s_check_ends) (defScope s_check_ends) .none kV13 dc13 pm13 an13 cd13 ct13), sl13⟩)
    (c13 : PySem.W.codeIn K cd13 "check_ends" = true)
    (k13 : PySem.W.keepIn K (.ref f13) = true)
    (a14 : PySem.W.nsIn K mainGlobals "stretch_of" = some (some (.ref f14)))
    (l14 : K.lookup f14 = some ⟨oc14, od14, .func (PySem.W.fnOf "stretch_of" "stretch_of" (defArgs s_stretch_of) (defBody s_stretch_of) (defScope s_stretch_of) .none kV14 dc14 pm14 an14 cd14 ct14), sl14⟩)
    (c14 : PySem.W.codeIn K cd14 "stretch_of" = true)
    (k14 : PySem.W.keepIn K (.ref f14) = true)
    (a15 : PySem.W.findIn K (.ref wC) "__init__" = some (some (.ref f15)))
    (i15 : PySem.W.isFn K (.ref f15) = true)
    (l15 : K.lookup f15 = some ⟨oc15, od15, .func (PySem.W.fnOf "__init__" "Wood.__init__" (defArgs s_Wood___init__) (defBody s_Wood___init__) (defScope s_Wood___init__) .none kV15 dc15 pm15 an15 cd15 ct15), sl15⟩)
    (c15 : PySem.W.codeIn K cd15 "Wood.__init__" = true)
    (k15 : PySem.W.keepIn K (.ref f15) = true)
    (a16 : PySem.W.findIn K (.ref wC) "put" = some (some (.ref f16)))
    (i16 : PySem.W.isFn K (.ref f16) = true)
    (l16 : K.lookup f16 = some ⟨oc16, od16, .func (PySem.W.fnOf "put" "Wood.put" (defArgs s_Wood_put) (defBody s_Wood_put) (defScope s_Wood_put) .none kV16 dc16 pm16 an16 cd16 ct16), sl16⟩)
    (c16 : PySem.W.codeIn K cd16 "Wood.put" = true)
    (k16 : PySem.W.keepIn K (.ref f16) = true)
    (a17 : PySem.W.findIn K (.ref wC) "take" = some (some (.ref f17)))
    (i17 : PySem.W.isFn K (.ref f17) = true)
    (l17 : K.lookup f17 = some ⟨oc17, od17, .func (PySem.W.fnOf "take" "Wood.take" (defArgs s_Wood_take) (defBody s_Wood_take) (defScope s_Wood_take) .none kV17 dc17 pm17 an17 cd17 ct17), sl17⟩)
    (c17 : PySem.W.codeIn K cd17 "Wood.take" = true)
    (k17 : PySem.W.keepIn K (.ref f17) = true)
    (a18 : PySem.W.findIn K (.ref wC) "keeps" = some (some (.ref f18)))
    (i18 : PySem.W.isFn K (.ref f18) = true)
    (l18 : K.lookup f18 = some ⟨oc18, od18, .func (PySem.W.fnOf "keeps" "Wood.keeps" (defArgs s_Wood_keeps) (defBody s_Wood_keeps) (defScope s_Wood_keeps) .none kV18 dc18 pm18 an18 cd18 ct18), sl18⟩)
    (c18 : PySem.W.codeIn K cd18 "Wood.keeps" = true)
    (k18 : PySem.W.keepIn K (.ref f18) = true)
    (a19 : PySem.W.findIn K (.ref wC) "listed" = some (some (.ref f19)))
    (i19 : PySem.W.isFn K (.ref f19) = true)
    (l19 : K.lookup f19 = some ⟨oc19, od19, .func (PySem.W.fnOf "listed" "Wood.listed" (defArgs s_Wood_listed) (defBody s_Wood_listed) (defScope s_Wood_listed) .none kV19 dc19 pm19 an19 cd19 ct19), sl19⟩)
    (c19 : PySem.W.codeIn K cd19 "Wood.listed" = true)
    (k19 : PySem.W.keepIn K (.ref f19) = true)
    (a20 : PySem.W.findIn K (.ref wC) "total" = some (some (.ref f20)))
    (i20 : PySem.W.isFn K (.ref f20) = true)
    (l20 : K.lookup f20 = some ⟨oc20, od20, .func (PySem.W.fnOf "total" "Wood.total" (defArgs s_Wood_total) (defBody s_Wood_total) (defScope s_Wood_total) .none kV20 dc20 pm20 an20 cd20 ct20), sl20⟩)
    (c20 : PySem.W.codeIn K cd20 "Wood.total" = true)
    (k20 : PySem.W.keepIn K (.ref f20) = true)
    (a21 : PySem.W.nsIn K mainGlobals "_law_at" = some (some (.ref f21)))
    (l21 : K.lookup f21 = some ⟨oc21, od21, .func (PySem.W.fnOf "_law_at" "_law_at" (defArgs s_law_at) (defBody s_law_at) (defScope s_law_at) .none kV21 dc21 pm21 an21 cd21 ct21), sl21⟩)
    (c21 : PySem.W.codeIn K cd21 "_law_at" = true)
    (k21 : PySem.W.keepIn K (.ref f21) = true)
    (a22 : PySem.W.nsIn K mainGlobals "_law_is_int" = some (some (.ref f22)))
    (l22 : K.lookup f22 = some ⟨oc22, od22, .func (PySem.W.fnOf "_law_is_int" "_law_is_int" (defArgs s_law_is_int) (defBody s_law_is_int) (defScope s_law_is_int) .none kV22 dc22 pm22 an22 cd22 ct22), sl22⟩)
    (c22 : PySem.W.codeIn K cd22 "_law_is_int" = true)
    (k22 : PySem.W.keepIn K (.ref f22) = true)
    (a23 : PySem.W.nsIn K mainGlobals "_law_made" = some (some (.ref f23)))
    (l23 : K.lookup f23 = some ⟨oc23, od23, .func (PySem.W.fnOf "_law_made" "_law_made" (defArgs s_law_made) (defBody s_law_made) (defScope s_law_made) .none kV23 dc23 pm23 an23 cd23 ct23), sl23⟩)
    (c23 : PySem.W.codeIn K cd23 "_law_made" = true)
    (k23 : PySem.W.keepIn K (.ref f23) = true)
    (a24 : PySem.W.nsIn K mainGlobals "_law_tuple_is" = some (some (.ref f24)))
    (l24 : K.lookup f24 = some ⟨oc24, od24, .func (PySem.W.fnOf "_law_tuple_is" "_law_tuple_is" (defArgs s_law_tuple_is) (defBody s_law_tuple_is) (defScope s_law_tuple_is) .none kV24 dc24 pm24 an24 cd24 ct24), sl24⟩)
    (c24 : PySem.W.codeIn K cd24 "_law_tuple_is" = true)
    (k24 : PySem.W.keepIn K (.ref f24) = true)
    (a25 : PySem.W.nsIn K mainGlobals "_law_list_is" = some (some (.ref f25)))
    (l25 : K.lookup f25 = some ⟨oc25, od25, .func (PySem.W.fnOf "_law_list_is" "_law_list_is" (defArgs s_law_list_is) (defBody s_law_list_is) (defScope s_law_list_is) .none kV25 dc25 pm25 an25 cd25 ct25), sl25⟩)
    (c25 : PySem.W.codeIn K cd25 "_law_list_is" = true)
    (k25 : PySem.W.keepIn K (.ref f25) = true)
    (a26 : PySem.W.nsIn K mainGlobals "_law_run" = some (some (.ref f26)))
    (l26 : K.lookup f26 = some ⟨oc26, od26, .func (PySem.W.fnOf "_law_run" "_law_run" (defArgs s_law_run) (defBody s_law_run) (defScope s_law_run) .none kV26 dc26 pm26 an26 cd26 ct26), sl26⟩)
    (c26 : PySem.W.codeIn K cd26 "_law_run" = true)
    (k26 : PySem.W.keepIn K (.ref f26) = true)
    (a27 : PySem.W.nsIn K mainGlobals "_law_near" = some (some (.ref f27)))
    (l27 : K.lookup f27 = some ⟨oc27, od27, .func (PySem.W.fnOf "_law_near" "_law_near" (defArgs s_law_near) (defBody s_law_near) (defScope s_law_near) .none kV27 dc27 pm27 an27 cd27 ct27), sl27⟩)
    (c27 : PySem.W.codeIn K cd27 "_law_near" = true)
    (k27 : PySem.W.keepIn K (.ref f27) = true)
    (a28 : PySem.W.nsIn K mainGlobals "_law_picked" = some (some (.ref f28)))
    (l28 : K.lookup f28 = some ⟨oc28, od28, .func (PySem.W.fnOf "_law_picked" "_law_picked" (defArgs s_law_picked) (defBody s_law_picked) (defScope s_law_picked) .none kV28 dc28 pm28 an28 cd28 ct28), sl28⟩)
    (c28 : PySem.W.codeIn K cd28 "_law_picked" = true)
    (k28 : PySem.W.keepIn K (.ref f28) = true)
    (a29 : PySem.W.nsIn K mainGlobals "_law_big" = some (some (.ref f29)))
    (l29 : K.lookup f29 = some ⟨oc29, od29, .func (PySem.W.fnOf "_law_big" "_law_big" (defArgs s_law_big) (defBody s_law_big) (defScope s_law_big) .none kV29 dc29 pm29 an29 cd29 ct29), sl29⟩)
    (c29 : PySem.W.codeIn K cd29 "_law_big" = true)
    (k29 : PySem.W.keepIn K (.ref f29) = true)
    (a30 : PySem.W.nsIn K mainGlobals "_law_deeds" = some (some (.ref f30)))
    (l30 : K.lookup f30 = some ⟨oc30, od30, .func (PySem.W.fnOf "_law_deeds" "_law_deeds" (defArgs s_law_deeds) (defBody s_law_deeds) (defScope s_law_deeds) .none kV30 dc30 pm30 an30 cd30 ct30), sl30⟩)
    (c30 : PySem.W.codeIn K cd30 "_law_deeds" = true)
    (k30 : PySem.W.keepIn K (.ref f30) = true)
    (a31 : PySem.W.nsIn K mainGlobals "_law_behind" = some (some (.ref f31)))
    (l31 : K.lookup f31 = some ⟨oc31, od31, .func (PySem.W.fnOf "_law_behind" "_law_behind" (defArgs s_law_behind) (defBody s_law_behind) (defScope s_law_behind) .none kV31 dc31 pm31 an31 cd31 ct31), sl31⟩)
    (c31 : PySem.W.codeIn K cd31 "_law_behind" = true)
    (k31 : PySem.W.keepIn K (.ref f31) = true)
    (a32 : PySem.W.nsIn K mainGlobals "_law_done" = some (some (.ref f32)))
    (l32 : K.lookup f32 = some ⟨oc32, od32, .func (PySem.W.fnOf "_law_done" "_law_done" (defArgs s_law_done) (defBody s_law_done) (defScope s_law_done) .none kV32 dc32 pm32 an32 cd32 ct32), sl32⟩)
    (c32 : PySem.W.codeIn K cd32 "_law_done" = true)
    (k32 : PySem.W.keepIn K (.ref f32) = true)
    (a33 : PySem.W.nsIn K mainGlobals "law" = some (some (.ref f33)))
    (l33 : K.lookup f33 = some ⟨oc33, od33, .func (PySem.W.fnOf "law" "law" (defArgs s_law) (defBody s_law) (defScope s_law) .none kV33 dc33 pm33 an33 cd33 ct33), sl33⟩)
    (c33 : PySem.W.codeIn K cd33 "law" = true)
    (k33 : PySem.W.keepIn K (.ref f33) = true)
    (vtB : PySem.W.nsIn K mainGlobals "_BEYOND" = some (some (.int 1000000000000000000000000000000000000000000000000000000000000 tB)))
    (z_ValueError : PySem.W.nsIn K mainGlobals "ValueError" = some none)
    (z_bool : PySem.W.nsIn K mainGlobals "bool" = some none)
    (z_enumerate : PySem.W.nsIn K mainGlobals "enumerate" = some none)
    (z_int : PySem.W.nsIn K mainGlobals "int" = some none)
    (z_isinstance : PySem.W.nsIn K mainGlobals "isinstance" = some none)
    (z_len : PySem.W.nsIn K mainGlobals "len" = some none)
    (z_list : PySem.W.nsIn K mainGlobals "list" = some none)
    (z_max : PySem.W.nsIn K mainGlobals "max" = some none)
    (z_min : PySem.W.nsIn K mainGlobals "min" = some none)
    (z_range : PySem.W.nsIn K mainGlobals "range" = some none)
    (z_sorted : PySem.W.nsIn K mainGlobals "sorted" = some none)
    (z_tuple : PySem.W.nsIn K mainGlobals "tuple" = some none)
    (z_type : PySem.W.nsIn K mainGlobals "type" = some none) :
    ∃ fd : FuncData, (∀ (s : Shared) (v : Value), BindsTo s fd ⟨[v], []⟩ [("_law_script", v)]) ∧ ∀ base : Heap, K.In base → base.Ns mainGlobals mg → FnOk l.prog w K mg base CX0 189 fa fd ["_law_script"] (spLaw K) := by
  have e := hfa.symm.trans (PySem.W.mg_of X G a33)
  cases e
  have T : Txt K mg tB bC wC := ⟨PySem.W.mg_of X G vtB, PySem.W.mg_none_of X G z_ValueError, PySem.W.mg_none_of X G z_bool, PySem.W.mg_none_of X G z_enumerate, PySem.W.mg_none_of X G z_int, PySem.W.mg_none_of X G z_isinstance, PySem.W.mg_none_of X G z_len, PySem.W.mg_none_of X G z_list, PySem.W.mg_none_of X G z_max, PySem.W.mg_none_of X G z_min, PySem.W.mg_none_of X G z_range, PySem.W.mg_none_of X G z_sorted, PySem.W.mg_none_of X G z_tuple, PySem.W.mg_none_of X G z_type, nf_stretch, nf_left, nf_right, nf_tall, nf_reach, nf__top, ⟨pgBox, hdBox, poBox, saBox⟩, ⟨pgWood, hdWood, poWood, saWood⟩, PySem.W.mg_of X G gBox, PySem.W.mg_of X G gWood⟩
  have XTwice : OwnE K mg "Twice" cTwice := ⟨PySem.W.mg_of X G gTwice, xTwice, kTwice, bTwice, tTwice⟩
  have XMissing : OwnE K mg "Missing" cMissing := ⟨PySem.W.mg_of X G gMissing, xMissing, kMissing, bMissing, tMissing⟩
  have yTwice : PySem.W.exmOne K (.ref cTwice) (.ref cS) = some true := PySem.W.exm_ref bS hS tS sTwice
  have yMissing : PySem.W.exmOne K (.ref cMissing) (.ref cS) = some true := PySem.W.exm_ref bS hS tS sMissing
  have ETwice : ErrF K cTwice cMissing cB cTwice true false := ⟨⟨hgTwice, hkTwice, bTwice, hdTwice, haTwice, hn0, ht0, hmTwice⟩, kit_self, kit_ref hdMissing tMissing sTM (ne_sub sTM sMM), kit_ref hdB tyB sTB (ne_sub sTB sBB), kit_VE sTV⟩
  have EMissing : ErrF K cTwice cMissing cB cMissing false true := ⟨⟨hgMissing, hkMissing, bMissing, hdMissing, haMissing, hn0, ht0, hmMissing⟩, kit_ref hdTwice tTwice sMT (ne_sub sMT sTT), kit_self, kit_ref hdB tyB sMB (ne_sub sMB sBB), kit_VE sMV⟩
  have F0 := fun_mk (st := s_tall_of) l0 c0 k0
  have F1 := fun_mk (st := s_reach_over) l1 c1 k1
  have F2 := fun_mk (st := s_Box___init__) l2 c2 k2
  have F3 := fun_mk (st := s_raised_left) l3 c3 k3
  have F4 := fun_mk (st := s_raised_right) l4 c4 k4
  have F5 := fun_mk (st := s_balanced) l5 c5 k5
  have F6 := fun_mk (st := s_has_stretch) l6 c6 k6
  have F7 := fun_mk (st := s_with_stretch) l7 c7 k7
  have F8 := fun_mk (st := s_first_stretch) l8 c8 k8
  have F9 := fun_mk (st := s_without_stretch) l9 c9 k9
  have F10 := fun_mk (st := s_gather_placed) l10 c10 k10
  have F11 := fun_mk (st := s_placed_boxes) l11 c11 k11
  have F12 := fun_mk (st := s_is_whole) l12 c12 k12
  have F13 := fun_mk (st := s_check_ends) l13 c13 k13
  have F14 := fun_mk (st := s_stretch_of) l14 c14 k14
  have F15 := fun_mk (st := s_Wood___init__) l15 c15 k15
  have F16 := fun_mk (st := s_Wood_put) l16 c16 k16
  have F17 := fun_mk (st := s_Wood_take) l17 c17 k17
  have F18 := fun_mk (st := s_Wood_keeps) l18 c18 k18
  have F19 := fun_mk (st := s_Wood_listed) l19 c19 k19
  have F20 := fun_mk (st := s_Wood_total) l20 c20 k20
  have F21 := fun_mk (st := s_law_at) l21 c21 k21
  have F22 := fun_mk (st := s_law_is_int) l22 c22 k22
  have F23 := fun_mk (st := s_law_made) l23 c23 k23
  have F24 := fun_mk (st := s_law_tuple_is) l24 c24 k24
  have F25 := fun_mk (st := s_law_list_is) l25 c25 k25
  have F26 := fun_mk (st := s_law_run) l26 c26 k26
  have F27 := fun_mk (st := s_law_near) l27 c27 k27
  have F28 := fun_mk (st := s_law_picked) l28 c28 k28
  have F29 := fun_mk (st := s_law_big) l29 c29 k29
  have F30 := fun_mk (st := s_law_deeds) l30 c30 k30
  have F31 := fun_mk (st := s_law_behind) l31 c31 k31
  have F32 := fun_mk (st := s_law_done) l32 c32 k32
  have F33 := fun_mk (st := s_law) l33 c33 k33
  refine ⟨PySem.W.fnOf "law" "law" (defArgs s_law) (defBody s_law) (defScope s_law) .none kV33 dc33 pm33 an33 cd33 ct33, fun s v => .of_eq rfl, fun base _ _ => ?_⟩
  have O0 : Own l.prog w K mg base CX0 1 "tall_of" f0 _ pr_tall_of (spD ⟨K, bC, wC⟩ false m_tall_of) := ⟨ok_tall_of F0 T, PySem.W.mg_of X G a0, k0, (F0.binds fun _ _ _ _ _ _ us hl => match us, hl with | [_], _ => rfl)⟩
  have O1 : Own l.prog w K mg base CX0 1 "reach_over" f1 _ pr_reach_over (spD ⟨K, bC, wC⟩ false m_reach_over) := ⟨ok_reach_over F1 T, PySem.W.mg_of X G a1, k1, (F1.binds fun _ _ _ _ _ _ us hl => match us, hl with | [_, _, _], _ => rfl)⟩
  have O2 : OwnB l.prog w K mg base bC wC 2 f2 _ pr_Box___init__ := ⟨⟨mkBox, a2, i2, kcBox⟩, ok_Box___init__ F2 T O0 O1, (F2.binds fun _ _ _ _ _ _ us hl => match us, hl with | [_, _, _, _], _ => rfl)⟩
  have O3 : Own l.prog w K mg base CX0 4 "raised_left" f3 _ pr_raised_left (spD ⟨K, bC, wC⟩ false m_raised_left) := ⟨ok_raised_left F3 T O0 O2, PySem.W.mg_of X G a3, k3, (F3.binds fun _ _ _ _ _ _ us hl => match us, hl with | [_, _, _], _ => rfl)⟩
  have O4 : Own l.prog w K mg base CX0 4 "raised_right" f4 _ pr_raised_right (spD ⟨K, bC, wC⟩ false m_raised_right) := ⟨ok_raised_right F4 T O0 O2, PySem.W.mg_of X G a4, k4, (F4.binds fun _ _ _ _ _ _ us hl => match us, hl with | [_, _, _], _ => rfl)⟩
  have O5 : Own l.prog w K mg base CX0 5 "balanced" f5 _ pr_balanced (spD ⟨K, bC, wC⟩ false m_balanced) := ⟨ok_balanced F5 T O0 O3 O4 O2, PySem.W.mg_of X G a5, k5, (F5.binds fun _ _ _ _ _ _ us hl => match us, hl with | [_, _, _], _ => rfl)⟩
  have O6 : Own l.prog w K mg base CX0 1 "has_stretch" f6 _ pr_has_stretch (spD ⟨K, bC, wC⟩ false m_has_stretch) := ⟨ok_has_stretch F6 T, PySem.W.mg_of X G a6, k6, (F6.binds fun _ _ _ _ _ _ us hl => match us, hl with | [_, _], _ => rfl)⟩
  have O7 : Own l.prog w K mg base CX0 186 "with_stretch" f7 _ pr_with_stretch (spD ⟨K, bC, wC⟩ false (m_with_stretch 180)) := ⟨ok_with_stretch F7 T (PySem.W.mg_of X G a7) k7 (F7.binds fun _ _ _ _ _ _ us hl => match us, hl with | [_, _], _ => rfl) O2 O5 180, PySem.W.mg_of X G a7, k7, (F7.binds fun _ _ _ _ _ _ us hl => match us, hl with | [_, _], _ => rfl)⟩
  have O8 : Own l.prog w K mg base CX0 1 "first_stretch" f8 _ pr_first_stretch (spD ⟨K, bC, wC⟩ false m_first_stretch) := ⟨ok_first_stretch F8 T, PySem.W.mg_of X G a8, k8, (F8.binds fun _ _ _ _ _ _ us hl => match us, hl with | [_], _ => rfl)⟩
  have O9 : Own l.prog w K mg base CX0 186 "without_stretch" f9 _ pr_without_stretch (spD ⟨K, bC, wC⟩ false (m_without_stretch 180)) := ⟨ok_without_stretch F9 T (PySem.W.mg_of X G a9) k9 (F9.binds fun _ _ _ _ _ _ us hl => match us, hl with | [_, _], _ => rfl) O5 O8 180, PySem.W.mg_of X G a9, k9, (F9.binds fun _ _ _ _ _ _ us hl => match us, hl with | [_, _], _ => rfl)⟩
  have O10 : Own l.prog w K mg base CX0 181 "gather_placed" f10 _ pr_gather_placed (spG ⟨K, bC, wC⟩ (gPlaced 180)) := ⟨ok_gather_placed F10 T (PySem.W.mg_of X G a10) k10 (F10.binds fun _ _ _ _ _ _ us hl => match us, hl with | [_, _, _], _ => rfl) 180, PySem.W.mg_of X G a10, k10, (F10.binds fun _ _ _ _ _ _ us hl => match us, hl with | [_, _, _], _ => rfl)⟩
  have O11 : Own l.prog w K mg base CX0 182 "placed_boxes" f11 _ pr_placed_boxes (spD ⟨K, bC, wC⟩ true m_placed_boxes) := ⟨ok_placed_boxes F11 T O10, PySem.W.mg_of X G a11, k11, (F11.binds fun _ _ _ _ _ _ us hl => match us, hl with | [_], _ => rfl)⟩
  have O12 : Own l.prog w K mg base CX0 1 "is_whole" f12 _ pr_is_whole (spD ⟨K, bC, wC⟩ false m_is_whole) := ⟨ok_is_whole F12 T, PySem.W.mg_of X G a12, k12, (F12.binds fun _ _ _ _ _ _ us hl => match us, hl with | [_], _ => rfl)⟩
  have O13 : Own l.prog w K mg base CX0 2 "check_ends" f13 _ pr_check_ends (spD ⟨K, bC, wC⟩ false m_check_ends) := ⟨ok_check_ends F13 T O12, PySem.W.mg_of X G a13, k13, (F13.binds fun _ _ _ _ _ _ us hl => match us, hl with | [_, _], _ => rfl)⟩
  have O14 : Own l.prog w K mg base CX0 3 "stretch_of" f14 _ pr_stretch_of (spD ⟨K, bC, wC⟩ false m_stretch_of) := ⟨ok_stretch_of F14 T O13 O12, PySem.W.mg_of X G a14, k14, (F14.binds fun _ _ _ _ _ _ us hl => match us, hl with | [_, _, _], _ => rfl)⟩
  have O15 : OwnW l.prog w K mg base bC wC 1 f15 _ pr_Wood___init__ := ⟨⟨mkWood, a15, i15, kcWood⟩, ok_Wood___init__ F15 T, (F15.binds fun _ _ _ _ _ _ us hl => match us, hl with | [_], _ => rfl)⟩
  have O16 : OwnM l.prog w K mg base wC (L2.CX l.prog w) 187 "put" f16 _ pr_Wood_put (spM ⟨K, bC, wC⟩ (fPut cTwice)) := ⟨⟨a16, i16, k16⟩, ok_Wood_put F16 T XTwice O14 O6 O7, (F16.binds fun _ _ _ _ _ _ us hl => match us, hl with | [_, _, _, _], _ => rfl)⟩
  have O17 : OwnM l.prog w K mg base wC (L2.CX l.prog w) 187 "take" f17 _ pr_Wood_take (spM ⟨K, bC, wC⟩ (fTake cMissing)) := ⟨⟨a17, i17, k17⟩, ok_Wood_take F17 T XMissing O14 O6 O9, (F17.binds fun _ _ _ _ _ _ us hl => match us, hl with | [_, _, _, _], _ => rfl)⟩
  have O18 : OwnM l.prog w K mg base wC CX0 4 "keeps" f18 _ pr_Wood_keeps (spD ⟨K, bC, wC⟩ false m_Wood_keeps) := ⟨⟨a18, i18, k18⟩, ok_Wood_keeps F18 T O6 O14, (F18.binds fun _ _ _ _ _ _ us hl => match us, hl with | [_, _, _, _], _ => rfl)⟩
  have O19 : OwnM l.prog w K mg base wC CX0 183 "listed" f19 _ pr_Wood_listed (spD ⟨K, bC, wC⟩ true m_Wood_listed) := ⟨⟨a19, i19, k19⟩, ok_Wood_listed F19 T O11, (F19.binds fun _ _ _ _ _ _ us hl => match us, hl with | [_], _ => rfl)⟩
  have O20 : OwnM l.prog w K mg base wC CX0 183 "total" f20 _ pr_Wood_total (spD ⟨K, bC, wC⟩ false m_Wood_total) := ⟨⟨a20, i20, k20⟩, ok_Wood_total F20 T O11, (F20.binds fun _ _ _ _ _ _ us hl => match us, hl with | [_], _ => rfl)⟩
  have O21 : Own l.prog w K mg base CX0 1 "_law_at" f21 _ pr_law_at (spD ⟨K, bC, wC⟩ false m_law_at) := ⟨ok_law_at F21 T, PySem.W.mg_of X G a21, k21, (F21.binds fun _ _ _ _ _ _ us hl => match us, hl with | [_, _], _ => rfl)⟩
  have O22 : Own l.prog w K mg base CX0 1 "_law_is_int" f22 _ pr_law_is_int (spD ⟨K, bC, wC⟩ false m_law_is_int) := ⟨ok_law_is_int F22 T, PySem.W.mg_of X G a22, k22, (F22.binds fun _ _ _ _ _ _ us hl => match us, hl with | [_], _ => rfl)⟩
  have O23 : Own l.prog w K mg base CX0 1 "_law_made" f23 _ pr_law_made (spD ⟨K, bC, wC⟩ false m_law_made) := ⟨ok_law_made F23 T, PySem.W.mg_of X G a23, k23, (F23.binds fun _ _ _ _ _ _ us hl => match us, hl with | [_], _ => rfl)⟩
  have O24 : Own l.prog w K mg base CX0 2 "_law_tuple_is" f24 _ pr_law_tuple_is (spD ⟨K, bC, wC⟩ false m_law_tuple_is) := ⟨ok_law_tuple_is F24 T O22, PySem.W.mg_of X G a24, k24, (F24.binds fun _ _ _ _ _ _ us hl => match us, hl with | [_, _], _ => rfl)⟩
  have O25 : Own l.prog w K mg base CX0 3 "_law_list_is" f25 _ pr_law_list_is (spD ⟨K, bC, wC⟩ false m_law_list_is) := ⟨ok_law_list_is F25 T O24, PySem.W.mg_of X G a25, k25, (F25.binds fun _ _ _ _ _ _ us hl => match us, hl with | [_, _], _ => rfl)⟩
  have O26 : Own l.prog w K mg base CX0 1 "_law_run" f26 _ pr_law_run (spD ⟨K, bC, wC⟩ true m_law_run) := ⟨ok_law_run F26 T, PySem.W.mg_of X G a26, k26, (F26.binds fun _ _ _ _ _ _ us hl => match us, hl with | [_], _ => rfl)⟩
  have O27 : Own l.prog w K mg base CX0 1 "_law_near" f27 _ pr_law_near (spD ⟨K, bC, wC⟩ false m_law_near) := ⟨ok_law_near F27 T, PySem.W.mg_of X G a27, k27, (F27.binds fun _ _ _ _ _ _ us hl => match us, hl with | [_, _], _ => rfl)⟩
  have O28 : Own l.prog w K mg base CX0 2 "_law_picked" f28 _ pr_law_picked (spD ⟨K, bC, wC⟩ true m_law_picked) := ⟨ok_law_picked F28 T O26 O27 O23, PySem.W.mg_of X G a28, k28, (F28.binds fun _ _ _ _ _ _ us hl => match us, hl with | [_, _, _], _ => rfl)⟩
  have O29 : Own l.prog w K mg base CX0 1 "_law_big" f29 _ pr_law_big (spD ⟨K, bC, wC⟩ true m_law_big) := ⟨ok_law_big F29 T, PySem.W.mg_of X G a29, k29, (F29.binds fun _ _ _ _ _ _ us hl => match us, hl with | [_], _ => rfl)⟩
  have O30 : Own l.prog w K mg base CX0 3 "_law_deeds" f30 _ pr_law_deeds (spD ⟨K, bC, wC⟩ true m_law_deeds) := ⟨ok_law_deeds F30 T O28, PySem.W.mg_of X G a30, k30, (F30.binds fun _ _ _ _ _ _ us hl => match us, hl with | [_, _, _], _ => rfl)⟩
  have O31 : Own l.prog w K mg base CX0 1 "_law_behind" f31 _ pr_law_behind (spD ⟨K, bC, wC⟩ false m_law_behind) := ⟨ok_law_behind F31 T, PySem.W.mg_of X G a31, k31, (F31.binds fun _ _ _ _ _ _ us hl => match us, hl with | [_, _], _ => rfl)⟩
  have O32 : Own l.prog w K mg base CX0 188 "_law_done" f32 _ pr_law_done (spM ⟨K, bC, wC⟩ fDone) := ⟨ok_law_done F32 T (PySem.W.mg_of X G gS) XTwice.g XMissing.g (PySem.W.mg_of X G gB) yTwice yMissing ETwice EMissing O16 O17, PySem.W.mg_of X G a32, k32, (F32.binds fun _ _ _ _ _ _ us hl => match us, hl with | [_, _], _ => rfl)⟩
  exact law_imp (fun ns hl hB => true_k06 hl hB) (ok_law F33 T O15 O20 O22 O25 O19 O30 O29 O21 O18 O32 O31 O23)
theorem walk {l : PySem.W.OpenLaw} {q : Program} {loose : List Str} {XP : (Str → Option Value) → Heap → Prop} {YP : World → Heap → Prop} {d : DefRec} {K : Params → PySem.W.Frag} (hn : l.most = some 63) (hdf : d.params.defaults = [])
    (hY : ∀ (w : World) (h : Heap), YP w h → (K w.params).In h)
    (F : ∀ (w : World) (mg : Str → Option Value) (fa : Addr) (h : Heap), (K w.params).In h → h.Ns mainGlobals mg → mg d.name = some (.ref fa) →
      ∃ fd : FuncData, (∀ (s : Shared) (u : Value), BindsTo s fd ⟨[u], []⟩ [("_law_script", u)]) ∧ ∀ base : Heap, (K w.params).In base → base.Ns mainGlobals mg → FnOk l.prog w (K w.params) mg base CX0 189 fa fd ["_law_script"] (spLaw (K w.params))) :
    PySem.W.WalkO q loose XP YP l.row.toRowW d [] (fun f vs => PySem.call f vs) :=
  L2.walk_ofB (n := 63) (k := 189) (x := "_law_script") (CX := fun _ => CX0) (sp := fun w => spLaw (K w.params)) hn (by decide) hdf ⟨rfl, by decide, by decide⟩ hY F (fun _ _ a ns hl hb _ hS => ⟨a, ns, rfl, hS, hl, hb, fun _ => rfl⟩) fun _ _ _ _ _ z => z
end
end
end Sp
open PySem PySem.W PyProof.Rows
set_option maxRecDepth 100000 in
set_option maxHeartbeats 0 in
theorem PySem.Challenge.cw_spanforest_k06_kept_and_not_holds : PySem.Challenge.rw_spanforest_k06_kept_and_not.Holds := by
  w_on; o_law; k_head; (case hw => w_witness2)
  k_fill
  refine Sp.walk (l := PySem.Challenge.rw_spanforest_k06_kept_and_not) rfl rfl (fun w h Y => PySem.W.kIn_of Y) ?F
  case F =>
    intro w mg fa h KX G hmg
    refine' Sp.all_mk KX G hmg ?gBox ?pgBox ?hdBox ?poBox ?saBox ?mkBox ?kcBox ?gWood ?pgWood ?hdWood ?poWood ?saWood ?mkWood ?kcWood ?nf_stretch ?nf_left ?nf_right ?nf_tall ?nf_reach ?nf__top ?gS ?bS ?hS ?tS ?gTwice ?xTwice ?kTwice ?bTwice ?tTwice ?sTwice ?gMissing ?xMissing ?kMissing ?bMissing ?tMissing ?sMissing ?gB ?hgTwice ?hkTwice ?hdTwice ?haTwice ?hmTwice ?hgMissing ?hkMissing ?hdMissing ?haMissing ?hmMissing ?hn0 ?ht0 ?sTM ?sMT ?sTT ?sMM ?sTB ?sMB ?sBB ?sTV ?sMV ?hdB ?tyB ?a0 ?l0 ?c0 ?k0 ?a1 ?l1 ?c1 ?k1 ?a2 ?i2 ?l2 ?c2 ?k2 ?a3 ?l3 ?c3 ?k3 ?a4 ?l4 ?c4 ?k4 ?a5 ?l5 ?c5 ?k5 ?a6 ?l6 ?c6 ?k6 ?a7 ?l7 ?c7 ?k7 ?a8 ?l8 ?c8 ?k8 ?a9 ?l9 ?c9 ?k9 ?a10 ?l10 ?c10 ?k10 ?a11 ?l11 ?c11 ?k11 ?a12 ?l12 ?c12 ?k12 ?a13 ?l13 ?c13 ?k13 ?a14 ?l14 ?c14 ?k14 ?a15 ?i15 ?l15 ?c15 ?k15 ?a16 ?i16 ?l16 ?c16 ?k16 ?a17 ?i17 ?l17 ?c17 ?k17 ?a18 ?i18 ?l18 ?c18 ?k18 ?a19 ?i19 ?l19 ?c19 ?k19 ?a20 ?i20 ?l20 ?c20 ?k20 ?a21 ?l21 ?c21 ?k21 ?a22 ?l22 ?c22 ?k22 ?a23 ?l23 ?c23 ?k23 ?a24 ?l24 ?c24 ?k24 ?a25 ?l25 ?c25 ?k25 ?a26 ?l26 ?c26 ?k26 ?a27 ?l27 ?c27 ?k27 ?a28 ?l28 ?c28 ?k28 ?a29 ?l29 ?c29 ?k29 ?a30 ?l30 ?c30 ?k30 ?a31 ?l31 ?c31 ?k31 ?a32 ?l32 ?c32 ?k32 ?a33 ?l33 ?c33 ?k33 ?vtB ?z_ValueError ?z_bool ?z_enumerate ?z_int ?z_isinstance ?z_len ?z_list ?z_max ?z_min ?z_range ?z_sorted ?z_tuple ?z_type
    (case gBox => k_is)
    (case pgBox => k_is)
    (case hdBox => k_is)
    (case poBox => k_is)
    (case saBox => k_is)
    (case mkBox => k_is)
    (case kcBox => k_is)
    (case gWood => k_is)
    (case pgWood => k_is)
    (case hdWood => k_is)
    (case poWood => k_is)
    (case saWood => k_is)
    (case mkWood => k_is)
    (case kcWood => k_is)
    (case nf_stretch => k_is)
    (case nf_left => k_is)
    (case nf_right => k_is)
    (case nf_tall => k_is)
    (case nf_reach => k_is)
    (case nf__top => k_is)
    (case gS => k_is)
    (case bS => k_is)
    (case hS => k_is)
    (case tS => k_is)
    (case gTwice => k_is)
    (case xTwice => k_exc)
    (case kTwice => k_is)
    (case bTwice => k_is)
    (case tTwice => k_is)
    (case sTwice => k_is)
    (case gMissing => k_is)
    (case xMissing => k_exc)
    (case kMissing => k_is)
    (case bMissing => k_is)
    (case tMissing => k_is)
    (case sMissing => k_is)
    (case gB => k_is)
    (case hgTwice => k_is)
    (case hkTwice => k_is)
    (case hdTwice => k_is)
    (case haTwice => k_is)
    (case hmTwice => k_is)
    (case hgMissing => k_is)
    (case hkMissing => k_is)
    (case hdMissing => k_is)
    (case haMissing => k_is)
    (case hmMissing => k_is)
    (case hn0 => k_is)
    (case ht0 => k_is)
    (case sTM => k_is)
    (case sMT => k_is)
    (case sTT => k_is)
    (case sMM => k_is)
    (case sTB => k_is)
    (case sMB => k_is)
    (case sBB => k_is)
    (case sTV => k_is)
    (case sMV => k_is)
    (case hdB => k_is)
    (case tyB => k_is)
    (case a0 => k_is)
    (case l0 => k_is)
    (case c0 => k_is)
    (case k0 => k_is)
    (case a1 => k_is)
    (case l1 => k_is)
    (case c1 => k_is)
    (case k1 => k_is)
    (case a2 => k_is)
    (case i2 => k_is)
    (case l2 => k_is)
    (case c2 => k_is)
    (case k2 => k_is)
    (case a3 => k_is)
    (case l3 => k_is)
    (case c3 => k_is)
    (case k3 => k_is)
    (case a4 => k_is)
    (case l4 => k_is)
    (case c4 => k_is)
    (case k4 => k_is)
    (case a5 => k_is)
    (case l5 => k_is)
    (case c5 => k_is)
    (case k5 => k_is)
    (case a6 => k_is)
    (case l6 => k_is)
    (case c6 => k_is)
    (case k6 => k_is)
    (case a7 => k_is)
    (case l7 => k_is)
    (case c7 => k_is)
    (case k7 => k_is)
    (case a8 => k_is)
    (case l8 => k_is)
    (case c8 => k_is)
    (case k8 => k_is)
    (case a9 => k_is)
    (case l9 => k_is)
    (case c9 => k_is)
    (case k9 => k_is)
    (case a10 => k_is)
    (case l10 => k_is)
    (case c10 => k_is)
    (case k10 => k_is)
    (case a11 => k_is)
    (case l11 => k_is)
    (case c11 => k_is)
    (case k11 => k_is)
    (case a12 => k_is)
    (case l12 => k_is)
    (case c12 => k_is)
    (case k12 => k_is)
    (case a13 => k_is)
    (case l13 => k_is)
    (case c13 => k_is)
    (case k13 => k_is)
    (case a14 => k_is)
    (case l14 => k_is)
    (case c14 => k_is)
    (case k14 => k_is)
    (case a15 => k_is)
    (case i15 => k_is)
    (case l15 => k_is)
    (case c15 => k_is)
    (case k15 => k_is)
    (case a16 => k_is)
    (case i16 => k_is)
    (case l16 => k_is)
    (case c16 => k_is)
    (case k16 => k_is)
    (case a17 => k_is)
    (case i17 => k_is)
    (case l17 => k_is)
    (case c17 => k_is)
    (case k17 => k_is)
    (case a18 => k_is)
    (case i18 => k_is)
    (case l18 => k_is)
    (case c18 => k_is)
    (case k18 => k_is)
    (case a19 => k_is)
    (case i19 => k_is)
    (case l19 => k_is)
    (case c19 => k_is)
    (case k19 => k_is)
    (case a20 => k_is)
    (case i20 => k_is)
    (case l20 => k_is)
    (case c20 => k_is)
    (case k20 => k_is)
    (case a21 => k_is)
    (case l21 => k_is)
    (case c21 => k_is)
    (case k21 => k_is)
    (case a22 => k_is)
    (case l22 => k_is)
    (case c22 => k_is)
    (case k22 => k_is)
    (case a23 => k_is)
    (case l23 => k_is)
    (case c23 => k_is)
    (case k23 => k_is)
    (case a24 => k_is)
    (case l24 => k_is)
    (case c24 => k_is)
    (case k24 => k_is)
    (case a25 => k_is)
    (case l25 => k_is)
    (case c25 => k_is)
    (case k25 => k_is)
    (case a26 => k_is)
    (case l26 => k_is)
    (case c26 => k_is)
    (case k26 => k_is)
    (case a27 => k_is)
    (case l27 => k_is)
    (case c27 => k_is)
    (case k27 => k_is)
    (case a28 => k_is)
    (case l28 => k_is)
    (case c28 => k_is)
    (case k28 => k_is)
    (case a29 => k_is)
    (case l29 => k_is)
    (case c29 => k_is)
    (case k29 => k_is)
    (case a30 => k_is)
    (case l30 => k_is)
    (case c30 => k_is)
    (case k30 => k_is)
    (case a31 => k_is)
    (case l31 => k_is)
    (case c31 => k_is)
    (case k31 => k_is)
    (case a32 => k_is)
    (case l32 => k_is)
    (case c32 => k_is)
    (case k32 => k_is)
    (case a33 => k_is)
    (case l33 => k_is)
    (case c33 => k_is)
    (case k33 => k_is)
    (case vtB => k_is)
    (case z_ValueError => k_is)
    (case z_bool => k_is)
    (case z_enumerate => k_is)
    (case z_int => k_is)
    (case z_isinstance => k_is)
    (case z_len => k_is)
    (case z_list => k_is)
    (case z_max => k_is)
    (case z_min => k_is)
    (case z_range => k_is)
    (case z_sorted => k_is)
    (case z_tuple => k_is)
    (case z_type => k_is)
#print axioms PySem.Challenge.cw_spanforest_k06_kept_and_not_holds
