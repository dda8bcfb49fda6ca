import PyProof.Rows.All
import Wide.All
import OpenK.AllK
import Wide.FinOn
import HandS.ForMost
import HandS.Wide
import HandS.Steps
import HandS.StrMore
import HandS.TupAny
import HandS.Style
import HandS.Flow
import HandS.IsInst
import HandS.RaiseMore
import HandS.Gcd
import HandS.EndBits
import HandS.Walk
import PyProof.Rows.StrCut
import KE.KIntText
import HandS.OwnEq
import HandS.Property
import HandS.FStr
import KE.KOpsOwn
import KE.KCallOwn
import HandS.Deep
import PyProof.ReprLen
import HandS.NoneIn
import PySem.Challenge.RW_touchrows_k04_whole_sums_and_products
set_option Elab.async false
set_option linter.all false
set_option maxRecDepth 100000
set_option maxHeartbeats 4000000
/-! U: readings that compute by matching on the values, and a ledger of the objects that a def knows. -/
namespace U
open PySem PySem.Spec PyProof.Rows L2

section mono
variable {X : Cx}
theorem peM {e : Expr} {t t' : TE} (h : PE X e t) (m : ∀ σ H Q, t' σ H Q → t σ H Q) : PE X e t' := ⟨fun pins s σ H Q I q => h.run pins s σ H Q I (m σ H Q q)⟩
theorem ptM {e : Expr} {t t' : TT} (h : PT X e t) (m : ∀ σ H Q, t' σ H Q → t σ H Q) : PT X e t' := ⟨fun pins s σ H Q I q => h.run pins s σ H Q I (m σ H Q q)⟩
theorem pwM {e : Expr} {t t' : TT} (h : PW X e t) (m : ∀ σ H Q, t' σ H Q → t σ H Q) : PW X e t' := ⟨fun wh pins s σ H Q I q => h.run wh pins s σ H Q I (m σ H Q q)⟩
theorem psM {e : Stmt} {t t' : TS} (h : PS X e t) (m : ∀ D σ H, t' D σ H → t D σ H) : PS X e t' := ⟨fun pins s σ H D I q => h.run pins s σ H D I (m D σ H q)⟩
theorem opM {f : Value → Value → Sem Value} {r r' : R2} (h : OpR X f r) (m : ∀ x y H Q, r' x y H Q → r x y H Q) : OpR X f r' := fun pins s σ H x y v u Q I rx ry q => h pins s σ H x y v u Q I rx ry (m x y H Q q)
theorem caM {f : Value} {r r' : List V → Hp → VK → Prop} (h : CallR X f r) (m : ∀ xs H Q, r' xs H Q → r xs H Q) : CallR X f r' := fun pins s σ H xs us Q I r q => h pins s σ H xs us Q I r (m xs H Q q)
end mono

/-- a way of two: by the answer -/
@[irreducible] def br (c : Bool) (A B : Prop) : Prop := if c = true then A else B
theorem brT {A B : Prop} (h : A) : br true A B := by unfold br; exact h
theorem brF {A B : Prop} (h : B) : br false A B := by unfold br; rw [if_neg Bool.false_ne_true]; exact h
theorem brY {c : Bool} {A B : Prop} (e : c = true) (h : A) : br c A B := by subst e; exact brT h
theorem brN {c : Bool} {A B : Prop} (e : c = false) (h : B) : br c A B := by subst e; exact brF h
theorem br2 {c : Bool} {A B : Prop} (h1 : c = true → A) (h2 : c = false → B) : br c A B := by
  cases c with
  | true => exact brT (h1 rfl)
  | false => exact brF (h2 rfl)
theorem brD {p : Prop} [Decidable p] {A B : Prop} (h1 : p → A) (h2 : ¬ p → B) : br (decide p) A B := br2 (fun e => h1 (of_decide_eq_true e)) (fun e => h2 (of_decide_eq_false e))
theorem br_if {c : Bool} {A B : Prop} (h : br c A B) : if c = true then A else B := by unfold br at h; exact h

/-! ### names, choices -/
def uV (i : Nat) : TE := fun σ H Q => match σ[i]? with | some (some v) => Q v H | _ => False
section
variable {X : Cx} {pos : Pos}
theorem pev (i : Nat) {x : Str} {pos : Pos} (hN : X.N[i]? = some x := by rfl) (hv : Vis X.env.scope x := by first | exact Or.inl rfl | exact Or.inr (Or.inl rfl) | exact Or.inr (Or.inr rfl)) (hd : (x == ("__debug__" : Str)) = false := by decide)
    (hcd : (x == ("__classdict__" : Str)) = false := by decide) : PE X (.Name x pos) (uV i) := peM (pv i hN hv hd hcd) fun σ H Q h => by
  unfold uV at h
  split at h
  · exact ⟨_, by assumption, h⟩
  · exact h.elim
def uIf (t : TT) (ta tb : TE) : TE := fun σ H Q => t σ H fun c H1 => br c (ta σ H1 Q) (tb σ H1 Q)
def uIfS (c : TT) (t u : TS) : TS := fun D σ H => c σ H fun b H1 => br b (t D σ H1) (u D σ H1)
def uAnd (t u : TT) : TT := fun σ H Q => t σ H fun c H1 => br c (u σ H1 Q) (Q false H1)
def uOr (t u : TT) : TT := fun σ H Q => t σ H fun c H1 => br c (Q true H1) (u σ H1 Q)
/-- monotone readings of tests -/
structure MT (t : TT) : Prop where
  m : ∀ σ H Q Q', (∀ b H1, Q b H1 → Q' b H1) → t σ H Q → t σ H Q'
end
section
variable {X : Cx} {pos : Pos} {a b c : Expr} {ta tb te : TE} {tc td : TT} {t u : TS} {rest : List Expr} {xs ys : List Stmt}
theorem psIf (hc : PT X c tc) (ha : PSs X xs t) (hb : PSs X ys u) : PS X (.If c xs ys pos) (uIfS tc t u) := ⟨fun p s z H D I h => wpAny_If (thn (hc.run p s z H _ I h) fun k s1 ⟨H1, I1, q⟩ => by
  cases k with
  | true => exact ha.run p s1 z H1 D I1 (by unfold br at q; exact q)
  | false => exact hb.run p s1 z H1 D I1 (by unfold br at q; exact q))⟩
theorem peIf (hc : PT X c tc) (ha : PE X a ta) (hb : PE X b tb) : PE X (.IfExp c a b pos) (uIf tc ta tb) := ⟨fun p s z H Q I h => wpAny_IfExp (thn (hc.run p s z H _ I h) fun k s1 ⟨H1, I1, q⟩ => by
  cases k with
  | true => exact ha.run p s1 z H1 Q I1 (by unfold br at q; exact q)
  | false => exact hb.run p s1 z H1 Q I1 (by unfold br at q; exact q))⟩
theorem pwAnd (ha : PT X a tc) (hb : PW X (.BoolOp .And (b :: rest) pos) td) : PW X (.BoolOp .And (a :: b :: rest) pos) (uAnd tc td) := ⟨fun wh p s z H Q I h => isTrue_and (thn (ha.run p s z H _ I h) fun k s1 ⟨H1, I1, q⟩ => by
  cases k with
  | true => exact hb.run wh p s1 z H1 Q I1 (by unfold br at q; exact q)
  | false => exact ⟨H1, I1, by unfold br at q; exact q⟩)⟩
theorem pwOr (ha : PT X a tc) (hb : PW X (.BoolOp .Or (b :: rest) pos) td) : PW X (.BoolOp .Or (a :: b :: rest) pos) (uOr tc td) := ⟨fun wh p s z H Q I h => isTrue_or (thn (ha.run p s z H _ I h) fun k s1 ⟨H1, I1, q⟩ => by
  cases k with
  | true => exact ⟨H1, I1, by unfold br at q; exact q⟩
  | false => exact hb.run wh p s1 z H1 Q I1 (by unfold br at q; exact q))⟩
/-- and, or, not as values, the members bools -/
def uAndV (ta tb : TE) : TE := fun σ H Q => ta σ H fun x H1 => match x with | .bl k => br k (tb σ H1 Q) (Q (.bl false) H1) | _ => False
def uOrV (ta tb : TE) : TE := fun σ H Q => ta σ H fun x H1 => match x with | .bl k => br k (Q (.bl true) H1) (tb σ H1 Q) | _ => False
def uNotV (ta : TE) : TE := fun σ H Q => ta σ H fun x H1 => match x with | .bl k => Q (.bl (!k)) H1 | _ => False
theorem peAnd (ha : PE X a ta) (hb : PE X (.BoolOp .And (b :: rest) pos) tb) : PE X (.BoolOp .And (a :: b :: rest) pos) (uAndV ta tb) := ⟨fun p s z H Q I h => BoolOp_and (thn (ha.run p s z H _ I h) fun v s1 ⟨x, H1, I1, r1, q⟩ => by
  cases x with
  | bl k =>
    cases r1
    refine wpAny_truthy_bool ?_
    cases k with
    | true => exact hb.run p s1 z H1 Q I1 (by simp only [br] at q; exact q)
    | false => exact ⟨.bl false, H1, I1, rfl, by simp only [br] at q; exact q⟩
  | _ => exact (show False from q).elim)⟩
theorem peOr (ha : PE X a ta) (hb : PE X (.BoolOp .Or (b :: rest) pos) tb) : PE X (.BoolOp .Or (a :: b :: rest) pos) (uOrV ta tb) := ⟨fun p s z H Q I h => BoolOp_or (thn (ha.run p s z H _ I h) fun v s1 ⟨x, H1, I1, r1, q⟩ => by
  cases x with
  | bl k =>
    cases r1
    refine wpAny_truthy_bool ?_
    cases k with
    | true => exact ⟨.bl true, H1, I1, rfl, by simp only [br] at q; exact q⟩
    | false => exact hb.run p s1 z H1 Q I1 (by simp only [br] at q; exact q)
  | _ => exact (show False from q).elim)⟩
/-- a value's truth -/
def uTru (K : PySem.W.Frag) (x : V) (H : Hp) (Q : Bool → Hp → Prop) : Prop := match x with
  | .bl k => Q k H
  | .int i => Q (decide (i ≠ 0)) H
  | .non => Q false H
  | .str y => y.length ≤ sizeLine ∧ Q (decide (y.length ≠ 0)) H
  | .ref p => ∃ k, TruV K (.ref p) H k ∧ Q k H
  | _ => False
def uTrue (K : PySem.W.Frag) (ta : TE) : TT := fun σ H Q => ta σ H fun x H1 => uTru K x H1 Q
theorem ptV (ha : PE X a ta) (he : ∀ whole, isTrue a X.env whole = (do let v ← whole; standAt a.pos; holding [v] (truthy v)) := by intro _; rfl) : PT X a (uTrue X.K ta) := by
  refine ⟨fun p s z H Q I h => isTrue_plain (thn (ha.run p s z H _ I h) fun v s1 ⟨x, H1, I1, r1, q⟩ => ?_) (he _)⟩
  refine tru_ok p s1 z H1 x v Q I1 r1 ?_
  cases x with
  | non => exact ⟨false, rfl, q⟩
  | bl k => exact ⟨k, rfl, q⟩
  | int i =>
    refine ⟨_, rfl, ?_⟩
    have e : decide (i ≠ 0) = (i != 0) := by by_cases h0 : i = 0 <;> simp [h0]
    have q' : Q (decide (i ≠ 0)) H1 := q
    rw [e] at q'
    exact q'
  | str y =>
    obtain ⟨q1, q2⟩ := (show y.length ≤ sizeLine ∧ Q (decide (y.length ≠ 0)) H1 from q)
    refine ⟨_, ⟨q1, rfl⟩, ?_⟩
    have e : decide (y.length ≠ 0) = ((y.length : Int) != 0) := by by_cases h0 : y.length = 0 <;> simp [h0]
    rw [e] at q2
    exact q2
  | ref r => exact q
  | byt _ => exact (show False from q).elim
  | flt _ => exact (show False from q).elim
  | ty _ => exact (show False from q).elim
end

/-! ### operators by matching -/
section
variable {X : Cx}
def uAdd (K : PySem.W.Frag) : R2 := fun x y H Q => match x, y with
  | .int i, .int j => Q (.int (i + j)) H
  | .str i, .str j => i.length + j.length ≤ sizeLine ∧ Q (.str (i ++ j)) H
  | .ref a, .ref b => rCat (.ref a) (.ref b) H Q ∨ rCatA K (.ref a) (.ref b) H Q
  | _, _ => False
theorem opAdd : OpR X (binaryOp .Add) (uAdd X.K) := fun p s z H x y v u Q I rx ry h => by
  unfold uAdd at h
  split at h
  · exact op_add p s z H _ _ v u Q I rx ry ⟨_, _, rfl, rfl, h⟩
  · exact op_add_str p s z H _ _ v u Q I rx ry ⟨_, _, rfl, rfl, h.1, h.2⟩
  · rcases h with h | h
    · exact op_cat p s z H _ _ v u Q I rx ry h
    · exact op_catA p s z H _ _ v u Q I rx ry h
  · exact h.elim
def uSub : R2 := fun x y H Q => match x, y with | .int i, .int j => Q (.int (i - j)) H | _, _ => False
theorem opSub : OpR X (binaryOp .Sub) uSub := fun p s z H x y v u Q I rx ry h => by
  unfold uSub at h
  split at h
  · exact op_sub p s z H _ _ v u Q I rx ry ⟨_, _, rfl, rfl, h⟩
  · exact h.elim
/-- the sizes of a product's factors -/
def FitM (i j : Int) : Prop := i.natAbs < 2 ^ 400000 ∧ j.natAbs < 2 ^ 400000
def uMul : R2 := fun x y H Q => match x, y with
  | .int i, .int j => CMulW i j ∧ Q (.int (i * j)) H
  | .ref a, .int j => rRep (.ref a) (.int j) H Q
  | _, _ => False
theorem opMul : OpR X (binaryOp .Mult) uMul := fun p s z H x y v u Q I rx ry h => by
  unfold uMul at h
  split at h
  · exact op_mulW p s z H _ _ v u Q I rx ry ⟨_, _, rfl, rfl, h.1, h.2⟩
  · exact op_rep p s z H _ _ v u Q I rx ry h
  · exact h.elim
def uDiv : R2 := fun x y H Q => match x, y with | .int i, .int j => CDivW i j ∧ Q (.int (i / j)) H | _, _ => False
theorem opDiv : OpR X (binaryOp .FloorDiv) uDiv := fun p s z H x y v u Q I rx ry h => by
  unfold uDiv at h
  split at h
  · exact op_fdivW p s z H _ _ v u Q I rx ry ⟨_, _, rfl, rfl, h.1, h.2⟩
  · exact h.elim
def uMod : R2 := fun x y H Q => match x, y with | .int i, .int j => 0 < j ∧ Q (.int (i % j)) H | _, _ => False
theorem opMod : OpR X (binaryOp .Mod) uMod := fun p s z H x y v u Q I rx ry h => by
  unfold uMod at h
  split at h
  · exact op_mod p s z H _ _ v u Q I rx ry ⟨_, _, rfl, rfl, h.1, h.2⟩
  · exact h.elim
def uPow : R2 := fun x y H Q => match x, y with | .int i, .int j => CPow i j ∧ Q (.int (i ^ j.toNat)) H | _, _ => False
theorem opPow : OpR X (binaryOp .Pow) uPow := fun p s z H x y v u Q I rx ry h => by
  unfold uPow at h
  split at h
  · exact op_pow p s z H _ _ v u Q I rx ry ⟨_, _, rfl, rfl, h.1, h.2⟩
  · exact h.elim
def uNeg : V → Hp → VK → Prop := fun x H Q => match x with | .int i => Q (.int (-i)) H | _ => False
theorem unNeg : UnR X (unaryOp .USub) uNeg := fun p s z H x v Q I rx h => by
  unfold uNeg at h
  split at h
  · exact un_neg p s z H _ v Q I rx ⟨_, rfl, h⟩
  · exact h.elim

/-! ### comparisons -/
def uEq (K : PySem.W.Frag) : R2 := fun x y H Q => match scal x y with
  | true => Q (.bl (decide (x = y))) H
  | false => rEqD K x y H Q
theorem opEq (hu : X.A.units + 64 < cLine) : OpR X (compareOp .Eq) (uEq X.K) := fun p s z H x y v u Q I rx ry h => by
  unfold uEq at h
  split at h
  · exact op_eq p s z H _ _ v u Q I rx ry ⟨by assumption, h⟩
  · exact op_eqD hu p s z H _ _ v u Q I rx ry h
def uNe (K : PySem.W.Frag) : R2 := fun x y H Q => match scal x y with
  | true => Q (.bl (!decide (x = y))) H
  | false => rNeD K x y H Q
theorem opNe (hu : X.A.units + 64 < cLine) : OpR X (compareOp .NotEq) (uNe X.K) := fun p s z H x y v u Q I rx ry h => by
  unfold uNe at h
  split at h
  · exact op_ne p s z H _ _ v u Q I rx ry ⟨by assumption, h⟩
  · exact op_neD hu p s z H _ _ v u Q I rx ry h
def uLt : R2 := fun x y H Q => match x, y with
  | .int i, .int j => Q (.bl (decide (i < j))) H
  | .str i, .str j => Q (.bl (decide (i.cps.toList < j.cps.toList))) H
  | _, _ => False
theorem opLt : OpR X (compareOp .Lt) uLt := fun p s z H x y v u Q I rx ry h => by
  unfold uLt at h
  split at h
  · exact op_lt p s z H _ _ v u Q I rx ry ⟨_, _, rfl, rfl, h⟩
  · exact op_lt_str p s z H _ _ v u Q I rx ry ⟨_, _, rfl, rfl, h⟩
  · exact h.elim
def uLe : R2 := fun x y H Q => match x, y with | .int i, .int j => Q (.bl (decide (i ≤ j))) H | _, _ => False
theorem opLe : OpR X (compareOp .LtE) uLe := fun p s z H x y v u Q I rx ry h => by
  unfold uLe at h
  split at h
  · exact op_le p s z H _ _ v u Q I rx ry ⟨_, _, rfl, rfl, h⟩
  · exact h.elim
def uGt : R2 := fun x y H Q => match x, y with | .int i, .int j => Q (.bl (decide (j < i))) H | _, _ => False
theorem opGt : OpR X (compareOp .Gt) uGt := fun p s z H x y v u Q I rx ry h => by
  unfold uGt at h
  split at h
  · exact op_gt p s z H _ _ v u Q I rx ry ⟨_, _, rfl, rfl, h⟩
  · exact h.elim
def uGe : R2 := fun x y H Q => match x, y with | .int i, .int j => Q (.bl (decide (j ≤ i))) H | _, _ => False
theorem opGe : OpR X (compareOp .GtE) uGe := fun p s z H x y v u Q I rx ry h => by
  unfold uGe at h
  split at h
  · exact op_ge p s z H _ _ v u Q I rx ry ⟨_, _, rfl, rfl, h⟩
  · exact h.elim
/-- a sign in a text -/
def uInS : R2 := fun x y H Q => match x, y with
  | .str c, .str z => ∃ n, c = ⟨#[n]⟩ ∧ Q (.bl (decide (n ∈ z.cps.toList))) H
  | _, _ => False
theorem opInS : OpR X (compareOp .In) uInS := fun p s z H x y v u Q I rx ry h => by
  unfold uInS at h
  split at h
  · obtain ⟨n, e, h⟩ := h
    subst e
    exact op_in_sign p s z H _ _ v u Q I rx ry ⟨_, _, rfl, rfl, h⟩
  · exact h.elim
def uNotInS : R2 := fun x y H Q => match x, y with
  | .str c, .str z => ∃ n, c = ⟨#[n]⟩ ∧ Q (.bl (!decide (n ∈ z.cps.toList))) H
  | _, _ => False
theorem opNotInS : OpR X (compareOp .NotIn) uNotInS := fun p s z H x y v u Q I rx ry h => by
  unfold uNotInS at h
  split at h
  · obtain ⟨n, e, h⟩ := h
    subst e
    exact op_notIn_sign p s z H _ _ v u Q I rx ry ⟨_, _, rfl, rfl, h⟩
  · exact h.elim
end
/-- a chain of two comparisons -/
def uChain (r r' : R2) (ta tb tc : TE) : TE := fun σ H Q => ta σ H fun x H1 => tb σ H1 fun y H2 => r x y H2 fun z H3 => match z with
  | .bl k => br k (tc σ H3 fun w H4 => r' y w H4 Q) (Q (.bl false) H3)
  | _ => False
end U

namespace U
open PySem PySem.Spec PyProof.Rows L2
theorem foldl_arr (x : Array Nat) : ∀ (n : Nat) (a : Array Nat), ((List.replicate n x).foldl (· ++ ·) a).toList = a.toList ++ (List.replicate n x.toList).flatten
  | 0, a => by simp
  | n + 1, a => by
    rw [List.replicate_succ, List.foldl_cons, foldl_arr x n, List.replicate_succ, List.flatten_cons]
    simp
theorem flat_nil : ∀ k : Nat, (List.replicate k ([] : List Nat)).flatten = []
  | 0 => rfl
  | k + 1 => by rw [List.replicate_succ, List.flatten_cons, flat_nil k]; rfl
theorem mul_list (x : Str) (n : Int) (h0 : 0 ≤ n) : (Txt.mul x n).cps.toList = (List.replicate n.toNat x.cps.toList).flatten := by
  unfold Txt.mul
  split
  · rw [show n.toNat = 0 by omega]; rfl
  · split
    · rename_i h1 h2
      rw [Bool.or_eq_true] at h2
      rcases h2 with h2 | h2
      · obtain rfl : n = 1 := by simpa using h2
        simp
      · have h3 : x.cps.toList.length = 0 := by simpa [Str.length] using h2
        rw [List.eq_nil_of_length_eq_zero h3, flat_nil]
    · rw [foldl_arr]; rfl
theorem mul_ok {x : Str} {n : Int} (h0 : 0 ≤ n) (h1 : n ≤ 1000000) (h : x.length * n.toNat ≤ 1000000) : MulOk x n := by
  refine ⟨?_, fun h2 _ => ?_, fun _ _ => ?_⟩
  · rw [decide_eq_false (show ¬ n < -(2 ^ 63 : Int) by omega), decide_eq_false (show ¬ n ≥ (2 ^ 63 : Int) by omega)]; rfl
  · intro z
    have hx : x.length ≤ 1000000 := Nat.le_trans (by
      have h5 := Nat.mul_le_mul_left x.length (show 1 ≤ n.toNat by omega)
      omega) h
    have h3 : (2 ^ 63 - 1 : Int) / n ≥ 1000000 := (Int.le_ediv_iff_mul_le (by omega)).mpr (by omega)
    omega
  · unfold Builtin.Str.tooLong
    have := sizeLine_eq
    simp
    omega
section
variable {X : Cx}
/-- a product, also of a text -/
def uMulT : R2 := fun x y H Q => match x, y with
  | .str i, .int j => (0 ≤ j ∧ j ≤ 1000000 ∧ i.length * j.toNat ≤ 1000000) ∧ Q (.str (Txt.mul i j)) H
  | _, _ => uMul x y H Q
theorem opMulT : OpR X (binaryOp .Mult) uMulT := fun p s z H x y v u Q I rx ry h => by
  unfold uMulT at h
  split at h
  · obtain ⟨⟨h0, h1, h2⟩, q⟩ := h
    obtain ⟨t, rfl⟩ := rx
    obtain ⟨t', rfl⟩ := ry
    exact SB.mul (mul_ok h0 h1 h2) fun t' k => ⟨.str _, H, I.tok k, ⟨_, rfl⟩, q⟩
  · exact opMul p s z H _ _ v u Q I rx ry h

/-! ### calls of built-ins -/
def uLen (K : PySem.W.Frag) : List V → Hp → VK → Prop := fun vs H Q => match vs with
  | [.str y] => y.length ≤ sizeLine ∧ Q (.int y.length) H
  | [.ref p] => ∃ xs, (SqL K H p xs ∨ SqT K H p xs) ∧ Q (.int xs.length) H
  | _ => False
theorem caLen : CallR X (.builtin "len") (uLen X.K) := fun p s z H xs us Q I r h => by
  unfold uLen at h
  split at h
  · exact call_len_str p s z H _ us Q I r ⟨_, rfl, h.1, h.2⟩
  · obtain ⟨ys, h1, h2⟩ := h
    exact call_len_seq p s z H _ us Q I r ⟨_, ys, rfl, h1, h2⟩
  · exact h.elim
def uMax (vs : List V) (H : Hp) (Q : VK) : Prop := match vs with | [.int i, .int j] => Q (.int (max i j)) H | _ => False
theorem caMax (hc : X.calm = true) : CallR X (.builtin "max") uMax := fun p s z H xs us Q I r h => by
  unfold uMax at h
  split at h
  · refine call_max2 hc p s z H _ us Q I r ⟨_, _, rfl, ?_⟩
    rename_i i j
    have e : (if j > i then j else i) = max i j := by omega
    rw [e]; exact h
  · exact h.elim
def uMin (vs : List V) (H : Hp) (Q : VK) : Prop := match vs with | [.int i, .int j] => Q (.int (min i j)) H | _ => False
theorem caMin (hc : X.calm = true) : CallR X (.builtin "min") uMin := fun p s z H xs us Q I r h => by
  unfold uMin at h
  split at h
  · refine call_min2 hc p s z H _ us Q I r ⟨_, _, rfl, ?_⟩
    rename_i i j
    have e : (if j < i then j else i) = min i j := by omega
    rw [e]; exact h
  · exact h.elim
def uAbs (vs : List V) (H : Hp) (Q : VK) : Prop := match vs with | [.int i] => Q (.int i.natAbs) H | _ => False
theorem caAbs : CallR X (.builtin "abs") uAbs := fun p s z H xs us Q I r h => by
  unfold uAbs at h
  split at h
  · refine call_abs p s z H _ us Q I r ⟨_, rfl, ?_⟩
    rename_i i
    have e : (if i < 0 then -i else i) = (i.natAbs : Int) := by omega
    rw [e]; exact h
  · exact h.elim
def uInt (vs : List V) (H : Hp) (Q : VK) : Prop := match vs with | [.int i] => Q (.int i) H | [.bl k] => Q (.int (if k then 1 else 0)) H | _ => False
theorem caInt : CallR X (.type "int") uInt := fun p s z H xs us Q I r h => by
  unfold uInt at h
  split at h
  · exact call_int1 p s z H _ us Q I r (.inl ⟨_, rfl, h⟩)
  · exact call_int1 p s z H _ us Q I r (.inr ⟨_, rfl, h⟩)
  · exact h.elim
def uStr (vs : List V) (H : Hp) (Q : VK) : Prop := match vs with | [.int i] => i.natAbs.log2 < 1920 ∧ Q (.str (toString i)) H | [.str a] => Q (.str a) H | _ => False
theorem caStr : CallR X (.type "str") uStr := fun p s z H xs us Q I r h => by
  unfold uStr at h
  split at h
  · exact call_str_int p s z H _ us Q I r ⟨_, rfl, h.1, h.2⟩
  · exact SkE.call_str_str p s z H _ us Q I r ⟨_, rfl, h⟩
  · exact h.elim
/-- repr of data at any depth: a list or a tuple -/
def uRepr (K : PySem.W.Frag) (vs : List V) (H : Hp) (Q : VK) : Prop := match vs with
  | [.ref a] => ∃ d, Dp K H (.ref a) d ∧ d.showable = true ∧ SeqAt.shaped d = true ∧ d.shown.length ≤ sizeLine ∧ Q (.str d.shown) H
  | _ => False
theorem caRepr (hg : X.A.guards = some []) (hu : X.A.units + 70 < cLine) : CallR X (.builtin "repr") (uRepr X.K) := fun p s z H xs us Q I r h => by
  unfold uRepr at h
  split at h
  · obtain ⟨d, hd, h1, h2, h3, q⟩ := h
    obtain ⟨u, rfl, ru⟩ := L2.vals1 r
    cases (show u = Value.ref _ from ru)
    obtain ⟨as, rd⟩ := Dp.reads I d _ _ hd rfl
    have hdep := SeqAt.depth_of_shaped h2
    refine repr_of_reads' rd h1 (PyData.noDict_hsm (PyData.hasDict_of_canLay d (SeqAt.canLay_of_shaped h2))) hg (by omega) (fun _ _ e => e) (fun h' u tk k => ?_) h3
    exact ⟨.str d.shown, H, I.kept (t' := tk) k, ⟨_, rfl⟩, q⟩
  · exact h.elim
/-- an item by its place -/
def uIx (K : PySem.W.Frag) : R2 := fun x y H Q => match x, y with
  | .str z, .int i => z.length ≤ sizeLine ∧ ∃ c, atI z.cps.toList i = some c ∧ Q (.str ⟨#[c]⟩) H
  | .ref p, .int i => ∃ xs v, (SqL K H p xs ∨ SqT K H p xs) ∧ atI xs i = some v ∧ Q v H
  | _, _ => False
theorem ixU : IxR X (uIx X.K) := fun va sl p s z H x y v u Q I rx ry h hs => by
  unfold uIx at h
  split at h
  · obtain ⟨h1, c, h2, q⟩ := h
    exact ix_str va sl p s z H _ _ v u Q I rx ry ⟨_, _, c, rfl, rfl, h1, h2, q⟩ hs
  · obtain ⟨xs, w, h1 | h1, h2, q⟩ := h
    · exact ix_list va sl p s z H _ _ v u Q I rx ry ⟨_, xs, _, w, rfl, rfl, h1, h2, q⟩ hs
    · exact ix_tup va sl p s z H _ _ v u Q I rx ry ⟨_, xs, _, w, rfl, rfl, h1, h2, q⟩ hs
  · exact h.elim
end

/-! ### the ledger: what a def knows of the heap -/
/-- H0 the heap at the start, D what may change of it; F what stands still, M what may still change, each by its address -/
structure At (H0 : Hp) (D : List Addr) (F M : List (Addr × HO)) (H : Hp) : Prop where
  fr : ∀ a o, H0 a = some o → a ∉ D → H a = some o
  fa : ∀ p ∈ F, H p.1 = some p.2
  mu : ∀ p ∈ M, H p.1 = some p.2
  mf : ∀ p ∈ M, p.1 ∈ D ∨ H0 p.1 = none
  df : ∀ p ∈ M, ∀ q ∈ F, p.1 ≠ q.1
  nd : (M.map (·.1)).Nodup
section
variable {H0 H H' : Hp} {D : List Addr} {F M : List (Addr × HO)} {a p : Addr} {o u : HO}
theorem At.start (H : Hp) : At H [] [] [] H := ⟨fun _ _ h _ => h, fun _ h => absurd h List.not_mem_nil, fun _ h => absurd h List.not_mem_nil, fun _ h => absurd h List.not_mem_nil, fun _ h => absurd h List.not_mem_nil, List.nodup_nil⟩
/-- the dice alone may change -/
theorem At.start1 (h : H a = some o) : At H [a] [] [(a, o)] H := ⟨fun _ _ e _ => e, fun _ h => absurd h List.not_mem_nil, fun p hp => by
  obtain rfl := List.mem_singleton.mp hp
  exact h, fun p hp => .inl (by obtain rfl := List.mem_singleton.mp hp; exact List.mem_singleton.mpr rfl), fun _ _ _ h => absurd h List.not_mem_nil, by simp⟩
theorem At.get (L : At H0 D F M H) (h : (a, o) ∈ F) : H a = some o := L.fa _ h
theorem At.getM (L : At H0 D F M H) (h : (a, o) ∈ M) : H a = some o := L.mu _ h
/-- what is known of an object that doesn't change -/
theorem At.know (L : At H0 D F M H) (h : H a = some o) (hM : a ∉ M.map (·.1)) : At H0 D ((a, o) :: F) M H := ⟨L.fr, fun p hp => by
  rcases List.mem_cons.mp hp with rfl | hp
  · exact h
  · exact L.fa p hp, L.mu, L.mf, fun p hp q hq e => by
  rcases List.mem_cons.mp hq with rfl | hq
  · exact hM (List.mem_map.mpr ⟨p, hp, e⟩)
  · exact L.df p hp q hq e, L.nd⟩
theorem At.new (L : At H0 D F M H) (h : H p = none) : At H0 D ((p, o) :: F) M (upd H p o) := ⟨fun b u e n => by
  have q := L.fr b u e n
  rw [upd_ne (ne_of_none q h)]; exact q, fun q hq => by
  rcases List.mem_cons.mp hq with rfl | hq
  · exact upd_same
  · rw [upd_ne (ne_of_none (L.fa q hq) h)]; exact L.fa q hq, fun q hq => by
  rw [upd_ne (ne_of_none (L.mu q hq) h)]; exact L.mu q hq, L.mf, fun q hq r hr e => by
  rcases List.mem_cons.mp hr with rfl | hr
  · have e2 := L.mu q hq
    rw [show q.1 = p from e, h] at e2
    cases e2
  · exact L.df q hq r hr e, L.nd⟩
theorem At.no0 (L : At H0 D F M H) (hD : ∀ d ∈ D, ∃ u, H d = some u) (h : H p = none) : H0 p = none := by
  cases e : H0 p with
  | none => rfl
  | some u =>
    by_cases hp : p ∈ D
    · obtain ⟨w, e2⟩ := hD p hp
      rw [h] at e2; cases e2
    · rw [L.fr p u e hp] at h; cases h
theorem At.newM (L : At H0 D F M H) (hD : ∀ d ∈ D, ∃ u, H d = some u) (h : H p = none) : At H0 D F ((p, o) :: M) (upd H p o) := ⟨(L.new (o := o) h).fr, fun q hq => (L.new (o := o) h).fa q (List.mem_cons_of_mem _ hq), fun q hq => by
  rcases List.mem_cons.mp hq with rfl | hq
  · exact upd_same
  · exact (L.new (o := o) h).mu q hq, fun q hq => by
  rcases List.mem_cons.mp hq with rfl | hq
  · exact .inr (L.no0 hD h)
  · exact L.mf q hq, fun q hq r hr e => by
  rcases List.mem_cons.mp hq with rfl | hq
  · have e2 := L.fa r hr
    rw [← show p = r.1 from e, h] at e2; cases e2
  · exact L.df q hq r hr e, by
  rw [List.map_cons]
  refine List.nodup_cons.mpr ⟨fun z => ?_, L.nd⟩
  obtain ⟨q, hq, e⟩ := List.mem_map.mp z
  have e2 := L.mu q hq
  rw [show q.1 = p from e, h] at e2; cases e2⟩
/-- the first of M changes -/
theorem At.set (L : At H0 D F ((a, o) :: M) H) (h1 : ∀ b u, H b = some u → b ≠ a → H' b = some u) (h2 : H' a = some u) : At H0 D F ((a, u) :: M) H' := ⟨fun b w e n => h1 b w (L.fr b w e n) (fun z => by
  subst z
  rcases L.mf _ (List.mem_cons_self ..) with z | z
  · exact n z
  · rw [e] at z; cases z), fun q hq => h1 _ _ (L.fa q hq) (fun z => L.df _ (List.mem_cons_self ..) q hq z.symm), fun q hq => by
  rcases List.mem_cons.mp hq with rfl | hq
  · exact h2
  · refine h1 _ _ (L.mu q (List.mem_cons_of_mem _ hq)) fun z => ?_
    have := L.nd
    rw [List.map_cons] at this
    exact (List.nodup_cons.mp this).1 (List.mem_map.mpr ⟨q, hq, z⟩), fun q hq => by
  rcases List.mem_cons.mp hq with rfl | hq
  · exact L.mf (a, o) (List.mem_cons_self ..)
  · exact L.mf q (List.mem_cons_of_mem _ hq), fun q hq r hr => by
  rcases List.mem_cons.mp hq with rfl | hq
  · exact L.df (a, o) (List.mem_cons_self ..) r hr
  · exact L.df q (List.mem_cons_of_mem _ hq) r hr, by have := L.nd; rw [List.map_cons] at this ⊢; exact this⟩
theorem At.upd (L : At H0 D F ((a, o) :: M) H) : At H0 D F ((a, u) :: M) (L2.upd H a u) := L.set (fun b w e n => by rw [upd_ne n]; exact e) upd_same
theorem memSwap {α : Type} {x q r : α} {l : List α} (h : x ∈ r :: q :: l) : x ∈ q :: r :: l := by
  rcases List.mem_cons.mp h with rfl | h
  · exact .tail _ (.head _)
  · rcases List.mem_cons.mp h with rfl | h
    · exact .head _
    · exact .tail _ (.tail _ h)
/-- M in another order -/
theorem At.swap {q r : Addr × HO} (L : At H0 D F (q :: r :: M) H) : At H0 D F (r :: q :: M) H := ⟨L.fr, L.fa, fun x hx => L.mu x (memSwap hx), fun x hx => L.mf x (memSwap hx), fun x hx => L.df x (memSwap hx), by
  have := L.nd
  simp only [List.map_cons, List.nodup_cons, List.mem_cons, not_or] at this ⊢
  exact ⟨⟨fun z => this.1.1 z.symm, this.2.1⟩, this.1.2, this.2.2⟩⟩
/-- the first of M stands still from here on -/
theorem At.still (L : At H0 D F ((a, o) :: M) H) : At H0 D ((a, o) :: F) M H := ⟨L.fr, fun q hq => by
  rcases List.mem_cons.mp hq with rfl | hq
  · exact L.mu _ (List.mem_cons_self ..)
  · exact L.fa q hq, fun q hq => L.mu q (List.mem_cons_of_mem _ hq), fun q hq => L.mf q (List.mem_cons_of_mem _ hq), fun q hq r hr e => by
  rcases List.mem_cons.mp hr with rfl | hr
  · have := L.nd
    rw [List.map_cons] at this
    exact (List.nodup_cons.mp this).1 (List.mem_map.mpr ⟨q, hq, e⟩)
  · exact L.df q (List.mem_cons_of_mem _ hq) r hr e, by have := L.nd; rw [List.map_cons] at this; exact (List.nodup_cons.mp this).2⟩
/-- behind what only adds -/
theorem At.same (L : At H0 D F M H) (h : ∀ b u, H b = some u → H' b = some u) : At H0 D F M H' := ⟨fun b w e n => h _ _ (L.fr b w e n), fun q hq => h _ _ (L.fa q hq), fun q hq => h _ _ (L.mu q hq), L.mf, L.df, L.nd⟩
/-- forget -/
theorem At.less {F' : List (Addr × HO)} (L : At H0 D F M H) (h : ∀ p ∈ F', p ∈ F) : At H0 D F' M H := ⟨L.fr, fun q hq => L.fa q (h q hq), L.mu, L.mf, fun q hq r hr => L.df q hq r (h r hr), L.nd⟩
end
end U

/-! U3: promises of defs that are called where no repr is under way (repr of a list asks for that). -/
namespace U
open PySem PySem.Spec PyProof.Rows L2
/-- a def's promise, wherever no repr is under way -/
structure FnG (P : Program) (w : World) (K : PySem.W.Frag) (mg : Str → Option Value) (base : Heap) (CX : CXT) (k : Nat) (f : Addr) (fd : FuncData) (ps : List Str) (sp : Sp) : Prop where
  len : ∀ vs H Q E, sp vs H Q E → vs.length = ps.length
  run : ∀ (A : Around) (outer : List Env) (s : Shared) (H : Hp) (args : Args) (us : List Value) (vs : List V) (Q : VK) (E : XK), A.guards = some [] → Room k A → Env0 P w K mg base A outer s H → BindsTo s fd args (ps.zip us) → Vals vs us →
    sp vs H Q E → codeAny (model P w) A (.call (.ref f) args) (CR CX outer P w H s Q E) s
section
variable {P : Program} {w : World} {K : PySem.W.Frag} {mg : Str → Option Value} {base : Heap} {CX : CXT} {k j : Nat} {f : Addr} {fd : FuncData} {ps N : List Str} {sp : Sp} {st : Stmt} {nm qual : Str}
theorem FnG.of (F : FnOk P w K mg base CX k f fd ps sp) : FnG P w K mg base CX k f fd ps sp := ⟨F.len, fun A o s H ar us vs Q E _ => F.run A o s H ar us vs Q E⟩
theorem FnG.mono (F : FnG P w K mg base CX j f fd ps sp) (h : j ≤ k) : FnG P w K mg base CX k f fd ps sp := ⟨F.len, fun A o s H ar us vs Q E g r => F.run A o s H ar us vs Q E g (r.mono h)⟩
/-- a def by its body, where no repr is under way -/
theorem okG (F : Fun K nm qual st f fd) (S : FnScope N ps (defScope st)) (len : ∀ vs H Q E, sp vs H Q E → vs.length = ps.length)
    (body : ∀ (cdv : Value) (A : Around) (outer : List Env) (s : Shared) (H : Hp) (vs : List V) (Q : VK) (E : XK), A.guards = some [] → Room k (A.deeper (envOfC qual (defScope st) s.heap.objs.size f cdv)) → sp vs H Q E →
      ∃ t, PSs (cxOf CX P w K mg base N qual (defScope st) f cdv A outer s H E) (defBody st) t ∧ t { nx := fun _ H' => Q .non H', rt := Q } (start N vs) H) : FnG P w K mg base CX (k + 1) f fd ps sp := by
  obtain ⟨oc, od, kV, doc, pm, an, cdv, ct, osl, rfl, lk, hcd⟩ := F.ex
  refine ⟨len, fun A outer s H args us vs Q E hg hr e0 hb r hsp => ?_⟩
  have kin : K.In s.heap := e0.mod.kin.keeps fun b o z => (e0.bs b o z).1
  have nol : s.heap.NoLimit := e0.mod.nolimit.keeps fun b o z => (e0.bs b o z).1
  refine codeAny_call_function hr.depth (kin _ _ lk) rfl S.co S.gen rfl (PySem.W.codeRec_of kin hcd) (hb _ _ _ _ ?_)
  refine wpAny_newFunctionEnv_cells S.kind (fun ⟨n, v⟩ hy => (S.par n (List.of_mem_zip hy).1).elim .inl fun q => .inr ⟨q, PySem.W.cellsFrom_some _ _ _ (.inl q)⟩) fun env he s1 x => ?_
  subst he
  refine ⟨nol.keeps x.toInCall.keep, codeAny_func ?_⟩
  obtain ⟨t, ht, hq⟩ := body cdv A outer s H vs Q E hg (hr.deeper _) hsp
  have I0 := inv_start (CX := CX) (E := E) S hr.hd e0 (len _ _ _ _ hsp) r x
  refine wpAny_mono (ht.run [] s1 _ H _ I0 hq) (fun fl s' hs => ?_) fun e s' hs => hs
  cases fl with
  | ret u => exact let ⟨v, _, H', J, rv, q⟩ := hs; ⟨v, H', J.os, J.bare, J.base, J.hok, rv, q⟩
  | next => exact let ⟨_, H', J, q⟩ := hs; ⟨V.non, H', J.os, J.bare, J.base, J.hok, rfl, q⟩
  | brk => exact let ⟨_, _, _, q⟩ := hs; False.elim q
  | cont => exact let ⟨_, _, _, q⟩ := hs; False.elim q
end
section
variable {X : Cx} {CX : CXT} {k : Nat} {f : Addr} {fd : FuncData} {ps : List Str} {sp : Sp} {dvs : List V} {ds : List Value} {E : XK} {x : Str} {p pos : Pos} {e : Expr} {es : List Expr} {t : TA}
theorem runG {pins : List (Addr × Obj)} {σ : L2.St} {H : Hp} {s : Shared} {Q : VK} {us : List Value} {vs : List V} (F : FnG X.prog X.w X.K X.mg X.base CX k f fd ps sp) (hg : X.A.guards = some []) (hr : Room k X.A) (hb : Binds X.K fd ps ds) (hd : Vals dvs ds) (hx : Passes CX X E)
    (I : Inv X pins σ H s) (r : Vals vs us) (h : sp (vs ++ dvs) H Q E) : wpAny (model X.prog X.w) X.A (call (.ref f) us) (EP X pins σ Q) X.xe s := by
  have r2 : Vals (vs ++ dvs) (us ++ ds) := r.append hd
  refine wpAny_call (codeAny_mono (F.run X.A X.stack s H ⟨us, []⟩ (us ++ ds) (vs ++ dvs) Q E hg hr I.env0 (hb s us I.kIn (by rw [← r2.length]; exact F.len _ _ _ _ h)) r2 h) fun r s' hq => ?_)
  match r, hq with
  | .error e, hq => exact hx pins σ H s e s' I hq
  | .ok (.ret u), hq => exact I.after hq
  | .ok .next, hq => exact False.elim hq
  | .ok .brk, hq => exact False.elim hq
  | .ok .cont, hq => exact False.elim hq
theorem peG (F : FnG X.prog X.w X.K X.mg X.base CX k f fd ps sp) (hg : X.A.guards = some []) (hr : Room k X.A) (hn : Gl X x) (hm : X.mg x = some (.ref f)) (hk : PySem.W.keepIn X.K (.ref f) = true) (hb : Binds X.K fd ps ds) (hd : Vals dvs ds) (hx : Passes CX X E)
    (ha : PA X (e :: es) t) (hdb : (x == ("__debug__" : Str)) = false := by decide) (he : starEach (e :: es) X.env = (false, eval e X.env) :: starEach es X.env := by rfl) (hpl : (backTo pos (starEach es X.env)).any (·.1) = false := by rfl) :
    PE X (.Call (.Name x p) (e :: es) [] pos) (tCall sp dvs E t) := ⟨fun pins s σ H Q I h => wpAny_Call_Name_kw (ld_glob I hn hm (PySem.W.callWith_K (h₀ := X.base) I.ok.mod.kin hk
      (thn (ha.run pos pins s σ H _ I h) fun us s1 ⟨vs, H1, I1, r, q⟩ => ⟨I1.kIn, runG F hg hr hb hd hx I1 r q⟩) he hpl) hdb)⟩
end
/-! ### the law's own call -/
section
open PySem.W
theorem scriptH {P : Program} {w : World} {K : Frag} {s : Shared} {a : Addr} {vs : List Value} {ns : List Int} (KX : K.In s.heap) (ha : s.heap.get? a = some { cls := .type "list", data := .seq vs.toArray }) (hi : IntsAre vs ns) (hl : ns.length ≤ sizeLine) :
    ∃ H : Hp, Only H ∧ SqL K H a (ns.map V.int) ∧ HOk P w H s.heap ∧ (∀ b, H b ≠ none → b = a) ∧ (H a ≠ none → K.lookup a = none) := by
  have rv := vals_ints hi
  have lv : vs.length = ns.length := hi.length
  cases e : K.lookup a with
  | some o =>
    obtain rfl : o = _ := Option.some.inj ((KX a o e).symm.trans ha)
    exact ⟨fun _ => none, fun _ => .inl rfl, .inr ⟨_, vs.toArray, _, e, rfl, rfl, rfl, by rw [List.size_toArray, lv]; exact hl, by simpa using rv⟩, fun b u z => absurd (show (none : Option HO) = some u from z) (fun q => nomatch q), fun b z => absurd rfl z, fun z => absurd rfl z⟩
  | none =>
    refine ⟨fun b => if b = a then some (.frz { cls := .type "list", data := .seq vs.toArray } (.lst (ns.map V.int))) else none, fun b => ?_, .inl (.inr ⟨_, if_pos rfl⟩), fun b u z => ?_, fun b z => ?_, fun _ => rfl⟩
    · by_cases h : b = a
      · exact .inr ⟨_, _, if_pos h⟩
      · exact .inl (if_neg h)
    · by_cases h : b = a
      · subst h
        obtain rfl := Option.some.inj ((if_pos rfl).symm.trans z)
        exact ⟨ha, by rw [List.length_map]; exact hl, vs, _, rv, ha⟩
      · exact nomatch (if_neg h).symm.trans z
    · by_cases h : b = a
      · exact h
      · exact absurd (if_neg h) z
theorem lawG {P : Program} {w : World} {K : Frag} {mg mb : Str → Option Value} {CX : CXT} {k : Nat} {fa a : Addr} {fd : FuncData} {x : Str} {sp : Sp} {s : Shared} {vs : List Value} {ns : List Int}
    (KX : K.In s.heap) (hns : s.heap.Ns mainGlobals mg) (hb : s.heap.Ns builtinsNs mb) (hbb : ∀ y : Str, y ≠ "__name__" → mb y = bootBuiltins y) (hlim : s.heap.NoLimit) (hgn : s.gens = #[])
    (ha : s.heap.get? a = some { cls := .type "list", data := .seq vs.toArray }) (hi : IntsAre vs ns) (hl : ns.length ≤ sizeLine) (hr : Room k callerA)
    (F : ∀ base : Heap, K.In base → base.Ns mainGlobals mg → FnG P w K mg base CX k fa fd [x] sp) (hbind : ∀ (s : Shared) (u : Value), BindsTo s fd ⟨[u], []⟩ [(x, u)])
    (hsp : ∀ H : Hp, Only H → SqL K H a (ns.map V.int) → sp [.ref a] H (fun v _ => v = .bl true) fun _ _ _ => False) (hCX : ∀ H e s', CX [] H s (fun _ _ _ => False) e s' → False) :
    codeAny (model P w) callerA (.call (.ref fa) ⟨[.ref a], []⟩) (fun r s' => r = .ok (.ret (.bool true)) ∧ OldK s.heap s'.heap ∧ s'.os = s.os ∧ AllBare s'.gens) s := by
  obtain ⟨H, hO, hS, hok, hA, hK⟩ := scriptH (P := P) (w := w) KX ha hi hl
  have keep : ∀ {b : Addr} {o : Obj}, s.heap.get? b = some o → H b = none → (hidT s.heap H).get? b = some o := fun e n => hidT_get e n
  have free : ∀ {b : Addr}, b ≠ a → H b = none := fun {b} h => Classical.byContradiction fun z => h (hA b z)
  have kIn : K.In (hidT s.heap H) := fun b o e => keep (KX b o e) (Classical.byContradiction fun z => by
    obtain rfl := hA b z
    rw [hK z] at e; cases e)
  have nsIn : ∀ {b : Addr} {m : Str → Option Value}, s.heap.Ns b m → (hidT s.heap H).Ns b m := fun {b m} ⟨o, es, ep, e, d, r⟩ => ⟨o, es, ep, keep e (free fun z => by
    subst z
    rw [ha] at e; cases e; cases d), d, r⟩
  have M : Mod K mg (hidT s.heap H) := ⟨kIn, nsIn hns, ⟨mb, nsIn hb, hbb⟩, let ⟨mc, h1, h2⟩ := hlim; ⟨mc, nsIn h1, h2⟩⟩
  refine codeAny_mono ((F _ kIn (nsIn hns)).run callerA [] s H ⟨[.ref a], []⟩ [.ref a] [.ref a] _ _ rfl hr ⟨rfl, M, fun b o e => of_hidT e, Nat.le_of_eq (hidT_size _ _), trivial, fun b z => absurd (show b ∈ ([] : List Addr) from z) List.not_mem_nil, hok, .of_eq hgn⟩ (hbind s (.ref a)) (.cons rfl .nil) (hsp H hO hS)) fun r s' h => ?_
  match r, h with
  | .error e, h => exact (hCX H e s' h).elim
  | .ok .next, h => exact False.elim h
  | .ok .brk, h => exact False.elim h
  | .ok .cont, h => exact False.elim h
  | .ok (.ret u), ⟨v, H', os, bare, un, hok', r', q⟩ =>
    obtain rfl : v = .bl true := q
    obtain rfl : u = Value.bool true := r'
    refine ⟨rfl, OldK.of_keep fun b o e => ?_, os, bare⟩
    cases q : H b with
    | none => exact un.keep b o e q (fun z => absurd (show b ∈ ([] : List Addr) from z) List.not_mem_nil) List.not_mem_nil
    | some u =>
      rcases hO b with z | ⟨ob, xs, z⟩
      · rw [q] at z; cases z
      · have e1 := (hok b _ z).1
        have e2 := (hok' b _ (un.frzs b ob _ z)).1
        rw [e] at e1; cases e1
        exact e2
theorem walkG {l : OpenLaw} {n k : Nat} {q : Program} {loose : List Str} {XP : (Str → Option Value) → Heap → Prop} {YP : World → Heap → Prop} {d : DefRec} {K : Params → Frag} {sp : Frag → Sp} {x : Str}
    (hn : l.most = some n) (hn2 : n ≤ sizeLine) (hdf : d.params.defaults = []) (hr : Room k callerA) (hY : ∀ (w : World) (h : Heap), YP w h → (K w.params).In h)
    (F : ∀ (w : World) (mg : Str → Option Value) (fa : Addr) (h : Heap), (K w.params).In h → h.Ns mainGlobals mg → mg d.name = some (.ref fa) →
      ∃ fd : FuncData, (∀ (s : Shared) (u : Value), BindsTo s fd ⟨[u], []⟩ [(x, u)]) ∧ ∀ base : Heap, (K w.params).In base → base.Ns mainGlobals mg → FnG l.prog w (K w.params) mg base CX0 k fa fd [x] (sp (K w.params)))
    (hsp : ∀ (K : Frag) (H : Hp) (a : Addr) (ns : List Int), ns.length ≤ n → (∀ z ∈ ns, Builtin.Int.intBits z ≤ 1048576) → Only H → SqL K H a (ns.map V.int) → sp K [.ref a] H (fun v _ => v = .bl true) fun _ _ _ => False) :
    WalkO q loose XP YP l.row.toRowW d [] (fun f vs => PySem.call f vs) :=
  Att.attach_callB hn hdf fun w _ s mg mb fa o pm cd doc a vs ns G Y ho hd hcd hmg hobj hints hlen hbits hg =>
    let ⟨fd, hb, hF⟩ := F w mg fa _ (hY w _ Y) G.T.g hmg
    lawG (hY w _ Y) G.T.g G.T.b G.T.builtins G.T.nolimit hg hobj hints (Nat.le_trans hlen hn2) hr hF hb (fun H hO hS => hsp _ H a ns hlen hbits hO hS) fun _ _ _ z => z
end
end U

namespace U
open PySem PySem.Spec PyProof.Rows L2
theorem hu64 {k : Nat} {A : Around} (h : Room k A) : A.units + 64 < cLine := h.units
theorem hu70 {k : Nat} {A : Around} (h : Room k A) : A.units + 70 < cLine := by have := h.un; omega
section
variable {X : Cx}
theorem caAll (hc : X.calm = true) : CallR X (.builtin "all") (rAll X.K) := cr_all hc
/-- a slice of a text or a list -/
def uSl (K : PySem.W.Frag) : V → Option Int → Option Int → Hp → VK → Prop := fun x lo hi H Q => match x with
  | .str z => z.length ≤ sizeLine ∧ Q (.str (Txt.slice z lo hi)) H
  | _ => rSlL K x lo hi H Q
end
theorem walkO {l : PySem.W.OpenLaw} {n k : Nat} {q : Program} {loose : List Str} {XP : (Str → Option Value) → Heap → Prop} {YP : World → Heap → Prop} {d : DefRec} {K : Params → PySem.W.Frag} {sp : PySem.W.Frag → Sp} {x : Str}
    (hn : l.most = some n) (hn2 : n ≤ sizeLine) (hdf : d.params.defaults = []) (hr : Room k callerA) (hY : ∀ (w : World) (h : Heap), YP w h → (K w.params).In h)
    (F : ∀ (w : World) (mg : Str → Option Value) (fa : Addr) (h : Heap), (K w.params).In h → h.Ns mainGlobals mg → mg d.name = some (.ref fa) →
      ∃ fd : FuncData, (∀ (s : Shared) (u : Value), BindsTo s fd ⟨[u], []⟩ [(x, u)]) ∧ ∀ base : Heap, (K w.params).In base → base.Ns mainGlobals mg → FnOk l.prog w (K w.params) mg base CX0 k fa fd [x] (sp (K w.params)))
    (hsp : ∀ (K : PySem.W.Frag) (H : Hp) (a : Addr) (ns : List Int), ns.length ≤ n → (∀ z ∈ ns, Builtin.Int.intBits z ≤ 1048576) → Only H → SqL K H a (ns.map V.int) → sp K [.ref a] H (fun v _ => v = .bl true) fun _ _ _ => False) :
    PySem.W.WalkO q loose XP YP l.row.toRowW d [] (fun f vs => PySem.call f vs) :=
  walkG hn hn2 hdf hr hY (fun w mg fa h a b c => let ⟨fd, h1, h2⟩ := F w mg fa h a b c; ⟨fd, h1, fun base e g => .of (h2 base e g)⟩) hsp
/-- what a dice list holds: the rest of a great cell, a seed, how often it was rolled -/
def Dice (n : Nat) (o : HO) : Prop := ∃ a b c : Int, o = .lst [.int a, .int b, .int c] ∧ (0 ≤ a ∧ a < 2 ^ 500) ∧ (0 ≤ b ∧ b < 2 ^ 80) ∧ (0 ≤ c ∧ c ≤ n)
theorem Dice.up {n m : Nat} {o : HO} (h : Dice n o) (l : n ≤ m) : Dice m o := by
  obtain ⟨a, b, c, e, h1, h2, h3⟩ := h
  exact ⟨a, b, c, e, h1, h2, by omega⟩
theorem mulW {i j : Int} (a b : Nat) (ha : i.natAbs < 2 ^ a) (hb : j.natAbs < 2 ^ b) (h0 : 0 < a := by decide) (h1 : 0 < b := by decide) (h : a + b ≤ 1000000 := by decide) : CMulW i j := wide_mul ha hb h0 h1 h
theorem divW {i j : Int} (b : Nat) (h : 0 < j) (hb : j.natAbs < 2 ^ b) (h0 : 0 < b := by decide) (h9 : b ≤ 9000 := by decide) : CDivW i j := wide_div h hb h0 h9
theorem abs_lt {i : Int} {n : Nat} (h0 : 0 ≤ i) (h : i < 2 ^ n) : i.natAbs < 2 ^ n := by
  have e : ((i.natAbs : Nat) : Int) = i := by omega
  have : ((i.natAbs : Nat) : Int) < ((2 ^ n : Nat) : Int) := by rw [e]; push_cast; exact h
  exact Int.ofNat_lt.mp this
end U
namespace U
open PySem PySem.Spec PyProof.Rows L2
section
variable {K : PySem.W.Frag} {H H' : Hp} {p d : Addr} {xs : List V}
theorem rdKeep {u : HO} (h : ∀ b u, H b = some u → b ≠ d → H' b = some u) (ne : p ≠ d) (r : Rd H p u) : Rd H' p u := r.elim (fun e => .inl (h _ _ e ne)) fun ⟨o, e⟩ => .inr ⟨o, h _ _ e ne⟩
theorem sqlKeep (h : ∀ b u, H b = some u → b ≠ d → H' b = some u) (ne : p ≠ d) (r : SqL K H p xs) : SqL K H' p xs := r.elim (fun e => .inl (rdKeep h ne e)) .inr
theorem sqtKeep (h : ∀ b u, H b = some u → b ≠ d → H' b = some u) (ne : p ≠ d) (r : SqT K H p xs) : SqT K H' p xs := r.elim (fun e => .inl (rdKeep h ne e)) .inr
theorem sqlSame (h : ∀ b u, H b = some u → H' b = some u) (r : SqL K H p xs) : SqL K H' p xs := r.elim (fun e => .inl (e.elim (fun e => .inl (h _ _ e)) fun ⟨o, e⟩ => .inr ⟨o, h _ _ e⟩)) .inr
theorem sqtSame (h : ∀ b u, H b = some u → H' b = some u) (r : SqT K H p xs) : SqT K H' p xs := r.elim (fun e => .inl (e.elim (fun e => .inl (h _ _ e)) fun ⟨o, e⟩ => .inr ⟨o, h _ _ e⟩)) .inr
theorem atI_lt {α : Type} {xs : List α} {i : Int} (h0 : 0 ≤ i) (h : i < xs.length) : ∃ v, v ∈ xs ∧ atI xs i = some v := by
  obtain ⟨j, rfl⟩ := Int.eq_ofNat_of_zero_le h0
  have hj : j < xs.length := by omega
  exact ⟨xs[j], List.getElem_mem hj, atI_nat (by simp [hj])⟩
/-- what is picked from: a text's signs, or the items of a list or tuple -/
def PickOf (K : PySem.W.Frag) (H : Hp) (d : Addr) (x : V) (L : List V) : Prop :=
  (∃ z, x = .str z ∧ z.length ≤ 100000 ∧ L = z.cps.toList.map fun c => V.str ⟨#[c]⟩) ∨ ∃ p, x = .ref p ∧ p ≠ d ∧ (SqL K H p L ∨ SqT K H p L)
theorem small_ok {n : Nat} (h : n ≤ 1000000) : n ≤ sizeLine := by have := sizeLine_eq; omega
theorem small_lt {n : Nat} (h : n ≤ 1000000) : n < sizeLine := by have := sizeLine_eq; omega
end
end U
namespace U
open PySem PySem.Spec PyProof.Rows L2
def kinds : List String := ["NoneType", "bool", "int", "str", "list", "tuple", "dict"]
/-- a value of a built-in kind -/
def Kd (K : PySem.W.Frag) (H : Hp) (v : V) (T : String) : Prop := TyX K H v (.type T) ∧ T ∈ kinds
theorem kd_int {T : String} (h : T ∈ kinds) : kitB T "int" = some (T == "int" || T == "bool") := by
  have e : (kinds.all fun T => decide (kitB T "int" = some (T == "int" || T == "bool"))) = true := by decide +kernel
  exact of_decide_eq_true (List.all_eq_true.mp e T h)
theorem kd_bool {T : String} (h : T ∈ kinds) : kitB T "bool" = some (T == "bool") := by
  have e : (kinds.all fun T => decide (kitB T "bool" = some (T == "bool"))) = true := by decide +kernel
  exact of_decide_eq_true (List.all_eq_true.mp e T h)
theorem kd_str {T : String} (h : T ∈ kinds) : kitB T "str" = some (T == "str") := by
  have e : (kinds.all fun T => decide (kitB T "str" = some (T == "str"))) = true := by decide +kernel
  exact of_decide_eq_true (List.all_eq_true.mp e T h)
theorem kd_tuple {T : String} (h : T ∈ kinds) : kitB T "tuple" = some (T == "tuple") := by
  have e : (kinds.all fun T => decide (kitB T "tuple" = some (T == "tuple"))) = true := by decide +kernel
  exact of_decide_eq_true (List.all_eq_true.mp e T h)
theorem kd_dict {T : String} (h : T ∈ kinds) : kitB T "dict" = some (T == "dict") := by
  have e : (kinds.all fun T => decide (kitB T "dict" = some (T == "dict"))) = true := by decide +kernel
  exact of_decide_eq_true (List.all_eq_true.mp e T h)
section
variable {K : PySem.W.Frag} {H : Hp} {v : V} {T : String}
theorem ty_of {t : Value} (h : TyX K H v t) : (t = .type "int" → ∃ i, v = .int i) ∧ (t = .type "bool" → ∃ i, v = .bl i) ∧ (t = .type "str" → ∃ i, v = .str i) := by
  cases h with
  | base b => cases b <;> simp
  | _ => simp
theorem ty_to {t : Value} (h : TyX K H v t) : (∀ i, v = .int i → t = .type "int") ∧ (∀ i, v = .bl i → t = .type "bool") ∧ (∀ i, v = .str i → t = .type "str") := by
  cases h with
  | base b => cases b <;> simp
  | _ => simp
theorem Kd.isInt (h : Kd K H v "int") : ∃ i, v = .int i := (ty_of h.1).1 rfl
theorem Kd.isBool (h : Kd K H v "bool") : ∃ i, v = .bl i := (ty_of h.1).2.1 rfl
theorem Kd.isStr (h : Kd K H v "str") : ∃ i, v = .str i := (ty_of h.1).2.2 rfl
theorem Kd.ofInt {i : Int} (h : Kd K H (.int i) T) : T = "int" := Value.type.inj ((ty_to h.1).1 i rfl)
theorem Kd.ofBool {i : Bool} (h : Kd K H (.bl i) T) : T = "bool" := Value.type.inj ((ty_to h.1).2.1 i rfl)
theorem Kd.ofStr {i : Str} (h : Kd K H (.str i) T) : T = "str" := Value.type.inj ((ty_to h.1).2.2 i rfl)
theorem Kd.int (i : Int) : Kd K H (.int i) "int" := ⟨.base (.int i), by decide⟩
theorem Kd.str (i : Str) : Kd K H (.str i) "str" := ⟨.base (.str i), by decide⟩
theorem Kd.bl (i : Bool) : Kd K H (.bl i) "bool" := ⟨.base (.bl i), by decide⟩
theorem Kd.non : Kd K H .non "NoneType" := ⟨.base .non, by decide⟩
theorem Kd.lst {a : Addr} {xs : List V} (h : H a = some (.lst xs)) : Kd K H (.ref a) "list" := ⟨.base (.lst h), by decide⟩
theorem Kd.tup {a : Addr} {xs : List V} (h : H a = some (.tup xs)) : Kd K H (.ref a) "tuple" := ⟨.base (.tup h), by decide⟩
theorem Kd.dK {a : Addr} {xs : List (Key × V)} (h : H a = some (.dK xs)) : Kd K H (.ref a) "dict" := ⟨.base (.dK h), by decide⟩
end
end U

namespace U
open PySem PySem.Spec PyProof.Rows L2
/-! ### texts as lists of signs -/
def stripL (p : Nat → Bool) (l : List Nat) : List Nat := (((l.dropWhile p).reverse.dropWhile p)).reverse
theorem drop_tw {α : Type} (p : α → Bool) (l : List α) : l.drop (l.takeWhile p).length = l.dropWhile p := by
  have h := List.takeWhile_append_dropWhile (p := p) (l := l)
  conv => lhs; rw [← h]
  rw [h]
  have e : (l.takeWhile p ++ l.dropWhile p).drop (l.takeWhile p).length = l.dropWhile p := List.drop_left
  rw [h] at e
  exact e
theorem take_tw {α : Type} (p : α → Bool) (m : List α) : m.take (m.length - (m.reverse.takeWhile p).length) = (m.reverse.dropWhile p).reverse := by
  have h := drop_tw p m.reverse
  rw [← h, List.drop_reverse, List.reverse_reverse]
theorem strip_list (p : Nat → Bool) (x : Str) : (Txt.stripBy p true true x).cps.toList = stripL p x.cps.toList := by
  rw [stripBy_eq, StrLaws.strSub_toList]
  have e1 : stripLo p true x = (x.cps.toList.takeWhile p).length := rfl
  have e2 : ∀ lo, stripHi p true x lo = x.length - ((x.cps.toList.drop lo).reverse.takeWhile p).length := fun _ => rfl
  rw [e2, e1, drop_tw]
  have el : x.length = x.cps.toList.length := by simp [Str.length]
  have hd : (x.cps.toList.dropWhile p).length = x.cps.toList.length - (x.cps.toList.takeWhile p).length := by rw [← drop_tw, List.length_drop]
  unfold stripL
  rw [← take_tw, hd, el]
  congr 1
  omega
theorem dw_nil {α : Type} {p : α → Bool} : ∀ {l : List α}, l.dropWhile p = [] ↔ ∀ c ∈ l, p c = true
  | [] => by simp
  | a :: l => by
    rw [List.dropWhile_cons]
    by_cases h : p a = true
    · rw [if_pos h, dw_nil]
      simp [h]
    · rw [if_neg h]
      simp [h]
theorem stripL_nil {p : Nat → Bool} {l : List Nat} : stripL p l = [] ↔ ∀ c ∈ l, p c = true := by
  unfold stripL
  rw [List.reverse_eq_nil_iff, dw_nil]
  constructor
  · intro h c hc
    by_cases hp : p c = true
    · exact hp
    · have hm : c ∈ l.dropWhile p := by
        have e := List.takeWhile_append_dropWhile (p := p) (l := l)
        rw [← e] at hc
        rcases List.mem_append.mp hc with z | z
        · exact absurd (List.all_eq_true.mp List.all_takeWhile c z) hp
        · exact z
      exact h c (List.mem_reverse.mpr hm)
  · intro h c hc
    exact h c ((List.dropWhile_sublist p).subset (List.mem_reverse.mp hc))
theorem stripL_keep {p : Nat → Bool} {l : List Nat} (h : ∀ c ∈ l, p c = false) : stripL p l = l := by
  have e : ∀ m : List Nat, (∀ c ∈ m, p c = false) → m.dropWhile p = m := fun m hm => by
    cases m with
    | nil => rfl
    | cons a m => rw [List.dropWhile_cons, if_neg (by rw [hm a (List.mem_cons_self ..)]; decide)]
  unfold stripL
  rw [e l h, e _ (fun c hc => h c (List.mem_reverse.mp hc)), List.reverse_reverse]
theorem str_nil {x : Str} : x = Str.ofString "" ↔ x.cps.toList = [] := by
  constructor
  · intro h; rw [h]; rfl
  · intro h
    have : x.cps = #[] := by
      apply Array.ext'
      rw [h]
    cases x
    simp only at this
    rw [this]; rfl
/-! ### digits -/
theorem digits_are (m : Nat) : ∀ c ∈ (Nat.toDigits 10 m).map Char.toNat, 48 ≤ c ∧ c ≤ 57 := by
  intro c hc
  obtain ⟨ch, hch, e⟩ := List.mem_map.mp hc
  have r := PyProof.Rows.digit_range (Nat.isDigit_of_mem_toDigits (by decide) (by decide) hch)
  rw [← e]
  exact r
theorem num_list (n : Int) : (Str.ofString (toString n)).cps.toList = (if n < 0 then [45] else []) ++ (Nat.toDigits 10 n.natAbs).map Char.toNat := by
  cases n with
  | ofNat m =>
    rw [if_neg (by simp)]
    exact PySem.W.KIN.signs_num m
  | negSucc m =>
    rw [if_pos (by omega)]
    have e : toString (Int.negSucc m) = "-" ++ toString ((m + 1 : Nat) : Int) := rfl
    rw [e]
    have h2 := PySem.W.KIN.signs_num (m + 1)
    rw [PyProof.Rows.signs_ofString] at h2 ⊢
    rw [String.toList_append, List.map_append, h2]
    rfl
/-- the length of an integer's text without its sign -/
theorem let_len (n : Int) : (Txt.stripChars (Str.ofString (toString n)) (Str.ofString "-")).length < 61 ↔ n.natAbs < 10 ^ 60 := by
  have el : ∀ x : Str, x.length = x.cps.toList.length := fun x => by simp [Str.length]
  rw [el]
  unfold Txt.stripChars
  rw [strip_list, num_list]
  have hp : ∀ c, (Str.ofString "-").cps.contains c = decide (c = 45) := fun c => by
    show (#[45] : Array Nat).contains c = _
    simp [eq_comm]
  have hk : stripL (fun c => (Str.ofString "-").cps.contains c) ((if n < 0 then [45] else []) ++ (Nat.toDigits 10 n.natAbs).map Char.toNat) = (Nat.toDigits 10 n.natAbs).map Char.toNat := by
    have hd : ∀ c ∈ (Nat.toDigits 10 n.natAbs).map Char.toNat, (Str.ofString "-").cps.contains c = false := fun c hc => by
      have := digits_are _ c hc
      rw [hp]
      exact decide_eq_false (by omega)
    by_cases h : n < 0
    · rw [if_pos h]
      have e : stripL (fun c => (Str.ofString "-").cps.contains c) ([45] ++ (Nat.toDigits 10 n.natAbs).map Char.toNat) = stripL (fun c => (Str.ofString "-").cps.contains c) ((Nat.toDigits 10 n.natAbs).map Char.toNat) := by
        unfold stripL
        rw [List.singleton_append, List.dropWhile_cons, if_pos (by rw [hp]; rfl)]
      rw [e, stripL_keep hd]
    · rw [if_neg h, List.nil_append, stripL_keep hd]
  have hk' : stripL (Str.ofString "-").cps.contains ((if n < 0 then [45] else []) ++ (Nat.toDigits 10 n.natAbs).map Char.toNat) = _ := hk
  rw [hk', List.length_map]
  have := Nat.length_toDigits_le_iff (b := 10) (n := n.natAbs) (k := 60) (by decide) (by decide)
  omega
theorem num_fits {n : Int} (h : n.natAbs < 2 ^ 1900) : n.natAbs.log2 < 1920 := Nat.lt_of_lt_of_le (PySem.Flt.log2_lt_of (by decide) h) (by decide)
theorem num_len {n : Int} (h : n.natAbs < 2 ^ 1900) : (Str.ofString (toString n)).length ≤ sizeLine := int_text_fits (num_fits h)
end U
namespace U
open PySem PySem.Spec PyProof.Rows L2
section
variable {H0 H H' : Hp} {D : List Addr} {F M M' : List (Addr × HO)}
theorem At.lessM (L : At H0 D F M H) (h : List.Sublist M' M) : At H0 D F M' H := ⟨L.fr, L.fa, fun q hq => L.mu q (h.subset hq), fun q hq => L.mf q (h.subset hq), fun q hq => L.df q (h.subset hq), L.nd.sublist (h.map _)⟩
/-- the second of M changes -/
theorem At.set2 {a b : Addr} {o u v : HO} (L : At H0 D F ((b, v) :: (a, o) :: M) H) (h1 : ∀ c w, H c = some w → c ≠ a → H' c = some w) (h2 : H' a = some u) : At H0 D F ((b, v) :: (a, u) :: M) H' := (L.swap.set h1 h2).swap
end
theorem mul_len (x : Str) (n : Int) (h0 : 0 ≤ n) : (Txt.mul x n).length = n.toNat * x.length := by
  have el : ∀ y : Str, y.length = y.cps.toList.length := fun y => by simp [Str.length]
  rw [el, mul_list x n h0, List.length_flatten, List.map_replicate, List.sum_replicate_nat, el]
end U
namespace U
open PySem PySem.Spec PyProof.Rows L2
theorem At.fresh {H H' : Hp} {p : Addr} {o : HO} (s : ∀ b u, H b = some u → H' b = some u) (h : H p = none) (h' : H' p = some o) : At H [] [] [(p, o)] H' := ⟨fun b u e _ => s b u e, fun _ z => absurd z List.not_mem_nil, fun q hq => by
  obtain rfl := List.mem_singleton.mp hq
  exact h', fun q hq => by
  obtain rfl := List.mem_singleton.mp hq
  exact .inr h, fun _ _ _ z => absurd z List.not_mem_nil, by simp⟩
theorem no_dead {H' : Hp} : ∀ e ∈ ([] : List Addr), ∃ u, H' e = some u := fun _ h => absurd h List.not_mem_nil
theorem At.all {H H' : Hp} {F M : List (Addr × HO)} (L : At H [] F M H') : ∀ b u, H b = some u → H' b = some u := fun b u e => L.fr b u e List.not_mem_nil
end U

/-! U6: own classes: operators, comparisons, str, isinstance. -/
namespace U
open PySem PySem.Spec PyProof.Rows L2
/-- a heap that has grown -/
abbrev Gr (H H' : Hp) : Prop := ∀ b u, H b = some u → H' b = some u
theorem Gr.rfl' {H : Hp} : Gr H H := fun _ _ e => e
theorem Gr.up {H H' : Hp} {p : Addr} {o : HO} (g : Gr H H') (h : H' p = none) : Gr H (upd H' p o) := fun b u e => by rw [upd_ne (ne_of_none (g b u e) h)]; exact g b u e
theorem Gr.trans {H H1 H2 : Hp} (a : Gr H H1) (b : Gr H1 H2) : Gr H H2 := fun c o e => b c o (a c o e)
/-- what is asked of an own class whose instances have a dict -/
structure OwnC (K : PySem.W.Frag) (C : Addr) : Prop where
  cl : Cls K C
  sf : PySem.W.selfFirst K C = true
  ha : PySem.W.findIn K (.ref C) "__class__" = some (some (.builtin "object.__class__"))
  hn : PySem.W.specialIn K (.builtin "object.__class__") "__get__" = some (some (.builtin "getset_descriptor.__get__"))
  htk : PySem.W.takesIn K (.builtin "object.__class__") = some true
  hm : PySem.W.mroIn K C (.type "object") = some true
  tyC : PySem.W.typeIn K (.ref C) = some (.type "type")
theorem mro_no (C : Addr) {T : String} (h : T ∈ kinds) : (PySem.fastBuiltinMro T).map (·.contains (.ref C)) = some false := by
  unfold kinds at h
  simp only [List.mem_cons, List.not_mem_nil, or_false] at h
  rcases h with rfl | rfl | rfl | rfl | rfl | rfl | rfl <;> rfl
section
variable {K : PySem.W.Frag} {C a dx : Addr} {fs : List (Str × V)} {H : Hp} {Q : VK} {v : V} {T : String}
theorem OwnC.ty (o : OwnC K C) (e : H a = some (.ins C dx fs)) : TyX K H (.ref a) (.ref C) := .base (.ins e o.cl o.ha o.hn o.htk o.hm)
theorem OwnC.isi (o : OwnC K C) (e : H a = some (.ins C dx fs)) (q : Q (.bl true) H) : rIsi K [.ref a, .ref C] H Q := ⟨_, _, .ref C, .ref C, true, rfl, .own C, o.ty e, by unfold PySem.W.kitOne; rw [if_pos (beq_self_eq_true _)], q⟩
theorem OwnC.no (o : OwnC K C) (h : T ∈ kinds) : PySem.W.kitOne K (.type T) (.ref C) = some false := by
  have hc : (PySem.W.clsIn K C).isSome = true := by
    obtain ⟨cd, hc, _⟩ := PySem.W.any_some o.cl.hd
    rw [hc]
    rfl
  unfold PySem.W.kitOne
  rw [if_neg (by intro z; cases z)]
  show (if ((PySem.W.clsIn K C).isSome && PySem.W.typeIn K (.ref C) == some (.type "type")) = true then PySem.W.subIn K (.type T) (.ref C) else none) = _
  rw [if_pos (by rw [hc, o.tyC]; rfl)]
  exact mro_no C h
theorem OwnC.isn (o : OwnC K C) (k : Kd K H v T) (q : Q (.bl false) H) : rIsi K [v, .ref C] H Q := ⟨_, _, .type T, .ref C, false, rfl, .own C, k.1, o.no k.2, q⟩
end
/-- two instances of C handed to an own method -/
def uOwn (C : Addr) (sp : Sp) (E : XK) : R2 := fun x y H Q => match x, y with
  | .ref a, .ref b => ∃ dx dy fs gs, H a = some (.ins C dx fs) ∧ H b = some (.ins C dy gs) ∧ sp [.ref a, .ref b] H Q E
  | _, _ => False
def uOwn1 (C : Addr) (sp : Sp) (E : XK) : V → Hp → VK → Prop := fun x H Q => match x with
  | .ref a => ∃ dx fs, H a = some (.ins C dx fs) ∧ sp [.ref a] H Q E
  | _ => False
section
variable {X : Cx} {CX : CXT} {n : Nat} {C f : Addr} {fd : FuncData} {ps : List Str} {sp : Sp} {E : XK} {nm : Str}
theorem run_here {A : Around} {pins : List (Addr × Obj)} {σ : L2.St} {H : Hp} {s : Shared} {Q : VK} {us : List Value} {vs : List V} (F : FnOk X.prog X.w X.K X.mg X.base CX n f fd ps sp) (hr : Room n A) (hfr : A.frames = X.A.frames) (hb : Binds X.K fd ps [])
    (hx : Passes CX X E) (I : Inv X pins σ H s) (r : Vals vs us) (h : sp vs H Q E) : wpAny (model X.prog X.w) A (call (.ref f) us) (EP X pins σ Q) X.xe s := by
  have e0 : Env0 X.prog X.w X.K X.mg X.base A X.stack s H := by
    have e := I.env0
    exact ⟨by rw [hfr]; exact e.frames, e.mod, e.bs, e.bsz, e.funs, e.frf, e.hok, e.bare⟩
  have hl := F.len _ _ _ _ h
  have hb' := hb s us I.kIn (by rw [List.append_nil, ← r.length]; exact hl)
  rw [List.append_nil] at hb'
  refine wpAny_call (codeAny_mono (F.run A X.stack s H ⟨us, []⟩ us vs Q E hr e0 hb' r h) fun r s' hq => ?_)
  cases r with
  | error e => exact hx pins σ H s e s' I hq
  | ok fl =>
    cases fl with
    | ret u => exact I.after hq
    | next => exact False.elim hq
    | brk => exact False.elim hq
    | cont => exact False.elim hq
theorem no_ni {pins : List (Addr × Obj)} {σ : L2.St} {Q : VK} {v : Value} {s' : Shared} (h : EP X pins σ Q v s') : PySem.W.CmpBack (EP X pins σ Q) v s' := by
  obtain ⟨x, H', I, r, q⟩ := h
  cases v with
  | notImplemented => cases x <;> first | (cases r; done) | (obtain ⟨_, r⟩ := r; cases r)
  | _ => exact ⟨x, H', I, r, q⟩
/-- x op y by x's own method -/
theorem opBin {op : Operator} (he : PySem.dunder op.info.2 = nm) (o : OwnC X.K C) (m : Meth X.K C nm f) (F : FnOk X.prog X.w X.K X.mg X.base CX n f fd ps sp) (hr : Room n X.A) (hb : Binds X.K fd ps []) (hx : Passes CX X E) : OpR X (binaryOp op) (uOwn C sp E) := by
  intro pins s σ H x y v u Q I rx ry h
  unfold uOwn at h
  split at h
  · rename_i a b
    obtain ⟨dx, dy, fs, gs, ha, hb', hs⟩ := h
    cases rx; cases ry
    obtain ⟨mA, J, _⟩ := ins_get I.hok ha
    obtain ⟨mB, J', _⟩ := ins_get I.hok hb'
    obtain ⟨od, J, _⟩ := J.look
    obtain ⟨od', J', _⟩ := J'.look
    obtain ⟨m', hF⟩ := I.fr
    refine PySem.W.binop_K (op := op) hF I.ok.mod.kin J J'.type o.sf (by rw [he]; exact m.at_) m.fn ?_
    exact wpAny_mono (run_here F hr rfl hb hx I (show Vals [V.ref a, V.ref b] [Value.ref a, Value.ref b] from .cons rfl (.cons rfl .nil)) hs) (fun _ _ q => no_ni q) fun _ _ z => z
  · exact h.elim
/-- x op y, a comparison, by x's own method -/
theorem opCmp {op : CmpOp} (he : (PySem.cmpInfo op).2.1 = nm) (hop : compareOp op = richCompare op) (m : Meth X.K C nm f) (F : FnOk X.prog X.w X.K X.mg X.base CX n f fd ps sp) (hr : Room n X.A) (hb : Binds X.K fd ps []) (hx : Passes CX X E) : OpR X (compareOp op) (uOwn C sp E) := by
  intro pins s σ H x y v u Q I rx ry h
  unfold uOwn at h
  split at h
  · rename_i a b
    obtain ⟨dx, dy, fs, gs, ha, hb', hs⟩ := h
    cases rx; cases ry
    obtain ⟨mA, J, _⟩ := ins_get I.hok ha
    obtain ⟨mB, J', _⟩ := ins_get I.hok hb'
    obtain ⟨od, J, _⟩ := J.look
    obtain ⟨od', J', _⟩ := J'.look
    obtain ⟨m', hF⟩ := I.fr
    rw [hop]
    refine PySem.W.cmp_K (op := op) (tb := .ref C) hr.units0 hF I.ok.mod.kin J J'.type (by simp [PySem.W.notFirst]) (by rw [he]; exact m.at_) m.fn ?_
    exact wpAny_mono (run_here F hr rfl hb hx I (show Vals [V.ref a, V.ref b] [Value.ref a, Value.ref b] from .cons rfl (.cons rfl .nil)) hs) (fun _ _ q => no_ni q) fun _ _ z => z
  · exact h.elim
/-- -x by x's own method -/
theorem unOwn (m : Meth X.K C "__neg__" f) (F : FnOk X.prog X.w X.K X.mg X.base CX n f fd ps sp) (hr : Room n X.A) (hb : Binds X.K fd ps []) (hx : Passes CX X E) : UnR X (unaryOp .USub) (uOwn1 C sp E) := by
  intro pins s σ H x v Q I rx h
  unfold uOwn1 at h
  split at h
  · rename_i a
    obtain ⟨dx, fs, ha, hs⟩ := h
    cases rx
    obtain ⟨mA, J, _⟩ := ins_get I.hok ha
    obtain ⟨od, J, _⟩ := J.look
    obtain ⟨m', hF⟩ := I.fr
    refine PySem.W.ksp_neg hF I.ok.mod.kin J m.at_ m.fn ?_
    exact run_here F hr rfl hb hx I (show Vals [V.ref a] [Value.ref a] from .cons rfl .nil) hs
  · exact h.elim
/-- str(x) by x's own method -/
def uStrO (C : Addr) (sp : Sp) (E : XK) : List V → Hp → VK → Prop := fun vs H Q => match vs with
  | [.ref a] => ∃ dx fs, H a = some (.ins C dx fs) ∧ sp [.ref a] H (fun v H' => (∃ y, v = .str y) ∧ Q v H') E
  | _ => False
theorem caStrO (m : Meth X.K C "__str__" f) (F : FnOk X.prog X.w X.K X.mg X.base CX n f fd ps sp) (hr : Room (n + 2) X.A) (hb : Binds X.K fd ps []) (hx : Passes CX X E) : CallR X (.type "str") (uStrO C sp E) := by
  intro pins s σ H xs us Q I r h
  unfold uStrO at h
  split at h
  · rename_i a
    obtain ⟨dx, fs, ha, hs⟩ := h
    obtain ⟨u, rfl, ru⟩ := vals1 r
    cases (show u = Value.ref a from ru)
    obtain ⟨mA, J, _⟩ := ins_get I.hok ha
    obtain ⟨od, J, _⟩ := J.look
    have hr2 : Room n X.A.in1.in1 := Room.in1 (Room.in1 hr)
    refine PySem.W.kso_call hr2.units0 I.kIn J m.at_ m.fn ?_
    refine wpAny_mono (run_here F hr2 rfl hb hx I (show Vals [V.ref a] [Value.ref a] from .cons rfl .nil) hs) (fun v s' q => ?_) fun _ _ z => z
    obtain ⟨x, H', I', rv, ⟨y, rfl⟩, q⟩ := q
    obtain ⟨t, rfl⟩ := (show ∃ t, v = Value.str y t from rv)
    exact ⟨.str y, H', I', ⟨t, rfl⟩, q⟩
  · exact h.elim
end
end U

/-! U7: repr of a bool, fractions. -/
namespace U
open PySem PySem.Spec PyProof.Rows L2
section
variable {X : Cx}
def bstr (k : Bool) : Str := if k then "True" else "False"
theorem bstr_inj {a b : Bool} (h : bstr a = bstr b) : a = b := by revert h; cases a <;> cases b <;> decide
def uReprB (K : PySem.W.Frag) (vs : List V) (H : Hp) (Q : VK) : Prop := match vs with
  | [.bl k] => Q (.str (bstr k)) H
  | _ => uRepr K vs H Q
theorem caReprB (hg : X.A.guards = some []) (hu : X.A.units + 70 < cLine) : CallR X (.builtin "repr") (uReprB X.K) := fun p s z H xs us Q I r h => by
  unfold uReprB at h
  split at h
  · rename_i k
    obtain ⟨u, rfl, ru⟩ := L2.vals1 r
    cases (show u = Value.bool k from ru)
    refine PySem.P.repr_of_bool ?_
    exact ⟨.str (bstr k), H, I.tok _, ⟨_, rfl⟩, h⟩
  · exact caRepr hg hu p s z H _ us Q I r h
end
/-! ### fractions -/
/-- equal fractions compare alike -/
theorem fr_lt {p q N D p' q' N' D' : Int} (h : p * D = N * q) (h' : p' * D' = N' * q') (hq : 0 < q) (hD : 0 < D) (hq' : 0 < q') (hD' : 0 < D') : p * q' < p' * q ↔ N * D' < N' * D := by
  have key : (p' * q - p * q') * (D * D') = (N' * D - N * D') * (q * q') := by grind
  have e1 : 0 < D * D' := Int.mul_pos hD hD'
  have e2 : 0 < q * q' := Int.mul_pos hq hq'
  constructor
  · intro z
    have : 0 < (p' * q - p * q') * (D * D') := Int.mul_pos (by omega) e1
    rw [key] at this
    have := Int.pos_of_mul_pos_left this e2
    omega
  · intro z
    have : 0 < (N' * D - N * D') * (q * q') := Int.mul_pos (by omega) e2
    rw [← key] at this
    have := Int.pos_of_mul_pos_left this e1
    omega
def gcdI (a b : Int) : Int := ((Nat.gcd a.natAbs b.natAbs : Nat) : Int)
theorem gcdI_pos {a b : Int} (h : 0 < b) : 0 < gcdI a b := by
  have : 0 < Nat.gcd a.natAbs b.natAbs := Nat.gcd_pos_of_pos_right _ (by omega)
  exact Int.natCast_pos.mpr this
theorem gcdI_dl (a b : Int) : gcdI a b ∣ a := by
  have := Nat.gcd_dvd_left a.natAbs b.natAbs
  exact Int.dvd_natAbs.mp (Int.natCast_dvd_natCast.mpr this)
theorem gcdI_dr (a b : Int) : gcdI a b ∣ b := by
  have := Nat.gcd_dvd_right a.natAbs b.natAbs
  exact Int.dvd_natAbs.mp (Int.natCast_dvd_natCast.mpr this)
theorem gcdI_le {a b : Int} (h : 0 < b) : gcdI a b ≤ b := Int.le_of_dvd h (gcdI_dr a b)
/-- a fraction in lowest terms -/
structure Low (p q : Int) : Prop where
  pos : 0 < q
  one : Nat.gcd p.natAbs q.natAbs = 1
theorem ediv_of {a g x : Int} (h : 0 < g) (e : a = g * x) : a / g = x := by rw [e]; exact Int.mul_ediv_cancel_left x (by omega)
/-- what is left of a fraction by its greatest common divisor -/
theorem low_of {a b : Int} (h : 0 < b) : Low (a / gcdI a b) (b / gcdI a b) ∧ (a / gcdI a b) * b = a * (b / gcdI a b) ∧ (a / gcdI a b).natAbs ≤ a.natAbs ∧ b / gcdI a b ≤ b := by
  have g := gcdI_pos (a := a) h
  obtain ⟨x, hx⟩ := gcdI_dl a b
  obtain ⟨y, hy⟩ := gcdI_dr a b
  have ex : a / gcdI a b = x := ediv_of g hx
  have ey : b / gcdI a b = y := ediv_of g hy
  have ge : gcdI a b = ((Nat.gcd a.natAbs b.natAbs : Nat) : Int) := rfl
  rw [ex, ey]
  generalize hG : gcdI a b = G at *
  have y0 : 0 < y := by
    rw [hy] at h
    exact Int.pos_of_mul_pos_right h g
  have n1 : a.natAbs = G.natAbs * x.natAbs := by rw [hx, Int.natAbs_mul]
  have n2 : b.natAbs = G.natAbs * y.natAbs := by rw [hy, Int.natAbs_mul]
  refine ⟨⟨y0, ?_⟩, by rw [hx, hy]; grind, ?_, ?_⟩
  · have e : G.natAbs = Nat.gcd a.natAbs b.natAbs := by omega
    rw [n1, n2, Nat.gcd_mul_left] at e
    have hp : 0 < G.natAbs := by omega
    have := Nat.eq_of_mul_eq_mul_left hp (show G.natAbs * Nat.gcd x.natAbs y.natAbs = G.natAbs * 1 by omega)
    exact this
  · rw [n1]
    exact Nat.le_mul_of_pos_left _ (by omega)
  · have : y * 1 ≤ y * G := Int.mul_le_mul_of_nonneg_left (by omega) (by omega)
    rw [hy]
    have e2 : G * y = y * G := Int.mul_comm _ _
    omega
/-- two fractions in lowest terms are equal exactly if top and bottom are -/
theorem Low.inj {p q p' q' : Int} (h : Low p q) (h' : Low p' q') (e : p * q' = p' * q) : p = p' ∧ q = q' := by
  have hq := h.pos
  have hq' := h'.pos
  have n : p.natAbs * q'.natAbs = p'.natAbs * q.natAbs := by rw [← Int.natAbs_mul, ← Int.natAbs_mul, e]
  have d1 : q.natAbs ∣ q'.natAbs := by
    refine Nat.Coprime.dvd_of_dvd_mul_left (Nat.coprime_comm.mp h.one) ?_
    exact ⟨p'.natAbs, by rw [n]; exact Nat.mul_comm _ _⟩
  have d2 : q'.natAbs ∣ q.natAbs := by
    refine Nat.Coprime.dvd_of_dvd_mul_left (Nat.coprime_comm.mp h'.one) ?_
    exact ⟨p.natAbs, by rw [← n]; exact Nat.mul_comm _ _⟩
  have e3 := Nat.dvd_antisymm d1 d2
  have e4 : q = q' := by omega
  subst e4
  exact ⟨Int.eq_of_mul_eq_mul_right (by omega) e, rfl⟩
/-- a fraction in lowest terms stays as it is -/
theorem Low.same {p q : Int} (h : Low p q) : p / gcdI p q = p ∧ q / gcdI p q = q := by
  have : gcdI p q = 1 := by unfold gcdI; rw [h.one]; rfl
  rw [this]
  exact ⟨Int.ediv_one p, Int.ediv_one q⟩
/-- less, of fractions with positive bottoms, goes on -/
theorem fr_trans {p q p' q' p'' q'' : Int} (h : 0 < q) (h' : 0 < q') (h'' : 0 < q'') (a : p * q' < p' * q) (b : p' * q'' < p'' * q') : p * q'' < p'' * q := by
  have e1 : 0 < (p' * q - p * q') * q'' := Int.mul_pos (by omega) h''
  have e2 : 0 < (p'' * q' - p' * q'') * q := Int.mul_pos (by omega) h
  have e3 : (p'' * q - p * q'') * q' = (p' * q - p * q') * q'' + (p'' * q' - p' * q'') * q := by grind
  have : 0 < (p'' * q - p * q'') * q' := by omega
  have := Int.pos_of_mul_pos_left this h'
  omega
end U

/-! U8: ratios as they stand in the heap. -/
namespace U
open PySem PySem.Spec PyProof.Rows L2
def rf (p q : Int) : List (Str × V) := [("_top", .int p), ("_bottom", .int q)]
theorem tb_ : ¬ (("_top" : Str) = "_bottom") := by decide +kernel
theorem bt_ : ¬ (("_bottom" : Str) = "_top") := by decide +kernel
theorem rf_mk (p q : Int) : putF "_bottom" (.int q) (putF "_top" (.int p) []) = rf p q := by
  show (if ("_top" : Str) = "_bottom" then [(("_top" : Str), V.int q)] else (("_top" : Str), V.int p) :: putF "_bottom" (V.int q) []) = _
  rw [if_neg tb_]
  rfl
theorem rf_top (p q t : Int) : putF "_top" (.int t) (rf p q) = rf t q := by
  show (if ("_top" : Str) = "_top" then (("_top" : Str), V.int t) :: [(("_bottom" : Str), V.int q)] else _) = _
  rw [if_pos rfl]
  rfl
theorem rf_bot (p q t : Int) : putF "_bottom" (.int t) (rf p q) = rf p t := by
  show (if ("_top" : Str) = "_bottom" then _ else (("_top" : Str), V.int p) :: (if ("_bottom" : Str) = "_bottom" then [(("_bottom" : Str), V.int t)] else _)) = _
  rw [if_neg tb_, if_pos rfl]
  rfl
theorem rf_lt (p q : Int) : (rf p q).lookup ("_top" : Str) = some (.int p) := by
  unfold rf
  rw [List.lookup_cons_self]
theorem rf_lb (p q : Int) : (rf p q).lookup ("_bottom" : Str) = some (.int q) := by
  unfold rf
  rw [List.lookup_cons, show (("_bottom" : Str) == "_top") = false by decide +kernel]
  simp only [List.lookup_cons_self]
theorem rf_no (p q : Int) {m : Str} (h1 : (m == "_top") = false) (h2 : (m == "_bottom") = false) : (rf p q).lookup m = none := by
  unfold rf
  rw [List.lookup_cons, h1]
  simp only
  rw [List.lookup_cons, h2]
  rfl
theorem own_self {K : PySem.W.Frag} {C : Addr} : PySem.W.kitOne K (.ref C) (.ref C) = some true := by unfold PySem.W.kitOne; rw [if_pos (beq_self_eq_true _)]
/-- v is a ratio with this top and bottom -/
def IsR (C : Addr) (H : Hp) (v : V) (p q : Int) : Prop := ∃ a dx, v = .ref a ∧ H a = some (.ins C dx (rf p q))
theorem IsR.up {C : Addr} {H H' : Hp} {v : V} {p q : Int} (r : IsR C H v p q) (g : Gr H H') : IsR C H' v p q := let ⟨a, dx, e, h⟩ := r; ⟨a, dx, e, g _ _ h⟩
theorem mul_lt {a b : Int} (m n : Nat) (ha : a.natAbs < 2 ^ m) (hb : b.natAbs < 2 ^ n) : (a * b).natAbs < 2 ^ (m + n) := by
  rw [Int.natAbs_mul, Nat.pow_add]
  exact Nat.mul_lt_mul'' ha hb
theorem pos_abs {q : Int} (h : 0 < q) : ((q.natAbs : Nat) : Int) = q := by omega
/-- v is a new tuple of two integers -/
def TupAt (H : Hp) (v : V) (p q : Int) : Prop := ∃ x, v = .ref x ∧ H x = some (.tup [.int p, .int q])
theorem TupAt.up {H H' : Hp} {v : V} {p q : Int} (r : TupAt H v p q) (g : Gr H H') : TupAt H' v p q := let ⟨a, e, h⟩ := r; ⟨a, e, g _ _ h⟩
theorem TupAt.keep {H H' : Hp} {v : V} {p q : Int} {d : Addr} {l : List V} (r : TupAt H v p q) (s : ∀ b u, H b = some u → b ≠ d → H' b = some u) (hd : H d = some (.lst l)) : TupAt H' v p q := let ⟨a, e, h⟩ := r; ⟨a, e, s _ _ h (fun z => by rw [z, hd] at h; cases h)⟩
theorem IsR.keep {C : Addr} {H H' : Hp} {v : V} {p q : Int} {d : Addr} {l : List V} (r : IsR C H v p q) (s : ∀ b u, H b = some u → b ≠ d → H' b = some u) (hd : H d = some (.lst l)) : IsR C H' v p q := let ⟨a, dx, e, h⟩ := r; ⟨a, dx, e, s _ _ h (fun z => by rw [z, hd] at h; cases h)⟩
def pd (p q : Int) : PyData := .tuple [.int p, .int q]
def pds (l : List (Int × Int)) : List PyData := l.map fun z => pd z.1 z.2
theorem shaped_pd (p q : Int) : SeqAt.shaped (pd p q) = true := rfl
theorem lay_pds : ∀ l, PyData.canLayAll0 (pds l) = true
  | [] => rfl
  | (p, q) :: r => by
    show (PyData.canLay0 (pd p q) && PyData.canLayAll0 (pds r)) = true
    rw [lay_pds r]
    rfl
theorem depth_pds : ∀ l, PyData.depthAll (pds l) ≤ 1
  | [] => by decide
  | (p, q) :: r => by
    show max (PyData.depth (pd p q)) (PyData.depthAll (pds r)) ≤ 1
    have := depth_pds r
    have e : PyData.depth (pd p q) = 1 := rfl
    omega
theorem shaped_pds (l : List (Int × Int)) : SeqAt.shaped (.list (pds l)) = true := by
  show (PyData.canLayAll0 (pds l) && decide (PyData.depthAll (pds l) + 1 ≤ 64)) = true
  rw [lay_pds, decide_eq_true (by have := depth_pds l; omega)]
  rfl
theorem eqv_pd (p q r s : Int) : PyData.eqv (pd p q) (pd r s) = decide (p = r ∧ q = s) := by
  show (p == r && (q == s && true)) = _
  rw [Bool.and_true, Bool.eq_iff_iff]
  simp
theorem in_pds {p q : Int} {l : List (Int × Int)} (h : (p, q) ∈ l) : ((pds l).any fun z => PyData.eqv z (pd p q)) = true := by
  rw [List.any_eq_true]
  exact ⟨pd p q, List.mem_map.mpr ⟨(p, q), h, rfl⟩, by rw [eqv_pd]; simp⟩
theorem TupAt.dp {K : PySem.W.Frag} {H : Hp} {v : V} {p q : Int} (h : TupAt H v p q) : Dp K H v (pd p q) := by
  obtain ⟨x, rfl, e⟩ := h
  exact .tup (SqT.of e) (.cons (.int _) (.cons (.int _) .nil))
theorem dp_pairs {K : PySem.W.Frag} {H : Hp} : ∀ {xs : List V}, (∀ v ∈ xs, ∃ p q, TupAt H v p q) → ∃ l : List (Int × Int), DpAll K H xs (pds l) ∧ ∀ v ∈ xs, ∀ p q, TupAt H v p q → (p, q) ∈ l
  | [], _ => ⟨[], .nil, fun _ h => absurd h List.not_mem_nil⟩
  | v :: r, h => by
    obtain ⟨l, hl, hm⟩ := dp_pairs (K := K) (xs := r) fun w hw => h w (List.mem_cons_of_mem _ hw)
    obtain ⟨p, q, t⟩ := h v (List.mem_cons_self ..)
    refine ⟨(p, q) :: l, .cons t.dp hl, fun w hw p' q' t' => ?_⟩
    rcases List.mem_cons.mp hw with rfl | hw
    · obtain ⟨x, rfl, e⟩ := t
      obtain ⟨y, z, e'⟩ := t'
      cases z
      rw [e] at e'
      cases e'
      exact List.mem_cons_self ..
    · exact List.mem_cons_of_mem _ (hm w hw p' q' t')
theorem hu65 {k : Nat} {A : Around} (h : Room k A) : A.units + 65 < cLine := by have := h.un; omega
end U

/-! U9: own == and != with any second operand, an own truth value. -/
namespace NeW
open PySem PySem.Spec PySem.Calls PyProof.Rows PySem.W Builtin
section
variable {prog : Program} {w : World} {A : Around} {E : Value → Shared → Prop} {s : Shared} {K : Frag} {x C f L : Addr} {h₀ : Heap} {m : Str → Option Value} {ox : Obj} {od : Option Obj} {b tb : Value}
theorem ifBound_B {M : Model} {args : List Value} {name : Str} {id : String} {Q : Option Value → Shared → Prop} (X : K.In s.heap) (I : InstAt s.heap x ox C od) (hs : findIn K (.ref C) name = some (some (.builtin id)))
    (hb : ∀ self, bindSpecial (.builtin id) self = pure (.builtin id, [self])) (h : wpAny M A (call (.builtin id) (.ref x :: args)) (fun v => Q (some v)) E s) : wpAny M A (callSpecialIfBound? (.ref x) name args) Q E s := by
  simp only [callSpecialIfBound?, bindSpecialIfBound?]
  refine wpAny_holding (wpAny_bind (wpAny_bind (wpAny_bind (I.type.here ((looks_findIn X hs).here ?_)))))
  refine wpAny_bind (wpAny_askSetting (wpAny_ite ?_))
  have fin : wpAny M A (call (.builtin id) ([.ref x] ++ args) >>= fun v => pure (some v)) Q E s := wpAny_bind (wpAny_mono h (fun v s' h' => wpAny_pure h') fun _ _ h' => h')
  split
  · exact wpAny_bind ((Looks.of_pure (hb _)).here (wpAny_pure (by exact fin)))
  · exact wpAny_tryCatch (wpAny_bind ((Looks.of_pure (hb _)).here (wpAny_pure (by exact fin))))
theorem one_ne {Q : Value → Shared → Prop} (hu : A.in1.units < cLine) (X : K.In s.heap) (I : InstAt s.heap x ox C od) (hn : findIn K (.ref C) "__ne__" = some (some (.builtin "object.__ne__"))) (hm : mroIn K C (.type "object") = some true)
    (hs : findIn K (.ref C) "__eq__" = some (some (.ref f))) (hf : isFn K (.ref f) = true)
    (h : wpAny (model prog w) A.in1 (call (.ref f) [.ref x, b]) (fun v s' => ∃ k, v = .bool k ∧ Q (.bool (!k)) s') E s) : wpAny (model prog w) A (tryCompare (.ref x) "__ne__" b) (fun r s' => ∃ v, r = some v ∧ Q v s') E s := by
  unfold tryCompare
  refine wpAny_bind (ifBound_B X I hn PySem.F.slot_object_ne.bind ?_)
  refine wpAny_call (codeAny_call_builtin PySem.F.slot_object_ne.plain PySem.F.cmpEntry_ne (PySem.W.check_slot (i := "object.__ne__") (owner := "object") (n := "__ne__") PySem.F.cmpKind_ne PySem.F.cmpSplit_ne (I.type.andThen (looks_mroIn X hm)) (PySem.F.cmpArgs_ne _ _) ?_))
  unfold Builtin.«object.__ne__»
  refine wpAny_bind (m := slotArgs "__ne__" 1 _) (wpAny_pure ?_)
  refine wpAny_bind (m := cRoomFor _ _) (wpAny_cRoomFor hu ?_)
  refine wpAny_bind (m := callSpecialIfBound? (.ref x) (Str.ofString "__eq__") _) (ifBound_K X I hs hf (wpAny_mono h (fun r s' hr => ?_) fun _ _ y => y))
  obtain ⟨k, rfl, q⟩ := hr
  refine wpAny_bind (m := truthy (.bool k)) (wpAny_truthy_bool ?_)
  first
    | exact wpAny_pure ⟨_, rfl, q⟩
    | exact wpAny_pure (wpAny_pure ⟨_, rfl, q⟩)
theorem ne_K {Q : Value → Shared → Prop} (hu : A.in1.units < cLine) (hu0 : A.units < cLine) (X : K.In s.heap) (I : InstAt s.heap x ox C od) (hb : Looks (model prog w) s.heap (typeOf b) tb) (hnf : notFirst K C tb = true) (hn : findIn K (.ref C) "__ne__" = some (some (.builtin "object.__ne__"))) (hm : mroIn K C (.type "object") = some true)
    (hs : findIn K (.ref C) "__eq__" = some (some (.ref f))) (hf : isFn K (.ref f) = true)
    (h : wpAny (model prog w) A.in1 (call (.ref f) [.ref x, b]) (fun v s' => ∃ k, v = .bool k ∧ Q (.bool (!k)) s') E s) : wpAny (model prog w) A (richCompare .NotEq (.ref x) b) Q E s := by
  have one := one_ne hu X I hn hm hs hf h
  unfold richCompare
  simp only [oneThing_ref]
  refine wpAny_holding (wpAny_bind (wpAny_cRoomFor hu0 ?_))
  rw [PySem.cmpInfo_NotEq]
  dsimp only
  refine wpAny_bind (I.type.here (wpAny_bind (hb.here ?_)))
  split
  · rename_i q
    have e : subIn K tb (.ref C) = some false := by
      rcases Bool.or_eq_true_iff.mp hnf with e | e
      · rw [beq_iff_eq.mp e] at q; simp at q
      · exact beq_iff_eq.mp e
    refine wpAny_bind ((looks_subIn X e).here ?_)
    simp only [Bool.false_eq_true, if_false]
    refine wpAny_bind (wpAny_mono one (fun r s' z => ?_) fun _ _ e => e)
    obtain ⟨v, rfl, hq⟩ := z
    exact wpAny_pure hq
  · refine wpAny_bind (wpAny_pure ?_)
    simp only [Bool.false_eq_true, if_false]
    refine wpAny_bind (wpAny_mono one (fun r s' z => ?_) fun _ _ e => e)
    obtain ⟨v, rfl, hq⟩ := z
    exact wpAny_pure hq
end
end NeW
namespace U
open PySem PySem.Spec PyProof.Rows L2
/-- what is asked of a class without an own != -/
def NoNe (K : PySem.W.Frag) (C : Addr) : Prop := PySem.W.findIn K (.ref C) "__ne__" = some (some (.builtin "object.__ne__"))
/-- the second operand of an own comparison: an instance of the class, or a value of a built-in kind -/
def Snd (K : PySem.W.Frag) (C : Addr) (H : Hp) (y : V) : Prop := (∃ b dx fs, y = .ref b ∧ H b = some (.ins C dx fs)) ∨ ∃ S, Kd K H y S
/-- an instance of C and any second operand handed to an own method -/
def uOwnX (K : PySem.W.Frag) (C : Addr) (sp : Sp) (E : XK) : R2 := fun x y H Q => match x with
  | .ref a => ∃ dx fs, H a = some (.ins C dx fs) ∧ Snd K C H y ∧ sp [.ref a, y] H Q E
  | _ => False
section
variable {X : Cx} {CX : CXT} {n : Nat} {C f : Addr} {fd : FuncData} {ps : List Str} {sp : Sp} {E : XK} {nm : Str}
theorem not_first {K : PySem.W.Frag} {T : String} (h : T ∈ kinds) : PySem.W.notFirst K C (.type T) = true := by
  unfold PySem.W.notFirst
  have : PySem.W.subIn K (.type T) (.ref C) = some false := mro_no C h
  rw [this]
  simp
theorem snd_ty {pins : List (Addr × Obj)} {σ : L2.St} {H : Hp} {s : Shared} {y : V} {u : Value} (I : Inv X pins σ H s) (ry : L2.RelV y u) (h : Snd X.K C H y) : ∃ tb, PySem.W.Looks (model X.prog X.w) s.heap (typeOf u) tb ∧ PySem.W.notFirst X.K C tb = true := by
  rcases h with ⟨b, dx, fs, rfl, hb⟩ | ⟨S, hk⟩
  · cases ry
    obtain ⟨mB, J', _⟩ := ins_get I.hok hb
    obtain ⟨od', J', _⟩ := J'.look
    exact ⟨_, J'.type, by simp [PySem.W.notFirst]⟩
  · obtain ⟨P, Z, hp, _⟩ := kit_of I ry hk.1
    exact ⟨_, Z.ty _ _ I.kIn hp, not_first hk.2⟩
theorem opCmpX {op : CmpOp} (he : (PySem.cmpInfo op).2.1 = nm) (hop : compareOp op = richCompare op) (m : Meth X.K C nm f) (F : FnOk X.prog X.w X.K X.mg X.base CX n f fd ps sp) (hr : Room n X.A) (hb : Binds X.K fd ps []) (hx : Passes CX X E) : OpR X (compareOp op) (uOwnX X.K C sp E) := by
  intro pins s σ H x y v u Q I rx ry h
  unfold uOwnX at h
  split at h
  · rename_i a
    obtain ⟨dx, fs, ha, hy, hs⟩ := h
    cases rx
    obtain ⟨mA, J, _⟩ := ins_get I.hok ha
    obtain ⟨od, J, _⟩ := J.look
    obtain ⟨m', hF⟩ := I.fr
    obtain ⟨tb, lt, hnf⟩ := snd_ty I ry hy
    rw [hop]
    refine PySem.W.cmp_K (op := op) (tb := tb) hr.units0 hF I.ok.mod.kin J lt hnf (by rw [he]; exact m.at_) m.fn ?_
    exact wpAny_mono (run_here F hr rfl hb hx I (show Vals [V.ref a, y] [Value.ref a, u] from .cons rfl (.cons ry .nil)) hs) (fun _ _ q => no_ni q) fun _ _ z => z
  · exact h.elim
/-- x != y by x's own == -/
def uOwnN (K : PySem.W.Frag) (C : Addr) (sp : Sp) (E : XK) : R2 := fun x y H Q => match x with
  | .ref a => ∃ dx fs, H a = some (.ins C dx fs) ∧ Snd K C H y ∧ sp [.ref a, y] H (fun v H' => ∃ k, v = .bl k ∧ Q (.bl (!k)) H') E
  | _ => False
theorem opNeX (o : OwnC X.K C) (ne : NoNe X.K C) (m : Meth X.K C "__eq__" f) (F : FnOk X.prog X.w X.K X.mg X.base CX n f fd ps sp) (hr : Room (n + 1) X.A) (hb : Binds X.K fd ps []) (hx : Passes CX X E) : OpR X (compareOp .NotEq) (uOwnN X.K C sp E) := by
  intro pins s σ H x y v u Q I rx ry h
  unfold uOwnN at h
  split at h
  · rename_i a
    obtain ⟨dx, fs, ha, hy, hs⟩ := h
    cases rx
    obtain ⟨mA, J, _⟩ := ins_get I.hok ha
    obtain ⟨od, J, _⟩ := J.look
    obtain ⟨tb, lt, hnf⟩ := snd_ty I ry hy
    show wpAny (model X.prog X.w) X.A (richCompare .NotEq (.ref a) u) (EP X pins σ Q) X.xe s
    refine NeW.ne_K hr.in1.units0 hr.units0 I.kIn J lt hnf ne o.hm m.at_ m.fn ?_
    refine wpAny_mono (run_here F hr.in1 rfl hb hx I (show Vals [V.ref a, y] [Value.ref a, u] from .cons rfl (.cons ry .nil)) hs) (fun r s' q => ?_) fun _ _ z => z
    obtain ⟨z, H', I', rz, k, rfl, q⟩ := q
    cases rz
    exact ⟨k, rfl, .bl (!k), H', I', rfl, q⟩
  · exact h.elim
/-- a truth value by an own method -/
def uTruO (C : Addr) (sp : Sp) (E : XK) (ta : TE) : TT := fun σ H Q => ta σ H fun x H1 => ∃ a dx fs, x = .ref a ∧ H1 a = some (.ins C dx fs) ∧ sp [.ref a] H1 (fun v H2 => ∃ k, v = .bl k ∧ Q k H2) E
theorem ptO {a : Expr} {ta : TE} (m : Meth X.K C "__bool__" f) (F : FnOk X.prog X.w X.K X.mg X.base CX n f fd ps sp) (hr : Room n X.A) (hb : Binds X.K fd ps []) (hx : Passes CX X E) (ha : PE X a ta)
    (he : ∀ whole, isTrue a X.env whole = (do let v ← whole; standAt a.pos; holding [v] (truthy v)) := by intro _; rfl) : PT X a (uTruO C sp E ta) := by
  refine ⟨fun p s z H Q I h => isTrue_plain (thn (ha.run p s z H _ I h) fun v s1 ⟨x, H1, I1, r1, q⟩ => ?_) (he _)⟩
  obtain ⟨b, dx, fs, rfl, hb', hs⟩ := q
  cases r1
  obtain ⟨mA, J, _⟩ := ins_get I1.hok hb'
  obtain ⟨od, J, _⟩ := J.look
  obtain ⟨m', hF⟩ := I1.fr
  refine PySem.W.truthy_K hF I1.ok.mod.kin J m.at_ m.fn ?_
  refine wpAny_mono (run_here F hr rfl hb hx I1 (show Vals [V.ref b] [Value.ref b] from .cons rfl .nil) hs) (fun r s' q => ?_) fun _ _ z => z
  obtain ⟨y, H', I', ry, k, rfl, q⟩ := q
  cases ry
  exact ⟨H', I', q⟩
end
end U

/-! U10: fractions by value, texts of pairs. -/
namespace U
open PySem PySem.Spec PyProof.Rows L2
def uBool (vs : List V) (H : Hp) (Q : VK) : Prop := match vs with | [.int i] => Q (.bl (decide (i ≠ 0))) H | [.bl k] => Q (.bl k) H | _ => False
theorem caBool {X : Cx} : CallR X (.type "bool") uBool := fun p s z H xs us Q I r h => by
  unfold uBool at h
  split at h
  · rename_i i
    refine call_bool1 p s z H _ us Q I r (.inl ⟨i, rfl, ?_⟩)
    have e : decide (i ≠ 0) = (i != 0) := by by_cases h0 : i = 0 <;> simp [h0]
    rw [← e]
    exact h
  · exact call_bool1 p s z H _ us Q I r (.inr ⟨_, rfl, h⟩)
  · exact h.elim
/-- p / q is N / D in lowest terms -/
structure Val (p q N D : Int) : Prop where
  low : Low p q
  dp : 0 < D
  eq : p * D = N * q
theorem Val.of {N D : Int} (h : 0 < D) : Val (N / gcdI N D) (D / gcdI N D) N D := ⟨(low_of h).1, h, (low_of h).2.1⟩
theorem Val.self {p q : Int} (h : Low p q) : Val p q p q := ⟨h, h.pos, rfl⟩
/-- another fraction of the same value -/
theorem Val.to {p q N D N' D' : Int} (v : Val p q N D) (h : 0 < D') (e : N * D' = N' * D) : Val p q N' D' := ⟨v.low, h, by
  have hD := v.dp
  have e1 := v.eq
  refine Int.eq_of_mul_eq_mul_right (show D ≠ 0 by omega) ?_
  grind⟩
theorem Val.inj {p q p' q' N D N' D' : Int} (v : Val p q N D) (v' : Val p' q' N' D') (e : N * D' = N' * D) : p = p' ∧ q = q' := by
  refine v.low.inj v'.low ?_
  have v2 := v.to v'.dp e
  have h := v'.dp
  have e1 := v2.eq
  have e2 := v'.eq
  refine Int.eq_of_mul_eq_mul_right (show D' ≠ 0 by omega) ?_
  grind
section
variable {p q p' q' N D N' D' : Int}
theorem Val.add (v : Val p q N D) (v' : Val p' q' N' D') : Val ((p * q' + p' * q) / gcdI (p * q' + p' * q) (q * q')) (q * q' / gcdI (p * q' + p' * q) (q * q')) (N * D' + N' * D) (D * D') :=
  (Val.of (Int.mul_pos v.low.pos v'.low.pos)).to (Int.mul_pos v.dp v'.dp) (by have := v.eq; have := v'.eq; grind)
theorem Val.sub (v : Val p q N D) (v' : Val p' q' N' D') : Val ((p * q' - p' * q) / gcdI (p * q' - p' * q) (q * q')) (q * q' / gcdI (p * q' - p' * q) (q * q')) (N * D' - N' * D) (D * D') :=
  (Val.of (Int.mul_pos v.low.pos v'.low.pos)).to (Int.mul_pos v.dp v'.dp) (by have := v.eq; have := v'.eq; grind)
theorem Val.mul (v : Val p q N D) (v' : Val p' q' N' D') : Val ((p * p') / gcdI (p * p') (q * q')) (q * q' / gcdI (p * p') (q * q')) (N * N') (D * D') :=
  (Val.of (Int.mul_pos v.low.pos v'.low.pos)).to (Int.mul_pos v.dp v'.dp) (by have := v.eq; have := v'.eq; grind)
theorem Val.neg (v : Val p q N D) : Val (-p / gcdI (-p) q) (q / gcdI (-p) q) (-N) D :=
  (Val.of v.low.pos).to v.dp (by have := v.eq; grind)
end
/-- both numbers have at most k bits -/
def Sm (k : Nat) (p q : Int) : Prop := p.natAbs < 2 ^ k ∧ q.natAbs < 2 ^ k
theorem pow_le {a b : Nat} (h : a ≤ b) : 2 ^ a ≤ 2 ^ b := Nat.pow_le_pow_right (by decide) h
theorem Sm.up {k m : Nat} {p q : Int} (s : Sm k p q) (h : k ≤ m) : Sm m p q := ⟨Nat.lt_of_lt_of_le s.1 (pow_le h), Nat.lt_of_lt_of_le s.2 (pow_le h)⟩
theorem Sm.low {k : Nat} {N D : Int} (h : 0 < D) (s : Sm k N D) : Sm k (N / gcdI N D) (D / gcdI N D) := by
  obtain ⟨lo, _, e1, e2⟩ := low_of (a := N) h
  have := lo.pos
  exact ⟨Nat.lt_of_le_of_lt e1 s.1, Nat.lt_of_le_of_lt (by omega) s.2⟩
section
variable {p q p' q' : Int} {k m : Nat}
theorem Sm.addN (s : Sm k p q) (s' : Sm m p' q') : Sm (k + m + 1) (p * q' + p' * q) (q * q') := by
  have h1 := mul_lt k m s.1 s'.2
  have h2 := mul_lt m k s'.1 s.2
  have h3 := mul_lt k m s.2 s'.2
  rw [Nat.add_comm m k] at h2
  have e : 2 ^ (k + m + 1) = 2 ^ (k + m) * 2 := Nat.pow_succ ..
  refine ⟨?_, ?_⟩ <;> rw [e] <;> omega
theorem Sm.subN (s : Sm k p q) (s' : Sm m p' q') : Sm (k + m + 1) (p * q' - p' * q) (q * q') := by
  have h1 := mul_lt k m s.1 s'.2
  have h2 := mul_lt m k s'.1 s.2
  have h3 := mul_lt k m s.2 s'.2
  rw [Nat.add_comm m k] at h2
  have e : 2 ^ (k + m + 1) = 2 ^ (k + m) * 2 := Nat.pow_succ ..
  refine ⟨?_, ?_⟩ <;> rw [e] <;> omega
theorem Sm.mulN (s : Sm k p q) (s' : Sm m p' q') : Sm (k + m + 1) (p * p') (q * q') := by
  have h1 := mul_lt k m s.1 s'.1
  have h3 := mul_lt k m s.2 s'.2
  have e : 2 ^ (k + m + 1) = 2 ^ (k + m) * 2 := Nat.pow_succ ..
  refine ⟨?_, ?_⟩ <;> rw [e] <;> omega
end
/-- a ratio of the value N / D, of at most k bits -/
def RV (C : Addr) (H : Hp) (v : V) (N D : Int) (k : Nat) : Prop := ∃ p q, IsR C H v p q ∧ Val p q N D ∧ Sm k p q
theorem RV.up {C : Addr} {H H' : Hp} {v : V} {N D : Int} {k : Nat} (r : RV C H v N D k) (g : Gr H H') : RV C H' v N D k := let ⟨p, q, i, z⟩ := r; ⟨p, q, i.up g, z⟩
/-! ### the text of pairs -/
theorem num_short' {n : Int} {k : Nat} (hk : 0 < k) (h : n.natAbs < 10 ^ k) : (Str.ofString (toString n)).length ≤ k + 1 := by
  have el : (Str.ofString (toString n)).length = (Str.ofString (toString n)).cps.toList.length := by simp [Str.length]
  rw [el, num_list, List.length_append, List.length_map]
  have := (Nat.length_toDigits_le_iff (b := 10) (n := n.natAbs) (k := k) (by decide) hk).mpr h
  have h2 : (if n < 0 then [45] else ([] : List Nat)).length ≤ 1 := by by_cases q : n < 0 <;> simp [q]
  omega
def Few (k : Nat) (l : List (Int × Int)) : Prop := ∀ z ∈ l, z.1.natAbs < 10 ^ k ∧ z.2.natAbs < 10 ^ k
theorem pd_len {p q : Int} {k : Nat} (hk : 0 < k) (h1 : p.natAbs < 10 ^ k) (h2 : q.natAbs < 10 ^ k) : (pd p q).shown.length ≤ 2 * k + 9 := by
  have a := num_short' hk h1
  have b := num_short' hk h2
  have c := tupleText_len_le [Str.ofString (toString p), Str.ofString (toString q)]
  show (tupleText [Str.ofString (toString p), Str.ofString (toString q)]).length ≤ _
  simp only [List.map_cons, List.map_nil, List.sum_cons, List.sum_nil, List.length_cons, List.length_nil] at c
  omega
theorem pds_sum {k : Nat} (hk : 0 < k) : ∀ (l : List (Int × Int)), Few k l → ((PyData.shownAll (pds l)).map (·.length)).sum ≤ l.length * (2 * k + 9) ∧ (PyData.shownAll (pds l)).length = l.length
  | [], _ => ⟨by simp [pds, PyData.shownAll], by simp [pds, PyData.shownAll]⟩
  | (p, q) :: r, h => by
    obtain ⟨h1, h2⟩ := pds_sum hk r fun z hz => h z (List.mem_cons_of_mem _ hz)
    have h0 := h (p, q) (List.mem_cons_self ..)
    have e : PyData.shownAll (pds ((p, q) :: r)) = (pd p q).shown :: PyData.shownAll (pds r) := rfl
    rw [e]
    have hpl : (pd p q).shown.length ≤ 2 * k + 9 := pd_len hk h0.1 h0.2
    simp only [List.map_cons, List.sum_cons, List.length_cons]
    refine ⟨?_, by omega⟩
    rw [Nat.succ_mul]
    omega
theorem pds_len {k : Nat} {l : List (Int × Int)} (hk : 0 < k) (h : Few k l) : (PyData.list (pds l)).shown.length ≤ l.length * (2 * k + 11) + 3 := by
  obtain ⟨h1, h2⟩ := pds_sum hk l h
  have c := listText_len_le (PyData.shownAll (pds l))
  show (listText (PyData.shownAll (pds l))).length ≤ _
  rw [h2] at c
  have : l.length * (2 * k + 11) = l.length * (2 * k + 9) + l.length * 2 := by rw [← Nat.mul_add]
  omega
theorem pd_show {p q : Int} (h1 : p.natAbs.log2 < 1920) (h2 : q.natAbs.log2 < 1920) : (pd p q).showable = true := by
  show (decide _ && (decide _ && true)) = true
  rw [decide_eq_true h1, decide_eq_true h2]
  rfl
theorem pds_show : ∀ {l : List (Int × Int)}, (∀ z ∈ l, z.1.natAbs.log2 < 1920 ∧ z.2.natAbs.log2 < 1920) → PyData.showableAll (pds l) = true
  | [], _ => rfl
  | (p, q) :: r, h => by
    have h0 := h (p, q) (List.mem_cons_self ..)
    have h1 := pds_show fun z hz => h z (List.mem_cons_of_mem _ hz)
    show ((pd p q).showable && PyData.showableAll (pds r)) = true
    rw [pd_show h0.1 h0.2, h1]
    rfl
section
variable {H H' : Hp} {F M M' : List (Addr × HO)} {d : Addr} {o : HO} {D : List Addr}
theorem At.keep1 (L : At H [d] F M H') : ∀ b u, H b = some u → b ≠ d → H' b = some u := fun b u e n => L.fr b u e (by simpa using n)
theorem one_dead (h : H d = some o) : ∀ e ∈ [d], ∃ u, H e = some u := fun e he => by
  obtain rfl := List.mem_singleton.mp he
  exact ⟨o, h⟩
theorem At.perm (L : At H D F M H') (p : M.Perm M') : At H D F M' H' := ⟨L.fr, L.fa, fun x hx => L.mu x (p.mem_iff.mpr hx), fun x hx => L.mf x (p.mem_iff.mpr hx), fun x hx => L.df x (p.mem_iff.mpr hx), (p.map _).nodup_iff.mp L.nd⟩
theorem rot3 {α : Type} {x y z : α} : [x, y, z].Perm [z, x, y] := ((List.Perm.swap z y []).cons x).trans (List.Perm.swap z x [y])
end
/-- a sum of fractions, step by step -/
def stepF (z : Int × Int) (y : Int × Int) : Int × Int := (z.1 * y.2 + y.1 * z.2, z.2 * y.2)
def sumF (l : List (Int × Int)) : Int × Int := l.foldl stepF (0, 1)
theorem sumF_take {l : List (Int × Int)} {i : Nat} {y : Int × Int} (h : l[i]? = some y) : sumF (l.take (i + 1)) = stepF (sumF (l.take i)) y := by
  unfold sumF
  rw [List.take_add_one, h, List.foldl_append]
  rfl
theorem idx_of {α β : Type} {P : α → β → Prop} : ∀ {xs : List α} {ls : List β}, PySem.Paired P xs ls → ∀ (i : Nat) (x : α) (z : β), xs[i]? = some x → ls[i]? = some z → P x z
  | _, _, .nil, i, x, z, h, _ => by simp at h
  | _, _, .cons h _, 0, x, z, h1, h2 => by
    obtain rfl := Option.some.inj h1
    obtain rfl := Option.some.inj h2
    exact h
  | _, _, .cons _ r, i + 1, x, z, h1, h2 => idx_of r i x z h1 h2
end U

namespace Law
open PySem PySem.Spec PyProof.Rows L2 U
/-! ### the text by places -/
def top (i : Nat) : Stmt := PySem.Challenge.pw_touchrows_k04_whole_sums_and_products.main.body.getD i (.Pass ⟨0, 0, 0, 0⟩)
abbrev s__law_dice : Stmt := top 18
abbrev s__law_roll : Stmt := top 19
abbrev s__law_pick : Stmt := top 20
abbrev s__law_lowest : Stmt := top 22
abbrev s__law_drawn : Stmt := top 25
abbrev s_is_integer : Stmt := top 5
abbrev s_Ratio___init__ : Stmt := inClass (top 13) 0
abbrev s_Ratio_pair : Stmt := inClass (top 13) 4
abbrev s__lowest : Stmt := top 14
abbrev s_Ratio___add__ : Stmt := inClass (top 13) 5
abbrev s_Ratio___sub__ : Stmt := inClass (top 13) 6
abbrev s_Ratio___mul__ : Stmt := inClass (top 13) 7
abbrev s_Ratio___neg__ : Stmt := inClass (top 13) 8
abbrev s__law_sum : Stmt := top 23
abbrev s__law_minus : Stmt := top 26
abbrev s__law_product : Stmt := top 24
abbrev s_Ratio___bool__ : Stmt := inClass (top 13) 11
abbrev s_Ratio_top : Stmt := inClass (top 13) 2
abbrev s_Ratio_bottom : Stmt := inClass (top 13) 3
abbrev s_Ratio_over : Stmt := inClass (top 13) 9
abbrev s_Ratio___eq__ : Stmt := inClass (top 13) 12
abbrev s__law_pairs_right : Stmt := top 27
abbrev s__law_mixed : Stmt := top 21
abbrev s__is_ratios : Stmt := top 15
abbrev s_sum_of : Stmt := top 16
abbrev s__law_right : Stmt := top 28
abbrev s_law : Stmt := top 29
theorem sc__law_dice : FnScope ["_law_script", "_law_spot", "_law_cell", "_law_great", "_law_left"] ["_law_script", "_law_spot"] (defScope s__law_dice) := ⟨rfl, rfl, rfl, by decide +kernel, rfl, by decide +kernel, by decide +kernel⟩
theorem sc__law_roll : FnScope ["_law_dice_here", "_law_total", "_law_found", "_law_one", "_law_two"] ["_law_dice_here", "_law_total"] (defScope s__law_roll) := ⟨rfl, rfl, rfl, by decide +kernel, rfl, by decide +kernel, by decide +kernel⟩
theorem sc__law_pick : FnScope ["_law_dice_here", "_law_items"] ["_law_dice_here", "_law_items"] (defScope s__law_pick) := ⟨rfl, rfl, rfl, by decide +kernel, rfl, by decide +kernel, by decide +kernel⟩
theorem sc__law_lowest : FnScope ["_law_top", "_law_bottom", "_law_one", "_law_other", "_law_turn"] ["_law_top", "_law_bottom"] (defScope s__law_lowest) := ⟨rfl, rfl, rfl, by decide +kernel, rfl, by decide +kernel, by decide +kernel⟩
theorem sc__law_drawn : FnScope ["_law_dice_here", "_law_size", "_law_top", "_law_bottom"] ["_law_dice_here"] (defScope s__law_drawn) := ⟨rfl, rfl, rfl, by decide +kernel, rfl, by decide +kernel, by decide +kernel⟩
theorem sc_is_integer : FnScope ["value"] ["value"] (defScope s_is_integer) := ⟨rfl, rfl, rfl, by decide +kernel, rfl, by decide +kernel, by decide +kernel⟩
theorem sc_Ratio___init__ : FnScope ["self", "top", "bottom", "common"] ["self", "top", "bottom"] (defScope s_Ratio___init__) := ⟨rfl, rfl, rfl, by decide +kernel, rfl, by decide +kernel, by decide +kernel⟩
theorem sc_Ratio_pair : FnScope ["self"] ["self"] (defScope s_Ratio_pair) := ⟨rfl, rfl, rfl, by decide +kernel, rfl, by decide +kernel, by decide +kernel⟩
theorem sc__lowest : FnScope ["top", "bottom", "made", "common"] ["top", "bottom"] (defScope s__lowest) := ⟨rfl, rfl, rfl, by decide +kernel, rfl, by decide +kernel, by decide +kernel⟩
theorem sc_Ratio___add__ : FnScope ["self", "other"] ["self", "other"] (defScope s_Ratio___add__) := ⟨rfl, rfl, rfl, by decide +kernel, rfl, by decide +kernel, by decide +kernel⟩
theorem sc_Ratio___sub__ : FnScope ["self", "other"] ["self", "other"] (defScope s_Ratio___sub__) := ⟨rfl, rfl, rfl, by decide +kernel, rfl, by decide +kernel, by decide +kernel⟩
theorem sc_Ratio___mul__ : FnScope ["self", "other"] ["self", "other"] (defScope s_Ratio___mul__) := ⟨rfl, rfl, rfl, by decide +kernel, rfl, by decide +kernel, by decide +kernel⟩
theorem sc_Ratio___neg__ : FnScope ["self"] ["self"] (defScope s_Ratio___neg__) := ⟨rfl, rfl, rfl, by decide +kernel, rfl, by decide +kernel, by decide +kernel⟩
theorem sc__law_sum : FnScope ["_law_pairs", "_law_top", "_law_bottom", "_law_one"] ["_law_pairs"] (defScope s__law_sum) := ⟨rfl, rfl, rfl, by decide +kernel, rfl, by decide +kernel, by decide +kernel⟩
theorem sc__law_minus : FnScope ["_law_pair"] ["_law_pair"] (defScope s__law_minus) := ⟨rfl, rfl, rfl, by decide +kernel, rfl, by decide +kernel, by decide +kernel⟩
theorem sc__law_product : FnScope ["_law_one", "_law_other"] ["_law_one", "_law_other"] (defScope s__law_product) := ⟨rfl, rfl, rfl, by decide +kernel, rfl, by decide +kernel, by decide +kernel⟩
theorem sc_Ratio___bool__ : FnScope ["self"] ["self"] (defScope s_Ratio___bool__) := ⟨rfl, rfl, rfl, by decide +kernel, rfl, by decide +kernel, by decide +kernel⟩
theorem sc_Ratio_top : FnScope ["self"] ["self"] (defScope s_Ratio_top) := ⟨rfl, rfl, rfl, by decide +kernel, rfl, by decide +kernel, by decide +kernel⟩
theorem sc_Ratio_bottom : FnScope ["self"] ["self"] (defScope s_Ratio_bottom) := ⟨rfl, rfl, rfl, by decide +kernel, rfl, by decide +kernel, by decide +kernel⟩
theorem sc_Ratio_over : FnScope ["self", "other", "sign"] ["self", "other"] (defScope s_Ratio_over) := ⟨rfl, rfl, rfl, by decide +kernel, rfl, by decide +kernel, by decide +kernel⟩
theorem sc_Ratio___eq__ : FnScope ["self", "other"] ["self", "other"] (defScope s_Ratio___eq__) := ⟨rfl, rfl, rfl, by decide +kernel, rfl, by decide +kernel, by decide +kernel⟩
theorem sc__law_pairs_right : FnScope ["_law_one", "_law_other", "_law_first", "_law_second", "_law_told", "_law_due", "_law_sign", "_law_turned_about"] ["_law_one", "_law_other", "_law_first", "_law_second"] (defScope s__law_pairs_right) := ⟨rfl, rfl, rfl, by decide +kernel, rfl, by decide +kernel, by decide +kernel⟩
theorem sc__law_mixed : FnScope ["_law_dice_here", "_law_items", "_law_left", "_law_found", "_law_turn"] ["_law_dice_here", "_law_items"] (defScope s__law_mixed) := ⟨rfl, rfl, rfl, by decide +kernel, rfl, by decide +kernel, by decide +kernel⟩
theorem sc__is_ratios : FnScope ["value", "one"] ["value"] (defScope s__is_ratios) := ⟨rfl, rfl, rfl, by decide +kernel, rfl, by decide +kernel, by decide +kernel⟩
theorem sc_sum_of : FnScope ["ratios", "total", "one"] ["ratios"] (defScope s_sum_of) := ⟨rfl, rfl, rfl, by decide +kernel, rfl, by decide +kernel, by decide +kernel⟩
theorem sc__law_right : FnScope ["_law_dice_here", "_law_pairs", "_law_a", "_law_b", "_law_c", "_law_some", "_law_turn", "_law_pair"] ["_law_dice_here"] (defScope s__law_right) := ⟨rfl, rfl, rfl, by decide +kernel, rfl, by decide +kernel, by decide +kernel⟩
theorem sc_law : FnScope ["_law_script", "_law_spot", "_law_dice_here", "_law_turn", "_law_great"] ["_law_script"] (defScope s_law) := ⟨rfl, rfl, rfl, by decide +kernel, rfl, by decide +kernel, by decide +kernel⟩
/-- what the top leaves -/
structure Txt (K : PySem.W.Frag) (mg : Str → Option Value) where
  c_Ratio : Addr
  g_Ratio : mg "Ratio" = some (.ref c_Ratio)
  o_Ratio : OwnC K c_Ratio
  n_Ratio : NoNe K c_Ratio
  f_Ratio__top : NoAttr K c_Ratio "_top"
  f_Ratio__bottom : NoAttr K c_Ratio "_bottom"
  a__law_dice : Addr
  d__law_dice : FuncData
  g__law_dice : mg "_law_dice" = some (.ref a__law_dice)
  F__law_dice : Fun K "_law_dice" "_law_dice" s__law_dice a__law_dice d__law_dice
  B__law_dice : Binds K d__law_dice ["_law_script", "_law_spot"] []
  a__law_roll : Addr
  d__law_roll : FuncData
  g__law_roll : mg "_law_roll" = some (.ref a__law_roll)
  F__law_roll : Fun K "_law_roll" "_law_roll" s__law_roll a__law_roll d__law_roll
  B__law_roll : Binds K d__law_roll ["_law_dice_here", "_law_total"] []
  a__law_pick : Addr
  d__law_pick : FuncData
  g__law_pick : mg "_law_pick" = some (.ref a__law_pick)
  F__law_pick : Fun K "_law_pick" "_law_pick" s__law_pick a__law_pick d__law_pick
  B__law_pick : Binds K d__law_pick ["_law_dice_here", "_law_items"] []
  a__law_lowest : Addr
  d__law_lowest : FuncData
  g__law_lowest : mg "_law_lowest" = some (.ref a__law_lowest)
  F__law_lowest : Fun K "_law_lowest" "_law_lowest" s__law_lowest a__law_lowest d__law_lowest
  B__law_lowest : Binds K d__law_lowest ["_law_top", "_law_bottom"] []
  a__law_drawn : Addr
  d__law_drawn : FuncData
  g__law_drawn : mg "_law_drawn" = some (.ref a__law_drawn)
  F__law_drawn : Fun K "_law_drawn" "_law_drawn" s__law_drawn a__law_drawn d__law_drawn
  B__law_drawn : Binds K d__law_drawn ["_law_dice_here"] []
  a_is_integer : Addr
  d_is_integer : FuncData
  g_is_integer : mg "is_integer" = some (.ref a_is_integer)
  F_is_integer : Fun K "is_integer" "is_integer" s_is_integer a_is_integer d_is_integer
  B_is_integer : Binds K d_is_integer ["value"] []
  a_Ratio___init__ : Addr
  d_Ratio___init__ : FuncData
  F_Ratio___init__ : Fun K "__init__" "Ratio.__init__" s_Ratio___init__ a_Ratio___init__ d_Ratio___init__
  B_Ratio___init__ : Binds K d_Ratio___init__ ["self", "top", "bottom"] []
  K_Ratio : Mk K c_Ratio a_Ratio___init__
  a_Ratio_pair : Addr
  d_Ratio_pair : FuncData
  F_Ratio_pair : Fun K "pair" "Ratio.pair" s_Ratio_pair a_Ratio_pair d_Ratio_pair
  B_Ratio_pair : Binds K d_Ratio_pair ["self"] []
  p_Ratio_pair : Addr
  P_Ratio_pair : PropOf K c_Ratio "pair" p_Ratio_pair a_Ratio_pair
  a__lowest : Addr
  d__lowest : FuncData
  g__lowest : mg "_lowest" = some (.ref a__lowest)
  F__lowest : Fun K "_lowest" "_lowest" s__lowest a__lowest d__lowest
  B__lowest : Binds K d__lowest ["top", "bottom"] []
  a_Ratio___add__ : Addr
  d_Ratio___add__ : FuncData
  F_Ratio___add__ : Fun K "__add__" "Ratio.__add__" s_Ratio___add__ a_Ratio___add__ d_Ratio___add__
  B_Ratio___add__ : Binds K d_Ratio___add__ ["self", "other"] []
  M_Ratio___add__ : Meth K c_Ratio "__add__" a_Ratio___add__
  a_Ratio___sub__ : Addr
  d_Ratio___sub__ : FuncData
  F_Ratio___sub__ : Fun K "__sub__" "Ratio.__sub__" s_Ratio___sub__ a_Ratio___sub__ d_Ratio___sub__
  B_Ratio___sub__ : Binds K d_Ratio___sub__ ["self", "other"] []
  M_Ratio___sub__ : Meth K c_Ratio "__sub__" a_Ratio___sub__
  a_Ratio___mul__ : Addr
  d_Ratio___mul__ : FuncData
  F_Ratio___mul__ : Fun K "__mul__" "Ratio.__mul__" s_Ratio___mul__ a_Ratio___mul__ d_Ratio___mul__
  B_Ratio___mul__ : Binds K d_Ratio___mul__ ["self", "other"] []
  M_Ratio___mul__ : Meth K c_Ratio "__mul__" a_Ratio___mul__
  a_Ratio___neg__ : Addr
  d_Ratio___neg__ : FuncData
  F_Ratio___neg__ : Fun K "__neg__" "Ratio.__neg__" s_Ratio___neg__ a_Ratio___neg__ d_Ratio___neg__
  B_Ratio___neg__ : Binds K d_Ratio___neg__ ["self"] []
  M_Ratio___neg__ : Meth K c_Ratio "__neg__" a_Ratio___neg__
  a__law_sum : Addr
  d__law_sum : FuncData
  g__law_sum : mg "_law_sum" = some (.ref a__law_sum)
  F__law_sum : Fun K "_law_sum" "_law_sum" s__law_sum a__law_sum d__law_sum
  B__law_sum : Binds K d__law_sum ["_law_pairs"] []
  a__law_minus : Addr
  d__law_minus : FuncData
  g__law_minus : mg "_law_minus" = some (.ref a__law_minus)
  F__law_minus : Fun K "_law_minus" "_law_minus" s__law_minus a__law_minus d__law_minus
  B__law_minus : Binds K d__law_minus ["_law_pair"] []
  a__law_product : Addr
  d__law_product : FuncData
  g__law_product : mg "_law_product" = some (.ref a__law_product)
  F__law_product : Fun K "_law_product" "_law_product" s__law_product a__law_product d__law_product
  B__law_product : Binds K d__law_product ["_law_one", "_law_other"] []
  a_Ratio___bool__ : Addr
  d_Ratio___bool__ : FuncData
  F_Ratio___bool__ : Fun K "__bool__" "Ratio.__bool__" s_Ratio___bool__ a_Ratio___bool__ d_Ratio___bool__
  B_Ratio___bool__ : Binds K d_Ratio___bool__ ["self"] []
  M_Ratio___bool__ : Meth K c_Ratio "__bool__" a_Ratio___bool__
  a_Ratio_top : Addr
  d_Ratio_top : FuncData
  F_Ratio_top : Fun K "top" "Ratio.top" s_Ratio_top a_Ratio_top d_Ratio_top
  B_Ratio_top : Binds K d_Ratio_top ["self"] []
  p_Ratio_top : Addr
  P_Ratio_top : PropOf K c_Ratio "top" p_Ratio_top a_Ratio_top
  a_Ratio_bottom : Addr
  d_Ratio_bottom : FuncData
  F_Ratio_bottom : Fun K "bottom" "Ratio.bottom" s_Ratio_bottom a_Ratio_bottom d_Ratio_bottom
  B_Ratio_bottom : Binds K d_Ratio_bottom ["self"] []
  p_Ratio_bottom : Addr
  P_Ratio_bottom : PropOf K c_Ratio "bottom" p_Ratio_bottom a_Ratio_bottom
  a_Ratio_over : Addr
  d_Ratio_over : FuncData
  F_Ratio_over : Fun K "over" "Ratio.over" s_Ratio_over a_Ratio_over d_Ratio_over
  B_Ratio_over : Binds K d_Ratio_over ["self", "other"] []
  M_Ratio_over : Meth K c_Ratio "over" a_Ratio_over
  a_Ratio___eq__ : Addr
  d_Ratio___eq__ : FuncData
  F_Ratio___eq__ : Fun K "__eq__" "Ratio.__eq__" s_Ratio___eq__ a_Ratio___eq__ d_Ratio___eq__
  B_Ratio___eq__ : Binds K d_Ratio___eq__ ["self", "other"] []
  M_Ratio___eq__ : Meth K c_Ratio "__eq__" a_Ratio___eq__
  a__law_pairs_right : Addr
  d__law_pairs_right : FuncData
  g__law_pairs_right : mg "_law_pairs_right" = some (.ref a__law_pairs_right)
  F__law_pairs_right : Fun K "_law_pairs_right" "_law_pairs_right" s__law_pairs_right a__law_pairs_right d__law_pairs_right
  B__law_pairs_right : Binds K d__law_pairs_right ["_law_one", "_law_other", "_law_first", "_law_second"] []
  a__law_mixed : Addr
  d__law_mixed : FuncData
  g__law_mixed : mg "_law_mixed" = some (.ref a__law_mixed)
  F__law_mixed : Fun K "_law_mixed" "_law_mixed" s__law_mixed a__law_mixed d__law_mixed
  B__law_mixed : Binds K d__law_mixed ["_law_dice_here", "_law_items"] []
  a__is_ratios : Addr
  d__is_ratios : FuncData
  g__is_ratios : mg "_is_ratios" = some (.ref a__is_ratios)
  F__is_ratios : Fun K "_is_ratios" "_is_ratios" s__is_ratios a__is_ratios d__is_ratios
  B__is_ratios : Binds K d__is_ratios ["value"] []
  a_sum_of : Addr
  d_sum_of : FuncData
  g_sum_of : mg "sum_of" = some (.ref a_sum_of)
  F_sum_of : Fun K "sum_of" "sum_of" s_sum_of a_sum_of d_sum_of
  B_sum_of : Binds K d_sum_of ["ratios"] []
  a__law_right : Addr
  d__law_right : FuncData
  g__law_right : mg "_law_right" = some (.ref a__law_right)
  F__law_right : Fun K "_law_right" "_law_right" s__law_right a__law_right d__law_right
  B__law_right : Binds K d__law_right ["_law_dice_here"] []
  a_law : Addr
  d_law : FuncData
  g_law : mg "law" = some (.ref a_law)
  F_law : Fun K "law" "law" s_law a_law d_law
  B_law : Binds K d_law ["_law_script"] []
  b_abs : mg "abs" = none
  b_all : mg "all" = none
  b_bool : mg "bool" = none
  b_int : mg "int" = none
  b_isinstance : mg "isinstance" = none
  b_len : mg "len" = none
  b_list : mg "list" = none
  b_max : mg "max" = none
  b_min : mg "min" = none
  b_range : mg "range" = none
  b_repr : mg "repr" = none
  b_tuple : mg "tuple" = none
  i_gcd : mg "gcd" = some (.builtin "math.gcd")
  t_BEYOND : Tok
  v_BEYOND : mg "BEYOND" = some (.int 1000000000000000000000000000000000000000000000000000000000000 t_BEYOND)
section
variable {P : Program} {w : World} {K : PySem.W.Frag} {mg : Str → Option Value} {base : Heap}
def sp__law_dice (K : PySem.W.Frag) : Sp := fun vs H Q _ => ∃ (a : Addr) (ns : List Int) (i : Nat), vs = [.ref a, .int i] ∧ SqL K H a (ns.map V.int) ∧ i ≤ 100 ∧
  ∀ (H' : Hp) (p : Addr) (o : HO), (∀ b u, H b = some u → H' b = some u) → H p = none → H' p = some o → Dice 0 o → Q (.ref p) H'
theorem dice_fits {c : Int} {i : Nat} (hi : i ≤ 100) (k : Int) (hk : 0 ≤ k ∧ k ≤ 1) : Dice 0 (.lst [.int (max 0 ((c.natAbs : Int) - 10 ^ Int.toNat 17) % (10 ^ Int.toNat 60 * 10 ^ Int.toNat 60)), .int ((c.natAbs : Int) % 10 ^ Int.toNat 58 % 2147483563 * 41 + 709 * i + 17 * k + 3), .int 0]) := by
  have h1 := Int.emod_nonneg (max 0 ((c.natAbs : Int) - 10 ^ Int.toNat 17)) (show (10 ^ Int.toNat 60 * 10 ^ Int.toNat 60 : Int) ≠ 0 by decide)
  have h2 := Int.emod_lt_of_pos (max 0 ((c.natAbs : Int) - 10 ^ Int.toNat 17)) (show (0 : Int) < 10 ^ Int.toNat 60 * 10 ^ Int.toNat 60 by decide)
  have h3 := Int.emod_nonneg ((c.natAbs : Int) % 10 ^ Int.toNat 58) (show (2147483563 : Int) ≠ 0 by decide)
  have h4 := Int.emod_lt_of_pos ((c.natAbs : Int) % 10 ^ Int.toNat 58) (show (0 : Int) < 2147483563 by decide)
  exact ⟨_, _, _, rfl, ⟨h1, Int.lt_trans h2 (by decide +kernel)⟩, ⟨by omega, Int.lt_of_le_of_lt (show _ ≤ (100000000000 : Int) by omega) (by decide)⟩, by decide, by decide⟩
theorem ok__law_dice (T : Txt K mg) : FnOk P w K mg base CX0 1 T.a__law_dice T.d__law_dice ["_law_script", "_law_spot"] (sp__law_dice K) := by
  refine T.F__law_dice.ok sc__law_dice (fun vs H Q E h => ?_) (fun cdv A outer s H vs Q E hr h => ?_)
  · obtain ⟨a, ns, i, rfl, _⟩ := h; rfl
  · obtain ⟨a, ns, i, rfl, hS, hi, k⟩ := h
    refine ⟨_, (pss_cons (ps_set (i := 2) sc__law_dice.nd rfl (by first | exact Or.inl rfl | exact Or.inr rfl) (peIf (pt_cmpR opLt (pev 1) (pe_callB caLen (by rfl) T.b_len (by decide +kernel) (pa_cons (pev 0) pa_nil)) (nomark _)) (pe_callTy caInt (by rfl) T.b_int (by decide +kernel) (pa_cons (pe_ix ixU (pev 0) (pev 1) (fun _ _ => rfl)) pa_nil)) (pe_op opAdd (pe_op opMulT pe_int (pev 1)) pe_int)))
        (pss_cons (ps_set (i := 3) sc__law_dice.nd rfl (by first | exact Or.inl rfl | exact Or.inr rfl) (pe_op opMod (pe_callB caAbs (by rfl) T.b_abs (by decide +kernel) (pa_cons (pev 2) pa_nil)) (pe_op opPow pe_int pe_int)))
        (pss_cons (ps_set (i := 4) sc__law_dice.nd rfl (by first | exact Or.inl rfl | exact Or.inr rfl) (pe_callB (caMax rfl) (by rfl) T.b_max (by decide +kernel) (pa_cons pe_int (pa_cons (pe_op opSub (pe_callB caAbs (by rfl) T.b_abs (by decide +kernel) (pa_cons (pev 2) pa_nil)) (pe_op opPow pe_int pe_int)) pa_nil))))
        (pss_one (ps_ret (pe_lst (pa_cons (pe_op opMod (pev 4) (pe_op opMulT (pe_op opPow pe_int pe_int) (pe_op opPow pe_int pe_int))) (pa_cons (pe_op opAdd (pe_op opAdd (pe_op opAdd (pe_op opMulT (pe_op opMod (pev 3) pe_int) pe_int) (pe_op opMulT pe_int (pev 1))) (pe_op opMulT pe_int (pe_callTy caInt (by rfl) T.b_int (by decide +kernel) (pa_cons (pe_cmpR opLt (pev 2) pe_int (nomark _)) pa_nil)))) pe_int) (pa_cons pe_int pa_nil))))))))), ?_⟩
    conv => whnf
    refine ⟨_, .inl hS, ?_⟩
    conv => whnf
    refine ⟨_, rfl, ?_⟩
    refine brD (fun ha => ?x) (fun ha => ?y)
    case' x =>
      conv => whnf
      obtain ⟨v, hv, ev⟩ := atI_lt (xs := ns.map V.int) (i := i) (by omega) ha
      obtain ⟨c, hc, rfl⟩ := List.mem_map.mp hv
      refine ⟨_, _, .inl hS, ev, ?_⟩
      clear ev hv hc
      conv => whnf
    case' y =>
      conv => whnf
      refine ⟨mulW 20 20 (by decide) (U.abs_lt (by omega) (by omega)), ?_⟩
      conv => whnf
      generalize 59 * (i : Int) + 13 = c
    all_goals
      refine ⟨⟨by decide, by decide, by decide⟩, ?_⟩
      conv => whnf
      refine ⟨by decide, ?_⟩
      conv => whnf
      refine ⟨⟨by decide, by decide, by decide⟩, ?_⟩
      conv => whnf
      refine ⟨⟨by decide, by decide, by decide⟩, ?_⟩
      conv => whnf
      refine ⟨⟨by decide, by decide, by decide⟩, ?_⟩
      conv => whnf
      refine ⟨mulW 250 250 (by decide) (by decide), ?_⟩
      conv => whnf
      refine ⟨by decide, ?_⟩
      conv => whnf
      refine ⟨by decide, ?_⟩
      conv => whnf
      have h3 := Int.emod_nonneg ((c.natAbs : Int) % 10 ^ Int.toNat 58) (show (2147483563 : Int) ≠ 0 by decide)
      have h4 := Int.emod_lt_of_pos ((c.natAbs : Int) % 10 ^ Int.toNat 58) (show (0 : Int) < 2147483563 by decide)
      refine ⟨mulW 64 64 (U.abs_lt h3 (by omega)) (by decide), ?_⟩
      conv => whnf
      refine ⟨mulW 64 64 (by decide) (U.abs_lt (by omega) (by omega)), ?_⟩
      conv => whnf
      refine ⟨mulW 64 64 (by decide) (by split <;> decide), ?_⟩
      conv => whnf
      refine ⟨small_ok (by simp), fun p hp => ?_⟩
      exact k _ p _ (fun b u e => by rw [upd_ne (ne_of_none e hp)]; exact e) hp upd_same (dice_fits hi _ (by split <;> decide))
def sp__law_roll (K : PySem.W.Frag) : Sp := fun vs H Q _ => ∃ (d : Addr) (n : Nat) (t : Int) (o : HO), vs = [.ref d, .int t] ∧ H d = some o ∧ Dice n o ∧ n ≤ 1000000 ∧ 1 ≤ t ∧ t < 2 ^ 5000 ∧
  ∀ (H' : Hp) (r : Int) (o' : HO), (∀ b u, H b = some u → b ≠ d → H' b = some u) → H' d = some o' → Dice (n + 1) o' → 0 ≤ r → r < t → Q (.int r) H'
theorem ok__law_roll (T : Txt K mg) : FnOk P w K mg base CX0 1 T.a__law_roll T.d__law_roll ["_law_dice_here", "_law_total"] (sp__law_roll K) := by
  refine T.F__law_roll.ok sc__law_roll (fun vs H Q E h => ?_) (fun cdv A outer s H vs Q E hr h => ?_)
  · obtain ⟨d, n, t, o, rfl, _⟩ := h; rfl
  · obtain ⟨d, n, t, o, rfl, hd, ⟨a, b, c, rfl, ⟨a0, a1⟩, ⟨b0, b1⟩, ⟨c0, c1⟩⟩, hn, t1, t2, k⟩ := h
    refine ⟨_, (pss_cons (psIf (pt_cmpR opGt (pe_ix ixU (pev 0) pe_int (fun _ _ => rfl)) pe_int (nomark _)) (pss_cons (ps_set (i := 2) sc__law_roll.nd rfl (by first | exact Or.inl rfl | exact Or.inr rfl) (pe_op opMod (pe_callTy caInt (by rfl) T.b_int (by decide +kernel) (pa_cons (pe_ix ixU (pev 0) pe_int (fun _ _ => rfl)) pa_nil)) (pev 1)))
        (pss_cons (ps_asg (pe_op opDiv (pe_ix ixU (pev 0) pe_int (fun _ _ => rfl)) (pev 1)) (pg_sub (pev 0) pe_int set_list))
        (pss_one (ps_ret (pev 2))))) pss_nil)
        (pss_cons (ps_asg (pe_op opAdd (pe_ix ixU (pev 0) pe_int (fun _ _ => rfl)) pe_int) (pg_sub (pev 0) pe_int set_list))
        (pss_cons (ps_set (i := 3) sc__law_roll.nd rfl (by first | exact Or.inl rfl | exact Or.inr rfl) (pe_op opMod (pe_callTy caInt (by rfl) T.b_int (by decide +kernel) (pa_cons (pe_op opAdd (pe_ix ixU (pev 0) pe_int (fun _ _ => rfl)) (pe_op opMulT pe_int (pe_ix ixU (pev 0) pe_int (fun _ _ => rfl)))) pa_nil)) pe_int))
        (pss_cons (ps_set (i := 4) sc__law_roll.nd rfl (by first | exact Or.inl rfl | exact Or.inr rfl) (pe_op opAdd (pe_op opMulT (pe_op opMod (pe_callTy caInt (by rfl) T.b_int (by decide +kernel) (pa_cons (pe_op opAdd (pe_op opMulT (pev 3) (pev 3)) (pe_op opMulT pe_int (pe_ix ixU (pev 0) pe_int (fun _ _ => rfl)))) pa_nil)) pe_int) pe_int) (pev 3)))
        (pss_one (ps_ret (pe_op opMod (pe_callTy caInt (by rfl) T.b_int (by decide +kernel) (pa_cons (pe_op opDiv (pev 4) pe_int) pa_nil)) (pev 1)))))))), ?_⟩
    conv => whnf
    refine ⟨_, _, .inl (SqL.of hd), rfl, ?_⟩
    conv => whnf
    refine ⟨_, rfl, ?_⟩
    refine brD (fun ha => ?_) (fun ha => ?_)
    · conv => whnf
      refine ⟨_, _, .inl (SqL.of hd), rfl, ?_⟩
      conv => whnf
      refine ⟨by omega, ?_⟩
      conv => whnf
      refine ⟨_, _, .inl (SqL.of hd), rfl, ?_⟩
      conv => whnf
      refine ⟨divW 5000 (by omega) (U.abs_lt (by omega) t2), ?_⟩
      conv => whnf
      refine ⟨_, _, _, _, rfl, rfl, hd, rfl, ?_⟩
      conv => whnf
      refine k _ _ _ (fun b u e n => by rw [upd_ne n]; exact e) upd_same ⟨a / t, b, c, rfl, ⟨Int.ediv_nonneg a0 (by omega), ?_⟩, ⟨b0, b1⟩, c0, by omega⟩ (Int.emod_nonneg _ (by omega)) (Int.emod_lt_of_pos _ (by omega))
      exact Int.lt_of_le_of_lt (Int.ediv_le_self _ a0) a1
    · conv => whnf
      refine ⟨_, _, .inl (SqL.of hd), rfl, ?_⟩
      conv => whnf
      refine ⟨_, _, _, _, rfl, rfl, hd, rfl, ?_⟩
      conv => whnf
      refine ⟨_, _, .inl (SqL.of upd_same), rfl, ?_⟩
      conv => whnf
      refine ⟨_, _, .inl (SqL.of upd_same), rfl, ?_⟩
      conv => whnf
      refine ⟨mulW 20 300 (by decide) (U.abs_lt (by omega) (by omega)), ?_⟩
      conv => whnf
      refine ⟨by decide, ?_⟩
      conv => whnf
      have hm := Int.emod_lt_of_pos (b + 8111 * (c + 1)) (show (0 : Int) < 2305843009213693723 by decide)
      have hm0 := Int.emod_nonneg (b + 8111 * (c + 1)) (show (2305843009213693723 : Int) ≠ 0 by decide)
      generalize (b + 8111 * (c + 1)) % 2305843009213693723 = x at hm hm0 ⊢
      refine ⟨mulW 64 64 (U.abs_lt hm0 (by omega)) (U.abs_lt hm0 (by omega)), ?_⟩
      conv => whnf
      refine ⟨_, _, .inl (SqL.of upd_same), rfl, ?_⟩
      conv => whnf
      refine ⟨mulW 20 300 (by decide) (U.abs_lt (by omega) (by omega)), ?_⟩
      conv => whnf
      refine ⟨by decide, ?_⟩
      conv => whnf
      have hy := Int.emod_lt_of_pos (x * x + 71 * (c + 1)) (show (0 : Int) < 2305843009213693669 by decide)
      have hy0 := Int.emod_nonneg (x * x + 71 * (c + 1)) (show (2305843009213693669 : Int) ≠ 0 by decide)
      generalize (x * x + 71 * (c + 1)) % 2305843009213693669 = y at hy hy0 ⊢
      refine ⟨mulW 64 64 (U.abs_lt hy0 (by omega)) (by decide), ?_⟩
      conv => whnf
      refine ⟨divW 20 (by decide) (by decide), ?_⟩
      conv => whnf
      refine ⟨by omega, ?_⟩
      conv => whnf
      exact k _ _ _ (fun b u e n => by rw [upd_ne n]; exact e) upd_same ⟨a, b, c + 1, rfl, ⟨a0, a1⟩, ⟨b0, b1⟩, by omega, by omega⟩ (Int.emod_nonneg _ (by omega)) (Int.emod_lt_of_pos _ (by omega))
def sp__law_pick (K : PySem.W.Frag) : Sp := fun vs H Q _ => ∃ (d : Addr) (n : Nat) (o : HO) (x : V) (L : List V), vs = [.ref d, x] ∧ H d = some o ∧ Dice n o ∧ n ≤ 1000000 ∧ PickOf K H d x L ∧ 0 < L.length ∧ L.length ≤ 100000 ∧
  ∀ (H' : Hp) (r : V) (o' : HO), (∀ b u, H b = some u → b ≠ d → H' b = some u) → H' d = some o' → Dice (n + 1) o' → r ∈ L → Q r H'
theorem ok__law_pick (T : Txt K mg) : FnOk P w K mg base CX0 2 T.a__law_pick T.d__law_pick ["_law_dice_here", "_law_items"] (sp__law_pick K) := by
  refine T.F__law_pick.ok sc__law_pick (fun vs H Q E h => ?_) (fun cdv A outer s H vs Q E hr h => ?_)
  · obtain ⟨d, n, o, x, L, rfl, _⟩ := h; rfl
  · obtain ⟨d, n, o, x, L, rfl, hd, D, hn, hp, l0, l1, k⟩ := h
    refine ⟨_, (pss_one (ps_ret (pe_ix ixU (pev 1) (pe_call (ok__law_roll T) (hr.mono (by decide)) (by rfl) T.g__law_roll T.F__law_roll.kp T.B__law_roll .nil pass0 (pa_cons (pev 0) (pa_cons (pe_callB caLen (by rfl) T.b_len (by decide +kernel) (pa_cons (pev 1) pa_nil)) pa_nil))) (fun _ _ => rfl)))), ?_⟩
    rcases hp with ⟨z, rfl, hz, rfl⟩ | ⟨p, rfl, ne, hp⟩
    · have el : z.length = z.cps.toList.length := by simp [Str.length]
      rw [List.length_map] at l0 l1
      conv => whnf
      refine ⟨small_ok (by omega), ?_⟩
      conv => whnf
      refine ⟨d, n, _, o, rfl, hd, D, hn, by omega, Int.lt_of_le_of_lt (show ((z.length : Nat) : Int) ≤ 100000 by omega) (by decide), fun H1 r o1 f1 g1 D1 r0 r1 => ?_⟩
      conv => whnf
      obtain ⟨c, hc, ec⟩ := atI_lt (xs := z.cps.toList) r0 (by omega)
      exact ⟨small_ok (by omega), c, ec, k _ _ _ f1 g1 D1 (List.mem_map.mpr ⟨c, hc, rfl⟩)⟩
    · conv => whnf
      refine ⟨L, hp, ?_⟩
      conv => whnf
      refine ⟨d, n, _, o, rfl, hd, D, hn, by omega, Int.lt_of_le_of_lt (show ((L.length : Nat) : Int) ≤ 100000 by omega) (by decide), fun H1 r o1 f1 g1 D1 r0 r1 => ?_⟩
      conv => whnf
      obtain ⟨v, hv, ev⟩ := atI_lt (xs := L) r0 r1
      exact ⟨L, v, hp.elim (fun q => .inl (sqlKeep f1 ne q)) (fun q => .inr (sqtKeep f1 ne q)), ev, k _ _ _ f1 g1 D1 hv⟩
/-- Euclid's pairs behind i turns -/
def Eu (t b : Int) (i : Nat) (x y : Int) : Prop := 0 ≤ x ∧ 0 ≤ y ∧ Nat.gcd x.natAbs y.natAbs = Nat.gcd t.natAbs b.natAbs ∧ ((i = 0 ∧ x = t.natAbs ∧ y = b) ∨ (1 ≤ i ∧ y < x ∧ x * y * 2 ^ (i - 1) < 2 ^ 390))
theorem Eu.start {t b : Int} (h : 0 < b) : Eu t b 0 t.natAbs b := ⟨by omega, by omega, by rw [Int.natAbs_natCast], .inl ⟨rfl, rfl, rfl⟩⟩
theorem Eu.turn {t b x y : Int} {i : Nat} (hb : b < 2 ^ 195) (e : Eu t b i x y) (h : y ≠ 0) : Eu t b (i + 1) y (x % y) := by
  obtain ⟨x0, y0, g, c⟩ := e
  have yp : 0 < y := by omega
  have r0 := Int.emod_nonneg x h
  have r1 := Int.emod_lt_of_pos x yp
  refine ⟨y0, r0, ?_, .inr ⟨by omega, r1, ?_⟩⟩
  · rw [← g, Int.natAbs_emod_of_nonneg x0, Nat.gcd_comm x.natAbs, Nat.gcd_comm y.natAbs (x.natAbs % y.natAbs), ← Nat.gcd_rec]
  · rw [Nat.add_sub_cancel]
    rcases c with ⟨rfl, _, rfl⟩ | ⟨i1, lt, c⟩
    · have : y * (x % y) ≤ y * y := Int.mul_le_mul_of_nonneg_left (by omega) y0
      have : y * y ≤ y * 2 ^ 195 := Int.mul_le_mul_of_nonneg_left (by omega) y0
      omega
    · have hx := Int.mul_ediv_add_emod x y
      have hd : 1 ≤ x / y := Int.le_ediv_of_mul_le yp (by omega)
      have h1 : y * 1 ≤ y * (x / y) := Int.mul_le_mul_of_nonneg_left hd y0
      have h2 : 2 * (x % y) ≤ x := by omega
      obtain ⟨j, rfl⟩ : ∃ j, i = j + 1 := ⟨i - 1, by omega⟩
      rw [Nat.add_sub_cancel] at c
      have h3 : y * (2 * (x % y)) ≤ y * x := Int.mul_le_mul_of_nonneg_left h2 y0
      have h4 : y * (x % y) * 2 ^ (j + 1) = y * (2 * (x % y)) * 2 ^ j := by rw [Int.pow_succ]; grind
      have h5 : y * (2 * (x % y)) * 2 ^ j ≤ y * x * 2 ^ j := Int.mul_le_mul_of_nonneg_right h3 (Int.le_of_lt (Int.pow_pos (by decide)))
      rw [h4]
      rw [Int.mul_comm x y] at c
      exact Int.lt_of_le_of_lt h5 c
theorem Eu.fin {t b x y : Int} (e : Eu t b 400 x y) : y = 0 := by
  obtain ⟨x0, y0, g, c⟩ := e
  rcases c with ⟨z, _⟩ | ⟨_, lt, c⟩
  · cases z
  · by_cases h : y = 0
    · exact h
    · exfalso
      have h1 : 0 < x * y := Int.mul_pos (by omega) (by omega)
      have h2 : 1 * (2 : Int) ^ 399 ≤ x * y * 2 ^ 399 := Int.mul_le_mul_of_nonneg_right (by omega) (by decide)
      omega
theorem Eu.last {t b x : Int} {i : Nat} (h : 0 < b) (e : Eu t b i x 0) : max 1 x = gcdI t b := by
  obtain ⟨x0, _, g, _⟩ := e
  have g0 := gcdI_pos (a := t) h
  have : gcdI t b = ((Nat.gcd t.natAbs b.natAbs : Nat) : Int) := rfl
  rw [show (0 : Int).natAbs = 0 from rfl, Nat.gcd_zero_right] at g
  omega
def sp__law_lowest (K : PySem.W.Frag) : Sp := fun vs H Q _ => ∃ (t b : Int), vs = [.int t, .int b] ∧ 0 < b ∧ b < 2 ^ 195 ∧ t.natAbs < 2 ^ 250 ∧ 
  ∀ (x : Addr) (H' : Hp), Gr H H' → H x = none → H' x = some (.tup [.int (t / gcdI t b), .int (b / gcdI t b)]) → Q (.ref x) H'
theorem ok__law_lowest (T : Txt K mg) : FnOk P w K mg base CX0 1 T.a__law_lowest T.d__law_lowest ["_law_top", "_law_bottom"] (sp__law_lowest K) := by
  refine T.F__law_lowest.ok sc__law_lowest (fun vs H Q E h => ?_) (fun cdv A outer s H vs Q E hr h => ?_)
  · obtain ⟨t, b, rfl, _⟩ := h; rfl
  · obtain ⟨t, b, rfl, b0, b1, t1, k⟩ := h
    refine ⟨_, (pss_cons (ps_par (i := 2) (j := 3) (by rfl) sc__law_lowest.nd rfl rfl (by decide) rfl rfl (pa_cons (pe_callB caAbs (by rfl) T.b_abs (by decide +kernel) (pa_cons (pev 0) pa_nil)) (pa_cons (pev 1) pa_nil)) (by rfl))
        (pss_cons (ps_for PassesOwn.never rfl (pi_range1 (by rfl) T.b_range (pa_cons pe_int pa_nil)) (pg_name (i := 4) sc__law_lowest.nd rfl (by first | exact Or.inl rfl | exact Or.inr rfl))
        (pss_cons (psIf (pt_cmpR (opEq (hu64 hr)) (pev 3) pe_int (nomark _)) (pss_one ps_break) pss_nil)
        (pss_one (ps_par (i := 2) (j := 3) (by rfl) sc__law_lowest.nd rfl rfl (by decide) rfl rfl (pa_cons (pev 3) (pa_cons (pe_op opMod (pev 2) (pev 3)) pa_nil)) (by rfl)))))
        (pss_one (ps_ret (pe_tup (pa_cons (pe_op opDiv (pev 0) (pe_callB (caMax rfl) (by rfl) T.b_max (by decide +kernel) (pa_cons pe_int (pa_cons (pev 2) pa_nil)))) (pa_cons (pe_op opDiv (pev 1) (pe_callB (caMax rfl) (by rfl) T.b_max (by decide +kernel) (pa_cons pe_int (pa_cons (pev 2) pa_nil)))) pa_nil))))))), ?_⟩
    conv => whnf
    refine ⟨_, _, rfl, ?_⟩
    conv => whnf
    refine ⟨400, rfl, by decide, by decide, for_range (lo := 0) (n := 400) (fun i σ H' => (∃ x y v, σ = [some (.int t), some (.int b), some (.int x), some (.int y), v] ∧ Eu t b i x y) ∧ H' = H)
      ⟨⟨_, _, none, rfl, .start b0⟩, rfl⟩ ?_ ?_⟩
    · rintro i σ H1 hi ⟨⟨x, y, v, rfl, e⟩, rfl⟩
      conv => whnf
      refine ⟨_, rfl, ?_⟩
      refine brD (fun h => ?_) (fun h => ?_)
      · obtain rfl := V.int.inj h
        have em := e.last b0
        have g0 := gcdI_pos (a := t) b0
        have g1 := gcdI_le (a := t) b0
        have gb : (gcdI t b).natAbs < 2 ^ 200 := U.abs_lt (by omega) (by omega)
        conv => whnf
        rw [em]
        refine ⟨divW 200 g0 gb, ?_⟩
        conv => whnf
        rw [em]
        refine ⟨divW 200 g0 gb, ?_⟩
        conv => whnf
        exact ⟨small_ok (by simp), fun r hr3 => k r _ (Gr.rfl'.up hr3) hr3 upd_same⟩
      · have hy : y ≠ 0 := fun z => h (by rw [z])
        have ey : 0 < y := by have := e.2.1; omega
        conv => whnf
        refine ⟨ey, ?_⟩
        conv => whnf
        refine ⟨_, _, rfl, ?_⟩
        conv => whnf
        exact ⟨⟨_, _, _, rfl, e.turn b1 hy⟩, rfl⟩
    · rintro σ H1 ⟨⟨x, y, v, rfl, e⟩, rfl⟩
      obtain rfl := e.fin
      have em := e.last b0
      have g0 := gcdI_pos (a := t) b0
      have g1 := gcdI_le (a := t) b0
      have gb : (gcdI t b).natAbs < 2 ^ 200 := U.abs_lt (by omega) (by omega)
      conv => whnf
      rw [em]
      refine ⟨divW 200 g0 gb, ?_⟩
      conv => whnf
      rw [em]
      refine ⟨divW 200 g0 gb, ?_⟩
      conv => whnf
      exact ⟨small_ok (by simp), fun r hr3 => k r _ (Gr.rfl'.up hr3) hr3 upd_same⟩
def sp__law_drawn (K : PySem.W.Frag) : Sp := fun vs H Q _ => ∃ (d : Addr) (n : Nat) (o : HO), vs = [.ref d] ∧ H d = some o ∧ Dice n o ∧ n ≤ 900000 ∧
  ∀ (H' : Hp) (x : Addr) (o' : HO) (p q : Int), (∀ b u, H b = some u → b ≠ d → H' b = some u) → H' d = some o' → Dice (n + 5) o' → H x = none → H' x = some (.tup [.int p, .int q]) → Low p q → p.natAbs ≤ 2 ^ 47 → q ≤ 2 ^ 47 → Q (.ref x) H'
theorem ok__law_drawn (T : Txt K mg) : FnOk P w K mg base CX0 3 T.a__law_drawn T.d__law_drawn ["_law_dice_here"] (sp__law_drawn K) := by
  refine T.F__law_drawn.ok sc__law_drawn (fun vs H Q E h => ?_) (fun cdv A outer s H vs Q E hr h => ?_)
  · obtain ⟨d, n, o, rfl, _⟩ := h; rfl
  · obtain ⟨d, n, o, rfl, hd, D0, hn, k⟩ := h
    refine ⟨_, (pss_cons (ps_set (i := 1) sc__law_drawn.nd rfl (by first | exact Or.inl rfl | exact Or.inr rfl) (pe_call (ok__law_pick T) (hr.mono (by decide)) (by rfl) T.g__law_pick T.F__law_pick.kp T.B__law_pick .nil pass0 (pa_cons (pev 0) (pa_cons (pe_lst (pa_cons pe_int (pa_cons pe_int (pa_cons (pe_op opPow pe_int pe_int) (pa_cons (pe_op opPow pe_int pe_int) pa_nil))))) pa_nil))))
        (pss_cons (ps_par (i := 2) (j := 3) (by rfl) sc__law_drawn.nd rfl rfl (by decide) rfl rfl (pa_cons (pe_call (ok__law_roll T) (hr.mono (by decide)) (by rfl) T.g__law_roll T.F__law_roll.kp T.B__law_roll .nil pass0 (pa_cons (pev 0) (pa_cons (pev 1) pa_nil))) (pa_cons (pe_op opAdd pe_int (pe_call (ok__law_roll T) (hr.mono (by decide)) (by rfl) T.g__law_roll T.F__law_roll.kp T.B__law_roll .nil pass0 (pa_cons (pev 0) (pa_cons (pev 1) pa_nil)))) pa_nil)) (by rfl))
        (pss_one (ps_ret (pe_call (ok__law_lowest T) (hr.mono (by decide)) (by rfl) T.g__law_lowest T.F__law_lowest.kp T.B__law_lowest .nil pass0 (pa_cons (peIf (pt_cmpR (opEq (hu64 hr)) (pe_call (ok__law_roll T) (hr.mono (by decide)) (by rfl) T.g__law_roll T.F__law_roll.kp T.B__law_roll .nil pass0 (pa_cons (pev 0) (pa_cons pe_int pa_nil))) pe_int (nomark _)) (pev 2) (pe_un unNeg (pev 2))) (pa_cons (pev 3) pa_nil))))))), ?_⟩
    have L1 := At.start1 hd
    conv => whnf
    refine ⟨⟨by decide, by decide, by decide⟩, ?_⟩
    conv => whnf
    refine ⟨⟨by decide, by decide, by decide⟩, ?_⟩
    conv => whnf
    refine ⟨small_ok (by simp), fun pl hpl => ?_⟩
    have L2' := L1.new (o := .lst [.int 3, .int 10, .int 1000000000, .int 100000000000000]) hpl
    conv => whnf
    refine ⟨d, _, o, _, [.int 3, .int 10, .int 1000000000, .int 100000000000000], rfl, L2'.getM (.head _), D0, by omega, .inr ⟨pl, rfl, (fun z => by subst z; rw [hd] at hpl; cases hpl), .inl (SqL.of upd_same)⟩, by decide, by decide, fun H3 v o3 f3 g3 D3 hv => ?_⟩
    have L3 := L2'.set f3 g3
    obtain ⟨sz, rfl, s0, s1⟩ : ∃ sz : Int, v = .int sz ∧ 1 ≤ sz ∧ sz ≤ 100000000000000 := by
      simp only [List.mem_cons, List.not_mem_nil, or_false] at hv
      rcases hv with rfl | rfl | rfl | rfl <;> exact ⟨_, rfl, by decide, by decide⟩
    conv => whnf
    refine ⟨d, _, sz, o3, rfl, g3, D3, by omega, s0, Int.lt_of_le_of_lt s1 (by decide), fun H4 r4 o4 f4 g4 D4 a4 b4 => ?_⟩
    have L4 := L3.set f4 g4
    conv => whnf
    refine ⟨d, _, sz, o4, rfl, g4, D4, by omega, s0, Int.lt_of_le_of_lt s1 (by decide), fun H5 r5 o5 f5 g5 D5 a5 b5 => ?_⟩
    have L5 := L4.set f5 g5
    conv => whnf
    refine ⟨_, _, rfl, ?_⟩
    conv => whnf
    refine ⟨d, _, 2, o5, rfl, g5, D5, by omega, by decide, by decide, fun H6 r6 o6 f6 g6 D6 a6 b6 => ?_⟩
    have L6 := L5.set f6 g6
    conv => whnf
    refine ⟨_, rfl, ?_⟩
    refine brD (fun h => ?x) (fun h => ?y)
    case' x => have ht : r4.natAbs < 2 ^ 47 := by omega
    case' y => have ht : (-r4).natAbs < 2 ^ 47 := by omega
    all_goals
      have bp : (0 : Int) < 1 + r5 := by omega
      conv => whnf
      refine ⟨_, 1 + r5, rfl, bp, by omega, by omega, fun x H7 g7 n7 e7 => ?_⟩
      have L7 := L6.same g7
      exact k H7 x o6 _ _ (At.keep1 L7) (L7.getM (.head _)) (D6.up (by omega)) (L6.no0 (one_dead g6) n7) e7 (low_of bp).1 (Nat.le_trans (low_of bp).2.2.1 (by omega)) (Int.le_trans (low_of bp).2.2.2 (by omega))
/-- an integer that is let -/
def isIntV : V → Bool
  | .int i => decide (-(10 ^ 60) < i) && decide (i < 10 ^ 60)
  | _ => false
def sp_is_integer (K : PySem.W.Frag) : Sp := fun vs H Q _ => ∃ (v : V) (T : String), vs = [v] ∧ Kd K H v T ∧ Q (.bl (isIntV v)) H
theorem isIntV_not {K : PySem.W.Frag} {H : Hp} {v : V} {T : String} (h : Kd K H v T) (n : T ≠ "int") : isIntV v = false := by
  cases v with
  | int i => exact absurd h.ofInt n
  | _ => rfl
theorem ok_is_integer (T : Txt K mg) : FnOk P w K mg base CX0 1 T.a_is_integer T.d_is_integer ["value"] (sp_is_integer K) := by
  refine T.F_is_integer.ok sc_is_integer (fun vs H Q E h => ?_) (fun cdv A outer s H vs Q E hr h => ?_)
  · obtain ⟨v, S, rfl, _⟩ := h; rfl
  · obtain ⟨v, S, rfl, hk, k⟩ := h
    refine ⟨_, (pss_cons (psIf (PW.pt (pwOr (pt_not (ptV (pe_callB call_isi (by rfl) T.b_isinstance (by decide +kernel) (pa_cons (pev 0) (pa_cons (pe_bltn (v := .ty "int") (by rfl) T.b_int (by decide +kernel) rfl) pa_nil))))) (pw_or1 (ptV (pe_callB call_isi (by rfl) T.b_isinstance (by decide +kernel) (pa_cons (pev 0) (pa_cons (pe_bltn (v := .ty "bool") (by rfl) T.b_bool (by decide +kernel) rfl) pa_nil))))))) (pss_one (ps_ret pe_bl)) pss_nil)
        (pss_one (ps_ret (pe_chain opLt opLt (pe_un unNeg (pe_glob (v := .int 1000000000000000000000000000000000000000000000000000000000000) (by rfl) T.v_BEYOND ⟨_, rfl⟩)) (pev 0) (pe_glob (v := .int 1000000000000000000000000000000000000000000000000000000000000) (by rfl) T.v_BEYOND ⟨_, rfl⟩))))), ?_⟩
    conv => whnf
    refine ⟨_, _, _, _, _, rfl, .ty _, hk.1, kit_ty (kd_int hk.2), ?_⟩
    conv => whnf
    by_cases h1 : S = "int"
    · subst h1
      obtain ⟨i, rfl⟩ := hk.isInt
      refine brF ?_
      conv => whnf
      refine ⟨_, _, _, _, _, rfl, .ty _, hk.1, kit_ty (kd_bool hk.2), ?_⟩
      conv => whnf
      refine brF ?_
      conv => whnf
      refine ⟨_, rfl, ?_⟩
      refine ite2 (fun h => ?_) (fun h => ?_)
      · conv => whnf
        have e : isIntV (.int i) = decide (i < 1000000000000000000000000000000000000000000000000000000000000) := by
          show (decide _ && decide _) = _
          rw [show decide (-(10 ^ 60 : Int) < i) = true from h]; rfl
        rw [e] at k
        exact k
      · conv => whnf
        have e : isIntV (.int i) = false := by
          show (decide _ && decide _) = _
          rw [show decide (-(10 ^ 60 : Int) < i) = false from Bool.eq_false_iff.mpr h]; rfl
        rw [e] at k
        exact k
    · by_cases h2 : S = "bool"
      · subst h2
        refine brF ?_
        conv => whnf
        refine ⟨_, _, _, _, _, rfl, .ty _, hk.1, kit_ty (kd_bool hk.2), ?_⟩
        conv => whnf
        refine brT ?_
        conv => whnf
        rw [isIntV_not hk h1] at k
        exact k
      · refine brY (by simp [h1, h2]) ?_
        conv => whnf
        refine brT ?_
        conv => whnf
        rw [isIntV_not hk h1] at k
        exact k
def sp_Ratio___init__ (K : PySem.W.Frag) (C : Addr) : Sp := fun vs H Q _ => ∃ (a dx : Addr) (p q : Int), vs = [.ref a, .int p, .int q] ∧ H a = some (.ins C dx []) ∧ (-(10 ^ 60) < p ∧ p < 10 ^ 60) ∧ (0 < q ∧ q < 10 ^ 60) ∧
  ∀ H' : Hp, (∀ b u, H b = some u → b ≠ a → H' b = some u) → H' a = some (.ins C dx (rf (p / gcdI p q) (q / gcdI p q))) → Q .non H'
theorem make_R {K : PySem.W.Frag} {C : Addr} {H : Hp} {p q : Int} {R : Hp → Prop} {E : XK} {x dx : Addr} (hx : H x = none) (hd : H dx = none) (ne : dx ≠ x) (hp : -(10 ^ 60) < p ∧ p < 10 ^ 60) (hq : 0 < q ∧ q < 10 ^ 60) (k : ∀ H' : Hp, Gr H H' → IsR C H' (.ref x) (p / gcdI p q) (q / gcdI p q) → R H') :
    sp_Ratio___init__ K C (.ref x :: ([.int p, .int q] ++ [])) (upd (upd H dx (.own x)) x (.ins C dx [])) (fun v H2 => v = .non ∧ R H2) E :=
  ⟨x, dx, p, q, rfl, upd_same, hp, hq, fun H' s e => ⟨rfl, k _ (fun b u eb => s b u (by rw [upd_ne (ne_of_none eb hx), upd_ne (ne_of_none eb hd)]; exact eb) (ne_of_none eb hx)) ⟨x, dx, rfl, e⟩⟩⟩
theorem ok_Ratio___init__ (T : Txt K mg) : FnOk P w K mg base CX0 2 T.a_Ratio___init__ T.d_Ratio___init__ ["self", "top", "bottom"] (sp_Ratio___init__ K T.c_Ratio) := by
  refine T.F_Ratio___init__.ok sc_Ratio___init__ (fun vs H Q E h => ?_) (fun cdv A outer s H vs Q E hr h => ?_)
  · obtain ⟨a, dx, p, q, rfl, _⟩ := h; rfl
  · obtain ⟨a, dx, p, q, rfl, ha, ⟨p0, p1⟩, ⟨q0, q1⟩, k⟩ := h
    refine ⟨_, (pss_cons (psIf (PW.pt (pwOr (pt_not (ptV (pe_call (ok_is_integer T) (hr.mono (by decide)) (by rfl) T.g_is_integer T.F_is_integer.kp T.B_is_integer .nil pass0 (pa_cons (pev 1) pa_nil)))) (pwOr (pt_not (ptV (pe_call (ok_is_integer T) (hr.mono (by decide)) (by rfl) T.g_is_integer T.F_is_integer.kp T.B_is_integer .nil pass0 (pa_cons (pev 2) pa_nil)))) (pw_or1 (pt_cmpR opLt (pev 2) pe_int (nomark _)))))) (pss_one ps_never) pss_nil)
        (pss_cons (ps_set (i := 3) sc_Ratio___init__.nd rfl (by first | exact Or.inl rfl | exact Or.inr rfl) (pe_callBfun cr_gcd (by rfl) T.i_gcd (pa_cons (pev 1) (pa_cons (pev 2) pa_nil))))
        (pss_cons (ps_fld (pev 0) (pe_op opDiv (pev 1) (pev 3)) rfl)
        (pss_one (ps_fld (pev 0) (pe_op opDiv (pev 2) (pev 3)) rfl))))), ?_⟩
    have g0 := gcdI_pos (a := p) q0
    have g1 := gcdI_le (a := p) q0
    have gb : (gcdI p q).natAbs < 2 ^ 200 := U.abs_lt (by omega) (by omega)
    have ip : isIntV (.int p) = true := by
      show (decide (-(10 ^ 60) < p) && decide (p < 10 ^ 60)) = true
      simp only [Bool.and_eq_true, decide_eq_true_iff]; exact ⟨p0, p1⟩
    have iq : isIntV (.int q) = true := by
      show (decide (-(10 ^ 60) < q) && decide (q < 10 ^ 60)) = true
      simp only [Bool.and_eq_true, decide_eq_true_iff]; exact ⟨by omega, q1⟩
    conv => whnf
    refine ⟨_, _, rfl, Kd.int p, ?_⟩
    rw [ip]
    conv => whnf
    refine brF ?_
    conv => whnf
    refine ⟨_, _, rfl, Kd.int q, ?_⟩
    rw [iq]
    conv => whnf
    refine brF ?_
    conv => whnf
    refine ⟨_, rfl, ?_⟩
    refine brN (decide_eq_false (by omega)) ?_
    conv => whnf
    refine ⟨_, _, rfl, ?_⟩
    conv => whnf
    refine ⟨divW 200 g0 gb, ?_⟩
    conv => whnf
    refine ⟨a, T.c_Ratio, dx, _, rfl, ha, T.o_Ratio.cl, T.f_Ratio__top, by decide, ?_⟩
    conv => whnf
    refine ⟨divW 200 g0 gb, ?_⟩
    conv => whnf
    refine ⟨a, T.c_Ratio, dx, _, rfl, upd_same, T.o_Ratio.cl, T.f_Ratio__bottom, (by show 1 < 1000; decide), ?_⟩
    conv => whnf
    refine k _ (fun b u e n => by rw [upd_ne n, upd_ne n]; exact e) ?_
    rw [upd_same]
    exact congrArg (fun l => some (HO.ins T.c_Ratio dx l)) (rf_mk _ _)
def sp_Ratio_pair (K : PySem.W.Frag) (C : Addr) : Sp := fun vs H Q _ => ∃ (v : V) (p q : Int), vs = [v] ∧ IsR C H v p q ∧ ∀ (x : Addr) (H' : Hp), Gr H H' → H x = none → H' x = some (.tup [.int p, .int q]) → Q (.ref x) H'
theorem own_pair {K : PySem.W.Frag} {C a : Addr} {H : Hp} {Q : VK} {E : XK} {N D : Int} {k : Nat} (h : RV C H (.ref a) N D k) (q : ∀ (r s : Int) (x : Addr) (H' : Hp), Gr H H' → H x = none → TupAt H' (.ref x) r s → Val r s N D → Sm k r s → Q (.ref x) H') :
    ∃ b dx fs, V.ref a = V.ref b ∧ H b = some (.ins C dx fs) ∧ sp_Ratio_pair K C [.ref b] H Q E := by
  obtain ⟨p, r, i, v, s⟩ := h
  obtain ⟨_, dx, z, e1⟩ := id i
  cases z
  exact ⟨a, dx, _, rfl, e1, _, p, r, rfl, i, fun x H' g n e => q p r x H' g n ⟨x, rfl, e⟩ v s⟩
theorem ok_Ratio_pair (T : Txt K mg) : FnOk P w K mg base CX0 1 T.a_Ratio_pair T.d_Ratio_pair ["self"] (sp_Ratio_pair K T.c_Ratio) := by
  refine T.F_Ratio_pair.ok sc_Ratio_pair (fun vs H Q E h => ?_) (fun cdv A outer s H vs Q E hr h => ?_)
  · obtain ⟨v, p, q, rfl, _⟩ := h; rfl
  · obtain ⟨v, p, q, rfl, ⟨a, dx, rfl, ha⟩, k⟩ := h
    refine ⟨_, (pss_one (ps_ret (pe_tup (pa_cons (pe_fld (pev 0) rfl) (pa_cons (pe_fld (pev 0) rfl) pa_nil))))), ?_⟩
    conv => whnf
    refine ⟨a, T.c_Ratio, dx, _, _, rfl, ha, T.o_Ratio.cl, T.f_Ratio__top, rf_lt _ _, ?_⟩
    conv => whnf
    refine ⟨a, T.c_Ratio, dx, _, _, rfl, ha, T.o_Ratio.cl, T.f_Ratio__bottom, rf_lb _ _, ?_⟩
    conv => whnf
    exact ⟨small_ok (by simp), fun x hx => k x _ (Gr.rfl'.up hx) hx upd_same⟩
def sp__lowest (K : PySem.W.Frag) (C : Addr) : Sp := fun vs H Q _ => ∃ (t b : Int), vs = [.int t, .int b] ∧ 0 < b ∧ b.natAbs < 2 ^ 8000 ∧ 
  ∀ (v : V) (H' : Hp), Gr H H' → IsR C H' v (t / gcdI t b) (b / gcdI t b) → Q v H'
theorem ok__lowest (T : Txt K mg) : FnOk P w K mg base CX0 4 T.a__lowest T.d__lowest ["top", "bottom"] (sp__lowest K T.c_Ratio) := by
  refine T.F__lowest.ok sc__lowest (fun vs H Q E h => ?_) (fun cdv A outer s H vs Q E hr h => ?_)
  · obtain ⟨t, b, rfl, _⟩ := h; rfl
  · obtain ⟨t, b, rfl, b0, b1, k⟩ := h
    refine ⟨_, (pss_cons (ps_set (i := 2) sc__lowest.nd rfl (by first | exact Or.inl rfl | exact Or.inr rfl) (pe_make T.K_Ratio (ok_Ratio___init__ T) (hr.mono (by decide)) (by rfl) T.g_Ratio T.B_Ratio___init__ .nil pass0 (pa_cons pe_int (pa_cons pe_int pa_nil))))
        (pss_cons (ps_set (i := 3) sc__lowest.nd rfl (by first | exact Or.inl rfl | exact Or.inr rfl) (pe_callBfun cr_gcd (by rfl) T.i_gcd (pa_cons (pev 0) (pa_cons (pev 1) pa_nil))))
        (pss_cons (ps_fld (pev 2) (pe_op opDiv (pev 0) (pev 3)) rfl)
        (pss_cons (ps_fld (pev 2) (pe_op opDiv (pev 1) (pev 3)) rfl)
        (pss_one (ps_ret (pev 2))))))), ?_⟩
    have g0 := gcdI_pos (a := t) b0
    have g1 := gcdI_le (a := t) b0
    have gb : (gcdI t b).natAbs < 2 ^ 8000 := Nat.lt_of_le_of_lt (by omega) b1
    conv => whnf
    intro x dx hx hd ne
    refine ⟨x, dx, 0, 1, rfl, upd_same, by decide, by decide, fun H1 s1 e1 => ?_⟩
    have e1' : H1 x = some (.ins T.c_Ratio dx (rf 0 1)) := e1
    conv => whnf
    refine ⟨rfl, ?_⟩
    conv => whnf
    refine ⟨_, _, rfl, ?_⟩
    conv => whnf
    refine ⟨divW 8000 g0 gb, ?_⟩
    conv => whnf
    refine ⟨x, T.c_Ratio, dx, _, rfl, e1', T.o_Ratio.cl, T.f_Ratio__top, (by show 2 < 1000; decide), ?_⟩
    rw [rf_top]
    conv => whnf
    refine ⟨divW 8000 g0 gb, ?_⟩
    conv => whnf
    refine ⟨x, T.c_Ratio, dx, _, rfl, upd_same, T.o_Ratio.cl, T.f_Ratio__bottom, (by show 2 < 1000; decide), ?_⟩
    rw [rf_bot, upd_upd]
    conv => whnf
    refine k _ _ (fun c u ec => ?_) ⟨x, dx, rfl, upd_same⟩
    have ncx : c ≠ x := ne_of_none ec hx
    rw [upd_ne ncx]
    exact s1 c u (by rw [upd_ne ncx, upd_ne (ne_of_none ec hd)]; exact ec) ncx
def sp_Ratio___add__ (K : PySem.W.Frag) (C : Addr) : Sp := fun vs H Q _ => ∃ (v w : V) (p q p' q' : Int), vs = [v, w] ∧ IsR C H v p q ∧ IsR C H w p' q' ∧ (p.natAbs < 2 ^ 2000 ∧ q.natAbs < 2 ^ 2000) ∧ (p'.natAbs < 2 ^ 2000 ∧ q'.natAbs < 2 ^ 2000) ∧ (0 < q ∧ 0 < q') ∧
  ∀ (r : V) (H' : Hp), Gr H H' → IsR C H' r ((p * q' + p' * q) / gcdI (p * q' + p' * q) (q * q')) (q * q' / gcdI (p * q' + p' * q) (q * q')) → Q r H'
theorem own_add {K : PySem.W.Frag} {C a b : Addr} {H : Hp} {Q : VK} {E : XK} {N D N' D' : Int} {k m : Nat} (h : RV C H (.ref a) N D k) (h' : RV C H (.ref b) N' D' m) (hk : k ≤ 2000) (hm : m ≤ 2000)
    (q : ∀ (x : Addr) (H' : Hp), Gr H H' → RV C H' (.ref x) (N * D' + N' * D) (D * D') (k + m + 1) → Q (.ref x) H') :
    ∃ dx dy fs gs, H a = some (.ins C dx fs) ∧ H b = some (.ins C dy gs) ∧ sp_Ratio___add__ K C [.ref a, .ref b] H Q E := by
  obtain ⟨p, r, i, v, s⟩ := h
  obtain ⟨p', r', i', v', s'⟩ := h'
  obtain ⟨_, dx, z, e⟩ := id i
  cases z
  obtain ⟨_, dy, z, e'⟩ := id i'
  cases z
  have s2 := s.up hk
  have s2' := s'.up hm
  refine ⟨dx, dy, _, _, e, e', _, _, p, r, p', r', rfl, i, i', s2, s2', ⟨v.low.pos, v'.low.pos⟩, fun x H' g ix => ?_⟩
  obtain ⟨y, _, rfl, _⟩ := id ix
  exact q y H' g ⟨_, _, ix, v.add v', Sm.low (Int.mul_pos v.low.pos v'.low.pos) (s.addN s')⟩
theorem ok_Ratio___add__ (T : Txt K mg) : FnOk P w K mg base CX0 5 T.a_Ratio___add__ T.d_Ratio___add__ ["self", "other"] (sp_Ratio___add__ K T.c_Ratio) := by
  refine T.F_Ratio___add__.ok sc_Ratio___add__ (fun vs H Q E h => ?_) (fun cdv A outer s H vs Q E hr h => ?_)
  · obtain ⟨v, w, p, q, p', q', rfl, _⟩ := h; rfl
  · obtain ⟨v, w, p, q, p', q', rfl, ⟨a, dx, rfl, ha⟩, ⟨b, dy, rfl, hb⟩, ⟨b1, b2⟩, ⟨b3, b4⟩, ⟨q0, q0'⟩, k⟩ := h
    refine ⟨_, (pss_cons (psIf (pt_not (ptV (pe_callB call_isi (by rfl) T.b_isinstance (by decide +kernel) (pa_cons (pev 1) (pa_cons (pe_glob (v := .ref T.c_Ratio) (by rfl) T.g_Ratio rfl) pa_nil))))) (pss_one ps_never) pss_nil)
        (pss_one (ps_ret (pe_call (ok__lowest T) (hr.mono (by decide)) (by rfl) T.g__lowest T.F__lowest.kp T.B__lowest .nil pass0 (pa_cons (pe_op opAdd (pe_op opMulT (pe_fld (pev 0) rfl) (pe_fld (pev 1) rfl)) (pe_op opMulT (pe_fld (pev 1) rfl) (pe_fld (pev 0) rfl))) (pa_cons (pe_op opMulT (pe_fld (pev 0) rfl) (pe_fld (pev 1) rfl)) pa_nil)))))), ?_⟩
    conv => whnf
    refine ⟨_, _, _, _, _, rfl, .own _, T.o_Ratio.ty hb, own_self, ?_⟩
    conv => whnf
    refine brF ?_
    conv => whnf
    refine ⟨a, T.c_Ratio, dx, _, _, rfl, ha, T.o_Ratio.cl, T.f_Ratio__top, rf_lt _ _, ?_⟩
    conv => whnf
    refine ⟨b, T.c_Ratio, dy, _, _, rfl, hb, T.o_Ratio.cl, T.f_Ratio__bottom, rf_lb _ _, ?_⟩
    conv => whnf
    refine ⟨mulW 2000 2000 b1 b4, ?_⟩
    conv => whnf
    refine ⟨b, T.c_Ratio, dy, _, _, rfl, hb, T.o_Ratio.cl, T.f_Ratio__top, rf_lt _ _, ?_⟩
    conv => whnf
    refine ⟨a, T.c_Ratio, dx, _, _, rfl, ha, T.o_Ratio.cl, T.f_Ratio__bottom, rf_lb _ _, ?_⟩
    conv => whnf
    refine ⟨mulW 2000 2000 b3 b2, ?_⟩
    conv => whnf
    refine ⟨a, T.c_Ratio, dx, _, _, rfl, ha, T.o_Ratio.cl, T.f_Ratio__bottom, rf_lb _ _, ?_⟩
    conv => whnf
    refine ⟨b, T.c_Ratio, dy, _, _, rfl, hb, T.o_Ratio.cl, T.f_Ratio__bottom, rf_lb _ _, ?_⟩
    conv => whnf
    refine ⟨mulW 2000 2000 b2 b4, ?_⟩
    conv => whnf
    refine ⟨_, _, rfl, Int.mul_pos q0 q0', Nat.lt_of_lt_of_le (mul_lt 2000 2000 b2 b4) (Nat.pow_le_pow_right (by decide) (by decide)), fun r H' g i => ?_⟩
    exact k r H' g i
def sp_Ratio___sub__ (K : PySem.W.Frag) (C : Addr) : Sp := fun vs H Q _ => ∃ (v w : V) (p q p' q' : Int), vs = [v, w] ∧ IsR C H v p q ∧ IsR C H w p' q' ∧ (p.natAbs < 2 ^ 2000 ∧ q.natAbs < 2 ^ 2000) ∧ (p'.natAbs < 2 ^ 2000 ∧ q'.natAbs < 2 ^ 2000) ∧ (0 < q ∧ 0 < q') ∧
  ∀ (r : V) (H' : Hp), Gr H H' → IsR C H' r ((p * q' - p' * q) / gcdI (p * q' - p' * q) (q * q')) (q * q' / gcdI (p * q' - p' * q) (q * q')) → Q r H'
theorem own_sub {K : PySem.W.Frag} {C a b : Addr} {H : Hp} {Q : VK} {E : XK} {N D N' D' : Int} {k m : Nat} (h : RV C H (.ref a) N D k) (h' : RV C H (.ref b) N' D' m) (hk : k ≤ 2000) (hm : m ≤ 2000)
    (q : ∀ (x : Addr) (H' : Hp), Gr H H' → RV C H' (.ref x) (N * D' - N' * D) (D * D') (k + m + 1) → Q (.ref x) H') :
    ∃ dx dy fs gs, H a = some (.ins C dx fs) ∧ H b = some (.ins C dy gs) ∧ sp_Ratio___sub__ K C [.ref a, .ref b] H Q E := by
  obtain ⟨p, r, i, v, s⟩ := h
  obtain ⟨p', r', i', v', s'⟩ := h'
  obtain ⟨_, dx, z, e⟩ := id i
  cases z
  obtain ⟨_, dy, z, e'⟩ := id i'
  cases z
  have s2 := s.up hk
  have s2' := s'.up hm
  refine ⟨dx, dy, _, _, e, e', _, _, p, r, p', r', rfl, i, i', s2, s2', ⟨v.low.pos, v'.low.pos⟩, fun x H' g ix => ?_⟩
  obtain ⟨y, _, rfl, _⟩ := id ix
  exact q y H' g ⟨_, _, ix, v.sub v', Sm.low (Int.mul_pos v.low.pos v'.low.pos) (s.subN s')⟩
theorem ok_Ratio___sub__ (T : Txt K mg) : FnOk P w K mg base CX0 5 T.a_Ratio___sub__ T.d_Ratio___sub__ ["self", "other"] (sp_Ratio___sub__ K T.c_Ratio) := by
  refine T.F_Ratio___sub__.ok sc_Ratio___sub__ (fun vs H Q E h => ?_) (fun cdv A outer s H vs Q E hr h => ?_)
  · obtain ⟨v, w, p, q, p', q', rfl, _⟩ := h; rfl
  · obtain ⟨v, w, p, q, p', q', rfl, ⟨a, dx, rfl, ha⟩, ⟨b, dy, rfl, hb⟩, ⟨b1, b2⟩, ⟨b3, b4⟩, ⟨q0, q0'⟩, k⟩ := h
    refine ⟨_, (pss_cons (psIf (pt_not (ptV (pe_callB call_isi (by rfl) T.b_isinstance (by decide +kernel) (pa_cons (pev 1) (pa_cons (pe_glob (v := .ref T.c_Ratio) (by rfl) T.g_Ratio rfl) pa_nil))))) (pss_one ps_never) pss_nil)
        (pss_one (ps_ret (pe_call (ok__lowest T) (hr.mono (by decide)) (by rfl) T.g__lowest T.F__lowest.kp T.B__lowest .nil pass0 (pa_cons (pe_op opSub (pe_op opMulT (pe_fld (pev 0) rfl) (pe_fld (pev 1) rfl)) (pe_op opMulT (pe_fld (pev 1) rfl) (pe_fld (pev 0) rfl))) (pa_cons (pe_op opMulT (pe_fld (pev 0) rfl) (pe_fld (pev 1) rfl)) pa_nil)))))), ?_⟩
    conv => whnf
    refine ⟨_, _, _, _, _, rfl, .own _, T.o_Ratio.ty hb, own_self, ?_⟩
    conv => whnf
    refine brF ?_
    conv => whnf
    refine ⟨a, T.c_Ratio, dx, _, _, rfl, ha, T.o_Ratio.cl, T.f_Ratio__top, rf_lt _ _, ?_⟩
    conv => whnf
    refine ⟨b, T.c_Ratio, dy, _, _, rfl, hb, T.o_Ratio.cl, T.f_Ratio__bottom, rf_lb _ _, ?_⟩
    conv => whnf
    refine ⟨mulW 2000 2000 b1 b4, ?_⟩
    conv => whnf
    refine ⟨b, T.c_Ratio, dy, _, _, rfl, hb, T.o_Ratio.cl, T.f_Ratio__top, rf_lt _ _, ?_⟩
    conv => whnf
    refine ⟨a, T.c_Ratio, dx, _, _, rfl, ha, T.o_Ratio.cl, T.f_Ratio__bottom, rf_lb _ _, ?_⟩
    conv => whnf
    refine ⟨mulW 2000 2000 b3 b2, ?_⟩
    conv => whnf
    refine ⟨a, T.c_Ratio, dx, _, _, rfl, ha, T.o_Ratio.cl, T.f_Ratio__bottom, rf_lb _ _, ?_⟩
    conv => whnf
    refine ⟨b, T.c_Ratio, dy, _, _, rfl, hb, T.o_Ratio.cl, T.f_Ratio__bottom, rf_lb _ _, ?_⟩
    conv => whnf
    refine ⟨mulW 2000 2000 b2 b4, ?_⟩
    conv => whnf
    refine ⟨_, _, rfl, Int.mul_pos q0 q0', Nat.lt_of_lt_of_le (mul_lt 2000 2000 b2 b4) (Nat.pow_le_pow_right (by decide) (by decide)), fun r H' g i => ?_⟩
    exact k r H' g i
def sp_Ratio___mul__ (K : PySem.W.Frag) (C : Addr) : Sp := fun vs H Q _ => ∃ (v w : V) (p q p' q' : Int), vs = [v, w] ∧ IsR C H v p q ∧ IsR C H w p' q' ∧ (p.natAbs < 2 ^ 2000 ∧ q.natAbs < 2 ^ 2000) ∧ (p'.natAbs < 2 ^ 2000 ∧ q'.natAbs < 2 ^ 2000) ∧ (0 < q ∧ 0 < q') ∧
  ∀ (r : V) (H' : Hp), Gr H H' → IsR C H' r ((p * p') / gcdI (p * p') (q * q')) (q * q' / gcdI (p * p') (q * q')) → Q r H'
theorem own_mul {K : PySem.W.Frag} {C a b : Addr} {H : Hp} {Q : VK} {E : XK} {N D N' D' : Int} {k m : Nat} (h : RV C H (.ref a) N D k) (h' : RV C H (.ref b) N' D' m) (hk : k ≤ 2000) (hm : m ≤ 2000)
    (q : ∀ (x : Addr) (H' : Hp), Gr H H' → RV C H' (.ref x) (N * N') (D * D') (k + m + 1) → Q (.ref x) H') :
    ∃ dx dy fs gs, H a = some (.ins C dx fs) ∧ H b = some (.ins C dy gs) ∧ sp_Ratio___mul__ K C [.ref a, .ref b] H Q E := by
  obtain ⟨p, r, i, v, s⟩ := h
  obtain ⟨p', r', i', v', s'⟩ := h'
  obtain ⟨_, dx, z, e⟩ := id i
  cases z
  obtain ⟨_, dy, z, e'⟩ := id i'
  cases z
  have s2 := s.up hk
  have s2' := s'.up hm
  refine ⟨dx, dy, _, _, e, e', _, _, p, r, p', r', rfl, i, i', s2, s2', ⟨v.low.pos, v'.low.pos⟩, fun x H' g ix => ?_⟩
  obtain ⟨y, _, rfl, _⟩ := id ix
  exact q y H' g ⟨_, _, ix, v.mul v', Sm.low (Int.mul_pos v.low.pos v'.low.pos) (s.mulN s')⟩
theorem ok_Ratio___mul__ (T : Txt K mg) : FnOk P w K mg base CX0 5 T.a_Ratio___mul__ T.d_Ratio___mul__ ["self", "other"] (sp_Ratio___mul__ K T.c_Ratio) := by
  refine T.F_Ratio___mul__.ok sc_Ratio___mul__ (fun vs H Q E h => ?_) (fun cdv A outer s H vs Q E hr h => ?_)
  · obtain ⟨v, w, p, q, p', q', rfl, _⟩ := h; rfl
  · obtain ⟨v, w, p, q, p', q', rfl, ⟨a, dx, rfl, ha⟩, ⟨b, dy, rfl, hb⟩, ⟨b1, b2⟩, ⟨b3, b4⟩, ⟨q0, q0'⟩, k⟩ := h
    refine ⟨_, (pss_cons (psIf (pt_not (ptV (pe_callB call_isi (by rfl) T.b_isinstance (by decide +kernel) (pa_cons (pev 1) (pa_cons (pe_glob (v := .ref T.c_Ratio) (by rfl) T.g_Ratio rfl) pa_nil))))) (pss_one ps_never) pss_nil)
        (pss_one (ps_ret (pe_call (ok__lowest T) (hr.mono (by decide)) (by rfl) T.g__lowest T.F__lowest.kp T.B__lowest .nil pass0 (pa_cons (pe_op opMulT (pe_fld (pev 0) rfl) (pe_fld (pev 1) rfl)) (pa_cons (pe_op opMulT (pe_fld (pev 0) rfl) (pe_fld (pev 1) rfl)) pa_nil)))))), ?_⟩
    conv => whnf
    refine ⟨_, _, _, _, _, rfl, .own _, T.o_Ratio.ty hb, own_self, ?_⟩
    conv => whnf
    refine brF ?_
    conv => whnf
    refine ⟨a, T.c_Ratio, dx, _, _, rfl, ha, T.o_Ratio.cl, T.f_Ratio__top, rf_lt _ _, ?_⟩
    conv => whnf
    refine ⟨b, T.c_Ratio, dy, _, _, rfl, hb, T.o_Ratio.cl, T.f_Ratio__top, rf_lt _ _, ?_⟩
    conv => whnf
    refine ⟨mulW 2000 2000 b1 b3, ?_⟩
    conv => whnf
    refine ⟨a, T.c_Ratio, dx, _, _, rfl, ha, T.o_Ratio.cl, T.f_Ratio__bottom, rf_lb _ _, ?_⟩
    conv => whnf
    refine ⟨b, T.c_Ratio, dy, _, _, rfl, hb, T.o_Ratio.cl, T.f_Ratio__bottom, rf_lb _ _, ?_⟩
    conv => whnf
    refine ⟨mulW 2000 2000 b2 b4, ?_⟩
    conv => whnf
    refine ⟨_, _, rfl, Int.mul_pos q0 q0', Nat.lt_of_lt_of_le (mul_lt 2000 2000 b2 b4) (Nat.pow_le_pow_right (by decide) (by decide)), fun r H' g i => ?_⟩
    exact k r H' g i
def sp_Ratio___neg__ (K : PySem.W.Frag) (C : Addr) : Sp := fun vs H Q _ => ∃ (v : V) (N D : Int) (k : Nat), vs = [v] ∧ RV C H v N D k ∧ k ≤ 2000 ∧ ∀ (x : Addr) (H' : Hp), Gr H H' → RV C H' (.ref x) (-N) D k → Q (.ref x) H'
theorem own_neg {K : PySem.W.Frag} {C a : Addr} {H : Hp} {Q : VK} {E : XK} {N D : Int} {k : Nat} (h : RV C H (.ref a) N D k) (hk : k ≤ 2000) (q : ∀ (x : Addr) (H' : Hp), Gr H H' → RV C H' (.ref x) (-N) D k → Q (.ref x) H') :
    ∃ dx fs, H a = some (.ins C dx fs) ∧ sp_Ratio___neg__ K C [.ref a] H Q E := by
  obtain ⟨p, r, ⟨_, dx, z, e⟩, v, s⟩ := id h
  cases z
  exact ⟨dx, _, e, .ref a, N, D, k, rfl, h, hk, q⟩
theorem ok_Ratio___neg__ (T : Txt K mg) : FnOk P w K mg base CX0 5 T.a_Ratio___neg__ T.d_Ratio___neg__ ["self"] (sp_Ratio___neg__ K T.c_Ratio) := by
  refine T.F_Ratio___neg__.ok sc_Ratio___neg__ (fun vs H Q E h => ?_) (fun cdv A outer s H vs Q E hr h => ?_)
  · obtain ⟨v, N, D, m, rfl, _⟩ := h; rfl
  · obtain ⟨v, N, D, m, rfl, ⟨p, q, ⟨a, dx, rfl, ha⟩, vl, sm⟩, hm, k⟩ := h
    refine ⟨_, (pss_one (ps_ret (pe_call (ok__lowest T) (hr.mono (by decide)) (by rfl) T.g__lowest T.F__lowest.kp T.B__lowest .nil pass0 (pa_cons (pe_un unNeg (pe_fld (pev 0) rfl)) (pa_cons (pe_fld (pev 0) rfl) pa_nil))))), ?_⟩
    have q0 := vl.low.pos
    conv => whnf
    refine ⟨a, T.c_Ratio, dx, _, _, rfl, ha, T.o_Ratio.cl, T.f_Ratio__top, rf_lt _ _, ?_⟩
    conv => whnf
    refine ⟨a, T.c_Ratio, dx, _, _, rfl, ha, T.o_Ratio.cl, T.f_Ratio__bottom, rf_lb _ _, ?_⟩
    conv => whnf
    refine ⟨-p, q, rfl, q0, Nat.lt_of_lt_of_le sm.2 (pow_le (by omega)), fun r H' g i => ?_⟩
    obtain ⟨x, _, rfl, _⟩ := id i
    exact k x H' g ⟨_, _, i, vl.neg, Sm.low q0 ⟨by rw [Int.natAbs_neg]; exact sm.1, sm.2⟩⟩
theorem mul_le {a b : Int} (m n : Nat) (ha : a.natAbs ≤ 2 ^ m) (hb : b.natAbs ≤ 2 ^ n) : (a * b).natAbs ≤ 2 ^ (m + n) := by
  rw [Int.natAbs_mul, Nat.pow_add]
  exact Nat.mul_le_mul ha hb
/-- how great a sum of i fractions can be -/
def SB (i : Nat) (z : Int × Int) : Prop := 0 < z.2 ∧ z.2.natAbs ≤ 2 ^ (47 * i) ∧ z.1.natAbs ≤ 2 ^ (48 * i)
theorem SB.step {i : Nat} {z y : Int × Int} (h : SB i z) (h1 : 0 < y.2) (h2 : y.2.natAbs ≤ 2 ^ 47) (h3 : y.1.natAbs ≤ 2 ^ 47) : SB (i + 1) (stepF z y) := by
  obtain ⟨a, b, c⟩ := h
  refine ⟨Int.mul_pos a h1, ?_, ?_⟩
  · have := mul_le (47 * i) 47 b h2
    rw [show 47 * (i + 1) = 47 * i + 47 by omega]
    exact this
  · have e1 := mul_le (48 * i) 47 c h2
    have e2 := mul_le 47 (47 * i) h3 b
    have e3 : 2 ^ (47 + 47 * i) ≤ 2 ^ (48 * i + 47) := pow_le (by omega)
    have e4 : 2 ^ (48 * (i + 1)) = 2 ^ (48 * i + 47) * 2 := by rw [← Nat.pow_succ]; congr 1
    show (z.1 * y.2 + y.1 * z.2).natAbs ≤ _
    rw [e4]
    omega
theorem free_up {H H' : Hp} {x : Addr} (g : Gr H H') (h : H' x = none) : H x = none := by
  cases e : H x with
  | none => rfl
  | some u => rw [g _ _ e] at h; cases h
def sp__law_sum (K : PySem.W.Frag) : Sp := fun vs H Q _ => ∃ (a : Addr) (xs : List V) (ls : List (Int × Int)), vs = [.ref a] ∧ SqL K H a xs ∧ xs.length ≤ 4 ∧ xs.length = ls.length ∧ (∀ (i : Nat) (x : V) (z : Int × Int), xs[i]? = some x → ls[i]? = some z → TupAt H x z.1 z.2 ∧ 0 < z.2 ∧ z.2.natAbs ≤ 2 ^ 47 ∧ z.1.natAbs ≤ 2 ^ 47) ∧
  ∀ (x : Addr) (H' : Hp), Gr H H' → H x = none → H' x = some (.tup [.int ((sumF ls).1 / gcdI (sumF ls).1 (sumF ls).2), .int ((sumF ls).2 / gcdI (sumF ls).1 (sumF ls).2)]) → Q (.ref x) H'
theorem ok__law_sum (T : Txt K mg) : FnOk P w K mg base CX0 2 T.a__law_sum T.d__law_sum ["_law_pairs"] (sp__law_sum K) := by
  refine T.F__law_sum.ok sc__law_sum (fun vs H Q E h => ?_) (fun cdv A outer s H vs Q E hr h => ?_)
  · obtain ⟨a, xs, ls, rfl, _⟩ := h; rfl
  · obtain ⟨a, xs, ls, rfl, ha, hl, hls, hx, k⟩ := h
    refine ⟨_, (pss_cons (ps_asg (pe_tup (pa_cons pe_int (pa_cons pe_int pa_nil))) (pg_tup rfl (pgs_cons (pg_name (i := 1) sc__law_sum.nd rfl (by first | exact Or.inl rfl | exact Or.inr rfl)) (pgs_cons (pg_name (i := 2) sc__law_sum.nd rfl (by first | exact Or.inl rfl | exact Or.inr rfl)) pgs_nil))))
        (pss_cons (ps_for PassesOwn.never rfl (pi_list (pev 0)) (pg_name (i := 3) sc__law_sum.nd rfl (by first | exact Or.inl rfl | exact Or.inr rfl))
        (pss_one (ps_par (i := 1) (j := 2) (by rfl) sc__law_sum.nd rfl rfl (by decide) rfl rfl (pa_cons (pe_op opAdd (pe_op opMulT (pev 1) (pe_ix ixU (pev 3) pe_int (fun _ _ => rfl))) (pe_op opMulT (pe_ix ixU (pev 3) pe_int (fun _ _ => rfl)) (pev 2))) (pa_cons (pe_op opMulT (pev 2) (pe_ix ixU (pev 3) pe_int (fun _ _ => rfl))) pa_nil)) (by rfl))))
        (pss_one (ps_ret (pe_call (ok__law_lowest T) (hr.mono (by decide)) (by rfl) T.g__law_lowest T.F__law_lowest.kp T.B__law_lowest .nil pass0 (pa_cons (pev 1) (pa_cons (pev 2) pa_nil))))))), ?_⟩
    conv => whnf
    refine ⟨small_ok (by simp), fun t0 h0 => ?_⟩
    conv => whnf
    refine ⟨t0, _, rfl, SqT.of upd_same, rfl, ?_⟩
    conv => whnf
    refine ⟨_, _, rfl, ?_⟩
    conv => whnf
    refine ⟨_, _, rfl, ?_⟩
    conv => whnf
    refine ⟨rfl, ?_⟩
    have g0 : Gr H (upd H t0 (.tup [.int 0, .int 1])) := Gr.rfl'.up h0
    generalize upd H t0 (.tup [.int 0, .int 1]) = H0 at g0 ⊢
    have ha := sqlSame g0 ha
    conv => whnf
    refine ⟨a, rfl, ⟨_, ha⟩, for_list (xs := xs) (fun i σ H' => (∃ w, σ = [some (.ref a), some (.int (sumF (ls.take i)).1), some (.int (sumF (ls.take i)).2), w]) ∧ SB i (sumF (ls.take i)) ∧ H' = H0)
      ⟨⟨none, rfl⟩, (show SB 0 (0, 1) from ⟨by decide, by decide, by decide⟩), rfl⟩ (fun i σ H' _ ⟨_, _, e⟩ => by rw [e]; exact ha) ?_ ?_⟩
    · rintro i x σ H' hi ⟨⟨w, rfl⟩, sb, rfl⟩
      have hi' : i < xs.length := (List.getElem?_eq_some_iff.mp hi).1
      have hz : ls[i]? = some (ls[i]'(by omega)) := List.getElem?_eq_getElem _
      obtain ⟨⟨t, rfl, et⟩, z0, z1, z2⟩ := hx i x _ hi hz
      have et := g0 _ _ et
      have sb' := sb.step z0 z1 z2
      rw [← sumF_take hz] at sb'
      have b1 : (sumF (ls.take i)).1.natAbs < 2 ^ 2000 := Nat.lt_of_le_of_lt sb.2.2 (Nat.pow_lt_pow_right (by decide) (by omega))
      have b2 : (sumF (ls.take i)).2.natAbs < 2 ^ 2000 := Nat.lt_of_le_of_lt sb.2.1 (Nat.pow_lt_pow_right (by decide) (by omega))
      have c1 : (ls[i]'(by omega)).1.natAbs < 2 ^ 48 := by omega
      have c2 : (ls[i]'(by omega)).2.natAbs < 2 ^ 48 := by omega
      conv => whnf
      refine ⟨_, _, .inr (SqT.of et), rfl, ?_⟩
      conv => whnf
      refine ⟨mulW 2000 48 b1 c2, ?_⟩
      conv => whnf
      refine ⟨_, _, .inr (SqT.of et), rfl, ?_⟩
      conv => whnf
      refine ⟨mulW 48 2000 c1 b2, ?_⟩
      conv => whnf
      refine ⟨_, _, .inr (SqT.of et), rfl, ?_⟩
      conv => whnf
      refine ⟨mulW 2000 48 b2 c2, ?_⟩
      conv => whnf
      refine ⟨_, _, rfl, ?_⟩
      conv => whnf
      refine ⟨⟨some (.ref t), ?_⟩, sb', rfl⟩
      rw [sumF_take hz]
      rfl
    · rintro σ H' ⟨⟨w, rfl⟩, sb, rfl⟩
      rw [show xs.length = ls.length from hls, List.take_length] at sb ⊢
      have l4 : ls.length ≤ 4 := by omega
      conv => whnf
      refine ⟨_, _, rfl, sb.1, ?_, ?_, fun x H1 g1 n1 e1 => k x H1 (g0.trans g1) (free_up g0 n1) e1⟩
      · have h1 := Nat.le_trans sb.2.1 (pow_le (show 47 * ls.length ≤ 188 by omega))
        have h2 := sb.1
        omega
      · exact Nat.lt_of_le_of_lt sb.2.2 (Nat.pow_lt_pow_right (by decide) (by omega))
def sp__law_minus (K : PySem.W.Frag) : Sp := fun vs H Q _ => ∃ (v : V) (p q : Int), vs = [v] ∧ TupAt H v p q ∧
  ∀ (x : Addr) (H' : Hp), Gr H H' → H x = none → H' x = some (.tup [.int (0 - p), .int q]) → Q (.ref x) H'
theorem ok__law_minus (T : Txt K mg) : FnOk P w K mg base CX0 1 T.a__law_minus T.d__law_minus ["_law_pair"] (sp__law_minus K) := by
  refine T.F__law_minus.ok sc__law_minus (fun vs H Q E h => ?_) (fun cdv A outer s H vs Q E hr h => ?_)
  · obtain ⟨v, p, q, rfl, _⟩ := h; rfl
  · obtain ⟨v, p, q, rfl, ⟨a, rfl, ha⟩, k⟩ := h
    refine ⟨_, (pss_one (ps_ret (pe_tup (pa_cons (pe_op opSub pe_int (pe_ix ixU (pev 0) pe_int (fun _ _ => rfl))) (pa_cons (pe_ix ixU (pev 0) pe_int (fun _ _ => rfl)) pa_nil))))), ?_⟩
    conv => whnf
    refine ⟨_, _, .inr (SqT.of ha), rfl, ?_⟩
    conv => whnf
    refine ⟨_, _, .inr (SqT.of ha), rfl, ?_⟩
    conv => whnf
    exact ⟨small_ok (by simp), fun x hx => k x _ (Gr.rfl'.up hx) hx upd_same⟩
def sp__law_product (K : PySem.W.Frag) : Sp := fun vs H Q _ => ∃ (v w : V) (p q p' q' : Int), vs = [v, w] ∧ TupAt H v p q ∧ TupAt H w p' q' ∧ 0 < q ∧ 0 < q' ∧ q.natAbs ≤ 2 ^ 47 ∧ q'.natAbs ≤ 2 ^ 47 ∧ p.natAbs ≤ 2 ^ 47 ∧ p'.natAbs ≤ 2 ^ 47 ∧
  ∀ (x : Addr) (H' : Hp), Gr H H' → H x = none → H' x = some (.tup [.int (p * p' / gcdI (p * p') (q * q')), .int (q * q' / gcdI (p * p') (q * q'))]) → Q (.ref x) H'
theorem ok__law_product (T : Txt K mg) : FnOk P w K mg base CX0 2 T.a__law_product T.d__law_product ["_law_one", "_law_other"] (sp__law_product K) := by
  refine T.F__law_product.ok sc__law_product (fun vs H Q E h => ?_) (fun cdv A outer s H vs Q E hr h => ?_)
  · obtain ⟨v, w, p, q, p', q', rfl, _⟩ := h; rfl
  · obtain ⟨v, w, p, q, p', q', rfl, ⟨a, rfl, ha⟩, ⟨b, rfl, hb⟩, q0, q0', b1, b2, b3, b4, k⟩ := h
    refine ⟨_, (pss_one (ps_ret (pe_call (ok__law_lowest T) (hr.mono (by decide)) (by rfl) T.g__law_lowest T.F__law_lowest.kp T.B__law_lowest .nil pass0 (pa_cons (pe_op opMulT (pe_ix ixU (pev 0) pe_int (fun _ _ => rfl)) (pe_ix ixU (pev 1) pe_int (fun _ _ => rfl))) (pa_cons (pe_op opMulT (pe_ix ixU (pev 0) pe_int (fun _ _ => rfl)) (pe_ix ixU (pev 1) pe_int (fun _ _ => rfl))) pa_nil))))), ?_⟩
    have m1 := mul_lt 48 48 (a := q) (b := q') (by omega) (by omega)
    have m2 := mul_lt 48 48 (a := p) (b := p') (by omega) (by omega)
    have m3 := Int.mul_pos q0 q0'
    conv => whnf
    refine ⟨_, _, .inr (SqT.of ha), rfl, ?_⟩
    conv => whnf
    refine ⟨_, _, .inr (SqT.of hb), rfl, ?_⟩
    conv => whnf
    refine ⟨mulW 48 48 (by omega) (by omega), ?_⟩
    conv => whnf
    refine ⟨_, _, .inr (SqT.of ha), rfl, ?_⟩
    conv => whnf
    refine ⟨_, _, .inr (SqT.of hb), rfl, ?_⟩
    conv => whnf
    refine ⟨mulW 48 48 (by omega) (by omega), ?_⟩
    conv => whnf
    refine ⟨_, _, rfl, m3, ?_, ?_, k⟩
    · generalize q * q' = z at m1 m3 ⊢
      omega
    · generalize p * p' = z at m2 ⊢
      omega
def sp_Ratio___bool__ (K : PySem.W.Frag) (C : Addr) : Sp := fun vs H Q _ => ∃ (v : V) (p q : Int), vs = [v] ∧ IsR C H v p q ∧ Q (.bl (decide (p ≠ 0))) H
theorem ok_Ratio___bool__ (T : Txt K mg) : FnOk P w K mg base CX0 1 T.a_Ratio___bool__ T.d_Ratio___bool__ ["self"] (sp_Ratio___bool__ K T.c_Ratio) := by
  refine T.F_Ratio___bool__.ok sc_Ratio___bool__ (fun vs H Q E h => ?_) (fun cdv A outer s H vs Q E hr h => ?_)
  · obtain ⟨v, p, q, rfl, _⟩ := h; rfl
  · obtain ⟨v, p, q, rfl, ⟨a, dx, rfl, ha⟩, k⟩ := h
    refine ⟨_, (pss_one (ps_ret (pe_callTy caBool (by rfl) T.b_bool (by decide +kernel) (pa_cons (pe_fld (pev 0) rfl) pa_nil)))), ?_⟩
    conv => whnf
    refine ⟨a, T.c_Ratio, dx, _, _, rfl, ha, T.o_Ratio.cl, T.f_Ratio__top, rf_lt _ _, ?_⟩
    exact k
def sp_Ratio_top (K : PySem.W.Frag) (C : Addr) : Sp := fun vs H Q _ => ∃ (v : V) (p q : Int), vs = [v] ∧ IsR C H v p q ∧ Q (.int p) H
theorem ok_Ratio_top (T : Txt K mg) : FnOk P w K mg base CX0 1 T.a_Ratio_top T.d_Ratio_top ["self"] (sp_Ratio_top K T.c_Ratio) := by
  refine T.F_Ratio_top.ok sc_Ratio_top (fun vs H Q E h => ?_) (fun cdv A outer s H vs Q E hr h => ?_)
  · obtain ⟨v, p, q, rfl, _⟩ := h; rfl
  · obtain ⟨v, p, q, rfl, ⟨a, dx, rfl, ha⟩, k⟩ := h
    refine ⟨_, (pss_one (ps_ret (pe_fld (pev 0) rfl))), ?_⟩
    conv => whnf
    exact ⟨a, T.c_Ratio, dx, _, _, rfl, ha, T.o_Ratio.cl, T.f_Ratio__top, rf_lt _ _, k⟩
def sp_Ratio_bottom (K : PySem.W.Frag) (C : Addr) : Sp := fun vs H Q _ => ∃ (v : V) (p q : Int), vs = [v] ∧ IsR C H v p q ∧ Q (.int q) H
theorem ok_Ratio_bottom (T : Txt K mg) : FnOk P w K mg base CX0 1 T.a_Ratio_bottom T.d_Ratio_bottom ["self"] (sp_Ratio_bottom K T.c_Ratio) := by
  refine T.F_Ratio_bottom.ok sc_Ratio_bottom (fun vs H Q E h => ?_) (fun cdv A outer s H vs Q E hr h => ?_)
  · obtain ⟨v, p, q, rfl, _⟩ := h; rfl
  · obtain ⟨v, p, q, rfl, ⟨a, dx, rfl, ha⟩, k⟩ := h
    refine ⟨_, (pss_one (ps_ret (pe_fld (pev 0) rfl))), ?_⟩
    conv => whnf
    exact ⟨a, T.c_Ratio, dx, _, _, rfl, ha, T.o_Ratio.cl, T.f_Ratio__bottom, rf_lb _ _, k⟩
theorem over_val {p q N D p' q' N' D' s : Int} (v : Val p q N D) (v' : Val p' q' N' D') (hs : s * s = 1) (h : 0 < s * p') : Val ((s * p * q') / gcdI (s * p * q') (s * q * p')) (s * q * p' / gcdI (s * p * q') (s * q * p')) (s * N * D') (s * D * N') := by
  have q0 := v.low.pos
  have q0' := v'.low.pos
  have e := v.eq
  have e' := v'.eq
  have d := v.dp
  have d' := v'.dp
  have h1 : 0 < s * N' := by
    have : 0 < (s * p') * D' := Int.mul_pos h d'
    have e2 : (s * p') * D' = (s * N') * q' := by grind
    rw [e2] at this
    exact Int.pos_of_mul_pos_left this q0'
  have h2 : 0 < s * q * p' := by
    have : s * q * p' = q * (s * p') := by grind
    rw [this]
    exact Int.mul_pos q0 h
  have h3 : 0 < s * D * N' := by
    have : s * D * N' = D * (s * N') := by grind
    rw [this]
    exact Int.mul_pos d h1
  exact (Val.of h2).to h3 (by grind)
theorem sgn_abs {s x : Int} (hs : s = 1 ∨ s = -1) : (s * x).natAbs = x.natAbs := by rcases hs with rfl | rfl <;> omega
def sp_Ratio_over (K : PySem.W.Frag) (C : Addr) : Sp := fun vs H Q _ => ∃ (v w : V) (N D N' D' s : Int) (k m : Nat), vs = [v, w] ∧ RV C H v N D k ∧ RV C H w N' D' m ∧ k ≤ 1000 ∧ m ≤ 1000 ∧ (s = 1 ∨ s = -1) ∧ 0 < s * N' ∧ ∀ (x : Addr) (H' : Hp), Gr H H' → RV C H' (.ref x) (s * N * D') (s * D * N') (k + m + 1) → Q (.ref x) H'
theorem ok_Ratio_over (T : Txt K mg) : FnOk P w K mg base CX0 5 T.a_Ratio_over T.d_Ratio_over ["self", "other"] (sp_Ratio_over K T.c_Ratio) := by
  refine T.F_Ratio_over.ok sc_Ratio_over (fun vs H Q E h => ?_) (fun cdv A outer s H vs Q E hr h => ?_)
  · obtain ⟨v, w, N, D, N', D', s, k, m, rfl, _⟩ := h; rfl
  · obtain ⟨v, w, N, D, N', D', sg, k1, m1, rfl, ⟨p, q, iv, vl, sm⟩, ⟨p', q', iw, wl, sw⟩, hk, hm, hs, hpos, k⟩ := h
    obtain ⟨a, dx, rfl, ha⟩ := id iv
    obtain ⟨b, dy, rfl, hb⟩ := id iw
    refine ⟨_, (pss_cons (psIf (pt_not (ptV (pe_callB call_isi (by rfl) T.b_isinstance (by decide +kernel) (pa_cons (pev 1) (pa_cons (pe_glob (v := .ref T.c_Ratio) (by rfl) T.g_Ratio rfl) pa_nil))))) (pss_one ps_never) pss_nil)
        (pss_cons (psIf (pt_not (ptO T.M_Ratio___bool__ (ok_Ratio___bool__ T) (hr.mono (by decide)) T.B_Ratio___bool__ pass0 (pev 1))) (pss_one ps_never) pss_nil)
        (pss_cons (ps_set (i := 2) sc_Ratio_over.nd rfl (by first | exact Or.inl rfl | exact Or.inr rfl) (peIf (pt_cmpR opLt (pe_prop (pev 1) T.o_Ratio.cl T.P_Ratio_top (ok_Ratio_top T) (hr.mono (by decide)) T.B_Ratio_top .nil pass0 rfl) pe_int (nomark _)) (pe_un unNeg pe_int) pe_int))
        (pss_one (ps_ret (pe_call (ok__lowest T) (hr.mono (by decide)) (by rfl) T.g__lowest T.F__lowest.kp T.B__lowest .nil pass0 (pa_cons (pe_op opMulT (pe_op opMulT (pev 2) (pe_fld (pev 0) rfl)) (pe_prop (pev 1) T.o_Ratio.cl T.P_Ratio_bottom (ok_Ratio_bottom T) (hr.mono (by decide)) T.B_Ratio_bottom .nil pass0 rfl)) (pa_cons (pe_op opMulT (pe_op opMulT (pev 2) (pe_fld (pev 0) rfl)) (pe_prop (pev 1) T.o_Ratio.cl T.P_Ratio_top (ok_Ratio_top T) (hr.mono (by decide)) T.B_Ratio_top .nil pass0 rfl)) pa_nil)))))))), ?_⟩
    have q0 := vl.low.pos
    have q0' := wl.low.pos
    have hp' : 0 < sg * p' := by
      have h1 : 0 < sg * N' * q' := Int.mul_pos hpos q0'
      have e : sg * N' * q' = sg * p' * D' := by have := wl.eq; grind
      rw [e] at h1
      exact Int.pos_of_mul_pos_left h1 wl.dp
    have w1 : (sg * p).natAbs < 2 ^ 2000 := by rw [sgn_abs hs]; exact Nat.lt_of_lt_of_le sm.1 (pow_le (by omega))
    have w2 : (sg * q).natAbs < 2 ^ 2000 := by rw [sgn_abs hs]; exact Nat.lt_of_lt_of_le sm.2 (pow_le (by omega))
    have w3 : p'.natAbs < 2 ^ 2000 := Nat.lt_of_lt_of_le sw.1 (pow_le (by omega))
    have w4 : q'.natAbs < 2 ^ 2000 := Nat.lt_of_lt_of_le sw.2 (pow_le (by omega))
    have w5 : 0 < sg * q * p' := by
      have : sg * q * p' = q * (sg * p') := by grind
      rw [this]
      exact Int.mul_pos q0 hp'
    have w6 := Nat.lt_of_lt_of_le (mul_lt 2000 2000 w2 w3) (pow_le (show 4000 ≤ 8000 by decide))
    have w7 := over_val vl wl (by rcases hs with rfl | rfl <;> rfl) hp'
    have w8 : Sm (k1 + m1 + 1) (sg * p * q') (sg * q * p') := Sm.mulN (p := sg * p) (q := sg * q) (p' := q') (q' := p') ⟨by rw [sgn_abs hs]; exact sm.1, by rw [sgn_abs hs]; exact sm.2⟩ ⟨sw.2, sw.1⟩
    conv => whnf
    refine ⟨_, _, _, _, _, rfl, .own _, T.o_Ratio.ty hb, own_self, ?_⟩
    conv => whnf
    refine brF ?_
    conv => whnf
    refine ⟨b, dy, _, rfl, hb, _, p', q', rfl, iw, ?_⟩
    conv => whnf
    refine ⟨_, rfl, ?_⟩
    have pn : p' ≠ 0 := fun z => by rw [z] at hp'; simp at hp'
    rw [decide_eq_true pn]
    conv => whnf
    refine brF ?_
    conv => whnf
    refine ⟨b, dy, _, rfl, hb, _, p', q', rfl, iw, ?_⟩
    conv => whnf
    refine ⟨_, rfl, ?_⟩
    refine brD (fun h => ?x) (fun h => ?y)
    case' x =>
      obtain rfl : sg = -1 := by
        rcases hs with rfl | rfl
        · omega
        · rfl
      conv => whnf
    case' y =>
      obtain rfl : sg = 1 := by
        rcases hs with rfl | rfl
        · rfl
        · omega
    all_goals
      conv => whnf
      refine ⟨a, T.c_Ratio, dx, _, _, rfl, ha, T.o_Ratio.cl, T.f_Ratio__top, rf_lt _ _, ?_⟩
      conv => whnf
      refine ⟨mulW 2 2000 (by decide) (Nat.lt_of_lt_of_le sm.1 (pow_le (by omega))), ?_⟩
      conv => whnf
      refine ⟨b, dy, _, rfl, hb, _, p', q', rfl, iw, ?_⟩
      conv => whnf
      refine ⟨mulW 2000 2000 w1 w4, ?_⟩
      conv => whnf
      refine ⟨a, T.c_Ratio, dx, _, _, rfl, ha, T.o_Ratio.cl, T.f_Ratio__bottom, rf_lb _ _, ?_⟩
      conv => whnf
      refine ⟨mulW 2 2000 (by decide) (Nat.lt_of_lt_of_le sm.2 (pow_le (by omega))), ?_⟩
      conv => whnf
      refine ⟨b, dy, _, rfl, hb, _, p', q', rfl, iw, ?_⟩
      conv => whnf
      refine ⟨mulW 2000 2000 w2 w3, ?_⟩
      conv => whnf
      refine ⟨_, _, rfl, w5, w6, fun r H' g i => ?_⟩
      obtain ⟨x, _, rfl, _⟩ := id i
      exact k x H' g ⟨_, _, i, w7, Sm.low w5 w8⟩
def sp_Ratio___eq__ (K : PySem.W.Frag) (C : Addr) : Sp := fun vs H Q _ => ∃ (v w : V) (p q p' q' : Int), vs = [v, w] ∧ IsR C H v p q ∧ IsR C H w p' q' ∧ Q (.bl (decide (p = p' ∧ q = q'))) H
theorem own_eq {K : PySem.W.Frag} {C a b : Addr} {H : Hp} {Q : VK} {E : XK} {N D N' D' : Int} {k m : Nat} (h : RV C H (.ref a) N D k) (h' : RV C H (.ref b) N' D' m) (e : N * D' = N' * D) (q : Q (.bl true) H) : sp_Ratio___eq__ K C [.ref a, .ref b] H Q E := by
  obtain ⟨p, r, i, v, s⟩ := h
  obtain ⟨p', r', i', v', s'⟩ := h'
  refine ⟨_, _, p, r, p', r', rfl, i, i', ?_⟩
  rw [decide_eq_true (v.inj v' e)]
  exact q
theorem own_ne {K : PySem.W.Frag} {C a b : Addr} {H : Hp} {R : VK} {E : XK} {N D N' D' : Int} {k m : Nat} (h : RV C H (.ref a) N D k) (h' : RV C H (.ref b) N' D' m) (e : N * D' = N' * D) (q : R (.bl true) H) :
    ∃ dx fs, H a = some (.ins C dx fs) ∧ Snd K C H (.ref b) ∧ sp_Ratio___eq__ K C [.ref a, .ref b] H R E := by
  obtain ⟨p, r, i, v, s⟩ := id h
  obtain ⟨p', r', i', v', s'⟩ := id h'
  obtain ⟨_, dx, z, e1⟩ := id i
  cases z
  obtain ⟨_, dy, z, e2⟩ := id i'
  cases z
  exact ⟨dx, _, e1, .inl ⟨b, dy, _, rfl, e2⟩, own_eq h h' e q⟩
theorem own_eq2 {K : PySem.W.Frag} {C a b : Addr} {H : Hp} {Q : VK} {E : XK} {N D N' D' : Int} {k m : Nat} (h : RV C H (.ref a) N D k) (h' : RV C H (.ref b) N' D' m) (e : N * D' = N' * D) (q : Q (.bl true) H) :
    ∃ dx dy fs gs, H a = some (.ins C dx fs) ∧ H b = some (.ins C dy gs) ∧ sp_Ratio___eq__ K C [.ref a, .ref b] H Q E := by
  obtain ⟨p, r, i, v, s⟩ := id h
  obtain ⟨p', r', i', v', s'⟩ := id h'
  obtain ⟨_, dx, z, e1⟩ := id i
  cases z
  obtain ⟨_, dy, z, e2⟩ := id i'
  cases z
  exact ⟨dx, dy, _, _, e1, e2, own_eq h h' e q⟩
theorem ok_Ratio___eq__ (T : Txt K mg) : FnOk P w K mg base CX0 1 T.a_Ratio___eq__ T.d_Ratio___eq__ ["self", "other"] (sp_Ratio___eq__ K T.c_Ratio) := by
  refine T.F_Ratio___eq__.ok sc_Ratio___eq__ (fun vs H Q E h => ?_) (fun cdv A outer s H vs Q E hr h => ?_)
  · obtain ⟨v, w, p, q, p', q', rfl, _⟩ := h; rfl
  · obtain ⟨v, w, p, q, p', q', rfl, ⟨a, dx, rfl, ha⟩, ⟨b, dy, rfl, hb⟩, k⟩ := h
    refine ⟨_, (pss_one (ps_ret (peAnd (pe_callB call_isi (by rfl) T.b_isinstance (by decide +kernel) (pa_cons (pev 1) (pa_cons (pe_glob (v := .ref T.c_Ratio) (by rfl) T.g_Ratio rfl) pa_nil))) (peAnd (pe_cmpR (opEq (hu64 hr)) (pe_fld (pev 0) rfl) (pe_fld (pev 1) rfl) (nomark _)) (pe_one (pe_cmpR (opEq (hu64 hr)) (pe_fld (pev 0) rfl) (pe_fld (pev 1) rfl) (nomark _))))))), ?_⟩
    conv => whnf
    refine ⟨_, _, _, _, _, rfl, .own _, T.o_Ratio.ty hb, own_self, ?_⟩
    conv => whnf
    refine brT ?_
    conv => whnf
    refine ⟨a, T.c_Ratio, dx, _, _, rfl, ha, T.o_Ratio.cl, T.f_Ratio__top, rf_lt _ _, ?_⟩
    conv => whnf
    refine ⟨b, T.c_Ratio, dy, _, _, rfl, hb, T.o_Ratio.cl, T.f_Ratio__top, rf_lt _ _, ?_⟩
    conv => whnf
    refine br2 (fun h => ?_) (fun h => ?_)
    · have h1 : p = p' := V.int.inj (of_decide_eq_true h)
      conv => whnf
      refine ⟨a, T.c_Ratio, dx, _, _, rfl, ha, T.o_Ratio.cl, T.f_Ratio__bottom, rf_lb _ _, ?_⟩
      conv => whnf
      refine ⟨b, T.c_Ratio, dy, _, _, rfl, hb, T.o_Ratio.cl, T.f_Ratio__bottom, rf_lb _ _, ?_⟩
      conv => whnf
      rw [show decide (p = p' ∧ q = q') = decide (V.int q = V.int q') from decide_eq_decide.mpr ⟨fun z => by rw [z.2], fun z => ⟨h1, V.int.inj z⟩⟩] at k
      exact k
    · have h1 : ¬ p = p' := fun z => of_decide_eq_false h (by rw [z])
      rw [decide_eq_false (fun z => h1 z.1)] at k
      exact k
theorem few_of {p q : Int} {k : Nat} (s : Sm k p q) (h : k ≤ 99) : p.natAbs < 10 ^ 30 ∧ q.natAbs < 10 ^ 30 := by
  have e : 2 ^ k ≤ 10 ^ 30 := Nat.le_trans (pow_le h) (by decide)
  exact ⟨Nat.lt_of_lt_of_le s.1 e, Nat.lt_of_lt_of_le s.2 e⟩
theorem show_of {p q : Int} {k : Nat} (s : Sm k p q) (h : k ≤ 99) : p.natAbs.log2 < 1920 ∧ q.natAbs.log2 < 1920 := by
  have e : 2 ^ k ≤ 2 ^ 1900 := pow_le (by omega)
  exact ⟨num_fits (Nat.lt_of_lt_of_le s.1 e), num_fits (Nat.lt_of_lt_of_le s.2 e)⟩
/-- what the readings ask of four pairs that are shown -/
theorem four {a b c d : Int × Int} {k : Nat} (h : k ≤ 99) (ha : Sm k a.1 a.2) (hb : Sm k b.1 b.2) (hc : Sm k c.1 c.2) (hd : Sm k d.1 d.2) : (PyData.list (pds [a, b, c, d])).showable = true ∧ (PyData.list (pds [a, b, c, d])).shown.length ≤ sizeLine := by
  have all : ∀ z ∈ [a, b, c, d], Sm k z.1 z.2 := fun z hz => by
    simp only [List.mem_cons, List.not_mem_nil, or_false] at hz
    rcases hz with rfl | rfl | rfl | rfl <;> assumption
  refine ⟨pds_show fun z hz => show_of (all z hz) h, ?_⟩
  have := pds_len (k := 30) (l := [a, b, c, d]) (by decide) fun z hz => few_of (all z hz) h
  exact small_ok (Nat.le_trans this (by show 4 * 71 + 3 ≤ 1000000; decide))
theorem one_pd {p q : Int} {k : Nat} (h : k ≤ 99) (s : Sm k p q) : (pd p q).showable = true ∧ (pd p q).shown.length ≤ sizeLine :=
  ⟨pd_show (show_of s h).1 (show_of s h).2, small_ok (Nat.le_trans (pd_len (k := 30) (by decide) (few_of s h).1 (few_of s h).2) (by decide))⟩
theorem ring5 (s p q p' q' : Int) : (s * p * q') * (q * (s * p')) = (p * (s * q')) * (s * q * p') := by grind
theorem ring6 (s p q p' q' : Int) : (s * p * q' * p') * q = p * (s * q * p' * q') := by grind
def sp__law_pairs_right (K : PySem.W.Frag) (C : Addr) : Sp := fun vs H Q _ => ∃ (v w f g : V) (p q p' q' : Int), vs = [v, w, f, g] ∧ IsR C H v p q ∧ IsR C H w p' q' ∧ TupAt H f p q ∧ TupAt H g p' q' ∧ Low p q ∧ Low p' q' ∧
  (p.natAbs ≤ 2 ^ 47 ∧ q.natAbs ≤ 2 ^ 47) ∧ (p'.natAbs ≤ 2 ^ 47 ∧ q'.natAbs ≤ 2 ^ 47) ∧ ∀ H' : Hp, Gr H H' → Q (.bl true) H'
theorem ok__law_pairs_right (T : Txt K mg) : FnG P w K mg base CX0 6 T.a__law_pairs_right T.d__law_pairs_right ["_law_one", "_law_other", "_law_first", "_law_second"] (sp__law_pairs_right K T.c_Ratio) := by
  refine okG T.F__law_pairs_right sc__law_pairs_right (fun vs H Q E h => ?_) (fun cdv A outer s H vs Q E hg hr h => ?_)
  · obtain ⟨v, w, f, g, p, q, p', q', rfl, _⟩ := h; rfl
  · obtain ⟨v, w, f, g, p, q, p', q', rfl, iv, iw, jf, jg, lo, lo', ⟨b1, b2⟩, ⟨b3, b4⟩, k⟩ := h
    obtain ⟨a1, dx1, rfl, ha1⟩ := id iv
    obtain ⟨a2, dx2, rfl, ha2⟩ := id iw
    obtain ⟨t1, rfl, ht1⟩ := id jf
    obtain ⟨t2, rfl, ht2⟩ := id jg
    have q0 := lo.pos
    have q0' := lo'.pos
    have r1 : RV T.c_Ratio H (.ref a1) p q 48 := ⟨p, q, iv, .self lo, by omega, by omega⟩
    have r2 : RV T.c_Ratio H (.ref a2) p' q' 48 := ⟨p', q', iw, .self lo', by omega, by omega⟩
    refine ⟨_, PSs.nox (pss_cons (ps_set (i := 4) sc__law_pairs_right.nd rfl (by first | exact Or.inl rfl | exact Or.inr rfl) (pe_lst (pa_cons (pe_prop (pe_op (opBin rfl T.o_Ratio T.M_Ratio___add__ (ok_Ratio___add__ T) (hr.mono (by decide)) T.B_Ratio___add__ pass0) (pev 0) (pev 1)) T.o_Ratio.cl T.P_Ratio_pair (ok_Ratio_pair T) (hr.mono (by decide)) T.B_Ratio_pair .nil pass0 rfl) (pa_cons (pe_prop (pe_op (opBin rfl T.o_Ratio T.M_Ratio___sub__ (ok_Ratio___sub__ T) (hr.mono (by decide)) T.B_Ratio___sub__ pass0) (pev 0) (pev 1)) T.o_Ratio.cl T.P_Ratio_pair (ok_Ratio_pair T) (hr.mono (by decide)) T.B_Ratio_pair .nil pass0 rfl) (pa_cons (pe_prop (pe_op (opBin rfl T.o_Ratio T.M_Ratio___mul__ (ok_Ratio___mul__ T) (hr.mono (by decide)) T.B_Ratio___mul__ pass0) (pev 0) (pev 1)) T.o_Ratio.cl T.P_Ratio_pair (ok_Ratio_pair T) (hr.mono (by decide)) T.B_Ratio_pair .nil pass0 rfl) (pa_cons (pe_prop (pe_un (unOwn T.M_Ratio___neg__ (ok_Ratio___neg__ T) (hr.mono (by decide)) T.B_Ratio___neg__ pass0) (pev 0)) T.o_Ratio.cl T.P_Ratio_pair (ok_Ratio_pair T) (hr.mono (by decide)) T.B_Ratio_pair .nil pass0 rfl) pa_nil))))))
        (pss_cons (ps_set (i := 5) sc__law_pairs_right.nd rfl (by first | exact Or.inl rfl | exact Or.inr rfl) (pe_lst (pa_cons (pe_call (ok__law_sum T) (hr.mono (by decide)) (by rfl) T.g__law_sum T.F__law_sum.kp T.B__law_sum .nil pass0 (pa_cons (pe_lst (pa_cons (pev 2) (pa_cons (pev 3) pa_nil))) pa_nil)) (pa_cons (pe_call (ok__law_sum T) (hr.mono (by decide)) (by rfl) T.g__law_sum T.F__law_sum.kp T.B__law_sum .nil pass0 (pa_cons (pe_lst (pa_cons (pev 2) (pa_cons (pe_call (ok__law_minus T) (hr.mono (by decide)) (by rfl) T.g__law_minus T.F__law_minus.kp T.B__law_minus .nil pass0 (pa_cons (pev 3) pa_nil)) pa_nil))) pa_nil)) (pa_cons (pe_call (ok__law_product T) (hr.mono (by decide)) (by rfl) T.g__law_product T.F__law_product.kp T.B__law_product .nil pass0 (pa_cons (pev 2) (pa_cons (pev 3) pa_nil))) pa_nil)))))
        (pss_cons (psIf (pt_cmpR (opNe (hu64 hr)) (pe_callB (caReprB hg (hu70 hr)) (by rfl) T.b_repr (by decide +kernel) (pa_cons (pev 4) pa_nil)) (pe_callB (caReprB hg (hu70 hr)) (by rfl) T.b_repr (by decide +kernel) (pa_cons (pe_op opAdd (pev 5) (pe_lst (pa_cons (pe_call (ok__law_minus T) (hr.mono (by decide)) (by rfl) T.g__law_minus T.F__law_minus.kp T.B__law_minus .nil pass0 (pa_cons (pev 2) pa_nil)) pa_nil))) pa_nil)) (nomark _)) (pss_one (ps_ret pe_bl)) pss_nil)
        (pss_cons (psIf (pt_cmpR (opEq (hu64 hr)) (pe_ix ixU (pev 3) pe_int (fun _ _ => rfl)) pe_int (nomark _)) (pss_one (ps_ret pe_bl)) pss_nil)
        (pss_cons (ps_set (i := 6) sc__law_pairs_right.nd rfl (by first | exact Or.inl rfl | exact Or.inr rfl) (peIf (pt_cmpR opGt (pe_ix ixU (pev 3) pe_int (fun _ _ => rfl)) pe_int (nomark _)) pe_int (pe_un unNeg pe_int)))
        (pss_cons (ps_set (i := 7) sc__law_pairs_right.nd rfl (by first | exact Or.inl rfl | exact Or.inr rfl) (pe_tup (pa_cons (pe_op opMulT (pev 6) (pe_ix ixU (pev 3) pe_int (fun _ _ => rfl))) (pa_cons (pe_op opMulT (pev 6) (pe_ix ixU (pev 3) pe_int (fun _ _ => rfl))) pa_nil))))
        (pss_one (ps_ret (peAnd (pe_cmpR (opEq (hu64 hr)) (pe_callB (caReprB hg (hu70 hr)) (by rfl) T.b_repr (by decide +kernel) (pa_cons (pe_prop (pe_meth (pev 0) T.o_Ratio.cl T.M_Ratio_over (ok_Ratio_over T) (hr.mono (by decide)) T.B_Ratio_over .nil pass0 (pa_cons (pev 1) pa_nil)) T.o_Ratio.cl T.P_Ratio_pair (ok_Ratio_pair T) (hr.mono (by decide)) T.B_Ratio_pair .nil pass0 rfl) pa_nil)) (pe_callB (caReprB hg (hu70 hr)) (by rfl) T.b_repr (by decide +kernel) (pa_cons (pe_call (ok__law_product T) (hr.mono (by decide)) (by rfl) T.g__law_product T.F__law_product.kp T.B__law_product .nil pass0 (pa_cons (pev 2) (pa_cons (pev 7) pa_nil))) pa_nil)) (nomark _)) (pe_one (pe_cmpR (opCmp rfl rfl T.M_Ratio___eq__ (ok_Ratio___eq__ T) (hr.mono (by decide)) T.B_Ratio___eq__ pass0) (pe_op (opBin rfl T.o_Ratio T.M_Ratio___mul__ (ok_Ratio___mul__ T) (hr.mono (by decide)) T.B_Ratio___mul__ pass0) (pe_meth (pev 0) T.o_Ratio.cl T.M_Ratio_over (ok_Ratio_over T) (hr.mono (by decide)) T.B_Ratio_over .nil pass0 (pa_cons (pev 1) pa_nil)) (pev 1)) (pev 0) (nomark _)))))))))))), ?_⟩
    conv => whnf
    refine own_add r1 r2 (by decide) (by decide) fun x1 H1 g1 s1 => ?_
    conv => whnf
    refine own_pair s1 fun n1 m1 u1 H2 g2 nn1 e1 v1 z1 => ?_
    have G2 := g1.trans g2
    conv => whnf
    refine own_sub (r1.up G2) (r2.up G2) (by decide) (by decide) fun x2 H3 g3 s2 => ?_
    conv => whnf
    refine own_pair s2 fun n2 m2 u2 H4 g4 nn2 e2 v2 z2 => ?_
    have G4 := (G2.trans g3).trans g4
    conv => whnf
    refine own_mul (r1.up G4) (r2.up G4) (by decide) (by decide) fun x3 H5 g5 s3 => ?_
    conv => whnf
    refine own_pair s3 fun n3 m3 u3 H6 g6 nn3 e3 v3 z3 => ?_
    have G6 := (G4.trans g5).trans g6
    conv => whnf
    refine own_neg (r1.up G6) (by decide) fun x4 H7 g7 s4 => ?_
    conv => whnf
    refine own_pair s4 fun n4 m4 u4 H8 g8 nn4 e4 v4 z4 => ?_
    have G8 := (G6.trans g7).trans g8
    conv => whnf
    refine ⟨small_ok (by simp), fun tl htl => ?_⟩
    have g9 : Gr H8 (upd H8 tl (.lst [.ref u1, .ref u2, .ref u3, .ref u4])) := Gr.rfl'.up htl
    have e9 : (upd H8 tl (.lst [.ref u1, .ref u2, .ref u3, .ref u4])) tl = some (.lst [.ref u1, .ref u2, .ref u3, .ref u4]) := upd_same
    generalize upd H8 tl (.lst [.ref u1, .ref u2, .ref u3, .ref u4]) = H9 at g9 e9 ⊢
    have G9 := G8.trans g9
    conv => whnf
    refine ⟨small_ok (by simp), fun l1 hl1 => ?_⟩
    have g10 : Gr H9 (upd H9 l1 (.lst [.ref t1, .ref t2])) := Gr.rfl'.up hl1
    have e10 : (upd H9 l1 (.lst [.ref t1, .ref t2])) l1 = some (.lst [.ref t1, .ref t2]) := upd_same
    generalize upd H9 l1 (.lst [.ref t1, .ref t2]) = H10 at g10 e10 ⊢
    have G10 := G9.trans g10
    conv => whnf
    have k1 : TupAt H (.ref t1) p q ∧ 0 < q ∧ q.natAbs ≤ 2 ^ 47 ∧ p.natAbs ≤ 2 ^ 47 := ⟨jf, q0, b2, b1⟩
    have k2 : TupAt H (.ref t2) p' q' ∧ 0 < q' ∧ q'.natAbs ≤ 2 ^ 47 ∧ p'.natAbs ≤ 2 ^ 47 := ⟨jg, q0', b4, b3⟩
    have DD : 0 < q * q' := Int.mul_pos q0 q0'
    refine ⟨l1, [.ref t1, .ref t2], [(p, q), (p', q')], rfl, SqL.of e10, by simp, rfl, idx_of (.cons ⟨k1.1.up G10, k1.2⟩ (.cons ⟨k2.1.up G10, k2.2⟩ .nil)), fun w1 H11 g11 nw1 f1 => ?_⟩
    have w1v : Val ((sumF [(p, q), (p', q')]).1 / gcdI (sumF [(p, q), (p', q')]).1 (sumF [(p, q), (p', q')]).2) ((sumF [(p, q), (p', q')]).2 / gcdI (sumF [(p, q), (p', q')]).1 (sumF [(p, q), (p', q')]).2) (sumF [(p, q), (p', q')]).1 (sumF [(p, q), (p', q')]).2 := Val.of (by show 0 < 1 * q * q'; rw [Int.one_mul]; exact DD)
    obtain ⟨en, em⟩ := v1.inj w1v (by show (p * q' + p' * q) * (1 * q * q') = ((0 * q + p * 1) * q' + p' * (1 * q)) * (q * q'); grind)
    rw [← en, ← em] at f1
    clear w1v en em
    have G11 := G10.trans g11
    conv => whnf
    refine ⟨_, p', q', rfl, k2.1.up G11, fun mi H12 g12 nmi fmi => ?_⟩
    have G12 := G11.trans g12
    conv => whnf
    refine ⟨small_ok (by simp), fun l2 hl2 => ?_⟩
    have g13 : Gr H12 (upd H12 l2 (.lst [.ref t1, .ref mi])) := Gr.rfl'.up hl2
    have e13 : (upd H12 l2 (.lst [.ref t1, .ref mi])) l2 = some (.lst [.ref t1, .ref mi]) := upd_same
    generalize upd H12 l2 (.lst [.ref t1, .ref mi]) = H13 at g13 e13 ⊢
    have G13 := G12.trans g13
    conv => whnf
    have k3 : TupAt H13 (.ref mi) (0 - p') q' ∧ 0 < q' ∧ q'.natAbs ≤ 2 ^ 47 ∧ (0 - p').natAbs ≤ 2 ^ 47 := ⟨⟨mi, rfl, g13 _ _ fmi⟩, q0', b4, by omega⟩
    refine ⟨l2, [.ref t1, .ref mi], [(p, q), (0 - p', q')], rfl, SqL.of e13, by simp, rfl, idx_of (.cons ⟨k1.1.up G13, k1.2⟩ (.cons k3 .nil)), fun w2 H14 g14 nw2 f2 => ?_⟩
    have w2v : Val ((sumF [(p, q), (0 - p', q')]).1 / gcdI (sumF [(p, q), (0 - p', q')]).1 (sumF [(p, q), (0 - p', q')]).2) ((sumF [(p, q), (0 - p', q')]).2 / gcdI (sumF [(p, q), (0 - p', q')]).1 (sumF [(p, q), (0 - p', q')]).2) (sumF [(p, q), (0 - p', q')]).1 (sumF [(p, q), (0 - p', q')]).2 := Val.of (by show 0 < 1 * q * q'; rw [Int.one_mul]; exact DD)
    obtain ⟨en, em⟩ := v2.inj w2v (by show (p * q' - p' * q) * (1 * q * q') = ((0 * q + p * 1) * q' + (0 - p') * (1 * q)) * (q * q'); grind)
    rw [← en, ← em] at f2
    clear w2v en em
    have G14 := G13.trans g14
    conv => whnf
    refine ⟨_, _, p, q, p', q', rfl, k1.1.up G14, k2.1.up G14, q0, q0', b2, b4, b1, b3, fun w3 H15 g15 nw3 f3 => ?_⟩
    obtain ⟨en, em⟩ := v3.inj (Val.of DD) rfl
    rw [← en, ← em] at f3
    clear en em
    have G15 := G14.trans g15
    conv => whnf
    refine ⟨small_ok (by simp), fun dl hdl => ?_⟩
    have g16 : Gr H15 (upd H15 dl (.lst [.ref w1, .ref w2, .ref w3])) := Gr.rfl'.up hdl
    have e16 : (upd H15 dl (.lst [.ref w1, .ref w2, .ref w3])) dl = some (.lst [.ref w1, .ref w2, .ref w3]) := upd_same
    generalize upd H15 dl (.lst [.ref w1, .ref w2, .ref w3]) = H16 at g16 e16 ⊢
    have G16 := G15.trans g16
    have z1' := z1.up (show 48 + 48 + 1 ≤ 99 by decide)
    have z2' := z2.up (show 48 + 48 + 1 ≤ 99 by decide)
    have z3' := z3.up (show 48 + 48 + 1 ≤ 99 by decide)
    have z4' := z4.up (show 48 ≤ 99 by decide)
    obtain ⟨sh, shl⟩ := four (a := (n1, m1)) (b := (n2, m2)) (c := (n3, m3)) (d := (n4, m4)) (Nat.le_refl 99) z1' z2' z3' z4'
    conv => whnf
    have told : Dp K H16 (.ref tl) (.list (pds [(n1, m1), (n2, m2), (n3, m3), (n4, m4)])) := by
      have s15 := g16
      have s14 := g15.trans s15
      have s13 := g14.trans s14
      have s12 := g13.trans s13
      have s11 := g12.trans s12
      have s10 := g11.trans s11
      have s9 := g10.trans s10
      have s8 := g9.trans s9
      have s7 := g8.trans s8
      have s6 := g7.trans s7
      have s5 := g6.trans s6
      have s4' := g5.trans s5
      have s3' := g4.trans s4'
      have s2' := g3.trans s3'
      exact .lst (SqL.of (s9 _ _ e9)) (.cons (e1.up s2').dp (.cons (e2.up s4').dp (.cons (e3.up s6).dp (.cons (e4.up s8).dp .nil))))
    refine ⟨_, told, sh, shaped_pds _, shl, ?_⟩
    conv => whnf
    refine ⟨_, p, q, rfl, k1.1.up G16, fun mj H17 g17 nmj fmj => ?_⟩
    have G17 := G16.trans g17
    conv => whnf
    refine ⟨small_ok (by simp), fun l3 hl3 => ?_⟩
    have g18 : Gr H17 (upd H17 l3 (.lst [.ref mj])) := Gr.rfl'.up hl3
    have e18 : (upd H17 l3 (.lst [.ref mj])) l3 = some (.lst [.ref mj]) := upd_same
    generalize upd H17 l3 (.lst [.ref mj]) = H18 at g18 e18 ⊢
    have G18 := G17.trans g18
    conv => whnf
    refine .inl ⟨dl, l3, _, _, rfl, rfl, g18 _ _ (g17 _ _ e16), e18, small_ok (by simp), fun cl hcl => ?_⟩
    have g19 : Gr H18 (upd H18 cl (.lst ([.ref w1, .ref w2, .ref w3] ++ [.ref mj]))) := Gr.rfl'.up hcl
    have e19 : (upd H18 cl (.lst ([.ref w1, .ref w2, .ref w3] ++ [.ref mj]))) cl = some (.lst [.ref w1, .ref w2, .ref w3, .ref mj]) := upd_same
    generalize upd H18 cl (.lst ([.ref w1, .ref w2, .ref w3] ++ [.ref mj])) = H19 at g19 e19 ⊢
    have G19 := G18.trans g19
    obtain ⟨en, em⟩ := v4.inj (Val.self (p := -p) (q := q) ⟨q0, by rw [Int.natAbs_neg]; exact lo.one⟩) rfl
    have due : Dp K H19 (.ref cl) (.list (pds [(n1, m1), (n2, m2), (n3, m3), (n4, m4)])) := by
      have s18 := g19
      have s17 := g18.trans s18
      have s16 := g17.trans s17
      have s15 := g16.trans s16
      have s14 := g15.trans s15
      have s13 := g14.trans s14
      have s12 := g13.trans s13
      have s11 := g12.trans s12
      have f4 : TupAt H17 (.ref mj) n4 m4 := ⟨mj, rfl, by rw [en, em, fmj, Int.zero_sub]⟩
      exact .lst (SqL.of e19) (.cons (TupAt.dp ⟨w1, rfl, s11 _ _ f1⟩) (.cons (TupAt.dp ⟨w2, rfl, s14 _ _ f2⟩) (.cons (TupAt.dp ⟨w3, rfl, s15 _ _ f3⟩) (.cons (f4.up s17).dp .nil))))
    clear en em told
    conv => whnf
    refine ⟨_, due, sh, shaped_pds _, shl, ?_⟩
    clear due
    conv => whnf
    refine ⟨_, rfl, ?_⟩
    refine brN (by simp) ?_
    conv => whnf
    refine ⟨_, _, .inr (SqT.of (G19 _ _ ht2)), rfl, ?_⟩
    conv => whnf
    refine ⟨_, rfl, ?_⟩
    refine brD (fun h0 => ?_) (fun h0 => ?_)
    · conv => whnf
      exact k _ G19
    · have pn : p' ≠ 0 := fun z => h0 (by rw [z])
      conv => whnf
      refine ⟨_, _, .inr (SqT.of (G19 _ _ ht2)), rfl, ?_⟩
      conv => whnf
      refine ⟨_, rfl, ?_⟩
      refine brD (fun h => ?_) (fun h => ?_)
      · have hs : (1 : Int) = 1 ∨ (1 : Int) = -1 := .inl rfl
        have hp0 : 0 < (1 : Int) * p' := by omega
        conv => whnf
        have bq : (q').natAbs < 2 ^ 48 := by omega
        have bp : (p').natAbs < 2 ^ 48 := by omega
        have R1 := r1.up G19
        have R2 := r2.up G19
        have hq0 : 0 < q * (1 * p') := Int.mul_pos q0 hp0
        refine ⟨_, _, .inr (SqT.of (G19 _ _ ht2)), rfl, ?_⟩
        conv => whnf
        refine ⟨mulW 2 48 (by decide) bq, ?_⟩
        conv => whnf
        refine ⟨_, _, .inr (SqT.of (G19 _ _ ht2)), rfl, ?_⟩
        conv => whnf
        refine ⟨mulW 2 48 (by decide) bp, ?_⟩
        conv => whnf
        refine ⟨small_ok (by simp), fun tt htt => ?_⟩
        conv => whnf
        have G20 := G19.trans (Gr.rfl'.up (o := .tup [.int (1 * q'), .int (1 * p')]) htt)
        refine ⟨a1, dx1, _, rfl, G20 _ _ ha1, rf_no _ _ (by decide +kernel) (by decide +kernel), ?_⟩
        conv => whnf
        refine ⟨_, _, p, q, p', q', 1, 48, 48, rfl, r1.up G20, r2.up G20, by decide, by decide, hs, hp0, fun x5 H21 g21 s5 => ?_⟩
        have f20 := g21 _ _ (upd_same (H := H19) (a := tt) (o := .tup [.int (1 * q'), .int (1 * p')]))
        have G21 := G20.trans g21
        conv => whnf
        refine own_pair s5 fun n5 m5 u5 H22 g22 nn5 e5 v5 z5 => ?_
        have G22 := G21.trans g22
        have z5' := z5.up (show 48 + 48 + 1 ≤ 99 by decide)
        obtain ⟨s5h, s5l⟩ := one_pd (Nat.le_refl 99) z5'
        conv => whnf
        refine ⟨_, e5.dp, s5h, shaped_pd _ _, s5l, ?_⟩
        conv => whnf
        refine ⟨_, _, p, q, 1 * q', 1 * p', rfl, k1.1.up G22, ⟨tt, rfl, g22 _ _ f20⟩, q0, hp0, b2, by omega, b1, by omega, fun w5 H23 g23 nw5 f5 => ?_⟩
        obtain ⟨en, em⟩ := v5.inj (Val.of hq0) (ring5 _ p q p' q')
        rw [← en, ← em] at f5
        have G23 := G22.trans g23
        conv => whnf
        refine ⟨_, TupAt.dp ⟨w5, rfl, f5⟩, s5h, shaped_pd _ _, s5l, ?_⟩
        conv => whnf
        refine brY (by simp) ?_
        conv => whnf
        refine ⟨a1, dx1, _, rfl, G23 _ _ ha1, rf_no _ _ (by decide +kernel) (by decide +kernel), ?_⟩
        conv => whnf
        refine ⟨_, _, p, q, p', q', 1, 48, 48, rfl, r1.up G23, r2.up G23, by decide, by decide, hs, hp0, fun x6 H24 g24 s6 => ?_⟩
        have G24 := G23.trans g24
        conv => whnf
        refine own_mul s6 (r2.up G24) (by decide) (by decide) fun x7 H25 g25 s7 => ?_
        have G25 := G24.trans g25
        conv => whnf
        refine own_eq2 s7 (r1.up G25) (ring6 _ p q p' q') ?_
        conv => whnf
        exact k _ G25
      · have hs : (-1 : Int) = 1 ∨ (-1 : Int) = -1 := .inr rfl
        have hp0 : 0 < (-1 : Int) * p' := by omega
        conv => whnf
        conv => whnf
        have bq : (q').natAbs < 2 ^ 48 := by omega
        have bp : (p').natAbs < 2 ^ 48 := by omega
        have R1 := r1.up G19
        have R2 := r2.up G19
        have hq0 : 0 < q * (-1 * p') := Int.mul_pos q0 hp0
        refine ⟨_, _, .inr (SqT.of (G19 _ _ ht2)), rfl, ?_⟩
        conv => whnf
        refine ⟨mulW 2 48 (by decide) bq, ?_⟩
        conv => whnf
        refine ⟨_, _, .inr (SqT.of (G19 _ _ ht2)), rfl, ?_⟩
        conv => whnf
        refine ⟨mulW 2 48 (by decide) bp, ?_⟩
        conv => whnf
        refine ⟨small_ok (by simp), fun tt htt => ?_⟩
        conv => whnf
        have G20 := G19.trans (Gr.rfl'.up (o := .tup [.int (-1 * q'), .int (-1 * p')]) htt)
        refine ⟨a1, dx1, _, rfl, G20 _ _ ha1, rf_no _ _ (by decide +kernel) (by decide +kernel), ?_⟩
        conv => whnf
        refine ⟨_, _, p, q, p', q', -1, 48, 48, rfl, r1.up G20, r2.up G20, by decide, by decide, hs, hp0, fun x5 H21 g21 s5 => ?_⟩
        have f20 := g21 _ _ (upd_same (H := H19) (a := tt) (o := .tup [.int (-1 * q'), .int (-1 * p')]))
        have G21 := G20.trans g21
        conv => whnf
        refine own_pair s5 fun n5 m5 u5 H22 g22 nn5 e5 v5 z5 => ?_
        have G22 := G21.trans g22
        have z5' := z5.up (show 48 + 48 + 1 ≤ 99 by decide)
        obtain ⟨s5h, s5l⟩ := one_pd (Nat.le_refl 99) z5'
        conv => whnf
        refine ⟨_, e5.dp, s5h, shaped_pd _ _, s5l, ?_⟩
        conv => whnf
        refine ⟨_, _, p, q, -1 * q', -1 * p', rfl, k1.1.up G22, ⟨tt, rfl, g22 _ _ f20⟩, q0, hp0, b2, by omega, b1, by omega, fun w5 H23 g23 nw5 f5 => ?_⟩
        obtain ⟨en, em⟩ := v5.inj (Val.of hq0) (ring5 _ p q p' q')
        rw [← en, ← em] at f5
        have G23 := G22.trans g23
        conv => whnf
        refine ⟨_, TupAt.dp ⟨w5, rfl, f5⟩, s5h, shaped_pd _ _, s5l, ?_⟩
        conv => whnf
        refine brY (by simp) ?_
        conv => whnf
        refine ⟨a1, dx1, _, rfl, G23 _ _ ha1, rf_no _ _ (by decide +kernel) (by decide +kernel), ?_⟩
        conv => whnf
        refine ⟨_, _, p, q, p', q', -1, 48, 48, rfl, r1.up G23, r2.up G23, by decide, by decide, hs, hp0, fun x6 H24 g24 s6 => ?_⟩
        have G24 := G23.trans g24
        conv => whnf
        refine own_mul s6 (r2.up G24) (by decide) (by decide) fun x7 H25 g25 s7 => ?_
        have G25 := G24.trans g25
        conv => whnf
        refine own_eq2 s7 (r1.up G25) (ring6 _ p q p' q') ?_
        conv => whnf
        exact k _ G25
theorem erase_perm : ∀ {l : List V} {k : Nat} {y : V}, l[k]? = some y → (y :: l.eraseIdx k).Perm l
  | [], k, y, h => by simp at h
  | a :: r, 0, y, h => by
    obtain rfl := Option.some.inj (show some a = some y from h)
    exact List.Perm.refl _
  | a :: r, k + 1, y, h => by
    have ih := erase_perm (l := r) (k := k) (y := y) h
    show (y :: a :: r.eraseIdx k).Perm (a :: r)
    exact (List.Perm.swap a y _).trans (ih.cons a)
def sp__law_mixed (K : PySem.W.Frag) : Sp := fun vs H Q _ => ∃ (d : Addr) (n : Nat) (o : HO) (p : Addr) (L : List V), vs = [.ref d, .ref p] ∧ H d = some o ∧ Dice n o ∧ n ≤ 900000 ∧ p ≠ d ∧ SqL K H p L ∧ L.length ≤ 10 ∧
  ∀ (H' : Hp) (r : Addr) (o' : HO) (L' : List V), (∀ b u, H b = some u → b ≠ d → H' b = some u) → H' d = some o' → Dice (n + 10) o' → r ≠ d → H' r = some (.lst L') → L'.Perm L → Q (.ref r) H'
theorem ok__law_mixed (T : Txt K mg) : FnOk P w K mg base CX0 2 T.a__law_mixed T.d__law_mixed ["_law_dice_here", "_law_items"] (sp__law_mixed K) := by
  refine T.F__law_mixed.ok sc__law_mixed (fun vs H Q E h => ?_) (fun cdv A outer s H vs Q E hr h => ?_)
  · obtain ⟨d, n, o, p, L, rfl, _⟩ := h; rfl
  · obtain ⟨d, n, o, p, L, rfl, hd, D0, hn, pd, hp, hl, k⟩ := h
    refine ⟨_, (pss_cons (ps_par (i := 2) (j := 3) (by rfl) sc__law_mixed.nd rfl rfl (by decide) rfl rfl (pa_cons (pe_callTy call_list_of (by rfl) T.b_list (by decide +kernel) (pa_cons (pev 1) pa_nil)) (pa_cons (pe_lst pa_nil) pa_nil)) (by rfl))
        (pss_cons (ps_for PassesOwn.never rfl (pi_range1 (by rfl) T.b_range (pa_cons (pe_callB caLen (by rfl) T.b_len (by decide +kernel) (pa_cons (pev 1) pa_nil)) pa_nil)) (pg_name (i := 4) sc__law_mixed.nd rfl (by first | exact Or.inl rfl | exact Or.inr rfl))
        (pss_one (ps_expr (pe_bm PySem.F.plainAttrs_list PySem.F.slot_list_append PySem.F.type_list_append mt_append (pev 3) (pa_cons (pe_bm PySem.F.plainAttrs_list PySem.F.slot_list_pop PySem.F.type_list_pop mt_popAt (pev 2) (pa_cons (pe_call (ok__law_roll T) (hr.mono (by decide)) (by rfl) T.g__law_roll T.F__law_roll.kp T.B__law_roll .nil pass0 (pa_cons (pev 0) (pa_cons (pe_callB caLen (by rfl) T.b_len (by decide +kernel) (pa_cons (pev 2) pa_nil)) pa_nil))) pa_nil)) pa_nil)))))
        (pss_one (ps_ret (pev 3))))), ?_⟩
    have L0 := At.start1 hd
    conv => whnf
    refine ⟨p, L, rfl, .inl hp, fun a ha => ?_⟩
    have L1 := L0.newM (o := .lst L) (one_dead hd) ha
    conv => whnf
    refine ⟨small_ok (by simp), fun f hf => ?_⟩
    have L2' := L1.newM (o := .lst []) (fun e he => by
      obtain rfl := List.mem_singleton.mp he
      exact ⟨o, L1.getM (.tail _ (.head _))⟩) hf
    have kp : ∀ {F M Hx}, At H [d] F M Hx → SqL K Hx p L := fun M => sqlKeep (At.keep1 M) pd hp
    conv => whnf
    refine ⟨_, _, rfl, ?_⟩
    conv => whnf
    refine ⟨L, .inl (kp L2'), ?_⟩
    conv => whnf
    refine ⟨_, rfl, by omega, by omega, for_range (lo := 0) (n := L.length) (fun i σ H' => (∃ v, σ = [some (.ref d), some (.ref p), some (.ref a), some (.ref f), v]) ∧ ∃ o' xs ys, Dice (n + i) o' ∧ (xs ++ ys).Perm L ∧ xs.length = i ∧ At H [d] [] [(f, .lst xs), (a, .lst ys), (d, o')] H')
      ⟨⟨none, rfl⟩, o, [], L, D0, List.Perm.refl _, rfl, L2'⟩ ?_ ?_⟩
    · rintro i σ H1 hi ⟨⟨v, rfl⟩, o1, xs, ys, D1, pm, lx, M1⟩
      have hly : ys.length = L.length - i := by
        have := pm.length_eq
        rw [List.length_append] at this
        omega
      conv => whnf
      refine ⟨.inl ⟨rfl, _, SqL.of (M1.getM (.head _))⟩, ?_⟩
      conv => whnf
      refine ⟨.inl ⟨rfl, _, SqL.of (M1.getM (.tail _ (.head _)))⟩, ?_⟩
      conv => whnf
      refine ⟨ys, .inl (SqL.of (M1.getM (.tail _ (.head _)))), ?_⟩
      conv => whnf
      refine ⟨d, _, _, o1, rfl, M1.getM (.tail _ (.tail _ (.head _))), D1, by omega, by omega, Int.lt_of_le_of_lt (show ((ys.length : Nat) : Int) ≤ 10 by omega) (by decide), fun H2 r o2 f2 g2 D2 r0 r1 => ?_⟩
      have M2 := ((M1.perm rot3).set f2 g2).perm (rot3.symm)
      obtain ⟨kk, rfl⟩ := Int.eq_ofNat_of_zero_le r0
      have hk : kk < ys.length := by omega
      have hy : ys[kk]? = some ys[kk] := List.getElem?_eq_getElem hk
      conv => whnf
      refine ⟨a, ys, kk, kk, ys[kk], rfl, rfl, M2.getM (.tail _ (.head _)), by omega, by omega, PySem.seqIndex_of r0 r1, hy, ?_⟩
      have M3 := (M2.swap.upd (u := .lst (ys.eraseIdx kk))).swap
      conv => whnf
      refine ⟨f, xs, ys[kk], rfl, rfl, M3.getM (.head _), small_lt (by omega), ?_⟩
      have M4 := M3.upd (u := .lst (xs ++ [ys[kk]]))
      exact ⟨⟨_, rfl⟩, o2, xs ++ [ys[kk]], ys.eraseIdx kk, D2, by
        rw [List.append_assoc]
        exact ((erase_perm hy).append_left xs).trans pm, by rw [List.length_append, lx]; rfl, M4⟩
    · rintro σ H1 ⟨⟨v, rfl⟩, o1, xs, ys, D1, pm, lx, M1⟩
      have hly : ys = [] := by
        have := pm.length_eq
        rw [List.length_append] at this
        exact List.eq_nil_of_length_eq_zero (by omega)
      subst hly
      rw [List.append_nil] at pm
      conv => whnf
      exact k H1 f o1 xs (At.keep1 M1) (M1.getM (.tail _ (.tail _ (.head _)))) (D1.up (by omega)) (fun z => by subst z; rw [L1.getM (.tail _ (.head _))] at hf; cases hf) (M1.getM (.head _)) pm
def sp__is_ratios (K : PySem.W.Frag) (C : Addr) : Sp := fun vs H Q _ => ∃ (a : Addr) (xs : List V), vs = [.ref a] ∧ H a = some (.tup xs) ∧ xs.length ≤ 1000000 ∧ (∀ x ∈ xs, ∃ p q, IsR C H x p q) ∧ ∀ H' : Hp, Gr H H' → Q (.bl true) H'
theorem all_true (n : Nat) : (List.replicate n true).all id = true := by
  rw [List.all_eq_true]
  intro b hb
  rw [List.eq_of_mem_replicate hb]
  rfl
theorem ok__is_ratios (T : Txt K mg) : FnOk P w K mg base CX0 1 T.a__is_ratios T.d__is_ratios ["value"] (sp__is_ratios K T.c_Ratio) := by
  refine T.F__is_ratios.ok sc__is_ratios (fun vs H Q E h => ?_) (fun cdv A outer s H vs Q E hr h => ?_)
  · obtain ⟨a, xs, rfl, _⟩ := h; rfl
  · obtain ⟨a, xs, rfl, ha, hl, hx, k⟩ := h
    refine ⟨_, (pss_one (ps_ret (peAnd (pe_callB call_isi (by rfl) T.b_isinstance (by decide +kernel) (pa_cons (pev 0) (pa_cons (pe_bltn (v := .ty "tuple") (by rfl) T.b_tuple (by decide +kernel) rfl) pa_nil))) (pe_one (pe_callB (caAll rfl) (by rfl) T.b_all (by decide +kernel) (pa_cons (pe_lc (own := [("one", 1)]) (g := gName 1) (tt := tYes) (te := (tCB (rIsi K) (tCons (uV 1) (tCons (tC (.ref T.c_Ratio)) tNil)))) rfl sc__is_ratios.nd (pi_tup (pev 0)) (blkOk_by (own := [("one", 1)]) (N := ["value", "one"]) (sc := defScope s__is_ratios) (by decide +kernel)) (fun _ _ _ _ _ => pg_name (i := 1) sc__is_ratios.nd rfl (by first | exact Or.inl rfl | exact Or.inr rfl)) (fun _ _ _ _ _ => pts_nil) (fun _ _ _ _ _ => (pe_callB call_isi (by rfl) T.b_isinstance (by decide +kernel) (pa_cons (pev 1) (pa_cons (pe_glob (v := .ref T.c_Ratio) (by rfl) T.g_Ratio rfl) pa_nil))))) pa_nil)))))), ?_⟩
    have ka : Kd K H (.ref a) "tuple" := Kd.tup ha
    conv => whnf
    refine ⟨_, _, _, _, _, rfl, .ty _, ka.1, kit_ty (kd_tuple ka.2), ?_⟩
    conv => whnf
    refine brT ?_
    conv => whnf
    refine ⟨a, rfl, ⟨_, SqT.of ha⟩, fun D hD => ?_⟩
    refine lc_tup (xs := xs) (fun i Hm => Gr H Hm ∧ Hm D = some (.lst ((List.replicate i true).map V.bl))) ⟨Gr.rfl'.up hD, upd_same⟩ (fun _ _ _ L => SqT.of (L.1 _ _ ha)) ?_ ?_
    · rintro j x Hm hx' ⟨g, e⟩
      have hj := (List.getElem?_eq_some_iff.mp hx').1
      obtain ⟨p, q, b, dx, rfl, hb⟩ := hx x (List.mem_of_getElem? hx')
      conv => whnf
      refine ⟨rfl, ?_⟩
      conv => whnf
      refine ⟨_, _, _, _, _, rfl, .own _, T.o_Ratio.ty (g _ _ hb), own_self, ?_⟩
      refine ⟨_, e, small_lt (by rw [List.length_map, List.length_replicate]; omega), ?_⟩
      have nd : ∀ b u, H b = some u → b ≠ D := fun b u eb z => by rw [z, hD] at eb; cases eb
      refine ⟨fun b u eb => by rw [upd_ne (nd b u eb)]; exact g b u eb, ?_⟩
      rw [upd_same, List.replicate_succ', List.map_append]
      rfl
    · rintro Hm ⟨g, e⟩
      conv => whnf
      refine ⟨D, _, rfl, SqL.of e, ?_⟩
      rw [all_true]
      exact k _ g
def sp_sum_of (K : PySem.W.Frag) (C : Addr) : Sp := fun vs H Q _ => ∃ (a : Addr) (xs : List V) (ls : List (Int × Int)), vs = [.ref a] ∧ H a = some (.tup xs) ∧ xs.length ≤ 10 ∧ xs.length = ls.length ∧ (∀ (i : Nat) (x : V) (z : Int × Int), xs[i]? = some x → ls[i]? = some z → RV C H x z.1 z.2 50) ∧
  ∀ (x : Addr) (H' : Hp), Gr H H' → RV C H' (.ref x) (sumF ls).1 (sumF ls).2 600 → Q (.ref x) H'
theorem ok_sum_of (T : Txt K mg) : FnOk P w K mg base CX0 6 T.a_sum_of T.d_sum_of ["ratios"] (sp_sum_of K T.c_Ratio) := by
  refine T.F_sum_of.ok sc_sum_of (fun vs H Q E h => ?_) (fun cdv A outer s H vs Q E hr h => ?_)
  · obtain ⟨a, xs, ls, rfl, _⟩ := h; rfl
  · obtain ⟨a, xs, ls, rfl, ha, hl, hls, hx, k⟩ := h
    refine ⟨_, (pss_cons (psIf (pt_not (ptV (pe_call (ok__is_ratios T) (hr.mono (by decide)) (by rfl) T.g__is_ratios T.F__is_ratios.kp T.B__is_ratios .nil pass0 (pa_cons (pev 0) pa_nil)))) (pss_one ps_never) pss_nil)
        (pss_cons (ps_set (i := 1) sc_sum_of.nd rfl (by first | exact Or.inl rfl | exact Or.inr rfl) (pe_make T.K_Ratio (ok_Ratio___init__ T) (hr.mono (by decide)) (by rfl) T.g_Ratio T.B_Ratio___init__ .nil pass0 (pa_cons pe_int (pa_cons pe_int pa_nil))))
        (pss_cons (ps_for PassesOwn.never rfl (pi_tup (pev 0)) (pg_name (i := 2) sc_sum_of.nd rfl (by first | exact Or.inl rfl | exact Or.inr rfl))
        (pss_one (ps_set (i := 1) sc_sum_of.nd rfl (by first | exact Or.inl rfl | exact Or.inr rfl) (pe_op (opBin rfl T.o_Ratio T.M_Ratio___add__ (ok_Ratio___add__ T) (hr.mono (by decide)) T.B_Ratio___add__ pass0) (pev 1) (pev 2)))))
        (pss_one (ps_ret (pev 1)))))), ?_⟩
    conv => whnf
    refine ⟨a, xs, rfl, ha, by omega, fun x h => ?_, fun H1 g1 => ?_⟩
    · obtain ⟨i, hi, e⟩ := List.getElem_of_mem h
      obtain ⟨p, q, z, _⟩ := hx i x (ls[i]'(by omega)) (by rw [List.getElem?_eq_getElem hi, e]) (List.getElem?_eq_getElem _)
      exact ⟨p, q, z⟩
    conv => whnf
    refine brF ?_
    conv => whnf
    intro x0 y0 hx0 hy0 ne0
    refine make_R hx0 hy0 ne0 (by decide) (by decide) fun H2 g2 i2 => ?_
    have r2 : RV T.c_Ratio H2 (.ref x0) 0 1 1 := ⟨_, _, i2, by
      show Val ((0 : Int) / gcdI 0 1) (1 / gcdI 0 1) 0 1
      exact Val.of (by decide), by show Sm 1 ((0 : Int) / gcdI 0 1) (1 / gcdI 0 1); exact Sm.low (by decide) ⟨by decide, by decide⟩⟩
    conv => whnf
    have g12 := g1.trans g2
    refine ⟨a, rfl, ⟨_, SqT.of (g12 _ _ ha)⟩, for_tup (xs := xs) (fun i σ H' => (∃ b w, σ = [some (.ref a), some (.ref b), w] ∧ RV T.c_Ratio H' (.ref b) (sumF (ls.take i)).1 (sumF (ls.take i)).2 (1 + 51 * i)) ∧ Gr H H')
      ⟨⟨x0, none, rfl, r2⟩, g12⟩ (fun i σ H' _ ⟨_, g⟩ => SqT.of (g _ _ ha)) ?_ ?_⟩
    · rintro i x σ H' hi ⟨⟨b, w, rfl, rb⟩, g⟩
      have hi' : i < xs.length := (List.getElem?_eq_some_iff.mp hi).1
      have hz : ls[i]? = some (ls[i]'(by omega)) := List.getElem?_eq_getElem _
      have rx := (hx i x _ hi hz).up g
      obtain ⟨_, _, ⟨c, _, rfl, _⟩, _⟩ := id rx
      conv => whnf
      refine own_add rb rx (by omega) (by omega) fun y H3 g3 r3 => ?_
      conv => whnf
      refine ⟨⟨y, _, rfl, ?_⟩, g.trans g3⟩
      rw [sumF_take hz]
      have e : 1 + 51 * i + 50 + 1 = 1 + 51 * (i + 1) := by omega
      rw [← e]
      exact r3
    · rintro σ H' ⟨⟨b, w, rfl, rb⟩, g⟩
      conv => whnf
      refine k b _ g ?_
      rw [show xs.length = ls.length from hls, List.take_length] at rb
      obtain ⟨p, q, i, v, s⟩ := rb
      exact ⟨p, q, i, v, s.up (by omega)⟩
theorem ra1 (p q r s : Int) : (p * s + r * q) * (s * q) = (r * q + p * s) * (q * s) := by grind
theorem ra2 (p q r s t u : Int) : ((p * s + r * q) * u + t * (q * s)) * (q * (s * u)) = (p * (s * u) + (r * u + t * s) * q) * (q * s * u) := by grind
theorem ra3 (p q r s : Int) : (p * r) * (s * q) = (r * p) * (q * s) := by grind
theorem ra4 (p q r s t u : Int) : (p * r * t) * (q * (s * u)) = (p * (r * t)) * (q * s * u) := by grind
theorem ra5 (p q r s t u : Int) : (p * (r * u + t * s)) * (q * s * (q * u)) = (p * r * (q * u) + p * t * (q * s)) * (q * (s * u)) := by grind
theorem ra6 (p q r s : Int) : ((p * s + r * q) * s - r * (q * s)) * q = p * (q * s * s) := by grind
theorem ra7 (p q : Int) : (p * q - p * q) * 1 = 0 * (q * q) := by grind
theorem ra8 (p q : Int) : (- -p) * q = p * q := by grind
/-- drawn fractions: tuples in lowest terms, not too great -/
def Fr1 (H : Hp) (v : V) : Prop := ∃ p q, TupAt H v p q ∧ Low p q ∧ p.natAbs ≤ 2 ^ 47 ∧ q.natAbs ≤ 2 ^ 47
def A1 (H : Hp) (xs : List V) : Prop := ∀ v ∈ xs, Fr1 H v
def Fr2 (C : Addr) (H : Hp) (v y : V) : Prop := ∃ p q, TupAt H v p q ∧ IsR C H y p q ∧ Low p q ∧ p.natAbs ≤ 2 ^ 47 ∧ q.natAbs ≤ 2 ^ 47
def A2 (C : Addr) (H : Hp) (xs ys : List V) : Prop := ∀ (i : Nat) (v y : V), xs[i]? = some v → ys[i]? = some y → Fr2 C H v y
section
variable {C d : Addr} {H H' : Hp} {xs ys : List V} {l : List V} {v y : V}
theorem A1.keep (a : A1 H xs) (s : ∀ b u, H b = some u → b ≠ d → H' b = some u) (hd : H d = some (.lst l)) : A1 H' xs := fun v h => let ⟨p, q, t, z⟩ := a v h; ⟨p, q, t.keep s hd, z⟩
theorem A1.up (a : A1 H xs) (g : Gr H H') : A1 H' xs := fun v h => let ⟨p, q, t, z⟩ := a v h; ⟨p, q, t.up g, z⟩
theorem Fr2.keep (a : Fr2 C H v y) (s : ∀ b u, H b = some u → b ≠ d → H' b = some u) (hd : H d = some (.lst l)) : Fr2 C H' v y := let ⟨p, q, t, r, z⟩ := a; ⟨p, q, t.keep s hd, r.keep s hd, z⟩
theorem A2.keep (a : A2 C H xs ys) (s : ∀ b u, H b = some u → b ≠ d → H' b = some u) (hd : H d = some (.lst l)) : A2 C H' xs ys := fun i v y h1 h2 => (a i v y h1 h2).keep s hd
theorem A2.up (a : A2 C H xs ys) (g : Gr H H') : A2 C H' xs ys := fun i v y h1 h2 => let ⟨p, q, t, r, z⟩ := a i v y h1 h2; ⟨p, q, t.up g, r.up g, z⟩
theorem Fr2.rv (a : Fr2 C H v y) : ∃ p q, TupAt H v p q ∧ IsR C H y p q ∧ RV C H y p q 48 ∧ Low p q ∧ p.natAbs ≤ 2 ^ 47 ∧ q.natAbs ≤ 2 ^ 47 := let ⟨p, q, t, r, lo, b1, b2⟩ := a; ⟨p, q, t, r, ⟨p, q, r, .self lo, by omega, by omega⟩, lo, b1, b2⟩
end
theorem len3 {α : Type} {xs : List α} (h : xs.length = 3) : ∃ a b c, xs = [a, b, c] := by
  match xs, h with
  | [a, b, c], _ => exact ⟨a, b, c, rfl⟩
/-- values go with a change of order -/
theorem perm_vals {α β : Type} {P : α → β → Prop} {L L' : List α} (h : L'.Perm L) : ∀ {l : List β}, PySem.Paired P L l → ∃ l', PySem.Paired P L' l' ∧ l'.Perm l := by
  induction h with
  | nil => intro l hl; exact ⟨l, hl, List.Perm.refl _⟩
  | cons x _ ih =>
    intro l hl
    cases hl with
    | cons a r =>
      obtain ⟨l', h1, h2⟩ := ih r
      exact ⟨_, .cons a h1, h2.cons _⟩
  | swap x y r =>
    intro l hl
    cases hl with
    | cons a r =>
      cases r with
      | cons b r => exact ⟨_, .cons b (.cons a r), List.Perm.swap ..⟩
  | trans _ _ ih1 ih2 =>
    intro l hl
    obtain ⟨l1, h1, h2⟩ := ih2 hl
    obtain ⟨l2, h3, h4⟩ := ih1 h1
    exact ⟨l2, h3, h4.trans h2⟩
theorem sumF_perm {l l' : List (Int × Int)} (h : l'.Perm l) : sumF l' = sumF l := by
  refine h.foldl_eq' (fun x _ y _ z => ?_) _
  show ((z.1 * x.2 + x.1 * z.2) * y.2 + y.1 * (z.2 * x.2), z.2 * x.2 * y.2) = ((z.1 * y.2 + y.1 * z.2) * x.2 + x.1 * (z.2 * y.2), z.2 * y.2 * x.2)
  refine Prod.ext ?_ ?_
  · show (z.1 * x.2 + x.1 * z.2) * y.2 + y.1 * (z.2 * x.2) = (z.1 * y.2 + y.1 * z.2) * x.2 + x.1 * (z.2 * y.2)
    grind
  · show z.2 * x.2 * y.2 = z.2 * y.2 * x.2
    grind
def sp__law_right (K : PySem.W.Frag) (C : Addr) : Sp := fun vs H Q _ => ∃ (d : Addr) (n : Nat) (o : HO), vs = [.ref d] ∧ H d = some o ∧ Dice n o ∧ n ≤ 500000 ∧
  ∀ (H' : Hp) (o' : HO), (∀ b u, H b = some u → b ≠ d → H' b = some u) → H' d = some o' → Dice (n + 50) o' → Q (.bl true) H'
theorem ok__law_right (T : Txt K mg) : FnG P w K mg base CX0 7 T.a__law_right T.d__law_right ["_law_dice_here"] (sp__law_right K T.c_Ratio) := by
  refine okG T.F__law_right sc__law_right (fun vs H Q E h => ?_) (fun cdv A outer s H vs Q E hg hr h => ?_)
  · obtain ⟨d, n, o, rfl, _⟩ := h; rfl
  · obtain ⟨d, n, o, rfl, hd, D0, hn, k⟩ := h
    refine ⟨_, PSs.nox (pss_cons (ps_setLc (i := 1) (own := [("_law_turn", 6)]) (g := gName 6) (tt := tYes) (te := (tCall (sp__law_drawn K) [] E0 (tCons (uV 0) tNil))) rfl sc__law_right.nd rfl rfl (sw_true rfl rfl rfl (by decide +kernel)) (pi_range1 (by rfl) T.b_range (pa_cons pe_int pa_nil)) (blkOk_by (own := [("_law_turn", 6)]) (N := ["_law_dice_here", "_law_pairs", "_law_a", "_law_b", "_law_c", "_law_some", "_law_turn", "_law_pair"]) (sc := defScope s__law_right) (by decide +kernel)) (fun _ _ _ _ _ => pg_name (i := 6) sc__law_right.nd rfl (by first | exact Or.inl rfl | exact Or.inr rfl)) (fun _ _ _ _ _ => pts_nil) (fun _ _ _ _ _ => (pe_call (ok__law_drawn T) (hr.mono (by decide)) (by rfl) T.g__law_drawn T.F__law_drawn.kp T.B__law_drawn .nil pass0 (pa_cons (pev 0) pa_nil))))
        (pss_cons (ps_asg (pe_lc (own := [("_law_pair", 7)]) (g := gName 7) (tt := tYes) (te := (tMake T.c_Ratio (sp_Ratio___init__ K T.c_Ratio) [] E0 (tCons (tOp (uIx K) (uV 7) (tC (.int 0))) (tCons (tOp (uIx K) (uV 7) (tC (.int 1))) tNil)))) rfl sc__law_right.nd (pi_list (pev 1)) (blkOk_by (own := [("_law_pair", 7)]) (N := ["_law_dice_here", "_law_pairs", "_law_a", "_law_b", "_law_c", "_law_some", "_law_turn", "_law_pair"]) (sc := defScope s__law_right) (by decide +kernel)) (fun _ _ _ _ _ => pg_name (i := 7) sc__law_right.nd rfl (by first | exact Or.inl rfl | exact Or.inr rfl)) (fun _ _ _ _ _ => pts_nil) (fun _ _ _ _ _ => (pe_make T.K_Ratio (ok_Ratio___init__ T) (hr.mono (by decide)) (by rfl) T.g_Ratio T.B_Ratio___init__ .nil pass0 (pa_cons (pe_ix ixU (pev 7) pe_int (fun _ _ => rfl)) (pa_cons (pe_ix ixU (pev 7) pe_int (fun _ _ => rfl)) pa_nil))))) (pg_unl rfl (pgs_cons (pg_name (i := 2) sc__law_right.nd rfl (by first | exact Or.inl rfl | exact Or.inr rfl)) (pgs_cons (pg_name (i := 3) sc__law_right.nd rfl (by first | exact Or.inl rfl | exact Or.inr rfl)) (pgs_cons (pg_name (i := 4) sc__law_right.nd rfl (by first | exact Or.inl rfl | exact Or.inr rfl)) pgs_nil)))))
        (pss_cons (psIf (PW.pt (pwOr (pt_not (ptV (peG (ok__law_pairs_right T) hg (hr.mono (by decide)) (by rfl) T.g__law_pairs_right T.F__law_pairs_right.kp T.B__law_pairs_right .nil pass0 (pa_cons (pev 2) (pa_cons (pev 3) (pa_cons (pe_ix ixU (pev 1) pe_int (fun _ _ => rfl)) (pa_cons (pe_ix ixU (pev 1) pe_int (fun _ _ => rfl)) pa_nil))))))) (pw_or1 (pt_not (ptV (peG (ok__law_pairs_right T) hg (hr.mono (by decide)) (by rfl) T.g__law_pairs_right T.F__law_pairs_right.kp T.B__law_pairs_right .nil pass0 (pa_cons (pev 4) (pa_cons (pev 2) (pa_cons (pe_ix ixU (pev 1) pe_int (fun _ _ => rfl)) (pa_cons (pe_ix ixU (pev 1) pe_int (fun _ _ => rfl)) pa_nil)))))))))) (pss_one (ps_ret pe_bl)) pss_nil)
        (pss_cons (psIf (PW.pt (pwOr (pt_cmpR (opNeX T.o_Ratio T.n_Ratio T.M_Ratio___eq__ (ok_Ratio___eq__ T) (hr.mono (by decide)) T.B_Ratio___eq__ pass0) (pe_op (opBin rfl T.o_Ratio T.M_Ratio___add__ (ok_Ratio___add__ T) (hr.mono (by decide)) T.B_Ratio___add__ pass0) (pev 2) (pev 3)) (pe_op (opBin rfl T.o_Ratio T.M_Ratio___add__ (ok_Ratio___add__ T) (hr.mono (by decide)) T.B_Ratio___add__ pass0) (pev 3) (pev 2)) (nomark _)) (pwOr (pt_cmpR (opNeX T.o_Ratio T.n_Ratio T.M_Ratio___eq__ (ok_Ratio___eq__ T) (hr.mono (by decide)) T.B_Ratio___eq__ pass0) (pe_op (opBin rfl T.o_Ratio T.M_Ratio___add__ (ok_Ratio___add__ T) (hr.mono (by decide)) T.B_Ratio___add__ pass0) (pe_op (opBin rfl T.o_Ratio T.M_Ratio___add__ (ok_Ratio___add__ T) (hr.mono (by decide)) T.B_Ratio___add__ pass0) (pev 2) (pev 3)) (pev 4)) (pe_op (opBin rfl T.o_Ratio T.M_Ratio___add__ (ok_Ratio___add__ T) (hr.mono (by decide)) T.B_Ratio___add__ pass0) (pev 2) (pe_op (opBin rfl T.o_Ratio T.M_Ratio___add__ (ok_Ratio___add__ T) (hr.mono (by decide)) T.B_Ratio___add__ pass0) (pev 3) (pev 4))) (nomark _)) (pwOr (pt_cmpR (opNeX T.o_Ratio T.n_Ratio T.M_Ratio___eq__ (ok_Ratio___eq__ T) (hr.mono (by decide)) T.B_Ratio___eq__ pass0) (pe_op (opBin rfl T.o_Ratio T.M_Ratio___mul__ (ok_Ratio___mul__ T) (hr.mono (by decide)) T.B_Ratio___mul__ pass0) (pev 2) (pev 3)) (pe_op (opBin rfl T.o_Ratio T.M_Ratio___mul__ (ok_Ratio___mul__ T) (hr.mono (by decide)) T.B_Ratio___mul__ pass0) (pev 3) (pev 2)) (nomark _)) (pw_or1 (pt_cmpR (opNeX T.o_Ratio T.n_Ratio T.M_Ratio___eq__ (ok_Ratio___eq__ T) (hr.mono (by decide)) T.B_Ratio___eq__ pass0) (pe_op (opBin rfl T.o_Ratio T.M_Ratio___mul__ (ok_Ratio___mul__ T) (hr.mono (by decide)) T.B_Ratio___mul__ pass0) (pe_op (opBin rfl T.o_Ratio T.M_Ratio___mul__ (ok_Ratio___mul__ T) (hr.mono (by decide)) T.B_Ratio___mul__ pass0) (pev 2) (pev 3)) (pev 4)) (pe_op (opBin rfl T.o_Ratio T.M_Ratio___mul__ (ok_Ratio___mul__ T) (hr.mono (by decide)) T.B_Ratio___mul__ pass0) (pev 2) (pe_op (opBin rfl T.o_Ratio T.M_Ratio___mul__ (ok_Ratio___mul__ T) (hr.mono (by decide)) T.B_Ratio___mul__ pass0) (pev 3) (pev 4))) (nomark _))))))) (pss_one (ps_ret pe_bl)) pss_nil)
        (pss_cons (psIf (PW.pt (pwOr (pt_cmpR (opNeX T.o_Ratio T.n_Ratio T.M_Ratio___eq__ (ok_Ratio___eq__ T) (hr.mono (by decide)) T.B_Ratio___eq__ pass0) (pe_op (opBin rfl T.o_Ratio T.M_Ratio___mul__ (ok_Ratio___mul__ T) (hr.mono (by decide)) T.B_Ratio___mul__ pass0) (pev 2) (pe_op (opBin rfl T.o_Ratio T.M_Ratio___add__ (ok_Ratio___add__ T) (hr.mono (by decide)) T.B_Ratio___add__ pass0) (pev 3) (pev 4))) (pe_op (opBin rfl T.o_Ratio T.M_Ratio___add__ (ok_Ratio___add__ T) (hr.mono (by decide)) T.B_Ratio___add__ pass0) (pe_op (opBin rfl T.o_Ratio T.M_Ratio___mul__ (ok_Ratio___mul__ T) (hr.mono (by decide)) T.B_Ratio___mul__ pass0) (pev 2) (pev 3)) (pe_op (opBin rfl T.o_Ratio T.M_Ratio___mul__ (ok_Ratio___mul__ T) (hr.mono (by decide)) T.B_Ratio___mul__ pass0) (pev 2) (pev 4))) (nomark _)) (pwOr (pt_cmpR (opNeX T.o_Ratio T.n_Ratio T.M_Ratio___eq__ (ok_Ratio___eq__ T) (hr.mono (by decide)) T.B_Ratio___eq__ pass0) (pe_op (opBin rfl T.o_Ratio T.M_Ratio___sub__ (ok_Ratio___sub__ T) (hr.mono (by decide)) T.B_Ratio___sub__ pass0) (pe_op (opBin rfl T.o_Ratio T.M_Ratio___add__ (ok_Ratio___add__ T) (hr.mono (by decide)) T.B_Ratio___add__ pass0) (pev 2) (pev 3)) (pev 3)) (pev 2) (nomark _)) (pwOr (pt_cmpR (opNeX T.o_Ratio T.n_Ratio T.M_Ratio___eq__ (ok_Ratio___eq__ T) (hr.mono (by decide)) T.B_Ratio___eq__ pass0) (pe_op (opBin rfl T.o_Ratio T.M_Ratio___sub__ (ok_Ratio___sub__ T) (hr.mono (by decide)) T.B_Ratio___sub__ pass0) (pev 2) (pev 2)) (pe_make T.K_Ratio (ok_Ratio___init__ T) (hr.mono (by decide)) (by rfl) T.g_Ratio T.B_Ratio___init__ .nil pass0 (pa_cons pe_int (pa_cons pe_int pa_nil))) (nomark _)) (pw_or1 (pt_cmpR (opNeX T.o_Ratio T.n_Ratio T.M_Ratio___eq__ (ok_Ratio___eq__ T) (hr.mono (by decide)) T.B_Ratio___eq__ pass0) (pe_un (unOwn T.M_Ratio___neg__ (ok_Ratio___neg__ T) (hr.mono (by decide)) T.B_Ratio___neg__ pass0) (pe_un (unOwn T.M_Ratio___neg__ (ok_Ratio___neg__ T) (hr.mono (by decide)) T.B_Ratio___neg__ pass0) (pev 2))) (pev 2) (nomark _))))))) (pss_one (ps_ret pe_bl)) pss_nil)
        (pss_cons (ps_setLc (i := 5) (own := [("_law_pair", 7)]) (g := gName 7) (tt := tYes) (te := (tMake T.c_Ratio (sp_Ratio___init__ K T.c_Ratio) [] E0 (tCons (tOp (uIx K) (uV 7) (tC (.int 0))) (tCons (tOp (uIx K) (uV 7) (tC (.int 1))) tNil)))) rfl sc__law_right.nd rfl rfl (sw_true rfl rfl rfl (by decide +kernel)) (pi_list (pe_call (ok__law_mixed T) (hr.mono (by decide)) (by rfl) T.g__law_mixed T.F__law_mixed.kp T.B__law_mixed .nil pass0 (pa_cons (pev 0) (pa_cons (pe_op opAdd (pev 1) (pe_slice sl_list (pev 1) po_none (po_some pe_int))) pa_nil)))) (blkOk_by (own := [("_law_pair", 7)]) (N := ["_law_dice_here", "_law_pairs", "_law_a", "_law_b", "_law_c", "_law_some", "_law_turn", "_law_pair"]) (sc := defScope s__law_right) (by decide +kernel)) (fun _ _ _ _ _ => pg_name (i := 7) sc__law_right.nd rfl (by first | exact Or.inl rfl | exact Or.inr rfl)) (fun _ _ _ _ _ => pts_nil) (fun _ _ _ _ _ => (pe_make T.K_Ratio (ok_Ratio___init__ T) (hr.mono (by decide)) (by rfl) T.g_Ratio T.B_Ratio___init__ .nil pass0 (pa_cons (pe_ix ixU (pev 7) pe_int (fun _ _ => rfl)) (pa_cons (pe_ix ixU (pev 7) pe_int (fun _ _ => rfl)) pa_nil)))))
        (pss_cons (psIf (PW.pt (pwOr (pt_cmpR (opNe (hu64 hr)) (pe_prop (pe_call (ok_sum_of T) (hr.mono (by decide)) (by rfl) T.g_sum_of T.F_sum_of.kp T.B_sum_of .nil pass0 (pa_cons (pe_callTy call_tuple_of (by rfl) T.b_tuple (by decide +kernel) (pa_cons (pev 5) pa_nil)) pa_nil)) T.o_Ratio.cl T.P_Ratio_pair (ok_Ratio_pair T) (hr.mono (by decide)) T.B_Ratio_pair .nil pass0 rfl) (pe_call (ok__law_sum T) (hr.mono (by decide)) (by rfl) T.g__law_sum T.F__law_sum.kp T.B__law_sum .nil pass0 (pa_cons (pe_op opAdd (pev 1) (pe_slice sl_list (pev 1) po_none (po_some pe_int))) pa_nil)) (nomark _)) (pw_or1 (pt_cmpR (opNe (hu64 hr)) (pe_prop (pe_call (ok_sum_of T) (hr.mono (by decide)) (by rfl) T.g_sum_of T.F_sum_of.kp T.B_sum_of .nil pass0 (pa_cons (pe_tup pa_nil) pa_nil)) T.o_Ratio.cl T.P_Ratio_pair (ok_Ratio_pair T) (hr.mono (by decide)) T.B_Ratio_pair .nil pass0 rfl) (pe_tup (pa_cons pe_int (pa_cons pe_int pa_nil))) (nomark _))))) (pss_one (ps_ret pe_bl)) pss_nil)
        (pss_one (ps_ret (pe_cmpR (opEq (hu64 hr)) (pe_lst (pa_cons (pe_prop (pev 2) T.o_Ratio.cl T.P_Ratio_pair (ok_Ratio_pair T) (hr.mono (by decide)) T.B_Ratio_pair .nil pass0 rfl) (pa_cons (pe_prop (pev 3) T.o_Ratio.cl T.P_Ratio_pair (ok_Ratio_pair T) (hr.mono (by decide)) T.B_Ratio_pair .nil pass0 rfl) (pa_cons (pe_prop (pev 4) T.o_Ratio.cl T.P_Ratio_pair (ok_Ratio_pair T) (hr.mono (by decide)) T.B_Ratio_pair .nil pass0 rfl) pa_nil)))) (pev 1) (nomark _))))))))))), ?_⟩
    conv => whnf
    refine ⟨_, rfl, by decide, by decide, fun D hD => ?_⟩
    have nDd : D ≠ d := fun z => by rw [z, hd] at hD; cases hD
    refine lc_range (lo := 0) (n := 3) (fun i Hm => (∀ b u, H b = some u → b ≠ d → Hm b = some u) ∧ (∃ o, Hm d = some o ∧ Dice (n + 5 * i) o) ∧ ∃ xs, Hm D = some (.lst xs) ∧ xs.length = i ∧ A1 Hm xs) ⟨fun b u e _ => by rw [upd_ne (ne_of_none e hD)]; exact e, ⟨o, by rw [upd_ne nDd.symm]; exact hd, D0⟩, [], upd_same, rfl, fun v h => absurd h List.not_mem_nil⟩ ?_ ?_
    · rintro i Hm hi ⟨s1, ⟨o1, h1, D1⟩, xs, hx, lx, a1⟩
      conv => whnf
      refine ⟨rfl, ?_⟩
      conv => whnf
      refine ⟨d, _, o1, rfl, h1, D1, by omega, fun H2 x o2 p q f2 g2 D2 n2 e2 lo b1 b2 => ?_⟩
      have q0 := lo.pos
      conv => whnf
      obtain ⟨_, _, _, rfl, _⟩ := id D1
      have hx2 := f2 _ _ hx nDd
      have nxD : x ≠ D := fun z => by rw [z, hx] at n2; cases n2
      have cg : ∀ b u, H2 b = some u → b ≠ D → (upd H2 D (.lst (xs ++ [.ref x]))) b = some u := fun b u e z => by rw [upd_ne z]; exact e
      refine ⟨xs, hx2, small_lt (by omega), fun b u e z => ?_, ⟨o2, by rw [upd_ne nDd.symm]; exact g2, D2.up (by omega)⟩, xs ++ [.ref x], upd_same, by simp [lx], ?_⟩
      · rw [upd_ne (ne_of_none e hD)]
        exact f2 b u (s1 b u e z) z
      · intro v hv
        rcases List.mem_append.mp hv with hv | hv
        · exact (a1.keep f2 h1).keep cg hx2 v hv
        · obtain rfl := List.mem_singleton.mp hv
          exact ⟨p, q, ⟨x, rfl, cg _ _ e2 nxD⟩, lo, b1, by omega⟩
    rintro Hm ⟨s1, ⟨o1, h1, D1⟩, xs, hx, lx, a1⟩
    conv => whnf
    refine ⟨D, rfl, ⟨_, SqL.of hx⟩, fun S hS => ?_⟩
    have nSD : D ≠ S := fun z => by rw [z, hS] at hx; cases hx
    have nSd : S ≠ d := fun z => by rw [z, h1] at hS; cases hS
    refine lc_list (xs := xs) (fun i Hk => Gr Hm Hk ∧ ∃ ys, Hk S = some (.lst ys) ∧ ys.length = i ∧ A2 T.c_Ratio Hk xs ys) ⟨Gr.rfl'.up hS, [], upd_same, rfl, fun i v y _ h => by simp at h⟩ (fun _ _ _ L => SqL.of (L.1 _ _ hx)) ?_ ?_
    · rintro i x Hk hxi ⟨g3, ys, e3, l3, a3⟩
      have hi : i < 3 := by have := (List.getElem?_eq_some_iff.mp hxi).1; omega
      obtain ⟨p, q, t, lo, b1, b2⟩ := a1 x (List.mem_of_getElem? hxi)
      have q0 := lo.pos
      obtain ⟨ax, rfl, ex⟩ := t.up g3
      conv => whnf
      refine ⟨rfl, ?_⟩
      conv => whnf
      refine ⟨_, _, .inr (SqT.of ex), rfl, ?_⟩
      conv => whnf
      refine ⟨_, _, .inr (SqT.of ex), rfl, ?_⟩
      conv => whnf
      intro y0 dy0 hy0 hd0 ne0
      refine make_R (K := K) (C := T.c_Ratio) (p := p) (q := q) hy0 hd0 ne0 (by omega) ⟨q0, by omega⟩ fun Hl g4 i4 => ?_
      generalize V.ref y0 = y at i4 ⊢
      rw [lo.same.1, lo.same.2] at i4
      have e4 := g4 _ _ e3
      refine ⟨ys, e4, small_lt (by omega), fun b u e => ?_, ys ++ [y], upd_same, by simp [l3], ?_⟩
      · have nb : b ≠ S := fun z => by rw [z, hS] at e; cases e
        rw [upd_ne nb]
        exact g4 _ _ (g3 _ _ e)
      · have cg : ∀ b u, Hl b = some u → b ≠ S → (upd Hl S (.lst (ys ++ [y]))) b = some u := fun b u e z => by rw [upd_ne z]; exact e
        intro j v w hv hw
        by_cases hj : j < ys.length
        · rw [List.getElem?_append_left hj] at hw
          exact ((a3.up g4).keep cg e4) j v w hv hw
        · have ej : j = i := by
            have := (List.getElem?_eq_some_iff.mp hw).1
            rw [List.length_append, List.length_singleton] at this
            omega
          subst ej
          rw [List.getElem?_append_right (by omega), show j - ys.length = 0 by omega] at hw
          obtain rfl := Option.some.inj (show some y = some w from hw)
          obtain rfl := Option.some.inj (hxi.symm.trans hv)
          exact ⟨p, q, (TupAt.up ⟨ax, rfl, ex⟩ g4).keep cg e4, i4.keep cg e4, lo, b1, b2⟩
    rintro Hk ⟨g3, ys, e3, l3, a3⟩
    obtain ⟨x0, x1, x2, rfl⟩ := len3 lx
    obtain ⟨y0, y1, y2, rfl⟩ := len3 (xs := ys) l3
    have s0 : ∀ b u, H b = some u → b ≠ d → Hk b = some u := fun b u e z => g3 _ _ (s1 b u e z)
    have ho := g3 _ _ h1
    have hx := g3 _ _ hx
    obtain ⟨p, q, tx0, ia, ra, lo0, b0, c0⟩ := (a3 0 x0 y0 rfl rfl).rv
    obtain ⟨r, s', tx1, ib, rb, lo1, b1, c1⟩ := (a3 1 x1 y1 rfl rfl).rv
    obtain ⟨t, u, tx2, ic, rc, lo2, b2, c2⟩ := (a3 2 x2 y2 rfl rfl).rv
    obtain ⟨a, dxa, rfl, ha⟩ := id ia
    obtain ⟨b, dxb, rfl, hb⟩ := id ib
    obtain ⟨c, dxc, rfl, hc⟩ := id ic
    clear a1 s1 h1 g3 hS hD a3
    conv => whnf
    --CHAIN
    refine ⟨S, _, rfl, SqL.of e3, rfl, ?_⟩
    conv => whnf
    refine ⟨_, _, rfl, ?_⟩
    conv => whnf
    refine ⟨_, _, rfl, ?_⟩
    conv => whnf
    refine ⟨_, _, rfl, ?_⟩
    conv => whnf
    refine ⟨rfl, ?_⟩
    conv => whnf
    refine ⟨_, _, .inl (SqL.of hx), rfl, ?_⟩
    conv => whnf
    refine ⟨_, _, .inl (SqL.of hx), rfl, ?_⟩
    conv => whnf
    refine ⟨_, _, _, _, p, q, r, s', rfl, ia, ib, tx0, tx1, lo0, lo1, ⟨b0, c0⟩, ⟨b1, c1⟩, fun J1 j1 => ?_⟩
    conv => whnf
    refine brF ?_
    conv => whnf
    refine ⟨_, _, .inl (SqL.of (j1 _ _ hx)), rfl, ?_⟩
    conv => whnf
    refine ⟨_, _, .inl (SqL.of (j1 _ _ hx)), rfl, ?_⟩
    conv => whnf
    refine ⟨_, _, _, _, t, u, p, q, rfl, ic.up j1, ia.up j1, tx2.up j1, tx0.up j1, lo2, lo0, ⟨b2, c2⟩, ⟨b0, c0⟩, fun I0 j2 => ?_⟩
    have G0 : Gr Hk I0 := j1.trans j2
    conv => whnf
    refine brF ?_
    conv => whnf
    refine own_add (ra.up G0) (rb.up G0) (by decide) (by decide) fun xx1 I1 g1 s1 => ?_
    have G1 := G0.trans g1
    conv => whnf
    refine own_add (rb.up G1) (ra.up G1) (by decide) (by decide) fun xx2 I2 g2 s2 => ?_
    have G2 := G1.trans g2
    conv => whnf
    refine own_ne (s1.up (g2)) s2 (ra1 _ _ _ _) ?_
    refine ⟨true, rfl, ?_⟩
    conv => whnf
    refine ⟨_, rfl, ?_⟩
    refine brF ?_
    conv => whnf
    refine own_add (ra.up G2) (rb.up G2) (by decide) (by decide) fun xx3 I3 g3 s3 => ?_
    have G3 := G2.trans g3
    conv => whnf
    refine own_add s3 (rc.up G3) (by decide) (by decide) fun xx4 I4 g4 s4 => ?_
    have G4 := G3.trans g4
    conv => whnf
    refine own_add (rb.up G4) (rc.up G4) (by decide) (by decide) fun xx5 I5 g5 s5 => ?_
    have G5 := G4.trans g5
    conv => whnf
    refine own_add (ra.up G5) s5 (by decide) (by decide) fun xx6 I6 g6 s6 => ?_
    have G6 := G5.trans g6
    conv => whnf
    refine own_ne (s4.up (g5.trans (g6))) s6 (ra2 _ _ _ _ _ _) ?_
    refine ⟨true, rfl, ?_⟩
    conv => whnf
    refine ⟨_, rfl, ?_⟩
    refine brF ?_
    conv => whnf
    refine own_mul (ra.up G6) (rb.up G6) (by decide) (by decide) fun xx7 I7 g7 s7 => ?_
    have G7 := G6.trans g7
    conv => whnf
    refine own_mul (rb.up G7) (ra.up G7) (by decide) (by decide) fun xx8 I8 g8 s8 => ?_
    have G8 := G7.trans g8
    conv => whnf
    refine own_ne (s7.up (g8)) s8 (ra3 _ _ _ _) ?_
    refine ⟨true, rfl, ?_⟩
    conv => whnf
    refine ⟨_, rfl, ?_⟩
    refine brF ?_
    conv => whnf
    refine own_mul (ra.up G8) (rb.up G8) (by decide) (by decide) fun xx9 I9 g9 s9 => ?_
    have G9 := G8.trans g9
    conv => whnf
    refine own_mul s9 (rc.up G9) (by decide) (by decide) fun xx10 I10 g10 s10 => ?_
    have G10 := G9.trans g10
    conv => whnf
    refine own_mul (rb.up G10) (rc.up G10) (by decide) (by decide) fun xx11 I11 g11 s11 => ?_
    have G11 := G10.trans g11
    conv => whnf
    refine own_mul (ra.up G11) s11 (by decide) (by decide) fun xx12 I12 g12 s12 => ?_
    have G12 := G11.trans g12
    conv => whnf
    refine own_ne (s10.up (g11.trans (g12))) s12 (ra4 _ _ _ _ _ _) ?_
    refine ⟨true, rfl, ?_⟩
    conv => whnf
    refine ⟨_, rfl, ?_⟩
    refine brF ?_
    conv => whnf
    refine own_add (rb.up G12) (rc.up G12) (by decide) (by decide) fun xx13 I13 g13 s13 => ?_
    have G13 := G12.trans g13
    conv => whnf
    refine own_mul (ra.up G13) s13 (by decide) (by decide) fun xx14 I14 g14 s14 => ?_
    have G14 := G13.trans g14
    conv => whnf
    refine own_mul (ra.up G14) (rb.up G14) (by decide) (by decide) fun xx15 I15 g15 s15 => ?_
    have G15 := G14.trans g15
    conv => whnf
    refine own_mul (ra.up G15) (rc.up G15) (by decide) (by decide) fun xx16 I16 g16 s16 => ?_
    have G16 := G15.trans g16
    conv => whnf
    refine own_add (s15.up (g16)) s16 (by decide) (by decide) fun xx17 I17 g17 s17 => ?_
    have G17 := G16.trans g17
    conv => whnf
    refine own_ne (s14.up (g15.trans (g16.trans (g17)))) s17 (ra5 _ _ _ _ _ _) ?_
    refine ⟨true, rfl, ?_⟩
    conv => whnf
    refine ⟨_, rfl, ?_⟩
    refine brF ?_
    conv => whnf
    refine own_add (ra.up G17) (rb.up G17) (by decide) (by decide) fun xx18 I18 g18 s18 => ?_
    have G18 := G17.trans g18
    conv => whnf
    refine own_sub s18 (rb.up G18) (by decide) (by decide) fun xx19 I19 g19 s19 => ?_
    have G19 := G18.trans g19
    conv => whnf
    refine own_ne s19 (ra.up G19) (ra6 _ _ _ _) ?_
    refine ⟨true, rfl, ?_⟩
    conv => whnf
    refine ⟨_, rfl, ?_⟩
    refine brF ?_
    conv => whnf
    refine own_sub (ra.up G19) (ra.up G19) (by decide) (by decide) fun xx20 I20 g20 s20 => ?_
    have G20 := G19.trans g20
    conv => whnf
    intro z21 w21 hz21 hw21 ne21
    refine make_R hz21 hw21 ne21 (by decide) (by decide) fun I21 g21 i21 => ?_
    have s21 : RV T.c_Ratio I21 (.ref z21) 0 1 1 := ⟨_, _, i21, Val.of (by decide), Sm.low (by decide) ⟨by decide, by decide⟩⟩
    have G21 := G20.trans g21
    conv => whnf
    refine own_ne (s20.up (g21)) s21 (ra7 _ _) ?_
    refine ⟨true, rfl, ?_⟩
    conv => whnf
    refine ⟨_, rfl, ?_⟩
    refine brF ?_
    conv => whnf
    refine own_neg (ra.up G21) (by decide) fun xx22 I22 g22 s22 => ?_
    have G22 := G21.trans g22
    conv => whnf
    refine own_neg s22 (by decide) fun xx23 I23 g23 s23 => ?_
    have G23 := G22.trans g23
    conv => whnf
    refine own_ne s23 (ra.up G23) (ra8 _ _) ?_
    refine ⟨true, rfl, ?_⟩
    conv => whnf
    refine ⟨_, rfl, ?_⟩
    refine brF ?_
    conv => whnf
    have GZ := G23
    have NN : True := trivial
    clear s1 s2 s3 s4 s5 s6 s7 s8 s9 s10 s11 s12 s13 s14 s15 s16 s17 s18 s19 s20 s21 s22 s23
    refine ⟨1, rfl, ?_⟩
    conv => whnf
    refine ⟨D, _, rfl, SqL.of (GZ _ _ hx), fun sl hsl => ?_⟩
    rw [show cutV [x0, x1, x2] none (some 1) = [x0] from rfl]
    have ea : ∀ Hz : Hp, Hz = upd I23 sl (.lst [x0]) → Gr Hk Hz ∧ Hz sl = some (.lst [x0]) := fun Hz e => by subst e; exact ⟨GZ.up hsl, upd_same⟩
    obtain ⟨Ga, ea⟩ := ea _ rfl
    generalize upd I23 sl (.lst [x0]) = Ia at Ga ea ⊢
    clear hsl
    conv => whnf
    refine .inl ⟨D, sl, _, _, rfl, rfl, Ga _ _ hx, ea, small_ok (by simp), fun cl hcl => ?_⟩
    have eb : ∀ Hz : Hp, Hz = upd Ia cl (.lst ([x0, x1, x2] ++ [x0])) → Gr Hk Hz ∧ Hz cl = some (.lst [x0, x1, x2, x0]) := fun Hz e => by subst e; exact ⟨Ga.up hcl, upd_same⟩
    obtain ⟨Gb, eb⟩ := eb _ rfl
    have ncl : cl ≠ d := fun z => by rw [z, Ga _ _ ho] at hcl; cases hcl
    generalize upd Ia cl (.lst ([x0, x1, x2] ++ [x0])) = Ib at Gb eb ⊢
    clear hcl
    conv => whnf
    refine ⟨d, _, o1, cl, [x0, x1, x2, x0], rfl, Gb _ _ ho, D1, by omega, ncl, SqL.of eb, by simp, fun H5 mx o5 L' f5 g5 D5 nmd hmx pm => ?_⟩
    obtain ⟨_, _, _, rfl, _⟩ := id D1
    have hob := Gb _ _ ho
    have t0 := (tx0.up Gb).keep f5 hob
    have t1 := (tx1.up Gb).keep f5 hob
    have t2 := (tx2.up Gb).keep f5 hob
    have ia5 := (ia.up Gb).keep f5 hob
    have ib5 := (ib.up Gb).keep f5 hob
    have ic5 := (ic.up Gb).keep f5 hob
    have hD5 := f5 _ _ (Gb _ _ hx) nDd
    have s5 : ∀ b u, H b = some u → b ≠ d → H5 b = some u := fun b u e z => f5 _ _ (Gb _ _ (s0 b u e z)) z
    have vals : PySem.Paired (fun (v : V) (z : Int × Int) => TupAt H5 v z.1 z.2 ∧ Low z.1 z.2 ∧ z.1.natAbs ≤ 2 ^ 47 ∧ z.2.natAbs ≤ 2 ^ 47) [x0, x1, x2, x0] [(p, q), (r, s'), (t, u), (p, q)] :=
      .cons ⟨t0, lo0, b0, c0⟩ (.cons ⟨t1, lo1, b1, c1⟩ (.cons ⟨t2, lo2, b2, c2⟩ (.cons ⟨t0, lo0, b0, c0⟩ .nil)))
    obtain ⟨l', vals', pml⟩ := perm_vals pm vals
    have es := sumF_perm pml
    have ll := vals'.length
    have l4 := pml.length_eq
    have l4' : l'.length = 4 := l4
    conv => whnf
    refine ⟨mx, rfl, ⟨_, SqL.of hmx⟩, fun S2 hS2 => ?_⟩
    refine lc_list (xs := L') (fun i Hx => Gr H5 Hx ∧ ∃ ys, Hx S2 = some (.lst ys) ∧ ys.length = i ∧ ∀ (j : Nat) (v : V) (z : Int × Int), ys[j]? = some v → l'[j]? = some z → RV T.c_Ratio Hx v z.1 z.2 50) ⟨Gr.rfl'.up hS2, [], upd_same, rfl, fun j v z h _ => by simp at h⟩ (fun _ _ _ L => SqL.of (L.1 _ _ hmx)) ?_ ?_
    · rintro i x Hx hxi ⟨g6, ys, e6, l6, a6⟩
      have hi : i < L'.length := (List.getElem?_eq_some_iff.mp hxi).1
      have hil : i < l'.length := by omega
      obtain ⟨tx, lo, bb, cc⟩ := idx_of vals' i x l'[i] hxi (List.getElem?_eq_getElem hil)
      have q0 := lo.pos
      obtain ⟨ax, rfl, ex⟩ := tx.up g6
      conv => whnf
      refine ⟨rfl, ?_⟩
      conv => whnf
      refine ⟨_, _, .inr (SqT.of ex), rfl, ?_⟩
      conv => whnf
      refine ⟨_, _, .inr (SqT.of ex), rfl, ?_⟩
      conv => whnf
      intro y0 dy0 hy0 hd0 ne0
      refine make_R (K := K) (C := T.c_Ratio) (p := l'[i].1) (q := l'[i].2) hy0 hd0 ne0 (by omega) ⟨q0, by omega⟩ fun Hl g4 i4 => ?_
      generalize V.ref y0 = y at i4 ⊢
      rw [lo.same.1, lo.same.2] at i4
      have e4 := g4 _ _ e6
      have ny : ∀ {w z k N M}, RV T.c_Ratio Hl w N M k → RV T.c_Ratio (upd Hl S2 (.lst z)) w N M k := fun {w z k N M} h => by
        obtain ⟨n1, m1, i1, v1, s1⟩ := h
        exact ⟨n1, m1, i1.keep (fun b u e nb => by rw [upd_ne nb]; exact e) e4, v1, s1⟩
      refine ⟨ys, e4, small_lt (by omega), fun b u e => ?_, ys ++ [y], upd_same, by simp [l6], ?_⟩
      · have nb : b ≠ S2 := fun z => by rw [z, hS2] at e; cases e
        rw [upd_ne nb]
        exact g4 _ _ (g6 _ _ e)
      · intro j v z hv hz
        by_cases hj : j < ys.length
        · rw [List.getElem?_append_left hj] at hv
          exact ny ((a6 j v z hv hz).up g4)
        · have ej : j = i := by
            have := (List.getElem?_eq_some_iff.mp hv).1
            rw [List.length_append, List.length_singleton] at this
            omega
          subst ej
          rw [List.getElem?_append_right (by omega), show j - ys.length = 0 by omega] at hv
          obtain rfl := Option.some.inj (show some y = some v from hv)
          obtain rfl := Option.some.inj ((List.getElem?_eq_getElem hil).symm.trans hz)
          exact ny ⟨_, _, i4, .self lo, by omega, by omega⟩
    rintro H6 ⟨g6, ys, e6, l6, a6⟩
    conv => whnf
    refine ⟨S2, ys, rfl, .inl ⟨SqL.of e6, fun tl htl => ?_⟩⟩
    have ec : ∀ Hz : Hp, Hz = upd H6 tl (.tup ys) → Gr H5 Hz ∧ Gr H6 Hz ∧ Hz tl = some (.tup ys) := fun Hz e => by subst e; exact ⟨g6.up htl, Gr.rfl'.up htl, upd_same⟩
    obtain ⟨Gc, gc, ec⟩ := ec _ rfl
    generalize upd H6 tl (.tup ys) = Ic at Gc gc ec ⊢
    clear htl
    conv => whnf
    refine ⟨tl, ys, l', rfl, ec, by omega, by omega, fun i x z h1 h2 => (a6 i x z h1 h2).up gc, fun xr Id gd rr => ?_⟩
    rw [es] at rr
    have Gd := Gc.trans gd
    conv => whnf
    refine own_pair rr fun n1 m1 u1 Ie ge nn1 e1 v1 z1 => ?_
    have Ge := Gd.trans ge
    conv => whnf
    refine ⟨1, rfl, ?_⟩
    conv => whnf
    refine ⟨D, _, rfl, SqL.of (Ge _ _ hD5), fun sl2 hsl2 => ?_⟩
    rw [show cutV [x0, x1, x2] none (some 1) = [x0] from rfl]
    have ef : ∀ Hz : Hp, Hz = upd Ie sl2 (.lst [x0]) → Gr Ie Hz ∧ Hz sl2 = some (.lst [x0]) := fun Hz e => by subst e; exact ⟨Gr.rfl'.up hsl2, upd_same⟩
    obtain ⟨gf, ef⟩ := ef _ rfl
    generalize upd Ie sl2 (.lst [x0]) = If' at gf ef ⊢
    clear hsl2
    have Gf := Ge.trans gf
    conv => whnf
    refine .inl ⟨D, sl2, _, _, rfl, rfl, Gf _ _ hD5, ef, small_ok (by simp), fun cl2 hcl2 => ?_⟩
    have eg : ∀ Hz : Hp, Hz = upd If' cl2 (.lst ([x0, x1, x2] ++ [x0])) → Gr If' Hz ∧ Hz cl2 = some (.lst [x0, x1, x2, x0]) := fun Hz e => by subst e; exact ⟨Gr.rfl'.up hcl2, upd_same⟩
    obtain ⟨gg, eg⟩ := eg _ rfl
    generalize upd If' cl2 (.lst ([x0, x1, x2] ++ [x0])) = Ig at gg eg ⊢
    clear hcl2
    have Gg := Gf.trans gg
    have q0 := lo0.pos
    have q1 := lo1.pos
    have q2 := lo2.pos
    conv => whnf
    refine ⟨cl2, [x0, x1, x2, x0], [(p, q), (r, s'), (t, u), (p, q)], rfl, SqL.of eg, by simp, rfl, idx_of (.cons ⟨t0.up Gg, q0, c0, b0⟩ (.cons ⟨t1.up Gg, q1, c1, b1⟩ (.cons ⟨t2.up Gg, q2, c2, b2⟩ (.cons ⟨t0.up Gg, q0, c0, b0⟩ .nil)))), fun w1 Ih gh nw1 f1 => ?_⟩
    have Gh := Gg.trans gh
    obtain ⟨en, em⟩ := v1.inj (Val.of v1.dp) rfl
    rw [← en, ← em] at f1
    conv => whnf
    refine ⟨_, _, ((e1.up gf).up (gg.trans gh)).dp, TupAt.dp ⟨w1, rfl, f1⟩, shaped_pd _ _, shaped_pd _ _, ?_⟩
    rw [eqv_pd, decide_eq_true (⟨rfl, rfl⟩ : n1 = n1 ∧ m1 = m1)]
    conv => whnf
    refine ⟨_, rfl, ?_⟩
    refine brF ?_
    conv => whnf
    refine ⟨small_ok (by simp), fun et het => ?_⟩
    have ei : ∀ Hz : Hp, Hz = upd Ih et (.tup []) → Gr H5 Hz ∧ Hz et = some (.tup []) := fun Hz e => by subst e; exact ⟨Gh.up het, upd_same⟩
    obtain ⟨Gi, ei⟩ := ei _ rfl
    generalize upd Ih et (.tup []) = Ii at Gi ei ⊢
    clear het
    conv => whnf
    refine ⟨et, [], [], rfl, ei, by simp, rfl, fun i x z h1 _ => by simp at h1, fun xz Ij gj rz => ?_⟩
    have Gj := Gi.trans gj
    conv => whnf
    refine own_pair rz fun n2 m2 u2 Ik gk nn2 e2 v2 z2 => ?_
    have Gk := Gj.trans gk
    obtain ⟨rfl, rfl⟩ := v2.inj (Val.self (p := 0) (q := 1) ⟨by decide, by decide⟩) (by decide)
    conv => whnf
    refine ⟨small_ok (by simp), fun zt hzt => ?_⟩
    have el : ∀ Hz : Hp, Hz = upd Ik zt (.tup [.int 0, .int 1]) → Gr Ik Hz ∧ Hz zt = some (.tup [.int 0, .int 1]) := fun Hz e => by subst e; exact ⟨Gr.rfl'.up hzt, upd_same⟩
    obtain ⟨gl, el⟩ := el _ rfl
    generalize upd Ik zt (.tup [.int 0, .int 1]) = Il at gl el ⊢
    clear hzt
    have Gl' := Gk.trans gl
    conv => whnf
    refine ⟨_, _, (e2.up gl).dp, TupAt.dp ⟨zt, rfl, el⟩, shaped_pd _ _, shaped_pd _ _, ?_⟩
    rw [eqv_pd, decide_eq_true (⟨rfl, rfl⟩ : (0 : Int) = 0 ∧ (1 : Int) = 1)]
    conv => whnf
    refine ⟨_, rfl, ?_⟩
    refine brF ?_
    conv => whnf
    have Ra : RV T.c_Ratio H5 (.ref a) p q 48 := ⟨p, q, ia5, .self lo0, by omega, by omega⟩
    have Rb : RV T.c_Ratio H5 (.ref b) r s' 48 := ⟨r, s', ib5, .self lo1, by omega, by omega⟩
    have Rc : RV T.c_Ratio H5 (.ref c) t u 48 := ⟨t, u, ic5, .self lo2, by omega, by omega⟩
    refine own_pair (Ra.up Gl') fun k1 j1' u3 Im gm nn3 e3' v3 z3 => ?_
    obtain ⟨rfl, rfl⟩ := v3.inj (Val.self lo0) rfl
    have Gm := Gl'.trans gm
    conv => whnf
    refine own_pair (Rb.up Gm) fun k2 j2' u4 In gn nn4 e4' v4 z4 => ?_
    obtain ⟨rfl, rfl⟩ := v4.inj (Val.self lo1) rfl
    have Gn := Gm.trans gn
    conv => whnf
    refine own_pair (Rc.up Gn) fun k3 j3' u5 Io go nn5 e5' v5 z5 => ?_
    obtain ⟨rfl, rfl⟩ := v5.inj (Val.self lo2) rfl
    have Go := Gn.trans go
    conv => whnf
    refine ⟨small_ok (by simp), fun fl hfl => ?_⟩
    have ep : ∀ Hz : Hp, Hz = upd Io fl (.lst [.ref u3, .ref u4, .ref u5]) → Gr Io Hz ∧ Hz fl = some (.lst [.ref u3, .ref u4, .ref u5]) := fun Hz e => by subst e; exact ⟨Gr.rfl'.up hfl, upd_same⟩
    obtain ⟨gp, ep⟩ := ep _ rfl
    generalize upd Io fl (.lst [.ref u3, .ref u4, .ref u5]) = Ip at gp ep ⊢
    clear hfl
    have Gp := Go.trans gp
    conv => whnf
    refine ⟨.list (pds [(_, _), (_, _), (_, _)]), .list (pds [(_, _), (_, _), (_, _)]), .lst (SqL.of ep) (.cons (e3'.up (gn.trans (go.trans gp))).dp (.cons (e4'.up (go.trans gp)).dp (.cons (e5'.up gp).dp .nil))), .lst (SqL.of (Gp _ _ hD5)) (.cons (t0.up Gp).dp (.cons (t1.up Gp).dp (.cons (t2.up Gp).dp .nil))), shaped_pds _, shaped_pds _, ?_⟩
    rw [show ∀ z1 z2 z3 : Int × Int, PyData.eqv (.list (pds [z1, z2, z3])) (.list (pds [z1, z2, z3])) = true from fun z1 z2 z3 => by
      show (PyData.eqv (pd z1.1 z1.2) (pd z1.1 z1.2) && (PyData.eqv (pd z2.1 z2.2) (pd z2.1 z2.2) && (PyData.eqv (pd z3.1 z3.2) (pd z3.1 z3.2) && true))) = true
      simp [eqv_pd]]
    exact k Ip _ (fun b u e z => Gp _ _ (s5 b u e z)) (Gp _ _ g5) (D5.up (by omega))
def sp_law (K : PySem.W.Frag) : Sp := fun vs H Q _ => ∃ (a : Addr) (ns : List Int), vs = [.ref a] ∧ SqL K H a (ns.map V.int) ∧ ns.length ≤ 63 ∧ ∀ H', Q (.bl true) H'
theorem enter (K : PySem.W.Frag) (H : Hp) (a : Addr) (ns : List Int) (h1 : ns.length ≤ 63) (h2 : ∀ z ∈ ns, Builtin.Int.intBits z ≤ 1048576) (h3 : SqL K H a (ns.map V.int)) : sp_law K [.ref a] H (fun v _ => v = .bl true) fun _ _ _ => False := ⟨a, ns, rfl, h3, h1, fun _ => rfl⟩
theorem ok_law (T : Txt K mg) : FnG P w K mg base CX0 8 T.a_law T.d_law ["_law_script"] (sp_law K) := by
  refine okG T.F_law sc_law (fun vs H Q E h => ?_) (fun cdv A outer s H vs Q E hg hr h => ?_)
  · obtain ⟨a, ns, rfl, _⟩ := h; rfl
  · obtain ⟨a, ns, rfl, hS, hn, k⟩ := h
    refine ⟨_, PSs.nox (pss_cons (ps_for PassesOwn.never rfl (pi_range1 (by rfl) T.b_range (pa_cons (pe_callB (caMax rfl) (by rfl) T.b_max (by decide +kernel) (pa_cons pe_int (pa_cons (pe_callB (caMin rfl) (by rfl) T.b_min (by decide +kernel) (pa_cons pe_int (pa_cons (pe_callB caLen (by rfl) T.b_len (by decide +kernel) (pa_cons (pev 0) pa_nil)) pa_nil))) pa_nil))) pa_nil)) (pg_name (i := 1) sc_law.nd rfl (by first | exact Or.inl rfl | exact Or.inr rfl))
        (pss_cons (ps_set (i := 2) sc_law.nd rfl (by first | exact Or.inl rfl | exact Or.inr rfl) (pe_call (ok__law_dice T) (hr.mono (by decide)) (by rfl) T.g__law_dice T.F__law_dice.kp T.B__law_dice .nil pass0 (pa_cons (pev 0) (pa_cons (pev 1) pa_nil))))
        (pss_one (ps_for PassesOwn.never rfl (pi_range1 (by rfl) T.b_range (pa_cons pe_int pa_nil)) (pg_name (i := 3) sc_law.nd rfl (by first | exact Or.inl rfl | exact Or.inr rfl))
        (pss_one (psIf (pt_not (ptV (peG (ok__law_right T) hg (hr.mono (by decide)) (by rfl) T.g__law_right T.F__law_right.kp T.B__law_right .nil pass0 (pa_cons (pev 2) pa_nil)))) (pss_one (ps_ret pe_bl)) pss_nil))))))
        (pss_cons (ps_set (i := 4) sc_law.nd rfl (by first | exact Or.inl rfl | exact Or.inr rfl) (pe_make T.K_Ratio (ok_Ratio___init__ T) (hr.mono (by decide)) (by rfl) T.g_Ratio T.B_Ratio___init__ .nil pass0 (pa_cons (pe_op opSub (pe_op opPow pe_int pe_int) pe_int) (pa_cons pe_int pa_nil))))
        (pss_one (ps_ret (peAnd (pe_cmpR (opEq (hu64 hr)) (pe_prop (pe_op (opBin rfl T.o_Ratio T.M_Ratio___mul__ (ok_Ratio___mul__ T) (hr.mono (by decide)) T.B_Ratio___mul__ pass0) (pev 4) (pev 4)) T.o_Ratio.cl T.P_Ratio_top (ok_Ratio_top T) (hr.mono (by decide)) T.B_Ratio_top .nil pass0 rfl) (pe_op opMulT (pe_op opSub (pe_op opPow pe_int pe_int) pe_int) (pe_op opSub (pe_op opPow pe_int pe_int) pe_int)) (nomark _)) (pe_one (pe_cmpR (opEq (hu64 hr)) (pe_prop (pe_meth (pe_op (opBin rfl T.o_Ratio T.M_Ratio___add__ (ok_Ratio___add__ T) (hr.mono (by decide)) T.B_Ratio___add__ pass0) (pev 4) (pev 4)) T.o_Ratio.cl T.M_Ratio_over (ok_Ratio_over T) (hr.mono (by decide)) T.B_Ratio_over .nil pass0 (pa_cons (pev 4) pa_nil)) T.o_Ratio.cl T.P_Ratio_pair (ok_Ratio_pair T) (hr.mono (by decide)) T.B_Ratio_pair .nil pass0 rfl) (pe_tup (pa_cons pe_int (pa_cons pe_int pa_nil))) (nomark _)))))))), ?_⟩
    conv => whnf
    refine ⟨_, .inl hS, ?_⟩
    conv => whnf
    rw [List.length_map]
    refine ⟨_, rfl, by omega, by omega, for_range (lo := 0) (n := (max 1 (min 4 (ns.length : Int))).toNat) (fun i σ H' => (∃ v1 v2 v3, σ = [some (.ref a), v1, v2, v3, none]) ∧ Gr H H')
      ⟨⟨none, none, none, rfl⟩, fun _ _ e => e⟩ ?_ ?_⟩
    · rintro i σ H1 hi ⟨⟨v1, v2, v3, rfl⟩, s1⟩
      conv => whnf
      refine ⟨a, ns, i, by rw [Int.zero_add]; rfl, sqlSame s1 hS, by omega, fun H2 p o s2 p0 p1 D0 => ?_⟩
      conv => whnf
      refine ⟨_, rfl, by decide, by decide, for_range (lo := 0) (n := 6) (fun j σ H' => (∃ v3, σ = [some (.ref a), some (.int (0 + (i : Nat))), some (.ref p), v3, none]) ∧ Gr H1 H' ∧ ∃ o', H' p = some o' ∧ Dice (50 * j) o')
        ⟨⟨v3, rfl⟩, s2, o, p1, D0⟩ ?_ ?_⟩
      · rintro j σ H3 hj ⟨⟨v3, rfl⟩, s3, o3, p3, D3⟩
        conv => whnf
        refine ⟨p, _, o3, rfl, p3, D3, by omega, fun H4 o4 f4 g4 D4 => ?_⟩
        conv => whnf
        refine brF ?_
        exact ⟨⟨_, rfl⟩, fun b u e => f4 b u (s3 b u e) (fun z => by subst z; rw [p0] at e; cases e), o4, g4, D4.up (by omega)⟩
      · rintro σ H3 ⟨⟨v3, rfl⟩, s3, _⟩
        exact ⟨⟨_, _, _, rfl⟩, fun b u e => s3 b u (s1 b u e)⟩
    · rintro σ H1 ⟨⟨v1, v2, v3, rfl⟩, s1⟩
      conv => whnf
      refine ⟨⟨by decide, by decide, by decide⟩, ?_⟩
      conv => whnf
      intro x1 y1 hx1 hy1 ne1
      refine make_R hx1 hy1 ne1 (by decide) (by decide) fun H2 g2 i2 => ?_
      have r2 : RV T.c_Ratio H2 (.ref x1) (10 ^ Int.toNat 60 - 1) 1 200 := ⟨_, _, i2, Val.of (by decide), Sm.low (by decide) ⟨by decide, by decide⟩⟩
      conv => whnf
      refine own_mul r2 r2 (by decide) (by decide) fun x2 H3 g3 r3 => ?_
      obtain ⟨n1, m1, i3, v3', z3⟩ := id r3
      obtain ⟨_, dx3, z, e3⟩ := id i3
      cases z
      conv => whnf
      refine ⟨x2, dx3, _, rfl, e3, _, n1, m1, rfl, i3, ?_⟩
      have low1 : ∀ N : Int, Low N 1 := fun N => ⟨by decide, by rw [show (1 : Int).natAbs = 1 from rfl]; exact Nat.gcd_one_right _⟩
      obtain ⟨en, em⟩ := v3'.inj (Val.self (low1 ((10 ^ Int.toNat 60 - 1) * (10 ^ Int.toNat 60 - 1)))) (by decide)
      rw [en]
      conv => whnf
      refine ⟨⟨by decide, by decide, by decide⟩, ?_⟩
      conv => whnf
      refine ⟨⟨by decide, by decide, by decide⟩, ?_⟩
      conv => whnf
      refine ⟨mulW 200 200 (by decide) (by decide), ?_⟩
      conv => whnf
      refine brY (by decide) ?_
      conv => whnf
      have R3 := r2.up g3
      refine own_add R3 R3 (by decide) (by decide) fun x4 H5 g5 r5 => ?_
      obtain ⟨_, _, ⟨_, dx5, z, e5⟩, _⟩ := id r5
      cases z
      conv => whnf
      refine ⟨x4, dx5, _, rfl, e5, rf_no _ _ (by decide +kernel) (by decide +kernel), ?_⟩
      conv => whnf
      refine ⟨_, _, _, _, _, _, 1, _, _, rfl, r5, R3.up g5, by decide, by decide, .inl rfl, by decide, fun x6 H6 g6 r6 => ?_⟩
      conv => whnf
      refine own_pair r6 fun n2 m2 u2 H7 g7 nn e7 v7 z7 => ?_
      obtain ⟨rfl, rfl⟩ := v7.inj (Val.self (low1 2)) (by decide)
      conv => whnf
      refine ⟨small_ok (by simp), fun zt hzt => ?_⟩
      conv => whnf
      refine ⟨_, _, (e7.up (Gr.rfl'.up hzt)).dp, TupAt.dp ⟨zt, rfl, upd_same⟩, shaped_pd _ _, shaped_pd _ _, ?_⟩
      rw [eqv_pd, decide_eq_true (⟨rfl, rfl⟩ : (2 : Int) = 2 ∧ (1 : Int) = 1)]
      exact k _
end
open PySem.W in
theorem all_mk {P : Program} {w : World} {K : Frag} {h : Heap} {mg : Str → Option Value} {fa : Addr} (X : K.In h) (G : h.Ns mainGlobals mg) (hfa : mg "law" = some (.ref fa))
    {q_Ratio : Addr} (aq_Ratio : nsIn K mainGlobals "Ratio" = some (some (.ref q_Ratio)))
    (pg_Ratio : plainGet K q_Ratio Str.empty = true)
    (hd_Ratio : hasDictIn K q_Ratio = true)
    (po_Ratio : plainOver K q_Ratio = true)
    (sa_Ratio : findIn K (.ref q_Ratio) "__setattr__" = some (some (.builtin "object.__setattr__")))
    (sf_Ratio : selfFirst K q_Ratio = true)
    (ha_Ratio : findIn K (.ref q_Ratio) "__class__" = some (some (.builtin "object.__class__")))
    (hn_Ratio : specialIn K (.builtin "object.__class__") "__get__" = some (some (.builtin "getset_descriptor.__get__")))
    (htk_Ratio : takesIn K (.builtin "object.__class__") = some true)
    (hm_Ratio : mroIn K q_Ratio (.type "object") = some true)
    (tyC_Ratio : typeIn K (.ref q_Ratio) = some (.type "type"))
    (nn_Ratio : findIn K (.ref q_Ratio) "__ne__" = some (some (.builtin "object.__ne__")))
    (nf_Ratio__top : findIn K (.ref q_Ratio) "_top" = some none)
    (nf_Ratio__bottom : findIn K (.ref q_Ratio) "_bottom" = some none)
    {f1 : Addr} {od1 an1 : Option Addr} {sl1 : Array (Option Value)} {oc1 kV1 dc1 pm1 cd1 ct1 : Value} (a1 : nsIn K mainGlobals "_law_dice" = some (some (.ref f1)))
    (l1 : K.lookup f1 = some ⟨oc1, od1, .func (fnOf "_law_dice" "_law_dice" (defArgs s__law_dice) (defBody s__law_dice) (defScope s__law_dice) .none kV1 dc1 pm1 an1 cd1 ct1), sl1⟩) (c1 : codeIn K cd1 "_law_dice" = true) (k1 : keepIn K (.ref f1) = true)
    {f2 : Addr} {od2 an2 : Option Addr} {sl2 : Array (Option Value)} {oc2 kV2 dc2 pm2 cd2 ct2 : Value} (a2 : nsIn K mainGlobals "_law_roll" = some (some (.ref f2)))
    (l2 : K.lookup f2 = some ⟨oc2, od2, .func (fnOf "_law_roll" "_law_roll" (defArgs s__law_roll) (defBody s__law_roll) (defScope s__law_roll) .none kV2 dc2 pm2 an2 cd2 ct2), sl2⟩) (c2 : codeIn K cd2 "_law_roll" = true) (k2 : keepIn K (.ref f2) = true)
    {f3 : Addr} {od3 an3 : Option Addr} {sl3 : Array (Option Value)} {oc3 kV3 dc3 pm3 cd3 ct3 : Value} (a3 : nsIn K mainGlobals "_law_pick" = some (some (.ref f3)))
    (l3 : K.lookup f3 = some ⟨oc3, od3, .func (fnOf "_law_pick" "_law_pick" (defArgs s__law_pick) (defBody s__law_pick) (defScope s__law_pick) .none kV3 dc3 pm3 an3 cd3 ct3), sl3⟩) (c3 : codeIn K cd3 "_law_pick" = true) (k3 : keepIn K (.ref f3) = true)
    {f4 : Addr} {od4 an4 : Option Addr} {sl4 : Array (Option Value)} {oc4 kV4 dc4 pm4 cd4 ct4 : Value} (a4 : nsIn K mainGlobals "_law_lowest" = some (some (.ref f4)))
    (l4 : K.lookup f4 = some ⟨oc4, od4, .func (fnOf "_law_lowest" "_law_lowest" (defArgs s__law_lowest) (defBody s__law_lowest) (defScope s__law_lowest) .none kV4 dc4 pm4 an4 cd4 ct4), sl4⟩) (c4 : codeIn K cd4 "_law_lowest" = true) (k4 : keepIn K (.ref f4) = true)
    {f5 : Addr} {od5 an5 : Option Addr} {sl5 : Array (Option Value)} {oc5 kV5 dc5 pm5 cd5 ct5 : Value} (a5 : nsIn K mainGlobals "_law_drawn" = some (some (.ref f5)))
    (l5 : K.lookup f5 = some ⟨oc5, od5, .func (fnOf "_law_drawn" "_law_drawn" (defArgs s__law_drawn) (defBody s__law_drawn) (defScope s__law_drawn) .none kV5 dc5 pm5 an5 cd5 ct5), sl5⟩) (c5 : codeIn K cd5 "_law_drawn" = true) (k5 : keepIn K (.ref f5) = true)
    {f6 : Addr} {od6 an6 : Option Addr} {sl6 : Array (Option Value)} {oc6 kV6 dc6 pm6 cd6 ct6 : Value} (a6 : nsIn K mainGlobals "is_integer" = some (some (.ref f6)))
    (l6 : K.lookup f6 = some ⟨oc6, od6, .func (fnOf "is_integer" "is_integer" (defArgs s_is_integer) (defBody s_is_integer) (defScope s_is_integer) .none kV6 dc6 pm6 an6 cd6 ct6), sl6⟩) (c6 : codeIn K cd6 "is_integer" = true) (k6 : keepIn K (.ref f6) = true)
    {f7 : Addr} (a7 : findIn K (.ref q_Ratio) "__init__" = some (some (.ref f7))) (i7 : isFn K (.ref f7) = true)
    {od7 an7 : Option Addr} {sl7 : Array (Option Value)} {oc7 kV7 dc7 pm7 cd7 ct7 : Value} (l7 : K.lookup f7 = some ⟨oc7, od7, .func (fnOf "__init__" "Ratio.__init__" (defArgs s_Ratio___init__) (defBody s_Ratio___init__) (defScope s_Ratio___init__) .none kV7 dc7 pm7 an7 cd7 ct7), sl7⟩) (c7 : codeIn K cd7 "Ratio.__init__" = true) (k7 : keepIn K (.ref f7) = true)
    (mk_Ratio : makesIn K q_Ratio = true) (kc_Ratio : keepIn K (.ref q_Ratio) = true)
    {f8 u8 : Addr} {rest8 : List Value} (pa8 : findIn K (.ref q_Ratio) "pair" = some (some (.ref u8))) (pb8 : specialIn K (.ref u8) "__get__" = some (some (.builtin "property.__get__"))) (pc8 : takesIn K (.ref u8) = some true) (pd8 : recIn K u8 "property" = some (.ref f8 :: rest8))
    {od8 an8 : Option Addr} {sl8 : Array (Option Value)} {oc8 kV8 dc8 pm8 cd8 ct8 : Value} (l8 : K.lookup f8 = some ⟨oc8, od8, .func (fnOf "pair" "Ratio.pair" (defArgs s_Ratio_pair) (defBody s_Ratio_pair) (defScope s_Ratio_pair) .none kV8 dc8 pm8 an8 cd8 ct8), sl8⟩) (c8 : codeIn K cd8 "Ratio.pair" = true) (k8 : keepIn K (.ref f8) = true)
    {f9 : Addr} {od9 an9 : Option Addr} {sl9 : Array (Option Value)} {oc9 kV9 dc9 pm9 cd9 ct9 : Value} (a9 : nsIn K mainGlobals "_lowest" = some (some (.ref f9)))
    (l9 : K.lookup f9 = some ⟨oc9, od9, .func (fnOf "_lowest" "_lowest" (defArgs s__lowest) (defBody s__lowest) (defScope s__lowest) .none kV9 dc9 pm9 an9 cd9 ct9), sl9⟩) (c9 : codeIn K cd9 "_lowest" = true) (k9 : keepIn K (.ref f9) = true)
    {f10 : Addr} (a10 : findIn K (.ref q_Ratio) "__add__" = some (some (.ref f10))) (i10 : isFn K (.ref f10) = true)
    {od10 an10 : Option Addr} {sl10 : Array (Option Value)} {oc10 kV10 dc10 pm10 cd10 ct10 : Value} (l10 : K.lookup f10 = some ⟨oc10, od10, .func (fnOf "__add__" "Ratio.__add__" (defArgs s_Ratio___add__) (defBody s_Ratio___add__) (defScope s_Ratio___add__) .none kV10 dc10 pm10 an10 cd10 ct10), sl10⟩) (c10 : codeIn K cd10 "Ratio.__add__" = true) (k10 : keepIn K (.ref f10) = true)
    {f11 : Addr} (a11 : findIn K (.ref q_Ratio) "__sub__" = some (some (.ref f11))) (i11 : isFn K (.ref f11) = true)
    {od11 an11 : Option Addr} {sl11 : Array (Option Value)} {oc11 kV11 dc11 pm11 cd11 ct11 : Value} (l11 : K.lookup f11 = some ⟨oc11, od11, .func (fnOf "__sub__" "Ratio.__sub__" (defArgs s_Ratio___sub__) (defBody s_Ratio___sub__) (defScope s_Ratio___sub__) .none kV11 dc11 pm11 an11 cd11 ct11), sl11⟩) (c11 : codeIn K cd11 "Ratio.__sub__" = true) (k11 : keepIn K (.ref f11) = true)
    {f12 : Addr} (a12 : findIn K (.ref q_Ratio) "__mul__" = some (some (.ref f12))) (i12 : isFn K (.ref f12) = true)
    {od12 an12 : Option Addr} {sl12 : Array (Option Value)} {oc12 kV12 dc12 pm12 cd12 ct12 : Value} (l12 : K.lookup f12 = some ⟨oc12, od12, .func (fnOf "__mul__" "Ratio.__mul__" (defArgs s_Ratio___mul__) (defBody s_Ratio___mul__) (defScope s_Ratio___mul__) .none kV12 dc12 pm12 an12 cd12 ct12), sl12⟩) (c12 : codeIn K cd12 "Ratio.__mul__" = true) (k12 : keepIn K (.ref f12) = true)
    {f13 : Addr} (a13 : findIn K (.ref q_Ratio) "__neg__" = some (some (.ref f13))) (i13 : isFn K (.ref f13) = true)
    {od13 an13 : Option Addr} {sl13 : Array (Option Value)} {oc13 kV13 dc13 pm13 cd13 ct13 : Value} (l13 : K.lookup f13 = some ⟨oc13, od13, .func (fnOf "__neg__" "Ratio.__neg__" (defArgs s_Ratio___neg__) (defBody s_Ratio___neg__) (defScope s_Ratio___neg__) .none kV13 dc13 pm13 an13 cd13 ct13), sl13⟩) (c13 : codeIn K cd13 "Ratio.__neg__" = true) (k13 : keepIn K (.ref f13) = true)
    {f14 : Addr} {od14 an14 : Option Addr} {sl14 : Array (Option Value)} {oc14 kV14 dc14 pm14 cd14 ct14 : Value} (a14 : nsIn K mainGlobals "_law_sum" = some (some (.ref f14)))
    (l14 : K.lookup f14 = some ⟨oc14, od14, .func (fnOf "_law_sum" "_law_sum" (defArgs s__law_sum) (defBody s__law_sum) (defScope s__law_sum) .none kV14 dc14 pm14 an14 cd14 ct14), sl14⟩) (c14 : codeIn K cd14 "_law_sum" = true) (k14 : keepIn K (.ref f14) = true)
    {f15 : Addr} {od15 an15 : Option Addr} {sl15 : Array (Option Value)} {oc15 kV15 dc15 pm15 cd15 ct15 : Value} (a15 : nsIn K mainGlobals "_law_minus" = some (some (.ref f15)))
    (l15 : K.lookup f15 = some ⟨oc15, od15, .func (fnOf "_law_minus" "_law_minus" (defArgs s__law_minus) (defBody s__law_minus) (defScope s__law_minus) .none kV15 dc15 pm15 an15 cd15 ct15), sl15⟩) (c15 : codeIn K cd15 "_law_minus" = true) (k15 : keepIn K (.ref f15) = true)
    {f16 : Addr} {od16 an16 : Option Addr} {sl16 : Array (Option Value)} {oc16 kV16 dc16 pm16 cd16 ct16 : Value} (a16 : nsIn K mainGlobals "_law_product" = some (some (.ref f16)))
    (l16 : K.lookup f16 = some ⟨oc16, od16, .func (fnOf "_law_product" "_law_product" (defArgs s__law_product) (defBody s__law_product) (defScope s__law_product) .none kV16 dc16 pm16 an16 cd16 ct16), sl16⟩) (c16 : codeIn K cd16 "_law_product" = true) (k16 : keepIn K (.ref f16) = true)
    {f17 : Addr} (a17 : findIn K (.ref q_Ratio) "__bool__" = some (some (.ref f17))) (i17 : isFn K (.ref f17) = true)
    {od17 an17 : Option Addr} {sl17 : Array (Option Value)} {oc17 kV17 dc17 pm17 cd17 ct17 : Value} (l17 : K.lookup f17 = some ⟨oc17, od17, .func (fnOf "__bool__" "Ratio.__bool__" (defArgs s_Ratio___bool__) (defBody s_Ratio___bool__) (defScope s_Ratio___bool__) .none kV17 dc17 pm17 an17 cd17 ct17), sl17⟩) (c17 : codeIn K cd17 "Ratio.__bool__" = true) (k17 : keepIn K (.ref f17) = true)
    {f18 u18 : Addr} {rest18 : List Value} (pa18 : findIn K (.ref q_Ratio) "top" = some (some (.ref u18))) (pb18 : specialIn K (.ref u18) "__get__" = some (some (.builtin "property.__get__"))) (pc18 : takesIn K (.ref u18) = some true) (pd18 : recIn K u18 "property" = some (.ref f18 :: rest18))
    {od18 an18 : Option Addr} {sl18 : Array (Option Value)} {oc18 kV18 dc18 pm18 cd18 ct18 : Value} (l18 : K.lookup f18 = some ⟨oc18, od18, .func (fnOf "top" "Ratio.top" (defArgs s_Ratio_top) (defBody s_Ratio_top) (defScope s_Ratio_top) .none kV18 dc18 pm18 an18 cd18 ct18), sl18⟩) (c18 : codeIn K cd18 "Ratio.top" = true) (k18 : keepIn K (.ref f18) = true)
    {f19 u19 : Addr} {rest19 : List Value} (pa19 : findIn K (.ref q_Ratio) "bottom" = some (some (.ref u19))) (pb19 : specialIn K (.ref u19) "__get__" = some (some (.builtin "property.__get__"))) (pc19 : takesIn K (.ref u19) = some true) (pd19 : recIn K u19 "property" = some (.ref f19 :: rest19))
    {od19 an19 : Option Addr} {sl19 : Array (Option Value)} {oc19 kV19 dc19 pm19 cd19 ct19 : Value} (l19 : K.lookup f19 = some ⟨oc19, od19, .func (fnOf "bottom" "Ratio.bottom" (defArgs s_Ratio_bottom) (defBody s_Ratio_bottom) (defScope s_Ratio_bottom) .none kV19 dc19 pm19 an19 cd19 ct19), sl19⟩) (c19 : codeIn K cd19 "Ratio.bottom" = true) (k19 : keepIn K (.ref f19) = true)
    {f20 : Addr} (a20 : findIn K (.ref q_Ratio) "over" = some (some (.ref f20))) (i20 : isFn K (.ref f20) = true)
    {od20 an20 : Option Addr} {sl20 : Array (Option Value)} {oc20 kV20 dc20 pm20 cd20 ct20 : Value} (l20 : K.lookup f20 = some ⟨oc20, od20, .func (fnOf "over" "Ratio.over" (defArgs s_Ratio_over) (defBody s_Ratio_over) (defScope s_Ratio_over) .none kV20 dc20 pm20 an20 cd20 ct20), sl20⟩) (c20 : codeIn K cd20 "Ratio.over" = true) (k20 : keepIn K (.ref f20) = true)
    {f21 : Addr} (a21 : findIn K (.ref q_Ratio) "__eq__" = some (some (.ref f21))) (i21 : isFn K (.ref f21) = true)
    {od21 an21 : Option Addr} {sl21 : Array (Option Value)} {oc21 kV21 dc21 pm21 cd21 ct21 : Value} (l21 : K.lookup f21 = some ⟨oc21, od21, .func (fnOf "__eq__" "Ratio.__eq__" (defArgs s_Ratio___eq__) (defBody s_Ratio___eq__) (defScope s_Ratio___eq__) .none kV21 dc21 pm21 an21 cd21 ct21), sl21⟩) (c21 : codeIn K cd21 "Ratio.__eq__" = true) (k21 : keepIn K (.ref f21) = true)
    {f22 : Addr} {od22 an22 : Option Addr} {sl22 : Array (Option Value)} {oc22 kV22 dc22 pm22 cd22 ct22 : Value} (a22 : nsIn K mainGlobals "_law_pairs_right" = some (some (.ref f22)))
    (l22 : K.lookup f22 = some ⟨oc22, od22, .func (fnOf "_law_pairs_right" "_law_pairs_right" (defArgs s__law_pairs_right) (defBody s__law_pairs_right) (defScope s__law_pairs_right) .none kV22 dc22 pm22 an22 cd22 ct22), sl22⟩) (c22 : codeIn K cd22 "_law_pairs_right" = true) (k22 : keepIn K (.ref f22) = true)
    {f23 : Addr} {od23 an23 : Option Addr} {sl23 : Array (Option Value)} {oc23 kV23 dc23 pm23 cd23 ct23 : Value} (a23 : nsIn K mainGlobals "_law_mixed" = some (some (.ref f23)))
    (l23 : K.lookup f23 = some ⟨oc23, od23, .func (fnOf "_law_mixed" "_law_mixed" (defArgs s__law_mixed) (defBody s__law_mixed) (defScope s__law_mixed) .none kV23 dc23 pm23 an23 cd23 ct23), sl23⟩) (c23 : codeIn K cd23 "_law_mixed" = true) (k23 : keepIn K (.ref f23) = true)
    {f24 : Addr} {od24 an24 : Option Addr} {sl24 : Array (Option Value)} {oc24 kV24 dc24 pm24 cd24 ct24 : Value} (a24 : nsIn K mainGlobals "_is_ratios" = some (some (.ref f24)))
    (l24 : K.lookup f24 = some ⟨oc24, od24, .func (fnOf "_is_ratios" "_is_ratios" (defArgs s__is_ratios) (defBody s__is_ratios) (defScope s__is_ratios) .none kV24 dc24 pm24 an24 cd24 ct24), sl24⟩) (c24 : codeIn K cd24 "_is_ratios" = true) (k24 : keepIn K (.ref f24) = true)
    {f25 : Addr} {od25 an25 : Option Addr} {sl25 : Array (Option Value)} {oc25 kV25 dc25 pm25 cd25 ct25 : Value} (a25 : nsIn K mainGlobals "sum_of" = some (some (.ref f25)))
    (l25 : K.lookup f25 = some ⟨oc25, od25, .func (fnOf "sum_of" "sum_of" (defArgs s_sum_of) (defBody s_sum_of) (defScope s_sum_of) .none kV25 dc25 pm25 an25 cd25 ct25), sl25⟩) (c25 : codeIn K cd25 "sum_of" = true) (k25 : keepIn K (.ref f25) = true)
    {f26 : Addr} {od26 an26 : Option Addr} {sl26 : Array (Option Value)} {oc26 kV26 dc26 pm26 cd26 ct26 : Value} (a26 : nsIn K mainGlobals "_law_right" = some (some (.ref f26)))
    (l26 : K.lookup f26 = some ⟨oc26, od26, .func (fnOf "_law_right" "_law_right" (defArgs s__law_right) (defBody s__law_right) (defScope s__law_right) .none kV26 dc26 pm26 an26 cd26 ct26), sl26⟩) (c26 : codeIn K cd26 "_law_right" = true) (k26 : keepIn K (.ref f26) = true)
    {f27 : Addr} {od27 an27 : Option Addr} {sl27 : Array (Option Value)} {oc27 kV27 dc27 pm27 cd27 ct27 : Value} (a27 : nsIn K mainGlobals "law" = some (some (.ref f27)))
    (l27 : K.lookup f27 = some ⟨oc27, od27, .func (fnOf "law" "law" (defArgs s_law) (defBody s_law) (defScope s_law) .none kV27 dc27 pm27 an27 cd27 ct27), sl27⟩) (c27 : codeIn K cd27 "law" = true) (k27 : keepIn K (.ref f27) = true)
    (z_abs : nsIn K mainGlobals "abs" = some none)
    (z_all : nsIn K mainGlobals "all" = some none)
    (z_bool : nsIn K mainGlobals "bool" = some none)
    (z_int : nsIn K mainGlobals "int" = some none)
    (z_isinstance : nsIn K mainGlobals "isinstance" = some none)
    (z_len : nsIn K mainGlobals "len" = some none)
    (z_list : nsIn K mainGlobals "list" = some none)
    (z_max : nsIn K mainGlobals "max" = some none)
    (z_min : nsIn K mainGlobals "min" = some none)
    (z_range : nsIn K mainGlobals "range" = some none)
    (z_repr : nsIn K mainGlobals "repr" = some none)
    (z_tuple : nsIn K mainGlobals "tuple" = some none)
    (im_gcd : nsIn K mainGlobals "gcd" = some (some (.builtin "math.gcd")))
    {t_BEYOND : Tok} (w_BEYOND : nsIn K mainGlobals "BEYOND" = some (some (.int 1000000000000000000000000000000000000000000000000000000000000 t_BEYOND))) :
    ∃ fd : FuncData, (∀ (s : Shared) (v : Value), BindsTo s fd ⟨[v], []⟩ [("_law_script", v)]) ∧ ∀ base : Heap, K.In base → base.Ns mainGlobals mg → FnG P w K mg base CX0 8 fa fd ["_law_script"] (sp_law K) := by
  have e := hfa.symm.trans (mg_of X G a27)
  cases e
  let T : Txt K mg := {
    c_Ratio := q_Ratio,
    g_Ratio := mg_of X G aq_Ratio,
    o_Ratio := ⟨⟨pg_Ratio, hd_Ratio, po_Ratio, sa_Ratio⟩, sf_Ratio, ha_Ratio, hn_Ratio, htk_Ratio, hm_Ratio, tyC_Ratio⟩,
    n_Ratio := nn_Ratio,
    f_Ratio__top := nf_Ratio__top,
    f_Ratio__bottom := nf_Ratio__bottom,
    a__law_dice := f1,
    d__law_dice := _,
    g__law_dice := mg_of X G a1,
    F__law_dice := fun_mk (st := s__law_dice) l1 c1 k1,
    B__law_dice := (fun_mk (st := s__law_dice) l1 c1 k1).binds (ps := ["_law_script", "_law_spot"]) (fun _ _ _ _ _ _ us hl => match us, hl with | [_, _], _ => rfl),
    a__law_roll := f2,
    d__law_roll := _,
    g__law_roll := mg_of X G a2,
    F__law_roll := fun_mk (st := s__law_roll) l2 c2 k2,
    B__law_roll := (fun_mk (st := s__law_roll) l2 c2 k2).binds (ps := ["_law_dice_here", "_law_total"]) (fun _ _ _ _ _ _ us hl => match us, hl with | [_, _], _ => rfl),
    a__law_pick := f3,
    d__law_pick := _,
    g__law_pick := mg_of X G a3,
    F__law_pick := fun_mk (st := s__law_pick) l3 c3 k3,
    B__law_pick := (fun_mk (st := s__law_pick) l3 c3 k3).binds (ps := ["_law_dice_here", "_law_items"]) (fun _ _ _ _ _ _ us hl => match us, hl with | [_, _], _ => rfl),
    a__law_lowest := f4,
    d__law_lowest := _,
    g__law_lowest := mg_of X G a4,
    F__law_lowest := fun_mk (st := s__law_lowest) l4 c4 k4,
    B__law_lowest := (fun_mk (st := s__law_lowest) l4 c4 k4).binds (ps := ["_law_top", "_law_bottom"]) (fun _ _ _ _ _ _ us hl => match us, hl with | [_, _], _ => rfl),
    a__law_drawn := f5,
    d__law_drawn := _,
    g__law_drawn := mg_of X G a5,
    F__law_drawn := fun_mk (st := s__law_drawn) l5 c5 k5,
    B__law_drawn := (fun_mk (st := s__law_drawn) l5 c5 k5).binds (ps := ["_law_dice_here"]) (fun _ _ _ _ _ _ us hl => match us, hl with | [_], _ => rfl),
    a_is_integer := f6,
    d_is_integer := _,
    g_is_integer := mg_of X G a6,
    F_is_integer := fun_mk (st := s_is_integer) l6 c6 k6,
    B_is_integer := (fun_mk (st := s_is_integer) l6 c6 k6).binds (ps := ["value"]) (fun _ _ _ _ _ _ us hl => match us, hl with | [_], _ => rfl),
    a_Ratio___init__ := f7,
    d_Ratio___init__ := _,
    F_Ratio___init__ := fun_mk (st := s_Ratio___init__) l7 c7 k7,
    B_Ratio___init__ := (fun_mk (st := s_Ratio___init__) l7 c7 k7).binds (ps := ["self", "top", "bottom"]) (fun _ _ _ _ _ _ us hl => match us, hl with | [_, _, _], _ => rfl),
    K_Ratio := ⟨mk_Ratio, a7, i7, kc_Ratio⟩,
    a_Ratio_pair := f8,
    d_Ratio_pair := _,
    F_Ratio_pair := fun_mk (st := s_Ratio_pair) l8 c8 k8,
    B_Ratio_pair := (fun_mk (st := s_Ratio_pair) l8 c8 k8).binds (ps := ["self"]) (fun _ _ _ _ _ _ us hl => match us, hl with | [_], _ => rfl),
    p_Ratio_pair := u8,
    P_Ratio_pair := ⟨pa8, pb8, pc8, ⟨_, pd8⟩⟩,
    a__lowest := f9,
    d__lowest := _,
    g__lowest := mg_of X G a9,
    F__lowest := fun_mk (st := s__lowest) l9 c9 k9,
    B__lowest := (fun_mk (st := s__lowest) l9 c9 k9).binds (ps := ["top", "bottom"]) (fun _ _ _ _ _ _ us hl => match us, hl with | [_, _], _ => rfl),
    a_Ratio___add__ := f10,
    d_Ratio___add__ := _,
    F_Ratio___add__ := fun_mk (st := s_Ratio___add__) l10 c10 k10,
    B_Ratio___add__ := (fun_mk (st := s_Ratio___add__) l10 c10 k10).binds (ps := ["self", "other"]) (fun _ _ _ _ _ _ us hl => match us, hl with | [_, _], _ => rfl),
    M_Ratio___add__ := ⟨a10, i10, k10⟩,
    a_Ratio___sub__ := f11,
    d_Ratio___sub__ := _,
    F_Ratio___sub__ := fun_mk (st := s_Ratio___sub__) l11 c11 k11,
    B_Ratio___sub__ := (fun_mk (st := s_Ratio___sub__) l11 c11 k11).binds (ps := ["self", "other"]) (fun _ _ _ _ _ _ us hl => match us, hl with | [_, _], _ => rfl),
    M_Ratio___sub__ := ⟨a11, i11, k11⟩,
    a_Ratio___mul__ := f12,
    d_Ratio___mul__ := _,
    F_Ratio___mul__ := fun_mk (st := s_Ratio___mul__) l12 c12 k12,
    B_Ratio___mul__ := (fun_mk (st := s_Ratio___mul__) l12 c12 k12).binds (ps := ["self", "other"]) (fun _ _ _ _ _ _ us hl => match us, hl with | [_, _], _ => rfl),
    M_Ratio___mul__ := ⟨a12, i12, k12⟩,
    a_Ratio___neg__ := f13,
    d_Ratio___neg__ := _,
    F_Ratio___neg__ := fun_mk (st := s_Ratio___neg__) l13 c13 k13,
    B_Ratio___neg__ := (fun_mk (st := s_Ratio___neg__) l13 c13 k13).binds (ps := ["self"]) (fun _ _ _ _ _ _ us hl => match us, hl with | [_], _ => rfl),
    M_Ratio___neg__ := ⟨a13, i13, k13⟩,
    a__law_sum := f14,
    d__law_sum := _,
    g__law_sum := mg_of X G a14,
    F__law_sum := fun_mk (st := s__law_sum) l14 c14 k14,
    B__law_sum := (fun_mk (st := s__law_sum) l14 c14 k14).binds (ps := ["_law_pairs"]) (fun _ _ _ _ _ _ us hl => match us, hl with | [_], _ => rfl),
    a__law_minus := f15,
    d__law_minus := _,
    g__law_minus := mg_of X G a15,
    F__law_minus := fun_mk (st := s__law_minus) l15 c15 k15,
    B__law_minus := (fun_mk (st := s__law_minus) l15 c15 k15).binds (ps := ["_law_pair"]) (fun _ _ _ _ _ _ us hl => match us, hl with | [_], _ => rfl),
    a__law_product := f16,
    d__law_product := _,
    g__law_product := mg_of X G a16,
    F__law_product := fun_mk (st := s__law_product) l16 c16 k16,
    B__law_product := (fun_mk (st := s__law_product) l16 c16 k16).binds (ps := ["_law_one", "_law_other"]) (fun _ _ _ _ _ _ us hl => match us, hl with | [_, _], _ => rfl),
    a_Ratio___bool__ := f17,
    d_Ratio___bool__ := _,
    F_Ratio___bool__ := fun_mk (st := s_Ratio___bool__) l17 c17 k17,
    B_Ratio___bool__ := (fun_mk (st := s_Ratio___bool__) l17 c17 k17).binds (ps := ["self"]) (fun _ _ _ _ _ _ us hl => match us, hl with | [_], _ => rfl),
    M_Ratio___bool__ := ⟨a17, i17, k17⟩,
    a_Ratio_top := f18,
    d_Ratio_top := _,
    F_Ratio_top := fun_mk (st := s_Ratio_top) l18 c18 k18,
    B_Ratio_top := (fun_mk (st := s_Ratio_top) l18 c18 k18).binds (ps := ["self"]) (fun _ _ _ _ _ _ us hl => match us, hl with | [_], _ => rfl),
    p_Ratio_top := u18,
    P_Ratio_top := ⟨pa18, pb18, pc18, ⟨_, pd18⟩⟩,
    a_Ratio_bottom := f19,
    d_Ratio_bottom := _,
    F_Ratio_bottom := fun_mk (st := s_Ratio_bottom) l19 c19 k19,
    B_Ratio_bottom := (fun_mk (st := s_Ratio_bottom) l19 c19 k19).binds (ps := ["self"]) (fun _ _ _ _ _ _ us hl => match us, hl with | [_], _ => rfl),
    p_Ratio_bottom := u19,
    P_Ratio_bottom := ⟨pa19, pb19, pc19, ⟨_, pd19⟩⟩,
    a_Ratio_over := f20,
    d_Ratio_over := _,
    F_Ratio_over := fun_mk (st := s_Ratio_over) l20 c20 k20,
    B_Ratio_over := (fun_mk (st := s_Ratio_over) l20 c20 k20).binds (ps := ["self", "other"]) (fun _ _ _ _ _ _ us hl => match us, hl with | [_, _], _ => rfl),
    M_Ratio_over := ⟨a20, i20, k20⟩,
    a_Ratio___eq__ := f21,
    d_Ratio___eq__ := _,
    F_Ratio___eq__ := fun_mk (st := s_Ratio___eq__) l21 c21 k21,
    B_Ratio___eq__ := (fun_mk (st := s_Ratio___eq__) l21 c21 k21).binds (ps := ["self", "other"]) (fun _ _ _ _ _ _ us hl => match us, hl with | [_, _], _ => rfl),
    M_Ratio___eq__ := ⟨a21, i21, k21⟩,
    a__law_pairs_right := f22,
    d__law_pairs_right := _,
    g__law_pairs_right := mg_of X G a22,
    F__law_pairs_right := fun_mk (st := s__law_pairs_right) l22 c22 k22,
    B__law_pairs_right := (fun_mk (st := s__law_pairs_right) l22 c22 k22).binds (ps := ["_law_one", "_law_other", "_law_first", "_law_second"]) (fun _ _ _ _ _ _ us hl => match us, hl with | [_, _, _, _], _ => rfl),
    a__law_mixed := f23,
    d__law_mixed := _,
    g__law_mixed := mg_of X G a23,
    F__law_mixed := fun_mk (st := s__law_mixed) l23 c23 k23,
    B__law_mixed := (fun_mk (st := s__law_mixed) l23 c23 k23).binds (ps := ["_law_dice_here", "_law_items"]) (fun _ _ _ _ _ _ us hl => match us, hl with | [_, _], _ => rfl),
    a__is_ratios := f24,
    d__is_ratios := _,
    g__is_ratios := mg_of X G a24,
    F__is_ratios := fun_mk (st := s__is_ratios) l24 c24 k24,
    B__is_ratios := (fun_mk (st := s__is_ratios) l24 c24 k24).binds (ps := ["value"]) (fun _ _ _ _ _ _ us hl => match us, hl with | [_], _ => rfl),
    a_sum_of := f25,
    d_sum_of := _,
    g_sum_of := mg_of X G a25,
    F_sum_of := fun_mk (st := s_sum_of) l25 c25 k25,
    B_sum_of := (fun_mk (st := s_sum_of) l25 c25 k25).binds (ps := ["ratios"]) (fun _ _ _ _ _ _ us hl => match us, hl with | [_], _ => rfl),
    a__law_right := f26,
    d__law_right := _,
    g__law_right := mg_of X G a26,
    F__law_right := fun_mk (st := s__law_right) l26 c26 k26,
    B__law_right := (fun_mk (st := s__law_right) l26 c26 k26).binds (ps := ["_law_dice_here"]) (fun _ _ _ _ _ _ us hl => match us, hl with | [_], _ => rfl),
    a_law := fa,
    d_law := _,
    g_law := mg_of X G a27,
    F_law := fun_mk (st := s_law) l27 c27 k27,
    B_law := (fun_mk (st := s_law) l27 c27 k27).binds (ps := ["_law_script"]) (fun _ _ _ _ _ _ us hl => match us, hl with | [_], _ => rfl),
    b_abs := mg_none_of X G z_abs,
    b_all := mg_none_of X G z_all,
    b_bool := mg_none_of X G z_bool,
    b_int := mg_none_of X G z_int,
    b_isinstance := mg_none_of X G z_isinstance,
    b_len := mg_none_of X G z_len,
    b_list := mg_none_of X G z_list,
    b_max := mg_none_of X G z_max,
    b_min := mg_none_of X G z_min,
    b_range := mg_none_of X G z_range,
    b_repr := mg_none_of X G z_repr,
    b_tuple := mg_none_of X G z_tuple,
    i_gcd := mg_of X G im_gcd,
    t_BEYOND := t_BEYOND,
    v_BEYOND := mg_of X G w_BEYOND }
  exact ⟨_, fun s v => .of_eq rfl, fun base _ _ => ok_law T⟩
end Law
open PySem PySem.W PyProof.Rows
set_option maxRecDepth 100000 in
set_option maxHeartbeats 0 in
theorem PySem.Challenge.cw_touchrows_k04_whole_sums_and_products_holds : PySem.Challenge.rw_touchrows_k04_whole_sums_and_products.Holds := by
  w_on; o_law; k_head; (case hw => w_witness2)
  k_fill
  refine U.walkG (l := PySem.Challenge.rw_touchrows_k04_whole_sums_and_products) (n := 63) (k := 8) (x := "_law_script") (sp := Law.sp_law) rfl (by decide) rfl ⟨rfl, by decide, by decide⟩ (fun w h Y => kIn_of Y) ?F (fun K H a ns h1 h2 _ h3 => Law.enter K H a ns h1 h2 h3)
  case F =>
    intro w mg fa h KX G hmg
    refine' Law.all_mk KX G hmg ?aq_Ratio ?pg_Ratio ?hd_Ratio ?po_Ratio ?sa_Ratio ?sf_Ratio ?ha_Ratio ?hn_Ratio ?htk_Ratio ?hm_Ratio ?tyC_Ratio ?nn_Ratio ?nf_Ratio__top ?nf_Ratio__bottom ?a1 ?l1 ?c1 ?k1 ?a2 ?l2 ?c2 ?k2 ?a3 ?l3 ?c3 ?k3 ?a4 ?l4 ?c4 ?k4 ?a5 ?l5 ?c5 ?k5 ?a6 ?l6 ?c6 ?k6 ?a7 ?i7 ?l7 ?c7 ?k7 ?mk_Ratio ?kc_Ratio ?pa8 ?pb8 ?pc8 ?pd8 ?l8 ?c8 ?k8 ?a9 ?l9 ?c9 ?k9 ?a10 ?i10 ?l10 ?c10 ?k10 ?a11 ?i11 ?l11 ?c11 ?k11 ?a12 ?i12 ?l12 ?c12 ?k12 ?a13 ?i13 ?l13 ?c13 ?k13 ?a14 ?l14 ?c14 ?k14 ?a15 ?l15 ?c15 ?k15 ?a16 ?l16 ?c16 ?k16 ?a17 ?i17 ?l17 ?c17 ?k17 ?pa18 ?pb18 ?pc18 ?pd18 ?l18 ?c18 ?k18 ?pa19 ?pb19 ?pc19 ?pd19 ?l19 ?c19 ?k19 ?a20 ?i20 ?l20 ?c20 ?k20 ?a21 ?i21 ?l21 ?c21 ?k21 ?a22 ?l22 ?c22 ?k22 ?a23 ?l23 ?c23 ?k23 ?a24 ?l24 ?c24 ?k24 ?a25 ?l25 ?c25 ?k25 ?a26 ?l26 ?c26 ?k26 ?a27 ?l27 ?c27 ?k27 ?z_abs ?z_all ?z_bool ?z_int ?z_isinstance ?z_len ?z_list ?z_max ?z_min ?z_range ?z_repr ?z_tuple ?im_gcd ?w_BEYOND
    (case aq_Ratio => k_is); (case pg_Ratio => k_is); (case hd_Ratio => k_is); (case po_Ratio => k_is); (case sa_Ratio => k_is); (case sf_Ratio => k_is); (case ha_Ratio => k_is); (case hn_Ratio => k_is); (case htk_Ratio => k_is); (case hm_Ratio => k_is); (case tyC_Ratio => k_is); (case nn_Ratio => k_is); (case nf_Ratio__top => k_is); (case nf_Ratio__bottom => k_is); (case a1 => k_is); (case l1 => k_is); (case c1 => k_is); (case k1 => k_is); (case a2 => k_is); (case l2 => k_is); (case c2 => k_is); (case k2 => k_is); (case a3 => k_is); (case l3 => k_is); (case c3 => k_is); (case k3 => k_is); (case a4 => k_is); (case l4 => k_is); (case c4 => k_is); (case k4 => k_is); (case a5 => k_is); (case l5 => k_is); (case c5 => k_is); (case k5 => k_is); (case a6 => k_is); (case l6 => k_is); (case c6 => k_is); (case k6 => k_is); (case a7 => k_is); (case i7 => k_is); (case l7 => k_is); (case c7 => k_is); (case k7 => k_is); (case mk_Ratio => k_is); (case kc_Ratio => k_is); (case pa8 => k_is); (case pb8 => k_is); (case pc8 => k_is); (case pd8 => k_is); (case l8 => k_is); (case c8 => k_is); (case k8 => k_is); (case a9 => k_is); (case l9 => k_is); (case c9 => k_is); (case k9 => k_is); (case a10 => k_is); (case i10 => k_is); (case l10 => k_is); (case c10 => k_is); (case k10 => k_is); (case a11 => k_is); (case i11 => k_is); (case l11 => k_is); (case c11 => k_is); (case k11 => k_is); (case a12 => k_is); (case i12 => k_is); (case l12 => k_is); (case c12 => k_is); (case k12 => k_is); (case a13 => k_is); (case i13 => k_is); (case l13 => k_is); (case c13 => k_is); (case k13 => k_is); (case a14 => k_is); (case l14 => k_is); (case c14 => k_is); (case k14 => k_is); (case a15 => k_is); (case l15 => k_is); (case c15 => k_is); (case k15 => k_is); (case a16 => k_is); (case l16 => k_is); (case c16 => k_is); (case k16 => k_is); (case a17 => k_is); (case i17 => k_is); (case l17 => k_is); (case c17 => k_is); (case k17 => k_is); (case pa18 => k_is); (case pb18 => k_is); (case pc18 => k_is); (case pd18 => k_is); (case l18 => k_is); (case c18 => k_is); (case k18 => k_is); (case pa19 => k_is); (case pb19 => k_is); (case pc19 => k_is); (case pd19 => k_is); (case l19 => k_is); (case c19 => k_is); (case k19 => k_is); (case a20 => k_is); (case i20 => k_is); (case l20 => k_is); (case c20 => k_is); (case k20 => k_is); (case a21 => k_is); (case i21 => k_is); (case l21 => k_is); (case c21 => k_is); (case k21 => k_is); (case a22 => k_is); (case l22 => k_is); (case c22 => k_is); (case k22 => k_is); (case a23 => k_is); (case l23 => k_is); (case c23 => k_is); (case k23 => k_is); (case a24 => k_is); (case l24 => k_is); (case c24 => k_is); (case k24 => k_is); (case a25 => k_is); (case l25 => k_is); (case c25 => k_is); (case k25 => k_is); (case a26 => k_is); (case l26 => k_is); (case c26 => k_is); (case k26 => k_is); (case a27 => k_is); (case l27 => k_is); (case c27 => k_is); (case k27 => k_is); (case z_abs => k_is); (case z_all => k_is); (case z_bool => k_is); (case z_int => k_is); (case z_isinstance => k_is); (case z_len => k_is); (case z_list => k_is); (case z_max => k_is); (case z_min => k_is); (case z_range => k_is); (case z_repr => k_is); (case z_tuple => k_is); (case im_gcd => k_is); (case w_BEYOND => k_is)
