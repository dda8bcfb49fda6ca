import PyProof.Rows.All
import Wide.All
import OpenK.AllK
import Wide.FinOn
import HandS.ForMost
import HandS.Wide
import HandS.Steps
import HandS.StrMore
import HandS.TupAny
import HandS.Style
import HandS.Flow
import HandS.IsInst
import HandS.RaiseMore
import HandS.Gcd
import HandS.EndBits
import HandS.Walk
import PyProof.Rows.StrCut
import KE.KIntText
import PySem.Challenge.RW_touchrows_k00_whole_names_and_numbers
set_option Elab.async false
set_option linter.all false
set_option maxRecDepth 100000
set_option maxHeartbeats 4000000
/-! U: readings that compute by matching on the values, and a ledger of the objects that a def knows. -/
namespace U
open PySem PySem.Spec PyProof.Rows L2

section mono
variable {X : Cx}
theorem peM {e : Expr} {t t' : TE} (h : PE X e t) (m : ∀ σ H Q, t' σ H Q → t σ H Q) : PE X e t' := ⟨fun pins s σ H Q I q => h.run pins s σ H Q I (m σ H Q q)⟩
theorem ptM {e : Expr} {t t' : TT} (h : PT X e t) (m : ∀ σ H Q, t' σ H Q → t σ H Q) : PT X e t' := ⟨fun pins s σ H Q I q => h.run pins s σ H Q I (m σ H Q q)⟩
theorem pwM {e : Expr} {t t' : TT} (h : PW X e t) (m : ∀ σ H Q, t' σ H Q → t σ H Q) : PW X e t' := ⟨fun wh pins s σ H Q I q => h.run wh pins s σ H Q I (m σ H Q q)⟩
theorem psM {e : Stmt} {t t' : TS} (h : PS X e t) (m : ∀ D σ H, t' D σ H → t D σ H) : PS X e t' := ⟨fun pins s σ H D I q => h.run pins s σ H D I (m D σ H q)⟩
theorem opM {f : Value → Value → Sem Value} {r r' : R2} (h : OpR X f r) (m : ∀ x y H Q, r' x y H Q → r x y H Q) : OpR X f r' := fun pins s σ H x y v u Q I rx ry q => h pins s σ H x y v u Q I rx ry (m x y H Q q)
theorem caM {f : Value} {r r' : List V → Hp → VK → Prop} (h : CallR X f r) (m : ∀ xs H Q, r' xs H Q → r xs H Q) : CallR X f r' := fun pins s σ H xs us Q I r q => h pins s σ H xs us Q I r (m xs H Q q)
end mono

/-- a way of two: by the answer -/
@[irreducible] def br (c : Bool) (A B : Prop) : Prop := if c = true then A else B
theorem brT {A B : Prop} (h : A) : br true A B := by unfold br; exact h
theorem brF {A B : Prop} (h : B) : br false A B := by unfold br; rw [if_neg Bool.false_ne_true]; exact h
theorem brY {c : Bool} {A B : Prop} (e : c = true) (h : A) : br c A B := by subst e; exact brT h
theorem brN {c : Bool} {A B : Prop} (e : c = false) (h : B) : br c A B := by subst e; exact brF h
theorem br2 {c : Bool} {A B : Prop} (h1 : c = true → A) (h2 : c = false → B) : br c A B := by
  cases c with
  | true => exact brT (h1 rfl)
  | false => exact brF (h2 rfl)
theorem brD {p : Prop} [Decidable p] {A B : Prop} (h1 : p → A) (h2 : ¬ p → B) : br (decide p) A B := br2 (fun e => h1 (of_decide_eq_true e)) (fun e => h2 (of_decide_eq_false e))
theorem br_if {c : Bool} {A B : Prop} (h : br c A B) : if c = true then A else B := by unfold br at h; exact h

/-! ### names, choices -/
def uV (i : Nat) : TE := fun σ H Q => match σ[i]? with | some (some v) => Q v H | _ => False
section
variable {X : Cx} {pos : Pos}
theorem pev (i : Nat) {x : Str} {pos : Pos} (hN : X.N[i]? = some x := by rfl) (hv : Vis X.env.scope x := by first | exact Or.inl rfl | exact Or.inr (Or.inl rfl) | exact Or.inr (Or.inr rfl)) (hd : (x == ("__debug__" : Str)) = false := by decide)
    (hcd : (x == ("__classdict__" : Str)) = false := by decide) : PE X (.Name x pos) (uV i) := peM (pv i hN hv hd hcd) fun σ H Q h => by
  unfold uV at h
  split at h
  · exact ⟨_, by assumption, h⟩
  · exact h.elim
def uIf (t : TT) (ta tb : TE) : TE := fun σ H Q => t σ H fun c H1 => br c (ta σ H1 Q) (tb σ H1 Q)
def uIfS (c : TT) (t u : TS) : TS := fun D σ H => c σ H fun b H1 => br b (t D σ H1) (u D σ H1)
def uAnd (t u : TT) : TT := fun σ H Q => t σ H fun c H1 => br c (u σ H1 Q) (Q false H1)
def uOr (t u : TT) : TT := fun σ H Q => t σ H fun c H1 => br c (Q true H1) (u σ H1 Q)
/-- monotone readings of tests -/
structure MT (t : TT) : Prop where
  m : ∀ σ H Q Q', (∀ b H1, Q b H1 → Q' b H1) → t σ H Q → t σ H Q'
end
section
variable {X : Cx} {pos : Pos} {a b c : Expr} {ta tb te : TE} {tc td : TT} {t u : TS} {rest : List Expr} {xs ys : List Stmt}
theorem psIf (hc : PT X c tc) (ha : PSs X xs t) (hb : PSs X ys u) : PS X (.If c xs ys pos) (uIfS tc t u) := ⟨fun p s z H D I h => wpAny_If (thn (hc.run p s z H _ I h) fun k s1 ⟨H1, I1, q⟩ => by
  cases k with
  | true => exact ha.run p s1 z H1 D I1 (by unfold br at q; exact q)
  | false => exact hb.run p s1 z H1 D I1 (by unfold br at q; exact q))⟩
theorem peIf (hc : PT X c tc) (ha : PE X a ta) (hb : PE X b tb) : PE X (.IfExp c a b pos) (uIf tc ta tb) := ⟨fun p s z H Q I h => wpAny_IfExp (thn (hc.run p s z H _ I h) fun k s1 ⟨H1, I1, q⟩ => by
  cases k with
  | true => exact ha.run p s1 z H1 Q I1 (by unfold br at q; exact q)
  | false => exact hb.run p s1 z H1 Q I1 (by unfold br at q; exact q))⟩
theorem pwAnd (ha : PT X a tc) (hb : PW X (.BoolOp .And (b :: rest) pos) td) : PW X (.BoolOp .And (a :: b :: rest) pos) (uAnd tc td) := ⟨fun wh p s z H Q I h => isTrue_and (thn (ha.run p s z H _ I h) fun k s1 ⟨H1, I1, q⟩ => by
  cases k with
  | true => exact hb.run wh p s1 z H1 Q I1 (by unfold br at q; exact q)
  | false => exact ⟨H1, I1, by unfold br at q; exact q⟩)⟩
theorem pwOr (ha : PT X a tc) (hb : PW X (.BoolOp .Or (b :: rest) pos) td) : PW X (.BoolOp .Or (a :: b :: rest) pos) (uOr tc td) := ⟨fun wh p s z H Q I h => isTrue_or (thn (ha.run p s z H _ I h) fun k s1 ⟨H1, I1, q⟩ => by
  cases k with
  | true => exact ⟨H1, I1, by unfold br at q; exact q⟩
  | false => exact hb.run wh p s1 z H1 Q I1 (by unfold br at q; exact q))⟩
/-- and, or, not as values, the members bools -/
def uAndV (ta tb : TE) : TE := fun σ H Q => ta σ H fun x H1 => match x with | .bl k => br k (tb σ H1 Q) (Q (.bl false) H1) | _ => False
def uOrV (ta tb : TE) : TE := fun σ H Q => ta σ H fun x H1 => match x with | .bl k => br k (Q (.bl true) H1) (tb σ H1 Q) | _ => False
def uNotV (ta : TE) : TE := fun σ H Q => ta σ H fun x H1 => match x with | .bl k => Q (.bl (!k)) H1 | _ => False
theorem peAnd (ha : PE X a ta) (hb : PE X (.BoolOp .And (b :: rest) pos) tb) : PE X (.BoolOp .And (a :: b :: rest) pos) (uAndV ta tb) := ⟨fun p s z H Q I h => BoolOp_and (thn (ha.run p s z H _ I h) fun v s1 ⟨x, H1, I1, r1, q⟩ => by
  cases x with
  | bl k =>
    cases r1
    refine wpAny_truthy_bool ?_
    cases k with
    | true => exact hb.run p s1 z H1 Q I1 (by simp only [br] at q; exact q)
    | false => exact ⟨.bl false, H1, I1, rfl, by simp only [br] at q; exact q⟩
  | _ => exact (show False from q).elim)⟩
theorem peOr (ha : PE X a ta) (hb : PE X (.BoolOp .Or (b :: rest) pos) tb) : PE X (.BoolOp .Or (a :: b :: rest) pos) (uOrV ta tb) := ⟨fun p s z H Q I h => BoolOp_or (thn (ha.run p s z H _ I h) fun v s1 ⟨x, H1, I1, r1, q⟩ => by
  cases x with
  | bl k =>
    cases r1
    refine wpAny_truthy_bool ?_
    cases k with
    | true => exact ⟨.bl true, H1, I1, rfl, by simp only [br] at q; exact q⟩
    | false => exact hb.run p s1 z H1 Q I1 (by simp only [br] at q; exact q)
  | _ => exact (show False from q).elim)⟩
/-- a value's truth -/
def uTru (K : PySem.W.Frag) (x : V) (H : Hp) (Q : Bool → Hp → Prop) : Prop := match x with
  | .bl k => Q k H
  | .int i => Q (decide (i ≠ 0)) H
  | .non => Q false H
  | .str y => y.length ≤ sizeLine ∧ Q (decide (y.length ≠ 0)) H
  | .ref p => ∃ k, TruV K (.ref p) H k ∧ Q k H
  | _ => False
def uTrue (K : PySem.W.Frag) (ta : TE) : TT := fun σ H Q => ta σ H fun x H1 => uTru K x H1 Q
theorem ptV (ha : PE X a ta) (he : ∀ whole, isTrue a X.env whole = (do let v ← whole; standAt a.pos; holding [v] (truthy v)) := by intro _; rfl) : PT X a (uTrue X.K ta) := by
  refine ⟨fun p s z H Q I h => isTrue_plain (thn (ha.run p s z H _ I h) fun v s1 ⟨x, H1, I1, r1, q⟩ => ?_) (he _)⟩
  refine tru_ok p s1 z H1 x v Q I1 r1 ?_
  cases x with
  | non => exact ⟨false, rfl, q⟩
  | bl k => exact ⟨k, rfl, q⟩
  | int i =>
    refine ⟨_, rfl, ?_⟩
    have e : decide (i ≠ 0) = (i != 0) := by by_cases h0 : i = 0 <;> simp [h0]
    have q' : Q (decide (i ≠ 0)) H1 := q
    rw [e] at q'
    exact q'
  | str y =>
    obtain ⟨q1, q2⟩ := (show y.length ≤ sizeLine ∧ Q (decide (y.length ≠ 0)) H1 from q)
    refine ⟨_, ⟨q1, rfl⟩, ?_⟩
    have e : decide (y.length ≠ 0) = ((y.length : Int) != 0) := by by_cases h0 : y.length = 0 <;> simp [h0]
    rw [e] at q2
    exact q2
  | ref r => exact q
  | byt _ => exact (show False from q).elim
  | flt _ => exact (show False from q).elim
  | ty _ => exact (show False from q).elim
end

/-! ### operators by matching -/
section
variable {X : Cx}
def uAdd (K : PySem.W.Frag) : R2 := fun x y H Q => match x, y with
  | .int i, .int j => Q (.int (i + j)) H
  | .str i, .str j => i.length + j.length ≤ sizeLine ∧ Q (.str (i ++ j)) H
  | .ref a, .ref b => rCat (.ref a) (.ref b) H Q ∨ rCatA K (.ref a) (.ref b) H Q
  | _, _ => False
theorem opAdd : OpR X (binaryOp .Add) (uAdd X.K) := fun p s z H x y v u Q I rx ry h => by
  unfold uAdd at h
  split at h
  · exact op_add p s z H _ _ v u Q I rx ry ⟨_, _, rfl, rfl, h⟩
  · exact op_add_str p s z H _ _ v u Q I rx ry ⟨_, _, rfl, rfl, h.1, h.2⟩
  · rcases h with h | h
    · exact op_cat p s z H _ _ v u Q I rx ry h
    · exact op_catA p s z H _ _ v u Q I rx ry h
  · exact h.elim
def uSub : R2 := fun x y H Q => match x, y with | .int i, .int j => Q (.int (i - j)) H | _, _ => False
theorem opSub : OpR X (binaryOp .Sub) uSub := fun p s z H x y v u Q I rx ry h => by
  unfold uSub at h
  split at h
  · exact op_sub p s z H _ _ v u Q I rx ry ⟨_, _, rfl, rfl, h⟩
  · exact h.elim
/-- the sizes of a product's factors -/
def FitM (i j : Int) : Prop := i.natAbs < 2 ^ 400000 ∧ j.natAbs < 2 ^ 400000
def uMul : R2 := fun x y H Q => match x, y with
  | .int i, .int j => CMulW i j ∧ Q (.int (i * j)) H
  | .ref a, .int j => rRep (.ref a) (.int j) H Q
  | _, _ => False
theorem opMul : OpR X (binaryOp .Mult) uMul := fun p s z H x y v u Q I rx ry h => by
  unfold uMul at h
  split at h
  · exact op_mulW p s z H _ _ v u Q I rx ry ⟨_, _, rfl, rfl, h.1, h.2⟩
  · exact op_rep p s z H _ _ v u Q I rx ry h
  · exact h.elim
def uDiv : R2 := fun x y H Q => match x, y with | .int i, .int j => CDivW i j ∧ Q (.int (i / j)) H | _, _ => False
theorem opDiv : OpR X (binaryOp .FloorDiv) uDiv := fun p s z H x y v u Q I rx ry h => by
  unfold uDiv at h
  split at h
  · exact op_fdivW p s z H _ _ v u Q I rx ry ⟨_, _, rfl, rfl, h.1, h.2⟩
  · exact h.elim
def uMod : R2 := fun x y H Q => match x, y with | .int i, .int j => 0 < j ∧ Q (.int (i % j)) H | _, _ => False
theorem opMod : OpR X (binaryOp .Mod) uMod := fun p s z H x y v u Q I rx ry h => by
  unfold uMod at h
  split at h
  · exact op_mod p s z H _ _ v u Q I rx ry ⟨_, _, rfl, rfl, h.1, h.2⟩
  · exact h.elim
def uPow : R2 := fun x y H Q => match x, y with | .int i, .int j => CPow i j ∧ Q (.int (i ^ j.toNat)) H | _, _ => False
theorem opPow : OpR X (binaryOp .Pow) uPow := fun p s z H x y v u Q I rx ry h => by
  unfold uPow at h
  split at h
  · exact op_pow p s z H _ _ v u Q I rx ry ⟨_, _, rfl, rfl, h.1, h.2⟩
  · exact h.elim
def uNeg : V → Hp → VK → Prop := fun x H Q => match x with | .int i => Q (.int (-i)) H | _ => False
theorem unNeg : UnR X (unaryOp .USub) uNeg := fun p s z H x v Q I rx h => by
  unfold uNeg at h
  split at h
  · exact un_neg p s z H _ v Q I rx ⟨_, rfl, h⟩
  · exact h.elim

/-! ### comparisons -/
def uEq (K : PySem.W.Frag) : R2 := fun x y H Q => match scal x y with
  | true => Q (.bl (decide (x = y))) H
  | false => rEqD K x y H Q
theorem opEq (hu : X.A.units + 64 < cLine) : OpR X (compareOp .Eq) (uEq X.K) := fun p s z H x y v u Q I rx ry h => by
  unfold uEq at h
  split at h
  · exact op_eq p s z H _ _ v u Q I rx ry ⟨by assumption, h⟩
  · exact op_eqD hu p s z H _ _ v u Q I rx ry h
def uNe (K : PySem.W.Frag) : R2 := fun x y H Q => match scal x y with
  | true => Q (.bl (!decide (x = y))) H
  | false => rNeD K x y H Q
theorem opNe (hu : X.A.units + 64 < cLine) : OpR X (compareOp .NotEq) (uNe X.K) := fun p s z H x y v u Q I rx ry h => by
  unfold uNe at h
  split at h
  · exact op_ne p s z H _ _ v u Q I rx ry ⟨by assumption, h⟩
  · exact op_neD hu p s z H _ _ v u Q I rx ry h
def uLt : R2 := fun x y H Q => match x, y with
  | .int i, .int j => Q (.bl (decide (i < j))) H
  | .str i, .str j => Q (.bl (decide (i.cps.toList < j.cps.toList))) H
  | _, _ => False
theorem opLt : OpR X (compareOp .Lt) uLt := fun p s z H x y v u Q I rx ry h => by
  unfold uLt at h
  split at h
  · exact op_lt p s z H _ _ v u Q I rx ry ⟨_, _, rfl, rfl, h⟩
  · exact op_lt_str p s z H _ _ v u Q I rx ry ⟨_, _, rfl, rfl, h⟩
  · exact h.elim
def uLe : R2 := fun x y H Q => match x, y with | .int i, .int j => Q (.bl (decide (i ≤ j))) H | _, _ => False
theorem opLe : OpR X (compareOp .LtE) uLe := fun p s z H x y v u Q I rx ry h => by
  unfold uLe at h
  split at h
  · exact op_le p s z H _ _ v u Q I rx ry ⟨_, _, rfl, rfl, h⟩
  · exact h.elim
def uGt : R2 := fun x y H Q => match x, y with | .int i, .int j => Q (.bl (decide (j < i))) H | _, _ => False
theorem opGt : OpR X (compareOp .Gt) uGt := fun p s z H x y v u Q I rx ry h => by
  unfold uGt at h
  split at h
  · exact op_gt p s z H _ _ v u Q I rx ry ⟨_, _, rfl, rfl, h⟩
  · exact h.elim
def uGe : R2 := fun x y H Q => match x, y with | .int i, .int j => Q (.bl (decide (j ≤ i))) H | _, _ => False
theorem opGe : OpR X (compareOp .GtE) uGe := fun p s z H x y v u Q I rx ry h => by
  unfold uGe at h
  split at h
  · exact op_ge p s z H _ _ v u Q I rx ry ⟨_, _, rfl, rfl, h⟩
  · exact h.elim
/-- a sign in a text -/
def uInS : R2 := fun x y H Q => match x, y with
  | .str c, .str z => ∃ n, c = ⟨#[n]⟩ ∧ Q (.bl (decide (n ∈ z.cps.toList))) H
  | _, _ => False
theorem opInS : OpR X (compareOp .In) uInS := fun p s z H x y v u Q I rx ry h => by
  unfold uInS at h
  split at h
  · obtain ⟨n, e, h⟩ := h
    subst e
    exact op_in_sign p s z H _ _ v u Q I rx ry ⟨_, _, rfl, rfl, h⟩
  · exact h.elim
def uNotInS : R2 := fun x y H Q => match x, y with
  | .str c, .str z => ∃ n, c = ⟨#[n]⟩ ∧ Q (.bl (!decide (n ∈ z.cps.toList))) H
  | _, _ => False
theorem opNotInS : OpR X (compareOp .NotIn) uNotInS := fun p s z H x y v u Q I rx ry h => by
  unfold uNotInS at h
  split at h
  · obtain ⟨n, e, h⟩ := h
    subst e
    exact op_notIn_sign p s z H _ _ v u Q I rx ry ⟨_, _, rfl, rfl, h⟩
  · exact h.elim
end
/-- a chain of two comparisons -/
def uChain (r r' : R2) (ta tb tc : TE) : TE := fun σ H Q => ta σ H fun x H1 => tb σ H1 fun y H2 => r x y H2 fun z H3 => match z with
  | .bl k => br k (tc σ H3 fun w H4 => r' y w H4 Q) (Q (.bl false) H3)
  | _ => False
end U

namespace U
open PySem PySem.Spec PyProof.Rows L2
theorem foldl_arr (x : Array Nat) : ∀ (n : Nat) (a : Array Nat), ((List.replicate n x).foldl (· ++ ·) a).toList = a.toList ++ (List.replicate n x.toList).flatten
  | 0, a => by simp
  | n + 1, a => by
    rw [List.replicate_succ, List.foldl_cons, foldl_arr x n, List.replicate_succ, List.flatten_cons]
    simp
theorem flat_nil : ∀ k : Nat, (List.replicate k ([] : List Nat)).flatten = []
  | 0 => rfl
  | k + 1 => by rw [List.replicate_succ, List.flatten_cons, flat_nil k]; rfl
theorem mul_list (x : Str) (n : Int) (h0 : 0 ≤ n) : (Txt.mul x n).cps.toList = (List.replicate n.toNat x.cps.toList).flatten := by
  unfold Txt.mul
  split
  · rw [show n.toNat = 0 by omega]; rfl
  · split
    · rename_i h1 h2
      rw [Bool.or_eq_true] at h2
      rcases h2 with h2 | h2
      · obtain rfl : n = 1 := by simpa using h2
        simp
      · have h3 : x.cps.toList.length = 0 := by simpa [Str.length] using h2
        rw [List.eq_nil_of_length_eq_zero h3, flat_nil]
    · rw [foldl_arr]; rfl
theorem mul_ok {x : Str} {n : Int} (h0 : 0 ≤ n) (h1 : n ≤ 1000000) (h : x.length * n.toNat ≤ 1000000) : MulOk x n := by
  refine ⟨?_, fun h2 _ => ?_, fun _ _ => ?_⟩
  · rw [decide_eq_false (show ¬ n < -(2 ^ 63 : Int) by omega), decide_eq_false (show ¬ n ≥ (2 ^ 63 : Int) by omega)]; rfl
  · intro z
    have hx : x.length ≤ 1000000 := Nat.le_trans (by
      have h5 := Nat.mul_le_mul_left x.length (show 1 ≤ n.toNat by omega)
      omega) h
    have h3 : (2 ^ 63 - 1 : Int) / n ≥ 1000000 := (Int.le_ediv_iff_mul_le (by omega)).mpr (by omega)
    omega
  · unfold Builtin.Str.tooLong
    have := sizeLine_eq
    simp
    omega
section
variable {X : Cx}
/-- a product, also of a text -/
def uMulT : R2 := fun x y H Q => match x, y with
  | .str i, .int j => (0 ≤ j ∧ j ≤ 1000000 ∧ i.length * j.toNat ≤ 1000000) ∧ Q (.str (Txt.mul i j)) H
  | _, _ => uMul x y H Q
theorem opMulT : OpR X (binaryOp .Mult) uMulT := fun p s z H x y v u Q I rx ry h => by
  unfold uMulT at h
  split at h
  · obtain ⟨⟨h0, h1, h2⟩, q⟩ := h
    obtain ⟨t, rfl⟩ := rx
    obtain ⟨t', rfl⟩ := ry
    exact SB.mul (mul_ok h0 h1 h2) fun t' k => ⟨.str _, H, I.tok k, ⟨_, rfl⟩, q⟩
  · exact opMul p s z H _ _ v u Q I rx ry h

/-! ### calls of built-ins -/
def uLen (K : PySem.W.Frag) : List V → Hp → VK → Prop := fun vs H Q => match vs with
  | [.str y] => y.length ≤ sizeLine ∧ Q (.int y.length) H
  | [.ref p] => ∃ xs, (SqL K H p xs ∨ SqT K H p xs) ∧ Q (.int xs.length) H
  | _ => False
theorem caLen : CallR X (.builtin "len") (uLen X.K) := fun p s z H xs us Q I r h => by
  unfold uLen at h
  split at h
  · exact call_len_str p s z H _ us Q I r ⟨_, rfl, h.1, h.2⟩
  · obtain ⟨ys, h1, h2⟩ := h
    exact call_len_seq p s z H _ us Q I r ⟨_, ys, rfl, h1, h2⟩
  · exact h.elim
def uMax (vs : List V) (H : Hp) (Q : VK) : Prop := match vs with | [.int i, .int j] => Q (.int (max i j)) H | _ => False
theorem caMax (hc : X.calm = true) : CallR X (.builtin "max") uMax := fun p s z H xs us Q I r h => by
  unfold uMax at h
  split at h
  · refine call_max2 hc p s z H _ us Q I r ⟨_, _, rfl, ?_⟩
    rename_i i j
    have e : (if j > i then j else i) = max i j := by omega
    rw [e]; exact h
  · exact h.elim
def uMin (vs : List V) (H : Hp) (Q : VK) : Prop := match vs with | [.int i, .int j] => Q (.int (min i j)) H | _ => False
theorem caMin (hc : X.calm = true) : CallR X (.builtin "min") uMin := fun p s z H xs us Q I r h => by
  unfold uMin at h
  split at h
  · refine call_min2 hc p s z H _ us Q I r ⟨_, _, rfl, ?_⟩
    rename_i i j
    have e : (if j < i then j else i) = min i j := by omega
    rw [e]; exact h
  · exact h.elim
def uAbs (vs : List V) (H : Hp) (Q : VK) : Prop := match vs with | [.int i] => Q (.int i.natAbs) H | _ => False
theorem caAbs : CallR X (.builtin "abs") uAbs := fun p s z H xs us Q I r h => by
  unfold uAbs at h
  split at h
  · refine call_abs p s z H _ us Q I r ⟨_, rfl, ?_⟩
    rename_i i
    have e : (if i < 0 then -i else i) = (i.natAbs : Int) := by omega
    rw [e]; exact h
  · exact h.elim
def uInt (vs : List V) (H : Hp) (Q : VK) : Prop := match vs with | [.int i] => Q (.int i) H | [.bl k] => Q (.int (if k then 1 else 0)) H | _ => False
theorem caInt : CallR X (.type "int") uInt := fun p s z H xs us Q I r h => by
  unfold uInt at h
  split at h
  · exact call_int1 p s z H _ us Q I r (.inl ⟨_, rfl, h⟩)
  · exact call_int1 p s z H _ us Q I r (.inr ⟨_, rfl, h⟩)
  · exact h.elim
def uStr (vs : List V) (H : Hp) (Q : VK) : Prop := match vs with | [.int i] => i.natAbs.log2 < 1920 ∧ Q (.str (toString i)) H | [.str a] => Q (.str a) H | _ => False
theorem caStr : CallR X (.type "str") uStr := fun p s z H xs us Q I r h => by
  unfold uStr at h
  split at h
  · exact call_str_int p s z H _ us Q I r ⟨_, rfl, h.1, h.2⟩
  · exact SkE.call_str_str p s z H _ us Q I r ⟨_, rfl, h⟩
  · exact h.elim
/-- repr of data at any depth: a list or a tuple -/
def uRepr (K : PySem.W.Frag) (vs : List V) (H : Hp) (Q : VK) : Prop := match vs with
  | [.ref a] => ∃ d, Dp K H (.ref a) d ∧ d.showable = true ∧ SeqAt.shaped d = true ∧ d.shown.length ≤ sizeLine ∧ Q (.str d.shown) H
  | _ => False
theorem caRepr (hg : X.A.guards = some []) (hu : X.A.units + 70 < cLine) : CallR X (.builtin "repr") (uRepr X.K) := fun p s z H xs us Q I r h => by
  unfold uRepr at h
  split at h
  · obtain ⟨d, hd, h1, h2, h3, q⟩ := h
    obtain ⟨u, rfl, ru⟩ := L2.vals1 r
    cases (show u = Value.ref _ from ru)
    obtain ⟨as, rd⟩ := Dp.reads I d _ _ hd rfl
    have hdep := SeqAt.depth_of_shaped h2
    refine repr_of_reads' rd h1 (PyData.noDict_hsm (PyData.hasDict_of_canLay d (SeqAt.canLay_of_shaped h2))) hg (by omega) (fun _ _ e => e) (fun h' u tk k => ?_) h3
    exact ⟨.str d.shown, H, I.kept (t' := tk) k, ⟨_, rfl⟩, q⟩
  · exact h.elim
/-- an item by its place -/
def uIx (K : PySem.W.Frag) : R2 := fun x y H Q => match x, y with
  | .str z, .int i => z.length ≤ sizeLine ∧ ∃ c, atI z.cps.toList i = some c ∧ Q (.str ⟨#[c]⟩) H
  | .ref p, .int i => ∃ xs v, (SqL K H p xs ∨ SqT K H p xs) ∧ atI xs i = some v ∧ Q v H
  | _, _ => False
theorem ixU : IxR X (uIx X.K) := fun va sl p s z H x y v u Q I rx ry h hs => by
  unfold uIx at h
  split at h
  · obtain ⟨h1, c, h2, q⟩ := h
    exact ix_str va sl p s z H _ _ v u Q I rx ry ⟨_, _, c, rfl, rfl, h1, h2, q⟩ hs
  · obtain ⟨xs, w, h1 | h1, h2, q⟩ := h
    · exact ix_list va sl p s z H _ _ v u Q I rx ry ⟨_, xs, _, w, rfl, rfl, h1, h2, q⟩ hs
    · exact ix_tup va sl p s z H _ _ v u Q I rx ry ⟨_, xs, _, w, rfl, rfl, h1, h2, q⟩ hs
  · exact h.elim
end

/-! ### the ledger: what a def knows of the heap -/
/-- H0 the heap at the start, D what may change of it; F what stands still, M what may still change, each by its address -/
structure At (H0 : Hp) (D : List Addr) (F M : List (Addr × HO)) (H : Hp) : Prop where
  fr : ∀ a o, H0 a = some o → a ∉ D → H a = some o
  fa : ∀ p ∈ F, H p.1 = some p.2
  mu : ∀ p ∈ M, H p.1 = some p.2
  mf : ∀ p ∈ M, p.1 ∈ D ∨ H0 p.1 = none
  df : ∀ p ∈ M, ∀ q ∈ F, p.1 ≠ q.1
  nd : (M.map (·.1)).Nodup
section
variable {H0 H H' : Hp} {D : List Addr} {F M : List (Addr × HO)} {a p : Addr} {o u : HO}
theorem At.start (H : Hp) : At H [] [] [] H := ⟨fun _ _ h _ => h, fun _ h => absurd h List.not_mem_nil, fun _ h => absurd h List.not_mem_nil, fun _ h => absurd h List.not_mem_nil, fun _ h => absurd h List.not_mem_nil, List.nodup_nil⟩
/-- the dice alone may change -/
theorem At.start1 (h : H a = some o) : At H [a] [] [(a, o)] H := ⟨fun _ _ e _ => e, fun _ h => absurd h List.not_mem_nil, fun p hp => by
  obtain rfl := List.mem_singleton.mp hp
  exact h, fun p hp => .inl (by obtain rfl := List.mem_singleton.mp hp; exact List.mem_singleton.mpr rfl), fun _ _ _ h => absurd h List.not_mem_nil, by simp⟩
theorem At.get (L : At H0 D F M H) (h : (a, o) ∈ F) : H a = some o := L.fa _ h
theorem At.getM (L : At H0 D F M H) (h : (a, o) ∈ M) : H a = some o := L.mu _ h
/-- what is known of an object that doesn't change -/
theorem At.know (L : At H0 D F M H) (h : H a = some o) (hM : a ∉ M.map (·.1)) : At H0 D ((a, o) :: F) M H := ⟨L.fr, fun p hp => by
  rcases List.mem_cons.mp hp with rfl | hp
  · exact h
  · exact L.fa p hp, L.mu, L.mf, fun p hp q hq e => by
  rcases List.mem_cons.mp hq with rfl | hq
  · exact hM (List.mem_map.mpr ⟨p, hp, e⟩)
  · exact L.df p hp q hq e, L.nd⟩
theorem At.new (L : At H0 D F M H) (h : H p = none) : At H0 D ((p, o) :: F) M (upd H p o) := ⟨fun b u e n => by
  have q := L.fr b u e n
  rw [upd_ne (ne_of_none q h)]; exact q, fun q hq => by
  rcases List.mem_cons.mp hq with rfl | hq
  · exact upd_same
  · rw [upd_ne (ne_of_none (L.fa q hq) h)]; exact L.fa q hq, fun q hq => by
  rw [upd_ne (ne_of_none (L.mu q hq) h)]; exact L.mu q hq, L.mf, fun q hq r hr e => by
  rcases List.mem_cons.mp hr with rfl | hr
  · have e2 := L.mu q hq
    rw [show q.1 = p from e, h] at e2
    cases e2
  · exact L.df q hq r hr e, L.nd⟩
theorem At.no0 (L : At H0 D F M H) (hD : ∀ d ∈ D, ∃ u, H d = some u) (h : H p = none) : H0 p = none := by
  cases e : H0 p with
  | none => rfl
  | some u =>
    by_cases hp : p ∈ D
    · obtain ⟨w, e2⟩ := hD p hp
      rw [h] at e2; cases e2
    · rw [L.fr p u e hp] at h; cases h
theorem At.newM (L : At H0 D F M H) (hD : ∀ d ∈ D, ∃ u, H d = some u) (h : H p = none) : At H0 D F ((p, o) :: M) (upd H p o) := ⟨(L.new (o := o) h).fr, fun q hq => (L.new (o := o) h).fa q (List.mem_cons_of_mem _ hq), fun q hq => by
  rcases List.mem_cons.mp hq with rfl | hq
  · exact upd_same
  · exact (L.new (o := o) h).mu q hq, fun q hq => by
  rcases List.mem_cons.mp hq with rfl | hq
  · exact .inr (L.no0 hD h)
  · exact L.mf q hq, fun q hq r hr e => by
  rcases List.mem_cons.mp hq with rfl | hq
  · have e2 := L.fa r hr
    rw [← show p = r.1 from e, h] at e2; cases e2
  · exact L.df q hq r hr e, by
  rw [List.map_cons]
  refine List.nodup_cons.mpr ⟨fun z => ?_, L.nd⟩
  obtain ⟨q, hq, e⟩ := List.mem_map.mp z
  have e2 := L.mu q hq
  rw [show q.1 = p from e, h] at e2; cases e2⟩
/-- the first of M changes -/
theorem At.set (L : At H0 D F ((a, o) :: M) H) (h1 : ∀ b u, H b = some u → b ≠ a → H' b = some u) (h2 : H' a = some u) : At H0 D F ((a, u) :: M) H' := ⟨fun b w e n => h1 b w (L.fr b w e n) (fun z => by
  subst z
  rcases L.mf _ (List.mem_cons_self ..) with z | z
  · exact n z
  · rw [e] at z; cases z), fun q hq => h1 _ _ (L.fa q hq) (fun z => L.df _ (List.mem_cons_self ..) q hq z.symm), fun q hq => by
  rcases List.mem_cons.mp hq with rfl | hq
  · exact h2
  · refine h1 _ _ (L.mu q (List.mem_cons_of_mem _ hq)) fun z => ?_
    have := L.nd
    rw [List.map_cons] at this
    exact (List.nodup_cons.mp this).1 (List.mem_map.mpr ⟨q, hq, z⟩), fun q hq => by
  rcases List.mem_cons.mp hq with rfl | hq
  · exact L.mf (a, o) (List.mem_cons_self ..)
  · exact L.mf q (List.mem_cons_of_mem _ hq), fun q hq r hr => by
  rcases List.mem_cons.mp hq with rfl | hq
  · exact L.df (a, o) (List.mem_cons_self ..) r hr
  · exact L.df q (List.mem_cons_of_mem _ hq) r hr, by have := L.nd; rw [List.map_cons] at this ⊢; exact this⟩
theorem At.upd (L : At H0 D F ((a, o) :: M) H) : At H0 D F ((a, u) :: M) (L2.upd H a u) := L.set (fun b w e n => by rw [upd_ne n]; exact e) upd_same
theorem memSwap {α : Type} {x q r : α} {l : List α} (h : x ∈ r :: q :: l) : x ∈ q :: r :: l := by
  rcases List.mem_cons.mp h with rfl | h
  · exact .tail _ (.head _)
  · rcases List.mem_cons.mp h with rfl | h
    · exact .head _
    · exact .tail _ (.tail _ h)
/-- M in another order -/
theorem At.swap {q r : Addr × HO} (L : At H0 D F (q :: r :: M) H) : At H0 D F (r :: q :: M) H := ⟨L.fr, L.fa, fun x hx => L.mu x (memSwap hx), fun x hx => L.mf x (memSwap hx), fun x hx => L.df x (memSwap hx), by
  have := L.nd
  simp only [List.map_cons, List.nodup_cons, List.mem_cons, not_or] at this ⊢
  exact ⟨⟨fun z => this.1.1 z.symm, this.2.1⟩, this.1.2, this.2.2⟩⟩
/-- the first of M stands still from here on -/
theorem At.still (L : At H0 D F ((a, o) :: M) H) : At H0 D ((a, o) :: F) M H := ⟨L.fr, fun q hq => by
  rcases List.mem_cons.mp hq with rfl | hq
  · exact L.mu _ (List.mem_cons_self ..)
  · exact L.fa q hq, fun q hq => L.mu q (List.mem_cons_of_mem _ hq), fun q hq => L.mf q (List.mem_cons_of_mem _ hq), fun q hq r hr e => by
  rcases List.mem_cons.mp hr with rfl | hr
  · have := L.nd
    rw [List.map_cons] at this
    exact (List.nodup_cons.mp this).1 (List.mem_map.mpr ⟨q, hq, e⟩)
  · exact L.df q (List.mem_cons_of_mem _ hq) r hr e, by have := L.nd; rw [List.map_cons] at this; exact (List.nodup_cons.mp this).2⟩
/-- behind what only adds -/
theorem At.same (L : At H0 D F M H) (h : ∀ b u, H b = some u → H' b = some u) : At H0 D F M H' := ⟨fun b w e n => h _ _ (L.fr b w e n), fun q hq => h _ _ (L.fa q hq), fun q hq => h _ _ (L.mu q hq), L.mf, L.df, L.nd⟩
/-- forget -/
theorem At.less {F' : List (Addr × HO)} (L : At H0 D F M H) (h : ∀ p ∈ F', p ∈ F) : At H0 D F' M H := ⟨L.fr, fun q hq => L.fa q (h q hq), L.mu, L.mf, fun q hq r hr => L.df q hq r (h r hr), L.nd⟩
end
end U

/-! U3: promises of defs that are called where no repr is under way (repr of a list asks for that). -/
namespace U
open PySem PySem.Spec PyProof.Rows L2
/-- a def's promise, wherever no repr is under way -/
structure FnG (P : Program) (w : World) (K : PySem.W.Frag) (mg : Str → Option Value) (base : Heap) (CX : CXT) (k : Nat) (f : Addr) (fd : FuncData) (ps : List Str) (sp : Sp) : Prop where
  len : ∀ vs H Q E, sp vs H Q E → vs.length = ps.length
  run : ∀ (A : Around) (outer : List Env) (s : Shared) (H : Hp) (args : Args) (us : List Value) (vs : List V) (Q : VK) (E : XK), A.guards = some [] → Room k A → Env0 P w K mg base A outer s H → BindsTo s fd args (ps.zip us) → Vals vs us →
    sp vs H Q E → codeAny (model P w) A (.call (.ref f) args) (CR CX outer P w H s Q E) s
section
variable {P : Program} {w : World} {K : PySem.W.Frag} {mg : Str → Option Value} {base : Heap} {CX : CXT} {k j : Nat} {f : Addr} {fd : FuncData} {ps N : List Str} {sp : Sp} {st : Stmt} {nm qual : Str}
theorem FnG.of (F : FnOk P w K mg base CX k f fd ps sp) : FnG P w K mg base CX k f fd ps sp := ⟨F.len, fun A o s H ar us vs Q E _ => F.run A o s H ar us vs Q E⟩
theorem FnG.mono (F : FnG P w K mg base CX j f fd ps sp) (h : j ≤ k) : FnG P w K mg base CX k f fd ps sp := ⟨F.len, fun A o s H ar us vs Q E g r => F.run A o s H ar us vs Q E g (r.mono h)⟩
/-- a def by its body, where no repr is under way -/
theorem okG (F : Fun K nm qual st f fd) (S : FnScope N ps (defScope st)) (len : ∀ vs H Q E, sp vs H Q E → vs.length = ps.length)
    (body : ∀ (cdv : Value) (A : Around) (outer : List Env) (s : Shared) (H : Hp) (vs : List V) (Q : VK) (E : XK), A.guards = some [] → Room k (A.deeper (envOfC qual (defScope st) s.heap.objs.size f cdv)) → sp vs H Q E →
      ∃ t, PSs (cxOf CX P w K mg base N qual (defScope st) f cdv A outer s H E) (defBody st) t ∧ t { nx := fun _ H' => Q .non H', rt := Q } (start N vs) H) : FnG P w K mg base CX (k + 1) f fd ps sp := by
  obtain ⟨oc, od, kV, doc, pm, an, cdv, ct, osl, rfl, lk, hcd⟩ := F.ex
  refine ⟨len, fun A outer s H args us vs Q E hg hr e0 hb r hsp => ?_⟩
  have kin : K.In s.heap := e0.mod.kin.keeps fun b o z => (e0.bs b o z).1
  have nol : s.heap.NoLimit := e0.mod.nolimit.keeps fun b o z => (e0.bs b o z).1
  refine codeAny_call_function hr.depth (kin _ _ lk) rfl S.co S.gen rfl (PySem.W.codeRec_of kin hcd) (hb _ _ _ _ ?_)
  refine wpAny_newFunctionEnv_cells S.kind (fun ⟨n, v⟩ hy => (S.par n (List.of_mem_zip hy).1).elim .inl fun q => .inr ⟨q, PySem.W.cellsFrom_some _ _ _ (.inl q)⟩) fun env he s1 x => ?_
  subst he
  refine ⟨nol.keeps x.toInCall.keep, codeAny_func ?_⟩
  obtain ⟨t, ht, hq⟩ := body cdv A outer s H vs Q E hg (hr.deeper _) hsp
  have I0 := inv_start (CX := CX) (E := E) S hr.hd e0 (len _ _ _ _ hsp) r x
  refine wpAny_mono (ht.run [] s1 _ H _ I0 hq) (fun fl s' hs => ?_) fun e s' hs => hs
  cases fl with
  | ret u => exact let ⟨v, _, H', J, rv, q⟩ := hs; ⟨v, H', J.os, J.bare, J.base, J.hok, rv, q⟩
  | next => exact let ⟨_, H', J, q⟩ := hs; ⟨V.non, H', J.os, J.bare, J.base, J.hok, rfl, q⟩
  | brk => exact let ⟨_, _, _, q⟩ := hs; False.elim q
  | cont => exact let ⟨_, _, _, q⟩ := hs; False.elim q
end
section
variable {X : Cx} {CX : CXT} {k : Nat} {f : Addr} {fd : FuncData} {ps : List Str} {sp : Sp} {dvs : List V} {ds : List Value} {E : XK} {x : Str} {p pos : Pos} {e : Expr} {es : List Expr} {t : TA}
theorem runG {pins : List (Addr × Obj)} {σ : L2.St} {H : Hp} {s : Shared} {Q : VK} {us : List Value} {vs : List V} (F : FnG X.prog X.w X.K X.mg X.base CX k f fd ps sp) (hg : X.A.guards = some []) (hr : Room k X.A) (hb : Binds X.K fd ps ds) (hd : Vals dvs ds) (hx : Passes CX X E)
    (I : Inv X pins σ H s) (r : Vals vs us) (h : sp (vs ++ dvs) H Q E) : wpAny (model X.prog X.w) X.A (call (.ref f) us) (EP X pins σ Q) X.xe s := by
  have r2 : Vals (vs ++ dvs) (us ++ ds) := r.append hd
  refine wpAny_call (codeAny_mono (F.run X.A X.stack s H ⟨us, []⟩ (us ++ ds) (vs ++ dvs) Q E hg hr I.env0 (hb s us I.kIn (by rw [← r2.length]; exact F.len _ _ _ _ h)) r2 h) fun r s' hq => ?_)
  match r, hq with
  | .error e, hq => exact hx pins σ H s e s' I hq
  | .ok (.ret u), hq => exact I.after hq
  | .ok .next, hq => exact False.elim hq
  | .ok .brk, hq => exact False.elim hq
  | .ok .cont, hq => exact False.elim hq
theorem peG (F : FnG X.prog X.w X.K X.mg X.base CX k f fd ps sp) (hg : X.A.guards = some []) (hr : Room k X.A) (hn : Gl X x) (hm : X.mg x = some (.ref f)) (hk : PySem.W.keepIn X.K (.ref f) = true) (hb : Binds X.K fd ps ds) (hd : Vals dvs ds) (hx : Passes CX X E)
    (ha : PA X (e :: es) t) (hdb : (x == ("__debug__" : Str)) = false := by decide) (he : starEach (e :: es) X.env = (false, eval e X.env) :: starEach es X.env := by rfl) (hpl : (backTo pos (starEach es X.env)).any (·.1) = false := by rfl) :
    PE X (.Call (.Name x p) (e :: es) [] pos) (tCall sp dvs E t) := ⟨fun pins s σ H Q I h => wpAny_Call_Name_kw (ld_glob I hn hm (PySem.W.callWith_K (h₀ := X.base) I.ok.mod.kin hk
      (thn (ha.run pos pins s σ H _ I h) fun us s1 ⟨vs, H1, I1, r, q⟩ => ⟨I1.kIn, runG F hg hr hb hd hx I1 r q⟩) he hpl) hdb)⟩
end
/-! ### the law's own call -/
section
open PySem.W
theorem scriptH {P : Program} {w : World} {K : Frag} {s : Shared} {a : Addr} {vs : List Value} {ns : List Int} (KX : K.In s.heap) (ha : s.heap.get? a = some { cls := .type "list", data := .seq vs.toArray }) (hi : IntsAre vs ns) (hl : ns.length ≤ sizeLine) :
    ∃ H : Hp, Only H ∧ SqL K H a (ns.map V.int) ∧ HOk P w H s.heap ∧ (∀ b, H b ≠ none → b = a) ∧ (H a ≠ none → K.lookup a = none) := by
  have rv := vals_ints hi
  have lv : vs.length = ns.length := hi.length
  cases e : K.lookup a with
  | some o =>
    obtain rfl : o = _ := Option.some.inj ((KX a o e).symm.trans ha)
    exact ⟨fun _ => none, fun _ => .inl rfl, .inr ⟨_, vs.toArray, _, e, rfl, rfl, rfl, by rw [List.size_toArray, lv]; exact hl, by simpa using rv⟩, fun b u z => absurd (show (none : Option HO) = some u from z) (fun q => nomatch q), fun b z => absurd rfl z, fun z => absurd rfl z⟩
  | none =>
    refine ⟨fun b => if b = a then some (.frz { cls := .type "list", data := .seq vs.toArray } (.lst (ns.map V.int))) else none, fun b => ?_, .inl (.inr ⟨_, if_pos rfl⟩), fun b u z => ?_, fun b z => ?_, fun _ => rfl⟩
    · by_cases h : b = a
      · exact .inr ⟨_, _, if_pos h⟩
      · exact .inl (if_neg h)
    · by_cases h : b = a
      · subst h
        obtain rfl := Option.some.inj ((if_pos rfl).symm.trans z)
        exact ⟨ha, by rw [List.length_map]; exact hl, vs, _, rv, ha⟩
      · exact nomatch (if_neg h).symm.trans z
    · by_cases h : b = a
      · exact h
      · exact absurd (if_neg h) z
theorem lawG {P : Program} {w : World} {K : Frag} {mg mb : Str → Option Value} {CX : CXT} {k : Nat} {fa a : Addr} {fd : FuncData} {x : Str} {sp : Sp} {s : Shared} {vs : List Value} {ns : List Int}
    (KX : K.In s.heap) (hns : s.heap.Ns mainGlobals mg) (hb : s.heap.Ns builtinsNs mb) (hbb : ∀ y : Str, y ≠ "__name__" → mb y = bootBuiltins y) (hlim : s.heap.NoLimit) (hgn : s.gens = #[])
    (ha : s.heap.get? a = some { cls := .type "list", data := .seq vs.toArray }) (hi : IntsAre vs ns) (hl : ns.length ≤ sizeLine) (hr : Room k callerA)
    (F : ∀ base : Heap, K.In base → base.Ns mainGlobals mg → FnG P w K mg base CX k fa fd [x] sp) (hbind : ∀ (s : Shared) (u : Value), BindsTo s fd ⟨[u], []⟩ [(x, u)])
    (hsp : ∀ H : Hp, Only H → SqL K H a (ns.map V.int) → sp [.ref a] H (fun v _ => v = .bl true) fun _ _ _ => False) (hCX : ∀ H e s', CX [] H s (fun _ _ _ => False) e s' → False) :
    codeAny (model P w) callerA (.call (.ref fa) ⟨[.ref a], []⟩) (fun r s' => r = .ok (.ret (.bool true)) ∧ OldK s.heap s'.heap ∧ s'.os = s.os ∧ AllBare s'.gens) s := by
  obtain ⟨H, hO, hS, hok, hA, hK⟩ := scriptH (P := P) (w := w) KX ha hi hl
  have keep : ∀ {b : Addr} {o : Obj}, s.heap.get? b = some o → H b = none → (hidT s.heap H).get? b = some o := fun e n => hidT_get e n
  have free : ∀ {b : Addr}, b ≠ a → H b = none := fun {b} h => Classical.byContradiction fun z => h (hA b z)
  have kIn : K.In (hidT s.heap H) := fun b o e => keep (KX b o e) (Classical.byContradiction fun z => by
    obtain rfl := hA b z
    rw [hK z] at e; cases e)
  have nsIn : ∀ {b : Addr} {m : Str → Option Value}, s.heap.Ns b m → (hidT s.heap H).Ns b m := fun {b m} ⟨o, es, ep, e, d, r⟩ => ⟨o, es, ep, keep e (free fun z => by
    subst z
    rw [ha] at e; cases e; cases d), d, r⟩
  have M : Mod K mg (hidT s.heap H) := ⟨kIn, nsIn hns, ⟨mb, nsIn hb, hbb⟩, let ⟨mc, h1, h2⟩ := hlim; ⟨mc, nsIn h1, h2⟩⟩
  refine codeAny_mono ((F _ kIn (nsIn hns)).run callerA [] s H ⟨[.ref a], []⟩ [.ref a] [.ref a] _ _ rfl hr ⟨rfl, M, fun b o e => of_hidT e, Nat.le_of_eq (hidT_size _ _), trivial, fun b z => absurd (show b ∈ ([] : List Addr) from z) List.not_mem_nil, hok, .of_eq hgn⟩ (hbind s (.ref a)) (.cons rfl .nil) (hsp H hO hS)) fun r s' h => ?_
  match r, h with
  | .error e, h => exact (hCX H e s' h).elim
  | .ok .next, h => exact False.elim h
  | .ok .brk, h => exact False.elim h
  | .ok .cont, h => exact False.elim h
  | .ok (.ret u), ⟨v, H', os, bare, un, hok', r', q⟩ =>
    obtain rfl : v = .bl true := q
    obtain rfl : u = Value.bool true := r'
    refine ⟨rfl, OldK.of_keep fun b o e => ?_, os, bare⟩
    cases q : H b with
    | none => exact un.keep b o e q (fun z => absurd (show b ∈ ([] : List Addr) from z) List.not_mem_nil) List.not_mem_nil
    | some u =>
      rcases hO b with z | ⟨ob, xs, z⟩
      · rw [q] at z; cases z
      · have e1 := (hok b _ z).1
        have e2 := (hok' b _ (un.frzs b ob _ z)).1
        rw [e] at e1; cases e1
        exact e2
theorem walkG {l : OpenLaw} {n k : Nat} {q : Program} {loose : List Str} {XP : (Str → Option Value) → Heap → Prop} {YP : World → Heap → Prop} {d : DefRec} {K : Params → Frag} {sp : Frag → Sp} {x : Str}
    (hn : l.most = some n) (hn2 : n ≤ sizeLine) (hdf : d.params.defaults = []) (hr : Room k callerA) (hY : ∀ (w : World) (h : Heap), YP w h → (K w.params).In h)
    (F : ∀ (w : World) (mg : Str → Option Value) (fa : Addr) (h : Heap), (K w.params).In h → h.Ns mainGlobals mg → mg d.name = some (.ref fa) →
      ∃ fd : FuncData, (∀ (s : Shared) (u : Value), BindsTo s fd ⟨[u], []⟩ [(x, u)]) ∧ ∀ base : Heap, (K w.params).In base → base.Ns mainGlobals mg → FnG l.prog w (K w.params) mg base CX0 k fa fd [x] (sp (K w.params)))
    (hsp : ∀ (K : Frag) (H : Hp) (a : Addr) (ns : List Int), ns.length ≤ n → (∀ z ∈ ns, Builtin.Int.intBits z ≤ 1048576) → Only H → SqL K H a (ns.map V.int) → sp K [.ref a] H (fun v _ => v = .bl true) fun _ _ _ => False) :
    WalkO q loose XP YP l.row.toRowW d [] (fun f vs => PySem.call f vs) :=
  Att.attach_callB hn hdf fun w _ s mg mb fa o pm cd doc a vs ns G Y ho hd hcd hmg hobj hints hlen hbits hg =>
    let ⟨fd, hb, hF⟩ := F w mg fa _ (hY w _ Y) G.T.g hmg
    lawG (hY w _ Y) G.T.g G.T.b G.T.builtins G.T.nolimit hg hobj hints (Nat.le_trans hlen hn2) hr hF hb (fun H hO hS => hsp _ H a ns hlen hbits hO hS) fun _ _ _ z => z
end
end U

namespace U
open PySem PySem.Spec PyProof.Rows L2
theorem hu64 {k : Nat} {A : Around} (h : Room k A) : A.units + 64 < cLine := h.units
theorem hu70 {k : Nat} {A : Around} (h : Room k A) : A.units + 70 < cLine := by have := h.un; omega
section
variable {X : Cx}
theorem caAll (hc : X.calm = true) : CallR X (.builtin "all") (rAll X.K) := cr_all hc
/-- a slice of a text or a list -/
def uSl (K : PySem.W.Frag) : V → Option Int → Option Int → Hp → VK → Prop := fun x lo hi H Q => match x with
  | .str z => z.length ≤ sizeLine ∧ Q (.str (Txt.slice z lo hi)) H
  | _ => rSlL K x lo hi H Q
end
theorem walkO {l : PySem.W.OpenLaw} {n k : Nat} {q : Program} {loose : List Str} {XP : (Str → Option Value) → Heap → Prop} {YP : World → Heap → Prop} {d : DefRec} {K : Params → PySem.W.Frag} {sp : PySem.W.Frag → Sp} {x : Str}
    (hn : l.most = some n) (hn2 : n ≤ sizeLine) (hdf : d.params.defaults = []) (hr : Room k callerA) (hY : ∀ (w : World) (h : Heap), YP w h → (K w.params).In h)
    (F : ∀ (w : World) (mg : Str → Option Value) (fa : Addr) (h : Heap), (K w.params).In h → h.Ns mainGlobals mg → mg d.name = some (.ref fa) →
      ∃ fd : FuncData, (∀ (s : Shared) (u : Value), BindsTo s fd ⟨[u], []⟩ [(x, u)]) ∧ ∀ base : Heap, (K w.params).In base → base.Ns mainGlobals mg → FnOk l.prog w (K w.params) mg base CX0 k fa fd [x] (sp (K w.params)))
    (hsp : ∀ (K : PySem.W.Frag) (H : Hp) (a : Addr) (ns : List Int), ns.length ≤ n → (∀ z ∈ ns, Builtin.Int.intBits z ≤ 1048576) → Only H → SqL K H a (ns.map V.int) → sp K [.ref a] H (fun v _ => v = .bl true) fun _ _ _ => False) :
    PySem.W.WalkO q loose XP YP l.row.toRowW d [] (fun f vs => PySem.call f vs) :=
  walkG hn hn2 hdf hr hY (fun w mg fa h a b c => let ⟨fd, h1, h2⟩ := F w mg fa h a b c; ⟨fd, h1, fun base e g => .of (h2 base e g)⟩) hsp
/-- what a dice list holds: the rest of a great cell, a seed, how often it was rolled -/
def Dice (n : Nat) (o : HO) : Prop := ∃ a b c : Int, o = .lst [.int a, .int b, .int c] ∧ (0 ≤ a ∧ a < 2 ^ 500) ∧ (0 ≤ b ∧ b < 2 ^ 80) ∧ (0 ≤ c ∧ c ≤ n)
theorem Dice.up {n m : Nat} {o : HO} (h : Dice n o) (l : n ≤ m) : Dice m o := by
  obtain ⟨a, b, c, e, h1, h2, h3⟩ := h
  exact ⟨a, b, c, e, h1, h2, by omega⟩
theorem mulW {i j : Int} (a b : Nat) (ha : i.natAbs < 2 ^ a) (hb : j.natAbs < 2 ^ b) (h0 : 0 < a := by decide) (h1 : 0 < b := by decide) (h : a + b ≤ 1000000 := by decide) : CMulW i j := wide_mul ha hb h0 h1 h
theorem divW {i j : Int} (b : Nat) (h : 0 < j) (hb : j.natAbs < 2 ^ b) (h0 : 0 < b := by decide) (h9 : b ≤ 9000 := by decide) : CDivW i j := wide_div h hb h0 h9
theorem abs_lt {i : Int} {n : Nat} (h0 : 0 ≤ i) (h : i < 2 ^ n) : i.natAbs < 2 ^ n := by
  have e : ((i.natAbs : Nat) : Int) = i := by omega
  have : ((i.natAbs : Nat) : Int) < ((2 ^ n : Nat) : Int) := by rw [e]; push_cast; exact h
  exact Int.ofNat_lt.mp this
end U
namespace U
open PySem PySem.Spec PyProof.Rows L2
section
variable {K : PySem.W.Frag} {H H' : Hp} {p d : Addr} {xs : List V}
theorem rdKeep {u : HO} (h : ∀ b u, H b = some u → b ≠ d → H' b = some u) (ne : p ≠ d) (r : Rd H p u) : Rd H' p u := r.elim (fun e => .inl (h _ _ e ne)) fun ⟨o, e⟩ => .inr ⟨o, h _ _ e ne⟩
theorem sqlKeep (h : ∀ b u, H b = some u → b ≠ d → H' b = some u) (ne : p ≠ d) (r : SqL K H p xs) : SqL K H' p xs := r.elim (fun e => .inl (rdKeep h ne e)) .inr
theorem sqtKeep (h : ∀ b u, H b = some u → b ≠ d → H' b = some u) (ne : p ≠ d) (r : SqT K H p xs) : SqT K H' p xs := r.elim (fun e => .inl (rdKeep h ne e)) .inr
theorem sqlSame (h : ∀ b u, H b = some u → H' b = some u) (r : SqL K H p xs) : SqL K H' p xs := r.elim (fun e => .inl (e.elim (fun e => .inl (h _ _ e)) fun ⟨o, e⟩ => .inr ⟨o, h _ _ e⟩)) .inr
theorem sqtSame (h : ∀ b u, H b = some u → H' b = some u) (r : SqT K H p xs) : SqT K H' p xs := r.elim (fun e => .inl (e.elim (fun e => .inl (h _ _ e)) fun ⟨o, e⟩ => .inr ⟨o, h _ _ e⟩)) .inr
theorem atI_lt {α : Type} {xs : List α} {i : Int} (h0 : 0 ≤ i) (h : i < xs.length) : ∃ v, v ∈ xs ∧ atI xs i = some v := by
  obtain ⟨j, rfl⟩ := Int.eq_ofNat_of_zero_le h0
  have hj : j < xs.length := by omega
  exact ⟨xs[j], List.getElem_mem hj, atI_nat (by simp [hj])⟩
/-- what is picked from: a text's signs, or the items of a list or tuple -/
def PickOf (K : PySem.W.Frag) (H : Hp) (d : Addr) (x : V) (L : List V) : Prop :=
  (∃ z, x = .str z ∧ z.length ≤ 100000 ∧ L = z.cps.toList.map fun c => V.str ⟨#[c]⟩) ∨ ∃ p, x = .ref p ∧ p ≠ d ∧ (SqL K H p L ∨ SqT K H p L)
theorem small_ok {n : Nat} (h : n ≤ 1000000) : n ≤ sizeLine := by have := sizeLine_eq; omega
theorem small_lt {n : Nat} (h : n ≤ 1000000) : n < sizeLine := by have := sizeLine_eq; omega
end
end U
namespace U
open PySem PySem.Spec PyProof.Rows L2
def kinds : List String := ["NoneType", "bool", "int", "str", "list", "tuple", "dict"]
/-- a value of a built-in kind -/
def Kd (K : PySem.W.Frag) (H : Hp) (v : V) (T : String) : Prop := TyX K H v (.type T) ∧ T ∈ kinds
theorem kd_int {T : String} (h : T ∈ kinds) : kitB T "int" = some (T == "int" || T == "bool") := by
  have e : (kinds.all fun T => decide (kitB T "int" = some (T == "int" || T == "bool"))) = true := by decide +kernel
  exact of_decide_eq_true (List.all_eq_true.mp e T h)
theorem kd_bool {T : String} (h : T ∈ kinds) : kitB T "bool" = some (T == "bool") := by
  have e : (kinds.all fun T => decide (kitB T "bool" = some (T == "bool"))) = true := by decide +kernel
  exact of_decide_eq_true (List.all_eq_true.mp e T h)
theorem kd_str {T : String} (h : T ∈ kinds) : kitB T "str" = some (T == "str") := by
  have e : (kinds.all fun T => decide (kitB T "str" = some (T == "str"))) = true := by decide +kernel
  exact of_decide_eq_true (List.all_eq_true.mp e T h)
theorem kd_tuple {T : String} (h : T ∈ kinds) : kitB T "tuple" = some (T == "tuple") := by
  have e : (kinds.all fun T => decide (kitB T "tuple" = some (T == "tuple"))) = true := by decide +kernel
  exact of_decide_eq_true (List.all_eq_true.mp e T h)
theorem kd_dict {T : String} (h : T ∈ kinds) : kitB T "dict" = some (T == "dict") := by
  have e : (kinds.all fun T => decide (kitB T "dict" = some (T == "dict"))) = true := by decide +kernel
  exact of_decide_eq_true (List.all_eq_true.mp e T h)
section
variable {K : PySem.W.Frag} {H : Hp} {v : V} {T : String}
theorem ty_of {t : Value} (h : TyX K H v t) : (t = .type "int" → ∃ i, v = .int i) ∧ (t = .type "bool" → ∃ i, v = .bl i) ∧ (t = .type "str" → ∃ i, v = .str i) := by
  cases h with
  | base b => cases b <;> simp
  | _ => simp
theorem ty_to {t : Value} (h : TyX K H v t) : (∀ i, v = .int i → t = .type "int") ∧ (∀ i, v = .bl i → t = .type "bool") ∧ (∀ i, v = .str i → t = .type "str") := by
  cases h with
  | base b => cases b <;> simp
  | _ => simp
theorem Kd.isInt (h : Kd K H v "int") : ∃ i, v = .int i := (ty_of h.1).1 rfl
theorem Kd.isBool (h : Kd K H v "bool") : ∃ i, v = .bl i := (ty_of h.1).2.1 rfl
theorem Kd.isStr (h : Kd K H v "str") : ∃ i, v = .str i := (ty_of h.1).2.2 rfl
theorem Kd.ofInt {i : Int} (h : Kd K H (.int i) T) : T = "int" := Value.type.inj ((ty_to h.1).1 i rfl)
theorem Kd.ofBool {i : Bool} (h : Kd K H (.bl i) T) : T = "bool" := Value.type.inj ((ty_to h.1).2.1 i rfl)
theorem Kd.ofStr {i : Str} (h : Kd K H (.str i) T) : T = "str" := Value.type.inj ((ty_to h.1).2.2 i rfl)
theorem Kd.int (i : Int) : Kd K H (.int i) "int" := ⟨.base (.int i), by decide⟩
theorem Kd.str (i : Str) : Kd K H (.str i) "str" := ⟨.base (.str i), by decide⟩
theorem Kd.bl (i : Bool) : Kd K H (.bl i) "bool" := ⟨.base (.bl i), by decide⟩
theorem Kd.non : Kd K H .non "NoneType" := ⟨.base .non, by decide⟩
theorem Kd.lst {a : Addr} {xs : List V} (h : H a = some (.lst xs)) : Kd K H (.ref a) "list" := ⟨.base (.lst h), by decide⟩
theorem Kd.tup {a : Addr} {xs : List V} (h : H a = some (.tup xs)) : Kd K H (.ref a) "tuple" := ⟨.base (.tup h), by decide⟩
theorem Kd.dK {a : Addr} {xs : List (Key × V)} (h : H a = some (.dK xs)) : Kd K H (.ref a) "dict" := ⟨.base (.dK h), by decide⟩
end
end U

namespace U
open PySem PySem.Spec PyProof.Rows L2
/-! ### texts as lists of signs -/
def stripL (p : Nat → Bool) (l : List Nat) : List Nat := (((l.dropWhile p).reverse.dropWhile p)).reverse
theorem drop_tw {α : Type} (p : α → Bool) (l : List α) : l.drop (l.takeWhile p).length = l.dropWhile p := by
  have h := List.takeWhile_append_dropWhile (p := p) (l := l)
  conv => lhs; rw [← h]
  rw [h]
  have e : (l.takeWhile p ++ l.dropWhile p).drop (l.takeWhile p).length = l.dropWhile p := List.drop_left
  rw [h] at e
  exact e
theorem take_tw {α : Type} (p : α → Bool) (m : List α) : m.take (m.length - (m.reverse.takeWhile p).length) = (m.reverse.dropWhile p).reverse := by
  have h := drop_tw p m.reverse
  rw [← h, List.drop_reverse, List.reverse_reverse]
theorem strip_list (p : Nat → Bool) (x : Str) : (Txt.stripBy p true true x).cps.toList = stripL p x.cps.toList := by
  rw [stripBy_eq, StrLaws.strSub_toList]
  have e1 : stripLo p true x = (x.cps.toList.takeWhile p).length := rfl
  have e2 : ∀ lo, stripHi p true x lo = x.length - ((x.cps.toList.drop lo).reverse.takeWhile p).length := fun _ => rfl
  rw [e2, e1, drop_tw]
  have el : x.length = x.cps.toList.length := by simp [Str.length]
  have hd : (x.cps.toList.dropWhile p).length = x.cps.toList.length - (x.cps.toList.takeWhile p).length := by rw [← drop_tw, List.length_drop]
  unfold stripL
  rw [← take_tw, hd, el]
  congr 1
  omega
theorem dw_nil {α : Type} {p : α → Bool} : ∀ {l : List α}, l.dropWhile p = [] ↔ ∀ c ∈ l, p c = true
  | [] => by simp
  | a :: l => by
    rw [List.dropWhile_cons]
    by_cases h : p a = true
    · rw [if_pos h, dw_nil]
      simp [h]
    · rw [if_neg h]
      simp [h]
theorem stripL_nil {p : Nat → Bool} {l : List Nat} : stripL p l = [] ↔ ∀ c ∈ l, p c = true := by
  unfold stripL
  rw [List.reverse_eq_nil_iff, dw_nil]
  constructor
  · intro h c hc
    by_cases hp : p c = true
    · exact hp
    · have hm : c ∈ l.dropWhile p := by
        have e := List.takeWhile_append_dropWhile (p := p) (l := l)
        rw [← e] at hc
        rcases List.mem_append.mp hc with z | z
        · exact absurd (List.all_eq_true.mp List.all_takeWhile c z) hp
        · exact z
      exact h c (List.mem_reverse.mpr hm)
  · intro h c hc
    exact h c ((List.dropWhile_sublist p).subset (List.mem_reverse.mp hc))
theorem stripL_keep {p : Nat → Bool} {l : List Nat} (h : ∀ c ∈ l, p c = false) : stripL p l = l := by
  have e : ∀ m : List Nat, (∀ c ∈ m, p c = false) → m.dropWhile p = m := fun m hm => by
    cases m with
    | nil => rfl
    | cons a m => rw [List.dropWhile_cons, if_neg (by rw [hm a (List.mem_cons_self ..)]; decide)]
  unfold stripL
  rw [e l h, e _ (fun c hc => h c (List.mem_reverse.mp hc)), List.reverse_reverse]
theorem str_nil {x : Str} : x = Str.ofString "" ↔ x.cps.toList = [] := by
  constructor
  · intro h; rw [h]; rfl
  · intro h
    have : x.cps = #[] := by
      apply Array.ext'
      rw [h]
    cases x
    simp only at this
    rw [this]; rfl
/-! ### digits -/
theorem digits_are (m : Nat) : ∀ c ∈ (Nat.toDigits 10 m).map Char.toNat, 48 ≤ c ∧ c ≤ 57 := by
  intro c hc
  obtain ⟨ch, hch, e⟩ := List.mem_map.mp hc
  have r := PyProof.Rows.digit_range (Nat.isDigit_of_mem_toDigits (by decide) (by decide) hch)
  rw [← e]
  exact r
theorem num_list (n : Int) : (Str.ofString (toString n)).cps.toList = (if n < 0 then [45] else []) ++ (Nat.toDigits 10 n.natAbs).map Char.toNat := by
  cases n with
  | ofNat m =>
    rw [if_neg (by simp)]
    exact PySem.W.KIN.signs_num m
  | negSucc m =>
    rw [if_pos (by omega)]
    have e : toString (Int.negSucc m) = "-" ++ toString ((m + 1 : Nat) : Int) := rfl
    rw [e]
    have h2 := PySem.W.KIN.signs_num (m + 1)
    rw [PyProof.Rows.signs_ofString] at h2 ⊢
    rw [String.toList_append, List.map_append, h2]
    rfl
/-- the length of an integer's text without its sign -/
theorem let_len (n : Int) : (Txt.stripChars (Str.ofString (toString n)) (Str.ofString "-")).length < 61 ↔ n.natAbs < 10 ^ 60 := by
  have el : ∀ x : Str, x.length = x.cps.toList.length := fun x => by simp [Str.length]
  rw [el]
  unfold Txt.stripChars
  rw [strip_list, num_list]
  have hp : ∀ c, (Str.ofString "-").cps.contains c = decide (c = 45) := fun c => by
    show (#[45] : Array Nat).contains c = _
    simp [eq_comm]
  have hk : stripL (fun c => (Str.ofString "-").cps.contains c) ((if n < 0 then [45] else []) ++ (Nat.toDigits 10 n.natAbs).map Char.toNat) = (Nat.toDigits 10 n.natAbs).map Char.toNat := by
    have hd : ∀ c ∈ (Nat.toDigits 10 n.natAbs).map Char.toNat, (Str.ofString "-").cps.contains c = false := fun c hc => by
      have := digits_are _ c hc
      rw [hp]
      exact decide_eq_false (by omega)
    by_cases h : n < 0
    · rw [if_pos h]
      have e : stripL (fun c => (Str.ofString "-").cps.contains c) ([45] ++ (Nat.toDigits 10 n.natAbs).map Char.toNat) = stripL (fun c => (Str.ofString "-").cps.contains c) ((Nat.toDigits 10 n.natAbs).map Char.toNat) := by
        unfold stripL
        rw [List.singleton_append, List.dropWhile_cons, if_pos (by rw [hp]; rfl)]
      rw [e, stripL_keep hd]
    · rw [if_neg h, List.nil_append, stripL_keep hd]
  have hk' : stripL (Str.ofString "-").cps.contains ((if n < 0 then [45] else []) ++ (Nat.toDigits 10 n.natAbs).map Char.toNat) = _ := hk
  rw [hk', List.length_map]
  have := Nat.length_toDigits_le_iff (b := 10) (n := n.natAbs) (k := 60) (by decide) (by decide)
  omega
theorem num_fits {n : Int} (h : n.natAbs < 2 ^ 1900) : n.natAbs.log2 < 1920 := Nat.lt_of_lt_of_le (PySem.Flt.log2_lt_of (by decide) h) (by decide)
theorem num_len {n : Int} (h : n.natAbs < 2 ^ 1900) : (Str.ofString (toString n)).length ≤ sizeLine := int_text_fits (num_fits h)
end U
namespace U
open PySem PySem.Spec PyProof.Rows L2
section
variable {H0 H H' : Hp} {D : List Addr} {F M M' : List (Addr × HO)}
theorem At.lessM (L : At H0 D F M H) (h : List.Sublist M' M) : At H0 D F M' H := ⟨L.fr, L.fa, fun q hq => L.mu q (h.subset hq), fun q hq => L.mf q (h.subset hq), fun q hq => L.df q (h.subset hq), L.nd.sublist (h.map _)⟩
/-- the second of M changes -/
theorem At.set2 {a b : Addr} {o u v : HO} (L : At H0 D F ((b, v) :: (a, o) :: M) H) (h1 : ∀ c w, H c = some w → c ≠ a → H' c = some w) (h2 : H' a = some u) : At H0 D F ((b, v) :: (a, u) :: M) H' := (L.swap.set h1 h2).swap
end
theorem mul_len (x : Str) (n : Int) (h0 : 0 ≤ n) : (Txt.mul x n).length = n.toNat * x.length := by
  have el : ∀ y : Str, y.length = y.cps.toList.length := fun y => by simp [Str.length]
  rw [el, mul_list x n h0, List.length_flatten, List.map_replicate, List.sum_replicate_nat, el]
end U
namespace U
open PySem PySem.Spec PyProof.Rows L2
theorem At.fresh {H H' : Hp} {p : Addr} {o : HO} (s : ∀ b u, H b = some u → H' b = some u) (h : H p = none) (h' : H' p = some o) : At H [] [] [(p, o)] H' := ⟨fun b u e _ => s b u e, fun _ z => absurd z List.not_mem_nil, fun q hq => by
  obtain rfl := List.mem_singleton.mp hq
  exact h', fun q hq => by
  obtain rfl := List.mem_singleton.mp hq
  exact .inr h, fun _ _ _ z => absurd z List.not_mem_nil, by simp⟩
theorem no_dead {H' : Hp} : ∀ e ∈ ([] : List Addr), ∃ u, H' e = some u := fun _ h => absurd h List.not_mem_nil
theorem At.all {H H' : Hp} {F M : List (Addr × HO)} (L : At H [] F M H') : ∀ b u, H b = some u → H' b = some u := fun b u e => L.fr b u e List.not_mem_nil
end U

namespace Law
open PySem PySem.Spec PyProof.Rows L2 U
/-! ### the text by places -/
def top (i : Nat) : Stmt := PySem.Challenge.pw_touchrows_k00_whole_names_and_numbers.main.body.getD i (.Pass ⟨0, 0, 0, 0⟩)
abbrev s__law_dice : Stmt := top 9
abbrev s__law_roll : Stmt := top 10
abbrev s__law_pick : Stmt := top 11
abbrev s__law_strings : Stmt := top 12
abbrev s__law_numbers : Stmt := top 13
abbrev s__law_is_let : Stmt := top 14
abbrev s_is_name : Stmt := top 7
abbrev s_is_integer : Stmt := top 5
abbrev s_is_count : Stmt := top 6
abbrev s_law : Stmt := top 15
theorem sc__law_dice : FnScope ["_law_script", "_law_spot", "_law_cell", "_law_great", "_law_left"] ["_law_script", "_law_spot"] (defScope s__law_dice) := ⟨rfl, rfl, rfl, by decide +kernel, rfl, by decide +kernel, by decide +kernel⟩
theorem sc__law_roll : FnScope ["_law_dice_here", "_law_total", "_law_found", "_law_one", "_law_two"] ["_law_dice_here", "_law_total"] (defScope s__law_roll) := ⟨rfl, rfl, rfl, by decide +kernel, rfl, by decide +kernel, by decide +kernel⟩
theorem sc__law_pick : FnScope ["_law_dice_here", "_law_items"] ["_law_dice_here", "_law_items"] (defScope s__law_pick) := ⟨rfl, rfl, rfl, by decide +kernel, rfl, by decide +kernel, by decide +kernel⟩
theorem sc__law_strings : FnScope ["_law_dice_here", "_law_odd", "_law_signs", "_law_layer", "_law_found", "_law_turn", "_law_longer", "_law_text", "_law_size", "_law_at", "_law_sign"] ["_law_dice_here"] (defScope s__law_strings) := ⟨rfl, rfl, rfl, by decide +kernel, rfl, by decide +kernel, by decide +kernel⟩
theorem sc__law_numbers : FnScope ["_law_dice_here", "_law_found", "_law_turn", "_law_size", "_law_step", "_law_number"] ["_law_dice_here"] (defScope s__law_numbers) := ⟨rfl, rfl, rfl, by decide +kernel, rfl, by decide +kernel, by decide +kernel⟩
theorem sc__law_is_let : FnScope ["_law_number"] ["_law_number"] (defScope s__law_is_let) := ⟨rfl, rfl, rfl, by decide +kernel, rfl, by decide +kernel, by decide +kernel⟩
theorem sc_is_name : FnScope ["value", "letter"] ["value"] (defScope s_is_name) := ⟨rfl, rfl, rfl, by decide +kernel, rfl, by decide +kernel, by decide +kernel⟩
theorem sc_is_integer : FnScope ["value"] ["value"] (defScope s_is_integer) := ⟨rfl, rfl, rfl, by decide +kernel, rfl, by decide +kernel, by decide +kernel⟩
theorem sc_is_count : FnScope ["value"] ["value"] (defScope s_is_count) := ⟨rfl, rfl, rfl, by decide +kernel, rfl, by decide +kernel, by decide +kernel⟩
theorem sc_law : FnScope ["_law_script", "_law_spot", "_law_dice_here", "_law_text", "_law_due", "_law_number", "_law_odd", "_law_one"] ["_law_script"] (defScope s_law) := ⟨rfl, rfl, rfl, by decide +kernel, rfl, by decide +kernel, by decide +kernel⟩
/-- what the top leaves -/
structure Txt (K : PySem.W.Frag) (mg : Str → Option Value) where
  a__law_dice : Addr
  d__law_dice : FuncData
  g__law_dice : mg "_law_dice" = some (.ref a__law_dice)
  F__law_dice : Fun K "_law_dice" "_law_dice" s__law_dice a__law_dice d__law_dice
  B__law_dice : Binds K d__law_dice ["_law_script", "_law_spot"] []
  a__law_roll : Addr
  d__law_roll : FuncData
  g__law_roll : mg "_law_roll" = some (.ref a__law_roll)
  F__law_roll : Fun K "_law_roll" "_law_roll" s__law_roll a__law_roll d__law_roll
  B__law_roll : Binds K d__law_roll ["_law_dice_here", "_law_total"] []
  a__law_pick : Addr
  d__law_pick : FuncData
  g__law_pick : mg "_law_pick" = some (.ref a__law_pick)
  F__law_pick : Fun K "_law_pick" "_law_pick" s__law_pick a__law_pick d__law_pick
  B__law_pick : Binds K d__law_pick ["_law_dice_here", "_law_items"] []
  a__law_strings : Addr
  d__law_strings : FuncData
  g__law_strings : mg "_law_strings" = some (.ref a__law_strings)
  F__law_strings : Fun K "_law_strings" "_law_strings" s__law_strings a__law_strings d__law_strings
  B__law_strings : Binds K d__law_strings ["_law_dice_here"] []
  a__law_numbers : Addr
  d__law_numbers : FuncData
  g__law_numbers : mg "_law_numbers" = some (.ref a__law_numbers)
  F__law_numbers : Fun K "_law_numbers" "_law_numbers" s__law_numbers a__law_numbers d__law_numbers
  B__law_numbers : Binds K d__law_numbers ["_law_dice_here"] []
  a__law_is_let : Addr
  d__law_is_let : FuncData
  g__law_is_let : mg "_law_is_let" = some (.ref a__law_is_let)
  F__law_is_let : Fun K "_law_is_let" "_law_is_let" s__law_is_let a__law_is_let d__law_is_let
  B__law_is_let : Binds K d__law_is_let ["_law_number"] []
  a_is_name : Addr
  d_is_name : FuncData
  g_is_name : mg "is_name" = some (.ref a_is_name)
  F_is_name : Fun K "is_name" "is_name" s_is_name a_is_name d_is_name
  B_is_name : Binds K d_is_name ["value"] []
  a_is_integer : Addr
  d_is_integer : FuncData
  g_is_integer : mg "is_integer" = some (.ref a_is_integer)
  F_is_integer : Fun K "is_integer" "is_integer" s_is_integer a_is_integer d_is_integer
  B_is_integer : Binds K d_is_integer ["value"] []
  a_is_count : Addr
  d_is_count : FuncData
  g_is_count : mg "is_count" = some (.ref a_is_count)
  F_is_count : Fun K "is_count" "is_count" s_is_count a_is_count d_is_count
  B_is_count : Binds K d_is_count ["value"] []
  a_law : Addr
  d_law : FuncData
  g_law : mg "law" = some (.ref a_law)
  F_law : Fun K "law" "law" s_law a_law d_law
  B_law : Binds K d_law ["_law_script"] []
  b_abs : mg "abs" = none
  b_all : mg "all" = none
  b_bool : mg "bool" = none
  b_int : mg "int" = none
  b_isinstance : mg "isinstance" = none
  b_len : mg "len" = none
  b_list : mg "list" = none
  b_max : mg "max" = none
  b_min : mg "min" = none
  b_range : mg "range" = none
  b_repr : mg "repr" = none
  b_str : mg "str" = none
  t_BEYOND : Tok
  v_BEYOND : mg "BEYOND" = some (.int 1000000000000000000000000000000000000000000000000000000000000 t_BEYOND)
  t_LETTERS : Tok
  v_LETTERS : mg "LETTERS" = some (.str "abcdefghijklmnopqrstuvwxyz" t_LETTERS)
  t_MAX_FIGURES : Tok
  v_MAX_FIGURES : mg "MAX_FIGURES" = some (.int 60 t_MAX_FIGURES)
  t_MAX_LETTERS : Tok
  v_MAX_LETTERS : mg "MAX_LETTERS" = some (.int 8 t_MAX_LETTERS)
section
variable {P : Program} {w : World} {K : PySem.W.Frag} {mg : Str → Option Value} {base : Heap}
def sp__law_dice (K : PySem.W.Frag) : Sp := fun vs H Q _ => ∃ (a : Addr) (ns : List Int) (i : Nat), vs = [.ref a, .int i] ∧ SqL K H a (ns.map V.int) ∧ i ≤ 100 ∧
  ∀ (H' : Hp) (p : Addr) (o : HO), (∀ b u, H b = some u → H' b = some u) → H p = none → H' p = some o → Dice 0 o → Q (.ref p) H'
theorem dice_fits {c : Int} {i : Nat} (hi : i ≤ 100) (k : Int) (hk : 0 ≤ k ∧ k ≤ 1) : Dice 0 (.lst [.int (max 0 ((c.natAbs : Int) - 10 ^ Int.toNat 17) % (10 ^ Int.toNat 60 * 10 ^ Int.toNat 60)), .int ((c.natAbs : Int) % 10 ^ Int.toNat 58 % 2147483563 * 41 + 709 * i + 17 * k + 3), .int 0]) := by
  have h1 := Int.emod_nonneg (max 0 ((c.natAbs : Int) - 10 ^ Int.toNat 17)) (show (10 ^ Int.toNat 60 * 10 ^ Int.toNat 60 : Int) ≠ 0 by decide)
  have h2 := Int.emod_lt_of_pos (max 0 ((c.natAbs : Int) - 10 ^ Int.toNat 17)) (show (0 : Int) < 10 ^ Int.toNat 60 * 10 ^ Int.toNat 60 by decide)
  have h3 := Int.emod_nonneg ((c.natAbs : Int) % 10 ^ Int.toNat 58) (show (2147483563 : Int) ≠ 0 by decide)
  have h4 := Int.emod_lt_of_pos ((c.natAbs : Int) % 10 ^ Int.toNat 58) (show (0 : Int) < 2147483563 by decide)
  exact ⟨_, _, _, rfl, ⟨h1, Int.lt_trans h2 (by decide +kernel)⟩, ⟨by omega, Int.lt_of_le_of_lt (show _ ≤ (100000000000 : Int) by omega) (by decide)⟩, by decide, by decide⟩
theorem ok__law_dice (T : Txt K mg) : FnOk P w K mg base CX0 1 T.a__law_dice T.d__law_dice ["_law_script", "_law_spot"] (sp__law_dice K) := by
  refine T.F__law_dice.ok sc__law_dice (fun vs H Q E h => ?_) (fun cdv A outer s H vs Q E hr h => ?_)
  · obtain ⟨a, ns, i, rfl, _⟩ := h; rfl
  · obtain ⟨a, ns, i, rfl, hS, hi, k⟩ := h
    refine ⟨_, (pss_cons (ps_set (i := 2) sc__law_dice.nd rfl (by first | exact Or.inl rfl | exact Or.inr rfl) (peIf (pt_cmpR opLt (pev 1) (pe_callB caLen (by rfl) T.b_len (by decide +kernel) (pa_cons (pev 0) pa_nil)) (nomark _)) (pe_callTy caInt (by rfl) T.b_int (by decide +kernel) (pa_cons (pe_ix ixU (pev 0) (pev 1) (fun _ _ => rfl)) pa_nil)) (pe_op opAdd (pe_op opMulT pe_int (pev 1)) pe_int)))
        (pss_cons (ps_set (i := 3) sc__law_dice.nd rfl (by first | exact Or.inl rfl | exact Or.inr rfl) (pe_op opMod (pe_callB caAbs (by rfl) T.b_abs (by decide +kernel) (pa_cons (pev 2) pa_nil)) (pe_op opPow pe_int pe_int)))
        (pss_cons (ps_set (i := 4) sc__law_dice.nd rfl (by first | exact Or.inl rfl | exact Or.inr rfl) (pe_callB (caMax rfl) (by rfl) T.b_max (by decide +kernel) (pa_cons pe_int (pa_cons (pe_op opSub (pe_callB caAbs (by rfl) T.b_abs (by decide +kernel) (pa_cons (pev 2) pa_nil)) (pe_op opPow pe_int pe_int)) pa_nil))))
        (pss_one (ps_ret (pe_lst (pa_cons (pe_op opMod (pev 4) (pe_op opMulT (pe_op opPow pe_int pe_int) (pe_op opPow pe_int pe_int))) (pa_cons (pe_op opAdd (pe_op opAdd (pe_op opAdd (pe_op opMulT (pe_op opMod (pev 3) pe_int) pe_int) (pe_op opMulT pe_int (pev 1))) (pe_op opMulT pe_int (pe_callTy caInt (by rfl) T.b_int (by decide +kernel) (pa_cons (pe_cmpR opLt (pev 2) pe_int (nomark _)) pa_nil)))) pe_int) (pa_cons pe_int pa_nil))))))))), ?_⟩
    conv => whnf
    refine ⟨_, .inl hS, ?_⟩
    conv => whnf
    refine ⟨_, rfl, ?_⟩
    refine brD (fun ha => ?x) (fun ha => ?y)
    case' x =>
      conv => whnf
      obtain ⟨v, hv, ev⟩ := atI_lt (xs := ns.map V.int) (i := i) (by omega) ha
      obtain ⟨c, hc, rfl⟩ := List.mem_map.mp hv
      refine ⟨_, _, .inl hS, ev, ?_⟩
      clear ev hv hc
      conv => whnf
    case' y =>
      conv => whnf
      refine ⟨mulW 20 20 (by decide) (U.abs_lt (by omega) (by omega)), ?_⟩
      conv => whnf
      generalize 59 * (i : Int) + 13 = c
    all_goals
      refine ⟨⟨by decide, by decide, by decide⟩, ?_⟩
      conv => whnf
      refine ⟨by decide, ?_⟩
      conv => whnf
      refine ⟨⟨by decide, by decide, by decide⟩, ?_⟩
      conv => whnf
      refine ⟨⟨by decide, by decide, by decide⟩, ?_⟩
      conv => whnf
      refine ⟨⟨by decide, by decide, by decide⟩, ?_⟩
      conv => whnf
      refine ⟨mulW 250 250 (by decide) (by decide), ?_⟩
      conv => whnf
      refine ⟨by decide, ?_⟩
      conv => whnf
      refine ⟨by decide, ?_⟩
      conv => whnf
      have h3 := Int.emod_nonneg ((c.natAbs : Int) % 10 ^ Int.toNat 58) (show (2147483563 : Int) ≠ 0 by decide)
      have h4 := Int.emod_lt_of_pos ((c.natAbs : Int) % 10 ^ Int.toNat 58) (show (0 : Int) < 2147483563 by decide)
      refine ⟨mulW 64 64 (U.abs_lt h3 (by omega)) (by decide), ?_⟩
      conv => whnf
      refine ⟨mulW 64 64 (by decide) (U.abs_lt (by omega) (by omega)), ?_⟩
      conv => whnf
      refine ⟨mulW 64 64 (by decide) (by split <;> decide), ?_⟩
      conv => whnf
      refine ⟨small_ok (by simp), fun p hp => ?_⟩
      exact k _ p _ (fun b u e => by rw [upd_ne (ne_of_none e hp)]; exact e) hp upd_same (dice_fits hi _ (by split <;> decide))
def sp__law_roll (K : PySem.W.Frag) : Sp := fun vs H Q _ => ∃ (d : Addr) (n : Nat) (t : Int) (o : HO), vs = [.ref d, .int t] ∧ H d = some o ∧ Dice n o ∧ n ≤ 1000000 ∧ 1 ≤ t ∧ t < 2 ^ 5000 ∧
  ∀ (H' : Hp) (r : Int) (o' : HO), (∀ b u, H b = some u → b ≠ d → H' b = some u) → H' d = some o' → Dice (n + 1) o' → 0 ≤ r → r < t → Q (.int r) H'
theorem ok__law_roll (T : Txt K mg) : FnOk P w K mg base CX0 1 T.a__law_roll T.d__law_roll ["_law_dice_here", "_law_total"] (sp__law_roll K) := by
  refine T.F__law_roll.ok sc__law_roll (fun vs H Q E h => ?_) (fun cdv A outer s H vs Q E hr h => ?_)
  · obtain ⟨d, n, t, o, rfl, _⟩ := h; rfl
  · obtain ⟨d, n, t, o, rfl, hd, ⟨a, b, c, rfl, ⟨a0, a1⟩, ⟨b0, b1⟩, ⟨c0, c1⟩⟩, hn, t1, t2, k⟩ := h
    refine ⟨_, (pss_cons (psIf (pt_cmpR opGt (pe_ix ixU (pev 0) pe_int (fun _ _ => rfl)) pe_int (nomark _)) (pss_cons (ps_set (i := 2) sc__law_roll.nd rfl (by first | exact Or.inl rfl | exact Or.inr rfl) (pe_op opMod (pe_callTy caInt (by rfl) T.b_int (by decide +kernel) (pa_cons (pe_ix ixU (pev 0) pe_int (fun _ _ => rfl)) pa_nil)) (pev 1)))
        (pss_cons (ps_asg (pe_op opDiv (pe_ix ixU (pev 0) pe_int (fun _ _ => rfl)) (pev 1)) (pg_sub (pev 0) pe_int set_list))
        (pss_one (ps_ret (pev 2))))) pss_nil)
        (pss_cons (ps_asg (pe_op opAdd (pe_ix ixU (pev 0) pe_int (fun _ _ => rfl)) pe_int) (pg_sub (pev 0) pe_int set_list))
        (pss_cons (ps_set (i := 3) sc__law_roll.nd rfl (by first | exact Or.inl rfl | exact Or.inr rfl) (pe_op opMod (pe_callTy caInt (by rfl) T.b_int (by decide +kernel) (pa_cons (pe_op opAdd (pe_ix ixU (pev 0) pe_int (fun _ _ => rfl)) (pe_op opMulT pe_int (pe_ix ixU (pev 0) pe_int (fun _ _ => rfl)))) pa_nil)) pe_int))
        (pss_cons (ps_set (i := 4) sc__law_roll.nd rfl (by first | exact Or.inl rfl | exact Or.inr rfl) (pe_op opAdd (pe_op opMulT (pe_op opMod (pe_callTy caInt (by rfl) T.b_int (by decide +kernel) (pa_cons (pe_op opAdd (pe_op opMulT (pev 3) (pev 3)) (pe_op opMulT pe_int (pe_ix ixU (pev 0) pe_int (fun _ _ => rfl)))) pa_nil)) pe_int) pe_int) (pev 3)))
        (pss_one (ps_ret (pe_op opMod (pe_callTy caInt (by rfl) T.b_int (by decide +kernel) (pa_cons (pe_op opDiv (pev 4) pe_int) pa_nil)) (pev 1)))))))), ?_⟩
    conv => whnf
    refine ⟨_, _, .inl (SqL.of hd), rfl, ?_⟩
    conv => whnf
    refine ⟨_, rfl, ?_⟩
    refine brD (fun ha => ?_) (fun ha => ?_)
    · conv => whnf
      refine ⟨_, _, .inl (SqL.of hd), rfl, ?_⟩
      conv => whnf
      refine ⟨by omega, ?_⟩
      conv => whnf
      refine ⟨_, _, .inl (SqL.of hd), rfl, ?_⟩
      conv => whnf
      refine ⟨divW 5000 (by omega) (U.abs_lt (by omega) t2), ?_⟩
      conv => whnf
      refine ⟨_, _, _, _, rfl, rfl, hd, rfl, ?_⟩
      conv => whnf
      refine k _ _ _ (fun b u e n => by rw [upd_ne n]; exact e) upd_same ⟨a / t, b, c, rfl, ⟨Int.ediv_nonneg a0 (by omega), ?_⟩, ⟨b0, b1⟩, c0, by omega⟩ (Int.emod_nonneg _ (by omega)) (Int.emod_lt_of_pos _ (by omega))
      exact Int.lt_of_le_of_lt (Int.ediv_le_self _ a0) a1
    · conv => whnf
      refine ⟨_, _, .inl (SqL.of hd), rfl, ?_⟩
      conv => whnf
      refine ⟨_, _, _, _, rfl, rfl, hd, rfl, ?_⟩
      conv => whnf
      refine ⟨_, _, .inl (SqL.of upd_same), rfl, ?_⟩
      conv => whnf
      refine ⟨_, _, .inl (SqL.of upd_same), rfl, ?_⟩
      conv => whnf
      refine ⟨mulW 20 300 (by decide) (U.abs_lt (by omega) (by omega)), ?_⟩
      conv => whnf
      refine ⟨by decide, ?_⟩
      conv => whnf
      have hm := Int.emod_lt_of_pos (b + 8111 * (c + 1)) (show (0 : Int) < 2305843009213693723 by decide)
      have hm0 := Int.emod_nonneg (b + 8111 * (c + 1)) (show (2305843009213693723 : Int) ≠ 0 by decide)
      generalize (b + 8111 * (c + 1)) % 2305843009213693723 = x at hm hm0 ⊢
      refine ⟨mulW 64 64 (U.abs_lt hm0 (by omega)) (U.abs_lt hm0 (by omega)), ?_⟩
      conv => whnf
      refine ⟨_, _, .inl (SqL.of upd_same), rfl, ?_⟩
      conv => whnf
      refine ⟨mulW 20 300 (by decide) (U.abs_lt (by omega) (by omega)), ?_⟩
      conv => whnf
      refine ⟨by decide, ?_⟩
      conv => whnf
      have hy := Int.emod_lt_of_pos (x * x + 71 * (c + 1)) (show (0 : Int) < 2305843009213693669 by decide)
      have hy0 := Int.emod_nonneg (x * x + 71 * (c + 1)) (show (2305843009213693669 : Int) ≠ 0 by decide)
      generalize (x * x + 71 * (c + 1)) % 2305843009213693669 = y at hy hy0 ⊢
      refine ⟨mulW 64 64 (U.abs_lt hy0 (by omega)) (by decide), ?_⟩
      conv => whnf
      refine ⟨divW 20 (by decide) (by decide), ?_⟩
      conv => whnf
      refine ⟨by omega, ?_⟩
      conv => whnf
      exact k _ _ _ (fun b u e n => by rw [upd_ne n]; exact e) upd_same ⟨a, b, c + 1, rfl, ⟨a0, a1⟩, ⟨b0, b1⟩, by omega, by omega⟩ (Int.emod_nonneg _ (by omega)) (Int.emod_lt_of_pos _ (by omega))
def sp__law_pick (K : PySem.W.Frag) : Sp := fun vs H Q _ => ∃ (d : Addr) (n : Nat) (o : HO) (x : V) (L : List V), vs = [.ref d, x] ∧ H d = some o ∧ Dice n o ∧ n ≤ 1000000 ∧ PickOf K H d x L ∧ 0 < L.length ∧ L.length ≤ 100000 ∧
  ∀ (H' : Hp) (r : V) (o' : HO), (∀ b u, H b = some u → b ≠ d → H' b = some u) → H' d = some o' → Dice (n + 1) o' → r ∈ L → Q r H'
theorem ok__law_pick (T : Txt K mg) : FnOk P w K mg base CX0 2 T.a__law_pick T.d__law_pick ["_law_dice_here", "_law_items"] (sp__law_pick K) := by
  refine T.F__law_pick.ok sc__law_pick (fun vs H Q E h => ?_) (fun cdv A outer s H vs Q E hr h => ?_)
  · obtain ⟨d, n, o, x, L, rfl, _⟩ := h; rfl
  · obtain ⟨d, n, o, x, L, rfl, hd, D, hn, hp, l0, l1, k⟩ := h
    refine ⟨_, (pss_one (ps_ret (pe_ix ixU (pev 1) (pe_call (ok__law_roll T) (hr.mono (by decide)) (by rfl) T.g__law_roll T.F__law_roll.kp T.B__law_roll .nil pass0 (pa_cons (pev 0) (pa_cons (pe_callB caLen (by rfl) T.b_len (by decide +kernel) (pa_cons (pev 1) pa_nil)) pa_nil))) (fun _ _ => rfl)))), ?_⟩
    rcases hp with ⟨z, rfl, hz, rfl⟩ | ⟨p, rfl, ne, hp⟩
    · have el : z.length = z.cps.toList.length := by simp [Str.length]
      rw [List.length_map] at l0 l1
      conv => whnf
      refine ⟨small_ok (by omega), ?_⟩
      conv => whnf
      refine ⟨d, n, _, o, rfl, hd, D, hn, by omega, Int.lt_of_le_of_lt (show ((z.length : Nat) : Int) ≤ 100000 by omega) (by decide), fun H1 r o1 f1 g1 D1 r0 r1 => ?_⟩
      conv => whnf
      obtain ⟨c, hc, ec⟩ := atI_lt (xs := z.cps.toList) r0 (by omega)
      exact ⟨small_ok (by omega), c, ec, k _ _ _ f1 g1 D1 (List.mem_map.mpr ⟨c, hc, rfl⟩)⟩
    · conv => whnf
      refine ⟨L, hp, ?_⟩
      conv => whnf
      refine ⟨d, n, _, o, rfl, hd, D, hn, by omega, Int.lt_of_le_of_lt (show ((L.length : Nat) : Int) ≤ 100000 by omega) (by decide), fun H1 r o1 f1 g1 D1 r0 r1 => ?_⟩
      conv => whnf
      obtain ⟨v, hv, ev⟩ := atI_lt (xs := L) r0 r1
      exact ⟨L, v, hp.elim (fun q => .inl (sqlKeep f1 ne q)) (fun q => .inr (sqtKeep f1 ne q)), ev, k _ _ _ f1 g1 D1 hv⟩
def sp__law_strings (K : PySem.W.Frag) : Sp := fun vs H Q _ => ∃ (d : Addr) (n : Nat) (o : HO), vs = [.ref d] ∧ H d = some o ∧ Dice n o ∧ n ≤ 900000 ∧
  ∀ (H' : Hp) (p : Addr) (o' : HO) (zs : List Str), (∀ b u, H b = some u → b ≠ d → H' b = some u) → p ≠ d → H' d = some o' → Dice (n + 11) o' → H' p = some (.lst (zs.map V.str)) → zs.length ≤ 10000 → (∀ z ∈ zs, z.length ≤ 100) → Q (.ref p) H'
theorem dead_free {H H' : Hp} {d : Addr} {F : List (Addr × HO)} {o : HO} (L : At H [d] F [(d, o)] H') : ∀ e ∈ [d], ∃ u, H' e = some u := fun e he => by
  obtain rfl := List.mem_singleton.mp he
  exact ⟨o, L.getM (List.Mem.head _)⟩
theorem dead_free2 {H H' : Hp} {d a : Addr} {F : List (Addr × HO)} {o u : HO} (L : At H [d] F [(a, u), (d, o)] H') : ∀ e ∈ [d], ∃ u, H' e = some u := fun e he => by
  obtain rfl := List.mem_singleton.mp he
  exact ⟨o, L.getM (.tail _ (.head _))⟩
theorem dead_free3 {H H' : Hp} {d a b : Addr} {F : List (Addr × HO)} {o u v : HO} (L : At H [d] F [(b, v), (a, u), (d, o)] H') : ∀ e ∈ [d], ∃ u, H' e = some u := fun e he => by
  obtain rfl := List.mem_singleton.mp he
  exact ⟨o, L.getM (.tail _ (.tail _ (.head _)))⟩
theorem one_len {r : V} {z : Str} (h : r ∈ z.cps.toList.map fun c => V.str ⟨#[c]⟩) : ∃ y : Str, r = .str y ∧ y.length = 1 := by
  obtain ⟨c, _, e⟩ := List.mem_map.mp h
  exact ⟨⟨#[c]⟩, e.symm, rfl⟩
theorem len_app (a b : Str) : (a ++ b).length = a.length + b.length := by simp [Str.length, Str.cps_append]
theorem ok__law_strings (T : Txt K mg) : FnOk P w K mg base CX0 3 T.a__law_strings T.d__law_strings ["_law_dice_here"] (sp__law_strings K) := by
  refine T.F__law_strings.ok sc__law_strings (fun vs H Q E h => ?_) (fun cdv A outer s H vs Q E hr h => ?_)
  · obtain ⟨d, n, o, rfl, _⟩ := h; rfl
  · obtain ⟨d, n, o, rfl, hd, D0, hn, k⟩ := h
    refine ⟨_, (pss_cons (ps_set (i := 1) sc__law_strings.nd rfl (by first | exact Or.inl rfl | exact Or.inr rfl) pe_str)
        (pss_cons (ps_set (i := 2) sc__law_strings.nd rfl (by first | exact Or.inl rfl | exact Or.inr rfl) (pe_lst (pa_cons (pe_call (ok__law_pick T) (hr.mono (by decide)) (by rfl) T.g__law_pick T.F__law_pick.kp T.B__law_pick .nil pass0 (pa_cons (pev 0) (pa_cons pe_str pa_nil))) (pa_cons (pe_call (ok__law_pick T) (hr.mono (by decide)) (by rfl) T.g__law_pick T.F__law_pick.kp T.B__law_pick .nil pass0 (pa_cons (pev 0) (pa_cons (pev 1) pa_nil))) (pa_cons (pe_call (ok__law_pick T) (hr.mono (by decide)) (by rfl) T.g__law_pick T.F__law_pick.kp T.B__law_pick .nil pass0 (pa_cons (pev 0) (pa_cons (pe_op opAdd pe_str (pev 1)) pa_nil))) pa_nil)))))
        (pss_cons (ps_par (i := 3) (j := 4) (by rfl) sc__law_strings.nd rfl rfl (by decide) rfl rfl (pa_cons (pe_lst (pa_cons pe_str pa_nil)) (pa_cons (pe_lst (pa_cons pe_str pa_nil)) pa_nil)) (by rfl))
        (pss_cons (ps_for PassesOwn.never rfl (pi_range1 (by rfl) T.b_range (pa_cons pe_int pa_nil)) (pg_name (i := 5) sc__law_strings.nd rfl (by first | exact Or.inl rfl | exact Or.inr rfl))
        (pss_cons (ps_set (i := 6) sc__law_strings.nd rfl (by first | exact Or.inl rfl | exact Or.inr rfl) (pe_lst pa_nil))
        (pss_cons (ps_for PassesOwn.never rfl (pi_list (pev 3)) (pg_name (i := 7) sc__law_strings.nd rfl (by first | exact Or.inl rfl | exact Or.inr rfl))
        (pss_one (ps_expr (pe_bm PySem.F.plainAttrs_list PySem.F.slot_list_extend PySem.F.type_list_extend mt_extend (pev 6) (pa_cons (pe_lc (own := [("_law_sign", 10)]) (g := gName 10) (tt := tYes) (te := (tOp (uAdd K) (uV 7) (uV 10))) rfl sc__law_strings.nd (pi_list (pev 2)) (blkOk_by (own := [("_law_sign", 10)]) (N := ["_law_dice_here", "_law_odd", "_law_signs", "_law_layer", "_law_found", "_law_turn", "_law_longer", "_law_text", "_law_size", "_law_at", "_law_sign"]) (sc := defScope s__law_strings) (by decide +kernel)) (fun _ _ _ _ _ => pg_name (i := 10) sc__law_strings.nd rfl (by first | exact Or.inl rfl | exact Or.inr rfl)) (fun _ _ _ _ _ => pts_nil) (fun _ _ _ _ _ => (pe_op opAdd (pev 7) (pev 10)))) pa_nil)))))
        (pss_cons (ps_set (i := 3) sc__law_strings.nd rfl (by first | exact Or.inl rfl | exact Or.inr rfl) (pe_callTy call_list_of (by rfl) T.b_list (by decide +kernel) (pa_cons (pev 6) pa_nil)))
        (pss_one (ps_set (i := 4) sc__law_strings.nd rfl (by first | exact Or.inl rfl | exact Or.inr rfl) (pe_op opAdd (pev 4) (pev 3))))))))
        (pss_cons (ps_for PassesOwn.never rfl (pi_tup (pe_tup (pa_cons pe_int (pa_cons pe_int (pa_cons pe_int (pa_cons pe_int pa_nil)))))) (pg_name (i := 8) sc__law_strings.nd rfl (by first | exact Or.inl rfl | exact Or.inr rfl))
        (pss_cons (ps_set (i := 9) sc__law_strings.nd rfl (by first | exact Or.inl rfl | exact Or.inr rfl) (pe_call (ok__law_roll T) (hr.mono (by decide)) (by rfl) T.g__law_roll T.F__law_roll.kp T.B__law_roll .nil pass0 (pa_cons (pev 0) (pa_cons (pev 8) pa_nil))))
        (pss_one (ps_expr (pe_bm PySem.F.plainAttrs_list PySem.F.slot_list_append PySem.F.type_list_append mt_append (pev 4) (pa_cons (pe_op opAdd (pe_op opAdd (pe_op opMulT (pe_ix ixU (pev 2) pe_int (fun _ _ => rfl)) (pev 9)) (pe_call (ok__law_pick T) (hr.mono (by decide)) (by rfl) T.g__law_pick T.F__law_pick.kp T.B__law_pick .nil pass0 (pa_cons (pev 0) (pa_cons (pev 2) pa_nil)))) (pe_op opMulT (pe_ix ixU (pev 2) pe_int (fun _ _ => rfl)) (pe_op opSub (pe_op opSub (pev 8) pe_int) (pev 9)))) pa_nil))))))
        (pss_one (ps_ret (pev 4)))))))), ?_⟩
    have picked : ∀ (n : Nat) (z : Str) (x : V), x = V.str z → 0 < z.length → z.length ≤ 100 → PickOf K H d x (z.cps.toList.map fun c => V.str ⟨#[c]⟩) := fun n z x e h1 h2 => .inl ⟨z, e, by omega, rfl⟩
    conv => whnf
    refine ⟨d, n, o, _, _, rfl, hd, D0, by omega, .inl ⟨_, rfl, by decide, rfl⟩, by decide, by decide, fun H1 r1 o1 f1 g1 D1 m1 => ?_⟩
    obtain ⟨s1, rfl, l1⟩ := one_len m1
    conv => whnf
    refine ⟨d, _, o1, _, _, rfl, g1, D1, by omega, .inl ⟨_, rfl, by decide, rfl⟩, by decide, by decide, fun H2 r2 o2 f2 g2 D2 m2 => ?_⟩
    obtain ⟨s2, rfl, l2⟩ := one_len m2
    conv => whnf
    refine ⟨by decide, ?_⟩
    conv => whnf
    refine ⟨d, _, o2, _, _, rfl, g2, D2, by omega, .inl ⟨_, rfl, by decide, rfl⟩, by decide, by decide, fun H3 r3 o3 f3 g3 D3 m3 => ?_⟩
    obtain ⟨s3, rfl, l3⟩ := one_len m3
    conv => whnf
    have L3 : At H [d] [] [(d, o3)] H3 := (((At.start1 hd).set f1 g1).set f2 g2).set f3 g3
    refine ⟨small_ok (by simp), fun p hp => ?_⟩
    have L4 := L3.new (o := .lst [.str s1, .str s2, .str s3]) hp
    conv => whnf
    refine ⟨small_ok (by simp), fun q1 hq1 => ?_⟩
    have L5 := L4.new (o := .lst [.str (Str.ofString "")]) hq1
    conv => whnf
    refine ⟨small_ok (by simp), fun q2 hq2 => ?_⟩
    have L6 := L5.newM (o := .lst [.str (Str.ofString "")]) (dead_free L5) hq2
    conv => whnf
    refine ⟨_, _, rfl, ?_⟩
    conv => whnf
    have nz : (Str.ofString "").length = 0 := rfl
    refine ⟨_, rfl, by decide, by decide, for_range (lo := 0) (n := 5) (fun i σ H' => ∃ (al af : Addr) (zl zf : List Str) (v5 v6 v7 : Option V),
        σ = [some (.ref d), some (.str (Str.ofString "ABYZ 0159_-.,:;#()[]{}<>|~`'\"\\/@^&*+=!?$\n")), some (.ref p), some (.ref al), some (.ref af), v5, v6, v7, none, none, none] ∧
        At H [d] [(al, .lst (zl.map V.str)), (p, .lst [.str s1, .str s2, .str s3])] [(af, .lst (zf.map V.str)), (d, o3)] H' ∧ zl.length ≤ 3 ^ i ∧ (∀ z ∈ zl, z.length ≤ i) ∧ zf.length ≤ 1 + 243 * i ∧ (∀ z ∈ zf, z.length ≤ i))
      ⟨q1, q2, [Str.ofString ""], [Str.ofString ""], none, none, none, rfl, L6, by simp, by simp [nz], by simp, by simp [nz]⟩ ?_ ?_⟩
    · rintro i σ H' hi ⟨al, af, zl, zf, v5, v6, v7, rfl, L, b1, b2, b3, b4⟩
      have b1' : zl.length ≤ 81 := Nat.le_trans b1 (Nat.le_trans (Nat.pow_le_pow_right (by decide) (show i ≤ 4 by omega)) (by decide))
      conv => whnf
      refine ⟨small_ok (by simp), fun g hg => ?_⟩
      have N1 := L.newM (o := .lst []) (dead_free2 L) hg
      conv => whnf
      refine ⟨_, rfl, ⟨_, SqL.of (N1.get (.head _))⟩, for_list (xs := zl.map V.str) (fun j σ H'' => ∃ (zg : List Str) (v7 : Option V),
          σ = [some (.ref d), some (.str (Str.ofString "ABYZ 0159_-.,:;#()[]{}<>|~`'\"\\/@^&*+=!?$\n")), some (.ref p), some (.ref al), some (.ref af), some (.int (0 + (i : Nat))), some (.ref g), v7, none, none, none] ∧
          At H [d] [(al, .lst (zl.map V.str)), (p, .lst [.str s1, .str s2, .str s3])] [(g, .lst (zg.map V.str)), (af, .lst (zf.map V.str)), (d, o3)] H'' ∧ zg.length ≤ 3 * j ∧ (∀ z ∈ zg, z.length ≤ i + 1))
        ⟨[], v7, rfl, N1, by simp, by simp⟩ (fun j σ H'' _ ⟨zg, v, _, N, _⟩ => SqL.of (N.get (.head _))) ?_ ?_⟩
      · rintro j x σ H'' hx ⟨zg, v7, rfl, N, c1, c2⟩
        obtain ⟨z, hz, rfl⟩ := List.mem_map.mp (List.mem_of_getElem? hx)
        have hzl := b2 z hz
        conv => whnf
        refine ⟨.inl ⟨rfl, _, SqL.of (N.getM (.head _))⟩, ?_⟩
        conv => whnf
        refine ⟨_, rfl, ⟨_, SqL.of (N.get (.tail _ (.head _)))⟩, fun D hD => lc_list (xs := [V.str s1, V.str s2, V.str s3]) (fun m Hm => Hm = upd H'' D (.lst (([s1, s2, s3].take m).map fun s => V.str (z ++ s)))) (by rfl) ?_ ?_ ?_⟩
        · rintro m Hm _ rfl
          exact SqL.of ((N.new hD).get (.tail _ (.tail _ (.head _))))
        · rintro m y Hm hy rfl
          have hm : m < 3 := (List.getElem?_eq_some_iff.mp hy).1
          obtain ⟨s, hs, rfl, ls⟩ : ∃ s, [s1, s2, s3][m]? = some s ∧ y = V.str s ∧ s.length = 1 := by
            match m, hm, hy with
            | 0, _, hy => exact ⟨s1, rfl, (Option.some.inj hy).symm, l1⟩
            | 1, _, hy => exact ⟨s2, rfl, (Option.some.inj hy).symm, l2⟩
            | 2, _, hy => exact ⟨s3, rfl, (Option.some.inj hy).symm, l3⟩
          conv => whnf
          refine ⟨rfl, ?_⟩
          conv => whnf
          refine ⟨small_ok (by omega), ?_⟩
          conv => whnf
          refine ⟨_, upd_same, small_lt (by simp only [List.length_map, List.length_take]; omega), ?_⟩
          rw [upd_upd, List.take_add_one, hs]
          simp
        · rintro Hm rfl
          have N2 := N.new (o := .lst (([s1, s2, s3].take 3).map fun s => V.str (z ++ s))) hD
          conv => whnf
          have e : (zg.map V.str).length + (([s1, s2, s3].take 3).map fun s => V.str (z ++ s)).length = zg.length + 3 := by simp
          have hj := (List.getElem?_eq_some_iff.mp hx).1
          rw [List.length_map] at hj
          refine ⟨_, _, _, _, rfl, rfl, N2.getM (.head _), N2.get (.head _), small_ok (by rw [e]; omega), ?_⟩
          refine ⟨zg ++ [z ++ s1, z ++ s2, z ++ s3], _, rfl, ?_, by simp; omega, ?_⟩
          · have N3 := N2.upd (u := .lst (zg.map V.str ++ ([s1, s2, s3].take 3).map fun s => V.str (z ++ s)))
            have N4 := N3.less (F' := [(al, .lst (zl.map V.str)), (p, .lst [.str s1, .str s2, .str s3])]) (fun q hq => List.mem_cons_of_mem _ hq)
            rw [List.map_append]
            exact N4
          · intro y hy
            rcases List.mem_append.mp hy with hy | hy
            · exact c2 y hy
            · simp only [List.mem_cons, List.not_mem_nil, or_false] at hy
              rcases hy with rfl | rfl | rfl <;> (rw [len_app]; omega)
      · rintro σ H'' ⟨zg, v7, rfl, N, c1, c2⟩
        rw [List.length_map] at c1
        conv => whnf
        refine ⟨_, _, rfl, .inl (SqL.of (N.getM (.head _))), fun al' hal => ?_⟩
        have N1 := N.new (o := .lst (zg.map V.str)) hal
        conv => whnf
        have p3 : 3 ^ (i + 1) = 3 * 3 ^ i := by rw [Nat.pow_succ, Nat.mul_comm]
        refine .inl ⟨_, _, _, _, rfl, rfl, N1.getM (.tail _ (.head _)), N1.get (.head _), small_ok (by simp only [List.length_map]; omega), fun af' haf => ?_⟩
        have N2 := N1.newM (o := .lst (zf.map V.str ++ zg.map V.str)) (dead_free3 N1) haf
        refine ⟨al', af', zg, zf ++ zg, _, _, _, rfl, ?_, by omega, c2, by simp only [List.length_append]; omega, fun z hz => (List.mem_append.mp hz).elim (fun q => Nat.le_succ_of_le (b4 z q)) (c2 z)⟩
        rw [List.map_append]
        refine (N2.lessM (M' := [(af', .lst (zf.map V.str ++ zg.map V.str)), (d, o3)]) (.cons_cons _ (.cons _ (.cons _ (List.Sublist.refl _))))).less fun q hq => ?_
        simp only [List.mem_cons, List.not_mem_nil, or_false] at hq ⊢
        rcases hq with rfl | rfl <;> simp
    · rintro σ H' ⟨al, af, zl, zf, v5, v6, v7, rfl, L, b1, b2, b3, b4⟩
      conv => whnf
      refine ⟨small_ok (by simp), fun tp htp => ?_⟩
      have M1 := L.new (o := .tup [.int 7, .int 8, .int 9, .int 40]) htp
      conv => whnf
      refine ⟨_, rfl, ⟨_, SqT.of (M1.get (.head _))⟩, for_tup (xs := [V.int 7, V.int 8, V.int 9, V.int 40]) (fun j σ H'' => ∃ (o4 : HO) (zf : List Str) (v8 v9 : Option V),
          σ = [some (.ref d), some (.str (Str.ofString "ABYZ 0159_-.,:;#()[]{}<>|~`'\"\\/@^&*+=!?$\n")), some (.ref p), some (.ref al), some (.ref af), v5, v6, v7, v8, v9, none] ∧
          At H [d] [(tp, .tup [.int 7, .int 8, .int 9, .int 40]), (al, .lst (zl.map V.str)), (p, .lst [.str s1, .str s2, .str s3])] [(af, .lst (zf.map V.str)), (d, o4)] H'' ∧ Dice (n + 3 + 2 * j) o4 ∧ zf.length ≤ 2000 + j ∧ (∀ z ∈ zf, z.length ≤ 100))
        ⟨o3, zf, none, none, rfl, M1, D3, by omega, fun z hz => Nat.le_trans (b4 z hz) (by decide)⟩ (fun j σ H'' _ ⟨_, _, _, _, _, N, _⟩ => SqT.of (N.get (.head _))) ?_ ?_⟩
      · rintro j x σ H'' hx ⟨o4, zf, v8, v9, rfl, N, D4, c1, c2⟩
        have hj : j < 4 := (List.getElem?_eq_some_iff.mp hx).1
        obtain ⟨sz, rfl, z1, z2⟩ : ∃ sz : Int, x = .int sz ∧ 1 ≤ sz ∧ sz ≤ 40 := by
          match j, hj, hx with
          | 0, _, hy => exact ⟨7, (Option.some.inj hy).symm, by decide, by decide⟩
          | 1, _, hy => exact ⟨8, (Option.some.inj hy).symm, by decide, by decide⟩
          | 2, _, hy => exact ⟨9, (Option.some.inj hy).symm, by decide, by decide⟩
          | 3, _, hy => exact ⟨40, (Option.some.inj hy).symm, by decide, by decide⟩
        conv => whnf
        refine ⟨d, _, _, o4, rfl, N.getM (.tail _ (.head _)), D4, by omega, z1, Int.lt_of_le_of_lt z2 (by decide), fun H5 r o5 f5 g5 D5 r0 r1 => ?_⟩
        have N5 := N.set2 f5 g5
        conv => whnf
        refine ⟨.inl ⟨rfl, _, SqL.of (N5.getM (.head _))⟩, ?_⟩
        conv => whnf
        refine ⟨_, _, .inl (SqL.of (N5.get (.tail _ (.tail _ (.head _))))), rfl, ?_⟩
        conv => whnf
        refine ⟨⟨r0, by omega, by rw [l1]; omega⟩, ?_⟩
        conv => whnf
        have npd : p ≠ d := fun e => N5.df (d, o5) (.tail _ (.head _)) (p, _) (.tail _ (.tail _ (.head _))) e.symm
        refine ⟨d, _, o5, _, _, rfl, N5.getM (.tail _ (.head _)), D5, by omega, .inr ⟨p, rfl, npd, .inl (SqL.of (N5.get (.tail _ (.tail _ (.head _)))))⟩, by simp, by simp, fun H6 y o6 f6 g6 D6 hy => ?_⟩
        have N6 := N5.set2 f6 g6
        obtain ⟨sy, rfl, ly⟩ : ∃ sy : Str, y = .str sy ∧ sy.length = 1 := by
          simp only [List.mem_cons, List.not_mem_nil, or_false] at hy
          rcases hy with rfl | rfl | rfl
          · exact ⟨_, rfl, l1⟩
          · exact ⟨_, rfl, l2⟩
          · exact ⟨_, rfl, l3⟩
        have ml := mul_len s1 r r0
        rw [l1] at ml
        conv => whnf
        refine ⟨small_ok (by omega), ?_⟩
        conv => whnf
        refine ⟨_, _, .inl (SqL.of (N6.get (.tail _ (.tail _ (.head _))))), rfl, ?_⟩
        conv => whnf
        refine ⟨⟨by omega, by omega, by rw [l1]; omega⟩, ?_⟩
        have ml2 := mul_len s1 (sz - 1 - r) (by omega)
        rw [l1] at ml2
        conv => whnf
        refine ⟨small_ok (by rw [len_app]; omega), ?_⟩
        conv => whnf
        refine ⟨_, _, _, rfl, rfl, N6.getM (.head _), small_lt (by simp only [List.length_map]; omega), ?_⟩
        refine ⟨o6, zf ++ [Txt.mul s1 r ++ sy ++ Txt.mul s1 (sz - 1 - r)], _, _, rfl, ?_, by have := D6.up (m := n + 3 + 2 * (j + 1)) (by omega); exact this, by simp only [List.length_append, List.length_singleton]; omega, fun z hz => ?_⟩
        · rw [List.map_append]
          exact N6.upd
        · rcases List.mem_append.mp hz with hz | hz
          · exact c2 z hz
          · obtain rfl := List.mem_singleton.mp hz
            rw [len_app, len_app]
            omega
      · rintro σ H'' ⟨o4, zf, v8, v9, rfl, N, D4, c1, c2⟩
        conv => whnf
        have nad : af ≠ d := fun e => by
          have := N.nd
          simp only [List.map_cons, List.map_nil, List.nodup_cons, List.mem_cons, List.not_mem_nil, or_false] at this
          exact this.1 e
        exact k H'' af o4 zf (fun b u e nb => N.fr b u e (fun z => nb (List.mem_singleton.mp z))) nad (N.getM (.tail _ (.head _))) D4 (N.getM (.head _)) (by simp only [List.length_cons, List.length_nil] at c1; omega) c2
def sp__law_numbers (K : PySem.W.Frag) : Sp := fun vs H Q _ => ∃ (d : Addr) (n : Nat) (o : HO), vs = [.ref d] ∧ H d = some o ∧ Dice n o ∧ n ≤ 900000 ∧
  ∀ (H' : Hp) (p : Addr) (o' : HO) (zs : List Int), (∀ b u, H b = some u → b ≠ d → H' b = some u) → p ≠ d → H' d = some o' → Dice (n + 15) o' → H' p = some (.lst (zs.map V.int)) → zs.length ≤ 10000 → (∀ z ∈ zs, z.natAbs < 2 ^ 1900) → Q (.ref p) H'
theorem ten_lt {m : Nat} (h : m ≤ 89) : (10 : Int) ^ m ≤ 10 ^ 89 := by
  have e := Nat.pow_le_pow_right (show 0 < 10 by decide) h
  have e2 : ((10 ^ m : Nat) : Int) ≤ ((10 ^ 89 : Nat) : Int) := Int.ofNat_le.mpr e
  rw [Int.natCast_pow, Int.natCast_pow] at e2
  exact e2
theorem ten_ge (m : Nat) : (1 : Int) ≤ 10 ^ m := Int.pow_pos (show (0 : Int) < 10 by decide)
theorem ok__law_numbers (T : Txt K mg) : FnOk P w K mg base CX0 3 T.a__law_numbers T.d__law_numbers ["_law_dice_here"] (sp__law_numbers K) := by
  refine T.F__law_numbers.ok sc__law_numbers (fun vs H Q E h => ?_) (fun cdv A outer s H vs Q E hr h => ?_)
  · obtain ⟨d, n, o, rfl, _⟩ := h; rfl
  · obtain ⟨d, n, o, rfl, hd, D0, hn, k⟩ := h
    refine ⟨_, (pss_cons (ps_set (i := 1) sc__law_numbers.nd rfl (by first | exact Or.inl rfl | exact Or.inr rfl) (pe_lst (pa_cons pe_int (pa_cons pe_int (pa_cons (pe_un unNeg pe_int) pa_nil)))))
        (pss_cons (ps_for PassesOwn.never rfl (pi_range1 (by rfl) T.b_range (pa_cons pe_int pa_nil)) (pg_name (i := 2) sc__law_numbers.nd rfl (by first | exact Or.inl rfl | exact Or.inr rfl))
        (pss_cons (ps_set (i := 3) sc__law_numbers.nd rfl (by first | exact Or.inl rfl | exact Or.inr rfl) pe_int)
        (pss_cons (ps_for PassesOwn.never rfl (pi_range1 (by rfl) T.b_range (pa_cons (pe_call (ok__law_pick T) (hr.mono (by decide)) (by rfl) T.g__law_pick T.F__law_pick.kp T.B__law_pick .nil pass0 (pa_cons (pev 0) (pa_cons (pe_lst (pa_cons pe_int (pa_cons pe_int (pa_cons pe_int (pa_cons pe_int (pa_cons pe_int (pa_cons pe_int (pa_cons pe_int (pa_cons pe_int pa_nil))))))))) pa_nil))) pa_nil)) (pg_name (i := 4) sc__law_numbers.nd rfl (by first | exact Or.inl rfl | exact Or.inr rfl))
        (pss_one (ps_set (i := 3) sc__law_numbers.nd rfl (by first | exact Or.inl rfl | exact Or.inr rfl) (pe_op opMulT (pev 3) pe_int))))
        (pss_cons (ps_set (i := 5) sc__law_numbers.nd rfl (by first | exact Or.inl rfl | exact Or.inr rfl) (pe_op opSub (pe_op opAdd (pev 3) (pe_call (ok__law_roll T) (hr.mono (by decide)) (by rfl) T.g__law_roll T.F__law_roll.kp T.B__law_roll .nil pass0 (pa_cons (pev 0) (pa_cons pe_int pa_nil)))) pe_int))
        (pss_one (ps_set (i := 1) sc__law_numbers.nd rfl (by first | exact Or.inl rfl | exact Or.inr rfl) (pe_op opAdd (pev 1) (pe_lst (pa_cons (pev 5) (pa_cons (pe_un unNeg (pev 5)) (pa_cons (pe_call (ok__law_roll T) (hr.mono (by decide)) (by rfl) T.g__law_roll T.F__law_roll.kp T.B__law_roll .nil pass0 (pa_cons (pev 0) (pa_cons (pev 3) pa_nil))) pa_nil)))))))))))
        (pss_one (ps_ret (pev 1))))), ?_⟩
    conv => whnf
    refine ⟨small_ok (by simp), fun q hq => ?_⟩
    have L0 : At H [d] [(q, .lst [.int 0, .int 1, .int (-1)])] [(d, o)] _ := (At.start1 hd).new hq
    conv => whnf
    refine ⟨_, rfl, by decide, by decide, for_range (lo := 0) (n := 5) (fun i σ H' => ∃ (af : Addr) (zf : List Int) (o1 : HO) (v2 v3 v4 v5 : Option V),
        σ = [some (.ref d), some (.ref af), v2, v3, v4, v5] ∧ At H [d] [(af, .lst (zf.map V.int))] [(d, o1)] H' ∧ Dice (n + 3 * i) o1 ∧ zf.length ≤ 3 + 3 * i ∧ (∀ z ∈ zf, z.natAbs < 2 ^ 1900))
      ⟨q, [0, 1, -1], o, none, none, none, none, rfl, L0, D0, by simp, by intro z hz; simp only [List.mem_cons, List.not_mem_nil, or_false] at hz; rcases hz with rfl | rfl | rfl <;> decide⟩ ?_ ?_⟩
    · rintro i σ H' hi ⟨af, zf, o1, v2, v3, v4, v5, rfl, L, D1, b1, b2⟩
      conv => whnf
      refine ⟨small_ok (by simp), fun g hg => ?_⟩
      have L1 := L.new (o := .lst [.int 0, .int 1, .int 16, .int 59, .int 60, .int 60, .int 61, .int 89]) hg
      conv => whnf
      have ngd : g ≠ d := fun e => L1.df (d, o1) (.head _) (g, _) (.head _) e.symm
      refine ⟨d, _, o1, _, _, rfl, L1.getM (.head _), D1, by omega, .inr ⟨g, rfl, ngd, .inl (SqL.of (L1.get (.head _)))⟩, by simp, by simp, fun H2 y o2 f2 g2 D2 hy => ?_⟩
      have M2 := L1.set f2 g2
      obtain ⟨m, rfl, hm⟩ : ∃ m : Nat, y = .int (m : Int) ∧ m ≤ 89 := by
        simp only [List.mem_cons, List.not_mem_nil, or_false] at hy
        rcases hy with rfl | rfl | rfl | rfl | rfl | rfl | rfl | rfl
        all_goals first | exact ⟨0, rfl, by decide⟩ | exact ⟨1, rfl, by decide⟩ | exact ⟨16, rfl, by decide⟩ | exact ⟨59, rfl, by decide⟩ | exact ⟨60, rfl, by decide⟩ | exact ⟨61, rfl, by decide⟩ | exact ⟨89, rfl, by decide⟩
      conv => whnf
      refine ⟨_, rfl, by omega, by omega, for_range (lo := 0) (n := (m : Int).toNat) (fun j σ H3 => H3 = H2 ∧ ∃ v4 : Option V, σ = [some (.ref d), some (.ref af), some (.int (0 + (i : Nat))), some (.int (10 ^ j)), v4, v5])
        ⟨rfl, v4, rfl⟩ ?_ ?_⟩
      · rintro j σ H3 hj ⟨rfl, v4, rfl⟩
        have h1 := ten_lt (m := j) (by omega)
        have h2 := ten_ge j
        conv => whnf
        refine ⟨mulW 400 400 (U.abs_lt (by omega) (Int.lt_of_le_of_lt h1 (by decide))) (by decide), ?_⟩
        refine ⟨rfl, some (.int (0 + (j : Nat))), ?_⟩
        rw [Int.pow_succ]
        rfl
      · rintro σ H3 ⟨rfl, v4, rfl⟩
        have e : (m : Int).toNat = m := by omega
        rw [e]
        have h1 := ten_lt hm
        have h2 := ten_ge m
        generalize (10 : Int) ^ m = N at h1 h2
        conv => whnf
        refine ⟨d, _, _, o2, rfl, M2.getM (.head _), D2, by omega, by decide, by decide, fun H4 r o4 f4 g4 D4 r0 r1 => ?_⟩
        have L4 := M2.set f4 g4
        conv => whnf
        have bN : N < 2 ^ 1800 := Int.lt_of_le_of_lt h1 (by decide)
        refine ⟨d, _, _, o4, rfl, L4.getM (.head _), D4, by omega, h2, Int.lt_trans bN (by decide), fun H5 r' o5 f5 g5 D5 r0' r1' => ?_⟩
        have L5 := L4.set f5 g5
        conv => whnf
        refine ⟨small_ok (by simp), fun g5 hg5 => ?_⟩
        have L6 := L5.new (o := .lst [.int (N + r - 1), .int (-(N + r - 1)), .int r']) hg5
        conv => whnf
        refine .inl ⟨_, _, _, _, rfl, rfl, L6.get (.tail _ (.tail _ (.head _))), L6.get (.head _), small_ok (by simp only [List.length_map, List.length_cons, List.length_nil]; omega), fun af' haf => ?_⟩
        have L7 := L6.new (o := .lst (zf.map V.int ++ [.int (N + r - 1), .int (-(N + r - 1)), .int r'])) haf
        have bb : ∀ z : Int, 0 ≤ z → z ≤ N + 2 → z.natAbs < 2 ^ 1900 := fun z z0 z1 => U.abs_lt z0 (by
          have : (2 : Int) ^ 1800 + 2 < 2 ^ 1900 := by decide
          omega)
        refine ⟨af', zf ++ [N + r - 1, -(N + r - 1), r'], o5, _, _, _, _, rfl, ?_, D5, by simp only [List.length_append, List.length_cons, List.length_nil]; omega, fun z hz => ?_⟩
        · rw [List.map_append]
          exact L7.less fun q hq => by
            obtain rfl := List.mem_singleton.mp hq
            exact .head _
        · rcases List.mem_append.mp hz with hz | hz
          · exact b2 z hz
          · simp only [List.mem_cons, List.not_mem_nil, or_false] at hz
            rcases hz with rfl | rfl | rfl
            · exact bb _ (by omega) (by omega)
            · rw [Int.natAbs_neg]
              exact bb _ (by omega) (by omega)
            · exact bb _ r0' (by omega)
    · rintro σ H' ⟨af, zf, o1, v2, v3, v4, v5, rfl, L, D1, b1, b2⟩
      conv => whnf
      exact k H' af o1 zf (fun b u e nb => L.fr b u e (fun z => nb (List.mem_singleton.mp z))) (fun e => L.df (d, o1) (.head _) (af, _) (.head _) e.symm) (L.getM (.head _)) D1 (L.get (.head _)) (by omega) b2
def sp__law_is_let (K : PySem.W.Frag) : Sp := fun vs H Q _ => ∃ n : Int, vs = [.int n] ∧ n.natAbs < 2 ^ 1900 ∧ Q (.bl (decide (n.natAbs < 10 ^ 60))) H
theorem ok__law_is_let (T : Txt K mg) : FnOk P w K mg base CX0 1 T.a__law_is_let T.d__law_is_let ["_law_number"] (sp__law_is_let K) := by
  refine T.F__law_is_let.ok sc__law_is_let (fun vs H Q E h => ?_) (fun cdv A outer s H vs Q E hr h => ?_)
  · obtain ⟨n, rfl, _⟩ := h; rfl
  · obtain ⟨n, rfl, hn, k⟩ := h
    refine ⟨_, (pss_one (ps_ret (pe_cmpR opLt (pe_callB caLen (by rfl) T.b_len (by decide +kernel) (pa_cons (pe_bm PySem.F.plainAttrs_str PySem.F.slot_str_strip PySem.F.type_str_strip mt_stripChars (pe_callTy caStr (by rfl) T.b_str (by decide +kernel) (pa_cons (pev 0) pa_nil)) (pa_cons pe_str pa_nil)) pa_nil)) pe_int (nomark _)))), ?_⟩
    conv => whnf
    refine ⟨num_fits hn, ?_⟩
    conv => whnf
    refine ⟨rfl, ?_⟩
    conv => whnf
    refine ⟨_, _, rfl, rfl, num_len hn, ?_⟩
    conv => whnf
    refine ⟨Nat.le_trans (PyProof.Rows.len_stripChars _ _) (num_len hn), ?_⟩
    conv => whnf
    have e : decide (((Txt.stripChars (Str.ofString (toString n)) (Str.ofString "-")).length : Int) < 61) = decide (n.natAbs < 10 ^ 60) := by
      have := let_len n
      by_cases h : n.natAbs < 10 ^ 60
      · rw [decide_eq_true h, decide_eq_true (by have := this.mpr h; omega)]
      · rw [decide_eq_false h, decide_eq_false (by have := fun z => h (this.mp z); omega)]
    rw [← e] at k
    exact k
def letters : List Nat := ("abcdefghijklmnopqrstuvwxyz" : Str).cps.toList
/-- a name -/
def isNameV : V → Bool
  | .str z => decide (1 ≤ z.length) && decide (z.length ≤ 8) && z.cps.toList.all fun c => decide (c ∈ letters)
  | _ => false
def sp_is_name (K : PySem.W.Frag) : Sp := fun vs H Q _ => ∃ (v : V) (T : String), vs = [v] ∧ Kd K H v T ∧ (∀ z, v = .str z → z.length ≤ 100000) ∧ ∀ H', (∀ b u, H b = some u → H' b = some u) → Q (.bl (isNameV v)) H'
theorem isNameV_not {K : PySem.W.Frag} {H : Hp} {v : V} {T : String} (h : Kd K H v T) (n : T ≠ "str") : isNameV v = false := by
  cases v with
  | str i => exact absurd h.ofStr n
  | _ => rfl
theorem ok_is_name (T : Txt K mg) : FnOk P w K mg base CX0 1 T.a_is_name T.d_is_name ["value"] (sp_is_name K) := by
  refine T.F_is_name.ok sc_is_name (fun vs H Q E h => ?_) (fun cdv A outer s H vs Q E hr h => ?_)
  · obtain ⟨v, T, rfl, _⟩ := h; rfl
  · obtain ⟨v, S, rfl, hk, hz, k⟩ := h
    refine ⟨_, (pss_cons (psIf (PW.pt (pwOr (pt_not (ptV (pe_callB call_isi (by rfl) T.b_isinstance (by decide +kernel) (pa_cons (pev 0) (pa_cons (pe_bltn (v := .ty "str") (by rfl) T.b_str (by decide +kernel) rfl) pa_nil))))) (pw_or1 (pt_not (pt_chain opLe opLe pe_int (pe_callB caLen (by rfl) T.b_len (by decide +kernel) (pa_cons (pev 0) pa_nil)) (pe_glob (v := .int 8) (by rfl) T.v_MAX_LETTERS ⟨_, rfl⟩)))))) (pss_one (ps_ret pe_bl)) pss_nil)
        (pss_one (ps_ret (pe_callB (caAll rfl) (by rfl) T.b_all (by decide +kernel) (pa_cons (pe_lc (own := [("letter", 1)]) (g := gName 1) (tt := tYes) (te := (tOp uInS (uV 1) (tC (.str "abcdefghijklmnopqrstuvwxyz")))) rfl sc_is_name.nd (pi_str (pev 0)) (blkOk_by (own := [("letter", 1)]) (N := ["value", "letter"]) (sc := defScope s_is_name) (by decide +kernel)) (fun _ _ _ _ _ => pg_name (i := 1) sc_is_name.nd rfl (by first | exact Or.inl rfl | exact Or.inr rfl)) (fun _ _ _ _ _ => pts_nil) (fun _ _ _ _ _ => (pe_cmpR opInS (pev 1) (pe_glob (v := .str "abcdefghijklmnopqrstuvwxyz") (by rfl) T.v_LETTERS ⟨_, rfl⟩) rfl))) pa_nil))))), ?_⟩
    conv => whnf
    refine ⟨_, _, _, _, _, rfl, .ty _, hk.1, kit_ty (kd_str hk.2), ?_⟩
    conv => whnf
    by_cases h1 : S = "str"
    · subst h1
      obtain ⟨z, rfl⟩ := hk.isStr
      have hz := hz z rfl
      refine brF ?_
      conv => whnf
      refine ⟨small_ok (by omega), ?_⟩
      conv => whnf
      refine ⟨_, rfl, ?_⟩
      have el : z.length = z.cps.toList.length := by simp [Str.length]
      refine ite2 (fun h => ?_) (fun h => ?_)
      · conv => whnf
        refine ⟨_, rfl, ?_⟩
        refine br2 (fun h8 => ?_) (fun h8 => ?_)
        · conv => whnf
          have h8' : ¬ ((z.length : Int) ≤ 8) := by simpa using h8
          have e : isNameV (.str z) = false := by
            show (_ && decide (z.length ≤ 8) && _) = false
            rw [decide_eq_false (show ¬ z.length ≤ 8 by omega)]; simp
          have k := k H (fun _ _ e => e)
          rw [e] at k
          exact k
        · conv => whnf
          have h8' : (z.length : Int) ≤ 8 := by simpa using h8
          have h' : 1 ≤ (z.length : Int) := by simpa using h
          refine ⟨z, rfl, fun D hD => lc_it walk_str (fun i H' => H' = upd H D (.lst ((z.cps.toList.take i).map fun c => V.bl (decide (c ∈ letters))))) (by rfl) (fun _ _ _ _ => trivial) ?_ ?_⟩
          · rintro i x H1 H2 hi rfl ⟨rfl, c, hc, rfl⟩
            conv => whnf
            refine ⟨rfl, ?_⟩
            conv => whnf
            refine ⟨c, rfl, ?_⟩
            conv => whnf
            have hl : i < z.cps.toList.length := by simpa using hi
            have e : z.cps.toList.take (i + 1) = z.cps.toList.take i ++ [c] := by
              rw [List.take_add_one]
              simp [hc]
            refine ⟨_, upd_same, small_lt (by simp only [List.length_map, List.length_take]; omega), ?_⟩
            rw [e, List.map_append, upd_upd]
            rfl
          · rintro H1 rfl
            conv => whnf
            refine ⟨D, z.cps.toList.map fun c => decide (c ∈ letters), rfl, SqL.of ?_, ?_⟩
            · have e : z.cps.toList.take z.cps.size = z.cps.toList := by rw [List.take_of_length_le (by simp)]
              rw [e, List.map_map]
              exact upd_same
            · have e : isNameV (.str z) = (z.cps.toList.map fun c => decide (c ∈ letters)).all id := by
                show (decide _ && decide (z.length ≤ 8) && _) = _
                rw [decide_eq_true (show 1 ≤ z.length by omega), decide_eq_true (show z.length ≤ 8 by omega), List.all_map]
                rfl
              rw [← e]
              exact k _ fun b u q => by rw [upd_ne (ne_of_none q hD)]; exact q
      · conv => whnf
        refine ⟨_, rfl, ?_⟩
        refine brT ?_
        conv => whnf
        have h' : ¬ (1 ≤ (z.length : Int)) := by simpa using h
        have e : isNameV (.str z) = false := by
          show (decide _ && _ && _) = false
          rw [decide_eq_false (show ¬ 1 ≤ z.length by omega)]; simp
        have k := k H (fun _ _ e => e)
        rw [e] at k
        exact k
    · refine brY (by simp [h1]) ?_
      conv => whnf
      refine brT ?_
      conv => whnf
      have k := k H (fun _ _ e => e)
      rw [isNameV_not hk h1] at k
      exact k
/-- an integer that is let -/
def isIntV : V → Bool
  | .int i => decide (-(10 ^ 60) < i) && decide (i < 10 ^ 60)
  | _ => false
def sp_is_integer (K : PySem.W.Frag) : Sp := fun vs H Q _ => ∃ (v : V) (T : String), vs = [v] ∧ Kd K H v T ∧ Q (.bl (isIntV v)) H
theorem isIntV_not {K : PySem.W.Frag} {H : Hp} {v : V} {T : String} (h : Kd K H v T) (n : T ≠ "int") : isIntV v = false := by
  cases v with
  | int i => exact absurd h.ofInt n
  | _ => rfl
theorem ok_is_integer (T : Txt K mg) : FnOk P w K mg base CX0 1 T.a_is_integer T.d_is_integer ["value"] (sp_is_integer K) := by
  refine T.F_is_integer.ok sc_is_integer (fun vs H Q E h => ?_) (fun cdv A outer s H vs Q E hr h => ?_)
  · obtain ⟨v, S, rfl, _⟩ := h; rfl
  · obtain ⟨v, S, rfl, hk, k⟩ := h
    refine ⟨_, (pss_cons (psIf (PW.pt (pwOr (pt_not (ptV (pe_callB call_isi (by rfl) T.b_isinstance (by decide +kernel) (pa_cons (pev 0) (pa_cons (pe_bltn (v := .ty "int") (by rfl) T.b_int (by decide +kernel) rfl) pa_nil))))) (pw_or1 (ptV (pe_callB call_isi (by rfl) T.b_isinstance (by decide +kernel) (pa_cons (pev 0) (pa_cons (pe_bltn (v := .ty "bool") (by rfl) T.b_bool (by decide +kernel) rfl) pa_nil))))))) (pss_one (ps_ret pe_bl)) pss_nil)
        (pss_one (ps_ret (pe_chain opLt opLt (pe_un unNeg (pe_glob (v := .int 1000000000000000000000000000000000000000000000000000000000000) (by rfl) T.v_BEYOND ⟨_, rfl⟩)) (pev 0) (pe_glob (v := .int 1000000000000000000000000000000000000000000000000000000000000) (by rfl) T.v_BEYOND ⟨_, rfl⟩))))), ?_⟩
    conv => whnf
    refine ⟨_, _, _, _, _, rfl, .ty _, hk.1, kit_ty (kd_int hk.2), ?_⟩
    conv => whnf
    by_cases h1 : S = "int"
    · subst h1
      obtain ⟨i, rfl⟩ := hk.isInt
      refine brF ?_
      conv => whnf
      refine ⟨_, _, _, _, _, rfl, .ty _, hk.1, kit_ty (kd_bool hk.2), ?_⟩
      conv => whnf
      refine brF ?_
      conv => whnf
      refine ⟨_, rfl, ?_⟩
      refine ite2 (fun h => ?_) (fun h => ?_)
      · conv => whnf
        have e : isIntV (.int i) = decide (i < 1000000000000000000000000000000000000000000000000000000000000) := by
          show (decide _ && decide _) = _
          rw [show decide (-(10 ^ 60 : Int) < i) = true from h]; rfl
        rw [e] at k
        exact k
      · conv => whnf
        have e : isIntV (.int i) = false := by
          show (decide _ && decide _) = _
          rw [show decide (-(10 ^ 60 : Int) < i) = false from Bool.eq_false_iff.mpr h]; rfl
        rw [e] at k
        exact k
    · by_cases h2 : S = "bool"
      · subst h2
        refine brF ?_
        conv => whnf
        refine ⟨_, _, _, _, _, rfl, .ty _, hk.1, kit_ty (kd_bool hk.2), ?_⟩
        conv => whnf
        refine brT ?_
        conv => whnf
        rw [isIntV_not hk h1] at k
        exact k
      · refine brY (by simp [h1, h2]) ?_
        conv => whnf
        refine brT ?_
        conv => whnf
        rw [isIntV_not hk h1] at k
        exact k
def isCountV : V → Bool
  | .int i => isIntV (.int i) && decide (0 ≤ i)
  | _ => false
def sp_is_count (K : PySem.W.Frag) : Sp := fun vs H Q _ => ∃ (v : V) (T : String), vs = [v] ∧ Kd K H v T ∧ Q (.bl (isCountV v)) H
theorem ok_is_count (T : Txt K mg) : FnOk P w K mg base CX0 2 T.a_is_count T.d_is_count ["value"] (sp_is_count K) := by
  refine T.F_is_count.ok sc_is_count (fun vs H Q E h => ?_) (fun cdv A outer s H vs Q E hr h => ?_)
  · obtain ⟨v, T, rfl, _⟩ := h; rfl
  · obtain ⟨v, S, rfl, hk, k⟩ := h
    refine ⟨_, (pss_one (ps_ret (peAnd (pe_call (ok_is_integer T) (hr.mono (by decide)) (by rfl) T.g_is_integer T.F_is_integer.kp T.B_is_integer .nil pass0 (pa_cons (pev 0) pa_nil)) (pe_one (pe_cmpR opGe (pev 0) pe_int (nomark _)))))), ?_⟩
    conv => whnf
    refine ⟨v, S, rfl, hk, ?_⟩
    conv => whnf
    refine br2 (fun h => ?_) (fun h => ?_)
    · cases v with
      | int i =>
        conv => whnf
        have e : isCountV (.int i) = decide (0 ≤ i) := by show (isIntV _ && _) = _; rw [h]; rfl
        rw [e] at k
        exact k
      | _ => cases h
    · have e : isCountV v = false := by
        cases v with
        | int i => show (isIntV _ && _) = _; rw [h]; rfl
        | _ => rfl
      rw [e] at k
      exact k
def sp_law (K : PySem.W.Frag) : Sp := fun vs H Q _ => ∃ (a : Addr) (ns : List Int), vs = [.ref a] ∧ SqL K H a (ns.map V.int) ∧ ns.length ≤ 63 ∧ ∀ H', Q (.bl true) H'
theorem enter (K : PySem.W.Frag) (H : Hp) (a : Addr) (ns : List Int) (h1 : ns.length ≤ 63) (h2 : ∀ z ∈ ns, Builtin.Int.intBits z ≤ 1048576) (h3 : SqL K H a (ns.map V.int)) : sp_law K [.ref a] H (fun v _ => v = .bl true) fun _ _ _ => False := ⟨a, ns, rfl, h3, h1, fun _ => rfl⟩
theorem mem_let (c : Nat) : (Str.ofString "abcdefghijklmnopqrstuvwxyz").cps.contains c = decide (c ∈ letters) := by
  show _ = decide (c ∈ (Str.ofString "abcdefghijklmnopqrstuvwxyz").cps.toList)
  rw [Bool.eq_iff_iff, decide_eq_true_iff, Array.mem_toList_iff, Array.contains_iff]
theorem strip_iff (z : Str) : V.str (Txt.stripChars z (Str.ofString "abcdefghijklmnopqrstuvwxyz")) = V.str (Str.ofString "") ↔ (z.cps.toList.all fun c => decide (c ∈ letters)) = true := by
  rw [V.str.injEq, str_nil]
  unfold Txt.stripChars
  rw [strip_list, stripL_nil, List.all_eq_true]
  constructor
  · intro h c hc
    rw [← mem_let]
    exact h c hc
  · intro h c hc
    rw [mem_let]
    exact h c hc
theorem shown3 (a b c : Bool) : (PyData.list [.bool a, .bool b, .bool c]).shown.length ≤ sizeLine := by
  rw [sizeLine_eq]
  cases a <;> cases b <;> cases c <;> decide +kernel
theorem sh3 (a b c : Bool) : (PyData.list [.bool a, .bool b, .bool c]).showable = true := by cases a <;> cases b <;> cases c <;> decide +kernel
theorem sp3 (a b c : Bool) : SeqAt.shaped (PyData.list [.bool a, .bool b, .bool c]) = true := by cases a <;> cases b <;> cases c <;> decide +kernel
theorem dp3 {K : PySem.W.Frag} {H : Hp} {p : Addr} {a b c : Bool} (h : H p = some (.lst [.bl a, .bl b, .bl c])) : Dp K H (.ref p) (.list [.bool a, .bool b, .bool c]) := .lst (SqL.of h) (.cons (.bl a) (.cons (.bl b) (.cons (.bl c) .nil)))
theorem ok_law (T : Txt K mg) : FnG P w K mg base CX0 4 T.a_law T.d_law ["_law_script"] (sp_law K) := by
  refine okG T.F_law sc_law (fun vs H Q E h => ?_) (fun cdv A outer s H vs Q E hg hr h => ?_)
  · obtain ⟨a, ns, rfl, _⟩ := h; rfl
  · obtain ⟨a, ns, rfl, hS, hn, k⟩ := h
    refine ⟨_, PSs.nox (pss_cons (ps_for PassesOwn.never rfl (pi_range1 (by rfl) T.b_range (pa_cons (pe_callB (caMax rfl) (by rfl) T.b_max (by decide +kernel) (pa_cons pe_int (pa_cons (pe_callB (caMin rfl) (by rfl) T.b_min (by decide +kernel) (pa_cons pe_int (pa_cons (pe_callB caLen (by rfl) T.b_len (by decide +kernel) (pa_cons (pev 0) pa_nil)) pa_nil))) pa_nil))) pa_nil)) (pg_name (i := 1) sc_law.nd rfl (by first | exact Or.inl rfl | exact Or.inr rfl))
        (pss_cons (ps_set (i := 2) sc_law.nd rfl (by first | exact Or.inl rfl | exact Or.inr rfl) (pe_call (ok__law_dice T) (hr.mono (by decide)) (by rfl) T.g__law_dice T.F__law_dice.kp T.B__law_dice .nil pass0 (pa_cons (pev 0) (pa_cons (pev 1) pa_nil))))
        (pss_cons (ps_for PassesOwn.never rfl (pi_list (pe_call (ok__law_strings T) (hr.mono (by decide)) (by rfl) T.g__law_strings T.F__law_strings.kp T.B__law_strings .nil pass0 (pa_cons (pev 2) pa_nil))) (pg_name (i := 3) sc_law.nd rfl (by first | exact Or.inl rfl | exact Or.inr rfl))
        (pss_cons (ps_set (i := 4) sc_law.nd rfl (by first | exact Or.inl rfl | exact Or.inr rfl) (peAnd (pe_cmpR (opEq (hu64 hr)) (pe_bm PySem.F.plainAttrs_str PySem.F.slot_str_strip PySem.F.type_str_strip mt_stripChars (pev 3) (pa_cons pe_str pa_nil)) pe_str (nomark _)) (pe_one (pe_chain opLt opLt pe_int (pe_callB caLen (by rfl) T.b_len (by decide +kernel) (pa_cons (pev 3) pa_nil)) pe_int))))
        (pss_one (psIf (pt_cmpR (opNe (hu64 hr)) (pe_callB (caRepr hg (hu70 hr)) (by rfl) T.b_repr (by decide +kernel) (pa_cons (pe_lst (pa_cons (pe_call (ok_is_name T) (hr.mono (by decide)) (by rfl) T.g_is_name T.F_is_name.kp T.B_is_name .nil pass0 (pa_cons (pev 3) pa_nil)) (pa_cons (pe_call (ok_is_integer T) (hr.mono (by decide)) (by rfl) T.g_is_integer T.F_is_integer.kp T.B_is_integer .nil pass0 (pa_cons (pev 3) pa_nil)) (pa_cons (pe_call (ok_is_count T) (hr.mono (by decide)) (by rfl) T.g_is_count T.F_is_count.kp T.B_is_count .nil pass0 (pa_cons (pev 3) pa_nil)) pa_nil)))) pa_nil)) (pe_callB (caRepr hg (hu70 hr)) (by rfl) T.b_repr (by decide +kernel) (pa_cons (pe_lst (pa_cons (pev 4) (pa_cons pe_bl (pa_cons pe_bl pa_nil)))) pa_nil)) (nomark _)) (pss_one (ps_ret pe_bl)) pss_nil))))
        (pss_one (ps_for PassesOwn.never rfl (pi_list (pe_call (ok__law_numbers T) (hr.mono (by decide)) (by rfl) T.g__law_numbers T.F__law_numbers.kp T.B__law_numbers .nil pass0 (pa_cons (pev 2) pa_nil))) (pg_name (i := 5) sc_law.nd rfl (by first | exact Or.inl rfl | exact Or.inr rfl))
        (pss_cons (ps_set (i := 4) sc_law.nd rfl (by first | exact Or.inl rfl | exact Or.inr rfl) (pe_lst (pa_cons pe_bl (pa_cons (pe_call (ok__law_is_let T) (hr.mono (by decide)) (by rfl) T.g__law_is_let T.F__law_is_let.kp T.B__law_is_let .nil pass0 (pa_cons (pev 5) pa_nil)) (pa_cons (peAnd (pe_call (ok__law_is_let T) (hr.mono (by decide)) (by rfl) T.g__law_is_let T.F__law_is_let.kp T.B__law_is_let .nil pass0 (pa_cons (pev 5) pa_nil)) (pe_one (pe_cmpR opGe (pev 5) pe_int (nomark _)))) pa_nil)))))
        (pss_one (psIf (pt_cmpR (opNe (hu64 hr)) (pe_callB (caRepr hg (hu70 hr)) (by rfl) T.b_repr (by decide +kernel) (pa_cons (pe_lst (pa_cons (pe_call (ok_is_name T) (hr.mono (by decide)) (by rfl) T.g_is_name T.F_is_name.kp T.B_is_name .nil pass0 (pa_cons (pev 5) pa_nil)) (pa_cons (pe_call (ok_is_integer T) (hr.mono (by decide)) (by rfl) T.g_is_integer T.F_is_integer.kp T.B_is_integer .nil pass0 (pa_cons (pev 5) pa_nil)) (pa_cons (pe_call (ok_is_count T) (hr.mono (by decide)) (by rfl) T.g_is_count T.F_is_count.kp T.B_is_count .nil pass0 (pa_cons (pev 5) pa_nil)) pa_nil)))) pa_nil)) (pe_callB (caRepr hg (hu70 hr)) (by rfl) T.b_repr (by decide +kernel) (pa_cons (pev 4) pa_nil)) (nomark _)) (pss_one (ps_ret pe_bl)) pss_nil))))))))
        (pss_cons (ps_set (i := 6) sc_law.nd rfl (by first | exact Or.inl rfl | exact Or.inr rfl) (pe_lst (pa_cons pe_non (pa_cons pe_bl (pa_cons pe_bl (pa_cons (pe_tup pa_nil) (pa_cons (pe_tup (pa_cons pe_str pa_nil)) (pa_cons (pe_lst (pa_cons pe_str pa_nil)) (pa_cons (pe_disp (pps_cons pe_str pe_int pps_nil) (by rfl) (by rfl) (fun z => by cases z) (by decide)) (pa_cons (pe_tup (pa_cons pe_int pa_nil)) (pa_cons (pe_lst (pa_cons pe_int pa_nil)) (pa_cons (pe_disp (pps_cons pe_int pe_int pps_nil) (by rfl) (by rfl) (fun z => by cases z) (by decide)) (pa_cons (pe_tup (pa_cons pe_str (pa_cons pe_str pa_nil))) pa_nil)))))))))))))
        (pss_cons (psIf (pt_cmpR (opNe (hu64 hr)) (pe_lc (own := [("_law_one", 7)]) (g := gName 7) (tt := (uOr (uTrue K (tCall (sp_is_name K) [] E0 (tCons (uV 7) tNil))) (uOr (uTrue K (tCall (sp_is_integer K) [] E0 (tCons (uV 7) tNil))) (uTrue K (tCall (sp_is_count K) [] E0 (tCons (uV 7) tNil)))))) (te := (uV 7)) rfl sc_law.nd (pi_list (pev 6)) (blkOk_by (own := [("_law_one", 7)]) (N := ["_law_script", "_law_spot", "_law_dice_here", "_law_text", "_law_due", "_law_number", "_law_odd", "_law_one"]) (sc := defScope s_law) (by decide +kernel)) (fun _ _ _ _ _ => pg_name (i := 7) sc_law.nd rfl (by first | exact Or.inl rfl | exact Or.inr rfl)) (fun _ _ _ _ _ => (pts_one (PW.pt (pwOr (ptV (pe_call (ok_is_name T) (hr.mono (by decide)) (by rfl) T.g_is_name T.F_is_name.kp T.B_is_name .nil pass0 (pa_cons (pev 7) pa_nil))) (pwOr (ptV (pe_call (ok_is_integer T) (hr.mono (by decide)) (by rfl) T.g_is_integer T.F_is_integer.kp T.B_is_integer .nil pass0 (pa_cons (pev 7) pa_nil))) (pw_or1 (ptV (pe_call (ok_is_count T) (hr.mono (by decide)) (by rfl) T.g_is_count T.F_is_count.kp T.B_is_count .nil pass0 (pa_cons (pev 7) pa_nil))))))))) (fun _ _ _ _ _ => (pev 7))) (pe_lst pa_nil) (nomark _)) (pss_one (ps_ret pe_bl)) pss_nil)
        (pss_one (ps_ret (pe_cmpR (opEq (hu64 hr)) (pe_lst (pa_cons (pe_glob (v := .int 8) (by rfl) T.v_MAX_LETTERS ⟨_, rfl⟩) (pa_cons (pe_glob (v := .int 60) (by rfl) T.v_MAX_FIGURES ⟨_, rfl⟩) pa_nil))) (pe_lst (pa_cons pe_int (pa_cons pe_int pa_nil))) (nomark _))))))), ?_⟩
    conv => whnf
    refine ⟨_, .inl hS, ?_⟩
    conv => whnf
    rw [List.length_map]
    refine ⟨_, rfl, by omega, by omega, for_range (lo := 0) (n := (max 1 (min 3 (ns.length : Int))).toNat) (fun i σ H' => (∃ v1 v2 v3 v4 v5, σ = [some (.ref a), v1, v2, v3, v4, v5, none, none]) ∧ ∀ b u, H b = some u → H' b = some u)
      ⟨⟨none, none, none, none, none, rfl⟩, fun _ _ e => e⟩ ?_ ?_⟩
    · rintro i σ H1 hi ⟨⟨v1, v2, v3, v4, v5, rfl⟩, s1⟩
      conv => whnf
      refine ⟨a, ns, i, by rw [Int.zero_add]; rfl, sqlSame s1 hS, by omega, fun H2 p o s2 p0 p1 D0 => ?_⟩
      have L2' := At.fresh s2 p0 p1
      conv => whnf
      refine ⟨p, 0, o, rfl, p1, D0, by decide, fun H3 q o3 zs f3 nq g3 D3 hq hl hz => ?_⟩
      have L3 := (L2'.set f3 g3).know hq (by simpa using nq)
      conv => whnf
      refine ⟨_, rfl, ⟨_, SqL.of (L3.get (.head _))⟩, for_list (xs := zs.map V.str) (fun j σ H' => (∃ v3 v4, σ = [some (.ref a), some (.int (0 + (i : Nat))), some (.ref p), v3, v4, v5, none, none]) ∧ At H1 [] [(q, .lst (zs.map V.str))] [(p, o3)] H')
        ⟨⟨v3, v4, rfl⟩, L3⟩ (fun j σ H' _ ⟨_, L⟩ => SqL.of (L.get (.head _))) ?_ ?_⟩
      · rintro j x σ H4 hx ⟨⟨v3, v4, rfl⟩, L4⟩
        obtain ⟨z, hz', rfl⟩ := List.mem_map.mp (List.mem_of_getElem? hx)
        have zl := hz z hz'
        have el : (z.length : Int) ≤ 100 := by omega
        conv => whnf
        refine ⟨rfl, ?_⟩
        conv => whnf
        refine ⟨_, _, rfl, rfl, small_ok (by omega), ?_⟩
        conv => whnf
        refine br2 (fun e1 => ?x) (fun e1 => ?y)
        case' x =>
          conv => whnf
          refine ⟨small_ok (by omega), ?_⟩
          conv => whnf
          refine ⟨_, rfl, ?_⟩
          have f1 := (strip_iff z).mp (of_decide_eq_true e1)
          refine ite2 (fun h => ?x1) (fun h => ?x2)
          case' x1 =>
            have h' : 0 < (z.length : Int) := of_decide_eq_true h
            have e : isNameV (.str z) = decide ((z.length : Int) < 9) := by
              show (decide (1 ≤ z.length) && decide (z.length ≤ 8) && _) = _
              rw [f1, decide_eq_true (show 1 ≤ z.length by omega)]
              by_cases q : z.length ≤ 8
              · rw [decide_eq_true q, decide_eq_true (show (z.length : Int) < 9 by omega)]; rfl
              · rw [decide_eq_false q, decide_eq_false (show ¬ (z.length : Int) < 9 by omega)]; rfl
          case' x2 =>
            have h' : ¬ 0 < (z.length : Int) := fun q => h (decide_eq_true q)
            have e : isNameV (.str z) = false := by
              show (decide (1 ≤ z.length) && _ && _) = _
              rw [decide_eq_false (show ¬ 1 ≤ z.length by omega)]; rfl
        case' y =>
          have f1 : (z.cps.toList.all fun c => decide (c ∈ letters)) = false := by
            cases q : (z.cps.toList.all fun c => decide (c ∈ letters)) with
            | false => rfl
            | true => rw [decide_eq_true ((strip_iff z).mpr q)] at e1; cases e1
          have e : isNameV (.str z) = false := by
            show (_ && _ && _) = _
            rw [f1]; simp
        all_goals
          conv => whnf
          refine ⟨_, _, rfl, Kd.str z, fun y hy => by obtain rfl := V.str.inj hy; omega, fun H5 s5 => ?_⟩
          have L5 := L4.same s5
          conv => whnf
          refine ⟨_, _, rfl, Kd.str z, ?_⟩
          conv => whnf
          refine ⟨_, _, rfl, Kd.str z, ?_⟩
          conv => whnf
          refine ⟨small_ok (by simp), fun g1 hg1 => ?_⟩
          have L6 := L5.new (o := .lst [.bl (isNameV (.str z)), .bl (isIntV (.str z)), .bl (isCountV (.str z))]) hg1
          conv => whnf
          refine ⟨_, dp3 (L6.get (.head _)), sh3 _ _ _, sp3 _ _ _, shown3 _ _ _, ?_⟩
          conv => whnf
          refine ⟨small_ok (by simp), fun g2 hg2 => ?_⟩
          conv => whnf
          refine ⟨_, dp3 upd_same, sh3 _ _ _, sp3 _ _ _, shown3 _ _ _, ?_⟩
          conv => whnf
          refine ⟨_, rfl, ?_⟩
          refine brN (by rw [e, show isIntV (.str z) = false from rfl, show isCountV (.str z) = false from rfl]; simp) ?_
          exact ⟨⟨_, _, rfl⟩, (L6.new hg2).less fun r hr => .tail _ (.tail _ hr)⟩
      · rintro σ H4 ⟨⟨v3, v4, rfl⟩, L4⟩
        conv => whnf
        refine ⟨p, _, o3, rfl, L4.getM (.head _), D3, by decide, fun H5 q5 o5 zs f5 nq5 g5 D5 hq5 hl5 hz5 => ?_⟩
        have L5 := (L4.set f5 g5).know hq5 (by simpa using nq5)
        conv => whnf
        refine ⟨_, rfl, ⟨_, SqL.of (L5.get (.head _))⟩, for_list (xs := zs.map V.int) (fun j σ H' => (∃ v4 v5, σ = [some (.ref a), some (.int (0 + (i : Nat))), some (.ref p), v3, v4, v5, none, none]) ∧ At H1 [] [(q5, .lst (zs.map V.int))] [(p, o5)] H')
          ⟨⟨v4, v5, rfl⟩, L5.less fun r hr => by obtain rfl := List.mem_singleton.mp hr; exact .head _⟩ (fun j σ H' _ ⟨_, L⟩ => SqL.of (L.get (.head _))) ?_ ?_⟩
        · rintro j x σ H6 hx ⟨⟨v4, v5, rfl⟩, L6⟩
          obtain ⟨z, hz', rfl⟩ := List.mem_map.mp (List.mem_of_getElem? hx)
          have zl := hz5 z hz'
          have eI : isIntV (.int z) = decide (z.natAbs < 10 ^ 60) := by
            show (decide (-(10 ^ 60) < z) && decide (z < 10 ^ 60)) = _
            rw [← Bool.decide_and]
            exact decide_eq_decide.mpr (by omega)
          conv => whnf
          refine ⟨z, rfl, zl, ?_⟩
          conv => whnf
          refine ⟨z, rfl, zl, ?_⟩
          conv => whnf
          refine br2 (fun e1 => ?u) (fun e1 => ?v)
          case' u =>
            have eC : isCountV (.int z) = decide (0 ≤ z) := by
              show (isIntV _ && _) = _
              rw [eI, e1]; rfl
          case' v =>
            have eC : isCountV (.int z) = false := by
              show (isIntV _ && _) = _
              rw [eI, e1]; rfl
          all_goals
            conv => whnf
            refine ⟨small_ok (by simp), fun g0 hg0 => ?_⟩
            have L7 := fun o => L6.new (o := o) hg0
            conv => whnf
            refine ⟨_, _, rfl, Kd.int z, (fun y hy => by cases hy), fun H8 s8 => ?_⟩
            have L8 := (L7 _).same s8
            conv => whnf
            refine ⟨_, _, rfl, Kd.int z, ?_⟩
            conv => whnf
            refine ⟨_, _, rfl, Kd.int z, ?_⟩
            conv => whnf
            refine ⟨small_ok (by simp), fun g1 hg1 => ?_⟩
            have L9 := L8.new (o := .lst [.bl (isNameV (.int z)), .bl (isIntV (.int z)), .bl (isCountV (.int z))]) hg1
            conv => whnf
            refine ⟨_, dp3 (L9.get (.head _)), sh3 _ _ _, sp3 _ _ _, shown3 _ _ _, ?_⟩
            conv => whnf
            refine ⟨_, dp3 (L9.get (.tail _ (.head _))), sh3 _ _ _, sp3 _ _ _, shown3 _ _ _, ?_⟩
            conv => whnf
            refine ⟨_, rfl, ?_⟩
            refine brN (by rw [eC, eI, show isNameV (.int z) = false from rfl]; simp) ?_
            exact ⟨⟨_, _, rfl⟩, L9.less fun r hr => .tail _ (.tail _ hr)⟩
        · rintro σ H6 ⟨⟨v4, v5, rfl⟩, L6⟩
          exact ⟨⟨_, _, _, _, _, rfl⟩, fun b u e => L6.all b u (s1 b u e)⟩
    · rintro σ H1 ⟨⟨v1, v2, v3, v4, v5, rfl⟩, s1⟩
      have A0 := At.start H1
      conv => whnf
      refine ⟨small_ok (by simp), fun p1 h1 => ?_⟩
      have A1 := A0.new (o := .tup []) h1
      conv => whnf
      refine ⟨small_ok (by simp), fun p2 h2 => ?_⟩
      have A2 := A1.new (o := .tup [.str (Str.ofString "a")]) h2
      conv => whnf
      refine ⟨small_ok (by simp), fun p3 h3 => ?_⟩
      have A3 := A2.new (o := .lst [.str (Str.ofString "a")]) h3
      conv => whnf
      intro p4 h4
      conv => whnf
      refine ⟨upd_same, [(Sum.inr (Str.ofString "a"), .int 1)], rfl, by simp, ?_⟩
      have A4 := ((A3.newM (o := .dK []) no_dead h4).upd (u := .dK (mergeK [] [(Sum.inr (Str.ofString "a"), .int 1)]))).still
      conv => whnf
      refine ⟨small_ok (by simp), fun p5 h5 => ?_⟩
      have A5 := A4.new (o := .tup [.int 1]) h5
      conv => whnf
      refine ⟨small_ok (by simp), fun p6 h6 => ?_⟩
      have A6 := A5.new (o := .lst [.int 1]) h6
      conv => whnf
      intro p7 h7
      conv => whnf
      refine ⟨upd_same, [(Sum.inl 1, .int 1)], rfl, by simp, ?_⟩
      have A7 := ((A6.newM (o := .dK []) no_dead h7).upd (u := .dK (mergeK [] [(Sum.inl 1, .int 1)]))).still
      conv => whnf
      refine ⟨small_ok (by simp), fun p8 h8 => ?_⟩
      have A8 := A7.new (o := .tup [.str (Str.ofString "a"), .str (Str.ofString "b")]) h8
      conv => whnf
      refine ⟨small_ok (by simp), fun p9 h9 => ?_⟩
      have A9 := A8.new (o := .lst [.non, .bl true, .bl false, .ref p1, .ref p2, .ref p3, .ref p4, .ref p5, .ref p6, .ref p7, .ref p8]) h9
      clear A0 A1 A2 A3 A4 A5 A6 A7 A8
      conv => whnf
      refine ⟨_, rfl, ⟨_, SqL.of (A9.get (.head _))⟩, fun D hD => ?_⟩
      have B0 := A9.newM (o := .lst []) no_dead hD
      have odd : ∀ Hm, At H1 [] [(p9, HO.lst [.non, .bl true, .bl false, .ref p1, .ref p2, .ref p3, .ref p4, .ref p5, .ref p6, .ref p7, .ref p8]), (p8, HO.tup [.str (Str.ofString "a"), .str (Str.ofString "b")]), (p7, HO.dK (mergeK [] [(Sum.inl 1, .int 1)])), (p6, HO.lst [.int 1]), (p5, HO.tup [.int 1]), (p4, HO.dK (mergeK [] [(Sum.inr (Str.ofString "a"), .int 1)])), (p3, HO.lst [.str (Str.ofString "a")]), (p2, HO.tup [.str (Str.ofString "a")]), (p1, HO.tup [])] [(D, .lst [])] Hm → ∀ x ∈ [V.non, .bl true, .bl false, .ref p1, .ref p2, .ref p3, .ref p4, .ref p5, .ref p6, .ref p7, .ref p8], ∃ S, Kd K Hm x S ∧ (∀ z, x = .str z → z.length ≤ 100000) ∧ isNameV x = false ∧ isIntV x = false ∧ isCountV x = false := by
        intro Hm L x hx
        have mk : ∀ S, Kd K Hm x S → (∀ z, x ≠ .str z) → isNameV x = false → isIntV x = false → isCountV x = false → ∃ S, Kd K Hm x S ∧ (∀ z, x = .str z → z.length ≤ 100000) ∧ isNameV x = false ∧ isIntV x = false ∧ isCountV x = false := fun S h1 h2 h3 h4 h5 => ⟨S, h1, fun z e => absurd e (h2 z), h3, h4, h5⟩
        simp only [List.mem_cons, List.not_mem_nil, or_false] at hx
        rcases hx with rfl | rfl | rfl | rfl | rfl | rfl | rfl | rfl | rfl | rfl | rfl
        · exact mk _ Kd.non (fun _ => by simp) rfl rfl rfl
        · exact mk _ (Kd.bl _) (fun _ => by simp) rfl rfl rfl
        · exact mk _ (Kd.bl _) (fun _ => by simp) rfl rfl rfl
        · exact mk _ (Kd.tup (L.get (by repeat (first | exact List.Mem.head _ | apply List.Mem.tail)))) (fun _ => by simp) rfl rfl rfl
        · exact mk _ (Kd.tup (L.get (by repeat (first | exact List.Mem.head _ | apply List.Mem.tail)))) (fun _ => by simp) rfl rfl rfl
        · exact mk _ (Kd.lst (L.get (by repeat (first | exact List.Mem.head _ | apply List.Mem.tail)))) (fun _ => by simp) rfl rfl rfl
        · exact mk _ (Kd.dK (L.get (by repeat (first | exact List.Mem.head _ | apply List.Mem.tail)))) (fun _ => by simp) rfl rfl rfl
        · exact mk _ (Kd.tup (L.get (by repeat (first | exact List.Mem.head _ | apply List.Mem.tail)))) (fun _ => by simp) rfl rfl rfl
        · exact mk _ (Kd.lst (L.get (by repeat (first | exact List.Mem.head _ | apply List.Mem.tail)))) (fun _ => by simp) rfl rfl rfl
        · exact mk _ (Kd.dK (L.get (by repeat (first | exact List.Mem.head _ | apply List.Mem.tail)))) (fun _ => by simp) rfl rfl rfl
        · exact mk _ (Kd.tup (L.get (by repeat (first | exact List.Mem.head _ | apply List.Mem.tail)))) (fun _ => by simp) rfl rfl rfl
      refine lc_list (xs := [V.non, .bl true, .bl false, .ref p1, .ref p2, .ref p3, .ref p4, .ref p5, .ref p6, .ref p7, .ref p8]) (fun _ Hm => At H1 [] [(p9, HO.lst [.non, .bl true, .bl false, .ref p1, .ref p2, .ref p3, .ref p4, .ref p5, .ref p6, .ref p7, .ref p8]), (p8, HO.tup [.str (Str.ofString "a"), .str (Str.ofString "b")]), (p7, HO.dK (mergeK [] [(Sum.inl 1, .int 1)])), (p6, HO.lst [.int 1]), (p5, HO.tup [.int 1]), (p4, HO.dK (mergeK [] [(Sum.inr (Str.ofString "a"), .int 1)])), (p3, HO.lst [.str (Str.ofString "a")]), (p2, HO.tup [.str (Str.ofString "a")]), (p1, HO.tup [])] [(D, .lst [])] Hm) B0 (fun _ _ _ L => SqL.of (L.get (.head _))) ?_ ?_
      · intro j x Hm hx L
        obtain ⟨S, kx, zx, e1, e2, e3⟩ := odd Hm L x (List.mem_of_getElem? hx)
        conv => whnf
        refine ⟨rfl, ?_⟩
        conv => whnf
        refine ⟨_, S, rfl, kx, zx, fun Hn sn => ?_⟩
        obtain ⟨S', kx', _⟩ := odd Hn (L.same sn) x (List.mem_of_getElem? hx)
        rw [e1]
        conv => whnf
        refine brF ?_
        conv => whnf
        refine ⟨_, S', rfl, kx', ?_⟩
        rw [e2]
        conv => whnf
        refine brF ?_
        conv => whnf
        refine ⟨_, S', rfl, kx', ?_⟩
        rw [e3]
        conv => whnf
        exact L.same sn
      · intro Hm L
        conv => whnf
        refine ⟨small_ok (by simp), fun pe he => ?_⟩
        have L2' := L.new (o := .lst []) he
        conv => whnf
        refine ⟨_, _, .lst (SqL.of (L2'.getM (.head _))) .nil, .lst (SqL.of (L2'.get (.head _))) .nil, by decide +kernel, by decide +kernel, ?_⟩
        conv => whnf
        refine ⟨_, rfl, ?_⟩
        refine brN (by decide +kernel) ?_
        conv => whnf
        refine ⟨small_ok (by simp), fun q1 hq1 => ?_⟩
        have L3 := L2'.new (o := .lst [.int 8, .int 60]) hq1
        conv => whnf
        refine ⟨small_ok (by simp), fun q2 hq2 => ?_⟩
        have L4 := L3.new (o := .lst [.int 8, .int 60]) hq2
        conv => whnf
        refine ⟨_, _, .lst (SqL.of (L4.get (.tail _ (.head _)))) (.cons (.int _) (.cons (.int _) .nil)), .lst (SqL.of (L4.get (.head _))) (.cons (.int _) (.cons (.int _) .nil)), by decide +kernel, by decide +kernel, ?_⟩
        have e : PyData.eqv (.list [.int 8, .int 60]) (.list [.int 8, .int 60]) = true := by decide +kernel
        rw [e]
        exact k _
end
open PySem.W in
theorem all_mk {P : Program} {w : World} {K : Frag} {h : Heap} {mg : Str → Option Value} {fa : Addr} (X : K.In h) (G : h.Ns mainGlobals mg) (hfa : mg "law" = some (.ref fa))
    {f1 : Addr} {od1 an1 : Option Addr} {sl1 : Array (Option Value)} {oc1 kV1 dc1 pm1 cd1 ct1 : Value} (a1 : nsIn K mainGlobals "_law_dice" = some (some (.ref f1)))
    (l1 : K.lookup f1 = some ⟨oc1, od1, .func (fnOf "_law_dice" "_law_dice" (defArgs s__law_dice) (defBody s__law_dice) (defScope s__law_dice) .none kV1 dc1 pm1 an1 cd1 ct1), sl1⟩) (c1 : codeIn K cd1 "_law_dice" = true) (k1 : keepIn K (.ref f1) = true)
    {f2 : Addr} {od2 an2 : Option Addr} {sl2 : Array (Option Value)} {oc2 kV2 dc2 pm2 cd2 ct2 : Value} (a2 : nsIn K mainGlobals "_law_roll" = some (some (.ref f2)))
    (l2 : K.lookup f2 = some ⟨oc2, od2, .func (fnOf "_law_roll" "_law_roll" (defArgs s__law_roll) (defBody s__law_roll) (defScope s__law_roll) .none kV2 dc2 pm2 an2 cd2 ct2), sl2⟩) (c2 : codeIn K cd2 "_law_roll" = true) (k2 : keepIn K (.ref f2) = true)
    {f3 : Addr} {od3 an3 : Option Addr} {sl3 : Array (Option Value)} {oc3 kV3 dc3 pm3 cd3 ct3 : Value} (a3 : nsIn K mainGlobals "_law_pick" = some (some (.ref f3)))
    (l3 : K.lookup f3 = some ⟨oc3, od3, .func (fnOf "_law_pick" "_law_pick" (defArgs s__law_pick) (defBody s__law_pick) (defScope s__law_pick) .none kV3 dc3 pm3 an3 cd3 ct3), sl3⟩) (c3 : codeIn K cd3 "_law_pick" = true) (k3 : keepIn K (.ref f3) = true)
    {f4 : Addr} {od4 an4 : Option Addr} {sl4 : Array (Option Value)} {oc4 kV4 dc4 pm4 cd4 ct4 : Value} (a4 : nsIn K mainGlobals "_law_strings" = some (some (.ref f4)))
    (l4 : K.lookup f4 = some ⟨oc4, od4, .func (fnOf "_law_strings" "_law_strings" (defArgs s__law_strings) (defBody s__law_strings) (defScope s__law_strings) .none kV4 dc4 pm4 an4 cd4 ct4), sl4⟩) (c4 : codeIn K cd4 "_law_strings" = true) (k4 : keepIn K (.ref f4) = true)
    {f5 : Addr} {od5 an5 : Option Addr} {sl5 : Array (Option Value)} {oc5 kV5 dc5 pm5 cd5 ct5 : Value} (a5 : nsIn K mainGlobals "_law_numbers" = some (some (.ref f5)))
    (l5 : K.lookup f5 = some ⟨oc5, od5, .func (fnOf "_law_numbers" "_law_numbers" (defArgs s__law_numbers) (defBody s__law_numbers) (defScope s__law_numbers) .none kV5 dc5 pm5 an5 cd5 ct5), sl5⟩) (c5 : codeIn K cd5 "_law_numbers" = true) (k5 : keepIn K (.ref f5) = true)
    {f6 : Addr} {od6 an6 : Option Addr} {sl6 : Array (Option Value)} {oc6 kV6 dc6 pm6 cd6 ct6 : Value} (a6 : nsIn K mainGlobals "_law_is_let" = some (some (.ref f6)))
    (l6 : K.lookup f6 = some ⟨oc6, od6, .func (fnOf "_law_is_let" "_law_is_let" (defArgs s__law_is_let) (defBody s__law_is_let) (defScope s__law_is_let) .none kV6 dc6 pm6 an6 cd6 ct6), sl6⟩) (c6 : codeIn K cd6 "_law_is_let" = true) (k6 : keepIn K (.ref f6) = true)
    {f7 : Addr} {od7 an7 : Option Addr} {sl7 : Array (Option Value)} {oc7 kV7 dc7 pm7 cd7 ct7 : Value} (a7 : nsIn K mainGlobals "is_name" = some (some (.ref f7)))
    (l7 : K.lookup f7 = some ⟨oc7, od7, .func (fnOf "is_name" "is_name" (defArgs s_is_name) (defBody s_is_name) (defScope s_is_name) .none kV7 dc7 pm7 an7 cd7 ct7), sl7⟩) (c7 : codeIn K cd7 "is_name" = true) (k7 : keepIn K (.ref f7) = true)
    {f8 : Addr} {od8 an8 : Option Addr} {sl8 : Array (Option Value)} {oc8 kV8 dc8 pm8 cd8 ct8 : Value} (a8 : nsIn K mainGlobals "is_integer" = some (some (.ref f8)))
    (l8 : K.lookup f8 = some ⟨oc8, od8, .func (fnOf "is_integer" "is_integer" (defArgs s_is_integer) (defBody s_is_integer) (defScope s_is_integer) .none kV8 dc8 pm8 an8 cd8 ct8), sl8⟩) (c8 : codeIn K cd8 "is_integer" = true) (k8 : keepIn K (.ref f8) = true)
    {f9 : Addr} {od9 an9 : Option Addr} {sl9 : Array (Option Value)} {oc9 kV9 dc9 pm9 cd9 ct9 : Value} (a9 : nsIn K mainGlobals "is_count" = some (some (.ref f9)))
    (l9 : K.lookup f9 = some ⟨oc9, od9, .func (fnOf "is_count" "is_count" (defArgs s_is_count) (defBody s_is_count) (defScope s_is_count) .none kV9 dc9 pm9 an9 cd9 ct9), sl9⟩) (c9 : codeIn K cd9 "is_count" = true) (k9 : keepIn K (.ref f9) = true)
    {f10 : Addr} {od10 an10 : Option Addr} {sl10 : Array (Option Value)} {oc10 kV10 dc10 pm10 cd10 ct10 : Value} (a10 : nsIn K mainGlobals "law" = some (some (.ref f10)))
    (l10 : K.lookup f10 = some ⟨oc10, od10, .func (fnOf "law" "law" (defArgs s_law) (defBody s_law) (defScope s_law) .none kV10 dc10 pm10 an10 cd10 ct10), sl10⟩) (c10 : codeIn K cd10 "law" = true) (k10 : keepIn K (.ref f10) = true)
    (z_abs : nsIn K mainGlobals "abs" = some none)
    (z_all : nsIn K mainGlobals "all" = some none)
    (z_bool : nsIn K mainGlobals "bool" = some none)
    (z_int : nsIn K mainGlobals "int" = some none)
    (z_isinstance : nsIn K mainGlobals "isinstance" = some none)
    (z_len : nsIn K mainGlobals "len" = some none)
    (z_list : nsIn K mainGlobals "list" = some none)
    (z_max : nsIn K mainGlobals "max" = some none)
    (z_min : nsIn K mainGlobals "min" = some none)
    (z_range : nsIn K mainGlobals "range" = some none)
    (z_repr : nsIn K mainGlobals "repr" = some none)
    (z_str : nsIn K mainGlobals "str" = some none)
    {t_BEYOND : Tok} (w_BEYOND : nsIn K mainGlobals "BEYOND" = some (some (.int 1000000000000000000000000000000000000000000000000000000000000 t_BEYOND)))
    {t_LETTERS : Tok} (w_LETTERS : nsIn K mainGlobals "LETTERS" = some (some (.str "abcdefghijklmnopqrstuvwxyz" t_LETTERS)))
    {t_MAX_FIGURES : Tok} (w_MAX_FIGURES : nsIn K mainGlobals "MAX_FIGURES" = some (some (.int 60 t_MAX_FIGURES)))
    {t_MAX_LETTERS : Tok} (w_MAX_LETTERS : nsIn K mainGlobals "MAX_LETTERS" = some (some (.int 8 t_MAX_LETTERS))) :
    ∃ fd : FuncData, (∀ (s : Shared) (v : Value), BindsTo s fd ⟨[v], []⟩ [("_law_script", v)]) ∧ ∀ base : Heap, K.In base → base.Ns mainGlobals mg → FnG P w K mg base CX0 4 fa fd ["_law_script"] (sp_law K) := by
  have e := hfa.symm.trans (mg_of X G a10)
  cases e
  let T : Txt K mg := {
    a__law_dice := f1,
    d__law_dice := _,
    g__law_dice := mg_of X G a1,
    F__law_dice := fun_mk (st := s__law_dice) l1 c1 k1,
    B__law_dice := (fun_mk (st := s__law_dice) l1 c1 k1).binds (ps := ["_law_script", "_law_spot"]) (fun _ _ _ _ _ _ us hl => match us, hl with | [_, _], _ => rfl),
    a__law_roll := f2,
    d__law_roll := _,
    g__law_roll := mg_of X G a2,
    F__law_roll := fun_mk (st := s__law_roll) l2 c2 k2,
    B__law_roll := (fun_mk (st := s__law_roll) l2 c2 k2).binds (ps := ["_law_dice_here", "_law_total"]) (fun _ _ _ _ _ _ us hl => match us, hl with | [_, _], _ => rfl),
    a__law_pick := f3,
    d__law_pick := _,
    g__law_pick := mg_of X G a3,
    F__law_pick := fun_mk (st := s__law_pick) l3 c3 k3,
    B__law_pick := (fun_mk (st := s__law_pick) l3 c3 k3).binds (ps := ["_law_dice_here", "_law_items"]) (fun _ _ _ _ _ _ us hl => match us, hl with | [_, _], _ => rfl),
    a__law_strings := f4,
    d__law_strings := _,
    g__law_strings := mg_of X G a4,
    F__law_strings := fun_mk (st := s__law_strings) l4 c4 k4,
    B__law_strings := (fun_mk (st := s__law_strings) l4 c4 k4).binds (ps := ["_law_dice_here"]) (fun _ _ _ _ _ _ us hl => match us, hl with | [_], _ => rfl),
    a__law_numbers := f5,
    d__law_numbers := _,
    g__law_numbers := mg_of X G a5,
    F__law_numbers := fun_mk (st := s__law_numbers) l5 c5 k5,
    B__law_numbers := (fun_mk (st := s__law_numbers) l5 c5 k5).binds (ps := ["_law_dice_here"]) (fun _ _ _ _ _ _ us hl => match us, hl with | [_], _ => rfl),
    a__law_is_let := f6,
    d__law_is_let := _,
    g__law_is_let := mg_of X G a6,
    F__law_is_let := fun_mk (st := s__law_is_let) l6 c6 k6,
    B__law_is_let := (fun_mk (st := s__law_is_let) l6 c6 k6).binds (ps := ["_law_number"]) (fun _ _ _ _ _ _ us hl => match us, hl with | [_], _ => rfl),
    a_is_name := f7,
    d_is_name := _,
    g_is_name := mg_of X G a7,
    F_is_name := fun_mk (st := s_is_name) l7 c7 k7,
    B_is_name := (fun_mk (st := s_is_name) l7 c7 k7).binds (ps := ["value"]) (fun _ _ _ _ _ _ us hl => match us, hl with | [_], _ => rfl),
    a_is_integer := f8,
    d_is_integer := _,
    g_is_integer := mg_of X G a8,
    F_is_integer := fun_mk (st := s_is_integer) l8 c8 k8,
    B_is_integer := (fun_mk (st := s_is_integer) l8 c8 k8).binds (ps := ["value"]) (fun _ _ _ _ _ _ us hl => match us, hl with | [_], _ => rfl),
    a_is_count := f9,
    d_is_count := _,
    g_is_count := mg_of X G a9,
    F_is_count := fun_mk (st := s_is_count) l9 c9 k9,
    B_is_count := (fun_mk (st := s_is_count) l9 c9 k9).binds (ps := ["value"]) (fun _ _ _ _ _ _ us hl => match us, hl with | [_], _ => rfl),
    a_law := fa,
    d_law := _,
    g_law := mg_of X G a10,
    F_law := fun_mk (st := s_law) l10 c10 k10,
    B_law := (fun_mk (st := s_law) l10 c10 k10).binds (ps := ["_law_script"]) (fun _ _ _ _ _ _ us hl => match us, hl with | [_], _ => rfl),
    b_abs := mg_none_of X G z_abs,
    b_all := mg_none_of X G z_all,
    b_bool := mg_none_of X G z_bool,
    b_int := mg_none_of X G z_int,
    b_isinstance := mg_none_of X G z_isinstance,
    b_len := mg_none_of X G z_len,
    b_list := mg_none_of X G z_list,
    b_max := mg_none_of X G z_max,
    b_min := mg_none_of X G z_min,
    b_range := mg_none_of X G z_range,
    b_repr := mg_none_of X G z_repr,
    b_str := mg_none_of X G z_str,
    t_BEYOND := t_BEYOND,
    v_BEYOND := mg_of X G w_BEYOND,
    t_LETTERS := t_LETTERS,
    v_LETTERS := mg_of X G w_LETTERS,
    t_MAX_FIGURES := t_MAX_FIGURES,
    v_MAX_FIGURES := mg_of X G w_MAX_FIGURES,
    t_MAX_LETTERS := t_MAX_LETTERS,
    v_MAX_LETTERS := mg_of X G w_MAX_LETTERS }
  exact ⟨_, fun s v => .of_eq rfl, fun base _ _ => ok_law T⟩
end Law
open PySem PySem.W PyProof.Rows
set_option maxRecDepth 100000 in
set_option maxHeartbeats 0 in
theorem PySem.Challenge.cw_touchrows_k00_whole_names_and_numbers_holds : PySem.Challenge.rw_touchrows_k00_whole_names_and_numbers.Holds := by
  w_on; o_law; k_head; (case hw => w_witness2)
  k_fill
  refine U.walkG (l := PySem.Challenge.rw_touchrows_k00_whole_names_and_numbers) (n := 63) (k := 4) (x := "_law_script") (sp := Law.sp_law) rfl (by decide) rfl ⟨rfl, by decide, by decide⟩ (fun w h Y => kIn_of Y) ?F (fun K H a ns h1 h2 _ h3 => Law.enter K H a ns h1 h2 h3)
  case F =>
    intro w mg fa h KX G hmg
    refine' Law.all_mk KX G hmg ?a1 ?l1 ?c1 ?k1 ?a2 ?l2 ?c2 ?k2 ?a3 ?l3 ?c3 ?k3 ?a4 ?l4 ?c4 ?k4 ?a5 ?l5 ?c5 ?k5 ?a6 ?l6 ?c6 ?k6 ?a7 ?l7 ?c7 ?k7 ?a8 ?l8 ?c8 ?k8 ?a9 ?l9 ?c9 ?k9 ?a10 ?l10 ?c10 ?k10 ?z_abs ?z_all ?z_bool ?z_int ?z_isinstance ?z_len ?z_list ?z_max ?z_min ?z_range ?z_repr ?z_str ?w_BEYOND ?w_LETTERS ?w_MAX_FIGURES ?w_MAX_LETTERS
    (case a1 => k_is); (case l1 => k_is); (case c1 => k_is); (case k1 => k_is); (case a2 => k_is); (case l2 => k_is); (case c2 => k_is); (case k2 => k_is); (case a3 => k_is); (case l3 => k_is); (case c3 => k_is); (case k3 => k_is); (case a4 => k_is); (case l4 => k_is); (case c4 => k_is); (case k4 => k_is); (case a5 => k_is); (case l5 => k_is); (case c5 => k_is); (case k5 => k_is); (case a6 => k_is); (case l6 => k_is); (case c6 => k_is); (case k6 => k_is); (case a7 => k_is); (case l7 => k_is); (case c7 => k_is); (case k7 => k_is); (case a8 => k_is); (case l8 => k_is); (case c8 => k_is); (case k8 => k_is); (case a9 => k_is); (case l9 => k_is); (case c9 => k_is); (case k9 => k_is); (case a10 => k_is); (case l10 => k_is); (case c10 => k_is); (case k10 => k_is); (case z_abs => k_is); (case z_all => k_is); (case z_bool => k_is); (case z_int => k_is); (case z_isinstance => k_is); (case z_len => k_is); (case z_list => k_is); (case z_max => k_is); (case z_min => k_is); (case z_range => k_is); (case z_repr => k_is); (case z_str => k_is); (case w_BEYOND => k_is); (case w_LETTERS => k_is); (case w_MAX_FIGURES => k_is); (case w_MAX_LETTERS => k_is)
