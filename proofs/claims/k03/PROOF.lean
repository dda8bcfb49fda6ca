import PyProof.Rows.All
import Wide.All
import OpenK.AllK
import Wide.FinOn
import HandS.ForMost
import HandS.Wide
import HandS.Steps
import HandS.StrMore
import HandS.TupAny
import HandS.Style
import HandS.Flow
import HandS.IsInst
import HandS.RaiseMore
import HandS.Gcd
import HandS.EndBits
import HandS.Walk
import PyProof.Rows.StrCut
import KE.KIntText
import HandS.OwnEq
import HandS.Property
import HandS.FStr
import KE.KOpsOwn
import KE.KCallOwn
import HandS.Deep
import PyProof.ReprLen
import HandS.NoneIn
import HandS.ClsMeth
import PyProof.StrLawsRepr
import KE.IntTextLaws
import KE.IntTextText
import HandS.Text
import PySem.Challenge.RW_touchrows_k03_ratios_told
set_option Elab.async false
set_option linter.all false
set_option maxRecDepth 100000
set_option maxHeartbeats 4000000
/-! U: readings that compute by matching on the values, and a ledger of the objects that a def knows. -/
namespace U
open PySem PySem.Spec PyProof.Rows L2

section mono
variable {X : Cx}
theorem peM {e : Expr} {t t' : TE} (h : PE X e t) (m : ∀ σ H Q, t' σ H Q → t σ H Q) : PE X e t' := ⟨fun pins s σ H Q I q => h.run pins s σ H Q I (m σ H Q q)⟩
theorem ptM {e : Expr} {t t' : TT} (h : PT X e t) (m : ∀ σ H Q, t' σ H Q → t σ H Q) : PT X e t' := ⟨fun pins s σ H Q I q => h.run pins s σ H Q I (m σ H Q q)⟩
theorem pwM {e : Expr} {t t' : TT} (h : PW X e t) (m : ∀ σ H Q, t' σ H Q → t σ H Q) : PW X e t' := ⟨fun wh pins s σ H Q I q => h.run wh pins s σ H Q I (m σ H Q q)⟩
theorem psM {e : Stmt} {t t' : TS} (h : PS X e t) (m : ∀ D σ H, t' D σ H → t D σ H) : PS X e t' := ⟨fun pins s σ H D I q => h.run pins s σ H D I (m D σ H q)⟩
theorem opM {f : Value → Value → Sem Value} {r r' : R2} (h : OpR X f r) (m : ∀ x y H Q, r' x y H Q → r x y H Q) : OpR X f r' := fun pins s σ H x y v u Q I rx ry q => h pins s σ H x y v u Q I rx ry (m x y H Q q)
theorem caM {f : Value} {r r' : List V → Hp → VK → Prop} (h : CallR X f r) (m : ∀ xs H Q, r' xs H Q → r xs H Q) : CallR X f r' := fun pins s σ H xs us Q I r q => h pins s σ H xs us Q I r (m xs H Q q)
end mono

/-- a way of two: by the answer -/
@[irreducible] def br (c : Bool) (A B : Prop) : Prop := if c = true then A else B
theorem brT {A B : Prop} (h : A) : br true A B := by unfold br; exact h
theorem brF {A B : Prop} (h : B) : br false A B := by unfold br; rw [if_neg Bool.false_ne_true]; exact h
theorem brY {c : Bool} {A B : Prop} (e : c = true) (h : A) : br c A B := by subst e; exact brT h
theorem brN {c : Bool} {A B : Prop} (e : c = false) (h : B) : br c A B := by subst e; exact brF h
theorem br2 {c : Bool} {A B : Prop} (h1 : c = true → A) (h2 : c = false → B) : br c A B := by
  cases c with
  | true => exact brT (h1 rfl)
  | false => exact brF (h2 rfl)
theorem brD {p : Prop} [Decidable p] {A B : Prop} (h1 : p → A) (h2 : ¬ p → B) : br (decide p) A B := br2 (fun e => h1 (of_decide_eq_true e)) (fun e => h2 (of_decide_eq_false e))
theorem br_if {c : Bool} {A B : Prop} (h : br c A B) : if c = true then A else B := by unfold br at h; exact h

/-! ### names, choices -/
def uV (i : Nat) : TE := fun σ H Q => match σ[i]? with | some (some v) => Q v H | _ => False
section
variable {X : Cx} {pos : Pos}
theorem pev (i : Nat) {x : Str} {pos : Pos} (hN : X.N[i]? = some x := by rfl) (hv : Vis X.env.scope x := by first | exact Or.inl rfl | exact Or.inr (Or.inl rfl) | exact Or.inr (Or.inr rfl)) (hd : (x == ("__debug__" : Str)) = false := by decide)
    (hcd : (x == ("__classdict__" : Str)) = false := by decide) : PE X (.Name x pos) (uV i) := peM (pv i hN hv hd hcd) fun σ H Q h => by
  unfold uV at h
  split at h
  · exact ⟨_, by assumption, h⟩
  · exact h.elim
def uIf (t : TT) (ta tb : TE) : TE := fun σ H Q => t σ H fun c H1 => br c (ta σ H1 Q) (tb σ H1 Q)
def uIfS (c : TT) (t u : TS) : TS := fun D σ H => c σ H fun b H1 => br b (t D σ H1) (u D σ H1)
def uAnd (t u : TT) : TT := fun σ H Q => t σ H fun c H1 => br c (u σ H1 Q) (Q false H1)
def uOr (t u : TT) : TT := fun σ H Q => t σ H fun c H1 => br c (Q true H1) (u σ H1 Q)
/-- monotone readings of tests -/
structure MT (t : TT) : Prop where
  m : ∀ σ H Q Q', (∀ b H1, Q b H1 → Q' b H1) → t σ H Q → t σ H Q'
end
section
variable {X : Cx} {pos : Pos} {a b c : Expr} {ta tb te : TE} {tc td : TT} {t u : TS} {rest : List Expr} {xs ys : List Stmt}
theorem psIf (hc : PT X c tc) (ha : PSs X xs t) (hb : PSs X ys u) : PS X (.If c xs ys pos) (uIfS tc t u) := ⟨fun p s z H D I h => wpAny_If (thn (hc.run p s z H _ I h) fun k s1 ⟨H1, I1, q⟩ => by
  cases k with
  | true => exact ha.run p s1 z H1 D I1 (by unfold br at q; exact q)
  | false => exact hb.run p s1 z H1 D I1 (by unfold br at q; exact q))⟩
theorem peIf (hc : PT X c tc) (ha : PE X a ta) (hb : PE X b tb) : PE X (.IfExp c a b pos) (uIf tc ta tb) := ⟨fun p s z H Q I h => wpAny_IfExp (thn (hc.run p s z H _ I h) fun k s1 ⟨H1, I1, q⟩ => by
  cases k with
  | true => exact ha.run p s1 z H1 Q I1 (by unfold br at q; exact q)
  | false => exact hb.run p s1 z H1 Q I1 (by unfold br at q; exact q))⟩
theorem pwAnd (ha : PT X a tc) (hb : PW X (.BoolOp .And (b :: rest) pos) td) : PW X (.BoolOp .And (a :: b :: rest) pos) (uAnd tc td) := ⟨fun wh p s z H Q I h => isTrue_and (thn (ha.run p s z H _ I h) fun k s1 ⟨H1, I1, q⟩ => by
  cases k with
  | true => exact hb.run wh p s1 z H1 Q I1 (by unfold br at q; exact q)
  | false => exact ⟨H1, I1, by unfold br at q; exact q⟩)⟩
theorem pwOr (ha : PT X a tc) (hb : PW X (.BoolOp .Or (b :: rest) pos) td) : PW X (.BoolOp .Or (a :: b :: rest) pos) (uOr tc td) := ⟨fun wh p s z H Q I h => isTrue_or (thn (ha.run p s z H _ I h) fun k s1 ⟨H1, I1, q⟩ => by
  cases k with
  | true => exact ⟨H1, I1, by unfold br at q; exact q⟩
  | false => exact hb.run wh p s1 z H1 Q I1 (by unfold br at q; exact q))⟩
/-- and, or, not as values, the members bools -/
def uAndV (ta tb : TE) : TE := fun σ H Q => ta σ H fun x H1 => match x with | .bl k => br k (tb σ H1 Q) (Q (.bl false) H1) | _ => False
def uOrV (ta tb : TE) : TE := fun σ H Q => ta σ H fun x H1 => match x with | .bl k => br k (Q (.bl true) H1) (tb σ H1 Q) | _ => False
def uNotV (ta : TE) : TE := fun σ H Q => ta σ H fun x H1 => match x with | .bl k => Q (.bl (!k)) H1 | _ => False
theorem peAnd (ha : PE X a ta) (hb : PE X (.BoolOp .And (b :: rest) pos) tb) : PE X (.BoolOp .And (a :: b :: rest) pos) (uAndV ta tb) := ⟨fun p s z H Q I h => BoolOp_and (thn (ha.run p s z H _ I h) fun v s1 ⟨x, H1, I1, r1, q⟩ => by
  cases x with
  | bl k =>
    cases r1
    refine wpAny_truthy_bool ?_
    cases k with
    | true => exact hb.run p s1 z H1 Q I1 (by simp only [br] at q; exact q)
    | false => exact ⟨.bl false, H1, I1, rfl, by simp only [br] at q; exact q⟩
  | _ => exact (show False from q).elim)⟩
theorem peOr (ha : PE X a ta) (hb : PE X (.BoolOp .Or (b :: rest) pos) tb) : PE X (.BoolOp .Or (a :: b :: rest) pos) (uOrV ta tb) := ⟨fun p s z H Q I h => BoolOp_or (thn (ha.run p s z H _ I h) fun v s1 ⟨x, H1, I1, r1, q⟩ => by
  cases x with
  | bl k =>
    cases r1
    refine wpAny_truthy_bool ?_
    cases k with
    | true => exact ⟨.bl true, H1, I1, rfl, by simp only [br] at q; exact q⟩
    | false => exact hb.run p s1 z H1 Q I1 (by simp only [br] at q; exact q)
  | _ => exact (show False from q).elim)⟩
/-- a value's truth -/
def uTru (K : PySem.W.Frag) (x : V) (H : Hp) (Q : Bool → Hp → Prop) : Prop := match x with
  | .bl k => Q k H
  | .int i => Q (decide (i ≠ 0)) H
  | .non => Q false H
  | .str y => y.length ≤ sizeLine ∧ Q (decide (y.length ≠ 0)) H
  | .ref p => ∃ k, TruV K (.ref p) H k ∧ Q k H
  | _ => False
def uTrue (K : PySem.W.Frag) (ta : TE) : TT := fun σ H Q => ta σ H fun x H1 => uTru K x H1 Q
theorem ptV (ha : PE X a ta) (he : ∀ whole, isTrue a X.env whole = (do let v ← whole; standAt a.pos; holding [v] (truthy v)) := by intro _; rfl) : PT X a (uTrue X.K ta) := by
  refine ⟨fun p s z H Q I h => isTrue_plain (thn (ha.run p s z H _ I h) fun v s1 ⟨x, H1, I1, r1, q⟩ => ?_) (he _)⟩
  refine tru_ok p s1 z H1 x v Q I1 r1 ?_
  cases x with
  | non => exact ⟨false, rfl, q⟩
  | bl k => exact ⟨k, rfl, q⟩
  | int i =>
    refine ⟨_, rfl, ?_⟩
    have e : decide (i ≠ 0) = (i != 0) := by by_cases h0 : i = 0 <;> simp [h0]
    have q' : Q (decide (i ≠ 0)) H1 := q
    rw [e] at q'
    exact q'
  | str y =>
    obtain ⟨q1, q2⟩ := (show y.length ≤ sizeLine ∧ Q (decide (y.length ≠ 0)) H1 from q)
    refine ⟨_, ⟨q1, rfl⟩, ?_⟩
    have e : decide (y.length ≠ 0) = ((y.length : Int) != 0) := by by_cases h0 : y.length = 0 <;> simp [h0]
    rw [e] at q2
    exact q2
  | ref r => exact q
  | byt _ => exact (show False from q).elim
  | flt _ => exact (show False from q).elim
  | ty _ => exact (show False from q).elim
end

/-! ### operators by matching -/
section
variable {X : Cx}
def uAdd (K : PySem.W.Frag) : R2 := fun x y H Q => match x, y with
  | .int i, .int j => Q (.int (i + j)) H
  | .str i, .str j => i.length + j.length ≤ sizeLine ∧ Q (.str (i ++ j)) H
  | .ref a, .ref b => rCat (.ref a) (.ref b) H Q ∨ rCatA K (.ref a) (.ref b) H Q
  | _, _ => False
theorem opAdd : OpR X (binaryOp .Add) (uAdd X.K) := fun p s z H x y v u Q I rx ry h => by
  unfold uAdd at h
  split at h
  · exact op_add p s z H _ _ v u Q I rx ry ⟨_, _, rfl, rfl, h⟩
  · exact op_add_str p s z H _ _ v u Q I rx ry ⟨_, _, rfl, rfl, h.1, h.2⟩
  · rcases h with h | h
    · exact op_cat p s z H _ _ v u Q I rx ry h
    · exact op_catA p s z H _ _ v u Q I rx ry h
  · exact h.elim
def uSub : R2 := fun x y H Q => match x, y with | .int i, .int j => Q (.int (i - j)) H | _, _ => False
theorem opSub : OpR X (binaryOp .Sub) uSub := fun p s z H x y v u Q I rx ry h => by
  unfold uSub at h
  split at h
  · exact op_sub p s z H _ _ v u Q I rx ry ⟨_, _, rfl, rfl, h⟩
  · exact h.elim
/-- the sizes of a product's factors -/
def FitM (i j : Int) : Prop := i.natAbs < 2 ^ 400000 ∧ j.natAbs < 2 ^ 400000
def uMul : R2 := fun x y H Q => match x, y with
  | .int i, .int j => CMulW i j ∧ Q (.int (i * j)) H
  | .ref a, .int j => rRep (.ref a) (.int j) H Q
  | _, _ => False
theorem opMul : OpR X (binaryOp .Mult) uMul := fun p s z H x y v u Q I rx ry h => by
  unfold uMul at h
  split at h
  · exact op_mulW p s z H _ _ v u Q I rx ry ⟨_, _, rfl, rfl, h.1, h.2⟩
  · exact op_rep p s z H _ _ v u Q I rx ry h
  · exact h.elim
def uDiv : R2 := fun x y H Q => match x, y with | .int i, .int j => CDivW i j ∧ Q (.int (i / j)) H | _, _ => False
theorem opDiv : OpR X (binaryOp .FloorDiv) uDiv := fun p s z H x y v u Q I rx ry h => by
  unfold uDiv at h
  split at h
  · exact op_fdivW p s z H _ _ v u Q I rx ry ⟨_, _, rfl, rfl, h.1, h.2⟩
  · exact h.elim
def uMod : R2 := fun x y H Q => match x, y with | .int i, .int j => 0 < j ∧ Q (.int (i % j)) H | _, _ => False
theorem opMod : OpR X (binaryOp .Mod) uMod := fun p s z H x y v u Q I rx ry h => by
  unfold uMod at h
  split at h
  · exact op_mod p s z H _ _ v u Q I rx ry ⟨_, _, rfl, rfl, h.1, h.2⟩
  · exact h.elim
def uPow : R2 := fun x y H Q => match x, y with | .int i, .int j => CPow i j ∧ Q (.int (i ^ j.toNat)) H | _, _ => False
theorem opPow : OpR X (binaryOp .Pow) uPow := fun p s z H x y v u Q I rx ry h => by
  unfold uPow at h
  split at h
  · exact op_pow p s z H _ _ v u Q I rx ry ⟨_, _, rfl, rfl, h.1, h.2⟩
  · exact h.elim
def uNeg : V → Hp → VK → Prop := fun x H Q => match x with | .int i => Q (.int (-i)) H | _ => False
theorem unNeg : UnR X (unaryOp .USub) uNeg := fun p s z H x v Q I rx h => by
  unfold uNeg at h
  split at h
  · exact un_neg p s z H _ v Q I rx ⟨_, rfl, h⟩
  · exact h.elim

/-! ### comparisons -/
def uEq (K : PySem.W.Frag) : R2 := fun x y H Q => match scal x y with
  | true => Q (.bl (decide (x = y))) H
  | false => rEqD K x y H Q
theorem opEq (hu : X.A.units + 64 < cLine) : OpR X (compareOp .Eq) (uEq X.K) := fun p s z H x y v u Q I rx ry h => by
  unfold uEq at h
  split at h
  · exact op_eq p s z H _ _ v u Q I rx ry ⟨by assumption, h⟩
  · exact op_eqD hu p s z H _ _ v u Q I rx ry h
def uNe (K : PySem.W.Frag) : R2 := fun x y H Q => match scal x y with
  | true => Q (.bl (!decide (x = y))) H
  | false => rNeD K x y H Q
theorem opNe (hu : X.A.units + 64 < cLine) : OpR X (compareOp .NotEq) (uNe X.K) := fun p s z H x y v u Q I rx ry h => by
  unfold uNe at h
  split at h
  · exact op_ne p s z H _ _ v u Q I rx ry ⟨by assumption, h⟩
  · exact op_neD hu p s z H _ _ v u Q I rx ry h
def uLt : R2 := fun x y H Q => match x, y with
  | .int i, .int j => Q (.bl (decide (i < j))) H
  | .str i, .str j => Q (.bl (decide (i.cps.toList < j.cps.toList))) H
  | _, _ => False
theorem opLt : OpR X (compareOp .Lt) uLt := fun p s z H x y v u Q I rx ry h => by
  unfold uLt at h
  split at h
  · exact op_lt p s z H _ _ v u Q I rx ry ⟨_, _, rfl, rfl, h⟩
  · exact op_lt_str p s z H _ _ v u Q I rx ry ⟨_, _, rfl, rfl, h⟩
  · exact h.elim
def uLe : R2 := fun x y H Q => match x, y with | .int i, .int j => Q (.bl (decide (i ≤ j))) H | _, _ => False
theorem opLe : OpR X (compareOp .LtE) uLe := fun p s z H x y v u Q I rx ry h => by
  unfold uLe at h
  split at h
  · exact op_le p s z H _ _ v u Q I rx ry ⟨_, _, rfl, rfl, h⟩
  · exact h.elim
def uGt : R2 := fun x y H Q => match x, y with | .int i, .int j => Q (.bl (decide (j < i))) H | _, _ => False
theorem opGt : OpR X (compareOp .Gt) uGt := fun p s z H x y v u Q I rx ry h => by
  unfold uGt at h
  split at h
  · exact op_gt p s z H _ _ v u Q I rx ry ⟨_, _, rfl, rfl, h⟩
  · exact h.elim
def uGe : R2 := fun x y H Q => match x, y with | .int i, .int j => Q (.bl (decide (j ≤ i))) H | _, _ => False
theorem opGe : OpR X (compareOp .GtE) uGe := fun p s z H x y v u Q I rx ry h => by
  unfold uGe at h
  split at h
  · exact op_ge p s z H _ _ v u Q I rx ry ⟨_, _, rfl, rfl, h⟩
  · exact h.elim
/-- a sign in a text -/
def uInS : R2 := fun x y H Q => match x, y with
  | .str c, .str z => ∃ n, c = ⟨#[n]⟩ ∧ Q (.bl (decide (n ∈ z.cps.toList))) H
  | _, _ => False
theorem opInS : OpR X (compareOp .In) uInS := fun p s z H x y v u Q I rx ry h => by
  unfold uInS at h
  split at h
  · obtain ⟨n, e, h⟩ := h
    subst e
    exact op_in_sign p s z H _ _ v u Q I rx ry ⟨_, _, rfl, rfl, h⟩
  · exact h.elim
def uNotInS : R2 := fun x y H Q => match x, y with
  | .str c, .str z => ∃ n, c = ⟨#[n]⟩ ∧ Q (.bl (!decide (n ∈ z.cps.toList))) H
  | _, _ => False
theorem opNotInS : OpR X (compareOp .NotIn) uNotInS := fun p s z H x y v u Q I rx ry h => by
  unfold uNotInS at h
  split at h
  · obtain ⟨n, e, h⟩ := h
    subst e
    exact op_notIn_sign p s z H _ _ v u Q I rx ry ⟨_, _, rfl, rfl, h⟩
  · exact h.elim
end
/-- a chain of two comparisons -/
def uChain (r r' : R2) (ta tb tc : TE) : TE := fun σ H Q => ta σ H fun x H1 => tb σ H1 fun y H2 => r x y H2 fun z H3 => match z with
  | .bl k => br k (tc σ H3 fun w H4 => r' y w H4 Q) (Q (.bl false) H3)
  | _ => False
end U

namespace U
open PySem PySem.Spec PyProof.Rows L2
theorem foldl_arr (x : Array Nat) : ∀ (n : Nat) (a : Array Nat), ((List.replicate n x).foldl (· ++ ·) a).toList = a.toList ++ (List.replicate n x.toList).flatten
  | 0, a => by simp
  | n + 1, a => by
    rw [List.replicate_succ, List.foldl_cons, foldl_arr x n, List.replicate_succ, List.flatten_cons]
    simp
theorem flat_nil : ∀ k : Nat, (List.replicate k ([] : List Nat)).flatten = []
  | 0 => rfl
  | k + 1 => by rw [List.replicate_succ, List.flatten_cons, flat_nil k]; rfl
theorem mul_list (x : Str) (n : Int) (h0 : 0 ≤ n) : (Txt.mul x n).cps.toList = (List.replicate n.toNat x.cps.toList).flatten := by
  unfold Txt.mul
  split
  · rw [show n.toNat = 0 by omega]; rfl
  · split
    · rename_i h1 h2
      rw [Bool.or_eq_true] at h2
      rcases h2 with h2 | h2
      · obtain rfl : n = 1 := by simpa using h2
        simp
      · have h3 : x.cps.toList.length = 0 := by simpa [Str.length] using h2
        rw [List.eq_nil_of_length_eq_zero h3, flat_nil]
    · rw [foldl_arr]; rfl
theorem mul_ok {x : Str} {n : Int} (h0 : 0 ≤ n) (h1 : n ≤ 1000000) (h : x.length * n.toNat ≤ 1000000) : MulOk x n := by
  refine ⟨?_, fun h2 _ => ?_, fun _ _ => ?_⟩
  · rw [decide_eq_false (show ¬ n < -(2 ^ 63 : Int) by omega), decide_eq_false (show ¬ n ≥ (2 ^ 63 : Int) by omega)]; rfl
  · intro z
    have hx : x.length ≤ 1000000 := Nat.le_trans (by
      have h5 := Nat.mul_le_mul_left x.length (show 1 ≤ n.toNat by omega)
      omega) h
    have h3 : (2 ^ 63 - 1 : Int) / n ≥ 1000000 := (Int.le_ediv_iff_mul_le (by omega)).mpr (by omega)
    omega
  · unfold Builtin.Str.tooLong
    have := sizeLine_eq
    simp
    omega
section
variable {X : Cx}
/-- a product, also of a text -/
def uMulT : R2 := fun x y H Q => match x, y with
  | .str i, .int j => (0 ≤ j ∧ j ≤ 1000000 ∧ i.length * j.toNat ≤ 1000000) ∧ Q (.str (Txt.mul i j)) H
  | _, _ => uMul x y H Q
theorem opMulT : OpR X (binaryOp .Mult) uMulT := fun p s z H x y v u Q I rx ry h => by
  unfold uMulT at h
  split at h
  · obtain ⟨⟨h0, h1, h2⟩, q⟩ := h
    obtain ⟨t, rfl⟩ := rx
    obtain ⟨t', rfl⟩ := ry
    exact SB.mul (mul_ok h0 h1 h2) fun t' k => ⟨.str _, H, I.tok k, ⟨_, rfl⟩, q⟩
  · exact opMul p s z H _ _ v u Q I rx ry h

/-! ### calls of built-ins -/
def uLen (K : PySem.W.Frag) : List V → Hp → VK → Prop := fun vs H Q => match vs with
  | [.str y] => y.length ≤ sizeLine ∧ Q (.int y.length) H
  | [.ref p] => ∃ xs, (SqL K H p xs ∨ SqT K H p xs) ∧ Q (.int xs.length) H
  | _ => False
theorem caLen : CallR X (.builtin "len") (uLen X.K) := fun p s z H xs us Q I r h => by
  unfold uLen at h
  split at h
  · exact call_len_str p s z H _ us Q I r ⟨_, rfl, h.1, h.2⟩
  · obtain ⟨ys, h1, h2⟩ := h
    exact call_len_seq p s z H _ us Q I r ⟨_, ys, rfl, h1, h2⟩
  · exact h.elim
def uMax (vs : List V) (H : Hp) (Q : VK) : Prop := match vs with | [.int i, .int j] => Q (.int (max i j)) H | _ => False
theorem caMax (hc : X.calm = true) : CallR X (.builtin "max") uMax := fun p s z H xs us Q I r h => by
  unfold uMax at h
  split at h
  · refine call_max2 hc p s z H _ us Q I r ⟨_, _, rfl, ?_⟩
    rename_i i j
    have e : (if j > i then j else i) = max i j := by omega
    rw [e]; exact h
  · exact h.elim
def uMin (vs : List V) (H : Hp) (Q : VK) : Prop := match vs with | [.int i, .int j] => Q (.int (min i j)) H | _ => False
theorem caMin (hc : X.calm = true) : CallR X (.builtin "min") uMin := fun p s z H xs us Q I r h => by
  unfold uMin at h
  split at h
  · refine call_min2 hc p s z H _ us Q I r ⟨_, _, rfl, ?_⟩
    rename_i i j
    have e : (if j < i then j else i) = min i j := by omega
    rw [e]; exact h
  · exact h.elim
def uAbs (vs : List V) (H : Hp) (Q : VK) : Prop := match vs with | [.int i] => Q (.int i.natAbs) H | _ => False
theorem caAbs : CallR X (.builtin "abs") uAbs := fun p s z H xs us Q I r h => by
  unfold uAbs at h
  split at h
  · refine call_abs p s z H _ us Q I r ⟨_, rfl, ?_⟩
    rename_i i
    have e : (if i < 0 then -i else i) = (i.natAbs : Int) := by omega
    rw [e]; exact h
  · exact h.elim
def uInt (vs : List V) (H : Hp) (Q : VK) : Prop := match vs with | [.int i] => Q (.int i) H | [.bl k] => Q (.int (if k then 1 else 0)) H | _ => False
theorem caInt : CallR X (.type "int") uInt := fun p s z H xs us Q I r h => by
  unfold uInt at h
  split at h
  · exact call_int1 p s z H _ us Q I r (.inl ⟨_, rfl, h⟩)
  · exact call_int1 p s z H _ us Q I r (.inr ⟨_, rfl, h⟩)
  · exact h.elim
def uStr (vs : List V) (H : Hp) (Q : VK) : Prop := match vs with | [.int i] => i.natAbs.log2 < 1920 ∧ Q (.str (toString i)) H | [.str a] => Q (.str a) H | _ => False
theorem caStr : CallR X (.type "str") uStr := fun p s z H xs us Q I r h => by
  unfold uStr at h
  split at h
  · exact call_str_int p s z H _ us Q I r ⟨_, rfl, h.1, h.2⟩
  · exact SkE.call_str_str p s z H _ us Q I r ⟨_, rfl, h⟩
  · exact h.elim
/-- repr of data at any depth: a list or a tuple -/
def uRepr (K : PySem.W.Frag) (vs : List V) (H : Hp) (Q : VK) : Prop := match vs with
  | [.ref a] => ∃ d, Dp K H (.ref a) d ∧ d.showable = true ∧ SeqAt.shaped d = true ∧ d.shown.length ≤ sizeLine ∧ Q (.str d.shown) H
  | _ => False
theorem caRepr (hg : X.A.guards = some []) (hu : X.A.units + 70 < cLine) : CallR X (.builtin "repr") (uRepr X.K) := fun p s z H xs us Q I r h => by
  unfold uRepr at h
  split at h
  · obtain ⟨d, hd, h1, h2, h3, q⟩ := h
    obtain ⟨u, rfl, ru⟩ := L2.vals1 r
    cases (show u = Value.ref _ from ru)
    obtain ⟨as, rd⟩ := Dp.reads I d _ _ hd rfl
    have hdep := SeqAt.depth_of_shaped h2
    refine repr_of_reads' rd h1 (PyData.noDict_hsm (PyData.hasDict_of_canLay d (SeqAt.canLay_of_shaped h2))) hg (by omega) (fun _ _ e => e) (fun h' u tk k => ?_) h3
    exact ⟨.str d.shown, H, I.kept (t' := tk) k, ⟨_, rfl⟩, q⟩
  · exact h.elim
/-- an item by its place -/
def uIx (K : PySem.W.Frag) : R2 := fun x y H Q => match x, y with
  | .str z, .int i => z.length ≤ sizeLine ∧ ∃ c, atI z.cps.toList i = some c ∧ Q (.str ⟨#[c]⟩) H
  | .ref p, .int i => ∃ xs v, (SqL K H p xs ∨ SqT K H p xs) ∧ atI xs i = some v ∧ Q v H
  | _, _ => False
theorem ixU : IxR X (uIx X.K) := fun va sl p s z H x y v u Q I rx ry h hs => by
  unfold uIx at h
  split at h
  · obtain ⟨h1, c, h2, q⟩ := h
    exact ix_str va sl p s z H _ _ v u Q I rx ry ⟨_, _, c, rfl, rfl, h1, h2, q⟩ hs
  · obtain ⟨xs, w, h1 | h1, h2, q⟩ := h
    · exact ix_list va sl p s z H _ _ v u Q I rx ry ⟨_, xs, _, w, rfl, rfl, h1, h2, q⟩ hs
    · exact ix_tup va sl p s z H _ _ v u Q I rx ry ⟨_, xs, _, w, rfl, rfl, h1, h2, q⟩ hs
  · exact h.elim
end

/-! ### the ledger: what a def knows of the heap -/
/-- H0 the heap at the start, D what may change of it; F what stands still, M what may still change, each by its address -/
structure At (H0 : Hp) (D : List Addr) (F M : List (Addr × HO)) (H : Hp) : Prop where
  fr : ∀ a o, H0 a = some o → a ∉ D → H a = some o
  fa : ∀ p ∈ F, H p.1 = some p.2
  mu : ∀ p ∈ M, H p.1 = some p.2
  mf : ∀ p ∈ M, p.1 ∈ D ∨ H0 p.1 = none
  df : ∀ p ∈ M, ∀ q ∈ F, p.1 ≠ q.1
  nd : (M.map (·.1)).Nodup
section
variable {H0 H H' : Hp} {D : List Addr} {F M : List (Addr × HO)} {a p : Addr} {o u : HO}
theorem At.start (H : Hp) : At H [] [] [] H := ⟨fun _ _ h _ => h, fun _ h => absurd h List.not_mem_nil, fun _ h => absurd h List.not_mem_nil, fun _ h => absurd h List.not_mem_nil, fun _ h => absurd h List.not_mem_nil, List.nodup_nil⟩
/-- the dice alone may change -/
theorem At.start1 (h : H a = some o) : At H [a] [] [(a, o)] H := ⟨fun _ _ e _ => e, fun _ h => absurd h List.not_mem_nil, fun p hp => by
  obtain rfl := List.mem_singleton.mp hp
  exact h, fun p hp => .inl (by obtain rfl := List.mem_singleton.mp hp; exact List.mem_singleton.mpr rfl), fun _ _ _ h => absurd h List.not_mem_nil, by simp⟩
theorem At.get (L : At H0 D F M H) (h : (a, o) ∈ F) : H a = some o := L.fa _ h
theorem At.getM (L : At H0 D F M H) (h : (a, o) ∈ M) : H a = some o := L.mu _ h
/-- what is known of an object that doesn't change -/
theorem At.know (L : At H0 D F M H) (h : H a = some o) (hM : a ∉ M.map (·.1)) : At H0 D ((a, o) :: F) M H := ⟨L.fr, fun p hp => by
  rcases List.mem_cons.mp hp with rfl | hp
  · exact h
  · exact L.fa p hp, L.mu, L.mf, fun p hp q hq e => by
  rcases List.mem_cons.mp hq with rfl | hq
  · exact hM (List.mem_map.mpr ⟨p, hp, e⟩)
  · exact L.df p hp q hq e, L.nd⟩
theorem At.new (L : At H0 D F M H) (h : H p = none) : At H0 D ((p, o) :: F) M (upd H p o) := ⟨fun b u e n => by
  have q := L.fr b u e n
  rw [upd_ne (ne_of_none q h)]; exact q, fun q hq => by
  rcases List.mem_cons.mp hq with rfl | hq
  · exact upd_same
  · rw [upd_ne (ne_of_none (L.fa q hq) h)]; exact L.fa q hq, fun q hq => by
  rw [upd_ne (ne_of_none (L.mu q hq) h)]; exact L.mu q hq, L.mf, fun q hq r hr e => by
  rcases List.mem_cons.mp hr with rfl | hr
  · have e2 := L.mu q hq
    rw [show q.1 = p from e, h] at e2
    cases e2
  · exact L.df q hq r hr e, L.nd⟩
theorem At.no0 (L : At H0 D F M H) (hD : ∀ d ∈ D, ∃ u, H d = some u) (h : H p = none) : H0 p = none := by
  cases e : H0 p with
  | none => rfl
  | some u =>
    by_cases hp : p ∈ D
    · obtain ⟨w, e2⟩ := hD p hp
      rw [h] at e2; cases e2
    · rw [L.fr p u e hp] at h; cases h
theorem At.newM (L : At H0 D F M H) (hD : ∀ d ∈ D, ∃ u, H d = some u) (h : H p = none) : At H0 D F ((p, o) :: M) (upd H p o) := ⟨(L.new (o := o) h).fr, fun q hq => (L.new (o := o) h).fa q (List.mem_cons_of_mem _ hq), fun q hq => by
  rcases List.mem_cons.mp hq with rfl | hq
  · exact upd_same
  · exact (L.new (o := o) h).mu q hq, fun q hq => by
  rcases List.mem_cons.mp hq with rfl | hq
  · exact .inr (L.no0 hD h)
  · exact L.mf q hq, fun q hq r hr e => by
  rcases List.mem_cons.mp hq with rfl | hq
  · have e2 := L.fa r hr
    rw [← show p = r.1 from e, h] at e2; cases e2
  · exact L.df q hq r hr e, by
  rw [List.map_cons]
  refine List.nodup_cons.mpr ⟨fun z => ?_, L.nd⟩
  obtain ⟨q, hq, e⟩ := List.mem_map.mp z
  have e2 := L.mu q hq
  rw [show q.1 = p from e, h] at e2; cases e2⟩
/-- the first of M changes -/
theorem At.set (L : At H0 D F ((a, o) :: M) H) (h1 : ∀ b u, H b = some u → b ≠ a → H' b = some u) (h2 : H' a = some u) : At H0 D F ((a, u) :: M) H' := ⟨fun b w e n => h1 b w (L.fr b w e n) (fun z => by
  subst z
  rcases L.mf _ (List.mem_cons_self ..) with z | z
  · exact n z
  · rw [e] at z; cases z), fun q hq => h1 _ _ (L.fa q hq) (fun z => L.df _ (List.mem_cons_self ..) q hq z.symm), fun q hq => by
  rcases List.mem_cons.mp hq with rfl | hq
  · exact h2
  · refine h1 _ _ (L.mu q (List.mem_cons_of_mem _ hq)) fun z => ?_
    have := L.nd
    rw [List.map_cons] at this
    exact (List.nodup_cons.mp this).1 (List.mem_map.mpr ⟨q, hq, z⟩), fun q hq => by
  rcases List.mem_cons.mp hq with rfl | hq
  · exact L.mf (a, o) (List.mem_cons_self ..)
  · exact L.mf q (List.mem_cons_of_mem _ hq), fun q hq r hr => by
  rcases List.mem_cons.mp hq with rfl | hq
  · exact L.df (a, o) (List.mem_cons_self ..) r hr
  · exact L.df q (List.mem_cons_of_mem _ hq) r hr, by have := L.nd; rw [List.map_cons] at this ⊢; exact this⟩
theorem At.upd (L : At H0 D F ((a, o) :: M) H) : At H0 D F ((a, u) :: M) (L2.upd H a u) := L.set (fun b w e n => by rw [upd_ne n]; exact e) upd_same
theorem memSwap {α : Type} {x q r : α} {l : List α} (h : x ∈ r :: q :: l) : x ∈ q :: r :: l := by
  rcases List.mem_cons.mp h with rfl | h
  · exact .tail _ (.head _)
  · rcases List.mem_cons.mp h with rfl | h
    · exact .head _
    · exact .tail _ (.tail _ h)
/-- M in another order -/
theorem At.swap {q r : Addr × HO} (L : At H0 D F (q :: r :: M) H) : At H0 D F (r :: q :: M) H := ⟨L.fr, L.fa, fun x hx => L.mu x (memSwap hx), fun x hx => L.mf x (memSwap hx), fun x hx => L.df x (memSwap hx), by
  have := L.nd
  simp only [List.map_cons, List.nodup_cons, List.mem_cons, not_or] at this ⊢
  exact ⟨⟨fun z => this.1.1 z.symm, this.2.1⟩, this.1.2, this.2.2⟩⟩
/-- the first of M stands still from here on -/
theorem At.still (L : At H0 D F ((a, o) :: M) H) : At H0 D ((a, o) :: F) M H := ⟨L.fr, fun q hq => by
  rcases List.mem_cons.mp hq with rfl | hq
  · exact L.mu _ (List.mem_cons_self ..)
  · exact L.fa q hq, fun q hq => L.mu q (List.mem_cons_of_mem _ hq), fun q hq => L.mf q (List.mem_cons_of_mem _ hq), fun q hq r hr e => by
  rcases List.mem_cons.mp hr with rfl | hr
  · have := L.nd
    rw [List.map_cons] at this
    exact (List.nodup_cons.mp this).1 (List.mem_map.mpr ⟨q, hq, e⟩)
  · exact L.df q (List.mem_cons_of_mem _ hq) r hr e, by have := L.nd; rw [List.map_cons] at this; exact (List.nodup_cons.mp this).2⟩
/-- behind what only adds -/
theorem At.same (L : At H0 D F M H) (h : ∀ b u, H b = some u → H' b = some u) : At H0 D F M H' := ⟨fun b w e n => h _ _ (L.fr b w e n), fun q hq => h _ _ (L.fa q hq), fun q hq => h _ _ (L.mu q hq), L.mf, L.df, L.nd⟩
/-- forget -/
theorem At.less {F' : List (Addr × HO)} (L : At H0 D F M H) (h : ∀ p ∈ F', p ∈ F) : At H0 D F' M H := ⟨L.fr, fun q hq => L.fa q (h q hq), L.mu, L.mf, fun q hq r hr => L.df q hq r (h r hr), L.nd⟩
end
end U

/-! U3: promises of defs that are called where no repr is under way (repr of a list asks for that). -/
namespace U
open PySem PySem.Spec PyProof.Rows L2
/-- a def's promise, wherever no repr is under way -/
structure FnG (P : Program) (w : World) (K : PySem.W.Frag) (mg : Str → Option Value) (base : Heap) (CX : CXT) (k : Nat) (f : Addr) (fd : FuncData) (ps : List Str) (sp : Sp) : Prop where
  len : ∀ vs H Q E, sp vs H Q E → vs.length = ps.length
  run : ∀ (A : Around) (outer : List Env) (s : Shared) (H : Hp) (args : Args) (us : List Value) (vs : List V) (Q : VK) (E : XK), A.guards = some [] → Room k A → Env0 P w K mg base A outer s H → BindsTo s fd args (ps.zip us) → Vals vs us →
    sp vs H Q E → codeAny (model P w) A (.call (.ref f) args) (CR CX outer P w H s Q E) s
section
variable {P : Program} {w : World} {K : PySem.W.Frag} {mg : Str → Option Value} {base : Heap} {CX : CXT} {k j : Nat} {f : Addr} {fd : FuncData} {ps N : List Str} {sp : Sp} {st : Stmt} {nm qual : Str}
theorem FnG.of (F : FnOk P w K mg base CX k f fd ps sp) : FnG P w K mg base CX k f fd ps sp := ⟨F.len, fun A o s H ar us vs Q E _ => F.run A o s H ar us vs Q E⟩
theorem FnG.mono (F : FnG P w K mg base CX j f fd ps sp) (h : j ≤ k) : FnG P w K mg base CX k f fd ps sp := ⟨F.len, fun A o s H ar us vs Q E g r => F.run A o s H ar us vs Q E g (r.mono h)⟩
/-- a def by its body, where no repr is under way -/
theorem okG (F : Fun K nm qual st f fd) (S : FnScope N ps (defScope st)) (len : ∀ vs H Q E, sp vs H Q E → vs.length = ps.length)
    (body : ∀ (cdv : Value) (A : Around) (outer : List Env) (s : Shared) (H : Hp) (vs : List V) (Q : VK) (E : XK), A.guards = some [] → Room k (A.deeper (envOfC qual (defScope st) s.heap.objs.size f cdv)) → sp vs H Q E →
      ∃ t, PSs (cxOf CX P w K mg base N qual (defScope st) f cdv A outer s H E) (defBody st) t ∧ t { nx := fun _ H' => Q .non H', rt := Q } (start N vs) H) : FnG P w K mg base CX (k + 1) f fd ps sp := by
  obtain ⟨oc, od, kV, doc, pm, an, cdv, ct, osl, rfl, lk, hcd⟩ := F.ex
  refine ⟨len, fun A outer s H args us vs Q E hg hr e0 hb r hsp => ?_⟩
  have kin : K.In s.heap := e0.mod.kin.keeps fun b o z => (e0.bs b o z).1
  have nol : s.heap.NoLimit := e0.mod.nolimit.keeps fun b o z => (e0.bs b o z).1
  refine codeAny_call_function hr.depth (kin _ _ lk) rfl S.co S.gen rfl (PySem.W.codeRec_of kin hcd) (hb _ _ _ _ ?_)
  refine wpAny_newFunctionEnv_cells S.kind (fun ⟨n, v⟩ hy => (S.par n (List.of_mem_zip hy).1).elim .inl fun q => .inr ⟨q, PySem.W.cellsFrom_some _ _ _ (.inl q)⟩) fun env he s1 x => ?_
  subst he
  refine ⟨nol.keeps x.toInCall.keep, codeAny_func ?_⟩
  obtain ⟨t, ht, hq⟩ := body cdv A outer s H vs Q E hg (hr.deeper _) hsp
  have I0 := inv_start (CX := CX) (E := E) S hr.hd e0 (len _ _ _ _ hsp) r x
  refine wpAny_mono (ht.run [] s1 _ H _ I0 hq) (fun fl s' hs => ?_) fun e s' hs => hs
  cases fl with
  | ret u => exact let ⟨v, _, H', J, rv, q⟩ := hs; ⟨v, H', J.os, J.bare, J.base, J.hok, rv, q⟩
  | next => exact let ⟨_, H', J, q⟩ := hs; ⟨V.non, H', J.os, J.bare, J.base, J.hok, rfl, q⟩
  | brk => exact let ⟨_, _, _, q⟩ := hs; False.elim q
  | cont => exact let ⟨_, _, _, q⟩ := hs; False.elim q
end
section
variable {X : Cx} {CX : CXT} {k : Nat} {f : Addr} {fd : FuncData} {ps : List Str} {sp : Sp} {dvs : List V} {ds : List Value} {E : XK} {x : Str} {p pos : Pos} {e : Expr} {es : List Expr} {t : TA}
theorem runG {pins : List (Addr × Obj)} {σ : L2.St} {H : Hp} {s : Shared} {Q : VK} {us : List Value} {vs : List V} (F : FnG X.prog X.w X.K X.mg X.base CX k f fd ps sp) (hg : X.A.guards = some []) (hr : Room k X.A) (hb : Binds X.K fd ps ds) (hd : Vals dvs ds) (hx : Passes CX X E)
    (I : Inv X pins σ H s) (r : Vals vs us) (h : sp (vs ++ dvs) H Q E) : wpAny (model X.prog X.w) X.A (call (.ref f) us) (EP X pins σ Q) X.xe s := by
  have r2 : Vals (vs ++ dvs) (us ++ ds) := r.append hd
  refine wpAny_call (codeAny_mono (F.run X.A X.stack s H ⟨us, []⟩ (us ++ ds) (vs ++ dvs) Q E hg hr I.env0 (hb s us I.kIn (by rw [← r2.length]; exact F.len _ _ _ _ h)) r2 h) fun r s' hq => ?_)
  match r, hq with
  | .error e, hq => exact hx pins σ H s e s' I hq
  | .ok (.ret u), hq => exact I.after hq
  | .ok .next, hq => exact False.elim hq
  | .ok .brk, hq => exact False.elim hq
  | .ok .cont, hq => exact False.elim hq
theorem peG (F : FnG X.prog X.w X.K X.mg X.base CX k f fd ps sp) (hg : X.A.guards = some []) (hr : Room k X.A) (hn : Gl X x) (hm : X.mg x = some (.ref f)) (hk : PySem.W.keepIn X.K (.ref f) = true) (hb : Binds X.K fd ps ds) (hd : Vals dvs ds) (hx : Passes CX X E)
    (ha : PA X (e :: es) t) (hdb : (x == ("__debug__" : Str)) = false := by decide) (he : starEach (e :: es) X.env = (false, eval e X.env) :: starEach es X.env := by rfl) (hpl : (backTo pos (starEach es X.env)).any (·.1) = false := by rfl) :
    PE X (.Call (.Name x p) (e :: es) [] pos) (tCall sp dvs E t) := ⟨fun pins s σ H Q I h => wpAny_Call_Name_kw (ld_glob I hn hm (PySem.W.callWith_K (h₀ := X.base) I.ok.mod.kin hk
      (thn (ha.run pos pins s σ H _ I h) fun us s1 ⟨vs, H1, I1, r, q⟩ => ⟨I1.kIn, runG F hg hr hb hd hx I1 r q⟩) he hpl) hdb)⟩
end
/-! ### the law's own call -/
section
open PySem.W
theorem scriptH {P : Program} {w : World} {K : Frag} {s : Shared} {a : Addr} {vs : List Value} {ns : List Int} (KX : K.In s.heap) (ha : s.heap.get? a = some { cls := .type "list", data := .seq vs.toArray }) (hi : IntsAre vs ns) (hl : ns.length ≤ sizeLine) :
    ∃ H : Hp, Only H ∧ SqL K H a (ns.map V.int) ∧ HOk P w H s.heap ∧ (∀ b, H b ≠ none → b = a) ∧ (H a ≠ none → K.lookup a = none) := by
  have rv := vals_ints hi
  have lv : vs.length = ns.length := hi.length
  cases e : K.lookup a with
  | some o =>
    obtain rfl : o = _ := Option.some.inj ((KX a o e).symm.trans ha)
    exact ⟨fun _ => none, fun _ => .inl rfl, .inr ⟨_, vs.toArray, _, e, rfl, rfl, rfl, by rw [List.size_toArray, lv]; exact hl, by simpa using rv⟩, fun b u z => absurd (show (none : Option HO) = some u from z) (fun q => nomatch q), fun b z => absurd rfl z, fun z => absurd rfl z⟩
  | none =>
    refine ⟨fun b => if b = a then some (.frz { cls := .type "list", data := .seq vs.toArray } (.lst (ns.map V.int))) else none, fun b => ?_, .inl (.inr ⟨_, if_pos rfl⟩), fun b u z => ?_, fun b z => ?_, fun _ => rfl⟩
    · by_cases h : b = a
      · exact .inr ⟨_, _, if_pos h⟩
      · exact .inl (if_neg h)
    · by_cases h : b = a
      · subst h
        obtain rfl := Option.some.inj ((if_pos rfl).symm.trans z)
        exact ⟨ha, by rw [List.length_map]; exact hl, vs, _, rv, ha⟩
      · exact nomatch (if_neg h).symm.trans z
    · by_cases h : b = a
      · exact h
      · exact absurd (if_neg h) z
theorem lawG {P : Program} {w : World} {K : Frag} {mg mb : Str → Option Value} {CX : CXT} {k : Nat} {fa a : Addr} {fd : FuncData} {x : Str} {sp : Sp} {s : Shared} {vs : List Value} {ns : List Int}
    (KX : K.In s.heap) (hns : s.heap.Ns mainGlobals mg) (hb : s.heap.Ns builtinsNs mb) (hbb : ∀ y : Str, y ≠ "__name__" → mb y = bootBuiltins y) (hlim : s.heap.NoLimit) (hgn : s.gens = #[])
    (ha : s.heap.get? a = some { cls := .type "list", data := .seq vs.toArray }) (hi : IntsAre vs ns) (hl : ns.length ≤ sizeLine) (hr : Room k callerA)
    (F : ∀ base : Heap, K.In base → base.Ns mainGlobals mg → FnG P w K mg base CX k fa fd [x] sp) (hbind : ∀ (s : Shared) (u : Value), BindsTo s fd ⟨[u], []⟩ [(x, u)])
    (hsp : ∀ H : Hp, Only H → SqL K H a (ns.map V.int) → sp [.ref a] H (fun v _ => v = .bl true) fun _ _ _ => False) (hCX : ∀ H e s', CX [] H s (fun _ _ _ => False) e s' → False) :
    codeAny (model P w) callerA (.call (.ref fa) ⟨[.ref a], []⟩) (fun r s' => r = .ok (.ret (.bool true)) ∧ OldK s.heap s'.heap ∧ s'.os = s.os ∧ AllBare s'.gens) s := by
  obtain ⟨H, hO, hS, hok, hA, hK⟩ := scriptH (P := P) (w := w) KX ha hi hl
  have keep : ∀ {b : Addr} {o : Obj}, s.heap.get? b = some o → H b = none → (hidT s.heap H).get? b = some o := fun e n => hidT_get e n
  have free : ∀ {b : Addr}, b ≠ a → H b = none := fun {b} h => Classical.byContradiction fun z => h (hA b z)
  have kIn : K.In (hidT s.heap H) := fun b o e => keep (KX b o e) (Classical.byContradiction fun z => by
    obtain rfl := hA b z
    rw [hK z] at e; cases e)
  have nsIn : ∀ {b : Addr} {m : Str → Option Value}, s.heap.Ns b m → (hidT s.heap H).Ns b m := fun {b m} ⟨o, es, ep, e, d, r⟩ => ⟨o, es, ep, keep e (free fun z => by
    subst z
    rw [ha] at e; cases e; cases d), d, r⟩
  have M : Mod K mg (hidT s.heap H) := ⟨kIn, nsIn hns, ⟨mb, nsIn hb, hbb⟩, let ⟨mc, h1, h2⟩ := hlim; ⟨mc, nsIn h1, h2⟩⟩
  refine codeAny_mono ((F _ kIn (nsIn hns)).run callerA [] s H ⟨[.ref a], []⟩ [.ref a] [.ref a] _ _ rfl hr ⟨rfl, M, fun b o e => of_hidT e, Nat.le_of_eq (hidT_size _ _), trivial, fun b z => absurd (show b ∈ ([] : List Addr) from z) List.not_mem_nil, hok, .of_eq hgn⟩ (hbind s (.ref a)) (.cons rfl .nil) (hsp H hO hS)) fun r s' h => ?_
  match r, h with
  | .error e, h => exact (hCX H e s' h).elim
  | .ok .next, h => exact False.elim h
  | .ok .brk, h => exact False.elim h
  | .ok .cont, h => exact False.elim h
  | .ok (.ret u), ⟨v, H', os, bare, un, hok', r', q⟩ =>
    obtain rfl : v = .bl true := q
    obtain rfl : u = Value.bool true := r'
    refine ⟨rfl, OldK.of_keep fun b o e => ?_, os, bare⟩
    cases q : H b with
    | none => exact un.keep b o e q (fun z => absurd (show b ∈ ([] : List Addr) from z) List.not_mem_nil) List.not_mem_nil
    | some u =>
      rcases hO b with z | ⟨ob, xs, z⟩
      · rw [q] at z; cases z
      · have e1 := (hok b _ z).1
        have e2 := (hok' b _ (un.frzs b ob _ z)).1
        rw [e] at e1; cases e1
        exact e2
theorem walkG {l : OpenLaw} {n k : Nat} {q : Program} {loose : List Str} {XP : (Str → Option Value) → Heap → Prop} {YP : World → Heap → Prop} {d : DefRec} {K : Params → Frag} {sp : Frag → Sp} {x : Str}
    (hn : l.most = some n) (hn2 : n ≤ sizeLine) (hdf : d.params.defaults = []) (hr : Room k callerA) (hY : ∀ (w : World) (h : Heap), YP w h → (K w.params).In h)
    (F : ∀ (w : World) (mg : Str → Option Value) (fa : Addr) (h : Heap), (K w.params).In h → h.Ns mainGlobals mg → mg d.name = some (.ref fa) →
      ∃ fd : FuncData, (∀ (s : Shared) (u : Value), BindsTo s fd ⟨[u], []⟩ [(x, u)]) ∧ ∀ base : Heap, (K w.params).In base → base.Ns mainGlobals mg → FnG l.prog w (K w.params) mg base CX0 k fa fd [x] (sp (K w.params)))
    (hsp : ∀ (K : Frag) (H : Hp) (a : Addr) (ns : List Int), ns.length ≤ n → (∀ z ∈ ns, Builtin.Int.intBits z ≤ 1048576) → Only H → SqL K H a (ns.map V.int) → sp K [.ref a] H (fun v _ => v = .bl true) fun _ _ _ => False) :
    WalkO q loose XP YP l.row.toRowW d [] (fun f vs => PySem.call f vs) :=
  Att.attach_callB hn hdf fun w _ s mg mb fa o pm cd doc a vs ns G Y ho hd hcd hmg hobj hints hlen hbits hg =>
    let ⟨fd, hb, hF⟩ := F w mg fa _ (hY w _ Y) G.T.g hmg
    lawG (hY w _ Y) G.T.g G.T.b G.T.builtins G.T.nolimit hg hobj hints (Nat.le_trans hlen hn2) hr hF hb (fun H hO hS => hsp _ H a ns hlen hbits hO hS) fun _ _ _ z => z
end
end U

namespace U
open PySem PySem.Spec PyProof.Rows L2
theorem hu64 {k : Nat} {A : Around} (h : Room k A) : A.units + 64 < cLine := h.units
theorem hu70 {k : Nat} {A : Around} (h : Room k A) : A.units + 70 < cLine := by have := h.un; omega
section
variable {X : Cx}
theorem caAll (hc : X.calm = true) : CallR X (.builtin "all") (rAll X.K) := cr_all hc
/-- a slice of a text or a list -/
def uSl (K : PySem.W.Frag) : V → Option Int → Option Int → Hp → VK → Prop := fun x lo hi H Q => match x with
  | .str z => z.length ≤ sizeLine ∧ Q (.str (Txt.slice z lo hi)) H
  | _ => rSlL K x lo hi H Q
end
theorem walkO {l : PySem.W.OpenLaw} {n k : Nat} {q : Program} {loose : List Str} {XP : (Str → Option Value) → Heap → Prop} {YP : World → Heap → Prop} {d : DefRec} {K : Params → PySem.W.Frag} {sp : PySem.W.Frag → Sp} {x : Str}
    (hn : l.most = some n) (hn2 : n ≤ sizeLine) (hdf : d.params.defaults = []) (hr : Room k callerA) (hY : ∀ (w : World) (h : Heap), YP w h → (K w.params).In h)
    (F : ∀ (w : World) (mg : Str → Option Value) (fa : Addr) (h : Heap), (K w.params).In h → h.Ns mainGlobals mg → mg d.name = some (.ref fa) →
      ∃ fd : FuncData, (∀ (s : Shared) (u : Value), BindsTo s fd ⟨[u], []⟩ [(x, u)]) ∧ ∀ base : Heap, (K w.params).In base → base.Ns mainGlobals mg → FnOk l.prog w (K w.params) mg base CX0 k fa fd [x] (sp (K w.params)))
    (hsp : ∀ (K : PySem.W.Frag) (H : Hp) (a : Addr) (ns : List Int), ns.length ≤ n → (∀ z ∈ ns, Builtin.Int.intBits z ≤ 1048576) → Only H → SqL K H a (ns.map V.int) → sp K [.ref a] H (fun v _ => v = .bl true) fun _ _ _ => False) :
    PySem.W.WalkO q loose XP YP l.row.toRowW d [] (fun f vs => PySem.call f vs) :=
  walkG hn hn2 hdf hr hY (fun w mg fa h a b c => let ⟨fd, h1, h2⟩ := F w mg fa h a b c; ⟨fd, h1, fun base e g => .of (h2 base e g)⟩) hsp
/-- what a dice list holds: the rest of a great cell, a seed, how often it was rolled -/
def Dice (n : Nat) (o : HO) : Prop := ∃ a b c : Int, o = .lst [.int a, .int b, .int c] ∧ (0 ≤ a ∧ a < 2 ^ 500) ∧ (0 ≤ b ∧ b < 2 ^ 80) ∧ (0 ≤ c ∧ c ≤ n)
theorem Dice.up {n m : Nat} {o : HO} (h : Dice n o) (l : n ≤ m) : Dice m o := by
  obtain ⟨a, b, c, e, h1, h2, h3⟩ := h
  exact ⟨a, b, c, e, h1, h2, by omega⟩
theorem mulW {i j : Int} (a b : Nat) (ha : i.natAbs < 2 ^ a) (hb : j.natAbs < 2 ^ b) (h0 : 0 < a := by decide) (h1 : 0 < b := by decide) (h : a + b ≤ 1000000 := by decide) : CMulW i j := wide_mul ha hb h0 h1 h
theorem divW {i j : Int} (b : Nat) (h : 0 < j) (hb : j.natAbs < 2 ^ b) (h0 : 0 < b := by decide) (h9 : b ≤ 9000 := by decide) : CDivW i j := wide_div h hb h0 h9
theorem abs_lt {i : Int} {n : Nat} (h0 : 0 ≤ i) (h : i < 2 ^ n) : i.natAbs < 2 ^ n := by
  have e : ((i.natAbs : Nat) : Int) = i := by omega
  have : ((i.natAbs : Nat) : Int) < ((2 ^ n : Nat) : Int) := by rw [e]; push_cast; exact h
  exact Int.ofNat_lt.mp this
end U
namespace U
open PySem PySem.Spec PyProof.Rows L2
section
variable {K : PySem.W.Frag} {H H' : Hp} {p d : Addr} {xs : List V}
theorem rdKeep {u : HO} (h : ∀ b u, H b = some u → b ≠ d → H' b = some u) (ne : p ≠ d) (r : Rd H p u) : Rd H' p u := r.elim (fun e => .inl (h _ _ e ne)) fun ⟨o, e⟩ => .inr ⟨o, h _ _ e ne⟩
theorem sqlKeep (h : ∀ b u, H b = some u → b ≠ d → H' b = some u) (ne : p ≠ d) (r : SqL K H p xs) : SqL K H' p xs := r.elim (fun e => .inl (rdKeep h ne e)) .inr
theorem sqtKeep (h : ∀ b u, H b = some u → b ≠ d → H' b = some u) (ne : p ≠ d) (r : SqT K H p xs) : SqT K H' p xs := r.elim (fun e => .inl (rdKeep h ne e)) .inr
theorem sqlSame (h : ∀ b u, H b = some u → H' b = some u) (r : SqL K H p xs) : SqL K H' p xs := r.elim (fun e => .inl (e.elim (fun e => .inl (h _ _ e)) fun ⟨o, e⟩ => .inr ⟨o, h _ _ e⟩)) .inr
theorem sqtSame (h : ∀ b u, H b = some u → H' b = some u) (r : SqT K H p xs) : SqT K H' p xs := r.elim (fun e => .inl (e.elim (fun e => .inl (h _ _ e)) fun ⟨o, e⟩ => .inr ⟨o, h _ _ e⟩)) .inr
theorem atI_lt {α : Type} {xs : List α} {i : Int} (h0 : 0 ≤ i) (h : i < xs.length) : ∃ v, v ∈ xs ∧ atI xs i = some v := by
  obtain ⟨j, rfl⟩ := Int.eq_ofNat_of_zero_le h0
  have hj : j < xs.length := by omega
  exact ⟨xs[j], List.getElem_mem hj, atI_nat (by simp [hj])⟩
/-- what is picked from: a text's signs, or the items of a list or tuple -/
def PickOf (K : PySem.W.Frag) (H : Hp) (d : Addr) (x : V) (L : List V) : Prop :=
  (∃ z, x = .str z ∧ z.length ≤ 100000 ∧ L = z.cps.toList.map fun c => V.str ⟨#[c]⟩) ∨ ∃ p, x = .ref p ∧ p ≠ d ∧ (SqL K H p L ∨ SqT K H p L)
theorem small_ok {n : Nat} (h : n ≤ 1000000) : n ≤ sizeLine := by have := sizeLine_eq; omega
theorem small_lt {n : Nat} (h : n ≤ 1000000) : n < sizeLine := by have := sizeLine_eq; omega
end
end U
namespace U
open PySem PySem.Spec PyProof.Rows L2
def kinds : List String := ["NoneType", "bool", "int", "str", "list", "tuple", "dict"]
/-- a value of a built-in kind -/
def Kd (K : PySem.W.Frag) (H : Hp) (v : V) (T : String) : Prop := TyX K H v (.type T) ∧ T ∈ kinds
theorem kd_int {T : String} (h : T ∈ kinds) : kitB T "int" = some (T == "int" || T == "bool") := by
  have e : (kinds.all fun T => decide (kitB T "int" = some (T == "int" || T == "bool"))) = true := by decide +kernel
  exact of_decide_eq_true (List.all_eq_true.mp e T h)
theorem kd_bool {T : String} (h : T ∈ kinds) : kitB T "bool" = some (T == "bool") := by
  have e : (kinds.all fun T => decide (kitB T "bool" = some (T == "bool"))) = true := by decide +kernel
  exact of_decide_eq_true (List.all_eq_true.mp e T h)
theorem kd_str {T : String} (h : T ∈ kinds) : kitB T "str" = some (T == "str") := by
  have e : (kinds.all fun T => decide (kitB T "str" = some (T == "str"))) = true := by decide +kernel
  exact of_decide_eq_true (List.all_eq_true.mp e T h)
theorem kd_tuple {T : String} (h : T ∈ kinds) : kitB T "tuple" = some (T == "tuple") := by
  have e : (kinds.all fun T => decide (kitB T "tuple" = some (T == "tuple"))) = true := by decide +kernel
  exact of_decide_eq_true (List.all_eq_true.mp e T h)
theorem kd_dict {T : String} (h : T ∈ kinds) : kitB T "dict" = some (T == "dict") := by
  have e : (kinds.all fun T => decide (kitB T "dict" = some (T == "dict"))) = true := by decide +kernel
  exact of_decide_eq_true (List.all_eq_true.mp e T h)
section
variable {K : PySem.W.Frag} {H : Hp} {v : V} {T : String}
theorem ty_of {t : Value} (h : TyX K H v t) : (t = .type "int" → ∃ i, v = .int i) ∧ (t = .type "bool" → ∃ i, v = .bl i) ∧ (t = .type "str" → ∃ i, v = .str i) := by
  cases h with
  | base b => cases b <;> simp
  | _ => simp
theorem ty_to {t : Value} (h : TyX K H v t) : (∀ i, v = .int i → t = .type "int") ∧ (∀ i, v = .bl i → t = .type "bool") ∧ (∀ i, v = .str i → t = .type "str") := by
  cases h with
  | base b => cases b <;> simp
  | _ => simp
theorem Kd.isInt (h : Kd K H v "int") : ∃ i, v = .int i := (ty_of h.1).1 rfl
theorem Kd.isBool (h : Kd K H v "bool") : ∃ i, v = .bl i := (ty_of h.1).2.1 rfl
theorem Kd.isStr (h : Kd K H v "str") : ∃ i, v = .str i := (ty_of h.1).2.2 rfl
theorem Kd.ofInt {i : Int} (h : Kd K H (.int i) T) : T = "int" := Value.type.inj ((ty_to h.1).1 i rfl)
theorem Kd.ofBool {i : Bool} (h : Kd K H (.bl i) T) : T = "bool" := Value.type.inj ((ty_to h.1).2.1 i rfl)
theorem Kd.ofStr {i : Str} (h : Kd K H (.str i) T) : T = "str" := Value.type.inj ((ty_to h.1).2.2 i rfl)
theorem Kd.int (i : Int) : Kd K H (.int i) "int" := ⟨.base (.int i), by decide⟩
theorem Kd.str (i : Str) : Kd K H (.str i) "str" := ⟨.base (.str i), by decide⟩
theorem Kd.bl (i : Bool) : Kd K H (.bl i) "bool" := ⟨.base (.bl i), by decide⟩
theorem Kd.non : Kd K H .non "NoneType" := ⟨.base .non, by decide⟩
theorem Kd.lst {a : Addr} {xs : List V} (h : H a = some (.lst xs)) : Kd K H (.ref a) "list" := ⟨.base (.lst h), by decide⟩
theorem Kd.tup {a : Addr} {xs : List V} (h : H a = some (.tup xs)) : Kd K H (.ref a) "tuple" := ⟨.base (.tup h), by decide⟩
theorem Kd.dK {a : Addr} {xs : List (Key × V)} (h : H a = some (.dK xs)) : Kd K H (.ref a) "dict" := ⟨.base (.dK h), by decide⟩
end
end U

namespace U
open PySem PySem.Spec PyProof.Rows L2
/-! ### texts as lists of signs -/
def stripL (p : Nat → Bool) (l : List Nat) : List Nat := (((l.dropWhile p).reverse.dropWhile p)).reverse
theorem drop_tw {α : Type} (p : α → Bool) (l : List α) : l.drop (l.takeWhile p).length = l.dropWhile p := by
  have h := List.takeWhile_append_dropWhile (p := p) (l := l)
  conv => lhs; rw [← h]
  rw [h]
  have e : (l.takeWhile p ++ l.dropWhile p).drop (l.takeWhile p).length = l.dropWhile p := List.drop_left
  rw [h] at e
  exact e
theorem take_tw {α : Type} (p : α → Bool) (m : List α) : m.take (m.length - (m.reverse.takeWhile p).length) = (m.reverse.dropWhile p).reverse := by
  have h := drop_tw p m.reverse
  rw [← h, List.drop_reverse, List.reverse_reverse]
theorem strip_list (p : Nat → Bool) (x : Str) : (Txt.stripBy p true true x).cps.toList = stripL p x.cps.toList := by
  rw [stripBy_eq, StrLaws.strSub_toList]
  have e1 : stripLo p true x = (x.cps.toList.takeWhile p).length := rfl
  have e2 : ∀ lo, stripHi p true x lo = x.length - ((x.cps.toList.drop lo).reverse.takeWhile p).length := fun _ => rfl
  rw [e2, e1, drop_tw]
  have el : x.length = x.cps.toList.length := by simp [Str.length]
  have hd : (x.cps.toList.dropWhile p).length = x.cps.toList.length - (x.cps.toList.takeWhile p).length := by rw [← drop_tw, List.length_drop]
  unfold stripL
  rw [← take_tw, hd, el]
  congr 1
  omega
theorem dw_nil {α : Type} {p : α → Bool} : ∀ {l : List α}, l.dropWhile p = [] ↔ ∀ c ∈ l, p c = true
  | [] => by simp
  | a :: l => by
    rw [List.dropWhile_cons]
    by_cases h : p a = true
    · rw [if_pos h, dw_nil]
      simp [h]
    · rw [if_neg h]
      simp [h]
theorem stripL_nil {p : Nat → Bool} {l : List Nat} : stripL p l = [] ↔ ∀ c ∈ l, p c = true := by
  unfold stripL
  rw [List.reverse_eq_nil_iff, dw_nil]
  constructor
  · intro h c hc
    by_cases hp : p c = true
    · exact hp
    · have hm : c ∈ l.dropWhile p := by
        have e := List.takeWhile_append_dropWhile (p := p) (l := l)
        rw [← e] at hc
        rcases List.mem_append.mp hc with z | z
        · exact absurd (List.all_eq_true.mp List.all_takeWhile c z) hp
        · exact z
      exact h c (List.mem_reverse.mpr hm)
  · intro h c hc
    exact h c ((List.dropWhile_sublist p).subset (List.mem_reverse.mp hc))
theorem stripL_keep {p : Nat → Bool} {l : List Nat} (h : ∀ c ∈ l, p c = false) : stripL p l = l := by
  have e : ∀ m : List Nat, (∀ c ∈ m, p c = false) → m.dropWhile p = m := fun m hm => by
    cases m with
    | nil => rfl
    | cons a m => rw [List.dropWhile_cons, if_neg (by rw [hm a (List.mem_cons_self ..)]; decide)]
  unfold stripL
  rw [e l h, e _ (fun c hc => h c (List.mem_reverse.mp hc)), List.reverse_reverse]
theorem str_nil {x : Str} : x = Str.ofString "" ↔ x.cps.toList = [] := by
  constructor
  · intro h; rw [h]; rfl
  · intro h
    have : x.cps = #[] := by
      apply Array.ext'
      rw [h]
    cases x
    simp only at this
    rw [this]; rfl
/-! ### digits -/
theorem digits_are (m : Nat) : ∀ c ∈ (Nat.toDigits 10 m).map Char.toNat, 48 ≤ c ∧ c ≤ 57 := by
  intro c hc
  obtain ⟨ch, hch, e⟩ := List.mem_map.mp hc
  have r := PyProof.Rows.digit_range (Nat.isDigit_of_mem_toDigits (by decide) (by decide) hch)
  rw [← e]
  exact r
theorem num_list (n : Int) : (Str.ofString (toString n)).cps.toList = (if n < 0 then [45] else []) ++ (Nat.toDigits 10 n.natAbs).map Char.toNat := by
  cases n with
  | ofNat m =>
    rw [if_neg (by simp)]
    exact PySem.W.KIN.signs_num m
  | negSucc m =>
    rw [if_pos (by omega)]
    have e : toString (Int.negSucc m) = "-" ++ toString ((m + 1 : Nat) : Int) := rfl
    rw [e]
    have h2 := PySem.W.KIN.signs_num (m + 1)
    rw [PyProof.Rows.signs_ofString] at h2 ⊢
    rw [String.toList_append, List.map_append, h2]
    rfl
/-- the length of an integer's text without its sign -/
theorem let_len (n : Int) : (Txt.stripChars (Str.ofString (toString n)) (Str.ofString "-")).length < 61 ↔ n.natAbs < 10 ^ 60 := by
  have el : ∀ x : Str, x.length = x.cps.toList.length := fun x => by simp [Str.length]
  rw [el]
  unfold Txt.stripChars
  rw [strip_list, num_list]
  have hp : ∀ c, (Str.ofString "-").cps.contains c = decide (c = 45) := fun c => by
    show (#[45] : Array Nat).contains c = _
    simp [eq_comm]
  have hk : stripL (fun c => (Str.ofString "-").cps.contains c) ((if n < 0 then [45] else []) ++ (Nat.toDigits 10 n.natAbs).map Char.toNat) = (Nat.toDigits 10 n.natAbs).map Char.toNat := by
    have hd : ∀ c ∈ (Nat.toDigits 10 n.natAbs).map Char.toNat, (Str.ofString "-").cps.contains c = false := fun c hc => by
      have := digits_are _ c hc
      rw [hp]
      exact decide_eq_false (by omega)
    by_cases h : n < 0
    · rw [if_pos h]
      have e : stripL (fun c => (Str.ofString "-").cps.contains c) ([45] ++ (Nat.toDigits 10 n.natAbs).map Char.toNat) = stripL (fun c => (Str.ofString "-").cps.contains c) ((Nat.toDigits 10 n.natAbs).map Char.toNat) := by
        unfold stripL
        rw [List.singleton_append, List.dropWhile_cons, if_pos (by rw [hp]; rfl)]
      rw [e, stripL_keep hd]
    · rw [if_neg h, List.nil_append, stripL_keep hd]
  have hk' : stripL (Str.ofString "-").cps.contains ((if n < 0 then [45] else []) ++ (Nat.toDigits 10 n.natAbs).map Char.toNat) = _ := hk
  rw [hk', List.length_map]
  have := Nat.length_toDigits_le_iff (b := 10) (n := n.natAbs) (k := 60) (by decide) (by decide)
  omega
theorem num_fits {n : Int} (h : n.natAbs < 2 ^ 1900) : n.natAbs.log2 < 1920 := Nat.lt_of_lt_of_le (PySem.Flt.log2_lt_of (by decide) h) (by decide)
theorem num_len {n : Int} (h : n.natAbs < 2 ^ 1900) : (Str.ofString (toString n)).length ≤ sizeLine := int_text_fits (num_fits h)
end U
namespace U
open PySem PySem.Spec PyProof.Rows L2
section
variable {H0 H H' : Hp} {D : List Addr} {F M M' : List (Addr × HO)}
theorem At.lessM (L : At H0 D F M H) (h : List.Sublist M' M) : At H0 D F M' H := ⟨L.fr, L.fa, fun q hq => L.mu q (h.subset hq), fun q hq => L.mf q (h.subset hq), fun q hq => L.df q (h.subset hq), L.nd.sublist (h.map _)⟩
/-- the second of M changes -/
theorem At.set2 {a b : Addr} {o u v : HO} (L : At H0 D F ((b, v) :: (a, o) :: M) H) (h1 : ∀ c w, H c = some w → c ≠ a → H' c = some w) (h2 : H' a = some u) : At H0 D F ((b, v) :: (a, u) :: M) H' := (L.swap.set h1 h2).swap
end
theorem mul_len (x : Str) (n : Int) (h0 : 0 ≤ n) : (Txt.mul x n).length = n.toNat * x.length := by
  have el : ∀ y : Str, y.length = y.cps.toList.length := fun y => by simp [Str.length]
  rw [el, mul_list x n h0, List.length_flatten, List.map_replicate, List.sum_replicate_nat, el]
end U
namespace U
open PySem PySem.Spec PyProof.Rows L2
theorem At.fresh {H H' : Hp} {p : Addr} {o : HO} (s : ∀ b u, H b = some u → H' b = some u) (h : H p = none) (h' : H' p = some o) : At H [] [] [(p, o)] H' := ⟨fun b u e _ => s b u e, fun _ z => absurd z List.not_mem_nil, fun q hq => by
  obtain rfl := List.mem_singleton.mp hq
  exact h', fun q hq => by
  obtain rfl := List.mem_singleton.mp hq
  exact .inr h, fun _ _ _ z => absurd z List.not_mem_nil, by simp⟩
theorem no_dead {H' : Hp} : ∀ e ∈ ([] : List Addr), ∃ u, H' e = some u := fun _ h => absurd h List.not_mem_nil
theorem At.all {H H' : Hp} {F M : List (Addr × HO)} (L : At H [] F M H') : ∀ b u, H b = some u → H' b = some u := fun b u e => L.fr b u e List.not_mem_nil
end U

/-! U6: own classes: operators, comparisons, str, isinstance. -/
namespace U
open PySem PySem.Spec PyProof.Rows L2
/-- a heap that has grown -/
abbrev Gr (H H' : Hp) : Prop := ∀ b u, H b = some u → H' b = some u
theorem Gr.rfl' {H : Hp} : Gr H H := fun _ _ e => e
theorem Gr.up {H H' : Hp} {p : Addr} {o : HO} (g : Gr H H') (h : H' p = none) : Gr H (upd H' p o) := fun b u e => by rw [upd_ne (ne_of_none (g b u e) h)]; exact g b u e
theorem Gr.trans {H H1 H2 : Hp} (a : Gr H H1) (b : Gr H1 H2) : Gr H H2 := fun c o e => b c o (a c o e)
/-- what is asked of an own class whose instances have a dict -/
structure OwnC (K : PySem.W.Frag) (C : Addr) : Prop where
  cl : Cls K C
  sf : PySem.W.selfFirst K C = true
  ha : PySem.W.findIn K (.ref C) "__class__" = some (some (.builtin "object.__class__"))
  hn : PySem.W.specialIn K (.builtin "object.__class__") "__get__" = some (some (.builtin "getset_descriptor.__get__"))
  htk : PySem.W.takesIn K (.builtin "object.__class__") = some true
  hm : PySem.W.mroIn K C (.type "object") = some true
  tyC : PySem.W.typeIn K (.ref C) = some (.type "type")
theorem mro_no (C : Addr) {T : String} (h : T ∈ kinds) : (PySem.fastBuiltinMro T).map (·.contains (.ref C)) = some false := by
  unfold kinds at h
  simp only [List.mem_cons, List.not_mem_nil, or_false] at h
  rcases h with rfl | rfl | rfl | rfl | rfl | rfl | rfl <;> rfl
section
variable {K : PySem.W.Frag} {C a dx : Addr} {fs : List (Str × V)} {H : Hp} {Q : VK} {v : V} {T : String}
theorem OwnC.ty (o : OwnC K C) (e : H a = some (.ins C dx fs)) : TyX K H (.ref a) (.ref C) := .base (.ins e o.cl o.ha o.hn o.htk o.hm)
theorem OwnC.isi (o : OwnC K C) (e : H a = some (.ins C dx fs)) (q : Q (.bl true) H) : rIsi K [.ref a, .ref C] H Q := ⟨_, _, .ref C, .ref C, true, rfl, .own C, o.ty e, by unfold PySem.W.kitOne; rw [if_pos (beq_self_eq_true _)], q⟩
theorem OwnC.no (o : OwnC K C) (h : T ∈ kinds) : PySem.W.kitOne K (.type T) (.ref C) = some false := by
  have hc : (PySem.W.clsIn K C).isSome = true := by
    obtain ⟨cd, hc, _⟩ := PySem.W.any_some o.cl.hd
    rw [hc]
    rfl
  unfold PySem.W.kitOne
  rw [if_neg (by intro z; cases z)]
  show (if ((PySem.W.clsIn K C).isSome && PySem.W.typeIn K (.ref C) == some (.type "type")) = true then PySem.W.subIn K (.type T) (.ref C) else none) = _
  rw [if_pos (by rw [hc, o.tyC]; rfl)]
  exact mro_no C h
theorem OwnC.isn (o : OwnC K C) (k : Kd K H v T) (q : Q (.bl false) H) : rIsi K [v, .ref C] H Q := ⟨_, _, .type T, .ref C, false, rfl, .own C, k.1, o.no k.2, q⟩
end
/-- two instances of C handed to an own method -/
def uOwn (C : Addr) (sp : Sp) (E : XK) : R2 := fun x y H Q => match x, y with
  | .ref a, .ref b => ∃ dx dy fs gs, H a = some (.ins C dx fs) ∧ H b = some (.ins C dy gs) ∧ sp [.ref a, .ref b] H Q E
  | _, _ => False
def uOwn1 (C : Addr) (sp : Sp) (E : XK) : V → Hp → VK → Prop := fun x H Q => match x with
  | .ref a => ∃ dx fs, H a = some (.ins C dx fs) ∧ sp [.ref a] H Q E
  | _ => False
section
variable {X : Cx} {CX : CXT} {n : Nat} {C f : Addr} {fd : FuncData} {ps : List Str} {sp : Sp} {E : XK} {nm : Str}
theorem run_here {A : Around} {pins : List (Addr × Obj)} {σ : L2.St} {H : Hp} {s : Shared} {Q : VK} {us : List Value} {vs : List V} (F : FnOk X.prog X.w X.K X.mg X.base CX n f fd ps sp) (hr : Room n A) (hfr : A.frames = X.A.frames) (hb : Binds X.K fd ps [])
    (hx : Passes CX X E) (I : Inv X pins σ H s) (r : Vals vs us) (h : sp vs H Q E) : wpAny (model X.prog X.w) A (call (.ref f) us) (EP X pins σ Q) X.xe s := by
  have e0 : Env0 X.prog X.w X.K X.mg X.base A X.stack s H := by
    have e := I.env0
    exact ⟨by rw [hfr]; exact e.frames, e.mod, e.bs, e.bsz, e.funs, e.frf, e.hok, e.bare⟩
  have hl := F.len _ _ _ _ h
  have hb' := hb s us I.kIn (by rw [List.append_nil, ← r.length]; exact hl)
  rw [List.append_nil] at hb'
  refine wpAny_call (codeAny_mono (F.run A X.stack s H ⟨us, []⟩ us vs Q E hr e0 hb' r h) fun r s' hq => ?_)
  cases r with
  | error e => exact hx pins σ H s e s' I hq
  | ok fl =>
    cases fl with
    | ret u => exact I.after hq
    | next => exact False.elim hq
    | brk => exact False.elim hq
    | cont => exact False.elim hq
theorem no_ni {pins : List (Addr × Obj)} {σ : L2.St} {Q : VK} {v : Value} {s' : Shared} (h : EP X pins σ Q v s') : PySem.W.CmpBack (EP X pins σ Q) v s' := by
  obtain ⟨x, H', I, r, q⟩ := h
  cases v with
  | notImplemented => cases x <;> first | (cases r; done) | (obtain ⟨_, r⟩ := r; cases r)
  | _ => exact ⟨x, H', I, r, q⟩
/-- x op y by x's own method -/
theorem opBin {op : Operator} (he : PySem.dunder op.info.2 = nm) (o : OwnC X.K C) (m : Meth X.K C nm f) (F : FnOk X.prog X.w X.K X.mg X.base CX n f fd ps sp) (hr : Room n X.A) (hb : Binds X.K fd ps []) (hx : Passes CX X E) : OpR X (binaryOp op) (uOwn C sp E) := by
  intro pins s σ H x y v u Q I rx ry h
  unfold uOwn at h
  split at h
  · rename_i a b
    obtain ⟨dx, dy, fs, gs, ha, hb', hs⟩ := h
    cases rx; cases ry
    obtain ⟨mA, J, _⟩ := ins_get I.hok ha
    obtain ⟨mB, J', _⟩ := ins_get I.hok hb'
    obtain ⟨od, J, _⟩ := J.look
    obtain ⟨od', J', _⟩ := J'.look
    obtain ⟨m', hF⟩ := I.fr
    refine PySem.W.binop_K (op := op) hF I.ok.mod.kin J J'.type o.sf (by rw [he]; exact m.at_) m.fn ?_
    exact wpAny_mono (run_here F hr rfl hb hx I (show Vals [V.ref a, V.ref b] [Value.ref a, Value.ref b] from .cons rfl (.cons rfl .nil)) hs) (fun _ _ q => no_ni q) fun _ _ z => z
  · exact h.elim
/-- x op y, a comparison, by x's own method -/
theorem opCmp {op : CmpOp} (he : (PySem.cmpInfo op).2.1 = nm) (hop : compareOp op = richCompare op) (m : Meth X.K C nm f) (F : FnOk X.prog X.w X.K X.mg X.base CX n f fd ps sp) (hr : Room n X.A) (hb : Binds X.K fd ps []) (hx : Passes CX X E) : OpR X (compareOp op) (uOwn C sp E) := by
  intro pins s σ H x y v u Q I rx ry h
  unfold uOwn at h
  split at h
  · rename_i a b
    obtain ⟨dx, dy, fs, gs, ha, hb', hs⟩ := h
    cases rx; cases ry
    obtain ⟨mA, J, _⟩ := ins_get I.hok ha
    obtain ⟨mB, J', _⟩ := ins_get I.hok hb'
    obtain ⟨od, J, _⟩ := J.look
    obtain ⟨od', J', _⟩ := J'.look
    obtain ⟨m', hF⟩ := I.fr
    rw [hop]
    refine PySem.W.cmp_K (op := op) (tb := .ref C) hr.units0 hF I.ok.mod.kin J J'.type (by simp [PySem.W.notFirst]) (by rw [he]; exact m.at_) m.fn ?_
    exact wpAny_mono (run_here F hr rfl hb hx I (show Vals [V.ref a, V.ref b] [Value.ref a, Value.ref b] from .cons rfl (.cons rfl .nil)) hs) (fun _ _ q => no_ni q) fun _ _ z => z
  · exact h.elim
/-- -x by x's own method -/
theorem unOwn (m : Meth X.K C "__neg__" f) (F : FnOk X.prog X.w X.K X.mg X.base CX n f fd ps sp) (hr : Room n X.A) (hb : Binds X.K fd ps []) (hx : Passes CX X E) : UnR X (unaryOp .USub) (uOwn1 C sp E) := by
  intro pins s σ H x v Q I rx h
  unfold uOwn1 at h
  split at h
  · rename_i a
    obtain ⟨dx, fs, ha, hs⟩ := h
    cases rx
    obtain ⟨mA, J, _⟩ := ins_get I.hok ha
    obtain ⟨od, J, _⟩ := J.look
    obtain ⟨m', hF⟩ := I.fr
    refine PySem.W.ksp_neg hF I.ok.mod.kin J m.at_ m.fn ?_
    exact run_here F hr rfl hb hx I (show Vals [V.ref a] [Value.ref a] from .cons rfl .nil) hs
  · exact h.elim
/-- str(x) by x's own method -/
def uStrO (C : Addr) (sp : Sp) (E : XK) : List V → Hp → VK → Prop := fun vs H Q => match vs with
  | [.ref a] => ∃ dx fs, H a = some (.ins C dx fs) ∧ sp [.ref a] H (fun v H' => (∃ y, v = .str y) ∧ Q v H') E
  | _ => False
theorem caStrO (m : Meth X.K C "__str__" f) (F : FnOk X.prog X.w X.K X.mg X.base CX n f fd ps sp) (hr : Room (n + 2) X.A) (hb : Binds X.K fd ps []) (hx : Passes CX X E) : CallR X (.type "str") (uStrO C sp E) := by
  intro pins s σ H xs us Q I r h
  unfold uStrO at h
  split at h
  · rename_i a
    obtain ⟨dx, fs, ha, hs⟩ := h
    obtain ⟨u, rfl, ru⟩ := vals1 r
    cases (show u = Value.ref a from ru)
    obtain ⟨mA, J, _⟩ := ins_get I.hok ha
    obtain ⟨od, J, _⟩ := J.look
    have hr2 : Room n X.A.in1.in1 := Room.in1 (Room.in1 hr)
    refine PySem.W.kso_call hr2.units0 I.kIn J m.at_ m.fn ?_
    refine wpAny_mono (run_here F hr2 rfl hb hx I (show Vals [V.ref a] [Value.ref a] from .cons rfl .nil) hs) (fun v s' q => ?_) fun _ _ z => z
    obtain ⟨x, H', I', rv, ⟨y, rfl⟩, q⟩ := q
    obtain ⟨t, rfl⟩ := (show ∃ t, v = Value.str y t from rv)
    exact ⟨.str y, H', I', ⟨t, rfl⟩, q⟩
  · exact h.elim
end
end U

/-! U7: repr of a bool, fractions. -/
namespace U
open PySem PySem.Spec PyProof.Rows L2
section
variable {X : Cx}
def bstr (k : Bool) : Str := if k then "True" else "False"
theorem bstr_inj {a b : Bool} (h : bstr a = bstr b) : a = b := by revert h; cases a <;> cases b <;> decide
def uReprB (K : PySem.W.Frag) (vs : List V) (H : Hp) (Q : VK) : Prop := match vs with
  | [.bl k] => Q (.str (bstr k)) H
  | _ => uRepr K vs H Q
theorem caReprB (hg : X.A.guards = some []) (hu : X.A.units + 70 < cLine) : CallR X (.builtin "repr") (uReprB X.K) := fun p s z H xs us Q I r h => by
  unfold uReprB at h
  split at h
  · rename_i k
    obtain ⟨u, rfl, ru⟩ := L2.vals1 r
    cases (show u = Value.bool k from ru)
    refine PySem.P.repr_of_bool ?_
    exact ⟨.str (bstr k), H, I.tok _, ⟨_, rfl⟩, h⟩
  · exact caRepr hg hu p s z H _ us Q I r h
end
/-! ### fractions -/
/-- equal fractions compare alike -/
theorem fr_lt {p q N D p' q' N' D' : Int} (h : p * D = N * q) (h' : p' * D' = N' * q') (hq : 0 < q) (hD : 0 < D) (hq' : 0 < q') (hD' : 0 < D') : p * q' < p' * q ↔ N * D' < N' * D := by
  have key : (p' * q - p * q') * (D * D') = (N' * D - N * D') * (q * q') := by grind
  have e1 : 0 < D * D' := Int.mul_pos hD hD'
  have e2 : 0 < q * q' := Int.mul_pos hq hq'
  constructor
  · intro z
    have : 0 < (p' * q - p * q') * (D * D') := Int.mul_pos (by omega) e1
    rw [key] at this
    have := Int.pos_of_mul_pos_left this e2
    omega
  · intro z
    have : 0 < (N' * D - N * D') * (q * q') := Int.mul_pos (by omega) e2
    rw [← key] at this
    have := Int.pos_of_mul_pos_left this e1
    omega
def gcdI (a b : Int) : Int := ((Nat.gcd a.natAbs b.natAbs : Nat) : Int)
theorem gcdI_pos {a b : Int} (h : 0 < b) : 0 < gcdI a b := by
  have : 0 < Nat.gcd a.natAbs b.natAbs := Nat.gcd_pos_of_pos_right _ (by omega)
  exact Int.natCast_pos.mpr this
theorem gcdI_dl (a b : Int) : gcdI a b ∣ a := by
  have := Nat.gcd_dvd_left a.natAbs b.natAbs
  exact Int.dvd_natAbs.mp (Int.natCast_dvd_natCast.mpr this)
theorem gcdI_dr (a b : Int) : gcdI a b ∣ b := by
  have := Nat.gcd_dvd_right a.natAbs b.natAbs
  exact Int.dvd_natAbs.mp (Int.natCast_dvd_natCast.mpr this)
theorem gcdI_le {a b : Int} (h : 0 < b) : gcdI a b ≤ b := Int.le_of_dvd h (gcdI_dr a b)
/-- a fraction in lowest terms -/
structure Low (p q : Int) : Prop where
  pos : 0 < q
  one : Nat.gcd p.natAbs q.natAbs = 1
theorem ediv_of {a g x : Int} (h : 0 < g) (e : a = g * x) : a / g = x := by rw [e]; exact Int.mul_ediv_cancel_left x (by omega)
/-- what is left of a fraction by its greatest common divisor -/
theorem low_of {a b : Int} (h : 0 < b) : Low (a / gcdI a b) (b / gcdI a b) ∧ (a / gcdI a b) * b = a * (b / gcdI a b) ∧ (a / gcdI a b).natAbs ≤ a.natAbs ∧ b / gcdI a b ≤ b := by
  have g := gcdI_pos (a := a) h
  obtain ⟨x, hx⟩ := gcdI_dl a b
  obtain ⟨y, hy⟩ := gcdI_dr a b
  have ex : a / gcdI a b = x := ediv_of g hx
  have ey : b / gcdI a b = y := ediv_of g hy
  have ge : gcdI a b = ((Nat.gcd a.natAbs b.natAbs : Nat) : Int) := rfl
  rw [ex, ey]
  generalize hG : gcdI a b = G at *
  have y0 : 0 < y := by
    rw [hy] at h
    exact Int.pos_of_mul_pos_right h g
  have n1 : a.natAbs = G.natAbs * x.natAbs := by rw [hx, Int.natAbs_mul]
  have n2 : b.natAbs = G.natAbs * y.natAbs := by rw [hy, Int.natAbs_mul]
  refine ⟨⟨y0, ?_⟩, by rw [hx, hy]; grind, ?_, ?_⟩
  · have e : G.natAbs = Nat.gcd a.natAbs b.natAbs := by omega
    rw [n1, n2, Nat.gcd_mul_left] at e
    have hp : 0 < G.natAbs := by omega
    have := Nat.eq_of_mul_eq_mul_left hp (show G.natAbs * Nat.gcd x.natAbs y.natAbs = G.natAbs * 1 by omega)
    exact this
  · rw [n1]
    exact Nat.le_mul_of_pos_left _ (by omega)
  · have : y * 1 ≤ y * G := Int.mul_le_mul_of_nonneg_left (by omega) (by omega)
    rw [hy]
    have e2 : G * y = y * G := Int.mul_comm _ _
    omega
/-- two fractions in lowest terms are equal exactly if top and bottom are -/
theorem Low.inj {p q p' q' : Int} (h : Low p q) (h' : Low p' q') (e : p * q' = p' * q) : p = p' ∧ q = q' := by
  have hq := h.pos
  have hq' := h'.pos
  have n : p.natAbs * q'.natAbs = p'.natAbs * q.natAbs := by rw [← Int.natAbs_mul, ← Int.natAbs_mul, e]
  have d1 : q.natAbs ∣ q'.natAbs := by
    refine Nat.Coprime.dvd_of_dvd_mul_left (Nat.coprime_comm.mp h.one) ?_
    exact ⟨p'.natAbs, by rw [n]; exact Nat.mul_comm _ _⟩
  have d2 : q'.natAbs ∣ q.natAbs := by
    refine Nat.Coprime.dvd_of_dvd_mul_left (Nat.coprime_comm.mp h'.one) ?_
    exact ⟨p.natAbs, by rw [← n]; exact Nat.mul_comm _ _⟩
  have e3 := Nat.dvd_antisymm d1 d2
  have e4 : q = q' := by omega
  subst e4
  exact ⟨Int.eq_of_mul_eq_mul_right (by omega) e, rfl⟩
/-- a fraction in lowest terms stays as it is -/
theorem Low.same {p q : Int} (h : Low p q) : p / gcdI p q = p ∧ q / gcdI p q = q := by
  have : gcdI p q = 1 := by unfold gcdI; rw [h.one]; rfl
  rw [this]
  exact ⟨Int.ediv_one p, Int.ediv_one q⟩
/-- less, of fractions with positive bottoms, goes on -/
theorem fr_trans {p q p' q' p'' q'' : Int} (h : 0 < q) (h' : 0 < q') (h'' : 0 < q'') (a : p * q' < p' * q) (b : p' * q'' < p'' * q') : p * q'' < p'' * q := by
  have e1 : 0 < (p' * q - p * q') * q'' := Int.mul_pos (by omega) h''
  have e2 : 0 < (p'' * q' - p' * q'') * q := Int.mul_pos (by omega) h
  have e3 : (p'' * q - p * q'') * q' = (p' * q - p * q') * q'' + (p'' * q' - p' * q'') * q := by grind
  have : 0 < (p'' * q - p * q'') * q' := by omega
  have := Int.pos_of_mul_pos_left this h'
  omega
end U

/-! U8: ratios as they stand in the heap. -/
namespace U
open PySem PySem.Spec PyProof.Rows L2
def rf (p q : Int) : List (Str × V) := [("_top", .int p), ("_bottom", .int q)]
theorem tb_ : ¬ (("_top" : Str) = "_bottom") := by decide +kernel
theorem bt_ : ¬ (("_bottom" : Str) = "_top") := by decide +kernel
theorem rf_mk (p q : Int) : putF "_bottom" (.int q) (putF "_top" (.int p) []) = rf p q := by
  show (if ("_top" : Str) = "_bottom" then [(("_top" : Str), V.int q)] else (("_top" : Str), V.int p) :: putF "_bottom" (V.int q) []) = _
  rw [if_neg tb_]
  rfl
theorem rf_top (p q t : Int) : putF "_top" (.int t) (rf p q) = rf t q := by
  show (if ("_top" : Str) = "_top" then (("_top" : Str), V.int t) :: [(("_bottom" : Str), V.int q)] else _) = _
  rw [if_pos rfl]
  rfl
theorem rf_bot (p q t : Int) : putF "_bottom" (.int t) (rf p q) = rf p t := by
  show (if ("_top" : Str) = "_bottom" then _ else (("_top" : Str), V.int p) :: (if ("_bottom" : Str) = "_bottom" then [(("_bottom" : Str), V.int t)] else _)) = _
  rw [if_neg tb_, if_pos rfl]
  rfl
theorem rf_lt (p q : Int) : (rf p q).lookup ("_top" : Str) = some (.int p) := by
  unfold rf
  rw [List.lookup_cons_self]
theorem rf_lb (p q : Int) : (rf p q).lookup ("_bottom" : Str) = some (.int q) := by
  unfold rf
  rw [List.lookup_cons, show (("_bottom" : Str) == "_top") = false by decide +kernel]
  simp only [List.lookup_cons_self]
theorem rf_no (p q : Int) {m : Str} (h1 : (m == "_top") = false) (h2 : (m == "_bottom") = false) : (rf p q).lookup m = none := by
  unfold rf
  rw [List.lookup_cons, h1]
  simp only
  rw [List.lookup_cons, h2]
  rfl
theorem own_self {K : PySem.W.Frag} {C : Addr} : PySem.W.kitOne K (.ref C) (.ref C) = some true := by unfold PySem.W.kitOne; rw [if_pos (beq_self_eq_true _)]
/-- v is a ratio with this top and bottom -/
def IsR (C : Addr) (H : Hp) (v : V) (p q : Int) : Prop := ∃ a dx, v = .ref a ∧ H a = some (.ins C dx (rf p q))
theorem IsR.up {C : Addr} {H H' : Hp} {v : V} {p q : Int} (r : IsR C H v p q) (g : Gr H H') : IsR C H' v p q := let ⟨a, dx, e, h⟩ := r; ⟨a, dx, e, g _ _ h⟩
theorem mul_lt {a b : Int} (m n : Nat) (ha : a.natAbs < 2 ^ m) (hb : b.natAbs < 2 ^ n) : (a * b).natAbs < 2 ^ (m + n) := by
  rw [Int.natAbs_mul, Nat.pow_add]
  exact Nat.mul_lt_mul'' ha hb
theorem pos_abs {q : Int} (h : 0 < q) : ((q.natAbs : Nat) : Int) = q := by omega
/-- v is a new tuple of two integers -/
def TupAt (H : Hp) (v : V) (p q : Int) : Prop := ∃ x, v = .ref x ∧ H x = some (.tup [.int p, .int q])
theorem TupAt.up {H H' : Hp} {v : V} {p q : Int} (r : TupAt H v p q) (g : Gr H H') : TupAt H' v p q := let ⟨a, e, h⟩ := r; ⟨a, e, g _ _ h⟩
theorem TupAt.keep {H H' : Hp} {v : V} {p q : Int} {d : Addr} {l : List V} (r : TupAt H v p q) (s : ∀ b u, H b = some u → b ≠ d → H' b = some u) (hd : H d = some (.lst l)) : TupAt H' v p q := let ⟨a, e, h⟩ := r; ⟨a, e, s _ _ h (fun z => by rw [z, hd] at h; cases h)⟩
theorem IsR.keep {C : Addr} {H H' : Hp} {v : V} {p q : Int} {d : Addr} {l : List V} (r : IsR C H v p q) (s : ∀ b u, H b = some u → b ≠ d → H' b = some u) (hd : H d = some (.lst l)) : IsR C H' v p q := let ⟨a, dx, e, h⟩ := r; ⟨a, dx, e, s _ _ h (fun z => by rw [z, hd] at h; cases h)⟩
def pd (p q : Int) : PyData := .tuple [.int p, .int q]
def pds (l : List (Int × Int)) : List PyData := l.map fun z => pd z.1 z.2
theorem shaped_pd (p q : Int) : SeqAt.shaped (pd p q) = true := rfl
theorem lay_pds : ∀ l, PyData.canLayAll0 (pds l) = true
  | [] => rfl
  | (p, q) :: r => by
    show (PyData.canLay0 (pd p q) && PyData.canLayAll0 (pds r)) = true
    rw [lay_pds r]
    rfl
theorem depth_pds : ∀ l, PyData.depthAll (pds l) ≤ 1
  | [] => by decide
  | (p, q) :: r => by
    show max (PyData.depth (pd p q)) (PyData.depthAll (pds r)) ≤ 1
    have := depth_pds r
    have e : PyData.depth (pd p q) = 1 := rfl
    omega
theorem shaped_pds (l : List (Int × Int)) : SeqAt.shaped (.list (pds l)) = true := by
  show (PyData.canLayAll0 (pds l) && decide (PyData.depthAll (pds l) + 1 ≤ 64)) = true
  rw [lay_pds, decide_eq_true (by have := depth_pds l; omega)]
  rfl
theorem eqv_pd (p q r s : Int) : PyData.eqv (pd p q) (pd r s) = decide (p = r ∧ q = s) := by
  show (p == r && (q == s && true)) = _
  rw [Bool.and_true, Bool.eq_iff_iff]
  simp
theorem in_pds {p q : Int} {l : List (Int × Int)} (h : (p, q) ∈ l) : ((pds l).any fun z => PyData.eqv z (pd p q)) = true := by
  rw [List.any_eq_true]
  exact ⟨pd p q, List.mem_map.mpr ⟨(p, q), h, rfl⟩, by rw [eqv_pd]; simp⟩
theorem TupAt.dp {K : PySem.W.Frag} {H : Hp} {v : V} {p q : Int} (h : TupAt H v p q) : Dp K H v (pd p q) := by
  obtain ⟨x, rfl, e⟩ := h
  exact .tup (SqT.of e) (.cons (.int _) (.cons (.int _) .nil))
theorem dp_pairs {K : PySem.W.Frag} {H : Hp} : ∀ {xs : List V}, (∀ v ∈ xs, ∃ p q, TupAt H v p q) → ∃ l : List (Int × Int), DpAll K H xs (pds l) ∧ ∀ v ∈ xs, ∀ p q, TupAt H v p q → (p, q) ∈ l
  | [], _ => ⟨[], .nil, fun _ h => absurd h List.not_mem_nil⟩
  | v :: r, h => by
    obtain ⟨l, hl, hm⟩ := dp_pairs (K := K) (xs := r) fun w hw => h w (List.mem_cons_of_mem _ hw)
    obtain ⟨p, q, t⟩ := h v (List.mem_cons_self ..)
    refine ⟨(p, q) :: l, .cons t.dp hl, fun w hw p' q' t' => ?_⟩
    rcases List.mem_cons.mp hw with rfl | hw
    · obtain ⟨x, rfl, e⟩ := t
      obtain ⟨y, z, e'⟩ := t'
      cases z
      rw [e] at e'
      cases e'
      exact List.mem_cons_self ..
    · exact List.mem_cons_of_mem _ (hm w hw p' q' t')
theorem hu65 {k : Nat} {A : Around} (h : Room k A) : A.units + 65 < cLine := by have := h.un; omega
end U

/-! U9: own == and != with any second operand, an own truth value. -/
namespace NeW
open PySem PySem.Spec PySem.Calls PyProof.Rows PySem.W Builtin
section
variable {prog : Program} {w : World} {A : Around} {E : Value → Shared → Prop} {s : Shared} {K : Frag} {x C f L : Addr} {h₀ : Heap} {m : Str → Option Value} {ox : Obj} {od : Option Obj} {b tb : Value}
theorem ifBound_B {M : Model} {args : List Value} {name : Str} {id : String} {Q : Option Value → Shared → Prop} (X : K.In s.heap) (I : InstAt s.heap x ox C od) (hs : findIn K (.ref C) name = some (some (.builtin id)))
    (hb : ∀ self, bindSpecial (.builtin id) self = pure (.builtin id, [self])) (h : wpAny M A (call (.builtin id) (.ref x :: args)) (fun v => Q (some v)) E s) : wpAny M A (callSpecialIfBound? (.ref x) name args) Q E s := by
  simp only [callSpecialIfBound?, bindSpecialIfBound?]
  refine wpAny_holding (wpAny_bind (wpAny_bind (wpAny_bind (I.type.here ((looks_findIn X hs).here ?_)))))
  refine wpAny_bind (wpAny_askSetting (wpAny_ite ?_))
  have fin : wpAny M A (call (.builtin id) ([.ref x] ++ args) >>= fun v => pure (some v)) Q E s := wpAny_bind (wpAny_mono h (fun v s' h' => wpAny_pure h') fun _ _ h' => h')
  split
  · exact wpAny_bind ((Looks.of_pure (hb _)).here (wpAny_pure (by exact fin)))
  · exact wpAny_tryCatch (wpAny_bind ((Looks.of_pure (hb _)).here (wpAny_pure (by exact fin))))
theorem one_ne {Q : Value → Shared → Prop} (hu : A.in1.units < cLine) (X : K.In s.heap) (I : InstAt s.heap x ox C od) (hn : findIn K (.ref C) "__ne__" = some (some (.builtin "object.__ne__"))) (hm : mroIn K C (.type "object") = some true)
    (hs : findIn K (.ref C) "__eq__" = some (some (.ref f))) (hf : isFn K (.ref f) = true)
    (h : wpAny (model prog w) A.in1 (call (.ref f) [.ref x, b]) (fun v s' => ∃ k, v = .bool k ∧ Q (.bool (!k)) s') E s) : wpAny (model prog w) A (tryCompare (.ref x) "__ne__" b) (fun r s' => ∃ v, r = some v ∧ Q v s') E s := by
  unfold tryCompare
  refine wpAny_bind (ifBound_B X I hn PySem.F.slot_object_ne.bind ?_)
  refine wpAny_call (codeAny_call_builtin PySem.F.slot_object_ne.plain PySem.F.cmpEntry_ne (PySem.W.check_slot (i := "object.__ne__") (owner := "object") (n := "__ne__") PySem.F.cmpKind_ne PySem.F.cmpSplit_ne (I.type.andThen (looks_mroIn X hm)) (PySem.F.cmpArgs_ne _ _) ?_))
  unfold Builtin.«object.__ne__»
  refine wpAny_bind (m := slotArgs "__ne__" 1 _) (wpAny_pure ?_)
  refine wpAny_bind (m := cRoomFor _ _) (wpAny_cRoomFor hu ?_)
  refine wpAny_bind (m := callSpecialIfBound? (.ref x) (Str.ofString "__eq__") _) (ifBound_K X I hs hf (wpAny_mono h (fun r s' hr => ?_) fun _ _ y => y))
  obtain ⟨k, rfl, q⟩ := hr
  refine wpAny_bind (m := truthy (.bool k)) (wpAny_truthy_bool ?_)
  first
    | exact wpAny_pure ⟨_, rfl, q⟩
    | exact wpAny_pure (wpAny_pure ⟨_, rfl, q⟩)
theorem ne_K {Q : Value → Shared → Prop} (hu : A.in1.units < cLine) (hu0 : A.units < cLine) (X : K.In s.heap) (I : InstAt s.heap x ox C od) (hb : Looks (model prog w) s.heap (typeOf b) tb) (hnf : notFirst K C tb = true) (hn : findIn K (.ref C) "__ne__" = some (some (.builtin "object.__ne__"))) (hm : mroIn K C (.type "object") = some true)
    (hs : findIn K (.ref C) "__eq__" = some (some (.ref f))) (hf : isFn K (.ref f) = true)
    (h : wpAny (model prog w) A.in1 (call (.ref f) [.ref x, b]) (fun v s' => ∃ k, v = .bool k ∧ Q (.bool (!k)) s') E s) : wpAny (model prog w) A (richCompare .NotEq (.ref x) b) Q E s := by
  have one := one_ne hu X I hn hm hs hf h
  unfold richCompare
  simp only [oneThing_ref]
  refine wpAny_holding (wpAny_bind (wpAny_cRoomFor hu0 ?_))
  rw [PySem.cmpInfo_NotEq]
  dsimp only
  refine wpAny_bind (I.type.here (wpAny_bind (hb.here ?_)))
  split
  · rename_i q
    have e : subIn K tb (.ref C) = some false := by
      rcases Bool.or_eq_true_iff.mp hnf with e | e
      · rw [beq_iff_eq.mp e] at q; simp at q
      · exact beq_iff_eq.mp e
    refine wpAny_bind ((looks_subIn X e).here ?_)
    simp only [Bool.false_eq_true, if_false]
    refine wpAny_bind (wpAny_mono one (fun r s' z => ?_) fun _ _ e => e)
    obtain ⟨v, rfl, hq⟩ := z
    exact wpAny_pure hq
  · refine wpAny_bind (wpAny_pure ?_)
    simp only [Bool.false_eq_true, if_false]
    refine wpAny_bind (wpAny_mono one (fun r s' z => ?_) fun _ _ e => e)
    obtain ⟨v, rfl, hq⟩ := z
    exact wpAny_pure hq
end
end NeW
namespace U
open PySem PySem.Spec PyProof.Rows L2
/-- what is asked of a class without an own != -/
def NoNe (K : PySem.W.Frag) (C : Addr) : Prop := PySem.W.findIn K (.ref C) "__ne__" = some (some (.builtin "object.__ne__"))
/-- the second operand of an own comparison: an instance of the class, or a value of a built-in kind -/
def Snd (K : PySem.W.Frag) (C : Addr) (H : Hp) (y : V) : Prop := (∃ b dx fs, y = .ref b ∧ H b = some (.ins C dx fs)) ∨ ∃ S, Kd K H y S
/-- an instance of C and any second operand handed to an own method -/
def uOwnX (K : PySem.W.Frag) (C : Addr) (sp : Sp) (E : XK) : R2 := fun x y H Q => match x with
  | .ref a => ∃ dx fs, H a = some (.ins C dx fs) ∧ Snd K C H y ∧ sp [.ref a, y] H Q E
  | _ => False
section
variable {X : Cx} {CX : CXT} {n : Nat} {C f : Addr} {fd : FuncData} {ps : List Str} {sp : Sp} {E : XK} {nm : Str}
theorem not_first {K : PySem.W.Frag} {T : String} (h : T ∈ kinds) : PySem.W.notFirst K C (.type T) = true := by
  unfold PySem.W.notFirst
  have : PySem.W.subIn K (.type T) (.ref C) = some false := mro_no C h
  rw [this]
  simp
theorem snd_ty {pins : List (Addr × Obj)} {σ : L2.St} {H : Hp} {s : Shared} {y : V} {u : Value} (I : Inv X pins σ H s) (ry : L2.RelV y u) (h : Snd X.K C H y) : ∃ tb, PySem.W.Looks (model X.prog X.w) s.heap (typeOf u) tb ∧ PySem.W.notFirst X.K C tb = true := by
  rcases h with ⟨b, dx, fs, rfl, hb⟩ | ⟨S, hk⟩
  · cases ry
    obtain ⟨mB, J', _⟩ := ins_get I.hok hb
    obtain ⟨od', J', _⟩ := J'.look
    exact ⟨_, J'.type, by simp [PySem.W.notFirst]⟩
  · obtain ⟨P, Z, hp, _⟩ := kit_of I ry hk.1
    exact ⟨_, Z.ty _ _ I.kIn hp, not_first hk.2⟩
theorem opCmpX {op : CmpOp} (he : (PySem.cmpInfo op).2.1 = nm) (hop : compareOp op = richCompare op) (m : Meth X.K C nm f) (F : FnOk X.prog X.w X.K X.mg X.base CX n f fd ps sp) (hr : Room n X.A) (hb : Binds X.K fd ps []) (hx : Passes CX X E) : OpR X (compareOp op) (uOwnX X.K C sp E) := by
  intro pins s σ H x y v u Q I rx ry h
  unfold uOwnX at h
  split at h
  · rename_i a
    obtain ⟨dx, fs, ha, hy, hs⟩ := h
    cases rx
    obtain ⟨mA, J, _⟩ := ins_get I.hok ha
    obtain ⟨od, J, _⟩ := J.look
    obtain ⟨m', hF⟩ := I.fr
    obtain ⟨tb, lt, hnf⟩ := snd_ty I ry hy
    rw [hop]
    refine PySem.W.cmp_K (op := op) (tb := tb) hr.units0 hF I.ok.mod.kin J lt hnf (by rw [he]; exact m.at_) m.fn ?_
    exact wpAny_mono (run_here F hr rfl hb hx I (show Vals [V.ref a, y] [Value.ref a, u] from .cons rfl (.cons ry .nil)) hs) (fun _ _ q => no_ni q) fun _ _ z => z
  · exact h.elim
/-- x != y by x's own == -/
def uOwnN (K : PySem.W.Frag) (C : Addr) (sp : Sp) (E : XK) : R2 := fun x y H Q => match x with
  | .ref a => ∃ dx fs, H a = some (.ins C dx fs) ∧ Snd K C H y ∧ sp [.ref a, y] H (fun v H' => ∃ k, v = .bl k ∧ Q (.bl (!k)) H') E
  | _ => False
theorem opNeX (o : OwnC X.K C) (ne : NoNe X.K C) (m : Meth X.K C "__eq__" f) (F : FnOk X.prog X.w X.K X.mg X.base CX n f fd ps sp) (hr : Room (n + 1) X.A) (hb : Binds X.K fd ps []) (hx : Passes CX X E) : OpR X (compareOp .NotEq) (uOwnN X.K C sp E) := by
  intro pins s σ H x y v u Q I rx ry h
  unfold uOwnN at h
  split at h
  · rename_i a
    obtain ⟨dx, fs, ha, hy, hs⟩ := h
    cases rx
    obtain ⟨mA, J, _⟩ := ins_get I.hok ha
    obtain ⟨od, J, _⟩ := J.look
    obtain ⟨tb, lt, hnf⟩ := snd_ty I ry hy
    show wpAny (model X.prog X.w) X.A (richCompare .NotEq (.ref a) u) (EP X pins σ Q) X.xe s
    refine NeW.ne_K hr.in1.units0 hr.units0 I.kIn J lt hnf ne o.hm m.at_ m.fn ?_
    refine wpAny_mono (run_here F hr.in1 rfl hb hx I (show Vals [V.ref a, y] [Value.ref a, u] from .cons rfl (.cons ry .nil)) hs) (fun r s' q => ?_) fun _ _ z => z
    obtain ⟨z, H', I', rz, k, rfl, q⟩ := q
    cases rz
    exact ⟨k, rfl, .bl (!k), H', I', rfl, q⟩
  · exact h.elim
/-- a truth value by an own method -/
def uTruO (C : Addr) (sp : Sp) (E : XK) (ta : TE) : TT := fun σ H Q => ta σ H fun x H1 => ∃ a dx fs, x = .ref a ∧ H1 a = some (.ins C dx fs) ∧ sp [.ref a] H1 (fun v H2 => ∃ k, v = .bl k ∧ Q k H2) E
theorem ptO {a : Expr} {ta : TE} (m : Meth X.K C "__bool__" f) (F : FnOk X.prog X.w X.K X.mg X.base CX n f fd ps sp) (hr : Room n X.A) (hb : Binds X.K fd ps []) (hx : Passes CX X E) (ha : PE X a ta)
    (he : ∀ whole, isTrue a X.env whole = (do let v ← whole; standAt a.pos; holding [v] (truthy v)) := by intro _; rfl) : PT X a (uTruO C sp E ta) := by
  refine ⟨fun p s z H Q I h => isTrue_plain (thn (ha.run p s z H _ I h) fun v s1 ⟨x, H1, I1, r1, q⟩ => ?_) (he _)⟩
  obtain ⟨b, dx, fs, rfl, hb', hs⟩ := q
  cases r1
  obtain ⟨mA, J, _⟩ := ins_get I1.hok hb'
  obtain ⟨od, J, _⟩ := J.look
  obtain ⟨m', hF⟩ := I1.fr
  refine PySem.W.truthy_K hF I1.ok.mod.kin J m.at_ m.fn ?_
  refine wpAny_mono (run_here F hr rfl hb hx I1 (show Vals [V.ref b] [Value.ref b] from .cons rfl .nil) hs) (fun r s' q => ?_) fun _ _ z => z
  obtain ⟨y, H', I', ry, k, rfl, q⟩ := q
  cases ry
  exact ⟨H', I', q⟩
end
end U

/-! U10: fractions by value, texts of pairs. -/
namespace U
open PySem PySem.Spec PyProof.Rows L2
def uBool (vs : List V) (H : Hp) (Q : VK) : Prop := match vs with | [.int i] => Q (.bl (decide (i ≠ 0))) H | [.bl k] => Q (.bl k) H | _ => False
theorem caBool {X : Cx} : CallR X (.type "bool") uBool := fun p s z H xs us Q I r h => by
  unfold uBool at h
  split at h
  · rename_i i
    refine call_bool1 p s z H _ us Q I r (.inl ⟨i, rfl, ?_⟩)
    have e : decide (i ≠ 0) = (i != 0) := by by_cases h0 : i = 0 <;> simp [h0]
    rw [← e]
    exact h
  · exact call_bool1 p s z H _ us Q I r (.inr ⟨_, rfl, h⟩)
  · exact h.elim
/-- p / q is N / D in lowest terms -/
structure Val (p q N D : Int) : Prop where
  low : Low p q
  dp : 0 < D
  eq : p * D = N * q
theorem Val.of {N D : Int} (h : 0 < D) : Val (N / gcdI N D) (D / gcdI N D) N D := ⟨(low_of h).1, h, (low_of h).2.1⟩
theorem Val.self {p q : Int} (h : Low p q) : Val p q p q := ⟨h, h.pos, rfl⟩
/-- another fraction of the same value -/
theorem Val.to {p q N D N' D' : Int} (v : Val p q N D) (h : 0 < D') (e : N * D' = N' * D) : Val p q N' D' := ⟨v.low, h, by
  have hD := v.dp
  have e1 := v.eq
  refine Int.eq_of_mul_eq_mul_right (show D ≠ 0 by omega) ?_
  grind⟩
theorem Val.inj {p q p' q' N D N' D' : Int} (v : Val p q N D) (v' : Val p' q' N' D') (e : N * D' = N' * D) : p = p' ∧ q = q' := by
  refine v.low.inj v'.low ?_
  have v2 := v.to v'.dp e
  have h := v'.dp
  have e1 := v2.eq
  have e2 := v'.eq
  refine Int.eq_of_mul_eq_mul_right (show D' ≠ 0 by omega) ?_
  grind
section
variable {p q p' q' N D N' D' : Int}
theorem Val.add (v : Val p q N D) (v' : Val p' q' N' D') : Val ((p * q' + p' * q) / gcdI (p * q' + p' * q) (q * q')) (q * q' / gcdI (p * q' + p' * q) (q * q')) (N * D' + N' * D) (D * D') :=
  (Val.of (Int.mul_pos v.low.pos v'.low.pos)).to (Int.mul_pos v.dp v'.dp) (by have := v.eq; have := v'.eq; grind)
theorem Val.sub (v : Val p q N D) (v' : Val p' q' N' D') : Val ((p * q' - p' * q) / gcdI (p * q' - p' * q) (q * q')) (q * q' / gcdI (p * q' - p' * q) (q * q')) (N * D' - N' * D) (D * D') :=
  (Val.of (Int.mul_pos v.low.pos v'.low.pos)).to (Int.mul_pos v.dp v'.dp) (by have := v.eq; have := v'.eq; grind)
theorem Val.mul (v : Val p q N D) (v' : Val p' q' N' D') : Val ((p * p') / gcdI (p * p') (q * q')) (q * q' / gcdI (p * p') (q * q')) (N * N') (D * D') :=
  (Val.of (Int.mul_pos v.low.pos v'.low.pos)).to (Int.mul_pos v.dp v'.dp) (by have := v.eq; have := v'.eq; grind)
theorem Val.neg (v : Val p q N D) : Val (-p / gcdI (-p) q) (q / gcdI (-p) q) (-N) D :=
  (Val.of v.low.pos).to v.dp (by have := v.eq; grind)
end
/-- both numbers have at most k bits -/
def Sm (k : Nat) (p q : Int) : Prop := p.natAbs < 2 ^ k ∧ q.natAbs < 2 ^ k
theorem pow_le {a b : Nat} (h : a ≤ b) : 2 ^ a ≤ 2 ^ b := Nat.pow_le_pow_right (by decide) h
theorem Sm.up {k m : Nat} {p q : Int} (s : Sm k p q) (h : k ≤ m) : Sm m p q := ⟨Nat.lt_of_lt_of_le s.1 (pow_le h), Nat.lt_of_lt_of_le s.2 (pow_le h)⟩
theorem Sm.low {k : Nat} {N D : Int} (h : 0 < D) (s : Sm k N D) : Sm k (N / gcdI N D) (D / gcdI N D) := by
  obtain ⟨lo, _, e1, e2⟩ := low_of (a := N) h
  have := lo.pos
  exact ⟨Nat.lt_of_le_of_lt e1 s.1, Nat.lt_of_le_of_lt (by omega) s.2⟩
section
variable {p q p' q' : Int} {k m : Nat}
theorem Sm.addN (s : Sm k p q) (s' : Sm m p' q') : Sm (k + m + 1) (p * q' + p' * q) (q * q') := by
  have h1 := mul_lt k m s.1 s'.2
  have h2 := mul_lt m k s'.1 s.2
  have h3 := mul_lt k m s.2 s'.2
  rw [Nat.add_comm m k] at h2
  have e : 2 ^ (k + m + 1) = 2 ^ (k + m) * 2 := Nat.pow_succ ..
  refine ⟨?_, ?_⟩ <;> rw [e] <;> omega
theorem Sm.subN (s : Sm k p q) (s' : Sm m p' q') : Sm (k + m + 1) (p * q' - p' * q) (q * q') := by
  have h1 := mul_lt k m s.1 s'.2
  have h2 := mul_lt m k s'.1 s.2
  have h3 := mul_lt k m s.2 s'.2
  rw [Nat.add_comm m k] at h2
  have e : 2 ^ (k + m + 1) = 2 ^ (k + m) * 2 := Nat.pow_succ ..
  refine ⟨?_, ?_⟩ <;> rw [e] <;> omega
theorem Sm.mulN (s : Sm k p q) (s' : Sm m p' q') : Sm (k + m + 1) (p * p') (q * q') := by
  have h1 := mul_lt k m s.1 s'.1
  have h3 := mul_lt k m s.2 s'.2
  have e : 2 ^ (k + m + 1) = 2 ^ (k + m) * 2 := Nat.pow_succ ..
  refine ⟨?_, ?_⟩ <;> rw [e] <;> omega
end
/-- a ratio of the value N / D, of at most k bits -/
def RV (C : Addr) (H : Hp) (v : V) (N D : Int) (k : Nat) : Prop := ∃ p q, IsR C H v p q ∧ Val p q N D ∧ Sm k p q
theorem RV.up {C : Addr} {H H' : Hp} {v : V} {N D : Int} {k : Nat} (r : RV C H v N D k) (g : Gr H H') : RV C H' v N D k := let ⟨p, q, i, z⟩ := r; ⟨p, q, i.up g, z⟩
/-! ### the text of pairs -/
theorem num_short' {n : Int} {k : Nat} (hk : 0 < k) (h : n.natAbs < 10 ^ k) : (Str.ofString (toString n)).length ≤ k + 1 := by
  have el : (Str.ofString (toString n)).length = (Str.ofString (toString n)).cps.toList.length := by simp [Str.length]
  rw [el, num_list, List.length_append, List.length_map]
  have := (Nat.length_toDigits_le_iff (b := 10) (n := n.natAbs) (k := k) (by decide) hk).mpr h
  have h2 : (if n < 0 then [45] else ([] : List Nat)).length ≤ 1 := by by_cases q : n < 0 <;> simp [q]
  omega
def Few (k : Nat) (l : List (Int × Int)) : Prop := ∀ z ∈ l, z.1.natAbs < 10 ^ k ∧ z.2.natAbs < 10 ^ k
theorem pd_len {p q : Int} {k : Nat} (hk : 0 < k) (h1 : p.natAbs < 10 ^ k) (h2 : q.natAbs < 10 ^ k) : (pd p q).shown.length ≤ 2 * k + 9 := by
  have a := num_short' hk h1
  have b := num_short' hk h2
  have c := tupleText_len_le [Str.ofString (toString p), Str.ofString (toString q)]
  show (tupleText [Str.ofString (toString p), Str.ofString (toString q)]).length ≤ _
  simp only [List.map_cons, List.map_nil, List.sum_cons, List.sum_nil, List.length_cons, List.length_nil] at c
  omega
theorem pds_sum {k : Nat} (hk : 0 < k) : ∀ (l : List (Int × Int)), Few k l → ((PyData.shownAll (pds l)).map (·.length)).sum ≤ l.length * (2 * k + 9) ∧ (PyData.shownAll (pds l)).length = l.length
  | [], _ => ⟨by simp [pds, PyData.shownAll], by simp [pds, PyData.shownAll]⟩
  | (p, q) :: r, h => by
    obtain ⟨h1, h2⟩ := pds_sum hk r fun z hz => h z (List.mem_cons_of_mem _ hz)
    have h0 := h (p, q) (List.mem_cons_self ..)
    have e : PyData.shownAll (pds ((p, q) :: r)) = (pd p q).shown :: PyData.shownAll (pds r) := rfl
    rw [e]
    have hpl : (pd p q).shown.length ≤ 2 * k + 9 := pd_len hk h0.1 h0.2
    simp only [List.map_cons, List.sum_cons, List.length_cons]
    refine ⟨?_, by omega⟩
    rw [Nat.succ_mul]
    omega
theorem pds_len {k : Nat} {l : List (Int × Int)} (hk : 0 < k) (h : Few k l) : (PyData.list (pds l)).shown.length ≤ l.length * (2 * k + 11) + 3 := by
  obtain ⟨h1, h2⟩ := pds_sum hk l h
  have c := listText_len_le (PyData.shownAll (pds l))
  show (listText (PyData.shownAll (pds l))).length ≤ _
  rw [h2] at c
  have : l.length * (2 * k + 11) = l.length * (2 * k + 9) + l.length * 2 := by rw [← Nat.mul_add]
  omega
theorem pd_show {p q : Int} (h1 : p.natAbs.log2 < 1920) (h2 : q.natAbs.log2 < 1920) : (pd p q).showable = true := by
  show (decide _ && (decide _ && true)) = true
  rw [decide_eq_true h1, decide_eq_true h2]
  rfl
theorem pds_show : ∀ {l : List (Int × Int)}, (∀ z ∈ l, z.1.natAbs.log2 < 1920 ∧ z.2.natAbs.log2 < 1920) → PyData.showableAll (pds l) = true
  | [], _ => rfl
  | (p, q) :: r, h => by
    have h0 := h (p, q) (List.mem_cons_self ..)
    have h1 := pds_show fun z hz => h z (List.mem_cons_of_mem _ hz)
    show ((pd p q).showable && PyData.showableAll (pds r)) = true
    rw [pd_show h0.1 h0.2, h1]
    rfl
section
variable {H H' : Hp} {F M M' : List (Addr × HO)} {d : Addr} {o : HO} {D : List Addr}
theorem At.keep1 (L : At H [d] F M H') : ∀ b u, H b = some u → b ≠ d → H' b = some u := fun b u e n => L.fr b u e (by simpa using n)
theorem one_dead (h : H d = some o) : ∀ e ∈ [d], ∃ u, H e = some u := fun e he => by
  obtain rfl := List.mem_singleton.mp he
  exact ⟨o, h⟩
theorem At.perm (L : At H D F M H') (p : M.Perm M') : At H D F M' H' := ⟨L.fr, L.fa, fun x hx => L.mu x (p.mem_iff.mpr hx), fun x hx => L.mf x (p.mem_iff.mpr hx), fun x hx => L.df x (p.mem_iff.mpr hx), (p.map _).nodup_iff.mp L.nd⟩
theorem rot3 {α : Type} {x y z : α} : [x, y, z].Perm [z, x, y] := ((List.Perm.swap z y []).cons x).trans (List.Perm.swap z x [y])
end
/-- a sum of fractions, step by step -/
def stepF (z : Int × Int) (y : Int × Int) : Int × Int := (z.1 * y.2 + y.1 * z.2, z.2 * y.2)
def sumF (l : List (Int × Int)) : Int × Int := l.foldl stepF (0, 1)
theorem sumF_take {l : List (Int × Int)} {i : Nat} {y : Int × Int} (h : l[i]? = some y) : sumF (l.take (i + 1)) = stepF (sumF (l.take i)) y := by
  unfold sumF
  rw [List.take_add_one, h, List.foldl_append]
  rfl
theorem idx_of {α β : Type} {P : α → β → Prop} : ∀ {xs : List α} {ls : List β}, PySem.Paired P xs ls → ∀ (i : Nat) (x : α) (z : β), xs[i]? = some x → ls[i]? = some z → P x z
  | _, _, .nil, i, x, z, h, _ => by simp at h
  | _, _, .cons h _, 0, x, z, h1, h2 => by
    obtain rfl := Option.some.inj h1
    obtain rfl := Option.some.inj h2
    exact h
  | _, _, .cons _ r, i + 1, x, z, h1, h2 => idx_of r i x z h1 h2
theorem str_ext {x y : Str} (h : x.cps.toList = y.cps.toList) : x = y := by
  cases x; cases y
  simp only at h
  rw [Array.ext' h]
theorem app_list (x y : Str) : (x ++ y).cps.toList = x.cps.toList ++ y.cps.toList := by rw [PySem.Str.cps_append, Array.toList_append]
theorem app_len (x y : Str) : (x ++ y).length = x.length + y.length := by
  show (x ++ y).cps.size = x.cps.size + y.cps.size
  rw [PySem.Str.cps_append, Array.size_append]
theorem e_app (x : Str) : Str.empty ++ x = x := str_ext (by rw [app_list]; rfl)
theorem abs_num (n : Int) : (Str.ofString (toString ((n.natAbs : Nat) : Int))).cps.toList = (Nat.toDigits 10 n.natAbs).map Char.toNat := by
  rw [num_list, if_neg (by omega)]
  rfl
theorem abs_neg {n : Int} (h : n < 0) : Str.ofString "-" ++ Str.ofString (toString ((n.natAbs : Nat) : Int)) = Str.ofString (toString n) := str_ext (by
  rw [app_list, abs_num, num_list, if_pos h]
  rfl)
theorem abs_pos {n : Int} (h : ¬ n < 0) : Str.ofString "" ++ Str.ofString (toString ((n.natAbs : Nat) : Int)) = Str.ofString (toString n) := str_ext (by
  rw [app_list, abs_num, num_list, if_neg h]
  rfl)
theorem join1 (x : Str) : Txt.join (Str.ofString "") [x] = x := by
  exact str_ext (by unfold Txt.join Builtin.Str.glued; simp)
theorem num_short {n : Int} (h : n.natAbs < 10 ^ 60) : (Str.ofString (toString n)).length ≤ 100 := by
  have el : (Str.ofString (toString n)).length = (Str.ofString (toString n)).cps.toList.length := by simp [Str.length]
  rw [el, num_list, List.length_append, List.length_map]
  have := (Nat.length_toDigits_le_iff (b := 10) (n := n.natAbs) (k := 60) (by decide) (by decide)).mpr h
  have h2 : (if n < 0 then [45] else ([] : List Nat)).length ≤ 1 := by by_cases q : n < 0 <;> simp [q]
  omega
def rtext (p q : Int) : Str := if q = 1 then Str.ofString (toString p) else Str.ofString (toString p) ++ Str.ofString "/" ++ Str.ofString (toString q)
end U
namespace NeW
open PySem PySem.Spec PySem.Calls PyProof.Rows PySem.W Builtin Builtin.Str
section
variable {prog : Program} {w : World} {A : Around} {E : Value → Shared → Prop} {s : Shared} {K : Frag} {x C f : Addr} {ox : Obj} {od : Option Obj}
theorem bool_own {L : Addr} {h₀ : Heap} {m : Str → Option Value} {Q : Value → Shared → Prop} (X : Fr h₀ L s.heap m) (X₀ : K.In h₀) (I : InstAt s.heap x ox C od) (hs : findIn K (.ref C) "__bool__" = some (some (.ref f))) (hf : isFn K (.ref f) = true)
    (h : wpAny (model prog w) A.in1.in1 (call (.ref f) [.ref x]) (PySem.W.BoolBack fun b s' => Q (.bool b) s') E s) : wpAny (model prog w) A (call (.type "bool") [.ref x]) Q E s := by
  refine callType_codes (T := "bool") (Bi := Builtin.«object.__init__») (Q₁ := fun r s₁ => ∃ b, r = .bool b ∧ Q r s₁) PySem.F.called_bool (PySem.F.typeCall_bool_1 _) PySem.F.entry_object_init ?_ ?_
  · refine codeAny_of_tree ?_
    show wpAny _ A.in1.in1 (do checkBuiltinCall "bool.__new__" ⟨[.type "bool", .ref x], []⟩; again (.builtin "bool.__new__" ⟨[.type "bool", .ref x], []⟩)) _ _ s
    refine wpAny_bind (wpAny_of_eq (PySem.F.newCall_bool_1 _) (wpAny_pure ⟨plainId_quiet (by decide +kernel) _, codeAny_builtin PySem.F.entry_bool_new ?_⟩))
    rw [Around.under_plainId (by decide +kernel) _]
    unfold Builtin.«bool.__new__»
    refine wpAny_bind (wpAny_pure ?_)
    refine wpAny_bind (wpAny_of_eq PySem.F.conv_sub_bool ?_)
    refine wpAny_bind (m := someArgs "bool" 0 1 _) (wpAny_pure ?_)
    refine wpAny_bind (m := truthy (.ref x)) (truthy_K X X₀ I hs hf (wpAny_mono h (fun r s₁ hr => ?_) fun _ _ y => y))
    cases r <;> first | exact hr.elim | exact wpAny_pure ⟨_, rfl, hr⟩
  · rintro obj s₁ ⟨b, rfl, hq⟩
    exact ⟨PySem.typeIs_bool _ _, PySem.F.args_object_init_2 _ _, object_init_meets PySem.F.called_bool.init.lookup PySem.F.called_bool.made (by decide) prog w A.in1 _ s₁ ⟨PySem.typeIs_bool _ _, rfl, hq⟩⟩
end
end NeW
namespace U
open PySem PySem.Spec PyProof.Rows L2
section
variable {X : Cx} {CX : CXT} {n : Nat} {C f : Addr} {fd : FuncData} {ps : List Str} {sp : Sp} {E : XK}
/-- bool(x) by x's own method -/
def uBoolO (C : Addr) (sp : Sp) (E : XK) : List V → Hp → VK → Prop := fun vs H Q => match vs with
  | [.ref a] => ∃ dx fs, H a = some (.ins C dx fs) ∧ sp [.ref a] H (fun v H' => (∃ y, v = .bl y) ∧ Q v H') E
  | _ => False
theorem caBoolO (m : Meth X.K C "__bool__" f) (F : FnOk X.prog X.w X.K X.mg X.base CX n f fd ps sp) (hr : Room (n + 2) X.A) (hb : Binds X.K fd ps []) (hx : Passes CX X E) : CallR X (.type "bool") (uBoolO C sp E) := by
  intro pins s σ H xs us Q I r h
  unfold uBoolO at h
  split at h
  · rename_i a
    obtain ⟨dx, fs, ha, hs⟩ := h
    obtain ⟨u, rfl, ru⟩ := vals1 r
    cases (show u = Value.ref a from ru)
    obtain ⟨mA, J, _⟩ := ins_get I.hok ha
    obtain ⟨od, J, _⟩ := J.look
    obtain ⟨m', hF⟩ := I.fr
    have hr2 : Room n X.A.in1.in1 := Room.in1 (Room.in1 hr)
    refine NeW.bool_own hF I.ok.mod.kin J m.at_ m.fn ?_
    refine wpAny_mono (run_here F hr2 rfl hb hx I (show Vals [V.ref a] [Value.ref a] from .cons rfl .nil) hs) (fun v s' q => ?_) fun _ _ z => z
    obtain ⟨x, H', I', rv, ⟨y, rfl⟩, q⟩ := q
    obtain rfl := (show v = Value.bool y from rv)
    exact ⟨.bl y, H', I', rfl, q⟩
  · exact h.elim
end
end U

/-! U12: texts of integers, read. -/
namespace U
open PySem PySem.Spec PyProof.Rows L2
open NumText
theorem len_list (x : Str) : x.length = x.cps.toList.length := by simp [Str.length]
theorem minus_len : (Str.ofString "-").length = 1 := by decide
theorem minus_cps : (Str.ofString "-").cps = #[45] := by decide
theorem sub_at0 (x : Str) : Builtin.Str.subAt x (Str.ofString "-") 0 = (match x.cps.toList with | c :: _ => decide (c = 45) | [] => false) := by
  unfold Builtin.Str.subAt
  rw [minus_len, minus_cps]
  rcases e : x.cps.toList with _ | ⟨c, r⟩
  · have : x.cps = #[] := by apply Array.ext'; rw [e]
    rw [this]
    rfl
  · have e2 : (x.cps.extract 0 (0 + 1)).toList = [c] := by
      rw [Array.toList_extract, List.extract_eq_take_drop, e]
      rfl
    have e3 : x.cps.extract 0 (0 + 1) = #[c] := by apply Array.ext'; rw [e2]
    rw [e3]
    by_cases h : c = 45
    · subst h; rfl
    · show (#[c] == #[45]) = decide (c = 45)
      rw [decide_eq_false h]
      simp [h]
/-- what stands behind a sign - -/
def behind : List Nat → List Nat
  | 45 :: r => r
  | l => l
theorem startswith_minus (x : Str) : Txt.startswith x (Str.ofString "-") = (match x.cps.toList with | c :: _ => decide (c = 45) | [] => false) := by
  unfold Txt.startswith
  rw [sub_at0, minus_len, len_list]
  rcases x.cps.toList with _ | ⟨c, r⟩
  · rfl
  · simp
theorem removeprefix_minus (x : Str) : (Txt.removeprefix x (Str.ofString "-")).cps.toList = behind x.cps.toList := by
  unfold Txt.removeprefix
  rw [sub_at0, minus_len]
  rcases e : x.cps.toList with _ | ⟨c, r⟩
  · exact e
  · by_cases h : c = 45
    · subst h
      simp only [decide_true, if_true]
      have hl : x.length = r.length + 1 := by rw [len_list, e]; rfl
      show (if (x.length - 1 == x.length) = true then x else Builtin.Str.strSub x 1 x.length).cps.toList = r
      rw [if_neg (by rw [hl]; simp), StrLaws.strSub_toList, e, hl]
      simp
    · simp only [h, decide_false, Bool.false_eq_true, if_false]
      show x.cps.toList = behind (c :: r)
      rw [e]
      unfold behind
      split
      · rename_i heq; cases heq; exact absurd rfl h
      · rfl
theorem ascii_digit : ∀ c : Nat, c < 128 → Unicode.isDigit c = decide (48 ≤ c ∧ c ≤ 57) := by decide +kernel
/-- nothing but figures -/
def Figs (l : List Nat) : Prop := (∀ c ∈ l, 48 ≤ c ∧ c ≤ 57) ∧ l ≠ []
theorem isascii_iff (x : Str) : Txt.isascii x = true ↔ ∀ c ∈ x.cps.toList, c < 128 := by
  unfold Txt.isascii
  rw [Array.all_eq_true_iff_forall_mem]
  simp
theorem isdigit_iff (x : Str) (h : ∀ c ∈ x.cps.toList, c < 128) : Txt.isdigit x = true ↔ Figs x.cps.toList := by
  unfold Txt.isdigit Figs
  rw [Bool.and_eq_true, Array.all_eq_true_iff_forall_mem, decide_eq_true_iff]
  rw [len_list]
  constructor
  · rintro ⟨h1, h2⟩
    refine ⟨fun c hc => ?_, fun e => by rw [e] at h1; exact absurd h1 (by decide)⟩
    have := h2 c (Array.mem_toList_iff.mp hc)
    rw [ascii_digit c (h c hc)] at this
    exact of_decide_eq_true this
  · rintro ⟨h1, h2⟩
    refine ⟨List.length_pos_iff.mpr h2, fun c hc => ?_⟩
    have hc' := Array.mem_toList_iff.mpr hc
    rw [ascii_digit c (h c hc')]
    exact decide_eq_true (h1 c hc')
/-- the text of an integer: its figures behind the sign -/
theorem num_figs (n : Int) : Figs (behind (Str.ofString (toString n)).cps.toList) ∧ behind (Str.ofString (toString n)).cps.toList = (Nat.toDigits 10 n.natAbs).map Char.toNat := by
  have e : behind (Str.ofString (toString n)).cps.toList = (Nat.toDigits 10 n.natAbs).map Char.toNat := by
    rw [num_list]
    by_cases h : n < 0
    · rw [if_pos h]
      rfl
    · rw [if_neg h, List.nil_append]
      unfold behind
      split
      · rename_i r heq
        have := digits_are n.natAbs 45 (by rw [heq]; exact List.mem_cons_self ..)
        omega
      · rfl
  refine ⟨?_, e⟩
  rw [e]
  refine ⟨digits_are _, fun z => ?_⟩
  have z2 := List.map_eq_nil_iff.mp z
  exact absurd z2 (Nat.toDigits_ne_nil)
theorem foldl_lt : ∀ (l : List Nat) (a : Nat), (∀ c ∈ l, 48 ≤ c ∧ c ≤ 57) → l.foldl (fun acc c => acc * 10 + (c - 48)) a < (a + 1) * 10 ^ l.length
  | [], a, _ => by simp
  | c :: r, a, h => by
    have h1 := foldl_lt r (a * 10 + (c - 48)) fun d hd => h d (List.mem_cons_of_mem _ hd)
    have h2 := h c (List.mem_cons_self ..)
    rw [List.foldl_cons, List.length_cons, Nat.pow_succ]
    refine Nat.lt_of_lt_of_le h1 ?_
    have h3 : (a * 10 + (c - 48) + 1) * 10 ^ r.length ≤ ((a + 1) * 10) * 10 ^ r.length := Nat.mul_le_mul_right _ (by omega)
    have h4 : ((a + 1) * 10) * 10 ^ r.length = (a + 1) * (10 ^ r.length * 10) := by rw [Nat.mul_assoc, Nat.mul_comm 10]
    omega
theorem digitsVal_lt {l : List Nat} (h : ∀ c ∈ l, 48 ≤ c ∧ c ≤ 57) : digitsVal l < 10 ^ l.length := by
  have := foldl_lt l 0 h
  simpa [digitsVal] using this
/-- what int reads behind a sign - of figures -/
theorem int_of_figs {x : Str} (h : Figs (behind x.cps.toList)) (hl : (behind x.cps.toList).length ≤ 60) : ∃ m : Int, intText? x = some m ∧ m.natAbs < 10 ^ 60 := by
  have up : ∀ l : List Nat, (∀ c ∈ l, 48 ≤ c ∧ c ≤ 57) → l.length ≤ 60 → digitsVal l < 10 ^ 60 := fun l h1 h2 =>
    Nat.lt_of_lt_of_le (digitsVal_lt h1) (Nat.pow_le_pow_right (by decide) h2)
  have hx : x.length = x.cps.toList.length := by simp [Str.length]
  rcases e : x.cps.toList with _ | ⟨c, r⟩
  · rw [e] at h; exact absurd rfl h.2
  · by_cases h45 : c = 45
    · subst h45
      rw [e] at h hl
      refine ⟨_, intText_neg e h.1 h.2 (by rw [hx, e]; show r.length + 1 ≤ _; have : r.length ≤ 60 := hl; omega), ?_⟩
      rw [Int.natAbs_neg, Int.natAbs_natCast]
      exact up r h.1 hl
    · have eb : behind (c :: r) = c :: r := by
        unfold behind
        split
        · rename_i heq; cases heq; exact absurd rfl h45
        · rfl
      rw [e, eb] at h hl
      refine ⟨_, intText_digits (by rw [e]; exact h.1) (by rw [e]; exact h.2) (by rw [hx, e]; omega), ?_⟩
      rw [Int.natAbs_natCast, e]
      exact up _ h.1 hl
/-- int behind str -/
theorem intText_num {n : Int} (h : n.natAbs < 10 ^ 60) : intText? (Str.ofString (toString n)) = some n := by
  have hl : ((Nat.toDigits 10 n.natAbs).map Char.toNat).length ≤ 60 := by
    rw [List.length_map]
    exact (Nat.length_toDigits_le_iff (b := 10) (n := n.natAbs) (k := 60) (by decide) (by decide)).mpr h
  have hne : ((Nat.toDigits 10 n.natAbs).map Char.toNat) ≠ [] := fun z => Nat.toDigits_ne_nil (List.map_eq_nil_iff.mp z)
  have hx : ∀ x : Str, x.length = x.cps.toList.length := fun x => by simp [Str.length]
  have e := num_list n
  by_cases h0 : n < 0
  · rw [if_pos h0] at e
    have e' : (Str.ofString (toString n)).cps.toList = 45 :: (Nat.toDigits 10 n.natAbs).map Char.toNat := e
    rw [intText_neg e' (digits_are _) hne (by rw [hx, e]; simp only [List.length_append, List.length_cons, List.length_nil]; omega), PySem.W.KIN.val_back]
    congr 1
    omega
  · rw [if_neg h0, List.nil_append] at e
    rw [intText_digits (by rw [e]; exact digits_are _) (by rw [e]; exact hne) (by rw [hx, e]; omega), e, PySem.W.KIN.val_back]
    congr 1
    omega
/-- a text cut at its first sign / -/
theorem cut_slash (x : Str) : (47 ∉ x.cps.toList ∧ Txt.partition x (Str.ofString "/") = (x, Str.empty, Str.empty)) ∨
    (∃ a b : Str, 47 ∉ a.cps.toList ∧ x = a ++ Str.ofString "/" ++ b ∧ Txt.partition x (Str.ofString "/") = (a, Str.ofString "/", b)) := by
  have ey : TL.tl (Str.ofString "/") = 47 :: [] := by decide
  by_cases h : 47 ∈ x.cps.toList
  · obtain ⟨s, t, e, hs⟩ := List.append_of_mem h |> fun ⟨s, t, e⟩ => (show ∃ s t, x.cps.toList = s ++ 47 :: t ∧ 47 ∉ s from by
      clear e
      generalize x.cps.toList = l at h
      induction l with
      | nil => cases h
      | cons c r ih =>
        by_cases hc : c = 47
        · subst hc; exact ⟨[], r, rfl, by simp⟩
        · rcases List.mem_cons.mp h with z | z
          · exact absurd z.symm hc
          · obtain ⟨s, t, e, hs⟩ := ih z
            exact ⟨c :: s, t, by rw [e]; rfl, fun z => by rcases List.mem_cons.mp z with z | z; exact hc z.symm; exact hs z⟩)
    have ex : x = (⟨s.toArray⟩ : Str) ++ Str.ofString "/" ++ (⟨t.toArray⟩ : Str) := str_ext (by
      rw [app_list, app_list, e, show (Str.ofString "/").cps.toList = [47] by decide]
      simp)
    refine .inr ⟨⟨s.toArray⟩, ⟨t.toArray⟩, hs, ex, ?_⟩
    rw [ex]
    exact TL.partition_app ey hs
  · exact .inl ⟨h, TL.partition_none ey h⟩
theorem num_inj {m n : Int} (h1 : m.natAbs < 10 ^ 60) (h2 : n.natAbs < 10 ^ 60) (h : Str.ofString (toString m) = Str.ofString (toString n)) : m = n := by
  have e := intText_num h1
  rw [h, intText_num h2] at e
  exact (Option.some.inj e).symm
theorem num_no47 (n : Int) : 47 ∉ (Str.ofString (toString n)).cps.toList := fun h => by
  rw [num_list] at h
  rcases List.mem_append.mp h with h | h
  · by_cases q : n < 0
    · rw [if_pos q] at h; simp at h
    · rw [if_neg q] at h; cases h
  · have := digits_are n.natAbs 47 h
    omega
theorem cut_eq {a b c d : Str} (ha : 47 ∉ a.cps.toList) (hc : 47 ∉ c.cps.toList) (h : a ++ Str.ofString "/" ++ b = c ++ Str.ofString "/" ++ d) : a = c ∧ b = d := by
  have ey : TL.tl (Str.ofString "/") = 47 :: [] := by decide
  have h1 := TL.partition_app (b := b) ey ha
  rw [h, TL.partition_app ey hc] at h1
  exact ⟨(congrArg (·.1) h1).symm, (congrArg (·.2.2) h1).symm⟩
theorem cut_no {a b x : Str} (hx : 47 ∉ x.cps.toList) : x ≠ a ++ Str.ofString "/" ++ b := fun h => hx (by
  rw [h, app_list, app_list]
  exact List.mem_append_left _ (List.mem_append_right _ (by decide)))
/-- what int_in tells of a text: the number of which it is the text -/
def IsNum (x : Str) (n : Int) : Prop := n.natAbs < 10 ^ 60 ∧ x = Str.ofString (toString n)
theorem num_figs' {n : Int} (h : n.natAbs < 10 ^ 60) : Txt.isascii (Txt.removeprefix (Str.ofString (toString n)) (Str.ofString "-")) = true ∧ Txt.isdigit (Txt.removeprefix (Str.ofString (toString n)) (Str.ofString "-")) = true ∧ (Txt.removeprefix (Str.ofString (toString n)) (Str.ofString "-")).length ≤ 60 := by
  have e := removeprefix_minus (Str.ofString (toString n))
  obtain ⟨f, g⟩ := num_figs n
  have ha : Txt.isascii (Txt.removeprefix (Str.ofString (toString n)) (Str.ofString "-")) = true := (isascii_iff _).mpr (by
    rw [e]; intro c hc; have := f.1 c hc; omega)
  refine ⟨ha, (isdigit_iff _ ((isascii_iff _).mp ha)).mpr (by rw [e]; exact f), ?_⟩
  rw [len_list, e, g, List.length_map]
  exact (Nat.length_toDigits_le_iff (b := 10) (n := n.natAbs) (k := 60) (by decide) (by decide)).mpr h
section
variable {X : Cx}
/-- int, also of a text -/
def uIntT (vs : List V) (H : Hp) (Q : VK) : Prop := match vs with | [.str a] => ∃ n, intText? a = some n ∧ a.length ≤ 640 ∧ Q (.int n) H | _ => uInt vs H Q
theorem caIntT : CallR X (.type "int") uIntT := fun p s z H xs us Q I r h => by
  unfold uIntT at h
  split at h
  · obtain ⟨n, h1, h2, q⟩ := h
    exact call_int_str p s z H _ us Q I r ⟨_, n, rfl, h1, h2, q⟩
  · exact caInt p s z H _ us Q I r h
end
end U

namespace Law
open PySem PySem.Spec PyProof.Rows L2 U
/-! ### the text by places -/
def top (i : Nat) : Stmt := PySem.Challenge.pw_touchrows_k03_ratios_told.main.body.getD i (.Pass ⟨0, 0, 0, 0⟩)
abbrev s__law_dice : Stmt := top 17
abbrev s__law_roll : Stmt := top 18
abbrev s__law_number : Stmt := top 20
abbrev s__law_drawn : Stmt := top 21
abbrev s_is_integer : Stmt := top 5
abbrev s_Ratio___init__ : Stmt := inClass (top 13) 0
abbrev s__law_lowest : Stmt := top 19
abbrev s_Ratio_pair : Stmt := inClass (top 13) 4
abbrev s_Ratio_top : Stmt := inClass (top 13) 2
abbrev s_Ratio_bottom : Stmt := inClass (top 13) 3
abbrev s_written : Stmt := top 7
abbrev s_Ratio___str__ : Stmt := inClass (top 13) 13
abbrev s_Ratio___bool__ : Stmt := inClass (top 13) 11
abbrev s__law_text : Stmt := top 22
abbrev s_integer_in : Stmt := top 8
abbrev s__lowest : Stmt := top 14
abbrev s_ratio_in : Stmt := top 15
abbrev s_Ratio_of_text : Stmt := inClass (top 13) 1
abbrev s_Ratio___eq__ : Stmt := inClass (top 13) 12
abbrev s__law_is_told : Stmt := top 23
abbrev s__law_right : Stmt := top 24
abbrev s_law : Stmt := top 25
theorem sc__law_dice : FnScope ["_law_script", "_law_spot", "_law_cell", "_law_great", "_law_left"] ["_law_script", "_law_spot"] (defScope s__law_dice) := ⟨rfl, rfl, rfl, by decide +kernel, rfl, by decide +kernel, by decide +kernel⟩
theorem sc__law_roll : FnScope ["_law_dice_here", "_law_total", "_law_found", "_law_one", "_law_two"] ["_law_dice_here", "_law_total"] (defScope s__law_roll) := ⟨rfl, rfl, rfl, by decide +kernel, rfl, by decide +kernel, by decide +kernel⟩
theorem sc__law_number : FnScope ["_law_dice_here", "_law_way"] ["_law_dice_here"] (defScope s__law_number) := ⟨rfl, rfl, rfl, by decide +kernel, rfl, by decide +kernel, by decide +kernel⟩
theorem sc__law_drawn : FnScope ["_law_dice_here", "_law_top", "_law_bottom", "_law_more"] ["_law_dice_here"] (defScope s__law_drawn) := ⟨rfl, rfl, rfl, by decide +kernel, rfl, by decide +kernel, by decide +kernel⟩
theorem sc_is_integer : FnScope ["value"] ["value"] (defScope s_is_integer) := ⟨rfl, rfl, rfl, by decide +kernel, rfl, by decide +kernel, by decide +kernel⟩
theorem sc_Ratio___init__ : FnScope ["self", "top", "bottom", "common"] ["self", "top", "bottom"] (defScope s_Ratio___init__) := ⟨rfl, rfl, rfl, by decide +kernel, rfl, by decide +kernel, by decide +kernel⟩
theorem sc__law_lowest : FnScope ["_law_top", "_law_bottom", "_law_one", "_law_other", "_law_turn"] ["_law_top", "_law_bottom"] (defScope s__law_lowest) := ⟨rfl, rfl, rfl, by decide +kernel, rfl, by decide +kernel, by decide +kernel⟩
theorem sc_Ratio_pair : FnScope ["self"] ["self"] (defScope s_Ratio_pair) := ⟨rfl, rfl, rfl, by decide +kernel, rfl, by decide +kernel, by decide +kernel⟩
theorem sc_Ratio_top : FnScope ["self"] ["self"] (defScope s_Ratio_top) := ⟨rfl, rfl, rfl, by decide +kernel, rfl, by decide +kernel, by decide +kernel⟩
theorem sc_Ratio_bottom : FnScope ["self"] ["self"] (defScope s_Ratio_bottom) := ⟨rfl, rfl, rfl, by decide +kernel, rfl, by decide +kernel, by decide +kernel⟩
theorem sc_written : FnScope ["number", "sign", "rest", "blocks", "low"] ["number"] (defScope s_written) := ⟨rfl, rfl, rfl, by decide +kernel, rfl, by decide +kernel, by decide +kernel⟩
theorem sc_Ratio___str__ : FnScope ["self"] ["self"] (defScope s_Ratio___str__) := ⟨rfl, rfl, rfl, by decide +kernel, rfl, by decide +kernel, by decide +kernel⟩
theorem sc_Ratio___bool__ : FnScope ["self"] ["self"] (defScope s_Ratio___bool__) := ⟨rfl, rfl, rfl, by decide +kernel, rfl, by decide +kernel, by decide +kernel⟩
theorem sc__law_text : FnScope ["_law_pair"] ["_law_pair"] (defScope s__law_text) := ⟨rfl, rfl, rfl, by decide +kernel, rfl, by decide +kernel, by decide +kernel⟩
theorem sc_integer_in : FnScope ["text", "figures", "number"] ["text"] (defScope s_integer_in) := ⟨rfl, rfl, rfl, by decide +kernel, rfl, by decide +kernel, by decide +kernel⟩
theorem sc__lowest : FnScope ["top", "bottom", "made", "common"] ["top", "bottom"] (defScope s__lowest) := ⟨rfl, rfl, rfl, by decide +kernel, rfl, by decide +kernel, by decide +kernel⟩
theorem sc_ratio_in : FnScope ["text", "head", "slash", "tail", "top", "bottom", "told"] ["text"] (defScope s_ratio_in) := ⟨rfl, rfl, rfl, by decide +kernel, rfl, by decide +kernel, by decide +kernel⟩
theorem sc_Ratio_of_text : FnScope ["cls", "text", "told"] ["cls", "text"] (defScope s_Ratio_of_text) := ⟨rfl, rfl, rfl, by decide +kernel, rfl, by decide +kernel, by decide +kernel⟩
theorem sc_Ratio___eq__ : FnScope ["self", "other"] ["self", "other"] (defScope s_Ratio___eq__) := ⟨rfl, rfl, rfl, by decide +kernel, rfl, by decide +kernel, by decide +kernel⟩
theorem sc__law_is_told : FnScope ["_law_one", "_law_pair", "_law_told", "_law_same"] ["_law_one", "_law_pair"] (defScope s__law_is_told) := ⟨rfl, rfl, rfl, by decide +kernel, rfl, by decide +kernel, by decide +kernel⟩
theorem sc__law_right : FnScope ["_law_dice_here", "_law_first", "_law_second", "_law_one", "_law_other", "_law_due", "_law_odd", "_law_value"] ["_law_dice_here"] (defScope s__law_right) := ⟨rfl, rfl, rfl, by decide +kernel, rfl, by decide +kernel, by decide +kernel⟩
theorem sc_law : FnScope ["_law_script", "_law_spot", "_law_dice_here", "_law_turn", "_law_told"] ["_law_script"] (defScope s_law) := ⟨rfl, rfl, rfl, by decide +kernel, rfl, by decide +kernel, by decide +kernel⟩
/-- what the top leaves -/
structure Txt (K : PySem.W.Frag) (mg : Str → Option Value) where
  c_Ratio : Addr
  g_Ratio : mg "Ratio" = some (.ref c_Ratio)
  o_Ratio : OwnC K c_Ratio
  n_Ratio : NoNe K c_Ratio
  f_Ratio__top : NoAttr K c_Ratio "_top"
  f_Ratio__bottom : NoAttr K c_Ratio "_bottom"
  a__law_dice : Addr
  d__law_dice : FuncData
  g__law_dice : mg "_law_dice" = some (.ref a__law_dice)
  F__law_dice : Fun K "_law_dice" "_law_dice" s__law_dice a__law_dice d__law_dice
  B__law_dice : Binds K d__law_dice ["_law_script", "_law_spot"] []
  a__law_roll : Addr
  d__law_roll : FuncData
  g__law_roll : mg "_law_roll" = some (.ref a__law_roll)
  F__law_roll : Fun K "_law_roll" "_law_roll" s__law_roll a__law_roll d__law_roll
  B__law_roll : Binds K d__law_roll ["_law_dice_here", "_law_total"] []
  a__law_number : Addr
  d__law_number : FuncData
  g__law_number : mg "_law_number" = some (.ref a__law_number)
  F__law_number : Fun K "_law_number" "_law_number" s__law_number a__law_number d__law_number
  B__law_number : Binds K d__law_number ["_law_dice_here"] []
  a__law_drawn : Addr
  d__law_drawn : FuncData
  g__law_drawn : mg "_law_drawn" = some (.ref a__law_drawn)
  F__law_drawn : Fun K "_law_drawn" "_law_drawn" s__law_drawn a__law_drawn d__law_drawn
  B__law_drawn : Binds K d__law_drawn ["_law_dice_here"] []
  a_is_integer : Addr
  d_is_integer : FuncData
  g_is_integer : mg "is_integer" = some (.ref a_is_integer)
  F_is_integer : Fun K "is_integer" "is_integer" s_is_integer a_is_integer d_is_integer
  B_is_integer : Binds K d_is_integer ["value"] []
  a_Ratio___init__ : Addr
  d_Ratio___init__ : FuncData
  F_Ratio___init__ : Fun K "__init__" "Ratio.__init__" s_Ratio___init__ a_Ratio___init__ d_Ratio___init__
  B_Ratio___init__ : Binds K d_Ratio___init__ ["self", "top", "bottom"] []
  K_Ratio : Mk K c_Ratio a_Ratio___init__
  a__law_lowest : Addr
  d__law_lowest : FuncData
  g__law_lowest : mg "_law_lowest" = some (.ref a__law_lowest)
  F__law_lowest : Fun K "_law_lowest" "_law_lowest" s__law_lowest a__law_lowest d__law_lowest
  B__law_lowest : Binds K d__law_lowest ["_law_top", "_law_bottom"] []
  a_Ratio_pair : Addr
  d_Ratio_pair : FuncData
  F_Ratio_pair : Fun K "pair" "Ratio.pair" s_Ratio_pair a_Ratio_pair d_Ratio_pair
  B_Ratio_pair : Binds K d_Ratio_pair ["self"] []
  p_Ratio_pair : Addr
  P_Ratio_pair : PropOf K c_Ratio "pair" p_Ratio_pair a_Ratio_pair
  a_Ratio_top : Addr
  d_Ratio_top : FuncData
  F_Ratio_top : Fun K "top" "Ratio.top" s_Ratio_top a_Ratio_top d_Ratio_top
  B_Ratio_top : Binds K d_Ratio_top ["self"] []
  p_Ratio_top : Addr
  P_Ratio_top : PropOf K c_Ratio "top" p_Ratio_top a_Ratio_top
  a_Ratio_bottom : Addr
  d_Ratio_bottom : FuncData
  F_Ratio_bottom : Fun K "bottom" "Ratio.bottom" s_Ratio_bottom a_Ratio_bottom d_Ratio_bottom
  B_Ratio_bottom : Binds K d_Ratio_bottom ["self"] []
  p_Ratio_bottom : Addr
  P_Ratio_bottom : PropOf K c_Ratio "bottom" p_Ratio_bottom a_Ratio_bottom
  a_written : Addr
  d_written : FuncData
  g_written : mg "written" = some (.ref a_written)
  F_written : Fun K "written" "written" s_written a_written d_written
  B_written : Binds K d_written ["number"] []
  a_Ratio___str__ : Addr
  d_Ratio___str__ : FuncData
  F_Ratio___str__ : Fun K "__str__" "Ratio.__str__" s_Ratio___str__ a_Ratio___str__ d_Ratio___str__
  B_Ratio___str__ : Binds K d_Ratio___str__ ["self"] []
  M_Ratio___str__ : Meth K c_Ratio "__str__" a_Ratio___str__
  a_Ratio___bool__ : Addr
  d_Ratio___bool__ : FuncData
  F_Ratio___bool__ : Fun K "__bool__" "Ratio.__bool__" s_Ratio___bool__ a_Ratio___bool__ d_Ratio___bool__
  B_Ratio___bool__ : Binds K d_Ratio___bool__ ["self"] []
  M_Ratio___bool__ : Meth K c_Ratio "__bool__" a_Ratio___bool__
  a__law_text : Addr
  d__law_text : FuncData
  g__law_text : mg "_law_text" = some (.ref a__law_text)
  F__law_text : Fun K "_law_text" "_law_text" s__law_text a__law_text d__law_text
  B__law_text : Binds K d__law_text ["_law_pair"] []
  a_integer_in : Addr
  d_integer_in : FuncData
  g_integer_in : mg "integer_in" = some (.ref a_integer_in)
  F_integer_in : Fun K "integer_in" "integer_in" s_integer_in a_integer_in d_integer_in
  B_integer_in : Binds K d_integer_in ["text"] []
  a__lowest : Addr
  d__lowest : FuncData
  g__lowest : mg "_lowest" = some (.ref a__lowest)
  F__lowest : Fun K "_lowest" "_lowest" s__lowest a__lowest d__lowest
  B__lowest : Binds K d__lowest ["top", "bottom"] []
  a_ratio_in : Addr
  d_ratio_in : FuncData
  g_ratio_in : mg "ratio_in" = some (.ref a_ratio_in)
  F_ratio_in : Fun K "ratio_in" "ratio_in" s_ratio_in a_ratio_in d_ratio_in
  B_ratio_in : Binds K d_ratio_in ["text"] []
  a_Ratio_of_text : Addr
  d_Ratio_of_text : FuncData
  F_Ratio_of_text : Fun K "of_text" "Ratio.of_text" s_Ratio_of_text a_Ratio_of_text d_Ratio_of_text
  B_Ratio_of_text : Binds K d_Ratio_of_text ["cls", "text"] []
  p_Ratio_of_text : Addr
  R_Ratio : ClX.CRead K c_Ratio (.type "type")
  Q_Ratio_of_text : ClX.CMet K c_Ratio (.type "type") "of_text" p_Ratio_of_text a_Ratio_of_text
  a_Ratio___eq__ : Addr
  d_Ratio___eq__ : FuncData
  F_Ratio___eq__ : Fun K "__eq__" "Ratio.__eq__" s_Ratio___eq__ a_Ratio___eq__ d_Ratio___eq__
  B_Ratio___eq__ : Binds K d_Ratio___eq__ ["self", "other"] []
  M_Ratio___eq__ : Meth K c_Ratio "__eq__" a_Ratio___eq__
  a__law_is_told : Addr
  d__law_is_told : FuncData
  g__law_is_told : mg "_law_is_told" = some (.ref a__law_is_told)
  F__law_is_told : Fun K "_law_is_told" "_law_is_told" s__law_is_told a__law_is_told d__law_is_told
  B__law_is_told : Binds K d__law_is_told ["_law_one", "_law_pair"] []
  a__law_right : Addr
  d__law_right : FuncData
  g__law_right : mg "_law_right" = some (.ref a__law_right)
  F__law_right : Fun K "_law_right" "_law_right" s__law_right a__law_right d__law_right
  B__law_right : Binds K d__law_right ["_law_dice_here"] []
  a_law : Addr
  d_law : FuncData
  g_law : mg "law" = some (.ref a_law)
  F_law : Fun K "law" "law" s_law a_law d_law
  B_law : Binds K d_law ["_law_script"] []
  b_abs : mg "abs" = none
  b_bool : mg "bool" = none
  b_int : mg "int" = none
  b_isinstance : mg "isinstance" = none
  b_len : mg "len" = none
  b_max : mg "max" = none
  b_min : mg "min" = none
  b_range : mg "range" = none
  b_repr : mg "repr" = none
  b_str : mg "str" = none
  i_gcd : mg "gcd" = some (.builtin "math.gcd")
  t_BEYOND : Tok
  v_BEYOND : mg "BEYOND" = some (.int 1000000000000000000000000000000000000000000000000000000000000 t_BEYOND)
  t_MAX_FIGURES : Tok
  v_MAX_FIGURES : mg "MAX_FIGURES" = some (.int 60 t_MAX_FIGURES)
section
variable {P : Program} {w : World} {K : PySem.W.Frag} {mg : Str → Option Value} {base : Heap}
def sp__law_dice (K : PySem.W.Frag) : Sp := fun vs H Q _ => ∃ (a : Addr) (ns : List Int) (i : Nat), vs = [.ref a, .int i] ∧ SqL K H a (ns.map V.int) ∧ i ≤ 100 ∧
  ∀ (H' : Hp) (p : Addr) (o : HO), (∀ b u, H b = some u → H' b = some u) → H p = none → H' p = some o → Dice 0 o → Q (.ref p) H'
theorem dice_fits {c : Int} {i : Nat} (hi : i ≤ 100) (k : Int) (hk : 0 ≤ k ∧ k ≤ 1) : Dice 0 (.lst [.int (max 0 ((c.natAbs : Int) - 10 ^ Int.toNat 17) % (10 ^ Int.toNat 60 * 10 ^ Int.toNat 60)), .int ((c.natAbs : Int) % 10 ^ Int.toNat 58 % 2147483563 * 41 + 709 * i + 17 * k + 3), .int 0]) := by
  have h1 := Int.emod_nonneg (max 0 ((c.natAbs : Int) - 10 ^ Int.toNat 17)) (show (10 ^ Int.toNat 60 * 10 ^ Int.toNat 60 : Int) ≠ 0 by decide)
  have h2 := Int.emod_lt_of_pos (max 0 ((c.natAbs : Int) - 10 ^ Int.toNat 17)) (show (0 : Int) < 10 ^ Int.toNat 60 * 10 ^ Int.toNat 60 by decide)
  have h3 := Int.emod_nonneg ((c.natAbs : Int) % 10 ^ Int.toNat 58) (show (2147483563 : Int) ≠ 0 by decide)
  have h4 := Int.emod_lt_of_pos ((c.natAbs : Int) % 10 ^ Int.toNat 58) (show (0 : Int) < 2147483563 by decide)
  exact ⟨_, _, _, rfl, ⟨h1, Int.lt_trans h2 (by decide +kernel)⟩, ⟨by omega, Int.lt_of_le_of_lt (show _ ≤ (100000000000 : Int) by omega) (by decide)⟩, by decide, by decide⟩
theorem ok__law_dice (T : Txt K mg) : FnOk P w K mg base CX0 1 T.a__law_dice T.d__law_dice ["_law_script", "_law_spot"] (sp__law_dice K) := by
  refine T.F__law_dice.ok sc__law_dice (fun vs H Q E h => ?_) (fun cdv A outer s H vs Q E hr h => ?_)
  · obtain ⟨a, ns, i, rfl, _⟩ := h; rfl
  · obtain ⟨a, ns, i, rfl, hS, hi, k⟩ := h
    refine ⟨_, (pss_cons (ps_set (i := 2) sc__law_dice.nd rfl (by first | exact Or.inl rfl | exact Or.inr rfl) (peIf (pt_cmpR opLt (pev 1) (pe_callB caLen (by rfl) T.b_len (by decide +kernel) (pa_cons (pev 0) pa_nil)) (nomark _)) (pe_callTy caIntT (by rfl) T.b_int (by decide +kernel) (pa_cons (pe_ix ixU (pev 0) (pev 1) (fun _ _ => rfl)) pa_nil)) (pe_op opAdd (pe_op opMulT pe_int (pev 1)) pe_int)))
        (pss_cons (ps_set (i := 3) sc__law_dice.nd rfl (by first | exact Or.inl rfl | exact Or.inr rfl) (pe_op opMod (pe_callB caAbs (by rfl) T.b_abs (by decide +kernel) (pa_cons (pev 2) pa_nil)) (pe_op opPow pe_int pe_int)))
        (pss_cons (ps_set (i := 4) sc__law_dice.nd rfl (by first | exact Or.inl rfl | exact Or.inr rfl) (pe_callB (caMax rfl) (by rfl) T.b_max (by decide +kernel) (pa_cons pe_int (pa_cons (pe_op opSub (pe_callB caAbs (by rfl) T.b_abs (by decide +kernel) (pa_cons (pev 2) pa_nil)) (pe_op opPow pe_int pe_int)) pa_nil))))
        (pss_one (ps_ret (pe_lst (pa_cons (pe_op opMod (pev 4) (pe_op opMulT (pe_op opPow pe_int pe_int) (pe_op opPow pe_int pe_int))) (pa_cons (pe_op opAdd (pe_op opAdd (pe_op opAdd (pe_op opMulT (pe_op opMod (pev 3) pe_int) pe_int) (pe_op opMulT pe_int (pev 1))) (pe_op opMulT pe_int (pe_callTy caIntT (by rfl) T.b_int (by decide +kernel) (pa_cons (pe_cmpR opLt (pev 2) pe_int (nomark _)) pa_nil)))) pe_int) (pa_cons pe_int pa_nil))))))))), ?_⟩
    conv => whnf
    refine ⟨_, .inl hS, ?_⟩
    conv => whnf
    refine ⟨_, rfl, ?_⟩
    refine brD (fun ha => ?x) (fun ha => ?y)
    case' x =>
      conv => whnf
      obtain ⟨v, hv, ev⟩ := atI_lt (xs := ns.map V.int) (i := i) (by omega) ha
      obtain ⟨c, hc, rfl⟩ := List.mem_map.mp hv
      refine ⟨_, _, .inl hS, ev, ?_⟩
      clear ev hv hc
      conv => whnf
    case' y =>
      conv => whnf
      refine ⟨mulW 20 20 (by decide) (U.abs_lt (by omega) (by omega)), ?_⟩
      conv => whnf
      generalize 59 * (i : Int) + 13 = c
    all_goals
      refine ⟨⟨by decide, by decide, by decide⟩, ?_⟩
      conv => whnf
      refine ⟨by decide, ?_⟩
      conv => whnf
      refine ⟨⟨by decide, by decide, by decide⟩, ?_⟩
      conv => whnf
      refine ⟨⟨by decide, by decide, by decide⟩, ?_⟩
      conv => whnf
      refine ⟨⟨by decide, by decide, by decide⟩, ?_⟩
      conv => whnf
      refine ⟨mulW 250 250 (by decide) (by decide), ?_⟩
      conv => whnf
      refine ⟨by decide, ?_⟩
      conv => whnf
      refine ⟨by decide, ?_⟩
      conv => whnf
      have h3 := Int.emod_nonneg ((c.natAbs : Int) % 10 ^ Int.toNat 58) (show (2147483563 : Int) ≠ 0 by decide)
      have h4 := Int.emod_lt_of_pos ((c.natAbs : Int) % 10 ^ Int.toNat 58) (show (0 : Int) < 2147483563 by decide)
      refine ⟨mulW 64 64 (U.abs_lt h3 (by omega)) (by decide), ?_⟩
      conv => whnf
      refine ⟨mulW 64 64 (by decide) (U.abs_lt (by omega) (by omega)), ?_⟩
      conv => whnf
      refine ⟨mulW 64 64 (by decide) (by split <;> decide), ?_⟩
      conv => whnf
      refine ⟨small_ok (by simp), fun p hp => ?_⟩
      exact k _ p _ (fun b u e => by rw [upd_ne (ne_of_none e hp)]; exact e) hp upd_same (dice_fits hi _ (by split <;> decide))
def sp__law_roll (K : PySem.W.Frag) : Sp := fun vs H Q _ => ∃ (d : Addr) (n : Nat) (t : Int) (o : HO), vs = [.ref d, .int t] ∧ H d = some o ∧ Dice n o ∧ n ≤ 1000000 ∧ 1 ≤ t ∧ t < 2 ^ 5000 ∧
  ∀ (H' : Hp) (r : Int) (o' : HO), (∀ b u, H b = some u → b ≠ d → H' b = some u) → H' d = some o' → Dice (n + 1) o' → 0 ≤ r → r < t → Q (.int r) H'
theorem ok__law_roll (T : Txt K mg) : FnOk P w K mg base CX0 1 T.a__law_roll T.d__law_roll ["_law_dice_here", "_law_total"] (sp__law_roll K) := by
  refine T.F__law_roll.ok sc__law_roll (fun vs H Q E h => ?_) (fun cdv A outer s H vs Q E hr h => ?_)
  · obtain ⟨d, n, t, o, rfl, _⟩ := h; rfl
  · obtain ⟨d, n, t, o, rfl, hd, ⟨a, b, c, rfl, ⟨a0, a1⟩, ⟨b0, b1⟩, ⟨c0, c1⟩⟩, hn, t1, t2, k⟩ := h
    refine ⟨_, (pss_cons (psIf (pt_cmpR opGt (pe_ix ixU (pev 0) pe_int (fun _ _ => rfl)) pe_int (nomark _)) (pss_cons (ps_set (i := 2) sc__law_roll.nd rfl (by first | exact Or.inl rfl | exact Or.inr rfl) (pe_op opMod (pe_callTy caIntT (by rfl) T.b_int (by decide +kernel) (pa_cons (pe_ix ixU (pev 0) pe_int (fun _ _ => rfl)) pa_nil)) (pev 1)))
        (pss_cons (ps_asg (pe_op opDiv (pe_ix ixU (pev 0) pe_int (fun _ _ => rfl)) (pev 1)) (pg_sub (pev 0) pe_int set_list))
        (pss_one (ps_ret (pev 2))))) pss_nil)
        (pss_cons (ps_asg (pe_op opAdd (pe_ix ixU (pev 0) pe_int (fun _ _ => rfl)) pe_int) (pg_sub (pev 0) pe_int set_list))
        (pss_cons (ps_set (i := 3) sc__law_roll.nd rfl (by first | exact Or.inl rfl | exact Or.inr rfl) (pe_op opMod (pe_callTy caIntT (by rfl) T.b_int (by decide +kernel) (pa_cons (pe_op opAdd (pe_ix ixU (pev 0) pe_int (fun _ _ => rfl)) (pe_op opMulT pe_int (pe_ix ixU (pev 0) pe_int (fun _ _ => rfl)))) pa_nil)) pe_int))
        (pss_cons (ps_set (i := 4) sc__law_roll.nd rfl (by first | exact Or.inl rfl | exact Or.inr rfl) (pe_op opAdd (pe_op opMulT (pe_op opMod (pe_callTy caIntT (by rfl) T.b_int (by decide +kernel) (pa_cons (pe_op opAdd (pe_op opMulT (pev 3) (pev 3)) (pe_op opMulT pe_int (pe_ix ixU (pev 0) pe_int (fun _ _ => rfl)))) pa_nil)) pe_int) pe_int) (pev 3)))
        (pss_one (ps_ret (pe_op opMod (pe_callTy caIntT (by rfl) T.b_int (by decide +kernel) (pa_cons (pe_op opDiv (pev 4) pe_int) pa_nil)) (pev 1)))))))), ?_⟩
    conv => whnf
    refine ⟨_, _, .inl (SqL.of hd), rfl, ?_⟩
    conv => whnf
    refine ⟨_, rfl, ?_⟩
    refine brD (fun ha => ?_) (fun ha => ?_)
    · conv => whnf
      refine ⟨_, _, .inl (SqL.of hd), rfl, ?_⟩
      conv => whnf
      refine ⟨by omega, ?_⟩
      conv => whnf
      refine ⟨_, _, .inl (SqL.of hd), rfl, ?_⟩
      conv => whnf
      refine ⟨divW 5000 (by omega) (U.abs_lt (by omega) t2), ?_⟩
      conv => whnf
      refine ⟨_, _, _, _, rfl, rfl, hd, rfl, ?_⟩
      conv => whnf
      refine k _ _ _ (fun b u e n => by rw [upd_ne n]; exact e) upd_same ⟨a / t, b, c, rfl, ⟨Int.ediv_nonneg a0 (by omega), ?_⟩, ⟨b0, b1⟩, c0, by omega⟩ (Int.emod_nonneg _ (by omega)) (Int.emod_lt_of_pos _ (by omega))
      exact Int.lt_of_le_of_lt (Int.ediv_le_self _ a0) a1
    · conv => whnf
      refine ⟨_, _, .inl (SqL.of hd), rfl, ?_⟩
      conv => whnf
      refine ⟨_, _, _, _, rfl, rfl, hd, rfl, ?_⟩
      conv => whnf
      refine ⟨_, _, .inl (SqL.of upd_same), rfl, ?_⟩
      conv => whnf
      refine ⟨_, _, .inl (SqL.of upd_same), rfl, ?_⟩
      conv => whnf
      refine ⟨mulW 20 300 (by decide) (U.abs_lt (by omega) (by omega)), ?_⟩
      conv => whnf
      refine ⟨by decide, ?_⟩
      conv => whnf
      have hm := Int.emod_lt_of_pos (b + 8111 * (c + 1)) (show (0 : Int) < 2305843009213693723 by decide)
      have hm0 := Int.emod_nonneg (b + 8111 * (c + 1)) (show (2305843009213693723 : Int) ≠ 0 by decide)
      generalize (b + 8111 * (c + 1)) % 2305843009213693723 = x at hm hm0 ⊢
      refine ⟨mulW 64 64 (U.abs_lt hm0 (by omega)) (U.abs_lt hm0 (by omega)), ?_⟩
      conv => whnf
      refine ⟨_, _, .inl (SqL.of upd_same), rfl, ?_⟩
      conv => whnf
      refine ⟨mulW 20 300 (by decide) (U.abs_lt (by omega) (by omega)), ?_⟩
      conv => whnf
      refine ⟨by decide, ?_⟩
      conv => whnf
      have hy := Int.emod_lt_of_pos (x * x + 71 * (c + 1)) (show (0 : Int) < 2305843009213693669 by decide)
      have hy0 := Int.emod_nonneg (x * x + 71 * (c + 1)) (show (2305843009213693669 : Int) ≠ 0 by decide)
      generalize (x * x + 71 * (c + 1)) % 2305843009213693669 = y at hy hy0 ⊢
      refine ⟨mulW 64 64 (U.abs_lt hy0 (by omega)) (by decide), ?_⟩
      conv => whnf
      refine ⟨divW 20 (by decide) (by decide), ?_⟩
      conv => whnf
      refine ⟨by omega, ?_⟩
      conv => whnf
      exact k _ _ _ (fun b u e n => by rw [upd_ne n]; exact e) upd_same ⟨a, b, c + 1, rfl, ⟨a0, a1⟩, ⟨b0, b1⟩, by omega, by omega⟩ (Int.emod_nonneg _ (by omega)) (Int.emod_lt_of_pos _ (by omega))
def sp__law_number (K : PySem.W.Frag) : Sp := fun vs H Q _ => ∃ (d : Addr) (n : Nat) (o : HO), vs = [.ref d] ∧ H d = some o ∧ Dice n o ∧ n ≤ 900000 ∧
  ∀ (H' : Hp) (o' : HO) (z : Int), (∀ b u, H b = some u → b ≠ d → H' b = some u) → H' d = some o' → Dice (n + 3) o' → 0 ≤ z → z < 10 ^ 60 → Q (.int z) H'
theorem ok__law_number (T : Txt K mg) : FnOk P w K mg base CX0 2 T.a__law_number T.d__law_number ["_law_dice_here"] (sp__law_number K) := by
  refine T.F__law_number.ok sc__law_number (fun vs H Q E h => ?_) (fun cdv A outer s H vs Q E hr h => ?_)
  · obtain ⟨d, n, o, rfl, _⟩ := h; rfl
  · obtain ⟨d, n, o, rfl, hd, D0, hn, k⟩ := h
    refine ⟨_, (pss_cons (ps_set (i := 1) sc__law_number.nd rfl (by first | exact Or.inl rfl | exact Or.inr rfl) (pe_call (ok__law_roll T) (hr.mono (by decide)) (by rfl) T.g__law_roll T.F__law_roll.kp T.B__law_roll .nil pass0 (pa_cons (pev 0) (pa_cons pe_int pa_nil))))
        (pss_cons (psIf (pt_cmpR (opEq (hu64 hr)) (pev 1) pe_int (nomark _)) (pss_one (ps_ret (pe_op opAdd (pe_call (ok__law_roll T) (hr.mono (by decide)) (by rfl) T.g__law_roll T.F__law_roll.kp T.B__law_roll .nil pass0 (pa_cons (pev 0) (pa_cons (pe_op opSub (pe_op opPow pe_int pe_int) pe_int) pa_nil))) pe_int))) pss_nil)
        (pss_one (ps_ret (pe_ix ixU (pe_lst (pa_cons pe_int (pa_cons (pe_call (ok__law_roll T) (hr.mono (by decide)) (by rfl) T.g__law_roll T.F__law_roll.kp T.B__law_roll .nil pass0 (pa_cons (pev 0) (pa_cons pe_int pa_nil))) (pa_cons (pe_call (ok__law_roll T) (hr.mono (by decide)) (by rfl) T.g__law_roll T.F__law_roll.kp T.B__law_roll .nil pass0 (pa_cons (pev 0) (pa_cons (pe_op opPow pe_int pe_int) pa_nil))) pa_nil)))) (pe_op opSub (pev 1) pe_int) (fun _ _ => rfl)))))), ?_⟩
    have L0 := At.start1 hd
    conv => whnf
    refine ⟨d, n, 4, o, rfl, hd, D0, by omega, by decide, by decide, fun H1 r1 o1 f1 g1 D1 a1 b1 => ?_⟩
    have L1 := L0.set f1 g1
    conv => whnf
    refine ⟨_, rfl, ?_⟩
    refine brD (fun h => ?_) (fun h => ?_)
    · conv => whnf
      refine ⟨⟨by decide, by decide, by decide⟩, ?_⟩
      conv => whnf
      refine ⟨d, _, _, o1, rfl, g1, D1, by omega, by decide, by decide, fun H2 r2 o2 f2 g2 D2 a2 b2 => ?_⟩
      have L2' := L1.set f2 g2
      have b2' : r2 < 10 ^ 60 - 1 := b2
      conv => whnf
      exact k _ _ _ (At.keep1 L2') (L2'.getM (.head _)) (D2.up (by omega)) (by omega) (by omega)
    · have r4 : r1 ≠ 0 := fun e => h (by rw [e])
      conv => whnf
      refine ⟨d, _, 13, o1, rfl, g1, D1, by omega, by decide, by decide, fun H2 r2 o2 f2 g2 D2 a2 b2 => ?_⟩
      have L2' := L1.set f2 g2
      conv => whnf
      refine ⟨⟨by decide, by decide, by decide⟩, ?_⟩
      conv => whnf
      refine ⟨d, _, _, o2, rfl, g2, D2, by omega, by decide, by decide, fun H3 r3 o3 f3 g3 D3 a3 b3 => ?_⟩
      have L3 := L2'.set f3 g3
      have b3' : r3 < 10 ^ 9 := b3
      conv => whnf
      refine ⟨small_ok (by simp), fun p hp => ?_⟩
      have L4 := L3.new (o := .lst [.int 0, .int r2, .int r3]) hp
      conv => whnf
      obtain ⟨v, hv, ev⟩ := atI_lt (xs := [V.int 0, .int r2, .int r3]) (i := r1 - 1) (by omega) (by show r1 - 1 < 3; omega)
      refine ⟨_, v, .inl (SqL.of upd_same), ev, ?_⟩
      have hz : ∃ z : Int, v = .int z ∧ 0 ≤ z ∧ z < 10 ^ 60 := by
        simp only [List.mem_cons, List.not_mem_nil, or_false] at hv
        rcases hv with rfl | rfl | rfl
        · exact ⟨_, rfl, by decide, by decide⟩
        · exact ⟨_, rfl, by omega, by omega⟩
        · exact ⟨_, rfl, by omega, by omega⟩
      obtain ⟨z, rfl, z0, z1⟩ := hz
      exact k _ _ _ (At.keep1 L4) (L4.getM (.head _)) D3 z0 z1
theorem mul_small {p m : Int} (h : p.natAbs < 10 ^ 50) (h0 : 0 < m) (h1 : m ≤ 10 ^ 9) : (p * m).natAbs < 10 ^ 60 := by
  rw [Int.natAbs_mul]
  have h2 : m.natAbs ≤ 10 ^ 9 := by omega
  have : p.natAbs * m.natAbs ≤ p.natAbs * 10 ^ 9 := Nat.mul_le_mul_left _ h2
  omega
def sp__law_drawn (K : PySem.W.Frag) : Sp := fun vs H Q _ => ∃ (d : Addr) (n : Nat) (o : HO), vs = [.ref d] ∧ H d = some o ∧ Dice n o ∧ n ≤ 800000 ∧
  ∀ (H' : Hp) (x : Addr) (o' : HO) (p q : Int), (∀ b u, H b = some u → b ≠ d → H' b = some u) → H' d = some o' → Dice (n + 9) o' → H x = none → H' x = some (.tup [.int p, .int q]) → (-(10 ^ 60) < p ∧ p < 10 ^ 60) → (0 < q ∧ q < 10 ^ 60) → Q (.ref x) H'
theorem ok__law_drawn (T : Txt K mg) : FnOk P w K mg base CX0 3 T.a__law_drawn T.d__law_drawn ["_law_dice_here"] (sp__law_drawn K) := by
  refine T.F__law_drawn.ok sc__law_drawn (fun vs H Q E h => ?_) (fun cdv A outer s H vs Q E hr h => ?_)
  · obtain ⟨d, n, o, rfl, _⟩ := h; rfl
  · obtain ⟨d, n, o, rfl, hd, D0, hn, k⟩ := h
    refine ⟨_, (pss_cons (ps_par (i := 1) (j := 2) (by rfl) sc__law_drawn.nd rfl rfl (by decide) rfl rfl (pa_cons (pe_call (ok__law_number T) (hr.mono (by decide)) (by rfl) T.g__law_number T.F__law_number.kp T.B__law_number .nil pass0 (pa_cons (pev 0) pa_nil)) (pa_cons (pe_callB (caMax rfl) (by rfl) T.b_max (by decide +kernel) (pa_cons pe_int (pa_cons (pe_call (ok__law_number T) (hr.mono (by decide)) (by rfl) T.g__law_number T.F__law_number.kp T.B__law_number .nil pass0 (pa_cons (pev 0) pa_nil)) pa_nil))) pa_nil)) (by rfl))
        (pss_cons (ps_set (i := 1) sc__law_drawn.nd rfl (by first | exact Or.inl rfl | exact Or.inr rfl) (peIf (pt_cmpR opGt (pe_call (ok__law_roll T) (hr.mono (by decide)) (by rfl) T.g__law_roll T.F__law_roll.kp T.B__law_roll .nil pass0 (pa_cons (pev 0) (pa_cons pe_int pa_nil))) pe_int (nomark _)) (pev 1) (pe_un unNeg (pev 1))))
        (pss_cons (psIf (PW.pt (pwAnd (pt_cmpR (opEq (hu64 hr)) (pe_call (ok__law_roll T) (hr.mono (by decide)) (by rfl) T.g__law_roll T.F__law_roll.kp T.B__law_roll .nil pass0 (pa_cons (pev 0) (pa_cons pe_int pa_nil))) pe_int (nomark _)) (pw_and1 (pt_cmpR opLt (pe_callB (caMax rfl) (by rfl) T.b_max (by decide +kernel) (pa_cons (pe_callB caAbs (by rfl) T.b_abs (by decide +kernel) (pa_cons (pev 1) pa_nil)) (pa_cons (pev 2) pa_nil))) (pe_op opPow pe_int pe_int) (nomark _))))) (pss_cons (ps_set (i := 3) sc__law_drawn.nd rfl (by first | exact Or.inl rfl | exact Or.inr rfl) (pe_op opAdd pe_int (pe_call (ok__law_roll T) (hr.mono (by decide)) (by rfl) T.g__law_roll T.F__law_roll.kp T.B__law_roll .nil pass0 (pa_cons (pev 0) (pa_cons (pe_op opPow pe_int pe_int) pa_nil)))))
        (pss_one (ps_ret (pe_tup (pa_cons (pe_op opMulT (pev 1) (pev 3)) (pa_cons (pe_op opMulT (pev 2) (pev 3)) pa_nil)))))) pss_nil)
        (pss_one (ps_ret (pe_tup (pa_cons (pev 1) (pa_cons (pev 2) pa_nil)))))))), ?_⟩
    have L0 := At.start1 hd
    conv => whnf
    refine ⟨d, n, o, rfl, hd, D0, by omega, fun H1 o1 z1 f1 g1 D1 a1 b1 => ?_⟩
    have L1 := L0.set f1 g1
    conv => whnf
    refine ⟨d, _, o1, rfl, g1, D1, by omega, fun H2 o2 z2 f2 g2 D2 a2 b2 => ?_⟩
    have L2' := L1.set f2 g2
    conv => whnf
    have m0 : 0 < max 1 z2 := by omega
    have m1 : max 1 z2 < 10 ^ 60 := by omega
    generalize max 1 z2 = q at m0 m1 ⊢
    refine ⟨_, _, rfl, ?_⟩
    conv => whnf
    refine ⟨d, _, 3, o2, rfl, g2, D2, by omega, by decide, by decide, fun H3 r3 o3 f3 g3 D3 a3 b3 => ?_⟩
    have L3 := L2'.set f3 g3
    conv => whnf
    refine ⟨_, rfl, ?_⟩
    refine brD (fun h => ?_) (fun h => ?_)
    · have p0 : -(10 ^ 60) < z1 := by omega
      have p1 : z1 < 10 ^ 60 := by omega
      conv => whnf
      refine ⟨d, _, 2, o3, rfl, g3, D3, by omega, by decide, by decide, fun H4 r4 o4 f4 g4 D4 a4 b4 => ?_⟩
      have L4 := L3.set f4 g4
      conv => whnf
      refine ⟨_, rfl, ?_⟩
      refine brD (fun h2 => ?_) (fun h2 => ?_)
      · conv => whnf
        refine ⟨⟨by decide, by decide, by decide⟩, ?_⟩
        conv => whnf
        refine ⟨_, rfl, ?_⟩
        refine brD (fun h3 => ?_) (fun h3 => ?_)
        · conv => whnf
          refine ⟨⟨by decide, by decide, by decide⟩, ?_⟩
          conv => whnf
          refine ⟨d, _, _, o4, rfl, g4, D4, by omega, by decide, by decide, fun H5 r5 o5 f5 g5 D5 a5 b5 => ?_⟩
          have L5 := L4.set f5 g5
          have b5' : r5 < 10 ^ 9 := b5
          have h3' : max (((Int.natAbs z1 : Nat) : Int)) q < 10 ^ 50 := h3
          conv => whnf
          refine ⟨mulW 200 40 (by omega) (by omega), ?_⟩
          conv => whnf
          refine ⟨mulW 200 40 (by omega) (by omega), ?_⟩
          conv => whnf
          refine ⟨small_ok (by simp), fun x hx => ?_⟩
          have L6 := L5.new (o := .tup [.int (z1 * (1 + r5)), .int (q * (1 + r5))]) hx
          have e1 := mul_small (p := q) (m := 1 + r5) (by omega) (by omega) (by omega)
          have e2 := mul_small (p := z1) (m := 1 + r5) (by omega) (by omega) (by omega)
          exact k _ x o5 _ _ (At.keep1 L6) (L6.getM (.head _)) (D5.up (by omega)) (L5.no0 (one_dead g5) hx) upd_same ⟨by omega, by omega⟩ ⟨Int.mul_pos m0 (by omega), by omega⟩
        · conv => whnf
          refine ⟨small_ok (by simp), fun x hx => ?_⟩
          have L6 := L4.new (o := .tup [.int z1, .int q]) hx
          exact k _ x o4 _ _ (At.keep1 L6) (L6.getM (.head _)) (D4.up (by omega)) (L4.no0 (one_dead g4) hx) upd_same ⟨p0, p1⟩ ⟨m0, m1⟩
      · refine brF ?_
        conv => whnf
        refine ⟨small_ok (by simp), fun x hx => ?_⟩
        have L6 := L4.new (o := .tup [.int z1, .int q]) hx
        exact k _ x o4 _ _ (At.keep1 L6) (L6.getM (.head _)) (D4.up (by omega)) (L4.no0 (one_dead g4) hx) upd_same ⟨p0, p1⟩ ⟨m0, m1⟩
    · have p0 : -(10 ^ 60) < (-z1) := by omega
      have p1 : (-z1) < 10 ^ 60 := by omega
      conv => whnf
      conv => whnf
      refine ⟨d, _, 2, o3, rfl, g3, D3, by omega, by decide, by decide, fun H4 r4 o4 f4 g4 D4 a4 b4 => ?_⟩
      have L4 := L3.set f4 g4
      conv => whnf
      refine ⟨_, rfl, ?_⟩
      refine brD (fun h2 => ?_) (fun h2 => ?_)
      · conv => whnf
        refine ⟨⟨by decide, by decide, by decide⟩, ?_⟩
        conv => whnf
        refine ⟨_, rfl, ?_⟩
        refine brD (fun h3 => ?_) (fun h3 => ?_)
        · conv => whnf
          refine ⟨⟨by decide, by decide, by decide⟩, ?_⟩
          conv => whnf
          refine ⟨d, _, _, o4, rfl, g4, D4, by omega, by decide, by decide, fun H5 r5 o5 f5 g5 D5 a5 b5 => ?_⟩
          have L5 := L4.set f5 g5
          have b5' : r5 < 10 ^ 9 := b5
          have h3' : max (((Int.natAbs (-z1) : Nat) : Int)) q < 10 ^ 50 := h3
          conv => whnf
          refine ⟨mulW 200 40 (by omega) (by omega), ?_⟩
          conv => whnf
          refine ⟨mulW 200 40 (by omega) (by omega), ?_⟩
          conv => whnf
          refine ⟨small_ok (by simp), fun x hx => ?_⟩
          have L6 := L5.new (o := .tup [.int ((-z1) * (1 + r5)), .int (q * (1 + r5))]) hx
          have e1 := mul_small (p := q) (m := 1 + r5) (by omega) (by omega) (by omega)
          have e2 := mul_small (p := (-z1)) (m := 1 + r5) (by omega) (by omega) (by omega)
          exact k _ x o5 _ _ (At.keep1 L6) (L6.getM (.head _)) (D5.up (by omega)) (L5.no0 (one_dead g5) hx) upd_same ⟨by omega, by omega⟩ ⟨Int.mul_pos m0 (by omega), by omega⟩
        · conv => whnf
          refine ⟨small_ok (by simp), fun x hx => ?_⟩
          have L6 := L4.new (o := .tup [.int (-z1), .int q]) hx
          exact k _ x o4 _ _ (At.keep1 L6) (L6.getM (.head _)) (D4.up (by omega)) (L4.no0 (one_dead g4) hx) upd_same ⟨p0, p1⟩ ⟨m0, m1⟩
      · refine brF ?_
        conv => whnf
        refine ⟨small_ok (by simp), fun x hx => ?_⟩
        have L6 := L4.new (o := .tup [.int (-z1), .int q]) hx
        exact k _ x o4 _ _ (At.keep1 L6) (L6.getM (.head _)) (D4.up (by omega)) (L4.no0 (one_dead g4) hx) upd_same ⟨p0, p1⟩ ⟨m0, m1⟩
/-- an integer that is let -/
def isIntV : V → Bool
  | .int i => decide (-(10 ^ 60) < i) && decide (i < 10 ^ 60)
  | _ => false
def sp_is_integer (K : PySem.W.Frag) : Sp := fun vs H Q _ => ∃ (v : V) (T : String), vs = [v] ∧ Kd K H v T ∧ Q (.bl (isIntV v)) H
theorem isIntV_not {K : PySem.W.Frag} {H : Hp} {v : V} {T : String} (h : Kd K H v T) (n : T ≠ "int") : isIntV v = false := by
  cases v with
  | int i => exact absurd h.ofInt n
  | _ => rfl
theorem ok_is_integer (T : Txt K mg) : FnOk P w K mg base CX0 1 T.a_is_integer T.d_is_integer ["value"] (sp_is_integer K) := by
  refine T.F_is_integer.ok sc_is_integer (fun vs H Q E h => ?_) (fun cdv A outer s H vs Q E hr h => ?_)
  · obtain ⟨v, S, rfl, _⟩ := h; rfl
  · obtain ⟨v, S, rfl, hk, k⟩ := h
    refine ⟨_, (pss_cons (psIf (PW.pt (pwOr (pt_not (ptV (pe_callB call_isi (by rfl) T.b_isinstance (by decide +kernel) (pa_cons (pev 0) (pa_cons (pe_bltn (v := .ty "int") (by rfl) T.b_int (by decide +kernel) rfl) pa_nil))))) (pw_or1 (ptV (pe_callB call_isi (by rfl) T.b_isinstance (by decide +kernel) (pa_cons (pev 0) (pa_cons (pe_bltn (v := .ty "bool") (by rfl) T.b_bool (by decide +kernel) rfl) pa_nil))))))) (pss_one (ps_ret pe_bl)) pss_nil)
        (pss_one (ps_ret (pe_chain opLt opLt (pe_un unNeg (pe_glob (v := .int 1000000000000000000000000000000000000000000000000000000000000) (by rfl) T.v_BEYOND ⟨_, rfl⟩)) (pev 0) (pe_glob (v := .int 1000000000000000000000000000000000000000000000000000000000000) (by rfl) T.v_BEYOND ⟨_, rfl⟩))))), ?_⟩
    conv => whnf
    refine ⟨_, _, _, _, _, rfl, .ty _, hk.1, kit_ty (kd_int hk.2), ?_⟩
    conv => whnf
    by_cases h1 : S = "int"
    · subst h1
      obtain ⟨i, rfl⟩ := hk.isInt
      refine brF ?_
      conv => whnf
      refine ⟨_, _, _, _, _, rfl, .ty _, hk.1, kit_ty (kd_bool hk.2), ?_⟩
      conv => whnf
      refine brF ?_
      conv => whnf
      refine ⟨_, rfl, ?_⟩
      refine ite2 (fun h => ?_) (fun h => ?_)
      · conv => whnf
        have e : isIntV (.int i) = decide (i < 1000000000000000000000000000000000000000000000000000000000000) := by
          show (decide _ && decide _) = _
          rw [show decide (-(10 ^ 60 : Int) < i) = true from h]; rfl
        rw [e] at k
        exact k
      · conv => whnf
        have e : isIntV (.int i) = false := by
          show (decide _ && decide _) = _
          rw [show decide (-(10 ^ 60 : Int) < i) = false from Bool.eq_false_iff.mpr h]; rfl
        rw [e] at k
        exact k
    · by_cases h2 : S = "bool"
      · subst h2
        refine brF ?_
        conv => whnf
        refine ⟨_, _, _, _, _, rfl, .ty _, hk.1, kit_ty (kd_bool hk.2), ?_⟩
        conv => whnf
        refine brT ?_
        conv => whnf
        rw [isIntV_not hk h1] at k
        exact k
      · refine brY (by simp [h1, h2]) ?_
        conv => whnf
        refine brT ?_
        conv => whnf
        rw [isIntV_not hk h1] at k
        exact k
def sp_Ratio___init__ (K : PySem.W.Frag) (C : Addr) : Sp := fun vs H Q _ => ∃ (a dx : Addr) (p q : Int), vs = [.ref a, .int p, .int q] ∧ H a = some (.ins C dx []) ∧ (-(10 ^ 60) < p ∧ p < 10 ^ 60) ∧ (0 < q ∧ q < 10 ^ 60) ∧
  ∀ H' : Hp, (∀ b u, H b = some u → b ≠ a → H' b = some u) → H' a = some (.ins C dx (rf (p / gcdI p q) (q / gcdI p q))) → Q .non H'
theorem make_R {K : PySem.W.Frag} {C : Addr} {H : Hp} {p q : Int} {R : Hp → Prop} {E : XK} {x dx : Addr} (hx : H x = none) (hd : H dx = none) (ne : dx ≠ x) (hp : -(10 ^ 60) < p ∧ p < 10 ^ 60) (hq : 0 < q ∧ q < 10 ^ 60) (k : ∀ H' : Hp, Gr H H' → IsR C H' (.ref x) (p / gcdI p q) (q / gcdI p q) → R H') :
    sp_Ratio___init__ K C (.ref x :: ([.int p, .int q] ++ [])) (upd (upd H dx (.own x)) x (.ins C dx [])) (fun v H2 => v = .non ∧ R H2) E :=
  ⟨x, dx, p, q, rfl, upd_same, hp, hq, fun H' s e => ⟨rfl, k _ (fun b u eb => s b u (by rw [upd_ne (ne_of_none eb hx), upd_ne (ne_of_none eb hd)]; exact eb) (ne_of_none eb hx)) ⟨x, dx, rfl, e⟩⟩⟩
theorem ok_Ratio___init__ (T : Txt K mg) : FnOk P w K mg base CX0 2 T.a_Ratio___init__ T.d_Ratio___init__ ["self", "top", "bottom"] (sp_Ratio___init__ K T.c_Ratio) := by
  refine T.F_Ratio___init__.ok sc_Ratio___init__ (fun vs H Q E h => ?_) (fun cdv A outer s H vs Q E hr h => ?_)
  · obtain ⟨a, dx, p, q, rfl, _⟩ := h; rfl
  · obtain ⟨a, dx, p, q, rfl, ha, ⟨p0, p1⟩, ⟨q0, q1⟩, k⟩ := h
    refine ⟨_, (pss_cons (psIf (PW.pt (pwOr (pt_not (ptV (pe_call (ok_is_integer T) (hr.mono (by decide)) (by rfl) T.g_is_integer T.F_is_integer.kp T.B_is_integer .nil pass0 (pa_cons (pev 1) pa_nil)))) (pwOr (pt_not (ptV (pe_call (ok_is_integer T) (hr.mono (by decide)) (by rfl) T.g_is_integer T.F_is_integer.kp T.B_is_integer .nil pass0 (pa_cons (pev 2) pa_nil)))) (pw_or1 (pt_cmpR opLt (pev 2) pe_int (nomark _)))))) (pss_one ps_never) pss_nil)
        (pss_cons (ps_set (i := 3) sc_Ratio___init__.nd rfl (by first | exact Or.inl rfl | exact Or.inr rfl) (pe_callBfun cr_gcd (by rfl) T.i_gcd (pa_cons (pev 1) (pa_cons (pev 2) pa_nil))))
        (pss_cons (ps_fld (pev 0) (pe_op opDiv (pev 1) (pev 3)) rfl)
        (pss_one (ps_fld (pev 0) (pe_op opDiv (pev 2) (pev 3)) rfl))))), ?_⟩
    have g0 := gcdI_pos (a := p) q0
    have g1 := gcdI_le (a := p) q0
    have gb : (gcdI p q).natAbs < 2 ^ 200 := U.abs_lt (by omega) (by omega)
    have ip : isIntV (.int p) = true := by
      show (decide (-(10 ^ 60) < p) && decide (p < 10 ^ 60)) = true
      simp only [Bool.and_eq_true, decide_eq_true_iff]; exact ⟨p0, p1⟩
    have iq : isIntV (.int q) = true := by
      show (decide (-(10 ^ 60) < q) && decide (q < 10 ^ 60)) = true
      simp only [Bool.and_eq_true, decide_eq_true_iff]; exact ⟨by omega, q1⟩
    conv => whnf
    refine ⟨_, _, rfl, Kd.int p, ?_⟩
    rw [ip]
    conv => whnf
    refine brF ?_
    conv => whnf
    refine ⟨_, _, rfl, Kd.int q, ?_⟩
    rw [iq]
    conv => whnf
    refine brF ?_
    conv => whnf
    refine ⟨_, rfl, ?_⟩
    refine brN (decide_eq_false (by omega)) ?_
    conv => whnf
    refine ⟨_, _, rfl, ?_⟩
    conv => whnf
    refine ⟨divW 200 g0 gb, ?_⟩
    conv => whnf
    refine ⟨a, T.c_Ratio, dx, _, rfl, ha, T.o_Ratio.cl, T.f_Ratio__top, by decide, ?_⟩
    conv => whnf
    refine ⟨divW 200 g0 gb, ?_⟩
    conv => whnf
    refine ⟨a, T.c_Ratio, dx, _, rfl, upd_same, T.o_Ratio.cl, T.f_Ratio__bottom, (by show 1 < 1000; decide), ?_⟩
    conv => whnf
    refine k _ (fun b u e n => by rw [upd_ne n, upd_ne n]; exact e) ?_
    rw [upd_same]
    exact congrArg (fun l => some (HO.ins T.c_Ratio dx l)) (rf_mk _ _)
/-- Euclid's pairs behind i turns -/
def Eu (t b : Int) (i : Nat) (x y : Int) : Prop := 0 ≤ x ∧ 0 ≤ y ∧ Nat.gcd x.natAbs y.natAbs = Nat.gcd t.natAbs b.natAbs ∧ ((i = 0 ∧ x = t.natAbs ∧ y = b) ∨ (1 ≤ i ∧ y < x ∧ x * y * 2 ^ (i - 1) < 2 ^ 399))
theorem Eu.start {t b : Int} (h : 0 < b) : Eu t b 0 t.natAbs b := ⟨by omega, by omega, by rw [Int.natAbs_natCast], .inl ⟨rfl, rfl, rfl⟩⟩
theorem Eu.turn {t b x y : Int} {i : Nat} (hb : b < 10 ^ 60) (e : Eu t b i x y) (h : y ≠ 0) : Eu t b (i + 1) y (x % y) := by
  obtain ⟨x0, y0, g, c⟩ := e
  have yp : 0 < y := by omega
  have r0 := Int.emod_nonneg x h
  have r1 := Int.emod_lt_of_pos x yp
  refine ⟨y0, r0, ?_, .inr ⟨by omega, r1, ?_⟩⟩
  · rw [← g, Int.natAbs_emod_of_nonneg x0, Nat.gcd_comm x.natAbs, Nat.gcd_comm y.natAbs (x.natAbs % y.natAbs), ← Nat.gcd_rec]
  · rw [Nat.add_sub_cancel]
    rcases c with ⟨rfl, _, rfl⟩ | ⟨i1, lt, c⟩
    · have : y * (x % y) ≤ y * y := Int.mul_le_mul_of_nonneg_left (by omega) y0
      have : y * y ≤ y * 10 ^ 60 := Int.mul_le_mul_of_nonneg_left (by omega) y0
      omega
    · have hx := Int.mul_ediv_add_emod x y
      have hd : 1 ≤ x / y := Int.le_ediv_of_mul_le yp (by omega)
      have h1 : y * 1 ≤ y * (x / y) := Int.mul_le_mul_of_nonneg_left hd y0
      have h2 : 2 * (x % y) ≤ x := by omega
      obtain ⟨j, rfl⟩ : ∃ j, i = j + 1 := ⟨i - 1, by omega⟩
      rw [Nat.add_sub_cancel] at c
      have h3 : y * (2 * (x % y)) ≤ y * x := Int.mul_le_mul_of_nonneg_left h2 y0
      have h4 : y * (x % y) * 2 ^ (j + 1) = y * (2 * (x % y)) * 2 ^ j := by rw [Int.pow_succ]; grind
      have h5 : y * (2 * (x % y)) * 2 ^ j ≤ y * x * 2 ^ j := Int.mul_le_mul_of_nonneg_right h3 (Int.le_of_lt (Int.pow_pos (by decide)))
      rw [h4]
      rw [Int.mul_comm x y] at c
      exact Int.lt_of_le_of_lt h5 c
theorem Eu.fin {t b x y : Int} (e : Eu t b 400 x y) : y = 0 := by
  obtain ⟨x0, y0, g, c⟩ := e
  rcases c with ⟨z, _⟩ | ⟨_, lt, c⟩
  · cases z
  · by_cases h : y = 0
    · exact h
    · exfalso
      have h1 : 0 < x * y := Int.mul_pos (by omega) (by omega)
      have h2 : 1 * (2 : Int) ^ 399 ≤ x * y * 2 ^ 399 := Int.mul_le_mul_of_nonneg_right (by omega) (by decide)
      omega
theorem Eu.last {t b x : Int} {i : Nat} (h : 0 < b) (e : Eu t b i x 0) : max 1 x = gcdI t b := by
  obtain ⟨x0, _, g, _⟩ := e
  have g0 := gcdI_pos (a := t) h
  have : gcdI t b = ((Nat.gcd t.natAbs b.natAbs : Nat) : Int) := rfl
  rw [show (0 : Int).natAbs = 0 from rfl, Nat.gcd_zero_right] at g
  omega
def sp__law_lowest (K : PySem.W.Frag) : Sp := fun vs H Q _ => ∃ (t b : Int), vs = [.int t, .int b] ∧ 0 < b ∧ b < 10 ^ 60 ∧ t.natAbs < 2 ^ 250 ∧ 
  ∀ (x : Addr) (H' : Hp), Gr H H' → H x = none → H' x = some (.tup [.int (t / gcdI t b), .int (b / gcdI t b)]) → Q (.ref x) H'
theorem ok__law_lowest (T : Txt K mg) : FnOk P w K mg base CX0 1 T.a__law_lowest T.d__law_lowest ["_law_top", "_law_bottom"] (sp__law_lowest K) := by
  refine T.F__law_lowest.ok sc__law_lowest (fun vs H Q E h => ?_) (fun cdv A outer s H vs Q E hr h => ?_)
  · obtain ⟨t, b, rfl, _⟩ := h; rfl
  · obtain ⟨t, b, rfl, b0, b1, t1, k⟩ := h
    refine ⟨_, (pss_cons (ps_par (i := 2) (j := 3) (by rfl) sc__law_lowest.nd rfl rfl (by decide) rfl rfl (pa_cons (pe_callB caAbs (by rfl) T.b_abs (by decide +kernel) (pa_cons (pev 0) pa_nil)) (pa_cons (pev 1) pa_nil)) (by rfl))
        (pss_cons (ps_for PassesOwn.never rfl (pi_range1 (by rfl) T.b_range (pa_cons pe_int pa_nil)) (pg_name (i := 4) sc__law_lowest.nd rfl (by first | exact Or.inl rfl | exact Or.inr rfl))
        (pss_cons (psIf (pt_cmpR (opEq (hu64 hr)) (pev 3) pe_int (nomark _)) (pss_one ps_break) pss_nil)
        (pss_one (ps_par (i := 2) (j := 3) (by rfl) sc__law_lowest.nd rfl rfl (by decide) rfl rfl (pa_cons (pev 3) (pa_cons (pe_op opMod (pev 2) (pev 3)) pa_nil)) (by rfl)))))
        (pss_one (ps_ret (pe_tup (pa_cons (pe_op opDiv (pev 0) (pe_callB (caMax rfl) (by rfl) T.b_max (by decide +kernel) (pa_cons pe_int (pa_cons (pev 2) pa_nil)))) (pa_cons (pe_op opDiv (pev 1) (pe_callB (caMax rfl) (by rfl) T.b_max (by decide +kernel) (pa_cons pe_int (pa_cons (pev 2) pa_nil)))) pa_nil))))))), ?_⟩
    conv => whnf
    refine ⟨_, _, rfl, ?_⟩
    conv => whnf
    refine ⟨400, rfl, by decide, by decide, for_range (lo := 0) (n := 400) (fun i σ H' => (∃ x y v, σ = [some (.int t), some (.int b), some (.int x), some (.int y), v] ∧ Eu t b i x y) ∧ H' = H)
      ⟨⟨_, _, none, rfl, .start b0⟩, rfl⟩ ?_ ?_⟩
    · rintro i σ H1 hi ⟨⟨x, y, v, rfl, e⟩, rfl⟩
      conv => whnf
      refine ⟨_, rfl, ?_⟩
      refine brD (fun h => ?_) (fun h => ?_)
      · obtain rfl := V.int.inj h
        have em := e.last b0
        have g0 := gcdI_pos (a := t) b0
        have g1 := gcdI_le (a := t) b0
        have gb : (gcdI t b).natAbs < 2 ^ 200 := U.abs_lt (by omega) (by omega)
        conv => whnf
        rw [em]
        refine ⟨divW 200 g0 gb, ?_⟩
        conv => whnf
        rw [em]
        refine ⟨divW 200 g0 gb, ?_⟩
        conv => whnf
        exact ⟨small_ok (by simp), fun r hr3 => k r _ (Gr.rfl'.up hr3) hr3 upd_same⟩
      · have hy : y ≠ 0 := fun z => h (by rw [z])
        have ey : 0 < y := by have := e.2.1; omega
        conv => whnf
        refine ⟨ey, ?_⟩
        conv => whnf
        refine ⟨_, _, rfl, ?_⟩
        conv => whnf
        exact ⟨⟨_, _, _, rfl, e.turn b1 hy⟩, rfl⟩
    · rintro σ H1 ⟨⟨x, y, v, rfl, e⟩, rfl⟩
      obtain rfl := e.fin
      have em := e.last b0
      have g0 := gcdI_pos (a := t) b0
      have g1 := gcdI_le (a := t) b0
      have gb : (gcdI t b).natAbs < 2 ^ 200 := U.abs_lt (by omega) (by omega)
      conv => whnf
      rw [em]
      refine ⟨divW 200 g0 gb, ?_⟩
      conv => whnf
      rw [em]
      refine ⟨divW 200 g0 gb, ?_⟩
      conv => whnf
      exact ⟨small_ok (by simp), fun r hr3 => k r _ (Gr.rfl'.up hr3) hr3 upd_same⟩
def sp_Ratio_pair (K : PySem.W.Frag) (C : Addr) : Sp := fun vs H Q _ => ∃ (v : V) (p q : Int), vs = [v] ∧ IsR C H v p q ∧ ∀ (x : Addr) (H' : Hp), Gr H H' → H x = none → H' x = some (.tup [.int p, .int q]) → Q (.ref x) H'
theorem own_pair {K : PySem.W.Frag} {C a : Addr} {H : Hp} {Q : VK} {E : XK} {N D : Int} {k : Nat} (h : RV C H (.ref a) N D k) (q : ∀ (r s : Int) (x : Addr) (H' : Hp), Gr H H' → H x = none → TupAt H' (.ref x) r s → Val r s N D → Sm k r s → Q (.ref x) H') :
    ∃ b dx fs, V.ref a = V.ref b ∧ H b = some (.ins C dx fs) ∧ sp_Ratio_pair K C [.ref b] H Q E := by
  obtain ⟨p, r, i, v, s⟩ := h
  obtain ⟨_, dx, z, e1⟩ := id i
  cases z
  exact ⟨a, dx, _, rfl, e1, _, p, r, rfl, i, fun x H' g n e => q p r x H' g n ⟨x, rfl, e⟩ v s⟩
theorem ok_Ratio_pair (T : Txt K mg) : FnOk P w K mg base CX0 1 T.a_Ratio_pair T.d_Ratio_pair ["self"] (sp_Ratio_pair K T.c_Ratio) := by
  refine T.F_Ratio_pair.ok sc_Ratio_pair (fun vs H Q E h => ?_) (fun cdv A outer s H vs Q E hr h => ?_)
  · obtain ⟨v, p, q, rfl, _⟩ := h; rfl
  · obtain ⟨v, p, q, rfl, ⟨a, dx, rfl, ha⟩, k⟩ := h
    refine ⟨_, (pss_one (ps_ret (pe_tup (pa_cons (pe_fld (pev 0) rfl) (pa_cons (pe_fld (pev 0) rfl) pa_nil))))), ?_⟩
    conv => whnf
    refine ⟨a, T.c_Ratio, dx, _, _, rfl, ha, T.o_Ratio.cl, T.f_Ratio__top, rf_lt _ _, ?_⟩
    conv => whnf
    refine ⟨a, T.c_Ratio, dx, _, _, rfl, ha, T.o_Ratio.cl, T.f_Ratio__bottom, rf_lb _ _, ?_⟩
    conv => whnf
    exact ⟨small_ok (by simp), fun x hx => k x _ (Gr.rfl'.up hx) hx upd_same⟩
def sp_Ratio_top (K : PySem.W.Frag) (C : Addr) : Sp := fun vs H Q _ => ∃ (v : V) (p q : Int), vs = [v] ∧ IsR C H v p q ∧ Q (.int p) H
theorem ok_Ratio_top (T : Txt K mg) : FnOk P w K mg base CX0 1 T.a_Ratio_top T.d_Ratio_top ["self"] (sp_Ratio_top K T.c_Ratio) := by
  refine T.F_Ratio_top.ok sc_Ratio_top (fun vs H Q E h => ?_) (fun cdv A outer s H vs Q E hr h => ?_)
  · obtain ⟨v, p, q, rfl, _⟩ := h; rfl
  · obtain ⟨v, p, q, rfl, ⟨a, dx, rfl, ha⟩, k⟩ := h
    refine ⟨_, (pss_one (ps_ret (pe_fld (pev 0) rfl))), ?_⟩
    conv => whnf
    exact ⟨a, T.c_Ratio, dx, _, _, rfl, ha, T.o_Ratio.cl, T.f_Ratio__top, rf_lt _ _, k⟩
def sp_Ratio_bottom (K : PySem.W.Frag) (C : Addr) : Sp := fun vs H Q _ => ∃ (v : V) (p q : Int), vs = [v] ∧ IsR C H v p q ∧ Q (.int q) H
theorem ok_Ratio_bottom (T : Txt K mg) : FnOk P w K mg base CX0 1 T.a_Ratio_bottom T.d_Ratio_bottom ["self"] (sp_Ratio_bottom K T.c_Ratio) := by
  refine T.F_Ratio_bottom.ok sc_Ratio_bottom (fun vs H Q E h => ?_) (fun cdv A outer s H vs Q E hr h => ?_)
  · obtain ⟨v, p, q, rfl, _⟩ := h; rfl
  · obtain ⟨v, p, q, rfl, ⟨a, dx, rfl, ha⟩, k⟩ := h
    refine ⟨_, (pss_one (ps_ret (pe_fld (pev 0) rfl))), ?_⟩
    conv => whnf
    exact ⟨a, T.c_Ratio, dx, _, _, rfl, ha, T.o_Ratio.cl, T.f_Ratio__bottom, rf_lb _ _, k⟩
def sp_written (K : PySem.W.Frag) : Sp := fun vs H Q _ => ∃ (n : Int), vs = [.int n] ∧ n.natAbs < 10 ^ 60 ∧ ∀ H' : Hp, Gr H H' → Q (.str (toString n)) H'
theorem ok_written (T : Txt K mg) : FnOk P w K mg base CX0 1 T.a_written T.d_written ["number"] (sp_written K) := by
  refine T.F_written.ok sc_written (fun vs H Q E h => ?_) (fun cdv A outer s H vs Q E hr h => ?_)
  · obtain ⟨n, rfl, _⟩ := h; rfl
  · obtain ⟨n, rfl, hn, k⟩ := h
    refine ⟨_, (pss_cons (ps_set (i := 1) sc_written.nd rfl (by first | exact Or.inl rfl | exact Or.inr rfl) (peIf (pt_cmpR opLt (pev 0) pe_int (nomark _)) pe_str pe_str))
        (pss_cons (ps_set (i := 2) sc_written.nd rfl (by first | exact Or.inl rfl | exact Or.inr rfl) (pe_callB caAbs (by rfl) T.b_abs (by decide +kernel) (pa_cons (pev 0) pa_nil)))
        (pss_cons (ps_set (i := 3) sc_written.nd rfl (by first | exact Or.inl rfl | exact Or.inr rfl) (pe_lst pa_nil))
        (pss_cons (ps_while PassesOwn.never (pt_cmpR opGe (pev 2) (pe_glob (v := .int 1000000000000000000000000000000000000000000000000000000000000) (by rfl) T.v_BEYOND ⟨_, rfl⟩) (nomark _)) pss_never)
        (pss_cons (ps_expr (pe_bm PySem.F.plainAttrs_list PySem.F.slot_list_append PySem.F.type_list_append mt_append (pev 3) (pa_cons (pe_joined (.cons (pe_fmt (pev 1)) (.cons (pe_fmt (pev 2)) .nil))) pa_nil)))
        (pss_one (ps_ret (pe_bm PySem.F.plainAttrs_str PySem.F.slot_str_join PySem.F.type_str_join mt_join pe_str (pa_cons (pe_revL (pev 3)) pa_nil))))))))), ?_⟩
    have hs := num_short hn
    have hl : n.natAbs.log2 < 1920 := num_fits (Nat.lt_of_lt_of_le hn (by decide))
    have ha : (Str.ofString (toString ((n.natAbs : Nat) : Int))).length ≤ 100 := num_short (by omega)
    conv => whnf
    refine ⟨_, rfl, ?_⟩
    refine brD (fun h => ?x) (fun h => ?y)
    case' x => have e := abs_neg h
    case' y => have e := abs_pos h
    all_goals
      conv => whnf
      refine ⟨small_ok (by simp), fun p hp => ?_⟩
      conv => whnf
      refine ⟨fun m σ H' => σ = [some (.int n), _, _, _, _] ∧ H' = _, ⟨0, ⟨rfl, rfl⟩⟩, ?_⟩
      rintro m σ H' ⟨rfl, rfl⟩
      conv => whnf
      refine ⟨_, rfl, ?_⟩
      refine ite2 (fun q => absurd (of_decide_eq_true q) (by omega)) (fun _ => ?_)
      conv => whnf
      refine ⟨.inl ⟨rfl, _, SqL.of upd_same⟩, ?_⟩
      conv => whnf
      refine .inl ⟨_, rfl, small_ok (by decide), ?_⟩
      conv => whnf
      refine ⟨_, rfl, by rw [e_app]; exact small_ok (by decide), ?_⟩
      conv => whnf
      refine .inr ⟨_, rfl, (by rw [Int.natAbs_natCast]; exact hl), ?_⟩
      conv => whnf
      refine ⟨_, rfl, by rw [e_app, e]; exact small_ok (by omega), ?_⟩
      conv => whnf
      rw [e_app, e]
      refine ⟨p, _, _, rfl, rfl, upd_same, small_lt (by simp), ?_⟩
      conv => whnf
      refine ⟨rfl, ?_⟩
      conv => whnf
      refine ⟨p, _, rfl, SqL.of upd_same, fun r hr2 => ?_⟩
      conv => whnf
      refine ⟨_, r, [Str.ofString (toString n)], rfl, rfl, .inl (SqL.of upd_same), ?_, ?_⟩
      · show ([(Str.ofString (toString n)).length].sum + _) ≤ _
        rw [show (Str.ofString "").length = 0 by decide]
        simp only [List.sum_cons, List.sum_nil]
        omega
      · rw [join1]
        rw [upd_upd] at hr2 ⊢
        exact k _ ((Gr.rfl'.up hp).up hr2)
def sp_Ratio___str__ (K : PySem.W.Frag) (C : Addr) : Sp := fun vs H Q _ => ∃ (v : V) (p q : Int), vs = [v] ∧ IsR C H v p q ∧ p.natAbs < 10 ^ 60 ∧ q.natAbs < 10 ^ 60 ∧ ∀ H' : Hp, Gr H H' → Q (.str (rtext p q)) H'
theorem ok_Ratio___str__ (T : Txt K mg) : FnOk P w K mg base CX0 2 T.a_Ratio___str__ T.d_Ratio___str__ ["self"] (sp_Ratio___str__ K T.c_Ratio) := by
  refine T.F_Ratio___str__.ok sc_Ratio___str__ (fun vs H Q E h => ?_) (fun cdv A outer s H vs Q E hr h => ?_)
  · obtain ⟨v, p, q, rfl, _⟩ := h; rfl
  · obtain ⟨v, p, q, rfl, ⟨a, dx, rfl, ha⟩, hp, hq, k⟩ := h
    refine ⟨_, (pss_cons (psIf (pt_cmpR (opEq (hu64 hr)) (pe_fld (pev 0) rfl) pe_int (nomark _)) (pss_one (ps_ret (pe_joined1 (pe_fmt (pe_call (ok_written T) (hr.mono (by decide)) (by rfl) T.g_written T.F_written.kp T.B_written .nil pass0 (pa_cons (pe_fld (pev 0) rfl) pa_nil)))))) pss_nil)
        (pss_one (ps_ret (pe_joined (.cons (pe_fmt (pe_call (ok_written T) (hr.mono (by decide)) (by rfl) T.g_written T.F_written.kp T.B_written .nil pass0 (pa_cons (pe_fld (pev 0) rfl) pa_nil))) (.cons pe_str (.cons (pe_fmt (pe_call (ok_written T) (hr.mono (by decide)) (by rfl) T.g_written T.F_written.kp T.B_written .nil pass0 (pa_cons (pe_fld (pev 0) rfl) pa_nil))) .nil))))))), ?_⟩
    have h1 := num_short hp
    have h2 := num_short hq
    have l1 : (Str.ofString "/").length = 1 := by decide
    unfold rtext at k
    conv => whnf
    refine ⟨a, T.c_Ratio, dx, _, _, rfl, ha, T.o_Ratio.cl, T.f_Ratio__bottom, rf_lb _ _, ?_⟩
    conv => whnf
    refine ⟨_, rfl, ?_⟩
    refine brD (fun h => ?_) (fun h => ?_)
    · have e := V.int.inj h
      rw [if_pos e] at k
      conv => whnf
      refine ⟨a, T.c_Ratio, dx, _, _, rfl, ha, T.o_Ratio.cl, T.f_Ratio__top, rf_lt _ _, ?_⟩
      conv => whnf
      refine ⟨_, rfl, hp, fun H1 g1 => .inl ⟨_, rfl, small_ok (by omega), ?_⟩⟩
      exact k _ g1
    · have e : ¬ q = 1 := fun z => h (by rw [z])
      rw [if_neg e] at k
      conv => whnf
      refine ⟨a, T.c_Ratio, dx, _, _, rfl, ha, T.o_Ratio.cl, T.f_Ratio__top, rf_lt _ _, ?_⟩
      conv => whnf
      refine ⟨_, rfl, hp, fun H1 g1 => .inl ⟨_, rfl, small_ok (by omega), ?_⟩⟩
      conv => whnf
      refine ⟨_, rfl, by rw [e_app]; exact small_ok (by omega), ?_⟩
      conv => whnf
      refine ⟨_, rfl, by rw [e_app, app_len]; exact small_ok (by omega), ?_⟩
      conv => whnf
      refine ⟨a, T.c_Ratio, dx, _, _, rfl, g1 _ _ ha, T.o_Ratio.cl, T.f_Ratio__bottom, rf_lb _ _, ?_⟩
      conv => whnf
      refine ⟨_, rfl, hq, fun H2 g2 => .inl ⟨_, rfl, small_ok (by omega), ?_⟩⟩
      conv => whnf
      refine ⟨_, rfl, by rw [e_app, app_len, app_len]; exact small_ok (by omega), ?_⟩
      conv => whnf
      rw [e_app]
      exact k _ (g1.trans g2)
def sp_Ratio___bool__ (K : PySem.W.Frag) (C : Addr) : Sp := fun vs H Q _ => ∃ (v : V) (p q : Int), vs = [v] ∧ IsR C H v p q ∧ Q (.bl (decide (p ≠ 0))) H
theorem ok_Ratio___bool__ (T : Txt K mg) : FnOk P w K mg base CX0 1 T.a_Ratio___bool__ T.d_Ratio___bool__ ["self"] (sp_Ratio___bool__ K T.c_Ratio) := by
  refine T.F_Ratio___bool__.ok sc_Ratio___bool__ (fun vs H Q E h => ?_) (fun cdv A outer s H vs Q E hr h => ?_)
  · obtain ⟨v, p, q, rfl, _⟩ := h; rfl
  · obtain ⟨v, p, q, rfl, ⟨a, dx, rfl, ha⟩, k⟩ := h
    refine ⟨_, (pss_one (ps_ret (pe_callTy caBool (by rfl) T.b_bool (by decide +kernel) (pa_cons (pe_fld (pev 0) rfl) pa_nil)))), ?_⟩
    conv => whnf
    refine ⟨a, T.c_Ratio, dx, _, _, rfl, ha, T.o_Ratio.cl, T.f_Ratio__top, rf_lt _ _, ?_⟩
    exact k
def sp__law_text (K : PySem.W.Frag) : Sp := fun vs H Q _ => ∃ (v : V) (p q : Int), vs = [v] ∧ TupAt H v p q ∧ p.natAbs < 10 ^ 60 ∧ q.natAbs < 10 ^ 60 ∧ Q (.str (rtext p q)) H
theorem ok__law_text (T : Txt K mg) : FnOk P w K mg base CX0 1 T.a__law_text T.d__law_text ["_law_pair"] (sp__law_text K) := by
  refine T.F__law_text.ok sc__law_text (fun vs H Q E h => ?_) (fun cdv A outer s H vs Q E hr h => ?_)
  · obtain ⟨v, p, q, rfl, _⟩ := h; rfl
  · obtain ⟨v, p, q, rfl, ⟨a, rfl, ha⟩, hp, hq, k⟩ := h
    refine ⟨_, (pss_one (ps_ret (peIf (pt_cmpR (opEq (hu64 hr)) (pe_ix ixU (pev 0) pe_int (fun _ _ => rfl)) pe_int (nomark _)) (pe_callTy caStr (by rfl) T.b_str (by decide +kernel) (pa_cons (pe_ix ixU (pev 0) pe_int (fun _ _ => rfl)) pa_nil)) (pe_op opAdd (pe_op opAdd (pe_callTy caStr (by rfl) T.b_str (by decide +kernel) (pa_cons (pe_ix ixU (pev 0) pe_int (fun _ _ => rfl)) pa_nil)) pe_str) (pe_callTy caStr (by rfl) T.b_str (by decide +kernel) (pa_cons (pe_ix ixU (pev 0) pe_int (fun _ _ => rfl)) pa_nil)))))), ?_⟩
    have h1 := num_short hp
    have h2 := num_short hq
    have l1 : (Str.ofString "/").length = 1 := by decide
    have f1 : p.natAbs.log2 < 1920 := num_fits (Nat.lt_of_lt_of_le hp (by decide))
    have f2 : q.natAbs.log2 < 1920 := num_fits (Nat.lt_of_lt_of_le hq (by decide))
    unfold rtext at k
    conv => whnf
    refine ⟨_, _, .inr (SqT.of ha), rfl, ?_⟩
    conv => whnf
    refine ⟨_, rfl, ?_⟩
    refine brD (fun h => ?_) (fun h => ?_)
    · have e := V.int.inj h
      rw [if_pos e] at k
      conv => whnf
      refine ⟨_, _, .inr (SqT.of ha), rfl, ?_⟩
      conv => whnf
      exact ⟨f1, k⟩
    · have e : ¬ q = 1 := fun z => h (by rw [z])
      rw [if_neg e] at k
      conv => whnf
      refine ⟨_, _, .inr (SqT.of ha), rfl, ?_⟩
      conv => whnf
      refine ⟨f1, ?_⟩
      conv => whnf
      refine ⟨small_ok (by omega), ?_⟩
      conv => whnf
      refine ⟨_, _, .inr (SqT.of ha), rfl, ?_⟩
      conv => whnf
      refine ⟨f2, ?_⟩
      conv => whnf
      exact ⟨small_ok (by rw [app_len]; omega), k⟩
def sp_integer_in (K : PySem.W.Frag) : Sp := fun vs H Q _ => ∃ x : Str, vs = [.str x] ∧ x.length ≤ 1000000 ∧ (∀ n, IsNum x n → Q (.int n) H) ∧ ((∀ n, ¬ IsNum x n) → Q .non H)
theorem ok_integer_in (T : Txt K mg) : FnOk P w K mg base CX0 1 T.a_integer_in T.d_integer_in ["text"] (sp_integer_in K) := by
  refine T.F_integer_in.ok sc_integer_in (fun vs H Q E h => ?_) (fun cdv A outer s H vs Q E hr h => ?_)
  · obtain ⟨x, rfl, _⟩ := h; rfl
  · obtain ⟨x, rfl, hx, k1, k2⟩ := h
    refine ⟨_, (pss_cons (ps_set (i := 1) sc_integer_in.nd rfl (by first | exact Or.inl rfl | exact Or.inr rfl) (pe_bm PySem.F.plainAttrs_str PySem.F.slot_str_removeprefix PySem.F.type_str_removeprefix mt_removeprefix (pev 0) (pa_cons pe_str pa_nil)))
        (pss_cons (psIf (PW.pt (pwOr (pt_not (ptV (pe_m0 PySem.F.slot_str_isascii PySem.F.type_str_isascii mt_isascii (pev 1)))) (pwOr (pt_not (ptV (pe_m0 PySem.F.slot_str_isdigit PySem.F.type_str_isdigit mt_isdigit (pev 1)))) (pw_or1 (pt_cmpR opGt (pe_callB caLen (by rfl) T.b_len (by decide +kernel) (pa_cons (pev 1) pa_nil)) (pe_glob (v := .int 60) (by rfl) T.v_MAX_FIGURES ⟨_, rfl⟩) (nomark _)))))) (pss_one (ps_ret pe_non)) pss_nil)
        (pss_cons (ps_set (i := 2) sc_integer_in.nd rfl (by first | exact Or.inl rfl | exact Or.inr rfl) (pe_callTy caIntT (by rfl) T.b_int (by decide +kernel) (pa_cons (pev 0) pa_nil)))
        (pss_one (ps_ret (peIf (pt_cmpR (opEq (hu64 hr)) (pe_callTy caStr (by rfl) T.b_str (by decide +kernel) (pa_cons (pev 2) pa_nil)) (pev 0) (nomark _)) (pev 2) pe_non)))))), ?_⟩
    have hz := sizeLine_eq
    have eb := removeprefix_minus x
    have no1 : (Txt.isascii (Txt.removeprefix x (Str.ofString "-")) = false ∨ Txt.isdigit (Txt.removeprefix x (Str.ofString "-")) = false ∨ 60 < (Txt.removeprefix x (Str.ofString "-")).length) → ∀ n, ¬ IsNum x n := by
      rintro h n ⟨h1, rfl⟩
      obtain ⟨a, b, c⟩ := num_figs' h1
      rcases h with h | h | h
      · rw [a] at h; cases h
      · rw [b] at h; cases h
      · omega
    have lb : (Txt.removeprefix x (Str.ofString "-")).length ≤ x.length := by
      rw [U.len_list, eb, U.len_list]
      unfold behind
      split
      · rename_i r e; rw [e]; simp
      · exact Nat.le_refl _
    have ll : x.length ≤ (Txt.removeprefix x (Str.ofString "-")).length + 1 := by
      rw [U.len_list x, U.len_list (Txt.removeprefix x (Str.ofString "-")), eb]
      unfold behind
      split
      · rename_i r e; rw [e]; simp
      · omega
    conv => whnf
    refine ⟨rfl, ?_⟩
    conv => whnf
    refine ⟨x, _, rfl, rfl, by omega, ?_⟩
    conv => whnf
    refine ⟨⟨_, rfl⟩, _, rfl, rfl, trivial, ?_⟩
    conv => whnf
    refine br2 (fun ha => ?_) (fun ha => ?_)
    · conv => whnf
      refine brT ?_
      conv => whnf
      exact k2 (no1 (.inl (by simpa using ha)))
    have ha : Txt.isascii (Txt.removeprefix x (Str.ofString "-")) = true := by simpa using ha
    conv => whnf
    refine ⟨⟨_, rfl⟩, _, rfl, rfl, trivial, ?_⟩
    conv => whnf
    refine br2 (fun hd => ?_) (fun hd => ?_)
    · conv => whnf
      refine brT ?_
      conv => whnf
      exact k2 (no1 (.inr (.inl (by simpa using hd))))
    have hd : Txt.isdigit (Txt.removeprefix x (Str.ofString "-")) = true := by simpa using hd
    conv => whnf
    refine ⟨small_ok (by omega), ?_⟩
    conv => whnf
    refine ⟨_, rfl, ?_⟩
    refine br2 (fun hl => ?_) (fun hl => ?_)
    · conv => whnf
      have hl := of_decide_eq_true hl
      exact k2 (no1 (.inr (.inr (by omega))))
    have hl' : (Txt.removeprefix x (Str.ofString "-")).length ≤ 60 := by
      have hl := of_decide_eq_false hl
      omega
    have hf : Figs (behind x.cps.toList) := by
      have := (isdigit_iff _ ((isascii_iff _).mp ha)).mp hd
      rw [eb] at this
      exact this
    obtain ⟨m, hm, hb⟩ := int_of_figs hf (by rw [← eb, ← U.len_list]; exact hl')
    conv => whnf
    refine ⟨m, hm, by omega, ?_⟩
    conv => whnf
    refine ⟨num_fits (Nat.lt_of_lt_of_le hb (by decide)), ?_⟩
    conv => whnf
    refine ⟨_, rfl, ?_⟩
    refine brD (fun h => ?_) (fun h => ?_)
    · conv => whnf
      exact k1 m ⟨hb, (V.str.inj h).symm⟩
    · conv => whnf
      refine k2 ?_
      rintro n ⟨h1, rfl⟩
      rw [intText_num h1] at hm
      cases hm
      exact h rfl
def sp__lowest (K : PySem.W.Frag) (C : Addr) : Sp := fun vs H Q _ => ∃ (t b : Int), vs = [.int t, .int b] ∧ 0 < b ∧ b.natAbs < 2 ^ 8000 ∧ 
  ∀ (v : V) (H' : Hp), Gr H H' → IsR C H' v (t / gcdI t b) (b / gcdI t b) → Q v H'
theorem ok__lowest (T : Txt K mg) : FnOk P w K mg base CX0 4 T.a__lowest T.d__lowest ["top", "bottom"] (sp__lowest K T.c_Ratio) := by
  refine T.F__lowest.ok sc__lowest (fun vs H Q E h => ?_) (fun cdv A outer s H vs Q E hr h => ?_)
  · obtain ⟨t, b, rfl, _⟩ := h; rfl
  · obtain ⟨t, b, rfl, b0, b1, k⟩ := h
    refine ⟨_, (pss_cons (ps_set (i := 2) sc__lowest.nd rfl (by first | exact Or.inl rfl | exact Or.inr rfl) (pe_make T.K_Ratio (ok_Ratio___init__ T) (hr.mono (by decide)) (by rfl) T.g_Ratio T.B_Ratio___init__ .nil pass0 (pa_cons pe_int (pa_cons pe_int pa_nil))))
        (pss_cons (ps_set (i := 3) sc__lowest.nd rfl (by first | exact Or.inl rfl | exact Or.inr rfl) (pe_callBfun cr_gcd (by rfl) T.i_gcd (pa_cons (pev 0) (pa_cons (pev 1) pa_nil))))
        (pss_cons (ps_fld (pev 2) (pe_op opDiv (pev 0) (pev 3)) rfl)
        (pss_cons (ps_fld (pev 2) (pe_op opDiv (pev 1) (pev 3)) rfl)
        (pss_one (ps_ret (pev 2))))))), ?_⟩
    have g0 := gcdI_pos (a := t) b0
    have g1 := gcdI_le (a := t) b0
    have gb : (gcdI t b).natAbs < 2 ^ 8000 := Nat.lt_of_le_of_lt (by omega) b1
    conv => whnf
    intro x dx hx hd ne
    refine ⟨x, dx, 0, 1, rfl, upd_same, by decide, by decide, fun H1 s1 e1 => ?_⟩
    have e1' : H1 x = some (.ins T.c_Ratio dx (rf 0 1)) := e1
    conv => whnf
    refine ⟨rfl, ?_⟩
    conv => whnf
    refine ⟨_, _, rfl, ?_⟩
    conv => whnf
    refine ⟨divW 8000 g0 gb, ?_⟩
    conv => whnf
    refine ⟨x, T.c_Ratio, dx, _, rfl, e1', T.o_Ratio.cl, T.f_Ratio__top, (by show 2 < 1000; decide), ?_⟩
    rw [rf_top]
    conv => whnf
    refine ⟨divW 8000 g0 gb, ?_⟩
    conv => whnf
    refine ⟨x, T.c_Ratio, dx, _, rfl, upd_same, T.o_Ratio.cl, T.f_Ratio__bottom, (by show 2 < 1000; decide), ?_⟩
    rw [rf_bot, upd_upd]
    conv => whnf
    refine k _ _ (fun c u ec => ?_) ⟨x, dx, rfl, upd_same⟩
    have ncx : c ≠ x := ne_of_none ec hx
    rw [upd_ne ncx]
    exact s1 c u (by rw [upd_ne ncx, upd_ne (ne_of_none ec hd)]; exact ec) ncx
/-- x is the text of the ratio p / q of at most sixty figures -/
def IsRat (x : Str) (p q : Int) : Prop := Low p q ∧ p.natAbs < 10 ^ 60 ∧ q.natAbs < 10 ^ 60 ∧ x = rtext p q
def sp_ratio_in (K : PySem.W.Frag) (C : Addr) : Sp := fun vs H Q _ => ∃ (v : V) (S : String), vs = [v] ∧ Kd K H v S ∧ (∀ x, v = .str x → x.length ≤ 1000) ∧
  (∀ x p q w H', v = .str x → IsRat x p q → Gr H H' → IsR C H' w p q → Q w H') ∧ ((∀ x p q, v = .str x → ¬ IsRat x p q) → ∀ H', Gr H H' → Q .non H')
theorem rat_slash {p q : Int} {a b : Str} (ha : 47 ∉ a.cps.toList) (h : a ++ Str.ofString "/" ++ b = rtext p q) : q ≠ 1 ∧ a = Str.ofString (toString p) ∧ b = Str.ofString (toString q) := by
  unfold rtext at h
  by_cases e : q = 1
  · rw [if_pos e] at h
    exact absurd h.symm (cut_no (num_no47 p))
  · rw [if_neg e] at h
    exact ⟨e, cut_eq ha (num_no47 p) h⟩
theorem rat_plain {p q : Int} {x : Str} (hx : 47 ∉ x.cps.toList) (h : x = rtext p q) : q = 1 ∧ x = Str.ofString (toString p) := by
  unfold rtext at h
  by_cases e : q = 1
  · rw [if_pos e] at h; exact ⟨e, h⟩
  · rw [if_neg e] at h
    exact absurd h (cut_no hx)
theorem ratA {x : Str} {p q : Int} (hs : 47 ∉ x.cps.toList) (h : IsRat x p q) : q = 1 ∧ IsNum x p := by
  obtain ⟨e1, e2⟩ := rat_plain hs h.2.2.2
  exact ⟨e1, h.2.1, e2⟩
theorem ratB {x a b : Str} {p q : Int} (hs : 47 ∉ a.cps.toList) (ex : x = a ++ Str.ofString "/" ++ b) (h : IsRat x p q) : q ≠ 1 ∧ IsNum a p ∧ IsNum b q := by
  obtain ⟨e0, e1, e2⟩ := rat_slash hs (ex.symm.trans h.2.2.2)
  exact ⟨e0, ⟨h.2.1, e1⟩, ⟨h.2.2.1, e2⟩⟩
theorem num_uniq {x : Str} {m n : Int} (h1 : IsNum x m) (h2 : IsNum x n) : m = n := num_inj h1.1 h2.1 (h1.2.symm.trans h2.2)
theorem rat_inj {x : Str} {p q p' q' : Int} (h1 : IsRat x p q) (h2 : IsRat x p' q') : p = p' ∧ q = q' := by
  rcases cut_slash x with ⟨hs, _⟩ | ⟨a, b, hs, ex, _⟩
  · obtain ⟨a1, a2⟩ := ratA hs h1
    obtain ⟨b1, b2⟩ := ratA hs h2
    exact ⟨num_uniq a2 b2, by rw [a1, b1]⟩
  · obtain ⟨_, a1, a2⟩ := ratB hs ex h1
    obtain ⟨_, b1, b2⟩ := ratB hs ex h2
    exact ⟨num_uniq a1 b1, num_uniq a2 b2⟩
theorem low_self {p q : Int} (h : Low p q) : p / gcdI p q = p ∧ q / gcdI p q = q := (Val.of h.pos).inj (Val.self h) rfl
theorem slash_len : (Str.ofString "/").length = 1 := by decide
theorem empty_len : Str.empty.length = 0 := by decide
theorem ok_ratio_in (T : Txt K mg) : FnOk P w K mg base CX0 5 T.a_ratio_in T.d_ratio_in ["text"] (sp_ratio_in K T.c_Ratio) := by
  refine T.F_ratio_in.ok sc_ratio_in (fun vs H Q E h => ?_) (fun cdv A outer s H vs Q E hr h => ?_)
  · obtain ⟨v, S, rfl, _⟩ := h; rfl
  · obtain ⟨v, S, rfl, hk, hx, k1, k2⟩ := h
    refine ⟨_, (pss_cons (psIf (pt_not (ptV (pe_callB call_isi (by rfl) T.b_isinstance (by decide +kernel) (pa_cons (pev 0) (pa_cons (pe_bltn (v := .ty "str") (by rfl) T.b_str (by decide +kernel) rfl) pa_nil))))) (pss_one (ps_ret pe_non)) pss_nil)
        (pss_cons (ps_asg (pe_bm PySem.F.plainAttrs_str PySem.F.slot_str_partition PySem.F.type_str_partition mt_partition (pev 0) (pa_cons pe_str pa_nil)) (pg_tup rfl (pgs_cons (pg_name (i := 1) sc_ratio_in.nd rfl (by first | exact Or.inl rfl | exact Or.inr rfl)) (pgs_cons (pg_name (i := 2) sc_ratio_in.nd rfl (by first | exact Or.inl rfl | exact Or.inr rfl)) (pgs_cons (pg_name (i := 3) sc_ratio_in.nd rfl (by first | exact Or.inl rfl | exact Or.inr rfl)) pgs_nil)))))
        (pss_cons (ps_set (i := 4) sc_ratio_in.nd rfl (by first | exact Or.inl rfl | exact Or.inr rfl) (pe_call (ok_integer_in T) (hr.mono (by decide)) (by rfl) T.g_integer_in T.F_integer_in.kp T.B_integer_in .nil pass0 (pa_cons (pev 1) pa_nil)))
        (pss_cons (ps_set (i := 5) sc_ratio_in.nd rfl (by first | exact Or.inl rfl | exact Or.inr rfl) (peIf (ptV (pev 2)) (pe_call (ok_integer_in T) (hr.mono (by decide)) (by rfl) T.g_integer_in T.F_integer_in.kp T.B_integer_in .nil pass0 (pa_cons (pev 3) pa_nil)) pe_int))
        (pss_cons (psIf (PW.pt (pwOr (pt_cmpR op_isN (pev 4) pe_non (nomark _)) (pwOr (pt_cmpR op_isN (pev 5) pe_non (nomark _)) (pw_or1 (pt_cmpR opLt (pev 5) pe_int (nomark _)))))) (pss_one (ps_ret pe_non)) pss_nil)
        (pss_cons (ps_set (i := 6) sc_ratio_in.nd rfl (by first | exact Or.inl rfl | exact Or.inr rfl) (pe_call (ok__lowest T) (hr.mono (by decide)) (by rfl) T.g__lowest T.F__lowest.kp T.B__lowest .nil pass0 (pa_cons (pev 4) (pa_cons (pev 5) pa_nil))))
        (pss_one (ps_ret (peIf (pt_cmpR (opEq (hu64 hr)) (pe_callTy (caStrO T.M_Ratio___str__ (ok_Ratio___str__ T) (hr.mono (by decide)) T.B_Ratio___str__ pass0) (by rfl) T.b_str (by decide +kernel) (pa_cons (pev 6) pa_nil)) (pev 0) (nomark _)) (pev 6) pe_non))))))))), ?_⟩
    have hz := sizeLine_eq
    conv => whnf
    refine ⟨_, _, _, _, _, rfl, .ty _, hk.1, kit_ty (kd_str hk.2), ?_⟩
    conv => whnf
    by_cases h1 : S = "str"
    rotate_left
    · refine brY (by simp [h1]) ?_
      conv => whnf
      exact k2 (fun x p q e => absurd (by rw [e] at hk; exact hk.ofStr) h1) H (fun _ _ e => e)
    subst h1
    obtain ⟨x, rfl⟩ := hk.isStr
    have hx := hx x rfl
    have k2 : (∀ p q, ¬ IsRat x p q) → ∀ H', Gr H H' → _ := fun h => k2 fun x' p q e => by
      cases e; exact h p q
    have k1 := fun p q w H' => k1 x p q w H' rfl
    refine brF ?_
    conv => whnf
    refine ⟨rfl, ?_⟩
    conv => whnf
    refine ⟨x, _, rfl, rfl, rfl, by omega, fun t ht => ?_⟩
    conv => whnf
    refine ⟨t, _, rfl, SqT.of upd_same, rfl, ?_⟩
    have gt : Gr H (upd H t (.tup [.str (Txt.partition x (Str.ofString "/")).1, .str (Txt.partition x (Str.ofString "/")).2.1, .str (Txt.partition x (Str.ofString "/")).2.2])) := Gr.rfl'.up ht
    revert gt
    rcases cut_slash x with ⟨hs, ep⟩ | ⟨a, b, hs, ex, ep⟩
    · rw [ep]
      intro gt
      conv => whnf
      refine ⟨_, _, rfl, ?_⟩
      conv => whnf
      refine ⟨_, _, rfl, ?_⟩
      conv => whnf
      refine ⟨_, _, rfl, ?_⟩
      conv => whnf
      refine ⟨rfl, ?_⟩
      conv => whnf
      refine ⟨x, rfl, by omega, fun n hn => ?_, fun hn => ?_⟩
      · have key : ∀ p q, IsRat x p q → p = n ∧ q = 1 := fun p q hr => by
          obtain ⟨a1, a2⟩ := ratA hs hr
          exact ⟨num_uniq a2 hn, a1⟩
        have hm : (0 : Int) < 1 := by decide
        have hn1 := hn.1
        conv => whnf
        refine ⟨small_ok (by rw [empty_len]; omega), ?_⟩
        refine brN (by rw [empty_len]; rfl) ?_
        conv => whnf
        refine ⟨rfl, ?_⟩
        refine ⟨_, rfl, ?_⟩
        refine brN rfl ?_
        conv => whnf
        refine ⟨rfl, ?_⟩
        conv => whnf
        refine ⟨_, rfl, ?_⟩
        refine brN rfl ?_
        conv => whnf
        refine ⟨_, rfl, ?_⟩
        refine brN rfl ?_
        conv => whnf
        refine ⟨n, 1, rfl, by decide, by decide, fun v H1 g1 hv => ?_⟩
        obtain ⟨c, dx, rfl, ha⟩ := hv
        conv => whnf
        obtain ⟨l1, _, l2, l3⟩ := low_of (a := n) hm
        have l4 := l1.pos
        refine ⟨dx, _, ha, _, _, _, rfl, ⟨c, dx, rfl, ha⟩, by omega, by omega, fun H2 g2 => ⟨⟨_, rfl⟩, ?_⟩⟩
        conv => whnf
        refine ⟨_, rfl, ?_⟩
        refine brD (fun h => ?_) (fun h => ?_)
        · conv => whnf
          exact k1 _ _ _ _ ⟨l1, by omega, by omega, (V.str.inj h).symm⟩ (gt.trans (g1.trans g2)) ⟨c, dx, rfl, g2 _ _ ha⟩
        · conv => whnf
          refine k2 (fun p q hr => ?_) _ (gt.trans (g1.trans g2))
          obtain ⟨rfl, rfl⟩ := key p q hr
          obtain ⟨s1, s2⟩ := low_self hr.1
          rw [s1, s2] at h
          exact h (by rw [← hr.2.2.2])
      · conv => whnf
        refine ⟨small_ok (by rw [empty_len]; omega), ?_⟩
        refine brN (by rw [empty_len]; rfl) ?_
        conv => whnf
        refine ⟨rfl, ?_⟩
        refine ⟨_, rfl, ?_⟩
        refine brY rfl ?_
        conv => whnf
        refine brT ?_
        conv => whnf
        exact k2 (fun p q hr => hn p (ratA hs hr).2) _ gt
    · rw [ep]
      have hla : a.length ≤ x.length ∧ b.length ≤ x.length := by
        rw [ex, app_len, app_len]; omega
      clear ep
      intro gt
      conv => whnf
      refine ⟨_, _, rfl, ?_⟩
      conv => whnf
      refine ⟨_, _, rfl, ?_⟩
      conv => whnf
      refine ⟨_, _, rfl, ?_⟩
      conv => whnf
      refine ⟨rfl, ?_⟩
      conv => whnf
      refine ⟨a, rfl, by omega, fun n hn => ?_, fun hn => ?_⟩
      · have hn1 := hn.1
        conv => whnf
        refine ⟨small_ok (by rw [slash_len]; omega), ?_⟩
        refine brY (by rw [slash_len]; rfl) ?_
        conv => whnf
        refine ⟨b, rfl, by omega, fun m hm0 => ?_, fun hm0 => ?_⟩
        · have hm1 := hm0.1
          have key : ∀ p q, IsRat x p q → p = n ∧ q = m := fun p q hr => by
            obtain ⟨_, a1, a2⟩ := ratB hs ex hr
            exact ⟨num_uniq a1 hn, num_uniq a2 hm0⟩
          conv => whnf
          refine ⟨rfl, ?_⟩
          refine ⟨_, rfl, ?_⟩
          refine brN rfl ?_
          conv => whnf
          refine ⟨rfl, ?_⟩
          conv => whnf
          refine ⟨_, rfl, ?_⟩
          refine brN rfl ?_
          conv => whnf
          refine ⟨_, rfl, ?_⟩
          refine brD (fun hq => ?_) (fun hq => ?_)
          · conv => whnf
            exact k2 (fun p q hr => by
              have := (key p q hr).2
              have := hr.1.pos
              omega) _ gt
          have hm : 0 < m := by omega
          conv => whnf
          refine ⟨n, m, rfl, hm, Nat.lt_of_lt_of_le hm1 (by decide), fun v H1 g1 hv => ?_⟩
          obtain ⟨c, dx, rfl, ha⟩ := hv
          conv => whnf
          obtain ⟨l1, _, l2, l3⟩ := low_of (a := n) hm
          have l4 := l1.pos
          refine ⟨dx, _, ha, _, _, _, rfl, ⟨c, dx, rfl, ha⟩, by omega, by omega, fun H2 g2 => ⟨⟨_, rfl⟩, ?_⟩⟩
          conv => whnf
          refine ⟨_, rfl, ?_⟩
          refine brD (fun h => ?_) (fun h => ?_)
          · conv => whnf
            exact k1 _ _ _ _ ⟨l1, by omega, by omega, (V.str.inj h).symm⟩ (gt.trans (g1.trans g2)) ⟨c, dx, rfl, g2 _ _ ha⟩
          · conv => whnf
            refine k2 (fun p q hr => ?_) _ (gt.trans (g1.trans g2))
            obtain ⟨rfl, rfl⟩ := key p q hr
            obtain ⟨s1, s2⟩ := low_self hr.1
            rw [s1, s2] at h
            exact h (by rw [← hr.2.2.2])
        · conv => whnf
          refine ⟨rfl, ?_⟩
          refine ⟨_, rfl, ?_⟩
          refine brN rfl ?_
          conv => whnf
          refine ⟨rfl, ?_⟩
          conv => whnf
          refine ⟨_, rfl, ?_⟩
          refine brY rfl ?_
          conv => whnf
          refine brT ?_
          conv => whnf
          exact k2 (fun p q hr => hm0 q (ratB hs ex hr).2.2) _ gt
      · conv => whnf
        refine ⟨small_ok (by rw [slash_len]; omega), ?_⟩
        refine brY (by rw [slash_len]; rfl) ?_
        conv => whnf
        refine ⟨b, rfl, by omega, fun m hm0 => ?_, fun hm0 => ?_⟩
        all_goals
          conv => whnf
          refine ⟨rfl, ?_⟩
          refine ⟨_, rfl, ?_⟩
          refine brY rfl ?_
          conv => whnf
          refine brT ?_
          conv => whnf
          exact k2 (fun p q hr => hn p (ratB hs ex hr).2.1) _ gt
def sp_Ratio_of_text (K : PySem.W.Frag) (C : Addr) : Sp := fun vs H Q _ => ∃ (p q : Int), vs = [.ref C, .str (rtext p q)] ∧ Low p q ∧ p.natAbs < 10 ^ 60 ∧ q.natAbs < 10 ^ 60 ∧ ∀ (x : Addr) (H' : Hp), Gr H H' → IsR C H' (.ref x) p q → Q (.ref x) H'
theorem ok_Ratio_of_text (T : Txt K mg) : FnOk P w K mg base CX0 6 T.a_Ratio_of_text T.d_Ratio_of_text ["cls", "text"] (sp_Ratio_of_text K T.c_Ratio) := by
  refine T.F_Ratio_of_text.ok sc_Ratio_of_text (fun vs H Q E h => ?_) (fun cdv A outer s H vs Q E hr h => ?_)
  · obtain ⟨p, q, rfl, _⟩ := h; rfl
  · obtain ⟨p, q, rfl, l, hp, hq, k⟩ := h
    refine ⟨_, (pss_cons (ps_set (i := 2) sc_Ratio_of_text.nd rfl (by first | exact Or.inl rfl | exact Or.inr rfl) (pe_call (ok_ratio_in T) (hr.mono (by decide)) (by rfl) T.g_ratio_in T.F_ratio_in.kp T.B_ratio_in .nil pass0 (pa_cons (pev 1) pa_nil)))
        (pss_cons (psIf (pt_cmpR op_isN (pev 2) pe_non (nomark _)) (pss_one ps_never) pss_nil)
        (pss_one (ps_ret (pev 2))))), ?_⟩
    have h1 := num_short hp
    have h2 := num_short hq
    have hlen : (rtext p q).length ≤ 1000 := by
      unfold rtext
      split
      · omega
      · rw [app_len, app_len, slash_len]; omega
    conv => whnf
    refine ⟨_, _, rfl, Kd.str _, fun x e => ?_, fun x p' q' v H1 e hr g1 hv => ?_, fun no => ?_⟩
    · cases e; exact hlen
    · cases e
      obtain ⟨e1, e2⟩ := rat_inj hr ⟨l, hp, hq, rfl⟩
      subst e1 e2
      obtain ⟨c, dx, rfl, ha⟩ := hv
      conv => whnf
      refine ⟨rfl, ?_⟩
      conv => whnf
      refine ⟨_, rfl, ?_⟩
      refine brN rfl ?_
      conv => whnf
      exact k c H1 g1 ⟨c, dx, rfl, ha⟩
    · exact absurd ⟨l, hp, hq, rfl⟩ (no _ p q rfl)
def sp_Ratio___eq__ (K : PySem.W.Frag) (C : Addr) : Sp := fun vs H Q _ => (∃ (v w : V) (p q p' q' : Int), vs = [v, w] ∧ IsR C H v p q ∧ IsR C H w p' q' ∧ Q (.bl (decide (p = p' ∧ q = q'))) H) ∨ ∃ (v w : V) (p q : Int) (S : String), vs = [v, w] ∧ IsR C H v p q ∧ Kd K H w S ∧ Q (.bl false) H
theorem ok_Ratio___eq__ (T : Txt K mg) : FnOk P w K mg base CX0 1 T.a_Ratio___eq__ T.d_Ratio___eq__ ["self", "other"] (sp_Ratio___eq__ K T.c_Ratio) := by
  refine T.F_Ratio___eq__.ok sc_Ratio___eq__ (fun vs H Q E h => ?_) (fun cdv A outer s H vs Q E hr h => ?_)
  · rcases h with ⟨v, w, p, q, p', q', rfl, _⟩ | ⟨v, w, p, q, S, rfl, _⟩ <;> rfl
  · obtain ⟨v, w, rfl, h2⟩ : ∃ v w, vs = [v, w] ∧ ((∃ (p q p' q' : Int), IsR T.c_Ratio H v p q ∧ IsR T.c_Ratio H w p' q' ∧ Q (.bl (decide (p = p' ∧ q = q'))) H) ∨ ∃ (p q : Int) (S : String), IsR T.c_Ratio H v p q ∧ Kd K H w S ∧ Q (.bl false) H) := by
      rcases h with ⟨v, w, p, q, p', q', rfl, z⟩ | ⟨v, w, p, q, S, rfl, z⟩
      · exact ⟨v, w, rfl, .inl ⟨p, q, p', q', z⟩⟩
      · exact ⟨v, w, rfl, .inr ⟨p, q, S, z⟩⟩
    refine ⟨_, (pss_one (ps_ret (peAnd (pe_callB call_isi (by rfl) T.b_isinstance (by decide +kernel) (pa_cons (pev 1) (pa_cons (pe_glob (v := .ref T.c_Ratio) (by rfl) T.g_Ratio rfl) pa_nil))) (peAnd (pe_cmpR (opEq (hu64 hr)) (pe_fld (pev 0) rfl) (pe_fld (pev 1) rfl) (nomark _)) (pe_one (pe_cmpR (opEq (hu64 hr)) (pe_fld (pev 0) rfl) (pe_fld (pev 1) rfl) (nomark _))))))), ?_⟩
    rcases h2 with ⟨p, q, p', q', ⟨a, dx, rfl, ha⟩, ⟨b, dy, rfl, hb⟩, k⟩ | ⟨p, q, S, ⟨a, dx, rfl, ha⟩, hw, k⟩
    · conv => whnf
      refine ⟨_, _, _, _, _, rfl, .own _, T.o_Ratio.ty hb, own_self, ?_⟩
      conv => whnf
      refine brT ?_
      conv => whnf
      refine ⟨a, T.c_Ratio, dx, _, _, rfl, ha, T.o_Ratio.cl, T.f_Ratio__top, rf_lt _ _, ?_⟩
      conv => whnf
      refine ⟨b, T.c_Ratio, dy, _, _, rfl, hb, T.o_Ratio.cl, T.f_Ratio__top, rf_lt _ _, ?_⟩
      conv => whnf
      refine br2 (fun h => ?_) (fun h => ?_)
      · have h1 : p = p' := V.int.inj (of_decide_eq_true h)
        conv => whnf
        refine ⟨a, T.c_Ratio, dx, _, _, rfl, ha, T.o_Ratio.cl, T.f_Ratio__bottom, rf_lb _ _, ?_⟩
        conv => whnf
        refine ⟨b, T.c_Ratio, dy, _, _, rfl, hb, T.o_Ratio.cl, T.f_Ratio__bottom, rf_lb _ _, ?_⟩
        conv => whnf
        rw [show decide (p = p' ∧ q = q') = decide (V.int q = V.int q') from decide_eq_decide.mpr ⟨fun z => by rw [z.2], fun z => ⟨h1, V.int.inj z⟩⟩] at k
        exact k
      · have h1 : ¬ p = p' := fun z => of_decide_eq_false h (by rw [z])
        rw [decide_eq_false (fun z => h1 z.1)] at k
        exact k
    · conv => whnf
      refine ⟨_, _, _, _, _, rfl, .own _, hw.1, T.o_Ratio.no hw.2, ?_⟩
      conv => whnf
      refine brF ?_
      exact k
theorem digit_small {n : Int} : ∀ c ∈ (Str.ofString (toString n)).cps.toList, c < 128 := by
  intro c hc
  rw [num_list] at hc
  rcases List.mem_append.mp hc with h | h
  · by_cases q : n < 0
    · rw [if_pos q] at h
      obtain rfl := List.mem_singleton.mp h
      decide
    · rw [if_neg q] at h
      exact absurd h List.not_mem_nil
  · have := digits_are _ c h
    omega
theorem rtext_small {p q : Int} : ∀ c ∈ (rtext p q).cps.toList, c < 128 := by
  intro c hc
  unfold rtext at hc
  by_cases h : q = 1
  · rw [if_pos h] at hc
    exact digit_small c hc
  · rw [if_neg h, app_list, app_list] at hc
    rcases List.mem_append.mp hc with h1 | h1
    · rcases List.mem_append.mp h1 with h2 | h2
      · exact digit_small c h2
      · have e : (Str.ofString "/").cps.toList = [47] := by decide
        rw [e] at h2
        obtain rfl := List.mem_singleton.mp h2
        decide
    · exact digit_small c h1
theorem rtext_ok {p q : Int} : PyData.strOk (rtext p q) = true := by
  show (rtext p q).cps.all (fun x => decide (x < 0x110000)) = true
  rw [Array.all_eq_true_iff_forall_mem]
  intro c hc
  have := rtext_small c (Array.mem_toList_iff.mpr hc)
  exact decide_eq_true (by omega)
theorem rtext_len {p q : Int} (hp : p.natAbs < 10 ^ 60) (hq : q.natAbs < 10 ^ 60) : (rtext p q).length ≤ 201 := by
  have h1 := num_short hp
  have h2 := num_short hq
  have l1 : (Str.ofString "/").length = 1 := by decide
  unfold rtext
  by_cases h : q = 1
  · rw [if_pos h]; omega
  · rw [if_neg h, app_len, app_len]; omega
def toldD (p q : Int) : PyData := .list [pd p q, .int p, .int q, .str (rtext p q), .bool (decide (p ≠ 0))]
theorem toldD_shaped (p q : Int) : SeqAt.shaped (toldD p q) = true := by
  show (((PyData.canLay0 (pd p q)) && (true && (true && (PyData.strOk (rtext p q) && (true && true))))) && decide _) = true
  rw [rtext_ok]
  rfl
theorem toldD_show {p q : Int} (h1 : p.natAbs.log2 < 1920) (h2 : q.natAbs.log2 < 1920) : (toldD p q).showable = true := by
  show ((pd p q).showable && (decide _ && (decide _ && (true && (true && true))))) = true
  rw [pd_show h1 h2, decide_eq_true h1, decide_eq_true h2]
  rfl
theorem toldD_len {p q : Int} (hp : p.natAbs < 10 ^ 60) (hq : q.natAbs < 10 ^ 60) : (toldD p q).shown.length ≤ sizeLine := by
  have a := pd_len (k := 60) (by decide) hp hq
  have b := num_short hp
  have c := num_short hq
  have d := rtext_len hp hq
  have e : (reprText (rtext p q)).length ≤ 10 * (rtext p q).length + 2 := PySem.StrLaws.reprText_len _ fun c hc => Nat.lt_trans (rtext_small c hc) (by decide)
  have f : (PyData.bool (decide (p ≠ 0))).shown.length ≤ 10 := by cases decide (p ≠ 0) <;> decide
  have z := listText_len_le [(pd p q).shown, Str.ofString (toString p), Str.ofString (toString q), reprText (rtext p q), (PyData.bool (decide (p ≠ 0))).shown]
  show (listText [(pd p q).shown, Str.ofString (toString p), Str.ofString (toString q), reprText (rtext p q), (PyData.bool (decide (p ≠ 0))).shown]).length ≤ _
  simp only [List.map_cons, List.map_nil, List.sum_cons, List.sum_nil, List.length_cons, List.length_nil] at z
  exact small_ok (by omega)
def sp__law_is_told (K : PySem.W.Frag) (C : Addr) : Sp := fun vs H Q _ => ∃ (v w : V) (p q : Int), vs = [v, w] ∧ IsR C H v p q ∧ TupAt H w p q ∧ Low p q ∧ p.natAbs < 10 ^ 60 ∧ q.natAbs < 10 ^ 60 ∧ ∀ H' : Hp, Gr H H' → Q (.bl true) H'
theorem ok__law_is_told (T : Txt K mg) : FnG P w K mg base CX0 7 T.a__law_is_told T.d__law_is_told ["_law_one", "_law_pair"] (sp__law_is_told K T.c_Ratio) := by
  refine okG T.F__law_is_told sc__law_is_told (fun vs H Q E h => ?_) (fun cdv A outer s H vs Q E hg hr h => ?_)
  · obtain ⟨v, w, p, q, rfl, _⟩ := h; rfl
  · obtain ⟨v, w, p, q, rfl, iv, tw, lo, hp, hq, k⟩ := h
    obtain ⟨a, dx, rfl, ha⟩ := id iv
    obtain ⟨t, rfl, ht⟩ := id tw
    refine ⟨_, PSs.nox (pss_cons (ps_set (i := 2) sc__law_is_told.nd rfl (by first | exact Or.inl rfl | exact Or.inr rfl) (pe_lst (pa_cons (pe_prop (pev 0) T.o_Ratio.cl T.P_Ratio_pair (ok_Ratio_pair T) (hr.mono (by decide)) T.B_Ratio_pair .nil pass0 rfl) (pa_cons (pe_prop (pev 0) T.o_Ratio.cl T.P_Ratio_top (ok_Ratio_top T) (hr.mono (by decide)) T.B_Ratio_top .nil pass0 rfl) (pa_cons (pe_prop (pev 0) T.o_Ratio.cl T.P_Ratio_bottom (ok_Ratio_bottom T) (hr.mono (by decide)) T.B_Ratio_bottom .nil pass0 rfl) (pa_cons (pe_callTy (caStrO T.M_Ratio___str__ (ok_Ratio___str__ T) (hr.mono (by decide)) T.B_Ratio___str__ pass0) (by rfl) T.b_str (by decide +kernel) (pa_cons (pev 0) pa_nil)) (pa_cons (pe_callTy (caBoolO T.M_Ratio___bool__ (ok_Ratio___bool__ T) (hr.mono (by decide)) T.B_Ratio___bool__ pass0) (by rfl) T.b_bool (by decide +kernel) (pa_cons (pev 0) pa_nil)) pa_nil)))))))
        (pss_cons (psIf (pt_cmpR (opNe (hu64 hr)) (pe_callB (caReprB hg (hu70 hr)) (by rfl) T.b_repr (by decide +kernel) (pa_cons (pev 2) pa_nil)) (pe_callB (caReprB hg (hu70 hr)) (by rfl) T.b_repr (by decide +kernel) (pa_cons (pe_lst (pa_cons (pev 1) (pa_cons (pe_ix ixU (pev 1) pe_int (fun _ _ => rfl)) (pa_cons (pe_ix ixU (pev 1) pe_int (fun _ _ => rfl)) (pa_cons (pe_call (ok__law_text T) (hr.mono (by decide)) (by rfl) T.g__law_text T.F__law_text.kp T.B__law_text .nil pass0 (pa_cons (pev 1) pa_nil)) (pa_cons (pe_cmpR (opNe (hu64 hr)) (pe_ix ixU (pev 1) pe_int (fun _ _ => rfl)) pe_int (nomark _)) pa_nil)))))) pa_nil)) (nomark _)) (pss_one (ps_ret pe_bl)) pss_nil)
        (pss_cons (ps_set (i := 3) sc__law_is_told.nd rfl (by first | exact Or.inl rfl | exact Or.inr rfl) (ClX.pe_cmeth (pe_glob (v := .ref T.c_Ratio) (by rfl) T.g_Ratio rfl) T.R_Ratio T.Q_Ratio_of_text ((ok_Ratio_of_text T).raw T.B_Ratio_of_text .nil) (hr.mono (by decide)) pass0 (pa_cons (pe_call (ok__law_text T) (hr.mono (by decide)) (by rfl) T.g__law_text T.F__law_text.kp T.B__law_text .nil pass0 (pa_cons (pev 1) pa_nil)) pa_nil)))
        (pss_one (ps_ret (peAnd (pe_cmpR (opCmp rfl rfl T.M_Ratio___eq__ (ok_Ratio___eq__ T) (hr.mono (by decide)) T.B_Ratio___eq__ pass0) (pev 3) (pev 0) (nomark _)) (peAnd (pe_not (pe_cmpR (opNeX T.o_Ratio T.n_Ratio T.M_Ratio___eq__ (ok_Ratio___eq__ T) (hr.mono (by decide)) T.B_Ratio___eq__ pass0) (pev 3) (pev 0) (nomark _))) (pe_one (pe_cmpR (opEq (hu64 hr)) (pe_callB (caReprB hg (hu70 hr)) (by rfl) T.b_repr (by decide +kernel) (pa_cons (pe_prop (pev 3) T.o_Ratio.cl T.P_Ratio_pair (ok_Ratio_pair T) (hr.mono (by decide)) T.B_Ratio_pair .nil pass0 rfl) pa_nil)) (pe_callB (caReprB hg (hu70 hr)) (by rfl) T.b_repr (by decide +kernel) (pa_cons (pev 1) pa_nil)) (nomark _)))))))))), ?_⟩
    have l1 : p.natAbs.log2 < 1920 := num_fits (Nat.lt_of_lt_of_le hp (by decide))
    have l2 : q.natAbs.log2 < 1920 := num_fits (Nat.lt_of_lt_of_le hq (by decide))
    conv => whnf
    refine ⟨a, dx, _, rfl, ha, _, p, q, rfl, iv, fun u H1 g1 n1 e1 => ?_⟩
    conv => whnf
    refine ⟨a, dx, _, rfl, g1 _ _ ha, _, p, q, rfl, iv.up g1, ?_⟩
    conv => whnf
    refine ⟨a, dx, _, rfl, g1 _ _ ha, _, p, q, rfl, iv.up g1, ?_⟩
    conv => whnf
    refine ⟨dx, _, g1 _ _ ha, _, p, q, rfl, iv.up g1, hp, hq, fun H2 g2 => ⟨⟨_, rfl⟩, ?_⟩⟩
    have G2 := g1.trans g2
    conv => whnf
    refine ⟨dx, _, G2 _ _ ha, _, p, q, rfl, iv.up G2, ⟨_, rfl⟩, ?_⟩
    conv => whnf
    refine ⟨small_ok (by simp), fun tl htl => ?_⟩
    have eb : ∀ Hz : Hp, Hz = upd H2 tl (.lst [.ref u, .int p, .int q, .str (rtext p q), .bl (decide (p ≠ 0))]) → Gr H2 Hz ∧ Hz tl = some (.lst [.ref u, .int p, .int q, .str (rtext p q), .bl (decide (p ≠ 0))]) := fun Hz e => by subst e; exact ⟨Gr.rfl'.up htl, upd_same⟩
    obtain ⟨g3, e3⟩ := eb _ rfl
    generalize upd H2 tl (.lst [.ref u, .int p, .int q, .str (rtext p q), .bl (decide (p ≠ 0))]) = H3 at g3 e3 ⊢
    clear htl eb
    have G3 := G2.trans g3
    conv => whnf
    refine ⟨toldD p q, .lst (SqL.of e3) (.cons (TupAt.dp ⟨u, rfl, g3 _ _ (g2 _ _ e1)⟩) (.cons (.int _) (.cons (.int _) (.cons (.str _) (.cons (.bl _) .nil))))), toldD_show l1 l2, toldD_shaped p q, toldD_len hp hq, ?_⟩
    conv => whnf
    refine ⟨_, _, .inr (SqT.of (G3 _ _ ht)), rfl, ?_⟩
    conv => whnf
    refine ⟨_, _, .inr (SqT.of (G3 _ _ ht)), rfl, ?_⟩
    conv => whnf
    refine ⟨_, p, q, rfl, tw.up G3, hp, hq, ?_⟩
    conv => whnf
    refine ⟨_, _, .inr (SqT.of (G3 _ _ ht)), rfl, ?_⟩
    conv => whnf
    have nb : (!decide (V.int p = V.int 0)) = decide (p ≠ 0) := by
      by_cases z : p = 0
      · subst z; decide
      · rw [decide_eq_false (fun e => z (V.int.inj e)), decide_eq_true z]; rfl
    rw [nb]
    refine ⟨small_ok (by simp), fun dl hdl => ?_⟩
    have eb : ∀ Hz : Hp, Hz = upd H3 dl (.lst [.ref t, .int p, .int q, .str (rtext p q), .bl (decide (p ≠ 0))]) → Gr H3 Hz ∧ Hz dl = some (.lst [.ref t, .int p, .int q, .str (rtext p q), .bl (decide (p ≠ 0))]) := fun Hz e => by subst e; exact ⟨Gr.rfl'.up hdl, upd_same⟩
    obtain ⟨g4, e4⟩ := eb _ rfl
    generalize upd H3 dl (.lst [.ref t, .int p, .int q, .str (rtext p q), .bl (decide (p ≠ 0))]) = H4 at g4 e4 ⊢
    clear hdl eb
    have G4 := G3.trans g4
    conv => whnf
    refine ⟨toldD p q, .lst (SqL.of e4) (.cons (tw.up G4).dp (.cons (.int _) (.cons (.int _) (.cons (.str _) (.cons (.bl _) .nil))))), toldD_show l1 l2, toldD_shaped p q, toldD_len hp hq, ?_⟩
    conv => whnf
    refine ⟨_, rfl, ?_⟩
    refine brN (by simp) ?_
    conv => whnf
    refine ⟨rfl, ?_⟩
    conv => whnf
    refine ⟨_, p, q, rfl, tw.up G4, hp, hq, ?_⟩
    conv => whnf
    refine ⟨p, q, rfl, lo, hp, hq, fun x H5 g5 i5 => ?_⟩
    have G5 := G4.trans g5
    obtain ⟨_, dy, z, hx⟩ := id i5
    cases z
    conv => whnf
    refine ⟨dy, dx, _, _, hx, G5 _ _ ha, .inl ⟨_, _, p, q, p, q, rfl, i5, iv.up G5, ?_⟩⟩
    rw [decide_eq_true (⟨rfl, rfl⟩ : p = p ∧ q = q)]
    conv => whnf
    refine brT ?_
    conv => whnf
    refine ⟨dy, _, hx, .inl ⟨a, dx, _, rfl, G5 _ _ ha⟩, .inl ⟨_, _, p, q, p, q, rfl, i5, iv.up G5, ?_⟩⟩
    rw [decide_eq_true (⟨rfl, rfl⟩ : p = p ∧ q = q)]
    refine ⟨true, rfl, ?_⟩
    conv => whnf
    refine ⟨_, rfl, ?_⟩
    conv => whnf
    refine brT ?_
    conv => whnf
    refine ⟨x, dy, _, rfl, hx, _, p, q, rfl, i5, fun u6 H6 g6 n6 e6 => ?_⟩
    have G6 := G5.trans g6
    have sl : (pd p q).shown.length ≤ sizeLine := small_ok (Nat.le_trans (pd_len (k := 60) (by decide) hp hq) (by decide))
    conv => whnf
    refine ⟨_, TupAt.dp ⟨u6, rfl, e6⟩, pd_show l1 l2, shaped_pd _ _, sl, ?_⟩
    conv => whnf
    refine ⟨_, (tw.up G6).dp, pd_show l1 l2, shaped_pd _ _, sl, ?_⟩
    conv => whnf
    rw [decide_eq_true (rfl : V.str (pd p q).shown = V.str (pd p q).shown)]
    exact k _ G6
theorem Low.of {p q : Int} (h : 0 < q) : Low (p / gcdI p q) (q / gcdI p q) := (low_of h).1
def sp__law_right (K : PySem.W.Frag) (C : Addr) : Sp := fun vs H Q _ => ∃ (d : Addr) (n : Nat) (o : HO), vs = [.ref d] ∧ H d = some o ∧ Dice n o ∧ n ≤ 500000 ∧
  ∀ (H' : Hp) (o' : HO), (∀ b u, H b = some u → b ≠ d → H' b = some u) → H' d = some o' → Dice (n + 50) o' → Q (.bl true) H'
theorem ok__law_right (T : Txt K mg) : FnG P w K mg base CX0 8 T.a__law_right T.d__law_right ["_law_dice_here"] (sp__law_right K T.c_Ratio) := by
  refine okG T.F__law_right sc__law_right (fun vs H Q E h => ?_) (fun cdv A outer s H vs Q E hg hr h => ?_)
  · obtain ⟨d, n, o, rfl, _⟩ := h; rfl
  · obtain ⟨d, n, o, rfl, hd, D0, hn, k⟩ := h
    refine ⟨_, PSs.nox (pss_cons (ps_par (i := 1) (j := 2) (by rfl) sc__law_right.nd rfl rfl (by decide) rfl rfl (pa_cons (pe_call (ok__law_drawn T) (hr.mono (by decide)) (by rfl) T.g__law_drawn T.F__law_drawn.kp T.B__law_drawn .nil pass0 (pa_cons (pev 0) pa_nil)) (pa_cons (pe_call (ok__law_drawn T) (hr.mono (by decide)) (by rfl) T.g__law_drawn T.F__law_drawn.kp T.B__law_drawn .nil pass0 (pa_cons (pev 0) pa_nil)) pa_nil)) (by rfl))
        (pss_cons (ps_asg (pe_tup (pa_cons (pe_make T.K_Ratio (ok_Ratio___init__ T) (hr.mono (by decide)) (by rfl) T.g_Ratio T.B_Ratio___init__ .nil pass0 (pa_cons (pe_ix ixU (pev 1) pe_int (fun _ _ => rfl)) (pa_cons (pe_ix ixU (pev 1) pe_int (fun _ _ => rfl)) pa_nil))) (pa_cons (pe_make T.K_Ratio (ok_Ratio___init__ T) (hr.mono (by decide)) (by rfl) T.g_Ratio T.B_Ratio___init__ .nil pass0 (pa_cons (pe_ix ixU (pev 2) pe_int (fun _ _ => rfl)) (pa_cons (pe_ix ixU (pev 2) pe_int (fun _ _ => rfl)) pa_nil))) pa_nil))) (pg_tup rfl (pgs_cons (pg_name (i := 3) sc__law_right.nd rfl (by first | exact Or.inl rfl | exact Or.inr rfl)) (pgs_cons (pg_name (i := 4) sc__law_right.nd rfl (by first | exact Or.inl rfl | exact Or.inr rfl)) pgs_nil))))
        (pss_cons (ps_set (i := 5) sc__law_right.nd rfl (by first | exact Or.inl rfl | exact Or.inr rfl) (pe_lst (pa_cons (pe_call (ok__law_lowest T) (hr.mono (by decide)) (by rfl) T.g__law_lowest T.F__law_lowest.kp T.B__law_lowest .nil pass0 (pa_cons (pe_ix ixU (pev 1) pe_int (fun _ _ => rfl)) (pa_cons (pe_ix ixU (pev 1) pe_int (fun _ _ => rfl)) pa_nil))) (pa_cons (pe_call (ok__law_lowest T) (hr.mono (by decide)) (by rfl) T.g__law_lowest T.F__law_lowest.kp T.B__law_lowest .nil pass0 (pa_cons (pe_ix ixU (pev 2) pe_int (fun _ _ => rfl)) (pa_cons (pe_ix ixU (pev 2) pe_int (fun _ _ => rfl)) pa_nil))) pa_nil))))
        (pss_cons (psIf (PW.pt (pwOr (pt_not (ptV (peG (ok__law_is_told T) hg (hr.mono (by decide)) (by rfl) T.g__law_is_told T.F__law_is_told.kp T.B__law_is_told .nil pass0 (pa_cons (pev 3) (pa_cons (pe_ix ixU (pev 5) pe_int (fun _ _ => rfl)) pa_nil))))) (pw_or1 (pt_not (ptV (peG (ok__law_is_told T) hg (hr.mono (by decide)) (by rfl) T.g__law_is_told T.F__law_is_told.kp T.B__law_is_told .nil pass0 (pa_cons (pev 4) (pa_cons (pe_ix ixU (pev 5) pe_int (fun _ _ => rfl)) pa_nil)))))))) (pss_one (ps_ret pe_bl)) pss_nil)
        (pss_cons (psIf (PW.pt (pwOr (pt_cmpR (opNe (hu64 hr)) (pe_cmpR (opCmp rfl rfl T.M_Ratio___eq__ (ok_Ratio___eq__ T) (hr.mono (by decide)) T.B_Ratio___eq__ pass0) (pev 3) (pev 4) (nomark _)) (pe_cmpR (opEq (hu64 hr)) (pe_ix ixU (pev 5) pe_int (fun _ _ => rfl)) (pe_ix ixU (pev 5) pe_int (fun _ _ => rfl)) (nomark _)) (nomark _)) (pw_or1 (pt_cmpR (opEq (hu64 hr)) (pe_cmpR (opNeX T.o_Ratio T.n_Ratio T.M_Ratio___eq__ (ok_Ratio___eq__ T) (hr.mono (by decide)) T.B_Ratio___eq__ pass0) (pev 3) (pev 4) (nomark _)) (pe_cmpR (opEq (hu64 hr)) (pe_ix ixU (pev 5) pe_int (fun _ _ => rfl)) (pe_ix ixU (pev 5) pe_int (fun _ _ => rfl)) (nomark _)) (nomark _))))) (pss_one (ps_ret pe_bl)) pss_nil)
        (pss_cons (ps_set (i := 6) sc__law_right.nd rfl (by first | exact Or.inl rfl | exact Or.inr rfl) (pe_lst (pa_cons (pe_ix ixU (pev 5) pe_int (fun _ _ => rfl)) (pa_cons (pe_ix ixU (pe_ix ixU (pev 5) pe_int (fun _ _ => rfl)) pe_int (fun _ _ => rfl)) (pa_cons (pe_call (ok__law_text T) (hr.mono (by decide)) (by rfl) T.g__law_text T.F__law_text.kp T.B__law_text .nil pass0 (pa_cons (pe_ix ixU (pev 5) pe_int (fun _ _ => rfl)) pa_nil)) (pa_cons pe_non (pa_cons (pe_tup (pa_cons (pev 3) pa_nil)) (pa_cons (pe_lst (pa_cons (pev 3) pa_nil)) (pa_cons pe_bl (pa_cons pe_int (pa_cons pe_int pa_nil)))))))))))
        (pss_one (ps_ret (pe_cmpR (opEq (hu64 hr)) (pe_lc (own := [("_law_value", 7)]) (g := gName 7) (tt := (uOr (tTest (tOp (uOwnX K T.c_Ratio (sp_Ratio___eq__ K T.c_Ratio) E0) (uV 3) (uV 7))) (tNot (tTest (tOp (uOwnN K T.c_Ratio (sp_Ratio___eq__ K T.c_Ratio) E0) (uV 3) (uV 7)))))) (te := (uV 7)) rfl sc__law_right.nd (pi_list (pev 6)) (blkOk_by (own := [("_law_value", 7)]) (N := ["_law_dice_here", "_law_first", "_law_second", "_law_one", "_law_other", "_law_due", "_law_odd", "_law_value"]) (sc := defScope s__law_right) (by decide +kernel)) (fun _ _ _ _ _ => pg_name (i := 7) sc__law_right.nd rfl (by first | exact Or.inl rfl | exact Or.inr rfl)) (fun _ _ _ _ _ => (pts_one (PW.pt (pwOr (pt_cmpR (opCmpX rfl rfl T.M_Ratio___eq__ (ok_Ratio___eq__ T) (hr.mono (by decide)) T.B_Ratio___eq__ pass0) (pev 3) (pev 7) (nomark _)) (pw_or1 (pt_not (pt_cmpR (opNeX T.o_Ratio T.n_Ratio T.M_Ratio___eq__ (ok_Ratio___eq__ T) (hr.mono (by decide)) T.B_Ratio___eq__ pass0) (pev 3) (pev 7) (nomark _)))))))) (fun _ _ _ _ _ => (pev 7))) (pe_lst pa_nil) (nomark _)))))))))), ?_⟩
    have L0 := At.start1 hd
    conv => whnf
    refine ⟨d, n, o, rfl, hd, D0, by omega, fun H1 t1 o1 p1 q1 f1 g1 D1 n1 e1 bp1 bq1 => ?_⟩
    conv => whnf
    refine ⟨d, _, o1, rfl, g1, D1, by omega, fun H2 t2 o2 p2 q2 f2 g2 D2 n2 e2 bp2 bq2 => ?_⟩
    obtain ⟨_, _, _, ho1, _⟩ := id D1
    subst ho1
    have e1' := f2 _ _ e1 (fun z => by rw [z, g1] at e1; cases e1)
    have s2 : ∀ b u, H b = some u → b ≠ d → H2 b = some u := fun b u e z => f2 _ _ (f1 b u e z) z
    clear f1 f2 g1 D1 n1 n2 e1 L0
    conv => whnf
    refine ⟨_, _, rfl, ?_⟩
    conv => whnf
    refine ⟨_, _, .inr (SqT.of e1'), rfl, ?_⟩
    conv => whnf
    refine ⟨_, _, .inr (SqT.of e1'), rfl, ?_⟩
    conv => whnf
    intro x y hx hy ne
    refine make_R hx hy ne bp1 bq1 fun H3 g3 i3 => ?_
    conv => whnf
    refine ⟨_, _, .inr (SqT.of (g3 _ _ e2)), rfl, ?_⟩
    conv => whnf
    refine ⟨_, _, .inr (SqT.of (g3 _ _ e2)), rfl, ?_⟩
    conv => whnf
    intro x' y' hx' hy' ne'
    refine make_R hx' hy' ne' bp2 bq2 fun Hq gq i4 => ?_
    conv => whnf
    refine ⟨small_ok (by simp), fun tp htp => ?_⟩
    have eb : ∀ Hz : Hp, Hz = upd Hq tp (.tup [.ref x, .ref x']) → Gr Hq Hz ∧ Hz tp = some (.tup [.ref x, .ref x']) := fun Hz e => by subst e; exact ⟨Gr.rfl'.up htp, upd_same⟩
    obtain ⟨gt, et⟩ := eb _ rfl
    generalize upd Hq tp (.tup [.ref x, .ref x']) = H4 at gt et ⊢
    clear htp eb
    have g4 := gq.trans gt
    have i4 := i4.up gt
    have G4 := g3.trans g4
    conv => whnf
    refine ⟨tp, _, rfl, SqT.of et, rfl, ?_⟩
    conv => whnf
    refine ⟨_, _, rfl, ?_⟩
    conv => whnf
    refine ⟨_, _, rfl, ?_⟩
    conv => whnf
    refine ⟨rfl, ?_⟩
    conv => whnf
    refine ⟨_, _, .inr (SqT.of (G4 _ _ e1')), rfl, ?_⟩
    conv => whnf
    refine ⟨_, _, .inr (SqT.of (G4 _ _ e1')), rfl, ?_⟩
    conv => whnf
    refine ⟨p1, q1, rfl, bq1.1, bq1.2, by omega, fun u1 H5 g5 n5 e5 => ?_⟩
    have G5 := G4.trans g5
    conv => whnf
    refine ⟨_, _, .inr (SqT.of (G5 _ _ e2)), rfl, ?_⟩
    conv => whnf
    refine ⟨_, _, .inr (SqT.of (G5 _ _ e2)), rfl, ?_⟩
    conv => whnf
    refine ⟨p2, q2, rfl, bq2.1, bq2.2, by omega, fun u2 H6 g6 n6 e6 => ?_⟩
    have G6 := G5.trans g6
    have lo1 := Low.of (p := p1) bq1.1
    have lo2 := Low.of (p := p2) bq2.1
    have z1 := low_of (a := p1) bq1.1
    have z2 := low_of (a := p2) bq2.1
    have ia := i3.up ((g4.trans g5).trans g6)
    have ib := i4.up (g5.trans g6)
    have ta : TupAt H6 (.ref u1) (p1 / gcdI p1 q1) (q1 / gcdI p1 q1) := TupAt.up ⟨u1, rfl, e5⟩ g6
    have tb : TupAt H6 (.ref u2) (p2 / gcdI p2 q2) (q2 / gcdI p2 q2) := ⟨u2, rfl, e6⟩
    have ba : (p1 / gcdI p1 q1).natAbs < 10 ^ 60 := Nat.lt_of_le_of_lt z1.2.2.1 (by omega)
    have bb : (p2 / gcdI p2 q2).natAbs < 10 ^ 60 := Nat.lt_of_le_of_lt z2.2.2.1 (by omega)
    have ca : (q1 / gcdI p1 q1).natAbs < 10 ^ 60 := by have := z1.2.2.2; have := lo1.pos; omega
    have cb : (q2 / gcdI p2 q2).natAbs < 10 ^ 60 := by have := z2.2.2.2; have := lo2.pos; omega
    generalize p1 / gcdI p1 q1 = P1 at *
    generalize q1 / gcdI p1 q1 = Q1 at *
    generalize p2 / gcdI p2 q2 = P2 at *
    generalize q2 / gcdI p2 q2 = Q2 at *
    conv => whnf
    refine ⟨small_ok (by simp), fun dl hdl => ?_⟩
    have eb : ∀ Hz : Hp, Hz = upd H6 dl (.lst [.ref u1, .ref u2]) → Gr H6 Hz ∧ Hz dl = some (.lst [.ref u1, .ref u2]) := fun Hz e => by subst e; exact ⟨Gr.rfl'.up hdl, upd_same⟩
    obtain ⟨g7, e7⟩ := eb _ rfl
    generalize upd H6 dl (.lst [.ref u1, .ref u2]) = H7 at g7 e7 ⊢
    clear hdl eb
    have G7 := G6.trans g7
    conv => whnf
    refine ⟨_, _, .inl (SqL.of e7), rfl, ?_⟩
    conv => whnf
    refine ⟨_, _, P1, Q1, rfl, ia.up g7, ta.up g7, lo1, ba, ca, fun H8 g8 => ?_⟩
    conv => whnf
    refine brF ?_
    conv => whnf
    refine ⟨_, _, .inl (SqL.of (g8 _ _ e7)), rfl, ?_⟩
    conv => whnf
    have g78 := g7.trans g8
    refine ⟨_, _, P2, Q2, rfl, ib.up g78, tb.up g78, lo2, bb, cb, fun H9 g9 => ?_⟩
    conv => whnf
    refine brF ?_
    have g79 := g78.trans g9
    have ia := ia.up g79
    have ib := ib.up g79
    have ta := ta.up g79
    have tb := tb.up g79
    have e9 := g9 _ _ (g8 _ _ e7)
    have G9 := G6.trans g79
    obtain ⟨_, da, z, hxa⟩ := id ia
    cases z
    obtain ⟨_, db, z, hxb⟩ := id ib
    cases z
    conv => whnf
    refine ⟨da, db, _, _, hxa, hxb, .inl ⟨_, _, P1, Q1, P2, Q2, rfl, ia, ib, ?_⟩⟩
    conv => whnf
    refine ⟨_, _, .inl (SqL.of e9), rfl, ?_⟩
    conv => whnf
    refine ⟨_, _, .inl (SqL.of e9), rfl, ?_⟩
    conv => whnf
    refine ⟨pd P1 Q1, pd P2 Q2, ta.dp, tb.dp, shaped_pd _ _, shaped_pd _ _, ?_⟩
    rw [eqv_pd]
    generalize hE : decide (P1 = P2 ∧ Q1 = Q2) = eq
    conv => whnf
    refine ⟨_, rfl, ?_⟩
    refine brN (by simp) ?_
    conv => whnf
    refine ⟨da, _, hxa, .inl ⟨x', db, _, rfl, hxb⟩, .inl ⟨_, _, P1, Q1, P2, Q2, rfl, ia, ib, ?_⟩⟩
    rw [hE]
    refine ⟨_, rfl, ?_⟩
    conv => whnf
    refine ⟨_, _, .inl (SqL.of e9), rfl, ?_⟩
    conv => whnf
    refine ⟨_, _, .inl (SqL.of e9), rfl, ?_⟩
    conv => whnf
    refine ⟨pd P1 Q1, pd P2 Q2, ta.dp, tb.dp, shaped_pd _ _, shaped_pd _ _, ?_⟩
    rw [eqv_pd, hE]
    conv => whnf
    refine ⟨_, rfl, ?_⟩
    refine brN (by cases eq <;> decide) ?_
    obtain ⟨_, zu, hu1⟩ := id ta
    cases zu
    conv => whnf
    refine ⟨_, _, .inl (SqL.of e9), rfl, ?_⟩
    conv => whnf
    refine ⟨_, _, .inl (SqL.of e9), rfl, ?_⟩
    conv => whnf
    refine ⟨_, _, .inr (SqT.of hu1), rfl, ?_⟩
    conv => whnf
    refine ⟨_, _, .inl (SqL.of e9), rfl, ?_⟩
    conv => whnf
    refine ⟨_, P1, Q1, rfl, ta, ba, ca, ?_⟩
    conv => whnf
    refine ⟨small_ok (by simp), fun tq htq => ?_⟩
    have eb : ∀ Hz : Hp, Hz = upd H9 tq (.tup [.ref x]) → Gr H9 Hz ∧ Hz tq = some (.tup [.ref x]) := fun Hz e => by subst e; exact ⟨Gr.rfl'.up htq, upd_same⟩
    obtain ⟨ga, ea⟩ := eb _ rfl
    generalize upd H9 tq (.tup [.ref x]) = Ha at ga ea ⊢
    clear htq eb
    conv => whnf
    refine ⟨small_ok (by simp), fun lq hlq => ?_⟩
    have eb : ∀ Hz : Hp, Hz = upd Ha lq (.lst [.ref x]) → Gr Ha Hz ∧ Hz lq = some (.lst [.ref x]) := fun Hz e => by subst e; exact ⟨Gr.rfl'.up hlq, upd_same⟩
    obtain ⟨gb, ebb⟩ := eb _ rfl
    generalize upd Ha lq (.lst [.ref x]) = Hb at gb ebb ⊢
    clear hlq eb
    conv => whnf
    refine ⟨small_ok (by simp), fun ol hol => ?_⟩
    generalize hodd : [V.ref u1, .int P1, .str (rtext P1 Q1), .non, .ref tq, .ref lq, .bl true, .int 0, .int 1] = odd
    have eb : ∀ Hz : Hp, Hz = upd Hb ol (.lst odd) → Gr Hb Hz ∧ Hz ol = some (.lst odd) := fun Hz e => by subst e; exact ⟨Gr.rfl'.up hol, upd_same⟩
    obtain ⟨gc, ec⟩ := eb _ rfl
    generalize upd Hb ol (.lst odd) = Hc at gc ec ⊢
    clear hol eb
    have Gc := (ga.trans gb).trans gc
    have okd : ∀ Hz, Gr Hc Hz → ∀ z ∈ odd, ∃ S, Kd K Hz z S := by
      intro Hz g z hz
      subst hodd
      simp only [List.mem_cons, List.not_mem_nil, or_false] at hz
      rcases hz with rfl | rfl | rfl | rfl | rfl | rfl | rfl | rfl | rfl
      · exact ⟨_, Kd.tup (g _ _ (Gc _ _ hu1))⟩
      · exact ⟨_, Kd.int _⟩
      · exact ⟨_, Kd.str _⟩
      · exact ⟨_, Kd.non⟩
      · exact ⟨_, Kd.tup (g _ _ (gc _ _ (gb _ _ ea)))⟩
      · exact ⟨_, Kd.lst (g _ _ (gc _ _ ebb))⟩
      · exact ⟨_, Kd.bl _⟩
      · exact ⟨_, Kd.int _⟩
      · exact ⟨_, Kd.int _⟩
    conv => whnf
    refine ⟨ol, rfl, ⟨_, SqL.of ec⟩, fun E hE' => ?_⟩
    refine lc_list (xs := odd) (fun _ Hz => Gr Hc Hz ∧ Hz E = some (.lst [])) ⟨Gr.rfl'.up hE', upd_same⟩ (fun _ _ _ L => SqL.of (L.1 _ _ ec)) ?_ ?_
    · rintro j z Hz hz ⟨g, e⟩
      obtain ⟨S', kz⟩ := okd Hz g z (List.mem_of_getElem? hz)
      have iz := ia.up (Gc.trans g)
      have hz9 := g _ _ (Gc _ _ hxa)
      conv => whnf
      refine ⟨rfl, ?_⟩
      conv => whnf
      refine ⟨da, _, hz9, .inr ⟨S', kz⟩, .inr ⟨_, _, P1, Q1, S', rfl, iz, kz, ?_⟩⟩
      conv => whnf
      refine ⟨_, rfl, ?_⟩
      refine brF ?_
      conv => whnf
      refine ⟨da, _, hz9, .inr ⟨S', kz⟩, .inr ⟨_, _, P1, Q1, S', rfl, iz, kz, ?_⟩⟩
      refine ⟨false, rfl, ?_⟩
      conv => whnf
      refine ⟨_, rfl, ?_⟩
      conv => whnf
      exact ⟨g, e⟩
    · rintro Hz ⟨g, e⟩
      conv => whnf
      refine ⟨small_ok (by simp), fun pe he => ?_⟩
      conv => whnf
      refine ⟨_, _, .lst (SqL.of (Gr.rfl'.up he _ _ e)) .nil, .lst (SqL.of upd_same) .nil, by decide +kernel, by decide +kernel, ?_⟩
      have GE : Gr H2 (upd Hz pe (.lst [])) := ((G9.trans Gc).trans g).trans (Gr.rfl'.up he)
      have eev : PyData.eqv (.list []) (.list []) = true := by decide +kernel
      rw [eev]
      exact k _ o2 (fun b u e z => GE _ _ (s2 b u e z)) (GE _ _ g2) (D2.up (by omega))
def sp_law (K : PySem.W.Frag) : Sp := fun vs H Q _ => ∃ (a : Addr) (ns : List Int), vs = [.ref a] ∧ SqL K H a (ns.map V.int) ∧ ns.length ≤ 63 ∧ ∀ H', Q (.bl true) H'
theorem enter (K : PySem.W.Frag) (H : Hp) (a : Addr) (ns : List Int) (h1 : ns.length ≤ 63) (h2 : ∀ z ∈ ns, Builtin.Int.intBits z ≤ 1048576) (h3 : SqL K H a (ns.map V.int)) : sp_law K [.ref a] H (fun v _ => v = .bl true) fun _ _ _ => False := ⟨a, ns, rfl, h3, h1, fun _ => rfl⟩
theorem ok_law (T : Txt K mg) : FnG P w K mg base CX0 9 T.a_law T.d_law ["_law_script"] (sp_law K) := by
  refine okG T.F_law sc_law (fun vs H Q E h => ?_) (fun cdv A outer s H vs Q E hg hr h => ?_)
  · obtain ⟨a, ns, rfl, _⟩ := h; rfl
  · obtain ⟨a, ns, rfl, hS, hn, k⟩ := h
    refine ⟨_, PSs.nox (pss_cons (ps_for PassesOwn.never rfl (pi_range1 (by rfl) T.b_range (pa_cons (pe_callB (caMax rfl) (by rfl) T.b_max (by decide +kernel) (pa_cons pe_int (pa_cons (pe_callB (caMin rfl) (by rfl) T.b_min (by decide +kernel) (pa_cons pe_int (pa_cons (pe_callB caLen (by rfl) T.b_len (by decide +kernel) (pa_cons (pev 0) pa_nil)) pa_nil))) pa_nil))) pa_nil)) (pg_name (i := 1) sc_law.nd rfl (by first | exact Or.inl rfl | exact Or.inr rfl))
        (pss_cons (ps_set (i := 2) sc_law.nd rfl (by first | exact Or.inl rfl | exact Or.inr rfl) (pe_call (ok__law_dice T) (hr.mono (by decide)) (by rfl) T.g__law_dice T.F__law_dice.kp T.B__law_dice .nil pass0 (pa_cons (pev 0) (pa_cons (pev 1) pa_nil))))
        (pss_one (ps_for PassesOwn.never rfl (pi_range1 (by rfl) T.b_range (pa_cons pe_int pa_nil)) (pg_name (i := 3) sc_law.nd rfl (by first | exact Or.inl rfl | exact Or.inr rfl))
        (pss_one (psIf (pt_not (ptV (peG (ok__law_right T) hg (hr.mono (by decide)) (by rfl) T.g__law_right T.F__law_right.kp T.B__law_right .nil pass0 (pa_cons (pev 2) pa_nil)))) (pss_one (ps_ret pe_bl)) pss_nil))))))
        (pss_cons (ps_set (i := 4) sc_law.nd rfl (by first | exact Or.inl rfl | exact Or.inr rfl) (pe_lst (pa_cons (pe_callTy (caStrO T.M_Ratio___str__ (ok_Ratio___str__ T) (hr.mono (by decide)) T.B_Ratio___str__ pass0) (by rfl) T.b_str (by decide +kernel) (pa_cons (pe_make T.K_Ratio (ok_Ratio___init__ T) (hr.mono (by decide)) (by rfl) T.g_Ratio T.B_Ratio___init__ .nil pass0 (pa_cons pe_int (pa_cons pe_int pa_nil))) pa_nil)) (pa_cons (pe_prop (pe_make T.K_Ratio (ok_Ratio___init__ T) (hr.mono (by decide)) (by rfl) T.g_Ratio T.B_Ratio___init__ .nil pass0 (pa_cons (pe_un unNeg pe_int) (pa_cons pe_int pa_nil))) T.o_Ratio.cl T.P_Ratio_pair (ok_Ratio_pair T) (hr.mono (by decide)) T.B_Ratio_pair .nil pass0 rfl) (pa_cons (pe_prop (pe_make T.K_Ratio (ok_Ratio___init__ T) (hr.mono (by decide)) (by rfl) T.g_Ratio T.B_Ratio___init__ .nil pass0 (pa_cons pe_int (pa_cons pe_int pa_nil))) T.o_Ratio.cl T.P_Ratio_pair (ok_Ratio_pair T) (hr.mono (by decide)) T.B_Ratio_pair .nil pass0 rfl) (pa_cons (pe_callTy (caStrO T.M_Ratio___str__ (ok_Ratio___str__ T) (hr.mono (by decide)) T.B_Ratio___str__ pass0) (by rfl) T.b_str (by decide +kernel) (pa_cons (pe_make T.K_Ratio (ok_Ratio___init__ T) (hr.mono (by decide)) (by rfl) T.g_Ratio T.B_Ratio___init__ .nil pass0 (pa_cons (pe_un unNeg pe_int) (pa_cons pe_int pa_nil))) pa_nil)) (pa_cons (pe_callTy (caBoolO T.M_Ratio___bool__ (ok_Ratio___bool__ T) (hr.mono (by decide)) T.B_Ratio___bool__ pass0) (by rfl) T.b_bool (by decide +kernel) (pa_cons (pe_make T.K_Ratio (ok_Ratio___init__ T) (hr.mono (by decide)) (by rfl) T.g_Ratio T.B_Ratio___init__ .nil pass0 (pa_cons pe_int (pa_cons pe_int pa_nil))) pa_nil)) pa_nil)))))))
        (pss_one (ps_ret (pe_cmpR (opEq (hu64 hr)) (pev 4) (pe_lst (pa_cons pe_str (pa_cons (pe_tup (pa_cons (pe_un unNeg pe_int) (pa_cons pe_int pa_nil))) (pa_cons (pe_tup (pa_cons pe_int (pa_cons pe_int pa_nil))) (pa_cons pe_str (pa_cons pe_bl pa_nil)))))) (nomark _)))))), ?_⟩
    conv => whnf
    refine ⟨_, .inl hS, ?_⟩
    conv => whnf
    rw [List.length_map]
    refine ⟨_, rfl, by omega, by omega, for_range (lo := 0) (n := (max 1 (min 4 (ns.length : Int))).toNat) (fun i σ H' => (∃ v1 v2 v3, σ = [some (.ref a), v1, v2, v3, none]) ∧ Gr H H')
      ⟨⟨none, none, none, rfl⟩, fun _ _ e => e⟩ ?_ ?_⟩
    · rintro i σ H1 hi ⟨⟨v1, v2, v3, rfl⟩, s1⟩
      conv => whnf
      refine ⟨a, ns, i, by rw [Int.zero_add]; rfl, sqlSame s1 hS, by omega, fun H2 p o s2 p0 p1 D0 => ?_⟩
      conv => whnf
      refine ⟨_, rfl, by decide, by decide, for_range (lo := 0) (n := 6) (fun j σ H' => (∃ v3, σ = [some (.ref a), some (.int (0 + (i : Nat))), some (.ref p), v3, none]) ∧ Gr H1 H' ∧ ∃ o', H' p = some o' ∧ Dice (50 * j) o')
        ⟨⟨v3, rfl⟩, s2, o, p1, D0⟩ ?_ ?_⟩
      · rintro j σ H3 hj ⟨⟨v3, rfl⟩, s3, o3, p3, D3⟩
        conv => whnf
        refine ⟨p, _, o3, rfl, p3, D3, by omega, fun H4 o4 f4 g4 D4 => ?_⟩
        conv => whnf
        refine brF ?_
        exact ⟨⟨_, rfl⟩, fun b u e => f4 b u (s3 b u e) (fun z => by subst z; rw [p0] at e; cases e), o4, g4, D4.up (by omega)⟩
      · rintro σ H3 ⟨⟨v3, rfl⟩, s3, _⟩
        exact ⟨⟨_, _, _, rfl⟩, fun b u e => s3 b u (s1 b u e)⟩
    · rintro σ H1 ⟨⟨v1, v2, v3, rfl⟩, s1⟩
      conv => whnf
      intro x1 y1 hx1 hy1 ne1
      refine make_R hx1 hy1 ne1 (by decide) (by decide) fun H1a g1a i1 => ?_
      rw [show (3 : Int) / gcdI (3) 6 = 1 by decide, show (6 : Int) / gcdI (3) 6 = 2 by decide] at i1
      obtain ⟨_, d1, z, h1⟩ := id i1
      cases z
      conv => whnf
      refine ⟨d1, _, h1, _, 1, 2, rfl, i1, by decide, by decide, fun H1b g1b => ⟨⟨_, rfl⟩, ?_⟩⟩
      conv => whnf
      intro x2 y2 hx2 hy2 ne2
      refine make_R hx2 hy2 ne2 (by decide) (by decide) fun H2a g2a i2 => ?_
      rw [show (-4 : Int) / gcdI (-4) 6 = -2 by decide, show (6 : Int) / gcdI (-4) 6 = 3 by decide] at i2
      obtain ⟨_, d2, z, h2⟩ := id i2
      cases z
      conv => whnf
      refine ⟨x2, d2, _, rfl, h2, _, (-2), 3, rfl, i2, fun u2 H2b g2b nn2 e2 => ?_⟩
      conv => whnf
      intro x3 y3 hx3 hy3 ne3
      refine make_R hx3 hy3 ne3 (by decide) (by decide) fun H3a g3a i3 => ?_
      rw [show (0 : Int) / gcdI (0) 7 = 0 by decide, show (7 : Int) / gcdI (0) 7 = 1 by decide] at i3
      obtain ⟨_, d3, z, h3⟩ := id i3
      cases z
      conv => whnf
      refine ⟨x3, d3, _, rfl, h3, _, 0, 1, rfl, i3, fun u3 H3b g3b nn3 e3 => ?_⟩
      conv => whnf
      intro x4 y4 hx4 hy4 ne4
      refine make_R hx4 hy4 ne4 (by decide) (by decide) fun H4a g4a i4 => ?_
      rw [show (-7 : Int) / gcdI (-7) 1 = -7 by decide, show (1 : Int) / gcdI (-7) 1 = 1 by decide] at i4
      obtain ⟨_, d4, z, h4⟩ := id i4
      cases z
      conv => whnf
      refine ⟨d4, _, h4, _, (-7), 1, rfl, i4, by decide, by decide, fun H4b g4b => ⟨⟨_, rfl⟩, ?_⟩⟩
      conv => whnf
      intro x5 y5 hx5 hy5 ne5
      refine make_R hx5 hy5 ne5 (by decide) (by decide) fun H5a g5a i5 => ?_
      rw [show (0 : Int) / gcdI (0) 1 = 0 by decide, show (1 : Int) / gcdI (0) 1 = 1 by decide] at i5
      obtain ⟨_, d5, z, h5⟩ := id i5
      cases z
      conv => whnf
      refine ⟨d5, _, h5, _, 0, 1, rfl, i5, ⟨_, rfl⟩, ?_⟩
      conv => whnf
      rw [show rtext 1 2 = Str.ofString "1/2" by decide +kernel, show rtext (-7) 1 = Str.ofString "-7" by decide +kernel]
      have f2 := g5a _ _ (g4b _ _ (g4a _ _ (g3b _ _ (g3a _ _ e2))))
      have f3 := g5a _ _ (g4b _ _ (g4a _ _ e3))
      refine ⟨small_ok (by simp), fun tl htl => ?_⟩
      have eb : ∀ Hz : Hp, Hz = upd H5a tl (.lst [.str (Str.ofString "1/2"), .ref u2, .ref u3, .str (Str.ofString "-7"), .bl (decide ((0 : Int) ≠ 0))]) → Gr H5a Hz ∧ Hz tl = some (.lst [.str (Str.ofString "1/2"), .ref u2, .ref u3, .str (Str.ofString "-7"), .bl false]) := fun Hz e => by subst e; exact ⟨Gr.rfl'.up htl, upd_same⟩
      obtain ⟨ga, ea⟩ := eb _ rfl
      generalize upd H5a tl (.lst [.str (Str.ofString "1/2"), .ref u2, .ref u3, .str (Str.ofString "-7"), .bl (decide ((0 : Int) ≠ 0))]) = Ha at ga ea ⊢
      clear htl eb
      conv => whnf
      refine ⟨small_ok (by simp), fun m1 hm1 => ?_⟩
      have gb := Gr.rfl'.up (o := .tup [.int (-2), .int 3]) hm1
      have eb := (upd_same (H := Ha) (a := m1) (o := .tup [.int (-2), .int 3]))
      conv => whnf
      refine ⟨small_ok (by simp), fun m2 hm2 => ?_⟩
      have gc := Gr.rfl'.up (o := .tup [.int 0, .int 1]) hm2
      have ec := (upd_same (H := upd Ha m1 (.tup [.int (-2), .int 3])) (a := m2) (o := .tup [.int 0, .int 1]))
      conv => whnf
      refine ⟨small_ok (by simp), fun dl hdl => ?_⟩
      have gd := Gr.rfl'.up (o := .lst [.str (Str.ofString "1/2"), .ref m1, .ref m2, .str (Str.ofString "-7"), .bl false]) hdl
      conv => whnf
      refine ⟨.list [.str (Str.ofString "1/2"), pd (-2) 3, pd 0 1, .str (Str.ofString "-7"), .bool false], .list [.str (Str.ofString "1/2"), pd (-2) 3, pd 0 1, .str (Str.ofString "-7"), .bool false],
        .lst (SqL.of (gd _ _ (gc _ _ (gb _ _ ea)))) (.cons (.str _) (.cons (TupAt.dp ⟨u2, rfl, gd _ _ (gc _ _ (gb _ _ (ga _ _ f2)))⟩) (.cons (TupAt.dp ⟨u3, rfl, gd _ _ (gc _ _ (gb _ _ (ga _ _ f3)))⟩) (.cons (.str _) (.cons (.bl _) .nil))))),
        .lst (SqL.of upd_same) (.cons (.str _) (.cons (TupAt.dp ⟨m1, rfl, gd _ _ (gc _ _ eb)⟩) (.cons (TupAt.dp ⟨m2, rfl, gd _ _ ec⟩) (.cons (.str _) (.cons (.bl _) .nil))))), by decide +kernel, by decide +kernel, ?_⟩
      rw [show PyData.eqv (.list [.str (Str.ofString "1/2"), pd (-2) 3, pd 0 1, .str (Str.ofString "-7"), .bool false]) (.list [.str (Str.ofString "1/2"), pd (-2) 3, pd 0 1, .str (Str.ofString "-7"), .bool false]) = true by decide +kernel]
      exact k _
end
open PySem.W in
theorem all_mk {P : Program} {w : World} {K : Frag} {h : Heap} {mg : Str → Option Value} {fa : Addr} (X : K.In h) (G : h.Ns mainGlobals mg) (hfa : mg "law" = some (.ref fa))
    {q_Ratio : Addr} (aq_Ratio : nsIn K mainGlobals "Ratio" = some (some (.ref q_Ratio)))
    (pg_Ratio : plainGet K q_Ratio Str.empty = true)
    (hd_Ratio : hasDictIn K q_Ratio = true)
    (po_Ratio : plainOver K q_Ratio = true)
    (sa_Ratio : findIn K (.ref q_Ratio) "__setattr__" = some (some (.builtin "object.__setattr__")))
    (sf_Ratio : selfFirst K q_Ratio = true)
    (ha_Ratio : findIn K (.ref q_Ratio) "__class__" = some (some (.builtin "object.__class__")))
    (hn_Ratio : specialIn K (.builtin "object.__class__") "__get__" = some (some (.builtin "getset_descriptor.__get__")))
    (htk_Ratio : takesIn K (.builtin "object.__class__") = some true)
    (hm_Ratio : mroIn K q_Ratio (.type "object") = some true)
    (tyC_Ratio : typeIn K (.ref q_Ratio) = some (.type "type"))
    (nn_Ratio : findIn K (.ref q_Ratio) "__ne__" = some (some (.builtin "object.__ne__")))
    (nf_Ratio__top : findIn K (.ref q_Ratio) "_top" = some none)
    (nf_Ratio__bottom : findIn K (.ref q_Ratio) "_bottom" = some none)
    {f1 : Addr} {od1 an1 : Option Addr} {sl1 : Array (Option Value)} {oc1 kV1 dc1 pm1 cd1 ct1 : Value} (a1 : nsIn K mainGlobals "_law_dice" = some (some (.ref f1)))
    (l1 : K.lookup f1 = some ⟨oc1, od1, .func (fnOf "_law_dice" "_law_dice" (defArgs s__law_dice) (defBody s__law_dice) (defScope s__law_dice) .none kV1 dc1 pm1 an1 cd1 ct1), sl1⟩) (c1 : codeIn K cd1 "_law_dice" = true) (k1 : keepIn K (.ref f1) = true)
    {f2 : Addr} {od2 an2 : Option Addr} {sl2 : Array (Option Value)} {oc2 kV2 dc2 pm2 cd2 ct2 : Value} (a2 : nsIn K mainGlobals "_law_roll" = some (some (.ref f2)))
    (l2 : K.lookup f2 = some ⟨oc2, od2, .func (fnOf "_law_roll" "_law_roll" (defArgs s__law_roll) (defBody s__law_roll) (defScope s__law_roll) .none kV2 dc2 pm2 an2 cd2 ct2), sl2⟩) (c2 : codeIn K cd2 "_law_roll" = true) (k2 : keepIn K (.ref f2) = true)
    {f3 : Addr} {od3 an3 : Option Addr} {sl3 : Array (Option Value)} {oc3 kV3 dc3 pm3 cd3 ct3 : Value} (a3 : nsIn K mainGlobals "_law_number" = some (some (.ref f3)))
    (l3 : K.lookup f3 = some ⟨oc3, od3, .func (fnOf "_law_number" "_law_number" (defArgs s__law_number) (defBody s__law_number) (defScope s__law_number) .none kV3 dc3 pm3 an3 cd3 ct3), sl3⟩) (c3 : codeIn K cd3 "_law_number" = true) (k3 : keepIn K (.ref f3) = true)
    {f4 : Addr} {od4 an4 : Option Addr} {sl4 : Array (Option Value)} {oc4 kV4 dc4 pm4 cd4 ct4 : Value} (a4 : nsIn K mainGlobals "_law_drawn" = some (some (.ref f4)))
    (l4 : K.lookup f4 = some ⟨oc4, od4, .func (fnOf "_law_drawn" "_law_drawn" (defArgs s__law_drawn) (defBody s__law_drawn) (defScope s__law_drawn) .none kV4 dc4 pm4 an4 cd4 ct4), sl4⟩) (c4 : codeIn K cd4 "_law_drawn" = true) (k4 : keepIn K (.ref f4) = true)
    {f5 : Addr} {od5 an5 : Option Addr} {sl5 : Array (Option Value)} {oc5 kV5 dc5 pm5 cd5 ct5 : Value} (a5 : nsIn K mainGlobals "is_integer" = some (some (.ref f5)))
    (l5 : K.lookup f5 = some ⟨oc5, od5, .func (fnOf "is_integer" "is_integer" (defArgs s_is_integer) (defBody s_is_integer) (defScope s_is_integer) .none kV5 dc5 pm5 an5 cd5 ct5), sl5⟩) (c5 : codeIn K cd5 "is_integer" = true) (k5 : keepIn K (.ref f5) = true)
    {f6 : Addr} (a6 : findIn K (.ref q_Ratio) "__init__" = some (some (.ref f6))) (i6 : isFn K (.ref f6) = true)
    {od6 an6 : Option Addr} {sl6 : Array (Option Value)} {oc6 kV6 dc6 pm6 cd6 ct6 : Value} (l6 : K.lookup f6 = some ⟨oc6, od6, .func (fnOf "__init__" "Ratio.__init__" (defArgs s_Ratio___init__) (defBody s_Ratio___init__) (defScope s_Ratio___init__) .none kV6 dc6 pm6 an6 cd6 ct6), sl6⟩) (c6 : codeIn K cd6 "Ratio.__init__" = true) (k6 : keepIn K (.ref f6) = true)
    (mk_Ratio : makesIn K q_Ratio = true) (kc_Ratio : keepIn K (.ref q_Ratio) = true)
    {f7 : Addr} {od7 an7 : Option Addr} {sl7 : Array (Option Value)} {oc7 kV7 dc7 pm7 cd7 ct7 : Value} (a7 : nsIn K mainGlobals "_law_lowest" = some (some (.ref f7)))
    (l7 : K.lookup f7 = some ⟨oc7, od7, .func (fnOf "_law_lowest" "_law_lowest" (defArgs s__law_lowest) (defBody s__law_lowest) (defScope s__law_lowest) .none kV7 dc7 pm7 an7 cd7 ct7), sl7⟩) (c7 : codeIn K cd7 "_law_lowest" = true) (k7 : keepIn K (.ref f7) = true)
    {f8 u8 : Addr} {rest8 : List Value} (pa8 : findIn K (.ref q_Ratio) "pair" = some (some (.ref u8))) (pb8 : specialIn K (.ref u8) "__get__" = some (some (.builtin "property.__get__"))) (pc8 : takesIn K (.ref u8) = some true) (pd8 : recIn K u8 "property" = some (.ref f8 :: rest8))
    {od8 an8 : Option Addr} {sl8 : Array (Option Value)} {oc8 kV8 dc8 pm8 cd8 ct8 : Value} (l8 : K.lookup f8 = some ⟨oc8, od8, .func (fnOf "pair" "Ratio.pair" (defArgs s_Ratio_pair) (defBody s_Ratio_pair) (defScope s_Ratio_pair) .none kV8 dc8 pm8 an8 cd8 ct8), sl8⟩) (c8 : codeIn K cd8 "Ratio.pair" = true) (k8 : keepIn K (.ref f8) = true)
    {f9 u9 : Addr} {rest9 : List Value} (pa9 : findIn K (.ref q_Ratio) "top" = some (some (.ref u9))) (pb9 : specialIn K (.ref u9) "__get__" = some (some (.builtin "property.__get__"))) (pc9 : takesIn K (.ref u9) = some true) (pd9 : recIn K u9 "property" = some (.ref f9 :: rest9))
    {od9 an9 : Option Addr} {sl9 : Array (Option Value)} {oc9 kV9 dc9 pm9 cd9 ct9 : Value} (l9 : K.lookup f9 = some ⟨oc9, od9, .func (fnOf "top" "Ratio.top" (defArgs s_Ratio_top) (defBody s_Ratio_top) (defScope s_Ratio_top) .none kV9 dc9 pm9 an9 cd9 ct9), sl9⟩) (c9 : codeIn K cd9 "Ratio.top" = true) (k9 : keepIn K (.ref f9) = true)
    {f10 u10 : Addr} {rest10 : List Value} (pa10 : findIn K (.ref q_Ratio) "bottom" = some (some (.ref u10))) (pb10 : specialIn K (.ref u10) "__get__" = some (some (.builtin "property.__get__"))) (pc10 : takesIn K (.ref u10) = some true) (pd10 : recIn K u10 "property" = some (.ref f10 :: rest10))
    {od10 an10 : Option Addr} {sl10 : Array (Option Value)} {oc10 kV10 dc10 pm10 cd10 ct10 : Value} (l10 : K.lookup f10 = some ⟨oc10, od10, .func (fnOf "bottom" "Ratio.bottom" (defArgs s_Ratio_bottom) (defBody s_Ratio_bottom) (defScope s_Ratio_bottom) .none kV10 dc10 pm10 an10 cd10 ct10), sl10⟩) (c10 : codeIn K cd10 "Ratio.bottom" = true) (k10 : keepIn K (.ref f10) = true)
    {f11 : Addr} {od11 an11 : Option Addr} {sl11 : Array (Option Value)} {oc11 kV11 dc11 pm11 cd11 ct11 : Value} (a11 : nsIn K mainGlobals "written" = some (some (.ref f11)))
    (l11 : K.lookup f11 = some ⟨oc11, od11, .func (fnOf "written" "written" (defArgs s_written) (defBody s_written) (defScope s_written) .none kV11 dc11 pm11 an11 cd11 ct11), sl11⟩) (c11 : codeIn K cd11 "written" = true) (k11 : keepIn K (.ref f11) = true)
    {f12 : Addr} (a12 : findIn K (.ref q_Ratio) "__str__" = some (some (.ref f12))) (i12 : isFn K (.ref f12) = true)
    {od12 an12 : Option Addr} {sl12 : Array (Option Value)} {oc12 kV12 dc12 pm12 cd12 ct12 : Value} (l12 : K.lookup f12 = some ⟨oc12, od12, .func (fnOf "__str__" "Ratio.__str__" (defArgs s_Ratio___str__) (defBody s_Ratio___str__) (defScope s_Ratio___str__) .none kV12 dc12 pm12 an12 cd12 ct12), sl12⟩) (c12 : codeIn K cd12 "Ratio.__str__" = true) (k12 : keepIn K (.ref f12) = true)
    {f13 : Addr} (a13 : findIn K (.ref q_Ratio) "__bool__" = some (some (.ref f13))) (i13 : isFn K (.ref f13) = true)
    {od13 an13 : Option Addr} {sl13 : Array (Option Value)} {oc13 kV13 dc13 pm13 cd13 ct13 : Value} (l13 : K.lookup f13 = some ⟨oc13, od13, .func (fnOf "__bool__" "Ratio.__bool__" (defArgs s_Ratio___bool__) (defBody s_Ratio___bool__) (defScope s_Ratio___bool__) .none kV13 dc13 pm13 an13 cd13 ct13), sl13⟩) (c13 : codeIn K cd13 "Ratio.__bool__" = true) (k13 : keepIn K (.ref f13) = true)
    {f14 : Addr} {od14 an14 : Option Addr} {sl14 : Array (Option Value)} {oc14 kV14 dc14 pm14 cd14 ct14 : Value} (a14 : nsIn K mainGlobals "_law_text" = some (some (.ref f14)))
    (l14 : K.lookup f14 = some ⟨oc14, od14, .func (fnOf "_law_text" "_law_text" (defArgs s__law_text) (defBody s__law_text) (defScope s__law_text) .none kV14 dc14 pm14 an14 cd14 ct14), sl14⟩) (c14 : codeIn K cd14 "_law_text" = true) (k14 : keepIn K (.ref f14) = true)
    {f15 : Addr} {od15 an15 : Option Addr} {sl15 : Array (Option Value)} {oc15 kV15 dc15 pm15 cd15 ct15 : Value} (a15 : nsIn K mainGlobals "integer_in" = some (some (.ref f15)))
    (l15 : K.lookup f15 = some ⟨oc15, od15, .func (fnOf "integer_in" "integer_in" (defArgs s_integer_in) (defBody s_integer_in) (defScope s_integer_in) .none kV15 dc15 pm15 an15 cd15 ct15), sl15⟩) (c15 : codeIn K cd15 "integer_in" = true) (k15 : keepIn K (.ref f15) = true)
    {f16 : Addr} {od16 an16 : Option Addr} {sl16 : Array (Option Value)} {oc16 kV16 dc16 pm16 cd16 ct16 : Value} (a16 : nsIn K mainGlobals "_lowest" = some (some (.ref f16)))
    (l16 : K.lookup f16 = some ⟨oc16, od16, .func (fnOf "_lowest" "_lowest" (defArgs s__lowest) (defBody s__lowest) (defScope s__lowest) .none kV16 dc16 pm16 an16 cd16 ct16), sl16⟩) (c16 : codeIn K cd16 "_lowest" = true) (k16 : keepIn K (.ref f16) = true)
    {f17 : Addr} {od17 an17 : Option Addr} {sl17 : Array (Option Value)} {oc17 kV17 dc17 pm17 cd17 ct17 : Value} (a17 : nsIn K mainGlobals "ratio_in" = some (some (.ref f17)))
    (l17 : K.lookup f17 = some ⟨oc17, od17, .func (fnOf "ratio_in" "ratio_in" (defArgs s_ratio_in) (defBody s_ratio_in) (defScope s_ratio_in) .none kV17 dc17 pm17 an17 cd17 ct17), sl17⟩) (c17 : codeIn K cd17 "ratio_in" = true) (k17 : keepIn K (.ref f17) = true)
    {f18 u18 : Addr} {rest18 : List Value} (rd_Ratio : readsIn K q_Ratio (.type "type") = true) (rg_Ratio : specialIn K (.ref q_Ratio) "__getattribute__" = some (some (.builtin "type.__getattribute__"))) (pa18 : findCls K (.ref q_Ratio) (.type "type") "of_text" = some (.get (.builtin "classmethod.__get__") (.ref u18) .none (.ref q_Ratio))) (pb18 : recIn K u18 "classmethod" = some (.ref f18 :: rest18)) (pc18 : fnIn K f18 = true)
    {od18 an18 : Option Addr} {sl18 : Array (Option Value)} {oc18 kV18 dc18 pm18 cd18 ct18 : Value} (l18 : K.lookup f18 = some ⟨oc18, od18, .func (fnOf "of_text" "Ratio.of_text" (defArgs s_Ratio_of_text) (defBody s_Ratio_of_text) (defScope s_Ratio_of_text) .none kV18 dc18 pm18 an18 cd18 ct18), sl18⟩) (c18 : codeIn K cd18 "Ratio.of_text" = true) (k18 : keepIn K (.ref f18) = true)
    {f19 : Addr} (a19 : findIn K (.ref q_Ratio) "__eq__" = some (some (.ref f19))) (i19 : isFn K (.ref f19) = true)
    {od19 an19 : Option Addr} {sl19 : Array (Option Value)} {oc19 kV19 dc19 pm19 cd19 ct19 : Value} (l19 : K.lookup f19 = some ⟨oc19, od19, .func (fnOf "__eq__" "Ratio.__eq__" (defArgs s_Ratio___eq__) (defBody s_Ratio___eq__) (defScope s_Ratio___eq__) .none kV19 dc19 pm19 an19 cd19 ct19), sl19⟩) (c19 : codeIn K cd19 "Ratio.__eq__" = true) (k19 : keepIn K (.ref f19) = true)
    {f20 : Addr} {od20 an20 : Option Addr} {sl20 : Array (Option Value)} {oc20 kV20 dc20 pm20 cd20 ct20 : Value} (a20 : nsIn K mainGlobals "_law_is_told" = some (some (.ref f20)))
    (l20 : K.lookup f20 = some ⟨oc20, od20, .func (fnOf "_law_is_told" "_law_is_told" (defArgs s__law_is_told) (defBody s__law_is_told) (defScope s__law_is_told) .none kV20 dc20 pm20 an20 cd20 ct20), sl20⟩) (c20 : codeIn K cd20 "_law_is_told" = true) (k20 : keepIn K (.ref f20) = true)
    {f21 : Addr} {od21 an21 : Option Addr} {sl21 : Array (Option Value)} {oc21 kV21 dc21 pm21 cd21 ct21 : Value} (a21 : nsIn K mainGlobals "_law_right" = some (some (.ref f21)))
    (l21 : K.lookup f21 = some ⟨oc21, od21, .func (fnOf "_law_right" "_law_right" (defArgs s__law_right) (defBody s__law_right) (defScope s__law_right) .none kV21 dc21 pm21 an21 cd21 ct21), sl21⟩) (c21 : codeIn K cd21 "_law_right" = true) (k21 : keepIn K (.ref f21) = true)
    {f22 : Addr} {od22 an22 : Option Addr} {sl22 : Array (Option Value)} {oc22 kV22 dc22 pm22 cd22 ct22 : Value} (a22 : nsIn K mainGlobals "law" = some (some (.ref f22)))
    (l22 : K.lookup f22 = some ⟨oc22, od22, .func (fnOf "law" "law" (defArgs s_law) (defBody s_law) (defScope s_law) .none kV22 dc22 pm22 an22 cd22 ct22), sl22⟩) (c22 : codeIn K cd22 "law" = true) (k22 : keepIn K (.ref f22) = true)
    (z_abs : nsIn K mainGlobals "abs" = some none)
    (z_bool : nsIn K mainGlobals "bool" = some none)
    (z_int : nsIn K mainGlobals "int" = some none)
    (z_isinstance : nsIn K mainGlobals "isinstance" = some none)
    (z_len : nsIn K mainGlobals "len" = some none)
    (z_max : nsIn K mainGlobals "max" = some none)
    (z_min : nsIn K mainGlobals "min" = some none)
    (z_range : nsIn K mainGlobals "range" = some none)
    (z_repr : nsIn K mainGlobals "repr" = some none)
    (z_str : nsIn K mainGlobals "str" = some none)
    (im_gcd : nsIn K mainGlobals "gcd" = some (some (.builtin "math.gcd")))
    {t_BEYOND : Tok} (w_BEYOND : nsIn K mainGlobals "BEYOND" = some (some (.int 1000000000000000000000000000000000000000000000000000000000000 t_BEYOND)))
    {t_MAX_FIGURES : Tok} (w_MAX_FIGURES : nsIn K mainGlobals "MAX_FIGURES" = some (some (.int 60 t_MAX_FIGURES))) :
    ∃ fd : FuncData, (∀ (s : Shared) (v : Value), BindsTo s fd ⟨[v], []⟩ [("_law_script", v)]) ∧ ∀ base : Heap, K.In base → base.Ns mainGlobals mg → FnG P w K mg base CX0 9 fa fd ["_law_script"] (sp_law K) := by
  have e := hfa.symm.trans (mg_of X G a22)
  cases e
  let T : Txt K mg := {
    c_Ratio := q_Ratio,
    g_Ratio := mg_of X G aq_Ratio,
    o_Ratio := ⟨⟨pg_Ratio, hd_Ratio, po_Ratio, sa_Ratio⟩, sf_Ratio, ha_Ratio, hn_Ratio, htk_Ratio, hm_Ratio, tyC_Ratio⟩,
    n_Ratio := nn_Ratio,
    f_Ratio__top := nf_Ratio__top,
    f_Ratio__bottom := nf_Ratio__bottom,
    a__law_dice := f1,
    d__law_dice := _,
    g__law_dice := mg_of X G a1,
    F__law_dice := fun_mk (st := s__law_dice) l1 c1 k1,
    B__law_dice := (fun_mk (st := s__law_dice) l1 c1 k1).binds (ps := ["_law_script", "_law_spot"]) (fun _ _ _ _ _ _ us hl => match us, hl with | [_, _], _ => rfl),
    a__law_roll := f2,
    d__law_roll := _,
    g__law_roll := mg_of X G a2,
    F__law_roll := fun_mk (st := s__law_roll) l2 c2 k2,
    B__law_roll := (fun_mk (st := s__law_roll) l2 c2 k2).binds (ps := ["_law_dice_here", "_law_total"]) (fun _ _ _ _ _ _ us hl => match us, hl with | [_, _], _ => rfl),
    a__law_number := f3,
    d__law_number := _,
    g__law_number := mg_of X G a3,
    F__law_number := fun_mk (st := s__law_number) l3 c3 k3,
    B__law_number := (fun_mk (st := s__law_number) l3 c3 k3).binds (ps := ["_law_dice_here"]) (fun _ _ _ _ _ _ us hl => match us, hl with | [_], _ => rfl),
    a__law_drawn := f4,
    d__law_drawn := _,
    g__law_drawn := mg_of X G a4,
    F__law_drawn := fun_mk (st := s__law_drawn) l4 c4 k4,
    B__law_drawn := (fun_mk (st := s__law_drawn) l4 c4 k4).binds (ps := ["_law_dice_here"]) (fun _ _ _ _ _ _ us hl => match us, hl with | [_], _ => rfl),
    a_is_integer := f5,
    d_is_integer := _,
    g_is_integer := mg_of X G a5,
    F_is_integer := fun_mk (st := s_is_integer) l5 c5 k5,
    B_is_integer := (fun_mk (st := s_is_integer) l5 c5 k5).binds (ps := ["value"]) (fun _ _ _ _ _ _ us hl => match us, hl with | [_], _ => rfl),
    a_Ratio___init__ := f6,
    d_Ratio___init__ := _,
    F_Ratio___init__ := fun_mk (st := s_Ratio___init__) l6 c6 k6,
    B_Ratio___init__ := (fun_mk (st := s_Ratio___init__) l6 c6 k6).binds (ps := ["self", "top", "bottom"]) (fun _ _ _ _ _ _ us hl => match us, hl with | [_, _, _], _ => rfl),
    K_Ratio := ⟨mk_Ratio, a6, i6, kc_Ratio⟩,
    a__law_lowest := f7,
    d__law_lowest := _,
    g__law_lowest := mg_of X G a7,
    F__law_lowest := fun_mk (st := s__law_lowest) l7 c7 k7,
    B__law_lowest := (fun_mk (st := s__law_lowest) l7 c7 k7).binds (ps := ["_law_top", "_law_bottom"]) (fun _ _ _ _ _ _ us hl => match us, hl with | [_, _], _ => rfl),
    a_Ratio_pair := f8,
    d_Ratio_pair := _,
    F_Ratio_pair := fun_mk (st := s_Ratio_pair) l8 c8 k8,
    B_Ratio_pair := (fun_mk (st := s_Ratio_pair) l8 c8 k8).binds (ps := ["self"]) (fun _ _ _ _ _ _ us hl => match us, hl with | [_], _ => rfl),
    p_Ratio_pair := u8,
    P_Ratio_pair := ⟨pa8, pb8, pc8, ⟨_, pd8⟩⟩,
    a_Ratio_top := f9,
    d_Ratio_top := _,
    F_Ratio_top := fun_mk (st := s_Ratio_top) l9 c9 k9,
    B_Ratio_top := (fun_mk (st := s_Ratio_top) l9 c9 k9).binds (ps := ["self"]) (fun _ _ _ _ _ _ us hl => match us, hl with | [_], _ => rfl),
    p_Ratio_top := u9,
    P_Ratio_top := ⟨pa9, pb9, pc9, ⟨_, pd9⟩⟩,
    a_Ratio_bottom := f10,
    d_Ratio_bottom := _,
    F_Ratio_bottom := fun_mk (st := s_Ratio_bottom) l10 c10 k10,
    B_Ratio_bottom := (fun_mk (st := s_Ratio_bottom) l10 c10 k10).binds (ps := ["self"]) (fun _ _ _ _ _ _ us hl => match us, hl with | [_], _ => rfl),
    p_Ratio_bottom := u10,
    P_Ratio_bottom := ⟨pa10, pb10, pc10, ⟨_, pd10⟩⟩,
    a_written := f11,
    d_written := _,
    g_written := mg_of X G a11,
    F_written := fun_mk (st := s_written) l11 c11 k11,
    B_written := (fun_mk (st := s_written) l11 c11 k11).binds (ps := ["number"]) (fun _ _ _ _ _ _ us hl => match us, hl with | [_], _ => rfl),
    a_Ratio___str__ := f12,
    d_Ratio___str__ := _,
    F_Ratio___str__ := fun_mk (st := s_Ratio___str__) l12 c12 k12,
    B_Ratio___str__ := (fun_mk (st := s_Ratio___str__) l12 c12 k12).binds (ps := ["self"]) (fun _ _ _ _ _ _ us hl => match us, hl with | [_], _ => rfl),
    M_Ratio___str__ := ⟨a12, i12, k12⟩,
    a_Ratio___bool__ := f13,
    d_Ratio___bool__ := _,
    F_Ratio___bool__ := fun_mk (st := s_Ratio___bool__) l13 c13 k13,
    B_Ratio___bool__ := (fun_mk (st := s_Ratio___bool__) l13 c13 k13).binds (ps := ["self"]) (fun _ _ _ _ _ _ us hl => match us, hl with | [_], _ => rfl),
    M_Ratio___bool__ := ⟨a13, i13, k13⟩,
    a__law_text := f14,
    d__law_text := _,
    g__law_text := mg_of X G a14,
    F__law_text := fun_mk (st := s__law_text) l14 c14 k14,
    B__law_text := (fun_mk (st := s__law_text) l14 c14 k14).binds (ps := ["_law_pair"]) (fun _ _ _ _ _ _ us hl => match us, hl with | [_], _ => rfl),
    a_integer_in := f15,
    d_integer_in := _,
    g_integer_in := mg_of X G a15,
    F_integer_in := fun_mk (st := s_integer_in) l15 c15 k15,
    B_integer_in := (fun_mk (st := s_integer_in) l15 c15 k15).binds (ps := ["text"]) (fun _ _ _ _ _ _ us hl => match us, hl with | [_], _ => rfl),
    a__lowest := f16,
    d__lowest := _,
    g__lowest := mg_of X G a16,
    F__lowest := fun_mk (st := s__lowest) l16 c16 k16,
    B__lowest := (fun_mk (st := s__lowest) l16 c16 k16).binds (ps := ["top", "bottom"]) (fun _ _ _ _ _ _ us hl => match us, hl with | [_, _], _ => rfl),
    a_ratio_in := f17,
    d_ratio_in := _,
    g_ratio_in := mg_of X G a17,
    F_ratio_in := fun_mk (st := s_ratio_in) l17 c17 k17,
    B_ratio_in := (fun_mk (st := s_ratio_in) l17 c17 k17).binds (ps := ["text"]) (fun _ _ _ _ _ _ us hl => match us, hl with | [_], _ => rfl),
    a_Ratio_of_text := f18,
    d_Ratio_of_text := _,
    F_Ratio_of_text := fun_mk (st := s_Ratio_of_text) l18 c18 k18,
    B_Ratio_of_text := (fun_mk (st := s_Ratio_of_text) l18 c18 k18).binds (ps := ["cls", "text"]) (fun _ _ _ _ _ _ us hl => match us, hl with | [_, _], _ => rfl),
    p_Ratio_of_text := u18,
    R_Ratio := ⟨rd_Ratio, rg_Ratio⟩,
    Q_Ratio_of_text := ⟨pa18, ⟨_, pb18⟩, pc18⟩,
    a_Ratio___eq__ := f19,
    d_Ratio___eq__ := _,
    F_Ratio___eq__ := fun_mk (st := s_Ratio___eq__) l19 c19 k19,
    B_Ratio___eq__ := (fun_mk (st := s_Ratio___eq__) l19 c19 k19).binds (ps := ["self", "other"]) (fun _ _ _ _ _ _ us hl => match us, hl with | [_, _], _ => rfl),
    M_Ratio___eq__ := ⟨a19, i19, k19⟩,
    a__law_is_told := f20,
    d__law_is_told := _,
    g__law_is_told := mg_of X G a20,
    F__law_is_told := fun_mk (st := s__law_is_told) l20 c20 k20,
    B__law_is_told := (fun_mk (st := s__law_is_told) l20 c20 k20).binds (ps := ["_law_one", "_law_pair"]) (fun _ _ _ _ _ _ us hl => match us, hl with | [_, _], _ => rfl),
    a__law_right := f21,
    d__law_right := _,
    g__law_right := mg_of X G a21,
    F__law_right := fun_mk (st := s__law_right) l21 c21 k21,
    B__law_right := (fun_mk (st := s__law_right) l21 c21 k21).binds (ps := ["_law_dice_here"]) (fun _ _ _ _ _ _ us hl => match us, hl with | [_], _ => rfl),
    a_law := fa,
    d_law := _,
    g_law := mg_of X G a22,
    F_law := fun_mk (st := s_law) l22 c22 k22,
    B_law := (fun_mk (st := s_law) l22 c22 k22).binds (ps := ["_law_script"]) (fun _ _ _ _ _ _ us hl => match us, hl with | [_], _ => rfl),
    b_abs := mg_none_of X G z_abs,
    b_bool := mg_none_of X G z_bool,
    b_int := mg_none_of X G z_int,
    b_isinstance := mg_none_of X G z_isinstance,
    b_len := mg_none_of X G z_len,
    b_max := mg_none_of X G z_max,
    b_min := mg_none_of X G z_min,
    b_range := mg_none_of X G z_range,
    b_repr := mg_none_of X G z_repr,
    b_str := mg_none_of X G z_str,
    i_gcd := mg_of X G im_gcd,
    t_BEYOND := t_BEYOND,
    v_BEYOND := mg_of X G w_BEYOND,
    t_MAX_FIGURES := t_MAX_FIGURES,
    v_MAX_FIGURES := mg_of X G w_MAX_FIGURES }
  exact ⟨_, fun s v => .of_eq rfl, fun base _ _ => ok_law T⟩
end Law
open PySem PySem.W PyProof.Rows
set_option maxRecDepth 100000 in
set_option maxHeartbeats 0 in
theorem PySem.Challenge.cw_touchrows_k03_ratios_told_holds : PySem.Challenge.rw_touchrows_k03_ratios_told.Holds := by
  w_on; o_law; k_head; (case hw => w_witness2)
  k_fill
  refine U.walkG (l := PySem.Challenge.rw_touchrows_k03_ratios_told) (n := 63) (k := 9) (x := "_law_script") (sp := Law.sp_law) rfl (by decide) rfl ⟨rfl, by decide, by decide⟩ (fun w h Y => kIn_of Y) ?F (fun K H a ns h1 h2 _ h3 => Law.enter K H a ns h1 h2 h3)
  case F =>
    intro w mg fa h KX G hmg
    refine' Law.all_mk KX G hmg ?aq_Ratio ?pg_Ratio ?hd_Ratio ?po_Ratio ?sa_Ratio ?sf_Ratio ?ha_Ratio ?hn_Ratio ?htk_Ratio ?hm_Ratio ?tyC_Ratio ?nn_Ratio ?nf_Ratio__top ?nf_Ratio__bottom ?a1 ?l1 ?c1 ?k1 ?a2 ?l2 ?c2 ?k2 ?a3 ?l3 ?c3 ?k3 ?a4 ?l4 ?c4 ?k4 ?a5 ?l5 ?c5 ?k5 ?a6 ?i6 ?l6 ?c6 ?k6 ?mk_Ratio ?kc_Ratio ?a7 ?l7 ?c7 ?k7 ?pa8 ?pb8 ?pc8 ?pd8 ?l8 ?c8 ?k8 ?pa9 ?pb9 ?pc9 ?pd9 ?l9 ?c9 ?k9 ?pa10 ?pb10 ?pc10 ?pd10 ?l10 ?c10 ?k10 ?a11 ?l11 ?c11 ?k11 ?a12 ?i12 ?l12 ?c12 ?k12 ?a13 ?i13 ?l13 ?c13 ?k13 ?a14 ?l14 ?c14 ?k14 ?a15 ?l15 ?c15 ?k15 ?a16 ?l16 ?c16 ?k16 ?a17 ?l17 ?c17 ?k17 ?rd_Ratio ?rg_Ratio ?pa18 ?pb18 ?pc18 ?l18 ?c18 ?k18 ?a19 ?i19 ?l19 ?c19 ?k19 ?a20 ?l20 ?c20 ?k20 ?a21 ?l21 ?c21 ?k21 ?a22 ?l22 ?c22 ?k22 ?z_abs ?z_bool ?z_int ?z_isinstance ?z_len ?z_max ?z_min ?z_range ?z_repr ?z_str ?im_gcd ?w_BEYOND ?w_MAX_FIGURES
    (case aq_Ratio => k_is); (case pg_Ratio => k_is); (case hd_Ratio => k_is); (case po_Ratio => k_is); (case sa_Ratio => k_is); (case sf_Ratio => k_is); (case ha_Ratio => k_is); (case hn_Ratio => k_is); (case htk_Ratio => k_is); (case hm_Ratio => k_is); (case tyC_Ratio => k_is); (case nn_Ratio => k_is); (case nf_Ratio__top => k_is); (case nf_Ratio__bottom => k_is); (case a1 => k_is); (case l1 => k_is); (case c1 => k_is); (case k1 => k_is); (case a2 => k_is); (case l2 => k_is); (case c2 => k_is); (case k2 => k_is); (case a3 => k_is); (case l3 => k_is); (case c3 => k_is); (case k3 => k_is); (case a4 => k_is); (case l4 => k_is); (case c4 => k_is); (case k4 => k_is); (case a5 => k_is); (case l5 => k_is); (case c5 => k_is); (case k5 => k_is); (case a6 => k_is); (case i6 => k_is); (case l6 => k_is); (case c6 => k_is); (case k6 => k_is); (case mk_Ratio => k_is); (case kc_Ratio => k_is); (case a7 => k_is); (case l7 => k_is); (case c7 => k_is); (case k7 => k_is); (case pa8 => k_is); (case pb8 => k_is); (case pc8 => k_is); (case pd8 => k_is); (case l8 => k_is); (case c8 => k_is); (case k8 => k_is); (case pa9 => k_is); (case pb9 => k_is); (case pc9 => k_is); (case pd9 => k_is); (case l9 => k_is); (case c9 => k_is); (case k9 => k_is); (case pa10 => k_is); (case pb10 => k_is); (case pc10 => k_is); (case pd10 => k_is); (case l10 => k_is); (case c10 => k_is); (case k10 => k_is); (case a11 => k_is); (case l11 => k_is); (case c11 => k_is); (case k11 => k_is); (case a12 => k_is); (case i12 => k_is); (case l12 => k_is); (case c12 => k_is); (case k12 => k_is); (case a13 => k_is); (case i13 => k_is); (case l13 => k_is); (case c13 => k_is); (case k13 => k_is); (case a14 => k_is); (case l14 => k_is); (case c14 => k_is); (case k14 => k_is); (case a15 => k_is); (case l15 => k_is); (case c15 => k_is); (case k15 => k_is); (case a16 => k_is); (case l16 => k_is); (case c16 => k_is); (case k16 => k_is); (case a17 => k_is); (case l17 => k_is); (case c17 => k_is); (case k17 => k_is); (case rd_Ratio => k_is); (case rg_Ratio => k_is); (case pa18 => k_is); (case pb18 => k_is); (case pc18 => k_is); (case l18 => k_is); (case c18 => k_is); (case k18 => k_is); (case a19 => k_is); (case i19 => k_is); (case l19 => k_is); (case c19 => k_is); (case k19 => k_is); (case a20 => k_is); (case l20 => k_is); (case c20 => k_is); (case k20 => k_is); (case a21 => k_is); (case l21 => k_is); (case c21 => k_is); (case k21 => k_is); (case a22 => k_is); (case l22 => k_is); (case c22 => k_is); (case k22 => k_is); (case z_abs => k_is); (case z_bool => k_is); (case z_int => k_is); (case z_isinstance => k_is); (case z_len => k_is); (case z_max => k_is); (case z_min => k_is); (case z_range => k_is); (case z_repr => k_is); (case z_str => k_is); (case im_gcd => k_is); (case w_BEYOND => k_is); (case w_MAX_FIGURES => k_is)
