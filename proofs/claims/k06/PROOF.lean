import PyProof.Rows.All
import Wide.All
import OpenK.AllK
import Wide.FinOn
import HandS.ForMost
import HandS.Wide
import HandS.Steps
import HandS.StrMore
import HandS.TupAny
import HandS.Style
import HandS.Flow
import HandS.IsInst
import HandS.RaiseMore
import HandS.Gcd
import HandS.EndBits
import HandS.Walk
import PyProof.Rows.StrCut
import KE.KIntText
import HandS.OwnEq
import HandS.Property
import HandS.FStr
import KE.KOpsOwn
import KE.KCallOwn
import HandS.Deep
import PyProof.ReprLen
import HandS.NoneIn
import HandS.ClsMeth
import PyProof.StrLawsRepr
import KE.IntTextLaws
import KE.IntTextText
import HandS.Text
import HandS.Exc
import HandS.ExcOwn
import HandS.WordsExc
import HandS.TryMany
import HandS.Lambda
import HandS.EndTab
import KE.KNestM
import PyProof.NeKinds
import PySem.Challenge.RW_touchrows_k06_errors_of_ratios
set_option Elab.async false
set_option linter.all false
set_option maxRecDepth 100000
set_option maxHeartbeats 4000000
/-! U: readings that compute by matching on the values, and a ledger of the objects that a def knows. -/
namespace U
open PySem PySem.Spec PyProof.Rows L2

section mono
variable {X : Cx}
theorem peM {e : Expr} {t t' : TE} (h : PE X e t) (m : ∀ σ H Q, t' σ H Q → t σ H Q) : PE X e t' := ⟨fun pins s σ H Q I q => h.run pins s σ H Q I (m σ H Q q)⟩
theorem ptM {e : Expr} {t t' : TT} (h : PT X e t) (m : ∀ σ H Q, t' σ H Q → t σ H Q) : PT X e t' := ⟨fun pins s σ H Q I q => h.run pins s σ H Q I (m σ H Q q)⟩
theorem pwM {e : Expr} {t t' : TT} (h : PW X e t) (m : ∀ σ H Q, t' σ H Q → t σ H Q) : PW X e t' := ⟨fun wh pins s σ H Q I q => h.run wh pins s σ H Q I (m σ H Q q)⟩
theorem psM {e : Stmt} {t t' : TS} (h : PS X e t) (m : ∀ D σ H, t' D σ H → t D σ H) : PS X e t' := ⟨fun pins s σ H D I q => h.run pins s σ H D I (m D σ H q)⟩
theorem opM {f : Value → Value → Sem Value} {r r' : R2} (h : OpR X f r) (m : ∀ x y H Q, r' x y H Q → r x y H Q) : OpR X f r' := fun pins s σ H x y v u Q I rx ry q => h pins s σ H x y v u Q I rx ry (m x y H Q q)
theorem caM {f : Value} {r r' : List V → Hp → VK → Prop} (h : CallR X f r) (m : ∀ xs H Q, r' xs H Q → r xs H Q) : CallR X f r' := fun pins s σ H xs us Q I r q => h pins s σ H xs us Q I r (m xs H Q q)
end mono

/-- a way of two: by the answer -/
@[irreducible] def br (c : Bool) (A B : Prop) : Prop := if c = true then A else B
theorem brT {A B : Prop} (h : A) : br true A B := by unfold br; exact h
theorem brF {A B : Prop} (h : B) : br false A B := by unfold br; rw [if_neg Bool.false_ne_true]; exact h
theorem brY {c : Bool} {A B : Prop} (e : c = true) (h : A) : br c A B := by subst e; exact brT h
theorem brN {c : Bool} {A B : Prop} (e : c = false) (h : B) : br c A B := by subst e; exact brF h
theorem br2 {c : Bool} {A B : Prop} (h1 : c = true → A) (h2 : c = false → B) : br c A B := by
  cases c with
  | true => exact brT (h1 rfl)
  | false => exact brF (h2 rfl)
theorem brD {p : Prop} [Decidable p] {A B : Prop} (h1 : p → A) (h2 : ¬ p → B) : br (decide p) A B := br2 (fun e => h1 (of_decide_eq_true e)) (fun e => h2 (of_decide_eq_false e))
theorem br_if {c : Bool} {A B : Prop} (h : br c A B) : if c = true then A else B := by unfold br at h; exact h

/-! ### names, choices -/
def uV (i : Nat) : TE := fun σ H Q => match σ[i]? with | some (some v) => Q v H | _ => False
section
variable {X : Cx} {pos : Pos}
theorem pev (i : Nat) {x : Str} {pos : Pos} (hN : X.N[i]? = some x := by rfl) (hv : Vis X.env.scope x := by first | exact Or.inl rfl | exact Or.inr (Or.inl rfl) | exact Or.inr (Or.inr rfl)) (hd : (x == ("__debug__" : Str)) = false := by decide)
    (hcd : (x == ("__classdict__" : Str)) = false := by decide) : PE X (.Name x pos) (uV i) := peM (pv i hN hv hd hcd) fun σ H Q h => by
  unfold uV at h
  split at h
  · exact ⟨_, by assumption, h⟩
  · exact h.elim
def uIf (t : TT) (ta tb : TE) : TE := fun σ H Q => t σ H fun c H1 => br c (ta σ H1 Q) (tb σ H1 Q)
def uIfS (c : TT) (t u : TS) : TS := fun D σ H => c σ H fun b H1 => br b (t D σ H1) (u D σ H1)
def uAnd (t u : TT) : TT := fun σ H Q => t σ H fun c H1 => br c (u σ H1 Q) (Q false H1)
def uOr (t u : TT) : TT := fun σ H Q => t σ H fun c H1 => br c (Q true H1) (u σ H1 Q)
/-- monotone readings of tests -/
structure MT (t : TT) : Prop where
  m : ∀ σ H Q Q', (∀ b H1, Q b H1 → Q' b H1) → t σ H Q → t σ H Q'
end
section
variable {X : Cx} {pos : Pos} {a b c : Expr} {ta tb te : TE} {tc td : TT} {t u : TS} {rest : List Expr} {xs ys : List Stmt}
theorem psIf (hc : PT X c tc) (ha : PSs X xs t) (hb : PSs X ys u) : PS X (.If c xs ys pos) (uIfS tc t u) := ⟨fun p s z H D I h => wpAny_If (thn (hc.run p s z H _ I h) fun k s1 ⟨H1, I1, q⟩ => by
  cases k with
  | true => exact ha.run p s1 z H1 D I1 (by unfold br at q; exact q)
  | false => exact hb.run p s1 z H1 D I1 (by unfold br at q; exact q))⟩
theorem peIf (hc : PT X c tc) (ha : PE X a ta) (hb : PE X b tb) : PE X (.IfExp c a b pos) (uIf tc ta tb) := ⟨fun p s z H Q I h => wpAny_IfExp (thn (hc.run p s z H _ I h) fun k s1 ⟨H1, I1, q⟩ => by
  cases k with
  | true => exact ha.run p s1 z H1 Q I1 (by unfold br at q; exact q)
  | false => exact hb.run p s1 z H1 Q I1 (by unfold br at q; exact q))⟩
theorem pwAnd (ha : PT X a tc) (hb : PW X (.BoolOp .And (b :: rest) pos) td) : PW X (.BoolOp .And (a :: b :: rest) pos) (uAnd tc td) := ⟨fun wh p s z H Q I h => isTrue_and (thn (ha.run p s z H _ I h) fun k s1 ⟨H1, I1, q⟩ => by
  cases k with
  | true => exact hb.run wh p s1 z H1 Q I1 (by unfold br at q; exact q)
  | false => exact ⟨H1, I1, by unfold br at q; exact q⟩)⟩
theorem pwOr (ha : PT X a tc) (hb : PW X (.BoolOp .Or (b :: rest) pos) td) : PW X (.BoolOp .Or (a :: b :: rest) pos) (uOr tc td) := ⟨fun wh p s z H Q I h => isTrue_or (thn (ha.run p s z H _ I h) fun k s1 ⟨H1, I1, q⟩ => by
  cases k with
  | true => exact ⟨H1, I1, by unfold br at q; exact q⟩
  | false => exact hb.run wh p s1 z H1 Q I1 (by unfold br at q; exact q))⟩
/-- and, or, not as values, the members bools -/
def uAndV (ta tb : TE) : TE := fun σ H Q => ta σ H fun x H1 => match x with | .bl k => br k (tb σ H1 Q) (Q (.bl false) H1) | _ => False
def uOrV (ta tb : TE) : TE := fun σ H Q => ta σ H fun x H1 => match x with | .bl k => br k (Q (.bl true) H1) (tb σ H1 Q) | _ => False
def uNotV (ta : TE) : TE := fun σ H Q => ta σ H fun x H1 => match x with | .bl k => Q (.bl (!k)) H1 | _ => False
theorem peAnd (ha : PE X a ta) (hb : PE X (.BoolOp .And (b :: rest) pos) tb) : PE X (.BoolOp .And (a :: b :: rest) pos) (uAndV ta tb) := ⟨fun p s z H Q I h => BoolOp_and (thn (ha.run p s z H _ I h) fun v s1 ⟨x, H1, I1, r1, q⟩ => by
  cases x with
  | bl k =>
    cases r1
    refine wpAny_truthy_bool ?_
    cases k with
    | true => exact hb.run p s1 z H1 Q I1 (by simp only [br] at q; exact q)
    | false => exact ⟨.bl false, H1, I1, rfl, by simp only [br] at q; exact q⟩
  | _ => exact (show False from q).elim)⟩
theorem peOr (ha : PE X a ta) (hb : PE X (.BoolOp .Or (b :: rest) pos) tb) : PE X (.BoolOp .Or (a :: b :: rest) pos) (uOrV ta tb) := ⟨fun p s z H Q I h => BoolOp_or (thn (ha.run p s z H _ I h) fun v s1 ⟨x, H1, I1, r1, q⟩ => by
  cases x with
  | bl k =>
    cases r1
    refine wpAny_truthy_bool ?_
    cases k with
    | true => exact ⟨.bl true, H1, I1, rfl, by simp only [br] at q; exact q⟩
    | false => exact hb.run p s1 z H1 Q I1 (by simp only [br] at q; exact q)
  | _ => exact (show False from q).elim)⟩
/-- a value's truth -/
def uTru (K : PySem.W.Frag) (x : V) (H : Hp) (Q : Bool → Hp → Prop) : Prop := match x with
  | .bl k => Q k H
  | .int i => Q (decide (i ≠ 0)) H
  | .non => Q false H
  | .str y => y.length ≤ sizeLine ∧ Q (decide (y.length ≠ 0)) H
  | .ref p => ∃ k, TruV K (.ref p) H k ∧ Q k H
  | _ => False
def uTrue (K : PySem.W.Frag) (ta : TE) : TT := fun σ H Q => ta σ H fun x H1 => uTru K x H1 Q
theorem ptV (ha : PE X a ta) (he : ∀ whole, isTrue a X.env whole = (do let v ← whole; standAt a.pos; holding [v] (truthy v)) := by intro _; rfl) : PT X a (uTrue X.K ta) := by
  refine ⟨fun p s z H Q I h => isTrue_plain (thn (ha.run p s z H _ I h) fun v s1 ⟨x, H1, I1, r1, q⟩ => ?_) (he _)⟩
  refine tru_ok p s1 z H1 x v Q I1 r1 ?_
  cases x with
  | non => exact ⟨false, rfl, q⟩
  | bl k => exact ⟨k, rfl, q⟩
  | int i =>
    refine ⟨_, rfl, ?_⟩
    have e : decide (i ≠ 0) = (i != 0) := by by_cases h0 : i = 0 <;> simp [h0]
    have q' : Q (decide (i ≠ 0)) H1 := q
    rw [e] at q'
    exact q'
  | str y =>
    obtain ⟨q1, q2⟩ := (show y.length ≤ sizeLine ∧ Q (decide (y.length ≠ 0)) H1 from q)
    refine ⟨_, ⟨q1, rfl⟩, ?_⟩
    have e : decide (y.length ≠ 0) = ((y.length : Int) != 0) := by by_cases h0 : y.length = 0 <;> simp [h0]
    rw [e] at q2
    exact q2
  | ref r => exact q
  | byt _ => exact (show False from q).elim
  | flt _ => exact (show False from q).elim
  | ty _ => exact (show False from q).elim
end

/-! ### operators by matching -/
section
variable {X : Cx}
def uAdd (K : PySem.W.Frag) : R2 := fun x y H Q => match x, y with
  | .int i, .int j => Q (.int (i + j)) H
  | .str i, .str j => i.length + j.length ≤ sizeLine ∧ Q (.str (i ++ j)) H
  | .ref a, .ref b => rCat (.ref a) (.ref b) H Q ∨ rCatA K (.ref a) (.ref b) H Q
  | _, _ => False
theorem opAdd : OpR X (binaryOp .Add) (uAdd X.K) := fun p s z H x y v u Q I rx ry h => by
  unfold uAdd at h
  split at h
  · exact op_add p s z H _ _ v u Q I rx ry ⟨_, _, rfl, rfl, h⟩
  · exact op_add_str p s z H _ _ v u Q I rx ry ⟨_, _, rfl, rfl, h.1, h.2⟩
  · rcases h with h | h
    · exact op_cat p s z H _ _ v u Q I rx ry h
    · exact op_catA p s z H _ _ v u Q I rx ry h
  · exact h.elim
def uSub : R2 := fun x y H Q => match x, y with | .int i, .int j => Q (.int (i - j)) H | _, _ => False
theorem opSub : OpR X (binaryOp .Sub) uSub := fun p s z H x y v u Q I rx ry h => by
  unfold uSub at h
  split at h
  · exact op_sub p s z H _ _ v u Q I rx ry ⟨_, _, rfl, rfl, h⟩
  · exact h.elim
/-- the sizes of a product's factors -/
def FitM (i j : Int) : Prop := i.natAbs < 2 ^ 400000 ∧ j.natAbs < 2 ^ 400000
def uMul : R2 := fun x y H Q => match x, y with
  | .int i, .int j => CMulW i j ∧ Q (.int (i * j)) H
  | .ref a, .int j => rRep (.ref a) (.int j) H Q
  | _, _ => False
theorem opMul : OpR X (binaryOp .Mult) uMul := fun p s z H x y v u Q I rx ry h => by
  unfold uMul at h
  split at h
  · exact op_mulW p s z H _ _ v u Q I rx ry ⟨_, _, rfl, rfl, h.1, h.2⟩
  · exact op_rep p s z H _ _ v u Q I rx ry h
  · exact h.elim
def uDiv : R2 := fun x y H Q => match x, y with | .int i, .int j => CDivW i j ∧ Q (.int (i / j)) H | _, _ => False
theorem opDiv : OpR X (binaryOp .FloorDiv) uDiv := fun p s z H x y v u Q I rx ry h => by
  unfold uDiv at h
  split at h
  · exact op_fdivW p s z H _ _ v u Q I rx ry ⟨_, _, rfl, rfl, h.1, h.2⟩
  · exact h.elim
def uMod : R2 := fun x y H Q => match x, y with | .int i, .int j => 0 < j ∧ Q (.int (i % j)) H | _, _ => False
theorem opMod : OpR X (binaryOp .Mod) uMod := fun p s z H x y v u Q I rx ry h => by
  unfold uMod at h
  split at h
  · exact op_mod p s z H _ _ v u Q I rx ry ⟨_, _, rfl, rfl, h.1, h.2⟩
  · exact h.elim
def uPow : R2 := fun x y H Q => match x, y with | .int i, .int j => CPow i j ∧ Q (.int (i ^ j.toNat)) H | _, _ => False
theorem opPow : OpR X (binaryOp .Pow) uPow := fun p s z H x y v u Q I rx ry h => by
  unfold uPow at h
  split at h
  · exact op_pow p s z H _ _ v u Q I rx ry ⟨_, _, rfl, rfl, h.1, h.2⟩
  · exact h.elim
def uNeg : V → Hp → VK → Prop := fun x H Q => match x with | .int i => Q (.int (-i)) H | _ => False
theorem unNeg : UnR X (unaryOp .USub) uNeg := fun p s z H x v Q I rx h => by
  unfold uNeg at h
  split at h
  · exact un_neg p s z H _ v Q I rx ⟨_, rfl, h⟩
  · exact h.elim

/-! ### comparisons -/
def uEq (K : PySem.W.Frag) : R2 := fun x y H Q => match scal x y with
  | true => Q (.bl (decide (x = y))) H
  | false => rEqD K x y H Q
theorem opEq (hu : X.A.units + 64 < cLine) : OpR X (compareOp .Eq) (uEq X.K) := fun p s z H x y v u Q I rx ry h => by
  unfold uEq at h
  split at h
  · exact op_eq p s z H _ _ v u Q I rx ry ⟨by assumption, h⟩
  · exact op_eqD hu p s z H _ _ v u Q I rx ry h
def uNe (K : PySem.W.Frag) : R2 := fun x y H Q => match scal x y with
  | true => Q (.bl (!decide (x = y))) H
  | false => rNeD K x y H Q
theorem opNe (hu : X.A.units + 64 < cLine) : OpR X (compareOp .NotEq) (uNe X.K) := fun p s z H x y v u Q I rx ry h => by
  unfold uNe at h
  split at h
  · exact op_ne p s z H _ _ v u Q I rx ry ⟨by assumption, h⟩
  · exact op_neD hu p s z H _ _ v u Q I rx ry h
def uLt : R2 := fun x y H Q => match x, y with
  | .int i, .int j => Q (.bl (decide (i < j))) H
  | .str i, .str j => Q (.bl (decide (i.cps.toList < j.cps.toList))) H
  | _, _ => False
theorem opLt : OpR X (compareOp .Lt) uLt := fun p s z H x y v u Q I rx ry h => by
  unfold uLt at h
  split at h
  · exact op_lt p s z H _ _ v u Q I rx ry ⟨_, _, rfl, rfl, h⟩
  · exact op_lt_str p s z H _ _ v u Q I rx ry ⟨_, _, rfl, rfl, h⟩
  · exact h.elim
def uLe : R2 := fun x y H Q => match x, y with | .int i, .int j => Q (.bl (decide (i ≤ j))) H | _, _ => False
theorem opLe : OpR X (compareOp .LtE) uLe := fun p s z H x y v u Q I rx ry h => by
  unfold uLe at h
  split at h
  · exact op_le p s z H _ _ v u Q I rx ry ⟨_, _, rfl, rfl, h⟩
  · exact h.elim
def uGt : R2 := fun x y H Q => match x, y with | .int i, .int j => Q (.bl (decide (j < i))) H | _, _ => False
theorem opGt : OpR X (compareOp .Gt) uGt := fun p s z H x y v u Q I rx ry h => by
  unfold uGt at h
  split at h
  · exact op_gt p s z H _ _ v u Q I rx ry ⟨_, _, rfl, rfl, h⟩
  · exact h.elim
def uGe : R2 := fun x y H Q => match x, y with | .int i, .int j => Q (.bl (decide (j ≤ i))) H | _, _ => False
theorem opGe : OpR X (compareOp .GtE) uGe := fun p s z H x y v u Q I rx ry h => by
  unfold uGe at h
  split at h
  · exact op_ge p s z H _ _ v u Q I rx ry ⟨_, _, rfl, rfl, h⟩
  · exact h.elim
/-- a sign in a text -/
def uInS : R2 := fun x y H Q => match x, y with
  | .str c, .str z => ∃ n, c = ⟨#[n]⟩ ∧ Q (.bl (decide (n ∈ z.cps.toList))) H
  | _, _ => False
theorem opInS : OpR X (compareOp .In) uInS := fun p s z H x y v u Q I rx ry h => by
  unfold uInS at h
  split at h
  · obtain ⟨n, e, h⟩ := h
    subst e
    exact op_in_sign p s z H _ _ v u Q I rx ry ⟨_, _, rfl, rfl, h⟩
  · exact h.elim
def uNotInS : R2 := fun x y H Q => match x, y with
  | .str c, .str z => ∃ n, c = ⟨#[n]⟩ ∧ Q (.bl (!decide (n ∈ z.cps.toList))) H
  | _, _ => False
theorem opNotInS : OpR X (compareOp .NotIn) uNotInS := fun p s z H x y v u Q I rx ry h => by
  unfold uNotInS at h
  split at h
  · obtain ⟨n, e, h⟩ := h
    subst e
    exact op_notIn_sign p s z H _ _ v u Q I rx ry ⟨_, _, rfl, rfl, h⟩
  · exact h.elim
end
/-- a chain of two comparisons -/
def uChain (r r' : R2) (ta tb tc : TE) : TE := fun σ H Q => ta σ H fun x H1 => tb σ H1 fun y H2 => r x y H2 fun z H3 => match z with
  | .bl k => br k (tc σ H3 fun w H4 => r' y w H4 Q) (Q (.bl false) H3)
  | _ => False
end U

namespace U
open PySem PySem.Spec PyProof.Rows L2
theorem foldl_arr (x : Array Nat) : ∀ (n : Nat) (a : Array Nat), ((List.replicate n x).foldl (· ++ ·) a).toList = a.toList ++ (List.replicate n x.toList).flatten
  | 0, a => by simp
  | n + 1, a => by
    rw [List.replicate_succ, List.foldl_cons, foldl_arr x n, List.replicate_succ, List.flatten_cons]
    simp
theorem flat_nil : ∀ k : Nat, (List.replicate k ([] : List Nat)).flatten = []
  | 0 => rfl
  | k + 1 => by rw [List.replicate_succ, List.flatten_cons, flat_nil k]; rfl
theorem mul_list (x : Str) (n : Int) (h0 : 0 ≤ n) : (Txt.mul x n).cps.toList = (List.replicate n.toNat x.cps.toList).flatten := by
  unfold Txt.mul
  split
  · rw [show n.toNat = 0 by omega]; rfl
  · split
    · rename_i h1 h2
      rw [Bool.or_eq_true] at h2
      rcases h2 with h2 | h2
      · obtain rfl : n = 1 := by simpa using h2
        simp
      · have h3 : x.cps.toList.length = 0 := by simpa [Str.length] using h2
        rw [List.eq_nil_of_length_eq_zero h3, flat_nil]
    · rw [foldl_arr]; rfl
theorem mul_ok {x : Str} {n : Int} (h0 : 0 ≤ n) (h1 : n ≤ 1000000) (h : x.length * n.toNat ≤ 1000000) : MulOk x n := by
  refine ⟨?_, fun h2 _ => ?_, fun _ _ => ?_⟩
  · rw [decide_eq_false (show ¬ n < -(2 ^ 63 : Int) by omega), decide_eq_false (show ¬ n ≥ (2 ^ 63 : Int) by omega)]; rfl
  · intro z
    have hx : x.length ≤ 1000000 := Nat.le_trans (by
      have h5 := Nat.mul_le_mul_left x.length (show 1 ≤ n.toNat by omega)
      omega) h
    have h3 : (2 ^ 63 - 1 : Int) / n ≥ 1000000 := (Int.le_ediv_iff_mul_le (by omega)).mpr (by omega)
    omega
  · unfold Builtin.Str.tooLong
    have := sizeLine_eq
    simp
    omega
section
variable {X : Cx}
/-- a product, also of a text -/
def uMulT : R2 := fun x y H Q => match x, y with
  | .str i, .int j => (0 ≤ j ∧ j ≤ 1000000 ∧ i.length * j.toNat ≤ 1000000) ∧ Q (.str (Txt.mul i j)) H
  | _, _ => uMul x y H Q
theorem opMulT : OpR X (binaryOp .Mult) uMulT := fun p s z H x y v u Q I rx ry h => by
  unfold uMulT at h
  split at h
  · obtain ⟨⟨h0, h1, h2⟩, q⟩ := h
    obtain ⟨t, rfl⟩ := rx
    obtain ⟨t', rfl⟩ := ry
    exact SB.mul (mul_ok h0 h1 h2) fun t' k => ⟨.str _, H, I.tok k, ⟨_, rfl⟩, q⟩
  · exact opMul p s z H _ _ v u Q I rx ry h

/-! ### calls of built-ins -/
def uLen (K : PySem.W.Frag) : List V → Hp → VK → Prop := fun vs H Q => match vs with
  | [.str y] => y.length ≤ sizeLine ∧ Q (.int y.length) H
  | [.ref p] => ∃ xs, (SqL K H p xs ∨ SqT K H p xs) ∧ Q (.int xs.length) H
  | _ => False
theorem caLen : CallR X (.builtin "len") (uLen X.K) := fun p s z H xs us Q I r h => by
  unfold uLen at h
  split at h
  · exact call_len_str p s z H _ us Q I r ⟨_, rfl, h.1, h.2⟩
  · obtain ⟨ys, h1, h2⟩ := h
    exact call_len_seq p s z H _ us Q I r ⟨_, ys, rfl, h1, h2⟩
  · exact h.elim
def uMax (vs : List V) (H : Hp) (Q : VK) : Prop := match vs with | [.int i, .int j] => Q (.int (max i j)) H | _ => False
theorem caMax (hc : X.calm = true) : CallR X (.builtin "max") uMax := fun p s z H xs us Q I r h => by
  unfold uMax at h
  split at h
  · refine call_max2 hc p s z H _ us Q I r ⟨_, _, rfl, ?_⟩
    rename_i i j
    have e : (if j > i then j else i) = max i j := by omega
    rw [e]; exact h
  · exact h.elim
def uMin (vs : List V) (H : Hp) (Q : VK) : Prop := match vs with | [.int i, .int j] => Q (.int (min i j)) H | _ => False
theorem caMin (hc : X.calm = true) : CallR X (.builtin "min") uMin := fun p s z H xs us Q I r h => by
  unfold uMin at h
  split at h
  · refine call_min2 hc p s z H _ us Q I r ⟨_, _, rfl, ?_⟩
    rename_i i j
    have e : (if j < i then j else i) = min i j := by omega
    rw [e]; exact h
  · exact h.elim
def uAbs (vs : List V) (H : Hp) (Q : VK) : Prop := match vs with | [.int i] => Q (.int i.natAbs) H | _ => False
theorem caAbs : CallR X (.builtin "abs") uAbs := fun p s z H xs us Q I r h => by
  unfold uAbs at h
  split at h
  · refine call_abs p s z H _ us Q I r ⟨_, rfl, ?_⟩
    rename_i i
    have e : (if i < 0 then -i else i) = (i.natAbs : Int) := by omega
    rw [e]; exact h
  · exact h.elim
def uInt (vs : List V) (H : Hp) (Q : VK) : Prop := match vs with | [.int i] => Q (.int i) H | [.bl k] => Q (.int (if k then 1 else 0)) H | _ => False
theorem caInt : CallR X (.type "int") uInt := fun p s z H xs us Q I r h => by
  unfold uInt at h
  split at h
  · exact call_int1 p s z H _ us Q I r (.inl ⟨_, rfl, h⟩)
  · exact call_int1 p s z H _ us Q I r (.inr ⟨_, rfl, h⟩)
  · exact h.elim
def uStr (vs : List V) (H : Hp) (Q : VK) : Prop := match vs with | [.int i] => i.natAbs.log2 < 1920 ∧ Q (.str (toString i)) H | [.str a] => Q (.str a) H | _ => False
theorem caStr : CallR X (.type "str") uStr := fun p s z H xs us Q I r h => by
  unfold uStr at h
  split at h
  · exact call_str_int p s z H _ us Q I r ⟨_, rfl, h.1, h.2⟩
  · exact SkE.call_str_str p s z H _ us Q I r ⟨_, rfl, h⟩
  · exact h.elim
/-- repr of data at any depth: a list or a tuple -/
def uRepr (K : PySem.W.Frag) (vs : List V) (H : Hp) (Q : VK) : Prop := match vs with
  | [.ref a] => ∃ d, Dp K H (.ref a) d ∧ d.showable = true ∧ SeqAt.shaped d = true ∧ d.shown.length ≤ sizeLine ∧ Q (.str d.shown) H
  | _ => False
theorem caRepr (hg : X.A.guards = some []) (hu : X.A.units + 70 < cLine) : CallR X (.builtin "repr") (uRepr X.K) := fun p s z H xs us Q I r h => by
  unfold uRepr at h
  split at h
  · obtain ⟨d, hd, h1, h2, h3, q⟩ := h
    obtain ⟨u, rfl, ru⟩ := L2.vals1 r
    cases (show u = Value.ref _ from ru)
    obtain ⟨as, rd⟩ := Dp.reads I d _ _ hd rfl
    have hdep := SeqAt.depth_of_shaped h2
    refine repr_of_reads' rd h1 (PyData.noDict_hsm (PyData.hasDict_of_canLay d (SeqAt.canLay_of_shaped h2))) hg (by omega) (fun _ _ e => e) (fun h' u tk k => ?_) h3
    exact ⟨.str d.shown, H, I.kept (t' := tk) k, ⟨_, rfl⟩, q⟩
  · exact h.elim
/-- an item by its place -/
def uIx (K : PySem.W.Frag) : R2 := fun x y H Q => match x, y with
  | .str z, .int i => z.length ≤ sizeLine ∧ ∃ c, atI z.cps.toList i = some c ∧ Q (.str ⟨#[c]⟩) H
  | .ref p, .int i => ∃ xs v, (SqL K H p xs ∨ SqT K H p xs) ∧ atI xs i = some v ∧ Q v H
  | _, _ => False
theorem ixU : IxR X (uIx X.K) := fun va sl p s z H x y v u Q I rx ry h hs => by
  unfold uIx at h
  split at h
  · obtain ⟨h1, c, h2, q⟩ := h
    exact ix_str va sl p s z H _ _ v u Q I rx ry ⟨_, _, c, rfl, rfl, h1, h2, q⟩ hs
  · obtain ⟨xs, w, h1 | h1, h2, q⟩ := h
    · exact ix_list va sl p s z H _ _ v u Q I rx ry ⟨_, xs, _, w, rfl, rfl, h1, h2, q⟩ hs
    · exact ix_tup va sl p s z H _ _ v u Q I rx ry ⟨_, xs, _, w, rfl, rfl, h1, h2, q⟩ hs
  · exact h.elim
end

/-! ### the ledger: what a def knows of the heap -/
/-- H0 the heap at the start, D what may change of it; F what stands still, M what may still change, each by its address -/
structure At (H0 : Hp) (D : List Addr) (F M : List (Addr × HO)) (H : Hp) : Prop where
  fr : ∀ a o, H0 a = some o → a ∉ D → H a = some o
  fa : ∀ p ∈ F, H p.1 = some p.2
  mu : ∀ p ∈ M, H p.1 = some p.2
  mf : ∀ p ∈ M, p.1 ∈ D ∨ H0 p.1 = none
  df : ∀ p ∈ M, ∀ q ∈ F, p.1 ≠ q.1
  nd : (M.map (·.1)).Nodup
section
variable {H0 H H' : Hp} {D : List Addr} {F M : List (Addr × HO)} {a p : Addr} {o u : HO}
theorem At.start (H : Hp) : At H [] [] [] H := ⟨fun _ _ h _ => h, fun _ h => absurd h List.not_mem_nil, fun _ h => absurd h List.not_mem_nil, fun _ h => absurd h List.not_mem_nil, fun _ h => absurd h List.not_mem_nil, List.nodup_nil⟩
/-- the dice alone may change -/
theorem At.start1 (h : H a = some o) : At H [a] [] [(a, o)] H := ⟨fun _ _ e _ => e, fun _ h => absurd h List.not_mem_nil, fun p hp => by
  obtain rfl := List.mem_singleton.mp hp
  exact h, fun p hp => .inl (by obtain rfl := List.mem_singleton.mp hp; exact List.mem_singleton.mpr rfl), fun _ _ _ h => absurd h List.not_mem_nil, by simp⟩
theorem At.get (L : At H0 D F M H) (h : (a, o) ∈ F) : H a = some o := L.fa _ h
theorem At.getM (L : At H0 D F M H) (h : (a, o) ∈ M) : H a = some o := L.mu _ h
/-- what is known of an object that doesn't change -/
theorem At.know (L : At H0 D F M H) (h : H a = some o) (hM : a ∉ M.map (·.1)) : At H0 D ((a, o) :: F) M H := ⟨L.fr, fun p hp => by
  rcases List.mem_cons.mp hp with rfl | hp
  · exact h
  · exact L.fa p hp, L.mu, L.mf, fun p hp q hq e => by
  rcases List.mem_cons.mp hq with rfl | hq
  · exact hM (List.mem_map.mpr ⟨p, hp, e⟩)
  · exact L.df p hp q hq e, L.nd⟩
theorem At.new (L : At H0 D F M H) (h : H p = none) : At H0 D ((p, o) :: F) M (upd H p o) := ⟨fun b u e n => by
  have q := L.fr b u e n
  rw [upd_ne (ne_of_none q h)]; exact q, fun q hq => by
  rcases List.mem_cons.mp hq with rfl | hq
  · exact upd_same
  · rw [upd_ne (ne_of_none (L.fa q hq) h)]; exact L.fa q hq, fun q hq => by
  rw [upd_ne (ne_of_none (L.mu q hq) h)]; exact L.mu q hq, L.mf, fun q hq r hr e => by
  rcases List.mem_cons.mp hr with rfl | hr
  · have e2 := L.mu q hq
    rw [show q.1 = p from e, h] at e2
    cases e2
  · exact L.df q hq r hr e, L.nd⟩
theorem At.no0 (L : At H0 D F M H) (hD : ∀ d ∈ D, ∃ u, H d = some u) (h : H p = none) : H0 p = none := by
  cases e : H0 p with
  | none => rfl
  | some u =>
    by_cases hp : p ∈ D
    · obtain ⟨w, e2⟩ := hD p hp
      rw [h] at e2; cases e2
    · rw [L.fr p u e hp] at h; cases h
theorem At.newM (L : At H0 D F M H) (hD : ∀ d ∈ D, ∃ u, H d = some u) (h : H p = none) : At H0 D F ((p, o) :: M) (upd H p o) := ⟨(L.new (o := o) h).fr, fun q hq => (L.new (o := o) h).fa q (List.mem_cons_of_mem _ hq), fun q hq => by
  rcases List.mem_cons.mp hq with rfl | hq
  · exact upd_same
  · exact (L.new (o := o) h).mu q hq, fun q hq => by
  rcases List.mem_cons.mp hq with rfl | hq
  · exact .inr (L.no0 hD h)
  · exact L.mf q hq, fun q hq r hr e => by
  rcases List.mem_cons.mp hq with rfl | hq
  · have e2 := L.fa r hr
    rw [← show p = r.1 from e, h] at e2; cases e2
  · exact L.df q hq r hr e, by
  rw [List.map_cons]
  refine List.nodup_cons.mpr ⟨fun z => ?_, L.nd⟩
  obtain ⟨q, hq, e⟩ := List.mem_map.mp z
  have e2 := L.mu q hq
  rw [show q.1 = p from e, h] at e2; cases e2⟩
/-- the first of M changes -/
theorem At.set (L : At H0 D F ((a, o) :: M) H) (h1 : ∀ b u, H b = some u → b ≠ a → H' b = some u) (h2 : H' a = some u) : At H0 D F ((a, u) :: M) H' := ⟨fun b w e n => h1 b w (L.fr b w e n) (fun z => by
  subst z
  rcases L.mf _ (List.mem_cons_self ..) with z | z
  · exact n z
  · rw [e] at z; cases z), fun q hq => h1 _ _ (L.fa q hq) (fun z => L.df _ (List.mem_cons_self ..) q hq z.symm), fun q hq => by
  rcases List.mem_cons.mp hq with rfl | hq
  · exact h2
  · refine h1 _ _ (L.mu q (List.mem_cons_of_mem _ hq)) fun z => ?_
    have := L.nd
    rw [List.map_cons] at this
    exact (List.nodup_cons.mp this).1 (List.mem_map.mpr ⟨q, hq, z⟩), fun q hq => by
  rcases List.mem_cons.mp hq with rfl | hq
  · exact L.mf (a, o) (List.mem_cons_self ..)
  · exact L.mf q (List.mem_cons_of_mem _ hq), fun q hq r hr => by
  rcases List.mem_cons.mp hq with rfl | hq
  · exact L.df (a, o) (List.mem_cons_self ..) r hr
  · exact L.df q (List.mem_cons_of_mem _ hq) r hr, by have := L.nd; rw [List.map_cons] at this ⊢; exact this⟩
theorem At.upd (L : At H0 D F ((a, o) :: M) H) : At H0 D F ((a, u) :: M) (L2.upd H a u) := L.set (fun b w e n => by rw [upd_ne n]; exact e) upd_same
theorem memSwap {α : Type} {x q r : α} {l : List α} (h : x ∈ r :: q :: l) : x ∈ q :: r :: l := by
  rcases List.mem_cons.mp h with rfl | h
  · exact .tail _ (.head _)
  · rcases List.mem_cons.mp h with rfl | h
    · exact .head _
    · exact .tail _ (.tail _ h)
/-- M in another order -/
theorem At.swap {q r : Addr × HO} (L : At H0 D F (q :: r :: M) H) : At H0 D F (r :: q :: M) H := ⟨L.fr, L.fa, fun x hx => L.mu x (memSwap hx), fun x hx => L.mf x (memSwap hx), fun x hx => L.df x (memSwap hx), by
  have := L.nd
  simp only [List.map_cons, List.nodup_cons, List.mem_cons, not_or] at this ⊢
  exact ⟨⟨fun z => this.1.1 z.symm, this.2.1⟩, this.1.2, this.2.2⟩⟩
/-- the first of M stands still from here on -/
theorem At.still (L : At H0 D F ((a, o) :: M) H) : At H0 D ((a, o) :: F) M H := ⟨L.fr, fun q hq => by
  rcases List.mem_cons.mp hq with rfl | hq
  · exact L.mu _ (List.mem_cons_self ..)
  · exact L.fa q hq, fun q hq => L.mu q (List.mem_cons_of_mem _ hq), fun q hq => L.mf q (List.mem_cons_of_mem _ hq), fun q hq r hr e => by
  rcases List.mem_cons.mp hr with rfl | hr
  · have := L.nd
    rw [List.map_cons] at this
    exact (List.nodup_cons.mp this).1 (List.mem_map.mpr ⟨q, hq, e⟩)
  · exact L.df q (List.mem_cons_of_mem _ hq) r hr e, by have := L.nd; rw [List.map_cons] at this; exact (List.nodup_cons.mp this).2⟩
/-- behind what only adds -/
theorem At.same (L : At H0 D F M H) (h : ∀ b u, H b = some u → H' b = some u) : At H0 D F M H' := ⟨fun b w e n => h _ _ (L.fr b w e n), fun q hq => h _ _ (L.fa q hq), fun q hq => h _ _ (L.mu q hq), L.mf, L.df, L.nd⟩
/-- forget -/
theorem At.less {F' : List (Addr × HO)} (L : At H0 D F M H) (h : ∀ p ∈ F', p ∈ F) : At H0 D F' M H := ⟨L.fr, fun q hq => L.fa q (h q hq), L.mu, L.mf, fun q hq r hr => L.df q hq r (h r hr), L.nd⟩
end
end U

/-! U3: promises of defs that are called where no repr is under way (repr of a list asks for that). -/
namespace U
open PySem PySem.Spec PyProof.Rows L2
/-- a def's promise, wherever no repr is under way -/
structure FnG (P : Program) (w : World) (K : PySem.W.Frag) (mg : Str → Option Value) (base : Heap) (CX : CXT) (k : Nat) (f : Addr) (fd : FuncData) (ps : List Str) (sp : Sp) : Prop where
  len : ∀ vs H Q E, sp vs H Q E → vs.length = ps.length
  run : ∀ (A : Around) (outer : List Env) (s : Shared) (H : Hp) (args : Args) (us : List Value) (vs : List V) (Q : VK) (E : XK), A.guards = some [] → Room k A → Env0 P w K mg base A outer s H → BindsTo s fd args (ps.zip us) → Vals vs us →
    sp vs H Q E → codeAny (model P w) A (.call (.ref f) args) (CR CX outer P w H s Q E) s
section
variable {P : Program} {w : World} {K : PySem.W.Frag} {mg : Str → Option Value} {base : Heap} {CX : CXT} {k j : Nat} {f : Addr} {fd : FuncData} {ps N : List Str} {sp : Sp} {st : Stmt} {nm qual : Str}
theorem FnG.of (F : FnOk P w K mg base CX k f fd ps sp) : FnG P w K mg base CX k f fd ps sp := ⟨F.len, fun A o s H ar us vs Q E _ => F.run A o s H ar us vs Q E⟩
theorem FnG.mono (F : FnG P w K mg base CX j f fd ps sp) (h : j ≤ k) : FnG P w K mg base CX k f fd ps sp := ⟨F.len, fun A o s H ar us vs Q E g r => F.run A o s H ar us vs Q E g (r.mono h)⟩
/-- a def by its body, where no repr is under way -/
theorem okG (F : Fun K nm qual st f fd) (S : FnScope N ps (defScope st)) (len : ∀ vs H Q E, sp vs H Q E → vs.length = ps.length)
    (body : ∀ (cdv : Value) (A : Around) (outer : List Env) (s : Shared) (H : Hp) (vs : List V) (Q : VK) (E : XK), A.guards = some [] → Room k (A.deeper (envOfC qual (defScope st) s.heap.objs.size f cdv)) → sp vs H Q E →
      ∃ t, PSs (cxOf CX P w K mg base N qual (defScope st) f cdv A outer s H E) (defBody st) t ∧ t { nx := fun _ H' => Q .non H', rt := Q } (start N vs) H) : FnG P w K mg base CX (k + 1) f fd ps sp := by
  obtain ⟨oc, od, kV, doc, pm, an, cdv, ct, osl, rfl, lk, hcd⟩ := F.ex
  refine ⟨len, fun A outer s H args us vs Q E hg hr e0 hb r hsp => ?_⟩
  have kin : K.In s.heap := e0.mod.kin.keeps fun b o z => (e0.bs b o z).1
  have nol : s.heap.NoLimit := e0.mod.nolimit.keeps fun b o z => (e0.bs b o z).1
  refine codeAny_call_function hr.depth (kin _ _ lk) rfl S.co S.gen rfl (PySem.W.codeRec_of kin hcd) (hb _ _ _ _ ?_)
  refine wpAny_newFunctionEnv_cells S.kind (fun ⟨n, v⟩ hy => (S.par n (List.of_mem_zip hy).1).elim .inl fun q => .inr ⟨q, PySem.W.cellsFrom_some _ _ _ (.inl q)⟩) fun env he s1 x => ?_
  subst he
  refine ⟨nol.keeps x.toInCall.keep, codeAny_func ?_⟩
  obtain ⟨t, ht, hq⟩ := body cdv A outer s H vs Q E hg (hr.deeper _) hsp
  have I0 := inv_start (CX := CX) (E := E) S hr.hd e0 (len _ _ _ _ hsp) r x
  refine wpAny_mono (ht.run [] s1 _ H _ I0 hq) (fun fl s' hs => ?_) fun e s' hs => hs
  cases fl with
  | ret u => exact let ⟨v, _, H', J, rv, q⟩ := hs; ⟨v, H', J.os, J.bare, J.base, J.hok, rv, q⟩
  | next => exact let ⟨_, H', J, q⟩ := hs; ⟨V.non, H', J.os, J.bare, J.base, J.hok, rfl, q⟩
  | brk => exact let ⟨_, _, _, q⟩ := hs; False.elim q
  | cont => exact let ⟨_, _, _, q⟩ := hs; False.elim q
end
section
variable {X : Cx} {CX : CXT} {k : Nat} {f : Addr} {fd : FuncData} {ps : List Str} {sp : Sp} {dvs : List V} {ds : List Value} {E : XK} {x : Str} {p pos : Pos} {e : Expr} {es : List Expr} {t : TA}
theorem runG {pins : List (Addr × Obj)} {σ : L2.St} {H : Hp} {s : Shared} {Q : VK} {us : List Value} {vs : List V} (F : FnG X.prog X.w X.K X.mg X.base CX k f fd ps sp) (hg : X.A.guards = some []) (hr : Room k X.A) (hb : Binds X.K fd ps ds) (hd : Vals dvs ds) (hx : Passes CX X E)
    (I : Inv X pins σ H s) (r : Vals vs us) (h : sp (vs ++ dvs) H Q E) : wpAny (model X.prog X.w) X.A (call (.ref f) us) (EP X pins σ Q) X.xe s := by
  have r2 : Vals (vs ++ dvs) (us ++ ds) := r.append hd
  refine wpAny_call (codeAny_mono (F.run X.A X.stack s H ⟨us, []⟩ (us ++ ds) (vs ++ dvs) Q E hg hr I.env0 (hb s us I.kIn (by rw [← r2.length]; exact F.len _ _ _ _ h)) r2 h) fun r s' hq => ?_)
  match r, hq with
  | .error e, hq => exact hx pins σ H s e s' I hq
  | .ok (.ret u), hq => exact I.after hq
  | .ok .next, hq => exact False.elim hq
  | .ok .brk, hq => exact False.elim hq
  | .ok .cont, hq => exact False.elim hq
theorem peG (F : FnG X.prog X.w X.K X.mg X.base CX k f fd ps sp) (hg : X.A.guards = some []) (hr : Room k X.A) (hn : Gl X x) (hm : X.mg x = some (.ref f)) (hk : PySem.W.keepIn X.K (.ref f) = true) (hb : Binds X.K fd ps ds) (hd : Vals dvs ds) (hx : Passes CX X E)
    (ha : PA X (e :: es) t) (hdb : (x == ("__debug__" : Str)) = false := by decide) (he : starEach (e :: es) X.env = (false, eval e X.env) :: starEach es X.env := by rfl) (hpl : (backTo pos (starEach es X.env)).any (·.1) = false := by rfl) :
    PE X (.Call (.Name x p) (e :: es) [] pos) (tCall sp dvs E t) := ⟨fun pins s σ H Q I h => wpAny_Call_Name_kw (ld_glob I hn hm (PySem.W.callWith_K (h₀ := X.base) I.ok.mod.kin hk
      (thn (ha.run pos pins s σ H _ I h) fun us s1 ⟨vs, H1, I1, r, q⟩ => ⟨I1.kIn, runG F hg hr hb hd hx I1 r q⟩) he hpl) hdb)⟩
end
/-! ### the law's own call -/
section
open PySem.W
theorem scriptH {P : Program} {w : World} {K : Frag} {s : Shared} {a : Addr} {vs : List Value} {ns : List Int} (KX : K.In s.heap) (ha : s.heap.get? a = some { cls := .type "list", data := .seq vs.toArray }) (hi : IntsAre vs ns) (hl : ns.length ≤ sizeLine) :
    ∃ H : Hp, Only H ∧ SqL K H a (ns.map V.int) ∧ HOk P w H s.heap ∧ (∀ b, H b ≠ none → b = a) ∧ (H a ≠ none → K.lookup a = none) := by
  have rv := vals_ints hi
  have lv : vs.length = ns.length := hi.length
  cases e : K.lookup a with
  | some o =>
    obtain rfl : o = _ := Option.some.inj ((KX a o e).symm.trans ha)
    exact ⟨fun _ => none, fun _ => .inl rfl, .inr ⟨_, vs.toArray, _, e, rfl, rfl, rfl, by rw [List.size_toArray, lv]; exact hl, by simpa using rv⟩, fun b u z => absurd (show (none : Option HO) = some u from z) (fun q => nomatch q), fun b z => absurd rfl z, fun z => absurd rfl z⟩
  | none =>
    refine ⟨fun b => if b = a then some (.frz { cls := .type "list", data := .seq vs.toArray } (.lst (ns.map V.int))) else none, fun b => ?_, .inl (.inr ⟨_, if_pos rfl⟩), fun b u z => ?_, fun b z => ?_, fun _ => rfl⟩
    · by_cases h : b = a
      · exact .inr ⟨_, _, if_pos h⟩
      · exact .inl (if_neg h)
    · by_cases h : b = a
      · subst h
        obtain rfl := Option.some.inj ((if_pos rfl).symm.trans z)
        exact ⟨ha, by rw [List.length_map]; exact hl, vs, _, rv, ha⟩
      · exact nomatch (if_neg h).symm.trans z
    · by_cases h : b = a
      · exact h
      · exact absurd (if_neg h) z
theorem lawG {P : Program} {w : World} {K : Frag} {mg mb : Str → Option Value} {CX : CXT} {k : Nat} {fa a : Addr} {fd : FuncData} {x : Str} {sp : Sp} {s : Shared} {vs : List Value} {ns : List Int}
    (KX : K.In s.heap) (hns : s.heap.Ns mainGlobals mg) (hb : s.heap.Ns builtinsNs mb) (hbb : ∀ y : Str, y ≠ "__name__" → mb y = bootBuiltins y) (hlim : s.heap.NoLimit) (hgn : s.gens = #[])
    (ha : s.heap.get? a = some { cls := .type "list", data := .seq vs.toArray }) (hi : IntsAre vs ns) (hl : ns.length ≤ sizeLine) (hr : Room k callerA)
    (F : ∀ base : Heap, K.In base → base.Ns mainGlobals mg → FnG P w K mg base CX k fa fd [x] sp) (hbind : ∀ (s : Shared) (u : Value), BindsTo s fd ⟨[u], []⟩ [(x, u)])
    (hsp : ∀ H : Hp, Only H → SqL K H a (ns.map V.int) → sp [.ref a] H (fun v _ => v = .bl true) fun _ _ _ => False) (hCX : ∀ H e s', CX [] H s (fun _ _ _ => False) e s' → False) :
    codeAny (model P w) callerA (.call (.ref fa) ⟨[.ref a], []⟩) (fun r s' => r = .ok (.ret (.bool true)) ∧ OldK s.heap s'.heap ∧ s'.os = s.os ∧ AllBare s'.gens) s := by
  obtain ⟨H, hO, hS, hok, hA, hK⟩ := scriptH (P := P) (w := w) KX ha hi hl
  have keep : ∀ {b : Addr} {o : Obj}, s.heap.get? b = some o → H b = none → (hidT s.heap H).get? b = some o := fun e n => hidT_get e n
  have free : ∀ {b : Addr}, b ≠ a → H b = none := fun {b} h => Classical.byContradiction fun z => h (hA b z)
  have kIn : K.In (hidT s.heap H) := fun b o e => keep (KX b o e) (Classical.byContradiction fun z => by
    obtain rfl := hA b z
    rw [hK z] at e; cases e)
  have nsIn : ∀ {b : Addr} {m : Str → Option Value}, s.heap.Ns b m → (hidT s.heap H).Ns b m := fun {b m} ⟨o, es, ep, e, d, r⟩ => ⟨o, es, ep, keep e (free fun z => by
    subst z
    rw [ha] at e; cases e; cases d), d, r⟩
  have M : Mod K mg (hidT s.heap H) := ⟨kIn, nsIn hns, ⟨mb, nsIn hb, hbb⟩, let ⟨mc, h1, h2⟩ := hlim; ⟨mc, nsIn h1, h2⟩⟩
  refine codeAny_mono ((F _ kIn (nsIn hns)).run callerA [] s H ⟨[.ref a], []⟩ [.ref a] [.ref a] _ _ rfl hr ⟨rfl, M, fun b o e => of_hidT e, Nat.le_of_eq (hidT_size _ _), trivial, fun b z => absurd (show b ∈ ([] : List Addr) from z) List.not_mem_nil, hok, .of_eq hgn⟩ (hbind s (.ref a)) (.cons rfl .nil) (hsp H hO hS)) fun r s' h => ?_
  match r, h with
  | .error e, h => exact (hCX H e s' h).elim
  | .ok .next, h => exact False.elim h
  | .ok .brk, h => exact False.elim h
  | .ok .cont, h => exact False.elim h
  | .ok (.ret u), ⟨v, H', os, bare, un, hok', r', q⟩ =>
    obtain rfl : v = .bl true := q
    obtain rfl : u = Value.bool true := r'
    refine ⟨rfl, OldK.of_keep fun b o e => ?_, os, bare⟩
    cases q : H b with
    | none => exact un.keep b o e q (fun z => absurd (show b ∈ ([] : List Addr) from z) List.not_mem_nil) List.not_mem_nil
    | some u =>
      rcases hO b with z | ⟨ob, xs, z⟩
      · rw [q] at z; cases z
      · have e1 := (hok b _ z).1
        have e2 := (hok' b _ (un.frzs b ob _ z)).1
        rw [e] at e1; cases e1
        exact e2
theorem walkG {l : OpenLaw} {n k : Nat} {q : Program} {loose : List Str} {XP : (Str → Option Value) → Heap → Prop} {YP : World → Heap → Prop} {d : DefRec} {K : Params → Frag} {sp : Frag → Sp} {x : Str}
    (hn : l.most = some n) (hn2 : n ≤ sizeLine) (hdf : d.params.defaults = []) (hr : Room k callerA) (hY : ∀ (w : World) (h : Heap), YP w h → (K w.params).In h)
    (F : ∀ (w : World) (mg : Str → Option Value) (fa : Addr) (h : Heap), (K w.params).In h → h.Ns mainGlobals mg → mg d.name = some (.ref fa) →
      ∃ fd : FuncData, (∀ (s : Shared) (u : Value), BindsTo s fd ⟨[u], []⟩ [(x, u)]) ∧ ∀ base : Heap, (K w.params).In base → base.Ns mainGlobals mg → FnG l.prog w (K w.params) mg base CX0 k fa fd [x] (sp (K w.params)))
    (hsp : ∀ (K : Frag) (H : Hp) (a : Addr) (ns : List Int), ns.length ≤ n → (∀ z ∈ ns, Builtin.Int.intBits z ≤ 1048576) → Only H → SqL K H a (ns.map V.int) → sp K [.ref a] H (fun v _ => v = .bl true) fun _ _ _ => False) :
    WalkO q loose XP YP l.row.toRowW d [] (fun f vs => PySem.call f vs) :=
  Att.attach_callB hn hdf fun w _ s mg mb fa o pm cd doc a vs ns G Y ho hd hcd hmg hobj hints hlen hbits hg =>
    let ⟨fd, hb, hF⟩ := F w mg fa _ (hY w _ Y) G.T.g hmg
    lawG (hY w _ Y) G.T.g G.T.b G.T.builtins G.T.nolimit hg hobj hints (Nat.le_trans hlen hn2) hr hF hb (fun H hO hS => hsp _ H a ns hlen hbits hO hS) fun _ _ _ z => z
end
end U

namespace U
open PySem PySem.Spec PyProof.Rows L2
theorem hu64 {k : Nat} {A : Around} (h : Room k A) : A.units + 64 < cLine := h.units
theorem hu70 {k : Nat} {A : Around} (h : Room k A) : A.units + 70 < cLine := by have := h.un; omega
section
variable {X : Cx}
theorem caAll (hc : X.calm = true) : CallR X (.builtin "all") (rAll X.K) := cr_all hc
/-- a slice of a text or a list -/
def uSl (K : PySem.W.Frag) : V → Option Int → Option Int → Hp → VK → Prop := fun x lo hi H Q => match x with
  | .str z => z.length ≤ sizeLine ∧ Q (.str (Txt.slice z lo hi)) H
  | _ => rSlL K x lo hi H Q
end
theorem walkO {l : PySem.W.OpenLaw} {n k : Nat} {q : Program} {loose : List Str} {XP : (Str → Option Value) → Heap → Prop} {YP : World → Heap → Prop} {d : DefRec} {K : Params → PySem.W.Frag} {sp : PySem.W.Frag → Sp} {x : Str}
    (hn : l.most = some n) (hn2 : n ≤ sizeLine) (hdf : d.params.defaults = []) (hr : Room k callerA) (hY : ∀ (w : World) (h : Heap), YP w h → (K w.params).In h)
    (F : ∀ (w : World) (mg : Str → Option Value) (fa : Addr) (h : Heap), (K w.params).In h → h.Ns mainGlobals mg → mg d.name = some (.ref fa) →
      ∃ fd : FuncData, (∀ (s : Shared) (u : Value), BindsTo s fd ⟨[u], []⟩ [(x, u)]) ∧ ∀ base : Heap, (K w.params).In base → base.Ns mainGlobals mg → FnOk l.prog w (K w.params) mg base CX0 k fa fd [x] (sp (K w.params)))
    (hsp : ∀ (K : PySem.W.Frag) (H : Hp) (a : Addr) (ns : List Int), ns.length ≤ n → (∀ z ∈ ns, Builtin.Int.intBits z ≤ 1048576) → Only H → SqL K H a (ns.map V.int) → sp K [.ref a] H (fun v _ => v = .bl true) fun _ _ _ => False) :
    PySem.W.WalkO q loose XP YP l.row.toRowW d [] (fun f vs => PySem.call f vs) :=
  walkG hn hn2 hdf hr hY (fun w mg fa h a b c => let ⟨fd, h1, h2⟩ := F w mg fa h a b c; ⟨fd, h1, fun base e g => .of (h2 base e g)⟩) hsp
/-- what a dice list holds: the rest of a great cell, a seed, how often it was rolled -/
def Dice (n : Nat) (o : HO) : Prop := ∃ a b c : Int, o = .lst [.int a, .int b, .int c] ∧ (0 ≤ a ∧ a < 2 ^ 500) ∧ (0 ≤ b ∧ b < 2 ^ 80) ∧ (0 ≤ c ∧ c ≤ n)
theorem Dice.up {n m : Nat} {o : HO} (h : Dice n o) (l : n ≤ m) : Dice m o := by
  obtain ⟨a, b, c, e, h1, h2, h3⟩ := h
  exact ⟨a, b, c, e, h1, h2, by omega⟩
theorem mulW {i j : Int} (a b : Nat) (ha : i.natAbs < 2 ^ a) (hb : j.natAbs < 2 ^ b) (h0 : 0 < a := by decide) (h1 : 0 < b := by decide) (h : a + b ≤ 1000000 := by decide) : CMulW i j := wide_mul ha hb h0 h1 h
theorem divW {i j : Int} (b : Nat) (h : 0 < j) (hb : j.natAbs < 2 ^ b) (h0 : 0 < b := by decide) (h9 : b ≤ 9000 := by decide) : CDivW i j := wide_div h hb h0 h9
theorem abs_lt {i : Int} {n : Nat} (h0 : 0 ≤ i) (h : i < 2 ^ n) : i.natAbs < 2 ^ n := by
  have e : ((i.natAbs : Nat) : Int) = i := by omega
  have : ((i.natAbs : Nat) : Int) < ((2 ^ n : Nat) : Int) := by rw [e]; push_cast; exact h
  exact Int.ofNat_lt.mp this
end U
namespace U
open PySem PySem.Spec PyProof.Rows L2
section
variable {K : PySem.W.Frag} {H H' : Hp} {p d : Addr} {xs : List V}
theorem rdKeep {u : HO} (h : ∀ b u, H b = some u → b ≠ d → H' b = some u) (ne : p ≠ d) (r : Rd H p u) : Rd H' p u := r.elim (fun e => .inl (h _ _ e ne)) fun ⟨o, e⟩ => .inr ⟨o, h _ _ e ne⟩
theorem sqlKeep (h : ∀ b u, H b = some u → b ≠ d → H' b = some u) (ne : p ≠ d) (r : SqL K H p xs) : SqL K H' p xs := r.elim (fun e => .inl (rdKeep h ne e)) .inr
theorem sqtKeep (h : ∀ b u, H b = some u → b ≠ d → H' b = some u) (ne : p ≠ d) (r : SqT K H p xs) : SqT K H' p xs := r.elim (fun e => .inl (rdKeep h ne e)) .inr
theorem sqlSame (h : ∀ b u, H b = some u → H' b = some u) (r : SqL K H p xs) : SqL K H' p xs := r.elim (fun e => .inl (e.elim (fun e => .inl (h _ _ e)) fun ⟨o, e⟩ => .inr ⟨o, h _ _ e⟩)) .inr
theorem sqtSame (h : ∀ b u, H b = some u → H' b = some u) (r : SqT K H p xs) : SqT K H' p xs := r.elim (fun e => .inl (e.elim (fun e => .inl (h _ _ e)) fun ⟨o, e⟩ => .inr ⟨o, h _ _ e⟩)) .inr
theorem atI_lt {α : Type} {xs : List α} {i : Int} (h0 : 0 ≤ i) (h : i < xs.length) : ∃ v, v ∈ xs ∧ atI xs i = some v := by
  obtain ⟨j, rfl⟩ := Int.eq_ofNat_of_zero_le h0
  have hj : j < xs.length := by omega
  exact ⟨xs[j], List.getElem_mem hj, atI_nat (by simp [hj])⟩
/-- what is picked from: a text's signs, or the items of a list or tuple -/
def PickOf (K : PySem.W.Frag) (H : Hp) (d : Addr) (x : V) (L : List V) : Prop :=
  (∃ z, x = .str z ∧ z.length ≤ 100000 ∧ L = z.cps.toList.map fun c => V.str ⟨#[c]⟩) ∨ ∃ p, x = .ref p ∧ p ≠ d ∧ (SqL K H p L ∨ SqT K H p L)
theorem small_ok {n : Nat} (h : n ≤ 1000000) : n ≤ sizeLine := by have := sizeLine_eq; omega
theorem small_lt {n : Nat} (h : n ≤ 1000000) : n < sizeLine := by have := sizeLine_eq; omega
end
end U
namespace U
open PySem PySem.Spec PyProof.Rows L2
def kinds : List String := ["NoneType", "bool", "int", "str", "list", "tuple", "dict"]
/-- a value of a built-in kind -/
def Kd (K : PySem.W.Frag) (H : Hp) (v : V) (T : String) : Prop := TyX K H v (.type T) ∧ T ∈ kinds
theorem kd_int {T : String} (h : T ∈ kinds) : kitB T "int" = some (T == "int" || T == "bool") := by
  have e : (kinds.all fun T => decide (kitB T "int" = some (T == "int" || T == "bool"))) = true := by decide +kernel
  exact of_decide_eq_true (List.all_eq_true.mp e T h)
theorem kd_bool {T : String} (h : T ∈ kinds) : kitB T "bool" = some (T == "bool") := by
  have e : (kinds.all fun T => decide (kitB T "bool" = some (T == "bool"))) = true := by decide +kernel
  exact of_decide_eq_true (List.all_eq_true.mp e T h)
theorem kd_str {T : String} (h : T ∈ kinds) : kitB T "str" = some (T == "str") := by
  have e : (kinds.all fun T => decide (kitB T "str" = some (T == "str"))) = true := by decide +kernel
  exact of_decide_eq_true (List.all_eq_true.mp e T h)
theorem kd_tuple {T : String} (h : T ∈ kinds) : kitB T "tuple" = some (T == "tuple") := by
  have e : (kinds.all fun T => decide (kitB T "tuple" = some (T == "tuple"))) = true := by decide +kernel
  exact of_decide_eq_true (List.all_eq_true.mp e T h)
theorem kd_dict {T : String} (h : T ∈ kinds) : kitB T "dict" = some (T == "dict") := by
  have e : (kinds.all fun T => decide (kitB T "dict" = some (T == "dict"))) = true := by decide +kernel
  exact of_decide_eq_true (List.all_eq_true.mp e T h)
section
variable {K : PySem.W.Frag} {H : Hp} {v : V} {T : String}
theorem ty_of {t : Value} (h : TyX K H v t) : (t = .type "int" → ∃ i, v = .int i) ∧ (t = .type "bool" → ∃ i, v = .bl i) ∧ (t = .type "str" → ∃ i, v = .str i) := by
  cases h with
  | base b => cases b <;> simp
  | _ => simp
theorem ty_to {t : Value} (h : TyX K H v t) : (∀ i, v = .int i → t = .type "int") ∧ (∀ i, v = .bl i → t = .type "bool") ∧ (∀ i, v = .str i → t = .type "str") := by
  cases h with
  | base b => cases b <;> simp
  | _ => simp
theorem Kd.isInt (h : Kd K H v "int") : ∃ i, v = .int i := (ty_of h.1).1 rfl
theorem Kd.isBool (h : Kd K H v "bool") : ∃ i, v = .bl i := (ty_of h.1).2.1 rfl
theorem Kd.isStr (h : Kd K H v "str") : ∃ i, v = .str i := (ty_of h.1).2.2 rfl
theorem Kd.ofInt {i : Int} (h : Kd K H (.int i) T) : T = "int" := Value.type.inj ((ty_to h.1).1 i rfl)
theorem Kd.ofBool {i : Bool} (h : Kd K H (.bl i) T) : T = "bool" := Value.type.inj ((ty_to h.1).2.1 i rfl)
theorem Kd.ofStr {i : Str} (h : Kd K H (.str i) T) : T = "str" := Value.type.inj ((ty_to h.1).2.2 i rfl)
theorem Kd.int (i : Int) : Kd K H (.int i) "int" := ⟨.base (.int i), by decide⟩
theorem Kd.str (i : Str) : Kd K H (.str i) "str" := ⟨.base (.str i), by decide⟩
theorem Kd.bl (i : Bool) : Kd K H (.bl i) "bool" := ⟨.base (.bl i), by decide⟩
theorem Kd.non : Kd K H .non "NoneType" := ⟨.base .non, by decide⟩
theorem Kd.lst {a : Addr} {xs : List V} (h : H a = some (.lst xs)) : Kd K H (.ref a) "list" := ⟨.base (.lst h), by decide⟩
theorem Kd.tup {a : Addr} {xs : List V} (h : H a = some (.tup xs)) : Kd K H (.ref a) "tuple" := ⟨.base (.tup h), by decide⟩
theorem Kd.dK {a : Addr} {xs : List (Key × V)} (h : H a = some (.dK xs)) : Kd K H (.ref a) "dict" := ⟨.base (.dK h), by decide⟩
end
end U

namespace U
open PySem PySem.Spec PyProof.Rows L2
/-! ### texts as lists of signs -/
def stripL (p : Nat → Bool) (l : List Nat) : List Nat := (((l.dropWhile p).reverse.dropWhile p)).reverse
theorem drop_tw {α : Type} (p : α → Bool) (l : List α) : l.drop (l.takeWhile p).length = l.dropWhile p := by
  have h := List.takeWhile_append_dropWhile (p := p) (l := l)
  conv => lhs; rw [← h]
  rw [h]
  have e : (l.takeWhile p ++ l.dropWhile p).drop (l.takeWhile p).length = l.dropWhile p := List.drop_left
  rw [h] at e
  exact e
theorem take_tw {α : Type} (p : α → Bool) (m : List α) : m.take (m.length - (m.reverse.takeWhile p).length) = (m.reverse.dropWhile p).reverse := by
  have h := drop_tw p m.reverse
  rw [← h, List.drop_reverse, List.reverse_reverse]
theorem strip_list (p : Nat → Bool) (x : Str) : (Txt.stripBy p true true x).cps.toList = stripL p x.cps.toList := by
  rw [stripBy_eq, StrLaws.strSub_toList]
  have e1 : stripLo p true x = (x.cps.toList.takeWhile p).length := rfl
  have e2 : ∀ lo, stripHi p true x lo = x.length - ((x.cps.toList.drop lo).reverse.takeWhile p).length := fun _ => rfl
  rw [e2, e1, drop_tw]
  have el : x.length = x.cps.toList.length := by simp [Str.length]
  have hd : (x.cps.toList.dropWhile p).length = x.cps.toList.length - (x.cps.toList.takeWhile p).length := by rw [← drop_tw, List.length_drop]
  unfold stripL
  rw [← take_tw, hd, el]
  congr 1
  omega
theorem dw_nil {α : Type} {p : α → Bool} : ∀ {l : List α}, l.dropWhile p = [] ↔ ∀ c ∈ l, p c = true
  | [] => by simp
  | a :: l => by
    rw [List.dropWhile_cons]
    by_cases h : p a = true
    · rw [if_pos h, dw_nil]
      simp [h]
    · rw [if_neg h]
      simp [h]
theorem stripL_nil {p : Nat → Bool} {l : List Nat} : stripL p l = [] ↔ ∀ c ∈ l, p c = true := by
  unfold stripL
  rw [List.reverse_eq_nil_iff, dw_nil]
  constructor
  · intro h c hc
    by_cases hp : p c = true
    · exact hp
    · have hm : c ∈ l.dropWhile p := by
        have e := List.takeWhile_append_dropWhile (p := p) (l := l)
        rw [← e] at hc
        rcases List.mem_append.mp hc with z | z
        · exact absurd (List.all_eq_true.mp List.all_takeWhile c z) hp
        · exact z
      exact h c (List.mem_reverse.mpr hm)
  · intro h c hc
    exact h c ((List.dropWhile_sublist p).subset (List.mem_reverse.mp hc))
theorem stripL_keep {p : Nat → Bool} {l : List Nat} (h : ∀ c ∈ l, p c = false) : stripL p l = l := by
  have e : ∀ m : List Nat, (∀ c ∈ m, p c = false) → m.dropWhile p = m := fun m hm => by
    cases m with
    | nil => rfl
    | cons a m => rw [List.dropWhile_cons, if_neg (by rw [hm a (List.mem_cons_self ..)]; decide)]
  unfold stripL
  rw [e l h, e _ (fun c hc => h c (List.mem_reverse.mp hc)), List.reverse_reverse]
theorem str_nil {x : Str} : x = Str.ofString "" ↔ x.cps.toList = [] := by
  constructor
  · intro h; rw [h]; rfl
  · intro h
    have : x.cps = #[] := by
      apply Array.ext'
      rw [h]
    cases x
    simp only at this
    rw [this]; rfl
/-! ### digits -/
theorem digits_are (m : Nat) : ∀ c ∈ (Nat.toDigits 10 m).map Char.toNat, 48 ≤ c ∧ c ≤ 57 := by
  intro c hc
  obtain ⟨ch, hch, e⟩ := List.mem_map.mp hc
  have r := PyProof.Rows.digit_range (Nat.isDigit_of_mem_toDigits (by decide) (by decide) hch)
  rw [← e]
  exact r
theorem num_list (n : Int) : (Str.ofString (toString n)).cps.toList = (if n < 0 then [45] else []) ++ (Nat.toDigits 10 n.natAbs).map Char.toNat := by
  cases n with
  | ofNat m =>
    rw [if_neg (by simp)]
    exact PySem.W.KIN.signs_num m
  | negSucc m =>
    rw [if_pos (by omega)]
    have e : toString (Int.negSucc m) = "-" ++ toString ((m + 1 : Nat) : Int) := rfl
    rw [e]
    have h2 := PySem.W.KIN.signs_num (m + 1)
    rw [PyProof.Rows.signs_ofString] at h2 ⊢
    rw [String.toList_append, List.map_append, h2]
    rfl
/-- the length of an integer's text without its sign -/
theorem let_len (n : Int) : (Txt.stripChars (Str.ofString (toString n)) (Str.ofString "-")).length < 61 ↔ n.natAbs < 10 ^ 60 := by
  have el : ∀ x : Str, x.length = x.cps.toList.length := fun x => by simp [Str.length]
  rw [el]
  unfold Txt.stripChars
  rw [strip_list, num_list]
  have hp : ∀ c, (Str.ofString "-").cps.contains c = decide (c = 45) := fun c => by
    show (#[45] : Array Nat).contains c = _
    simp [eq_comm]
  have hk : stripL (fun c => (Str.ofString "-").cps.contains c) ((if n < 0 then [45] else []) ++ (Nat.toDigits 10 n.natAbs).map Char.toNat) = (Nat.toDigits 10 n.natAbs).map Char.toNat := by
    have hd : ∀ c ∈ (Nat.toDigits 10 n.natAbs).map Char.toNat, (Str.ofString "-").cps.contains c = false := fun c hc => by
      have := digits_are _ c hc
      rw [hp]
      exact decide_eq_false (by omega)
    by_cases h : n < 0
    · rw [if_pos h]
      have e : stripL (fun c => (Str.ofString "-").cps.contains c) ([45] ++ (Nat.toDigits 10 n.natAbs).map Char.toNat) = stripL (fun c => (Str.ofString "-").cps.contains c) ((Nat.toDigits 10 n.natAbs).map Char.toNat) := by
        unfold stripL
        rw [List.singleton_append, List.dropWhile_cons, if_pos (by rw [hp]; rfl)]
      rw [e, stripL_keep hd]
    · rw [if_neg h, List.nil_append, stripL_keep hd]
  have hk' : stripL (Str.ofString "-").cps.contains ((if n < 0 then [45] else []) ++ (Nat.toDigits 10 n.natAbs).map Char.toNat) = _ := hk
  rw [hk', List.length_map]
  have := Nat.length_toDigits_le_iff (b := 10) (n := n.natAbs) (k := 60) (by decide) (by decide)
  omega
theorem num_fits {n : Int} (h : n.natAbs < 2 ^ 1900) : n.natAbs.log2 < 1920 := Nat.lt_of_lt_of_le (PySem.Flt.log2_lt_of (by decide) h) (by decide)
theorem num_len {n : Int} (h : n.natAbs < 2 ^ 1900) : (Str.ofString (toString n)).length ≤ sizeLine := int_text_fits (num_fits h)
end U
namespace U
open PySem PySem.Spec PyProof.Rows L2
section
variable {H0 H H' : Hp} {D : List Addr} {F M M' : List (Addr × HO)}
theorem At.lessM (L : At H0 D F M H) (h : List.Sublist M' M) : At H0 D F M' H := ⟨L.fr, L.fa, fun q hq => L.mu q (h.subset hq), fun q hq => L.mf q (h.subset hq), fun q hq => L.df q (h.subset hq), L.nd.sublist (h.map _)⟩
/-- the second of M changes -/
theorem At.set2 {a b : Addr} {o u v : HO} (L : At H0 D F ((b, v) :: (a, o) :: M) H) (h1 : ∀ c w, H c = some w → c ≠ a → H' c = some w) (h2 : H' a = some u) : At H0 D F ((b, v) :: (a, u) :: M) H' := (L.swap.set h1 h2).swap
end
theorem mul_len (x : Str) (n : Int) (h0 : 0 ≤ n) : (Txt.mul x n).length = n.toNat * x.length := by
  have el : ∀ y : Str, y.length = y.cps.toList.length := fun y => by simp [Str.length]
  rw [el, mul_list x n h0, List.length_flatten, List.map_replicate, List.sum_replicate_nat, el]
end U
namespace U
open PySem PySem.Spec PyProof.Rows L2
theorem At.fresh {H H' : Hp} {p : Addr} {o : HO} (s : ∀ b u, H b = some u → H' b = some u) (h : H p = none) (h' : H' p = some o) : At H [] [] [(p, o)] H' := ⟨fun b u e _ => s b u e, fun _ z => absurd z List.not_mem_nil, fun q hq => by
  obtain rfl := List.mem_singleton.mp hq
  exact h', fun q hq => by
  obtain rfl := List.mem_singleton.mp hq
  exact .inr h, fun _ _ _ z => absurd z List.not_mem_nil, by simp⟩
theorem no_dead {H' : Hp} : ∀ e ∈ ([] : List Addr), ∃ u, H' e = some u := fun _ h => absurd h List.not_mem_nil
theorem At.all {H H' : Hp} {F M : List (Addr × HO)} (L : At H [] F M H') : ∀ b u, H b = some u → H' b = some u := fun b u e => L.fr b u e List.not_mem_nil
end U

/-! U6: own classes: operators, comparisons, str, isinstance. -/
namespace U
open PySem PySem.Spec PyProof.Rows L2
/-- a heap that has grown -/
abbrev Gr (H H' : Hp) : Prop := ∀ b u, H b = some u → H' b = some u
theorem Gr.rfl' {H : Hp} : Gr H H := fun _ _ e => e
theorem Gr.up {H H' : Hp} {p : Addr} {o : HO} (g : Gr H H') (h : H' p = none) : Gr H (upd H' p o) := fun b u e => by rw [upd_ne (ne_of_none (g b u e) h)]; exact g b u e
theorem Gr.trans {H H1 H2 : Hp} (a : Gr H H1) (b : Gr H1 H2) : Gr H H2 := fun c o e => b c o (a c o e)
/-- what is asked of an own class whose instances have a dict -/
structure OwnC (K : PySem.W.Frag) (C : Addr) : Prop where
  cl : Cls K C
  sf : PySem.W.selfFirst K C = true
  ha : PySem.W.findIn K (.ref C) "__class__" = some (some (.builtin "object.__class__"))
  hn : PySem.W.specialIn K (.builtin "object.__class__") "__get__" = some (some (.builtin "getset_descriptor.__get__"))
  htk : PySem.W.takesIn K (.builtin "object.__class__") = some true
  hm : PySem.W.mroIn K C (.type "object") = some true
  tyC : PySem.W.typeIn K (.ref C) = some (.type "type")
theorem mro_no (C : Addr) {T : String} (h : T ∈ kinds) : (PySem.fastBuiltinMro T).map (·.contains (.ref C)) = some false := by
  unfold kinds at h
  simp only [List.mem_cons, List.not_mem_nil, or_false] at h
  rcases h with rfl | rfl | rfl | rfl | rfl | rfl | rfl <;> rfl
section
variable {K : PySem.W.Frag} {C a dx : Addr} {fs : List (Str × V)} {H : Hp} {Q : VK} {v : V} {T : String}
theorem OwnC.ty (o : OwnC K C) (e : H a = some (.ins C dx fs)) : TyX K H (.ref a) (.ref C) := .base (.ins e o.cl o.ha o.hn o.htk o.hm)
theorem OwnC.isi (o : OwnC K C) (e : H a = some (.ins C dx fs)) (q : Q (.bl true) H) : rIsi K [.ref a, .ref C] H Q := ⟨_, _, .ref C, .ref C, true, rfl, .own C, o.ty e, by unfold PySem.W.kitOne; rw [if_pos (beq_self_eq_true _)], q⟩
theorem OwnC.no (o : OwnC K C) (h : T ∈ kinds) : PySem.W.kitOne K (.type T) (.ref C) = some false := by
  have hc : (PySem.W.clsIn K C).isSome = true := by
    obtain ⟨cd, hc, _⟩ := PySem.W.any_some o.cl.hd
    rw [hc]
    rfl
  unfold PySem.W.kitOne
  rw [if_neg (by intro z; cases z)]
  show (if ((PySem.W.clsIn K C).isSome && PySem.W.typeIn K (.ref C) == some (.type "type")) = true then PySem.W.subIn K (.type T) (.ref C) else none) = _
  rw [if_pos (by rw [hc, o.tyC]; rfl)]
  exact mro_no C h
theorem OwnC.isn (o : OwnC K C) (k : Kd K H v T) (q : Q (.bl false) H) : rIsi K [v, .ref C] H Q := ⟨_, _, .type T, .ref C, false, rfl, .own C, k.1, o.no k.2, q⟩
end
/-- two instances of C handed to an own method -/
def uOwn (C : Addr) (sp : Sp) (E : XK) : R2 := fun x y H Q => match x, y with
  | .ref a, .ref b => ∃ dx dy fs gs, H a = some (.ins C dx fs) ∧ H b = some (.ins C dy gs) ∧ sp [.ref a, .ref b] H Q E
  | _, _ => False
def uOwn1 (C : Addr) (sp : Sp) (E : XK) : V → Hp → VK → Prop := fun x H Q => match x with
  | .ref a => ∃ dx fs, H a = some (.ins C dx fs) ∧ sp [.ref a] H Q E
  | _ => False
section
variable {X : Cx} {CX : CXT} {n : Nat} {C f : Addr} {fd : FuncData} {ps : List Str} {sp : Sp} {E : XK} {nm : Str}
theorem run_here {A : Around} {pins : List (Addr × Obj)} {σ : L2.St} {H : Hp} {s : Shared} {Q : VK} {us : List Value} {vs : List V} (F : FnOk X.prog X.w X.K X.mg X.base CX n f fd ps sp) (hr : Room n A) (hfr : A.frames = X.A.frames) (hb : Binds X.K fd ps [])
    (hx : Passes CX X E) (I : Inv X pins σ H s) (r : Vals vs us) (h : sp vs H Q E) : wpAny (model X.prog X.w) A (call (.ref f) us) (EP X pins σ Q) X.xe s := by
  have e0 : Env0 X.prog X.w X.K X.mg X.base A X.stack s H := by
    have e := I.env0
    exact ⟨by rw [hfr]; exact e.frames, e.mod, e.bs, e.bsz, e.funs, e.frf, e.hok, e.bare⟩
  have hl := F.len _ _ _ _ h
  have hb' := hb s us I.kIn (by rw [List.append_nil, ← r.length]; exact hl)
  rw [List.append_nil] at hb'
  refine wpAny_call (codeAny_mono (F.run A X.stack s H ⟨us, []⟩ us vs Q E hr e0 hb' r h) fun r s' hq => ?_)
  cases r with
  | error e => exact hx pins σ H s e s' I hq
  | ok fl =>
    cases fl with
    | ret u => exact I.after hq
    | next => exact False.elim hq
    | brk => exact False.elim hq
    | cont => exact False.elim hq
theorem no_ni {pins : List (Addr × Obj)} {σ : L2.St} {Q : VK} {v : Value} {s' : Shared} (h : EP X pins σ Q v s') : PySem.W.CmpBack (EP X pins σ Q) v s' := by
  obtain ⟨x, H', I, r, q⟩ := h
  cases v with
  | notImplemented => cases x <;> first | (cases r; done) | (obtain ⟨_, r⟩ := r; cases r)
  | _ => exact ⟨x, H', I, r, q⟩
/-- x op y by x's own method -/
theorem opBin {op : Operator} (he : PySem.dunder op.info.2 = nm) (o : OwnC X.K C) (m : Meth X.K C nm f) (F : FnOk X.prog X.w X.K X.mg X.base CX n f fd ps sp) (hr : Room n X.A) (hb : Binds X.K fd ps []) (hx : Passes CX X E) : OpR X (binaryOp op) (uOwn C sp E) := by
  intro pins s σ H x y v u Q I rx ry h
  unfold uOwn at h
  split at h
  · rename_i a b
    obtain ⟨dx, dy, fs, gs, ha, hb', hs⟩ := h
    cases rx; cases ry
    obtain ⟨mA, J, _⟩ := ins_get I.hok ha
    obtain ⟨mB, J', _⟩ := ins_get I.hok hb'
    obtain ⟨od, J, _⟩ := J.look
    obtain ⟨od', J', _⟩ := J'.look
    obtain ⟨m', hF⟩ := I.fr
    refine PySem.W.binop_K (op := op) hF I.ok.mod.kin J J'.type o.sf (by rw [he]; exact m.at_) m.fn ?_
    exact wpAny_mono (run_here F hr rfl hb hx I (show Vals [V.ref a, V.ref b] [Value.ref a, Value.ref b] from .cons rfl (.cons rfl .nil)) hs) (fun _ _ q => no_ni q) fun _ _ z => z
  · exact h.elim
/-- x op y, a comparison, by x's own method -/
theorem opCmp {op : CmpOp} (he : (PySem.cmpInfo op).2.1 = nm) (hop : compareOp op = richCompare op) (m : Meth X.K C nm f) (F : FnOk X.prog X.w X.K X.mg X.base CX n f fd ps sp) (hr : Room n X.A) (hb : Binds X.K fd ps []) (hx : Passes CX X E) : OpR X (compareOp op) (uOwn C sp E) := by
  intro pins s σ H x y v u Q I rx ry h
  unfold uOwn at h
  split at h
  · rename_i a b
    obtain ⟨dx, dy, fs, gs, ha, hb', hs⟩ := h
    cases rx; cases ry
    obtain ⟨mA, J, _⟩ := ins_get I.hok ha
    obtain ⟨mB, J', _⟩ := ins_get I.hok hb'
    obtain ⟨od, J, _⟩ := J.look
    obtain ⟨od', J', _⟩ := J'.look
    obtain ⟨m', hF⟩ := I.fr
    rw [hop]
    refine PySem.W.cmp_K (op := op) (tb := .ref C) hr.units0 hF I.ok.mod.kin J J'.type (by simp [PySem.W.notFirst]) (by rw [he]; exact m.at_) m.fn ?_
    exact wpAny_mono (run_here F hr rfl hb hx I (show Vals [V.ref a, V.ref b] [Value.ref a, Value.ref b] from .cons rfl (.cons rfl .nil)) hs) (fun _ _ q => no_ni q) fun _ _ z => z
  · exact h.elim
/-- -x by x's own method -/
theorem unOwn (m : Meth X.K C "__neg__" f) (F : FnOk X.prog X.w X.K X.mg X.base CX n f fd ps sp) (hr : Room n X.A) (hb : Binds X.K fd ps []) (hx : Passes CX X E) : UnR X (unaryOp .USub) (uOwn1 C sp E) := by
  intro pins s σ H x v Q I rx h
  unfold uOwn1 at h
  split at h
  · rename_i a
    obtain ⟨dx, fs, ha, hs⟩ := h
    cases rx
    obtain ⟨mA, J, _⟩ := ins_get I.hok ha
    obtain ⟨od, J, _⟩ := J.look
    obtain ⟨m', hF⟩ := I.fr
    refine PySem.W.ksp_neg hF I.ok.mod.kin J m.at_ m.fn ?_
    exact run_here F hr rfl hb hx I (show Vals [V.ref a] [Value.ref a] from .cons rfl .nil) hs
  · exact h.elim
/-- str(x) by x's own method -/
def uStrO (C : Addr) (sp : Sp) (E : XK) : List V → Hp → VK → Prop := fun vs H Q => match vs with
  | [.ref a] => ∃ dx fs, H a = some (.ins C dx fs) ∧ sp [.ref a] H (fun v H' => (∃ y, v = .str y) ∧ Q v H') E
  | _ => False
theorem caStrO (m : Meth X.K C "__str__" f) (F : FnOk X.prog X.w X.K X.mg X.base CX n f fd ps sp) (hr : Room (n + 2) X.A) (hb : Binds X.K fd ps []) (hx : Passes CX X E) : CallR X (.type "str") (uStrO C sp E) := by
  intro pins s σ H xs us Q I r h
  unfold uStrO at h
  split at h
  · rename_i a
    obtain ⟨dx, fs, ha, hs⟩ := h
    obtain ⟨u, rfl, ru⟩ := vals1 r
    cases (show u = Value.ref a from ru)
    obtain ⟨mA, J, _⟩ := ins_get I.hok ha
    obtain ⟨od, J, _⟩ := J.look
    have hr2 : Room n X.A.in1.in1 := Room.in1 (Room.in1 hr)
    refine PySem.W.kso_call hr2.units0 I.kIn J m.at_ m.fn ?_
    refine wpAny_mono (run_here F hr2 rfl hb hx I (show Vals [V.ref a] [Value.ref a] from .cons rfl .nil) hs) (fun v s' q => ?_) fun _ _ z => z
    obtain ⟨x, H', I', rv, ⟨y, rfl⟩, q⟩ := q
    obtain ⟨t, rfl⟩ := (show ∃ t, v = Value.str y t from rv)
    exact ⟨.str y, H', I', ⟨t, rfl⟩, q⟩
  · exact h.elim
end
end U

/-! U7: repr of a bool, fractions. -/
namespace U
open PySem PySem.Spec PyProof.Rows L2
section
variable {X : Cx}
def bstr (k : Bool) : Str := if k then "True" else "False"
theorem bstr_inj {a b : Bool} (h : bstr a = bstr b) : a = b := by revert h; cases a <;> cases b <;> decide
def uReprB (K : PySem.W.Frag) (vs : List V) (H : Hp) (Q : VK) : Prop := match vs with
  | [.bl k] => Q (.str (bstr k)) H
  | _ => uRepr K vs H Q
theorem caReprB (hg : X.A.guards = some []) (hu : X.A.units + 70 < cLine) : CallR X (.builtin "repr") (uReprB X.K) := fun p s z H xs us Q I r h => by
  unfold uReprB at h
  split at h
  · rename_i k
    obtain ⟨u, rfl, ru⟩ := L2.vals1 r
    cases (show u = Value.bool k from ru)
    refine PySem.P.repr_of_bool ?_
    exact ⟨.str (bstr k), H, I.tok _, ⟨_, rfl⟩, h⟩
  · exact caRepr hg hu p s z H _ us Q I r h
end
/-! ### fractions -/
/-- equal fractions compare alike -/
theorem fr_lt {p q N D p' q' N' D' : Int} (h : p * D = N * q) (h' : p' * D' = N' * q') (hq : 0 < q) (hD : 0 < D) (hq' : 0 < q') (hD' : 0 < D') : p * q' < p' * q ↔ N * D' < N' * D := by
  have key : (p' * q - p * q') * (D * D') = (N' * D - N * D') * (q * q') := by grind
  have e1 : 0 < D * D' := Int.mul_pos hD hD'
  have e2 : 0 < q * q' := Int.mul_pos hq hq'
  constructor
  · intro z
    have : 0 < (p' * q - p * q') * (D * D') := Int.mul_pos (by omega) e1
    rw [key] at this
    have := Int.pos_of_mul_pos_left this e2
    omega
  · intro z
    have : 0 < (N' * D - N * D') * (q * q') := Int.mul_pos (by omega) e2
    rw [← key] at this
    have := Int.pos_of_mul_pos_left this e1
    omega
def gcdI (a b : Int) : Int := ((Nat.gcd a.natAbs b.natAbs : Nat) : Int)
theorem gcdI_pos {a b : Int} (h : 0 < b) : 0 < gcdI a b := by
  have : 0 < Nat.gcd a.natAbs b.natAbs := Nat.gcd_pos_of_pos_right _ (by omega)
  exact Int.natCast_pos.mpr this
theorem gcdI_dl (a b : Int) : gcdI a b ∣ a := by
  have := Nat.gcd_dvd_left a.natAbs b.natAbs
  exact Int.dvd_natAbs.mp (Int.natCast_dvd_natCast.mpr this)
theorem gcdI_dr (a b : Int) : gcdI a b ∣ b := by
  have := Nat.gcd_dvd_right a.natAbs b.natAbs
  exact Int.dvd_natAbs.mp (Int.natCast_dvd_natCast.mpr this)
theorem gcdI_le {a b : Int} (h : 0 < b) : gcdI a b ≤ b := Int.le_of_dvd h (gcdI_dr a b)
/-- a fraction in lowest terms -/
structure Low (p q : Int) : Prop where
  pos : 0 < q
  one : Nat.gcd p.natAbs q.natAbs = 1
theorem ediv_of {a g x : Int} (h : 0 < g) (e : a = g * x) : a / g = x := by rw [e]; exact Int.mul_ediv_cancel_left x (by omega)
/-- what is left of a fraction by its greatest common divisor -/
theorem low_of {a b : Int} (h : 0 < b) : Low (a / gcdI a b) (b / gcdI a b) ∧ (a / gcdI a b) * b = a * (b / gcdI a b) ∧ (a / gcdI a b).natAbs ≤ a.natAbs ∧ b / gcdI a b ≤ b := by
  have g := gcdI_pos (a := a) h
  obtain ⟨x, hx⟩ := gcdI_dl a b
  obtain ⟨y, hy⟩ := gcdI_dr a b
  have ex : a / gcdI a b = x := ediv_of g hx
  have ey : b / gcdI a b = y := ediv_of g hy
  have ge : gcdI a b = ((Nat.gcd a.natAbs b.natAbs : Nat) : Int) := rfl
  rw [ex, ey]
  generalize hG : gcdI a b = G at *
  have y0 : 0 < y := by
    rw [hy] at h
    exact Int.pos_of_mul_pos_right h g
  have n1 : a.natAbs = G.natAbs * x.natAbs := by rw [hx, Int.natAbs_mul]
  have n2 : b.natAbs = G.natAbs * y.natAbs := by rw [hy, Int.natAbs_mul]
  refine ⟨⟨y0, ?_⟩, by rw [hx, hy]; grind, ?_, ?_⟩
  · have e : G.natAbs = Nat.gcd a.natAbs b.natAbs := by omega
    rw [n1, n2, Nat.gcd_mul_left] at e
    have hp : 0 < G.natAbs := by omega
    have := Nat.eq_of_mul_eq_mul_left hp (show G.natAbs * Nat.gcd x.natAbs y.natAbs = G.natAbs * 1 by omega)
    exact this
  · rw [n1]
    exact Nat.le_mul_of_pos_left _ (by omega)
  · have : y * 1 ≤ y * G := Int.mul_le_mul_of_nonneg_left (by omega) (by omega)
    rw [hy]
    have e2 : G * y = y * G := Int.mul_comm _ _
    omega
/-- two fractions in lowest terms are equal exactly if top and bottom are -/
theorem Low.inj {p q p' q' : Int} (h : Low p q) (h' : Low p' q') (e : p * q' = p' * q) : p = p' ∧ q = q' := by
  have hq := h.pos
  have hq' := h'.pos
  have n : p.natAbs * q'.natAbs = p'.natAbs * q.natAbs := by rw [← Int.natAbs_mul, ← Int.natAbs_mul, e]
  have d1 : q.natAbs ∣ q'.natAbs := by
    refine Nat.Coprime.dvd_of_dvd_mul_left (Nat.coprime_comm.mp h.one) ?_
    exact ⟨p'.natAbs, by rw [n]; exact Nat.mul_comm _ _⟩
  have d2 : q'.natAbs ∣ q.natAbs := by
    refine Nat.Coprime.dvd_of_dvd_mul_left (Nat.coprime_comm.mp h'.one) ?_
    exact ⟨p.natAbs, by rw [← n]; exact Nat.mul_comm _ _⟩
  have e3 := Nat.dvd_antisymm d1 d2
  have e4 : q = q' := by omega
  subst e4
  exact ⟨Int.eq_of_mul_eq_mul_right (by omega) e, rfl⟩
/-- a fraction in lowest terms stays as it is -/
theorem Low.same {p q : Int} (h : Low p q) : p / gcdI p q = p ∧ q / gcdI p q = q := by
  have : gcdI p q = 1 := by unfold gcdI; rw [h.one]; rfl
  rw [this]
  exact ⟨Int.ediv_one p, Int.ediv_one q⟩
/-- less, of fractions with positive bottoms, goes on -/
theorem fr_trans {p q p' q' p'' q'' : Int} (h : 0 < q) (h' : 0 < q') (h'' : 0 < q'') (a : p * q' < p' * q) (b : p' * q'' < p'' * q') : p * q'' < p'' * q := by
  have e1 : 0 < (p' * q - p * q') * q'' := Int.mul_pos (by omega) h''
  have e2 : 0 < (p'' * q' - p' * q'') * q := Int.mul_pos (by omega) h
  have e3 : (p'' * q - p * q'') * q' = (p' * q - p * q') * q'' + (p'' * q' - p' * q'') * q := by grind
  have : 0 < (p'' * q - p * q'') * q' := by omega
  have := Int.pos_of_mul_pos_left this h'
  omega
end U

/-! U8: ratios as they stand in the heap. -/
namespace U
open PySem PySem.Spec PyProof.Rows L2
def rf (p q : Int) : List (Str × V) := [("_top", .int p), ("_bottom", .int q)]
theorem tb_ : ¬ (("_top" : Str) = "_bottom") := by decide +kernel
theorem bt_ : ¬ (("_bottom" : Str) = "_top") := by decide +kernel
theorem rf_mk (p q : Int) : putF "_bottom" (.int q) (putF "_top" (.int p) []) = rf p q := by
  show (if ("_top" : Str) = "_bottom" then [(("_top" : Str), V.int q)] else (("_top" : Str), V.int p) :: putF "_bottom" (V.int q) []) = _
  rw [if_neg tb_]
  rfl
theorem rf_top (p q t : Int) : putF "_top" (.int t) (rf p q) = rf t q := by
  show (if ("_top" : Str) = "_top" then (("_top" : Str), V.int t) :: [(("_bottom" : Str), V.int q)] else _) = _
  rw [if_pos rfl]
  rfl
theorem rf_bot (p q t : Int) : putF "_bottom" (.int t) (rf p q) = rf p t := by
  show (if ("_top" : Str) = "_bottom" then _ else (("_top" : Str), V.int p) :: (if ("_bottom" : Str) = "_bottom" then [(("_bottom" : Str), V.int t)] else _)) = _
  rw [if_neg tb_, if_pos rfl]
  rfl
theorem rf_lt (p q : Int) : (rf p q).lookup ("_top" : Str) = some (.int p) := by
  unfold rf
  rw [List.lookup_cons_self]
theorem rf_lb (p q : Int) : (rf p q).lookup ("_bottom" : Str) = some (.int q) := by
  unfold rf
  rw [List.lookup_cons, show (("_bottom" : Str) == "_top") = false by decide +kernel]
  simp only [List.lookup_cons_self]
theorem rf_no (p q : Int) {m : Str} (h1 : (m == "_top") = false) (h2 : (m == "_bottom") = false) : (rf p q).lookup m = none := by
  unfold rf
  rw [List.lookup_cons, h1]
  simp only
  rw [List.lookup_cons, h2]
  rfl
theorem own_self {K : PySem.W.Frag} {C : Addr} : PySem.W.kitOne K (.ref C) (.ref C) = some true := by unfold PySem.W.kitOne; rw [if_pos (beq_self_eq_true _)]
/-- v is a ratio with this top and bottom -/
def IsR (C : Addr) (H : Hp) (v : V) (p q : Int) : Prop := ∃ a dx, v = .ref a ∧ H a = some (.ins C dx (rf p q))
theorem IsR.up {C : Addr} {H H' : Hp} {v : V} {p q : Int} (r : IsR C H v p q) (g : Gr H H') : IsR C H' v p q := let ⟨a, dx, e, h⟩ := r; ⟨a, dx, e, g _ _ h⟩
theorem mul_lt {a b : Int} (m n : Nat) (ha : a.natAbs < 2 ^ m) (hb : b.natAbs < 2 ^ n) : (a * b).natAbs < 2 ^ (m + n) := by
  rw [Int.natAbs_mul, Nat.pow_add]
  exact Nat.mul_lt_mul'' ha hb
theorem pos_abs {q : Int} (h : 0 < q) : ((q.natAbs : Nat) : Int) = q := by omega
/-- v is a new tuple of two integers -/
def TupAt (H : Hp) (v : V) (p q : Int) : Prop := ∃ x, v = .ref x ∧ H x = some (.tup [.int p, .int q])
theorem TupAt.up {H H' : Hp} {v : V} {p q : Int} (r : TupAt H v p q) (g : Gr H H') : TupAt H' v p q := let ⟨a, e, h⟩ := r; ⟨a, e, g _ _ h⟩
theorem TupAt.keep {H H' : Hp} {v : V} {p q : Int} {d : Addr} {l : List V} (r : TupAt H v p q) (s : ∀ b u, H b = some u → b ≠ d → H' b = some u) (hd : H d = some (.lst l)) : TupAt H' v p q := let ⟨a, e, h⟩ := r; ⟨a, e, s _ _ h (fun z => by rw [z, hd] at h; cases h)⟩
theorem IsR.keep {C : Addr} {H H' : Hp} {v : V} {p q : Int} {d : Addr} {l : List V} (r : IsR C H v p q) (s : ∀ b u, H b = some u → b ≠ d → H' b = some u) (hd : H d = some (.lst l)) : IsR C H' v p q := let ⟨a, dx, e, h⟩ := r; ⟨a, dx, e, s _ _ h (fun z => by rw [z, hd] at h; cases h)⟩
def pd (p q : Int) : PyData := .tuple [.int p, .int q]
def pds (l : List (Int × Int)) : List PyData := l.map fun z => pd z.1 z.2
theorem shaped_pd (p q : Int) : SeqAt.shaped (pd p q) = true := rfl
theorem lay_pds : ∀ l, PyData.canLayAll0 (pds l) = true
  | [] => rfl
  | (p, q) :: r => by
    show (PyData.canLay0 (pd p q) && PyData.canLayAll0 (pds r)) = true
    rw [lay_pds r]
    rfl
theorem depth_pds : ∀ l, PyData.depthAll (pds l) ≤ 1
  | [] => by decide
  | (p, q) :: r => by
    show max (PyData.depth (pd p q)) (PyData.depthAll (pds r)) ≤ 1
    have := depth_pds r
    have e : PyData.depth (pd p q) = 1 := rfl
    omega
theorem shaped_pds (l : List (Int × Int)) : SeqAt.shaped (.list (pds l)) = true := by
  show (PyData.canLayAll0 (pds l) && decide (PyData.depthAll (pds l) + 1 ≤ 64)) = true
  rw [lay_pds, decide_eq_true (by have := depth_pds l; omega)]
  rfl
theorem eqv_pd (p q r s : Int) : PyData.eqv (pd p q) (pd r s) = decide (p = r ∧ q = s) := by
  show (p == r && (q == s && true)) = _
  rw [Bool.and_true, Bool.eq_iff_iff]
  simp
theorem in_pds {p q : Int} {l : List (Int × Int)} (h : (p, q) ∈ l) : ((pds l).any fun z => PyData.eqv z (pd p q)) = true := by
  rw [List.any_eq_true]
  exact ⟨pd p q, List.mem_map.mpr ⟨(p, q), h, rfl⟩, by rw [eqv_pd]; simp⟩
theorem TupAt.dp {K : PySem.W.Frag} {H : Hp} {v : V} {p q : Int} (h : TupAt H v p q) : Dp K H v (pd p q) := by
  obtain ⟨x, rfl, e⟩ := h
  exact .tup (SqT.of e) (.cons (.int _) (.cons (.int _) .nil))
theorem dp_pairs {K : PySem.W.Frag} {H : Hp} : ∀ {xs : List V}, (∀ v ∈ xs, ∃ p q, TupAt H v p q) → ∃ l : List (Int × Int), DpAll K H xs (pds l) ∧ ∀ v ∈ xs, ∀ p q, TupAt H v p q → (p, q) ∈ l
  | [], _ => ⟨[], .nil, fun _ h => absurd h List.not_mem_nil⟩
  | v :: r, h => by
    obtain ⟨l, hl, hm⟩ := dp_pairs (K := K) (xs := r) fun w hw => h w (List.mem_cons_of_mem _ hw)
    obtain ⟨p, q, t⟩ := h v (List.mem_cons_self ..)
    refine ⟨(p, q) :: l, .cons t.dp hl, fun w hw p' q' t' => ?_⟩
    rcases List.mem_cons.mp hw with rfl | hw
    · obtain ⟨x, rfl, e⟩ := t
      obtain ⟨y, z, e'⟩ := t'
      cases z
      rw [e] at e'
      cases e'
      exact List.mem_cons_self ..
    · exact List.mem_cons_of_mem _ (hm w hw p' q' t')
theorem hu65 {k : Nat} {A : Around} (h : Room k A) : A.units + 65 < cLine := by have := h.un; omega
end U

/-! U9: own == and != with any second operand, an own truth value. -/
namespace NeW
open PySem PySem.Spec PySem.Calls PyProof.Rows PySem.W Builtin
section
variable {prog : Program} {w : World} {A : Around} {E : Value → Shared → Prop} {s : Shared} {K : Frag} {x C f L : Addr} {h₀ : Heap} {m : Str → Option Value} {ox : Obj} {od : Option Obj} {b tb : Value}
theorem ifBound_B {M : Model} {args : List Value} {name : Str} {id : String} {Q : Option Value → Shared → Prop} (X : K.In s.heap) (I : InstAt s.heap x ox C od) (hs : findIn K (.ref C) name = some (some (.builtin id)))
    (hb : ∀ self, bindSpecial (.builtin id) self = pure (.builtin id, [self])) (h : wpAny M A (call (.builtin id) (.ref x :: args)) (fun v => Q (some v)) E s) : wpAny M A (callSpecialIfBound? (.ref x) name args) Q E s := by
  simp only [callSpecialIfBound?, bindSpecialIfBound?]
  refine wpAny_holding (wpAny_bind (wpAny_bind (wpAny_bind (I.type.here ((looks_findIn X hs).here ?_)))))
  refine wpAny_bind (wpAny_askSetting (wpAny_ite ?_))
  have fin : wpAny M A (call (.builtin id) ([.ref x] ++ args) >>= fun v => pure (some v)) Q E s := wpAny_bind (wpAny_mono h (fun v s' h' => wpAny_pure h') fun _ _ h' => h')
  split
  · exact wpAny_bind ((Looks.of_pure (hb _)).here (wpAny_pure (by exact fin)))
  · exact wpAny_tryCatch (wpAny_bind ((Looks.of_pure (hb _)).here (wpAny_pure (by exact fin))))
theorem one_ne {Q : Value → Shared → Prop} (hu : A.in1.units < cLine) (X : K.In s.heap) (I : InstAt s.heap x ox C od) (hn : findIn K (.ref C) "__ne__" = some (some (.builtin "object.__ne__"))) (hm : mroIn K C (.type "object") = some true)
    (hs : findIn K (.ref C) "__eq__" = some (some (.ref f))) (hf : isFn K (.ref f) = true)
    (h : wpAny (model prog w) A.in1 (call (.ref f) [.ref x, b]) (fun v s' => ∃ k, v = .bool k ∧ Q (.bool (!k)) s') E s) : wpAny (model prog w) A (tryCompare (.ref x) "__ne__" b) (fun r s' => ∃ v, r = some v ∧ Q v s') E s := by
  unfold tryCompare
  refine wpAny_bind (ifBound_B X I hn PySem.F.slot_object_ne.bind ?_)
  refine wpAny_call (codeAny_call_builtin PySem.F.slot_object_ne.plain PySem.F.cmpEntry_ne (PySem.W.check_slot (i := "object.__ne__") (owner := "object") (n := "__ne__") PySem.F.cmpKind_ne PySem.F.cmpSplit_ne (I.type.andThen (looks_mroIn X hm)) (PySem.F.cmpArgs_ne _ _) ?_))
  unfold Builtin.«object.__ne__»
  refine wpAny_bind (m := slotArgs "__ne__" 1 _) (wpAny_pure ?_)
  refine wpAny_bind (m := cRoomFor _ _) (wpAny_cRoomFor hu ?_)
  refine wpAny_bind (m := callSpecialIfBound? (.ref x) (Str.ofString "__eq__") _) (ifBound_K X I hs hf (wpAny_mono h (fun r s' hr => ?_) fun _ _ y => y))
  obtain ⟨k, rfl, q⟩ := hr
  refine wpAny_bind (m := truthy (.bool k)) (wpAny_truthy_bool ?_)
  first
    | exact wpAny_pure ⟨_, rfl, q⟩
    | exact wpAny_pure (wpAny_pure ⟨_, rfl, q⟩)
theorem ne_K {Q : Value → Shared → Prop} (hu : A.in1.units < cLine) (hu0 : A.units < cLine) (X : K.In s.heap) (I : InstAt s.heap x ox C od) (hb : Looks (model prog w) s.heap (typeOf b) tb) (hnf : notFirst K C tb = true) (hn : findIn K (.ref C) "__ne__" = some (some (.builtin "object.__ne__"))) (hm : mroIn K C (.type "object") = some true)
    (hs : findIn K (.ref C) "__eq__" = some (some (.ref f))) (hf : isFn K (.ref f) = true)
    (h : wpAny (model prog w) A.in1 (call (.ref f) [.ref x, b]) (fun v s' => ∃ k, v = .bool k ∧ Q (.bool (!k)) s') E s) : wpAny (model prog w) A (richCompare .NotEq (.ref x) b) Q E s := by
  have one := one_ne hu X I hn hm hs hf h
  unfold richCompare
  simp only [oneThing_ref]
  refine wpAny_holding (wpAny_bind (wpAny_cRoomFor hu0 ?_))
  rw [PySem.cmpInfo_NotEq]
  dsimp only
  refine wpAny_bind (I.type.here (wpAny_bind (hb.here ?_)))
  split
  · rename_i q
    have e : subIn K tb (.ref C) = some false := by
      rcases Bool.or_eq_true_iff.mp hnf with e | e
      · rw [beq_iff_eq.mp e] at q; simp at q
      · exact beq_iff_eq.mp e
    refine wpAny_bind ((looks_subIn X e).here ?_)
    simp only [Bool.false_eq_true, if_false]
    refine wpAny_bind (wpAny_mono one (fun r s' z => ?_) fun _ _ e => e)
    obtain ⟨v, rfl, hq⟩ := z
    exact wpAny_pure hq
  · refine wpAny_bind (wpAny_pure ?_)
    simp only [Bool.false_eq_true, if_false]
    refine wpAny_bind (wpAny_mono one (fun r s' z => ?_) fun _ _ e => e)
    obtain ⟨v, rfl, hq⟩ := z
    exact wpAny_pure hq
end
end NeW
namespace U
open PySem PySem.Spec PyProof.Rows L2
/-- what is asked of a class without an own != -/
def NoNe (K : PySem.W.Frag) (C : Addr) : Prop := PySem.W.findIn K (.ref C) "__ne__" = some (some (.builtin "object.__ne__"))
/-- the second operand of an own comparison: an instance of the class, or a value of a built-in kind -/
def Snd (K : PySem.W.Frag) (C : Addr) (H : Hp) (y : V) : Prop := (∃ b dx fs, y = .ref b ∧ H b = some (.ins C dx fs)) ∨ ∃ S, Kd K H y S
/-- an instance of C and any second operand handed to an own method -/
def uOwnX (K : PySem.W.Frag) (C : Addr) (sp : Sp) (E : XK) : R2 := fun x y H Q => match x with
  | .ref a => ∃ dx fs, H a = some (.ins C dx fs) ∧ Snd K C H y ∧ sp [.ref a, y] H Q E
  | _ => False
section
variable {X : Cx} {CX : CXT} {n : Nat} {C f : Addr} {fd : FuncData} {ps : List Str} {sp : Sp} {E : XK} {nm : Str}
theorem not_first {K : PySem.W.Frag} {T : String} (h : T ∈ kinds) : PySem.W.notFirst K C (.type T) = true := by
  unfold PySem.W.notFirst
  have : PySem.W.subIn K (.type T) (.ref C) = some false := mro_no C h
  rw [this]
  simp
theorem snd_ty {pins : List (Addr × Obj)} {σ : L2.St} {H : Hp} {s : Shared} {y : V} {u : Value} (I : Inv X pins σ H s) (ry : L2.RelV y u) (h : Snd X.K C H y) : ∃ tb, PySem.W.Looks (model X.prog X.w) s.heap (typeOf u) tb ∧ PySem.W.notFirst X.K C tb = true := by
  rcases h with ⟨b, dx, fs, rfl, hb⟩ | ⟨S, hk⟩
  · cases ry
    obtain ⟨mB, J', _⟩ := ins_get I.hok hb
    obtain ⟨od', J', _⟩ := J'.look
    exact ⟨_, J'.type, by simp [PySem.W.notFirst]⟩
  · obtain ⟨P, Z, hp, _⟩ := kit_of I ry hk.1
    exact ⟨_, Z.ty _ _ I.kIn hp, not_first hk.2⟩
theorem opCmpX {op : CmpOp} (he : (PySem.cmpInfo op).2.1 = nm) (hop : compareOp op = richCompare op) (m : Meth X.K C nm f) (F : FnOk X.prog X.w X.K X.mg X.base CX n f fd ps sp) (hr : Room n X.A) (hb : Binds X.K fd ps []) (hx : Passes CX X E) : OpR X (compareOp op) (uOwnX X.K C sp E) := by
  intro pins s σ H x y v u Q I rx ry h
  unfold uOwnX at h
  split at h
  · rename_i a
    obtain ⟨dx, fs, ha, hy, hs⟩ := h
    cases rx
    obtain ⟨mA, J, _⟩ := ins_get I.hok ha
    obtain ⟨od, J, _⟩ := J.look
    obtain ⟨m', hF⟩ := I.fr
    obtain ⟨tb, lt, hnf⟩ := snd_ty I ry hy
    rw [hop]
    refine PySem.W.cmp_K (op := op) (tb := tb) hr.units0 hF I.ok.mod.kin J lt hnf (by rw [he]; exact m.at_) m.fn ?_
    exact wpAny_mono (run_here F hr rfl hb hx I (show Vals [V.ref a, y] [Value.ref a, u] from .cons rfl (.cons ry .nil)) hs) (fun _ _ q => no_ni q) fun _ _ z => z
  · exact h.elim
/-- x != y by x's own == -/
def uOwnN (K : PySem.W.Frag) (C : Addr) (sp : Sp) (E : XK) : R2 := fun x y H Q => match x with
  | .ref a => ∃ dx fs, H a = some (.ins C dx fs) ∧ Snd K C H y ∧ sp [.ref a, y] H (fun v H' => ∃ k, v = .bl k ∧ Q (.bl (!k)) H') E
  | _ => False
theorem opNeX (o : OwnC X.K C) (ne : NoNe X.K C) (m : Meth X.K C "__eq__" f) (F : FnOk X.prog X.w X.K X.mg X.base CX n f fd ps sp) (hr : Room (n + 1) X.A) (hb : Binds X.K fd ps []) (hx : Passes CX X E) : OpR X (compareOp .NotEq) (uOwnN X.K C sp E) := by
  intro pins s σ H x y v u Q I rx ry h
  unfold uOwnN at h
  split at h
  · rename_i a
    obtain ⟨dx, fs, ha, hy, hs⟩ := h
    cases rx
    obtain ⟨mA, J, _⟩ := ins_get I.hok ha
    obtain ⟨od, J, _⟩ := J.look
    obtain ⟨tb, lt, hnf⟩ := snd_ty I ry hy
    show wpAny (model X.prog X.w) X.A (richCompare .NotEq (.ref a) u) (EP X pins σ Q) X.xe s
    refine NeW.ne_K hr.in1.units0 hr.units0 I.kIn J lt hnf ne o.hm m.at_ m.fn ?_
    refine wpAny_mono (run_here F hr.in1 rfl hb hx I (show Vals [V.ref a, y] [Value.ref a, u] from .cons rfl (.cons ry .nil)) hs) (fun r s' q => ?_) fun _ _ z => z
    obtain ⟨z, H', I', rz, k, rfl, q⟩ := q
    cases rz
    exact ⟨k, rfl, .bl (!k), H', I', rfl, q⟩
  · exact h.elim
/-- a truth value by an own method -/
def uTruO (C : Addr) (sp : Sp) (E : XK) (ta : TE) : TT := fun σ H Q => ta σ H fun x H1 => ∃ a dx fs, x = .ref a ∧ H1 a = some (.ins C dx fs) ∧ sp [.ref a] H1 (fun v H2 => ∃ k, v = .bl k ∧ Q k H2) E
theorem ptO {a : Expr} {ta : TE} (m : Meth X.K C "__bool__" f) (F : FnOk X.prog X.w X.K X.mg X.base CX n f fd ps sp) (hr : Room n X.A) (hb : Binds X.K fd ps []) (hx : Passes CX X E) (ha : PE X a ta)
    (he : ∀ whole, isTrue a X.env whole = (do let v ← whole; standAt a.pos; holding [v] (truthy v)) := by intro _; rfl) : PT X a (uTruO C sp E ta) := by
  refine ⟨fun p s z H Q I h => isTrue_plain (thn (ha.run p s z H _ I h) fun v s1 ⟨x, H1, I1, r1, q⟩ => ?_) (he _)⟩
  obtain ⟨b, dx, fs, rfl, hb', hs⟩ := q
  cases r1
  obtain ⟨mA, J, _⟩ := ins_get I1.hok hb'
  obtain ⟨od, J, _⟩ := J.look
  obtain ⟨m', hF⟩ := I1.fr
  refine PySem.W.truthy_K hF I1.ok.mod.kin J m.at_ m.fn ?_
  refine wpAny_mono (run_here F hr rfl hb hx I1 (show Vals [V.ref b] [Value.ref b] from .cons rfl .nil) hs) (fun r s' q => ?_) fun _ _ z => z
  obtain ⟨y, H', I', ry, k, rfl, q⟩ := q
  cases ry
  exact ⟨H', I', q⟩
end
end U

/-! U10: fractions by value, texts of pairs. -/
namespace U
open PySem PySem.Spec PyProof.Rows L2
def uBool (vs : List V) (H : Hp) (Q : VK) : Prop := match vs with | [.int i] => Q (.bl (decide (i ≠ 0))) H | [.bl k] => Q (.bl k) H | _ => False
theorem caBool {X : Cx} : CallR X (.type "bool") uBool := fun p s z H xs us Q I r h => by
  unfold uBool at h
  split at h
  · rename_i i
    refine call_bool1 p s z H _ us Q I r (.inl ⟨i, rfl, ?_⟩)
    have e : decide (i ≠ 0) = (i != 0) := by by_cases h0 : i = 0 <;> simp [h0]
    rw [← e]
    exact h
  · exact call_bool1 p s z H _ us Q I r (.inr ⟨_, rfl, h⟩)
  · exact h.elim
/-- p / q is N / D in lowest terms -/
structure Val (p q N D : Int) : Prop where
  low : Low p q
  dp : 0 < D
  eq : p * D = N * q
theorem Val.of {N D : Int} (h : 0 < D) : Val (N / gcdI N D) (D / gcdI N D) N D := ⟨(low_of h).1, h, (low_of h).2.1⟩
theorem Val.self {p q : Int} (h : Low p q) : Val p q p q := ⟨h, h.pos, rfl⟩
/-- another fraction of the same value -/
theorem Val.to {p q N D N' D' : Int} (v : Val p q N D) (h : 0 < D') (e : N * D' = N' * D) : Val p q N' D' := ⟨v.low, h, by
  have hD := v.dp
  have e1 := v.eq
  refine Int.eq_of_mul_eq_mul_right (show D ≠ 0 by omega) ?_
  grind⟩
theorem Val.inj {p q p' q' N D N' D' : Int} (v : Val p q N D) (v' : Val p' q' N' D') (e : N * D' = N' * D) : p = p' ∧ q = q' := by
  refine v.low.inj v'.low ?_
  have v2 := v.to v'.dp e
  have h := v'.dp
  have e1 := v2.eq
  have e2 := v'.eq
  refine Int.eq_of_mul_eq_mul_right (show D' ≠ 0 by omega) ?_
  grind
section
variable {p q p' q' N D N' D' : Int}
theorem Val.add (v : Val p q N D) (v' : Val p' q' N' D') : Val ((p * q' + p' * q) / gcdI (p * q' + p' * q) (q * q')) (q * q' / gcdI (p * q' + p' * q) (q * q')) (N * D' + N' * D) (D * D') :=
  (Val.of (Int.mul_pos v.low.pos v'.low.pos)).to (Int.mul_pos v.dp v'.dp) (by have := v.eq; have := v'.eq; grind)
theorem Val.sub (v : Val p q N D) (v' : Val p' q' N' D') : Val ((p * q' - p' * q) / gcdI (p * q' - p' * q) (q * q')) (q * q' / gcdI (p * q' - p' * q) (q * q')) (N * D' - N' * D) (D * D') :=
  (Val.of (Int.mul_pos v.low.pos v'.low.pos)).to (Int.mul_pos v.dp v'.dp) (by have := v.eq; have := v'.eq; grind)
theorem Val.mul (v : Val p q N D) (v' : Val p' q' N' D') : Val ((p * p') / gcdI (p * p') (q * q')) (q * q' / gcdI (p * p') (q * q')) (N * N') (D * D') :=
  (Val.of (Int.mul_pos v.low.pos v'.low.pos)).to (Int.mul_pos v.dp v'.dp) (by have := v.eq; have := v'.eq; grind)
theorem Val.neg (v : Val p q N D) : Val (-p / gcdI (-p) q) (q / gcdI (-p) q) (-N) D :=
  (Val.of v.low.pos).to v.dp (by have := v.eq; grind)
end
/-- both numbers have at most k bits -/
def Sm (k : Nat) (p q : Int) : Prop := p.natAbs < 2 ^ k ∧ q.natAbs < 2 ^ k
theorem pow_le {a b : Nat} (h : a ≤ b) : 2 ^ a ≤ 2 ^ b := Nat.pow_le_pow_right (by decide) h
theorem Sm.up {k m : Nat} {p q : Int} (s : Sm k p q) (h : k ≤ m) : Sm m p q := ⟨Nat.lt_of_lt_of_le s.1 (pow_le h), Nat.lt_of_lt_of_le s.2 (pow_le h)⟩
theorem Sm.low {k : Nat} {N D : Int} (h : 0 < D) (s : Sm k N D) : Sm k (N / gcdI N D) (D / gcdI N D) := by
  obtain ⟨lo, _, e1, e2⟩ := low_of (a := N) h
  have := lo.pos
  exact ⟨Nat.lt_of_le_of_lt e1 s.1, Nat.lt_of_le_of_lt (by omega) s.2⟩
section
variable {p q p' q' : Int} {k m : Nat}
theorem Sm.addN (s : Sm k p q) (s' : Sm m p' q') : Sm (k + m + 1) (p * q' + p' * q) (q * q') := by
  have h1 := mul_lt k m s.1 s'.2
  have h2 := mul_lt m k s'.1 s.2
  have h3 := mul_lt k m s.2 s'.2
  rw [Nat.add_comm m k] at h2
  have e : 2 ^ (k + m + 1) = 2 ^ (k + m) * 2 := Nat.pow_succ ..
  refine ⟨?_, ?_⟩ <;> rw [e] <;> omega
theorem Sm.subN (s : Sm k p q) (s' : Sm m p' q') : Sm (k + m + 1) (p * q' - p' * q) (q * q') := by
  have h1 := mul_lt k m s.1 s'.2
  have h2 := mul_lt m k s'.1 s.2
  have h3 := mul_lt k m s.2 s'.2
  rw [Nat.add_comm m k] at h2
  have e : 2 ^ (k + m + 1) = 2 ^ (k + m) * 2 := Nat.pow_succ ..
  refine ⟨?_, ?_⟩ <;> rw [e] <;> omega
theorem Sm.mulN (s : Sm k p q) (s' : Sm m p' q') : Sm (k + m + 1) (p * p') (q * q') := by
  have h1 := mul_lt k m s.1 s'.1
  have h3 := mul_lt k m s.2 s'.2
  have e : 2 ^ (k + m + 1) = 2 ^ (k + m) * 2 := Nat.pow_succ ..
  refine ⟨?_, ?_⟩ <;> rw [e] <;> omega
end
/-- a ratio of the value N / D, of at most k bits -/
def RV (C : Addr) (H : Hp) (v : V) (N D : Int) (k : Nat) : Prop := ∃ p q, IsR C H v p q ∧ Val p q N D ∧ Sm k p q
theorem RV.up {C : Addr} {H H' : Hp} {v : V} {N D : Int} {k : Nat} (r : RV C H v N D k) (g : Gr H H') : RV C H' v N D k := let ⟨p, q, i, z⟩ := r; ⟨p, q, i.up g, z⟩
/-! ### the text of pairs -/
theorem num_short' {n : Int} {k : Nat} (hk : 0 < k) (h : n.natAbs < 10 ^ k) : (Str.ofString (toString n)).length ≤ k + 1 := by
  have el : (Str.ofString (toString n)).length = (Str.ofString (toString n)).cps.toList.length := by simp [Str.length]
  rw [el, num_list, List.length_append, List.length_map]
  have := (Nat.length_toDigits_le_iff (b := 10) (n := n.natAbs) (k := k) (by decide) hk).mpr h
  have h2 : (if n < 0 then [45] else ([] : List Nat)).length ≤ 1 := by by_cases q : n < 0 <;> simp [q]
  omega
def Few (k : Nat) (l : List (Int × Int)) : Prop := ∀ z ∈ l, z.1.natAbs < 10 ^ k ∧ z.2.natAbs < 10 ^ k
theorem pd_len {p q : Int} {k : Nat} (hk : 0 < k) (h1 : p.natAbs < 10 ^ k) (h2 : q.natAbs < 10 ^ k) : (pd p q).shown.length ≤ 2 * k + 9 := by
  have a := num_short' hk h1
  have b := num_short' hk h2
  have c := tupleText_len_le [Str.ofString (toString p), Str.ofString (toString q)]
  show (tupleText [Str.ofString (toString p), Str.ofString (toString q)]).length ≤ _
  simp only [List.map_cons, List.map_nil, List.sum_cons, List.sum_nil, List.length_cons, List.length_nil] at c
  omega
theorem pds_sum {k : Nat} (hk : 0 < k) : ∀ (l : List (Int × Int)), Few k l → ((PyData.shownAll (pds l)).map (·.length)).sum ≤ l.length * (2 * k + 9) ∧ (PyData.shownAll (pds l)).length = l.length
  | [], _ => ⟨by simp [pds, PyData.shownAll], by simp [pds, PyData.shownAll]⟩
  | (p, q) :: r, h => by
    obtain ⟨h1, h2⟩ := pds_sum hk r fun z hz => h z (List.mem_cons_of_mem _ hz)
    have h0 := h (p, q) (List.mem_cons_self ..)
    have e : PyData.shownAll (pds ((p, q) :: r)) = (pd p q).shown :: PyData.shownAll (pds r) := rfl
    rw [e]
    have hpl : (pd p q).shown.length ≤ 2 * k + 9 := pd_len hk h0.1 h0.2
    simp only [List.map_cons, List.sum_cons, List.length_cons]
    refine ⟨?_, by omega⟩
    rw [Nat.succ_mul]
    omega
theorem pds_len {k : Nat} {l : List (Int × Int)} (hk : 0 < k) (h : Few k l) : (PyData.list (pds l)).shown.length ≤ l.length * (2 * k + 11) + 3 := by
  obtain ⟨h1, h2⟩ := pds_sum hk l h
  have c := listText_len_le (PyData.shownAll (pds l))
  show (listText (PyData.shownAll (pds l))).length ≤ _
  rw [h2] at c
  have : l.length * (2 * k + 11) = l.length * (2 * k + 9) + l.length * 2 := by rw [← Nat.mul_add]
  omega
theorem pd_show {p q : Int} (h1 : p.natAbs.log2 < 1920) (h2 : q.natAbs.log2 < 1920) : (pd p q).showable = true := by
  show (decide _ && (decide _ && true)) = true
  rw [decide_eq_true h1, decide_eq_true h2]
  rfl
theorem pds_show : ∀ {l : List (Int × Int)}, (∀ z ∈ l, z.1.natAbs.log2 < 1920 ∧ z.2.natAbs.log2 < 1920) → PyData.showableAll (pds l) = true
  | [], _ => rfl
  | (p, q) :: r, h => by
    have h0 := h (p, q) (List.mem_cons_self ..)
    have h1 := pds_show fun z hz => h z (List.mem_cons_of_mem _ hz)
    show ((pd p q).showable && PyData.showableAll (pds r)) = true
    rw [pd_show h0.1 h0.2, h1]
    rfl
section
variable {H H' : Hp} {F M M' : List (Addr × HO)} {d : Addr} {o : HO} {D : List Addr}
theorem At.keep1 (L : At H [d] F M H') : ∀ b u, H b = some u → b ≠ d → H' b = some u := fun b u e n => L.fr b u e (by simpa using n)
theorem one_dead (h : H d = some o) : ∀ e ∈ [d], ∃ u, H e = some u := fun e he => by
  obtain rfl := List.mem_singleton.mp he
  exact ⟨o, h⟩
theorem At.perm (L : At H D F M H') (p : M.Perm M') : At H D F M' H' := ⟨L.fr, L.fa, fun x hx => L.mu x (p.mem_iff.mpr hx), fun x hx => L.mf x (p.mem_iff.mpr hx), fun x hx => L.df x (p.mem_iff.mpr hx), (p.map _).nodup_iff.mp L.nd⟩
theorem rot3 {α : Type} {x y z : α} : [x, y, z].Perm [z, x, y] := ((List.Perm.swap z y []).cons x).trans (List.Perm.swap z x [y])
end
/-- a sum of fractions, step by step -/
def stepF (z : Int × Int) (y : Int × Int) : Int × Int := (z.1 * y.2 + y.1 * z.2, z.2 * y.2)
def sumF (l : List (Int × Int)) : Int × Int := l.foldl stepF (0, 1)
theorem sumF_take {l : List (Int × Int)} {i : Nat} {y : Int × Int} (h : l[i]? = some y) : sumF (l.take (i + 1)) = stepF (sumF (l.take i)) y := by
  unfold sumF
  rw [List.take_add_one, h, List.foldl_append]
  rfl
theorem idx_of {α β : Type} {P : α → β → Prop} : ∀ {xs : List α} {ls : List β}, PySem.Paired P xs ls → ∀ (i : Nat) (x : α) (z : β), xs[i]? = some x → ls[i]? = some z → P x z
  | _, _, .nil, i, x, z, h, _ => by simp at h
  | _, _, .cons h _, 0, x, z, h1, h2 => by
    obtain rfl := Option.some.inj h1
    obtain rfl := Option.some.inj h2
    exact h
  | _, _, .cons _ r, i + 1, x, z, h1, h2 => idx_of r i x z h1 h2
theorem str_ext {x y : Str} (h : x.cps.toList = y.cps.toList) : x = y := by
  cases x; cases y
  simp only at h
  rw [Array.ext' h]
theorem app_list (x y : Str) : (x ++ y).cps.toList = x.cps.toList ++ y.cps.toList := by rw [PySem.Str.cps_append, Array.toList_append]
theorem app_len (x y : Str) : (x ++ y).length = x.length + y.length := by
  show (x ++ y).cps.size = x.cps.size + y.cps.size
  rw [PySem.Str.cps_append, Array.size_append]
theorem e_app (x : Str) : Str.empty ++ x = x := str_ext (by rw [app_list]; rfl)
theorem abs_num (n : Int) : (Str.ofString (toString ((n.natAbs : Nat) : Int))).cps.toList = (Nat.toDigits 10 n.natAbs).map Char.toNat := by
  rw [num_list, if_neg (by omega)]
  rfl
theorem abs_neg {n : Int} (h : n < 0) : Str.ofString "-" ++ Str.ofString (toString ((n.natAbs : Nat) : Int)) = Str.ofString (toString n) := str_ext (by
  rw [app_list, abs_num, num_list, if_pos h]
  rfl)
theorem abs_pos {n : Int} (h : ¬ n < 0) : Str.ofString "" ++ Str.ofString (toString ((n.natAbs : Nat) : Int)) = Str.ofString (toString n) := str_ext (by
  rw [app_list, abs_num, num_list, if_neg h]
  rfl)
theorem join1 (x : Str) : Txt.join (Str.ofString "") [x] = x := by
  exact str_ext (by unfold Txt.join Builtin.Str.glued; simp)
theorem num_short {n : Int} (h : n.natAbs < 10 ^ 60) : (Str.ofString (toString n)).length ≤ 100 := by
  have el : (Str.ofString (toString n)).length = (Str.ofString (toString n)).cps.toList.length := by simp [Str.length]
  rw [el, num_list, List.length_append, List.length_map]
  have := (Nat.length_toDigits_le_iff (b := 10) (n := n.natAbs) (k := 60) (by decide) (by decide)).mpr h
  have h2 : (if n < 0 then [45] else ([] : List Nat)).length ≤ 1 := by by_cases q : n < 0 <;> simp [q]
  omega
def rtext (p q : Int) : Str := if q = 1 then Str.ofString (toString p) else Str.ofString (toString p) ++ Str.ofString "/" ++ Str.ofString (toString q)
end U
namespace NeW
open PySem PySem.Spec PySem.Calls PyProof.Rows PySem.W Builtin Builtin.Str
section
variable {prog : Program} {w : World} {A : Around} {E : Value → Shared → Prop} {s : Shared} {K : Frag} {x C f : Addr} {ox : Obj} {od : Option Obj}
theorem bool_own {L : Addr} {h₀ : Heap} {m : Str → Option Value} {Q : Value → Shared → Prop} (X : Fr h₀ L s.heap m) (X₀ : K.In h₀) (I : InstAt s.heap x ox C od) (hs : findIn K (.ref C) "__bool__" = some (some (.ref f))) (hf : isFn K (.ref f) = true)
    (h : wpAny (model prog w) A.in1.in1 (call (.ref f) [.ref x]) (PySem.W.BoolBack fun b s' => Q (.bool b) s') E s) : wpAny (model prog w) A (call (.type "bool") [.ref x]) Q E s := by
  refine callType_codes (T := "bool") (Bi := Builtin.«object.__init__») (Q₁ := fun r s₁ => ∃ b, r = .bool b ∧ Q r s₁) PySem.F.called_bool (PySem.F.typeCall_bool_1 _) PySem.F.entry_object_init ?_ ?_
  · refine codeAny_of_tree ?_
    show wpAny _ A.in1.in1 (do checkBuiltinCall "bool.__new__" ⟨[.type "bool", .ref x], []⟩; again (.builtin "bool.__new__" ⟨[.type "bool", .ref x], []⟩)) _ _ s
    refine wpAny_bind (wpAny_of_eq (PySem.F.newCall_bool_1 _) (wpAny_pure ⟨plainId_quiet (by decide +kernel) _, codeAny_builtin PySem.F.entry_bool_new ?_⟩))
    rw [Around.under_plainId (by decide +kernel) _]
    unfold Builtin.«bool.__new__»
    refine wpAny_bind (wpAny_pure ?_)
    refine wpAny_bind (wpAny_of_eq PySem.F.conv_sub_bool ?_)
    refine wpAny_bind (m := someArgs "bool" 0 1 _) (wpAny_pure ?_)
    refine wpAny_bind (m := truthy (.ref x)) (truthy_K X X₀ I hs hf (wpAny_mono h (fun r s₁ hr => ?_) fun _ _ y => y))
    cases r <;> first | exact hr.elim | exact wpAny_pure ⟨_, rfl, hr⟩
  · rintro obj s₁ ⟨b, rfl, hq⟩
    exact ⟨PySem.typeIs_bool _ _, PySem.F.args_object_init_2 _ _, object_init_meets PySem.F.called_bool.init.lookup PySem.F.called_bool.made (by decide) prog w A.in1 _ s₁ ⟨PySem.typeIs_bool _ _, rfl, hq⟩⟩
end
end NeW
namespace U
open PySem PySem.Spec PyProof.Rows L2
section
variable {X : Cx} {CX : CXT} {n : Nat} {C f : Addr} {fd : FuncData} {ps : List Str} {sp : Sp} {E : XK}
/-- bool(x) by x's own method -/
def uBoolO (C : Addr) (sp : Sp) (E : XK) : List V → Hp → VK → Prop := fun vs H Q => match vs with
  | [.ref a] => ∃ dx fs, H a = some (.ins C dx fs) ∧ sp [.ref a] H (fun v H' => (∃ y, v = .bl y) ∧ Q v H') E
  | _ => False
theorem caBoolO (m : Meth X.K C "__bool__" f) (F : FnOk X.prog X.w X.K X.mg X.base CX n f fd ps sp) (hr : Room (n + 2) X.A) (hb : Binds X.K fd ps []) (hx : Passes CX X E) : CallR X (.type "bool") (uBoolO C sp E) := by
  intro pins s σ H xs us Q I r h
  unfold uBoolO at h
  split at h
  · rename_i a
    obtain ⟨dx, fs, ha, hs⟩ := h
    obtain ⟨u, rfl, ru⟩ := vals1 r
    cases (show u = Value.ref a from ru)
    obtain ⟨mA, J, _⟩ := ins_get I.hok ha
    obtain ⟨od, J, _⟩ := J.look
    obtain ⟨m', hF⟩ := I.fr
    have hr2 : Room n X.A.in1.in1 := Room.in1 (Room.in1 hr)
    refine NeW.bool_own hF I.ok.mod.kin J m.at_ m.fn ?_
    refine wpAny_mono (run_here F hr2 rfl hb hx I (show Vals [V.ref a] [Value.ref a] from .cons rfl .nil) hs) (fun v s' q => ?_) fun _ _ z => z
    obtain ⟨x, H', I', rv, ⟨y, rfl⟩, q⟩ := q
    obtain rfl := (show v = Value.bool y from rv)
    exact ⟨.bl y, H', I', rfl, q⟩
  · exact h.elim
end
end U

/-! U12: texts of integers, read. -/
namespace U
open PySem PySem.Spec PyProof.Rows L2
open NumText
theorem len_list (x : Str) : x.length = x.cps.toList.length := by simp [Str.length]
theorem minus_len : (Str.ofString "-").length = 1 := by decide
theorem minus_cps : (Str.ofString "-").cps = #[45] := by decide
theorem sub_at0 (x : Str) : Builtin.Str.subAt x (Str.ofString "-") 0 = (match x.cps.toList with | c :: _ => decide (c = 45) | [] => false) := by
  unfold Builtin.Str.subAt
  rw [minus_len, minus_cps]
  rcases e : x.cps.toList with _ | ⟨c, r⟩
  · have : x.cps = #[] := by apply Array.ext'; rw [e]
    rw [this]
    rfl
  · have e2 : (x.cps.extract 0 (0 + 1)).toList = [c] := by
      rw [Array.toList_extract, List.extract_eq_take_drop, e]
      rfl
    have e3 : x.cps.extract 0 (0 + 1) = #[c] := by apply Array.ext'; rw [e2]
    rw [e3]
    by_cases h : c = 45
    · subst h; rfl
    · show (#[c] == #[45]) = decide (c = 45)
      rw [decide_eq_false h]
      simp [h]
/-- what stands behind a sign - -/
def behind : List Nat → List Nat
  | 45 :: r => r
  | l => l
theorem startswith_minus (x : Str) : Txt.startswith x (Str.ofString "-") = (match x.cps.toList with | c :: _ => decide (c = 45) | [] => false) := by
  unfold Txt.startswith
  rw [sub_at0, minus_len, len_list]
  rcases x.cps.toList with _ | ⟨c, r⟩
  · rfl
  · simp
theorem removeprefix_minus (x : Str) : (Txt.removeprefix x (Str.ofString "-")).cps.toList = behind x.cps.toList := by
  unfold Txt.removeprefix
  rw [sub_at0, minus_len]
  rcases e : x.cps.toList with _ | ⟨c, r⟩
  · exact e
  · by_cases h : c = 45
    · subst h
      simp only [decide_true, if_true]
      have hl : x.length = r.length + 1 := by rw [len_list, e]; rfl
      show (if (x.length - 1 == x.length) = true then x else Builtin.Str.strSub x 1 x.length).cps.toList = r
      rw [if_neg (by rw [hl]; simp), StrLaws.strSub_toList, e, hl]
      simp
    · simp only [h, decide_false, Bool.false_eq_true, if_false]
      show x.cps.toList = behind (c :: r)
      rw [e]
      unfold behind
      split
      · rename_i heq; cases heq; exact absurd rfl h
      · rfl
theorem ascii_digit : ∀ c : Nat, c < 128 → Unicode.isDigit c = decide (48 ≤ c ∧ c ≤ 57) := by decide +kernel
/-- nothing but figures -/
def Figs (l : List Nat) : Prop := (∀ c ∈ l, 48 ≤ c ∧ c ≤ 57) ∧ l ≠ []
theorem isascii_iff (x : Str) : Txt.isascii x = true ↔ ∀ c ∈ x.cps.toList, c < 128 := by
  unfold Txt.isascii
  rw [Array.all_eq_true_iff_forall_mem]
  simp
theorem isdigit_iff (x : Str) (h : ∀ c ∈ x.cps.toList, c < 128) : Txt.isdigit x = true ↔ Figs x.cps.toList := by
  unfold Txt.isdigit Figs
  rw [Bool.and_eq_true, Array.all_eq_true_iff_forall_mem, decide_eq_true_iff]
  rw [len_list]
  constructor
  · rintro ⟨h1, h2⟩
    refine ⟨fun c hc => ?_, fun e => by rw [e] at h1; exact absurd h1 (by decide)⟩
    have := h2 c (Array.mem_toList_iff.mp hc)
    rw [ascii_digit c (h c hc)] at this
    exact of_decide_eq_true this
  · rintro ⟨h1, h2⟩
    refine ⟨List.length_pos_iff.mpr h2, fun c hc => ?_⟩
    have hc' := Array.mem_toList_iff.mpr hc
    rw [ascii_digit c (h c hc')]
    exact decide_eq_true (h1 c hc')
/-- the text of an integer: its figures behind the sign -/
theorem num_figs (n : Int) : Figs (behind (Str.ofString (toString n)).cps.toList) ∧ behind (Str.ofString (toString n)).cps.toList = (Nat.toDigits 10 n.natAbs).map Char.toNat := by
  have e : behind (Str.ofString (toString n)).cps.toList = (Nat.toDigits 10 n.natAbs).map Char.toNat := by
    rw [num_list]
    by_cases h : n < 0
    · rw [if_pos h]
      rfl
    · rw [if_neg h, List.nil_append]
      unfold behind
      split
      · rename_i r heq
        have := digits_are n.natAbs 45 (by rw [heq]; exact List.mem_cons_self ..)
        omega
      · rfl
  refine ⟨?_, e⟩
  rw [e]
  refine ⟨digits_are _, fun z => ?_⟩
  have z2 := List.map_eq_nil_iff.mp z
  exact absurd z2 (Nat.toDigits_ne_nil)
theorem foldl_lt : ∀ (l : List Nat) (a : Nat), (∀ c ∈ l, 48 ≤ c ∧ c ≤ 57) → l.foldl (fun acc c => acc * 10 + (c - 48)) a < (a + 1) * 10 ^ l.length
  | [], a, _ => by simp
  | c :: r, a, h => by
    have h1 := foldl_lt r (a * 10 + (c - 48)) fun d hd => h d (List.mem_cons_of_mem _ hd)
    have h2 := h c (List.mem_cons_self ..)
    rw [List.foldl_cons, List.length_cons, Nat.pow_succ]
    refine Nat.lt_of_lt_of_le h1 ?_
    have h3 : (a * 10 + (c - 48) + 1) * 10 ^ r.length ≤ ((a + 1) * 10) * 10 ^ r.length := Nat.mul_le_mul_right _ (by omega)
    have h4 : ((a + 1) * 10) * 10 ^ r.length = (a + 1) * (10 ^ r.length * 10) := by rw [Nat.mul_assoc, Nat.mul_comm 10]
    omega
theorem digitsVal_lt {l : List Nat} (h : ∀ c ∈ l, 48 ≤ c ∧ c ≤ 57) : digitsVal l < 10 ^ l.length := by
  have := foldl_lt l 0 h
  simpa [digitsVal] using this
/-- what int reads behind a sign - of figures -/
theorem int_of_figs {x : Str} (h : Figs (behind x.cps.toList)) (hl : (behind x.cps.toList).length ≤ 60) : ∃ m : Int, intText? x = some m ∧ m.natAbs < 10 ^ 60 := by
  have up : ∀ l : List Nat, (∀ c ∈ l, 48 ≤ c ∧ c ≤ 57) → l.length ≤ 60 → digitsVal l < 10 ^ 60 := fun l h1 h2 =>
    Nat.lt_of_lt_of_le (digitsVal_lt h1) (Nat.pow_le_pow_right (by decide) h2)
  have hx : x.length = x.cps.toList.length := by simp [Str.length]
  rcases e : x.cps.toList with _ | ⟨c, r⟩
  · rw [e] at h; exact absurd rfl h.2
  · by_cases h45 : c = 45
    · subst h45
      rw [e] at h hl
      refine ⟨_, intText_neg e h.1 h.2 (by rw [hx, e]; show r.length + 1 ≤ _; have : r.length ≤ 60 := hl; omega), ?_⟩
      rw [Int.natAbs_neg, Int.natAbs_natCast]
      exact up r h.1 hl
    · have eb : behind (c :: r) = c :: r := by
        unfold behind
        split
        · rename_i heq; cases heq; exact absurd rfl h45
        · rfl
      rw [e, eb] at h hl
      refine ⟨_, intText_digits (by rw [e]; exact h.1) (by rw [e]; exact h.2) (by rw [hx, e]; omega), ?_⟩
      rw [Int.natAbs_natCast, e]
      exact up _ h.1 hl
/-- int behind str -/
theorem intText_num {n : Int} (h : n.natAbs < 10 ^ 60) : intText? (Str.ofString (toString n)) = some n := by
  have hl : ((Nat.toDigits 10 n.natAbs).map Char.toNat).length ≤ 60 := by
    rw [List.length_map]
    exact (Nat.length_toDigits_le_iff (b := 10) (n := n.natAbs) (k := 60) (by decide) (by decide)).mpr h
  have hne : ((Nat.toDigits 10 n.natAbs).map Char.toNat) ≠ [] := fun z => Nat.toDigits_ne_nil (List.map_eq_nil_iff.mp z)
  have hx : ∀ x : Str, x.length = x.cps.toList.length := fun x => by simp [Str.length]
  have e := num_list n
  by_cases h0 : n < 0
  · rw [if_pos h0] at e
    have e' : (Str.ofString (toString n)).cps.toList = 45 :: (Nat.toDigits 10 n.natAbs).map Char.toNat := e
    rw [intText_neg e' (digits_are _) hne (by rw [hx, e]; simp only [List.length_append, List.length_cons, List.length_nil]; omega), PySem.W.KIN.val_back]
    congr 1
    omega
  · rw [if_neg h0, List.nil_append] at e
    rw [intText_digits (by rw [e]; exact digits_are _) (by rw [e]; exact hne) (by rw [hx, e]; omega), e, PySem.W.KIN.val_back]
    congr 1
    omega
/-- a text cut at its first sign / -/
theorem cut_slash (x : Str) : (47 ∉ x.cps.toList ∧ Txt.partition x (Str.ofString "/") = (x, Str.empty, Str.empty)) ∨
    (∃ a b : Str, 47 ∉ a.cps.toList ∧ x = a ++ Str.ofString "/" ++ b ∧ Txt.partition x (Str.ofString "/") = (a, Str.ofString "/", b)) := by
  have ey : TL.tl (Str.ofString "/") = 47 :: [] := by decide
  by_cases h : 47 ∈ x.cps.toList
  · obtain ⟨s, t, e, hs⟩ := List.append_of_mem h |> fun ⟨s, t, e⟩ => (show ∃ s t, x.cps.toList = s ++ 47 :: t ∧ 47 ∉ s from by
      clear e
      generalize x.cps.toList = l at h
      induction l with
      | nil => cases h
      | cons c r ih =>
        by_cases hc : c = 47
        · subst hc; exact ⟨[], r, rfl, by simp⟩
        · rcases List.mem_cons.mp h with z | z
          · exact absurd z.symm hc
          · obtain ⟨s, t, e, hs⟩ := ih z
            exact ⟨c :: s, t, by rw [e]; rfl, fun z => by rcases List.mem_cons.mp z with z | z; exact hc z.symm; exact hs z⟩)
    have ex : x = (⟨s.toArray⟩ : Str) ++ Str.ofString "/" ++ (⟨t.toArray⟩ : Str) := str_ext (by
      rw [app_list, app_list, e, show (Str.ofString "/").cps.toList = [47] by decide]
      simp)
    refine .inr ⟨⟨s.toArray⟩, ⟨t.toArray⟩, hs, ex, ?_⟩
    rw [ex]
    exact TL.partition_app ey hs
  · exact .inl ⟨h, TL.partition_none ey h⟩
theorem num_inj {m n : Int} (h1 : m.natAbs < 10 ^ 60) (h2 : n.natAbs < 10 ^ 60) (h : Str.ofString (toString m) = Str.ofString (toString n)) : m = n := by
  have e := intText_num h1
  rw [h, intText_num h2] at e
  exact (Option.some.inj e).symm
theorem num_no47 (n : Int) : 47 ∉ (Str.ofString (toString n)).cps.toList := fun h => by
  rw [num_list] at h
  rcases List.mem_append.mp h with h | h
  · by_cases q : n < 0
    · rw [if_pos q] at h; simp at h
    · rw [if_neg q] at h; cases h
  · have := digits_are n.natAbs 47 h
    omega
theorem cut_eq {a b c d : Str} (ha : 47 ∉ a.cps.toList) (hc : 47 ∉ c.cps.toList) (h : a ++ Str.ofString "/" ++ b = c ++ Str.ofString "/" ++ d) : a = c ∧ b = d := by
  have ey : TL.tl (Str.ofString "/") = 47 :: [] := by decide
  have h1 := TL.partition_app (b := b) ey ha
  rw [h, TL.partition_app ey hc] at h1
  exact ⟨(congrArg (·.1) h1).symm, (congrArg (·.2.2) h1).symm⟩
theorem cut_no {a b x : Str} (hx : 47 ∉ x.cps.toList) : x ≠ a ++ Str.ofString "/" ++ b := fun h => hx (by
  rw [h, app_list, app_list]
  exact List.mem_append_left _ (List.mem_append_right _ (by decide)))
/-- what int_in tells of a text: the number of which it is the text -/
def IsNum (x : Str) (n : Int) : Prop := n.natAbs < 10 ^ 60 ∧ x = Str.ofString (toString n)
theorem num_figs' {n : Int} (h : n.natAbs < 10 ^ 60) : Txt.isascii (Txt.removeprefix (Str.ofString (toString n)) (Str.ofString "-")) = true ∧ Txt.isdigit (Txt.removeprefix (Str.ofString (toString n)) (Str.ofString "-")) = true ∧ (Txt.removeprefix (Str.ofString (toString n)) (Str.ofString "-")).length ≤ 60 := by
  have e := removeprefix_minus (Str.ofString (toString n))
  obtain ⟨f, g⟩ := num_figs n
  have ha : Txt.isascii (Txt.removeprefix (Str.ofString (toString n)) (Str.ofString "-")) = true := (isascii_iff _).mpr (by
    rw [e]; intro c hc; have := f.1 c hc; omega)
  refine ⟨ha, (isdigit_iff _ ((isascii_iff _).mp ha)).mpr (by rw [e]; exact f), ?_⟩
  rw [len_list, e, g, List.length_map]
  exact (Nat.length_toDigits_le_iff (b := 10) (n := n.natAbs) (k := 60) (by decide) (by decide)).mpr h
section
variable {X : Cx}
/-- int, also of a text -/
def uIntT (vs : List V) (H : Hp) (Q : VK) : Prop := match vs with | [.str a] => ∃ n, intText? a = some n ∧ a.length ≤ 640 ∧ Q (.int n) H | _ => uInt vs H Q
theorem caIntT : CallR X (.type "int") uIntT := fun p s z H xs us Q I r h => by
  unfold uIntT at h
  split at h
  · obtain ⟨n, h1, h2, q⟩ := h
    exact call_int_str p s z H _ us Q I r ⟨_, n, rfl, h1, h2, q⟩
  · exact caInt p s z H _ us Q I r h
end
end U

/-! U13: exceptions that are caught by their classes, lambdas handed to a def, defs whose code object is known. -/
namespace U
open PySem PySem.Spec PyProof.Rows L2 LamX
/-- a def of the text whose code object is known -/
structure FunC (K : PySem.W.Frag) (nm qual : Str) (st : Stmt) (f : Addr) (fd : FuncData) (c : Addr) : Prop where
  ex : ∃ (oc : Value) (od : Option Addr) (kV doc pm : Value) (an : Option Addr) (ct : Value) (osl : Array (Option Value)), fd = PySem.W.fnOf nm qual (defArgs st) (defBody st) (defScope st) .none kV doc pm an (.ref c) ct ∧ K.lookup f = some ⟨oc, od, .func fd, osl⟩ ∧ PySem.W.codeIn K (.ref c) qual = true
section
variable {P : Program} {w : World} {K : PySem.W.Frag} {mg : Str → Option Value} {base : Heap} {CX : CXT} {k : Nat} {f c : Addr} {fd : FuncData} {ps N : List Str} {sp : Sp} {st : Stmt} {nm qual : Str}
theorem okC (F : FunC K nm qual st f fd c) (S : FnScope N ps (defScope st)) (len : ∀ vs H Q E, sp vs H Q E → vs.length = ps.length)
    (body : ∀ (A : Around) (outer : List Env) (s : Shared) (H : Hp) (vs : List V) (Q : VK) (E : XK), Room k (A.deeper (envOfC qual (defScope st) s.heap.objs.size f (.ref c))) → sp vs H Q E →
      ∃ t, PSs (cxOf CX P w K mg base N qual (defScope st) f (.ref c) A outer s H E).nox (defBody st) t ∧ t { nx := fun _ H' => Q .non H', rt := Q } (start N vs) H) : FnOk P w K mg base CX (k + 1) f fd ps sp := by
  obtain ⟨oc, od, kV, doc, pm, an, ct, osl, rfl, lk, hcd⟩ := F.ex
  exact ⟨len, fun A outer s H args us vs Q E hr e0 hb r h => run_ofS lk hcd S hr e0 hb r (len _ _ _ _ h) fun hr' => let ⟨t, ht, hq⟩ := body A outer s H vs Q E hr' h; ⟨t, ht.nox, hq⟩⟩
end
section
variable {X : Cx}
/-- x(lambda: body), x a def of the text -/
theorem peLam {T : List (Addr × Str)} {TT : (XK → Hp → VK → Prop) → Hp → VK → Prop} {x a : Str} {g c P : Addr} {k : Nat} {st : Stmt} {fd : FuncData} {Ng : List Str} {params : Arguments} {body : Expr} {scope : Scope} {t : XK → TE} {p lpos pos : Pos}
    (F : Fun X.K x x st g fd) (hm : X.mg x = some (.ref g)) (hb : Binds X.K fd [a] []) (Sg : FnScope Ng [a] (defScope st))
    (hG : ∀ cdg : Value, GivesTo X Ng x (defScope st) g cdg (defBody st) a (X.env.qual ++ "<lambda>") TT)
    (TB : TabB X.base X.mg c P) (hcode : X.env.code = .ref c) (hmT : (P, X.env.qual ++ "<lambda>") ∈ T) (hu : ∀ q ∈ T, q.1 = P → q.2 = X.env.qual ++ "<lambda>") (hr : Room (k + 2) X.A)
    (hbody : ∀ (A : Around) (outer : List Env) (s : Shared) (H : Hp) (E : XK) (f c' : Addr), Room k (A.deeper (lamEnv X scope s.heap.objs.size f c')) → PE (lamCx X A outer s H E scope f c') body (t E))
    (hg : Gl X x := by rfl) (hN : Ng[0]? = some a := by rfl) (hva : Vis (defScope st) a := by first | exact Or.inl rfl | exact Or.inr (Or.inl rfl)) (L : LamS X.env.scope scope := by exact LamX.lamS_by (by decide +kernel)) (hdef : defaultsOf params X.env = ([], []) := by rfl)
    (hbind : ∀ (q : Str) (cl : List (Str × Addr)) (pm cv ctv : Value), bindArgs (PySem.W.kla_fn "<lambda>" q params body scope cl pm cv ctv) ⟨[], []⟩ = pure [] := by (intros; rfl))
    (hdb : (x == ("__debug__" : Str)) = false := by decide) (hd : (a == ("__debug__" : Str)) = false := by decide) (hcd : (a == ("__classdict__" : Str)) = false := by decide) :
    PE X (.Call (.Name x p) [.Lambda params body scope lpos] [] pos) (tLam T TT t) := by
  have hk := F.kp
  obtain ⟨oc, od, kV, doc, pm, an, cdv, ct, osl, rfl, lk, hcg⟩ := F.ex
  exact pe_lamcall hg hm hk lk hcg hb Sg hN hva (hG cdv) TB hcode hmT hu hr L hdef hbind hbody hdb hd hcd
/-- what is made of a lambda: try: return a().pair, and two clauses, each with a text -/
def TTpair (K : PySem.W.Frag) (C : Addr) (sp : Sp) (C1 C2 : Addr) (w1 w2 : Str) : (XK → Hp → VK → Prop) → Hp → VK → Prop := fun tl H Q =>
  tl (fun cls _ H' => ∃ b, PySem.W.exmOne K cls (.ref C1) = some b ∧ (b = true → Q (.str w1) H') ∧ (b = false → ∃ b', PySem.W.exmOne K cls (.ref C2) = some b' ∧ (b' = true → Q (.str w2) H') ∧ (b' = false → False))) H
    fun x H1 => ∃ b dx fs, x = .ref b ∧ H1 b = some (.ins C dx fs) ∧ sp [.ref b] H1 Q E0
theorem told_pair {Ng : List Str} {x a e1 e2 q w1 w2 f : Str} {sg : Scope} {g C C1 C2 pa ga : Addr} {fdp : FuncData} {psp : List Str} {sp : Sp} {cdg : Value} {i j k : Nat} {p1 p2 p3 p4 p5 p6 p7 p8 p9 pb pc pd pe : Pos}
    (c : Cls X.K C) (hp : PropOf X.K C f pa ga) (F : FnOk X.prog X.w X.K X.mg X.base CX0 k ga fdp psp sp) (hr : Room (k + 2) X.A) (hb : Binds X.K fdp psp [])
    (g1 : sg.names.lookup e1 = some .globalImplicit) (m1 : X.mg e1 = some (.ref C1)) (g2 : sg.names.lookup e2 = some .globalImplicit) (m2 : X.mg e2 = some (.ref C2)) (d1 : (e1 == ("__debug__" : Str)) = false) (d2 : (e2 == ("__debug__" : Str)) = false)
    (hab : ∀ env : Env, attributeBase (.Call (.Name a p1) [] [] p2) f env (eval (.Call (.Name a p1) [] [] p2) env) = eval (.Call (.Name a p1) [] [] p2) env)
    (h0 : ∀ z : Addr, (L2.start Ng [V.ref z])[0]? = some (some (V.ref z))) :
    GivesTo X Ng x sg g cdg [.Try [.Return (some (.Attribute (.Call (.Name a p1) [] [] p2) f p9)) p3] [.ExceptHandler (some (.Name e1 p4)) none [.Return (some (.Constant (.str w1) i p5)) p6] p7, .ExceptHandler (some (.Name e2 pb)) none [.Return (some (.Constant (.str w2) j pc)) pd] pe] [] [] p8] a q (TTpair X.K C sp C1 C2 w1 w2) := by
  intro fl c' s H Q tl act hc h
  let Z : Cx := (cxOf C8.CX0 X.prog X.w X.K X.mg X.base Ng x sg g cdg X.A X.stack s H C8.E0).nox
  have n1 : Names Z e1 (.ref C1) := ⟨g1, d1, .inl m1⟩
  have n2 : Names Z e2 (.ref C2) := ⟨g2, d2, .inl m2⟩
  have hz : Room (k + 1) Z.A := hr.deeper _
  have T0 : Takes Z (fun _ _ _ _ => False) := takes_none5
  have suites : HdsOk Z [.ExceptHandler (some (.Name e1 p4)) none [.Return (some (.Constant (.str w1) i p5)) p6] p7, .ExceptHandler (some (.Name e2 pb)) none [.Return (some (.Constant (.str w2) j pc)) pd] pe]
      [(.ref C1, fun _ _ _ => tRet (tC (.str w1))), (.ref C2, fun _ _ _ => tRet (tC (.str w2)))] :=
    .cons n1 (fun _ _ _ _ _ _ _ => pss_one (ps_ret pe_str)) (.cons n2 (fun _ _ _ _ _ _ _ => pss_one (ps_ret pe_str)) .nil)
  refine ⟨_, pss_one (ps_try_many (X := Z) (tb := fun W D σ H => ∃ Ech : XK, (∀ cls d σ' H', Ech cls d H' → W cls d σ' H') ∧ σ[0]? = some (some (.ref fl)) ∧ H c' = some (CodeO c' q) ∧ tl Ech H fun y H1 => ∃ b dx fs, y = .ref b ∧ H1 b = some (.ins C dx fs) ∧ sp [.ref b] H1 D.rt E0)
    rfl rfl T0 (fun W pn xe tk _ => ?_) suites), ?_⟩
  · refine ⟨fun pins s' σ H' D I h' => ?_⟩
    obtain ⟨Ech, hW, h1, h2, h3⟩ := h'
    have act1 := act W pn xe Ech p1 p2 tk hW
    have whole := pss_one (ps_ret (pos := p3) (pe_prop (f := f) (pos := p9) act1 c hp F hz hb .nil pass0 (hab _)))
    exact whole.run pins s' σ H' D I ⟨h1, h2, h3⟩
  · refine ⟨_, fun cls d σ' H' hh => ?_, h0 fl, hc, h⟩
    obtain ⟨b, e, y1, y2⟩ := hh
    refine ⟨b, e, fun z _ _ => y1 z, fun z => ?_⟩
    obtain ⟨b', e', z1, z2⟩ := y2 z
    exact ⟨b', e', fun z _ _ => z1 z, fun z => z2 z⟩
end
/-- does a clause that names B take an error of the class A? -/
theorem exm_of {K : PySem.W.Frag} {A B : Addr} {b : Bool} (h1 : PySem.W.subIn K (.ref B) (.type "BaseException") = some true) (h2 : PySem.W.isClsIn K B = true) (h3 : PySem.W.typeIn K (.ref B) = some (.type "type")) (h4 : PySem.W.subIn K (.ref A) (.ref B) = some b) : PySem.W.exmOne K (.ref A) (.ref B) = some b := by
  have h2' : (PySem.W.clsIn K B).isSome = true := h2
  unfold PySem.W.exmOne
  rw [h1, if_pos (beq_self_eq_true _)]
  show (if ((PySem.W.clsIn K B).isSome && PySem.W.typeIn K (.ref B) == some (.type "type")) = true then _ else _) = _
  rw [h2', h3, if_pos (by rfl)]
  exact h4
theorem look_none {l : PySem.W.Frag} {a : Addr} (h : a ∉ l.map (·.1)) : l.lookup a = none := by
  induction l with
  | nil => rfl
  | cons p r ih =>
    obtain ⟨b, o⟩ := p
    rw [List.map_cons, List.mem_cons, not_or] at h
    rw [List.lookup_cons, show (a == b) = false from beq_eq_false_iff_ne.mpr h.1]
    exact ih h.2
open PySem.W in
/-- the end of a law whose defs make lambdas -/
theorem walkT {l : OpenLaw} {n k : Nat} {q : Program} {loose : List Str} {XP : (Str → Option Value) → Heap → Prop} {d : DefRec} {K : Params → Frag} {as ts : List Addr} {e : ∀ P, as = (K P).map (·.1)} {x : Str}
    (hn : l.most = some n) (hn2 : n ≤ sizeLine) (hdf : d.params.defaults = []) (hr : Room k callerA)
    (F : ∀ (w : World) (mg : Str → Option Value) (fa : Addr) (h : Heap), (K w.params).In h → h.Ns mainGlobals mg → mg d.name = some (.ref fa) →
      ∃ (fd : FuncData) (cs : List (Addr × Addr)) (sp : Sp), (∀ p ∈ cs, p.2 ∈ ts ∧ p.2 ∉ as) ∧ (∀ p ∈ cs, codeHdIn (K w.params) p.1 p.2 = true) ∧ (∀ (s : Shared) (u : Value), BindsTo s fd ⟨[u], []⟩ [(x, u)]) ∧
        (∀ (H : Hp) (a : Addr) (ns : List Int), ns.length ≤ n → (∀ z ∈ ns, Builtin.Int.intBits z ≤ 1048576) → (∀ p ∈ cs, H p.2 = some (.tbl #[])) → SqL (K w.params) H a (ns.map V.int) → sp [.ref a] H (fun v _ => v = .bl true) fun _ _ _ => False) ∧
        ∀ base : Heap, (K w.params).In base → base.Ns mainGlobals mg → (∀ p ∈ cs, TabB base mg p.1 p.2) → FnOk l.prog w (K w.params) mg base CX0 k fa fd [x] sp) :
    WalkO q loose XP (kmHook K as e ts).says l.row.toRowW d [] (fun f vs => PySem.call f vs) := by
  refine walk_ofTs (n := n) (k := k) (x := x) (CX := fun _ => CX0) hn hn2 hdf hr (fun w h Y => km_in_of Y) (fun w mg fa h Y KX G hm => ?_) (fun _ _ _ _ _ z => z)
  obtain ⟨fd, cs, sp, h1, h2, h3, h4, h5⟩ := F w mg fa h KX G hm
  refine ⟨fd, cs, sp, fun p hp => km_tabs_of Y p.2 (h1 p hp).1, fun p hp => look_none ?_, fun p hp => codeHd_of_K KX (h2 p hp), h3, h4, h5⟩
  rw [← e w.params]
  exact (h1 p hp).2
theorem kit_blt {K : PySem.W.Frag} {D : Addr} {T : String} {b : Bool} (hm : PySem.W.kitMeta T = true) (h : PySem.W.subIn K (.ref D) (.type T) = some b) : PySem.W.kitOne K (.ref D) (.type T) = some b := by
  unfold PySem.W.kitOne
  rw [if_neg (by intro z; cases z)]
  show (if PySem.W.kitMeta T = true then PySem.W.subIn K (.ref D) (.type T) else none) = _
  rw [if_pos hm]
  exact h
/-- a value of a built-in kind, or a ratio -/
def Ob (K : PySem.W.Frag) (C : Addr) (H : Hp) (v : V) : Prop := (∃ S, Kd K H v S) ∨ ∃ p q, IsR C H v p q
section
variable {K : PySem.W.Frag} {C : Addr} {H H' : Hp} {v : V} {S : String}
theorem tyx_up {t : Value} (h : TyX K H v t) (g : Gr H H') : TyX K H' v t := by
  cases h with
  | base b =>
    refine .base ?_
    cases b with
    | non => exact .non
    | bl x => exact .bl x
    | int x => exact .int x
    | str x => exact .str x
    | flt x => exact .flt x
    | lst e => exact .lst (g _ _ e)
    | frz e => exact .frz (g _ _ e)
    | tup e => exact .tup (g _ _ e)
    | dK e => exact .dK (g _ _ e)
    | dT e => exact .dT (g _ _ e)
    | ins e c1 c2 c3 c4 c5 => exact .ins (g _ _ e) c1 c2 c3 c4 c5
  | byt b => exact .byt b
  | set e => exact .set (g _ _ e)
  | kList e c => exact .kList e c
  | kTuple e c => exact .kTuple e c
  | kDict e c => exact .kDict e c
  | fTuple e => exact .fTuple (g _ _ e)
  | fDict e => exact .fDict (g _ _ e)
theorem Kd.up (h : Kd K H v S) (g : Gr H H') : Kd K H' v S := ⟨tyx_up h.1 g, h.2⟩
theorem Ob.up (h : Ob K C H v) (g : Gr H H') : Ob K C H' v := by
  rcases h with ⟨S, h⟩ | ⟨p, q, h⟩
  · exact .inl ⟨S, h.up g⟩
  · exact .inr ⟨p, q, h.up g⟩
end
end U

/-! U14: which texts are those of integers and of ratios. -/
namespace U
open PySem PySem.Spec PyProof.Rows L2
open NumText
theorem cut_from (z : Str) (k : Nat) : (cutS z (some (k : Int)) none).cps.toList = z.cps.toList.drop k := by
  have hl : z.length = z.cps.toList.length := by simp [Str.length]
  unfold cutS HT.sIx
  simp only [hl]
  rw [if_neg (by omega)]
  by_cases h : k ≤ z.cps.toList.length
  · rw [show min (k : Int).toNat z.cps.toList.length = k by omega]
    rw [List.take_of_length_le (by rw [List.length_drop]; omega)]
  · rw [show min (k : Int).toNat z.cps.toList.length = z.cps.toList.length by omega]
    rw [List.drop_eq_nil_of_le (Nat.le_refl _), List.drop_eq_nil_of_le (by omega)]
    simp
theorem cut_to (z : Str) (k : Nat) : (cutS z none (some (k : Int))).cps.toList = z.cps.toList.take k := by
  have hl : z.length = z.cps.toList.length := by simp [Str.length]
  unfold cutS HT.sIx
  simp only [hl]
  rw [if_neg (by omega)]
  by_cases h : k ≤ z.cps.toList.length
  · rw [show min (k : Int).toNat z.cps.toList.length = k by omega]
    simp
  · rw [show min (k : Int).toNat z.cps.toList.length = z.cps.toList.length by omega]
    have e1 : z.cps.toList.take k = z.cps.toList := List.take_of_length_le (by omega)
    rw [e1, List.drop_zero, Nat.sub_zero, List.take_length]
theorem canon (l : List Nat) : (∀ c ∈ l, 48 ≤ c ∧ c ≤ 57) → l ≠ [] → l.head? ≠ some 48 → TL.numL (digitsVal l) = l := by
  induction h : l.length generalizing l with
  | zero => intro _ n _; exact absurd (List.length_eq_zero_iff.mp h) n
  | succ k ih =>
    intro hd hn hh
    obtain ⟨r, c, rfl⟩ : ∃ r c, l = r ++ [c] := ⟨l.dropLast, l.getLast hn, (List.dropLast_concat_getLast hn).symm⟩
    have hc := hd c (by simp)
    have ed : digitsVal (r ++ [c]) = digitsVal r * 10 + (c - 48) := by
      unfold digitsVal
      rw [List.foldl_append]
      rfl
    rw [ed]
    by_cases e : r = []
    · subst e
      have e0 : digitsVal [] = 0 := rfl
      rw [e0, TL.numL_lt (by omega), show 48 + (0 * 10 + (c - 48)) = c by omega]
      rfl
    · have hr : r.head? ≠ some 48 := by
        intro z
        apply hh
        rw [List.head?_append, z]
        rfl
      have ih := ih r (by simp at h; exact h) (fun d hdm => hd d (by simp [hdm])) e hr
      have h1 : digitsVal r ≠ 0 := by
        intro z
        rw [z, TL.numL_lt (by decide)] at ih
        rw [← ih] at hr
        exact hr rfl
      rw [TL.numL_step (by omega), show (digitsVal r * 10 + (c - 48)) / 10 = digitsVal r by omega, ih, show 48 + (digitsVal r * 10 + (c - 48)) % 10 = c by omega]
theorem numL_head (n : Nat) : n ≠ 0 → (TL.numL n).head? ≠ some 48 := by
  induction n using Nat.strongRecOn with
  | _ n ih =>
    intro h0
    by_cases h : n < 10
    · rw [TL.numL_lt h]
      intro z
      have := Option.some.inj z
      omega
    · rw [TL.numL_step (by omega)]
      have := ih (n / 10) (by omega) (by omega)
      intro z
      apply this
      rw [List.head?_append] at z
      rcases e : TL.numL (n / 10) with _ | ⟨c, r⟩
      · exact absurd e (TL.numL_ne _)
      · rw [e] at z
        exact z
/-- the text of an integer of at most sixty figures -/
def numB (x : Str) : Prop := Figs (behind x.cps.toList) ∧ (behind x.cps.toList).length ≤ 60 ∧ ((behind x.cps.toList = [48] ∧ x.cps.toList = [48]) ∨ (behind x.cps.toList).head? ≠ some 48)
theorem numB_iff (x : Str) : numB x ↔ ∃ n, IsNum x n := by
  constructor
  · rintro ⟨⟨f1, f2⟩, f3, f4⟩
    have up : digitsVal (behind x.cps.toList) < 10 ^ 60 := Nat.lt_of_lt_of_le (digitsVal_lt f1) (Nat.pow_le_pow_right (by decide) f3)
    rcases e : x.cps.toList with _ | ⟨c, r⟩
    · rw [e] at f2; exact absurd rfl f2
    · by_cases h45 : c = 45
      · subst h45
        rw [e] at f1 f2 f3 f4 up
        have hh : r.head? ≠ some 48 := by
          rcases f4 with ⟨_, z⟩ | z
          · cases z
          · exact z
        have ec := canon r f1 f2 hh
        have h1 : digitsVal r ≠ 0 := fun z => by
          rw [z, TL.numL_lt (by decide)] at ec
          rw [← ec] at hh
          exact hh rfl
        refine ⟨-(digitsVal r : Int), by rw [Int.natAbs_neg, Int.natAbs_natCast]; exact up, str_ext ?_⟩
        rw [e, num_list, if_pos (by omega), Int.natAbs_neg, Int.natAbs_natCast]
        show 45 :: r = [45] ++ TL.numL (digitsVal r)
        rw [ec]
        rfl
      · have eb : behind (c :: r) = c :: r := by
          unfold behind
          split
          · rename_i heq; cases heq; exact absurd rfl h45
          · rfl
        rw [e, eb] at f1 f2 f3 f4 up
        refine ⟨(digitsVal (c :: r) : Int), by rw [Int.natAbs_natCast]; exact up, str_ext ?_⟩
        rw [e, num_list, if_neg (by omega), Int.natAbs_natCast, List.nil_append]
        show c :: r = TL.numL (digitsVal (c :: r))
        rcases f4 with ⟨z, _⟩ | z
        · rw [z]; decide
        · exact (canon _ f1 f2 z).symm
  · rintro ⟨n, h1, rfl⟩
    obtain ⟨f, g⟩ := num_figs n
    refine ⟨f, ?_, ?_⟩
    · rw [g, List.length_map]
      exact (Nat.length_toDigits_le_iff (b := 10) (n := n.natAbs) (k := 60) (by decide) (by decide)).mpr h1
    · by_cases h0 : n = 0
      · subst h0; exact .inl ⟨by decide, by decide⟩
      · right
        rw [g]
        exact numL_head _ (by omega)
/-- a text of plain signs -/
def Asc (x : Str) : Prop := ∀ c ∈ x.cps.toList, c < 128
theorem Asc.app {x y : Str} (h : Asc x) (k : Asc y) : Asc (x ++ y) := fun c hc => by
  rw [app_list] at hc
  rcases List.mem_append.mp hc with z | z
  · exact h c z
  · exact k c z
theorem Asc.sub {x y : Str} (h : Asc x) (k : ∀ c ∈ y.cps.toList, c ∈ x.cps.toList) : Asc y := fun c hc => h c (k c hc)
def txs (l : List Str) : List PyData := l.map PyData.str
theorem dp_txs {K : PySem.W.Frag} {H : Hp} : ∀ l : List Str, DpAll K H (l.map V.str) (txs l)
  | [] => .nil
  | _ :: r => .cons (.str _) (dp_txs r)
theorem lay_txs : ∀ l : List Str, (∀ z ∈ l, Asc z) → PyData.canLayAll0 (txs l) = true ∧ PyData.depthAll (txs l) ≤ 1
  | [], _ => ⟨rfl, by decide⟩
  | x :: r, h => by
    obtain ⟨a, b⟩ := lay_txs r fun z hz => h z (List.mem_cons_of_mem _ hz)
    have hx : PyData.canLay0 (.str x) = true := by
      show x.cps.all (· < 0x110000) = true
      rw [Array.all_eq_true_iff_forall_mem]
      intro c hc
      have := h x (List.mem_cons_self ..) c (Array.mem_toList_iff.mpr hc)
      exact decide_eq_true (by omega)
    refine ⟨?_, ?_⟩
    · show (PyData.canLay0 (.str x) && PyData.canLayAll0 (txs r)) = true
      rw [hx, a]
      rfl
    · show max (PyData.depth (.str x)) (PyData.depthAll (txs r)) ≤ 1
      have e : PyData.depth (.str x) = 0 := rfl
      omega
theorem shaped_txs {l : List Str} (h : ∀ z ∈ l, Asc z) : SeqAt.shaped (.list (txs l)) = true := by
  obtain ⟨a, b⟩ := lay_txs l h
  show (PyData.canLayAll0 (txs l) && decide (PyData.depthAll (txs l) + 1 ≤ 64)) = true
  rw [a, decide_eq_true (by omega)]
  rfl
theorem eqv_txs_nil (l : List Str) : PyData.eqv (.list (txs l)) (.list []) = decide (l = []) := by
  cases l with
  | nil => rfl
  | cons x r => rw [decide_eq_false (by simp)]; rfl
theorem cut_all : ∀ (n : Nat) (x : Str), x.length ≤ n → ∃ parts : List Str, parts ≠ [] ∧ (∀ z ∈ parts, 47 ∉ z.cps.toList ∧ (∀ c ∈ z.cps.toList, c ∈ x.cps.toList) ∧ z.length ≤ x.length) ∧ Txt.join (Str.ofString "/") parts = x
  | n, x, h => by
    have e47 : (Str.ofString "/").cps.toList = [47] := by decide
    have l47 : (Str.ofString "/").length = 1 := by decide
    rcases cut_slash x with ⟨hs, _⟩ | ⟨a, b, hs, ex, _⟩
    · refine ⟨[x], by simp, fun z hz => ?_, ?_⟩
      · obtain rfl := List.mem_singleton.mp hz
        exact ⟨hs, fun c hc => hc, Nat.le_refl _⟩
      · rw [TL.join_eq]; rfl
    · have hx : x.length = a.length + 1 + b.length := by rw [ex, app_len, app_len, l47]
      match n, h with
      | 0, h => omega
      | m + 1, h =>
        obtain ⟨ps, p1, p2, p3⟩ := cut_all m b (by omega)
        have sub : ∀ c, (c ∈ a.cps.toList ∨ c ∈ b.cps.toList) → c ∈ x.cps.toList := fun c hc => by
          rw [ex, app_list, app_list]
          rcases hc with hc | hc
          · exact List.mem_append_left _ (List.mem_append_left _ hc)
          · exact List.mem_append_right _ hc
        refine ⟨a :: ps, by simp, fun z hz => ?_, ?_⟩
        · rcases List.mem_cons.mp hz with rfl | hz
          · exact ⟨hs, fun c hc => sub c (.inl hc), by omega⟩
          · obtain ⟨z1, z2, z3⟩ := p2 z hz
            exact ⟨z1, fun c hc => sub c (.inr (z2 c hc)), by omega⟩
        · rw [TL.join_eq] at p3 ⊢
          cases ps with
          | nil => exact absurd rfl p1
          | cons z r =>
            show a ++ Str.ofString "/" ++ Str.join (Str.ofString "/") (z :: r) = x
            rw [p3, ex]
/-- a text split at its signs / -/
theorem split_slash (x : Str) : ∃ parts : List Str, Txt.split x (Str.ofString "/") = parts ∧ parts.length ≤ x.length + 2 ∧ (∀ z ∈ parts, (∀ c ∈ z.cps.toList, c ∈ x.cps.toList) ∧ z.length ≤ x.length) ∧
    ((parts = [x] ∧ 47 ∉ x.cps.toList) ∨ (∃ a b, parts = [a, b] ∧ x = a ++ Str.ofString "/" ++ b ∧ 47 ∉ a.cps.toList ∧ 47 ∉ b.cps.toList) ∨ (2 < parts.length ∧ ∃ a b, x = a ++ Str.ofString "/" ++ b ∧ 47 ∉ a.cps.toList ∧ 47 ∈ b.cps.toList)) := by
  obtain ⟨ps, p1, p2, p3⟩ := cut_all x.length x (Nat.le_refl _)
  have ey : TL.tl (Str.ofString "/") = 47 :: [] := by decide
  have e47 : (Str.ofString "/").cps.toList = [47] := by decide
  have sp := TL.split_join ey (by decide +kernel) p1 fun z hz => (p2 z hz).1
  rw [p3] at sp
  refine ⟨ps, sp, by rw [← sp]; exact PyProof.Rows.split_le _ _, fun z hz => (p2 z hz).2, ?_⟩
  rw [TL.join_eq] at p3
  match ps, p1, p2, p3 with
  | [], h, _, _ => exact absurd rfl h
  | [a], _, h2, h3 =>
    have h3' : a = x := h3
    subst h3'
    exact .inl ⟨rfl, (h2 a (List.mem_cons_self ..)).1⟩
  | [a, b], _, h2, h3 =>
    have h3' : a ++ Str.ofString "/" ++ b = x := h3
    exact .inr (.inl ⟨a, b, rfl, h3'.symm, (h2 a (by simp)).1, (h2 b (by simp)).1⟩)
  | a :: b :: c :: r, _, h2, h3 =>
    have h3' : a ++ Str.ofString "/" ++ (b ++ Str.ofString "/" ++ Str.join (Str.ofString "/") (c :: r)) = x := h3
    refine .inr (.inr ⟨by simp only [List.length_cons]; omega, a, _, h3'.symm, (h2 a (by simp)).1, ?_⟩)
    rw [app_list, app_list, e47]
    exact List.mem_append_left _ (List.mem_append_right _ (List.mem_cons_self ..))
/-- x is the text of the ratio p / q of at most sixty figures -/
def IsRat (x : Str) (p q : Int) : Prop := Low p q ∧ p.natAbs < 10 ^ 60 ∧ q.natAbs < 10 ^ 60 ∧ x = rtext p q
theorem rat_slash {p q : Int} {a b : Str} (ha : 47 ∉ a.cps.toList) (h : a ++ Str.ofString "/" ++ b = rtext p q) : q ≠ 1 ∧ a = Str.ofString (toString p) ∧ b = Str.ofString (toString q) := by
  unfold rtext at h
  by_cases e : q = 1
  · rw [if_pos e] at h
    exact absurd h.symm (cut_no (num_no47 p))
  · rw [if_neg e] at h
    exact ⟨e, cut_eq ha (num_no47 p) h⟩
theorem rat_plain {p q : Int} {x : Str} (hx : 47 ∉ x.cps.toList) (h : x = rtext p q) : q = 1 ∧ x = Str.ofString (toString p) := by
  unfold rtext at h
  by_cases e : q = 1
  · rw [if_pos e] at h; exact ⟨e, h⟩
  · rw [if_neg e] at h
    exact absurd h (cut_no hx)
theorem ratA {x : Str} {p q : Int} (hs : 47 ∉ x.cps.toList) (h : IsRat x p q) : q = 1 ∧ IsNum x p := by
  obtain ⟨e1, e2⟩ := rat_plain hs h.2.2.2
  exact ⟨e1, h.2.1, e2⟩
theorem ratB {x a b : Str} {p q : Int} (hs : 47 ∉ a.cps.toList) (ex : x = a ++ Str.ofString "/" ++ b) (h : IsRat x p q) : q ≠ 1 ∧ IsNum a p ∧ IsNum b q := by
  obtain ⟨e0, e1, e2⟩ := rat_slash hs (ex.symm.trans h.2.2.2)
  exact ⟨e0, ⟨h.2.1, e1⟩, ⟨h.2.2.1, e2⟩⟩
theorem num_uniq {x : Str} {m n : Int} (h1 : IsNum x m) (h2 : IsNum x n) : m = n := num_inj h1.1 h2.1 (h1.2.symm.trans h2.2)
theorem rat_inj {x : Str} {p q p' q' : Int} (h1 : IsRat x p q) (h2 : IsRat x p' q') : p = p' ∧ q = q' := by
  rcases cut_slash x with ⟨hs, _⟩ | ⟨a, b, hs, ex, _⟩
  · obtain ⟨a1, a2⟩ := ratA hs h1
    obtain ⟨b1, b2⟩ := ratA hs h2
    exact ⟨num_uniq a2 b2, by rw [a1, b1]⟩
  · obtain ⟨_, a1, a2⟩ := ratB hs ex h1
    obtain ⟨_, b1, b2⟩ := ratB hs ex h2
    exact ⟨num_uniq a1 b1, num_uniq a2 b2⟩
theorem low_self {p q : Int} (h : Low p q) : p / gcdI p q = p ∧ q / gcdI p q = q := (Val.of h.pos).inj (Val.self h) rfl
theorem slash_len : (Str.ofString "/").length = 1 := by decide
theorem empty_len : Str.empty.length = 0 := by decide
theorem nt {p : Prop} [Decidable p] (h : (!decide p) = true) : ¬ p := by simpa using h
theorem nf {p : Prop} [Decidable p] (h : (!decide p) = false) : p := by simpa using h
theorem low_one (n : Int) : Low n 1 := by
  have h0 := gcdI_pos (a := n) (b := 1) (by decide)
  have h1 := gcdI_le (a := n) (b := 1) (by decide)
  have e : gcdI n 1 = 1 := by omega
  have := (low_of (a := n) (b := 1) (by decide)).1
  rw [e] at this
  simpa using this
end U

/-! U15: a list, a tuple or a dict beside a text: they differ. -/
namespace U
open PySem PySem.Spec PyProof.Rows L2 PySem.SeqAt
open AutoSeq1 (wpAny_loadPart')
theorem dict_other (l : Addr) (z : Str) (k : Tok) (dd : Option Addr) (es : Array DictEntry) (ep : Nat) (sl : Array (Option Value)) :
    Meets (Builtin.«dict.__ne__» ⟨[.ref l, .str z k], []⟩)
      (fun _ R s => s.heap.get? l = some { cls := .type "dict", dict := dd, data := .dict es ep, slots := sl } ∧ R (.ok (.ret .notImplemented)) s) :=
  .of_wp fun prog w A R s h => by
    obtain ⟨hp, g, d, tk, os⟩ := s
    obtain ⟨hl, h⟩ := h
    have f1 := F.sub_str_dict
    wp_walk using wpAny_loadPart' hl, wpAny_load hl
    exact ⟨_, rfl, h⟩
theorem str_other (l : Addr) (z : Str) (k : Tok) (dd : Option Addr) (es : Array DictEntry) (ep : Nat) (sl : Array (Option Value)) :
    Meets (Builtin.«str.__ne__» ⟨[.str z k, .ref l], []⟩)
      (fun _ R s => s.heap.get? l = some { cls := .type "dict", dict := dd, data := .dict es ep, slots := sl } ∧ R (.ok (.ret .notImplemented)) s) :=
  .of_wp fun prog w A R s h => by
    obtain ⟨hp, g, d, tk, os⟩ := s
    obtain ⟨hl, h⟩ := h
    wp_walk using wpAny_loadPart' hl, wpAny_load hl
    exact ⟨_, rfl, h⟩
section
variable {X : Cx}
/-- x != a text, x a list, a tuple or a dict -/
def uNeS : R2 := fun x y H Q => ∃ (a : Addr) (z : Str), x = .ref a ∧ y = .str z ∧ ((∃ xs, H a = some (.lst xs)) ∨ (∃ xs, H a = some (.tup xs)) ∨ ∃ kvs, H a = some (.dK kvs)) ∧ Q (.bl true) H
theorem opNeS (hu : X.A.units + 64 < cLine) : OpR X (compareOp .NotEq) uNeS := fun p s σ H x y v u Q I rx ry h => by
  obtain ⟨a, z, rfl, rfl, hk, q⟩ := h
  obtain rfl : v = Value.ref a := rx
  obtain ⟨k, rfl⟩ : ∃ k, u = Value.str z k := ry
  have room : X.A.units < cLine := by omega
  have fin : EP X p σ Q (.bool true) s := ⟨.bl true, H, I, rfl, q⟩
  rcases hk with ⟨xs, e⟩ | ⟨xs, e⟩ | ⟨kvs, e⟩
  · obtain ⟨its, _, hl, _⟩ := I.list (SqL.of e)
    exact RcNeAt.list_str z k hl.isList room X.prog X.w X.xe _ fin
  · obtain ⟨its, _, hl, _⟩ := I.tuple (SqT.of e)
    exact RcNeAt.tuple_str z k hl room X.prog X.w X.xe _ fin
  · obtain ⟨_, _, vs, _, D⟩ := (show ObjOk X.prog X.w H s.heap a (.dK kvs) from I.hok a _ e)
    obtain ⟨o, es, ep, ho, ⟨c1, c2, c3⟩, hd, _⟩ := D
    obtain ⟨cls, dd, data, sl⟩ := o
    simp only at c1 c2 c3 hd
    subst c1 c2 c3 hd
    show wpAny _ _ (richCompare .NotEq (.ref a) (.str z k)) _ _ s
    refine rc_ne_decline_or (k := false) (Ta := "dict") (Tb := "str") ⟨_, ho, rfl⟩ (typeIs_str s z k) (by decide) F.sub_str_dict F.slot_dict_ne F.slot_str_ne_refl ?_ ?_ ?_ (.inr room) fin
    · intro R hR
      exact call_meets F.slot_dict_ne ⟨_, ho, rfl⟩ F.entry_dict_ne (F.args_dict_ne_2 _ _) (dict_other a z k _ es ep _) ⟨ho, hR⟩
    · intro R hR
      exact call_meets F.slot_str_ne_refl (typeIs_str s z k) F.entry_str_ne (F.args_str_ne_2 _ _) (str_other a z k _ es ep _) ⟨ho, hR⟩
    · intro R hR
      exact wpAny_of_eq (rfl : isSame (.ref a) (.str z k) = pure false) hR
/-- a value of any kind beside a text -/
@[irreducible] def uNeT (K : PySem.W.Frag) : R2 := fun x y H Q => match scal x y with | true => Q (.bl (!decide (x = y))) H | false => uNeS x y H Q
theorem opNeT (hu : X.A.units + 64 < cLine) : OpR X (compareOp .NotEq) (uNeT X.K) := fun p s z H x y v u Q I rx ry h => by
  unfold uNeT at h
  split at h
  · exact op_ne p s z H _ _ v u Q I rx ry ⟨by assumption, h⟩
  · exact opNeS hu p s z H _ _ v u Q I rx ry h
theorem neT_str {K : PySem.W.Frag} {a b : Str} {H : Hp} {R : VK} (k : R (.bl (!decide (V.str a = V.str b))) H) : uNeT K (.str a) (.str b) H R := by
  unfold uNeT
  exact k
theorem neT_flat {K : PySem.W.Frag} {v : V} {b : Str} {H : Hp} {R : VK} (h : scal v (.str b) = true) (k : R (.bl (!decide (v = V.str b))) H) : uNeT K v (.str b) H R := by
  unfold uNeT
  rw [h]
  exact k
theorem neT_ref {K : PySem.W.Frag} {a : Addr} {b : Str} {H : Hp} {R : VK} (h : (∃ xs, H a = some (.lst xs)) ∨ (∃ xs, H a = some (.tup xs)) ∨ ∃ kvs, H a = some (.dK kvs)) (k : R (.bl true) H) : uNeT K (.ref a) (.str b) H R := by
  unfold uNeT
  exact ⟨a, b, rfl, rfl, h, k⟩
end
/-- all but the tables and the object at d stay -/
def Kp (d : Addr) (H H' : Hp) : Prop := ∀ b u, H b = some u → (∀ ps, u ≠ .tbl ps) → b ≠ d → H' b = some u
section
variable {K : PySem.W.Frag} {C d : Addr} {H H' H2 : Hp} {v : V} {S : String} {p q : Int} {n : Nat} {o : HO}
theorem Kp.refl (d : Addr) (H : Hp) : Kp d H H := fun _ _ e _ _ => e
theorem Kp.trans (a : Kp d H H') (b : Kp d H' H2) : Kp d H H2 := fun c u e t n => b c u (a c u e t n) t n
theorem Kp.of (g : Gr H H') : Kp d H H' := fun b u e _ _ => g b u e
theorem Kp.dice (f : ∀ b u, H b = some u → b ≠ d → H' b = some u) : Kp d H H' := fun b u e _ n => f b u e n
theorem Kp.ext (f : LamX.ExtN H H') : Kp d H H' := fun b u e t _ => f b u e t
theorem dice_ne (hd : H d = some o) (D : Dice n o) {b : Addr} {C dx : Addr} {fs : List (Str × V)} (e : H b = some (.ins C dx fs)) : b ≠ d := fun z => by
  obtain ⟨a1, a2, a3, rfl, _⟩ := D
  rw [z, hd] at e
  cases e
theorem tup_ne (hd : H d = some o) (D : Dice n o) {b : Addr} {xs : List V} (e : H b = some (.tup xs)) : b ≠ d := fun z => by
  obtain ⟨a1, a2, a3, rfl, _⟩ := D
  rw [z, hd] at e
  cases e
theorem IsR.kp (r : IsR C H v p q) (k : Kp d H H') (hd : H d = some o) (D : Dice n o) : IsR C H' v p q := by
  obtain ⟨a, dx, e, h⟩ := r
  exact ⟨a, dx, e, k _ _ h (fun ps z => by cases z) (dice_ne hd D h)⟩
theorem tyx_kp {t : Value} (h : TyX K H v t) (k : Kp d H H') (ne : v ≠ .ref d) : TyX K H' v t := by
  have go : ∀ {a : Addr} {u : HO}, v = .ref a → H a = some u → (∀ ps, u ≠ .tbl ps) → H' a = some u := fun {a u} ev e t => k a u e t fun z => ne (by rw [ev, z])
  cases h with
  | base b =>
    refine .base ?_
    cases b with
    | non => exact .non
    | bl x => exact .bl x
    | int x => exact .int x
    | str x => exact .str x
    | flt x => exact .flt x
    | lst e => exact .lst (go rfl e (fun _ z => by cases z))
    | frz e => exact .frz (go rfl e (fun _ z => by cases z))
    | tup e => exact .tup (go rfl e (fun _ z => by cases z))
    | dK e => exact .dK (go rfl e (fun _ z => by cases z))
    | dT e => exact .dT (go rfl e (fun _ z => by cases z))
    | ins e c1 c2 c3 c4 c5 => exact .ins (go rfl e (fun _ z => by cases z)) c1 c2 c3 c4 c5
  | byt b => exact .byt b
  | set e => exact .set (go rfl e (fun _ z => by cases z))
  | kList e c => exact .kList e c
  | kTuple e c => exact .kTuple e c
  | kDict e c => exact .kDict e c
  | fTuple e => exact .fTuple (go rfl e (fun _ z => by cases z))
  | fDict e => exact .fDict (go rfl e (fun _ z => by cases z))
theorem Kd.kp (h : Kd K H v S) (k : Kp d H H') (ne : v ≠ .ref d) : Kd K H' v S := ⟨tyx_kp h.1 k ne, h.2⟩
theorem Ob.kp (h : Ob K C H v) (k : Kp d H H') (ne : v ≠ .ref d) (hd : H d = some o) (D : Dice n o) : Ob K C H' v := by
  rcases h with ⟨S, h⟩ | ⟨p, q, h⟩
  · exact .inl ⟨S, h.kp k ne⟩
  · exact .inr ⟨p, q, h.kp k hd D⟩
theorem tabs_dice {T : List (Addr × Str)} (t : LamX.Tabs T H) (f : ∀ b u, H b = some u → b ≠ d → H' b = some u) (hd : H d = some o) (D : Dice n o) : LamX.Tabs T H' := fun p hp => by
  obtain ⟨ps, h1, h2, h3⟩ := t p hp
  have ne : p.1 ≠ d := fun z => by
    obtain ⟨a1, a2, a3, rfl, _⟩ := D
    rw [z, hd] at h1
    cases h1
  refine ⟨ps, f _ _ h1 ne, h2, fun pos cv hc => ?_⟩
  obtain ⟨c, e1, e2⟩ := h3 pos cv hc
  refine ⟨c, e1, f _ _ e2 fun z => ?_⟩
  obtain ⟨a1, a2, a3, rfl, _⟩ := D
  rw [z, hd] at e2
  have e3 := Option.some.inj e2
  unfold LamX.CodeO at e3
  cases e3
end
/-- on the way: what stood at A stands, the dice d, a list at l that grows, and the tables -/
structure Way (T : List (Addr × Str)) (d l : Addr) (o : HO) (A : Hp) (H : Hp) (L : List V) : Prop where
  kp : Kp d A H
  dd : H d = some o
  tb : LamX.Tabs T H
  ll : H l = some (.lst L)
section
variable {T : List (Addr × Str)} {d l : Addr} {o : HO} {A H H' : Hp} {L : List V} {n : Nat}
theorem dice_no_tbl (D : Dice n o) : ∀ ps, o ≠ .tbl ps := fun ps z => by
  obtain ⟨_, _, _, rfl, _⟩ := D
  cases z
theorem Way.lam (s : Way T d l o A H L) (D : Dice n o) (x : LamX.ExtN H H') (t : LamX.Tabs T H') : Way T d l o A H' L := ⟨s.kp.trans (Kp.ext x), x _ _ s.dd (dice_no_tbl D), t, x _ _ s.ll (fun _ z => by cases z)⟩
theorem Way.gr (s : Way T d l o A H L) (g : Gr H H') : Way T d l o A H' L := ⟨s.kp.trans (Kp.of g), g _ _ s.dd, s.tb.ext g, g _ _ s.ll⟩
theorem tabs_set {M L' : List V} (t : LamX.Tabs T H) (e : H l = some (.lst M)) : LamX.Tabs T (upd H l (.lst L')) := fun p hp => by
  obtain ⟨ps, h1, h2, h3⟩ := t p hp
  have n1 : p.1 ≠ l := fun z => by rw [z, e] at h1; cases h1
  refine ⟨ps, by rw [upd_ne n1]; exact h1, h2, fun pos cv hc => ?_⟩
  obtain ⟨c, e1, e2⟩ := h3 pos cv hc
  refine ⟨c, e1, ?_⟩
  have n2 : c ≠ l := fun z => by
    rw [z, e] at e2
    have e3 := Option.some.inj e2
    unfold LamX.CodeO at e3
    cases e3
  rw [upd_ne n2]
  exact e2
theorem Way.set (s : Way T d l o A H L) (h : A l = none) (n : l ≠ d) (L' : List V) : Way T d l o A (upd H l (.lst L')) L' := by
  refine ⟨fun b u e t nb => ?_, ?_, tabs_set s.tb s.ll, upd_same⟩
  · rw [upd_ne (ne_of_none e h)]
    exact s.kp b u e t nb
  · rw [upd_ne (fun z => n z.symm)]
    exact s.dd
theorem Way.app (s : Way T d l o A H L) (h : A l = none) (n : l ≠ d) (y : V) : Way T d l o A (upd H l (.lst (L ++ [y]))) (L ++ [y]) := s.set h n _
/-- one more object is known to stand -/
theorem Way.more (s : Way T d l o A H L) (h : A l = none) {t : Addr} {u : HO} (ht : H t = some u) (nt : ∀ ps, u ≠ .tbl ps) (nl : t ≠ l) : ∃ A' : Hp, A' l = none ∧ A' t = some u ∧ Kp d A A' ∧ Way T d l o A' H L := by
  refine ⟨fun b => if b = t then some u else A b, ?_, if_pos rfl, fun b w e tb nb => ?_, ⟨fun b w e tb nb => ?_, s.dd, s.tb, s.ll⟩⟩
  · show (if l = t then _ else _) = _
    rw [if_neg (fun z => nl z.symm)]
    exact h
  · show (if b = t then _ else _) = _
    by_cases hb : b = t
    · rw [if_pos hb, ← ht, ← hb]
      exact s.kp b w e tb nb
    · rw [if_neg hb]
      exact e
  · by_cases hb : b = t
    · have e' : some u = some w := (if_pos hb).symm.trans e
      rw [hb, ht, e']
    · exact s.kp b w ((if_neg hb).symm.trans e) tb nb
theorem Way.start (g : Gr A H) (hd : A d = some o) (t : LamX.Tabs T A) (e : H l = some (.lst L)) : Way T d l o A H L := ⟨Kp.of g, g _ _ hd, t.ext g, e⟩
end
theorem asc_num (n : Int) : Asc (Str.ofString (toString n)) := fun c hc => by
  rw [num_list] at hc
  rcases List.mem_append.mp hc with h | h
  · by_cases q : n < 0
    · rw [if_pos q] at h
      obtain rfl := List.mem_singleton.mp h
      decide
    · rw [if_neg q] at h; cases h
  · have := digits_are _ c h
    omega
theorem asc_rtext (p q : Int) : Asc (rtext p q) := by
  unfold rtext
  split
  · exact asc_num p
  · refine ((asc_num p).app ?_).app (asc_num q)
    intro c hc
    rw [show (Str.ofString "/").cps.toList = [47] by decide] at hc
    obtain rfl := List.mem_singleton.mp hc
    decide
theorem len_rtext {p q : Int} (hp : p.natAbs < 10 ^ 60) (hq : q.natAbs < 10 ^ 60) : (rtext p q).length ≤ 201 := by
  have h1 := num_short hp
  have h2 := num_short hq
  unfold rtext
  split
  · omega
  · rw [app_len, app_len, slash_len]
    omega
theorem sql_ext {K : PySem.W.Frag} {H H' : Hp} {a : Addr} {xs : List V} (h : SqL K H a xs) (x : LamX.ExtN H H') : SqL K H' a xs := by
  rcases h with (h | ⟨o, h⟩) | h
  · exact .inl (.inl (x _ _ h (fun _ z => by cases z)))
  · exact .inl (.inr ⟨o, x _ _ h (fun _ z => by cases z)⟩)
  · exact .inr h
instance (l : List Nat) : Decidable (Figs l) := by unfold Figs; infer_instance
instance (x : Str) : Decidable (numB x) := by unfold numB; infer_instance
theorem rat_no1 {x : Str} (h : 47 ∉ x.cps.toList) (n : ¬ numB x) (p q : Int) : ¬ IsRat x p q := fun hr => n ((numB_iff _).mpr ⟨_, (ratA h hr).2⟩)
theorem rat_no2 {x a b : Str} (e : x = a ++ Str.ofString "/" ++ b) (h : 47 ∉ a.cps.toList) (n : ¬ numB a ∨ ¬ numB b) (p q : Int) : ¬ IsRat x p q := fun hr => by
  obtain ⟨_, h1, h2⟩ := ratB h e hr
  rcases n with n | n
  · exact n ((numB_iff _).mpr ⟨_, h1⟩)
  · exact n ((numB_iff _).mpr ⟨_, h2⟩)
theorem rat_no3 {x : Str} {n m : Int} (e : x = Str.ofString (toString n) ++ Str.ofString "/" ++ Str.ofString (toString m)) (hn : n.natAbs < 10 ^ 60) (hm : m.natAbs < 10 ^ 60) (no : m = 1 ∨ m ≤ 0 ∨ Nat.gcd n.natAbs m.natAbs ≠ 1) (p q : Int) : ¬ IsRat x p q := fun hr => by
  obtain ⟨h0, h1, h2⟩ := ratB (num_no47 n) e hr
  obtain rfl := num_uniq h1 ⟨hn, rfl⟩
  obtain rfl := num_uniq h2 ⟨hm, rfl⟩
  have := hr.1.pos
  rcases no with z | z | z
  · exact h0 z
  · omega
  · exact z hr.1.one
end U

namespace Law
open PySem PySem.Spec PyProof.Rows L2 U
/-! ### the text by places -/
def top (i : Nat) : Stmt := PySem.Challenge.pw_touchrows_k06_errors_of_ratios.main.body.getD i (.Pass ⟨0, 0, 0, 0⟩)
abbrev s__law_dice : Stmt := top 20
abbrev s__law_roll : Stmt := top 21
abbrev s__law_pick : Stmt := top 22
abbrev s_is_integer : Stmt := top 4
abbrev s_Ratio___init__ : Stmt := inClass (top 13) 0
abbrev s_Ratio_pair : Stmt := inClass (top 13) 4
abbrev s__law_told : Stmt := top 24
abbrev s_Ratio___bool__ : Stmt := inClass (top 13) 11
abbrev s_Ratio_over : Stmt := inClass (top 13) 9
abbrev s__is_ratios : Stmt := top 16
abbrev s_sum_of : Stmt := top 17
abbrev s_greatest_of : Stmt := top 18
abbrev s_integer_in : Stmt := top 7
abbrev s__lowest : Stmt := top 14
abbrev s_written : Stmt := top 6
abbrev s_Ratio___str__ : Stmt := inClass (top 13) 13
abbrev s_ratio_in : Stmt := top 15
abbrev s_Ratio_of_text : Stmt := inClass (top 13) 1
abbrev s__law_bent : Stmt := top 27
abbrev s__law_is_integer : Stmt := top 25
abbrev s__law_lowest : Stmt := top 23
abbrev s__law_read : Stmt := top 26
abbrev s__law_right : Stmt := top 28
abbrev s_law : Stmt := top 29
theorem sc__law_dice : FnScope ["_law_script", "_law_spot", "_law_cell", "_law_great", "_law_left"] ["_law_script", "_law_spot"] (defScope s__law_dice) := ⟨rfl, rfl, rfl, by decide +kernel, rfl, by decide +kernel, by decide +kernel⟩
theorem sc__law_roll : FnScope ["_law_dice_here", "_law_total", "_law_found", "_law_one", "_law_two"] ["_law_dice_here", "_law_total"] (defScope s__law_roll) := ⟨rfl, rfl, rfl, by decide +kernel, rfl, by decide +kernel, by decide +kernel⟩
theorem sc__law_pick : FnScope ["_law_dice_here", "_law_items"] ["_law_dice_here", "_law_items"] (defScope s__law_pick) := ⟨rfl, rfl, rfl, by decide +kernel, rfl, by decide +kernel, by decide +kernel⟩
theorem sc_is_integer : FnScope ["value"] ["value"] (defScope s_is_integer) := ⟨rfl, rfl, rfl, by decide +kernel, rfl, by decide +kernel, by decide +kernel⟩
theorem sc_Ratio___init__ : FnScope ["self", "top", "bottom", "common"] ["self", "top", "bottom"] (defScope s_Ratio___init__) := ⟨rfl, rfl, rfl, by decide +kernel, rfl, by decide +kernel, by decide +kernel⟩
theorem sc_Ratio_pair : FnScope ["self"] ["self"] (defScope s_Ratio_pair) := ⟨rfl, rfl, rfl, by decide +kernel, rfl, by decide +kernel, by decide +kernel⟩
theorem sc__law_told : FnScope ["_law_call"] ["_law_call"] (defScope s__law_told) := ⟨rfl, rfl, rfl, by decide +kernel, rfl, by decide +kernel, by decide +kernel⟩
theorem sc_Ratio___bool__ : FnScope ["self"] ["self"] (defScope s_Ratio___bool__) := ⟨rfl, rfl, rfl, by decide +kernel, rfl, by decide +kernel, by decide +kernel⟩
theorem sc_Ratio_over : FnScope ["self", "other", "sign"] ["self", "other"] (defScope s_Ratio_over) := ⟨rfl, rfl, rfl, by decide +kernel, rfl, by decide +kernel, by decide +kernel⟩
theorem sc__is_ratios : FnScope ["value", "one"] ["value"] (defScope s__is_ratios) := ⟨rfl, rfl, rfl, by decide +kernel, rfl, by decide +kernel, by decide +kernel⟩
theorem sc_sum_of : FnScope ["ratios", "total", "one"] ["ratios"] (defScope s_sum_of) := ⟨rfl, rfl, rfl, by decide +kernel, rfl, by decide +kernel, by decide +kernel⟩
theorem sc_greatest_of : FnScope ["ratios", "best", "one"] ["ratios"] (defScope s_greatest_of) := ⟨rfl, rfl, rfl, by decide +kernel, rfl, by decide +kernel, by decide +kernel⟩
theorem sc_integer_in : FnScope ["text", "figures", "number"] ["text"] (defScope s_integer_in) := ⟨rfl, rfl, rfl, by decide +kernel, rfl, by decide +kernel, by decide +kernel⟩
theorem sc__lowest : FnScope ["top", "bottom", "made", "common"] ["top", "bottom"] (defScope s__lowest) := ⟨rfl, rfl, rfl, by decide +kernel, rfl, by decide +kernel, by decide +kernel⟩
theorem sc_written : FnScope ["number", "sign", "rest", "blocks", "low"] ["number"] (defScope s_written) := ⟨rfl, rfl, rfl, by decide +kernel, rfl, by decide +kernel, by decide +kernel⟩
theorem sc_Ratio___str__ : FnScope ["self"] ["self"] (defScope s_Ratio___str__) := ⟨rfl, rfl, rfl, by decide +kernel, rfl, by decide +kernel, by decide +kernel⟩
theorem sc_ratio_in : FnScope ["text", "head", "slash", "tail", "top", "bottom", "told"] ["text"] (defScope s_ratio_in) := ⟨rfl, rfl, rfl, by decide +kernel, rfl, by decide +kernel, by decide +kernel⟩
theorem sc_Ratio_of_text : FnScope ["cls", "text", "told"] ["cls", "text"] (defScope s_Ratio_of_text) := ⟨rfl, rfl, rfl, by decide +kernel, rfl, by decide +kernel, by decide +kernel⟩
theorem sc__law_bent : FnScope ["_law_dice_here", "_law_text", "_law_at", "_law_way", "_law_sign"] ["_law_dice_here", "_law_text"] (defScope s__law_bent) := ⟨rfl, rfl, rfl, by decide +kernel, rfl, by decide +kernel, by decide +kernel⟩
theorem sc__law_is_integer : FnScope ["_law_text", "_law_figures", "_law_sign"] ["_law_text"] (defScope s__law_is_integer) := ⟨rfl, rfl, rfl, by decide +kernel, rfl, by decide +kernel, by decide +kernel⟩
theorem sc__law_lowest : FnScope ["_law_top", "_law_bottom", "_law_one", "_law_other", "_law_turn"] ["_law_top", "_law_bottom"] (defScope s__law_lowest) := ⟨rfl, rfl, rfl, by decide +kernel, rfl, by decide +kernel, by decide +kernel⟩
theorem sc__law_read : FnScope ["_law_text", "_law_parts", "_law_top", "_law_bottom", "_law_part"] ["_law_text"] (defScope s__law_read) := ⟨rfl, rfl, rfl, by decide +kernel, rfl, by decide +kernel, by decide +kernel⟩
theorem sc__law_right : FnScope ["_law_dice_here", "_law_odd", "_law_bad", "_law_one", "_law_none", "_law_many", "_law_told_here", "_law_due", "_law_turn", "_law_text", "_law_some"] ["_law_dice_here"] (defScope s__law_right) := ⟨rfl, rfl, rfl, by decide +kernel, rfl, by decide +kernel, by decide +kernel⟩
theorem sc_law : FnScope ["_law_script", "_law_spot", "_law_dice_here", "_law_turn", "_law_texts", "_law_text"] ["_law_script"] (defScope s_law) := ⟨rfl, rfl, rfl, by decide +kernel, rfl, by decide +kernel, by decide +kernel⟩
/-- what the top leaves -/
structure Txt (K : PySem.W.Frag) (mg : Str → Option Value) where
  c_Ratio : Addr
  g_Ratio : mg "Ratio" = some (.ref c_Ratio)
  o_Ratio : OwnC K c_Ratio
  f_Ratio__top : NoAttr K c_Ratio "_top"
  f_Ratio__bottom : NoAttr K c_Ratio "_bottom"
  c_InvalidOperation : Addr
  g_InvalidOperation : mg "InvalidOperation" = some (.ref c_InvalidOperation)
  x_InvalidOperation : PySem.W.excIn K c_InvalidOperation [.type "ValueError", .type "Exception", .type "BaseException", .type "object"] "ValueError.__new__" = true
  k_InvalidOperation : PySem.W.keepIn K (.ref c_InvalidOperation) = true
  b_InvalidOperation : PySem.W.subIn K (.ref c_InvalidOperation) (.type "BaseException") = some true
  t_InvalidOperation : PySem.W.typeIn K (.ref c_InvalidOperation) = some (.type "type")
  c_InvalidRatio : Addr
  g_InvalidRatio : mg "InvalidRatio" = some (.ref c_InvalidRatio)
  x_InvalidRatio : PySem.W.excIn K c_InvalidRatio [.type "ValueError", .type "Exception", .type "BaseException", .type "object"] "ValueError.__new__" = true
  k_InvalidRatio : PySem.W.keepIn K (.ref c_InvalidRatio) = true
  b_InvalidRatio : PySem.W.subIn K (.ref c_InvalidRatio) (.type "BaseException") = some true
  t_InvalidRatio : PySem.W.typeIn K (.ref c_InvalidRatio) = some (.type "type")
  e_InvalidOperation_InvalidOperation : PySem.W.exmOne K (.ref c_InvalidOperation) (.ref c_InvalidOperation) = some true
  e_InvalidOperation_InvalidRatio : PySem.W.exmOne K (.ref c_InvalidOperation) (.ref c_InvalidRatio) = some false
  e_InvalidRatio_InvalidOperation : PySem.W.exmOne K (.ref c_InvalidRatio) (.ref c_InvalidOperation) = some false
  e_InvalidRatio_InvalidRatio : PySem.W.exmOne K (.ref c_InvalidRatio) (.ref c_InvalidRatio) = some true
  q__law_right : Addr
  P__law_right : Addr
  q_law : Addr
  P_law : Addr
  nint_Ratio : PySem.W.subIn K (.ref c_Ratio) (.type "int") = some false
  ntup_Ratio : PySem.W.subIn K (.ref c_Ratio) (.type "tuple") = some false
  ne__law_right_law : P__law_right ≠ P_law
  a__law_dice : Addr
  d__law_dice : FuncData
  g__law_dice : mg "_law_dice" = some (.ref a__law_dice)
  F__law_dice : Fun K "_law_dice" "_law_dice" s__law_dice a__law_dice d__law_dice
  B__law_dice : Binds K d__law_dice ["_law_script", "_law_spot"] []
  a__law_roll : Addr
  d__law_roll : FuncData
  g__law_roll : mg "_law_roll" = some (.ref a__law_roll)
  F__law_roll : Fun K "_law_roll" "_law_roll" s__law_roll a__law_roll d__law_roll
  B__law_roll : Binds K d__law_roll ["_law_dice_here", "_law_total"] []
  a__law_pick : Addr
  d__law_pick : FuncData
  g__law_pick : mg "_law_pick" = some (.ref a__law_pick)
  F__law_pick : Fun K "_law_pick" "_law_pick" s__law_pick a__law_pick d__law_pick
  B__law_pick : Binds K d__law_pick ["_law_dice_here", "_law_items"] []
  a_is_integer : Addr
  d_is_integer : FuncData
  g_is_integer : mg "is_integer" = some (.ref a_is_integer)
  F_is_integer : Fun K "is_integer" "is_integer" s_is_integer a_is_integer d_is_integer
  B_is_integer : Binds K d_is_integer ["value"] []
  a_Ratio___init__ : Addr
  d_Ratio___init__ : FuncData
  F_Ratio___init__ : Fun K "__init__" "Ratio.__init__" s_Ratio___init__ a_Ratio___init__ d_Ratio___init__
  B_Ratio___init__ : Binds K d_Ratio___init__ ["self", "top", "bottom"] []
  K_Ratio : Mk K c_Ratio a_Ratio___init__
  a_Ratio_pair : Addr
  d_Ratio_pair : FuncData
  F_Ratio_pair : Fun K "pair" "Ratio.pair" s_Ratio_pair a_Ratio_pair d_Ratio_pair
  B_Ratio_pair : Binds K d_Ratio_pair ["self"] []
  p_Ratio_pair : Addr
  P_Ratio_pair : PropOf K c_Ratio "pair" p_Ratio_pair a_Ratio_pair
  a__law_told : Addr
  d__law_told : FuncData
  g__law_told : mg "_law_told" = some (.ref a__law_told)
  F__law_told : Fun K "_law_told" "_law_told" s__law_told a__law_told d__law_told
  B__law_told : Binds K d__law_told ["_law_call"] []
  a_Ratio___bool__ : Addr
  d_Ratio___bool__ : FuncData
  F_Ratio___bool__ : Fun K "__bool__" "Ratio.__bool__" s_Ratio___bool__ a_Ratio___bool__ d_Ratio___bool__
  B_Ratio___bool__ : Binds K d_Ratio___bool__ ["self"] []
  M_Ratio___bool__ : Meth K c_Ratio "__bool__" a_Ratio___bool__
  a_Ratio_over : Addr
  d_Ratio_over : FuncData
  F_Ratio_over : Fun K "over" "Ratio.over" s_Ratio_over a_Ratio_over d_Ratio_over
  B_Ratio_over : Binds K d_Ratio_over ["self", "other"] []
  M_Ratio_over : Meth K c_Ratio "over" a_Ratio_over
  a__is_ratios : Addr
  d__is_ratios : FuncData
  g__is_ratios : mg "_is_ratios" = some (.ref a__is_ratios)
  F__is_ratios : Fun K "_is_ratios" "_is_ratios" s__is_ratios a__is_ratios d__is_ratios
  B__is_ratios : Binds K d__is_ratios ["value"] []
  a_sum_of : Addr
  d_sum_of : FuncData
  g_sum_of : mg "sum_of" = some (.ref a_sum_of)
  F_sum_of : Fun K "sum_of" "sum_of" s_sum_of a_sum_of d_sum_of
  B_sum_of : Binds K d_sum_of ["ratios"] []
  a_greatest_of : Addr
  d_greatest_of : FuncData
  g_greatest_of : mg "greatest_of" = some (.ref a_greatest_of)
  F_greatest_of : Fun K "greatest_of" "greatest_of" s_greatest_of a_greatest_of d_greatest_of
  B_greatest_of : Binds K d_greatest_of ["ratios"] []
  a_integer_in : Addr
  d_integer_in : FuncData
  g_integer_in : mg "integer_in" = some (.ref a_integer_in)
  F_integer_in : Fun K "integer_in" "integer_in" s_integer_in a_integer_in d_integer_in
  B_integer_in : Binds K d_integer_in ["text"] []
  a__lowest : Addr
  d__lowest : FuncData
  g__lowest : mg "_lowest" = some (.ref a__lowest)
  F__lowest : Fun K "_lowest" "_lowest" s__lowest a__lowest d__lowest
  B__lowest : Binds K d__lowest ["top", "bottom"] []
  a_written : Addr
  d_written : FuncData
  g_written : mg "written" = some (.ref a_written)
  F_written : Fun K "written" "written" s_written a_written d_written
  B_written : Binds K d_written ["number"] []
  a_Ratio___str__ : Addr
  d_Ratio___str__ : FuncData
  F_Ratio___str__ : Fun K "__str__" "Ratio.__str__" s_Ratio___str__ a_Ratio___str__ d_Ratio___str__
  B_Ratio___str__ : Binds K d_Ratio___str__ ["self"] []
  M_Ratio___str__ : Meth K c_Ratio "__str__" a_Ratio___str__
  a_ratio_in : Addr
  d_ratio_in : FuncData
  g_ratio_in : mg "ratio_in" = some (.ref a_ratio_in)
  F_ratio_in : Fun K "ratio_in" "ratio_in" s_ratio_in a_ratio_in d_ratio_in
  B_ratio_in : Binds K d_ratio_in ["text"] []
  a_Ratio_of_text : Addr
  d_Ratio_of_text : FuncData
  F_Ratio_of_text : Fun K "of_text" "Ratio.of_text" s_Ratio_of_text a_Ratio_of_text d_Ratio_of_text
  B_Ratio_of_text : Binds K d_Ratio_of_text ["cls", "text"] []
  p_Ratio_of_text : Addr
  R_Ratio : ClX.CRead K c_Ratio (.type "type")
  Q_Ratio_of_text : ClX.CMet K c_Ratio (.type "type") "of_text" p_Ratio_of_text a_Ratio_of_text
  a__law_bent : Addr
  d__law_bent : FuncData
  g__law_bent : mg "_law_bent" = some (.ref a__law_bent)
  F__law_bent : Fun K "_law_bent" "_law_bent" s__law_bent a__law_bent d__law_bent
  B__law_bent : Binds K d__law_bent ["_law_dice_here", "_law_text"] []
  a__law_is_integer : Addr
  d__law_is_integer : FuncData
  g__law_is_integer : mg "_law_is_integer" = some (.ref a__law_is_integer)
  F__law_is_integer : Fun K "_law_is_integer" "_law_is_integer" s__law_is_integer a__law_is_integer d__law_is_integer
  B__law_is_integer : Binds K d__law_is_integer ["_law_text"] []
  a__law_lowest : Addr
  d__law_lowest : FuncData
  g__law_lowest : mg "_law_lowest" = some (.ref a__law_lowest)
  F__law_lowest : Fun K "_law_lowest" "_law_lowest" s__law_lowest a__law_lowest d__law_lowest
  B__law_lowest : Binds K d__law_lowest ["_law_top", "_law_bottom"] []
  a__law_read : Addr
  d__law_read : FuncData
  g__law_read : mg "_law_read" = some (.ref a__law_read)
  F__law_read : Fun K "_law_read" "_law_read" s__law_read a__law_read d__law_read
  B__law_read : Binds K d__law_read ["_law_text"] []
  a__law_right : Addr
  d__law_right : FuncData
  FC__law_right : FunC K "_law_right" "_law_right" s__law_right a__law_right d__law_right q__law_right
  g__law_right : mg "_law_right" = some (.ref a__law_right)
  F__law_right : Fun K "_law_right" "_law_right" s__law_right a__law_right d__law_right
  B__law_right : Binds K d__law_right ["_law_dice_here"] []
  a_law : Addr
  d_law : FuncData
  FC_law : FunC K "law" "law" s_law a_law d_law q_law
  g_law : mg "law" = some (.ref a_law)
  F_law : Fun K "law" "law" s_law a_law d_law
  B_law : Binds K d_law ["_law_script"] []
  b_abs : mg "abs" = none
  b_all : mg "all" = none
  b_bool : mg "bool" = none
  b_int : mg "int" = none
  b_isinstance : mg "isinstance" = none
  b_len : mg "len" = none
  b_max : mg "max" = none
  b_min : mg "min" = none
  b_range : mg "range" = none
  b_str : mg "str" = none
  b_tuple : mg "tuple" = none
  i_gcd : mg "gcd" = some (.builtin "math.gcd")
  t_BEYOND : Tok
  v_BEYOND : mg "BEYOND" = some (.int 1000000000000000000000000000000000000000000000000000000000000 t_BEYOND)
  t_MAX_FIGURES : Tok
  v_MAX_FIGURES : mg "MAX_FIGURES" = some (.int 60 t_MAX_FIGURES)
def lq__law_right : Str := (envOfC "_law_right" (defScope s__law_right) 0 0 .none).qual ++ "<lambda>"
def lq_law : Str := (envOfC "law" (defScope s_law) 0 0 .none).qual ++ "<lambda>"
def tabs {K : PySem.W.Frag} {mg : Str → Option Value} (T : Txt K mg) : List (Addr × Str) := [(T.P__law_right, lq__law_right), (T.P_law, lq_law)]
structure Tbs {K : PySem.W.Frag} {mg : Str → Option Value} (base : Heap) (T : Txt K mg) : Prop where
  t__law_right : LamX.TabB base mg T.q__law_right T.P__law_right
  t_law : LamX.TabB base mg T.q_law T.P_law
section
variable {K : PySem.W.Frag} {mg : Str → Option Value}
theorem mem__law_right {T : Txt K mg} : (T.P__law_right, lq__law_right) ∈ tabs T := .head _
theorem uniq__law_right (T : Txt K mg) : ∀ p ∈ tabs T, p.1 = T.P__law_right → p.2 = lq__law_right := by
  intro p hp h
  rcases List.mem_cons.mp hp with rfl | hp
  · rfl
  rcases List.mem_cons.mp hp with rfl | hp
  · exact absurd h.symm T.ne__law_right_law
  cases hp
theorem mem_law {T : Txt K mg} : (T.P_law, lq_law) ∈ tabs T := .tail _ (.head _)
theorem uniq_law (T : Txt K mg) : ∀ p ∈ tabs T, p.1 = T.P_law → p.2 = lq_law := by
  intro p hp h
  rcases List.mem_cons.mp hp with rfl | hp
  · exact absurd h T.ne__law_right_law
  rcases List.mem_cons.mp hp with rfl | hp
  · rfl
  cases hp
end
section
variable {P : Program} {w : World} {K : PySem.W.Frag} {mg : Str → Option Value} {base : Heap}
def sp__law_dice (K : PySem.W.Frag) : Sp := fun vs H Q _ => ∃ (a : Addr) (ns : List Int) (i : Nat), vs = [.ref a, .int i] ∧ SqL K H a (ns.map V.int) ∧ i ≤ 100 ∧
  ∀ (H' : Hp) (p : Addr) (o : HO), (∀ b u, H b = some u → H' b = some u) → H p = none → H' p = some o → Dice 0 o → Q (.ref p) H'
theorem dice_fits {c : Int} {i : Nat} (hi : i ≤ 100) (k : Int) (hk : 0 ≤ k ∧ k ≤ 1) : Dice 0 (.lst [.int (max 0 ((c.natAbs : Int) - 10 ^ Int.toNat 17) % (10 ^ Int.toNat 60 * 10 ^ Int.toNat 60)), .int ((c.natAbs : Int) % 10 ^ Int.toNat 58 % 2147483563 * 41 + 709 * i + 17 * k + 3), .int 0]) := by
  have h1 := Int.emod_nonneg (max 0 ((c.natAbs : Int) - 10 ^ Int.toNat 17)) (show (10 ^ Int.toNat 60 * 10 ^ Int.toNat 60 : Int) ≠ 0 by decide)
  have h2 := Int.emod_lt_of_pos (max 0 ((c.natAbs : Int) - 10 ^ Int.toNat 17)) (show (0 : Int) < 10 ^ Int.toNat 60 * 10 ^ Int.toNat 60 by decide)
  have h3 := Int.emod_nonneg ((c.natAbs : Int) % 10 ^ Int.toNat 58) (show (2147483563 : Int) ≠ 0 by decide)
  have h4 := Int.emod_lt_of_pos ((c.natAbs : Int) % 10 ^ Int.toNat 58) (show (0 : Int) < 2147483563 by decide)
  exact ⟨_, _, _, rfl, ⟨h1, Int.lt_trans h2 (by decide +kernel)⟩, ⟨by omega, Int.lt_of_le_of_lt (show _ ≤ (100000000000 : Int) by omega) (by decide)⟩, by decide, by decide⟩
theorem ok__law_dice (T : Txt K mg) : FnOk P w K mg base CX0 1 T.a__law_dice T.d__law_dice ["_law_script", "_law_spot"] (sp__law_dice K) := by
  refine T.F__law_dice.ok sc__law_dice (fun vs H Q E h => ?_) (fun cdv A outer s H vs Q E hr h => ?_)
  · obtain ⟨a, ns, i, rfl, _⟩ := h; rfl
  · obtain ⟨a, ns, i, rfl, hS, hi, k⟩ := h
    refine ⟨_, (pss_cons (ps_set (i := 2) sc__law_dice.nd rfl (by first | exact Or.inl rfl | exact Or.inr rfl) (peIf (pt_cmpR opLt (pev 1) (pe_callB caLen (by rfl) T.b_len (by decide +kernel) (pa_cons (pev 0) pa_nil)) (nomark _)) (pe_callTy caIntT (by rfl) T.b_int (by decide +kernel) (pa_cons (pe_ix ixU (pev 0) (pev 1) (fun _ _ => rfl)) pa_nil)) (pe_op opAdd (pe_op opMulT pe_int (pev 1)) pe_int)))
        (pss_cons (ps_set (i := 3) sc__law_dice.nd rfl (by first | exact Or.inl rfl | exact Or.inr rfl) (pe_op opMod (pe_callB caAbs (by rfl) T.b_abs (by decide +kernel) (pa_cons (pev 2) pa_nil)) (pe_op opPow pe_int pe_int)))
        (pss_cons (ps_set (i := 4) sc__law_dice.nd rfl (by first | exact Or.inl rfl | exact Or.inr rfl) (pe_callB (caMax rfl) (by rfl) T.b_max (by decide +kernel) (pa_cons pe_int (pa_cons (pe_op opSub (pe_callB caAbs (by rfl) T.b_abs (by decide +kernel) (pa_cons (pev 2) pa_nil)) (pe_op opPow pe_int pe_int)) pa_nil))))
        (pss_one (ps_ret (pe_lst (pa_cons (pe_op opMod (pev 4) (pe_op opMulT (pe_op opPow pe_int pe_int) (pe_op opPow pe_int pe_int))) (pa_cons (pe_op opAdd (pe_op opAdd (pe_op opAdd (pe_op opMulT (pe_op opMod (pev 3) pe_int) pe_int) (pe_op opMulT pe_int (pev 1))) (pe_op opMulT pe_int (pe_callTy caIntT (by rfl) T.b_int (by decide +kernel) (pa_cons (pe_cmpR opLt (pev 2) pe_int (nomark _)) pa_nil)))) pe_int) (pa_cons pe_int pa_nil))))))))), ?_⟩
    conv => whnf
    refine ⟨_, .inl hS, ?_⟩
    conv => whnf
    refine ⟨_, rfl, ?_⟩
    refine brD (fun ha => ?x) (fun ha => ?y)
    case' x =>
      conv => whnf
      obtain ⟨v, hv, ev⟩ := atI_lt (xs := ns.map V.int) (i := i) (by omega) ha
      obtain ⟨c, hc, rfl⟩ := List.mem_map.mp hv
      refine ⟨_, _, .inl hS, ev, ?_⟩
      clear ev hv hc
      conv => whnf
    case' y =>
      conv => whnf
      refine ⟨mulW 20 20 (by decide) (U.abs_lt (by omega) (by omega)), ?_⟩
      conv => whnf
      generalize 59 * (i : Int) + 13 = c
    all_goals
      refine ⟨⟨by decide, by decide, by decide⟩, ?_⟩
      conv => whnf
      refine ⟨by decide, ?_⟩
      conv => whnf
      refine ⟨⟨by decide, by decide, by decide⟩, ?_⟩
      conv => whnf
      refine ⟨⟨by decide, by decide, by decide⟩, ?_⟩
      conv => whnf
      refine ⟨⟨by decide, by decide, by decide⟩, ?_⟩
      conv => whnf
      refine ⟨mulW 250 250 (by decide) (by decide), ?_⟩
      conv => whnf
      refine ⟨by decide, ?_⟩
      conv => whnf
      refine ⟨by decide, ?_⟩
      conv => whnf
      have h3 := Int.emod_nonneg ((c.natAbs : Int) % 10 ^ Int.toNat 58) (show (2147483563 : Int) ≠ 0 by decide)
      have h4 := Int.emod_lt_of_pos ((c.natAbs : Int) % 10 ^ Int.toNat 58) (show (0 : Int) < 2147483563 by decide)
      refine ⟨mulW 64 64 (U.abs_lt h3 (by omega)) (by decide), ?_⟩
      conv => whnf
      refine ⟨mulW 64 64 (by decide) (U.abs_lt (by omega) (by omega)), ?_⟩
      conv => whnf
      refine ⟨mulW 64 64 (by decide) (by split <;> decide), ?_⟩
      conv => whnf
      refine ⟨small_ok (by simp), fun p hp => ?_⟩
      exact k _ p _ (fun b u e => by rw [upd_ne (ne_of_none e hp)]; exact e) hp upd_same (dice_fits hi _ (by split <;> decide))
def sp__law_roll (K : PySem.W.Frag) : Sp := fun vs H Q _ => ∃ (d : Addr) (n : Nat) (t : Int) (o : HO), vs = [.ref d, .int t] ∧ H d = some o ∧ Dice n o ∧ n ≤ 1000000 ∧ 1 ≤ t ∧ t < 2 ^ 5000 ∧
  ∀ (H' : Hp) (r : Int) (o' : HO), (∀ b u, H b = some u → b ≠ d → H' b = some u) → H' d = some o' → Dice (n + 1) o' → 0 ≤ r → r < t → Q (.int r) H'
theorem ok__law_roll (T : Txt K mg) : FnOk P w K mg base CX0 1 T.a__law_roll T.d__law_roll ["_law_dice_here", "_law_total"] (sp__law_roll K) := by
  refine T.F__law_roll.ok sc__law_roll (fun vs H Q E h => ?_) (fun cdv A outer s H vs Q E hr h => ?_)
  · obtain ⟨d, n, t, o, rfl, _⟩ := h; rfl
  · obtain ⟨d, n, t, o, rfl, hd, ⟨a, b, c, rfl, ⟨a0, a1⟩, ⟨b0, b1⟩, ⟨c0, c1⟩⟩, hn, t1, t2, k⟩ := h
    refine ⟨_, (pss_cons (psIf (pt_cmpR opGt (pe_ix ixU (pev 0) pe_int (fun _ _ => rfl)) pe_int (nomark _)) (pss_cons (ps_set (i := 2) sc__law_roll.nd rfl (by first | exact Or.inl rfl | exact Or.inr rfl) (pe_op opMod (pe_callTy caIntT (by rfl) T.b_int (by decide +kernel) (pa_cons (pe_ix ixU (pev 0) pe_int (fun _ _ => rfl)) pa_nil)) (pev 1)))
        (pss_cons (ps_asg (pe_op opDiv (pe_ix ixU (pev 0) pe_int (fun _ _ => rfl)) (pev 1)) (pg_sub (pev 0) pe_int set_list))
        (pss_one (ps_ret (pev 2))))) pss_nil)
        (pss_cons (ps_asg (pe_op opAdd (pe_ix ixU (pev 0) pe_int (fun _ _ => rfl)) pe_int) (pg_sub (pev 0) pe_int set_list))
        (pss_cons (ps_set (i := 3) sc__law_roll.nd rfl (by first | exact Or.inl rfl | exact Or.inr rfl) (pe_op opMod (pe_callTy caIntT (by rfl) T.b_int (by decide +kernel) (pa_cons (pe_op opAdd (pe_ix ixU (pev 0) pe_int (fun _ _ => rfl)) (pe_op opMulT pe_int (pe_ix ixU (pev 0) pe_int (fun _ _ => rfl)))) pa_nil)) pe_int))
        (pss_cons (ps_set (i := 4) sc__law_roll.nd rfl (by first | exact Or.inl rfl | exact Or.inr rfl) (pe_op opAdd (pe_op opMulT (pe_op opMod (pe_callTy caIntT (by rfl) T.b_int (by decide +kernel) (pa_cons (pe_op opAdd (pe_op opMulT (pev 3) (pev 3)) (pe_op opMulT pe_int (pe_ix ixU (pev 0) pe_int (fun _ _ => rfl)))) pa_nil)) pe_int) pe_int) (pev 3)))
        (pss_one (ps_ret (pe_op opMod (pe_callTy caIntT (by rfl) T.b_int (by decide +kernel) (pa_cons (pe_op opDiv (pev 4) pe_int) pa_nil)) (pev 1)))))))), ?_⟩
    conv => whnf
    refine ⟨_, _, .inl (SqL.of hd), rfl, ?_⟩
    conv => whnf
    refine ⟨_, rfl, ?_⟩
    refine brD (fun ha => ?_) (fun ha => ?_)
    · conv => whnf
      refine ⟨_, _, .inl (SqL.of hd), rfl, ?_⟩
      conv => whnf
      refine ⟨by omega, ?_⟩
      conv => whnf
      refine ⟨_, _, .inl (SqL.of hd), rfl, ?_⟩
      conv => whnf
      refine ⟨divW 5000 (by omega) (U.abs_lt (by omega) t2), ?_⟩
      conv => whnf
      refine ⟨_, _, _, _, rfl, rfl, hd, rfl, ?_⟩
      conv => whnf
      refine k _ _ _ (fun b u e n => by rw [upd_ne n]; exact e) upd_same ⟨a / t, b, c, rfl, ⟨Int.ediv_nonneg a0 (by omega), ?_⟩, ⟨b0, b1⟩, c0, by omega⟩ (Int.emod_nonneg _ (by omega)) (Int.emod_lt_of_pos _ (by omega))
      exact Int.lt_of_le_of_lt (Int.ediv_le_self _ a0) a1
    · conv => whnf
      refine ⟨_, _, .inl (SqL.of hd), rfl, ?_⟩
      conv => whnf
      refine ⟨_, _, _, _, rfl, rfl, hd, rfl, ?_⟩
      conv => whnf
      refine ⟨_, _, .inl (SqL.of upd_same), rfl, ?_⟩
      conv => whnf
      refine ⟨_, _, .inl (SqL.of upd_same), rfl, ?_⟩
      conv => whnf
      refine ⟨mulW 20 300 (by decide) (U.abs_lt (by omega) (by omega)), ?_⟩
      conv => whnf
      refine ⟨by decide, ?_⟩
      conv => whnf
      have hm := Int.emod_lt_of_pos (b + 8111 * (c + 1)) (show (0 : Int) < 2305843009213693723 by decide)
      have hm0 := Int.emod_nonneg (b + 8111 * (c + 1)) (show (2305843009213693723 : Int) ≠ 0 by decide)
      generalize (b + 8111 * (c + 1)) % 2305843009213693723 = x at hm hm0 ⊢
      refine ⟨mulW 64 64 (U.abs_lt hm0 (by omega)) (U.abs_lt hm0 (by omega)), ?_⟩
      conv => whnf
      refine ⟨_, _, .inl (SqL.of upd_same), rfl, ?_⟩
      conv => whnf
      refine ⟨mulW 20 300 (by decide) (U.abs_lt (by omega) (by omega)), ?_⟩
      conv => whnf
      refine ⟨by decide, ?_⟩
      conv => whnf
      have hy := Int.emod_lt_of_pos (x * x + 71 * (c + 1)) (show (0 : Int) < 2305843009213693669 by decide)
      have hy0 := Int.emod_nonneg (x * x + 71 * (c + 1)) (show (2305843009213693669 : Int) ≠ 0 by decide)
      generalize (x * x + 71 * (c + 1)) % 2305843009213693669 = y at hy hy0 ⊢
      refine ⟨mulW 64 64 (U.abs_lt hy0 (by omega)) (by decide), ?_⟩
      conv => whnf
      refine ⟨divW 20 (by decide) (by decide), ?_⟩
      conv => whnf
      refine ⟨by omega, ?_⟩
      conv => whnf
      exact k _ _ _ (fun b u e n => by rw [upd_ne n]; exact e) upd_same ⟨a, b, c + 1, rfl, ⟨a0, a1⟩, ⟨b0, b1⟩, by omega, by omega⟩ (Int.emod_nonneg _ (by omega)) (Int.emod_lt_of_pos _ (by omega))
def sp__law_pick (K : PySem.W.Frag) : Sp := fun vs H Q _ => ∃ (d : Addr) (n : Nat) (o : HO) (x : V) (L : List V), vs = [.ref d, x] ∧ H d = some o ∧ Dice n o ∧ n ≤ 1000000 ∧ PickOf K H d x L ∧ 0 < L.length ∧ L.length ≤ 100000 ∧
  ∀ (H' : Hp) (r : V) (o' : HO), (∀ b u, H b = some u → b ≠ d → H' b = some u) → H' d = some o' → Dice (n + 1) o' → r ∈ L → Q r H'
theorem ok__law_pick (T : Txt K mg) : FnOk P w K mg base CX0 2 T.a__law_pick T.d__law_pick ["_law_dice_here", "_law_items"] (sp__law_pick K) := by
  refine T.F__law_pick.ok sc__law_pick (fun vs H Q E h => ?_) (fun cdv A outer s H vs Q E hr h => ?_)
  · obtain ⟨d, n, o, x, L, rfl, _⟩ := h; rfl
  · obtain ⟨d, n, o, x, L, rfl, hd, D, hn, hp, l0, l1, k⟩ := h
    refine ⟨_, (pss_one (ps_ret (pe_ix ixU (pev 1) (pe_call (ok__law_roll T) (hr.mono (by decide)) (by rfl) T.g__law_roll T.F__law_roll.kp T.B__law_roll .nil pass0 (pa_cons (pev 0) (pa_cons (pe_callB caLen (by rfl) T.b_len (by decide +kernel) (pa_cons (pev 1) pa_nil)) pa_nil))) (fun _ _ => rfl)))), ?_⟩
    rcases hp with ⟨z, rfl, hz, rfl⟩ | ⟨p, rfl, ne, hp⟩
    · have el : z.length = z.cps.toList.length := by simp [Str.length]
      rw [List.length_map] at l0 l1
      conv => whnf
      refine ⟨small_ok (by omega), ?_⟩
      conv => whnf
      refine ⟨d, n, _, o, rfl, hd, D, hn, by omega, Int.lt_of_le_of_lt (show ((z.length : Nat) : Int) ≤ 100000 by omega) (by decide), fun H1 r o1 f1 g1 D1 r0 r1 => ?_⟩
      conv => whnf
      obtain ⟨c, hc, ec⟩ := atI_lt (xs := z.cps.toList) r0 (by omega)
      exact ⟨small_ok (by omega), c, ec, k _ _ _ f1 g1 D1 (List.mem_map.mpr ⟨c, hc, rfl⟩)⟩
    · conv => whnf
      refine ⟨L, hp, ?_⟩
      conv => whnf
      refine ⟨d, n, _, o, rfl, hd, D, hn, by omega, Int.lt_of_le_of_lt (show ((L.length : Nat) : Int) ≤ 100000 by omega) (by decide), fun H1 r o1 f1 g1 D1 r0 r1 => ?_⟩
      conv => whnf
      obtain ⟨v, hv, ev⟩ := atI_lt (xs := L) r0 r1
      exact ⟨L, v, hp.elim (fun q => .inl (sqlKeep f1 ne q)) (fun q => .inr (sqtKeep f1 ne q)), ev, k _ _ _ f1 g1 D1 hv⟩
/-- an integer that is let -/
def isIntV : V → Bool
  | .int i => decide (-(10 ^ 60) < i) && decide (i < 10 ^ 60)
  | _ => false
def sp_is_integer (K : PySem.W.Frag) (C : Addr) : Sp := fun vs H Q _ => ∃ (v : V), vs = [v] ∧ Ob K C H v ∧ Q (.bl (isIntV v)) H
theorem isIntV_not {K : PySem.W.Frag} {H : Hp} {v : V} {T : String} (h : Kd K H v T) (n : T ≠ "int") : isIntV v = false := by
  cases v with
  | int i => exact absurd h.ofInt n
  | _ => rfl
theorem ok_is_integer (T : Txt K mg) : FnOk P w K mg base CX0 1 T.a_is_integer T.d_is_integer ["value"] (sp_is_integer K T.c_Ratio) := by
  refine T.F_is_integer.ok sc_is_integer (fun vs H Q E h => ?_) (fun cdv A outer s H vs Q E hr h => ?_)
  · obtain ⟨v, rfl, _⟩ := h; rfl
  · obtain ⟨v, rfl, hk, k⟩ := h
    refine ⟨_, (pss_cons (psIf (PW.pt (pwOr (pt_not (ptV (pe_callB call_isi (by rfl) T.b_isinstance (by decide +kernel) (pa_cons (pev 0) (pa_cons (pe_bltn (v := .ty "int") (by rfl) T.b_int (by decide +kernel) rfl) pa_nil))))) (pw_or1 (ptV (pe_callB call_isi (by rfl) T.b_isinstance (by decide +kernel) (pa_cons (pev 0) (pa_cons (pe_bltn (v := .ty "bool") (by rfl) T.b_bool (by decide +kernel) rfl) pa_nil))))))) (pss_one (ps_ret pe_bl)) pss_nil)
        (pss_one (ps_ret (pe_chain opLt opLt (pe_un unNeg (pe_glob (v := .int 1000000000000000000000000000000000000000000000000000000000000) (by rfl) T.v_BEYOND ⟨_, rfl⟩)) (pev 0) (pe_glob (v := .int 1000000000000000000000000000000000000000000000000000000000000) (by rfl) T.v_BEYOND ⟨_, rfl⟩))))), ?_⟩
    rcases hk with ⟨S, hk⟩ | ⟨p, q, b, dx, rfl, hb⟩
    rotate_left
    · conv => whnf
      refine ⟨_, _, _, _, _, rfl, .ty _, T.o_Ratio.ty hb, kit_blt (by rfl) T.nint_Ratio, ?_⟩
      conv => whnf
      refine brT ?_
      conv => whnf
      refine brT ?_
      conv => whnf
      exact k
    conv => whnf
    refine ⟨_, _, _, _, _, rfl, .ty _, hk.1, kit_ty (kd_int hk.2), ?_⟩
    conv => whnf
    by_cases h1 : S = "int"
    · subst h1
      obtain ⟨i, rfl⟩ := hk.isInt
      refine brF ?_
      conv => whnf
      refine ⟨_, _, _, _, _, rfl, .ty _, hk.1, kit_ty (kd_bool hk.2), ?_⟩
      conv => whnf
      refine brF ?_
      conv => whnf
      refine ⟨_, rfl, ?_⟩
      refine ite2 (fun h => ?_) (fun h => ?_)
      · conv => whnf
        have e : isIntV (.int i) = decide (i < 1000000000000000000000000000000000000000000000000000000000000) := by
          show (decide _ && decide _) = _
          rw [show decide (-(10 ^ 60 : Int) < i) = true from h]; rfl
        rw [e] at k
        exact k
      · conv => whnf
        have e : isIntV (.int i) = false := by
          show (decide _ && decide _) = _
          rw [show decide (-(10 ^ 60 : Int) < i) = false from Bool.eq_false_iff.mpr h]; rfl
        rw [e] at k
        exact k
    · by_cases h2 : S = "bool"
      · subst h2
        refine brF ?_
        conv => whnf
        refine ⟨_, _, _, _, _, rfl, .ty _, hk.1, kit_ty (kd_bool hk.2), ?_⟩
        conv => whnf
        refine brT ?_
        conv => whnf
        rw [isIntV_not hk h1] at k
        exact k
      · refine brY (by simp [h1, h2]) ?_
        conv => whnf
        refine brT ?_
        conv => whnf
        rw [isIntV_not hk h1] at k
        exact k
/-- two values that make a ratio -/
def goodV : V → V → Bool
  | v, .int q => isIntV v && isIntV (.int q) && decide (1 ≤ q)
  | _, _ => false
def sp_Ratio___init__ (K : PySem.W.Frag) (C CR : Addr) : Sp := fun vs H Q E => ∃ (a dx : Addr) (v w : V), vs = [.ref a, v, w] ∧ H a = some (.ins C dx []) ∧ Ob K C H v ∧ Ob K C H w ∧
  (goodV v w = false → E (.ref CR) none H) ∧
  ∀ p q, v = .int p → w = .int q → goodV v w = true → ∀ H' : Hp, (∀ b u, H b = some u → b ≠ a → H' b = some u) → H' a = some (.ins C dx (rf (p / gcdI p q) (q / gcdI p q))) → Q .non H'
theorem good_int {p q : Int} (hp : -(10 ^ 60) < p ∧ p < 10 ^ 60) (hq : 0 < q ∧ q < 10 ^ 60) : goodV (.int p) (.int q) = true := by
  show ((decide (-(10 ^ 60) < p) && decide (p < 10 ^ 60)) && (decide (-(10 ^ 60) < q) && decide (q < 10 ^ 60)) && decide (1 ≤ q)) = true
  simp only [Bool.and_eq_true, decide_eq_true_iff]
  omega
theorem good_of {v w : V} (h : goodV v w = true) : ∃ p q, v = .int p ∧ w = .int q ∧ (-(10 ^ 60) < p ∧ p < 10 ^ 60) ∧ (0 < q ∧ q < 10 ^ 60) := by
  cases w with
  | int q =>
    cases v with
    | int p =>
      have h2 : ((decide (-(10 ^ 60) < p) && decide (p < 10 ^ 60)) && (decide (-(10 ^ 60) < q) && decide (q < 10 ^ 60)) && decide (1 ≤ q)) = true := h
      simp only [Bool.and_eq_true, decide_eq_true_iff] at h2
      exact ⟨p, q, rfl, rfl, h2.1.1, by omega, h2.1.2.2⟩
    | _ => simp [goodV, isIntV] at h
  | _ => simp [goodV] at h
section
variable {K : PySem.W.Frag} {C CR : Addr} {H : Hp} {R : Hp → Prop} {E : XK} {x dx : Addr}
theorem make_up (hx : H x = none) (hd : H dx = none) (ne : dx ≠ x) : Gr H (upd (upd H dx (.own x)) x (.ins C dx [])) := fun b u eb => by rw [upd_ne (ne_of_none eb hx), upd_ne (ne_of_none eb hd)]; exact eb
/-- a ratio is made -/
theorem make_R {p q : Int} (hx : H x = none) (hd : H dx = none) (ne : dx ≠ x) (hp : -(10 ^ 60) < p ∧ p < 10 ^ 60) (hq : 0 < q ∧ q < 10 ^ 60) (k : ∀ H' : Hp, Gr H H' → IsR C H' (.ref x) (p / gcdI p q) (q / gcdI p q) → R H') :
    sp_Ratio___init__ K C CR (.ref x :: ([.int p, .int q] ++ [])) (upd (upd H dx (.own x)) x (.ins C dx [])) (fun v H2 => v = .non ∧ R H2) E :=
  ⟨x, dx, .int p, .int q, rfl, upd_same, .inl ⟨_, Kd.int p⟩, .inl ⟨_, Kd.int q⟩, (fun z => absurd (good_int hp hq) (by rw [z]; decide)), fun p' q' e1 e2 _ H' s e => ⟨rfl, k _ (fun b u eb => s b u (make_up hx hd ne b u eb) (ne_of_none eb hx)) (V.int.inj e1 ▸ V.int.inj e2 ▸ ⟨x, dx, rfl, e⟩)⟩⟩
/-- no ratio is made -/
theorem make_bad {v w : V} (hx : H x = none) (hd : H dx = none) (ne : dx ≠ x) (ov : Ob K C H v) (ow : Ob K C H w) (g : goodV v w = false) (k : ∀ H' : Hp, Gr H H' → E (.ref CR) none H') :
    sp_Ratio___init__ K C CR (.ref x :: ([v, w] ++ [])) (upd (upd H dx (.own x)) x (.ins C dx [])) (fun v H2 => v = .non ∧ R H2) E :=
  ⟨x, dx, v, w, rfl, upd_same, ov.up (make_up hx hd ne), ow.up (make_up hx hd ne), fun _ => k _ (make_up hx hd ne), fun _ _ _ _ z => absurd z (by rw [g]; decide)⟩
end
theorem ok_Ratio___init__ (T : Txt K mg) : FnOk P w K mg base (L2.CX P w) 2 T.a_Ratio___init__ T.d_Ratio___init__ ["self", "top", "bottom"] (sp_Ratio___init__ K T.c_Ratio T.c_InvalidRatio) := by
  refine T.F_Ratio___init__.okX sc_Ratio___init__ (fun vs H Q E h => ?_) (fun cdv A outer s H vs Q E hr h => ?_)
  · obtain ⟨a, dx, v, w, rfl, _⟩ := h; rfl
  · obtain ⟨a, dx, v, w, rfl, ha, hv, hw, kE, k⟩ := h
    refine ⟨_, (pss_cons (psIf (PW.pt (pwOr (pt_not (ptV (pe_call (ok_is_integer T) (hr.mono (by decide)) (by rfl) T.g_is_integer T.F_is_integer.kp T.B_is_integer .nil pass0 (pa_cons (pev 1) pa_nil)))) (pwOr (pt_not (ptV (pe_call (ok_is_integer T) (hr.mono (by decide)) (by rfl) T.g_is_integer T.F_is_integer.kp T.B_is_integer .nil pass0 (pa_cons (pev 2) pa_nil)))) (pw_or1 (pt_cmpR opLt (pev 2) pe_int (nomark _)))))) (pss_one (ps_raise rfl (takes_of rfl rfl rfl rfl) (pmk_own PySem.F.excBase_ValueError T.x_InvalidRatio T.g_InvalidRatio T.k_InvalidRatio (raises_own T.b_InvalidRatio T.t_InvalidRatio) (by exact rfl)))) pss_nil)
        (pss_cons (ps_set (i := 3) sc_Ratio___init__.nd rfl (by first | exact Or.inl rfl | exact Or.inr rfl) (pe_callBfun cr_gcd (by rfl) T.i_gcd (pa_cons (pev 1) (pa_cons (pev 2) pa_nil))))
        (pss_cons (ps_fld (pev 0) (pe_op opDiv (pev 1) (pev 3)) rfl)
        (pss_one (ps_fld (pev 0) (pe_op opDiv (pev 2) (pev 3)) rfl))))), ?_⟩
    by_cases hg : goodV v w = true
    rotate_left
    · have hg : goodV v w = false := Bool.eq_false_iff.mpr hg
      have kF := kE hg
      conv => whnf
      refine ⟨v, rfl, hv, ?_⟩
      conv => whnf
      refine br2 (fun h1 => ?_) (fun h1 => ?_)
      · conv => whnf
        refine brT ?_
        exact kF
      have h1 : isIntV v = true := by simpa using h1
      conv => whnf
      refine ⟨w, rfl, hw, ?_⟩
      conv => whnf
      refine br2 (fun h2 => ?_) (fun h2 => ?_)
      · conv => whnf
        refine brT ?_
        exact kF
      have h2 : isIntV w = true := by simpa using h2
      cases w with
      | int q =>
        conv => whnf
        refine ⟨_, rfl, ?_⟩
        refine brY (decide_eq_true ?_) ?_
        · have z : (isIntV v && isIntV (.int q) && decide (1 ≤ q)) = false := hg
          rw [h1, h2] at z
          have := of_decide_eq_false z
          omega
        exact kF
      | _ => cases h2
    obtain ⟨p, q, rfl, rfl, ⟨p0, p1⟩, q0, q1⟩ := good_of hg
    have k := k p q rfl rfl hg
    have g0 := gcdI_pos (a := p) q0
    have g1 := gcdI_le (a := p) q0
    have gb : (gcdI p q).natAbs < 2 ^ 200 := U.abs_lt (by omega) (by omega)
    have ip : isIntV (.int p) = true := by
      show (decide (-(10 ^ 60) < p) && decide (p < 10 ^ 60)) = true
      simp only [Bool.and_eq_true, decide_eq_true_iff]; exact ⟨p0, p1⟩
    have iq : isIntV (.int q) = true := by
      show (decide (-(10 ^ 60) < q) && decide (q < 10 ^ 60)) = true
      simp only [Bool.and_eq_true, decide_eq_true_iff]; exact ⟨by omega, q1⟩
    conv => whnf
    refine ⟨_, rfl, hv, ?_⟩
    rw [ip]
    conv => whnf
    refine brF ?_
    conv => whnf
    refine ⟨_, rfl, hw, ?_⟩
    rw [iq]
    conv => whnf
    refine brF ?_
    conv => whnf
    refine ⟨_, rfl, ?_⟩
    refine brN (decide_eq_false (by omega)) ?_
    conv => whnf
    refine ⟨_, _, rfl, ?_⟩
    conv => whnf
    refine ⟨divW 200 g0 gb, ?_⟩
    conv => whnf
    refine ⟨a, T.c_Ratio, dx, _, rfl, ha, T.o_Ratio.cl, T.f_Ratio__top, by decide, ?_⟩
    conv => whnf
    refine ⟨divW 200 g0 gb, ?_⟩
    conv => whnf
    refine ⟨a, T.c_Ratio, dx, _, rfl, upd_same, T.o_Ratio.cl, T.f_Ratio__bottom, (by show 1 < 1000; decide), ?_⟩
    conv => whnf
    refine k _ (fun b u e n => by rw [upd_ne n, upd_ne n]; exact e) ?_
    rw [upd_same]
    exact congrArg (fun l => some (HO.ins T.c_Ratio dx l)) (rf_mk _ _)
def sp_Ratio_pair (K : PySem.W.Frag) (C : Addr) : Sp := fun vs H Q _ => ∃ (v : V) (p q : Int), vs = [v] ∧ IsR C H v p q ∧ ∀ (x : Addr) (H' : Hp), Gr H H' → H x = none → H' x = some (.tup [.int p, .int q]) → Q (.ref x) H'
theorem own_pair {K : PySem.W.Frag} {C a : Addr} {H : Hp} {Q : VK} {E : XK} {N D : Int} {k : Nat} (h : RV C H (.ref a) N D k) (q : ∀ (r s : Int) (x : Addr) (H' : Hp), Gr H H' → H x = none → TupAt H' (.ref x) r s → Val r s N D → Sm k r s → Q (.ref x) H') :
    ∃ b dx fs, V.ref a = V.ref b ∧ H b = some (.ins C dx fs) ∧ sp_Ratio_pair K C [.ref b] H Q E := by
  obtain ⟨p, r, i, v, s⟩ := h
  obtain ⟨_, dx, z, e1⟩ := id i
  cases z
  exact ⟨a, dx, _, rfl, e1, _, p, r, rfl, i, fun x H' g n e => q p r x H' g n ⟨x, rfl, e⟩ v s⟩
theorem ok_Ratio_pair (T : Txt K mg) : FnOk P w K mg base CX0 1 T.a_Ratio_pair T.d_Ratio_pair ["self"] (sp_Ratio_pair K T.c_Ratio) := by
  refine T.F_Ratio_pair.ok sc_Ratio_pair (fun vs H Q E h => ?_) (fun cdv A outer s H vs Q E hr h => ?_)
  · obtain ⟨v, p, q, rfl, _⟩ := h; rfl
  · obtain ⟨v, p, q, rfl, ⟨a, dx, rfl, ha⟩, k⟩ := h
    refine ⟨_, (pss_one (ps_ret (pe_tup (pa_cons (pe_fld (pev 0) rfl) (pa_cons (pe_fld (pev 0) rfl) pa_nil))))), ?_⟩
    conv => whnf
    refine ⟨a, T.c_Ratio, dx, _, _, rfl, ha, T.o_Ratio.cl, T.f_Ratio__top, rf_lt _ _, ?_⟩
    conv => whnf
    refine ⟨a, T.c_Ratio, dx, _, _, rfl, ha, T.o_Ratio.cl, T.f_Ratio__bottom, rf_lb _ _, ?_⟩
    conv => whnf
    exact ⟨small_ok (by simp), fun x hx => k x _ (Gr.rfl'.up hx) hx upd_same⟩

def sp_Ratio___bool__ (K : PySem.W.Frag) (C : Addr) : Sp := fun vs H Q _ => ∃ (v : V) (p q : Int), vs = [v] ∧ IsR C H v p q ∧ Q (.bl (decide (p ≠ 0))) H
theorem ok_Ratio___bool__ (T : Txt K mg) : FnOk P w K mg base CX0 1 T.a_Ratio___bool__ T.d_Ratio___bool__ ["self"] (sp_Ratio___bool__ K T.c_Ratio) := by
  refine T.F_Ratio___bool__.ok sc_Ratio___bool__ (fun vs H Q E h => ?_) (fun cdv A outer s H vs Q E hr h => ?_)
  · obtain ⟨v, p, q, rfl, _⟩ := h; rfl
  · obtain ⟨v, p, q, rfl, ⟨a, dx, rfl, ha⟩, k⟩ := h
    refine ⟨_, (pss_one (ps_ret (pe_callTy caBool (by rfl) T.b_bool (by decide +kernel) (pa_cons (pe_fld (pev 0) rfl) pa_nil)))), ?_⟩
    conv => whnf
    refine ⟨a, T.c_Ratio, dx, _, _, rfl, ha, T.o_Ratio.cl, T.f_Ratio__top, rf_lt _ _, ?_⟩
    exact k
def sp_Ratio_over (K : PySem.W.Frag) (C CR CO : Addr) : Sp := fun vs H _ E => ∃ (v w : V), vs = [v, w] ∧ (((∃ S, Kd K H w S) ∧ E (.ref CR) none H) ∨ (∃ q, IsR C H w 0 q) ∧ E (.ref CO) none H)
theorem ok_Ratio_over (T : Txt K mg) : FnOk P w K mg base (L2.CX P w) 2 T.a_Ratio_over T.d_Ratio_over ["self", "other"] (sp_Ratio_over K T.c_Ratio T.c_InvalidRatio T.c_InvalidOperation) := by
  refine T.F_Ratio_over.okX sc_Ratio_over (fun vs H Q E h => ?_) (fun cdv A outer s H vs Q E hr h => ?_)
  · obtain ⟨v, w, rfl, _⟩ := h; rfl
  · obtain ⟨v, w, rfl, h⟩ := h
    refine ⟨_, (pss_cons (psIf (pt_not (ptV (pe_callB call_isi (by rfl) T.b_isinstance (by decide +kernel) (pa_cons (pev 1) (pa_cons (pe_glob (v := .ref T.c_Ratio) (by rfl) T.g_Ratio rfl) pa_nil))))) (pss_one (ps_raise rfl (takes_of rfl rfl rfl rfl) (pmk_own PySem.F.excBase_ValueError T.x_InvalidRatio T.g_InvalidRatio T.k_InvalidRatio (raises_own T.b_InvalidRatio T.t_InvalidRatio) (by exact rfl)))) pss_nil)
        (pss_cons (psIf (pt_not (ptO T.M_Ratio___bool__ (ok_Ratio___bool__ T) (hr.mono (by decide)) T.B_Ratio___bool__ pass0 (pev 1))) (pss_one (ps_raise rfl (takes_of rfl rfl rfl rfl) (pmk_own PySem.F.excBase_ValueError T.x_InvalidOperation T.g_InvalidOperation T.k_InvalidOperation (raises_own T.b_InvalidOperation T.t_InvalidOperation) (by exact rfl)))) pss_nil)
        pss_never)), ?_⟩
    rcases h with ⟨⟨S, hw⟩, k⟩ | ⟨⟨q', hw⟩, k⟩
    · conv => whnf
      refine ⟨_, _, _, _, _, rfl, .own _, hw.1, T.o_Ratio.no hw.2, ?_⟩
      conv => whnf
      refine brT ?_
      exact k
    · obtain ⟨b, dy, rfl, hb⟩ := id hw
      conv => whnf
      refine ⟨_, _, _, _, _, rfl, .own _, T.o_Ratio.ty hb, own_self, ?_⟩
      conv => whnf
      refine brF ?_
      conv => whnf
      refine ⟨b, dy, _, rfl, hb, _, 0, q', rfl, hw, ?_⟩
      conv => whnf
      refine ⟨_, rfl, ?_⟩
      conv => whnf
      refine brT ?_
      exact k
/-- x is a ratio, as b tells -/
def IsB (K : PySem.W.Frag) (C : Addr) (H : Hp) (x : V) (b : Bool) : Prop := match b with | true => ∃ p q, IsR C H x p q | false => ∃ S, Kd K H x S
theorem IsB.up {K : PySem.W.Frag} {C : Addr} {H H' : Hp} {x : V} {b : Bool} (h : IsB K C H x b) (g : Gr H H') : IsB K C H' x b := by
  cases b with
  | true => obtain ⟨p, q, h⟩ := h; exact ⟨p, q, h.up g⟩
  | false => obtain ⟨S, h⟩ := h; exact ⟨S, h.up g⟩
/-- no tuple, or a tuple whose items bs tells of -/
def TupB (K : PySem.W.Frag) (C : Addr) (H : Hp) (v : V) (b : Bool) : Prop := (b = false ∧ ((∃ S, Kd K H v S ∧ S ≠ "tuple") ∨ ∃ p q, IsR C H v p q)) ∨ ∃ (a : Addr) (xs : List V) (bs : List Bool), v = .ref a ∧ H a = some (.tup xs) ∧ xs.length ≤ 1000000 ∧ PySem.Paired (IsB K C H) xs bs ∧ b = bs.all id
theorem paired_up {K : PySem.W.Frag} {C : Addr} {H H' : Hp} (g : Gr H H') : ∀ {xs : List V} {bs : List Bool}, PySem.Paired (IsB K C H) xs bs → PySem.Paired (IsB K C H') xs bs
  | _, _, .nil => .nil
  | _, _, .cons h r => .cons (h.up g) (paired_up g r)
theorem TupB.up {K : PySem.W.Frag} {C : Addr} {H H' : Hp} {v : V} {b : Bool} (h : TupB K C H v b) (g : Gr H H') : TupB K C H' v b := by
  rcases h with ⟨e, ⟨S, h, n⟩ | ⟨p, q, h⟩⟩ | ⟨a, xs, bs, e, h, l, pr, eb⟩
  · exact .inl ⟨e, .inl ⟨S, h.up g, n⟩⟩
  · exact .inl ⟨e, .inr ⟨p, q, h.up g⟩⟩
  · exact .inr ⟨a, xs, bs, e, g _ _ h, l, paired_up g pr, eb⟩
def sp__is_ratios (K : PySem.W.Frag) (C : Addr) : Sp := fun vs H Q _ => ∃ (v : V) (b : Bool), vs = [v] ∧ TupB K C H v b ∧ ∀ H' : Hp, Gr H H' → Q (.bl b) H'
theorem ok__is_ratios (T : Txt K mg) : FnOk P w K mg base CX0 1 T.a__is_ratios T.d__is_ratios ["value"] (sp__is_ratios K T.c_Ratio) := by
  refine T.F__is_ratios.ok sc__is_ratios (fun vs H Q E h => ?_) (fun cdv A outer s H vs Q E hr h => ?_)
  · obtain ⟨v, b, rfl, _⟩ := h; rfl
  · obtain ⟨v, b, rfl, h, k⟩ := h
    refine ⟨_, (pss_one (ps_ret (peAnd (pe_callB call_isi (by rfl) T.b_isinstance (by decide +kernel) (pa_cons (pev 0) (pa_cons (pe_bltn (v := .ty "tuple") (by rfl) T.b_tuple (by decide +kernel) rfl) pa_nil))) (pe_one (pe_callB (caAll rfl) (by rfl) T.b_all (by decide +kernel) (pa_cons (pe_lc (own := [("one", 1)]) (g := gName 1) (tt := tYes) (te := (tCB (rIsi K) (tCons (uV 1) (tCons (tC (.ref T.c_Ratio)) tNil)))) rfl sc__is_ratios.nd (pi_tup (pev 0)) (blkOk_by (own := [("one", 1)]) (N := ["value", "one"]) (sc := defScope s__is_ratios) (by decide +kernel)) (fun _ _ _ _ _ => pg_name (i := 1) sc__is_ratios.nd rfl (by first | exact Or.inl rfl | exact Or.inr rfl)) (fun _ _ _ _ _ => pts_nil) (fun _ _ _ _ _ => (pe_callB call_isi (by rfl) T.b_isinstance (by decide +kernel) (pa_cons (pev 1) (pa_cons (pe_glob (v := .ref T.c_Ratio) (by rfl) T.g_Ratio rfl) pa_nil))))) pa_nil)))))), ?_⟩
    rcases h with ⟨rfl, h⟩ | ⟨a, xs, bs, rfl, ha, hl, hp, rfl⟩
    · have k := k H Gr.rfl'
      rcases h with ⟨S, hk, n⟩ | ⟨p, q, b, dx, rfl, hb⟩
      · conv => whnf
        refine ⟨_, _, _, _, _, rfl, .ty _, hk.1, kit_ty (kd_tuple hk.2), ?_⟩
        conv => whnf
        refine brN (by simp [n]) ?_
        exact k
      · conv => whnf
        refine ⟨_, _, _, _, _, rfl, .ty _, T.o_Ratio.ty hb, kit_blt (by rfl) T.ntup_Ratio, ?_⟩
        conv => whnf
        refine brF ?_
        exact k
    have ka : Kd K H (.ref a) "tuple" := Kd.tup ha
    have hlen := hp.length
    conv => whnf
    refine ⟨_, _, _, _, _, rfl, .ty _, ka.1, kit_ty (kd_tuple ka.2), ?_⟩
    conv => whnf
    refine brT ?_
    conv => whnf
    refine ⟨a, rfl, ⟨_, SqT.of ha⟩, fun D hD => ?_⟩
    refine lc_tup (xs := xs) (fun i Hm => Gr H Hm ∧ Hm D = some (.lst ((bs.take i).map V.bl))) ⟨Gr.rfl'.up hD, upd_same⟩ (fun _ _ _ L => SqT.of (L.1 _ _ ha)) ?_ ?_
    · rintro j x Hm hx' ⟨g, e⟩
      have hj := (List.getElem?_eq_some_iff.mp hx').1
      obtain ⟨bj, hbj⟩ : ∃ bj, bs[j]? = some bj := ⟨_, List.getElem?_eq_getElem (by omega)⟩
      have hx := (idx_of hp j x bj hx' hbj).up g
      conv => whnf
      refine ⟨rfl, ?_⟩
      conv => whnf
      have nd : ∀ b u, H b = some u → b ≠ D := fun b u eb z => by rw [z, hD] at eb; cases eb
      have fin : Gr H (upd Hm D (.lst ((bs.take j).map V.bl ++ [V.bl bj]))) ∧ upd Hm D (.lst ((bs.take j).map V.bl ++ [V.bl bj])) D = some (.lst ((bs.take (j + 1)).map V.bl)) := by
        refine ⟨fun b u eb => by rw [upd_ne (nd b u eb)]; exact g b u eb, ?_⟩
        rw [upd_same, List.take_add_one, hbj, List.map_append]
        rfl
      cases bj with
      | true =>
        obtain ⟨p, q, b, dx, rfl, hb⟩ := hx
        refine ⟨_, _, _, _, _, rfl, .own _, T.o_Ratio.ty hb, own_self, ?_⟩
        exact ⟨_, e, small_lt (by rw [List.length_map, List.length_take]; omega), fin⟩
      | false =>
        obtain ⟨S, hk⟩ := hx
        refine ⟨_, _, _, _, _, rfl, .own _, hk.1, T.o_Ratio.no hk.2, ?_⟩
        exact ⟨_, e, small_lt (by rw [List.length_map, List.length_take]; omega), fin⟩
    · rintro Hm ⟨g, e⟩
      conv => whnf
      rw [hlen, List.take_length] at e
      exact ⟨D, _, rfl, SqL.of e, k _ g⟩
def sp_sum_of (K : PySem.W.Frag) (C CR : Addr) : Sp := fun vs H _ E => ∃ v : V, vs = [v] ∧ TupB K C H v false ∧ ∀ H' : Hp, Gr H H' → E (.ref CR) none H'
theorem ok_sum_of (T : Txt K mg) : FnOk P w K mg base (L2.CX P w) 2 T.a_sum_of T.d_sum_of ["ratios"] (sp_sum_of K T.c_Ratio T.c_InvalidRatio) := by
  refine T.F_sum_of.okX sc_sum_of (fun vs H Q E h => ?_) (fun cdv A outer s H vs Q E hr h => ?_)
  · obtain ⟨v, rfl, _⟩ := h; rfl
  · obtain ⟨v, rfl, h, k⟩ := h
    refine ⟨_, (pss_cons (psIf (pt_not (ptV (pe_call (ok__is_ratios T) (hr.mono (by decide)) (by rfl) T.g__is_ratios T.F__is_ratios.kp T.B__is_ratios .nil pass0 (pa_cons (pev 0) pa_nil)))) (pss_one (ps_raise rfl (takes_of rfl rfl rfl rfl) (pmk_own PySem.F.excBase_ValueError T.x_InvalidRatio T.g_InvalidRatio T.k_InvalidRatio (raises_own T.b_InvalidRatio T.t_InvalidRatio) (by exact rfl)))) pss_nil)
        pss_never), ?_⟩
    conv => whnf
    refine ⟨_, _, rfl, h, fun H' g => ?_⟩
    conv => whnf
    refine brT ?_
    exact k _ g
def sp_greatest_of (K : PySem.W.Frag) (C CR CO : Addr) : Sp := fun vs H _ E => ∃ v : V, vs = [v] ∧ ((TupB K C H v false ∧ ∀ H' : Hp, Gr H H' → E (.ref CR) none H') ∨ (∃ a, v = .ref a ∧ H a = some (.tup [])) ∧ ∀ H' : Hp, Gr H H' → E (.ref CO) none H')
theorem ok_greatest_of (T : Txt K mg) : FnOk P w K mg base (L2.CX P w) 2 T.a_greatest_of T.d_greatest_of ["ratios"] (sp_greatest_of K T.c_Ratio T.c_InvalidRatio T.c_InvalidOperation) := by
  refine T.F_greatest_of.okX sc_greatest_of (fun vs H Q E h => ?_) (fun cdv A outer s H vs Q E hr h => ?_)
  · obtain ⟨v, rfl, _⟩ := h; rfl
  · obtain ⟨v, rfl, h⟩ := h
    refine ⟨_, (pss_cons (psIf (pt_not (ptV (pe_call (ok__is_ratios T) (hr.mono (by decide)) (by rfl) T.g__is_ratios T.F__is_ratios.kp T.B__is_ratios .nil pass0 (pa_cons (pev 0) pa_nil)))) (pss_one (ps_raise rfl (takes_of rfl rfl rfl rfl) (pmk_own PySem.F.excBase_ValueError T.x_InvalidRatio T.g_InvalidRatio T.k_InvalidRatio (raises_own T.b_InvalidRatio T.t_InvalidRatio) (by exact rfl)))) pss_nil)
        (pss_cons (psIf (pt_not (ptV (pev 0))) (pss_one (ps_raise rfl (takes_of rfl rfl rfl rfl) (pmk_own PySem.F.excBase_ValueError T.x_InvalidOperation T.g_InvalidOperation T.k_InvalidOperation (raises_own T.b_InvalidOperation T.t_InvalidOperation) (by exact rfl)))) pss_nil)
        pss_never)), ?_⟩
    rcases h with ⟨h, k⟩ | ⟨⟨a, rfl, ha⟩, k⟩
    · conv => whnf
      refine ⟨_, _, rfl, h, fun H' g => ?_⟩
      conv => whnf
      refine brT ?_
      exact k _ g
    · conv => whnf
      refine ⟨_, true, rfl, .inr ⟨a, [], [], rfl, ha, by decide, .nil, rfl⟩, fun H' g => ?_⟩
      conv => whnf
      refine brF ?_
      conv => whnf
      refine ⟨false, .inr (.inl ⟨_, SqT.of (g _ _ ha), rfl⟩), ?_⟩
      conv => whnf
      refine brT ?_
      exact k _ g
def sp_integer_in (K : PySem.W.Frag) : Sp := fun vs H Q _ => ∃ x : Str, vs = [.str x] ∧ x.length ≤ 1000000 ∧ (∀ n, IsNum x n → Q (.int n) H) ∧ ((∀ n, ¬ IsNum x n) → Q .non H)
theorem ok_integer_in (T : Txt K mg) : FnOk P w K mg base CX0 1 T.a_integer_in T.d_integer_in ["text"] (sp_integer_in K) := by
  refine T.F_integer_in.ok sc_integer_in (fun vs H Q E h => ?_) (fun cdv A outer s H vs Q E hr h => ?_)
  · obtain ⟨x, rfl, _⟩ := h; rfl
  · obtain ⟨x, rfl, hx, k1, k2⟩ := h
    refine ⟨_, (pss_cons (ps_set (i := 1) sc_integer_in.nd rfl (by first | exact Or.inl rfl | exact Or.inr rfl) (pe_bm PySem.F.plainAttrs_str PySem.F.slot_str_removeprefix PySem.F.type_str_removeprefix mt_removeprefix (pev 0) (pa_cons pe_str pa_nil)))
        (pss_cons (psIf (PW.pt (pwOr (pt_not (ptV (pe_m0 PySem.F.slot_str_isascii PySem.F.type_str_isascii mt_isascii (pev 1)))) (pwOr (pt_not (ptV (pe_m0 PySem.F.slot_str_isdigit PySem.F.type_str_isdigit mt_isdigit (pev 1)))) (pw_or1 (pt_cmpR opGt (pe_callB caLen (by rfl) T.b_len (by decide +kernel) (pa_cons (pev 1) pa_nil)) (pe_glob (v := .int 60) (by rfl) T.v_MAX_FIGURES ⟨_, rfl⟩) (nomark _)))))) (pss_one (ps_ret pe_non)) pss_nil)
        (pss_cons (ps_set (i := 2) sc_integer_in.nd rfl (by first | exact Or.inl rfl | exact Or.inr rfl) (pe_callTy caIntT (by rfl) T.b_int (by decide +kernel) (pa_cons (pev 0) pa_nil)))
        (pss_one (ps_ret (peIf (pt_cmpR (opEq (hu64 hr)) (pe_callTy caStr (by rfl) T.b_str (by decide +kernel) (pa_cons (pev 2) pa_nil)) (pev 0) (nomark _)) (pev 2) pe_non)))))), ?_⟩
    have hz := sizeLine_eq
    have eb := removeprefix_minus x
    have no1 : (Txt.isascii (Txt.removeprefix x (Str.ofString "-")) = false ∨ Txt.isdigit (Txt.removeprefix x (Str.ofString "-")) = false ∨ 60 < (Txt.removeprefix x (Str.ofString "-")).length) → ∀ n, ¬ IsNum x n := by
      rintro h n ⟨h1, rfl⟩
      obtain ⟨a, b, c⟩ := num_figs' h1
      rcases h with h | h | h
      · rw [a] at h; cases h
      · rw [b] at h; cases h
      · omega
    have lb : (Txt.removeprefix x (Str.ofString "-")).length ≤ x.length := by
      rw [U.len_list, eb, U.len_list]
      unfold behind
      split
      · rename_i r e; rw [e]; simp
      · exact Nat.le_refl _
    have ll : x.length ≤ (Txt.removeprefix x (Str.ofString "-")).length + 1 := by
      rw [U.len_list x, U.len_list (Txt.removeprefix x (Str.ofString "-")), eb]
      unfold behind
      split
      · rename_i r e; rw [e]; simp
      · omega
    conv => whnf
    refine ⟨rfl, ?_⟩
    conv => whnf
    refine ⟨x, _, rfl, rfl, by omega, ?_⟩
    conv => whnf
    refine ⟨⟨_, rfl⟩, _, rfl, rfl, trivial, ?_⟩
    conv => whnf
    refine br2 (fun ha => ?_) (fun ha => ?_)
    · conv => whnf
      refine brT ?_
      conv => whnf
      exact k2 (no1 (.inl (by simpa using ha)))
    have ha : Txt.isascii (Txt.removeprefix x (Str.ofString "-")) = true := by simpa using ha
    conv => whnf
    refine ⟨⟨_, rfl⟩, _, rfl, rfl, trivial, ?_⟩
    conv => whnf
    refine br2 (fun hd => ?_) (fun hd => ?_)
    · conv => whnf
      refine brT ?_
      conv => whnf
      exact k2 (no1 (.inr (.inl (by simpa using hd))))
    have hd : Txt.isdigit (Txt.removeprefix x (Str.ofString "-")) = true := by simpa using hd
    conv => whnf
    refine ⟨small_ok (by omega), ?_⟩
    conv => whnf
    refine ⟨_, rfl, ?_⟩
    refine br2 (fun hl => ?_) (fun hl => ?_)
    · conv => whnf
      have hl := of_decide_eq_true hl
      exact k2 (no1 (.inr (.inr (by omega))))
    have hl' : (Txt.removeprefix x (Str.ofString "-")).length ≤ 60 := by
      have hl := of_decide_eq_false hl
      omega
    have hf : Figs (behind x.cps.toList) := by
      have := (isdigit_iff _ ((isascii_iff _).mp ha)).mp hd
      rw [eb] at this
      exact this
    obtain ⟨m, hm, hb⟩ := int_of_figs hf (by rw [← eb, ← U.len_list]; exact hl')
    conv => whnf
    refine ⟨m, hm, by omega, ?_⟩
    conv => whnf
    refine ⟨num_fits (Nat.lt_of_lt_of_le hb (by decide)), ?_⟩
    conv => whnf
    refine ⟨_, rfl, ?_⟩
    refine brD (fun h => ?_) (fun h => ?_)
    · conv => whnf
      exact k1 m ⟨hb, (V.str.inj h).symm⟩
    · conv => whnf
      refine k2 ?_
      rintro n ⟨h1, rfl⟩
      rw [intText_num h1] at hm
      cases hm
      exact h rfl
def sp__lowest (K : PySem.W.Frag) (C : Addr) : Sp := fun vs H Q _ => ∃ (t b : Int), vs = [.int t, .int b] ∧ 0 < b ∧ b.natAbs < 2 ^ 8000 ∧ 
  ∀ (v : V) (H' : Hp), Gr H H' → IsR C H' v (t / gcdI t b) (b / gcdI t b) → Q v H'
theorem ok__lowest (T : Txt K mg) : FnOk P w K mg base CX0 4 T.a__lowest T.d__lowest ["top", "bottom"] (sp__lowest K T.c_Ratio) := by
  refine T.F__lowest.ok sc__lowest (fun vs H Q E h => ?_) (fun cdv A outer s H vs Q E hr h => ?_)
  · obtain ⟨t, b, rfl, _⟩ := h; rfl
  · obtain ⟨t, b, rfl, b0, b1, k⟩ := h
    refine ⟨_, (pss_cons (ps_set (i := 2) sc__lowest.nd rfl (by first | exact Or.inl rfl | exact Or.inr rfl) (pe_make T.K_Ratio (ok_Ratio___init__ T) (hr.mono (by decide)) (by rfl) T.g_Ratio T.B_Ratio___init__ .nil (passes_call takes_none5 (fun _ _ _ _ h => h)) (pa_cons pe_int (pa_cons pe_int pa_nil))))
        (pss_cons (ps_set (i := 3) sc__lowest.nd rfl (by first | exact Or.inl rfl | exact Or.inr rfl) (pe_callBfun cr_gcd (by rfl) T.i_gcd (pa_cons (pev 0) (pa_cons (pev 1) pa_nil))))
        (pss_cons (ps_fld (pev 2) (pe_op opDiv (pev 0) (pev 3)) rfl)
        (pss_cons (ps_fld (pev 2) (pe_op opDiv (pev 1) (pev 3)) rfl)
        (pss_one (ps_ret (pev 2))))))), ?_⟩
    have g0 := gcdI_pos (a := t) b0
    have g1 := gcdI_le (a := t) b0
    have gb : (gcdI t b).natAbs < 2 ^ 8000 := Nat.lt_of_le_of_lt (by omega) b1
    conv => whnf
    intro x dx hx hd ne
    refine make_R (CR := T.c_InvalidRatio) (R := fun H2 => _) hx hd ne (by decide) (by decide) fun H1 s1 r1 => ?_
    obtain ⟨x', dx', ex, e1'⟩ := r1
    cases ex
    conv => whnf
    refine ⟨_, _, rfl, ?_⟩
    conv => whnf
    refine ⟨divW 8000 g0 gb, ?_⟩
    conv => whnf
    refine ⟨x, T.c_Ratio, dx', _, rfl, e1', T.o_Ratio.cl, T.f_Ratio__top, (by show 2 < 1000; decide), ?_⟩
    rw [rf_top]
    conv => whnf
    refine ⟨divW 8000 g0 gb, ?_⟩
    conv => whnf
    refine ⟨x, T.c_Ratio, dx', _, rfl, upd_same, T.o_Ratio.cl, T.f_Ratio__bottom, (by show 2 < 1000; decide), ?_⟩
    rw [rf_bot, upd_upd]
    conv => whnf
    refine k _ _ (fun c u ec => ?_) ⟨x, dx', rfl, upd_same⟩
    rw [upd_ne (ne_of_none ec hx)]
    exact s1 c u ec
def sp_written (K : PySem.W.Frag) : Sp := fun vs H Q _ => ∃ (n : Int), vs = [.int n] ∧ n.natAbs < 10 ^ 60 ∧ ∀ H' : Hp, Gr H H' → Q (.str (toString n)) H'
theorem ok_written (T : Txt K mg) : FnOk P w K mg base CX0 1 T.a_written T.d_written ["number"] (sp_written K) := by
  refine T.F_written.ok sc_written (fun vs H Q E h => ?_) (fun cdv A outer s H vs Q E hr h => ?_)
  · obtain ⟨n, rfl, _⟩ := h; rfl
  · obtain ⟨n, rfl, hn, k⟩ := h
    refine ⟨_, (pss_cons (ps_set (i := 1) sc_written.nd rfl (by first | exact Or.inl rfl | exact Or.inr rfl) (peIf (pt_cmpR opLt (pev 0) pe_int (nomark _)) pe_str pe_str))
        (pss_cons (ps_set (i := 2) sc_written.nd rfl (by first | exact Or.inl rfl | exact Or.inr rfl) (pe_callB caAbs (by rfl) T.b_abs (by decide +kernel) (pa_cons (pev 0) pa_nil)))
        (pss_cons (ps_set (i := 3) sc_written.nd rfl (by first | exact Or.inl rfl | exact Or.inr rfl) (pe_lst pa_nil))
        (pss_cons (ps_while PassesOwn.never (pt_cmpR opGe (pev 2) (pe_glob (v := .int 1000000000000000000000000000000000000000000000000000000000000) (by rfl) T.v_BEYOND ⟨_, rfl⟩) (nomark _)) pss_never)
        (pss_cons (ps_expr (pe_bm PySem.F.plainAttrs_list PySem.F.slot_list_append PySem.F.type_list_append mt_append (pev 3) (pa_cons (pe_joined (.cons (pe_fmt (pev 1)) (.cons (pe_fmt (pev 2)) .nil))) pa_nil)))
        (pss_one (ps_ret (pe_bm PySem.F.plainAttrs_str PySem.F.slot_str_join PySem.F.type_str_join mt_join pe_str (pa_cons (pe_revL (pev 3)) pa_nil))))))))), ?_⟩
    have hs := num_short hn
    have hl : n.natAbs.log2 < 1920 := num_fits (Nat.lt_of_lt_of_le hn (by decide))
    have ha : (Str.ofString (toString ((n.natAbs : Nat) : Int))).length ≤ 100 := num_short (by omega)
    conv => whnf
    refine ⟨_, rfl, ?_⟩
    refine brD (fun h => ?x) (fun h => ?y)
    case' x => have e := abs_neg h
    case' y => have e := abs_pos h
    all_goals
      conv => whnf
      refine ⟨small_ok (by simp), fun p hp => ?_⟩
      conv => whnf
      refine ⟨fun m σ H' => σ = [some (.int n), _, _, _, _] ∧ H' = _, ⟨0, ⟨rfl, rfl⟩⟩, ?_⟩
      rintro m σ H' ⟨rfl, rfl⟩
      conv => whnf
      refine ⟨_, rfl, ?_⟩
      refine ite2 (fun q => absurd (of_decide_eq_true q) (by omega)) (fun _ => ?_)
      conv => whnf
      refine ⟨.inl ⟨rfl, _, SqL.of upd_same⟩, ?_⟩
      conv => whnf
      refine .inl ⟨_, rfl, small_ok (by decide), ?_⟩
      conv => whnf
      refine ⟨_, rfl, by rw [e_app]; exact small_ok (by decide), ?_⟩
      conv => whnf
      refine .inr ⟨_, rfl, (by rw [Int.natAbs_natCast]; exact hl), ?_⟩
      conv => whnf
      refine ⟨_, rfl, by rw [e_app, e]; exact small_ok (by omega), ?_⟩
      conv => whnf
      rw [e_app, e]
      refine ⟨p, _, _, rfl, rfl, upd_same, small_lt (by simp), ?_⟩
      conv => whnf
      refine ⟨rfl, ?_⟩
      conv => whnf
      refine ⟨p, _, rfl, SqL.of upd_same, fun r hr2 => ?_⟩
      conv => whnf
      refine ⟨_, r, [Str.ofString (toString n)], rfl, rfl, .inl (SqL.of upd_same), ?_, ?_⟩
      · show ([(Str.ofString (toString n)).length].sum + _) ≤ _
        rw [show (Str.ofString "").length = 0 by decide]
        simp only [List.sum_cons, List.sum_nil]
        omega
      · rw [join1]
        rw [upd_upd] at hr2 ⊢
        exact k _ ((Gr.rfl'.up hp).up hr2)
def sp_Ratio___str__ (K : PySem.W.Frag) (C : Addr) : Sp := fun vs H Q _ => ∃ (v : V) (p q : Int), vs = [v] ∧ IsR C H v p q ∧ p.natAbs < 10 ^ 60 ∧ q.natAbs < 10 ^ 60 ∧ ∀ H' : Hp, Gr H H' → Q (.str (rtext p q)) H'
theorem ok_Ratio___str__ (T : Txt K mg) : FnOk P w K mg base CX0 2 T.a_Ratio___str__ T.d_Ratio___str__ ["self"] (sp_Ratio___str__ K T.c_Ratio) := by
  refine T.F_Ratio___str__.ok sc_Ratio___str__ (fun vs H Q E h => ?_) (fun cdv A outer s H vs Q E hr h => ?_)
  · obtain ⟨v, p, q, rfl, _⟩ := h; rfl
  · obtain ⟨v, p, q, rfl, ⟨a, dx, rfl, ha⟩, hp, hq, k⟩ := h
    refine ⟨_, (pss_cons (psIf (pt_cmpR (opEq (hu64 hr)) (pe_fld (pev 0) rfl) pe_int (nomark _)) (pss_one (ps_ret (pe_joined1 (pe_fmt (pe_call (ok_written T) (hr.mono (by decide)) (by rfl) T.g_written T.F_written.kp T.B_written .nil pass0 (pa_cons (pe_fld (pev 0) rfl) pa_nil)))))) pss_nil)
        (pss_one (ps_ret (pe_joined (.cons (pe_fmt (pe_call (ok_written T) (hr.mono (by decide)) (by rfl) T.g_written T.F_written.kp T.B_written .nil pass0 (pa_cons (pe_fld (pev 0) rfl) pa_nil))) (.cons pe_str (.cons (pe_fmt (pe_call (ok_written T) (hr.mono (by decide)) (by rfl) T.g_written T.F_written.kp T.B_written .nil pass0 (pa_cons (pe_fld (pev 0) rfl) pa_nil))) .nil))))))), ?_⟩
    have h1 := num_short hp
    have h2 := num_short hq
    have l1 : (Str.ofString "/").length = 1 := by decide
    unfold rtext at k
    conv => whnf
    refine ⟨a, T.c_Ratio, dx, _, _, rfl, ha, T.o_Ratio.cl, T.f_Ratio__bottom, rf_lb _ _, ?_⟩
    conv => whnf
    refine ⟨_, rfl, ?_⟩
    refine brD (fun h => ?_) (fun h => ?_)
    · have e := V.int.inj h
      rw [if_pos e] at k
      conv => whnf
      refine ⟨a, T.c_Ratio, dx, _, _, rfl, ha, T.o_Ratio.cl, T.f_Ratio__top, rf_lt _ _, ?_⟩
      conv => whnf
      refine ⟨_, rfl, hp, fun H1 g1 => .inl ⟨_, rfl, small_ok (by omega), ?_⟩⟩
      exact k _ g1
    · have e : ¬ q = 1 := fun z => h (by rw [z])
      rw [if_neg e] at k
      conv => whnf
      refine ⟨a, T.c_Ratio, dx, _, _, rfl, ha, T.o_Ratio.cl, T.f_Ratio__top, rf_lt _ _, ?_⟩
      conv => whnf
      refine ⟨_, rfl, hp, fun H1 g1 => .inl ⟨_, rfl, small_ok (by omega), ?_⟩⟩
      conv => whnf
      refine ⟨_, rfl, by rw [e_app]; exact small_ok (by omega), ?_⟩
      conv => whnf
      refine ⟨_, rfl, by rw [e_app, app_len]; exact small_ok (by omega), ?_⟩
      conv => whnf
      refine ⟨a, T.c_Ratio, dx, _, _, rfl, g1 _ _ ha, T.o_Ratio.cl, T.f_Ratio__bottom, rf_lb _ _, ?_⟩
      conv => whnf
      refine ⟨_, rfl, hq, fun H2 g2 => .inl ⟨_, rfl, small_ok (by omega), ?_⟩⟩
      conv => whnf
      refine ⟨_, rfl, by rw [e_app, app_len, app_len]; exact small_ok (by omega), ?_⟩
      conv => whnf
      rw [e_app]
      exact k _ (g1.trans g2)
def sp_ratio_in (K : PySem.W.Frag) (C : Addr) : Sp := fun vs H Q _ => ∃ (v : V) (S : String), vs = [v] ∧ Kd K H v S ∧ (∀ x, v = .str x → x.length ≤ 1000) ∧
  (∀ x p q w H', v = .str x → IsRat x p q → Gr H H' → IsR C H' w p q → Q w H') ∧ ((∀ x p q, v = .str x → ¬ IsRat x p q) → ∀ H', Gr H H' → Q .non H')
theorem ok_ratio_in (T : Txt K mg) : FnOk P w K mg base CX0 5 T.a_ratio_in T.d_ratio_in ["text"] (sp_ratio_in K T.c_Ratio) := by
  refine T.F_ratio_in.ok sc_ratio_in (fun vs H Q E h => ?_) (fun cdv A outer s H vs Q E hr h => ?_)
  · obtain ⟨v, S, rfl, _⟩ := h; rfl
  · obtain ⟨v, S, rfl, hk, hx, k1, k2⟩ := h
    refine ⟨_, (pss_cons (psIf (pt_not (ptV (pe_callB call_isi (by rfl) T.b_isinstance (by decide +kernel) (pa_cons (pev 0) (pa_cons (pe_bltn (v := .ty "str") (by rfl) T.b_str (by decide +kernel) rfl) pa_nil))))) (pss_one (ps_ret pe_non)) pss_nil)
        (pss_cons (ps_asg (pe_bm PySem.F.plainAttrs_str PySem.F.slot_str_partition PySem.F.type_str_partition mt_partition (pev 0) (pa_cons pe_str pa_nil)) (pg_tup rfl (pgs_cons (pg_name (i := 1) sc_ratio_in.nd rfl (by first | exact Or.inl rfl | exact Or.inr rfl)) (pgs_cons (pg_name (i := 2) sc_ratio_in.nd rfl (by first | exact Or.inl rfl | exact Or.inr rfl)) (pgs_cons (pg_name (i := 3) sc_ratio_in.nd rfl (by first | exact Or.inl rfl | exact Or.inr rfl)) pgs_nil)))))
        (pss_cons (ps_set (i := 4) sc_ratio_in.nd rfl (by first | exact Or.inl rfl | exact Or.inr rfl) (pe_call (ok_integer_in T) (hr.mono (by decide)) (by rfl) T.g_integer_in T.F_integer_in.kp T.B_integer_in .nil pass0 (pa_cons (pev 1) pa_nil)))
        (pss_cons (ps_set (i := 5) sc_ratio_in.nd rfl (by first | exact Or.inl rfl | exact Or.inr rfl) (peIf (ptV (pev 2)) (pe_call (ok_integer_in T) (hr.mono (by decide)) (by rfl) T.g_integer_in T.F_integer_in.kp T.B_integer_in .nil pass0 (pa_cons (pev 3) pa_nil)) pe_int))
        (pss_cons (psIf (PW.pt (pwOr (pt_cmpR op_isN (pev 4) pe_non (nomark _)) (pwOr (pt_cmpR op_isN (pev 5) pe_non (nomark _)) (pw_or1 (pt_cmpR opLt (pev 5) pe_int (nomark _)))))) (pss_one (ps_ret pe_non)) pss_nil)
        (pss_cons (ps_set (i := 6) sc_ratio_in.nd rfl (by first | exact Or.inl rfl | exact Or.inr rfl) (pe_call (ok__lowest T) (hr.mono (by decide)) (by rfl) T.g__lowest T.F__lowest.kp T.B__lowest .nil pass0 (pa_cons (pev 4) (pa_cons (pev 5) pa_nil))))
        (pss_one (ps_ret (peIf (pt_cmpR (opEq (hu64 hr)) (pe_callTy (caStrO T.M_Ratio___str__ (ok_Ratio___str__ T) (hr.mono (by decide)) T.B_Ratio___str__ pass0) (by rfl) T.b_str (by decide +kernel) (pa_cons (pev 6) pa_nil)) (pev 0) (nomark _)) (pev 6) pe_non))))))))), ?_⟩
    have hz := sizeLine_eq
    conv => whnf
    refine ⟨_, _, _, _, _, rfl, .ty _, hk.1, kit_ty (kd_str hk.2), ?_⟩
    conv => whnf
    by_cases h1 : S = "str"
    rotate_left
    · refine brY (by simp [h1]) ?_
      conv => whnf
      exact k2 (fun x p q e => absurd (by rw [e] at hk; exact hk.ofStr) h1) H (fun _ _ e => e)
    subst h1
    obtain ⟨x, rfl⟩ := hk.isStr
    have hx := hx x rfl
    have k2 : (∀ p q, ¬ IsRat x p q) → ∀ H', Gr H H' → _ := fun h => k2 fun x' p q e => by
      cases e; exact h p q
    have k1 := fun p q w H' => k1 x p q w H' rfl
    refine brF ?_
    conv => whnf
    refine ⟨rfl, ?_⟩
    conv => whnf
    refine ⟨x, _, rfl, rfl, rfl, by omega, fun t ht => ?_⟩
    conv => whnf
    refine ⟨t, _, rfl, SqT.of upd_same, rfl, ?_⟩
    have gt : Gr H (upd H t (.tup [.str (Txt.partition x (Str.ofString "/")).1, .str (Txt.partition x (Str.ofString "/")).2.1, .str (Txt.partition x (Str.ofString "/")).2.2])) := Gr.rfl'.up ht
    revert gt
    rcases cut_slash x with ⟨hs, ep⟩ | ⟨a, b, hs, ex, ep⟩
    · rw [ep]
      intro gt
      conv => whnf
      refine ⟨_, _, rfl, ?_⟩
      conv => whnf
      refine ⟨_, _, rfl, ?_⟩
      conv => whnf
      refine ⟨_, _, rfl, ?_⟩
      conv => whnf
      refine ⟨rfl, ?_⟩
      conv => whnf
      refine ⟨x, rfl, by omega, fun n hn => ?_, fun hn => ?_⟩
      · have key : ∀ p q, IsRat x p q → p = n ∧ q = 1 := fun p q hr => by
          obtain ⟨a1, a2⟩ := ratA hs hr
          exact ⟨num_uniq a2 hn, a1⟩
        have hm : (0 : Int) < 1 := by decide
        have hn1 := hn.1
        conv => whnf
        refine ⟨small_ok (by rw [empty_len]; omega), ?_⟩
        refine brN (by rw [empty_len]; rfl) ?_
        conv => whnf
        refine ⟨rfl, ?_⟩
        refine ⟨_, rfl, ?_⟩
        refine brN rfl ?_
        conv => whnf
        refine ⟨rfl, ?_⟩
        conv => whnf
        refine ⟨_, rfl, ?_⟩
        refine brN rfl ?_
        conv => whnf
        refine ⟨_, rfl, ?_⟩
        refine brN rfl ?_
        conv => whnf
        refine ⟨n, 1, rfl, by decide, by decide, fun v H1 g1 hv => ?_⟩
        obtain ⟨c, dx, rfl, ha⟩ := hv
        conv => whnf
        obtain ⟨l1, _, l2, l3⟩ := low_of (a := n) hm
        have l4 := l1.pos
        refine ⟨dx, _, ha, _, _, _, rfl, ⟨c, dx, rfl, ha⟩, by omega, by omega, fun H2 g2 => ⟨⟨_, rfl⟩, ?_⟩⟩
        conv => whnf
        refine ⟨_, rfl, ?_⟩
        refine brD (fun h => ?_) (fun h => ?_)
        · conv => whnf
          exact k1 _ _ _ _ ⟨l1, by omega, by omega, (V.str.inj h).symm⟩ (gt.trans (g1.trans g2)) ⟨c, dx, rfl, g2 _ _ ha⟩
        · conv => whnf
          refine k2 (fun p q hr => ?_) _ (gt.trans (g1.trans g2))
          obtain ⟨rfl, rfl⟩ := key p q hr
          obtain ⟨s1, s2⟩ := low_self hr.1
          rw [s1, s2] at h
          exact h (by rw [← hr.2.2.2])
      · conv => whnf
        refine ⟨small_ok (by rw [empty_len]; omega), ?_⟩
        refine brN (by rw [empty_len]; rfl) ?_
        conv => whnf
        refine ⟨rfl, ?_⟩
        refine ⟨_, rfl, ?_⟩
        refine brY rfl ?_
        conv => whnf
        refine brT ?_
        conv => whnf
        exact k2 (fun p q hr => hn p (ratA hs hr).2) _ gt
    · rw [ep]
      have hla : a.length ≤ x.length ∧ b.length ≤ x.length := by
        rw [ex, app_len, app_len]; omega
      clear ep
      intro gt
      conv => whnf
      refine ⟨_, _, rfl, ?_⟩
      conv => whnf
      refine ⟨_, _, rfl, ?_⟩
      conv => whnf
      refine ⟨_, _, rfl, ?_⟩
      conv => whnf
      refine ⟨rfl, ?_⟩
      conv => whnf
      refine ⟨a, rfl, by omega, fun n hn => ?_, fun hn => ?_⟩
      · have hn1 := hn.1
        conv => whnf
        refine ⟨small_ok (by rw [slash_len]; omega), ?_⟩
        refine brY (by rw [slash_len]; rfl) ?_
        conv => whnf
        refine ⟨b, rfl, by omega, fun m hm0 => ?_, fun hm0 => ?_⟩
        · have hm1 := hm0.1
          have key : ∀ p q, IsRat x p q → p = n ∧ q = m := fun p q hr => by
            obtain ⟨_, a1, a2⟩ := ratB hs ex hr
            exact ⟨num_uniq a1 hn, num_uniq a2 hm0⟩
          conv => whnf
          refine ⟨rfl, ?_⟩
          refine ⟨_, rfl, ?_⟩
          refine brN rfl ?_
          conv => whnf
          refine ⟨rfl, ?_⟩
          conv => whnf
          refine ⟨_, rfl, ?_⟩
          refine brN rfl ?_
          conv => whnf
          refine ⟨_, rfl, ?_⟩
          refine brD (fun hq => ?_) (fun hq => ?_)
          · conv => whnf
            exact k2 (fun p q hr => by
              have := (key p q hr).2
              have := hr.1.pos
              omega) _ gt
          have hm : 0 < m := by omega
          conv => whnf
          refine ⟨n, m, rfl, hm, Nat.lt_of_lt_of_le hm1 (by decide), fun v H1 g1 hv => ?_⟩
          obtain ⟨c, dx, rfl, ha⟩ := hv
          conv => whnf
          obtain ⟨l1, _, l2, l3⟩ := low_of (a := n) hm
          have l4 := l1.pos
          refine ⟨dx, _, ha, _, _, _, rfl, ⟨c, dx, rfl, ha⟩, by omega, by omega, fun H2 g2 => ⟨⟨_, rfl⟩, ?_⟩⟩
          conv => whnf
          refine ⟨_, rfl, ?_⟩
          refine brD (fun h => ?_) (fun h => ?_)
          · conv => whnf
            exact k1 _ _ _ _ ⟨l1, by omega, by omega, (V.str.inj h).symm⟩ (gt.trans (g1.trans g2)) ⟨c, dx, rfl, g2 _ _ ha⟩
          · conv => whnf
            refine k2 (fun p q hr => ?_) _ (gt.trans (g1.trans g2))
            obtain ⟨rfl, rfl⟩ := key p q hr
            obtain ⟨s1, s2⟩ := low_self hr.1
            rw [s1, s2] at h
            exact h (by rw [← hr.2.2.2])
        · conv => whnf
          refine ⟨rfl, ?_⟩
          refine ⟨_, rfl, ?_⟩
          refine brN rfl ?_
          conv => whnf
          refine ⟨rfl, ?_⟩
          conv => whnf
          refine ⟨_, rfl, ?_⟩
          refine brY rfl ?_
          conv => whnf
          refine brT ?_
          conv => whnf
          exact k2 (fun p q hr => hm0 q (ratB hs ex hr).2.2) _ gt
      · conv => whnf
        refine ⟨small_ok (by rw [slash_len]; omega), ?_⟩
        refine brY (by rw [slash_len]; rfl) ?_
        conv => whnf
        refine ⟨b, rfl, by omega, fun m hm0 => ?_, fun hm0 => ?_⟩
        all_goals
          conv => whnf
          refine ⟨rfl, ?_⟩
          refine ⟨_, rfl, ?_⟩
          refine brY rfl ?_
          conv => whnf
          refine brT ?_
          conv => whnf
          exact k2 (fun p q hr => hn p (ratB hs ex hr).2.1) _ gt
def sp_Ratio_of_text (K : PySem.W.Frag) (C CR : Addr) : Sp := fun vs H Q E => ∃ (v : V) (S : String), vs = [.ref C, v] ∧ Kd K H v S ∧ (∀ x, v = .str x → x.length ≤ 1000) ∧
  (∀ x p q w H', v = .str x → IsRat x p q → Gr H H' → IsR C H' w p q → Q w H') ∧ ((∀ x p q, v = .str x → ¬ IsRat x p q) → ∀ H', Gr H H' → E (.ref CR) none H')
theorem ok_Ratio_of_text (T : Txt K mg) : FnOk P w K mg base (L2.CX P w) 6 T.a_Ratio_of_text T.d_Ratio_of_text ["cls", "text"] (sp_Ratio_of_text K T.c_Ratio T.c_InvalidRatio) := by
  refine T.F_Ratio_of_text.okX sc_Ratio_of_text (fun vs H Q E h => ?_) (fun cdv A outer s H vs Q E hr h => ?_)
  · obtain ⟨v, S, rfl, _⟩ := h; rfl
  · obtain ⟨v, S, rfl, hk, hl, k1, k2⟩ := h
    refine ⟨_, (pss_cons (ps_set (i := 2) sc_Ratio_of_text.nd rfl (by first | exact Or.inl rfl | exact Or.inr rfl) (pe_call (ok_ratio_in T) (hr.mono (by decide)) (by rfl) T.g_ratio_in T.F_ratio_in.kp T.B_ratio_in .nil pass0 (pa_cons (pev 1) pa_nil)))
        (pss_cons (psIf (pt_cmpR op_isN (pev 2) pe_non (nomark _)) (pss_one (ps_raise rfl (takes_of rfl rfl rfl rfl) (pmk_own PySem.F.excBase_ValueError T.x_InvalidRatio T.g_InvalidRatio T.k_InvalidRatio (raises_own T.b_InvalidRatio T.t_InvalidRatio) (by exact rfl)))) pss_nil)
        (pss_one (ps_ret (pev 2))))), ?_⟩
    conv => whnf
    refine ⟨_, _, rfl, hk, hl, fun x p' q' v H1 e hr g1 hv => ?_, fun no H1 g1 => ?_⟩
    · obtain ⟨c, dx, rfl, ha⟩ := id hv
      conv => whnf
      refine ⟨rfl, ?_⟩
      conv => whnf
      refine ⟨_, rfl, ?_⟩
      refine brN rfl ?_
      conv => whnf
      exact k1 x p' q' _ H1 e hr g1 hv
    · conv => whnf
      refine ⟨rfl, ?_⟩
      conv => whnf
      refine ⟨_, rfl, ?_⟩
      refine brY rfl ?_
      exact k2 no H1 g1
def sp__law_bent (K : PySem.W.Frag) : Sp := fun vs H Q _ => ∃ (d : Addr) (n : Nat) (o : HO) (x : Str), vs = [.ref d, .str x] ∧ H d = some o ∧ Dice n o ∧ n ≤ 900000 ∧ x.length ≤ 500 ∧ Asc x ∧
  ∀ (H' : Hp) (y : Str) (o' : HO), (∀ b u, H b = some u → b ≠ d → H' b = some u) → H' d = some o' → Dice (n + 4) o' → y.length ≤ x.length + 3 → Asc y → Q (.str y) H'
def signsB : List Str := ["/", "-", "0", "1", "2", " ", "+", ".", "a", "\n", "//"]
def endsB : List Str := ["/1", "/0", "/-2", "/", "", "/2"]
theorem okB (L : List Str) (k : Nat) (h : (L.all fun z => decide (z.length ≤ k) && z.cps.toList.all fun c => decide (c < 128)) = true) : ∀ z ∈ L, z.length ≤ k ∧ Asc z := fun z hz => by
  have := List.all_eq_true.mp h z hz
  rw [Bool.and_eq_true, List.all_eq_true] at this
  exact ⟨of_decide_eq_true this.1, fun c hc => of_decide_eq_true (this.2 c hc)⟩
theorem signs_ok : ∀ z ∈ signsB, z.length ≤ 2 ∧ Asc z := okB _ _ (by decide +kernel)
theorem ends_ok : ∀ z ∈ endsB, z.length ≤ 3 ∧ Asc z := okB _ _ (by decide +kernel)
theorem cut_asc {x : Str} (h : Asc x) (lo hi : Option Int) : Asc (cutS x lo hi) := fun c hc => h c (by
  have : (cutS x lo hi).cps.toList = (x.cps.toList.drop (HT.sIx x.length 0 lo)).take (HT.sIx x.length x.length hi - HT.sIx x.length 0 lo) := by
    unfold cutS
    simp
  rw [this] at hc
  exact List.mem_of_mem_drop (List.mem_of_mem_take hc))
theorem cut_len2 (x : Str) (i j : Int) (hi : 0 ≤ i) (hj : i ≤ j) : (cutS x none (some i)).length + (cutS x (some j) none).length ≤ x.length := by
  obtain ⟨a, rfl⟩ := Int.eq_ofNat_of_zero_le hi
  obtain ⟨b, rfl⟩ := Int.eq_ofNat_of_zero_le (Int.le_trans hi hj)
  have e1 : (cutS x none (some (a : Int))).cps.toList = x.cps.toList.take a := cut_to x a
  have e2 : (cutS x (some (b : Int)) none).cps.toList = x.cps.toList.drop b := cut_from x b
  rw [U.len_list, U.len_list, U.len_list, e1, e2, List.length_take, List.length_drop]
  omega
theorem ok__law_bent (T : Txt K mg) : FnOk P w K mg base CX0 3 T.a__law_bent T.d__law_bent ["_law_dice_here", "_law_text"] (sp__law_bent K) := by
  refine T.F__law_bent.ok sc__law_bent (fun vs H Q E h => ?_) (fun cdv A outer s H vs Q E hr h => ?_)
  · obtain ⟨d, n, o, x, rfl, _⟩ := h; rfl
  · obtain ⟨d, n, o, x, rfl, hd, D0, hn, hx, hasc, k⟩ := h
    refine ⟨_, (pss_cons (ps_par (i := 2) (j := 3) (by rfl) sc__law_bent.nd rfl rfl (by decide) rfl rfl (pa_cons (pe_call (ok__law_roll T) (hr.mono (by decide)) (by rfl) T.g__law_roll T.F__law_roll.kp T.B__law_roll .nil pass0 (pa_cons (pev 0) (pa_cons (pe_op opAdd (pe_callB caLen (by rfl) T.b_len (by decide +kernel) (pa_cons (pev 1) pa_nil)) pe_int) pa_nil))) (pa_cons (pe_call (ok__law_roll T) (hr.mono (by decide)) (by rfl) T.g__law_roll T.F__law_roll.kp T.B__law_roll .nil pass0 (pa_cons (pev 0) (pa_cons pe_int pa_nil))) pa_nil)) (by rfl))
        (pss_cons (ps_set (i := 4) sc__law_bent.nd rfl (by first | exact Or.inl rfl | exact Or.inr rfl) (pe_call (ok__law_pick T) (hr.mono (by decide)) (by rfl) T.g__law_pick T.F__law_pick.kp T.B__law_pick .nil pass0 (pa_cons (pev 0) (pa_cons (pe_lst (pa_cons pe_str (pa_cons pe_str (pa_cons pe_str (pa_cons pe_str (pa_cons pe_str (pa_cons pe_str (pa_cons pe_str (pa_cons pe_str (pa_cons pe_str (pa_cons pe_str (pa_cons pe_str pa_nil)))))))))))) pa_nil))))
        (pss_cons (psIf (pt_cmpR (opEq (hu64 hr)) (pev 3) pe_int (nomark _)) (pss_one (ps_ret (pe_op opAdd (pe_slice sl_str (pev 1) po_none (po_some (pev 2))) (pe_slice sl_str (pev 1) (po_some (pe_op opAdd (pev 2) pe_int)) po_none)))) pss_nil)
        (pss_cons (psIf (pt_cmpR (opEq (hu64 hr)) (pev 3) pe_int (nomark _)) (pss_one (ps_ret (pe_op opAdd (pe_op opAdd (pe_slice sl_str (pev 1) po_none (po_some (pev 2))) (pev 4)) (pe_slice sl_str (pev 1) (po_some (pev 2)) po_none)))) pss_nil)
        (pss_one (ps_ret (peIf (pt_cmpR (opEq (hu64 hr)) (pev 3) pe_int (nomark _)) (pe_op opAdd (pe_op opAdd (pe_slice sl_str (pev 1) po_none (po_some (pev 2))) (pev 4)) (pe_slice sl_str (pev 1) (po_some (pe_op opAdd (pev 2) pe_int)) po_none)) (pe_op opAdd (pev 1) (pe_call (ok__law_pick T) (hr.mono (by decide)) (by rfl) T.g__law_pick T.F__law_pick.kp T.B__law_pick .nil pass0 (pa_cons (pev 0) (pa_cons (pe_lst (pa_cons pe_str (pa_cons pe_str (pa_cons pe_str (pa_cons pe_str (pa_cons pe_str (pa_cons pe_str pa_nil))))))) pa_nil))))))))))), ?_⟩
    conv => whnf
    refine ⟨small_ok (by omega), ?_⟩
    conv => whnf
    refine ⟨d, n, _, o, rfl, hd, D0, by omega, by omega, Int.lt_of_le_of_lt (show _ ≤ (1000 : Int) by omega) (by decide), fun H1 i o1 f1 g1 D1 i0 i1 => ?_⟩
    have L1 := (At.start1 hd).set f1 g1
    conv => whnf
    refine ⟨d, _, _, o1, rfl, g1, D1, by omega, by decide, by decide, fun H2 w o2 f2 g2 D2 w0 w1 => ?_⟩
    have L2 := L1.set f2 g2
    conv => whnf
    refine ⟨_, _, rfl, ?_⟩
    conv => whnf
    refine ⟨small_ok (by simp), fun pl hpl => ?_⟩
    have L3 := L2.new (o := .lst (signsB.map V.str)) hpl
    conv => whnf
    refine ⟨d, _, o2, _, signsB.map V.str, rfl, L3.getM (.head _), D2, by omega, .inr ⟨pl, rfl, (fun z => by subst z; rw [g2] at hpl; cases hpl), .inl (SqL.of upd_same)⟩, by decide, by decide, fun H4 v o4 f4 g4 D4 hv => ?_⟩
    have L4 := L3.set f4 g4
    obtain ⟨sg, hsg, rfl⟩ := List.mem_map.mp hv
    obtain ⟨sl, sa⟩ := signs_ok sg hsg
    conv => whnf
    refine ⟨_, rfl, ?_⟩
    refine brD (fun h0 => ?_) (fun h0 => ?_)
    · conv => whnf
      refine ⟨i, rfl, ?_⟩
      conv => whnf
      refine ⟨x, rfl, small_ok (by omega), ?_⟩
      conv => whnf
      refine ⟨_, rfl, ?_⟩
      conv => whnf
      refine ⟨x, rfl, small_ok (by omega), ?_⟩
      have cl := cut_len2 x i (i + 1) i0 (by omega)
      conv => whnf
      refine ⟨small_ok (by omega), ?_⟩
      exact k H4 _ o4 L4.keep1 g4 (D4.up (by omega)) (by rw [app_len]; omega) ((cut_asc hasc _ _).app (cut_asc hasc _ _))
    conv => whnf
    refine ⟨_, rfl, ?_⟩
    refine brD (fun h1 => ?_) (fun h1 => ?_)
    · conv => whnf
      refine ⟨i, rfl, ?_⟩
      conv => whnf
      refine ⟨x, rfl, small_ok (by omega), ?_⟩
      have cl := cut_len2 x i i i0 (by omega)
      conv => whnf
      refine ⟨small_ok (by omega), ?_⟩
      conv => whnf
      refine ⟨i, rfl, ?_⟩
      conv => whnf
      refine ⟨x, rfl, small_ok (by omega), ?_⟩
      conv => whnf
      refine ⟨small_ok (by rw [app_len]; omega), ?_⟩
      exact k H4 _ o4 L4.keep1 g4 (D4.up (by omega)) (by rw [app_len, app_len]; omega) (((cut_asc hasc _ _).app sa).app (cut_asc hasc _ _))
    conv => whnf
    refine ⟨_, rfl, ?_⟩
    refine brD (fun h2 => ?_) (fun h2 => ?_)
    · conv => whnf
      refine ⟨i, rfl, ?_⟩
      conv => whnf
      refine ⟨x, rfl, small_ok (by omega), ?_⟩
      have cl := cut_len2 x i (i + 1) i0 (by omega)
      conv => whnf
      refine ⟨small_ok (by omega), ?_⟩
      conv => whnf
      refine ⟨_, rfl, ?_⟩
      conv => whnf
      refine ⟨x, rfl, small_ok (by omega), ?_⟩
      conv => whnf
      refine ⟨small_ok (by rw [app_len]; omega), ?_⟩
      exact k H4 _ o4 L4.keep1 g4 (D4.up (by omega)) (by rw [app_len, app_len]; omega) (((cut_asc hasc _ _).app sa).app (cut_asc hasc _ _))
    conv => whnf
    refine ⟨small_ok (by simp), fun p2 hp2 => ?_⟩
    have L5 := L4.new (o := .lst (endsB.map V.str)) hp2
    conv => whnf
    refine ⟨d, _, o4, _, endsB.map V.str, rfl, L5.getM (.head _), D4, by omega, .inr ⟨p2, rfl, (fun z => by subst z; rw [g4] at hp2; cases hp2), .inl (SqL.of upd_same)⟩, by decide, by decide, fun H6 v o6 f6 g6 D6 hv2 => ?_⟩
    have L6 := L5.set f6 g6
    obtain ⟨e2, he2, rfl⟩ := List.mem_map.mp hv2
    obtain ⟨el, ea⟩ := ends_ok e2 he2
    conv => whnf
    refine ⟨small_ok (by omega), ?_⟩
    exact k H6 _ o6 L6.keep1 g6 (D6.up (by omega)) (by rw [app_len]; omega) (hasc.app ea)
def sp__law_is_integer (K : PySem.W.Frag) : Sp := fun vs H Q _ => ∃ x : Str, vs = [.str x] ∧ x.length ≤ 1000 ∧ Asc x ∧ ∀ (b : Bool) (H' : Hp), (b = true ↔ numB x) → Gr H H' → Q (.bl b) H'
theorem first_is (x : Str) : V.str (cutS x none (some 1)) = V.str (Str.ofString "-") ↔ ∃ r, x.cps.toList = 45 :: r := by
  have e : (cutS x none (some 1)).cps.toList = x.cps.toList.take 1 := cut_to x 1
  have e45 : (Str.ofString "-").cps.toList = [45] := by decide
  constructor
  · intro h
    have h1 := congrArg (fun s : Str => s.cps.toList) (V.str.inj h)
    have h2 : x.cps.toList.take 1 = [45] := e.symm.trans (h1.trans e45)
    rcases e2 : x.cps.toList with _ | ⟨c, r⟩
    · rw [e2] at h2; cases h2
    · rw [e2] at h2
      have : c = 45 := by simpa using h2
      exact ⟨r, by rw [this]⟩
  · rintro ⟨r, h⟩
    refine congrArg V.str (str_ext ?_)
    rw [e, h, e45]
    rfl
/-- no figure -/
def ndig (c : Nat) : Bool := !decide (c ∈ ("0123456789" : Str).cps.toList)
def sg1 (c : Nat) : Str := ⟨#[c]⟩
theorem ndig_iff (c : Nat) : ndig c = false ↔ 48 ≤ c ∧ c ≤ 57 := by
  unfold ndig
  rw [show ("0123456789" : Str).cps.toList = [48, 49, 50, 51, 52, 53, 54, 55, 56, 57] by decide]
  simp
  omega
theorem ok__law_is_integer (T : Txt K mg) : FnOk P w K mg base CX0 1 T.a__law_is_integer T.d__law_is_integer ["_law_text"] (sp__law_is_integer K) := by
  refine T.F__law_is_integer.ok sc__law_is_integer (fun vs H Q E h => ?_) (fun cdv A outer s H vs Q E hr h => ?_)
  · obtain ⟨x, rfl, _⟩ := h; rfl
  · obtain ⟨x, rfl, hx, hasc, k⟩ := h
    refine ⟨_, (pss_cons (ps_set (i := 1) sc__law_is_integer.nd rfl (by first | exact Or.inl rfl | exact Or.inr rfl) (peIf (pt_cmpR (opEq (hu64 hr)) (pe_slice sl_str (pev 0) po_none (po_some pe_int)) pe_str (nomark _)) (pe_slice sl_str (pev 0) (po_some pe_int) po_none) (pev 0)))
        (pss_cons (psIf (PW.pt (pwOr (pt_cmpR (opEq (hu64 hr)) (pev 1) pe_str (nomark _)) (pwOr (pt_cmpR opGt (pe_callB caLen (by rfl) T.b_len (by decide +kernel) (pa_cons (pev 1) pa_nil)) pe_int (nomark _)) (pw_or1 (pt_cmpR (opNe (hu64 hr)) (pe_lc (own := [("_law_sign", 2)]) (g := gName 2) (tt := (tTest (tOp uNotInS (uV 2) (tC (.str "0123456789"))))) (te := (uV 2)) rfl sc__law_is_integer.nd (pi_str (pev 1)) (blkOk_by (own := [("_law_sign", 2)]) (N := ["_law_text", "_law_figures", "_law_sign"]) (sc := defScope s__law_is_integer) (by decide +kernel)) (fun _ _ _ _ _ => pg_name (i := 2) sc__law_is_integer.nd rfl (by first | exact Or.inl rfl | exact Or.inr rfl)) (fun _ _ _ _ _ => (pts_one (pt_cmpR opNotInS (pev 2) pe_str rfl))) (fun _ _ _ _ _ => (pev 2))) (pe_lst pa_nil) (nomark _)))))) (pss_one (ps_ret pe_bl)) pss_nil)
        (pss_one (ps_ret (peOr (peAnd (pe_cmpR (opEq (hu64 hr)) (pev 1) pe_str (nomark _)) (pe_one (pe_cmpR (opEq (hu64 hr)) (pev 0) pe_str (nomark _)))) (pe_one (pe_cmpR (opNe (hu64 hr)) (pe_ix ixU (pev 1) pe_int (fun _ _ => rfl)) pe_str (nomark _)))))))), ?_⟩
    have hz := sizeLine_eq
    have ex : x.length = x.cps.toList.length := by simp [Str.length]
    obtain ⟨f, ef, hfl, rest⟩ : ∃ f : Str, f.cps.toList = behind x.cps.toList ∧ f.length ≤ x.length ∧ (V.str (cutS x none (some 1)) = V.str (Str.ofString "-") → cutS x (some 1) none = f) ∧ (¬ V.str (cutS x none (some 1)) = V.str (Str.ofString "-") → x = f) := by
      by_cases h : V.str (cutS x none (some 1)) = V.str (Str.ofString "-")
      · obtain ⟨r, er⟩ := (first_is x).mp h
        refine ⟨cutS x (some 1) none, ?_, cutS_length _ _ _, fun _ => rfl, fun z => absurd h z⟩
        have e : (cutS x (some 1) none).cps.toList = x.cps.toList.drop 1 := cut_from x 1
        rw [e, er]
        rfl
      · refine ⟨x, ?_, Nat.le_refl _, fun z => absurd z h, fun _ => rfl⟩
        unfold behind
        split
        · rename_i r er
          exact absurd ((first_is x).mpr ⟨r, er⟩) h
        · rfl
    conv => whnf
    refine ⟨1, rfl, ?_⟩
    conv => whnf
    refine ⟨x, rfl, by omega, ?_⟩
    conv => whnf
    refine ⟨_, rfl, ?_⟩
    refine brD (fun h => ?x) (fun h => ?y)
    case' x =>
      conv => whnf
      refine ⟨1, rfl, ?_⟩
      conv => whnf
      refine ⟨x, rfl, by omega, ?_⟩
      rw [rest.1 h]
    case' y =>
      conv => whnf
      have e9 := (rest.2 h).symm
      subst e9
    all_goals
      conv => whnf
      refine ⟨_, rfl, ?_⟩
      refine brD (fun h0 => ?_) (fun h0 => ?_)
      · conv => whnf
        refine brT ?_
        conv => whnf
        refine k false H ⟨fun z => (Bool.noConfusion z), fun z => absurd (show behind _ = [] from by rw [← ef, V.str.inj h0]; decide) z.1.2⟩ Gr.rfl'
      conv => whnf
      refine ⟨small_ok (by omega), ?_⟩
      conv => whnf
      refine ⟨_, rfl, ?_⟩
      refine brD (fun h1 => ?_) (fun h1 => ?_)
      · conv => whnf
        refine brT ?_
        conv => whnf
        refine k false H ⟨fun z => (Bool.noConfusion z), fun z => ?_⟩ Gr.rfl'
        have z2 := z.2.1
        rw [← ef, ← U.len_list] at z2
        omega
      conv => whnf
      refine ⟨f, rfl, fun D hD => lc_it walk_str (fun i H' => H' = upd H D (.lst ((((f.cps.toList.take i).filter ndig).map sg1).map V.str))) (by rfl) (fun _ _ _ _ => trivial) ?_ ?_⟩
      · rintro i y H1 H2 hi rfl ⟨rfl, c, hc, rfl⟩
        have hl : i < f.cps.toList.length := by simpa using hi
        have e : f.cps.toList.take (i + 1) = f.cps.toList.take i ++ [c] := by
          rw [List.take_add_one]
          simp [hc]
        conv => whnf
        refine ⟨rfl, ?_⟩
        conv => whnf
        refine ⟨_, rfl, ?_⟩
        refine ⟨_, rfl, ?_⟩
        have len1 : ((((f.cps.toList.take i).filter ndig).map sg1).map V.str).length ≤ 1000000 := by
          rw [List.length_map, List.length_map]
          have := List.length_filter_le ndig (f.cps.toList.take i)
          rw [List.length_take] at this
          have ex2 : f.length = f.cps.toList.length := by simp [Str.length]
          omega
        refine ite2 (fun hb => ?_) (fun hb => ?_)
        · conv => whnf
          refine ⟨_, upd_same, small_lt len1, ?_⟩
          have hb' : ndig c = true := hb
          rw [upd_upd, e, List.filter_append, List.map_append, List.map_append, List.filter_cons, if_pos hb']
          rfl
        · have hb' : ndig c = false := Bool.eq_false_iff.mpr hb
          show _ = _
          rw [e, List.filter_append, List.filter_cons, if_neg (by rw [hb']; decide), List.filter_nil, List.append_nil]
      · rintro Hz rfl
        have nl : (f.cps.toList.map fun c => V.str ⟨#[c]⟩).length = f.cps.toList.length := List.length_map ..
        have ex2 : f.length = f.cps.toList.length := by simp [Str.length]
        conv => whnf
        refine ⟨small_ok (by simp), fun p hp => ?_⟩
        conv => whnf
        have ascf : ∀ z ∈ (f.cps.toList.filter ndig).map sg1, Asc z := by
          intro z hz
          obtain ⟨c, hc, rfl⟩ := List.mem_map.mp hz
          have h3 := (List.mem_filter.mp hc).1
          intro d hd
          have : d = c := by simpa [sg1] using hd
          rw [this]
          rw [ef] at h3
          refine hasc c ?_
          unfold behind at h3
          split at h3
          · rename_i e4; rw [e4]; exact List.mem_cons_of_mem _ h3
          · exact h3
        refine ⟨.list (txs ((f.cps.toList.filter ndig).map sg1)), .list [], .lst (SqL.of (xs := ((f.cps.toList.filter ndig).map sg1).map V.str) ?_) (dp_txs _), .lst (SqL.of upd_same) .nil, shaped_txs ascf, by decide +kernel, ?_⟩
        · rw [upd_ne (ne_of_none upd_same hp), upd_same, ← Array.length_toList, List.take_length]
        have gg : Gr H (upd (upd H D (.lst ((((f.cps.toList.take f.cps.size).filter ndig).map sg1).map V.str))) p (.lst [])) := (Gr.rfl'.up hD).up hp
        rw [eqv_txs_nil]
        conv => whnf
        refine ⟨_, rfl, ?_⟩
        refine br2 (fun hq => ?_) (fun hq => ?_)
        · conv => whnf
          refine k false _ ⟨fun z => (Bool.noConfusion z), fun z => ?_⟩ gg
          refine absurd ?_ (nt hq)
          rw [List.map_eq_nil_iff, List.filter_eq_nil_iff]
          intro c hc
          rw [ef] at hc
          rw [(ndig_iff c).mpr (z.1.1 c hc)]
          decide
        have allD : ∀ c ∈ f.cps.toList, 48 ≤ c ∧ c ≤ 57 := fun c hc => by
          have hq := nf hq
          rw [List.map_eq_nil_iff, List.filter_eq_nil_iff] at hq
          exact (ndig_iff c).mp (by simpa using hq c hc)
        obtain ⟨c0, r0, e0⟩ : ∃ c0 r0, f.cps.toList = c0 :: r0 := by
          rcases e5 : f.cps.toList with _ | ⟨c0, r0⟩
          · exact absurd (congrArg V.str (str_ext (e5.trans (by decide)))) h0
          · exact ⟨c0, r0, rfl⟩
        have ix : atI f.cps.toList 0 = some c0 := atI_nat (xs := f.cps.toList) (j := 0) (by rw [e0]; rfl)
        have c48 : V.str ⟨#[c0]⟩ = V.str (Str.ofString "0") ↔ c0 = 48 := by
          constructor
          · intro h
            have h1 := congrArg (fun s : Str => s.cps.toList) (V.str.inj h)
            have h2 : [c0] = [48] := h1.trans (by decide)
            simpa using h2
          · intro h; rw [h]; rfl
        have l0 : (Str.ofString "0").cps.toList = [48] := by decide
        conv => whnf
        refine brD (fun z1 => ?_) (fun z1 => ?_)
        · have z1' : f.cps.toList = [48] := by rw [V.str.inj z1]; exact l0
          have c0e : c0 = 48 := by rw [e0] at z1'; simpa using congrArg List.head? z1'
          conv => whnf
          refine brD (fun z2 => ?_) (fun z2 => ?_)
          · conv => whnf
            refine k true _ ⟨fun _ => ⟨⟨by rw [← ef]; exact allD, by rw [← ef, e0]; simp⟩, by rw [← ef, ← U.len_list]; omega, .inl ⟨by rw [← ef]; exact z1', by rw [V.str.inj z2]; exact l0⟩⟩, fun _ => rfl⟩ gg
          · conv => whnf
            refine ⟨small_ok (by omega), c0, ix, ?_⟩
            conv => whnf
            refine k _ _ ⟨fun z => absurd (c48.mpr c0e) (nt z), fun z => ?_⟩ gg
            rcases z.2.2 with ⟨_, z3⟩ | z3
            · exact absurd (congrArg V.str (str_ext (z3.trans l0.symm))) z2
            · rw [← ef, z1'] at z3; exact absurd rfl z3
        · conv => whnf
          refine brF ?_
          conv => whnf
          refine ⟨small_ok (by omega), c0, ix, ?_⟩
          conv => whnf
          refine k _ _ ⟨fun z => ⟨⟨by rw [← ef]; exact allD, by rw [← ef, e0]; simp⟩, by rw [← ef, ← U.len_list]; omega, .inr ?_⟩, fun z => ?_⟩ gg
          · rw [← ef, e0]
            intro y
            exact nt z (c48.mpr (by simpa using y))
          · rcases z.2.2 with ⟨z3, _⟩ | z3
            · exact absurd (congrArg V.str (str_ext ((ef.trans z3).trans l0.symm))) z1
            · rw [← ef, e0] at z3
              have : ¬ c0 = 48 := fun y => z3 (by rw [y]; rfl)
              simp [c48, this]
/-- Euclid's pairs behind i turns -/
def Eu (t b : Int) (i : Nat) (x y : Int) : Prop := 0 ≤ x ∧ 0 ≤ y ∧ Nat.gcd x.natAbs y.natAbs = Nat.gcd t.natAbs b.natAbs ∧ ((i = 0 ∧ x = t.natAbs ∧ y = b) ∨ (1 ≤ i ∧ y < x ∧ x * y * 2 ^ (i - 1) < 2 ^ 399))
theorem Eu.start {t b : Int} (h : 0 < b) : Eu t b 0 t.natAbs b := ⟨by omega, by omega, by rw [Int.natAbs_natCast], .inl ⟨rfl, rfl, rfl⟩⟩
theorem Eu.turn {t b x y : Int} {i : Nat} (hb : b < 10 ^ 60) (e : Eu t b i x y) (h : y ≠ 0) : Eu t b (i + 1) y (x % y) := by
  obtain ⟨x0, y0, g, c⟩ := e
  have yp : 0 < y := by omega
  have r0 := Int.emod_nonneg x h
  have r1 := Int.emod_lt_of_pos x yp
  refine ⟨y0, r0, ?_, .inr ⟨by omega, r1, ?_⟩⟩
  · rw [← g, Int.natAbs_emod_of_nonneg x0, Nat.gcd_comm x.natAbs, Nat.gcd_comm y.natAbs (x.natAbs % y.natAbs), ← Nat.gcd_rec]
  · rw [Nat.add_sub_cancel]
    rcases c with ⟨rfl, _, rfl⟩ | ⟨i1, lt, c⟩
    · have : y * (x % y) ≤ y * y := Int.mul_le_mul_of_nonneg_left (by omega) y0
      have : y * y ≤ y * 10 ^ 60 := Int.mul_le_mul_of_nonneg_left (by omega) y0
      omega
    · have hx := Int.mul_ediv_add_emod x y
      have hd : 1 ≤ x / y := Int.le_ediv_of_mul_le yp (by omega)
      have h1 : y * 1 ≤ y * (x / y) := Int.mul_le_mul_of_nonneg_left hd y0
      have h2 : 2 * (x % y) ≤ x := by omega
      obtain ⟨j, rfl⟩ : ∃ j, i = j + 1 := ⟨i - 1, by omega⟩
      rw [Nat.add_sub_cancel] at c
      have h3 : y * (2 * (x % y)) ≤ y * x := Int.mul_le_mul_of_nonneg_left h2 y0
      have h4 : y * (x % y) * 2 ^ (j + 1) = y * (2 * (x % y)) * 2 ^ j := by rw [Int.pow_succ]; grind
      have h5 : y * (2 * (x % y)) * 2 ^ j ≤ y * x * 2 ^ j := Int.mul_le_mul_of_nonneg_right h3 (Int.le_of_lt (Int.pow_pos (by decide)))
      rw [h4]
      rw [Int.mul_comm x y] at c
      exact Int.lt_of_le_of_lt h5 c
theorem Eu.fin {t b x y : Int} (e : Eu t b 400 x y) : y = 0 := by
  obtain ⟨x0, y0, g, c⟩ := e
  rcases c with ⟨z, _⟩ | ⟨_, lt, c⟩
  · cases z
  · by_cases h : y = 0
    · exact h
    · exfalso
      have h1 : 0 < x * y := Int.mul_pos (by omega) (by omega)
      have h2 : 1 * (2 : Int) ^ 399 ≤ x * y * 2 ^ 399 := Int.mul_le_mul_of_nonneg_right (by omega) (by decide)
      omega
theorem Eu.last {t b x : Int} {i : Nat} (h : 0 < b) (e : Eu t b i x 0) : max 1 x = gcdI t b := by
  obtain ⟨x0, _, g, _⟩ := e
  have g0 := gcdI_pos (a := t) h
  have : gcdI t b = ((Nat.gcd t.natAbs b.natAbs : Nat) : Int) := rfl
  rw [show (0 : Int).natAbs = 0 from rfl, Nat.gcd_zero_right] at g
  omega
def sp__law_lowest (K : PySem.W.Frag) : Sp := fun vs H Q _ => ∃ (t b : Int), vs = [.int t, .int b] ∧ 0 < b ∧ b < 10 ^ 60 ∧ t.natAbs < 2 ^ 250 ∧ 
  ∀ (x : Addr) (H' : Hp), Gr H H' → H x = none → H' x = some (.tup [.int (t / gcdI t b), .int (b / gcdI t b)]) → Q (.ref x) H'
theorem ok__law_lowest (T : Txt K mg) : FnOk P w K mg base CX0 1 T.a__law_lowest T.d__law_lowest ["_law_top", "_law_bottom"] (sp__law_lowest K) := by
  refine T.F__law_lowest.ok sc__law_lowest (fun vs H Q E h => ?_) (fun cdv A outer s H vs Q E hr h => ?_)
  · obtain ⟨t, b, rfl, _⟩ := h; rfl
  · obtain ⟨t, b, rfl, b0, b1, t1, k⟩ := h
    refine ⟨_, (pss_cons (ps_par (i := 2) (j := 3) (by rfl) sc__law_lowest.nd rfl rfl (by decide) rfl rfl (pa_cons (pe_callB caAbs (by rfl) T.b_abs (by decide +kernel) (pa_cons (pev 0) pa_nil)) (pa_cons (pev 1) pa_nil)) (by rfl))
        (pss_cons (ps_for PassesOwn.never rfl (pi_range1 (by rfl) T.b_range (pa_cons pe_int pa_nil)) (pg_name (i := 4) sc__law_lowest.nd rfl (by first | exact Or.inl rfl | exact Or.inr rfl))
        (pss_cons (psIf (pt_cmpR (opEq (hu64 hr)) (pev 3) pe_int (nomark _)) (pss_one ps_break) pss_nil)
        (pss_one (ps_par (i := 2) (j := 3) (by rfl) sc__law_lowest.nd rfl rfl (by decide) rfl rfl (pa_cons (pev 3) (pa_cons (pe_op opMod (pev 2) (pev 3)) pa_nil)) (by rfl)))))
        (pss_one (ps_ret (pe_tup (pa_cons (pe_op opDiv (pev 0) (pe_callB (caMax rfl) (by rfl) T.b_max (by decide +kernel) (pa_cons pe_int (pa_cons (pev 2) pa_nil)))) (pa_cons (pe_op opDiv (pev 1) (pe_callB (caMax rfl) (by rfl) T.b_max (by decide +kernel) (pa_cons pe_int (pa_cons (pev 2) pa_nil)))) pa_nil))))))), ?_⟩
    conv => whnf
    refine ⟨_, _, rfl, ?_⟩
    conv => whnf
    refine ⟨400, rfl, by decide, by decide, for_range (lo := 0) (n := 400) (fun i σ H' => (∃ x y v, σ = [some (.int t), some (.int b), some (.int x), some (.int y), v] ∧ Eu t b i x y) ∧ H' = H)
      ⟨⟨_, _, none, rfl, .start b0⟩, rfl⟩ ?_ ?_⟩
    · rintro i σ H1 hi ⟨⟨x, y, v, rfl, e⟩, rfl⟩
      conv => whnf
      refine ⟨_, rfl, ?_⟩
      refine brD (fun h => ?_) (fun h => ?_)
      · obtain rfl := V.int.inj h
        have em := e.last b0
        have g0 := gcdI_pos (a := t) b0
        have g1 := gcdI_le (a := t) b0
        have gb : (gcdI t b).natAbs < 2 ^ 200 := U.abs_lt (by omega) (by omega)
        conv => whnf
        rw [em]
        refine ⟨divW 200 g0 gb, ?_⟩
        conv => whnf
        rw [em]
        refine ⟨divW 200 g0 gb, ?_⟩
        conv => whnf
        exact ⟨small_ok (by simp), fun r hr3 => k r _ (Gr.rfl'.up hr3) hr3 upd_same⟩
      · have hy : y ≠ 0 := fun z => h (by rw [z])
        have ey : 0 < y := by have := e.2.1; omega
        conv => whnf
        refine ⟨ey, ?_⟩
        conv => whnf
        refine ⟨_, _, rfl, ?_⟩
        conv => whnf
        exact ⟨⟨_, _, _, rfl, e.turn b1 hy⟩, rfl⟩
    · rintro σ H1 ⟨⟨x, y, v, rfl, e⟩, rfl⟩
      obtain rfl := e.fin
      have em := e.last b0
      have g0 := gcdI_pos (a := t) b0
      have g1 := gcdI_le (a := t) b0
      have gb : (gcdI t b).natAbs < 2 ^ 200 := U.abs_lt (by omega) (by omega)
      conv => whnf
      rw [em]
      refine ⟨divW 200 g0 gb, ?_⟩
      conv => whnf
      rw [em]
      refine ⟨divW 200 g0 gb, ?_⟩
      conv => whnf
      exact ⟨small_ok (by simp), fun r hr3 => k r _ (Gr.rfl'.up hr3) hr3 upd_same⟩
def sp__law_read (K : PySem.W.Frag) : Sp := fun vs H Q _ => ∃ x : Str, vs = [.str x] ∧ x.length ≤ 1000 ∧ Asc x ∧ (∀ p q t H', IsRat x p q → Gr H H' → H' t = some (.tup [.int p, .int q]) → Q (.ref t) H') ∧ ((∀ p q, ¬ IsRat x p q) → ∀ H', Gr H H' → Q (.str "ratio") H')
theorem ok__law_read (T : Txt K mg) : FnOk P w K mg base CX0 2 T.a__law_read T.d__law_read ["_law_text"] (sp__law_read K) := by
  refine T.F__law_read.ok sc__law_read (fun vs H Q E h => ?_) (fun cdv A outer s H vs Q E hr h => ?_)
  · obtain ⟨x, rfl, _⟩ := h; rfl
  · obtain ⟨x, rfl, hx, hasc, k1, k2⟩ := h
    refine ⟨_, (pss_cons (ps_set (i := 1) sc__law_read.nd rfl (by first | exact Or.inl rfl | exact Or.inr rfl) (pe_bm PySem.F.plainAttrs_str PySem.F.slot_str_split PySem.F.type_str_split mt_split (pev 0) (pa_cons pe_str pa_nil)))
        (pss_cons (psIf (PW.pt (pwOr (pt_cmpR opGt (pe_callB caLen (by rfl) T.b_len (by decide +kernel) (pa_cons (pev 1) pa_nil)) pe_int (nomark _)) (pw_or1 (pt_cmpR (opNe (hu64 hr)) (pe_lc (own := [("_law_part", 4)]) (g := gName 4) (tt := (tNot (uTrue K (tCall (sp__law_is_integer K) [] E0 (tCons (uV 4) tNil))))) (te := (uV 4)) rfl sc__law_read.nd (pi_list (pev 1)) (blkOk_by (own := [("_law_part", 4)]) (N := ["_law_text", "_law_parts", "_law_top", "_law_bottom", "_law_part"]) (sc := defScope s__law_read) (by decide +kernel)) (fun _ _ _ _ _ => pg_name (i := 4) sc__law_read.nd rfl (by first | exact Or.inl rfl | exact Or.inr rfl)) (fun _ _ _ _ _ => (pts_one (pt_not (ptV (pe_call (ok__law_is_integer T) (hr.mono (by decide)) (by rfl) T.g__law_is_integer T.F__law_is_integer.kp T.B__law_is_integer .nil pass0 (pa_cons (pev 4) pa_nil)))))) (fun _ _ _ _ _ => (pev 4))) (pe_lst pa_nil) (nomark _))))) (pss_one (ps_ret pe_str)) pss_nil)
        (pss_cons (ps_par (i := 2) (j := 3) (by rfl) sc__law_read.nd rfl rfl (by decide) rfl rfl (pa_cons (pe_callTy caIntT (by rfl) T.b_int (by decide +kernel) (pa_cons (pe_ix ixU (pev 1) pe_int (fun _ _ => rfl)) pa_nil)) (pa_cons (peIf (pt_cmpR (opEq (hu64 hr)) (pe_callB caLen (by rfl) T.b_len (by decide +kernel) (pa_cons (pev 1) pa_nil)) pe_int (nomark _)) (pe_callTy caIntT (by rfl) T.b_int (by decide +kernel) (pa_cons (pe_ix ixU (pev 1) pe_int (fun _ _ => rfl)) pa_nil)) pe_int) pa_nil)) (by rfl))
        (pss_cons (psIf (PW.pt (pwOr (pt_cmpR opLt (pev 3) pe_int (nomark _)) (pw_or1 (PW.pt (pwAnd (pt_cmpR (opEq (hu64 hr)) (pe_callB caLen (by rfl) T.b_len (by decide +kernel) (pa_cons (pev 1) pa_nil)) pe_int (nomark _)) (pw_and1 (PW.pt (pwOr (pt_cmpR (opEq (hu64 hr)) (pev 3) pe_int (nomark _)) (pw_or1 (pt_cmpR (opNe (hu64 hr)) (pe_call (ok__law_lowest T) (hr.mono (by decide)) (by rfl) T.g__law_lowest T.F__law_lowest.kp T.B__law_lowest .nil pass0 (pa_cons (pev 2) (pa_cons (pev 3) pa_nil))) (pe_tup (pa_cons (pev 2) (pa_cons (pev 3) pa_nil))) (nomark _))))))))))) (pss_one (ps_ret pe_str)) pss_nil)
        (pss_one (ps_ret (pe_tup (pa_cons (pev 2) (pa_cons (pev 3) pa_nil))))))))), ?_⟩
    have hz := sizeLine_eq
    obtain ⟨parts, es, pl, psub, pc⟩ := split_slash x
    conv => whnf
    refine ⟨rfl, ?_⟩
    conv => whnf
    refine ⟨x, _, rfl, rfl, rfl, by omega, fun t ht => ?_⟩
    rw [es]
    have g0 : Gr H (upd H t (.lst (parts.map V.str))) := Gr.rfl'.up ht
    have e0 : (upd H t (.lst (parts.map V.str))) t = some (.lst (parts.map V.str)) := upd_same
    generalize upd H t (.lst (parts.map V.str)) = H0 at g0 e0 ⊢
    conv => whnf
    refine ⟨_, .inl (SqL.of e0), ?_⟩
    conv => whnf
    refine ⟨_, rfl, ?_⟩
    rw [List.length_map]
    refine brD (fun hl => ?_) (fun hl => ?_)
    · conv => whnf
      refine brT ?_
      conv => whnf
      refine k2 (fun p q hr => ?_) _ g0
      rcases pc with ⟨rfl, _⟩ | ⟨a, b, rfl, _⟩ | ⟨_, a, b, ex, ha, hb⟩
      · simp at hl
      · simp at hl
      · obtain ⟨_, _, z⟩ := ratB ha ex hr
        rw [z.2] at hb
        exact num_no47 q hb
    conv => whnf
    refine ⟨_, rfl, ⟨_, SqL.of e0⟩, fun D hD => ?_⟩
    refine lc_list (xs := parts.map V.str) (fun i Hm => Gr H0 Hm ∧ ∃ bad : List Str, Hm D = some (.lst (bad.map V.str)) ∧ bad.length ≤ i ∧ (∀ z ∈ bad, z ∈ parts) ∧ (bad = [] ↔ ∀ z ∈ parts.take i, numB z)) ⟨Gr.rfl'.up hD, [], upd_same, Nat.le_refl _, by simp, by simp⟩ (fun i Hm _ L => SqL.of (L.1 _ _ e0)) ?_ ?_
    · rintro i y Hm hy ⟨gm, bad, hb, bl, bsub, bz⟩
      obtain ⟨z, hz1, rfl⟩ : ∃ z, parts[i]? = some z ∧ y = V.str z := by
        rw [List.getElem?_map] at hy
        cases e : parts[i]? with
        | none => rw [e] at hy; cases hy
        | some z => rw [e] at hy; exact ⟨z, rfl, (Option.some.inj hy).symm⟩
      have hzm := List.mem_of_getElem? hz1
      have hi := (List.getElem?_eq_some_iff.mp hz1).1
      have et : parts.take (i + 1) = parts.take i ++ [z] := by rw [List.take_add_one, hz1]; rfl
      have nd : ∀ b u, H0 b = some u → b ≠ D := fun b u eb w => by rw [w, hD] at eb; cases eb
      conv => whnf
      refine ⟨rfl, ?_⟩
      conv => whnf
      refine ⟨z, rfl, Nat.le_trans (psub z hzm).2 hx, hasc.sub (psub z hzm).1, fun b H2 hbz g2 => ?_⟩
      conv => whnf
      refine ite2 (fun hb2 => ?_) (fun hb2 => ?_)
      · have nb : ¬ numB z := fun w => by
          rw [hbz.mpr w] at hb2; cases hb2
        conv => whnf
        refine ⟨_, g2 _ _ hb, small_lt (by rw [List.length_map]; omega), fun c u ec => by rw [upd_ne (nd c u ec)]; exact g2 _ _ (gm c u ec), bad ++ [z], ?_, by simp; omega, ?_, ?_⟩
        · rw [upd_same, List.map_append]; rfl
        · intro w hw
          rcases List.mem_append.mp hw with hw | hw
          · exact bsub w hw
          · obtain rfl := List.mem_singleton.mp hw; exact hzm
        · constructor
          · intro w; simp at w
          · intro w; exact absurd (w z (by rw [et]; simp)) nb
      · have nb : numB z := hbz.mp (by
          cases b with
          | true => rfl
          | false => exact absurd rfl hb2)
        show _ ∧ _
        refine ⟨gm.trans g2, bad, g2 _ _ hb, by omega, bsub, bz.trans ⟨fun w v hv => ?_, fun w v hv => w v (by rw [et]; exact List.mem_append_left _ hv)⟩⟩
        rw [et] at hv
        rcases List.mem_append.mp hv with hv | hv
        · exact w v hv
        · obtain rfl := List.mem_singleton.mp hv; exact nb
    · rintro Hm ⟨gm, bad, hb, bl, bsub, bz⟩
      rw [List.length_map, List.take_length] at bz
      have gD := g0.trans gm
      have e1 := gm _ _ e0
      conv => whnf
      refine ⟨small_ok (by simp), fun p hp => ?_⟩
      have gp := gD.up (o := .lst []) hp
      have e2 := Gr.rfl'.up (o := .lst []) hp _ _ e1
      conv => whnf
      refine ⟨.list (txs bad), .list [], .lst (SqL.of (Gr.rfl'.up (o := .lst []) hp _ _ hb)) (dp_txs _), .lst (SqL.of upd_same) .nil, shaped_txs (fun w hw => hasc.sub (psub w (bsub w hw)).1), by decide +kernel, ?_⟩
      rw [eqv_txs_nil]
      conv => whnf
      refine ⟨_, rfl, ?_⟩
      refine br2 (fun hq => ?_) (fun hq => ?_)
      · conv => whnf
        refine k2 (fun p q hr => nt hq (bz.mpr ?_)) _ gp
        rcases pc with ⟨rfl, hs⟩ | ⟨a, b, rfl, ex, ha, hb'⟩ | ⟨h3, _⟩
        · obtain ⟨_, z⟩ := ratA hs hr
          intro w hw
          obtain rfl := List.mem_singleton.mp hw
          exact (numB_iff _).mpr ⟨_, z⟩
        · obtain ⟨_, z1, z2⟩ := ratB ha ex hr
          intro w hw
          rcases List.mem_cons.mp hw with rfl | hw
          · exact (numB_iff _).mpr ⟨_, z1⟩
          · obtain rfl := List.mem_singleton.mp hw
            exact (numB_iff _).mpr ⟨_, z2⟩
        · exact absurd h3 (by have : ¬ ((2 : Int) < (parts.length : Int)) := hl; omega)
      have allN := bz.mp (nf hq)
      generalize upd Hm p (.lst []) = H1 at gp e2 ⊢
      rcases pc with ⟨rfl, hs⟩ | ⟨a, b, rfl, ex, ha, hb'⟩ | ⟨h3, _⟩
      · obtain ⟨n, hn⟩ := (numB_iff _).mp (allN x (by simp))
        have hn1 := hn.1
        conv => whnf
        refine ⟨_, _, .inl (SqL.of e2), rfl, ?_⟩
        conv => whnf
        refine ⟨n, by rw [hn.2]; exact intText_num hn.1, by rw [hn.2]; exact Nat.le_trans (num_short hn1) (by decide), ?_⟩
        conv => whnf
        refine ⟨_, .inl (SqL.of e2), ?_⟩
        conv => whnf
        refine ⟨_, rfl, ?_⟩
        refine brN (by rfl) ?_
        conv => whnf
        refine ⟨_, _, rfl, ?_⟩
        conv => whnf
        refine ⟨_, rfl, ?_⟩
        refine brN (by rfl) ?_
        conv => whnf
        refine ⟨_, .inl (SqL.of e2), ?_⟩
        conv => whnf
        refine ⟨_, rfl, ?_⟩
        refine brN (by rfl) ?_
        conv => whnf
        refine brF ?_
        conv => whnf
        refine ⟨small_ok (by simp), fun t2 ht2 => ?_⟩
        refine k1 n 1 t2 _ ⟨low_one n, hn1, by decide, ?_⟩ (gp.up ht2) upd_same
        unfold rtext
        rw [if_pos rfl]
        exact hn.2
      · obtain ⟨n, hn⟩ := (numB_iff _).mp (allN a (by simp))
        obtain ⟨m, hm⟩ := (numB_iff _).mp (allN b (by simp))
        have hn1 := hn.1
        have hm1 := hm.1
        have key : ∀ p q, IsRat x p q → q ≠ 1 ∧ p = n ∧ q = m := fun p q hr => by
          obtain ⟨z0, z1, z2⟩ := ratB ha ex hr
          exact ⟨z0, num_uniq z1 hn, num_uniq z2 hm⟩
        conv => whnf
        refine ⟨_, _, .inl (SqL.of e2), rfl, ?_⟩
        conv => whnf
        refine ⟨n, by rw [hn.2]; exact intText_num hn.1, by rw [hn.2]; exact Nat.le_trans (num_short hn1) (by decide), ?_⟩
        conv => whnf
        refine ⟨_, .inl (SqL.of e2), ?_⟩
        conv => whnf
        refine ⟨_, rfl, ?_⟩
        refine brY (by rfl) ?_
        conv => whnf
        refine ⟨_, _, .inl (SqL.of e2), rfl, ?_⟩
        conv => whnf
        refine ⟨m, by rw [hm.2]; exact intText_num hm.1, by rw [hm.2]; exact Nat.le_trans (num_short hm1) (by decide), ?_⟩
        conv => whnf
        refine ⟨_, _, rfl, ?_⟩
        conv => whnf
        refine ⟨_, rfl, ?_⟩
        refine brD (fun h1 => ?_) (fun h1 => ?_)
        · conv => whnf
          refine brT ?_
          conv => whnf
          refine k2 (fun p q hr => ?_) _ gp
          have z1 := (key p q hr).2.2
          have z2 := hr.1.pos
          omega
        conv => whnf
        refine ⟨_, .inl (SqL.of e2), ?_⟩
        conv => whnf
        refine ⟨_, rfl, ?_⟩
        refine brY (by rfl) ?_
        conv => whnf
        refine ⟨_, rfl, ?_⟩
        refine brD (fun h2 => ?_) (fun h2 => ?_)
        · conv => whnf
          refine brT ?_
          conv => whnf
          exact k2 (fun p q hr => (key p q hr).1 ((key p q hr).2.2.trans (V.int.inj h2))) _ gp
        have m0 : 0 < m := by omega
        conv => whnf
        refine ⟨n, m, rfl, m0, by omega, Nat.lt_of_lt_of_le hn1 (by decide), fun l H2 g2 _ hl2 => ?_⟩
        conv => whnf
        refine ⟨small_ok (by simp), fun t2 ht2 => ?_⟩
        have g3 := Gr.rfl'.up (o := .tup [.int n, .int m]) ht2
        have e3 := (upd_same (H := H2) (a := t2) (o := .tup [.int n, .int m]))
        generalize upd H2 t2 (.tup [.int n, .int m]) = H3 at g3 e3 ⊢
        conv => whnf
        refine ⟨pd (n / gcdI n m) (m / gcdI n m), pd n m, TupAt.dp ⟨l, rfl, g3 _ _ hl2⟩, TupAt.dp ⟨t2, rfl, e3⟩, shaped_pd _ _, shaped_pd _ _, ?_⟩
        rw [eqv_pd]
        conv => whnf
        refine ⟨_, rfl, ?_⟩
        refine br2 (fun hq => ?_) (fun hq => ?_)
        · conv => whnf
          refine k2 (fun p q hr => ?_) _ (gp.trans (g2.trans g3))
          obtain ⟨_, rfl, rfl⟩ := key p q hr
          exact nt hq (low_self hr.1)
        · have hq := nf hq
          conv => whnf
          refine ⟨small_ok (by simp), fun t3 ht3 => ?_⟩
          have lo := (low_of (a := n) m0).1
          rw [hq.1, hq.2] at lo
          refine k1 n m t3 _ ⟨lo, hn1, hm1, ?_⟩ ((gp.trans (g2.trans g3)).up ht3) upd_same
          unfold rtext
          rw [if_neg (fun w => h2 (by rw [w])), ← hn.2, ← hm.2]
          exact ex
      · exact absurd h3 (by have : ¬ ((2 : Int) < (parts.length : Int)) := hl; omega)
def sp__law_right (K : PySem.W.Frag) {mg : Str → Option Value} (T : Txt K mg) : Sp := fun vs H Q _ => ∃ (d : Addr) (n : Nat) (o : HO), vs = [.ref d] ∧ H d = some o ∧ Dice n o ∧ n ≤ 800000 ∧ LamX.Tabs (tabs T) H ∧
  ∀ (H' : Hp) (o' : HO), Kp d H H' → H' d = some o' → Dice (n + 100) o' → LamX.Tabs (tabs T) H' → Q (.bl true) H'
section
variable {K : PySem.W.Frag} {C d : Addr} {H : Hp}
/-- a value of the pools -/
structure Pool (K : PySem.W.Frag) (C d : Addr) (H : Hp) (v : V) : Prop where
  ob : Ob K C H v
  ne : v ≠ .ref d
theorem Pool.non : Pool K C d H .non := ⟨.inl ⟨_, Kd.non⟩, nofun⟩
theorem Pool.int (i : Int) : Pool K C d H (.int i) := ⟨.inl ⟨_, Kd.int i⟩, nofun⟩
theorem Pool.bl (i : Bool) : Pool K C d H (.bl i) := ⟨.inl ⟨_, Kd.bl i⟩, nofun⟩
theorem Pool.str (i : Str) : Pool K C d H (.str i) := ⟨.inl ⟨_, Kd.str i⟩, nofun⟩
theorem Pool.tup {a : Addr} {xs : List V} (e : H a = some (.tup xs)) (n : a ≠ d) : Pool K C d H (.ref a) := ⟨.inl ⟨_, Kd.tup e⟩, fun z => n (V.ref.inj z)⟩
theorem Pool.lst {a : Addr} {xs : List V} (e : H a = some (.lst xs)) (n : a ≠ d) : Pool K C d H (.ref a) := ⟨.inl ⟨_, Kd.lst e⟩, fun z => n (V.ref.inj z)⟩
theorem Pool.dic {a : Addr} {xs : List (Key × V)} (e : H a = some (.dK xs)) (n : a ≠ d) : Pool K C d H (.ref a) := ⟨.inl ⟨_, Kd.dK e⟩, fun z => n (V.ref.inj z)⟩
theorem Pool.rat {v : V} {p q : Int} {n : Nat} {o : HO} (e : IsR C H v p q) (hd : H d = some o) (D : Dice n o) : Pool K C d H v := ⟨.inr ⟨p, q, e⟩, by
  obtain ⟨a, dx, rfl, h⟩ := e
  exact fun z => dice_ne hd D h (V.ref.inj z)⟩
theorem Pool.kp {H' : Hp} {v : V} {n : Nat} {o : HO} (h : Pool K C d H v) (k : Kp d H H') (hd : H d = some o) (D : Dice n o) : Pool K C d H' v := ⟨h.ob.kp k h.ne hd D, h.ne⟩
end
/-- what is no ratio, of the second pool -/
def NoneV (d : Addr) (H : Hp) (v : V) : Prop := v = .non ∨ (∃ i, v = .int i) ∨ v = .str "1" ∨ (∃ b, v = .bl b) ∨ ∃ a, v = .ref a ∧ a ≠ d ∧ ((∃ xs, H a = some (.lst xs)) ∨ (∃ xs, H a = some (.tup xs)) ∨ ∃ kvs, H a = some (.dK kvs))
theorem NoneV.kp {d : Addr} {H H' : Hp} {v : V} (h : NoneV d H v) (k : Kp d H H') : NoneV d H' v := by
  rcases h with h | h | h | h | ⟨a, e, n, h⟩
  · exact .inl h
  · exact .inr (.inl h)
  · exact .inr (.inr (.inl h))
  · exact .inr (.inr (.inr (.inl h)))
  · refine .inr (.inr (.inr (.inr ⟨a, e, n, ?_⟩)))
    rcases h with ⟨xs, h⟩ | ⟨xs, h⟩ | ⟨xs, h⟩
    · exact .inl ⟨xs, k _ _ h (fun _ z => by cases z) n⟩
    · exact .inr (.inl ⟨xs, k _ _ h (fun _ z => by cases z) n⟩)
    · exact .inr (.inr ⟨xs, k _ _ h (fun _ z => by cases z) n⟩)
theorem NoneV.kd {K : PySem.W.Frag} {d : Addr} {H : Hp} {v : V} (h : NoneV d H v) : ∃ S, Kd K H v S := by
  rcases h with rfl | ⟨i, rfl⟩ | rfl | ⟨b, rfl⟩ | ⟨a, rfl, n, ⟨xs, h⟩ | ⟨xs, h⟩ | ⟨xs, h⟩⟩
  · exact ⟨_, Kd.non⟩
  · exact ⟨_, Kd.int i⟩
  · exact ⟨_, Kd.str _⟩
  · exact ⟨_, Kd.bl b⟩
  · exact ⟨_, Kd.lst h⟩
  · exact ⟨_, Kd.tup h⟩
  · exact ⟨_, Kd.dK h⟩
theorem NoneV.txt {d : Addr} {H : Hp} {v : V} {x : Str} (h : NoneV d H v) (e : v = .str x) : x = "1" := by
  rcases h with rfl | ⟨i, rfl⟩ | rfl | ⟨b, rfl⟩ | ⟨a, rfl, _⟩
  · cases e
  · cases e
  · exact (V.str.inj e).symm
  · cases e
  · cases e
theorem NoneV.ne {K : PySem.W.Frag} {d : Addr} {H : Hp} {v : V} {R : VK} (h : NoneV d H v) (n : v ≠ .str "1") (k : R (.bl true) H) : uNeT K v (.str "1") H R := by
  rcases h with rfl | ⟨i, rfl⟩ | rfl | ⟨b, rfl⟩ | ⟨a, rfl, _, h⟩
  · exact neT_flat rfl k
  · exact neT_flat rfl k
  · exact absurd rfl n
  · exact neT_flat rfl k
  · exact neT_ref h k
/-- what is no tuple of ratios -/
def ManyV (K : PySem.W.Frag) (C d : Addr) (H : Hp) (v : V) : Prop := ((∃ S, Kd K H v S ∧ S ≠ "tuple") ∧ v ≠ .ref d) ∨ (∃ p q, IsR C H v p q) ∨
  ∃ (a : Addr) (xs : List V) (bs : List Bool), v = .ref a ∧ H a = some (.tup xs) ∧ xs.length ≤ 1000000 ∧ PySem.Paired (fun x b => IsB K C H x b ∧ x ≠ .ref d) xs bs ∧ bs.all id = false
theorem paired_to {α β : Type} {P Q : α → β → Prop} (f : ∀ x b, P x b → Q x b) : ∀ {xs : List α} {bs : List β}, PySem.Paired P xs bs → PySem.Paired Q xs bs
  | _, _, .nil => .nil
  | _, _, .cons h r => .cons (f _ _ h) (paired_to f r)
theorem ManyV.kp {K : PySem.W.Frag} {C d : Addr} {H H' : Hp} {v : V} {n : Nat} {o : HO} (h : ManyV K C d H v) (k : Kp d H H') (hd : H d = some o) (D : Dice n o) : ManyV K C d H' v := by
  rcases h with ⟨⟨S, h, n⟩, e⟩ | ⟨p, q, h⟩ | ⟨a, xs, bs, e, h, l, pr, ab⟩
  · exact .inl ⟨⟨S, h.kp k e, n⟩, e⟩
  · exact .inr (.inl ⟨p, q, h.kp k hd D⟩)
  · refine .inr (.inr ⟨a, xs, bs, e, k _ _ h (fun _ z => by cases z) (tup_ne hd D h), l, paired_to (fun x b z => ⟨?_, z.2⟩) pr, ab⟩)
    cases b with
    | true =>
      obtain ⟨⟨p, q, y⟩, _⟩ := z
      exact ⟨p, q, y.kp k hd D⟩
    | false =>
      obtain ⟨⟨S, y⟩, ne⟩ := z
      exact ⟨S, y.kp k ne⟩
theorem ManyV.tupB {K : PySem.W.Frag} {C d : Addr} {H : Hp} {v : V} (h : ManyV K C d H v) : TupB K C H v false := by
  rcases h with ⟨h, _⟩ | h | ⟨a, xs, bs, e, h, l, pr, ab⟩
  · exact .inl ⟨rfl, .inl h⟩
  · exact .inl ⟨rfl, .inr h⟩
  · exact .inr ⟨a, xs, bs, e, h, l, paired_to (fun x b z => z.1) pr, ab.symm⟩
/-- what is told of a text -/
def Told (B : Hp) (v r : V) (Hz : Hp) : Prop := (∃ (x : Str) (p q : Int) (t : Addr), v = .str x ∧ IsRat x p q ∧ r = .ref t ∧ Hz t = some (.tup [.int p, .int q])) ∨ ((∀ x p q, v = .str x → ¬ IsRat x p q) ∧ r = .str "ratio")
theorem text_told {K : PySem.W.Frag} {C CR CO : Addr} {B : Hp} {v : V} {S : String} {Q : VK} (hv : Kd K B v S) (hl : ∀ x, v = .str x → x.length ≤ 1000) (e1 : PySem.W.exmOne K (.ref CR) (.ref CR) = some true) (k : ∀ (r : V) (Hz : Hp), Gr B Hz → Told B v r Hz → Q r Hz) :
    sp_Ratio_of_text K C CR [.ref C, v] B (fun x H1 => ∃ b dx fs, x = .ref b ∧ H1 b = some (.ins C dx fs) ∧ sp_Ratio_pair K C [.ref b] H1 Q E0)
      fun cls _ H' => ∃ b, PySem.W.exmOne K cls (.ref CR) = some b ∧ (b = true → Q (.str "ratio") H') ∧ (b = false → ∃ b', PySem.W.exmOne K cls (.ref CO) = some b' ∧ (b' = true → Q (.str "operation") H') ∧ (b' = false → False)) := by
  refine ⟨v, S, rfl, hv, hl, fun x p q w H1 e hr g i => ?_, fun no H1 g => ?_⟩
  · obtain ⟨b, dx, rfl, hb⟩ := id i
    exact ⟨b, dx, _, rfl, hb, _, p, q, rfl, i, fun t H2 g2 _ ht => k _ _ (g.trans g2) (.inl ⟨x, p, q, t, e, hr, rfl, ht⟩)⟩
  · exact ⟨true, e1, fun _ => k _ _ g (.inr ⟨no, rfl⟩), fun z => nomatch z⟩
theorem bad_int (u : V) (q : Int) (h : (isIntV (.int q) && decide (1 ≤ q)) = false) : goodV u (.int q) = false := by
  show (isIntV u && isIntV (.int q) && decide (1 ≤ q)) = false
  rw [Bool.and_assoc, h, Bool.and_false]
theorem odd_bad {v w : V} (h : isIntV v = false) : goodV v w = false := by
  cases w with
  | int q =>
    show (isIntV v && isIntV (.int q) && decide (1 ≤ q)) = false
    rw [h]
    rfl
  | _ => rfl
theorem ok__law_right (T : Txt K mg) (TB : Tbs base T) : FnOk P w K mg base CX0 9 T.a__law_right T.d__law_right ["_law_dice_here"] (sp__law_right K T) := by
  refine okC T.FC__law_right sc__law_right (fun vs H Q E h => ?_) (fun A outer s H vs Q E hr h => ?_)
  · obtain ⟨d, n, o, rfl, _⟩ := h; rfl
  · obtain ⟨d, n, o, rfl, hd, D0, hn, TB0, k⟩ := h
    refine ⟨_, (pss_cons (ps_set (i := 1) sc__law_right.nd rfl (by first | exact Or.inl rfl | exact Or.inr rfl) (pe_call (ok__law_pick T) (hr.mono (by decide)) (by rfl) T.g__law_pick T.F__law_pick.kp T.B__law_pick .nil pass0 (pa_cons (pev 0) (pa_cons (pe_lst (pa_cons pe_non (pa_cons pe_str (pa_cons pe_bl (pa_cons pe_bl (pa_cons (pe_op opPow pe_int pe_int) (pa_cons (pe_un unNeg (pe_op opPow pe_int pe_int)) (pa_cons (pe_tup (pa_cons pe_int pa_nil)) (pa_cons (pe_lst (pa_cons pe_int pa_nil)) (pa_cons pe_dnewK (pa_cons pe_str (pa_cons (pe_make T.K_Ratio (ok_Ratio___init__ T) (hr.mono (by decide)) (by rfl) T.g_Ratio T.B_Ratio___init__ .nil (passes_call takes_none5 (fun _ _ _ _ h => h)) (pa_cons pe_int (pa_cons pe_int pa_nil))) pa_nil)))))))))))) pa_nil))))
        (pss_cons (ps_set (i := 2) sc__law_right.nd rfl (by first | exact Or.inl rfl | exact Or.inr rfl) (pe_call (ok__law_pick T) (hr.mono (by decide)) (by rfl) T.g__law_pick T.F__law_pick.kp T.B__law_pick .nil pass0 (pa_cons (pev 0) (pa_cons (pe_lst (pa_cons pe_int (pa_cons (pe_un unNeg pe_int) (pa_cons pe_non (pa_cons pe_bl (pa_cons pe_str (pa_cons (pe_op opPow pe_int pe_int) (pa_cons (pe_un unNeg (pe_op opPow pe_int pe_int)) (pa_cons (pe_tup (pa_cons pe_int pa_nil)) (pa_cons (pe_make T.K_Ratio (ok_Ratio___init__ T) (hr.mono (by decide)) (by rfl) T.g_Ratio T.B_Ratio___init__ .nil (passes_call takes_none5 (fun _ _ _ _ h => h)) (pa_cons pe_int (pa_cons pe_int pa_nil))) pa_nil)))))))))) pa_nil))))
        (pss_cons (ps_set (i := 3) sc__law_right.nd rfl (by first | exact Or.inl rfl | exact Or.inr rfl) (pe_make T.K_Ratio (ok_Ratio___init__ T) (hr.mono (by decide)) (by rfl) T.g_Ratio T.B_Ratio___init__ .nil (passes_call takes_none5 (fun _ _ _ _ h => h)) (pa_cons (pe_op opSub (pe_call (ok__law_roll T) (hr.mono (by decide)) (by rfl) T.g__law_roll T.F__law_roll.kp T.B__law_roll .nil pass0 (pa_cons (pev 0) (pa_cons pe_int pa_nil))) pe_int) (pa_cons (pe_op opAdd pe_int (pe_call (ok__law_roll T) (hr.mono (by decide)) (by rfl) T.g__law_roll T.F__law_roll.kp T.B__law_roll .nil pass0 (pa_cons (pev 0) (pa_cons pe_int pa_nil)))) pa_nil))))
        (pss_cons (ps_set (i := 4) sc__law_right.nd rfl (by first | exact Or.inl rfl | exact Or.inr rfl) (pe_call (ok__law_pick T) (hr.mono (by decide)) (by rfl) T.g__law_pick T.F__law_pick.kp T.B__law_pick .nil pass0 (pa_cons (pev 0) (pa_cons (pe_lst (pa_cons pe_non (pa_cons pe_int (pa_cons pe_int (pa_cons pe_str (pa_cons (pe_tup (pa_cons pe_int (pa_cons pe_int pa_nil))) (pa_cons pe_bl (pa_cons (pe_lst (pa_cons (pev 3) pa_nil)) (pa_cons pe_dnewK pa_nil))))))))) pa_nil))))
        (pss_cons (ps_set (i := 5) sc__law_right.nd rfl (by first | exact Or.inl rfl | exact Or.inr rfl) (pe_call (ok__law_pick T) (hr.mono (by decide)) (by rfl) T.g__law_pick T.F__law_pick.kp T.B__law_pick .nil pass0 (pa_cons (pev 0) (pa_cons (pe_lst (pa_cons pe_non (pa_cons pe_int (pa_cons (pev 3) (pa_cons (pe_lst (pa_cons (pev 3) pa_nil)) (pa_cons (pe_tup (pa_cons (pev 3) (pa_cons pe_non pa_nil))) (pa_cons (pe_tup (pa_cons (pev 3) (pa_cons pe_int pa_nil))) (pa_cons (pe_tup (pa_cons (pe_tup (pa_cons pe_int (pa_cons pe_int pa_nil))) pa_nil)) (pa_cons pe_str (pa_cons pe_dnewK (pa_cons (pe_tup (pa_cons (pev 3) (pa_cons (pe_prop (pev 3) T.o_Ratio.cl T.P_Ratio_pair (ok_Ratio_pair T) (hr.mono (by decide)) T.B_Ratio_pair .nil pass0 rfl) pa_nil))) pa_nil))))))))))) pa_nil))))
        (pss_cons (ps_set (i := 6) sc__law_right.nd rfl (by first | exact Or.inl rfl | exact Or.inr rfl) (pe_lst (pa_cons (peLam (T := tabs T) (k := 3) T.F__law_told T.g__law_told T.B__law_told sc__law_told (fun _ => (told_pair T.o_Ratio.cl T.P_Ratio_pair (ok_Ratio_pair T) (hr.mono (by decide)) T.B_Ratio_pair rfl T.g_InvalidRatio rfl T.g_InvalidOperation (by decide) (by decide) (fun _ => rfl) (fun _ => rfl))) TB.t__law_right rfl mem__law_right (uniq__law_right T) (hr.mono (by decide)) (fun A outer s H E f c' hr => (pe_make T.K_Ratio (ok_Ratio___init__ T) (hr.mono (by decide)) (by rfl) T.g_Ratio T.B_Ratio___init__ .nil (passes_call (takes_of rfl rfl rfl rfl) (fun _ _ _ _ h => h)) (pa_cons (pev 1) (pa_cons pe_int pa_nil)))) (L := LamX.lamS_by (sc := defScope s__law_right) (by decide +kernel))) pa_nil)))
        (pss_cons (ps_expr (pe_bm PySem.F.plainAttrs_list PySem.F.slot_list_append PySem.F.type_list_append mt_append (pev 6) (pa_cons (peLam (T := tabs T) (k := 3) T.F__law_told T.g__law_told T.B__law_told sc__law_told (fun _ => (told_pair T.o_Ratio.cl T.P_Ratio_pair (ok_Ratio_pair T) (hr.mono (by decide)) T.B_Ratio_pair rfl T.g_InvalidRatio rfl T.g_InvalidOperation (by decide) (by decide) (fun _ => rfl) (fun _ => rfl))) TB.t__law_right rfl mem__law_right (uniq__law_right T) (hr.mono (by decide)) (fun A outer s H E f c' hr => (pe_make T.K_Ratio (ok_Ratio___init__ T) (hr.mono (by decide)) (by rfl) T.g_Ratio T.B_Ratio___init__ .nil (passes_call (takes_of rfl rfl rfl rfl) (fun _ _ _ _ h => h)) (pa_cons pe_int (pa_cons (pev 2) pa_nil)))) (L := LamX.lamS_by (sc := defScope s__law_right) (by decide +kernel))) pa_nil)))
        (pss_cons (ps_expr (pe_bm PySem.F.plainAttrs_list PySem.F.slot_list_append PySem.F.type_list_append mt_append (pev 6) (pa_cons (peLam (T := tabs T) (k := 3) T.F__law_told T.g__law_told T.B__law_told sc__law_told (fun _ => (told_pair T.o_Ratio.cl T.P_Ratio_pair (ok_Ratio_pair T) (hr.mono (by decide)) T.B_Ratio_pair rfl T.g_InvalidRatio rfl T.g_InvalidOperation (by decide) (by decide) (fun _ => rfl) (fun _ => rfl))) TB.t__law_right rfl mem__law_right (uniq__law_right T) (hr.mono (by decide)) (fun A outer s H E f c' hr => (pe_make T.K_Ratio (ok_Ratio___init__ T) (hr.mono (by decide)) (by rfl) T.g_Ratio T.B_Ratio___init__ .nil (passes_call (takes_of rfl rfl rfl rfl) (fun _ _ _ _ h => h)) (pa_cons (pev 1) (pa_cons (pev 2) pa_nil)))) (L := LamX.lamS_by (sc := defScope s__law_right) (by decide +kernel))) pa_nil)))
        (pss_cons (ps_expr (pe_bm PySem.F.plainAttrs_list PySem.F.slot_list_append PySem.F.type_list_append mt_append (pev 6) (pa_cons (peLam (T := tabs T) (k := 2) T.F__law_told T.g__law_told T.B__law_told sc__law_told (fun _ => (told_pair T.o_Ratio.cl T.P_Ratio_pair (ok_Ratio_pair T) (hr.mono (by decide)) T.B_Ratio_pair rfl T.g_InvalidRatio rfl T.g_InvalidOperation (by decide) (by decide) (fun _ => rfl) (fun _ => rfl))) TB.t__law_right rfl mem__law_right (uniq__law_right T) (hr.mono (by decide)) (fun A outer s H E f c' hr => (pe_meth (pev 3) T.o_Ratio.cl T.M_Ratio_over (ok_Ratio_over T) (hr.mono (by decide)) T.B_Ratio_over .nil (passes_call (takes_of rfl rfl rfl rfl) (fun _ _ _ _ h => h)) (pa_cons (pev 4) pa_nil))) (L := LamX.lamS_by (sc := defScope s__law_right) (by decide +kernel))) pa_nil)))
        (pss_cons (ps_expr (pe_bm PySem.F.plainAttrs_list PySem.F.slot_list_append PySem.F.type_list_append mt_append (pev 6) (pa_cons (peLam (T := tabs T) (k := 2) T.F__law_told T.g__law_told T.B__law_told sc__law_told (fun _ => (told_pair T.o_Ratio.cl T.P_Ratio_pair (ok_Ratio_pair T) (hr.mono (by decide)) T.B_Ratio_pair rfl T.g_InvalidRatio rfl T.g_InvalidOperation (by decide) (by decide) (fun _ => rfl) (fun _ => rfl))) TB.t__law_right rfl mem__law_right (uniq__law_right T) (hr.mono (by decide)) (fun A outer s H E f c' hr => (pe_call (ok_sum_of T) (hr.mono (by decide)) (by rfl) T.g_sum_of T.F_sum_of.kp T.B_sum_of .nil (passes_call (takes_of rfl rfl rfl rfl) (fun _ _ _ _ h => h)) (pa_cons (pev 5) pa_nil))) (L := LamX.lamS_by (sc := defScope s__law_right) (by decide +kernel))) pa_nil)))
        (pss_cons (ps_expr (pe_bm PySem.F.plainAttrs_list PySem.F.slot_list_append PySem.F.type_list_append mt_append (pev 6) (pa_cons (peLam (T := tabs T) (k := 2) T.F__law_told T.g__law_told T.B__law_told sc__law_told (fun _ => (told_pair T.o_Ratio.cl T.P_Ratio_pair (ok_Ratio_pair T) (hr.mono (by decide)) T.B_Ratio_pair rfl T.g_InvalidRatio rfl T.g_InvalidOperation (by decide) (by decide) (fun _ => rfl) (fun _ => rfl))) TB.t__law_right rfl mem__law_right (uniq__law_right T) (hr.mono (by decide)) (fun A outer s H E f c' hr => (pe_call (ok_greatest_of T) (hr.mono (by decide)) (by rfl) T.g_greatest_of T.F_greatest_of.kp T.B_greatest_of .nil (passes_call (takes_of rfl rfl rfl rfl) (fun _ _ _ _ h => h)) (pa_cons (pev 5) pa_nil))) (L := LamX.lamS_by (sc := defScope s__law_right) (by decide +kernel))) pa_nil)))
        (pss_cons (ps_expr (pe_bm PySem.F.plainAttrs_list PySem.F.slot_list_append PySem.F.type_list_append mt_append (pev 6) (pa_cons (peLam (T := tabs T) (k := 6) T.F__law_told T.g__law_told T.B__law_told sc__law_told (fun _ => (told_pair T.o_Ratio.cl T.P_Ratio_pair (ok_Ratio_pair T) (hr.mono (by decide)) T.B_Ratio_pair rfl T.g_InvalidRatio rfl T.g_InvalidOperation (by decide) (by decide) (fun _ => rfl) (fun _ => rfl))) TB.t__law_right rfl mem__law_right (uniq__law_right T) (hr.mono (by decide)) (fun A outer s H E f c' hr => (ClX.pe_cmeth (pe_glob (v := .ref T.c_Ratio) (by rfl) T.g_Ratio rfl) T.R_Ratio T.Q_Ratio_of_text ((ok_Ratio_of_text T).raw T.B_Ratio_of_text .nil) (hr.mono (by decide)) (passes_call (takes_of rfl rfl rfl rfl) (fun _ _ _ _ h => h)) (pa_cons (pev 4) pa_nil))) (L := LamX.lamS_by (sc := defScope s__law_right) (by decide +kernel))) pa_nil)))
        (pss_cons (ps_expr (pe_bm PySem.F.plainAttrs_list PySem.F.slot_list_append PySem.F.type_list_append mt_append (pev 6) (pa_cons (peLam (T := tabs T) (k := 3) T.F__law_told T.g__law_told T.B__law_told sc__law_told (fun _ => (told_pair T.o_Ratio.cl T.P_Ratio_pair (ok_Ratio_pair T) (hr.mono (by decide)) T.B_Ratio_pair rfl T.g_InvalidRatio rfl T.g_InvalidOperation (by decide) (by decide) (fun _ => rfl) (fun _ => rfl))) TB.t__law_right rfl mem__law_right (uniq__law_right T) (hr.mono (by decide)) (fun A outer s H E f c' hr => (pe_meth (pev 3) T.o_Ratio.cl T.M_Ratio_over (ok_Ratio_over T) (hr.mono (by decide)) T.B_Ratio_over .nil (passes_call (takes_of rfl rfl rfl rfl) (fun _ _ _ _ h => h)) (pa_cons (pe_make T.K_Ratio (ok_Ratio___init__ T) (hr.mono (by decide)) (by rfl) T.g_Ratio T.B_Ratio___init__ .nil (passes_call (takes_of rfl rfl rfl rfl) (fun _ _ _ _ h => h)) (pa_cons pe_int (pa_cons pe_int pa_nil))) pa_nil))) (L := LamX.lamS_by (sc := defScope s__law_right) (by decide +kernel))) pa_nil)))
        (pss_cons (ps_expr (pe_bm PySem.F.plainAttrs_list PySem.F.slot_list_append PySem.F.type_list_append mt_append (pev 6) (pa_cons (peLam (T := tabs T) (k := 2) T.F__law_told T.g__law_told T.B__law_told sc__law_told (fun _ => (told_pair T.o_Ratio.cl T.P_Ratio_pair (ok_Ratio_pair T) (hr.mono (by decide)) T.B_Ratio_pair rfl T.g_InvalidRatio rfl T.g_InvalidOperation (by decide) (by decide) (fun _ => rfl) (fun _ => rfl))) TB.t__law_right rfl mem__law_right (uniq__law_right T) (hr.mono (by decide)) (fun A outer s H E f c' hr => (pe_call (ok_greatest_of T) (hr.mono (by decide)) (by rfl) T.g_greatest_of T.F_greatest_of.kp T.B_greatest_of .nil (passes_call (takes_of rfl rfl rfl rfl) (fun _ _ _ _ h => h)) (pa_cons (pe_tup pa_nil) pa_nil))) (L := LamX.lamS_by (sc := defScope s__law_right) (by decide +kernel))) pa_nil)))
        (pss_cons (ps_set (i := 7) sc__law_right.nd rfl (by first | exact Or.inl rfl | exact Or.inr rfl) (pe_op opAdd (pe_op opMulT (pe_lst (pa_cons pe_str pa_nil)) pe_int) (pe_lst (pa_cons (peIf (pt_cmpR (opNeT (hu64 hr)) (pev 4) pe_str (nomark _)) pe_str (pe_tup (pa_cons pe_int (pa_cons pe_int pa_nil)))) (pa_cons pe_str (pa_cons pe_str pa_nil))))))
        (pss_cons (psIf (pt_cmpR (opNe (hu64 hr)) (pev 6) (pev 7) (nomark _)) (pss_one (ps_ret pe_bl)) pss_nil)
        (pss_cons (ps_for PassesOwn.never rfl (pi_range1 (by rfl) T.b_range (pa_cons pe_int pa_nil)) (pg_name (i := 8) sc__law_right.nd rfl (by first | exact Or.inl rfl | exact Or.inr rfl))
        (pss_cons (ps_set (i := 9) sc__law_right.nd rfl (by first | exact Or.inl rfl | exact Or.inr rfl) (pe_callTy (caStrO T.M_Ratio___str__ (ok_Ratio___str__ T) (hr.mono (by decide)) T.B_Ratio___str__ pass0) (by rfl) T.b_str (by decide +kernel) (pa_cons (pe_make T.K_Ratio (ok_Ratio___init__ T) (hr.mono (by decide)) (by rfl) T.g_Ratio T.B_Ratio___init__ .nil (passes_call takes_none5 (fun _ _ _ _ h => h)) (pa_cons (pe_op opSub (pe_call (ok__law_roll T) (hr.mono (by decide)) (by rfl) T.g__law_roll T.F__law_roll.kp T.B__law_roll .nil pass0 (pa_cons (pev 0) (pa_cons pe_int pa_nil))) pe_int) (pa_cons (pe_op opAdd pe_int (pe_call (ok__law_roll T) (hr.mono (by decide)) (by rfl) T.g__law_roll T.F__law_roll.kp T.B__law_roll .nil pass0 (pa_cons (pev 0) (pa_cons pe_int pa_nil)))) pa_nil))) pa_nil)))
        (pss_one (ps_for PassesOwn.never rfl (pi_tup (pe_tup (pa_cons (pev 9) (pa_cons (pe_call (ok__law_bent T) (hr.mono (by decide)) (by rfl) T.g__law_bent T.F__law_bent.kp T.B__law_bent .nil pass0 (pa_cons (pev 0) (pa_cons (pev 9) pa_nil))) (pa_cons (pe_call (ok__law_bent T) (hr.mono (by decide)) (by rfl) T.g__law_bent T.F__law_bent.kp T.B__law_bent .nil pass0 (pa_cons (pev 0) (pa_cons (pe_call (ok__law_bent T) (hr.mono (by decide)) (by rfl) T.g__law_bent T.F__law_bent.kp T.B__law_bent .nil pass0 (pa_cons (pev 0) (pa_cons (pev 9) pa_nil))) pa_nil))) pa_nil))))) (pg_name (i := 10) sc__law_right.nd rfl (by first | exact Or.inl rfl | exact Or.inr rfl))
        (pss_one (psIf (pt_cmpR (opNe (hu64 hr)) (peLam (T := tabs T) (k := 6) T.F__law_told T.g__law_told T.B__law_told sc__law_told (fun _ => (told_pair T.o_Ratio.cl T.P_Ratio_pair (ok_Ratio_pair T) (hr.mono (by decide)) T.B_Ratio_pair rfl T.g_InvalidRatio rfl T.g_InvalidOperation (by decide) (by decide) (fun _ => rfl) (fun _ => rfl))) TB.t__law_right rfl mem__law_right (uniq__law_right T) (hr.mono (by decide)) (fun A outer s H E f c' hr => (ClX.pe_cmeth (pe_glob (v := .ref T.c_Ratio) (by rfl) T.g_Ratio rfl) T.R_Ratio T.Q_Ratio_of_text ((ok_Ratio_of_text T).raw T.B_Ratio_of_text .nil) (hr.mono (by decide)) (passes_call (takes_of rfl rfl rfl rfl) (fun _ _ _ _ h => h)) (pa_cons (pev 10) pa_nil))) (L := LamX.lamS_by (sc := defScope s__law_right) (by decide +kernel))) (pe_call (ok__law_read T) (hr.mono (by decide)) (by rfl) T.g__law_read T.F__law_read.kp T.B__law_read .nil pass0 (pa_cons (pev 10) pa_nil)) (nomark _)) (pss_one (ps_ret pe_bl)) pss_nil))))))
        (pss_one (ps_ret pe_bl))))))))))))))))))), ?_⟩
    conv => whnf
    refine ⟨⟨by decide, by decide, by decide⟩, ?_⟩
    conv => whnf
    refine ⟨⟨by decide, by decide, by decide⟩, ?_⟩
    conv => whnf
    refine ⟨small_ok (by simp), fun a1 ha1 => ?_⟩
    have ga := Gr.rfl'.up (o := .tup [.int 1]) ha1
    have ea := upd_same (H := H) (a := a1) (o := .tup [.int 1])
    have na := (ne_of_none hd ha1).symm
    have hda := ga _ _ hd
    generalize upd H a1 (.tup [.int 1]) = Ha at ga ea hda ⊢
    conv => whnf
    refine ⟨small_ok (by simp), fun a2 ha2 => ?_⟩
    have gb := Gr.rfl'.up (o := .lst [.int 1]) ha2
    have eb := upd_same (H := Ha) (a := a2) (o := .lst [.int 1])
    have nb := (ne_of_none hda ha2).symm
    have hdb := gb _ _ hda
    generalize upd Ha a2 (.lst [.int 1]) = Hb at gb eb hdb ⊢
    conv => whnf
    intro a3 ha3
    have gc := Gr.rfl'.up (o := .dK []) ha3
    have ec := upd_same (H := Hb) (a := a3) (o := .dK [])
    have nc := (ne_of_none hdb ha3).symm
    have hdc := gc _ _ hdb
    generalize upd Hb a3 (.dK []) = Hc at gc ec hdc ⊢
    conv => whnf
    intro x4 dx4 hx4 hdx4 ne4
    refine make_R (R := fun H2 => _) hx4 hdx4 ne4 (by decide) (by decide) fun Hd gd r4 => ?_
    have hdd := gd _ _ hdc
    conv => whnf
    refine ⟨small_ok (by simp), fun pl hpl => ?_⟩
    have ge := Gr.rfl'.up (o := .lst [.non, .str "1", .bl true, .bl false, .int (10 ^ Int.toNat 60), .int (-(10 ^ Int.toNat 60)), .ref a1, .ref a2, .ref a3, .str "", .ref x4]) hpl
    have ee := upd_same (H := Hd) (a := pl) (o := .lst [.non, .str "1", .bl true, .bl false, .int (10 ^ Int.toNat 60), .int (-(10 ^ Int.toNat 60)), .ref a1, .ref a2, .ref a3, .str "", .ref x4])
    have ne := (ne_of_none hdd hpl).symm
    have hde := ge _ _ hdd
    generalize upd Hd pl (.lst [.non, .str "1", .bl true, .bl false, .int (10 ^ Int.toNat 60), .int (-(10 ^ Int.toNat 60)), .ref a1, .ref a2, .ref a3, .str "", .ref x4]) = He at ge ee hde ⊢
    conv => whnf
    refine ⟨d, n, o, _, _, rfl, hde, D0, by omega, .inr ⟨pl, rfl, ne, .inl (SqL.of ee)⟩, by simp, by simp, fun H1 odd o1 f1 g1 D1 m1 => ?_⟩
    have G1 := (((ga.trans gb).trans gc).trans gd).trans ge
    have K1 : Kp d H H1 := (Kp.of G1).trans (Kp.dice f1)
    have TB1 := tabs_dice (TB0.ext G1) f1 hde D0
    have P1 : Pool K T.c_Ratio d H1 odd ∧ isIntV odd = false := by
      have all : Pool K T.c_Ratio d He odd ∧ isIntV odd = false := by
        simp only [List.mem_cons, List.not_mem_nil, or_false] at m1
        rcases m1 with rfl | rfl | rfl | rfl | rfl | rfl | rfl | rfl | rfl | rfl | rfl
        · exact ⟨.non, rfl⟩
        · exact ⟨.str _, rfl⟩
        · exact ⟨.bl _, rfl⟩
        · exact ⟨.bl _, rfl⟩
        · exact ⟨.int _, by decide⟩
        · exact ⟨.int _, by decide⟩
        · exact ⟨.tup (ge _ _ (gd _ _ (gc _ _ (gb _ _ ea)))) na, rfl⟩
        · exact ⟨.lst (ge _ _ (gd _ _ (gc _ _ eb))) nb, rfl⟩
        · exact ⟨.dic (ge _ _ (gd _ _ ec)) nc, rfl⟩
        · exact ⟨.str _, rfl⟩
        · exact ⟨.rat (r4.up ge) hde D0, rfl⟩
      exact ⟨all.1.kp (Kp.dice f1) hde D0, all.2⟩
    clear m1
    obtain ⟨P1, I1⟩ := P1
    conv => whnf
    refine ⟨⟨by decide, by decide, by decide⟩, ?_⟩
    conv => whnf
    refine ⟨⟨by decide, by decide, by decide⟩, ?_⟩
    conv => whnf
    refine ⟨small_ok (by simp), fun b1 hb1 => ?_⟩
    have ja := Gr.rfl'.up (o := .tup [.int 2]) hb1
    have fa := upd_same (H := H1) (a := b1) (o := .tup [.int 2])
    have ma := (ne_of_none g1 hb1).symm
    have id1 := ja _ _ g1
    generalize upd H1 b1 (.tup [.int 2]) = Ia at ja fa id1 ⊢
    conv => whnf
    intro x5 dx5 hx5 hdx5 ne5
    refine make_R (R := fun H2 => _) hx5 hdx5 ne5 (by decide) (by decide) fun Ib jb r5 => ?_
    have id2 := jb _ _ id1
    conv => whnf
    refine ⟨small_ok (by simp), fun p2 hp2 => ?_⟩
    have jc := Gr.rfl'.up (o := .lst [.int 0, .int (-1), .non, .bl true, .str "2", .int (10 ^ Int.toNat 60), .int (-(10 ^ Int.toNat 59)), .ref b1, .ref x5]) hp2
    have fc := upd_same (H := Ib) (a := p2) (o := .lst [.int 0, .int (-1), .non, .bl true, .str "2", .int (10 ^ Int.toNat 60), .int (-(10 ^ Int.toNat 59)), .ref b1, .ref x5])
    have mc := (ne_of_none id2 hp2).symm
    have id3 := jc _ _ id2
    generalize upd Ib p2 (.lst [.int 0, .int (-1), .non, .bl true, .str "2", .int (10 ^ Int.toNat 60), .int (-(10 ^ Int.toNat 59)), .ref b1, .ref x5]) = Ic at jc fc id3 ⊢
    conv => whnf
    refine ⟨d, _, o1, _, _, rfl, id3, D1, by omega, .inr ⟨p2, rfl, mc, .inl (SqL.of fc)⟩, by simp, by simp, fun H2 bad o2 f2 g2 D2 m2 => ?_⟩
    have G2 := (ja.trans jb).trans jc
    have K2 : Kp d H1 H2 := (Kp.of G2).trans (Kp.dice f2)
    have TB2 := tabs_dice (TB1.ext G2) f2 id3 D1
    have P2 : Pool K T.c_Ratio d H2 bad ∧ ∀ u, goodV u bad = false := by
      have all : Pool K T.c_Ratio d Ic bad ∧ ∀ u, goodV u bad = false := by
        simp only [List.mem_cons, List.not_mem_nil, or_false] at m2
        rcases m2 with rfl | rfl | rfl | rfl | rfl | rfl | rfl | rfl | rfl
        · exact ⟨.int _, fun u => bad_int u _ (by decide)⟩
        · exact ⟨.int _, fun u => bad_int u _ (by decide)⟩
        · exact ⟨.non, fun _ => rfl⟩
        · exact ⟨.bl _, fun _ => rfl⟩
        · exact ⟨.str _, fun _ => rfl⟩
        · exact ⟨.int _, fun u => bad_int u _ (by decide)⟩
        · exact ⟨.int _, fun u => bad_int u _ (by decide)⟩
        · exact ⟨.tup (jc _ _ (jb _ _ fa)) ma, fun _ => rfl⟩
        · exact ⟨.rat (r5.up jc) id3 D1, fun _ => rfl⟩
      exact ⟨all.1.kp (Kp.dice f2) id3 D1, all.2⟩
    clear m2
    obtain ⟨P2, I2⟩ := P2
    have P1 := P1.kp K2 g1 D1
    conv => whnf
    refine ⟨d, _, 9, o2, rfl, g2, D2, by omega, by decide, by decide, fun H3 i3 o3 f3 g3 D3 i30 i31 => ?_⟩
    conv => whnf
    refine ⟨d, _, 9, o3, rfl, g3, D3, by omega, by decide, by decide, fun H4 i4 o4 f4 g4 D4 i40 i41 => ?_⟩
    conv => whnf
    intro x6 dx6 hx6 hdx6 ne6
    refine make_R (R := fun H2 => _) hx6 hdx6 ne6 (by omega) (by omega) fun H5 g5 one => ?_
    have K5 : Kp d H2 H5 := ((Kp.dice f3).trans (Kp.dice f4)).trans (Kp.of g5)
    have TB5 := (tabs_dice (tabs_dice TB2 f3 g2 D2) f4 g3 D3).ext g5
    have d5 := g5 _ _ g4
    have P1 := P1.kp K5 g2 D2
    have P2 := P2.kp K5 g2 D2
    generalize (i3 - 4) / gcdI (i3 - 4) (1 + i4) = p1 at one
    generalize (1 + i4) / gcdI (i3 - 4) (1 + i4) = q1 at one
    have K5 : Kp d H H5 := (K1.trans K2).trans K5
    conv => whnf
    refine ⟨small_ok (by simp), fun c1 hc1 => ?_⟩
    have la := Gr.rfl'.up (o := .tup [.int 1, .int 2]) hc1
    have ka := upd_same (H := H5) (a := c1) (o := .tup [.int 1, .int 2])
    have ta := (ne_of_none d5 hc1).symm
    have jd1 := la _ _ d5
    generalize upd H5 c1 (.tup [.int 1, .int 2]) = Ja at la ka jd1 ⊢
    conv => whnf
    refine ⟨small_ok (by simp), fun c2 hc2 => ?_⟩
    have lb := Gr.rfl'.up (o := .lst [.ref x6]) hc2
    have kb := upd_same (H := Ja) (a := c2) (o := .lst [.ref x6])
    have tb := (ne_of_none jd1 hc2).symm
    have jd2 := lb _ _ jd1
    generalize upd Ja c2 (.lst [.ref x6]) = Jb at lb kb jd2 ⊢
    conv => whnf
    intro c3 hc3
    have lc := Gr.rfl'.up (o := .dK []) hc3
    have kc := upd_same (H := Jb) (a := c3) (o := .dK [])
    have tc := (ne_of_none jd2 hc3).symm
    have jd3 := lc _ _ jd2
    generalize upd Jb c3 (.dK []) = Jc at lc kc jd3 ⊢
    conv => whnf
    refine ⟨small_ok (by simp), fun c4 hc4 => ?_⟩
    have ld := Gr.rfl'.up (o := .lst [.non, .int 0, .int 1, .str "1", .ref c1, .bl true, .ref c2, .ref c3]) hc4
    have kd := upd_same (H := Jc) (a := c4) (o := .lst [.non, .int 0, .int 1, .str "1", .ref c1, .bl true, .ref c2, .ref c3])
    have td := (ne_of_none jd3 hc4).symm
    have jd4 := ld _ _ jd3
    generalize upd Jc c4 (.lst [.non, .int 0, .int 1, .str "1", .ref c1, .bl true, .ref c2, .ref c3]) = Jd at ld kd jd4 ⊢
    conv => whnf
    refine ⟨d, _, o4, _, _, rfl, jd4, D4, by omega, .inr ⟨c4, rfl, td, .inl (SqL.of kd)⟩, by simp, by simp, fun H6 non o6 f6 g6 D6 m6 => ?_⟩
    have G6 := ((la.trans lb).trans lc).trans ld
    have K6 : Kp d H5 H6 := (Kp.of G6).trans (Kp.dice f6)
    have TB6 := tabs_dice (TB5.ext G6) f6 jd4 D4
    have P3 : NoneV d H6 non := by
      have all : NoneV d Jd non := by
        simp only [List.mem_cons, List.not_mem_nil, or_false] at m6
        rcases m6 with rfl | rfl | rfl | rfl | rfl | rfl | rfl | rfl
        · exact .inl rfl
        · exact .inr (.inl ⟨_, rfl⟩)
        · exact .inr (.inl ⟨_, rfl⟩)
        · exact .inr (.inr (.inl rfl))
        · exact .inr (.inr (.inr (.inr ⟨_, rfl, ta, .inr (.inl ⟨_, ld _ _ (lc _ _ (lb _ _ ka))⟩)⟩)))
        · exact .inr (.inr (.inr (.inl ⟨_, rfl⟩)))
        · exact .inr (.inr (.inr (.inr ⟨_, rfl, tb, .inl ⟨_, ld _ _ (lc _ _ kb)⟩⟩)))
        · exact .inr (.inr (.inr (.inr ⟨_, rfl, tc, .inr (.inr ⟨_, ld _ _ kc⟩)⟩)))
      exact all.kp (Kp.dice f6)
    clear m6
    have P1 := P1.kp K6 d5 D4
    have P2 := P2.kp K6 d5 D4
    have one6 := one.kp K6 d5 D4
    have nx6 : x6 ≠ d := by
      obtain ⟨_, _, z, e⟩ := one6
      cases z
      exact dice_ne g6 D6 e
    conv => whnf
    refine ⟨small_ok (by simp), fun e1 he1 => ?_⟩
    have qa := Gr.rfl'.up (o := .lst [.ref x6]) he1
    have ua := upd_same (H := H6) (a := e1) (o := .lst [.ref x6])
    have va := (ne_of_none g6 he1).symm
    have ld1 := qa _ _ g6
    generalize upd H6 e1 (.lst [.ref x6]) = La at qa ua ld1 ⊢
    conv => whnf
    refine ⟨small_ok (by simp), fun e2 he2 => ?_⟩
    have qb := Gr.rfl'.up (o := .tup [.ref x6, .non]) he2
    have ub := upd_same (H := La) (a := e2) (o := .tup [.ref x6, .non])
    have vb := (ne_of_none ld1 he2).symm
    have ld2 := qb _ _ ld1
    generalize upd La e2 (.tup [.ref x6, .non]) = Lb at qb ub ld2 ⊢
    conv => whnf
    refine ⟨small_ok (by simp), fun e3 he3 => ?_⟩
    have qc := Gr.rfl'.up (o := .tup [.ref x6, .int 1]) he3
    have uc := upd_same (H := Lb) (a := e3) (o := .tup [.ref x6, .int 1])
    have vc := (ne_of_none ld2 he3).symm
    have ld3 := qc _ _ ld2
    generalize upd Lb e3 (.tup [.ref x6, .int 1]) = Lc at qc uc ld3 ⊢
    conv => whnf
    refine ⟨small_ok (by simp), fun e4 he4 => ?_⟩
    have qd := Gr.rfl'.up (o := .tup [.int 1, .int 2]) he4
    have ud := upd_same (H := Lc) (a := e4) (o := .tup [.int 1, .int 2])
    have vd := (ne_of_none ld3 he4).symm
    have ld4 := qd _ _ ld3
    generalize upd Lc e4 (.tup [.int 1, .int 2]) = Ld at qd ud ld4 ⊢
    conv => whnf
    refine ⟨small_ok (by simp), fun e5 he5 => ?_⟩
    have qe := Gr.rfl'.up (o := .tup [.ref e4]) he5
    have ue := upd_same (H := Ld) (a := e5) (o := .tup [.ref e4])
    have ve := (ne_of_none ld4 he5).symm
    have ld5 := qe _ _ ld4
    generalize upd Ld e5 (.tup [.ref e4]) = Le at qe ue ld5 ⊢
    conv => whnf
    intro e6 he6
    have qf := Gr.rfl'.up (o := .dK []) he6
    have uf := upd_same (H := Le) (a := e6) (o := .dK [])
    have vf := (ne_of_none ld5 he6).symm
    have ld6 := qf _ _ ld5
    generalize upd Le e6 (.dK []) = Lf at qf uf ld6 ⊢
    have gL := ((((qa.trans qb).trans qc).trans qd).trans qe).trans qf
    have oneL := one6.up gL
    obtain ⟨_, dxo, zo, hxo⟩ := id oneL
    cases zo
    conv => whnf
    refine ⟨x6, dxo, _, rfl, hxo, _, p1, q1, rfl, oneL, fun e7 Lg qg hnew uh => ?_⟩
    have ld7 := qg _ _ ld6
    have ve7 : e7 ≠ d := (ne_of_none ld6 hnew).symm
    conv => whnf
    refine ⟨small_ok (by simp), fun e8 he8 => ?_⟩
    have qh := Gr.rfl'.up (o := .tup [.ref x6, .ref e7]) he8
    have ui := upd_same (H := Lg) (a := e8) (o := .tup [.ref x6, .ref e7])
    have vi := (ne_of_none ld7 he8).symm
    have ld8 := qh _ _ ld7
    generalize upd Lg e8 (.tup [.ref x6, .ref e7]) = Lh at qh ui ld8 ⊢
    conv => whnf
    refine ⟨small_ok (by simp), fun e9 he9 => ?_⟩
    have qi := Gr.rfl'.up (o := .lst [.non, .int 0, .ref x6, .ref e1, .ref e2, .ref e3, .ref e5, .str "11", .ref e6, .ref e8]) he9
    have uj := upd_same (H := Lh) (a := e9) (o := .lst [.non, .int 0, .ref x6, .ref e1, .ref e2, .ref e3, .ref e5, .str "11", .ref e6, .ref e8])
    have vj := (ne_of_none ld8 he9).symm
    have ld9 := qi _ _ ld8
    generalize upd Lh e9 (.lst [.non, .int 0, .ref x6, .ref e1, .ref e2, .ref e3, .ref e5, .str "11", .ref e6, .ref e8]) = Li at qi uj ld9 ⊢
    conv => whnf
    refine ⟨d, _, o6, _, _, rfl, ld9, D6, by omega, .inr ⟨e9, rfl, vj, .inl (SqL.of uj)⟩, by simp, by simp, fun H7 many o7 f7 g7 D7 m7 => ?_⟩
    have G7 := ((gL.trans qg).trans qh).trans qi
    have K7 : Kp d H6 H7 := (Kp.of G7).trans (Kp.dice f7)
    have TB7 := tabs_dice (TB6.ext G7) f7 ld9 D6
    have P4 : ManyV K T.c_Ratio d H7 many := by
      have gF := (qg.trans qh).trans qi
      have gE := qf.trans gF
      have gD := qe.trans gE
      have gC := qd.trans gD
      have gB := qc.trans gC
      have gA := qb.trans gB
      have o1 : IsB K T.c_Ratio Li (.ref x6) true ∧ V.ref x6 ≠ .ref d := ⟨⟨p1, q1, oneL.up gF⟩, fun z => nx6 (V.ref.inj z)⟩
      have all : ManyV K T.c_Ratio d Li many := by
        simp only [List.mem_cons, List.not_mem_nil, or_false] at m7
        rcases m7 with rfl | rfl | rfl | rfl | rfl | rfl | rfl | rfl | rfl | rfl
        · exact .inl ⟨⟨_, Kd.non, by decide⟩, nofun⟩
        · exact .inl ⟨⟨_, Kd.int _, by decide⟩, nofun⟩
        · exact .inr (.inl ⟨p1, q1, oneL.up gF⟩)
        · exact .inl ⟨⟨_, Kd.lst (gA _ _ ua), by decide⟩, fun z => va (V.ref.inj z)⟩
        · exact .inr (.inr ⟨e2, _, [true, false], rfl, gB _ _ ub, by simp, .cons o1 (.cons ⟨⟨_, Kd.non⟩, nofun⟩ .nil), rfl⟩)
        · exact .inr (.inr ⟨e3, _, [true, false], rfl, gC _ _ uc, by simp, .cons o1 (.cons ⟨⟨_, Kd.int _⟩, nofun⟩ .nil), rfl⟩)
        · exact .inr (.inr ⟨e5, _, [false], rfl, gE _ _ ue, by simp, .cons ⟨⟨_, Kd.tup (gD _ _ ud)⟩, fun z => vd (V.ref.inj z)⟩ .nil, rfl⟩)
        · exact .inl ⟨⟨_, Kd.str _, by decide⟩, nofun⟩
        · exact .inl ⟨⟨_, Kd.dK (gF _ _ uf), by decide⟩, fun z => vf (V.ref.inj z)⟩
        · exact .inr (.inr ⟨e8, _, [true, false], rfl, qi _ _ ui, by simp, .cons o1 (.cons ⟨⟨_, Kd.tup (qi _ _ (qh _ _ uh))⟩, fun z => ve7 (V.ref.inj z)⟩ .nil), rfl⟩)
      exact all.kp (Kp.dice f7) ld9 D6
    clear m7
    have P1 := P1.kp K7 g6 D6
    have P2 := P2.kp K7 g6 D6
    have P3 := P3.kp K7
    have one7 := one6.kp K7 g6 D6
    have KA : Kp d H H7 := (K5.trans K6).trans K7
    conv => whnf
    refine ⟨TB7, fun A1 x1 t1 => ?_⟩
    have KB := Kp.ext (d := d) x1
    have dB := x1 _ _ g7 (fun _ z => by obtain ⟨_, _, _, rfl, _⟩ := D7; cases z)
    conv => whnf
    intro y1 dy1 hy1 hdy1 ny1
    refine make_bad (R := fun H2 => _) hy1 hdy1 ny1 (P1.ob.kp KB P1.ne g7 D7) (.inl ⟨_, Kd.int 2⟩) (odd_bad I1) fun A2 ga2 => ?_
    refine ⟨true, T.e_InvalidRatio_InvalidRatio, fun _ => ?_, fun z => nomatch z⟩
    have KB := KB.trans (Kp.of ga2)
    have dB := ga2 _ _ dB
    have tB := t1.ext ga2
    conv => whnf
    refine ⟨small_ok (by simp), fun tl htl => ?_⟩
    have P1 := P1.kp KB g7 D7
    have P2 := P2.kp KB g7 D7
    have P3 := P3.kp KB
    have P4 := P4.kp KB g7 D7
    have oneA := one7.kp KB g7 D7
    have gtl := Gr.rfl'.up (o := .lst [.str "ratio"]) htl
    have lB := upd_same (H := A2) (a := tl) (o := .lst [.str "ratio"])
    have ntl := (ne_of_none dB htl).symm
    have dB1 := gtl _ _ dB
    generalize upd A2 tl (.lst [.str "ratio"]) = A3 at gtl lB dB1 ⊢
    have s1 : Way (tabs T) d tl o7 A2 A3 [.str "ratio"] := Way.start gtl dB tB lB
    conv => whnf
    refine ⟨.inl ⟨rfl, _, SqL.of s1.ll⟩, ?_⟩
    conv => whnf
    refine ⟨s1.tb, fun B x t => ?_⟩
    have s1 := s1.lam D7 x t
    clear x t
    conv => whnf
    intro y1 dy1 hy1 hdy1 ny1
    refine make_bad (R := fun H2 => _) hy1 hdy1 ny1 (.inl ⟨_, Kd.int 1⟩) (P2.ob.kp s1.kp P2.ne dB D7) (I2 _) fun C1 gB => ?_
    refine ⟨true, T.e_InvalidRatio_InvalidRatio, fun _ => ?_, fun z => nomatch z⟩
    have s1 := s1.gr gB
    conv => whnf
    refine ⟨tl, _, _, rfl, rfl, s1.ll, small_lt (by simp), ?_⟩
    have s2 := s1.app htl ntl (.str "ratio")
    clear s1
    conv => whnf
    refine ⟨.inl ⟨rfl, _, SqL.of s2.ll⟩, ?_⟩
    conv => whnf
    refine ⟨s2.tb, fun B x t => ?_⟩
    have s2 := s2.lam D7 x t
    clear x t
    conv => whnf
    intro y1 dy1 hy1 hdy1 ny1
    refine make_bad (R := fun H2 => _) hy1 hdy1 ny1 (P1.ob.kp s2.kp P1.ne dB D7) (P2.ob.kp s2.kp P2.ne dB D7) (I2 _) fun C1 gB => ?_
    refine ⟨true, T.e_InvalidRatio_InvalidRatio, fun _ => ?_, fun z => nomatch z⟩
    have s2 := s2.gr gB
    conv => whnf
    refine ⟨tl, _, _, rfl, rfl, s2.ll, small_lt (by simp), ?_⟩
    have s3 := s2.app htl ntl (.str "ratio")
    clear s2
    conv => whnf
    refine ⟨.inl ⟨rfl, _, SqL.of s3.ll⟩, ?_⟩
    conv => whnf
    refine ⟨s3.tb, fun B x t => ?_⟩
    have s3 := s3.lam D7 x t
    clear x t
    conv => whnf
    obtain ⟨_, dxB, zB, hB⟩ := id (oneA.kp s3.kp dB D7)
    cases zB
    refine ⟨x6, dxB, _, rfl, hB, (by rfl), ?_⟩
    conv => whnf
    refine ⟨_, _, rfl, .inl ⟨(P3.kp s3.kp).kd, ?_⟩⟩
    refine ⟨true, T.e_InvalidRatio_InvalidRatio, fun _ => ?_, fun z => nomatch z⟩
    have gB : Gr B B := Gr.rfl'
    have s3 := s3.gr gB
    conv => whnf
    refine ⟨tl, _, _, rfl, rfl, s3.ll, small_lt (by simp), ?_⟩
    have s4 := s3.app htl ntl (.str "ratio")
    clear s3
    conv => whnf
    refine ⟨.inl ⟨rfl, _, SqL.of s4.ll⟩, ?_⟩
    conv => whnf
    refine ⟨s4.tb, fun B x t => ?_⟩
    have s4 := s4.lam D7 x t
    clear x t
    conv => whnf
    refine ⟨many, rfl, (P4.kp s4.kp dB D7).tupB, fun C1 gB => ?_⟩
    refine ⟨true, T.e_InvalidRatio_InvalidRatio, fun _ => ?_, fun z => nomatch z⟩
    have s4 := s4.gr gB
    conv => whnf
    refine ⟨tl, _, _, rfl, rfl, s4.ll, small_lt (by simp), ?_⟩
    have s5 := s4.app htl ntl (.str "ratio")
    clear s4
    conv => whnf
    refine ⟨.inl ⟨rfl, _, SqL.of s5.ll⟩, ?_⟩
    conv => whnf
    refine ⟨s5.tb, fun B x t => ?_⟩
    have s5 := s5.lam D7 x t
    clear x t
    conv => whnf
    refine ⟨many, rfl, .inl ⟨(P4.kp s5.kp dB D7).tupB, fun C1 gB => ?_⟩⟩
    refine ⟨true, T.e_InvalidRatio_InvalidRatio, fun _ => ?_, fun z => nomatch z⟩
    have s5 := s5.gr gB
    conv => whnf
    refine ⟨tl, _, _, rfl, rfl, s5.ll, small_lt (by simp), ?_⟩
    have s6 := s5.app htl ntl (.str "ratio")
    clear s5
    conv => whnf
    refine ⟨.inl ⟨rfl, _, SqL.of s6.ll⟩, ?_⟩
    conv => whnf
    refine ⟨s6.tb, fun B x t => ?_⟩
    have s6 := s6.lam D7 x t
    clear x t
    conv => whnf
    refine ⟨rfl, ?_⟩
    conv => whnf
    obtain ⟨S6, hS6⟩ := (P3.kp s6.kp).kd
    refine text_told (Q := fun x H1 => _) hS6 (fun x e => by rw [P3.txt e]; decide) T.e_InvalidRatio_InvalidRatio fun r C1 gB told => ?_
    have s6 := s6.gr gB
    obtain ⟨A', nA, kA, s6, RR⟩ : ∃ A' : Hp, A' tl = none ∧ Kp d A2 A' ∧ Way (tabs T) d tl o7 A' C1 _ ∧ ((non = .str "1" ∧ ∃ t, r = .ref t ∧ A' t = some (.tup [.int 1, .int 1]) ∧ t ≠ d) ∨ (non ≠ .str "1" ∧ r = .str "ratio")) := by
      rcases told with ⟨x, p, q, t, ev, hr, er, ht⟩ | ⟨no, er⟩
      · have e1 := P3.txt ev
        subst e1
        obtain ⟨rfl, rfl⟩ := rat_inj hr (show IsRat "1" 1 1 from ⟨low_one 1, by decide, by decide, by decide⟩)
        have nt : t ≠ tl := fun z => by rw [z, s6.ll] at ht; cases ht
        obtain ⟨A', z1, z2, z3, z4⟩ := s6.more htl ht (fun _ z => by cases z) nt
        exact ⟨A', z1, z3, z4, .inl ⟨ev, t, er, z2, tup_ne s6.dd D7 ht⟩⟩
      · exact ⟨A2, htl, Kp.refl _ _, s6, .inr ⟨fun z => no _ _ _ z (show IsRat "1" 1 1 from ⟨low_one 1, by decide, by decide, by decide⟩), er⟩⟩
    conv => whnf
    refine ⟨tl, _, _, rfl, rfl, s6.ll, small_lt (by simp), ?_⟩
    have s7 := s6.app nA ntl (r)
    clear s6
    conv => whnf
    refine ⟨.inl ⟨rfl, _, SqL.of s7.ll⟩, ?_⟩
    conv => whnf
    refine ⟨s7.tb, fun B x t => ?_⟩
    have s7 := s7.lam D7 x t
    clear x t
    conv => whnf
    obtain ⟨_, dxB, zB, hB⟩ := id (oneA.kp (kA.trans s7.kp) dB D7)
    cases zB
    refine ⟨x6, dxB, _, rfl, hB, (by rfl), ?_⟩
    conv => whnf
    intro y1 dy1 hy1 hdy1 ny1
    refine make_R (R := fun H2 => _) hy1 hdy1 ny1 (by decide) (by decide) fun C1 gB r0 => ?_
    rw [Int.zero_ediv] at r0
    conv => whnf
    refine ⟨_, _, rfl, .inr ⟨⟨_, r0⟩, ?_⟩⟩
    refine ⟨false, T.e_InvalidOperation_InvalidRatio, (fun z => nomatch z), fun _ => ⟨true, T.e_InvalidOperation_InvalidOperation, fun _ => ?_, fun z => nomatch z⟩⟩
    have s7 := s7.gr gB
    conv => whnf
    refine ⟨tl, _, _, rfl, rfl, s7.ll, small_lt (by simp), ?_⟩
    have s8 := s7.app nA ntl (.str "operation")
    clear s7
    conv => whnf
    refine ⟨.inl ⟨rfl, _, SqL.of s8.ll⟩, ?_⟩
    conv => whnf
    refine ⟨s8.tb, fun B x t => ?_⟩
    have s8 := s8.lam D7 x t
    clear x t
    conv => whnf
    refine ⟨small_ok (by simp), fun u ht => ?_⟩
    have gu := Gr.rfl'.up (o := .tup []) ht
    have eu := upd_same (H := B) (a := u) (o := .tup [])
    generalize upd B u (.tup []) = B2 at gu eu ⊢
    have s8 := s8.gr gu
    conv => whnf
    refine ⟨_, rfl, .inr ⟨⟨u, rfl, eu⟩, fun C1 gB => ?_⟩⟩
    refine ⟨false, T.e_InvalidOperation_InvalidRatio, (fun z => nomatch z), fun _ => ⟨true, T.e_InvalidOperation_InvalidOperation, fun _ => ?_, fun z => nomatch z⟩⟩
    have s8 := s8.gr gB
    conv => whnf
    refine ⟨tl, _, _, rfl, rfl, s8.ll, small_lt (by simp), ?_⟩
    have s9 := s8.app nA ntl (.str "operation")
    clear s8
    conv => whnf
    have sx := s9
    clear s9
    generalize ht9 : upd C1 tl (.lst ([V.str (Str.ofString "ratio")] ++ [V.str (Str.ofString "ratio")] ++ [V.str (Str.ofString "ratio")] ++ [V.str (Str.ofString "ratio")] ++ [V.str (Str.ofString "ratio")] ++ [V.str (Str.ofString "ratio")] ++ [r] ++ [V.str (Str.ofString "operation")] ++ [V.str (Str.ofString "operation")])) = W0 at sx ⊢
    clear ht9
    refine ⟨small_ok (by simp), fun u1 hu1 => ?_⟩
    have gw1 := Gr.rfl'.up (o := .lst [.str "ratio"]) hu1
    have ew1 := upd_same (H := W0) (a := u1) (o := .lst [.str "ratio"])
    have sx := sx.gr gw1
    generalize upd W0 u1 (.lst [.str "ratio"]) = W1 at sx ew1 ⊢
    conv => whnf
    refine ⟨u1, 6, _, rfl, rfl, ew1, by decide, by decide, small_ok (by decide), fun u2 hu2 => ?_⟩
    have gw2 := Gr.rfl'.up (o := .lst (List.replicate (Int.toNat 6) [V.str (Str.ofString "ratio")]).flatten) hu2
    have ew2 := upd_same (H := W1) (a := u2) (o := .lst (List.replicate (Int.toNat 6) [V.str (Str.ofString "ratio")]).flatten)
    have sx := sx.gr gw2
    generalize upd W1 u2 (.lst (List.replicate (Int.toNat 6) [V.str (Str.ofString "ratio")]).flatten) = W2 at sx ew2 ⊢
    have ew2 : W2 u2 = some (.lst [.str "ratio", .str "ratio", .str "ratio", .str "ratio", .str "ratio", .str "ratio"]) := ew2
    have P3W := P3.kp (kA.trans sx.kp)
    refine Or.elim RR (fun RW => ?x) (fun RW => ?y)
    case' x =>
      obtain ⟨rfl, t1, rfl, ht1, nt1⟩ := RW
      conv => whnf
      refine neT_str ?_
      refine ⟨_, rfl, ?_⟩
      refine brN (by decide) ?_
      conv => whnf
      refine ⟨small_ok (by simp), fun t2 ht2 => ?_⟩
      have gt2 := Gr.rfl'.up (o := .tup [.int 1, .int 1]) ht2
      have et2 := upd_same (H := W2) (a := t2) (o := .tup [.int 1, .int 1])
      have ew2 := gt2 _ _ ew2
      have sx := sx.gr gt2
      generalize upd W2 t2 (.tup [.int 1, .int 1]) = W3 at sx ew2 et2 ⊢
      conv => whnf
      refine ⟨small_ok (by simp), fun u3 hu3 => ?_⟩
      have gw3 := Gr.rfl'.up (o := .lst [.ref t2, .str "operation", .str "operation"]) hu3
      have ew3 := upd_same (H := W3) (a := u3) (o := .lst [.ref t2, .str "operation", .str "operation"])
      have ew2 := gw3 _ _ ew2
      have sx := sx.gr gw3
      have et2 := gw3 _ _ et2
      generalize upd W3 u3 (.lst [.ref t2, .str "operation", .str "operation"]) = W4 at sx ew2 ew3 et2 ⊢
      conv => whnf
      refine .inl ⟨u2, u3, _, _, rfl, rfl, ew2, ew3, small_ok (by simp), fun u4 hu4 => ?_⟩
      have gw4 := Gr.rfl'.up (o := .lst ([.str "ratio", .str "ratio", .str "ratio", .str "ratio", .str "ratio", .str "ratio"] ++ [.ref t2, .str "operation", .str "operation"])) hu4
      have ew4 := upd_same (H := W4) (a := u4) (o := .lst ([.str "ratio", .str "ratio", .str "ratio", .str "ratio", .str "ratio", .str "ratio"] ++ [.ref t2, .str "operation", .str "operation"]))
      have sx := sx.gr gw4
      have et2 := gw4 _ _ et2
      generalize upd W4 u4 (.lst ([.str "ratio", .str "ratio", .str "ratio", .str "ratio", .str "ratio", .str "ratio"] ++ [.ref t2, .str "operation", .str "operation"])) = WZ at sx ew4 et2 ⊢
      conv => whnf
      refine ⟨.list [.str "ratio", .str "ratio", .str "ratio", .str "ratio", .str "ratio", .str "ratio", pd 1 1, .str "operation", .str "operation"], .list [.str "ratio", .str "ratio", .str "ratio", .str "ratio", .str "ratio", .str "ratio", pd 1 1, .str "operation", .str "operation"], .lst (SqL.of sx.ll) (.cons (.str _) (.cons (.str _) (.cons (.str _) (.cons (.str _) (.cons (.str _) (.cons (.str _) (.cons (TupAt.dp ⟨t1, rfl, sx.kp _ _ ht1 (fun _ z => by cases z) nt1⟩) (.cons (.str _) (.cons (.str _) .nil))))))))),
        .lst (SqL.of ew4) (.cons (.str _) (.cons (.str _) (.cons (.str _) (.cons (.str _) (.cons (.str _) (.cons (.str _) (.cons (TupAt.dp ⟨t2, rfl, et2⟩) (.cons (.str _) (.cons (.str _) .nil))))))))), by decide +kernel, by decide +kernel, ?_⟩
      rw [show PyData.eqv (.list [.str "ratio", .str "ratio", .str "ratio", .str "ratio", .str "ratio", .str "ratio", pd 1 1, .str "operation", .str "operation"]) (.list [.str "ratio", .str "ratio", .str "ratio", .str "ratio", .str "ratio", .str "ratio", pd 1 1, .str "operation", .str "operation"]) = true by decide +kernel]
      refine ⟨false, rfl, ?_⟩
      refine brF ?_
      have KZ : Kp d H WZ := ((KA.trans KB).trans kA).trans sx.kp
      have dZ := sx.dd
      have tZ := sx.tb
      clear sx et2 ew2 ew3 ew4
      skip
    case' y =>
      obtain ⟨n1, rfl⟩ := RW
      conv => whnf
      refine P3W.ne n1 ?_
      refine ⟨_, rfl, ?_⟩
      refine brT ?_
      conv => whnf
      refine ⟨small_ok (by simp), fun u3 hu3 => ?_⟩
      have gw3 := Gr.rfl'.up (o := .lst [.str "ratio", .str "operation", .str "operation"]) hu3
      have ew3 := upd_same (H := W2) (a := u3) (o := .lst [.str "ratio", .str "operation", .str "operation"])
      have ew2 := gw3 _ _ ew2
      have sx := sx.gr gw3
      generalize upd W2 u3 (.lst [.str "ratio", .str "operation", .str "operation"]) = W4 at sx ew2 ew3 ⊢
      conv => whnf
      refine .inl ⟨u2, u3, _, _, rfl, rfl, ew2, ew3, small_ok (by simp), fun u4 hu4 => ?_⟩
      have gw4 := Gr.rfl'.up (o := .lst ([.str "ratio", .str "ratio", .str "ratio", .str "ratio", .str "ratio", .str "ratio"] ++ [.str "ratio", .str "operation", .str "operation"])) hu4
      have ew4 := upd_same (H := W4) (a := u4) (o := .lst ([.str "ratio", .str "ratio", .str "ratio", .str "ratio", .str "ratio", .str "ratio"] ++ [.str "ratio", .str "operation", .str "operation"]))
      have sx := sx.gr gw4
      generalize upd W4 u4 (.lst ([.str "ratio", .str "ratio", .str "ratio", .str "ratio", .str "ratio", .str "ratio"] ++ [.str "ratio", .str "operation", .str "operation"])) = WZ at sx ew4 ⊢
      conv => whnf
      refine ⟨.list [.str "ratio", .str "ratio", .str "ratio", .str "ratio", .str "ratio", .str "ratio", .str "ratio", .str "operation", .str "operation"], .list [.str "ratio", .str "ratio", .str "ratio", .str "ratio", .str "ratio", .str "ratio", .str "ratio", .str "operation", .str "operation"], .lst (SqL.of sx.ll) (.cons (.str _) (.cons (.str _) (.cons (.str _) (.cons (.str _) (.cons (.str _) (.cons (.str _) (.cons (.str _) (.cons (.str _) (.cons (.str _) .nil))))))))),
        .lst (SqL.of ew4) (.cons (.str _) (.cons (.str _) (.cons (.str _) (.cons (.str _) (.cons (.str _) (.cons (.str _) (.cons (.str _) (.cons (.str _) (.cons (.str _) .nil))))))))), by decide +kernel, by decide +kernel, ?_⟩
      rw [show PyData.eqv (.list [.str "ratio", .str "ratio", .str "ratio", .str "ratio", .str "ratio", .str "ratio", .str "ratio", .str "operation", .str "operation"]) (.list [.str "ratio", .str "ratio", .str "ratio", .str "ratio", .str "ratio", .str "ratio", .str "ratio", .str "operation", .str "operation"]) = true by decide +kernel]
      refine ⟨false, rfl, ?_⟩
      refine brF ?_
      have KZ : Kp d H WZ := ((KA.trans KB).trans kA).trans sx.kp
      have dZ := sx.dd
      have tZ := sx.tb
      clear sx ew2 ew3 ew4
      skip
    all_goals
      conv => whnf
      refine ⟨_, rfl, by decide, by decide, for_range (lo := 0) (n := 5) (fun i σ H' => (∃ v1 v2 v3 v4 v5 v6 v7 v8 v9 v10, σ = [some (.ref d), v1, v2, v3, v4, v5, v6, v7, v8, v9, v10]) ∧ Kp d H H' ∧ LamX.Tabs (tabs T) H' ∧ ∃ o', H' d = some o' ∧ Dice (n + 10 + 16 * i) o')
        ⟨⟨_, _, _, _, _, _, _, _, _, _, rfl⟩, KZ, tZ, o7, dZ, D7.up (by omega)⟩ ?_ ?_⟩
      · rintro i σ V1 hi ⟨⟨v1, v2, v3, v4, v5, v6, v7, v8, v9, v10, rfl⟩, k1, t1, o1, d1, D1⟩
        conv => whnf
        refine ⟨d, _, 40, o1, rfl, d1, D1, by omega, by decide, by decide, fun V2 r2 o2 f2 d2 D2 r20 r21 => ?_⟩
        have t2 := tabs_dice t1 f2 d1 D1
        have k2 := k1.trans (Kp.dice f2)
        conv => whnf
        refine ⟨d, _, 12, o2, rfl, d2, D2, by omega, by decide, by decide, fun V3 r3 o3 f3 d3 D3 r30 r31 => ?_⟩
        have t3 := tabs_dice t2 f3 d2 D2
        have k3 := k2.trans (Kp.dice f3)
        conv => whnf
        intro x6 dx6 hx6 hdx6 ne6
        refine make_R (R := fun H2 => _) hx6 hdx6 ne6 (by omega) (by omega) fun V4 g4 ia => ?_
        have t4 := t3.ext g4
        have k4 := k3.trans (Kp.of g4)
        have d4 := g4 _ _ d3
        obtain ⟨l1, _, l2, l3⟩ := low_of (a := r2 - 20) (show (0 : Int) < 1 + r3 by omega)
        have l4 := l1.pos
        have pb : ((r2 - 20) / gcdI (r2 - 20) (1 + r3)).natAbs < 10 ^ 60 := by omega
        have qb : ((1 + r3) / gcdI (r2 - 20) (1 + r3)).natAbs < 10 ^ 60 := by omega
        generalize (r2 - 20) / gcdI (r2 - 20) (1 + r3) = p at ia pb
        generalize (1 + r3) / gcdI (r2 - 20) (1 + r3) = q at ia qb
        obtain ⟨_, dxa, za, ha⟩ := id ia
        cases za
        conv => whnf
        refine ⟨dxa, _, ha, _, _, _, rfl, ia, pb, qb, fun V5 g5 => ⟨⟨_, rfl⟩, ?_⟩⟩
        have t5 := t4.ext g5
        have k5 := k4.trans (Kp.of g5)
        have d5 := g5 _ _ d4
        have xl := len_rtext pb qb
        have xa := asc_rtext p q
        generalize rtext p q = x at xl xa ⊢
        conv => whnf
        refine ⟨d, _, o3, x, rfl, d5, D3, by omega, by omega, xa, fun V6 y o6 f6 d6 D6 yl ya => ?_⟩
        have t6 := tabs_dice t5 f6 d5 D3
        have k6 := k5.trans (Kp.dice f6)
        conv => whnf
        refine ⟨d, _, o6, x, rfl, d6, D6, by omega, by omega, xa, fun V7 y1 o7' f7 d7 D7' yl1 ya1 => ?_⟩
        have t7 := tabs_dice t6 f7 d6 D6
        have k7 := k6.trans (Kp.dice f7)
        conv => whnf
        refine ⟨d, _, o7', y1, rfl, d7, D7', by omega, by omega, ya1, fun V8 y2 o8 f8 d8 D8 yl2 ya2 => ?_⟩
        have t8 := tabs_dice t7 f8 d7 D7'
        have k8 := k7.trans (Kp.dice f8)
        conv => whnf
        refine ⟨small_ok (by simp), fun u hu => ?_⟩
        have gu := Gr.rfl'.up (o := .tup [.str x, .str y, .str y2]) hu
        have eu := upd_same (H := V8) (a := u) (o := .tup [.str x, .str y, .str y2])
        have t9 := t8.ext gu
        have k9 := k8.trans (Kp.of gu)
        have d9 := gu _ _ d8
        generalize upd V8 u (.tup [.str x, .str y, .str y2]) = V9 at eu t9 k9 d9 ⊢
        have nu : u ≠ d := tup_ne d9 D8 eu
        conv => whnf
        refine ⟨u, rfl, ⟨_, SqT.of eu⟩, for_tup (fun j σ H' => (∃ v1 v2 v3 v4 v5 v6 v7 v8 v9 v10, σ = [some (.ref d), v1, v2, v3, v4, v5, v6, v7, v8, v9, v10]) ∧ Kp d V9 H' ∧ LamX.Tabs (tabs T) H' ∧ H' d = some o8)
          ⟨⟨_, _, _, _, _, _, _, _, _, _, rfl⟩, Kp.refl _ _, t9, d9⟩ (fun j σ H' _ L => SqT.of (L.2.1 _ _ eu (fun _ z => by cases z) nu)) ?_ ?_⟩
        · rintro j v σ W1 hj ⟨⟨w1, w2, w3, w4, w5, w6, w7, w8, w9, w10, rfl⟩, kw, tw, dw⟩
          obtain ⟨z, rfl, zl, za⟩ : ∃ z : Str, v = .str z ∧ z.length ≤ 1000 ∧ Asc z := by
            have := List.mem_of_getElem? hj
            simp only [List.mem_cons, List.not_mem_nil, or_false] at this
            rcases this with rfl | rfl | rfl
            · exact ⟨_, rfl, by omega, xa⟩
            · exact ⟨_, rfl, by omega, ya⟩
            · exact ⟨_, rfl, by omega, ya2⟩
          conv => whnf
          refine ⟨tw, fun B ex tb => ?_⟩
          have kb := kw.trans (Kp.ext ex)
          have db := ex _ _ dw (dice_no_tbl D8)
          conv => whnf
          refine ⟨rfl, ?_⟩
          conv => whnf
          refine text_told (Q := fun x H1 => _) (Kd.str z) (fun x' e => by cases e; exact zl) T.e_InvalidRatio_InvalidRatio fun r C1 gB told => ?_
          have kc := kb.trans (Kp.of gB)
          have dc := gB _ _ db
          have tc := tb.ext gB
          conv => whnf
          refine ⟨z, rfl, zl, za, fun p' q' t' H' hr' g' ht' => ?_, fun no H' g' => ?_⟩
          · rcases told with ⟨x', p2, q2, t2, ev, hr, rfl, ht⟩ | ⟨no, rfl⟩
            · cases ev
              obtain ⟨rfl, rfl⟩ := rat_inj hr hr'
              conv => whnf
              refine ⟨pd p2 q2, pd p2 q2, TupAt.dp ⟨t2, rfl, g' _ _ ht⟩, TupAt.dp ⟨t', rfl, ht'⟩, shaped_pd _ _, shaped_pd _ _, ?_⟩
              rw [eqv_pd, decide_eq_true ⟨rfl, rfl⟩]
              refine ⟨false, rfl, ?_⟩
              refine brF ?_
              conv => whnf
              exact ⟨⟨_, _, _, _, _, _, _, _, _, _, rfl⟩, kc.trans (Kp.of g'), tc.ext g', g' _ _ dc⟩
            · exact absurd hr' (no _ _ _ rfl)
          · rcases told with ⟨x', p2, q2, t2, ev, hr, rfl, ht⟩ | ⟨_, rfl⟩
            · cases ev
              exact absurd hr (no _ _)
            · conv => whnf
              refine ⟨_, rfl, ?_⟩
              refine brN (by decide) ?_
              conv => whnf
              exact ⟨⟨_, _, _, _, _, _, _, _, _, _, rfl⟩, kc.trans (Kp.of g'), tc.ext g', g' _ _ dc⟩
        · rintro σ W1 ⟨⟨w1, w2, w3, w4, w5, w6, w7, w8, w9, w10, rfl⟩, kw, tw, dw⟩
          conv => whnf
          exact ⟨⟨_, _, _, _, _, _, _, _, _, _, rfl⟩, k9.trans kw, tw, o8, dw, D8.up (by omega)⟩
      · rintro σ V1 ⟨⟨v1, v2, v3, v4, v5, v6, v7, v8, v9, v10, rfl⟩, k1, t1, o1, d1, D1⟩
        conv => whnf
        exact k V1 o1 k1 d1 (D1.up (by omega)) t1
def sp_law (K : PySem.W.Frag) {mg : Str → Option Value} (T : Txt K mg) : Sp := fun vs H Q _ => ∃ (a : Addr) (ns : List Int), vs = [.ref a] ∧ SqL K H a (ns.map V.int) ∧ ns.length ≤ 63 ∧ LamX.Tabs (tabs T) H ∧ ∀ H', Q (.bl true) H'
theorem enter {K : PySem.W.Frag} {mg : Str → Option Value} (T : Txt K mg) (H : Hp) (a : Addr) (ns : List Int) (h1 : ns.length ≤ 63) (h2 : ∀ z ∈ ns, Builtin.Int.intBits z ≤ 1048576) (ht : LamX.Tabs (tabs T) H) (h3 : SqL K H a (ns.map V.int)) : sp_law K T [.ref a] H (fun v _ => v = .bl true) fun _ _ _ => False := ⟨a, ns, rfl, h3, h1, ht, fun _ => rfl⟩
theorem no_texts : ∀ z ∈ (["", "/", "1/", "/2", "2/4", "3/1", "-0", "+1", "01", "1/02", "1/-2", "--1", "1 /2", Txt.mul "9" 61, "0/2", "1/2/3"] : List Str), z.length ≤ 1000 ∧ ∀ p q, ¬ IsRat z p q := by
  intro z hz
  simp only [List.mem_cons, List.not_mem_nil, or_false] at hz
  rcases hz with rfl | rfl | rfl | rfl | rfl | rfl | rfl | rfl | rfl | rfl | rfl | rfl | rfl | rfl | rfl | rfl
  · exact ⟨by decide, rat_no1 (by decide) (by decide +kernel)⟩
  · exact ⟨by decide, rat_no2 (a := "") (b := "") (by decide +kernel) (by decide) (.inl (by decide +kernel))⟩
  · exact ⟨by decide, rat_no2 (a := "1") (b := "") (by decide +kernel) (by decide) (.inr (by decide +kernel))⟩
  · exact ⟨by decide, rat_no2 (a := "") (b := "2") (by decide +kernel) (by decide) (.inl (by decide +kernel))⟩
  · exact ⟨by decide, rat_no3 (n := 2) (m := 4) (by decide +kernel) (by decide) (by decide) (by decide)⟩
  · exact ⟨by decide, rat_no3 (n := 3) (m := 1) (by decide +kernel) (by decide) (by decide) (by decide)⟩
  · exact ⟨by decide, rat_no1 (by decide) (by decide +kernel)⟩
  · exact ⟨by decide, rat_no1 (by decide) (by decide +kernel)⟩
  · exact ⟨by decide, rat_no1 (by decide) (by decide +kernel)⟩
  · exact ⟨by decide, rat_no2 (a := "1") (b := "02") (by decide +kernel) (by decide) (.inr (by decide +kernel))⟩
  · exact ⟨by decide, rat_no3 (n := 1) (m := -2) (by decide +kernel) (by decide) (by decide) (by decide)⟩
  · exact ⟨by decide, rat_no1 (by decide) (by decide +kernel)⟩
  · exact ⟨by decide, rat_no2 (a := "1 ") (b := "2") (by decide +kernel) (by decide) (.inl (by decide +kernel))⟩
  · exact ⟨by decide +kernel, rat_no1 (by decide +kernel) (by decide +kernel)⟩
  · exact ⟨by decide, rat_no3 (n := 0) (m := 2) (by decide +kernel) (by decide) (by decide) (by decide)⟩
  · exact ⟨by decide, rat_no2 (a := "1") (b := "2/3") (by decide +kernel) (by decide) (.inr (by decide +kernel))⟩
theorem last_text : IsRat (Str.ofString "-" ++ Txt.mul "9" 60) (1 - 10 ^ 60) 1 := ⟨low_one _, by decide, by decide, by decide +kernel⟩
theorem ok_law (T : Txt K mg) (TB : Tbs base T) : FnOk P w K mg base CX0 10 T.a_law T.d_law ["_law_script"] (sp_law K T) := by
  refine okC T.FC_law sc_law (fun vs H Q E h => ?_) (fun A outer s H vs Q E hr h => ?_)
  · obtain ⟨a, ns, rfl, _⟩ := h; rfl
  · obtain ⟨a, ns, rfl, hS, hn, t0, k⟩ := h
    refine ⟨_, (pss_cons (ps_for PassesOwn.never rfl (pi_range1 (by rfl) T.b_range (pa_cons (pe_callB (caMax rfl) (by rfl) T.b_max (by decide +kernel) (pa_cons pe_int (pa_cons (pe_callB (caMin rfl) (by rfl) T.b_min (by decide +kernel) (pa_cons pe_int (pa_cons (pe_callB caLen (by rfl) T.b_len (by decide +kernel) (pa_cons (pev 0) pa_nil)) pa_nil))) pa_nil))) pa_nil)) (pg_name (i := 1) sc_law.nd rfl (by first | exact Or.inl rfl | exact Or.inr rfl))
        (pss_cons (ps_set (i := 2) sc_law.nd rfl (by first | exact Or.inl rfl | exact Or.inr rfl) (pe_call (ok__law_dice T) (hr.mono (by decide)) (by rfl) T.g__law_dice T.F__law_dice.kp T.B__law_dice .nil pass0 (pa_cons (pev 0) (pa_cons (pev 1) pa_nil))))
        (pss_one (ps_for PassesOwn.never rfl (pi_range1 (by rfl) T.b_range (pa_cons pe_int pa_nil)) (pg_name (i := 3) sc_law.nd rfl (by first | exact Or.inl rfl | exact Or.inr rfl))
        (pss_one (psIf (pt_not (ptV (pe_call (ok__law_right T TB) (hr.mono (by decide)) (by rfl) T.g__law_right T.F__law_right.kp T.B__law_right .nil pass0 (pa_cons (pev 2) pa_nil)))) (pss_one (ps_ret pe_bl)) pss_nil))))))
        (pss_cons (ps_set (i := 4) sc_law.nd rfl (by first | exact Or.inl rfl | exact Or.inr rfl) (pe_lst (pa_cons pe_str (pa_cons pe_str (pa_cons pe_str (pa_cons pe_str (pa_cons pe_str (pa_cons pe_str (pa_cons pe_str (pa_cons pe_str (pa_cons pe_str (pa_cons pe_str (pa_cons pe_str (pa_cons pe_str (pa_cons pe_str (pa_cons (pe_op opMulT pe_str pe_int) (pa_cons pe_str pa_nil)))))))))))))))))
        (pss_cons (ps_expr (pe_bm PySem.F.plainAttrs_list PySem.F.slot_list_append PySem.F.type_list_append mt_append (pev 4) (pa_cons pe_str pa_nil)))
        (pss_cons (psIf (pt_cmpR (opNe (hu64 hr)) (pe_lc (own := [("_law_text", 5)]) (g := gName 5) (tt := (tTest (tOp (uNe K) (LamX.tLam (tabs T) (TTpair K T.c_Ratio (sp_Ratio_pair K T.c_Ratio) T.c_InvalidRatio T.c_InvalidOperation "ratio" "operation") (fun E => ClX.tCMeth T.c_Ratio (fun vs H Q E => sp_Ratio_of_text K T.c_Ratio T.c_InvalidRatio (vs ++ []) H Q E) E (tC (.ref T.c_Ratio)) (tCons (uV 5) tNil))) (tC (.str "ratio"))))) (te := (uV 5)) rfl sc_law.nd (pi_list (pev 4)) (blkOk_by (own := [("_law_text", 5)]) (N := ["_law_script", "_law_spot", "_law_dice_here", "_law_turn", "_law_texts", "_law_text"]) (sc := defScope s_law) (by decide +kernel)) (fun _ _ _ _ _ => pg_name (i := 5) sc_law.nd rfl (by first | exact Or.inl rfl | exact Or.inr rfl)) (fun _ _ _ _ _ => (pts_one (pt_cmpR (opNe (hu64 hr)) (peLam (T := tabs T) (k := 6) T.F__law_told T.g__law_told T.B__law_told sc__law_told (fun _ => (told_pair T.o_Ratio.cl T.P_Ratio_pair (ok_Ratio_pair T) (hr.mono (by decide)) T.B_Ratio_pair rfl T.g_InvalidRatio rfl T.g_InvalidOperation (by decide) (by decide) (fun _ => rfl) (fun _ => rfl))) TB.t_law rfl mem_law (uniq_law T) (hr.mono (by decide)) (fun A outer s H E f c' hr => (ClX.pe_cmeth (pe_glob (v := .ref T.c_Ratio) (by rfl) T.g_Ratio rfl) T.R_Ratio T.Q_Ratio_of_text ((ok_Ratio_of_text T).raw T.B_Ratio_of_text .nil) (hr.mono (by decide)) (passes_call (takes_of rfl rfl rfl rfl) (fun _ _ _ _ h => h)) (pa_cons (pev 5) pa_nil))) (L := LamX.lamS_by (by rfl))) pe_str (nomark _)))) (fun _ _ _ _ _ => (pev 5))) (pe_lst pa_nil) (nomark _)) (pss_one (ps_ret pe_bl)) pss_nil)
        (pss_one (ps_ret (pe_cmpR (opEq (hu64 hr)) (peLam (T := tabs T) (t := fun E => ClX.tCMeth T.c_Ratio (fun vs H Q E => sp_Ratio_of_text K T.c_Ratio T.c_InvalidRatio (vs ++ []) H Q E) E (tC (.ref T.c_Ratio)) (tCons (tOp (uAdd K) (tC (.str "-")) (tOp uMulT (tC (.str "9")) (tC (.int 60)))) tNil)) (k := 6) T.F__law_told T.g__law_told T.B__law_told sc__law_told (fun _ => (told_pair T.o_Ratio.cl T.P_Ratio_pair (ok_Ratio_pair T) (hr.mono (by decide)) T.B_Ratio_pair rfl T.g_InvalidRatio rfl T.g_InvalidOperation (by decide) (by decide) (fun _ => rfl) (fun _ => rfl))) TB.t_law rfl mem_law (uniq_law T) (hr.mono (by decide)) (fun A outer s H E f c' hr => (ClX.pe_cmeth (pe_glob (v := .ref T.c_Ratio) (by rfl) T.g_Ratio rfl) T.R_Ratio T.Q_Ratio_of_text ((ok_Ratio_of_text T).raw T.B_Ratio_of_text .nil) (hr.mono (by decide)) (passes_call (takes_of rfl rfl rfl rfl) (fun _ _ _ _ h => h)) (pa_cons (pe_op opAdd pe_str (pe_op opMulT pe_str pe_int)) pa_nil))) (L := LamX.lamS_by (sc := defScope s_law) (by decide +kernel))) (pe_tup (pa_cons (pe_op opSub pe_int (pe_op opPow pe_int pe_int)) (pa_cons pe_int pa_nil))) (nomark _)))))))), ?_⟩
    conv => whnf
    refine ⟨_, .inl hS, ?_⟩
    conv => whnf
    rw [List.length_map]
    refine ⟨_, rfl, by omega, by omega, for_range (lo := 0) (n := (max 1 (min 5 (ns.length : Int))).toNat) (fun i σ H' => (∃ v1 v2 v3, σ = [some (.ref a), v1, v2, v3, none, none]) ∧ LamX.ExtN H H' ∧ LamX.Tabs (tabs T) H')
      ⟨⟨none, none, none, rfl⟩, LamX.ExtN.refl _, t0⟩ ?_ ?_⟩
    · rintro i σ H1 hi ⟨⟨v1, v2, v3, rfl⟩, s1, t1⟩
      conv => whnf
      refine ⟨a, ns, i, by rw [Int.zero_add]; rfl, sql_ext hS s1, by omega, fun H2 p o s2 p0 p1 D0 => ?_⟩
      conv => whnf
      refine ⟨_, rfl, by decide, by decide, for_range (lo := 0) (n := 3) (fun j σ H' => (∃ v3, σ = [some (.ref a), some (.int (0 + (i : Nat))), some (.ref p), v3, none, none]) ∧ LamX.ExtN H1 H' ∧ LamX.Tabs (tabs T) H' ∧ ∃ o', H' p = some o' ∧ Dice (100 * j) o')
        ⟨⟨v3, rfl⟩, LamX.ExtN.of s2, t1.ext s2, o, p1, D0⟩ ?_ ?_⟩
      · rintro j σ H3 hj ⟨⟨v3, rfl⟩, s3, t3, o3, p3, D3⟩
        conv => whnf
        refine ⟨p, _, o3, rfl, p3, D3, by omega, t3, fun H4 o4 f4 g4 D4 t4 => ?_⟩
        conv => whnf
        refine brF ?_
        exact ⟨⟨_, rfl⟩, fun b u e nt => f4 b u (s3 b u e nt) nt (fun z => by subst z; rw [p0] at e; cases e), t4, o4, g4, D4.up (by omega)⟩
      · rintro σ H3 ⟨⟨v3, rfl⟩, s3, t3, _⟩
        conv => whnf
        exact ⟨⟨_, _, _, rfl⟩, s1.trans s3, t3⟩
    · rintro σ H1 ⟨⟨v1, v2, v3, rfl⟩, s1, t1⟩
      conv => whnf
      refine ⟨⟨by decide, by decide, by decide⟩, ?_⟩
      conv => whnf
      refine ⟨small_ok (by decide), fun tl htl => ?_⟩
      have ga := Gr.rfl'.up (o := .lst [.str "", .str "/", .str "1/", .str "/2", .str "2/4", .str "3/1", .str "-0", .str "+1", .str "01", .str "1/02", .str "1/-2", .str "--1", .str "1 /2", .str (Txt.mul "9" 61), .str "0/2"]) htl
      have ea := upd_same (H := H1) (a := tl) (o := .lst [.str "", .str "/", .str "1/", .str "/2", .str "2/4", .str "3/1", .str "-0", .str "+1", .str "01", .str "1/02", .str "1/-2", .str "--1", .str "1 /2", .str (Txt.mul "9" 61), .str "0/2"])
      have ta := t1.ext ga
      generalize upd H1 tl (.lst [.str "", .str "/", .str "1/", .str "/2", .str "2/4", .str "3/1", .str "-0", .str "+1", .str "01", .str "1/02", .str "1/-2", .str "--1", .str "1 /2", .str (Txt.mul "9" 61), .str "0/2"]) = H2 at ga ea ta ⊢
      conv => whnf
      refine ⟨.inl ⟨rfl, _, SqL.of ea⟩, ?_⟩
      conv => whnf
      refine ⟨tl, _, _, rfl, rfl, ea, small_lt (by decide), ?_⟩
      have tb := tabs_set (L' := [.str "", .str "/", .str "1/", .str "/2", .str "2/4", .str "3/1", .str "-0", .str "+1", .str "01", .str "1/02", .str "1/-2", .str "--1", .str "1 /2", .str (Txt.mul "9" 61), .str "0/2"] ++ [.str "1/2/3"]) ta ea
      have eb := upd_same (H := H2) (a := tl) (o := .lst ([.str "", .str "/", .str "1/", .str "/2", .str "2/4", .str "3/1", .str "-0", .str "+1", .str "01", .str "1/02", .str "1/-2", .str "--1", .str "1 /2", .str (Txt.mul "9" 61), .str "0/2"] ++ [.str "1/2/3"]))
      generalize upd H2 tl (.lst ([.str "", .str "/", .str "1/", .str "/2", .str "2/4", .str "3/1", .str "-0", .str "+1", .str "01", .str "1/02", .str "1/-2", .str "--1", .str "1 /2", .str (Txt.mul "9" 61), .str "0/2"] ++ [.str "1/2/3"])) = H3 at tb eb ⊢
      have eb : H3 tl = some (.lst ((["", "/", "1/", "/2", "2/4", "3/1", "-0", "+1", "01", "1/02", "1/-2", "--1", "1 /2", Txt.mul "9" 61, "0/2", "1/2/3"] : List Str).map V.str)) := eb
      have nots := no_texts
      generalize (["", "/", "1/", "/2", "2/4", "3/1", "-0", "+1", "01", "1/02", "1/-2", "--1", "1 /2", Txt.mul "9" 61, "0/2", "1/2/3"] : List Str) = texts at eb nots
      conv => whnf
      refine ⟨_, rfl, ⟨_, SqL.of eb⟩, fun D hD => ?_⟩
      refine lc_list (xs := texts.map V.str) (fun i Hm => LamX.ExtN H3 Hm ∧ LamX.Tabs (tabs T) Hm ∧ Hm D = some (.lst [])) ⟨LamX.ExtN.of (Gr.rfl'.up hD), tb.ext (Gr.rfl'.up hD), upd_same⟩ (fun i Hm _ L => SqL.of (L.1 _ _ eb (fun _ z => by cases z))) ?_ ?_
      · rintro i y Hm hy ⟨xm, tm, em⟩
        obtain ⟨z, hz, rfl⟩ : ∃ z, z ∈ texts ∧ V.str z = y := List.mem_map.mp (List.mem_of_getElem? hy)
        obtain ⟨zl, zn⟩ := nots z hz
        conv => whnf
        refine ⟨rfl, ?_⟩
        conv => whnf
        refine ⟨tm, fun B xb tb' => ?_⟩
        conv => whnf
        refine ⟨rfl, ?_⟩
        conv => whnf
        refine ⟨.str z, "str", rfl, Kd.str z, fun x' e => by cases e; exact zl, fun x' p q w H' e hr => ?_, fun _ H' g => ⟨true, T.e_InvalidRatio_InvalidRatio, fun _ => ?_, fun w => nomatch w⟩⟩
        · cases e
          exact absurd hr (zn p q)
        conv => whnf
        refine ⟨_, rfl, ?_⟩
        refine ite2 (fun w => absurd w (by decide)) (fun _ => ?_)
        exact ⟨(xm.trans xb).trans (LamX.ExtN.of g), tb'.ext g, g _ _ (xb _ _ em (fun _ z => by cases z))⟩
      · rintro Hm ⟨xm, tm, em⟩
        conv => whnf
        refine ⟨small_ok (by simp), fun p2 hp2 => ?_⟩
        have gp := Gr.rfl'.up (o := .lst []) hp2
        have tp := tm.ext gp
        have emp := gp _ _ em
        have ep := upd_same (H := Hm) (a := p2) (o := .lst [])
        generalize upd Hm p2 (.lst []) = H5 at gp tp emp ep ⊢
        conv => whnf
        refine ⟨.list [], .list [], .lst (SqL.of emp) .nil, .lst (SqL.of ep) .nil, by decide +kernel, by decide +kernel, ?_⟩
        rw [show PyData.eqv (.list []) (.list []) = true by decide +kernel]
        refine ⟨false, rfl, ?_⟩
        refine brF ?_
        conv => whnf
        refine ⟨tp, fun B xb tb' => ?_⟩
        conv => whnf
        refine ⟨rfl, ?_⟩
        conv => whnf
        refine ⟨⟨by decide, by decide, by decide⟩, ?_⟩
        conv => whnf
        refine ⟨by decide, ?_⟩
        conv => whnf
        refine text_told (Q := fun x H1 => _) (Kd.str _) (fun x' e => by cases e; decide) T.e_InvalidRatio_InvalidRatio fun r C1 gB told => ?_
        rcases told with ⟨x', p3, q3, t3, ev, hr, rfl, ht⟩ | ⟨no, _⟩
        · cases ev
          obtain ⟨rfl, rfl⟩ := rat_inj hr last_text
          conv => whnf
          refine ⟨⟨by decide, by decide, by decide⟩, ?_⟩
          conv => whnf
          refine ⟨small_ok (by simp), fun u hu => ?_⟩
          have gu := Gr.rfl'.up (o := .tup [.int (1 - 10 ^ Int.toNat 60), .int 1]) hu
          have eu := upd_same (H := C1) (a := u) (o := .tup [.int (1 - 10 ^ Int.toNat 60), .int 1])
          have ht' := gu _ _ ht
          generalize upd C1 u (.tup [.int (1 - 10 ^ Int.toNat 60), .int 1]) = C2 at eu ht' ⊢
          conv => whnf
          refine ⟨pd (1 - 10 ^ 60) 1, pd (1 - 10 ^ 60) 1, TupAt.dp ⟨t3, rfl, ht'⟩, TupAt.dp ⟨u, rfl, eu⟩, shaped_pd _ _, shaped_pd _ _, ?_⟩
          rw [eqv_pd, decide_eq_true ⟨rfl, rfl⟩]
          exact k _
        · exact absurd last_text (no _ _ _ rfl)
end
open PySem.W in
theorem all_mk {as ts : List Addr} {P : Program} {w : World} {K : Frag} {h : Heap} {mg : Str → Option Value} {fa : Addr} (X : K.In h) (G : h.Ns mainGlobals mg) (hfa : mg "law" = some (.ref fa))
    {q_Ratio : Addr} (aq_Ratio : nsIn K mainGlobals "Ratio" = some (some (.ref q_Ratio)))
    (pg_Ratio : plainGet K q_Ratio Str.empty = true)
    (hd_Ratio : hasDictIn K q_Ratio = true)
    (po_Ratio : plainOver K q_Ratio = true)
    (sa_Ratio : findIn K (.ref q_Ratio) "__setattr__" = some (some (.builtin "object.__setattr__")))
    (sf_Ratio : selfFirst K q_Ratio = true)
    (ha_Ratio : findIn K (.ref q_Ratio) "__class__" = some (some (.builtin "object.__class__")))
    (hn_Ratio : specialIn K (.builtin "object.__class__") "__get__" = some (some (.builtin "getset_descriptor.__get__")))
    (htk_Ratio : takesIn K (.builtin "object.__class__") = some true)
    (hm_Ratio : mroIn K q_Ratio (.type "object") = some true)
    (tyC_Ratio : typeIn K (.ref q_Ratio) = some (.type "type"))
    (nf_Ratio__top : findIn K (.ref q_Ratio) "_top" = some none)
    (nf_Ratio__bottom : findIn K (.ref q_Ratio) "_bottom" = some none)
    {q_InvalidOperation : Addr} (aq_InvalidOperation : nsIn K mainGlobals "InvalidOperation" = some (some (.ref q_InvalidOperation)))
    (xb_InvalidOperation : subIn K (.ref q_InvalidOperation) (.type "BaseException") = some true) (xt_InvalidOperation : typeIn K (.ref q_InvalidOperation) = some (.type "type"))
    (xx_InvalidOperation : excIn K q_InvalidOperation [.type "ValueError", .type "Exception", .type "BaseException", .type "object"] "ValueError.__new__" = true) (xk_InvalidOperation : keepIn K (.ref q_InvalidOperation) = true)
    (xi_InvalidOperation : isClsIn K q_InvalidOperation = true)
    {q_InvalidRatio : Addr} (aq_InvalidRatio : nsIn K mainGlobals "InvalidRatio" = some (some (.ref q_InvalidRatio)))
    (xb_InvalidRatio : subIn K (.ref q_InvalidRatio) (.type "BaseException") = some true) (xt_InvalidRatio : typeIn K (.ref q_InvalidRatio) = some (.type "type"))
    (xx_InvalidRatio : excIn K q_InvalidRatio [.type "ValueError", .type "Exception", .type "BaseException", .type "object"] "ValueError.__new__" = true) (xk_InvalidRatio : keepIn K (.ref q_InvalidRatio) = true)
    (xi_InvalidRatio : isClsIn K q_InvalidRatio = true)
    (xf_nint_Ratio : PySem.W.subIn K (.ref q_Ratio) (.type "int") = some false)
    (xf_ntup_Ratio : PySem.W.subIn K (.ref q_Ratio) (.type "tuple") = some false)
    (xs_InvalidOperation_InvalidOperation : subIn K (.ref q_InvalidOperation) (.ref q_InvalidOperation) = some true)
    (xs_InvalidOperation_InvalidRatio : subIn K (.ref q_InvalidOperation) (.ref q_InvalidRatio) = some false)
    (xs_InvalidRatio_InvalidOperation : subIn K (.ref q_InvalidRatio) (.ref q_InvalidOperation) = some false)
    (xs_InvalidRatio_InvalidRatio : subIn K (.ref q_InvalidRatio) (.ref q_InvalidRatio) = some true)
    {f1 : Addr} {od1 an1 : Option Addr} {sl1 : Array (Option Value)} {oc1 kV1 dc1 pm1 cd1 ct1 : Value} (a1 : nsIn K mainGlobals "_law_dice" = some (some (.ref f1)))
    (l1 : K.lookup f1 = some ⟨oc1, od1, .func (fnOf "_law_dice" "_law_dice" (defArgs s__law_dice) (defBody s__law_dice) (defScope s__law_dice) .none kV1 dc1 pm1 an1 cd1 ct1), sl1⟩) (c1 : codeIn K cd1 "_law_dice" = true) (k1 : keepIn K (.ref f1) = true)
    {f2 : Addr} {od2 an2 : Option Addr} {sl2 : Array (Option Value)} {oc2 kV2 dc2 pm2 cd2 ct2 : Value} (a2 : nsIn K mainGlobals "_law_roll" = some (some (.ref f2)))
    (l2 : K.lookup f2 = some ⟨oc2, od2, .func (fnOf "_law_roll" "_law_roll" (defArgs s__law_roll) (defBody s__law_roll) (defScope s__law_roll) .none kV2 dc2 pm2 an2 cd2 ct2), sl2⟩) (c2 : codeIn K cd2 "_law_roll" = true) (k2 : keepIn K (.ref f2) = true)
    {f3 : Addr} {od3 an3 : Option Addr} {sl3 : Array (Option Value)} {oc3 kV3 dc3 pm3 cd3 ct3 : Value} (a3 : nsIn K mainGlobals "_law_pick" = some (some (.ref f3)))
    (l3 : K.lookup f3 = some ⟨oc3, od3, .func (fnOf "_law_pick" "_law_pick" (defArgs s__law_pick) (defBody s__law_pick) (defScope s__law_pick) .none kV3 dc3 pm3 an3 cd3 ct3), sl3⟩) (c3 : codeIn K cd3 "_law_pick" = true) (k3 : keepIn K (.ref f3) = true)
    {f4 : Addr} {od4 an4 : Option Addr} {sl4 : Array (Option Value)} {oc4 kV4 dc4 pm4 cd4 ct4 : Value} (a4 : nsIn K mainGlobals "is_integer" = some (some (.ref f4)))
    (l4 : K.lookup f4 = some ⟨oc4, od4, .func (fnOf "is_integer" "is_integer" (defArgs s_is_integer) (defBody s_is_integer) (defScope s_is_integer) .none kV4 dc4 pm4 an4 cd4 ct4), sl4⟩) (c4 : codeIn K cd4 "is_integer" = true) (k4 : keepIn K (.ref f4) = true)
    {f5 : Addr} (a5 : findIn K (.ref q_Ratio) "__init__" = some (some (.ref f5))) (i5 : isFn K (.ref f5) = true)
    {od5 an5 : Option Addr} {sl5 : Array (Option Value)} {oc5 kV5 dc5 pm5 cd5 ct5 : Value} (l5 : K.lookup f5 = some ⟨oc5, od5, .func (fnOf "__init__" "Ratio.__init__" (defArgs s_Ratio___init__) (defBody s_Ratio___init__) (defScope s_Ratio___init__) .none kV5 dc5 pm5 an5 cd5 ct5), sl5⟩) (c5 : codeIn K cd5 "Ratio.__init__" = true) (k5 : keepIn K (.ref f5) = true)
    (mk_Ratio : makesIn K q_Ratio = true) (kc_Ratio : keepIn K (.ref q_Ratio) = true)
    {f6 u6 : Addr} {rest6 : List Value} (pa6 : findIn K (.ref q_Ratio) "pair" = some (some (.ref u6))) (pb6 : specialIn K (.ref u6) "__get__" = some (some (.builtin "property.__get__"))) (pc6 : takesIn K (.ref u6) = some true) (pd6 : recIn K u6 "property" = some (.ref f6 :: rest6))
    {od6 an6 : Option Addr} {sl6 : Array (Option Value)} {oc6 kV6 dc6 pm6 cd6 ct6 : Value} (l6 : K.lookup f6 = some ⟨oc6, od6, .func (fnOf "pair" "Ratio.pair" (defArgs s_Ratio_pair) (defBody s_Ratio_pair) (defScope s_Ratio_pair) .none kV6 dc6 pm6 an6 cd6 ct6), sl6⟩) (c6 : codeIn K cd6 "Ratio.pair" = true) (k6 : keepIn K (.ref f6) = true)
    {f7 : Addr} {od7 an7 : Option Addr} {sl7 : Array (Option Value)} {oc7 kV7 dc7 pm7 cd7 ct7 : Value} (a7 : nsIn K mainGlobals "_law_told" = some (some (.ref f7)))
    (l7 : K.lookup f7 = some ⟨oc7, od7, .func (fnOf "_law_told" "_law_told" (defArgs s__law_told) (defBody s__law_told) (defScope s__law_told) .none kV7 dc7 pm7 an7 cd7 ct7), sl7⟩) (c7 : codeIn K cd7 "_law_told" = true) (k7 : keepIn K (.ref f7) = true)
    {f8 : Addr} (a8 : findIn K (.ref q_Ratio) "__bool__" = some (some (.ref f8))) (i8 : isFn K (.ref f8) = true)
    {od8 an8 : Option Addr} {sl8 : Array (Option Value)} {oc8 kV8 dc8 pm8 cd8 ct8 : Value} (l8 : K.lookup f8 = some ⟨oc8, od8, .func (fnOf "__bool__" "Ratio.__bool__" (defArgs s_Ratio___bool__) (defBody s_Ratio___bool__) (defScope s_Ratio___bool__) .none kV8 dc8 pm8 an8 cd8 ct8), sl8⟩) (c8 : codeIn K cd8 "Ratio.__bool__" = true) (k8 : keepIn K (.ref f8) = true)
    {f9 : Addr} (a9 : findIn K (.ref q_Ratio) "over" = some (some (.ref f9))) (i9 : isFn K (.ref f9) = true)
    {od9 an9 : Option Addr} {sl9 : Array (Option Value)} {oc9 kV9 dc9 pm9 cd9 ct9 : Value} (l9 : K.lookup f9 = some ⟨oc9, od9, .func (fnOf "over" "Ratio.over" (defArgs s_Ratio_over) (defBody s_Ratio_over) (defScope s_Ratio_over) .none kV9 dc9 pm9 an9 cd9 ct9), sl9⟩) (c9 : codeIn K cd9 "Ratio.over" = true) (k9 : keepIn K (.ref f9) = true)
    {f10 : Addr} {od10 an10 : Option Addr} {sl10 : Array (Option Value)} {oc10 kV10 dc10 pm10 cd10 ct10 : Value} (a10 : nsIn K mainGlobals "_is_ratios" = some (some (.ref f10)))
    (l10 : K.lookup f10 = some ⟨oc10, od10, .func (fnOf "_is_ratios" "_is_ratios" (defArgs s__is_ratios) (defBody s__is_ratios) (defScope s__is_ratios) .none kV10 dc10 pm10 an10 cd10 ct10), sl10⟩) (c10 : codeIn K cd10 "_is_ratios" = true) (k10 : keepIn K (.ref f10) = true)
    {f11 : Addr} {od11 an11 : Option Addr} {sl11 : Array (Option Value)} {oc11 kV11 dc11 pm11 cd11 ct11 : Value} (a11 : nsIn K mainGlobals "sum_of" = some (some (.ref f11)))
    (l11 : K.lookup f11 = some ⟨oc11, od11, .func (fnOf "sum_of" "sum_of" (defArgs s_sum_of) (defBody s_sum_of) (defScope s_sum_of) .none kV11 dc11 pm11 an11 cd11 ct11), sl11⟩) (c11 : codeIn K cd11 "sum_of" = true) (k11 : keepIn K (.ref f11) = true)
    {f12 : Addr} {od12 an12 : Option Addr} {sl12 : Array (Option Value)} {oc12 kV12 dc12 pm12 cd12 ct12 : Value} (a12 : nsIn K mainGlobals "greatest_of" = some (some (.ref f12)))
    (l12 : K.lookup f12 = some ⟨oc12, od12, .func (fnOf "greatest_of" "greatest_of" (defArgs s_greatest_of) (defBody s_greatest_of) (defScope s_greatest_of) .none kV12 dc12 pm12 an12 cd12 ct12), sl12⟩) (c12 : codeIn K cd12 "greatest_of" = true) (k12 : keepIn K (.ref f12) = true)
    {f13 : Addr} {od13 an13 : Option Addr} {sl13 : Array (Option Value)} {oc13 kV13 dc13 pm13 cd13 ct13 : Value} (a13 : nsIn K mainGlobals "integer_in" = some (some (.ref f13)))
    (l13 : K.lookup f13 = some ⟨oc13, od13, .func (fnOf "integer_in" "integer_in" (defArgs s_integer_in) (defBody s_integer_in) (defScope s_integer_in) .none kV13 dc13 pm13 an13 cd13 ct13), sl13⟩) (c13 : codeIn K cd13 "integer_in" = true) (k13 : keepIn K (.ref f13) = true)
    {f14 : Addr} {od14 an14 : Option Addr} {sl14 : Array (Option Value)} {oc14 kV14 dc14 pm14 cd14 ct14 : Value} (a14 : nsIn K mainGlobals "_lowest" = some (some (.ref f14)))
    (l14 : K.lookup f14 = some ⟨oc14, od14, .func (fnOf "_lowest" "_lowest" (defArgs s__lowest) (defBody s__lowest) (defScope s__lowest) .none kV14 dc14 pm14 an14 cd14 ct14), sl14⟩) (c14 : codeIn K cd14 "_lowest" = true) (k14 : keepIn K (.ref f14) = true)
    {f15 : Addr} {od15 an15 : Option Addr} {sl15 : Array (Option Value)} {oc15 kV15 dc15 pm15 cd15 ct15 : Value} (a15 : nsIn K mainGlobals "written" = some (some (.ref f15)))
    (l15 : K.lookup f15 = some ⟨oc15, od15, .func (fnOf "written" "written" (defArgs s_written) (defBody s_written) (defScope s_written) .none kV15 dc15 pm15 an15 cd15 ct15), sl15⟩) (c15 : codeIn K cd15 "written" = true) (k15 : keepIn K (.ref f15) = true)
    {f16 : Addr} (a16 : findIn K (.ref q_Ratio) "__str__" = some (some (.ref f16))) (i16 : isFn K (.ref f16) = true)
    {od16 an16 : Option Addr} {sl16 : Array (Option Value)} {oc16 kV16 dc16 pm16 cd16 ct16 : Value} (l16 : K.lookup f16 = some ⟨oc16, od16, .func (fnOf "__str__" "Ratio.__str__" (defArgs s_Ratio___str__) (defBody s_Ratio___str__) (defScope s_Ratio___str__) .none kV16 dc16 pm16 an16 cd16 ct16), sl16⟩) (c16 : codeIn K cd16 "Ratio.__str__" = true) (k16 : keepIn K (.ref f16) = true)
    {f17 : Addr} {od17 an17 : Option Addr} {sl17 : Array (Option Value)} {oc17 kV17 dc17 pm17 cd17 ct17 : Value} (a17 : nsIn K mainGlobals "ratio_in" = some (some (.ref f17)))
    (l17 : K.lookup f17 = some ⟨oc17, od17, .func (fnOf "ratio_in" "ratio_in" (defArgs s_ratio_in) (defBody s_ratio_in) (defScope s_ratio_in) .none kV17 dc17 pm17 an17 cd17 ct17), sl17⟩) (c17 : codeIn K cd17 "ratio_in" = true) (k17 : keepIn K (.ref f17) = true)
    {f18 u18 : Addr} {rest18 : List Value} (rd_Ratio : readsIn K q_Ratio (.type "type") = true) (rg_Ratio : specialIn K (.ref q_Ratio) "__getattribute__" = some (some (.builtin "type.__getattribute__"))) (pa18 : findCls K (.ref q_Ratio) (.type "type") "of_text" = some (.get (.builtin "classmethod.__get__") (.ref u18) .none (.ref q_Ratio))) (pb18 : recIn K u18 "classmethod" = some (.ref f18 :: rest18)) (pc18 : fnIn K f18 = true)
    {od18 an18 : Option Addr} {sl18 : Array (Option Value)} {oc18 kV18 dc18 pm18 cd18 ct18 : Value} (l18 : K.lookup f18 = some ⟨oc18, od18, .func (fnOf "of_text" "Ratio.of_text" (defArgs s_Ratio_of_text) (defBody s_Ratio_of_text) (defScope s_Ratio_of_text) .none kV18 dc18 pm18 an18 cd18 ct18), sl18⟩) (c18 : codeIn K cd18 "Ratio.of_text" = true) (k18 : keepIn K (.ref f18) = true)
    {f19 : Addr} {od19 an19 : Option Addr} {sl19 : Array (Option Value)} {oc19 kV19 dc19 pm19 cd19 ct19 : Value} (a19 : nsIn K mainGlobals "_law_bent" = some (some (.ref f19)))
    (l19 : K.lookup f19 = some ⟨oc19, od19, .func (fnOf "_law_bent" "_law_bent" (defArgs s__law_bent) (defBody s__law_bent) (defScope s__law_bent) .none kV19 dc19 pm19 an19 cd19 ct19), sl19⟩) (c19 : codeIn K cd19 "_law_bent" = true) (k19 : keepIn K (.ref f19) = true)
    {f20 : Addr} {od20 an20 : Option Addr} {sl20 : Array (Option Value)} {oc20 kV20 dc20 pm20 cd20 ct20 : Value} (a20 : nsIn K mainGlobals "_law_is_integer" = some (some (.ref f20)))
    (l20 : K.lookup f20 = some ⟨oc20, od20, .func (fnOf "_law_is_integer" "_law_is_integer" (defArgs s__law_is_integer) (defBody s__law_is_integer) (defScope s__law_is_integer) .none kV20 dc20 pm20 an20 cd20 ct20), sl20⟩) (c20 : codeIn K cd20 "_law_is_integer" = true) (k20 : keepIn K (.ref f20) = true)
    {f21 : Addr} {od21 an21 : Option Addr} {sl21 : Array (Option Value)} {oc21 kV21 dc21 pm21 cd21 ct21 : Value} (a21 : nsIn K mainGlobals "_law_lowest" = some (some (.ref f21)))
    (l21 : K.lookup f21 = some ⟨oc21, od21, .func (fnOf "_law_lowest" "_law_lowest" (defArgs s__law_lowest) (defBody s__law_lowest) (defScope s__law_lowest) .none kV21 dc21 pm21 an21 cd21 ct21), sl21⟩) (c21 : codeIn K cd21 "_law_lowest" = true) (k21 : keepIn K (.ref f21) = true)
    {f22 : Addr} {od22 an22 : Option Addr} {sl22 : Array (Option Value)} {oc22 kV22 dc22 pm22 cd22 ct22 : Value} (a22 : nsIn K mainGlobals "_law_read" = some (some (.ref f22)))
    (l22 : K.lookup f22 = some ⟨oc22, od22, .func (fnOf "_law_read" "_law_read" (defArgs s__law_read) (defBody s__law_read) (defScope s__law_read) .none kV22 dc22 pm22 an22 cd22 ct22), sl22⟩) (c22 : codeIn K cd22 "_law_read" = true) (k22 : keepIn K (.ref f22) = true)
    {f23 cc23 : Addr} {od23 an23 : Option Addr} {sl23 : Array (Option Value)} {oc23 kV23 dc23 pm23 ct23 : Value} (a23 : nsIn K mainGlobals "_law_right" = some (some (.ref f23)))
    (l23 : K.lookup f23 = some ⟨oc23, od23, .func (fnOf "_law_right" "_law_right" (defArgs s__law_right) (defBody s__law_right) (defScope s__law_right) .none kV23 dc23 pm23 an23 (.ref cc23) ct23), sl23⟩) (c23 : codeIn K (.ref cc23) "_law_right" = true) (k23 : keepIn K (.ref f23) = true)
    {co23 : Option Addr} {cv23 : Array Value} {cs23 : Array (Option Value)} (cl23 : K.lookup cc23 = some ⟨.type "code", co23, .fields cv23, cs23⟩) {PP23 : Addr} (pp23 : (cv23[11]? : Option Value) = some (.ref PP23)) (ph23 : ∀ K' : Frag, K'.lookup cc23 = some ⟨.type "code", co23, .fields cv23, cs23⟩ → codeHdIn K' cc23 PP23 = true) (pm1_23 : PP23 ∈ ts) (pm2_23 : PP23 ∉ as)
    {f24 cc24 : Addr} {od24 an24 : Option Addr} {sl24 : Array (Option Value)} {oc24 kV24 dc24 pm24 ct24 : Value} (a24 : nsIn K mainGlobals "law" = some (some (.ref f24)))
    (l24 : K.lookup f24 = some ⟨oc24, od24, .func (fnOf "law" "law" (defArgs s_law) (defBody s_law) (defScope s_law) .none kV24 dc24 pm24 an24 (.ref cc24) ct24), sl24⟩) (c24 : codeIn K (.ref cc24) "law" = true) (k24 : keepIn K (.ref f24) = true)
    {co24 : Option Addr} {cv24 : Array Value} {cs24 : Array (Option Value)} (cl24 : K.lookup cc24 = some ⟨.type "code", co24, .fields cv24, cs24⟩) {PP24 : Addr} (pp24 : (cv24[11]? : Option Value) = some (.ref PP24)) (ph24 : ∀ K' : Frag, K'.lookup cc24 = some ⟨.type "code", co24, .fields cv24, cs24⟩ → codeHdIn K' cc24 PP24 = true) (pm1_24 : PP24 ∈ ts) (pm2_24 : PP24 ∉ as)
    (ne23_24 : PP23 ≠ PP24)
    (z_abs : nsIn K mainGlobals "abs" = some none)
    (z_all : nsIn K mainGlobals "all" = some none)
    (z_bool : nsIn K mainGlobals "bool" = some none)
    (z_int : nsIn K mainGlobals "int" = some none)
    (z_isinstance : nsIn K mainGlobals "isinstance" = some none)
    (z_len : nsIn K mainGlobals "len" = some none)
    (z_max : nsIn K mainGlobals "max" = some none)
    (z_min : nsIn K mainGlobals "min" = some none)
    (z_range : nsIn K mainGlobals "range" = some none)
    (z_str : nsIn K mainGlobals "str" = some none)
    (z_tuple : nsIn K mainGlobals "tuple" = some none)
    (im_gcd : nsIn K mainGlobals "gcd" = some (some (.builtin "math.gcd")))
    {t_BEYOND : Tok} (w_BEYOND : nsIn K mainGlobals "BEYOND" = some (some (.int 1000000000000000000000000000000000000000000000000000000000000 t_BEYOND)))
    {t_MAX_FIGURES : Tok} (w_MAX_FIGURES : nsIn K mainGlobals "MAX_FIGURES" = some (some (.int 60 t_MAX_FIGURES))) :
    ∃ (fd : FuncData) (cs : List (Addr × Addr)) (sp : Sp), (∀ p ∈ cs, p.2 ∈ ts ∧ p.2 ∉ as) ∧ (∀ p ∈ cs, codeHdIn K p.1 p.2 = true) ∧ (∀ (s : Shared) (u : Value), BindsTo s fd ⟨[u], []⟩ [("_law_script", u)]) ∧
      (∀ (H : Hp) (a : Addr) (ns : List Int), ns.length ≤ 63 → (∀ z ∈ ns, Builtin.Int.intBits z ≤ 1048576) → (∀ p ∈ cs, H p.2 = some (.tbl #[])) → SqL K H a (ns.map V.int) → sp [.ref a] H (fun v _ => v = .bl true) fun _ _ _ => False) ∧
      ∀ base : Heap, K.In base → base.Ns mainGlobals mg → (∀ p ∈ cs, LamX.TabB base mg p.1 p.2) → FnOk P w K mg base CX0 10 fa fd ["_law_script"] sp := by
  have e := hfa.symm.trans (mg_of X G a24)
  cases e
  let T : Txt K mg := {
    c_Ratio := q_Ratio,
    g_Ratio := mg_of X G aq_Ratio,
    o_Ratio := ⟨⟨pg_Ratio, hd_Ratio, po_Ratio, sa_Ratio⟩, sf_Ratio, ha_Ratio, hn_Ratio, htk_Ratio, hm_Ratio, tyC_Ratio⟩,
    f_Ratio__top := nf_Ratio__top,
    f_Ratio__bottom := nf_Ratio__bottom,
    c_InvalidOperation := q_InvalidOperation,
    g_InvalidOperation := mg_of X G aq_InvalidOperation,
    x_InvalidOperation := xx_InvalidOperation,
    k_InvalidOperation := xk_InvalidOperation,
    b_InvalidOperation := xb_InvalidOperation,
    t_InvalidOperation := xt_InvalidOperation,
    c_InvalidRatio := q_InvalidRatio,
    g_InvalidRatio := mg_of X G aq_InvalidRatio,
    x_InvalidRatio := xx_InvalidRatio,
    k_InvalidRatio := xk_InvalidRatio,
    b_InvalidRatio := xb_InvalidRatio,
    t_InvalidRatio := xt_InvalidRatio,
    nint_Ratio := xf_nint_Ratio,
    ntup_Ratio := xf_ntup_Ratio,
    e_InvalidOperation_InvalidOperation := exm_of xb_InvalidOperation xi_InvalidOperation xt_InvalidOperation xs_InvalidOperation_InvalidOperation,
    e_InvalidOperation_InvalidRatio := exm_of xb_InvalidRatio xi_InvalidRatio xt_InvalidRatio xs_InvalidOperation_InvalidRatio,
    e_InvalidRatio_InvalidOperation := exm_of xb_InvalidOperation xi_InvalidOperation xt_InvalidOperation xs_InvalidRatio_InvalidOperation,
    e_InvalidRatio_InvalidRatio := exm_of xb_InvalidRatio xi_InvalidRatio xt_InvalidRatio xs_InvalidRatio_InvalidRatio,
    a__law_dice := f1,
    d__law_dice := _,
    g__law_dice := mg_of X G a1,
    F__law_dice := fun_mk (st := s__law_dice) l1 c1 k1,
    B__law_dice := (fun_mk (st := s__law_dice) l1 c1 k1).binds (ps := ["_law_script", "_law_spot"]) (fun _ _ _ _ _ _ us hl => match us, hl with | [_, _], _ => rfl),
    a__law_roll := f2,
    d__law_roll := _,
    g__law_roll := mg_of X G a2,
    F__law_roll := fun_mk (st := s__law_roll) l2 c2 k2,
    B__law_roll := (fun_mk (st := s__law_roll) l2 c2 k2).binds (ps := ["_law_dice_here", "_law_total"]) (fun _ _ _ _ _ _ us hl => match us, hl with | [_, _], _ => rfl),
    a__law_pick := f3,
    d__law_pick := _,
    g__law_pick := mg_of X G a3,
    F__law_pick := fun_mk (st := s__law_pick) l3 c3 k3,
    B__law_pick := (fun_mk (st := s__law_pick) l3 c3 k3).binds (ps := ["_law_dice_here", "_law_items"]) (fun _ _ _ _ _ _ us hl => match us, hl with | [_, _], _ => rfl),
    a_is_integer := f4,
    d_is_integer := _,
    g_is_integer := mg_of X G a4,
    F_is_integer := fun_mk (st := s_is_integer) l4 c4 k4,
    B_is_integer := (fun_mk (st := s_is_integer) l4 c4 k4).binds (ps := ["value"]) (fun _ _ _ _ _ _ us hl => match us, hl with | [_], _ => rfl),
    a_Ratio___init__ := f5,
    d_Ratio___init__ := _,
    F_Ratio___init__ := fun_mk (st := s_Ratio___init__) l5 c5 k5,
    B_Ratio___init__ := (fun_mk (st := s_Ratio___init__) l5 c5 k5).binds (ps := ["self", "top", "bottom"]) (fun _ _ _ _ _ _ us hl => match us, hl with | [_, _, _], _ => rfl),
    K_Ratio := ⟨mk_Ratio, a5, i5, kc_Ratio⟩,
    a_Ratio_pair := f6,
    d_Ratio_pair := _,
    F_Ratio_pair := fun_mk (st := s_Ratio_pair) l6 c6 k6,
    B_Ratio_pair := (fun_mk (st := s_Ratio_pair) l6 c6 k6).binds (ps := ["self"]) (fun _ _ _ _ _ _ us hl => match us, hl with | [_], _ => rfl),
    p_Ratio_pair := u6,
    P_Ratio_pair := ⟨pa6, pb6, pc6, ⟨_, pd6⟩⟩,
    a__law_told := f7,
    d__law_told := _,
    g__law_told := mg_of X G a7,
    F__law_told := fun_mk (st := s__law_told) l7 c7 k7,
    B__law_told := (fun_mk (st := s__law_told) l7 c7 k7).binds (ps := ["_law_call"]) (fun _ _ _ _ _ _ us hl => match us, hl with | [_], _ => rfl),
    a_Ratio___bool__ := f8,
    d_Ratio___bool__ := _,
    F_Ratio___bool__ := fun_mk (st := s_Ratio___bool__) l8 c8 k8,
    B_Ratio___bool__ := (fun_mk (st := s_Ratio___bool__) l8 c8 k8).binds (ps := ["self"]) (fun _ _ _ _ _ _ us hl => match us, hl with | [_], _ => rfl),
    M_Ratio___bool__ := ⟨a8, i8, k8⟩,
    a_Ratio_over := f9,
    d_Ratio_over := _,
    F_Ratio_over := fun_mk (st := s_Ratio_over) l9 c9 k9,
    B_Ratio_over := (fun_mk (st := s_Ratio_over) l9 c9 k9).binds (ps := ["self", "other"]) (fun _ _ _ _ _ _ us hl => match us, hl with | [_, _], _ => rfl),
    M_Ratio_over := ⟨a9, i9, k9⟩,
    a__is_ratios := f10,
    d__is_ratios := _,
    g__is_ratios := mg_of X G a10,
    F__is_ratios := fun_mk (st := s__is_ratios) l10 c10 k10,
    B__is_ratios := (fun_mk (st := s__is_ratios) l10 c10 k10).binds (ps := ["value"]) (fun _ _ _ _ _ _ us hl => match us, hl with | [_], _ => rfl),
    a_sum_of := f11,
    d_sum_of := _,
    g_sum_of := mg_of X G a11,
    F_sum_of := fun_mk (st := s_sum_of) l11 c11 k11,
    B_sum_of := (fun_mk (st := s_sum_of) l11 c11 k11).binds (ps := ["ratios"]) (fun _ _ _ _ _ _ us hl => match us, hl with | [_], _ => rfl),
    a_greatest_of := f12,
    d_greatest_of := _,
    g_greatest_of := mg_of X G a12,
    F_greatest_of := fun_mk (st := s_greatest_of) l12 c12 k12,
    B_greatest_of := (fun_mk (st := s_greatest_of) l12 c12 k12).binds (ps := ["ratios"]) (fun _ _ _ _ _ _ us hl => match us, hl with | [_], _ => rfl),
    a_integer_in := f13,
    d_integer_in := _,
    g_integer_in := mg_of X G a13,
    F_integer_in := fun_mk (st := s_integer_in) l13 c13 k13,
    B_integer_in := (fun_mk (st := s_integer_in) l13 c13 k13).binds (ps := ["text"]) (fun _ _ _ _ _ _ us hl => match us, hl with | [_], _ => rfl),
    a__lowest := f14,
    d__lowest := _,
    g__lowest := mg_of X G a14,
    F__lowest := fun_mk (st := s__lowest) l14 c14 k14,
    B__lowest := (fun_mk (st := s__lowest) l14 c14 k14).binds (ps := ["top", "bottom"]) (fun _ _ _ _ _ _ us hl => match us, hl with | [_, _], _ => rfl),
    a_written := f15,
    d_written := _,
    g_written := mg_of X G a15,
    F_written := fun_mk (st := s_written) l15 c15 k15,
    B_written := (fun_mk (st := s_written) l15 c15 k15).binds (ps := ["number"]) (fun _ _ _ _ _ _ us hl => match us, hl with | [_], _ => rfl),
    a_Ratio___str__ := f16,
    d_Ratio___str__ := _,
    F_Ratio___str__ := fun_mk (st := s_Ratio___str__) l16 c16 k16,
    B_Ratio___str__ := (fun_mk (st := s_Ratio___str__) l16 c16 k16).binds (ps := ["self"]) (fun _ _ _ _ _ _ us hl => match us, hl with | [_], _ => rfl),
    M_Ratio___str__ := ⟨a16, i16, k16⟩,
    a_ratio_in := f17,
    d_ratio_in := _,
    g_ratio_in := mg_of X G a17,
    F_ratio_in := fun_mk (st := s_ratio_in) l17 c17 k17,
    B_ratio_in := (fun_mk (st := s_ratio_in) l17 c17 k17).binds (ps := ["text"]) (fun _ _ _ _ _ _ us hl => match us, hl with | [_], _ => rfl),
    a_Ratio_of_text := f18,
    d_Ratio_of_text := _,
    F_Ratio_of_text := fun_mk (st := s_Ratio_of_text) l18 c18 k18,
    B_Ratio_of_text := (fun_mk (st := s_Ratio_of_text) l18 c18 k18).binds (ps := ["cls", "text"]) (fun _ _ _ _ _ _ us hl => match us, hl with | [_, _], _ => rfl),
    p_Ratio_of_text := u18,
    R_Ratio := ⟨rd_Ratio, rg_Ratio⟩,
    Q_Ratio_of_text := ⟨pa18, ⟨_, pb18⟩, pc18⟩,
    a__law_bent := f19,
    d__law_bent := _,
    g__law_bent := mg_of X G a19,
    F__law_bent := fun_mk (st := s__law_bent) l19 c19 k19,
    B__law_bent := (fun_mk (st := s__law_bent) l19 c19 k19).binds (ps := ["_law_dice_here", "_law_text"]) (fun _ _ _ _ _ _ us hl => match us, hl with | [_, _], _ => rfl),
    a__law_is_integer := f20,
    d__law_is_integer := _,
    g__law_is_integer := mg_of X G a20,
    F__law_is_integer := fun_mk (st := s__law_is_integer) l20 c20 k20,
    B__law_is_integer := (fun_mk (st := s__law_is_integer) l20 c20 k20).binds (ps := ["_law_text"]) (fun _ _ _ _ _ _ us hl => match us, hl with | [_], _ => rfl),
    a__law_lowest := f21,
    d__law_lowest := _,
    g__law_lowest := mg_of X G a21,
    F__law_lowest := fun_mk (st := s__law_lowest) l21 c21 k21,
    B__law_lowest := (fun_mk (st := s__law_lowest) l21 c21 k21).binds (ps := ["_law_top", "_law_bottom"]) (fun _ _ _ _ _ _ us hl => match us, hl with | [_, _], _ => rfl),
    a__law_read := f22,
    d__law_read := _,
    g__law_read := mg_of X G a22,
    F__law_read := fun_mk (st := s__law_read) l22 c22 k22,
    B__law_read := (fun_mk (st := s__law_read) l22 c22 k22).binds (ps := ["_law_text"]) (fun _ _ _ _ _ _ us hl => match us, hl with | [_], _ => rfl),
    a__law_right := f23,
    d__law_right := _,
    g__law_right := mg_of X G a23,
    F__law_right := fun_mk (st := s__law_right) l23 c23 k23,
    FC__law_right := ⟨⟨_, _, _, _, _, _, _, _, rfl, l23, c23⟩⟩,
    q__law_right := cc23,
    P__law_right := PP23,
    B__law_right := (fun_mk (st := s__law_right) l23 c23 k23).binds (ps := ["_law_dice_here"]) (fun _ _ _ _ _ _ us hl => match us, hl with | [_], _ => rfl),
    a_law := fa,
    d_law := _,
    g_law := mg_of X G a24,
    F_law := fun_mk (st := s_law) l24 c24 k24,
    FC_law := ⟨⟨_, _, _, _, _, _, _, _, rfl, l24, c24⟩⟩,
    q_law := cc24,
    P_law := PP24,
    B_law := (fun_mk (st := s_law) l24 c24 k24).binds (ps := ["_law_script"]) (fun _ _ _ _ _ _ us hl => match us, hl with | [_], _ => rfl),
    ne__law_right_law := ne23_24,
    b_abs := mg_none_of X G z_abs,
    b_all := mg_none_of X G z_all,
    b_bool := mg_none_of X G z_bool,
    b_int := mg_none_of X G z_int,
    b_isinstance := mg_none_of X G z_isinstance,
    b_len := mg_none_of X G z_len,
    b_max := mg_none_of X G z_max,
    b_min := mg_none_of X G z_min,
    b_range := mg_none_of X G z_range,
    b_str := mg_none_of X G z_str,
    b_tuple := mg_none_of X G z_tuple,
    i_gcd := mg_of X G im_gcd,
    t_BEYOND := t_BEYOND,
    v_BEYOND := mg_of X G w_BEYOND,
    t_MAX_FIGURES := t_MAX_FIGURES,
    v_MAX_FIGURES := mg_of X G w_MAX_FIGURES }
  refine ⟨_, [(cc23, PP23), (cc24, PP24)], (sp_law K T), fun p hp => ?_, fun p hp => ?_, fun s v => .of_eq rfl, fun H a ns h1 h2 h4 h3 => Law.enter T H a ns h1 h2 (fun p hp => ?_) h3, fun base _ _ hb => ok_law T ⟨hb _ (.head _), hb _ (.tail _ (.head _))⟩⟩
  · rcases List.mem_cons.mp hp with rfl | hp
    · exact ⟨pm1_23, pm2_23⟩
    rcases List.mem_cons.mp hp with rfl | hp
    · exact ⟨pm1_24, pm2_24⟩
    cases hp
  · rcases List.mem_cons.mp hp with rfl | hp
    · exact ph23 K cl23
    rcases List.mem_cons.mp hp with rfl | hp
    · exact ph24 K cl24
    cases hp
  · rcases List.mem_cons.mp hp with rfl | hp
    · exact LamX.TabS.nil (h4 _ (.head _))
    rcases List.mem_cons.mp hp with rfl | hp
    · exact LamX.TabS.nil (h4 _ (.tail _ (.head _)))
    cases hp
end Law
open PySem PySem.W PyProof.Rows
set_option maxRecDepth 100000 in
set_option maxHeartbeats 0 in
theorem PySem.Challenge.cw_touchrows_k06_errors_of_ratios_holds : PySem.Challenge.rw_touchrows_k06_errors_of_ratios.Holds := by
  w_on; o_law; k_head; (case hw => w_witness2)
  k_fill
  refine U.walkT (l := PySem.Challenge.rw_touchrows_k06_errors_of_ratios) (n := 63) (k := 10) (x := "_law_script") rfl (by decide) rfl ⟨rfl, by decide, by decide⟩ ?F
  case F =>
    intro w mg fa h KX G hmg
    refine' Law.all_mk KX G hmg ?aq_Ratio ?pg_Ratio ?hd_Ratio ?po_Ratio ?sa_Ratio ?sf_Ratio ?ha_Ratio ?hn_Ratio ?htk_Ratio ?hm_Ratio ?tyC_Ratio ?nf_Ratio__top ?nf_Ratio__bottom ?aq_InvalidOperation ?xb_InvalidOperation ?xt_InvalidOperation ?xx_InvalidOperation ?xk_InvalidOperation ?xi_InvalidOperation ?aq_InvalidRatio ?xb_InvalidRatio ?xt_InvalidRatio ?xx_InvalidRatio ?xk_InvalidRatio ?xi_InvalidRatio ?xf_nint_Ratio ?xf_ntup_Ratio ?xs_InvalidOperation_InvalidOperation ?xs_InvalidOperation_InvalidRatio ?xs_InvalidRatio_InvalidOperation ?xs_InvalidRatio_InvalidRatio ?a1 ?l1 ?c1 ?k1 ?a2 ?l2 ?c2 ?k2 ?a3 ?l3 ?c3 ?k3 ?a4 ?l4 ?c4 ?k4 ?a5 ?i5 ?l5 ?c5 ?k5 ?mk_Ratio ?kc_Ratio ?pa6 ?pb6 ?pc6 ?pd6 ?l6 ?c6 ?k6 ?a7 ?l7 ?c7 ?k7 ?a8 ?i8 ?l8 ?c8 ?k8 ?a9 ?i9 ?l9 ?c9 ?k9 ?a10 ?l10 ?c10 ?k10 ?a11 ?l11 ?c11 ?k11 ?a12 ?l12 ?c12 ?k12 ?a13 ?l13 ?c13 ?k13 ?a14 ?l14 ?c14 ?k14 ?a15 ?l15 ?c15 ?k15 ?a16 ?i16 ?l16 ?c16 ?k16 ?a17 ?l17 ?c17 ?k17 ?rd_Ratio ?rg_Ratio ?pa18 ?pb18 ?pc18 ?l18 ?c18 ?k18 ?a19 ?l19 ?c19 ?k19 ?a20 ?l20 ?c20 ?k20 ?a21 ?l21 ?c21 ?k21 ?a22 ?l22 ?c22 ?k22 ?a23 ?l23 ?c23 ?k23 ?cl23 ?pp23 ?ph23 ?pm1_23 ?pm2_23 ?a24 ?l24 ?c24 ?k24 ?cl24 ?pp24 ?ph24 ?pm1_24 ?pm2_24 ?ne23_24 ?z_abs ?z_all ?z_bool ?z_int ?z_isinstance ?z_len ?z_max ?z_min ?z_range ?z_str ?z_tuple ?im_gcd ?w_BEYOND ?w_MAX_FIGURES
    (case aq_Ratio => k_is); (case pg_Ratio => k_is); (case hd_Ratio => k_is); (case po_Ratio => k_is); (case sa_Ratio => k_is); (case sf_Ratio => k_is); (case ha_Ratio => k_is); (case hn_Ratio => k_is); (case htk_Ratio => k_is); (case hm_Ratio => k_is); (case tyC_Ratio => k_is); (case nf_Ratio__top => k_is); (case nf_Ratio__bottom => k_is); (case aq_InvalidOperation => k_is); (case xb_InvalidOperation => k_is); (case xt_InvalidOperation => k_is); (case xx_InvalidOperation => k_exc); (case xk_InvalidOperation => k_is); (case xi_InvalidOperation => k_is); (case aq_InvalidRatio => k_is); (case xb_InvalidRatio => k_is); (case xt_InvalidRatio => k_is); (case xx_InvalidRatio => k_exc); (case xk_InvalidRatio => k_is); (case xi_InvalidRatio => k_is); (case xf_nint_Ratio => k_is); (case xf_ntup_Ratio => k_is); (case xs_InvalidOperation_InvalidOperation => (first | rfl | k_is)); (case xs_InvalidOperation_InvalidRatio => (first | rfl | k_is)); (case xs_InvalidRatio_InvalidOperation => (first | rfl | k_is)); (case xs_InvalidRatio_InvalidRatio => (first | rfl | k_is)); (case a1 => k_is); (case l1 => k_is); (case c1 => k_is); (case k1 => k_is); (case a2 => k_is); (case l2 => k_is); (case c2 => k_is); (case k2 => k_is); (case a3 => k_is); (case l3 => k_is); (case c3 => k_is); (case k3 => k_is); (case a4 => k_is); (case l4 => k_is); (case c4 => k_is); (case k4 => k_is); (case a5 => k_is); (case i5 => k_is); (case l5 => k_is); (case c5 => k_is); (case k5 => k_is); (case mk_Ratio => k_is); (case kc_Ratio => k_is); (case pa6 => k_is); (case pb6 => k_is); (case pc6 => k_is); (case pd6 => k_is); (case l6 => k_is); (case c6 => k_is); (case k6 => k_is); (case a7 => k_is); (case l7 => k_is); (case c7 => k_is); (case k7 => k_is); (case a8 => k_is); (case i8 => k_is); (case l8 => k_is); (case c8 => k_is); (case k8 => k_is); (case a9 => k_is); (case i9 => k_is); (case l9 => k_is); (case c9 => k_is); (case k9 => k_is); (case a10 => k_is); (case l10 => k_is); (case c10 => k_is); (case k10 => k_is); (case a11 => k_is); (case l11 => k_is); (case c11 => k_is); (case k11 => k_is); (case a12 => k_is); (case l12 => k_is); (case c12 => k_is); (case k12 => k_is); (case a13 => k_is); (case l13 => k_is); (case c13 => k_is); (case k13 => k_is); (case a14 => k_is); (case l14 => k_is); (case c14 => k_is); (case k14 => k_is); (case a15 => k_is); (case l15 => k_is); (case c15 => k_is); (case k15 => k_is); (case a16 => k_is); (case i16 => k_is); (case l16 => k_is); (case c16 => k_is); (case k16 => k_is); (case a17 => k_is); (case l17 => k_is); (case c17 => k_is); (case k17 => k_is); (case rd_Ratio => k_is); (case rg_Ratio => k_is); (case pa18 => k_is); (case pb18 => k_is); (case pc18 => k_is); (case l18 => k_is); (case c18 => k_is); (case k18 => k_is); (case a19 => k_is); (case l19 => k_is); (case c19 => k_is); (case k19 => k_is); (case a20 => k_is); (case l20 => k_is); (case c20 => k_is); (case k20 => k_is); (case a21 => k_is); (case l21 => k_is); (case c21 => k_is); (case k21 => k_is); (case a22 => k_is); (case l22 => k_is); (case c22 => k_is); (case k22 => k_is); (case a23 => k_is); (case l23 => k_is); (case c23 => k_is); (case k23 => k_is); (case cl23 => k_is); (case pp23 => rfl); (case ph23 => (intro K' h; unfold PySem.W.codeHdIn; rw [h]; rfl)); (case pm1_23 => (decide +kernel)); (case pm2_23 => (decide +kernel)); (case a24 => k_is); (case l24 => k_is); (case c24 => k_is); (case k24 => k_is); (case cl24 => k_is); (case pp24 => rfl); (case ph24 => (intro K' h; unfold PySem.W.codeHdIn; rw [h]; rfl)); (case pm1_24 => (decide +kernel)); (case pm2_24 => (decide +kernel)); (case ne23_24 => (decide +kernel)); (case z_abs => k_is); (case z_all => k_is); (case z_bool => k_is); (case z_int => k_is); (case z_isinstance => k_is); (case z_len => k_is); (case z_max => k_is); (case z_min => k_is); (case z_range => k_is); (case z_str => k_is); (case z_tuple => k_is); (case im_gcd => k_is); (case w_BEYOND => k_is); (case w_MAX_FIGURES => k_is)
