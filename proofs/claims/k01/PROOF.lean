import PyProof.Rows.All
import Wide.All
import OpenK.AllK
import Wide.FinOn
import HandS.ForMost
import HandS.Wide
import HandS.Steps
import HandS.StrMore
import HandS.TupAny
import HandS.Style
import HandS.Flow
import HandS.IsInst
import HandS.RaiseMore
import HandS.Gcd
import HandS.EndBits
import HandS.Walk
import PyProof.Rows.StrCut
import KE.KIntText
import HandS.OwnEq
import HandS.Property
import HandS.FStr
import KE.KOpsOwn
import KE.KCallOwn
import HandS.Deep
import PyProof.ReprLen
import HandS.NoneIn
import HandS.ClsMeth
import PyProof.StrLawsRepr
import KE.IntTextLaws
import KE.IntTextText
import HandS.Text
import HandS.Exc
import HandS.ExcOwn
import HandS.WordsExc
import HandS.TryMany
import HandS.Lambda
import HandS.EndTab
import KE.KNestM
import PyProof.NeKinds
import PyProof.Rows.StrIntSpec
import PyProof.FString3
import HandS.WideBits
import HandS.DictComp
import HandS.Zip
import KE.KMathGC
import HandS.ListItems
import HandS.Small
import HandS.Sort
import HandS.Iter
import KE.KDictList
import HandS.ExcInit
import HandS.ExcValue
import HandS.ExcField
import HandS.ExcIs
import HandS.HotCalls
import KE.KExcInit
import KE.KExcIs
import HandS.Dict
import PySem.Challenge.RW_touchrows_k01_errors_kept_and_caught
set_option Elab.async false
set_option linter.all false
set_option maxRecDepth 100000
set_option maxHeartbeats 4000000
/-! U: readings that compute by matching on the values, and a ledger of the objects that a def knows. -/
namespace U
open PySem PySem.Spec PyProof.Rows L2

section mono
variable {X : Cx}
theorem peM {e : Expr} {t t' : TE} (h : PE X e t) (m : ∀ σ H Q, t' σ H Q → t σ H Q) : PE X e t' := ⟨fun pins s σ H Q I q => h.run pins s σ H Q I (m σ H Q q)⟩
theorem ptM {e : Expr} {t t' : TT} (h : PT X e t) (m : ∀ σ H Q, t' σ H Q → t σ H Q) : PT X e t' := ⟨fun pins s σ H Q I q => h.run pins s σ H Q I (m σ H Q q)⟩
theorem pwM {e : Expr} {t t' : TT} (h : PW X e t) (m : ∀ σ H Q, t' σ H Q → t σ H Q) : PW X e t' := ⟨fun wh pins s σ H Q I q => h.run wh pins s σ H Q I (m σ H Q q)⟩
theorem psM {e : Stmt} {t t' : TS} (h : PS X e t) (m : ∀ D σ H, t' D σ H → t D σ H) : PS X e t' := ⟨fun pins s σ H D I q => h.run pins s σ H D I (m D σ H q)⟩
theorem opM {f : Value → Value → Sem Value} {r r' : R2} (h : OpR X f r) (m : ∀ x y H Q, r' x y H Q → r x y H Q) : OpR X f r' := fun pins s σ H x y v u Q I rx ry q => h pins s σ H x y v u Q I rx ry (m x y H Q q)
theorem caM {f : Value} {r r' : List V → Hp → VK → Prop} (h : CallR X f r) (m : ∀ xs H Q, r' xs H Q → r xs H Q) : CallR X f r' := fun pins s σ H xs us Q I r q => h pins s σ H xs us Q I r (m xs H Q q)
end mono

/-- a way of two: by the answer -/
@[irreducible] def br (c : Bool) (A B : Prop) : Prop := if c = true then A else B
theorem brT {A B : Prop} (h : A) : br true A B := by unfold br; exact h
theorem brF {A B : Prop} (h : B) : br false A B := by unfold br; rw [if_neg Bool.false_ne_true]; exact h
theorem brY {c : Bool} {A B : Prop} (e : c = true) (h : A) : br c A B := by subst e; exact brT h
theorem brN {c : Bool} {A B : Prop} (e : c = false) (h : B) : br c A B := by subst e; exact brF h
theorem br2 {c : Bool} {A B : Prop} (h1 : c = true → A) (h2 : c = false → B) : br c A B := by
  cases c with
  | true => exact brT (h1 rfl)
  | false => exact brF (h2 rfl)
theorem brD {p : Prop} [Decidable p] {A B : Prop} (h1 : p → A) (h2 : ¬ p → B) : br (decide p) A B := br2 (fun e => h1 (of_decide_eq_true e)) (fun e => h2 (of_decide_eq_false e))
theorem br_if {c : Bool} {A B : Prop} (h : br c A B) : if c = true then A else B := by unfold br at h; exact h

/-! ### names, choices -/
def uV (i : Nat) : TE := fun σ H Q => match σ[i]? with | some (some v) => Q v H | _ => False
section
variable {X : Cx} {pos : Pos}
theorem pev (i : Nat) {x : Str} {pos : Pos} (hN : X.N[i]? = some x := by rfl) (hv : Vis X.env.scope x := by first | exact Or.inl rfl | exact Or.inr (Or.inl rfl) | exact Or.inr (Or.inr rfl)) (hd : (x == ("__debug__" : Str)) = false := by decide)
    (hcd : (x == ("__classdict__" : Str)) = false := by decide) : PE X (.Name x pos) (uV i) := peM (pv i hN hv hd hcd) fun σ H Q h => by
  unfold uV at h
  split at h
  · exact ⟨_, by assumption, h⟩
  · exact h.elim
def uIf (t : TT) (ta tb : TE) : TE := fun σ H Q => t σ H fun c H1 => br c (ta σ H1 Q) (tb σ H1 Q)
def uIfS (c : TT) (t u : TS) : TS := fun D σ H => c σ H fun b H1 => br b (t D σ H1) (u D σ H1)
def uAnd (t u : TT) : TT := fun σ H Q => t σ H fun c H1 => br c (u σ H1 Q) (Q false H1)
def uOr (t u : TT) : TT := fun σ H Q => t σ H fun c H1 => br c (Q true H1) (u σ H1 Q)
/-- monotone readings of tests -/
structure MT (t : TT) : Prop where
  m : ∀ σ H Q Q', (∀ b H1, Q b H1 → Q' b H1) → t σ H Q → t σ H Q'
end
section
variable {X : Cx} {pos : Pos} {a b c : Expr} {ta tb te : TE} {tc td : TT} {t u : TS} {rest : List Expr} {xs ys : List Stmt}
theorem psIf (hc : PT X c tc) (ha : PSs X xs t) (hb : PSs X ys u) : PS X (.If c xs ys pos) (uIfS tc t u) := ⟨fun p s z H D I h => wpAny_If (thn (hc.run p s z H _ I h) fun k s1 ⟨H1, I1, q⟩ => by
  cases k with
  | true => exact ha.run p s1 z H1 D I1 (by unfold br at q; exact q)
  | false => exact hb.run p s1 z H1 D I1 (by unfold br at q; exact q))⟩
theorem peIf (hc : PT X c tc) (ha : PE X a ta) (hb : PE X b tb) : PE X (.IfExp c a b pos) (uIf tc ta tb) := ⟨fun p s z H Q I h => wpAny_IfExp (thn (hc.run p s z H _ I h) fun k s1 ⟨H1, I1, q⟩ => by
  cases k with
  | true => exact ha.run p s1 z H1 Q I1 (by unfold br at q; exact q)
  | false => exact hb.run p s1 z H1 Q I1 (by unfold br at q; exact q))⟩
theorem pwAnd (ha : PT X a tc) (hb : PW X (.BoolOp .And (b :: rest) pos) td) : PW X (.BoolOp .And (a :: b :: rest) pos) (uAnd tc td) := ⟨fun wh p s z H Q I h => isTrue_and (thn (ha.run p s z H _ I h) fun k s1 ⟨H1, I1, q⟩ => by
  cases k with
  | true => exact hb.run wh p s1 z H1 Q I1 (by unfold br at q; exact q)
  | false => exact ⟨H1, I1, by unfold br at q; exact q⟩)⟩
theorem pwOr (ha : PT X a tc) (hb : PW X (.BoolOp .Or (b :: rest) pos) td) : PW X (.BoolOp .Or (a :: b :: rest) pos) (uOr tc td) := ⟨fun wh p s z H Q I h => isTrue_or (thn (ha.run p s z H _ I h) fun k s1 ⟨H1, I1, q⟩ => by
  cases k with
  | true => exact ⟨H1, I1, by unfold br at q; exact q⟩
  | false => exact hb.run wh p s1 z H1 Q I1 (by unfold br at q; exact q))⟩
/-- and, or, not as values, the members bools -/
def uAndV (ta tb : TE) : TE := fun σ H Q => ta σ H fun x H1 => match x with | .bl k => br k (tb σ H1 Q) (Q (.bl false) H1) | _ => False
def uOrV (ta tb : TE) : TE := fun σ H Q => ta σ H fun x H1 => match x with | .bl k => br k (Q (.bl true) H1) (tb σ H1 Q) | _ => False
def uNotV (ta : TE) : TE := fun σ H Q => ta σ H fun x H1 => match x with | .bl k => Q (.bl (!k)) H1 | _ => False
theorem peAnd (ha : PE X a ta) (hb : PE X (.BoolOp .And (b :: rest) pos) tb) : PE X (.BoolOp .And (a :: b :: rest) pos) (uAndV ta tb) := ⟨fun p s z H Q I h => BoolOp_and (thn (ha.run p s z H _ I h) fun v s1 ⟨x, H1, I1, r1, q⟩ => by
  cases x with
  | bl k =>
    cases r1
    refine wpAny_truthy_bool ?_
    cases k with
    | true => exact hb.run p s1 z H1 Q I1 (by simp only [br] at q; exact q)
    | false => exact ⟨.bl false, H1, I1, rfl, by simp only [br] at q; exact q⟩
  | _ => exact (show False from q).elim)⟩
theorem peOr (ha : PE X a ta) (hb : PE X (.BoolOp .Or (b :: rest) pos) tb) : PE X (.BoolOp .Or (a :: b :: rest) pos) (uOrV ta tb) := ⟨fun p s z H Q I h => BoolOp_or (thn (ha.run p s z H _ I h) fun v s1 ⟨x, H1, I1, r1, q⟩ => by
  cases x with
  | bl k =>
    cases r1
    refine wpAny_truthy_bool ?_
    cases k with
    | true => exact ⟨.bl true, H1, I1, rfl, by simp only [br] at q; exact q⟩
    | false => exact hb.run p s1 z H1 Q I1 (by simp only [br] at q; exact q)
  | _ => exact (show False from q).elim)⟩
/-- a value's truth -/
def uTru (K : PySem.W.Frag) (x : V) (H : Hp) (Q : Bool → Hp → Prop) : Prop := match x with
  | .bl k => Q k H
  | .int i => Q (decide (i ≠ 0)) H
  | .non => Q false H
  | .str y => y.length ≤ sizeLine ∧ Q (decide (y.length ≠ 0)) H
  | .ref p => ∃ k, TruV K (.ref p) H k ∧ Q k H
  | _ => False
def uTrue (K : PySem.W.Frag) (ta : TE) : TT := fun σ H Q => ta σ H fun x H1 => uTru K x H1 Q
theorem ptV (ha : PE X a ta) (he : ∀ whole, isTrue a X.env whole = (do let v ← whole; standAt a.pos; holding [v] (truthy v)) := by intro _; rfl) : PT X a (uTrue X.K ta) := by
  refine ⟨fun p s z H Q I h => isTrue_plain (thn (ha.run p s z H _ I h) fun v s1 ⟨x, H1, I1, r1, q⟩ => ?_) (he _)⟩
  refine tru_ok p s1 z H1 x v Q I1 r1 ?_
  cases x with
  | non => exact ⟨false, rfl, q⟩
  | bl k => exact ⟨k, rfl, q⟩
  | int i =>
    refine ⟨_, rfl, ?_⟩
    have e : decide (i ≠ 0) = (i != 0) := by by_cases h0 : i = 0 <;> simp [h0]
    have q' : Q (decide (i ≠ 0)) H1 := q
    rw [e] at q'
    exact q'
  | str y =>
    obtain ⟨q1, q2⟩ := (show y.length ≤ sizeLine ∧ Q (decide (y.length ≠ 0)) H1 from q)
    refine ⟨_, ⟨q1, rfl⟩, ?_⟩
    have e : decide (y.length ≠ 0) = ((y.length : Int) != 0) := by by_cases h0 : y.length = 0 <;> simp [h0]
    rw [e] at q2
    exact q2
  | ref r => exact q
  | byt _ => exact (show False from q).elim
  | flt _ => exact (show False from q).elim
  | ty _ => exact (show False from q).elim
end

/-! ### operators by matching -/
section
variable {X : Cx}
def uAdd (K : PySem.W.Frag) : R2 := fun x y H Q => match x, y with
  | .int i, .int j => Q (.int (i + j)) H
  | .str i, .str j => i.length + j.length ≤ sizeLine ∧ Q (.str (i ++ j)) H
  | .ref a, .ref b => rCat (.ref a) (.ref b) H Q ∨ rCatA K (.ref a) (.ref b) H Q
  | _, _ => False
theorem opAdd : OpR X (binaryOp .Add) (uAdd X.K) := fun p s z H x y v u Q I rx ry h => by
  unfold uAdd at h
  split at h
  · exact op_add p s z H _ _ v u Q I rx ry ⟨_, _, rfl, rfl, h⟩
  · exact op_add_str p s z H _ _ v u Q I rx ry ⟨_, _, rfl, rfl, h.1, h.2⟩
  · rcases h with h | h
    · exact op_cat p s z H _ _ v u Q I rx ry h
    · exact op_catA p s z H _ _ v u Q I rx ry h
  · exact h.elim
def uSub : R2 := fun x y H Q => match x, y with | .int i, .int j => Q (.int (i - j)) H | _, _ => False
theorem opSub : OpR X (binaryOp .Sub) uSub := fun p s z H x y v u Q I rx ry h => by
  unfold uSub at h
  split at h
  · exact op_sub p s z H _ _ v u Q I rx ry ⟨_, _, rfl, rfl, h⟩
  · exact h.elim
/-- the sizes of a product's factors -/
def FitM (i j : Int) : Prop := i.natAbs < 2 ^ 400000 ∧ j.natAbs < 2 ^ 400000
def uMul : R2 := fun x y H Q => match x, y with
  | .int i, .int j => CMulW i j ∧ Q (.int (i * j)) H
  | .ref a, .int j => rRep (.ref a) (.int j) H Q
  | _, _ => False
theorem opMul : OpR X (binaryOp .Mult) uMul := fun p s z H x y v u Q I rx ry h => by
  unfold uMul at h
  split at h
  · exact op_mulW p s z H _ _ v u Q I rx ry ⟨_, _, rfl, rfl, h.1, h.2⟩
  · exact op_rep p s z H _ _ v u Q I rx ry h
  · exact h.elim
def uDiv : R2 := fun x y H Q => match x, y with | .int i, .int j => CDivW i j ∧ Q (.int (i / j)) H | _, _ => False
theorem opDiv : OpR X (binaryOp .FloorDiv) uDiv := fun p s z H x y v u Q I rx ry h => by
  unfold uDiv at h
  split at h
  · exact op_fdivW p s z H _ _ v u Q I rx ry ⟨_, _, rfl, rfl, h.1, h.2⟩
  · exact h.elim
def uMod : R2 := fun x y H Q => match x, y with | .int i, .int j => 0 < j ∧ Q (.int (i % j)) H | _, _ => False
theorem opMod : OpR X (binaryOp .Mod) uMod := fun p s z H x y v u Q I rx ry h => by
  unfold uMod at h
  split at h
  · exact op_mod p s z H _ _ v u Q I rx ry ⟨_, _, rfl, rfl, h.1, h.2⟩
  · exact h.elim
def uPow : R2 := fun x y H Q => match x, y with | .int i, .int j => CPow i j ∧ Q (.int (i ^ j.toNat)) H | _, _ => False
theorem opPow : OpR X (binaryOp .Pow) uPow := fun p s z H x y v u Q I rx ry h => by
  unfold uPow at h
  split at h
  · exact op_pow p s z H _ _ v u Q I rx ry ⟨_, _, rfl, rfl, h.1, h.2⟩
  · exact h.elim
def uNeg : V → Hp → VK → Prop := fun x H Q => match x with | .int i => Q (.int (-i)) H | _ => False
theorem unNeg : UnR X (unaryOp .USub) uNeg := fun p s z H x v Q I rx h => by
  unfold uNeg at h
  split at h
  · exact un_neg p s z H _ v Q I rx ⟨_, rfl, h⟩
  · exact h.elim

/-! ### comparisons -/
def uEq (K : PySem.W.Frag) : R2 := fun x y H Q => match scal x y with
  | true => Q (.bl (decide (x = y))) H
  | false => rEqD K x y H Q
theorem opEq (hu : X.A.units + 64 < cLine) : OpR X (compareOp .Eq) (uEq X.K) := fun p s z H x y v u Q I rx ry h => by
  unfold uEq at h
  split at h
  · exact op_eq p s z H _ _ v u Q I rx ry ⟨by assumption, h⟩
  · exact op_eqD hu p s z H _ _ v u Q I rx ry h
def uNe (K : PySem.W.Frag) : R2 := fun x y H Q => match scal x y with
  | true => Q (.bl (!decide (x = y))) H
  | false => rNeD K x y H Q
theorem opNe (hu : X.A.units + 64 < cLine) : OpR X (compareOp .NotEq) (uNe X.K) := fun p s z H x y v u Q I rx ry h => by
  unfold uNe at h
  split at h
  · exact op_ne p s z H _ _ v u Q I rx ry ⟨by assumption, h⟩
  · exact op_neD hu p s z H _ _ v u Q I rx ry h
def uLt : R2 := fun x y H Q => match x, y with
  | .int i, .int j => Q (.bl (decide (i < j))) H
  | .str i, .str j => Q (.bl (decide (i.cps.toList < j.cps.toList))) H
  | _, _ => False
theorem opLt : OpR X (compareOp .Lt) uLt := fun p s z H x y v u Q I rx ry h => by
  unfold uLt at h
  split at h
  · exact op_lt p s z H _ _ v u Q I rx ry ⟨_, _, rfl, rfl, h⟩
  · exact op_lt_str p s z H _ _ v u Q I rx ry ⟨_, _, rfl, rfl, h⟩
  · exact h.elim
def uLe : R2 := fun x y H Q => match x, y with | .int i, .int j => Q (.bl (decide (i ≤ j))) H | _, _ => False
theorem opLe : OpR X (compareOp .LtE) uLe := fun p s z H x y v u Q I rx ry h => by
  unfold uLe at h
  split at h
  · exact op_le p s z H _ _ v u Q I rx ry ⟨_, _, rfl, rfl, h⟩
  · exact h.elim
def uGt : R2 := fun x y H Q => match x, y with | .int i, .int j => Q (.bl (decide (j < i))) H | _, _ => False
theorem opGt : OpR X (compareOp .Gt) uGt := fun p s z H x y v u Q I rx ry h => by
  unfold uGt at h
  split at h
  · exact op_gt p s z H _ _ v u Q I rx ry ⟨_, _, rfl, rfl, h⟩
  · exact h.elim
def uGe : R2 := fun x y H Q => match x, y with | .int i, .int j => Q (.bl (decide (j ≤ i))) H | _, _ => False
theorem opGe : OpR X (compareOp .GtE) uGe := fun p s z H x y v u Q I rx ry h => by
  unfold uGe at h
  split at h
  · exact op_ge p s z H _ _ v u Q I rx ry ⟨_, _, rfl, rfl, h⟩
  · exact h.elim
/-- a sign in a text -/
def uInS : R2 := fun x y H Q => match x, y with
  | .str c, .str z => ∃ n, c = ⟨#[n]⟩ ∧ Q (.bl (decide (n ∈ z.cps.toList))) H
  | _, _ => False
theorem opInS : OpR X (compareOp .In) uInS := fun p s z H x y v u Q I rx ry h => by
  unfold uInS at h
  split at h
  · obtain ⟨n, e, h⟩ := h
    subst e
    exact op_in_sign p s z H _ _ v u Q I rx ry ⟨_, _, rfl, rfl, h⟩
  · exact h.elim
def uNotInS : R2 := fun x y H Q => match x, y with
  | .str c, .str z => ∃ n, c = ⟨#[n]⟩ ∧ Q (.bl (!decide (n ∈ z.cps.toList))) H
  | _, _ => False
theorem opNotInS : OpR X (compareOp .NotIn) uNotInS := fun p s z H x y v u Q I rx ry h => by
  unfold uNotInS at h
  split at h
  · obtain ⟨n, e, h⟩ := h
    subst e
    exact op_notIn_sign p s z H _ _ v u Q I rx ry ⟨_, _, rfl, rfl, h⟩
  · exact h.elim
end
/-- a chain of two comparisons -/
def uChain (r r' : R2) (ta tb tc : TE) : TE := fun σ H Q => ta σ H fun x H1 => tb σ H1 fun y H2 => r x y H2 fun z H3 => match z with
  | .bl k => br k (tc σ H3 fun w H4 => r' y w H4 Q) (Q (.bl false) H3)
  | _ => False
end U

namespace U
open PySem PySem.Spec PyProof.Rows L2
theorem foldl_arr (x : Array Nat) : ∀ (n : Nat) (a : Array Nat), ((List.replicate n x).foldl (· ++ ·) a).toList = a.toList ++ (List.replicate n x.toList).flatten
  | 0, a => by simp
  | n + 1, a => by
    rw [List.replicate_succ, List.foldl_cons, foldl_arr x n, List.replicate_succ, List.flatten_cons]
    simp
theorem flat_nil : ∀ k : Nat, (List.replicate k ([] : List Nat)).flatten = []
  | 0 => rfl
  | k + 1 => by rw [List.replicate_succ, List.flatten_cons, flat_nil k]; rfl
theorem mul_list (x : Str) (n : Int) (h0 : 0 ≤ n) : (Txt.mul x n).cps.toList = (List.replicate n.toNat x.cps.toList).flatten := by
  unfold Txt.mul
  split
  · rw [show n.toNat = 0 by omega]; rfl
  · split
    · rename_i h1 h2
      rw [Bool.or_eq_true] at h2
      rcases h2 with h2 | h2
      · obtain rfl : n = 1 := by simpa using h2
        simp
      · have h3 : x.cps.toList.length = 0 := by simpa [Str.length] using h2
        rw [List.eq_nil_of_length_eq_zero h3, flat_nil]
    · rw [foldl_arr]; rfl
theorem mul_ok {x : Str} {n : Int} (h0 : 0 ≤ n) (h1 : n ≤ 1000000) (h : x.length * n.toNat ≤ 1000000) : MulOk x n := by
  refine ⟨?_, fun h2 _ => ?_, fun _ _ => ?_⟩
  · rw [decide_eq_false (show ¬ n < -(2 ^ 63 : Int) by omega), decide_eq_false (show ¬ n ≥ (2 ^ 63 : Int) by omega)]; rfl
  · intro z
    have hx : x.length ≤ 1000000 := Nat.le_trans (by
      have h5 := Nat.mul_le_mul_left x.length (show 1 ≤ n.toNat by omega)
      omega) h
    have h3 : (2 ^ 63 - 1 : Int) / n ≥ 1000000 := (Int.le_ediv_iff_mul_le (by omega)).mpr (by omega)
    omega
  · unfold Builtin.Str.tooLong
    have := sizeLine_eq
    simp
    omega
section
variable {X : Cx}
/-- a product, also of a text -/
def uMulT : R2 := fun x y H Q => match x, y with
  | .str i, .int j => (0 ≤ j ∧ j ≤ 1000000 ∧ i.length * j.toNat ≤ 1000000) ∧ Q (.str (Txt.mul i j)) H
  | _, _ => uMul x y H Q
theorem opMulT : OpR X (binaryOp .Mult) uMulT := fun p s z H x y v u Q I rx ry h => by
  unfold uMulT at h
  split at h
  · obtain ⟨⟨h0, h1, h2⟩, q⟩ := h
    obtain ⟨t, rfl⟩ := rx
    obtain ⟨t', rfl⟩ := ry
    exact SB.mul (mul_ok h0 h1 h2) fun t' k => ⟨.str _, H, I.tok k, ⟨_, rfl⟩, q⟩
  · exact opMul p s z H _ _ v u Q I rx ry h

/-! ### calls of built-ins -/
def uLen (K : PySem.W.Frag) : List V → Hp → VK → Prop := fun vs H Q => match vs with
  | [.str y] => y.length ≤ sizeLine ∧ Q (.int y.length) H
  | [.ref p] => ∃ xs, (SqL K H p xs ∨ SqT K H p xs) ∧ Q (.int xs.length) H
  | _ => False
theorem caLen : CallR X (.builtin "len") (uLen X.K) := fun p s z H xs us Q I r h => by
  unfold uLen at h
  split at h
  · exact call_len_str p s z H _ us Q I r ⟨_, rfl, h.1, h.2⟩
  · obtain ⟨ys, h1, h2⟩ := h
    exact call_len_seq p s z H _ us Q I r ⟨_, ys, rfl, h1, h2⟩
  · exact h.elim
def uMax (vs : List V) (H : Hp) (Q : VK) : Prop := match vs with | [.int i, .int j] => Q (.int (max i j)) H | _ => False
theorem caMax (hc : X.calm = true) : CallR X (.builtin "max") uMax := fun p s z H xs us Q I r h => by
  unfold uMax at h
  split at h
  · refine call_max2 hc p s z H _ us Q I r ⟨_, _, rfl, ?_⟩
    rename_i i j
    have e : (if j > i then j else i) = max i j := by omega
    rw [e]; exact h
  · exact h.elim
def uMin (vs : List V) (H : Hp) (Q : VK) : Prop := match vs with | [.int i, .int j] => Q (.int (min i j)) H | _ => False
theorem caMin (hc : X.calm = true) : CallR X (.builtin "min") uMin := fun p s z H xs us Q I r h => by
  unfold uMin at h
  split at h
  · refine call_min2 hc p s z H _ us Q I r ⟨_, _, rfl, ?_⟩
    rename_i i j
    have e : (if j < i then j else i) = min i j := by omega
    rw [e]; exact h
  · exact h.elim
def uAbs (vs : List V) (H : Hp) (Q : VK) : Prop := match vs with | [.int i] => Q (.int i.natAbs) H | _ => False
theorem caAbs : CallR X (.builtin "abs") uAbs := fun p s z H xs us Q I r h => by
  unfold uAbs at h
  split at h
  · refine call_abs p s z H _ us Q I r ⟨_, rfl, ?_⟩
    rename_i i
    have e : (if i < 0 then -i else i) = (i.natAbs : Int) := by omega
    rw [e]; exact h
  · exact h.elim
def uInt (vs : List V) (H : Hp) (Q : VK) : Prop := match vs with | [.int i] => Q (.int i) H | [.bl k] => Q (.int (if k then 1 else 0)) H | _ => False
theorem caInt : CallR X (.type "int") uInt := fun p s z H xs us Q I r h => by
  unfold uInt at h
  split at h
  · exact call_int1 p s z H _ us Q I r (.inl ⟨_, rfl, h⟩)
  · exact call_int1 p s z H _ us Q I r (.inr ⟨_, rfl, h⟩)
  · exact h.elim
def uStr (vs : List V) (H : Hp) (Q : VK) : Prop := match vs with | [.int i] => i.natAbs.log2 < 1920 ∧ Q (.str (toString i)) H | [.str a] => Q (.str a) H | _ => False
theorem caStr : CallR X (.type "str") uStr := fun p s z H xs us Q I r h => by
  unfold uStr at h
  split at h
  · exact call_str_int p s z H _ us Q I r ⟨_, rfl, h.1, h.2⟩
  · exact SkE.call_str_str p s z H _ us Q I r ⟨_, rfl, h⟩
  · exact h.elim
/-- repr of data at any depth: a list or a tuple -/
def uRepr (K : PySem.W.Frag) (vs : List V) (H : Hp) (Q : VK) : Prop := match vs with
  | [.ref a] => ∃ d, Dp K H (.ref a) d ∧ d.showable = true ∧ SeqAt.shaped d = true ∧ d.shown.length ≤ sizeLine ∧ Q (.str d.shown) H
  | _ => False
theorem caRepr (hg : X.A.guards = some []) (hu : X.A.units + 70 < cLine) : CallR X (.builtin "repr") (uRepr X.K) := fun p s z H xs us Q I r h => by
  unfold uRepr at h
  split at h
  · obtain ⟨d, hd, h1, h2, h3, q⟩ := h
    obtain ⟨u, rfl, ru⟩ := L2.vals1 r
    cases (show u = Value.ref _ from ru)
    obtain ⟨as, rd⟩ := Dp.reads I d _ _ hd rfl
    have hdep := SeqAt.depth_of_shaped h2
    refine repr_of_reads' rd h1 (PyData.noDict_hsm (PyData.hasDict_of_canLay d (SeqAt.canLay_of_shaped h2))) hg (by omega) (fun _ _ e => e) (fun h' u tk k => ?_) h3
    exact ⟨.str d.shown, H, I.kept (t' := tk) k, ⟨_, rfl⟩, q⟩
  · exact h.elim
/-- an item by its place -/
def uIx (K : PySem.W.Frag) : R2 := fun x y H Q => match x, y with
  | .str z, .int i => z.length ≤ sizeLine ∧ ∃ c, atI z.cps.toList i = some c ∧ Q (.str ⟨#[c]⟩) H
  | .ref p, .int i => ∃ xs v, (SqL K H p xs ∨ SqT K H p xs) ∧ atI xs i = some v ∧ Q v H
  | _, _ => False
theorem ixU : IxR X (uIx X.K) := fun va sl p s z H x y v u Q I rx ry h hs => by
  unfold uIx at h
  split at h
  · obtain ⟨h1, c, h2, q⟩ := h
    exact ix_str va sl p s z H _ _ v u Q I rx ry ⟨_, _, c, rfl, rfl, h1, h2, q⟩ hs
  · obtain ⟨xs, w, h1 | h1, h2, q⟩ := h
    · exact ix_list va sl p s z H _ _ v u Q I rx ry ⟨_, xs, _, w, rfl, rfl, h1, h2, q⟩ hs
    · exact ix_tup va sl p s z H _ _ v u Q I rx ry ⟨_, xs, _, w, rfl, rfl, h1, h2, q⟩ hs
  · exact h.elim
end

/-! ### the ledger: what a def knows of the heap -/
/-- H0 the heap at the start, D what may change of it; F what stands still, M what may still change, each by its address -/
structure At (H0 : Hp) (D : List Addr) (F M : List (Addr × HO)) (H : Hp) : Prop where
  fr : ∀ a o, H0 a = some o → a ∉ D → H a = some o
  fa : ∀ p ∈ F, H p.1 = some p.2
  mu : ∀ p ∈ M, H p.1 = some p.2
  mf : ∀ p ∈ M, p.1 ∈ D ∨ H0 p.1 = none
  df : ∀ p ∈ M, ∀ q ∈ F, p.1 ≠ q.1
  nd : (M.map (·.1)).Nodup
section
variable {H0 H H' : Hp} {D : List Addr} {F M : List (Addr × HO)} {a p : Addr} {o u : HO}
theorem At.start (H : Hp) : At H [] [] [] H := ⟨fun _ _ h _ => h, fun _ h => absurd h List.not_mem_nil, fun _ h => absurd h List.not_mem_nil, fun _ h => absurd h List.not_mem_nil, fun _ h => absurd h List.not_mem_nil, List.nodup_nil⟩
/-- the dice alone may change -/
theorem At.start1 (h : H a = some o) : At H [a] [] [(a, o)] H := ⟨fun _ _ e _ => e, fun _ h => absurd h List.not_mem_nil, fun p hp => by
  obtain rfl := List.mem_singleton.mp hp
  exact h, fun p hp => .inl (by obtain rfl := List.mem_singleton.mp hp; exact List.mem_singleton.mpr rfl), fun _ _ _ h => absurd h List.not_mem_nil, by simp⟩
theorem At.get (L : At H0 D F M H) (h : (a, o) ∈ F) : H a = some o := L.fa _ h
theorem At.getM (L : At H0 D F M H) (h : (a, o) ∈ M) : H a = some o := L.mu _ h
/-- what is known of an object that doesn't change -/
theorem At.know (L : At H0 D F M H) (h : H a = some o) (hM : a ∉ M.map (·.1)) : At H0 D ((a, o) :: F) M H := ⟨L.fr, fun p hp => by
  rcases List.mem_cons.mp hp with rfl | hp
  · exact h
  · exact L.fa p hp, L.mu, L.mf, fun p hp q hq e => by
  rcases List.mem_cons.mp hq with rfl | hq
  · exact hM (List.mem_map.mpr ⟨p, hp, e⟩)
  · exact L.df p hp q hq e, L.nd⟩
theorem At.new (L : At H0 D F M H) (h : H p = none) : At H0 D ((p, o) :: F) M (upd H p o) := ⟨fun b u e n => by
  have q := L.fr b u e n
  rw [upd_ne (ne_of_none q h)]; exact q, fun q hq => by
  rcases List.mem_cons.mp hq with rfl | hq
  · exact upd_same
  · rw [upd_ne (ne_of_none (L.fa q hq) h)]; exact L.fa q hq, fun q hq => by
  rw [upd_ne (ne_of_none (L.mu q hq) h)]; exact L.mu q hq, L.mf, fun q hq r hr e => by
  rcases List.mem_cons.mp hr with rfl | hr
  · have e2 := L.mu q hq
    rw [show q.1 = p from e, h] at e2
    cases e2
  · exact L.df q hq r hr e, L.nd⟩
theorem At.no0 (L : At H0 D F M H) (hD : ∀ d ∈ D, ∃ u, H d = some u) (h : H p = none) : H0 p = none := by
  cases e : H0 p with
  | none => rfl
  | some u =>
    by_cases hp : p ∈ D
    · obtain ⟨w, e2⟩ := hD p hp
      rw [h] at e2; cases e2
    · rw [L.fr p u e hp] at h; cases h
theorem At.newM (L : At H0 D F M H) (hD : ∀ d ∈ D, ∃ u, H d = some u) (h : H p = none) : At H0 D F ((p, o) :: M) (upd H p o) := ⟨(L.new (o := o) h).fr, fun q hq => (L.new (o := o) h).fa q (List.mem_cons_of_mem _ hq), fun q hq => by
  rcases List.mem_cons.mp hq with rfl | hq
  · exact upd_same
  · exact (L.new (o := o) h).mu q hq, fun q hq => by
  rcases List.mem_cons.mp hq with rfl | hq
  · exact .inr (L.no0 hD h)
  · exact L.mf q hq, fun q hq r hr e => by
  rcases List.mem_cons.mp hq with rfl | hq
  · have e2 := L.fa r hr
    rw [← show p = r.1 from e, h] at e2; cases e2
  · exact L.df q hq r hr e, by
  rw [List.map_cons]
  refine List.nodup_cons.mpr ⟨fun z => ?_, L.nd⟩
  obtain ⟨q, hq, e⟩ := List.mem_map.mp z
  have e2 := L.mu q hq
  rw [show q.1 = p from e, h] at e2; cases e2⟩
/-- the first of M changes -/
theorem At.set (L : At H0 D F ((a, o) :: M) H) (h1 : ∀ b u, H b = some u → b ≠ a → H' b = some u) (h2 : H' a = some u) : At H0 D F ((a, u) :: M) H' := ⟨fun b w e n => h1 b w (L.fr b w e n) (fun z => by
  subst z
  rcases L.mf _ (List.mem_cons_self ..) with z | z
  · exact n z
  · rw [e] at z; cases z), fun q hq => h1 _ _ (L.fa q hq) (fun z => L.df _ (List.mem_cons_self ..) q hq z.symm), fun q hq => by
  rcases List.mem_cons.mp hq with rfl | hq
  · exact h2
  · refine h1 _ _ (L.mu q (List.mem_cons_of_mem _ hq)) fun z => ?_
    have := L.nd
    rw [List.map_cons] at this
    exact (List.nodup_cons.mp this).1 (List.mem_map.mpr ⟨q, hq, z⟩), fun q hq => by
  rcases List.mem_cons.mp hq with rfl | hq
  · exact L.mf (a, o) (List.mem_cons_self ..)
  · exact L.mf q (List.mem_cons_of_mem _ hq), fun q hq r hr => by
  rcases List.mem_cons.mp hq with rfl | hq
  · exact L.df (a, o) (List.mem_cons_self ..) r hr
  · exact L.df q (List.mem_cons_of_mem _ hq) r hr, by have := L.nd; rw [List.map_cons] at this ⊢; exact this⟩
theorem At.upd (L : At H0 D F ((a, o) :: M) H) : At H0 D F ((a, u) :: M) (L2.upd H a u) := L.set (fun b w e n => by rw [upd_ne n]; exact e) upd_same
theorem memSwap {α : Type} {x q r : α} {l : List α} (h : x ∈ r :: q :: l) : x ∈ q :: r :: l := by
  rcases List.mem_cons.mp h with rfl | h
  · exact .tail _ (.head _)
  · rcases List.mem_cons.mp h with rfl | h
    · exact .head _
    · exact .tail _ (.tail _ h)
/-- M in another order -/
theorem At.swap {q r : Addr × HO} (L : At H0 D F (q :: r :: M) H) : At H0 D F (r :: q :: M) H := ⟨L.fr, L.fa, fun x hx => L.mu x (memSwap hx), fun x hx => L.mf x (memSwap hx), fun x hx => L.df x (memSwap hx), by
  have := L.nd
  simp only [List.map_cons, List.nodup_cons, List.mem_cons, not_or] at this ⊢
  exact ⟨⟨fun z => this.1.1 z.symm, this.2.1⟩, this.1.2, this.2.2⟩⟩
/-- the first of M stands still from here on -/
theorem At.still (L : At H0 D F ((a, o) :: M) H) : At H0 D ((a, o) :: F) M H := ⟨L.fr, fun q hq => by
  rcases List.mem_cons.mp hq with rfl | hq
  · exact L.mu _ (List.mem_cons_self ..)
  · exact L.fa q hq, fun q hq => L.mu q (List.mem_cons_of_mem _ hq), fun q hq => L.mf q (List.mem_cons_of_mem _ hq), fun q hq r hr e => by
  rcases List.mem_cons.mp hr with rfl | hr
  · have := L.nd
    rw [List.map_cons] at this
    exact (List.nodup_cons.mp this).1 (List.mem_map.mpr ⟨q, hq, e⟩)
  · exact L.df q (List.mem_cons_of_mem _ hq) r hr e, by have := L.nd; rw [List.map_cons] at this; exact (List.nodup_cons.mp this).2⟩
/-- behind what only adds -/
theorem At.same (L : At H0 D F M H) (h : ∀ b u, H b = some u → H' b = some u) : At H0 D F M H' := ⟨fun b w e n => h _ _ (L.fr b w e n), fun q hq => h _ _ (L.fa q hq), fun q hq => h _ _ (L.mu q hq), L.mf, L.df, L.nd⟩
/-- forget -/
theorem At.less {F' : List (Addr × HO)} (L : At H0 D F M H) (h : ∀ p ∈ F', p ∈ F) : At H0 D F' M H := ⟨L.fr, fun q hq => L.fa q (h q hq), L.mu, L.mf, fun q hq r hr => L.df q hq r (h r hr), L.nd⟩
end
end U

/-! U3: promises of defs that are called where no repr is under way (repr of a list asks for that). -/
namespace U
open PySem PySem.Spec PyProof.Rows L2
/-- a def's promise, wherever no repr is under way -/
structure FnG (P : Program) (w : World) (K : PySem.W.Frag) (mg : Str → Option Value) (base : Heap) (CX : CXT) (k : Nat) (f : Addr) (fd : FuncData) (ps : List Str) (sp : Sp) : Prop where
  len : ∀ vs H Q E, sp vs H Q E → vs.length = ps.length
  run : ∀ (A : Around) (outer : List Env) (s : Shared) (H : Hp) (args : Args) (us : List Value) (vs : List V) (Q : VK) (E : XK), A.guards = some [] → Room k A → Env0 P w K mg base A outer s H → BindsTo s fd args (ps.zip us) → Vals vs us →
    sp vs H Q E → codeAny (model P w) A (.call (.ref f) args) (CR CX outer P w H s Q E) s
section
variable {P : Program} {w : World} {K : PySem.W.Frag} {mg : Str → Option Value} {base : Heap} {CX : CXT} {k j : Nat} {f : Addr} {fd : FuncData} {ps N : List Str} {sp : Sp} {st : Stmt} {nm qual : Str}
theorem FnG.of (F : FnOk P w K mg base CX k f fd ps sp) : FnG P w K mg base CX k f fd ps sp := ⟨F.len, fun A o s H ar us vs Q E _ => F.run A o s H ar us vs Q E⟩
theorem FnG.mono (F : FnG P w K mg base CX j f fd ps sp) (h : j ≤ k) : FnG P w K mg base CX k f fd ps sp := ⟨F.len, fun A o s H ar us vs Q E g r => F.run A o s H ar us vs Q E g (r.mono h)⟩
/-- a def by its body, where no repr is under way -/
theorem okG (F : Fun K nm qual st f fd) (S : FnScope N ps (defScope st)) (len : ∀ vs H Q E, sp vs H Q E → vs.length = ps.length)
    (body : ∀ (cdv : Value) (A : Around) (outer : List Env) (s : Shared) (H : Hp) (vs : List V) (Q : VK) (E : XK), A.guards = some [] → Room k (A.deeper (envOfC qual (defScope st) s.heap.objs.size f cdv)) → sp vs H Q E →
      ∃ t, PSs (cxOf CX P w K mg base N qual (defScope st) f cdv A outer s H E) (defBody st) t ∧ t { nx := fun _ H' => Q .non H', rt := Q } (start N vs) H) : FnG P w K mg base CX (k + 1) f fd ps sp := by
  obtain ⟨oc, od, kV, doc, pm, an, cdv, ct, osl, rfl, lk, hcd⟩ := F.ex
  refine ⟨len, fun A outer s H args us vs Q E hg hr e0 hb r hsp => ?_⟩
  have kin : K.In s.heap := e0.mod.kin.keeps fun b o z => (e0.bs b o z).1
  have nol : s.heap.NoLimit := e0.mod.nolimit.keeps fun b o z => (e0.bs b o z).1
  refine codeAny_call_function hr.depth (kin _ _ lk) rfl S.co S.gen rfl (PySem.W.codeRec_of kin hcd) (hb _ _ _ _ ?_)
  refine wpAny_newFunctionEnv_cells S.kind (fun ⟨n, v⟩ hy => (S.par n (List.of_mem_zip hy).1).elim .inl fun q => .inr ⟨q, PySem.W.cellsFrom_some _ _ _ (.inl q)⟩) fun env he s1 x => ?_
  subst he
  refine ⟨nol.keeps x.toInCall.keep, codeAny_func ?_⟩
  obtain ⟨t, ht, hq⟩ := body cdv A outer s H vs Q E hg (hr.deeper _) hsp
  have I0 := inv_start (CX := CX) (E := E) S hr.hd e0 (len _ _ _ _ hsp) r x
  refine wpAny_mono (ht.run [] s1 _ H _ I0 hq) (fun fl s' hs => ?_) fun e s' hs => hs
  cases fl with
  | ret u => exact let ⟨v, _, H', J, rv, q⟩ := hs; ⟨v, H', J.os, J.bare, J.base, J.hok, rv, q⟩
  | next => exact let ⟨_, H', J, q⟩ := hs; ⟨V.non, H', J.os, J.bare, J.base, J.hok, rfl, q⟩
  | brk => exact let ⟨_, _, _, q⟩ := hs; False.elim q
  | cont => exact let ⟨_, _, _, q⟩ := hs; False.elim q
end
section
variable {X : Cx} {CX : CXT} {k : Nat} {f : Addr} {fd : FuncData} {ps : List Str} {sp : Sp} {dvs : List V} {ds : List Value} {E : XK} {x : Str} {p pos : Pos} {e : Expr} {es : List Expr} {t : TA}
theorem runG {pins : List (Addr × Obj)} {σ : L2.St} {H : Hp} {s : Shared} {Q : VK} {us : List Value} {vs : List V} (F : FnG X.prog X.w X.K X.mg X.base CX k f fd ps sp) (hg : X.A.guards = some []) (hr : Room k X.A) (hb : Binds X.K fd ps ds) (hd : Vals dvs ds) (hx : Passes CX X E)
    (I : Inv X pins σ H s) (r : Vals vs us) (h : sp (vs ++ dvs) H Q E) : wpAny (model X.prog X.w) X.A (call (.ref f) us) (EP X pins σ Q) X.xe s := by
  have r2 : Vals (vs ++ dvs) (us ++ ds) := r.append hd
  refine wpAny_call (codeAny_mono (F.run X.A X.stack s H ⟨us, []⟩ (us ++ ds) (vs ++ dvs) Q E hg hr I.env0 (hb s us I.kIn (by rw [← r2.length]; exact F.len _ _ _ _ h)) r2 h) fun r s' hq => ?_)
  match r, hq with
  | .error e, hq => exact hx pins σ H s e s' I hq
  | .ok (.ret u), hq => exact I.after hq
  | .ok .next, hq => exact False.elim hq
  | .ok .brk, hq => exact False.elim hq
  | .ok .cont, hq => exact False.elim hq
theorem peG (F : FnG X.prog X.w X.K X.mg X.base CX k f fd ps sp) (hg : X.A.guards = some []) (hr : Room k X.A) (hn : Gl X x) (hm : X.mg x = some (.ref f)) (hk : PySem.W.keepIn X.K (.ref f) = true) (hb : Binds X.K fd ps ds) (hd : Vals dvs ds) (hx : Passes CX X E)
    (ha : PA X (e :: es) t) (hdb : (x == ("__debug__" : Str)) = false := by decide) (he : starEach (e :: es) X.env = (false, eval e X.env) :: starEach es X.env := by rfl) (hpl : (backTo pos (starEach es X.env)).any (·.1) = false := by rfl) :
    PE X (.Call (.Name x p) (e :: es) [] pos) (tCall sp dvs E t) := ⟨fun pins s σ H Q I h => wpAny_Call_Name_kw (ld_glob I hn hm (PySem.W.callWith_K (h₀ := X.base) I.ok.mod.kin hk
      (thn (ha.run pos pins s σ H _ I h) fun us s1 ⟨vs, H1, I1, r, q⟩ => ⟨I1.kIn, runG F hg hr hb hd hx I1 r q⟩) he hpl) hdb)⟩
end
/-! ### the law's own call -/
section
open PySem.W
theorem scriptH {P : Program} {w : World} {K : Frag} {s : Shared} {a : Addr} {vs : List Value} {ns : List Int} (KX : K.In s.heap) (ha : s.heap.get? a = some { cls := .type "list", data := .seq vs.toArray }) (hi : IntsAre vs ns) (hl : ns.length ≤ sizeLine) :
    ∃ H : Hp, Only H ∧ SqL K H a (ns.map V.int) ∧ HOk P w H s.heap ∧ (∀ b, H b ≠ none → b = a) ∧ (H a ≠ none → K.lookup a = none) := by
  have rv := vals_ints hi
  have lv : vs.length = ns.length := hi.length
  cases e : K.lookup a with
  | some o =>
    obtain rfl : o = _ := Option.some.inj ((KX a o e).symm.trans ha)
    exact ⟨fun _ => none, fun _ => .inl rfl, .inr ⟨_, vs.toArray, _, e, rfl, rfl, rfl, by rw [List.size_toArray, lv]; exact hl, by simpa using rv⟩, fun b u z => absurd (show (none : Option HO) = some u from z) (fun q => nomatch q), fun b z => absurd rfl z, fun z => absurd rfl z⟩
  | none =>
    refine ⟨fun b => if b = a then some (.frz { cls := .type "list", data := .seq vs.toArray } (.lst (ns.map V.int))) else none, fun b => ?_, .inl (.inr ⟨_, if_pos rfl⟩), fun b u z => ?_, fun b z => ?_, fun _ => rfl⟩
    · by_cases h : b = a
      · exact .inr ⟨_, _, if_pos h⟩
      · exact .inl (if_neg h)
    · by_cases h : b = a
      · subst h
        obtain rfl := Option.some.inj ((if_pos rfl).symm.trans z)
        exact ⟨ha, by rw [List.length_map]; exact hl, vs, _, rv, ha⟩
      · exact nomatch (if_neg h).symm.trans z
    · by_cases h : b = a
      · exact h
      · exact absurd (if_neg h) z
theorem lawG {P : Program} {w : World} {K : Frag} {mg mb : Str → Option Value} {CX : CXT} {k : Nat} {fa a : Addr} {fd : FuncData} {x : Str} {sp : Sp} {s : Shared} {vs : List Value} {ns : List Int}
    (KX : K.In s.heap) (hns : s.heap.Ns mainGlobals mg) (hb : s.heap.Ns builtinsNs mb) (hbb : ∀ y : Str, y ≠ "__name__" → mb y = bootBuiltins y) (hlim : s.heap.NoLimit) (hgn : s.gens = #[])
    (ha : s.heap.get? a = some { cls := .type "list", data := .seq vs.toArray }) (hi : IntsAre vs ns) (hl : ns.length ≤ sizeLine) (hr : Room k callerA)
    (F : ∀ base : Heap, K.In base → base.Ns mainGlobals mg → FnG P w K mg base CX k fa fd [x] sp) (hbind : ∀ (s : Shared) (u : Value), BindsTo s fd ⟨[u], []⟩ [(x, u)])
    (hsp : ∀ H : Hp, Only H → SqL K H a (ns.map V.int) → sp [.ref a] H (fun v _ => v = .bl true) fun _ _ _ => False) (hCX : ∀ H e s', CX [] H s (fun _ _ _ => False) e s' → False) :
    codeAny (model P w) callerA (.call (.ref fa) ⟨[.ref a], []⟩) (fun r s' => r = .ok (.ret (.bool true)) ∧ OldK s.heap s'.heap ∧ s'.os = s.os ∧ AllBare s'.gens) s := by
  obtain ⟨H, hO, hS, hok, hA, hK⟩ := scriptH (P := P) (w := w) KX ha hi hl
  have keep : ∀ {b : Addr} {o : Obj}, s.heap.get? b = some o → H b = none → (hidT s.heap H).get? b = some o := fun e n => hidT_get e n
  have free : ∀ {b : Addr}, b ≠ a → H b = none := fun {b} h => Classical.byContradiction fun z => h (hA b z)
  have kIn : K.In (hidT s.heap H) := fun b o e => keep (KX b o e) (Classical.byContradiction fun z => by
    obtain rfl := hA b z
    rw [hK z] at e; cases e)
  have nsIn : ∀ {b : Addr} {m : Str → Option Value}, s.heap.Ns b m → (hidT s.heap H).Ns b m := fun {b m} ⟨o, es, ep, e, d, r⟩ => ⟨o, es, ep, keep e (free fun z => by
    subst z
    rw [ha] at e; cases e; cases d), d, r⟩
  have M : Mod K mg (hidT s.heap H) := ⟨kIn, nsIn hns, ⟨mb, nsIn hb, hbb⟩, let ⟨mc, h1, h2⟩ := hlim; ⟨mc, nsIn h1, h2⟩⟩
  refine codeAny_mono ((F _ kIn (nsIn hns)).run callerA [] s H ⟨[.ref a], []⟩ [.ref a] [.ref a] _ _ rfl hr ⟨rfl, M, fun b o e => of_hidT e, Nat.le_of_eq (hidT_size _ _), trivial, fun b z => absurd (show b ∈ ([] : List Addr) from z) List.not_mem_nil, hok, .of_eq hgn⟩ (hbind s (.ref a)) (.cons rfl .nil) (hsp H hO hS)) fun r s' h => ?_
  match r, h with
  | .error e, h => exact (hCX H e s' h).elim
  | .ok .next, h => exact False.elim h
  | .ok .brk, h => exact False.elim h
  | .ok .cont, h => exact False.elim h
  | .ok (.ret u), ⟨v, H', os, bare, un, hok', r', q⟩ =>
    obtain rfl : v = .bl true := q
    obtain rfl : u = Value.bool true := r'
    refine ⟨rfl, OldK.of_keep fun b o e => ?_, os, bare⟩
    cases q : H b with
    | none => exact un.keep b o e q (fun z => absurd (show b ∈ ([] : List Addr) from z) List.not_mem_nil) List.not_mem_nil
    | some u =>
      rcases hO b with z | ⟨ob, xs, z⟩
      · rw [q] at z; cases z
      · have e1 := (hok b _ z).1
        have e2 := (hok' b _ (un.frzs b ob _ z)).1
        rw [e] at e1; cases e1
        exact e2
theorem walkG {l : OpenLaw} {n k : Nat} {q : Program} {loose : List Str} {XP : (Str → Option Value) → Heap → Prop} {YP : World → Heap → Prop} {d : DefRec} {K : Params → Frag} {sp : Frag → Sp} {x : Str}
    (hn : l.most = some n) (hn2 : n ≤ sizeLine) (hdf : d.params.defaults = []) (hr : Room k callerA) (hY : ∀ (w : World) (h : Heap), YP w h → (K w.params).In h)
    (F : ∀ (w : World) (mg : Str → Option Value) (fa : Addr) (h : Heap), (K w.params).In h → h.Ns mainGlobals mg → mg d.name = some (.ref fa) →
      ∃ fd : FuncData, (∀ (s : Shared) (u : Value), BindsTo s fd ⟨[u], []⟩ [(x, u)]) ∧ ∀ base : Heap, (K w.params).In base → base.Ns mainGlobals mg → FnG l.prog w (K w.params) mg base CX0 k fa fd [x] (sp (K w.params)))
    (hsp : ∀ (K : Frag) (H : Hp) (a : Addr) (ns : List Int), ns.length ≤ n → (∀ z ∈ ns, Builtin.Int.intBits z ≤ 1048576) → Only H → SqL K H a (ns.map V.int) → sp K [.ref a] H (fun v _ => v = .bl true) fun _ _ _ => False) :
    WalkO q loose XP YP l.row.toRowW d [] (fun f vs => PySem.call f vs) :=
  Att.attach_callB hn hdf fun w _ s mg mb fa o pm cd doc a vs ns G Y ho hd hcd hmg hobj hints hlen hbits hg =>
    let ⟨fd, hb, hF⟩ := F w mg fa _ (hY w _ Y) G.T.g hmg
    lawG (hY w _ Y) G.T.g G.T.b G.T.builtins G.T.nolimit hg hobj hints (Nat.le_trans hlen hn2) hr hF hb (fun H hO hS => hsp _ H a ns hlen hbits hO hS) fun _ _ _ z => z
end
end U

namespace U
open PySem PySem.Spec PyProof.Rows L2
theorem hu64 {k : Nat} {A : Around} (h : Room k A) : A.units + 64 < cLine := h.units
theorem hu70 {k : Nat} {A : Around} (h : Room k A) : A.units + 70 < cLine := by have := h.un; omega
section
variable {X : Cx}
theorem caAll (hc : X.calm = true) : CallR X (.builtin "all") (rAll X.K) := cr_all hc
/-- a slice of a text or a list -/
def uSl (K : PySem.W.Frag) : V → Option Int → Option Int → Hp → VK → Prop := fun x lo hi H Q => match x with
  | .str z => z.length ≤ sizeLine ∧ Q (.str (Txt.slice z lo hi)) H
  | _ => rSlL K x lo hi H Q
end
theorem walkO {l : PySem.W.OpenLaw} {n k : Nat} {q : Program} {loose : List Str} {XP : (Str → Option Value) → Heap → Prop} {YP : World → Heap → Prop} {d : DefRec} {K : Params → PySem.W.Frag} {sp : PySem.W.Frag → Sp} {x : Str}
    (hn : l.most = some n) (hn2 : n ≤ sizeLine) (hdf : d.params.defaults = []) (hr : Room k callerA) (hY : ∀ (w : World) (h : Heap), YP w h → (K w.params).In h)
    (F : ∀ (w : World) (mg : Str → Option Value) (fa : Addr) (h : Heap), (K w.params).In h → h.Ns mainGlobals mg → mg d.name = some (.ref fa) →
      ∃ fd : FuncData, (∀ (s : Shared) (u : Value), BindsTo s fd ⟨[u], []⟩ [(x, u)]) ∧ ∀ base : Heap, (K w.params).In base → base.Ns mainGlobals mg → FnOk l.prog w (K w.params) mg base CX0 k fa fd [x] (sp (K w.params)))
    (hsp : ∀ (K : PySem.W.Frag) (H : Hp) (a : Addr) (ns : List Int), ns.length ≤ n → (∀ z ∈ ns, Builtin.Int.intBits z ≤ 1048576) → Only H → SqL K H a (ns.map V.int) → sp K [.ref a] H (fun v _ => v = .bl true) fun _ _ _ => False) :
    PySem.W.WalkO q loose XP YP l.row.toRowW d [] (fun f vs => PySem.call f vs) :=
  walkG hn hn2 hdf hr hY (fun w mg fa h a b c => let ⟨fd, h1, h2⟩ := F w mg fa h a b c; ⟨fd, h1, fun base e g => .of (h2 base e g)⟩) hsp
/-- what a dice list holds: the rest of a great cell, a seed, how often it was rolled -/
def Dice (n : Nat) (o : HO) : Prop := ∃ a b c : Int, o = .lst [.int a, .int b, .int c] ∧ (0 ≤ a ∧ a < 2 ^ 500) ∧ (0 ≤ b ∧ b < 2 ^ 80) ∧ (0 ≤ c ∧ c ≤ n)
theorem Dice.up {n m : Nat} {o : HO} (h : Dice n o) (l : n ≤ m) : Dice m o := by
  obtain ⟨a, b, c, e, h1, h2, h3⟩ := h
  exact ⟨a, b, c, e, h1, h2, by omega⟩
theorem mulW {i j : Int} (a b : Nat) (ha : i.natAbs < 2 ^ a) (hb : j.natAbs < 2 ^ b) (h0 : 0 < a := by decide) (h1 : 0 < b := by decide) (h : a + b ≤ 1000000 := by decide) : CMulW i j := wide_mul ha hb h0 h1 h
theorem divW {i j : Int} (b : Nat) (h : 0 < j) (hb : j.natAbs < 2 ^ b) (h0 : 0 < b := by decide) (h9 : b ≤ 9000 := by decide) : CDivW i j := wide_div h hb h0 h9
theorem abs_lt {i : Int} {n : Nat} (h0 : 0 ≤ i) (h : i < 2 ^ n) : i.natAbs < 2 ^ n := by
  have e : ((i.natAbs : Nat) : Int) = i := by omega
  have : ((i.natAbs : Nat) : Int) < ((2 ^ n : Nat) : Int) := by rw [e]; push_cast; exact h
  exact Int.ofNat_lt.mp this
end U
namespace U
open PySem PySem.Spec PyProof.Rows L2
section
variable {K : PySem.W.Frag} {H H' : Hp} {p d : Addr} {xs : List V}
theorem rdKeep {u : HO} (h : ∀ b u, H b = some u → b ≠ d → H' b = some u) (ne : p ≠ d) (r : Rd H p u) : Rd H' p u := r.elim (fun e => .inl (h _ _ e ne)) fun ⟨o, e⟩ => .inr ⟨o, h _ _ e ne⟩
theorem sqlKeep (h : ∀ b u, H b = some u → b ≠ d → H' b = some u) (ne : p ≠ d) (r : SqL K H p xs) : SqL K H' p xs := r.elim (fun e => .inl (rdKeep h ne e)) .inr
theorem sqtKeep (h : ∀ b u, H b = some u → b ≠ d → H' b = some u) (ne : p ≠ d) (r : SqT K H p xs) : SqT K H' p xs := r.elim (fun e => .inl (rdKeep h ne e)) .inr
theorem sqlSame (h : ∀ b u, H b = some u → H' b = some u) (r : SqL K H p xs) : SqL K H' p xs := r.elim (fun e => .inl (e.elim (fun e => .inl (h _ _ e)) fun ⟨o, e⟩ => .inr ⟨o, h _ _ e⟩)) .inr
theorem sqtSame (h : ∀ b u, H b = some u → H' b = some u) (r : SqT K H p xs) : SqT K H' p xs := r.elim (fun e => .inl (e.elim (fun e => .inl (h _ _ e)) fun ⟨o, e⟩ => .inr ⟨o, h _ _ e⟩)) .inr
theorem atI_lt {α : Type} {xs : List α} {i : Int} (h0 : 0 ≤ i) (h : i < xs.length) : ∃ v, v ∈ xs ∧ atI xs i = some v := by
  obtain ⟨j, rfl⟩ := Int.eq_ofNat_of_zero_le h0
  have hj : j < xs.length := by omega
  exact ⟨xs[j], List.getElem_mem hj, atI_nat (by simp [hj])⟩
/-- what is picked from: a text's signs, or the items of a list or tuple -/
def PickOf (K : PySem.W.Frag) (H : Hp) (d : Addr) (x : V) (L : List V) : Prop :=
  (∃ z, x = .str z ∧ z.length ≤ 100000 ∧ L = z.cps.toList.map fun c => V.str ⟨#[c]⟩) ∨ ∃ p, x = .ref p ∧ p ≠ d ∧ (SqL K H p L ∨ SqT K H p L)
theorem small_ok {n : Nat} (h : n ≤ 1000000) : n ≤ sizeLine := by have := sizeLine_eq; omega
theorem small_lt {n : Nat} (h : n ≤ 1000000) : n < sizeLine := by have := sizeLine_eq; omega
end
end U
namespace U
open PySem PySem.Spec PyProof.Rows L2
def kinds : List String := ["NoneType", "bool", "int", "str", "list", "tuple", "dict"]
/-- a value of a built-in kind -/
def Kd (K : PySem.W.Frag) (H : Hp) (v : V) (T : String) : Prop := TyX K H v (.type T) ∧ T ∈ kinds
theorem kd_int {T : String} (h : T ∈ kinds) : kitB T "int" = some (T == "int" || T == "bool") := by
  have e : (kinds.all fun T => decide (kitB T "int" = some (T == "int" || T == "bool"))) = true := by decide +kernel
  exact of_decide_eq_true (List.all_eq_true.mp e T h)
theorem kd_bool {T : String} (h : T ∈ kinds) : kitB T "bool" = some (T == "bool") := by
  have e : (kinds.all fun T => decide (kitB T "bool" = some (T == "bool"))) = true := by decide +kernel
  exact of_decide_eq_true (List.all_eq_true.mp e T h)
theorem kd_str {T : String} (h : T ∈ kinds) : kitB T "str" = some (T == "str") := by
  have e : (kinds.all fun T => decide (kitB T "str" = some (T == "str"))) = true := by decide +kernel
  exact of_decide_eq_true (List.all_eq_true.mp e T h)
theorem kd_tuple {T : String} (h : T ∈ kinds) : kitB T "tuple" = some (T == "tuple") := by
  have e : (kinds.all fun T => decide (kitB T "tuple" = some (T == "tuple"))) = true := by decide +kernel
  exact of_decide_eq_true (List.all_eq_true.mp e T h)
theorem kd_dict {T : String} (h : T ∈ kinds) : kitB T "dict" = some (T == "dict") := by
  have e : (kinds.all fun T => decide (kitB T "dict" = some (T == "dict"))) = true := by decide +kernel
  exact of_decide_eq_true (List.all_eq_true.mp e T h)
section
variable {K : PySem.W.Frag} {H : Hp} {v : V} {T : String}
theorem ty_of {t : Value} (h : TyX K H v t) : (t = .type "int" → ∃ i, v = .int i) ∧ (t = .type "bool" → ∃ i, v = .bl i) ∧ (t = .type "str" → ∃ i, v = .str i) := by
  cases h with
  | base b => cases b <;> simp
  | _ => simp
theorem ty_to {t : Value} (h : TyX K H v t) : (∀ i, v = .int i → t = .type "int") ∧ (∀ i, v = .bl i → t = .type "bool") ∧ (∀ i, v = .str i → t = .type "str") := by
  cases h with
  | base b => cases b <;> simp
  | _ => simp
theorem Kd.isInt (h : Kd K H v "int") : ∃ i, v = .int i := (ty_of h.1).1 rfl
theorem Kd.isBool (h : Kd K H v "bool") : ∃ i, v = .bl i := (ty_of h.1).2.1 rfl
theorem Kd.isStr (h : Kd K H v "str") : ∃ i, v = .str i := (ty_of h.1).2.2 rfl
theorem Kd.ofInt {i : Int} (h : Kd K H (.int i) T) : T = "int" := Value.type.inj ((ty_to h.1).1 i rfl)
theorem Kd.ofBool {i : Bool} (h : Kd K H (.bl i) T) : T = "bool" := Value.type.inj ((ty_to h.1).2.1 i rfl)
theorem Kd.ofStr {i : Str} (h : Kd K H (.str i) T) : T = "str" := Value.type.inj ((ty_to h.1).2.2 i rfl)
theorem Kd.int (i : Int) : Kd K H (.int i) "int" := ⟨.base (.int i), by decide⟩
theorem Kd.str (i : Str) : Kd K H (.str i) "str" := ⟨.base (.str i), by decide⟩
theorem Kd.bl (i : Bool) : Kd K H (.bl i) "bool" := ⟨.base (.bl i), by decide⟩
theorem Kd.non : Kd K H .non "NoneType" := ⟨.base .non, by decide⟩
theorem Kd.lst {a : Addr} {xs : List V} (h : H a = some (.lst xs)) : Kd K H (.ref a) "list" := ⟨.base (.lst h), by decide⟩
theorem Kd.tup {a : Addr} {xs : List V} (h : H a = some (.tup xs)) : Kd K H (.ref a) "tuple" := ⟨.base (.tup h), by decide⟩
theorem Kd.dK {a : Addr} {xs : List (Key × V)} (h : H a = some (.dK xs)) : Kd K H (.ref a) "dict" := ⟨.base (.dK h), by decide⟩
end
end U

namespace U
open PySem PySem.Spec PyProof.Rows L2
/-! ### texts as lists of signs -/
def stripL (p : Nat → Bool) (l : List Nat) : List Nat := (((l.dropWhile p).reverse.dropWhile p)).reverse
theorem drop_tw {α : Type} (p : α → Bool) (l : List α) : l.drop (l.takeWhile p).length = l.dropWhile p := by
  have h := List.takeWhile_append_dropWhile (p := p) (l := l)
  conv => lhs; rw [← h]
  rw [h]
  have e : (l.takeWhile p ++ l.dropWhile p).drop (l.takeWhile p).length = l.dropWhile p := List.drop_left
  rw [h] at e
  exact e
theorem take_tw {α : Type} (p : α → Bool) (m : List α) : m.take (m.length - (m.reverse.takeWhile p).length) = (m.reverse.dropWhile p).reverse := by
  have h := drop_tw p m.reverse
  rw [← h, List.drop_reverse, List.reverse_reverse]
theorem strip_list (p : Nat → Bool) (x : Str) : (Txt.stripBy p true true x).cps.toList = stripL p x.cps.toList := by
  rw [stripBy_eq, StrLaws.strSub_toList]
  have e1 : stripLo p true x = (x.cps.toList.takeWhile p).length := rfl
  have e2 : ∀ lo, stripHi p true x lo = x.length - ((x.cps.toList.drop lo).reverse.takeWhile p).length := fun _ => rfl
  rw [e2, e1, drop_tw]
  have el : x.length = x.cps.toList.length := by simp [Str.length]
  have hd : (x.cps.toList.dropWhile p).length = x.cps.toList.length - (x.cps.toList.takeWhile p).length := by rw [← drop_tw, List.length_drop]
  unfold stripL
  rw [← take_tw, hd, el]
  congr 1
  omega
theorem dw_nil {α : Type} {p : α → Bool} : ∀ {l : List α}, l.dropWhile p = [] ↔ ∀ c ∈ l, p c = true
  | [] => by simp
  | a :: l => by
    rw [List.dropWhile_cons]
    by_cases h : p a = true
    · rw [if_pos h, dw_nil]
      simp [h]
    · rw [if_neg h]
      simp [h]
theorem stripL_nil {p : Nat → Bool} {l : List Nat} : stripL p l = [] ↔ ∀ c ∈ l, p c = true := by
  unfold stripL
  rw [List.reverse_eq_nil_iff, dw_nil]
  constructor
  · intro h c hc
    by_cases hp : p c = true
    · exact hp
    · have hm : c ∈ l.dropWhile p := by
        have e := List.takeWhile_append_dropWhile (p := p) (l := l)
        rw [← e] at hc
        rcases List.mem_append.mp hc with z | z
        · exact absurd (List.all_eq_true.mp List.all_takeWhile c z) hp
        · exact z
      exact h c (List.mem_reverse.mpr hm)
  · intro h c hc
    exact h c ((List.dropWhile_sublist p).subset (List.mem_reverse.mp hc))
theorem stripL_keep {p : Nat → Bool} {l : List Nat} (h : ∀ c ∈ l, p c = false) : stripL p l = l := by
  have e : ∀ m : List Nat, (∀ c ∈ m, p c = false) → m.dropWhile p = m := fun m hm => by
    cases m with
    | nil => rfl
    | cons a m => rw [List.dropWhile_cons, if_neg (by rw [hm a (List.mem_cons_self ..)]; decide)]
  unfold stripL
  rw [e l h, e _ (fun c hc => h c (List.mem_reverse.mp hc)), List.reverse_reverse]
theorem str_nil {x : Str} : x = Str.ofString "" ↔ x.cps.toList = [] := by
  constructor
  · intro h; rw [h]; rfl
  · intro h
    have : x.cps = #[] := by
      apply Array.ext'
      rw [h]
    cases x
    simp only at this
    rw [this]; rfl
/-! ### digits -/
theorem digits_are (m : Nat) : ∀ c ∈ (Nat.toDigits 10 m).map Char.toNat, 48 ≤ c ∧ c ≤ 57 := by
  intro c hc
  obtain ⟨ch, hch, e⟩ := List.mem_map.mp hc
  have r := PyProof.Rows.digit_range (Nat.isDigit_of_mem_toDigits (by decide) (by decide) hch)
  rw [← e]
  exact r
theorem num_list (n : Int) : (Str.ofString (toString n)).cps.toList = (if n < 0 then [45] else []) ++ (Nat.toDigits 10 n.natAbs).map Char.toNat := by
  cases n with
  | ofNat m =>
    rw [if_neg (by simp)]
    exact PySem.W.KIN.signs_num m
  | negSucc m =>
    rw [if_pos (by omega)]
    have e : toString (Int.negSucc m) = "-" ++ toString ((m + 1 : Nat) : Int) := rfl
    rw [e]
    have h2 := PySem.W.KIN.signs_num (m + 1)
    rw [PyProof.Rows.signs_ofString] at h2 ⊢
    rw [String.toList_append, List.map_append, h2]
    rfl
/-- the length of an integer's text without its sign -/
theorem let_len (n : Int) : (Txt.stripChars (Str.ofString (toString n)) (Str.ofString "-")).length < 61 ↔ n.natAbs < 10 ^ 60 := by
  have el : ∀ x : Str, x.length = x.cps.toList.length := fun x => by simp [Str.length]
  rw [el]
  unfold Txt.stripChars
  rw [strip_list, num_list]
  have hp : ∀ c, (Str.ofString "-").cps.contains c = decide (c = 45) := fun c => by
    show (#[45] : Array Nat).contains c = _
    simp [eq_comm]
  have hk : stripL (fun c => (Str.ofString "-").cps.contains c) ((if n < 0 then [45] else []) ++ (Nat.toDigits 10 n.natAbs).map Char.toNat) = (Nat.toDigits 10 n.natAbs).map Char.toNat := by
    have hd : ∀ c ∈ (Nat.toDigits 10 n.natAbs).map Char.toNat, (Str.ofString "-").cps.contains c = false := fun c hc => by
      have := digits_are _ c hc
      rw [hp]
      exact decide_eq_false (by omega)
    by_cases h : n < 0
    · rw [if_pos h]
      have e : stripL (fun c => (Str.ofString "-").cps.contains c) ([45] ++ (Nat.toDigits 10 n.natAbs).map Char.toNat) = stripL (fun c => (Str.ofString "-").cps.contains c) ((Nat.toDigits 10 n.natAbs).map Char.toNat) := by
        unfold stripL
        rw [List.singleton_append, List.dropWhile_cons, if_pos (by rw [hp]; rfl)]
      rw [e, stripL_keep hd]
    · rw [if_neg h, List.nil_append, stripL_keep hd]
  have hk' : stripL (Str.ofString "-").cps.contains ((if n < 0 then [45] else []) ++ (Nat.toDigits 10 n.natAbs).map Char.toNat) = _ := hk
  rw [hk', List.length_map]
  have := Nat.length_toDigits_le_iff (b := 10) (n := n.natAbs) (k := 60) (by decide) (by decide)
  omega
theorem num_fits {n : Int} (h : n.natAbs < 2 ^ 1900) : n.natAbs.log2 < 1920 := Nat.lt_of_lt_of_le (PySem.Flt.log2_lt_of (by decide) h) (by decide)
theorem num_len {n : Int} (h : n.natAbs < 2 ^ 1900) : (Str.ofString (toString n)).length ≤ sizeLine := int_text_fits (num_fits h)
end U
namespace U
open PySem PySem.Spec PyProof.Rows L2
section
variable {H0 H H' : Hp} {D : List Addr} {F M M' : List (Addr × HO)}
theorem At.lessM (L : At H0 D F M H) (h : List.Sublist M' M) : At H0 D F M' H := ⟨L.fr, L.fa, fun q hq => L.mu q (h.subset hq), fun q hq => L.mf q (h.subset hq), fun q hq => L.df q (h.subset hq), L.nd.sublist (h.map _)⟩
/-- the second of M changes -/
theorem At.set2 {a b : Addr} {o u v : HO} (L : At H0 D F ((b, v) :: (a, o) :: M) H) (h1 : ∀ c w, H c = some w → c ≠ a → H' c = some w) (h2 : H' a = some u) : At H0 D F ((b, v) :: (a, u) :: M) H' := (L.swap.set h1 h2).swap
end
theorem mul_len (x : Str) (n : Int) (h0 : 0 ≤ n) : (Txt.mul x n).length = n.toNat * x.length := by
  have el : ∀ y : Str, y.length = y.cps.toList.length := fun y => by simp [Str.length]
  rw [el, mul_list x n h0, List.length_flatten, List.map_replicate, List.sum_replicate_nat, el]
end U
namespace U
open PySem PySem.Spec PyProof.Rows L2
theorem At.fresh {H H' : Hp} {p : Addr} {o : HO} (s : ∀ b u, H b = some u → H' b = some u) (h : H p = none) (h' : H' p = some o) : At H [] [] [(p, o)] H' := ⟨fun b u e _ => s b u e, fun _ z => absurd z List.not_mem_nil, fun q hq => by
  obtain rfl := List.mem_singleton.mp hq
  exact h', fun q hq => by
  obtain rfl := List.mem_singleton.mp hq
  exact .inr h, fun _ _ _ z => absurd z List.not_mem_nil, by simp⟩
theorem no_dead {H' : Hp} : ∀ e ∈ ([] : List Addr), ∃ u, H' e = some u := fun _ h => absurd h List.not_mem_nil
theorem At.all {H H' : Hp} {F M : List (Addr × HO)} (L : At H [] F M H') : ∀ b u, H b = some u → H' b = some u := fun b u e => L.fr b u e List.not_mem_nil
end U

/-! U6: own classes: operators, comparisons, str, isinstance. -/
namespace U
open PySem PySem.Spec PyProof.Rows L2
/-- a heap that has grown -/
abbrev Gr (H H' : Hp) : Prop := ∀ b u, H b = some u → H' b = some u
theorem Gr.rfl' {H : Hp} : Gr H H := fun _ _ e => e
theorem Gr.up {H H' : Hp} {p : Addr} {o : HO} (g : Gr H H') (h : H' p = none) : Gr H (upd H' p o) := fun b u e => by rw [upd_ne (ne_of_none (g b u e) h)]; exact g b u e
theorem Gr.trans {H H1 H2 : Hp} (a : Gr H H1) (b : Gr H1 H2) : Gr H H2 := fun c o e => b c o (a c o e)
/-- what is asked of an own class whose instances have a dict -/
structure OwnC (K : PySem.W.Frag) (C : Addr) : Prop where
  cl : Cls K C
  sf : PySem.W.selfFirst K C = true
  ha : PySem.W.findIn K (.ref C) "__class__" = some (some (.builtin "object.__class__"))
  hn : PySem.W.specialIn K (.builtin "object.__class__") "__get__" = some (some (.builtin "getset_descriptor.__get__"))
  htk : PySem.W.takesIn K (.builtin "object.__class__") = some true
  hm : PySem.W.mroIn K C (.type "object") = some true
  tyC : PySem.W.typeIn K (.ref C) = some (.type "type")
theorem mro_no (C : Addr) {T : String} (h : T ∈ kinds) : (PySem.fastBuiltinMro T).map (·.contains (.ref C)) = some false := by
  unfold kinds at h
  simp only [List.mem_cons, List.not_mem_nil, or_false] at h
  rcases h with rfl | rfl | rfl | rfl | rfl | rfl | rfl <;> rfl
section
variable {K : PySem.W.Frag} {C a dx : Addr} {fs : List (Str × V)} {H : Hp} {Q : VK} {v : V} {T : String}
theorem OwnC.ty (o : OwnC K C) (e : H a = some (.ins C dx fs)) : TyX K H (.ref a) (.ref C) := .base (.ins e o.cl o.ha o.hn o.htk o.hm)
theorem OwnC.isi (o : OwnC K C) (e : H a = some (.ins C dx fs)) (q : Q (.bl true) H) : rIsi K [.ref a, .ref C] H Q := ⟨_, _, .ref C, .ref C, true, rfl, .own C, o.ty e, by unfold PySem.W.kitOne; rw [if_pos (beq_self_eq_true _)], q⟩
theorem OwnC.no (o : OwnC K C) (h : T ∈ kinds) : PySem.W.kitOne K (.type T) (.ref C) = some false := by
  have hc : (PySem.W.clsIn K C).isSome = true := by
    obtain ⟨cd, hc, _⟩ := PySem.W.any_some o.cl.hd
    rw [hc]
    rfl
  unfold PySem.W.kitOne
  rw [if_neg (by intro z; cases z)]
  show (if ((PySem.W.clsIn K C).isSome && PySem.W.typeIn K (.ref C) == some (.type "type")) = true then PySem.W.subIn K (.type T) (.ref C) else none) = _
  rw [if_pos (by rw [hc, o.tyC]; rfl)]
  exact mro_no C h
theorem OwnC.isn (o : OwnC K C) (k : Kd K H v T) (q : Q (.bl false) H) : rIsi K [v, .ref C] H Q := ⟨_, _, .type T, .ref C, false, rfl, .own C, k.1, o.no k.2, q⟩
end
/-- two instances of C handed to an own method -/
def uOwn (C : Addr) (sp : Sp) (E : XK) : R2 := fun x y H Q => match x, y with
  | .ref a, .ref b => ∃ dx dy fs gs, H a = some (.ins C dx fs) ∧ H b = some (.ins C dy gs) ∧ sp [.ref a, .ref b] H Q E
  | _, _ => False
def uOwn1 (C : Addr) (sp : Sp) (E : XK) : V → Hp → VK → Prop := fun x H Q => match x with
  | .ref a => ∃ dx fs, H a = some (.ins C dx fs) ∧ sp [.ref a] H Q E
  | _ => False
section
variable {X : Cx} {CX : CXT} {n : Nat} {C f : Addr} {fd : FuncData} {ps : List Str} {sp : Sp} {E : XK} {nm : Str}
theorem run_here {A : Around} {pins : List (Addr × Obj)} {σ : L2.St} {H : Hp} {s : Shared} {Q : VK} {us : List Value} {vs : List V} (F : FnOk X.prog X.w X.K X.mg X.base CX n f fd ps sp) (hr : Room n A) (hfr : A.frames = X.A.frames) (hb : Binds X.K fd ps [])
    (hx : Passes CX X E) (I : Inv X pins σ H s) (r : Vals vs us) (h : sp vs H Q E) : wpAny (model X.prog X.w) A (call (.ref f) us) (EP X pins σ Q) X.xe s := by
  have e0 : Env0 X.prog X.w X.K X.mg X.base A X.stack s H := by
    have e := I.env0
    exact ⟨by rw [hfr]; exact e.frames, e.mod, e.bs, e.bsz, e.funs, e.frf, e.hok, e.bare⟩
  have hl := F.len _ _ _ _ h
  have hb' := hb s us I.kIn (by rw [List.append_nil, ← r.length]; exact hl)
  rw [List.append_nil] at hb'
  refine wpAny_call (codeAny_mono (F.run A X.stack s H ⟨us, []⟩ us vs Q E hr e0 hb' r h) fun r s' hq => ?_)
  cases r with
  | error e => exact hx pins σ H s e s' I hq
  | ok fl =>
    cases fl with
    | ret u => exact I.after hq
    | next => exact False.elim hq
    | brk => exact False.elim hq
    | cont => exact False.elim hq
theorem no_ni {pins : List (Addr × Obj)} {σ : L2.St} {Q : VK} {v : Value} {s' : Shared} (h : EP X pins σ Q v s') : PySem.W.CmpBack (EP X pins σ Q) v s' := by
  obtain ⟨x, H', I, r, q⟩ := h
  cases v with
  | notImplemented => cases x <;> first | (cases r; done) | (obtain ⟨_, r⟩ := r; cases r)
  | _ => exact ⟨x, H', I, r, q⟩
/-- x op y by x's own method -/
theorem opBin {op : Operator} (he : PySem.dunder op.info.2 = nm) (o : OwnC X.K C) (m : Meth X.K C nm f) (F : FnOk X.prog X.w X.K X.mg X.base CX n f fd ps sp) (hr : Room n X.A) (hb : Binds X.K fd ps []) (hx : Passes CX X E) : OpR X (binaryOp op) (uOwn C sp E) := by
  intro pins s σ H x y v u Q I rx ry h
  unfold uOwn at h
  split at h
  · rename_i a b
    obtain ⟨dx, dy, fs, gs, ha, hb', hs⟩ := h
    cases rx; cases ry
    obtain ⟨mA, J, _⟩ := ins_get I.hok ha
    obtain ⟨mB, J', _⟩ := ins_get I.hok hb'
    obtain ⟨od, J, _⟩ := J.look
    obtain ⟨od', J', _⟩ := J'.look
    obtain ⟨m', hF⟩ := I.fr
    refine PySem.W.binop_K (op := op) hF I.ok.mod.kin J J'.type o.sf (by rw [he]; exact m.at_) m.fn ?_
    exact wpAny_mono (run_here F hr rfl hb hx I (show Vals [V.ref a, V.ref b] [Value.ref a, Value.ref b] from .cons rfl (.cons rfl .nil)) hs) (fun _ _ q => no_ni q) fun _ _ z => z
  · exact h.elim
/-- x op y, a comparison, by x's own method -/
theorem opCmp {op : CmpOp} (he : (PySem.cmpInfo op).2.1 = nm) (hop : compareOp op = richCompare op) (m : Meth X.K C nm f) (F : FnOk X.prog X.w X.K X.mg X.base CX n f fd ps sp) (hr : Room n X.A) (hb : Binds X.K fd ps []) (hx : Passes CX X E) : OpR X (compareOp op) (uOwn C sp E) := by
  intro pins s σ H x y v u Q I rx ry h
  unfold uOwn at h
  split at h
  · rename_i a b
    obtain ⟨dx, dy, fs, gs, ha, hb', hs⟩ := h
    cases rx; cases ry
    obtain ⟨mA, J, _⟩ := ins_get I.hok ha
    obtain ⟨mB, J', _⟩ := ins_get I.hok hb'
    obtain ⟨od, J, _⟩ := J.look
    obtain ⟨od', J', _⟩ := J'.look
    obtain ⟨m', hF⟩ := I.fr
    rw [hop]
    refine PySem.W.cmp_K (op := op) (tb := .ref C) hr.units0 hF I.ok.mod.kin J J'.type (by simp [PySem.W.notFirst]) (by rw [he]; exact m.at_) m.fn ?_
    exact wpAny_mono (run_here F hr rfl hb hx I (show Vals [V.ref a, V.ref b] [Value.ref a, Value.ref b] from .cons rfl (.cons rfl .nil)) hs) (fun _ _ q => no_ni q) fun _ _ z => z
  · exact h.elim
/-- -x by x's own method -/
theorem unOwn (m : Meth X.K C "__neg__" f) (F : FnOk X.prog X.w X.K X.mg X.base CX n f fd ps sp) (hr : Room n X.A) (hb : Binds X.K fd ps []) (hx : Passes CX X E) : UnR X (unaryOp .USub) (uOwn1 C sp E) := by
  intro pins s σ H x v Q I rx h
  unfold uOwn1 at h
  split at h
  · rename_i a
    obtain ⟨dx, fs, ha, hs⟩ := h
    cases rx
    obtain ⟨mA, J, _⟩ := ins_get I.hok ha
    obtain ⟨od, J, _⟩ := J.look
    obtain ⟨m', hF⟩ := I.fr
    refine PySem.W.ksp_neg hF I.ok.mod.kin J m.at_ m.fn ?_
    exact run_here F hr rfl hb hx I (show Vals [V.ref a] [Value.ref a] from .cons rfl .nil) hs
  · exact h.elim
/-- str(x) by x's own method -/
def uStrO (C : Addr) (sp : Sp) (E : XK) : List V → Hp → VK → Prop := fun vs H Q => match vs with
  | [.ref a] => ∃ dx fs, H a = some (.ins C dx fs) ∧ sp [.ref a] H (fun v H' => (∃ y, v = .str y) ∧ Q v H') E
  | _ => False
theorem caStrO (m : Meth X.K C "__str__" f) (F : FnOk X.prog X.w X.K X.mg X.base CX n f fd ps sp) (hr : Room (n + 2) X.A) (hb : Binds X.K fd ps []) (hx : Passes CX X E) : CallR X (.type "str") (uStrO C sp E) := by
  intro pins s σ H xs us Q I r h
  unfold uStrO at h
  split at h
  · rename_i a
    obtain ⟨dx, fs, ha, hs⟩ := h
    obtain ⟨u, rfl, ru⟩ := vals1 r
    cases (show u = Value.ref a from ru)
    obtain ⟨mA, J, _⟩ := ins_get I.hok ha
    obtain ⟨od, J, _⟩ := J.look
    have hr2 : Room n X.A.in1.in1 := Room.in1 (Room.in1 hr)
    refine PySem.W.kso_call hr2.units0 I.kIn J m.at_ m.fn ?_
    refine wpAny_mono (run_here F hr2 rfl hb hx I (show Vals [V.ref a] [Value.ref a] from .cons rfl .nil) hs) (fun v s' q => ?_) fun _ _ z => z
    obtain ⟨x, H', I', rv, ⟨y, rfl⟩, q⟩ := q
    obtain ⟨t, rfl⟩ := (show ∃ t, v = Value.str y t from rv)
    exact ⟨.str y, H', I', ⟨t, rfl⟩, q⟩
  · exact h.elim
end
end U

/-! U7: repr of a bool, fractions. -/
namespace U
open PySem PySem.Spec PyProof.Rows L2
section
variable {X : Cx}
def bstr (k : Bool) : Str := if k then "True" else "False"
theorem bstr_inj {a b : Bool} (h : bstr a = bstr b) : a = b := by revert h; cases a <;> cases b <;> decide
def uReprB (K : PySem.W.Frag) (vs : List V) (H : Hp) (Q : VK) : Prop := match vs with
  | [.bl k] => Q (.str (bstr k)) H
  | _ => uRepr K vs H Q
theorem caReprB (hg : X.A.guards = some []) (hu : X.A.units + 70 < cLine) : CallR X (.builtin "repr") (uReprB X.K) := fun p s z H xs us Q I r h => by
  unfold uReprB at h
  split at h
  · rename_i k
    obtain ⟨u, rfl, ru⟩ := L2.vals1 r
    cases (show u = Value.bool k from ru)
    refine PySem.P.repr_of_bool ?_
    exact ⟨.str (bstr k), H, I.tok _, ⟨_, rfl⟩, h⟩
  · exact caRepr hg hu p s z H _ us Q I r h
end
/-! ### fractions -/
/-- equal fractions compare alike -/
theorem fr_lt {p q N D p' q' N' D' : Int} (h : p * D = N * q) (h' : p' * D' = N' * q') (hq : 0 < q) (hD : 0 < D) (hq' : 0 < q') (hD' : 0 < D') : p * q' < p' * q ↔ N * D' < N' * D := by
  have key : (p' * q - p * q') * (D * D') = (N' * D - N * D') * (q * q') := by grind
  have e1 : 0 < D * D' := Int.mul_pos hD hD'
  have e2 : 0 < q * q' := Int.mul_pos hq hq'
  constructor
  · intro z
    have : 0 < (p' * q - p * q') * (D * D') := Int.mul_pos (by omega) e1
    rw [key] at this
    have := Int.pos_of_mul_pos_left this e2
    omega
  · intro z
    have : 0 < (N' * D - N * D') * (q * q') := Int.mul_pos (by omega) e2
    rw [← key] at this
    have := Int.pos_of_mul_pos_left this e1
    omega
def gcdI (a b : Int) : Int := ((Nat.gcd a.natAbs b.natAbs : Nat) : Int)
theorem gcdI_pos {a b : Int} (h : 0 < b) : 0 < gcdI a b := by
  have : 0 < Nat.gcd a.natAbs b.natAbs := Nat.gcd_pos_of_pos_right _ (by omega)
  exact Int.natCast_pos.mpr this
theorem gcdI_dl (a b : Int) : gcdI a b ∣ a := by
  have := Nat.gcd_dvd_left a.natAbs b.natAbs
  exact Int.dvd_natAbs.mp (Int.natCast_dvd_natCast.mpr this)
theorem gcdI_dr (a b : Int) : gcdI a b ∣ b := by
  have := Nat.gcd_dvd_right a.natAbs b.natAbs
  exact Int.dvd_natAbs.mp (Int.natCast_dvd_natCast.mpr this)
theorem gcdI_le {a b : Int} (h : 0 < b) : gcdI a b ≤ b := Int.le_of_dvd h (gcdI_dr a b)
/-- a fraction in lowest terms -/
structure Low (p q : Int) : Prop where
  pos : 0 < q
  one : Nat.gcd p.natAbs q.natAbs = 1
theorem ediv_of {a g x : Int} (h : 0 < g) (e : a = g * x) : a / g = x := by rw [e]; exact Int.mul_ediv_cancel_left x (by omega)
/-- what is left of a fraction by its greatest common divisor -/
theorem low_of {a b : Int} (h : 0 < b) : Low (a / gcdI a b) (b / gcdI a b) ∧ (a / gcdI a b) * b = a * (b / gcdI a b) ∧ (a / gcdI a b).natAbs ≤ a.natAbs ∧ b / gcdI a b ≤ b := by
  have g := gcdI_pos (a := a) h
  obtain ⟨x, hx⟩ := gcdI_dl a b
  obtain ⟨y, hy⟩ := gcdI_dr a b
  have ex : a / gcdI a b = x := ediv_of g hx
  have ey : b / gcdI a b = y := ediv_of g hy
  have ge : gcdI a b = ((Nat.gcd a.natAbs b.natAbs : Nat) : Int) := rfl
  rw [ex, ey]
  generalize hG : gcdI a b = G at *
  have y0 : 0 < y := by
    rw [hy] at h
    exact Int.pos_of_mul_pos_right h g
  have n1 : a.natAbs = G.natAbs * x.natAbs := by rw [hx, Int.natAbs_mul]
  have n2 : b.natAbs = G.natAbs * y.natAbs := by rw [hy, Int.natAbs_mul]
  refine ⟨⟨y0, ?_⟩, by rw [hx, hy]; grind, ?_, ?_⟩
  · have e : G.natAbs = Nat.gcd a.natAbs b.natAbs := by omega
    rw [n1, n2, Nat.gcd_mul_left] at e
    have hp : 0 < G.natAbs := by omega
    have := Nat.eq_of_mul_eq_mul_left hp (show G.natAbs * Nat.gcd x.natAbs y.natAbs = G.natAbs * 1 by omega)
    exact this
  · rw [n1]
    exact Nat.le_mul_of_pos_left _ (by omega)
  · have : y * 1 ≤ y * G := Int.mul_le_mul_of_nonneg_left (by omega) (by omega)
    rw [hy]
    have e2 : G * y = y * G := Int.mul_comm _ _
    omega
/-- two fractions in lowest terms are equal exactly if top and bottom are -/
theorem Low.inj {p q p' q' : Int} (h : Low p q) (h' : Low p' q') (e : p * q' = p' * q) : p = p' ∧ q = q' := by
  have hq := h.pos
  have hq' := h'.pos
  have n : p.natAbs * q'.natAbs = p'.natAbs * q.natAbs := by rw [← Int.natAbs_mul, ← Int.natAbs_mul, e]
  have d1 : q.natAbs ∣ q'.natAbs := by
    refine Nat.Coprime.dvd_of_dvd_mul_left (Nat.coprime_comm.mp h.one) ?_
    exact ⟨p'.natAbs, by rw [n]; exact Nat.mul_comm _ _⟩
  have d2 : q'.natAbs ∣ q.natAbs := by
    refine Nat.Coprime.dvd_of_dvd_mul_left (Nat.coprime_comm.mp h'.one) ?_
    exact ⟨p.natAbs, by rw [← n]; exact Nat.mul_comm _ _⟩
  have e3 := Nat.dvd_antisymm d1 d2
  have e4 : q = q' := by omega
  subst e4
  exact ⟨Int.eq_of_mul_eq_mul_right (by omega) e, rfl⟩
/-- a fraction in lowest terms stays as it is -/
theorem Low.same {p q : Int} (h : Low p q) : p / gcdI p q = p ∧ q / gcdI p q = q := by
  have : gcdI p q = 1 := by unfold gcdI; rw [h.one]; rfl
  rw [this]
  exact ⟨Int.ediv_one p, Int.ediv_one q⟩
/-- less, of fractions with positive bottoms, goes on -/
theorem fr_trans {p q p' q' p'' q'' : Int} (h : 0 < q) (h' : 0 < q') (h'' : 0 < q'') (a : p * q' < p' * q) (b : p' * q'' < p'' * q') : p * q'' < p'' * q := by
  have e1 : 0 < (p' * q - p * q') * q'' := Int.mul_pos (by omega) h''
  have e2 : 0 < (p'' * q' - p' * q'') * q := Int.mul_pos (by omega) h
  have e3 : (p'' * q - p * q'') * q' = (p' * q - p * q') * q'' + (p'' * q' - p' * q'') * q := by grind
  have : 0 < (p'' * q - p * q'') * q' := by omega
  have := Int.pos_of_mul_pos_left this h'
  omega
end U

/-! U8: ratios as they stand in the heap. -/
namespace U
open PySem PySem.Spec PyProof.Rows L2
def rf (p q : Int) : List (Str × V) := [("_top", .int p), ("_bottom", .int q)]
theorem tb_ : ¬ (("_top" : Str) = "_bottom") := by decide +kernel
theorem bt_ : ¬ (("_bottom" : Str) = "_top") := by decide +kernel
theorem rf_mk (p q : Int) : putF "_bottom" (.int q) (putF "_top" (.int p) []) = rf p q := by
  show (if ("_top" : Str) = "_bottom" then [(("_top" : Str), V.int q)] else (("_top" : Str), V.int p) :: putF "_bottom" (V.int q) []) = _
  rw [if_neg tb_]
  rfl
theorem rf_top (p q t : Int) : putF "_top" (.int t) (rf p q) = rf t q := by
  show (if ("_top" : Str) = "_top" then (("_top" : Str), V.int t) :: [(("_bottom" : Str), V.int q)] else _) = _
  rw [if_pos rfl]
  rfl
theorem rf_bot (p q t : Int) : putF "_bottom" (.int t) (rf p q) = rf p t := by
  show (if ("_top" : Str) = "_bottom" then _ else (("_top" : Str), V.int p) :: (if ("_bottom" : Str) = "_bottom" then [(("_bottom" : Str), V.int t)] else _)) = _
  rw [if_neg tb_, if_pos rfl]
  rfl
theorem rf_lt (p q : Int) : (rf p q).lookup ("_top" : Str) = some (.int p) := by
  unfold rf
  rw [List.lookup_cons_self]
theorem rf_lb (p q : Int) : (rf p q).lookup ("_bottom" : Str) = some (.int q) := by
  unfold rf
  rw [List.lookup_cons, show (("_bottom" : Str) == "_top") = false by decide +kernel]
  simp only [List.lookup_cons_self]
theorem rf_no (p q : Int) {m : Str} (h1 : (m == "_top") = false) (h2 : (m == "_bottom") = false) : (rf p q).lookup m = none := by
  unfold rf
  rw [List.lookup_cons, h1]
  simp only
  rw [List.lookup_cons, h2]
  rfl
theorem own_self {K : PySem.W.Frag} {C : Addr} : PySem.W.kitOne K (.ref C) (.ref C) = some true := by unfold PySem.W.kitOne; rw [if_pos (beq_self_eq_true _)]
/-- v is a ratio with this top and bottom -/
def IsR (C : Addr) (H : Hp) (v : V) (p q : Int) : Prop := ∃ a dx, v = .ref a ∧ H a = some (.ins C dx (rf p q))
theorem IsR.up {C : Addr} {H H' : Hp} {v : V} {p q : Int} (r : IsR C H v p q) (g : Gr H H') : IsR C H' v p q := let ⟨a, dx, e, h⟩ := r; ⟨a, dx, e, g _ _ h⟩
theorem mul_lt {a b : Int} (m n : Nat) (ha : a.natAbs < 2 ^ m) (hb : b.natAbs < 2 ^ n) : (a * b).natAbs < 2 ^ (m + n) := by
  rw [Int.natAbs_mul, Nat.pow_add]
  exact Nat.mul_lt_mul'' ha hb
theorem pos_abs {q : Int} (h : 0 < q) : ((q.natAbs : Nat) : Int) = q := by omega
/-- v is a new tuple of two integers -/
def TupAt (H : Hp) (v : V) (p q : Int) : Prop := ∃ x, v = .ref x ∧ H x = some (.tup [.int p, .int q])
theorem TupAt.up {H H' : Hp} {v : V} {p q : Int} (r : TupAt H v p q) (g : Gr H H') : TupAt H' v p q := let ⟨a, e, h⟩ := r; ⟨a, e, g _ _ h⟩
theorem TupAt.keep {H H' : Hp} {v : V} {p q : Int} {d : Addr} {l : List V} (r : TupAt H v p q) (s : ∀ b u, H b = some u → b ≠ d → H' b = some u) (hd : H d = some (.lst l)) : TupAt H' v p q := let ⟨a, e, h⟩ := r; ⟨a, e, s _ _ h (fun z => by rw [z, hd] at h; cases h)⟩
theorem IsR.keep {C : Addr} {H H' : Hp} {v : V} {p q : Int} {d : Addr} {l : List V} (r : IsR C H v p q) (s : ∀ b u, H b = some u → b ≠ d → H' b = some u) (hd : H d = some (.lst l)) : IsR C H' v p q := let ⟨a, dx, e, h⟩ := r; ⟨a, dx, e, s _ _ h (fun z => by rw [z, hd] at h; cases h)⟩
def pd (p q : Int) : PyData := .tuple [.int p, .int q]
def pds (l : List (Int × Int)) : List PyData := l.map fun z => pd z.1 z.2
theorem shaped_pd (p q : Int) : SeqAt.shaped (pd p q) = true := rfl
theorem lay_pds : ∀ l, PyData.canLayAll0 (pds l) = true
  | [] => rfl
  | (p, q) :: r => by
    show (PyData.canLay0 (pd p q) && PyData.canLayAll0 (pds r)) = true
    rw [lay_pds r]
    rfl
theorem depth_pds : ∀ l, PyData.depthAll (pds l) ≤ 1
  | [] => by decide
  | (p, q) :: r => by
    show max (PyData.depth (pd p q)) (PyData.depthAll (pds r)) ≤ 1
    have := depth_pds r
    have e : PyData.depth (pd p q) = 1 := rfl
    omega
theorem shaped_pds (l : List (Int × Int)) : SeqAt.shaped (.list (pds l)) = true := by
  show (PyData.canLayAll0 (pds l) && decide (PyData.depthAll (pds l) + 1 ≤ 64)) = true
  rw [lay_pds, decide_eq_true (by have := depth_pds l; omega)]
  rfl
theorem eqv_pd (p q r s : Int) : PyData.eqv (pd p q) (pd r s) = decide (p = r ∧ q = s) := by
  show (p == r && (q == s && true)) = _
  rw [Bool.and_true, Bool.eq_iff_iff]
  simp
theorem in_pds {p q : Int} {l : List (Int × Int)} (h : (p, q) ∈ l) : ((pds l).any fun z => PyData.eqv z (pd p q)) = true := by
  rw [List.any_eq_true]
  exact ⟨pd p q, List.mem_map.mpr ⟨(p, q), h, rfl⟩, by rw [eqv_pd]; simp⟩
theorem TupAt.dp {K : PySem.W.Frag} {H : Hp} {v : V} {p q : Int} (h : TupAt H v p q) : Dp K H v (pd p q) := by
  obtain ⟨x, rfl, e⟩ := h
  exact .tup (SqT.of e) (.cons (.int _) (.cons (.int _) .nil))
theorem dp_pairs {K : PySem.W.Frag} {H : Hp} : ∀ {xs : List V}, (∀ v ∈ xs, ∃ p q, TupAt H v p q) → ∃ l : List (Int × Int), DpAll K H xs (pds l) ∧ ∀ v ∈ xs, ∀ p q, TupAt H v p q → (p, q) ∈ l
  | [], _ => ⟨[], .nil, fun _ h => absurd h List.not_mem_nil⟩
  | v :: r, h => by
    obtain ⟨l, hl, hm⟩ := dp_pairs (K := K) (xs := r) fun w hw => h w (List.mem_cons_of_mem _ hw)
    obtain ⟨p, q, t⟩ := h v (List.mem_cons_self ..)
    refine ⟨(p, q) :: l, .cons t.dp hl, fun w hw p' q' t' => ?_⟩
    rcases List.mem_cons.mp hw with rfl | hw
    · obtain ⟨x, rfl, e⟩ := t
      obtain ⟨y, z, e'⟩ := t'
      cases z
      rw [e] at e'
      cases e'
      exact List.mem_cons_self ..
    · exact List.mem_cons_of_mem _ (hm w hw p' q' t')
theorem hu65 {k : Nat} {A : Around} (h : Room k A) : A.units + 65 < cLine := by have := h.un; omega
end U

/-! U9: own == and != with any second operand, an own truth value. -/
namespace NeW
open PySem PySem.Spec PySem.Calls PyProof.Rows PySem.W Builtin
section
variable {prog : Program} {w : World} {A : Around} {E : Value → Shared → Prop} {s : Shared} {K : Frag} {x C f L : Addr} {h₀ : Heap} {m : Str → Option Value} {ox : Obj} {od : Option Obj} {b tb : Value}
theorem ifBound_B {M : Model} {args : List Value} {name : Str} {id : String} {Q : Option Value → Shared → Prop} (X : K.In s.heap) (I : InstAt s.heap x ox C od) (hs : findIn K (.ref C) name = some (some (.builtin id)))
    (hb : ∀ self, bindSpecial (.builtin id) self = pure (.builtin id, [self])) (h : wpAny M A (call (.builtin id) (.ref x :: args)) (fun v => Q (some v)) E s) : wpAny M A (callSpecialIfBound? (.ref x) name args) Q E s := by
  simp only [callSpecialIfBound?, bindSpecialIfBound?]
  refine wpAny_holding (wpAny_bind (wpAny_bind (wpAny_bind (I.type.here ((looks_findIn X hs).here ?_)))))
  refine wpAny_bind (wpAny_askSetting (wpAny_ite ?_))
  have fin : wpAny M A (call (.builtin id) ([.ref x] ++ args) >>= fun v => pure (some v)) Q E s := wpAny_bind (wpAny_mono h (fun v s' h' => wpAny_pure h') fun _ _ h' => h')
  split
  · exact wpAny_bind ((Looks.of_pure (hb _)).here (wpAny_pure (by exact fin)))
  · exact wpAny_tryCatch (wpAny_bind ((Looks.of_pure (hb _)).here (wpAny_pure (by exact fin))))
theorem one_ne {Q : Value → Shared → Prop} (hu : A.in1.units < cLine) (X : K.In s.heap) (I : InstAt s.heap x ox C od) (hn : findIn K (.ref C) "__ne__" = some (some (.builtin "object.__ne__"))) (hm : mroIn K C (.type "object") = some true)
    (hs : findIn K (.ref C) "__eq__" = some (some (.ref f))) (hf : isFn K (.ref f) = true)
    (h : wpAny (model prog w) A.in1 (call (.ref f) [.ref x, b]) (fun v s' => ∃ k, v = .bool k ∧ Q (.bool (!k)) s') E s) : wpAny (model prog w) A (tryCompare (.ref x) "__ne__" b) (fun r s' => ∃ v, r = some v ∧ Q v s') E s := by
  unfold tryCompare
  refine wpAny_bind (ifBound_B X I hn PySem.F.slot_object_ne.bind ?_)
  refine wpAny_call (codeAny_call_builtin PySem.F.slot_object_ne.plain PySem.F.cmpEntry_ne (PySem.W.check_slot (i := "object.__ne__") (owner := "object") (n := "__ne__") PySem.F.cmpKind_ne PySem.F.cmpSplit_ne (I.type.andThen (looks_mroIn X hm)) (PySem.F.cmpArgs_ne _ _) ?_))
  unfold Builtin.«object.__ne__»
  refine wpAny_bind (m := slotArgs "__ne__" 1 _) (wpAny_pure ?_)
  refine wpAny_bind (m := cRoomFor _ _) (wpAny_cRoomFor hu ?_)
  refine wpAny_bind (m := callSpecialIfBound? (.ref x) (Str.ofString "__eq__") _) (ifBound_K X I hs hf (wpAny_mono h (fun r s' hr => ?_) fun _ _ y => y))
  obtain ⟨k, rfl, q⟩ := hr
  refine wpAny_bind (m := truthy (.bool k)) (wpAny_truthy_bool ?_)
  first
    | exact wpAny_pure ⟨_, rfl, q⟩
    | exact wpAny_pure (wpAny_pure ⟨_, rfl, q⟩)
theorem ne_K {Q : Value → Shared → Prop} (hu : A.in1.units < cLine) (hu0 : A.units < cLine) (X : K.In s.heap) (I : InstAt s.heap x ox C od) (hb : Looks (model prog w) s.heap (typeOf b) tb) (hnf : notFirst K C tb = true) (hn : findIn K (.ref C) "__ne__" = some (some (.builtin "object.__ne__"))) (hm : mroIn K C (.type "object") = some true)
    (hs : findIn K (.ref C) "__eq__" = some (some (.ref f))) (hf : isFn K (.ref f) = true)
    (h : wpAny (model prog w) A.in1 (call (.ref f) [.ref x, b]) (fun v s' => ∃ k, v = .bool k ∧ Q (.bool (!k)) s') E s) : wpAny (model prog w) A (richCompare .NotEq (.ref x) b) Q E s := by
  have one := one_ne hu X I hn hm hs hf h
  unfold richCompare
  simp only [oneThing_ref]
  refine wpAny_holding (wpAny_bind (wpAny_cRoomFor hu0 ?_))
  rw [PySem.cmpInfo_NotEq]
  dsimp only
  refine wpAny_bind (I.type.here (wpAny_bind (hb.here ?_)))
  split
  · rename_i q
    have e : subIn K tb (.ref C) = some false := by
      rcases Bool.or_eq_true_iff.mp hnf with e | e
      · rw [beq_iff_eq.mp e] at q; simp at q
      · exact beq_iff_eq.mp e
    refine wpAny_bind ((looks_subIn X e).here ?_)
    simp only [Bool.false_eq_true, if_false]
    refine wpAny_bind (wpAny_mono one (fun r s' z => ?_) fun _ _ e => e)
    obtain ⟨v, rfl, hq⟩ := z
    exact wpAny_pure hq
  · refine wpAny_bind (wpAny_pure ?_)
    simp only [Bool.false_eq_true, if_false]
    refine wpAny_bind (wpAny_mono one (fun r s' z => ?_) fun _ _ e => e)
    obtain ⟨v, rfl, hq⟩ := z
    exact wpAny_pure hq
end
end NeW
namespace U
open PySem PySem.Spec PyProof.Rows L2
/-- what is asked of a class without an own != -/
def NoNe (K : PySem.W.Frag) (C : Addr) : Prop := PySem.W.findIn K (.ref C) "__ne__" = some (some (.builtin "object.__ne__"))
/-- the second operand of an own comparison: an instance of the class, or a value of a built-in kind -/
def Snd (K : PySem.W.Frag) (C : Addr) (H : Hp) (y : V) : Prop := (∃ b dx fs, y = .ref b ∧ H b = some (.ins C dx fs)) ∨ ∃ S, Kd K H y S
/-- an instance of C and any second operand handed to an own method -/
def uOwnX (K : PySem.W.Frag) (C : Addr) (sp : Sp) (E : XK) : R2 := fun x y H Q => match x with
  | .ref a => ∃ dx fs, H a = some (.ins C dx fs) ∧ Snd K C H y ∧ sp [.ref a, y] H Q E
  | _ => False
section
variable {X : Cx} {CX : CXT} {n : Nat} {C f : Addr} {fd : FuncData} {ps : List Str} {sp : Sp} {E : XK} {nm : Str}
theorem not_first {K : PySem.W.Frag} {T : String} (h : T ∈ kinds) : PySem.W.notFirst K C (.type T) = true := by
  unfold PySem.W.notFirst
  have : PySem.W.subIn K (.type T) (.ref C) = some false := mro_no C h
  rw [this]
  simp
theorem snd_ty {pins : List (Addr × Obj)} {σ : L2.St} {H : Hp} {s : Shared} {y : V} {u : Value} (I : Inv X pins σ H s) (ry : L2.RelV y u) (h : Snd X.K C H y) : ∃ tb, PySem.W.Looks (model X.prog X.w) s.heap (typeOf u) tb ∧ PySem.W.notFirst X.K C tb = true := by
  rcases h with ⟨b, dx, fs, rfl, hb⟩ | ⟨S, hk⟩
  · cases ry
    obtain ⟨mB, J', _⟩ := ins_get I.hok hb
    obtain ⟨od', J', _⟩ := J'.look
    exact ⟨_, J'.type, by simp [PySem.W.notFirst]⟩
  · obtain ⟨P, Z, hp, _⟩ := kit_of I ry hk.1
    exact ⟨_, Z.ty _ _ I.kIn hp, not_first hk.2⟩
theorem opCmpX {op : CmpOp} (he : (PySem.cmpInfo op).2.1 = nm) (hop : compareOp op = richCompare op) (m : Meth X.K C nm f) (F : FnOk X.prog X.w X.K X.mg X.base CX n f fd ps sp) (hr : Room n X.A) (hb : Binds X.K fd ps []) (hx : Passes CX X E) : OpR X (compareOp op) (uOwnX X.K C sp E) := by
  intro pins s σ H x y v u Q I rx ry h
  unfold uOwnX at h
  split at h
  · rename_i a
    obtain ⟨dx, fs, ha, hy, hs⟩ := h
    cases rx
    obtain ⟨mA, J, _⟩ := ins_get I.hok ha
    obtain ⟨od, J, _⟩ := J.look
    obtain ⟨m', hF⟩ := I.fr
    obtain ⟨tb, lt, hnf⟩ := snd_ty I ry hy
    rw [hop]
    refine PySem.W.cmp_K (op := op) (tb := tb) hr.units0 hF I.ok.mod.kin J lt hnf (by rw [he]; exact m.at_) m.fn ?_
    exact wpAny_mono (run_here F hr rfl hb hx I (show Vals [V.ref a, y] [Value.ref a, u] from .cons rfl (.cons ry .nil)) hs) (fun _ _ q => no_ni q) fun _ _ z => z
  · exact h.elim
/-- x != y by x's own == -/
def uOwnN (K : PySem.W.Frag) (C : Addr) (sp : Sp) (E : XK) : R2 := fun x y H Q => match x with
  | .ref a => ∃ dx fs, H a = some (.ins C dx fs) ∧ Snd K C H y ∧ sp [.ref a, y] H (fun v H' => ∃ k, v = .bl k ∧ Q (.bl (!k)) H') E
  | _ => False
theorem opNeX (o : OwnC X.K C) (ne : NoNe X.K C) (m : Meth X.K C "__eq__" f) (F : FnOk X.prog X.w X.K X.mg X.base CX n f fd ps sp) (hr : Room (n + 1) X.A) (hb : Binds X.K fd ps []) (hx : Passes CX X E) : OpR X (compareOp .NotEq) (uOwnN X.K C sp E) := by
  intro pins s σ H x y v u Q I rx ry h
  unfold uOwnN at h
  split at h
  · rename_i a
    obtain ⟨dx, fs, ha, hy, hs⟩ := h
    cases rx
    obtain ⟨mA, J, _⟩ := ins_get I.hok ha
    obtain ⟨od, J, _⟩ := J.look
    obtain ⟨tb, lt, hnf⟩ := snd_ty I ry hy
    show wpAny (model X.prog X.w) X.A (richCompare .NotEq (.ref a) u) (EP X pins σ Q) X.xe s
    refine NeW.ne_K hr.in1.units0 hr.units0 I.kIn J lt hnf ne o.hm m.at_ m.fn ?_
    refine wpAny_mono (run_here F hr.in1 rfl hb hx I (show Vals [V.ref a, y] [Value.ref a, u] from .cons rfl (.cons ry .nil)) hs) (fun r s' q => ?_) fun _ _ z => z
    obtain ⟨z, H', I', rz, k, rfl, q⟩ := q
    cases rz
    exact ⟨k, rfl, .bl (!k), H', I', rfl, q⟩
  · exact h.elim
/-- a truth value by an own method -/
def uTruO (C : Addr) (sp : Sp) (E : XK) (ta : TE) : TT := fun σ H Q => ta σ H fun x H1 => ∃ a dx fs, x = .ref a ∧ H1 a = some (.ins C dx fs) ∧ sp [.ref a] H1 (fun v H2 => ∃ k, v = .bl k ∧ Q k H2) E
theorem ptO {a : Expr} {ta : TE} (m : Meth X.K C "__bool__" f) (F : FnOk X.prog X.w X.K X.mg X.base CX n f fd ps sp) (hr : Room n X.A) (hb : Binds X.K fd ps []) (hx : Passes CX X E) (ha : PE X a ta)
    (he : ∀ whole, isTrue a X.env whole = (do let v ← whole; standAt a.pos; holding [v] (truthy v)) := by intro _; rfl) : PT X a (uTruO C sp E ta) := by
  refine ⟨fun p s z H Q I h => isTrue_plain (thn (ha.run p s z H _ I h) fun v s1 ⟨x, H1, I1, r1, q⟩ => ?_) (he _)⟩
  obtain ⟨b, dx, fs, rfl, hb', hs⟩ := q
  cases r1
  obtain ⟨mA, J, _⟩ := ins_get I1.hok hb'
  obtain ⟨od, J, _⟩ := J.look
  obtain ⟨m', hF⟩ := I1.fr
  refine PySem.W.truthy_K hF I1.ok.mod.kin J m.at_ m.fn ?_
  refine wpAny_mono (run_here F hr rfl hb hx I1 (show Vals [V.ref b] [Value.ref b] from .cons rfl .nil) hs) (fun r s' q => ?_) fun _ _ z => z
  obtain ⟨y, H', I', ry, k, rfl, q⟩ := q
  cases ry
  exact ⟨H', I', q⟩
end
end U

/-! U10: fractions by value, texts of pairs. -/
namespace U
open PySem PySem.Spec PyProof.Rows L2
def uBool (vs : List V) (H : Hp) (Q : VK) : Prop := match vs with | [.int i] => Q (.bl (decide (i ≠ 0))) H | [.bl k] => Q (.bl k) H | _ => False
theorem caBool {X : Cx} : CallR X (.type "bool") uBool := fun p s z H xs us Q I r h => by
  unfold uBool at h
  split at h
  · rename_i i
    refine call_bool1 p s z H _ us Q I r (.inl ⟨i, rfl, ?_⟩)
    have e : decide (i ≠ 0) = (i != 0) := by by_cases h0 : i = 0 <;> simp [h0]
    rw [← e]
    exact h
  · exact call_bool1 p s z H _ us Q I r (.inr ⟨_, rfl, h⟩)
  · exact h.elim
/-- p / q is N / D in lowest terms -/
structure Val (p q N D : Int) : Prop where
  low : Low p q
  dp : 0 < D
  eq : p * D = N * q
theorem Val.of {N D : Int} (h : 0 < D) : Val (N / gcdI N D) (D / gcdI N D) N D := ⟨(low_of h).1, h, (low_of h).2.1⟩
theorem Val.self {p q : Int} (h : Low p q) : Val p q p q := ⟨h, h.pos, rfl⟩
/-- another fraction of the same value -/
theorem Val.to {p q N D N' D' : Int} (v : Val p q N D) (h : 0 < D') (e : N * D' = N' * D) : Val p q N' D' := ⟨v.low, h, by
  have hD := v.dp
  have e1 := v.eq
  refine Int.eq_of_mul_eq_mul_right (show D ≠ 0 by omega) ?_
  grind⟩
theorem Val.inj {p q p' q' N D N' D' : Int} (v : Val p q N D) (v' : Val p' q' N' D') (e : N * D' = N' * D) : p = p' ∧ q = q' := by
  refine v.low.inj v'.low ?_
  have v2 := v.to v'.dp e
  have h := v'.dp
  have e1 := v2.eq
  have e2 := v'.eq
  refine Int.eq_of_mul_eq_mul_right (show D' ≠ 0 by omega) ?_
  grind
section
variable {p q p' q' N D N' D' : Int}
theorem Val.add (v : Val p q N D) (v' : Val p' q' N' D') : Val ((p * q' + p' * q) / gcdI (p * q' + p' * q) (q * q')) (q * q' / gcdI (p * q' + p' * q) (q * q')) (N * D' + N' * D) (D * D') :=
  (Val.of (Int.mul_pos v.low.pos v'.low.pos)).to (Int.mul_pos v.dp v'.dp) (by have := v.eq; have := v'.eq; grind)
theorem Val.sub (v : Val p q N D) (v' : Val p' q' N' D') : Val ((p * q' - p' * q) / gcdI (p * q' - p' * q) (q * q')) (q * q' / gcdI (p * q' - p' * q) (q * q')) (N * D' - N' * D) (D * D') :=
  (Val.of (Int.mul_pos v.low.pos v'.low.pos)).to (Int.mul_pos v.dp v'.dp) (by have := v.eq; have := v'.eq; grind)
theorem Val.mul (v : Val p q N D) (v' : Val p' q' N' D') : Val ((p * p') / gcdI (p * p') (q * q')) (q * q' / gcdI (p * p') (q * q')) (N * N') (D * D') :=
  (Val.of (Int.mul_pos v.low.pos v'.low.pos)).to (Int.mul_pos v.dp v'.dp) (by have := v.eq; have := v'.eq; grind)
theorem Val.neg (v : Val p q N D) : Val (-p / gcdI (-p) q) (q / gcdI (-p) q) (-N) D :=
  (Val.of v.low.pos).to v.dp (by have := v.eq; grind)
end
/-- both numbers have at most k bits -/
def Sm (k : Nat) (p q : Int) : Prop := p.natAbs < 2 ^ k ∧ q.natAbs < 2 ^ k
theorem pow_le {a b : Nat} (h : a ≤ b) : 2 ^ a ≤ 2 ^ b := Nat.pow_le_pow_right (by decide) h
theorem Sm.up {k m : Nat} {p q : Int} (s : Sm k p q) (h : k ≤ m) : Sm m p q := ⟨Nat.lt_of_lt_of_le s.1 (pow_le h), Nat.lt_of_lt_of_le s.2 (pow_le h)⟩
theorem Sm.low {k : Nat} {N D : Int} (h : 0 < D) (s : Sm k N D) : Sm k (N / gcdI N D) (D / gcdI N D) := by
  obtain ⟨lo, _, e1, e2⟩ := low_of (a := N) h
  have := lo.pos
  exact ⟨Nat.lt_of_le_of_lt e1 s.1, Nat.lt_of_le_of_lt (by omega) s.2⟩
section
variable {p q p' q' : Int} {k m : Nat}
theorem Sm.addN (s : Sm k p q) (s' : Sm m p' q') : Sm (k + m + 1) (p * q' + p' * q) (q * q') := by
  have h1 := mul_lt k m s.1 s'.2
  have h2 := mul_lt m k s'.1 s.2
  have h3 := mul_lt k m s.2 s'.2
  rw [Nat.add_comm m k] at h2
  have e : 2 ^ (k + m + 1) = 2 ^ (k + m) * 2 := Nat.pow_succ ..
  refine ⟨?_, ?_⟩ <;> rw [e] <;> omega
theorem Sm.subN (s : Sm k p q) (s' : Sm m p' q') : Sm (k + m + 1) (p * q' - p' * q) (q * q') := by
  have h1 := mul_lt k m s.1 s'.2
  have h2 := mul_lt m k s'.1 s.2
  have h3 := mul_lt k m s.2 s'.2
  rw [Nat.add_comm m k] at h2
  have e : 2 ^ (k + m + 1) = 2 ^ (k + m) * 2 := Nat.pow_succ ..
  refine ⟨?_, ?_⟩ <;> rw [e] <;> omega
theorem Sm.mulN (s : Sm k p q) (s' : Sm m p' q') : Sm (k + m + 1) (p * p') (q * q') := by
  have h1 := mul_lt k m s.1 s'.1
  have h3 := mul_lt k m s.2 s'.2
  have e : 2 ^ (k + m + 1) = 2 ^ (k + m) * 2 := Nat.pow_succ ..
  refine ⟨?_, ?_⟩ <;> rw [e] <;> omega
end
/-- a ratio of the value N / D, of at most k bits -/
def RV (C : Addr) (H : Hp) (v : V) (N D : Int) (k : Nat) : Prop := ∃ p q, IsR C H v p q ∧ Val p q N D ∧ Sm k p q
theorem RV.up {C : Addr} {H H' : Hp} {v : V} {N D : Int} {k : Nat} (r : RV C H v N D k) (g : Gr H H') : RV C H' v N D k := let ⟨p, q, i, z⟩ := r; ⟨p, q, i.up g, z⟩
/-! ### the text of pairs -/
theorem num_short' {n : Int} {k : Nat} (hk : 0 < k) (h : n.natAbs < 10 ^ k) : (Str.ofString (toString n)).length ≤ k + 1 := by
  have el : (Str.ofString (toString n)).length = (Str.ofString (toString n)).cps.toList.length := by simp [Str.length]
  rw [el, num_list, List.length_append, List.length_map]
  have := (Nat.length_toDigits_le_iff (b := 10) (n := n.natAbs) (k := k) (by decide) hk).mpr h
  have h2 : (if n < 0 then [45] else ([] : List Nat)).length ≤ 1 := by by_cases q : n < 0 <;> simp [q]
  omega
def Few (k : Nat) (l : List (Int × Int)) : Prop := ∀ z ∈ l, z.1.natAbs < 10 ^ k ∧ z.2.natAbs < 10 ^ k
theorem pd_len {p q : Int} {k : Nat} (hk : 0 < k) (h1 : p.natAbs < 10 ^ k) (h2 : q.natAbs < 10 ^ k) : (pd p q).shown.length ≤ 2 * k + 9 := by
  have a := num_short' hk h1
  have b := num_short' hk h2
  have c := tupleText_len_le [Str.ofString (toString p), Str.ofString (toString q)]
  show (tupleText [Str.ofString (toString p), Str.ofString (toString q)]).length ≤ _
  simp only [List.map_cons, List.map_nil, List.sum_cons, List.sum_nil, List.length_cons, List.length_nil] at c
  omega
theorem pds_sum {k : Nat} (hk : 0 < k) : ∀ (l : List (Int × Int)), Few k l → ((PyData.shownAll (pds l)).map (·.length)).sum ≤ l.length * (2 * k + 9) ∧ (PyData.shownAll (pds l)).length = l.length
  | [], _ => ⟨by simp [pds, PyData.shownAll], by simp [pds, PyData.shownAll]⟩
  | (p, q) :: r, h => by
    obtain ⟨h1, h2⟩ := pds_sum hk r fun z hz => h z (List.mem_cons_of_mem _ hz)
    have h0 := h (p, q) (List.mem_cons_self ..)
    have e : PyData.shownAll (pds ((p, q) :: r)) = (pd p q).shown :: PyData.shownAll (pds r) := rfl
    rw [e]
    have hpl : (pd p q).shown.length ≤ 2 * k + 9 := pd_len hk h0.1 h0.2
    simp only [List.map_cons, List.sum_cons, List.length_cons]
    refine ⟨?_, by omega⟩
    rw [Nat.succ_mul]
    omega
theorem pds_len {k : Nat} {l : List (Int × Int)} (hk : 0 < k) (h : Few k l) : (PyData.list (pds l)).shown.length ≤ l.length * (2 * k + 11) + 3 := by
  obtain ⟨h1, h2⟩ := pds_sum hk l h
  have c := listText_len_le (PyData.shownAll (pds l))
  show (listText (PyData.shownAll (pds l))).length ≤ _
  rw [h2] at c
  have : l.length * (2 * k + 11) = l.length * (2 * k + 9) + l.length * 2 := by rw [← Nat.mul_add]
  omega
theorem pd_show {p q : Int} (h1 : p.natAbs.log2 < 1920) (h2 : q.natAbs.log2 < 1920) : (pd p q).showable = true := by
  show (decide _ && (decide _ && true)) = true
  rw [decide_eq_true h1, decide_eq_true h2]
  rfl
theorem pds_show : ∀ {l : List (Int × Int)}, (∀ z ∈ l, z.1.natAbs.log2 < 1920 ∧ z.2.natAbs.log2 < 1920) → PyData.showableAll (pds l) = true
  | [], _ => rfl
  | (p, q) :: r, h => by
    have h0 := h (p, q) (List.mem_cons_self ..)
    have h1 := pds_show fun z hz => h z (List.mem_cons_of_mem _ hz)
    show ((pd p q).showable && PyData.showableAll (pds r)) = true
    rw [pd_show h0.1 h0.2, h1]
    rfl
section
variable {H H' : Hp} {F M M' : List (Addr × HO)} {d : Addr} {o : HO} {D : List Addr}
theorem At.keep1 (L : At H [d] F M H') : ∀ b u, H b = some u → b ≠ d → H' b = some u := fun b u e n => L.fr b u e (by simpa using n)
theorem one_dead (h : H d = some o) : ∀ e ∈ [d], ∃ u, H e = some u := fun e he => by
  obtain rfl := List.mem_singleton.mp he
  exact ⟨o, h⟩
theorem At.perm (L : At H D F M H') (p : M.Perm M') : At H D F M' H' := ⟨L.fr, L.fa, fun x hx => L.mu x (p.mem_iff.mpr hx), fun x hx => L.mf x (p.mem_iff.mpr hx), fun x hx => L.df x (p.mem_iff.mpr hx), (p.map _).nodup_iff.mp L.nd⟩
theorem rot3 {α : Type} {x y z : α} : [x, y, z].Perm [z, x, y] := ((List.Perm.swap z y []).cons x).trans (List.Perm.swap z x [y])
end
/-- a sum of fractions, step by step -/
def stepF (z : Int × Int) (y : Int × Int) : Int × Int := (z.1 * y.2 + y.1 * z.2, z.2 * y.2)
def sumF (l : List (Int × Int)) : Int × Int := l.foldl stepF (0, 1)
theorem sumF_take {l : List (Int × Int)} {i : Nat} {y : Int × Int} (h : l[i]? = some y) : sumF (l.take (i + 1)) = stepF (sumF (l.take i)) y := by
  unfold sumF
  rw [List.take_add_one, h, List.foldl_append]
  rfl
theorem idx_of {α β : Type} {P : α → β → Prop} : ∀ {xs : List α} {ls : List β}, PySem.Paired P xs ls → ∀ (i : Nat) (x : α) (z : β), xs[i]? = some x → ls[i]? = some z → P x z
  | _, _, .nil, i, x, z, h, _ => by simp at h
  | _, _, .cons h _, 0, x, z, h1, h2 => by
    obtain rfl := Option.some.inj h1
    obtain rfl := Option.some.inj h2
    exact h
  | _, _, .cons _ r, i + 1, x, z, h1, h2 => idx_of r i x z h1 h2
theorem str_ext {x y : Str} (h : x.cps.toList = y.cps.toList) : x = y := by
  cases x; cases y
  simp only at h
  rw [Array.ext' h]
theorem app_list (x y : Str) : (x ++ y).cps.toList = x.cps.toList ++ y.cps.toList := by rw [PySem.Str.cps_append, Array.toList_append]
theorem app_len (x y : Str) : (x ++ y).length = x.length + y.length := by
  show (x ++ y).cps.size = x.cps.size + y.cps.size
  rw [PySem.Str.cps_append, Array.size_append]
theorem e_app (x : Str) : Str.empty ++ x = x := str_ext (by rw [app_list]; rfl)
theorem abs_num (n : Int) : (Str.ofString (toString ((n.natAbs : Nat) : Int))).cps.toList = (Nat.toDigits 10 n.natAbs).map Char.toNat := by
  rw [num_list, if_neg (by omega)]
  rfl
theorem abs_neg {n : Int} (h : n < 0) : Str.ofString "-" ++ Str.ofString (toString ((n.natAbs : Nat) : Int)) = Str.ofString (toString n) := str_ext (by
  rw [app_list, abs_num, num_list, if_pos h]
  rfl)
theorem abs_pos {n : Int} (h : ¬ n < 0) : Str.ofString "" ++ Str.ofString (toString ((n.natAbs : Nat) : Int)) = Str.ofString (toString n) := str_ext (by
  rw [app_list, abs_num, num_list, if_neg h]
  rfl)
theorem join1 (x : Str) : Txt.join (Str.ofString "") [x] = x := by
  exact str_ext (by unfold Txt.join Builtin.Str.glued; simp)
theorem num_short {n : Int} (h : n.natAbs < 10 ^ 60) : (Str.ofString (toString n)).length ≤ 100 := by
  have el : (Str.ofString (toString n)).length = (Str.ofString (toString n)).cps.toList.length := by simp [Str.length]
  rw [el, num_list, List.length_append, List.length_map]
  have := (Nat.length_toDigits_le_iff (b := 10) (n := n.natAbs) (k := 60) (by decide) (by decide)).mpr h
  have h2 : (if n < 0 then [45] else ([] : List Nat)).length ≤ 1 := by by_cases q : n < 0 <;> simp [q]
  omega
def rtext (p q : Int) : Str := if q = 1 then Str.ofString (toString p) else Str.ofString (toString p) ++ Str.ofString "/" ++ Str.ofString (toString q)
end U
namespace NeW
open PySem PySem.Spec PySem.Calls PyProof.Rows PySem.W Builtin Builtin.Str
section
variable {prog : Program} {w : World} {A : Around} {E : Value → Shared → Prop} {s : Shared} {K : Frag} {x C f : Addr} {ox : Obj} {od : Option Obj}
theorem bool_own {L : Addr} {h₀ : Heap} {m : Str → Option Value} {Q : Value → Shared → Prop} (X : Fr h₀ L s.heap m) (X₀ : K.In h₀) (I : InstAt s.heap x ox C od) (hs : findIn K (.ref C) "__bool__" = some (some (.ref f))) (hf : isFn K (.ref f) = true)
    (h : wpAny (model prog w) A.in1.in1 (call (.ref f) [.ref x]) (PySem.W.BoolBack fun b s' => Q (.bool b) s') E s) : wpAny (model prog w) A (call (.type "bool") [.ref x]) Q E s := by
  refine callType_codes (T := "bool") (Bi := Builtin.«object.__init__») (Q₁ := fun r s₁ => ∃ b, r = .bool b ∧ Q r s₁) PySem.F.called_bool (PySem.F.typeCall_bool_1 _) PySem.F.entry_object_init ?_ ?_
  · refine codeAny_of_tree ?_
    show wpAny _ A.in1.in1 (do checkBuiltinCall "bool.__new__" ⟨[.type "bool", .ref x], []⟩; again (.builtin "bool.__new__" ⟨[.type "bool", .ref x], []⟩)) _ _ s
    refine wpAny_bind (wpAny_of_eq (PySem.F.newCall_bool_1 _) (wpAny_pure ⟨plainId_quiet (by decide +kernel) _, codeAny_builtin PySem.F.entry_bool_new ?_⟩))
    rw [Around.under_plainId (by decide +kernel) _]
    unfold Builtin.«bool.__new__»
    refine wpAny_bind (wpAny_pure ?_)
    refine wpAny_bind (wpAny_of_eq PySem.F.conv_sub_bool ?_)
    refine wpAny_bind (m := someArgs "bool" 0 1 _) (wpAny_pure ?_)
    refine wpAny_bind (m := truthy (.ref x)) (truthy_K X X₀ I hs hf (wpAny_mono h (fun r s₁ hr => ?_) fun _ _ y => y))
    cases r <;> first | exact hr.elim | exact wpAny_pure ⟨_, rfl, hr⟩
  · rintro obj s₁ ⟨b, rfl, hq⟩
    exact ⟨PySem.typeIs_bool _ _, PySem.F.args_object_init_2 _ _, object_init_meets PySem.F.called_bool.init.lookup PySem.F.called_bool.made (by decide) prog w A.in1 _ s₁ ⟨PySem.typeIs_bool _ _, rfl, hq⟩⟩
end
end NeW
namespace U
open PySem PySem.Spec PyProof.Rows L2
section
variable {X : Cx} {CX : CXT} {n : Nat} {C f : Addr} {fd : FuncData} {ps : List Str} {sp : Sp} {E : XK}
/-- bool(x) by x's own method -/
def uBoolO (C : Addr) (sp : Sp) (E : XK) : List V → Hp → VK → Prop := fun vs H Q => match vs with
  | [.ref a] => ∃ dx fs, H a = some (.ins C dx fs) ∧ sp [.ref a] H (fun v H' => (∃ y, v = .bl y) ∧ Q v H') E
  | _ => False
theorem caBoolO (m : Meth X.K C "__bool__" f) (F : FnOk X.prog X.w X.K X.mg X.base CX n f fd ps sp) (hr : Room (n + 2) X.A) (hb : Binds X.K fd ps []) (hx : Passes CX X E) : CallR X (.type "bool") (uBoolO C sp E) := by
  intro pins s σ H xs us Q I r h
  unfold uBoolO at h
  split at h
  · rename_i a
    obtain ⟨dx, fs, ha, hs⟩ := h
    obtain ⟨u, rfl, ru⟩ := vals1 r
    cases (show u = Value.ref a from ru)
    obtain ⟨mA, J, _⟩ := ins_get I.hok ha
    obtain ⟨od, J, _⟩ := J.look
    obtain ⟨m', hF⟩ := I.fr
    have hr2 : Room n X.A.in1.in1 := Room.in1 (Room.in1 hr)
    refine NeW.bool_own hF I.ok.mod.kin J m.at_ m.fn ?_
    refine wpAny_mono (run_here F hr2 rfl hb hx I (show Vals [V.ref a] [Value.ref a] from .cons rfl .nil) hs) (fun v s' q => ?_) fun _ _ z => z
    obtain ⟨x, H', I', rv, ⟨y, rfl⟩, q⟩ := q
    obtain rfl := (show v = Value.bool y from rv)
    exact ⟨.bl y, H', I', rfl, q⟩
  · exact h.elim
end
end U

/-! U12: texts of integers, read. -/
namespace U
open PySem PySem.Spec PyProof.Rows L2
open NumText
theorem len_list (x : Str) : x.length = x.cps.toList.length := by simp [Str.length]
theorem minus_len : (Str.ofString "-").length = 1 := by decide
theorem minus_cps : (Str.ofString "-").cps = #[45] := by decide
theorem sub_at0 (x : Str) : Builtin.Str.subAt x (Str.ofString "-") 0 = (match x.cps.toList with | c :: _ => decide (c = 45) | [] => false) := by
  unfold Builtin.Str.subAt
  rw [minus_len, minus_cps]
  rcases e : x.cps.toList with _ | ⟨c, r⟩
  · have : x.cps = #[] := by apply Array.ext'; rw [e]
    rw [this]
    rfl
  · have e2 : (x.cps.extract 0 (0 + 1)).toList = [c] := by
      rw [Array.toList_extract, List.extract_eq_take_drop, e]
      rfl
    have e3 : x.cps.extract 0 (0 + 1) = #[c] := by apply Array.ext'; rw [e2]
    rw [e3]
    by_cases h : c = 45
    · subst h; rfl
    · show (#[c] == #[45]) = decide (c = 45)
      rw [decide_eq_false h]
      simp [h]
/-- what stands behind a sign - -/
def behind : List Nat → List Nat
  | 45 :: r => r
  | l => l
theorem startswith_minus (x : Str) : Txt.startswith x (Str.ofString "-") = (match x.cps.toList with | c :: _ => decide (c = 45) | [] => false) := by
  unfold Txt.startswith
  rw [sub_at0, minus_len, len_list]
  rcases x.cps.toList with _ | ⟨c, r⟩
  · rfl
  · simp
theorem removeprefix_minus (x : Str) : (Txt.removeprefix x (Str.ofString "-")).cps.toList = behind x.cps.toList := by
  unfold Txt.removeprefix
  rw [sub_at0, minus_len]
  rcases e : x.cps.toList with _ | ⟨c, r⟩
  · exact e
  · by_cases h : c = 45
    · subst h
      simp only [decide_true, if_true]
      have hl : x.length = r.length + 1 := by rw [len_list, e]; rfl
      show (if (x.length - 1 == x.length) = true then x else Builtin.Str.strSub x 1 x.length).cps.toList = r
      rw [if_neg (by rw [hl]; simp), StrLaws.strSub_toList, e, hl]
      simp
    · simp only [h, decide_false, Bool.false_eq_true, if_false]
      show x.cps.toList = behind (c :: r)
      rw [e]
      unfold behind
      split
      · rename_i heq; cases heq; exact absurd rfl h
      · rfl
theorem ascii_digit : ∀ c : Nat, c < 128 → Unicode.isDigit c = decide (48 ≤ c ∧ c ≤ 57) := by decide +kernel
/-- nothing but figures -/
def Figs (l : List Nat) : Prop := (∀ c ∈ l, 48 ≤ c ∧ c ≤ 57) ∧ l ≠ []
theorem isascii_iff (x : Str) : Txt.isascii x = true ↔ ∀ c ∈ x.cps.toList, c < 128 := by
  unfold Txt.isascii
  rw [Array.all_eq_true_iff_forall_mem]
  simp
theorem isdigit_iff (x : Str) (h : ∀ c ∈ x.cps.toList, c < 128) : Txt.isdigit x = true ↔ Figs x.cps.toList := by
  unfold Txt.isdigit Figs
  rw [Bool.and_eq_true, Array.all_eq_true_iff_forall_mem, decide_eq_true_iff]
  rw [len_list]
  constructor
  · rintro ⟨h1, h2⟩
    refine ⟨fun c hc => ?_, fun e => by rw [e] at h1; exact absurd h1 (by decide)⟩
    have := h2 c (Array.mem_toList_iff.mp hc)
    rw [ascii_digit c (h c hc)] at this
    exact of_decide_eq_true this
  · rintro ⟨h1, h2⟩
    refine ⟨List.length_pos_iff.mpr h2, fun c hc => ?_⟩
    have hc' := Array.mem_toList_iff.mpr hc
    rw [ascii_digit c (h c hc')]
    exact decide_eq_true (h1 c hc')
/-- the text of an integer: its figures behind the sign -/
theorem num_figs (n : Int) : Figs (behind (Str.ofString (toString n)).cps.toList) ∧ behind (Str.ofString (toString n)).cps.toList = (Nat.toDigits 10 n.natAbs).map Char.toNat := by
  have e : behind (Str.ofString (toString n)).cps.toList = (Nat.toDigits 10 n.natAbs).map Char.toNat := by
    rw [num_list]
    by_cases h : n < 0
    · rw [if_pos h]
      rfl
    · rw [if_neg h, List.nil_append]
      unfold behind
      split
      · rename_i r heq
        have := digits_are n.natAbs 45 (by rw [heq]; exact List.mem_cons_self ..)
        omega
      · rfl
  refine ⟨?_, e⟩
  rw [e]
  refine ⟨digits_are _, fun z => ?_⟩
  have z2 := List.map_eq_nil_iff.mp z
  exact absurd z2 (Nat.toDigits_ne_nil)
theorem foldl_lt : ∀ (l : List Nat) (a : Nat), (∀ c ∈ l, 48 ≤ c ∧ c ≤ 57) → l.foldl (fun acc c => acc * 10 + (c - 48)) a < (a + 1) * 10 ^ l.length
  | [], a, _ => by simp
  | c :: r, a, h => by
    have h1 := foldl_lt r (a * 10 + (c - 48)) fun d hd => h d (List.mem_cons_of_mem _ hd)
    have h2 := h c (List.mem_cons_self ..)
    rw [List.foldl_cons, List.length_cons, Nat.pow_succ]
    refine Nat.lt_of_lt_of_le h1 ?_
    have h3 : (a * 10 + (c - 48) + 1) * 10 ^ r.length ≤ ((a + 1) * 10) * 10 ^ r.length := Nat.mul_le_mul_right _ (by omega)
    have h4 : ((a + 1) * 10) * 10 ^ r.length = (a + 1) * (10 ^ r.length * 10) := by rw [Nat.mul_assoc, Nat.mul_comm 10]
    omega
theorem digitsVal_lt {l : List Nat} (h : ∀ c ∈ l, 48 ≤ c ∧ c ≤ 57) : digitsVal l < 10 ^ l.length := by
  have := foldl_lt l 0 h
  simpa [digitsVal] using this
/-- what int reads behind a sign - of figures -/
theorem int_of_figs {x : Str} (h : Figs (behind x.cps.toList)) (hl : (behind x.cps.toList).length ≤ 60) : ∃ m : Int, intText? x = some m ∧ m.natAbs < 10 ^ 60 := by
  have up : ∀ l : List Nat, (∀ c ∈ l, 48 ≤ c ∧ c ≤ 57) → l.length ≤ 60 → digitsVal l < 10 ^ 60 := fun l h1 h2 =>
    Nat.lt_of_lt_of_le (digitsVal_lt h1) (Nat.pow_le_pow_right (by decide) h2)
  have hx : x.length = x.cps.toList.length := by simp [Str.length]
  rcases e : x.cps.toList with _ | ⟨c, r⟩
  · rw [e] at h; exact absurd rfl h.2
  · by_cases h45 : c = 45
    · subst h45
      rw [e] at h hl
      refine ⟨_, intText_neg e h.1 h.2 (by rw [hx, e]; show r.length + 1 ≤ _; have : r.length ≤ 60 := hl; omega), ?_⟩
      rw [Int.natAbs_neg, Int.natAbs_natCast]
      exact up r h.1 hl
    · have eb : behind (c :: r) = c :: r := by
        unfold behind
        split
        · rename_i heq; cases heq; exact absurd rfl h45
        · rfl
      rw [e, eb] at h hl
      refine ⟨_, intText_digits (by rw [e]; exact h.1) (by rw [e]; exact h.2) (by rw [hx, e]; omega), ?_⟩
      rw [Int.natAbs_natCast, e]
      exact up _ h.1 hl
/-- int behind str -/
theorem intText_num {n : Int} (h : n.natAbs < 10 ^ 60) : intText? (Str.ofString (toString n)) = some n := by
  have hl : ((Nat.toDigits 10 n.natAbs).map Char.toNat).length ≤ 60 := by
    rw [List.length_map]
    exact (Nat.length_toDigits_le_iff (b := 10) (n := n.natAbs) (k := 60) (by decide) (by decide)).mpr h
  have hne : ((Nat.toDigits 10 n.natAbs).map Char.toNat) ≠ [] := fun z => Nat.toDigits_ne_nil (List.map_eq_nil_iff.mp z)
  have hx : ∀ x : Str, x.length = x.cps.toList.length := fun x => by simp [Str.length]
  have e := num_list n
  by_cases h0 : n < 0
  · rw [if_pos h0] at e
    have e' : (Str.ofString (toString n)).cps.toList = 45 :: (Nat.toDigits 10 n.natAbs).map Char.toNat := e
    rw [intText_neg e' (digits_are _) hne (by rw [hx, e]; simp only [List.length_append, List.length_cons, List.length_nil]; omega), PySem.W.KIN.val_back]
    congr 1
    omega
  · rw [if_neg h0, List.nil_append] at e
    rw [intText_digits (by rw [e]; exact digits_are _) (by rw [e]; exact hne) (by rw [hx, e]; omega), e, PySem.W.KIN.val_back]
    congr 1
    omega
/-- a text cut at its first sign / -/
theorem cut_slash (x : Str) : (47 ∉ x.cps.toList ∧ Txt.partition x (Str.ofString "/") = (x, Str.empty, Str.empty)) ∨
    (∃ a b : Str, 47 ∉ a.cps.toList ∧ x = a ++ Str.ofString "/" ++ b ∧ Txt.partition x (Str.ofString "/") = (a, Str.ofString "/", b)) := by
  have ey : TL.tl (Str.ofString "/") = 47 :: [] := by decide
  by_cases h : 47 ∈ x.cps.toList
  · obtain ⟨s, t, e, hs⟩ := List.append_of_mem h |> fun ⟨s, t, e⟩ => (show ∃ s t, x.cps.toList = s ++ 47 :: t ∧ 47 ∉ s from by
      clear e
      generalize x.cps.toList = l at h
      induction l with
      | nil => cases h
      | cons c r ih =>
        by_cases hc : c = 47
        · subst hc; exact ⟨[], r, rfl, by simp⟩
        · rcases List.mem_cons.mp h with z | z
          · exact absurd z.symm hc
          · obtain ⟨s, t, e, hs⟩ := ih z
            exact ⟨c :: s, t, by rw [e]; rfl, fun z => by rcases List.mem_cons.mp z with z | z; exact hc z.symm; exact hs z⟩)
    have ex : x = (⟨s.toArray⟩ : Str) ++ Str.ofString "/" ++ (⟨t.toArray⟩ : Str) := str_ext (by
      rw [app_list, app_list, e, show (Str.ofString "/").cps.toList = [47] by decide]
      simp)
    refine .inr ⟨⟨s.toArray⟩, ⟨t.toArray⟩, hs, ex, ?_⟩
    rw [ex]
    exact TL.partition_app ey hs
  · exact .inl ⟨h, TL.partition_none ey h⟩
theorem num_inj {m n : Int} (h1 : m.natAbs < 10 ^ 60) (h2 : n.natAbs < 10 ^ 60) (h : Str.ofString (toString m) = Str.ofString (toString n)) : m = n := by
  have e := intText_num h1
  rw [h, intText_num h2] at e
  exact (Option.some.inj e).symm
theorem num_no47 (n : Int) : 47 ∉ (Str.ofString (toString n)).cps.toList := fun h => by
  rw [num_list] at h
  rcases List.mem_append.mp h with h | h
  · by_cases q : n < 0
    · rw [if_pos q] at h; simp at h
    · rw [if_neg q] at h; cases h
  · have := digits_are n.natAbs 47 h
    omega
theorem cut_eq {a b c d : Str} (ha : 47 ∉ a.cps.toList) (hc : 47 ∉ c.cps.toList) (h : a ++ Str.ofString "/" ++ b = c ++ Str.ofString "/" ++ d) : a = c ∧ b = d := by
  have ey : TL.tl (Str.ofString "/") = 47 :: [] := by decide
  have h1 := TL.partition_app (b := b) ey ha
  rw [h, TL.partition_app ey hc] at h1
  exact ⟨(congrArg (·.1) h1).symm, (congrArg (·.2.2) h1).symm⟩
theorem cut_no {a b x : Str} (hx : 47 ∉ x.cps.toList) : x ≠ a ++ Str.ofString "/" ++ b := fun h => hx (by
  rw [h, app_list, app_list]
  exact List.mem_append_left _ (List.mem_append_right _ (by decide)))
/-- what int_in tells of a text: the number of which it is the text -/
def IsNum (x : Str) (n : Int) : Prop := n.natAbs < 10 ^ 60 ∧ x = Str.ofString (toString n)
theorem num_figs' {n : Int} (h : n.natAbs < 10 ^ 60) : Txt.isascii (Txt.removeprefix (Str.ofString (toString n)) (Str.ofString "-")) = true ∧ Txt.isdigit (Txt.removeprefix (Str.ofString (toString n)) (Str.ofString "-")) = true ∧ (Txt.removeprefix (Str.ofString (toString n)) (Str.ofString "-")).length ≤ 60 := by
  have e := removeprefix_minus (Str.ofString (toString n))
  obtain ⟨f, g⟩ := num_figs n
  have ha : Txt.isascii (Txt.removeprefix (Str.ofString (toString n)) (Str.ofString "-")) = true := (isascii_iff _).mpr (by
    rw [e]; intro c hc; have := f.1 c hc; omega)
  refine ⟨ha, (isdigit_iff _ ((isascii_iff _).mp ha)).mpr (by rw [e]; exact f), ?_⟩
  rw [len_list, e, g, List.length_map]
  exact (Nat.length_toDigits_le_iff (b := 10) (n := n.natAbs) (k := 60) (by decide) (by decide)).mpr h
section
variable {X : Cx}
/-- int, also of a text -/
def uIntT (vs : List V) (H : Hp) (Q : VK) : Prop := match vs with | [.str a] => ∃ n, intText? a = some n ∧ a.length ≤ 640 ∧ Q (.int n) H | _ => uInt vs H Q
theorem caIntT : CallR X (.type "int") uIntT := fun p s z H xs us Q I r h => by
  unfold uIntT at h
  split at h
  · obtain ⟨n, h1, h2, q⟩ := h
    exact call_int_str p s z H _ us Q I r ⟨_, n, rfl, h1, h2, q⟩
  · exact caInt p s z H _ us Q I r h
end
end U

/-! U13: exceptions that are caught by their classes, lambdas handed to a def, defs whose code object is known. -/
namespace U
open PySem PySem.Spec PyProof.Rows L2 LamX
/-- a def of the text whose code object is known -/
structure FunC (K : PySem.W.Frag) (nm qual : Str) (st : Stmt) (f : Addr) (fd : FuncData) (c : Addr) : Prop where
  ex : ∃ (oc : Value) (od : Option Addr) (kV doc pm : Value) (an : Option Addr) (ct : Value) (osl : Array (Option Value)), fd = PySem.W.fnOf nm qual (defArgs st) (defBody st) (defScope st) .none kV doc pm an (.ref c) ct ∧ K.lookup f = some ⟨oc, od, .func fd, osl⟩ ∧ PySem.W.codeIn K (.ref c) qual = true
section
variable {P : Program} {w : World} {K : PySem.W.Frag} {mg : Str → Option Value} {base : Heap} {CX : CXT} {k : Nat} {f c : Addr} {fd : FuncData} {ps N : List Str} {sp : Sp} {st : Stmt} {nm qual : Str}
theorem okC (F : FunC K nm qual st f fd c) (S : FnScope N ps (defScope st)) (len : ∀ vs H Q E, sp vs H Q E → vs.length = ps.length)
    (body : ∀ (A : Around) (outer : List Env) (s : Shared) (H : Hp) (vs : List V) (Q : VK) (E : XK), Room k (A.deeper (envOfC qual (defScope st) s.heap.objs.size f (.ref c))) → sp vs H Q E →
      ∃ t, PSs (cxOf CX P w K mg base N qual (defScope st) f (.ref c) A outer s H E).nox (defBody st) t ∧ t { nx := fun _ H' => Q .non H', rt := Q } (start N vs) H) : FnOk P w K mg base CX (k + 1) f fd ps sp := by
  obtain ⟨oc, od, kV, doc, pm, an, ct, osl, rfl, lk, hcd⟩ := F.ex
  exact ⟨len, fun A outer s H args us vs Q E hr e0 hb r h => run_ofS lk hcd S hr e0 hb r (len _ _ _ _ h) fun hr' => let ⟨t, ht, hq⟩ := body A outer s H vs Q E hr' h; ⟨t, ht.nox, hq⟩⟩
end
section
variable {X : Cx}
/-- x(lambda: body), x a def of the text -/
theorem peLam {T : List (Addr × Str)} {TT : (XK → Hp → VK → Prop) → Hp → VK → Prop} {x a : Str} {g c P : Addr} {k : Nat} {st : Stmt} {fd : FuncData} {Ng : List Str} {params : Arguments} {body : Expr} {scope : Scope} {t : XK → TE} {p lpos pos : Pos}
    (F : Fun X.K x x st g fd) (hm : X.mg x = some (.ref g)) (hb : Binds X.K fd [a] []) (Sg : FnScope Ng [a] (defScope st))
    (hG : ∀ cdg : Value, GivesTo X Ng x (defScope st) g cdg (defBody st) a (X.env.qual ++ "<lambda>") TT)
    (TB : TabB X.base X.mg c P) (hcode : X.env.code = .ref c) (hmT : (P, X.env.qual ++ "<lambda>") ∈ T) (hu : ∀ q ∈ T, q.1 = P → q.2 = X.env.qual ++ "<lambda>") (hr : Room (k + 2) X.A)
    (hbody : ∀ (A : Around) (outer : List Env) (s : Shared) (H : Hp) (E : XK) (f c' : Addr), Room k (A.deeper (lamEnv X scope s.heap.objs.size f c')) → PE (lamCx X A outer s H E scope f c') body (t E))
    (hg : Gl X x := by rfl) (hN : Ng[0]? = some a := by rfl) (hva : Vis (defScope st) a := by first | exact Or.inl rfl | exact Or.inr (Or.inl rfl)) (L : LamS X.env.scope scope := by exact LamX.lamS_by (by decide +kernel)) (hdef : defaultsOf params X.env = ([], []) := by rfl)
    (hbind : ∀ (q : Str) (cl : List (Str × Addr)) (pm cv ctv : Value), bindArgs (PySem.W.kla_fn "<lambda>" q params body scope cl pm cv ctv) ⟨[], []⟩ = pure [] := by (intros; rfl))
    (hdb : (x == ("__debug__" : Str)) = false := by decide) (hd : (a == ("__debug__" : Str)) = false := by decide) (hcd : (a == ("__classdict__" : Str)) = false := by decide) :
    PE X (.Call (.Name x p) [.Lambda params body scope lpos] [] pos) (tLam T TT t) := by
  have hk := F.kp
  obtain ⟨oc, od, kV, doc, pm, an, cdv, ct, osl, rfl, lk, hcg⟩ := F.ex
  exact pe_lamcall hg hm hk lk hcg hb Sg hN hva (hG cdv) TB hcode hmT hu hr L hdef hbind hbody hdb hd hcd
/-- what is made of a lambda: try: return a().pair, and two clauses, each with a text -/
def TTpair (K : PySem.W.Frag) (C : Addr) (sp : Sp) (C1 C2 : Addr) (w1 w2 : Str) : (XK → Hp → VK → Prop) → Hp → VK → Prop := fun tl H Q =>
  tl (fun cls _ H' => ∃ b, PySem.W.exmOne K cls (.ref C1) = some b ∧ (b = true → Q (.str w1) H') ∧ (b = false → ∃ b', PySem.W.exmOne K cls (.ref C2) = some b' ∧ (b' = true → Q (.str w2) H') ∧ (b' = false → False))) H
    fun x H1 => ∃ b dx fs, x = .ref b ∧ H1 b = some (.ins C dx fs) ∧ sp [.ref b] H1 Q E0
theorem told_pair {Ng : List Str} {x a e1 e2 q w1 w2 f : Str} {sg : Scope} {g C C1 C2 pa ga : Addr} {fdp : FuncData} {psp : List Str} {sp : Sp} {cdg : Value} {i j k : Nat} {p1 p2 p3 p4 p5 p6 p7 p8 p9 pb pc pd pe : Pos}
    (c : Cls X.K C) (hp : PropOf X.K C f pa ga) (F : FnOk X.prog X.w X.K X.mg X.base CX0 k ga fdp psp sp) (hr : Room (k + 2) X.A) (hb : Binds X.K fdp psp [])
    (g1 : sg.names.lookup e1 = some .globalImplicit) (m1 : X.mg e1 = some (.ref C1)) (g2 : sg.names.lookup e2 = some .globalImplicit) (m2 : X.mg e2 = some (.ref C2)) (d1 : (e1 == ("__debug__" : Str)) = false) (d2 : (e2 == ("__debug__" : Str)) = false)
    (hab : ∀ env : Env, attributeBase (.Call (.Name a p1) [] [] p2) f env (eval (.Call (.Name a p1) [] [] p2) env) = eval (.Call (.Name a p1) [] [] p2) env)
    (h0 : ∀ z : Addr, (L2.start Ng [V.ref z])[0]? = some (some (V.ref z))) :
    GivesTo X Ng x sg g cdg [.Try [.Return (some (.Attribute (.Call (.Name a p1) [] [] p2) f p9)) p3] [.ExceptHandler (some (.Name e1 p4)) none [.Return (some (.Constant (.str w1) i p5)) p6] p7, .ExceptHandler (some (.Name e2 pb)) none [.Return (some (.Constant (.str w2) j pc)) pd] pe] [] [] p8] a q (TTpair X.K C sp C1 C2 w1 w2) := by
  intro fl c' s H Q tl act hc h
  let Z : Cx := (cxOf C8.CX0 X.prog X.w X.K X.mg X.base Ng x sg g cdg X.A X.stack s H C8.E0).nox
  have n1 : Names Z e1 (.ref C1) := ⟨g1, d1, .inl m1⟩
  have n2 : Names Z e2 (.ref C2) := ⟨g2, d2, .inl m2⟩
  have hz : Room (k + 1) Z.A := hr.deeper _
  have T0 : Takes Z (fun _ _ _ _ => False) := takes_none5
  have suites : HdsOk Z [.ExceptHandler (some (.Name e1 p4)) none [.Return (some (.Constant (.str w1) i p5)) p6] p7, .ExceptHandler (some (.Name e2 pb)) none [.Return (some (.Constant (.str w2) j pc)) pd] pe]
      [(.ref C1, fun _ _ _ => tRet (tC (.str w1))), (.ref C2, fun _ _ _ => tRet (tC (.str w2)))] :=
    .cons n1 (fun _ _ _ _ _ _ _ => pss_one (ps_ret pe_str)) (.cons n2 (fun _ _ _ _ _ _ _ => pss_one (ps_ret pe_str)) .nil)
  refine ⟨_, pss_one (ps_try_many (X := Z) (tb := fun W D σ H => ∃ Ech : XK, (∀ cls d σ' H', Ech cls d H' → W cls d σ' H') ∧ σ[0]? = some (some (.ref fl)) ∧ H c' = some (CodeO c' q) ∧ tl Ech H fun y H1 => ∃ b dx fs, y = .ref b ∧ H1 b = some (.ins C dx fs) ∧ sp [.ref b] H1 D.rt E0)
    rfl rfl T0 (fun W pn xe tk _ => ?_) suites), ?_⟩
  · refine ⟨fun pins s' σ H' D I h' => ?_⟩
    obtain ⟨Ech, hW, h1, h2, h3⟩ := h'
    have act1 := act W pn xe Ech p1 p2 tk hW
    have whole := pss_one (ps_ret (pos := p3) (pe_prop (f := f) (pos := p9) act1 c hp F hz hb .nil pass0 (hab _)))
    exact whole.run pins s' σ H' D I ⟨h1, h2, h3⟩
  · refine ⟨_, fun cls d σ' H' hh => ?_, h0 fl, hc, h⟩
    obtain ⟨b, e, y1, y2⟩ := hh
    refine ⟨b, e, fun z _ _ => y1 z, fun z => ?_⟩
    obtain ⟨b', e', z1, z2⟩ := y2 z
    exact ⟨b', e', fun z _ _ => z1 z, fun z => z2 z⟩
end
/-- does a clause that names B take an error of the class A? -/
theorem exm_of {K : PySem.W.Frag} {A B : Addr} {b : Bool} (h1 : PySem.W.subIn K (.ref B) (.type "BaseException") = some true) (h2 : PySem.W.isClsIn K B = true) (h3 : PySem.W.typeIn K (.ref B) = some (.type "type")) (h4 : PySem.W.subIn K (.ref A) (.ref B) = some b) : PySem.W.exmOne K (.ref A) (.ref B) = some b := by
  have h2' : (PySem.W.clsIn K B).isSome = true := h2
  unfold PySem.W.exmOne
  rw [h1, if_pos (beq_self_eq_true _)]
  show (if ((PySem.W.clsIn K B).isSome && PySem.W.typeIn K (.ref B) == some (.type "type")) = true then _ else _) = _
  rw [h2', h3, if_pos (by rfl)]
  exact h4
theorem look_none {l : PySem.W.Frag} {a : Addr} (h : a ∉ l.map (·.1)) : l.lookup a = none := by
  induction l with
  | nil => rfl
  | cons p r ih =>
    obtain ⟨b, o⟩ := p
    rw [List.map_cons, List.mem_cons, not_or] at h
    rw [List.lookup_cons, show (a == b) = false from beq_eq_false_iff_ne.mpr h.1]
    exact ih h.2
open PySem.W in
/-- the end of a law whose defs make lambdas -/
theorem walkT {l : OpenLaw} {n k : Nat} {q : Program} {loose : List Str} {XP : (Str → Option Value) → Heap → Prop} {d : DefRec} {K : Params → Frag} {as ts : List Addr} {e : ∀ P, as = (K P).map (·.1)} {x : Str}
    (hn : l.most = some n) (hn2 : n ≤ sizeLine) (hdf : d.params.defaults = []) (hr : Room k callerA)
    (F : ∀ (w : World) (mg : Str → Option Value) (fa : Addr) (h : Heap), (K w.params).In h → h.Ns mainGlobals mg → mg d.name = some (.ref fa) →
      ∃ (fd : FuncData) (cs : List (Addr × Addr)) (sp : Sp), (∀ p ∈ cs, p.2 ∈ ts ∧ p.2 ∉ as) ∧ (∀ p ∈ cs, codeHdIn (K w.params) p.1 p.2 = true) ∧ (∀ (s : Shared) (u : Value), BindsTo s fd ⟨[u], []⟩ [(x, u)]) ∧
        (∀ (H : Hp) (a : Addr) (ns : List Int), ns.length ≤ n → (∀ z ∈ ns, Builtin.Int.intBits z ≤ 1048576) → (∀ p ∈ cs, H p.2 = some (.tbl #[])) → SqL (K w.params) H a (ns.map V.int) → sp [.ref a] H (fun v _ => v = .bl true) fun _ _ _ => False) ∧
        ∀ base : Heap, (K w.params).In base → base.Ns mainGlobals mg → (∀ p ∈ cs, TabB base mg p.1 p.2) → FnOk l.prog w (K w.params) mg base CX0 k fa fd [x] sp) :
    WalkO q loose XP (kmHook K as e ts).says l.row.toRowW d [] (fun f vs => PySem.call f vs) := by
  refine walk_ofTs (n := n) (k := k) (x := x) (CX := fun _ => CX0) hn hn2 hdf hr (fun w h Y => km_in_of Y) (fun w mg fa h Y KX G hm => ?_) (fun _ _ _ _ _ z => z)
  obtain ⟨fd, cs, sp, h1, h2, h3, h4, h5⟩ := F w mg fa h KX G hm
  refine ⟨fd, cs, sp, fun p hp => km_tabs_of Y p.2 (h1 p hp).1, fun p hp => look_none ?_, fun p hp => codeHd_of_K KX (h2 p hp), h3, h4, h5⟩
  rw [← e w.params]
  exact (h1 p hp).2
theorem kit_blt {K : PySem.W.Frag} {D : Addr} {T : String} {b : Bool} (hm : PySem.W.kitMeta T = true) (h : PySem.W.subIn K (.ref D) (.type T) = some b) : PySem.W.kitOne K (.ref D) (.type T) = some b := by
  unfold PySem.W.kitOne
  rw [if_neg (by intro z; cases z)]
  show (if PySem.W.kitMeta T = true then PySem.W.subIn K (.ref D) (.type T) else none) = _
  rw [if_pos hm]
  exact h
/-- a value of a built-in kind, or a ratio -/
def Ob (K : PySem.W.Frag) (C : Addr) (H : Hp) (v : V) : Prop := (∃ S, Kd K H v S) ∨ ∃ p q, IsR C H v p q
section
variable {K : PySem.W.Frag} {C : Addr} {H H' : Hp} {v : V} {S : String}
theorem tyx_up {t : Value} (h : TyX K H v t) (g : Gr H H') : TyX K H' v t := by
  cases h with
  | base b =>
    refine .base ?_
    cases b with
    | non => exact .non
    | bl x => exact .bl x
    | int x => exact .int x
    | str x => exact .str x
    | flt x => exact .flt x
    | lst e => exact .lst (g _ _ e)
    | frz e => exact .frz (g _ _ e)
    | tup e => exact .tup (g _ _ e)
    | dK e => exact .dK (g _ _ e)
    | dT e => exact .dT (g _ _ e)
    | ins e c1 c2 c3 c4 c5 => exact .ins (g _ _ e) c1 c2 c3 c4 c5
  | byt b => exact .byt b
  | set e => exact .set (g _ _ e)
  | kList e c => exact .kList e c
  | kTuple e c => exact .kTuple e c
  | kDict e c => exact .kDict e c
  | fTuple e => exact .fTuple (g _ _ e)
  | fDict e => exact .fDict (g _ _ e)
theorem Kd.up (h : Kd K H v S) (g : Gr H H') : Kd K H' v S := ⟨tyx_up h.1 g, h.2⟩
theorem Ob.up (h : Ob K C H v) (g : Gr H H') : Ob K C H' v := by
  rcases h with ⟨S, h⟩ | ⟨p, q, h⟩
  · exact .inl ⟨S, h.up g⟩
  · exact .inr ⟨p, q, h.up g⟩
end
end U

/-! U14: which texts are those of integers and of ratios. -/
namespace U
open PySem PySem.Spec PyProof.Rows L2
open NumText
theorem cut_from (z : Str) (k : Nat) : (cutS z (some (k : Int)) none).cps.toList = z.cps.toList.drop k := by
  have hl : z.length = z.cps.toList.length := by simp [Str.length]
  unfold cutS HT.sIx
  simp only [hl]
  rw [if_neg (by omega)]
  by_cases h : k ≤ z.cps.toList.length
  · rw [show min (k : Int).toNat z.cps.toList.length = k by omega]
    rw [List.take_of_length_le (by rw [List.length_drop]; omega)]
  · rw [show min (k : Int).toNat z.cps.toList.length = z.cps.toList.length by omega]
    rw [List.drop_eq_nil_of_le (Nat.le_refl _), List.drop_eq_nil_of_le (by omega)]
    simp
theorem cut_to (z : Str) (k : Nat) : (cutS z none (some (k : Int))).cps.toList = z.cps.toList.take k := by
  have hl : z.length = z.cps.toList.length := by simp [Str.length]
  unfold cutS HT.sIx
  simp only [hl]
  rw [if_neg (by omega)]
  by_cases h : k ≤ z.cps.toList.length
  · rw [show min (k : Int).toNat z.cps.toList.length = k by omega]
    simp
  · rw [show min (k : Int).toNat z.cps.toList.length = z.cps.toList.length by omega]
    have e1 : z.cps.toList.take k = z.cps.toList := List.take_of_length_le (by omega)
    rw [e1, List.drop_zero, Nat.sub_zero, List.take_length]
theorem canon (l : List Nat) : (∀ c ∈ l, 48 ≤ c ∧ c ≤ 57) → l ≠ [] → l.head? ≠ some 48 → TL.numL (digitsVal l) = l := by
  induction h : l.length generalizing l with
  | zero => intro _ n _; exact absurd (List.length_eq_zero_iff.mp h) n
  | succ k ih =>
    intro hd hn hh
    obtain ⟨r, c, rfl⟩ : ∃ r c, l = r ++ [c] := ⟨l.dropLast, l.getLast hn, (List.dropLast_concat_getLast hn).symm⟩
    have hc := hd c (by simp)
    have ed : digitsVal (r ++ [c]) = digitsVal r * 10 + (c - 48) := by
      unfold digitsVal
      rw [List.foldl_append]
      rfl
    rw [ed]
    by_cases e : r = []
    · subst e
      have e0 : digitsVal [] = 0 := rfl
      rw [e0, TL.numL_lt (by omega), show 48 + (0 * 10 + (c - 48)) = c by omega]
      rfl
    · have hr : r.head? ≠ some 48 := by
        intro z
        apply hh
        rw [List.head?_append, z]
        rfl
      have ih := ih r (by simp at h; exact h) (fun d hdm => hd d (by simp [hdm])) e hr
      have h1 : digitsVal r ≠ 0 := by
        intro z
        rw [z, TL.numL_lt (by decide)] at ih
        rw [← ih] at hr
        exact hr rfl
      rw [TL.numL_step (by omega), show (digitsVal r * 10 + (c - 48)) / 10 = digitsVal r by omega, ih, show 48 + (digitsVal r * 10 + (c - 48)) % 10 = c by omega]
theorem numL_head (n : Nat) : n ≠ 0 → (TL.numL n).head? ≠ some 48 := by
  induction n using Nat.strongRecOn with
  | _ n ih =>
    intro h0
    by_cases h : n < 10
    · rw [TL.numL_lt h]
      intro z
      have := Option.some.inj z
      omega
    · rw [TL.numL_step (by omega)]
      have := ih (n / 10) (by omega) (by omega)
      intro z
      apply this
      rw [List.head?_append] at z
      rcases e : TL.numL (n / 10) with _ | ⟨c, r⟩
      · exact absurd e (TL.numL_ne _)
      · rw [e] at z
        exact z
/-- the text of an integer of at most sixty figures -/
def numB (x : Str) : Prop := Figs (behind x.cps.toList) ∧ (behind x.cps.toList).length ≤ 60 ∧ ((behind x.cps.toList = [48] ∧ x.cps.toList = [48]) ∨ (behind x.cps.toList).head? ≠ some 48)
theorem numB_iff (x : Str) : numB x ↔ ∃ n, IsNum x n := by
  constructor
  · rintro ⟨⟨f1, f2⟩, f3, f4⟩
    have up : digitsVal (behind x.cps.toList) < 10 ^ 60 := Nat.lt_of_lt_of_le (digitsVal_lt f1) (Nat.pow_le_pow_right (by decide) f3)
    rcases e : x.cps.toList with _ | ⟨c, r⟩
    · rw [e] at f2; exact absurd rfl f2
    · by_cases h45 : c = 45
      · subst h45
        rw [e] at f1 f2 f3 f4 up
        have hh : r.head? ≠ some 48 := by
          rcases f4 with ⟨_, z⟩ | z
          · cases z
          · exact z
        have ec := canon r f1 f2 hh
        have h1 : digitsVal r ≠ 0 := fun z => by
          rw [z, TL.numL_lt (by decide)] at ec
          rw [← ec] at hh
          exact hh rfl
        refine ⟨-(digitsVal r : Int), by rw [Int.natAbs_neg, Int.natAbs_natCast]; exact up, str_ext ?_⟩
        rw [e, num_list, if_pos (by omega), Int.natAbs_neg, Int.natAbs_natCast]
        show 45 :: r = [45] ++ TL.numL (digitsVal r)
        rw [ec]
        rfl
      · have eb : behind (c :: r) = c :: r := by
          unfold behind
          split
          · rename_i heq; cases heq; exact absurd rfl h45
          · rfl
        rw [e, eb] at f1 f2 f3 f4 up
        refine ⟨(digitsVal (c :: r) : Int), by rw [Int.natAbs_natCast]; exact up, str_ext ?_⟩
        rw [e, num_list, if_neg (by omega), Int.natAbs_natCast, List.nil_append]
        show c :: r = TL.numL (digitsVal (c :: r))
        rcases f4 with ⟨z, _⟩ | z
        · rw [z]; decide
        · exact (canon _ f1 f2 z).symm
  · rintro ⟨n, h1, rfl⟩
    obtain ⟨f, g⟩ := num_figs n
    refine ⟨f, ?_, ?_⟩
    · rw [g, List.length_map]
      exact (Nat.length_toDigits_le_iff (b := 10) (n := n.natAbs) (k := 60) (by decide) (by decide)).mpr h1
    · by_cases h0 : n = 0
      · subst h0; exact .inl ⟨by decide, by decide⟩
      · right
        rw [g]
        exact numL_head _ (by omega)
/-- a text of plain signs -/
def Asc (x : Str) : Prop := ∀ c ∈ x.cps.toList, c < 128
theorem Asc.app {x y : Str} (h : Asc x) (k : Asc y) : Asc (x ++ y) := fun c hc => by
  rw [app_list] at hc
  rcases List.mem_append.mp hc with z | z
  · exact h c z
  · exact k c z
theorem Asc.sub {x y : Str} (h : Asc x) (k : ∀ c ∈ y.cps.toList, c ∈ x.cps.toList) : Asc y := fun c hc => h c (k c hc)
def txs (l : List Str) : List PyData := l.map PyData.str
theorem dp_txs {K : PySem.W.Frag} {H : Hp} : ∀ l : List Str, DpAll K H (l.map V.str) (txs l)
  | [] => .nil
  | _ :: r => .cons (.str _) (dp_txs r)
theorem lay_txs : ∀ l : List Str, (∀ z ∈ l, Asc z) → PyData.canLayAll0 (txs l) = true ∧ PyData.depthAll (txs l) ≤ 1
  | [], _ => ⟨rfl, by decide⟩
  | x :: r, h => by
    obtain ⟨a, b⟩ := lay_txs r fun z hz => h z (List.mem_cons_of_mem _ hz)
    have hx : PyData.canLay0 (.str x) = true := by
      show x.cps.all (· < 0x110000) = true
      rw [Array.all_eq_true_iff_forall_mem]
      intro c hc
      have := h x (List.mem_cons_self ..) c (Array.mem_toList_iff.mpr hc)
      exact decide_eq_true (by omega)
    refine ⟨?_, ?_⟩
    · show (PyData.canLay0 (.str x) && PyData.canLayAll0 (txs r)) = true
      rw [hx, a]
      rfl
    · show max (PyData.depth (.str x)) (PyData.depthAll (txs r)) ≤ 1
      have e : PyData.depth (.str x) = 0 := rfl
      omega
theorem shaped_txs {l : List Str} (h : ∀ z ∈ l, Asc z) : SeqAt.shaped (.list (txs l)) = true := by
  obtain ⟨a, b⟩ := lay_txs l h
  show (PyData.canLayAll0 (txs l) && decide (PyData.depthAll (txs l) + 1 ≤ 64)) = true
  rw [a, decide_eq_true (by omega)]
  rfl
theorem eqv_txs_nil (l : List Str) : PyData.eqv (.list (txs l)) (.list []) = decide (l = []) := by
  cases l with
  | nil => rfl
  | cons x r => rw [decide_eq_false (by simp)]; rfl
theorem cut_all : ∀ (n : Nat) (x : Str), x.length ≤ n → ∃ parts : List Str, parts ≠ [] ∧ (∀ z ∈ parts, 47 ∉ z.cps.toList ∧ (∀ c ∈ z.cps.toList, c ∈ x.cps.toList) ∧ z.length ≤ x.length) ∧ Txt.join (Str.ofString "/") parts = x
  | n, x, h => by
    have e47 : (Str.ofString "/").cps.toList = [47] := by decide
    have l47 : (Str.ofString "/").length = 1 := by decide
    rcases cut_slash x with ⟨hs, _⟩ | ⟨a, b, hs, ex, _⟩
    · refine ⟨[x], by simp, fun z hz => ?_, ?_⟩
      · obtain rfl := List.mem_singleton.mp hz
        exact ⟨hs, fun c hc => hc, Nat.le_refl _⟩
      · rw [TL.join_eq]; rfl
    · have hx : x.length = a.length + 1 + b.length := by rw [ex, app_len, app_len, l47]
      match n, h with
      | 0, h => omega
      | m + 1, h =>
        obtain ⟨ps, p1, p2, p3⟩ := cut_all m b (by omega)
        have sub : ∀ c, (c ∈ a.cps.toList ∨ c ∈ b.cps.toList) → c ∈ x.cps.toList := fun c hc => by
          rw [ex, app_list, app_list]
          rcases hc with hc | hc
          · exact List.mem_append_left _ (List.mem_append_left _ hc)
          · exact List.mem_append_right _ hc
        refine ⟨a :: ps, by simp, fun z hz => ?_, ?_⟩
        · rcases List.mem_cons.mp hz with rfl | hz
          · exact ⟨hs, fun c hc => sub c (.inl hc), by omega⟩
          · obtain ⟨z1, z2, z3⟩ := p2 z hz
            exact ⟨z1, fun c hc => sub c (.inr (z2 c hc)), by omega⟩
        · rw [TL.join_eq] at p3 ⊢
          cases ps with
          | nil => exact absurd rfl p1
          | cons z r =>
            show a ++ Str.ofString "/" ++ Str.join (Str.ofString "/") (z :: r) = x
            rw [p3, ex]
/-- a text split at its signs / -/
theorem split_slash (x : Str) : ∃ parts : List Str, Txt.split x (Str.ofString "/") = parts ∧ parts.length ≤ x.length + 2 ∧ (∀ z ∈ parts, (∀ c ∈ z.cps.toList, c ∈ x.cps.toList) ∧ z.length ≤ x.length) ∧
    ((parts = [x] ∧ 47 ∉ x.cps.toList) ∨ (∃ a b, parts = [a, b] ∧ x = a ++ Str.ofString "/" ++ b ∧ 47 ∉ a.cps.toList ∧ 47 ∉ b.cps.toList) ∨ (2 < parts.length ∧ ∃ a b, x = a ++ Str.ofString "/" ++ b ∧ 47 ∉ a.cps.toList ∧ 47 ∈ b.cps.toList)) := by
  obtain ⟨ps, p1, p2, p3⟩ := cut_all x.length x (Nat.le_refl _)
  have ey : TL.tl (Str.ofString "/") = 47 :: [] := by decide
  have e47 : (Str.ofString "/").cps.toList = [47] := by decide
  have sp := TL.split_join ey (by decide +kernel) p1 fun z hz => (p2 z hz).1
  rw [p3] at sp
  refine ⟨ps, sp, by rw [← sp]; exact PyProof.Rows.split_le _ _, fun z hz => (p2 z hz).2, ?_⟩
  rw [TL.join_eq] at p3
  match ps, p1, p2, p3 with
  | [], h, _, _ => exact absurd rfl h
  | [a], _, h2, h3 =>
    have h3' : a = x := h3
    subst h3'
    exact .inl ⟨rfl, (h2 a (List.mem_cons_self ..)).1⟩
  | [a, b], _, h2, h3 =>
    have h3' : a ++ Str.ofString "/" ++ b = x := h3
    exact .inr (.inl ⟨a, b, rfl, h3'.symm, (h2 a (by simp)).1, (h2 b (by simp)).1⟩)
  | a :: b :: c :: r, _, h2, h3 =>
    have h3' : a ++ Str.ofString "/" ++ (b ++ Str.ofString "/" ++ Str.join (Str.ofString "/") (c :: r)) = x := h3
    refine .inr (.inr ⟨by simp only [List.length_cons]; omega, a, _, h3'.symm, (h2 a (by simp)).1, ?_⟩)
    rw [app_list, app_list, e47]
    exact List.mem_append_left _ (List.mem_append_right _ (List.mem_cons_self ..))
/-- x is the text of the ratio p / q of at most sixty figures -/
def IsRat (x : Str) (p q : Int) : Prop := Low p q ∧ p.natAbs < 10 ^ 60 ∧ q.natAbs < 10 ^ 60 ∧ x = rtext p q
theorem rat_slash {p q : Int} {a b : Str} (ha : 47 ∉ a.cps.toList) (h : a ++ Str.ofString "/" ++ b = rtext p q) : q ≠ 1 ∧ a = Str.ofString (toString p) ∧ b = Str.ofString (toString q) := by
  unfold rtext at h
  by_cases e : q = 1
  · rw [if_pos e] at h
    exact absurd h.symm (cut_no (num_no47 p))
  · rw [if_neg e] at h
    exact ⟨e, cut_eq ha (num_no47 p) h⟩
theorem rat_plain {p q : Int} {x : Str} (hx : 47 ∉ x.cps.toList) (h : x = rtext p q) : q = 1 ∧ x = Str.ofString (toString p) := by
  unfold rtext at h
  by_cases e : q = 1
  · rw [if_pos e] at h; exact ⟨e, h⟩
  · rw [if_neg e] at h
    exact absurd h (cut_no hx)
theorem ratA {x : Str} {p q : Int} (hs : 47 ∉ x.cps.toList) (h : IsRat x p q) : q = 1 ∧ IsNum x p := by
  obtain ⟨e1, e2⟩ := rat_plain hs h.2.2.2
  exact ⟨e1, h.2.1, e2⟩
theorem ratB {x a b : Str} {p q : Int} (hs : 47 ∉ a.cps.toList) (ex : x = a ++ Str.ofString "/" ++ b) (h : IsRat x p q) : q ≠ 1 ∧ IsNum a p ∧ IsNum b q := by
  obtain ⟨e0, e1, e2⟩ := rat_slash hs (ex.symm.trans h.2.2.2)
  exact ⟨e0, ⟨h.2.1, e1⟩, ⟨h.2.2.1, e2⟩⟩
theorem num_uniq {x : Str} {m n : Int} (h1 : IsNum x m) (h2 : IsNum x n) : m = n := num_inj h1.1 h2.1 (h1.2.symm.trans h2.2)
theorem rat_inj {x : Str} {p q p' q' : Int} (h1 : IsRat x p q) (h2 : IsRat x p' q') : p = p' ∧ q = q' := by
  rcases cut_slash x with ⟨hs, _⟩ | ⟨a, b, hs, ex, _⟩
  · obtain ⟨a1, a2⟩ := ratA hs h1
    obtain ⟨b1, b2⟩ := ratA hs h2
    exact ⟨num_uniq a2 b2, by rw [a1, b1]⟩
  · obtain ⟨_, a1, a2⟩ := ratB hs ex h1
    obtain ⟨_, b1, b2⟩ := ratB hs ex h2
    exact ⟨num_uniq a1 b1, num_uniq a2 b2⟩
theorem low_self {p q : Int} (h : Low p q) : p / gcdI p q = p ∧ q / gcdI p q = q := (Val.of h.pos).inj (Val.self h) rfl
theorem slash_len : (Str.ofString "/").length = 1 := by decide
theorem empty_len : Str.empty.length = 0 := by decide
theorem nt {p : Prop} [Decidable p] (h : (!decide p) = true) : ¬ p := by simpa using h
theorem nf {p : Prop} [Decidable p] (h : (!decide p) = false) : p := by simpa using h
theorem low_one (n : Int) : Low n 1 := by
  have h0 := gcdI_pos (a := n) (b := 1) (by decide)
  have h1 := gcdI_le (a := n) (b := 1) (by decide)
  have e : gcdI n 1 = 1 := by omega
  have := (low_of (a := n) (b := 1) (by decide)).1
  rw [e] at this
  simpa using this
end U

/-! U15: a list, a tuple or a dict beside a text: they differ. -/
namespace U
open PySem PySem.Spec PyProof.Rows L2 PySem.SeqAt
open AutoSeq1 (wpAny_loadPart')
theorem dict_other (l : Addr) (z : Str) (k : Tok) (dd : Option Addr) (es : Array DictEntry) (ep : Nat) (sl : Array (Option Value)) :
    Meets (Builtin.«dict.__ne__» ⟨[.ref l, .str z k], []⟩)
      (fun _ R s => s.heap.get? l = some { cls := .type "dict", dict := dd, data := .dict es ep, slots := sl } ∧ R (.ok (.ret .notImplemented)) s) :=
  .of_wp fun prog w A R s h => by
    obtain ⟨hp, g, d, tk, os⟩ := s
    obtain ⟨hl, h⟩ := h
    have f1 := F.sub_str_dict
    wp_walk using wpAny_loadPart' hl, wpAny_load hl
    exact ⟨_, rfl, h⟩
theorem str_other (l : Addr) (z : Str) (k : Tok) (dd : Option Addr) (es : Array DictEntry) (ep : Nat) (sl : Array (Option Value)) :
    Meets (Builtin.«str.__ne__» ⟨[.str z k, .ref l], []⟩)
      (fun _ R s => s.heap.get? l = some { cls := .type "dict", dict := dd, data := .dict es ep, slots := sl } ∧ R (.ok (.ret .notImplemented)) s) :=
  .of_wp fun prog w A R s h => by
    obtain ⟨hp, g, d, tk, os⟩ := s
    obtain ⟨hl, h⟩ := h
    wp_walk using wpAny_loadPart' hl, wpAny_load hl
    exact ⟨_, rfl, h⟩
section
variable {X : Cx}
/-- x != a text, x a list, a tuple or a dict -/
def uNeS : R2 := fun x y H Q => ∃ (a : Addr) (z : Str), x = .ref a ∧ y = .str z ∧ ((∃ xs, H a = some (.lst xs)) ∨ (∃ xs, H a = some (.tup xs)) ∨ ∃ kvs, H a = some (.dK kvs)) ∧ Q (.bl true) H
theorem opNeS (hu : X.A.units + 64 < cLine) : OpR X (compareOp .NotEq) uNeS := fun p s σ H x y v u Q I rx ry h => by
  obtain ⟨a, z, rfl, rfl, hk, q⟩ := h
  obtain rfl : v = Value.ref a := rx
  obtain ⟨k, rfl⟩ : ∃ k, u = Value.str z k := ry
  have room : X.A.units < cLine := by omega
  have fin : EP X p σ Q (.bool true) s := ⟨.bl true, H, I, rfl, q⟩
  rcases hk with ⟨xs, e⟩ | ⟨xs, e⟩ | ⟨kvs, e⟩
  · obtain ⟨its, _, hl, _⟩ := I.list (SqL.of e)
    exact RcNeAt.list_str z k hl.isList room X.prog X.w X.xe _ fin
  · obtain ⟨its, _, hl, _⟩ := I.tuple (SqT.of e)
    exact RcNeAt.tuple_str z k hl room X.prog X.w X.xe _ fin
  · obtain ⟨_, _, vs, _, D⟩ := (show ObjOk X.prog X.w H s.heap a (.dK kvs) from I.hok a _ e)
    obtain ⟨o, es, ep, ho, ⟨c1, c2, c3⟩, hd, _⟩ := D
    obtain ⟨cls, dd, data, sl⟩ := o
    simp only at c1 c2 c3 hd
    subst c1 c2 c3 hd
    show wpAny _ _ (richCompare .NotEq (.ref a) (.str z k)) _ _ s
    refine rc_ne_decline_or (k := false) (Ta := "dict") (Tb := "str") ⟨_, ho, rfl⟩ (typeIs_str s z k) (by decide) F.sub_str_dict F.slot_dict_ne F.slot_str_ne_refl ?_ ?_ ?_ (.inr room) fin
    · intro R hR
      exact call_meets F.slot_dict_ne ⟨_, ho, rfl⟩ F.entry_dict_ne (F.args_dict_ne_2 _ _) (dict_other a z k _ es ep _) ⟨ho, hR⟩
    · intro R hR
      exact call_meets F.slot_str_ne_refl (typeIs_str s z k) F.entry_str_ne (F.args_str_ne_2 _ _) (str_other a z k _ es ep _) ⟨ho, hR⟩
    · intro R hR
      exact wpAny_of_eq (rfl : isSame (.ref a) (.str z k) = pure false) hR
/-- a value of any kind beside a text -/
@[irreducible] def uNeT (K : PySem.W.Frag) : R2 := fun x y H Q => match scal x y with | true => Q (.bl (!decide (x = y))) H | false => uNeS x y H Q
theorem opNeT (hu : X.A.units + 64 < cLine) : OpR X (compareOp .NotEq) (uNeT X.K) := fun p s z H x y v u Q I rx ry h => by
  unfold uNeT at h
  split at h
  · exact op_ne p s z H _ _ v u Q I rx ry ⟨by assumption, h⟩
  · exact opNeS hu p s z H _ _ v u Q I rx ry h
theorem neT_str {K : PySem.W.Frag} {a b : Str} {H : Hp} {R : VK} (k : R (.bl (!decide (V.str a = V.str b))) H) : uNeT K (.str a) (.str b) H R := by
  unfold uNeT
  exact k
theorem neT_flat {K : PySem.W.Frag} {v : V} {b : Str} {H : Hp} {R : VK} (h : scal v (.str b) = true) (k : R (.bl (!decide (v = V.str b))) H) : uNeT K v (.str b) H R := by
  unfold uNeT
  rw [h]
  exact k
theorem neT_ref {K : PySem.W.Frag} {a : Addr} {b : Str} {H : Hp} {R : VK} (h : (∃ xs, H a = some (.lst xs)) ∨ (∃ xs, H a = some (.tup xs)) ∨ ∃ kvs, H a = some (.dK kvs)) (k : R (.bl true) H) : uNeT K (.ref a) (.str b) H R := by
  unfold uNeT
  exact ⟨a, b, rfl, rfl, h, k⟩
end
/-- all but the tables and the object at d stay -/
def Kp (d : Addr) (H H' : Hp) : Prop := ∀ b u, H b = some u → (∀ ps, u ≠ .tbl ps) → b ≠ d → H' b = some u
section
variable {K : PySem.W.Frag} {C d : Addr} {H H' H2 : Hp} {v : V} {S : String} {p q : Int} {n : Nat} {o : HO}
theorem Kp.refl (d : Addr) (H : Hp) : Kp d H H := fun _ _ e _ _ => e
theorem Kp.trans (a : Kp d H H') (b : Kp d H' H2) : Kp d H H2 := fun c u e t n => b c u (a c u e t n) t n
theorem Kp.of (g : Gr H H') : Kp d H H' := fun b u e _ _ => g b u e
theorem Kp.dice (f : ∀ b u, H b = some u → b ≠ d → H' b = some u) : Kp d H H' := fun b u e _ n => f b u e n
theorem Kp.ext (f : LamX.ExtN H H') : Kp d H H' := fun b u e t _ => f b u e t
theorem dice_ne (hd : H d = some o) (D : Dice n o) {b : Addr} {C dx : Addr} {fs : List (Str × V)} (e : H b = some (.ins C dx fs)) : b ≠ d := fun z => by
  obtain ⟨a1, a2, a3, rfl, _⟩ := D
  rw [z, hd] at e
  cases e
theorem tup_ne (hd : H d = some o) (D : Dice n o) {b : Addr} {xs : List V} (e : H b = some (.tup xs)) : b ≠ d := fun z => by
  obtain ⟨a1, a2, a3, rfl, _⟩ := D
  rw [z, hd] at e
  cases e
theorem IsR.kp (r : IsR C H v p q) (k : Kp d H H') (hd : H d = some o) (D : Dice n o) : IsR C H' v p q := by
  obtain ⟨a, dx, e, h⟩ := r
  exact ⟨a, dx, e, k _ _ h (fun ps z => by cases z) (dice_ne hd D h)⟩
theorem tyx_kp {t : Value} (h : TyX K H v t) (k : Kp d H H') (ne : v ≠ .ref d) : TyX K H' v t := by
  have go : ∀ {a : Addr} {u : HO}, v = .ref a → H a = some u → (∀ ps, u ≠ .tbl ps) → H' a = some u := fun {a u} ev e t => k a u e t fun z => ne (by rw [ev, z])
  cases h with
  | base b =>
    refine .base ?_
    cases b with
    | non => exact .non
    | bl x => exact .bl x
    | int x => exact .int x
    | str x => exact .str x
    | flt x => exact .flt x
    | lst e => exact .lst (go rfl e (fun _ z => by cases z))
    | frz e => exact .frz (go rfl e (fun _ z => by cases z))
    | tup e => exact .tup (go rfl e (fun _ z => by cases z))
    | dK e => exact .dK (go rfl e (fun _ z => by cases z))
    | dT e => exact .dT (go rfl e (fun _ z => by cases z))
    | ins e c1 c2 c3 c4 c5 => exact .ins (go rfl e (fun _ z => by cases z)) c1 c2 c3 c4 c5
  | byt b => exact .byt b
  | set e => exact .set (go rfl e (fun _ z => by cases z))
  | kList e c => exact .kList e c
  | kTuple e c => exact .kTuple e c
  | kDict e c => exact .kDict e c
  | fTuple e => exact .fTuple (go rfl e (fun _ z => by cases z))
  | fDict e => exact .fDict (go rfl e (fun _ z => by cases z))
theorem Kd.kp (h : Kd K H v S) (k : Kp d H H') (ne : v ≠ .ref d) : Kd K H' v S := ⟨tyx_kp h.1 k ne, h.2⟩
theorem Ob.kp (h : Ob K C H v) (k : Kp d H H') (ne : v ≠ .ref d) (hd : H d = some o) (D : Dice n o) : Ob K C H' v := by
  rcases h with ⟨S, h⟩ | ⟨p, q, h⟩
  · exact .inl ⟨S, h.kp k ne⟩
  · exact .inr ⟨p, q, h.kp k hd D⟩
theorem tabs_dice {T : List (Addr × Str)} (t : LamX.Tabs T H) (f : ∀ b u, H b = some u → b ≠ d → H' b = some u) (hd : H d = some o) (D : Dice n o) : LamX.Tabs T H' := fun p hp => by
  obtain ⟨ps, h1, h2, h3⟩ := t p hp
  have ne : p.1 ≠ d := fun z => by
    obtain ⟨a1, a2, a3, rfl, _⟩ := D
    rw [z, hd] at h1
    cases h1
  refine ⟨ps, f _ _ h1 ne, h2, fun pos cv hc => ?_⟩
  obtain ⟨c, e1, e2⟩ := h3 pos cv hc
  refine ⟨c, e1, f _ _ e2 fun z => ?_⟩
  obtain ⟨a1, a2, a3, rfl, _⟩ := D
  rw [z, hd] at e2
  have e3 := Option.some.inj e2
  unfold LamX.CodeO at e3
  cases e3
end
/-- on the way: what stood at A stands, the dice d, a list at l that grows, and the tables -/
structure Way (T : List (Addr × Str)) (d l : Addr) (o : HO) (A : Hp) (H : Hp) (L : List V) : Prop where
  kp : Kp d A H
  dd : H d = some o
  tb : LamX.Tabs T H
  ll : H l = some (.lst L)
section
variable {T : List (Addr × Str)} {d l : Addr} {o : HO} {A H H' : Hp} {L : List V} {n : Nat}
theorem dice_no_tbl (D : Dice n o) : ∀ ps, o ≠ .tbl ps := fun ps z => by
  obtain ⟨_, _, _, rfl, _⟩ := D
  cases z
theorem Way.lam (s : Way T d l o A H L) (D : Dice n o) (x : LamX.ExtN H H') (t : LamX.Tabs T H') : Way T d l o A H' L := ⟨s.kp.trans (Kp.ext x), x _ _ s.dd (dice_no_tbl D), t, x _ _ s.ll (fun _ z => by cases z)⟩
theorem Way.gr (s : Way T d l o A H L) (g : Gr H H') : Way T d l o A H' L := ⟨s.kp.trans (Kp.of g), g _ _ s.dd, s.tb.ext g, g _ _ s.ll⟩
theorem tabs_set {M L' : List V} (t : LamX.Tabs T H) (e : H l = some (.lst M)) : LamX.Tabs T (upd H l (.lst L')) := fun p hp => by
  obtain ⟨ps, h1, h2, h3⟩ := t p hp
  have n1 : p.1 ≠ l := fun z => by rw [z, e] at h1; cases h1
  refine ⟨ps, by rw [upd_ne n1]; exact h1, h2, fun pos cv hc => ?_⟩
  obtain ⟨c, e1, e2⟩ := h3 pos cv hc
  refine ⟨c, e1, ?_⟩
  have n2 : c ≠ l := fun z => by
    rw [z, e] at e2
    have e3 := Option.some.inj e2
    unfold LamX.CodeO at e3
    cases e3
  rw [upd_ne n2]
  exact e2
theorem Way.set (s : Way T d l o A H L) (h : A l = none) (n : l ≠ d) (L' : List V) : Way T d l o A (upd H l (.lst L')) L' := by
  refine ⟨fun b u e t nb => ?_, ?_, tabs_set s.tb s.ll, upd_same⟩
  · rw [upd_ne (ne_of_none e h)]
    exact s.kp b u e t nb
  · rw [upd_ne (fun z => n z.symm)]
    exact s.dd
theorem Way.app (s : Way T d l o A H L) (h : A l = none) (n : l ≠ d) (y : V) : Way T d l o A (upd H l (.lst (L ++ [y]))) (L ++ [y]) := s.set h n _
/-- one more object is known to stand -/
theorem Way.more (s : Way T d l o A H L) (h : A l = none) {t : Addr} {u : HO} (ht : H t = some u) (nt : ∀ ps, u ≠ .tbl ps) (nl : t ≠ l) : ∃ A' : Hp, A' l = none ∧ A' t = some u ∧ Kp d A A' ∧ Way T d l o A' H L := by
  refine ⟨fun b => if b = t then some u else A b, ?_, if_pos rfl, fun b w e tb nb => ?_, ⟨fun b w e tb nb => ?_, s.dd, s.tb, s.ll⟩⟩
  · show (if l = t then _ else _) = _
    rw [if_neg (fun z => nl z.symm)]
    exact h
  · show (if b = t then _ else _) = _
    by_cases hb : b = t
    · rw [if_pos hb, ← ht, ← hb]
      exact s.kp b w e tb nb
    · rw [if_neg hb]
      exact e
  · by_cases hb : b = t
    · have e' : some u = some w := (if_pos hb).symm.trans e
      rw [hb, ht, e']
    · exact s.kp b w ((if_neg hb).symm.trans e) tb nb
theorem Way.start (g : Gr A H) (hd : A d = some o) (t : LamX.Tabs T A) (e : H l = some (.lst L)) : Way T d l o A H L := ⟨Kp.of g, g _ _ hd, t.ext g, e⟩
end
theorem asc_num (n : Int) : Asc (Str.ofString (toString n)) := fun c hc => by
  rw [num_list] at hc
  rcases List.mem_append.mp hc with h | h
  · by_cases q : n < 0
    · rw [if_pos q] at h
      obtain rfl := List.mem_singleton.mp h
      decide
    · rw [if_neg q] at h; cases h
  · have := digits_are _ c h
    omega
theorem asc_rtext (p q : Int) : Asc (rtext p q) := by
  unfold rtext
  split
  · exact asc_num p
  · refine ((asc_num p).app ?_).app (asc_num q)
    intro c hc
    rw [show (Str.ofString "/").cps.toList = [47] by decide] at hc
    obtain rfl := List.mem_singleton.mp hc
    decide
theorem len_rtext {p q : Int} (hp : p.natAbs < 10 ^ 60) (hq : q.natAbs < 10 ^ 60) : (rtext p q).length ≤ 201 := by
  have h1 := num_short hp
  have h2 := num_short hq
  unfold rtext
  split
  · omega
  · rw [app_len, app_len, slash_len]
    omega
theorem sql_ext {K : PySem.W.Frag} {H H' : Hp} {a : Addr} {xs : List V} (h : SqL K H a xs) (x : LamX.ExtN H H') : SqL K H' a xs := by
  rcases h with (h | ⟨o, h⟩) | h
  · exact .inl (.inl (x _ _ h (fun _ z => by cases z)))
  · exact .inl (.inr ⟨o, x _ _ h (fun _ z => by cases z)⟩)
  · exact .inr h
instance (l : List Nat) : Decidable (Figs l) := by unfold Figs; infer_instance
instance (x : Str) : Decidable (numB x) := by unfold numB; infer_instance
theorem rat_no1 {x : Str} (h : 47 ∉ x.cps.toList) (n : ¬ numB x) (p q : Int) : ¬ IsRat x p q := fun hr => n ((numB_iff _).mpr ⟨_, (ratA h hr).2⟩)
theorem rat_no2 {x a b : Str} (e : x = a ++ Str.ofString "/" ++ b) (h : 47 ∉ a.cps.toList) (n : ¬ numB a ∨ ¬ numB b) (p q : Int) : ¬ IsRat x p q := fun hr => by
  obtain ⟨_, h1, h2⟩ := ratB h e hr
  rcases n with n | n
  · exact n ((numB_iff _).mpr ⟨_, h1⟩)
  · exact n ((numB_iff _).mpr ⟨_, h2⟩)
theorem rat_no3 {x : Str} {n m : Int} (e : x = Str.ofString (toString n) ++ Str.ofString "/" ++ Str.ofString (toString m)) (hn : n.natAbs < 10 ^ 60) (hm : m.natAbs < 10 ^ 60) (no : m = 1 ∨ m ≤ 0 ∨ Nat.gcd n.natAbs m.natAbs ≠ 1) (p q : Int) : ¬ IsRat x p q := fun hr => by
  obtain ⟨h0, h1, h2⟩ := ratB (num_no47 n) e hr
  obtain rfl := num_uniq h1 ⟨hn, rfl⟩
  obtain rfl := num_uniq h2 ⟨hm, rfl⟩
  have := hr.1.pos
  rcases no with z | z | z
  · exact h0 z
  · omega
  · exact z hr.1.one
end U

/-! U16: binary texts, least common multiples. -/
namespace U
open PySem PySem.Spec PyProof.Rows L2 PySem.Builtin PySem.Builtin.Str PySem.Builtin.Int PySem.Builtin.Float
/-- the binary text of a number -/
def biT (n : Nat) : Str := ⟨((Nat.toDigits 2 n).map Char.toNat).toArray⟩
def specB : FormatSpec := { align := 62, type := some 98 }
theorem parse_b : parseFormatSpec (Str.ofString "b").cps.toList "int" 62 = .ok specB := by rfl
section
variable {prog : Program} {w : World} {A : Around} {E : Value → Shared → Prop} {s : Shared}
theorem field_b {n : Nat} {k : Tok} {Q : Value → Shared → Prop} (hl : (biT n).length ≤ 1000000) (h : Q (.str (biT n) (s.toks + 1)) { s with toks := s.toks + 1 + 1 }) : wpAny (model prog w) A (formatField (.int (n : Int) k) (Str.ofString "b")) Q E s := by
  have big : (biT n).length ≤ sizeLine := small_ok hl
  show wpAny _ _ (holding [.int (n : Int) k] (pyFormat (.int (n : Int) k) (Str.ofString "b"))) Q E s
  refine wpAny_holding ?_
  unfold pyFormat
  refine wpAny_bind (wpAny_mkStr ?_ (by decide))
  refine wpAny_bind (m := callSpecial? (.int (n : Int) k) (Str.ofString "__format__") [.str (Str.ofString "b") s.toks])
    (wpAny_callSpecial?_slot (name := Str.ofString "__format__") (typeIs_int _ (n : Int) k) F.slot_int_format ?_)
  refine wpAny_call (codeAny_call_builtin F.slot_int_format.plain F.entry_int_format (F.slot_int_format.check _ _ _ _ _ _ _ _ (typeIs_int _ (n : Int) k) (F.args_int_format_2 _ _) ?_))
  unfold Builtin.«int.__format__»
  simp only [selfAndOne, noKeywords, intOfSelf, asInt?, asStr?, List.isEmpty_nil, if_true, pure_bind, bind_pure, bind_assoc, Bool.false_eq_true, if_false, show (Value.str (Str.ofString "b") s.toks == Value.none) = false from rfl, show ((Str.ofString "b").length == 0) = false from rfl]
  refine wpAny_bind (wpAny_typeNameOf (T := "str") (typeIs_str _ _ _) (by decide) fun _ => ?_)
  rw [if_neg (by decide)]
  refine wpAny_bind (wpAny_typeNameOfCut_int ?_)
  simp only [parse_b]
  rw [if_pos (by decide)]
  suffices hh : ∀ y : Str, y = biT n → wpAny (model prog w) A.in1 (retStr y) _ _ _ from hh _ (by
    refine str_ext ?_
    have ne : (Nat.toDigits 2 n).map Char.toNat ≠ [] := fun z => Nat.toDigits_ne_nil (List.map_eq_nil_iff.mp z)
    rw [show decide ((n : Int) < 0) = false from decide_eq_false (by omega), show ((n : Int)).natAbs = n from Int.natAbs_natCast n]
    have eD : (biT n).cps.toList = (Nat.toDigits 2 n).map Char.toNat := by unfold biT; simp
    rw [eD]
    change (_ : Str).cps.toList = _
    generalize hD : (Nat.toDigits 2 n).map Char.toNat = D at ne ⊢
    cases D with
    | nil => exact absurd rfl ne
    | cons c r =>
      have e1 := hD
      change List.map (fun z : Char => (if (specB.type.getD (if ((Str.ofString "b").cps.back? == some 0) = true then 0 else 100) == 88) = true then z.toUpper else z).toNat) (Nat.toDigits 2 n) = c :: r at e1
      rw [e1]
      have p0 : ∀ m : Nat, ((-1 : Int) - 0 - (m : Int)).toNat = 0 := fun m => by omega
      show List.replicate (((-1 : Int) - 0 - ((List.replicate (0 - (c :: r).length) 48 ++ c :: r).length : Int)).toNat) 32 ++ [] ++ [] ++ [] ++ (List.replicate (0 - (c :: r).length) 48 ++ c :: r) ++ [] ++ [] = c :: r
      rw [p0, show 0 - (c :: r).length = 0 by omega]
      simp)
  intro y ey
  subst ey
  unfold retStr
  refine wpAny_bind (wpAny_mkStr (wpAny_pure ?_) big)
  dsimp only
  refine wpAny_bind (wpAny_isInstance (typeIs_str _ _ _) isSubtype_str_str (wpAny_pure ?_))
  exact h
end
section
variable {X : Cx}
/-- f"{e:b}" of a natural number -/
def tFmtB (te : TE) : TE := fun σ H Q => te σ H fun x H1 => ∃ n : Nat, x = .int (n : Int) ∧ (biT n).length ≤ 1000000 ∧ Q (.str (biT n)) H1
theorem pe_fmtB {e : Expr} {te : TE} {j p1 p2 p3} (he : PE X e te) : PE X (.FormattedValue e (-1) (some (.JoinedStr [.Constant (.str (Str.ofString "b")) j p1] p2)) p3) (tFmtB te) := by
  refine ⟨fun pins s σ H Q I h => ?_⟩
  refine wpAny_FormattedValue_spec (thn (he.run pins s σ H _ I h) fun v s1 hv => ?_)
  obtain ⟨x, H1, I1, r1, n, rfl, hl, q⟩ := hv
  obtain ⟨k, rfl⟩ := r1
  refine thn ((pe_joined1 (X := X) (pe_str (x := Str.ofString "b"))).run pins s1 σ H1 (fun y H2 => y = .str (Str.ofString "b") ∧ H2 = H1) I1 ⟨rfl, rfl⟩) fun r s2 hr => ?_
  obtain ⟨y, H2, I2, r2, rfl, rfl⟩ := hr
  obtain ⟨t, rfl⟩ := r2
  exact ⟨_, t, rfl, field_b hl ⟨.str (biT n), H2, I2.tok _, ⟨_, rfl⟩, q⟩⟩
end
/-- base raised by binary figures -/
def sqm (b : Nat) (cs : List Nat) : Nat := cs.foldl (fun r c => if c = 49 then r * r * b else r * r) 1
theorem sqm_snoc (b : Nat) (cs : List Nat) (c : Nat) : sqm b (cs ++ [c]) = if c = 49 then sqm b cs * sqm b cs * b else sqm b cs * sqm b cs := by
  unfold sqm; rw [List.foldl_append]; rfl
/-- the number of binary figures -/
def vl2 (cs : List Nat) : Nat := cs.foldl (fun r c => if c = 49 then 2 * r + 1 else 2 * r) 0
theorem vl2_snoc (cs : List Nat) (c : Nat) : vl2 (cs ++ [c]) = if c = 49 then 2 * vl2 cs + 1 else 2 * vl2 cs := by
  unfold vl2; rw [List.foldl_append]; rfl
theorem snoc_ind {P : List Nat → Prop} (h0 : P []) (h : ∀ xs c, P xs → P (xs ++ [c])) (xs : List Nat) : P xs := by
  have : ∀ l : List Nat, P l.reverse := fun l => by
    induction l with
    | nil => exact h0
    | cons a l ih => rw [List.reverse_cons]; exact h _ _ ih
  rw [← xs.reverse_reverse]
  exact this _
theorem vl2_le (xs : List Nat) : ∀ ys, vl2 xs ≤ vl2 (xs ++ ys) := by
  intro ys
  refine snoc_ind (P := fun ys => vl2 xs ≤ vl2 (xs ++ ys)) (by simp) (fun ys c ih => ?_) ys
  rw [← List.append_assoc, vl2_snoc]
  split <;> omega
theorem vl2_take (xs : List Nat) (i : Nat) : vl2 (xs.take i) ≤ vl2 xs := by
  have h := vl2_le (xs.take i) (xs.drop i)
  rwa [List.take_append_drop] at h
theorem sqm_pow (b : Nat) (cs : List Nat) : sqm b cs = b ^ vl2 cs := by
  refine snoc_ind (P := fun cs => sqm b cs = b ^ vl2 cs) rfl (fun ys c ih => ?_) cs
  rw [sqm_snoc, vl2_snoc, ih]
  split
  · rw [Nat.pow_succ, Nat.two_mul, Nat.pow_add]
  · rw [Nat.two_mul, Nat.pow_add]
theorem vl2_bin : ∀ n : Nat, vl2 ((Nat.toDigits 2 n).map Char.toNat) = n := by
  intro n
  induction n using Nat.strongRecOn with
  | ind n ih =>
    by_cases h : n < 2
    · have : n = 0 ∨ n = 1 := by omega
      rcases this with rfl | rfl <;> simp [vl2, Nat.toDigits, Nat.toDigitsCore, Nat.digitChar]
    · rw [Nat.toDigits_of_base_le (by decide) (by omega), List.map_append, List.map_cons, List.map_nil, vl2_snoc, ih (n / 2) (by omega)]
      have hm : n % 2 = 0 ∨ n % 2 = 1 := by omega
      rcases hm with h0 | h0 <;> rw [h0] <;> simp [Nat.digitChar] <;> omega
theorem sqm_bin (b n : Nat) : sqm b ((Nat.toDigits 2 n).map Char.toNat) = b ^ n := by rw [sqm_pow, vl2_bin]
theorem log_pow {b k v : Nat} (h : b ≤ 2 ^ k) : (b ^ v).log2 ≤ k * v := by
  have h1 : b ^ v ≤ 2 ^ (k * v) := by rw [Nat.pow_mul]; exact Nat.pow_le_pow_left h v
  by_cases h0 : b ^ v = 0
  · rw [h0]; simp
  · have := (Nat.log2_lt h0 (k := k * v + 1)).mpr (Nat.lt_of_le_of_lt h1 (Nat.pow_lt_pow_right (by decide) (by omega)))
    omega
theorem log_le {a k : Nat} (h : a < 2 ^ (k + 1)) : a.log2 ≤ k := by
  by_cases h0 : a = 0
  · rw [h0]; simp
  · have := (Nat.log2_lt h0).mpr h
    omega
theorem biT_len (n : Nat) (k : Nat) (h : n < 2 ^ k) (hk : 0 < k) : (biT n).length ≤ k := by
  have e : (biT n).length = (Nat.toDigits 2 n).length := by simp [biT, Str.length]
  rw [e]
  exact (Nat.length_toDigits_le_iff (by decide) hk).mpr h
end U

/-! U17: zips of tuples; loops that only grow the heap; weights. -/
namespace U
open PySem PySem.Spec PyProof.Rows L2
section
variable {K : PySem.W.Frag} {a b : Addr} {xs ys : List V}
theorem walk_zipT {n : Nat} (hn : n = min xs.length ys.length) : Walk (RZ.ItzT K a b) n (fun H => SqT K H a xs ∧ SqT K H b ys) (YPair (fun i => xs[i]?) (fun i => ys[i]?)) := by
  subst hn
  refine ⟨fun i _ hi q => ?_, fun _ q => ⟨xs, ys, q.1, q.2, by omega⟩, fun i H v H' _ q y => ?_⟩
  · have h1 : i < xs.length := by omega
    have h2 : i < ys.length := by omega
    exact ⟨xs, ys, xs[i], ys[i], q.1, q.2, by simp [h1], by simp [h2]⟩
  · obtain ⟨T, x, z, h1, h2, h3, h4, h5⟩ := y
    exact ⟨T, x, z, h1, h2, h3, h4 xs q.1, h5 ys q.2⟩
/-- a new list of xs that grows -/
theorem Gr.app {H Hm : Hp} {D : Addr} {o : HO} (hD : H D = none) (g : Gr H Hm) : Gr H (upd Hm D o) := fun b u eb => by rw [upd_ne (ne_of_none eb hD)]; exact g b u eb
theorem all_true (n : Nat) : (List.replicate n true).all id = true := by
  rw [List.all_eq_true]
  intro b hb
  rw [List.eq_of_mem_replicate hb]
  rfl
/-- a weight with its name, as a pair -/
def PairW (H : Hp) (v : V) (w : Str × Nat × Nat) : Prop := ∃ r p, v = .ref r ∧ H r = some (.tup [.str w.1, .ref p]) ∧ H p = some (.tup [.int (w.2.1 : Int), .int (w.2.2 : Int)])
theorem PairW.up {H H' : Hp} {v : V} {w : Str × Nat × Nat} (h : PairW H v w) (g : Gr H H') : PairW H' v w := by
  obtain ⟨r, p, e, h1, h2⟩ := h
  exact ⟨r, p, e, g _ _ h1, g _ _ h2⟩
/-- the items as they stand -/
def WtL (H : Hp) (xs : List V) (ws : List (Str × Nat × Nat)) : Prop := xs.length = ws.length ∧ ∀ (i : Nat) (x : V) (w : Str × Nat × Nat), xs[i]? = some x → ws[i]? = some w → PairW H x w
theorem WtL.up {H H' : Hp} {xs : List V} {ws : List (Str × Nat × Nat)} (h : WtL H xs ws) (g : Gr H H') : WtL H' xs ws := ⟨h.1, fun i x w a b => (h.2 i x w a b).up g⟩
theorem WtL.at {H : Hp} {xs : List V} {ws : List (Str × Nat × Nat)} {i : Nat} {x : V} (h : WtL H xs ws) (hx : xs[i]? = some x) : ∃ w, ws[i]? = some w ∧ PairW H x w := by
  have hi := (List.getElem?_eq_some_iff.mp hx).1
  have hi2 : i < ws.length := by rw [← h.1]; exact hi
  exact ⟨ws[i], by simp [hi2], h.2 i x ws[i] hx (by simp [hi2])⟩
theorem take_snoc {α β : Type} {ws : List α} {i : Nat} {w : α} (f : α → β) (h : ws[i]? = some w) : (ws.take (i + 1)).map f = (ws.take i).map f ++ [f w] := by
  rw [List.take_add_one, h, List.map_append]
  rfl
end
section
variable {X : Cx} {e : Expr} {te : TE} {p apos cpos pos : Pos}
theorem vals_of : ∀ {xs : List V} {us : List Value}, xs.length = us.length → (∀ (j : Nat) (x : V) (u : Value), xs[j]? = some x → us[j]? = some u → RelV x u) → Vals xs us
  | [], [], _, _ => .nil
  | [], _ :: _, h, _ => by cases h
  | _ :: _, [], h, _ => by cases h
  | x :: xs, u :: us, h, q => .cons (q 0 x u rfl rfl) (vals_of (Nat.succ.inj h) fun j y v a b => q (j + 1) y v a b)
/-- list(e.values()) -/
def tListVals (te : TE) : TE := fun σ H Q => te σ H fun x H1 => ∃ (d : Addr) (kvs : List (Key × V)), x = .ref d ∧ H1 d = some (.dK kvs) ∧ ∀ l, H1 l = none → Q (.ref l) (upd H1 l (.lst (kvs.map Prod.snd)))
theorem pe_listVals (hc : X.calm = true) (he : PE X e te) (hg : Gl X "list") (hm : X.mg "list" = none) (hv : bootBuiltins "list" = some (.type "list")) (hbase : attributeBase e "values" X.env (eval e X.env) = eval e X.env := by rfl) (hline : (apos.endLine == cpos.line) = true := by rfl)
    (hs : starEach [.Call (.Attribute e "values" apos) [] [] cpos] X.env = (false, eval (.Call (.Attribute e "values" apos) [] [] cpos) X.env) :: starEach [] X.env := by rfl) :
    PE X (.Call (.Name "list" p) [.Call (.Attribute e "values" apos) [] [] cpos] [] pos) (tListVals te) := by
  refine ⟨fun pins s σ H Q I hq => ?_⟩
  refine wpAny_Call_Name_kw (ld_blt I hg hm hv ?_)
  refine PyProof.Rows.callWith_type1 ?_ hs rfl
  rw [hs]
  show wpAny _ _ (spliced ((false, eval (.Call (.Attribute e "values" apos) [] [] cpos) X.env) :: backTo pos (starEach [] X.env))) _ _ s
  refine Calls.spliced_cons ?_
  refine wpAny_Call_method (T := "dict") (id := "dict.values") hbase rfl hline F.plainAttrs_dict F.slot_dict_values F.type_dict_values (thn (he.run pins s σ H _ I hq) fun u s1 ⟨x, H1, I1, rx, d, kvs, ex, hd, q⟩ => ?_)
  subst ex
  obtain rfl : u = Value.ref d := rx
  obtain ⟨hz, hs0, vs, kv, hdo⟩ := I1.hok d _ hd
  obtain ⟨ep, hat⟩ := hdo.dictAt
  have lk : kvs.length = vs.length := Paired.length kv
  have I2 : Inv X pins σ H1 { s1 with heap := s1.heap.push { cls := .type "dict_values", data := .fields #[.ref d] } } := I1.kept (t' := s1.toks) fun b ob q => Heap.get?_push_of_some _ q
  refine ⟨hdo.typeIs, hdo.mapOf.noDict, ?_⟩
  show wpAny _ _ (callWith cpos (.builtin "dict.values") [.ref d] [] []) _ X.xe s1
  refine method_meetsIn F.slot_dict_values F.entry_dict_values rfl (PySem.evalArgs_none ⟨rfl, hdo.typeIs, F.args_dict_values_1 _, _, meets_dict_values (mixKind X.prog X.w) d hs0, ⟨vs, hdo⟩, ?_⟩)
  refine Calls.spliced_nil ?_
  refine PySem.W.kdl_call (PySem.W.kdl_values (knd := mixKind X.prog X.w) (kvs := vs) (ep := ep) (d := d)) (I1.ok.hd hc) ⟨⟨_, Heap.get?_push_size _ rfl, rfl, rfl⟩, hat.push _⟩ (by omega) fun h' tk acc c hk hS hacc => ?_
  have hv2 : Vals (kvs.map Prod.snd) acc.toList := by
    refine vals_of ((List.length_map _).trans (lk.trans (hacc.1.symm.trans Array.length_toList.symm))) fun j x u hx hu => ?_
    obtain ⟨k, hk2⟩ := hacc.2 j u (by rw [← Array.getElem?_toList]; exact hu)
    obtain ⟨y, hy, ry⟩ := KV.at' kv hk2
    rw [List.getElem?_map, hy] at hx
    cases hx
    exact ry
  exact ⟨.ref _, _, I2.laid (t' := tk) hk (Nat.le_refl _) (show ObjOk X.prog X.w _ h' _ (.lst (kvs.map Prod.snd)) from ⟨by rw [List.length_map]; omega, acc.toList, c, hv2, by rw [Array.toArray_toList]; exact hS⟩), rfl, q _ (I2.hok.fresh (Nat.le_refl _))⟩
end
/-- weights that are let, up to 1 -/
structure OKW (ws : List (Str × Nat × Nat)) : Prop where
  few : ws.length ≤ 1000
  up : ∀ (i : Nat) (x y : Str × Nat × Nat), ws[i]? = some x → ws[i + 1]? = some y → x.1.cps.toList < y.1.cps.toList
  ne : ∀ (i j : Nat) (x y : Str × Nat × Nat), i < j → ws[i]? = some x → ws[j]? = some y → x.1 ≠ y.1
  nums : ∀ w ∈ ws, (1 ≤ w.2.1 ∧ w.2.1 ≤ 1000) ∧ (1 ≤ w.2.2 ∧ w.2.2 ≤ 1000) ∧ Nat.gcd w.2.1 w.2.2 = 1
/-- the dict of weights: the ratios by their names -/
def RatK (C : Addr) (H : Hp) (kvs : List (Key × V)) (ws : List (Str × Nat × Nat)) : Prop :=
  kvs.length = ws.length ∧ ∀ (i : Nat) (k : Key × V) (w : Str × Nat × Nat), kvs[i]? = some k → ws[i]? = some w → k.1 = .inr w.1 ∧ IsR C H k.2 (w.2.1 : Int) (w.2.2 : Int)
theorem RatK.up {C : Addr} {H H' : Hp} {kvs : List (Key × V)} {ws : List (Str × Nat × Nat)} (h : RatK C H kvs ws) (g : Gr H H') : RatK C H' kvs ws := ⟨h.1, fun i k w a b => ⟨(h.2 i k w a b).1, (h.2 i k w a b).2.up g⟩⟩
theorem RatK.nil {C : Addr} {H : Hp} : RatK C H [] [] := ⟨rfl, fun i k w a _ => by simp at a⟩
theorem snoc_at {α : Type} {xs : List α} {x y : α} {i : Nat} (h : (xs ++ [x])[i]? = some y) : xs[i]? = some y ∨ (i = xs.length ∧ y = x) := by
  rcases Nat.lt_trichotomy i xs.length with hi | hi | hi
  · left; rwa [List.getElem?_append_left hi] at h
  · right; subst hi; simp at h; exact ⟨rfl, h.symm⟩
  · rw [List.getElem?_append_right (by omega)] at h
    rw [List.getElem?_eq_none (by simp; omega)] at h
    cases h
theorem RatK.snoc {C : Addr} {H : Hp} {kvs : List (Key × V)} {ws : List (Str × Nat × Nat)} {w : Str × Nat × Nat} {v : V} (h : RatK C H kvs ws) (hw : IsR C H v (w.2.1 : Int) (w.2.2 : Int)) : RatK C H (kvs ++ [(.inr w.1, v)]) (ws ++ [w]) := by
  refine ⟨by simp [h.1], fun i k u hk hu => ?_⟩
  rcases snoc_at hk with a | ⟨a, rfl⟩
  · have hi := (List.getElem?_eq_some_iff.mp a).1
    rw [List.getElem?_append_left (by rw [← h.1]; exact hi)] at hu
    exact h.2 i k u a hu
  · rw [a, h.1] at hu
    simp at hu
    subst hu
    exact ⟨rfl, hw⟩
theorem putK_new {kvs : List (Key × V)} {k : Key} {v : V} (h : ∀ p ∈ kvs, p.1 ≠ k) : putK kvs k v = kvs ++ [(k, v)] := by
  unfold putK
  rw [if_neg]
  intro e
  obtain ⟨p, hp, e2⟩ := List.any_eq_true.mp e
  exact h p hp (of_decide_eq_true e2)
theorem gcd_one {t b : Nat} (h : Nat.gcd t b = 1) : gcdI (t : Int) (b : Int) = 1 := by
  unfold gcdI
  rw [Int.natAbs_natCast, Int.natAbs_natCast, h]
  rfl
theorem IsR.off {C : Addr} {H : Hp} {v : V} {p q : Int} {D : Addr} {l : List (Key × V)} {o : HO} (r : IsR C H v p q) (hd : H D = some (.dK l)) : IsR C (upd H D o) v p q := by
  obtain ⟨a, dx, e, h⟩ := r
  exact ⟨a, dx, e, by rw [upd_ne (fun z => by rw [z, hd] at h; cases h)]; exact h⟩
theorem RatK.off {C : Addr} {H : Hp} {kvs l : List (Key × V)} {ws : List (Str × Nat × Nat)} {D : Addr} {o : HO} (h : RatK C H kvs ws) (hd : H D = some (.dK l)) : RatK C (upd H D o) kvs ws :=
  ⟨h.1, fun i k w a b => ⟨(h.2 i k w a b).1, (h.2 i k w a b).2.off hd⟩⟩
/-- the least common multiple of the bottoms -/
def lcmW (ws : List (Str × Nat × Nat)) : Nat := ws.foldl (fun r w => Nat.lcm r w.2.2) 1
theorem lcmW_snoc (ws : List (Str × Nat × Nat)) (w : Str × Nat × Nat) : lcmW (ws ++ [w]) = Nat.lcm (lcmW ws) w.2.2 := by
  unfold lcmW; rw [List.foldl_append]; rfl
theorem lcm_fold_dvd (ws : List (Str × Nat × Nat)) : ∀ a : Nat, a ∣ ws.foldl (fun r w => Nat.lcm r w.2.2) a := by
  induction ws with
  | nil => intro a; exact Nat.dvd_refl a
  | cons w ws ih => intro a; exact Nat.dvd_trans (Nat.dvd_lcm_left a w.2.2) (ih _)
theorem lcmW_take (ws : List (Str × Nat × Nat)) (i : Nat) : lcmW (ws.take i) ∣ lcmW ws := by
  have e : lcmW ws = (ws.drop i).foldl (fun r w => Nat.lcm r w.2.2) (lcmW (ws.take i)) := by
    unfold lcmW
    rw [← List.foldl_append, List.take_append_drop]
  rw [e]
  exact lcm_fold_dvd _ _
theorem lcmW_pos {ws : List (Str × Nat × Nat)} (h : ∀ w ∈ ws, 1 ≤ w.2.2) : 0 < lcmW ws := by
  unfold lcmW
  suffices ∀ a : Nat, 0 < a → 0 < ws.foldl (fun r w => Nat.lcm r w.2.2) a from this 1 (by decide)
  induction ws with
  | nil => intro a h; exact h
  | cons w ws ih => intro a ha; exact ih (fun u hu => h u (List.mem_cons_of_mem _ hu)) _ (Nat.lcm_pos ha (h w List.mem_cons_self))
theorem lcmW_le {ws : List (Str × Nat × Nat)} (h : ∀ w ∈ ws, 1 ≤ w.2.2) (i : Nat) : lcmW (ws.take i) ≤ lcmW ws := Nat.le_of_dvd (lcmW_pos h) (lcmW_take ws i)
theorem lcmW_dvd {ws : List (Str × Nat × Nat)} {w : Str × Nat × Nat} (h : w ∈ ws) : w.2.2 ∣ lcmW ws := by
  obtain ⟨i, hi, e⟩ := List.getElem_of_mem h
  have h1 := lcmW_take ws (i + 1)
  rw [List.take_add_one, show ws[i]? = some w by rw [← e]; simp [hi], show (some w).toList = [w] from rfl, lcmW_snoc] at h1
  exact Nat.dvd_trans (Nat.dvd_lcm_right _ _) h1
section
variable {X : Cx}
def rLcm : List V → Hp → VK → Prop := fun vs H Q => ∃ a b : Int, vs = [.int a, .int b] ∧ a.natAbs < 2 ^ 64 ∧ b.natAbs < 2 ^ 64 ∧ Q (.int ((Nat.lcm a.natAbs b.natAbs : Nat) : Int)) H
theorem cr_lcm : CallR X (.builtin "math.lcm") rLcm := by
  intro pins s σ H vs us Q I r h
  obtain ⟨a, b, rfl, h1, h2, q⟩ := h
  obtain ⟨t, u, rfl⟩ := Vals.int2 r
  exact PySem.W.mc_lcm h1 h2 fun _ => ⟨.int _, H, I.tok _, ⟨_, rfl⟩, q⟩
end
theorem Gr.unlock {H Hm : Hp} {d : Addr} {o p : HO} (hd : H d = some o) (g : Gr (upd H d p) Hm) : Gr H (upd Hm d o) := fun b u e => by
  by_cases h : b = d
  · subst h; rw [upd_same]; rw [hd] at e; exact e
  · rw [upd_ne h]; exact g b u (by rw [upd_ne h]; exact e)
theorem any_false (n : Nat) : (List.replicate n false).any id = false := by
  rw [List.any_eq_false]
  intro b hb
  rw [List.eq_of_mem_replicate hb]
  decide
theorem hu1 {u : Nat} (h : u + 64 < cLine) : u + 1 < cLine := by omega
/-- the dict of counts -/
def ck (cs : List (Str × Nat)) : List (Key × V) := cs.map fun c => (.inr c.1, .int (c.2 : Int))
/-- the count of a name -/
def cnt (cs : List (Str × Nat)) (z : Str) : Option Nat := (cs.find? fun c => decide (c.1 = z)).map (·.2)
theorem ck_val (cs : List (Str × Nat)) (z : Str) : valV (ck cs) (.inr z) = (cnt cs z).map fun (n : Nat) => V.int (n : Int) := by
  unfold valV ck cnt
  induction cs with
  | nil => rfl
  | cons c cs ih =>
    rw [List.map_cons, List.find?_cons, List.find?_cons]
    by_cases h : c.1 = z
    · simp [h]
    · simp only [show ¬ (Sum.inr c.1 : Key) = .inr z from fun e => h (Sum.inr.inj e), h, decide_false]
      exact ih
def cntD (cs : List (Str × Nat)) (z : Str) : Nat := (cnt cs z).getD 0
theorem cntD_le {cs : List (Str × Nat)} {m : Nat} (h : ∀ c ∈ cs, c.2 ≤ m) (z : Str) : cntD cs z ≤ m := by
  unfold cntD cnt
  cases e : cs.find? fun c => decide (c.1 = z) with
  | none => exact Nat.zero_le _
  | some c => exact h c (List.mem_of_find?_eq_some e)
/-- the product of the counts, raised by the weights times L -/
def prodW (cs : List (Str × Nat)) (L : Nat) (ws : List (Str × Nat × Nat)) : Nat := ws.foldl (fun p w => p * cntD cs w.1 ^ (w.2.1 * (L / w.2.2))) 1
theorem prodW_snoc (cs : List (Str × Nat)) (L : Nat) (ws : List (Str × Nat × Nat)) (w : Str × Nat × Nat) : prodW cs L (ws ++ [w]) = prodW cs L ws * cntD cs w.1 ^ (w.2.1 * (L / w.2.2)) := by
  unfold prodW; rw [List.foldl_append]; rfl
theorem exp_le {L t b : Nat} (h : t ≤ b) : t * (L / b) ≤ L := Nat.le_trans (Nat.mul_le_mul_right _ h) (Nat.mul_div_le L b)
theorem fac_le {cs : List (Str × Nat)} (h : ∀ c ∈ cs, c.2 ≤ 2000) {L : Nat} (hL : L ≤ 24) {w : Str × Nat × Nat} (hw : w.2.1 ≤ w.2.2) : cntD cs w.1 ^ (w.2.1 * (L / w.2.2)) ≤ 2 ^ 264 := by
  have h1 : cntD cs w.1 ≤ 2 ^ 11 := Nat.le_trans (cntD_le h _) (by decide)
  have h2 := exp_le (L := L) hw
  calc cntD cs w.1 ^ (w.2.1 * (L / w.2.2)) ≤ (2 ^ 11) ^ (w.2.1 * (L / w.2.2)) := Nat.pow_le_pow_left h1 _
    _ ≤ (2 ^ 11) ^ 24 := Nat.pow_le_pow_right (by decide) (by omega)
    _ = 2 ^ 264 := by rw [← Nat.pow_mul]
theorem prodW_take {cs : List (Str × Nat)} (h : ∀ c ∈ cs, c.2 ≤ 2000) {L : Nat} (hL : L ≤ 24) {ws : List (Str × Nat × Nat)} (hw : ∀ w ∈ ws, w.2.1 ≤ w.2.2) (i : Nat) : prodW cs L (ws.take i) ≤ 2 ^ (264 * i) := by
  induction i with
  | zero => simp [prodW]
  | succ i ih =>
    by_cases hi : i < ws.length
    · rw [List.take_add_one, show ws[i]? = some ws[i] by simp [hi], show (some ws[i]).toList = [ws[i]] from rfl, prodW_snoc, show 264 * (i + 1) = 264 * i + 264 by omega, Nat.pow_add]
      exact Nat.mul_le_mul ih (fac_le h hL (hw _ (List.getElem_mem hi)))
    · rw [List.take_of_length_le (by omega)]
      rw [List.take_of_length_le (by omega)] at ih
      exact Nat.le_trans ih (Nat.pow_le_pow_right (by decide) (by omega))
theorem log_of_le {a k : Nat} (h : a ≤ 2 ^ k) : a.log2 ≤ k := log_le (Nat.lt_of_le_of_lt h (Nat.pow_lt_pow_right (by decide) (by omega)))
/-- the least multiplier is that of the least common multiple -/
theorem least_mul {f b j : Nat} (hf : 0 < f) (hb : 0 < b) (hn : ∀ m, 1 ≤ m → m ≤ j → ¬ b ∣ f * m) (h : b ∣ f * (j + 1)) : f * (j + 1) = Nat.lcm f b := by
  have d1 : Nat.lcm f b ∣ f * (j + 1) := Nat.lcm_dvd (Nat.dvd_mul_right f (j + 1)) h
  have l1 : Nat.lcm f b ≤ f * (j + 1) := Nat.le_of_dvd (Nat.mul_pos hf (by omega)) d1
  obtain ⟨q, hq⟩ := Nat.dvd_lcm_left f b
  have p0 := Nat.lcm_pos hf hb
  have hq0 : 1 ≤ q := by
    rcases Nat.eq_zero_or_pos q with h0 | h0
    · rw [h0, Nat.mul_zero] at hq; omega
    · exact h0
  have hq1 : j + 1 ≤ q := by
    refine Nat.lt_of_not_le fun z => hn q hq0 z ?_
    rw [← hq]; exact Nat.dvd_lcm_right f b
  have l2 : f * (j + 1) ≤ f * q := Nat.mul_le_mul_left f hq1
  omega
theorem has_mul {f b : Nat} (hf : 0 < f) (hb : 0 < b) (h : Nat.lcm f b ≤ 24) : ¬ ∀ m, 1 ≤ m → m ≤ 24 → ¬ b ∣ f * m := fun hn => by
  obtain ⟨q, hq⟩ := Nat.dvd_lcm_left f b
  have p0 := Nat.lcm_pos hf hb
  have hq0 : 1 ≤ q := by
    rcases Nat.eq_zero_or_pos q with h0 | h0
    · rw [h0, Nat.mul_zero] at hq; omega
    · exact h0
  have : q ≤ f * q := Nat.le_mul_of_pos_left q hf
  refine hn q hq0 (by omega) ?_
  rw [← hq]; exact Nat.dvd_lcm_right f b
theorem div_mul_iff (x b : Nat) : (((x : Int) / (b : Int)) * (b : Int) = (x : Int)) ↔ b ∣ x := by
  rw [← Int.natCast_ediv, ← Int.natCast_mul]
  refine ⟨fun h => ⟨x / b, ?_⟩, fun h => ?_⟩
  · have := Int.ofNat.inj h
    rw [Nat.mul_comm]; exact this.symm
  · rw [Nat.div_mul_cancel h]
/-- weights and counts that make a bound -/
structure BndW (H : Hp) (a d : Addr) (ws : List (Str × Nat × Nat)) (cs : List (Str × Nat)) : Prop where
  wts : ∃ xs, H a = some (.tup xs) ∧ WtL H xs ws
  ok : OKW ws
  one : ∀ w ∈ ws, w.2.1 ≤ w.2.2
  few : ws.length ≤ 5
  low : lcmW ws ≤ 24
  cts : H d = some (.dK (ck cs))
  few' : cs.length ≤ 1000
  lim : ∀ c ∈ cs, c.2 ≤ 2000
  has : ∀ w ∈ ws, (cnt cs w.1).isSome = true
end U

/-! U18: drawn weights. -/
namespace U
open PySem PySem.Spec PyProof.Rows L2
def names8 : List Str := ["g", "h", "i", "j", "k", "r", "s", "t"]
def goodP (p : Nat × Nat) : Prop := p ∈ [(1, 1), (1, 2), (1, 3), (2, 3), (1, 4), (3, 4), (5, 6), (1, 24)]
theorem goodP_num {p : Nat × Nat} (h : goodP p) : 1 ≤ p.1 ∧ p.1 ≤ p.2 ∧ p.2 ≤ 24 ∧ Nat.gcd p.1 p.2 = 1 ∧ p.2 ∣ 24 := by
  have e : ([(1, 1), (1, 2), (1, 3), (2, 3), (1, 4), (3, 4), (5, 6), (1, 24)] : List (Nat × Nat)).all (fun p => decide (1 ≤ p.1 ∧ p.1 ≤ p.2 ∧ p.2 ≤ 24 ∧ Nat.gcd p.1 p.2 = 1 ∧ p.2 ∣ 24)) = true := by decide +kernel
  exact of_decide_eq_true (List.all_eq_true.mp e p h)
theorem names8_up : names8.Pairwise fun x y => x.cps.toList < y.cps.toList := by decide +kernel
theorem lcm_24 {ws : List (Str × Nat × Nat)} (h : ∀ w ∈ ws, w.2.2 ∣ 24) : lcmW ws ∣ 24 := by
  unfold lcmW
  suffices ∀ a : Nat, a ∣ 24 → ws.foldl (fun r w => Nat.lcm r w.2.2) a ∣ 24 from this 1 (by decide)
  induction ws with
  | nil => intro a h; exact h
  | cons w ws ih => intro a ha; exact ih (fun u hu => h u (List.mem_cons_of_mem _ hu)) _ (Nat.lcm_dvd ha (h w List.mem_cons_self))
/-- drawn weights: some of the names, in their order -/
structure DrW (ws : List (Str × Nat × Nat)) : Prop where
  sub : (ws.map (·.1)).Sublist names8
  good : ∀ w ∈ ws, goodP w.2
  few : ws.length ≤ 5
theorem DrW.pw {ws : List (Str × Nat × Nat)} (h : DrW ws) : ws.Pairwise fun x y => x.1.cps.toList < y.1.cps.toList :=
  (List.pairwise_map (f := fun w : Str × Nat × Nat => w.1) (R := fun x y : Str => x.cps.toList < y.cps.toList)).mp (List.Pairwise.sublist h.sub names8_up)
theorem DrW.ok {ws : List (Str × Nat × Nat)} (h : DrW ws) : OKW ws := by
  have pw := List.pairwise_iff_getElem.mp h.pw
  have lt : ∀ (i j : Nat) (x y : Str × Nat × Nat), i < j → ws[i]? = some x → ws[j]? = some y → x.1.cps.toList < y.1.cps.toList := fun i j x y hij hx hy => by
    obtain ⟨hi, rfl⟩ := List.getElem?_eq_some_iff.mp hx
    obtain ⟨hj, rfl⟩ := List.getElem?_eq_some_iff.mp hy
    exact pw i j hi hj hij
  refine ⟨by have := h.few; omega, fun i x y hx hy => lt i (i + 1) x y (by omega) hx hy, fun i j x y hij hx hy e => ?_, fun w hw => ?_⟩
  · have := lt i j x y hij hx hy
    rw [e] at this
    exact List.lt_irrefl _ this
  · have := goodP_num (h.good w hw)
    exact ⟨⟨this.1, by omega⟩, ⟨by omega, by omega⟩, this.2.2.2.1⟩
theorem DrW.one {ws : List (Str × Nat × Nat)} (h : DrW ws) : ∀ w ∈ ws, w.2.1 ≤ w.2.2 := fun w hw => (goodP_num (h.good w hw)).2.1
theorem DrW.low {ws : List (Str × Nat × Nat)} (h : DrW ws) : lcmW ws ≤ 24 := Nat.le_of_dvd (by decide) (lcm_24 fun w hw => (goodP_num (h.good w hw)).2.2.2.2)
theorem DrW.mem {ws : List (Str × Nat × Nat)} (h : DrW ws) : ∀ w ∈ ws, w.1 ∈ names8 := fun w hw => h.sub.subset (List.mem_map.mpr ⟨w, hw, rfl⟩)
/-- roots are one -/
theorem root_one {r s L P : Nat} (h1 : r ^ L ≤ P) (h2 : P < (r + 1) ^ L) (h3 : s ^ L ≤ P) (h4 : P < (s + 1) ^ L) : r = s := by
  have a : r < s + 1 := Nat.lt_of_not_le fun z => absurd (Nat.lt_of_lt_of_le h4 (Nat.pow_le_pow_left z L)) (by omega)
  have b : s < r + 1 := Nat.lt_of_not_le fun z => absurd (Nat.lt_of_lt_of_le h2 (Nat.pow_le_pow_left z L)) (by omega)
  omega
theorem root_up {r s L P P' : Nat} (h1 : r ^ L ≤ P) (h : P ≤ P') (h4 : P' < (s + 1) ^ L) : r ≤ s := by
  have a : r < s + 1 := Nat.lt_of_not_le fun z => absurd (Nat.lt_of_lt_of_le h4 (Nat.pow_le_pow_left z L)) (by omega)
  omega
theorem prodW_up {cs cs' : List (Str × Nat)} {L : Nat} (ws : List (Str × Nat × Nat)) (h : ∀ w ∈ ws, cntD cs w.1 ≤ cntD cs' w.1) : prodW cs L ws ≤ prodW cs' L ws := by
  unfold prodW
  suffices ∀ a b : Nat, a ≤ b → ws.foldl (fun p w => p * cntD cs w.1 ^ (w.2.1 * (L / w.2.2))) a ≤ ws.foldl (fun p w => p * cntD cs' w.1 ^ (w.2.1 * (L / w.2.2))) b from this 1 1 (Nat.le_refl _)
  induction ws with
  | nil => intro a b h; exact h
  | cons w ws ih => intro a b hab; exact ih (fun u hu => h u (List.mem_cons_of_mem _ hu)) _ _ (Nat.mul_le_mul hab (Nat.pow_le_pow_left (h w List.mem_cons_self) _))
/-- a pair of the pools -/
def PairAt (H : Hp) (t : V) : Prop := ∃ (a b : Nat), goodP (a, b) ∧ ∃ x, t = .ref x ∧ H x = some (.tup [.int (a : Int), .int (b : Int)])
theorem PairAt.up {H H' : Hp} {t : V} (h : PairAt H t) (g : Gr H H') : PairAt H' t := let ⟨a, b, c, x, e, z⟩ := h; ⟨a, b, c, x, e, g _ _ z⟩
theorem PairAt.keep {H H' : Hp} {t : V} {d : Addr} {l : List V} (h : PairAt H t) (s : ∀ b u, H b = some u → b ≠ d → H' b = some u) (hd : H d = some (.lst l)) : PairAt H' t :=
  let ⟨a, b, c, x, e, z⟩ := h; ⟨a, b, c, x, e, s _ _ z fun q => by rw [q, hd] at z; cases z⟩
def PoolAt (H : Hp) (d : Addr) (v : V) : Prop := ∃ (a : Addr) (ts : List V), v = .ref a ∧ a ≠ d ∧ H a = some (.lst ts) ∧ 0 < ts.length ∧ ts.length ≤ 10 ∧ ∀ t ∈ ts, PairAt H t
theorem PoolAt.up {H H' : Hp} {d : Addr} {v : V} (h : PoolAt H d v) (g : Gr H H') : PoolAt H' d v := let ⟨a, ts, e, n, z, l, m, q⟩ := h; ⟨a, ts, e, n, g _ _ z, l, m, fun t ht => (q t ht).up g⟩
theorem pools_2 {H : Hp} {x y : V} (h1 : PairAt H x) (h2 : PairAt H y) : ∀ t ∈ [x, y], PairAt H t := fun t ht => by
  simp only [List.mem_cons, List.not_mem_nil, or_false] at ht
  rcases ht with rfl | rfl <;> assumption
theorem pools_3 {H : Hp} {x y z : V} (h1 : PairAt H x) (h2 : PairAt H y) (h3 : PairAt H z) : ∀ t ∈ [x, y, z], PairAt H t := fun t ht => by
  simp only [List.mem_cons, List.not_mem_nil, or_false] at ht
  rcases ht with rfl | rfl | rfl <;> assumption
theorem rep_one (x : V) (k : Nat) (h : k ≤ 1) : (List.replicate k [x]).flatten.length ≤ 1 ∧ ∀ t ∈ (List.replicate k [x]).flatten, t = x := by
  rcases Nat.lt_or_ge k 1 with h0 | h0
  · obtain rfl : k = 0 := by omega
    simp
  · obtain rfl : k = 1 := by omega
    simp
theorem PairW.keep {H H' : Hp} {v : V} {w : Str × Nat × Nat} {d : Addr} {l : List V} (h : PairW H v w) (s : ∀ b u, H b = some u → b ≠ d → H' b = some u) (hd : H d = some (.lst l)) : PairW H' v w := by
  obtain ⟨r, p, e, h1, h2⟩ := h
  exact ⟨r, p, e, s _ _ h1 (fun q => by rw [q, hd] at h1; cases h1), s _ _ h2 (fun q => by rw [q, hd] at h2; cases h2)⟩
theorem WtL.keep {H H' : Hp} {xs : List V} {ws : List (Str × Nat × Nat)} {d : Addr} {l : List V} (h : WtL H xs ws) (s : ∀ b u, H b = some u → b ≠ d → H' b = some u) (hd : H d = some (.lst l)) : WtL H' xs ws :=
  ⟨h.1, fun i x w a b => (h.2 i x w a b).keep s hd⟩
theorem WtL.snoc {H : Hp} {xs : List V} {ws : List (Str × Nat × Nat)} {x : V} {w : Str × Nat × Nat} (h : WtL H xs ws) (hx : PairW H x w) : WtL H (xs ++ [x]) (ws ++ [w]) := by
  refine ⟨by simp [h.1], fun i k u hk hu => ?_⟩
  rcases snoc_at hk with a | ⟨a, rfl⟩
  · have hi := (List.getElem?_eq_some_iff.mp a).1
    rw [List.getElem?_append_left (by rw [← h.1]; exact hi)] at hu
    exact h.2 i k u a hu
  · rw [a, h.1] at hu
    simp at hu
    subst hu
    exact hx
def names5 : List Str := ["g", "h", "i", "j", "k"]
/-- the weights as they are drawn -/
structure LpW (d : Addr) (B Hm : Hp) (n i : Nat) (wa : Addr) (ws : List (Str × Nat × Nat)) : Prop where
  keep : ∀ b u, B b = some u → b ≠ d → Hm b = some u
  dice : ∃ o, Hm d = some o ∧ Dice (n + 2 * i) o
  wts : ∃ xs, Hm wa = some (.tup xs) ∧ WtL Hm xs ws
  sub : (ws.map (·.1)).Sublist (names5.take i)
  good : ∀ w ∈ ws, goodP w.2
theorem LpW.draw {d : Addr} {B Hm : Hp} {n : Nat} {wa : Addr} {ws : List (Str × Nat × Nat)} (h : LpW d B Hm n 5 wa ws) : DrW ws := by
  have h5 : names5.take 5 = names5 := rfl
  have sb := h.sub
  rw [h5] at sb
  refine ⟨sb.trans (by decide +kernel), h.good, ?_⟩
  have := sb.length_le
  rw [List.length_map] at this
  exact this
/-- the counts as they are drawn -/
structure LpC (d pd : Addr) (B Hm : Hp) (n i : Nat) (cs : List (Str × Nat)) : Prop where
  keep : ∀ b u, B b = some u → b ≠ d → Hm b = some u
  dice : ∃ o, Hm d = some o ∧ Dice (n + 3 * i) o
  dct : Hm pd = some (.dK (ck cs))
  nms : cs.map (·.1) = names5.take i
  lim : ∀ c ∈ cs, c.2 ≤ 2000
theorem names5_nd : names5.Nodup := by decide +kernel
theorem put_ck {cs : List (Str × Nat)} {z : Str} {m : Nat} (h : z ∉ cs.map (·.1)) : putK (ck cs) (.inr z) (.int (m : Int)) = ck (cs ++ [(z, m)]) := by
  rw [putK_new]
  · unfold ck; rw [List.map_append]; rfl
  · intro p hp e
    obtain ⟨c, hc, rfl⟩ := List.mem_map.mp hp
    exact h (List.mem_map.mpr ⟨c, hc, Sum.inr.inj e⟩)
theorem names5_not {i : Nat} {z : Str} (h : names5[i]? = some z) : z ∉ names5.take i := fun hm => by
  obtain ⟨j, hj, e⟩ := List.getElem_of_mem hm
  rw [List.length_take] at hj
  rw [List.getElem_take] at e
  obtain ⟨hi, e2⟩ := List.getElem?_eq_some_iff.mp h
  have := (List.getElem_inj (h₀ := by omega) (h₁ := hi) names5_nd).mp (e.trans e2.symm)
  omega
theorem cnt_has {cs : List (Str × Nat)} {z : Str} (h : z ∈ cs.map (·.1)) : (cnt cs z).isSome = true := by
  obtain ⟨c, hc, e⟩ := List.mem_map.mp h
  unfold cnt
  rw [Option.isSome_map, List.find?_isSome]
  exact ⟨c, hc, by simpa using e⟩
theorem merge_ck : ∀ (more acc : List (Str × Nat)), ((acc ++ more).map (·.1)).Nodup → mergeK (ck acc) (ck more) = ck (acc ++ more)
  | [], acc, _ => by simp [ck, mergeK]
  | c :: more, acc, h => by
    have e : acc ++ c :: more = (acc ++ [c]) ++ more := by simp
    have hn : c.1 ∉ acc.map (·.1) := fun hm => by
      rw [List.map_append, List.map_cons] at h
      exact (List.nodup_append.mp h).2.2 _ hm _ List.mem_cons_self rfl
    show mergeK (putK (ck acc) (.inr c.1) (.int (c.2 : Int))) (ck more) = _
    rw [put_ck hn, merge_ck more (acc ++ [c]) (by rw [← e]; exact h), e]
theorem cntD_up {cs cs' : List (Str × Nat)} (h : Paired (fun c c' => c.1 = c'.1 ∧ c.2 ≤ c'.2) cs cs') (z : Str) : cntD cs z ≤ cntD cs' z := by
  unfold cntD cnt
  induction h with
  | nil => exact Nat.le_refl _
  | @cons c c' cs cs' hc ht ih =>
    rw [List.find?_cons, List.find?_cons, ← hc.1]
    by_cases e : c.1 = z
    · simp [e]; exact hc.2
    · simp only [e, decide_false]; exact ih
theorem BndW.up {H H' : Hp} {a d : Addr} {ws : List (Str × Nat × Nat)} {cs : List (Str × Nat)} (h : BndW H a d ws cs) (g : Gr H H') : BndW H' a d ws cs :=
  ⟨let ⟨xs, h1, h2⟩ := h.wts; ⟨xs, g _ _ h1, h2.up g⟩, h.ok, h.one, h.few, h.low, g _ _ h.cts, h.few', h.lim, h.has⟩
theorem cnt_at : ∀ {cs : List (Str × Nat)} {i : Nat} {c : Str × Nat}, (cs.map (·.1)).Nodup → cs[i]? = some c → cnt cs c.1 = some c.2
  | [], i, c, _, h => by simp at h
  | b :: cs, 0, c, _, h => by
    simp at h
    subst h
    simp [cnt]
  | b :: cs, i + 1, c, hn, h => by
    have h' : cs[i]? = some c := by simpa using h
    have hn' := List.nodup_cons.mp hn
    have ne : ¬ b.1 = c.1 := fun e => hn'.1 (by show b.1 ∈ _; rw [e]; exact List.mem_map.mpr ⟨c, List.mem_of_getElem? h', rfl⟩)
    have ih := cnt_at hn'.2 h'
    unfold cnt at ih ⊢
    rw [List.find?_cons]
    simp only [ne, decide_false]
    exact ih
/-- the greater counts as they are made -/
structure LpM (d D : Addr) (B Hm : Hp) (n i : Nat) (cs cs' : List (Str × Nat)) (ps : List Addr) : Prop where
  keep : ∀ b u, B b = some u → b ≠ d → Hm b = some u
  dice : ∃ o, Hm d = some o ∧ Dice (n + i) o
  lst : Hm D = some (.lst (ps.map V.ref))
  par : Paired (fun c c' => c.1 = c'.1 ∧ c.2 ≤ c'.2) (cs.take i) cs'
  lim : ∀ c ∈ cs', c.2 ≤ 2000
  tup : Paired (fun (p : Addr) (kv : Key × V) => Hm p = some (.tup [kV kv.1, kv.2])) ps (ck cs')
theorem paired_up {α β : Type} {F G : α → β → Prop} {xs : List α} {ys : List β} (h : Paired F xs ys) (hf : ∀ x y, F x y → G x y) : Paired G xs ys := by
  induction h with
  | nil => exact .nil
  | cons a t ih => exact .cons (hf _ _ a) ih
theorem paired_fst {cs cs' : List (Str × Nat)} (h : Paired (fun c c' => c.1 = c'.1 ∧ c.2 ≤ c'.2) cs cs') : cs.map (·.1) = cs'.map (·.1) := by
  induction h with
  | nil => rfl
  | cons a t ih => rw [List.map_cons, List.map_cons, a.1, ih]
theorem drw_nil : DrW [] := ⟨List.nil_sublist _, fun w h => by simp at h, by decide⟩
theorem wtl_nil {H : Hp} : WtL H [] [] := ⟨rfl, fun i x w a b => by simp at a⟩
theorem bnd_lit {H : Hp} {a d : Addr} {ws : List (Str × Nat × Nat)} {cs : List (Str × Nat)} {xs : List V} (ha : H a = some (.tup xs)) (hw : WtL H xs ws) (hd : H d = some (.dK (ck cs))) (w : DrW ws) (few : cs.length ≤ 1000) (lim : ∀ c ∈ cs, c.2 ≤ 2000) (has : ∀ w ∈ ws, (cnt cs w.1).isSome = true) : BndW H a d ws cs :=
  ⟨⟨xs, ha, hw⟩, w.ok, w.one, w.few, w.low, hd, few, lim, has⟩
instance {p : Nat × Nat} : Decidable (goodP p) := by unfold goodP; exact inferInstance
end U

/-! U19: own exceptions over any built-in class, as values. -/
namespace U
open PySem PySem.Spec L2
open PySem.HandSPX (excO)
section
open PySem.Builtin PySem.Builtin.ObjectAttr
variable {M : Model} {prog : Program} {w : World} {A : Around} {E : Value → Shared → Prop} {R : Result → Shared → Prop} {hp : Heap} {g : Array GenState} {d : Drawn} {t : Nat} {os : OsState}
variable {nm q : Str} {C N : Addr} {bs bm bmF : List Value} {hdct : Bool} {sn : List Str} {sub : List Value} {ab : Bool} {col : Option Bool} {dd : Option Addr} {k0 k1 k2 k3 k5 : Option Value} {B newId initId : String} {xs : List Value}
/-- what must be known of the built-in classes above -/
structure Above (B : String) (bm : List Value) : Prop where
  b : bm.contains (.type B) = true
  at_ : bm.contains (.type "AttributeError") = false
  nam : bm.contains (.type "NameError") = false
/-- __new__ of an own exception class whose maker is B's -/
theorem xnew_code (F : ExcBaseFacts B newId initId bmF) (T : Above B bm) (hC : hp.get? C = some (excClassObj nm q C N bs bm hdct sn sub ab col dd k0 k1 k2 k3 k5 newId)) (hz : xs.length ≤ sizeLine)
    (hq : R (.ok (.ret (.ref (hp.objs.size + 1)))) ⟨(hp.push (PySem.W.kdv_tup xs)).push (excO C hp.objs.size), g, d, t, os⟩) : codeAny (model prog w) A (.builtin newId ⟨.ref C :: xs, []⟩) R ⟨hp, g, d, t, os⟩ := by
  have e1 : (Value.ref C :: bm).contains (.type B) = true := by rw [List.contains_cons, T.b]; exact Bool.or_true _
  have e2 : (Value.ref C :: bm).contains (.type "AttributeError") = false := by rw [List.contains_cons, T.at_] <;> rfl
  have e3 : (Value.ref C :: bm).contains (.type "NameError") = false := by rw [List.contains_cons, T.nam] <;> rfl
  have e4 := F.ends
  refine codeAny_builtinAt F.entry ?_
  unfold Builtin.«BaseException.__new__»
  refine wpAt_bind ?_
  show wpAt _ _ _ (stack >>= _) _ _ _
  refine wpAt_bind (wpAt_stack fun _ _ => wpAt_of_wpAny ?_)
  wp_walk
  refine wpAt_of_wpAny ?_
  rw [F.owner]
  repeat (first | with_reducible refine wpAny_loadPart_at hC ?_ | with_reducible refine wpAny_madeHere_exc F.canon hC ?_ | (with_reducible refine wpAny_isSubtype_exc hC ?_; first | rw [e1] | rw [e2] | rw [e3]) | wp_step)
  show R _ _
  rw [Heap.size_push]
  exact hq
theorem xnew_check (F : ExcBaseFacts B newId initId bmF) (T : Above B bm) {Q : Unit → Shared → Prop} (hC : hp.get? C = some (excClassObj nm q C N bs bm hdct sn sub ab col dd k0 k1 k2 k3 k5 newId)) (hq : Q () ⟨hp, g, d, t, os⟩) :
    wpAny M A (checkBuiltinCall newId ⟨.ref C :: xs, []⟩) Q E ⟨hp, g, d, t, os⟩ := by
  have e1 : (Value.ref C :: bm).contains (.type B) = true := by rw [List.contains_cons, T.b]; exact Bool.or_true _
  have e4 := F.noStar
  simp only [checkBuiltinCall, F.newKind, F.newRow, F.newSplit]
  repeat (first | refine wpAny_loadPart_at hC ?_ | refine wpAny_madeBy_exc hC ?_ | refine wpAny_staticBase_exc hC ?_ | (refine wpAny_isSubtype_exc hC ?_; rw [e1]) | simp only [Bool.false_eq_true, if_false, bne_self_eq_false] | wp_step)
  exact hq
/-- C(..): a new exception object, then C's own __init__ -/
theorem xcall (F : ExcBaseFacts B newId initId bmF) (T : Above B bm) {fI : Addr} (hC : hp.get? C = some (excClassObj nm q C N bs bm hdct sn sub ab col dd k0 k1 k2 k3 k5 newId)) (hz : xs.length ≤ sizeLine)
    (hi : W.Looks (model prog w) hp (typeLookup (.ref C) "__init__") (some (.ref fI))) (hb : ∀ me, W.Looks (model prog w) hp (bindSpecial (.ref fI) me) (.ref fI, [me]))
    (hq : codeAny (model prog w) (A.under (.builtin "type.__call__" ⟨.ref C :: xs, []⟩)) (.call (.ref fI) ⟨.ref (hp.objs.size + 1) :: xs, []⟩) (W.InitBack (hp.objs.size + 1) R) ⟨(hp.push (PySem.W.kdv_tup xs)).push (excO C hp.objs.size), g, d, t, os⟩) :
    codeAny (model prog w) A (.call (.ref C) ⟨xs, []⟩) R ⟨hp, g, d, t, os⟩ := by
  have l1 := tc_lookup
  have l2 := tc_bind (.ref C)
  have l3 : (⟨hp, g, d, t, os⟩ : Shared).TypeIs (.ref C) "type" := ⟨_, hC, rfl⟩
  have keep : ∀ b o, hp.get? b = some o → ((hp.push (PySem.W.kdv_tup xs)).push (excO C hp.objs.size)).get? b = some o := fun b o e => Heap.get?_push_of_some _ (Heap.get?_push_of_some _ e)
  have new : ((hp.push (PySem.W.kdv_tup xs)).push (excO C hp.objs.size)).get? (hp.objs.size + 1) = some (excO C hp.objs.size) := by heap_get
  have hC' := keep _ _ hC
  have own : (Value.ref C :: bm).contains (.ref C) = true := by simp
  refine codeAny_of_tree ?_
  show wpAny _ _ (callAny (.ref C) _) _ _ _
  repeat (any_goals (first | assumption | with_reducible refine wpAny_loadPart_at hC ?_ | wp_step))
  refine ⟨rfl, codeAny_call_builtin_at (Code.quiet_builtin _ (by decide +kernel)) entry_typeCall (wpAny_check_type_call_sub hC ?_)⟩
  repeat (first | with_reducible refine wpAny_madeBy_exc hC ?_ | with_reducible refine wpAny_loadPart_at hC ?_ | wp_step)
  refine codeAny_call_builtin_code (Code.quiet_builtin _ F.quiet) (xnew_check F T hC (xnew_code F T hC hz ?_))
  show wpAny _ _ _ _ _ ⟨(hp.push (PySem.W.kdv_tup xs)).push (excO C hp.objs.size), g, d, t, os⟩
  unfold isInstance
  repeat (first | with_reducible refine wpAny_loadPart_at new ?_ | (with_reducible refine wpAny_isSubtype_exc hC' ?_; rw [own]) | wp_step)
  show wpAny _ _ (typeLookup (.ref C) _) _ _ _
  refine (hi.keeps keep).at (wpAny_holding (wpAny_bind (((hb (.ref (hp.objs.size + 1))).keeps keep).at (wpAny_bind (wpAny_call (codeAny_mono hq fun r s' z => ?_))))))
  cases r with
  | error e => exact z
  | ok f =>
    cases f with
    | ret v =>
      obtain ⟨rfl, z'⟩ := z
      first
        | exact wpAny_pure (wpAny_pure z')
        | (wp_walk; done)
        | (wp_walk; exact z')
    | next => exact z.elim
    | brk => exact z.elim
    | cont => exact z.elim
end
end U

/-! U20: own exceptions with an own __init__, held as values: made, stored into, read, asked of. -/
namespace U
open PySem PySem.Spec L2
open PySem.Builtin PySem.Builtin.ObjectAttr
theorem xsl {T sa : String} (h : T = "KeyError") (hs : sa = "object.__setattr__") : Slot T "__setattr__" sa := by
  subst h hs
  refine .of (owner := "object") (n := "__setattr__") ?_ (by decide +kernel) (by decide +kernel) (by decide +kernel) ?_ ?_
  · rw [typeLookup_type, builtinLookup_eq_fast]
    kernel_rfl
  · first
      | exact .inl (by decide +kernel)
      | exact .inr (by decide +kernel)
  · rw [isSubtype_type]
    kernel_rfl
theorem xsf_key : StoreFacts "KeyError" [.type "KeyError", .type "LookupError", .type "Exception", .type "BaseException", .type "object"] "object.__setattr__" "object" :=
  ⟨by kernel_rfl, xsl rfl rfl, PySem.F.entry_object_sa, by decide +kernel, by decide +kernel, by decide +kernel, fun a b c => by unfold argsOk; kernel_rfl, fun me => by kernel_rfl⟩
/-- a built-in exception class under own ones: what makes, what stores -/
structure XB (bm : List Value) (newId : String) : Prop where
  mkr : ∃ B initId bmF, ExcBaseFacts B newId initId bmF ∧ Above B bm
  st : ∃ B, StoreFacts B bm "object.__setattr__" "object"
  base : bm.contains (.type "BaseException") = true
abbrev mVal : List Value := [.type "ValueError", .type "Exception", .type "BaseException", .type "object"]
abbrev mKey : List Value := [.type "KeyError", .type "LookupError", .type "Exception", .type "BaseException", .type "object"]
abbrev mLook : List Value := [.type "LookupError", .type "Exception", .type "BaseException", .type "object"]
abbrev mIx : List Value := [.type "IndexError", .type "LookupError", .type "Exception", .type "BaseException", .type "object"]
abbrev mRun : List Value := [.type "RuntimeError", .type "Exception", .type "BaseException", .type "object"]
abbrev mOver : List Value := [.type "OverflowError", .type "ArithmeticError", .type "Exception", .type "BaseException", .type "object"]
abbrev mAr : List Value := [.type "ArithmeticError", .type "Exception", .type "BaseException", .type "object"]
theorem xb_val : XB mVal "ValueError.__new__" := ⟨⟨_, _, _, PySem.F.excBase_ValueError, by decide +kernel, by decide +kernel, by decide +kernel⟩, ⟨_, PySem.F.store_ValueError⟩, by decide +kernel⟩
theorem xb_key : XB mKey "LookupError.__new__" := ⟨⟨_, _, _, PySem.F.excBase_LookupError, by decide +kernel, by decide +kernel, by decide +kernel⟩, ⟨_, xsf_key⟩, by decide +kernel⟩
theorem xb_look : XB mLook "LookupError.__new__" := ⟨⟨_, _, _, PySem.F.excBase_LookupError, by decide +kernel, by decide +kernel, by decide +kernel⟩, ⟨_, PySem.F.store_LookupError⟩, by decide +kernel⟩
theorem xb_ix : XB mIx "IndexError.__new__" := ⟨⟨_, _, _, PySem.F.excBase_IndexError, by decide +kernel, by decide +kernel, by decide +kernel⟩, ⟨_, PySem.F.store_IndexError⟩, by decide +kernel⟩
theorem xb_run : XB mRun "RuntimeError.__new__" := ⟨⟨_, _, _, PySem.F.excBase_RuntimeError, by decide +kernel, by decide +kernel, by decide +kernel⟩, ⟨_, PySem.F.store_RuntimeError⟩, by decide +kernel⟩
theorem xb_over : XB mOver "OverflowError.__new__" := ⟨⟨_, _, _, PySem.F.excBase_OverflowError, by decide +kernel, by decide +kernel, by decide +kernel⟩, ⟨_, PySem.F.store_OverflowError⟩, by decide +kernel⟩
theorem xb_ar : XB mAr "ArithmeticError.__new__" := ⟨⟨_, _, _, PySem.F.excBase_ArithmeticError, by decide +kernel, by decide +kernel, by decide +kernel⟩, ⟨_, PySem.F.store_ArithmeticError⟩, by decide +kernel⟩
/-- what the written part says of an own exception class -/
structure XCl (K : PySem.W.Frag) (C : Addr) (bm : List Value) (newId : String) : Prop where
  mkr : PySem.W.excInitIn K C bm newId = true
  ov : PySem.W.excOver K C bm = true
  sa : PySem.W.findIn K (.ref C) "__setattr__" = some (some (.builtin "object.__setattr__"))
  kC : PySem.W.keepIn K (.ref C) = true
  is : ExcC K C
  tyC : PySem.W.typeIn K (.ref C) = some (.type "type")
theorem XCl.raises {X : Cx} {C : Addr} {bm : List Value} {newId : String} (T : XCl X.K C bm newId) : Raises X (.ref C) := raises_own T.is.hs T.tyC
section
variable {X : Cx} {pins : List (Addr × Obj)} {σ : L2.St} {H : Hp} {s : Shared} {a C : Addr} {f : Str} {y : V} {u : Value} {bm : List Value} {newId : String}
/-- self.f = y, the first field of an exception that is being made -/
theorem xst {Q : Unit → Shared → Prop} {E : Value → Shared → Prop} {A : Around} (B : XB bm newId) (T : XCl X.K C bm newId) (I : Inv X pins σ H s) (e : H a = some (exo a C none)) (ht : PySem.W.takerIn X.K C f = some none) (ry : RelV y u)
    (h : ∀ dx s', H dx = none → dx ≠ a → Inv X pins σ (upd (upd H dx (exd dx [(f, y)])) a (exo a C (some dx))) s' → Q () s') : wpAny (model X.prog X.w) A (setAttr (.ref a) f u) Q E s := by
  obtain ⟨Bs, SF⟩ := B.st
  obtain ⟨t1, ho⟩ := exo_at I.hok e
  have J : PySem.W.InstAt s.heap a { cls := .ref C, data := .fields #[.ref t1, .none, .none, .none, .bool false, .none] } C none := ⟨ho, rfl, rfl, trivial⟩
  have kin := I.kIn
  obtain ⟨nm, N, qn, bs, b2, hdct, sn, sub, ab, col, dd, k0, k1, k2, k3, k5, hC, _⟩ := PySem.W.excInit_of kin T.mkr
  obtain ⟨cd, hcd, hdc⟩ := PySem.W.any_some T.is.hd
  have Lc := PySem.W.looks_clsIn (M := model X.prog X.w) kin hcd
  obtain ⟨hp, g, d, t, os⟩ := s
  refine PySem.W.set_plain kin J T.sa (PySem.W.osa_openX SF kin J T.ov ht fun b => ?_)
  show wpAny _ _ (storeInOwnDict (.ref a) (.ref C) (.str f t) f u b) _ _ _
  have hxs : a ≠ hp.objs.size := Nat.ne_of_lt (Heap.lt_size ho)
  obtain ⟨n1, b1, m1, ns1, q1, h1, s1, u1, a1, c1, dl1⟩ := cd
  dsimp only at hdc
  subst hdc
  unfold storeInOwnDict ownDictForStores
  repeat (first | with_reducible refine PySem.HandSPX.store_in_new ?_ ?_ | with_reducible refine wpAny_loadPart_at ho ?_ | with_reducible refine Lc.at ?_ | wp_step)
  · refine ⟨{ cls := .type "dict", data := .dict #[] }, #[], _, ?_, rfl, fun e he => absurd he (by simp), fun _ => rfl⟩
    rw [Heap.get?_update_ne _ _ _ _ hxs.symm]
    exact Heap.get?_push_at rfl rfl
  · intro h' tk' hn hs
    generalize hdx : hp.objs.size = dx at *
    have hnd : H dx = none := I.hok.fresh (Nat.le_of_eq hdx)
    have gp : ∀ c o, hp.get? c = some o → (hp.push { cls := .type "dict", data := .dict #[] }).get? c = some o := fun c o z => Heap.get?_push_of_some _ z
    have nd : ∀ {c : Addr} {o : Obj}, hp.get? c = some o → c ≠ dx := fun {c o} z e => absurd (Heap.lt_size z) (by rw [e, ← hdx]; exact Nat.lt_irrefl _)
    have old : ∀ c o, c ≠ a → hp.get? c = some o → h'.get? c = some o := fun c o hc z => (hs.2 c (nd z)).trans ((Heap.get?_update_ne _ _ _ _ hc).trans (gp c o z))
    have hx : h'.get? a = some { cls := .ref C, dict := some dx, data := .fields #[.ref t1, .none, .none, .none, .bool false, .none] } := (hs.2 a hxs).trans (Heap.get?_update_self _ (gp _ _ ho) rfl)
    -- the dict first, then the object
    have I1 : Inv X pins σ (upd H dx (exd dx [(f, y)])) { (⟨hp, g, d, t, os⟩ : Shared) with heap := h'.update a (fun _ => { cls := .ref C, data := .fields #[.ref t1, .none, .none, .none, .bool false, .none] }), toks := tk' } := by
      refine I.laid (fun c o z => ?_) (Nat.le_of_eq hdx) (exd_ok (mA := fun z => if z = f then some u else none) (hn.at fun o z => ?_) (relO_put (fs := []) ry fun g => True.intro))
      · by_cases hc : c = a
        · subst hc
          rw [show some o = _ from z.symm.trans ho]
          exact Heap.get?_update_self _ hx rfl
        · rw [Heap.get?_update_ne _ _ _ _ hc]
          exact old c o hc z
      · rw [Heap.get?_update_ne _ _ _ _ hxs.symm]
        exact z
    have e1 : upd H dx (exd dx [(f, y)]) a = some (exo a C none) := by rw [upd_ne hxs]; exact e
    refine h dx _ hnd hxs.symm (I1.write (t' := tk') (x := a) (e := a) (by rw [e1]; exact True.intro) (.inl rfl) (fun c o hc z => ?_) ⟨_, hx⟩ (exo_ok hx))
    rw [Heap.get?_update_ne _ _ _ _ hc] at z
    exact z
end
end U

/-! U21: C(..), C an own exception class with an own __init__: as a value, and raised. -/
namespace U
open PySem PySem.Spec PyProof.Rows L2
open PySem.HandSPX (excO)
/-- C(e, ..) as a value: a new exception, then its own __init__ -/
def tMkV (C : Addr) (sp : Sp) (ta : TA) : TE := fun σ H Q => ta σ H fun vs H1 => vs.length ≤ 1000 ∧ ∀ a, H1 a = none → sp (.ref a :: vs) (upd H1 a (exo a C none)) (fun v H2 => v = .non ∧ Q (.ref a) H2) E0
/-- C(e, ..), to be raised -/
def tMkX (C : Addr) (sp : Sp) (ta : TA) : L2.St → Hp → XK → Prop := fun σ H Q => ta σ H fun vs H1 => vs.length ≤ 1000 ∧ ∀ a, H1 a = none → sp (.ref a :: vs) (upd H1 a (exo a C none))
  (fun v H2 => v = .non ∧ ∃ (d : Addr) (fs : List (Str × V)), H2 a = some (exo a C (some d)) ∧ H2 d = some (exd d fs) ∧ H1 d = none ∧ Q (.ref C) (some d) (upd (del H2 a) d (.xd fs))) E0
section
variable {X : Cx} {pins : List (Addr × Obj)} {σ : L2.St} {H1 : Hp} {s : Shared} {C fI : Addr} {bm : List Value} {newId : String} {CX : CXT} {k : Nat} {fd : FuncData} {ps : List Str} {sp : Sp} {us : List Value} {vs : List V}
theorem xcallR {Qi : Addr → VK} {Q : Value → Shared → Prop} (B : XB bm newId) (T : XCl X.K C bm newId) (iC : PySem.W.findIn X.K (.ref C) "__init__" = some (some (.ref fI))) (tI : PySem.W.typeIn X.K (.ref fI) = some (.type "function"))
    (F1 : FnOk X.prog X.w X.K X.mg X.base CX k fI fd ps sp) (hr : Room (k + 1) X.A) (hb : Binds X.K fd ps []) (hx : Passes CX X E0) (I1 : Inv X pins σ H1 s) (r1 : Vals vs us) (hl : vs.length ≤ 1000)
    (q1 : ∀ a, H1 a = none → sp (.ref a :: vs) (upd H1 a (exo a C none)) (fun v H2 => v = .non ∧ Qi a v H2) E0)
    (fin : ∀ (a : Addr) (hp2 : Heap) (s' : Shared), s.heap.objs.size ≤ a → H1 a = none → (∀ b o, s.heap.get? b = some o → hp2.get? b = some o) → Inv X pins σ (upd H1 a (exo a C none)) { s with heap := hp2 } →
      CE X.stack X.prog X.w (upd H1 a (exo a C none)) { s with heap := hp2 } (Qi a) .none s' → Q (.ref a) s') : wpAny (model X.prog X.w) X.A (call (.ref C) us) Q X.xe s := by
  obtain ⟨Bs, initId, bmF, F, ab⟩ := B.mkr
  obtain ⟨nm, N, qn, bs, b2, hdct, sn, sub, abs, col, dd, k0, k1, k2, k3, k5, hC, hT⟩ := PySem.W.excInit_of I1.kIn T.mkr
  have ab2 : Above Bs b2 := ⟨(hT _).trans ab.b, (hT _).trans ab.at_, (hT _).trans ab.nam⟩
  obtain ⟨hp, g, dr, tk, os⟩ := s
  have hsz : hp.objs.size ≤ hp.objs.size + 1 := Nat.le_succ _
  have hn : H1 (hp.objs.size + 1) = none := I1.hok.fresh hsz
  have hq := q1 _ hn
  have kk : ∀ b o, hp.get? b = some o → ((hp.push (PySem.W.kdv_tup us)).push (excO C hp.objs.size)).get? b = some o := fun b o e => Heap.get?_push_of_some _ (Heap.get?_push_of_some _ e)
  have new : ((hp.push (PySem.W.kdv_tup us)).push (excO C hp.objs.size)).get? (hp.objs.size + 1) = some (excO C hp.objs.size) := by heap_get
  have I2 : Inv X pins σ (upd H1 (hp.objs.size + 1) (exo (hp.objs.size + 1) C none)) ⟨(hp.push (PySem.W.kdv_tup us)).push (excO C hp.objs.size), g, dr, tk, os⟩ := I1.laid (t' := tk) kk hsz (exo_ok new)
  have r2 : Vals (V.ref (hp.objs.size + 1) :: vs) (Value.ref (hp.objs.size + 1) :: us) := .cons rfl r1
  have lus : us.length ≤ sizeLine := by
    rw [← r1.length, sizeLine_eq]
    omega
  have bnd := hb _ (Value.ref (hp.objs.size + 1) :: us) I2.kIn (by
    rw [← F1.len _ _ _ _ hq, List.append_nil]
    exact r2.length.symm)
  rw [List.append_nil] at bnd
  refine wpAny_call (xcall F ab2 hC lus (PySem.W.looks_findIn I1.kIn iC) (fun me => PySem.W.bind_fn I1.kIn me tI) (codeAny_mono (F1.run _ X.stack _ _ ⟨Value.ref (hp.objs.size + 1) :: us, []⟩ _ _ _ E0 (hr.make C us []) (I2.env0.make C us []) bnd r2 hq) fun r s' hc => ?_))
  match r, hc with
  | .error e, hc => exact hx pins σ _ _ e s' I2 hc
  | .ok (.ret u), ⟨v, H2, os2, bare2, un2, hok2, rv, ev, q2⟩ =>
    subst ev
    obtain rfl : u = Value.none := rv
    exact ⟨rfl, fin _ _ s' hsz hn kk I2 ⟨.non, H2, os2, bare2, un2, hok2, rfl, q2⟩⟩
  | .ok .next, hc => exact False.elim hc
  | .ok .brk, hc => exact False.elim hc
  | .ok .cont, hc => exact False.elim hc
end
section
variable {X : Cx} {C fI : Addr} {bm : List Value} {newId : String} {CX : CXT} {k : Nat} {fd : FuncData} {ps : List Str} {sp : Sp} {x : Str} {p pos : Pos} {e : Expr} {es : List Expr} {ta : TA}
theorem pe_xmake (B : XB bm newId) (T : XCl X.K C bm newId) (iC : PySem.W.findIn X.K (.ref C) "__init__" = some (some (.ref fI))) (tI : PySem.W.typeIn X.K (.ref fI) = some (.type "function"))
    (F1 : FnOk X.prog X.w X.K X.mg X.base CX k fI fd ps sp) (hr : Room (k + 1) X.A) (hb : Binds X.K fd ps []) (hx : Passes CX X E0) (hg : Gl X x) (hm : X.mg x = some (.ref C)) (ha : PA X (e :: es) ta)
    (hdb : (x == ("__debug__" : Str)) = false := by decide) (he : starEach (e :: es) X.env = (false, eval e X.env) :: starEach es X.env := by rfl) (hpl : (backTo pos (starEach es X.env)).any (·.1) = false := by rfl) :
    PE X (.Call (.Name x p) (e :: es) [] pos) (tMkV C sp ta) := by
  refine ⟨fun pins s σ H Q I h => wpAny_Call_Name_kw (ld_glob I hg hm (PySem.W.callWith_K (h₀ := X.base) I.ok.mod.kin T.kC (thn (ha.run pos pins s σ H _ I h) fun us s1 ⟨vs, H1, I1, r1, hl, q1⟩ => ⟨I1.kIn, ?_⟩) he hpl) hdb)⟩
  refine xcallR (Qi := fun a _ H2 => Q (.ref a) H2) B T iC tI F1 hr hb hx I1 r1 hl q1 fun a hp2 s' _ _ _ I2 c => ?_
  obtain ⟨v, H2, J, _, q⟩ := I2.after c
  exact ⟨.ref a, H2, J, rfl, q⟩
theorem pmk_x (B : XB bm newId) (T : XCl X.K C bm newId) (iC : PySem.W.findIn X.K (.ref C) "__init__" = some (some (.ref fI))) (tI : PySem.W.typeIn X.K (.ref fI) = some (.type "function"))
    (F1 : FnOk X.prog X.w X.K X.mg X.base CX k fI fd ps sp) (hr : Room (k + 1) X.A) (hb : Binds X.K fd ps []) (hx : Passes CX X E0) (hg : Gl X x) (hm : X.mg x = some (.ref C)) (ha : PA X (e :: es) ta)
    (hdb : (x == ("__debug__" : Str)) = false := by decide) (he : starEach (e :: es) X.env = (false, eval e X.env) :: starEach es X.env := by rfl) (hpl : (backTo pos (starEach es X.env)).any (·.1) = false := by rfl) :
    PMk X (.Call (.Name x p) (e :: es) [] pos) (tMkX C sp ta) := by
  intro pins s σ H Q I h
  refine wpAny_Call_Name_kw (ld_glob I hg hm (PySem.W.callWith_K (h₀ := X.base) I.ok.mod.kin T.kC (thn (ha.run pos pins s σ H _ I h) fun us s1 ⟨vs, H1, I1, r1, hl, q1⟩ => ⟨I1.kIn, ?_⟩) he hpl) hdb)
  obtain ⟨hp, g, dr, tk, os⟩ := s1
  refine xcallR (Qi := fun a _ H2 => ∃ (d : Addr) (fs : List (Str × V)), H2 a = some (exo a C (some d)) ∧ H2 d = some (exd d fs) ∧ H1 d = none ∧ Q (.ref C) (some d) (upd (del H2 a) d (.xd fs))) B T iC tI F1 hr hb hx I1 r1 hl q1 fun a hp2 s' hsz _ kk _ c => ?_
  obtain ⟨v, H2, os2, bare2, un2, hok2, _, d, fs, ea, ed, hd1, q2⟩ := c
  obtain ⟨h2, g2, d2, t2, os'⟩ := s'
  exact mk_end T.raises I1 hsz kk un2 hok2 os2 bare2 ea ed hd1 q2
end
end U

/-! U22: exceptions as values, made or caught: isinstance, fields; defs that are handed the caught one. -/
namespace U
open PySem PySem.Spec PyProof.Rows L2
/-- at a stands an exception of the class at D: one that was made, or one that is pinned (caught) -/
inductive XAt (pn : List (Addr × Obj)) (H : Hp) (a D : Addr) : Prop
  | plain : H a = some (ExO (.ref D) a) → XAt pn H a D
  | own {d : Addr} {fs : List (Str × V)} : H a = some (exo a D (some d)) → H d = some (exd d fs) → XAt pn H a D
  | pin {oe : Obj} : (a, oe) ∈ pn → Zc (.ref D) none oe → (∃ vs, oe.data = .fields vs) → XAt pn H a D
  | pind {oe : Obj} {d : Addr} {fs : List (Str × V)} : (a, oe) ∈ pn → Zc (.ref D) (some d) oe → (∃ vs, oe.data = .fields vs) → H d = some (.xd fs) → XAt pn H a D
theorem XAt.up {pn : List (Addr × Obj)} {H H' : Hp} {a D : Addr} (h : XAt pn H a D) (g : Gr H H') : XAt pn H' a D := by
  cases h with
  | plain e => exact .plain (g _ _ e)
  | own e1 e2 => exact .own (g _ _ e1) (g _ _ e2)
  | pin e z f => exact .pin e z f
  | pind e z f x => exact .pind e z f (g _ _ x)
section
variable {X : Cx} {pins : List (Addr × Obj)} {σ : L2.St} {H : Hp} {s : Shared} {a D : Addr}
theorem XAt.inst (I : Inv X pins σ H s) (h : XAt X.pn H a D) : ∃ oe od, PySem.W.InstAt s.heap a oe D od := by
  have key : ∀ {oe : Obj} {d : Option Addr} {od : Option Obj}, s.heap.get? a = some oe → Zc (.ref D) d oe → (∃ vs, oe.data = .fields vs) → (match d, od with | some dx, some o => s.heap.get? dx = some o | none, none => True | _, _ => False) → PySem.W.InstAt s.heap a oe D od := by
    intro oe d od e z f k
    obtain ⟨vs, f⟩ := f
    refine ⟨e, z.1, by unfold PySem.W.notCls; rw [f] <;> rfl, ?_⟩
    rw [z.2]
    exact k
  cases h with
  | plain e =>
    obtain ⟨⟨oe, vs, ho, hz, hd, _⟩, _, _⟩ := I.hok a _ e
    exact ⟨oe, none, key ho hz ⟨vs, hd⟩ trivial⟩
  | own e1 e2 =>
    obtain ⟨t1, ho⟩ := exo_at I.hok e1
    obtain ⟨m, hn, _⟩ := exd_at I.hok e2
    obtain ⟨od, e3, _⟩ := lookIn_ns hn
    exact ⟨_, some od, key ho ⟨rfl, rfl⟩ ⟨_, rfl⟩ e3⟩
  | pin e z f => exact ⟨_, none, key (I.pin _ (List.mem_append_left _ e)).1 z f trivial⟩
  | pind e z f x =>
    obtain ⟨m, hn, _⟩ : ObjOk X.prog X.w H s.heap _ (.xd _) := I.hok _ _ x
    obtain ⟨od, e3, _⟩ := lookIn_ns hn
    exact ⟨_, some od, key (I.pin _ (List.mem_append_left _ e)).1 z f e3⟩
/-- isinstance(e, c), e an exception -/
def rIsA (K : PySem.W.Frag) (pn : List (Addr × Obj)) : List V → Hp → VK → Prop := fun xs H Q => ∃ (a D : Addr) (c : V) (u : Value) (b : Bool), xs = [.ref a, c] ∧ XAt pn H a D ∧ ExcC K D ∧ ClsV c u ∧ PySem.W.kitOne K (.ref D) u = some b ∧ Q (.bl b) H
theorem call_isA : CallR X (.builtin "isinstance") (rIsA X.K X.pn) := by
  intro pins s σ H xs us Q I r h
  obtain ⟨a, D, c, u, b, rfl, ha, C, k, e, q⟩ := h
  obtain ⟨u1, u2, rfl, r1, r2⟩ := vals2 r
  cases (show u1 = Value.ref a from r1)
  have e2 := k.eq r2
  subst e2
  obtain ⟨oe, od, J⟩ := ha.inst I
  obtain ⟨cd, hcd, _⟩ := PySem.W.any_some C.hd
  exact PySem.W.kia_one (PySem.W.kitx_exc (by rw [hcd]; rfl) C.hg C.hk C.hs C.ha C.hn C.ht C.hm) I.kIn J e (fun z => nomatch z) fun tk => ⟨.bl b, H, I.tok tk, rfl, q⟩
/-- e.f, e an exception that was made -/
def tXo (f : Str) (te : TE) (K : PySem.W.Frag) : TE := fun σ H Q => te σ H fun x H1 => ∃ (a D d : Addr) (fs : List (Str × V)) (v : V), x = .ref a ∧ H1 a = some (exo a D (some d)) ∧ H1 d = some (exd d fs) ∧ ExcC K D ∧ PySem.W.findIn K (.ref D) f = some none ∧ fs.lookup f = some v ∧ Q v H1
theorem pe_xo {e : Expr} {te : TE} {pos : Pos} {n : Str} (he : PE X e te) (hb : attributeBase e n X.env (eval e X.env) = eval e X.env := by rfl) : PE X (.Attribute e n pos) (tXo n te X.K) := by
  refine ⟨fun pins s σ H Q I h => attr_of hb (thn (he.run pins s σ H _ I h) fun u s1 hh => ?_)⟩
  obtain ⟨x, H1, I1, rx, a, D, d, fs, v, rfl, e1, e2, C, hno, l, q⟩ := hh
  cases (show u = Value.ref a from rx)
  obtain ⟨t1, ho⟩ := exo_at I1.hok e1
  obtain ⟨m, hn, hr⟩ := exd_at I1.hok e2
  obtain ⟨od, e3, hl⟩ := lookIn_ns hn
  obtain ⟨u, hu, ru⟩ := RelO.some_of (v := v) (o := m n) (by rw [← l]; exact hr n)
  have J : PySem.W.InstAt s1.heap a _ D (some od) := ⟨ho, rfl, rfl, e3⟩
  exact HandSPX.exc_get I1.kIn J C.hg C.hk C.hs (PySem.W.findObj_own C.hd hno rfl (by rw [hl, hu])) (handed_of ru) ⟨v, H1, I1.tok _, ru, q⟩
end
/-! ### defs that are handed the caught exception, in an except suite -/
section
open L2H (RoomH PinOk cxH inv_startH)
structure FnE (P : Program) (w : World) (K : PySem.W.Frag) (mg : Str → Option Value) (base : Heap) (k : Nat) (f : Addr) (fd : FuncData) (ps : List Str) (sp : Addr × Obj → Sp) : Prop where
  len : ∀ p vs H Q E, sp p vs H Q E → vs.length = ps.length
  run : ∀ (A : Around) (outer : List Env) (s : Shared) (H : Hp) (args : Args) (us : List Value) (vs : List V) (Q : VK) (p : Addr × Obj), RoomH k A → PinOk outer H s p → Env0 P w K mg base A outer s H → BindsTo s fd args (ps.zip us) → Vals vs us → sp p vs H Q E0 →
    codeAny (model P w) A (.call (.ref f) args) (CR CX0 outer P w H s Q E0) s
variable {P : Program} {w : World} {K : PySem.W.Frag} {mg : Str → Option Value} {base : Heap} {k : Nat} {f : Addr} {fd : FuncData} {ps N : List Str} {sp : Addr × Obj → Sp} {st : Stmt} {nm qual : Str}
theorem okE (F : Fun K nm qual st f fd) (S : FnScope N ps (defScope st)) (len : ∀ p vs H Q E, sp p vs H Q E → vs.length = ps.length)
    (body : ∀ (cdv : Value) (A : Around) (outer : List Env) (s : Shared) (H : Hp) (vs : List V) (Q : VK) (p : Addr × Obj), RoomH k (A.deeper (envOfC qual (defScope st) s.heap.objs.size f cdv)) → sp p vs H Q E0 →
      ∃ t, PSs (cxH CX0 P w K mg base N qual (defScope st) f cdv A outer s H E0 p) (defBody st) t ∧ t { nx := fun _ H' => Q .non H', rt := Q } (start N vs) H) : FnE P w K mg base (k + 1) f fd ps sp := by
  obtain ⟨oc, od, kV, doc, pm, an, cdv, ct, osl, rfl, lk, hcd⟩ := F.ex
  refine ⟨len, fun A outer s H args us vs Q p hr pin e0 hb r hsp => ?_⟩
  have old : ∀ b o, base.get? b = some o → s.heap.get? b = some o := fun b o z => (e0.bs b o z).1
  have kin : K.In s.heap := e0.mod.kin.keeps old
  refine codeAny_call_function hr.depth (kin _ _ lk) rfl S.co S.gen rfl (PySem.W.codeRec_of kin hcd) (hb _ _ _ _ ?_)
  refine wpAny_newFunctionEnv_cells S.kind (fun y hy => ?_) fun env he s1 x => ?_
  · rcases S.par y.1 (List.of_mem_zip (show (y.1, y.2) ∈ _ from hy)).1 with q | q
    · exact .inl q
    · exact .inr ⟨q, PySem.W.cellsFrom_some _ _ _ (.inl q)⟩
  · subst he
    obtain ⟨t, ht, hq⟩ := body cdv A outer s H vs Q p (hr.deeper _) hsp
    refine ⟨(e0.mod.nolimit.keeps old).keeps x.toInCall.keep, codeAny_func (wpAny_mono (ht.run [] s1 _ H _ (inv_startH S pin e0 (len _ _ _ _ _ hsp) r x) hq) (fun fl s' hs => ?_) fun e s' hs => hs)⟩
    cases fl with
    | brk => exact let ⟨_, _, _, q⟩ := hs; False.elim q
    | cont => exact let ⟨_, _, _, q⟩ := hs; False.elim q
    | ret u => exact let ⟨v, _, H', J, rv, q⟩ := hs; ⟨v, H', J.os, J.bare, J.base, J.hok, rv, q⟩
    | next => exact let ⟨_, H', J, q⟩ := hs; ⟨V.non, H', J.os, J.bare, J.base, J.hok, rfl, q⟩
end
section
open L2H (RoomH PinOk)
variable {X : Cx} {k : Nat} {f : Addr} {fd : FuncData} {ps : List Str} {sp : Addr × Obj → Sp} {x : Str} {p : Addr × Obj} {q pos : Pos} {e : Expr} {es : List Expr} {t : TA}
/-- a call by what is asked of its arguments -/
def tCz (spz : List V → Hp → VK → Prop) (t : TA) : TE := fun σ H Q => t σ H fun vs H1 => spz vs H1 Q
theorem pe_callE {spz : List V → Hp → VK → Prop} (F : FnE X.prog X.w X.K X.mg X.base k f fd ps sp) (im : ∀ vs H Q, spz vs H Q → sp p vs H Q E0) (hr : RoomH k X.A) (hp : p ∈ X.pn) (hb : Binds X.K fd ps []) (hm : X.mg x = some (.ref f)) (hk : PySem.W.keepIn X.K (.ref f) = true) (hg : Gl X x) (ha : PA X (e :: es) t)
    (hdb : (x == ("__debug__" : Str)) = false := by decide) (he : starEach (e :: es) X.env = (false, eval e X.env) :: starEach es X.env := by rfl) (hpl : (backTo pos (starEach es X.env)).any (·.1) = false := by rfl) :
    PE X (.Call (.Name x q) (e :: es) [] pos) (tCz spz t) := by
  refine ⟨fun pins s σ H Q I h => wpAny_Call_Name_kw (ld_glob I hg hm (PySem.W.callWith_K (h₀ := X.base) I.ok.mod.kin hk (thn (ha.run pos pins s σ H _ I h) fun us s1 ⟨vs, H1, I1, r, hq⟩ => ⟨I1.kIn, ?_⟩) he hpl) hdb)⟩
  replace hq : sp p vs H1 Q E0 := im _ _ _ hq
  have hl : us.length = ps.length := by rw [← r.length]; exact F.len _ _ _ _ _ hq
  have b := hb s1 us I1.kIn (by rw [List.append_nil]; exact hl)
  rw [List.append_nil] at b
  obtain ⟨p1, p2, p3, p4, p5⟩ := I1.pin p (List.mem_append_left _ hp)
  have pin : PinOk X.stack H1 s1 p := ⟨p1, p2, fun hm => (List.mem_cons.mp (I1.stkSub p.1 hm)).elim p3 p4, p5⟩
  refine wpAny_call (codeAny_mono (F.run X.A X.stack s1 H1 ⟨us, []⟩ us vs Q p hr pin I1.env0 b r hq) fun r s' hc => ?_)
  match r, hc with
  | .error e, hc => exact hc.elim
  | .ok (.ret u), hc => exact I1.after hc
  | .ok .next, hc => exact False.elim hc
  | .ok .brk, hc => exact False.elim hc
  | .ok .cont, hc => exact False.elim hc
end
end U

/-! U23: try with many clauses, each with its name. -/
namespace U
open PySem PySem.Spec L2
/-- the slot i is unset behind a suite -/
def unset (i : Nat) (D : Ends) : Ends := { nx := fun σ H => D.nx (σ.set i none) H, rt := D.rt, bk := fun σ H => D.bk (σ.set i none) H, ct := fun σ H => D.ct (σ.set i none) H }
/-- what 'except c1 as n: .. except c2 as n: ..' wishes of an exception -/
def wNamed (K : PySem.W.Frag) (Wout : WX) (D : Ends) (i : Nat) : List (Value × (Addr → Value → Option Addr → TS)) → WX
  | [] => Wout
  | z :: r => fun cls d σ H => ∃ b, PySem.W.exmOne K cls z.1 = some b ∧ (b = true → ∀ a, H a = none → z.2 a cls d (unset i D) (σ.set i (some (.ref a))) H) ∧ (b = false → wNamed K Wout D i r cls d σ H)
inductive Named (X : Cx) (n : Str) : List ExceptHandler → List (Value × (Addr → Value → Option Addr → TS)) → Prop
  | nil : Named X n [] []
  | cons {x : Str} {c : Value} {ts : Addr → Value → Option Addr → TS} {b : Stmt} {bs : List Stmt} {p q : Pos} {hds : List ExceptHandler} {l : List (Value × (Addr → Value → Option Addr → TS))} (hc : Names X x c)
      (hsu : ∀ (a : Addr) (oe : Obj) (cls : Value) (d : Option Addr) (pn : List (Addr × Obj)), Zc cls d oe → (∃ vs, oe.data = .fields vs) → PSs (X.suite a ((a, oe) :: pn)) (b :: bs) (ts a cls d)) (r : Named X n hds l) :
      Named X n (.ExceptHandler (some (.Name x p)) (some n) (b :: bs) q :: hds) ((c, ts) :: l)
section
variable {X : Cx} {body : List Stmt} {h₀ : ExceptHandler} {hds : List ExceptHandler} {l : List (Value × (Addr → Value → Option Addr → TS))} {pos : Pos} {tb : WX → TS} {Wout : WX} {n : Str} {i : Nat}
/-- where a caught exception stands: out of the frames -/
theorem not_frame {B h : Heap} {l : List Env} {a : Addr} {o : Obj} {vs : Array Value} (ff : h.FunFrames B l) (e : h.get? a = some o) (d : o.data = .fields vs) : a ∉ frs l := by
  intro hm
  obtain ⟨_, o', e', nf⟩ := ff.mem hm
  have : o = o' := Option.some.inj (e.symm.trans e')
  exact nf _ (this ▸ d)
theorem ps_try_named (hs : X.stack = X.env :: X.outer) (hf : X.env.frame = some X.env.locals) (hN : X.N.Nodup) (hi : X.N[i]? = some n) (hln : X.env.kindOf n = some .local) (tk : Takes X Wout)
    (hb : ∀ (W : WX) (pn : List (Addr × Obj)) (xe : Value → Shared → Prop), Takes (X.tr pn xe) W → PassesOwn (model X.prog X.w) X.A X.env xe → PSs (X.tr pn xe) body (tb W))
    (hh : Named X n (h₀ :: hds) l) : PS X (.Try body (h₀ :: hds) [] [] pos) (fun D σ H => tb (wNamed X.K Wout D i l) D σ H) := by
  constructor
  intro pins s σ H D I h
  have ok := I.ok
  have frames : X.A.frames = some (X.env :: X.outer) := hs ▸ ok.frames
  let after : Value → Shared → Prop := fun e s₁ => wpAny (model X.prog X.w) X.A (noteFrame e X.env) (fun _ s₂ => wpAny (model X.prog X.w) X.A (setFlight e none) (fun _ s₃ => wpAny (model X.prog X.w) X.A (handleBy e X.env (h₀ :: hds)) (SP X pins D) X.xe s₃) X.xe s₂) X.xe s₁
  have inside := (hb (wNamed X.K Wout D i l) (X.pn ++ pins) after (fun u s' xx => ?flies) PassesOwn.looking).run [] s σ H D (I.toTry _) h
  case flies =>
    obtain ⟨a, B, sI, pins', σ', H', cls, d, rfl, J', nb, up, sky, na, os, ag, w⟩ := xx
    have J : Inv X pins σ' H' sI := J'.ofTry ok
    have sky2 : Sky B (X.env :: X.outer) a (Zc cls d) X.env.locals s'.heap := hs ▸ sky
    show wpAny (model X.prog X.w) X.A (noteFrame (.ref a) X.env) _ _ _
    refine Sky.land Zc.steady frames hf sky2 fun h3 fl up3 => ?_
    obtain ⟨o3, v3, he3, hz3, hd3⟩ := fl.there
    have J3 : Inv X pins σ' H' { s' with heap := h3 } := J.landed nb fl.1 (up.trans up3) os ag
    have out := not_frame fl.2.2.1 he3 hd3
    have nL : a ≠ X.env.locals := fun z => out (List.mem_filterMap.mpr ⟨X.env, List.mem_cons_self, by rw [hf, z]⟩)
    have nF : a ∉ X.fs := fun hm => let ⟨e, he, q⟩ := List.mem_filterMap.mp hm; out (List.mem_filterMap.mpr ⟨e, List.mem_cons_of_mem _ he, q⟩)
    have S3 := J3.suite he3 hd3 na nL nF
    clear out
    suffices go : ∀ {hds' : List ExceptHandler} {l' : List (Value × (Addr → Value → Option Addr → TS))}, Named X n hds' l' → wNamed X.K Wout D i l' cls d σ' H' → wpAny (model X.prog X.w) X.A (handleBy (.ref a) X.env hds') (SP X pins D) X.xe { s' with heap := h3 } from go hh w
    intro hds' l' hk
    induction hk with
    | nil =>
      intro w
      obtain ⟨_, _, _, oe, vs, T, _, _, he, _, hd, h1, _⟩ := id fl
      refine wpAny_handleBy_nil ?_
      unfold PySem.passOn
      refine wpAny_bind (wpAny_field he hd h1 ?_)
      have nn : ¬ ((Value.ref T == Value.none) = true) := by simp
      rw [if_neg nn]
      have up_ : wpAny (model X.prog X.w) X.A (setFlight (.ref a) X.env.frame) (fun _ s4 => wpAny (model X.prog X.w) X.A (throw (.ref a) : Sem Flow) (SP X pins D) X.xe s4) X.xe { s' with heap := h3 } := by
        rw [hf]
        exact HandSPX.setFlight_upZ fl fun h4 hh4 up4 => wpAny_throw (tk _ _ ⟨a, B, sI, pins, σ', H', cls, d, rfl, J, nb, (up.trans up3).trans up4, .inr (.inr (by rw [hs]; exact hh4)), na, os, ag, w⟩)
      first
        | exact wpAny_bind (wpAny_pure (wpAny_bind up_))
        | exact wpAny_bind up_
    | @cons x c ts b bs p q hds2 l2 hc hsu r ih =>
      intro w
      obtain ⟨yes, e, w1, w2⟩ := w
      have LT : PySem.W.Looks (model X.prog X.w) h3 (typeOf (.ref a)) cls := fun A Q E s k q => wpAny_typeOf_ref (k _ _ he3) (by rw [hz3.1]; exact q)
      have test : ∀ {Q : Value → Shared → Prop} {E : Value → Shared → Prop}, Q c { s' with heap := h3 } → wpAny (model X.prog X.w) (X.A.mark (some (.ref a))) (eval (.Name x p) X.env) Q E { s' with heap := h3 } := by
        intro Q E q
        obtain ⟨g, g2, k | ⟨k, k2, k3⟩⟩ := hc
        · exact ld_glob (X := X.suite a ((a, o3) :: (X.pn ++ pins))) S3 g k q g2
        · exact ld_blt (X := X.suite a ((a, o3) :: (X.pn ++ pins))) S3 g k k2 q k3 g2
      refine wpAny_handleBy_cons (codeAny_handlers_test (test ((PySem.W.exm_one (M := model X.prog X.w) J3.kIn LT e).here ?_))) (by intro z; cases z)
      cases yes with
      | false =>
        show wpAny _ X.A (handleBy (.ref a) X.env hds2) _ _ _
        exact ih (w2 rfl)
      | true =>
        refine codeAny_handlers_suite_as (HandSPX.lands_againZ fl fun h4 fl4 up4 => ?_)
        obtain ⟨o4, v4, he4, hz4, hd4⟩ := fl4.there
        have J4 : Inv X pins σ' H' { s' with heap := h4 } := J.landed nb fl4.1 ((up.trans up3).trans up4) os ag
        refine store_ok (X := X.suite a ((a, o4) :: (X.pn ++ pins))) (v := .ref a) (J4.suite he4 hd4 na nL nF) hN hi (.inl hln) rfl (fun s5 S5 => ?_) (.inr hln)
        have behind : ∀ {σ6 : L2.St} {H6 : Hp} {s6 : Shared} {Q : Shared → Prop}, Inv (X.suite a ((a, o4) :: (X.pn ++ pins))) [] σ6 H6 s6 → (∀ s7, Inv X pins (σ6.set i none) H6 s7 → Q s7) → wpAny (model X.prog X.w) X.A (do bindName X.env n .none; unbindBehindTheSuite X.env n q) (fun _ s7 => Q s7) X.xe s6 := fun S6 hq => gone_ok (S6.unsuite ok) hN hi hln hq
        refine wpAny_mono ((hsu a o4 cls d (X.pn ++ pins) hz4 ⟨_, hd4⟩).run [] s5 _ H' _ S5 (w1 rfl a na)) (fun f s6 hsp => ?_) fun _ _ z => False.elim z
        cases f with
        | ret u => exact let ⟨_, _, _, S6, r6, q6⟩ := hsp; behind S6 fun s7 J7 => ⟨_, _, _, J7, r6, q6⟩
        | next => exact let ⟨_, _, S6, q6⟩ := hsp; behind S6 fun s7 J7 => ⟨_, _, J7, q6⟩
        | brk => exact let ⟨_, _, S6, q6⟩ := hsp; behind S6 fun s7 J7 => ⟨_, _, J7, q6⟩
        | cont => exact let ⟨_, _, S6, q6⟩ := hsp; behind S6 fun s7 J7 => ⟨_, _, J7, q6⟩
  refine wpAny_Try_except (wpAny_mono inside (fun f s1 hsp => ?_) fun e s1 he => he)
  cases f with
  | ret u => exact let ⟨_, _, _, J, r, q⟩ := hsp; ⟨_, _, _, J.ofTry ok, r, q⟩
  | brk => exact let ⟨_, _, J, q⟩ := hsp; ⟨_, _, J.ofTry ok, q⟩
  | cont => exact let ⟨_, _, J, q⟩ := hsp; ⟨_, _, J.ofTry ok, q⟩
  | next => exact let ⟨_, _, J, q⟩ := hsp; wpAny_execs_nil ⟨_, _, J.ofTry ok, q⟩
end
end U

/-! U24: repr of odd values: data at any depth, one dict; lists of pairs of a text and such a value. -/
namespace U
open PySem PySem.Spec PyProof.Rows L2
/-- a value whose repr is asked for -/
inductive Odd (K : PySem.W.Frag) (H : Hp) : V → PyData → Prop
  | dp {v : V} {d : PyData} : Dp K H v d → d.showable = true → SeqAt.shaped d = true → d.shown.length ≤ 2000 → Odd K H v d
  | dic {a t : Addr} : H a = some (.dK [(.inr "a", .ref t)]) → SqT K H t [] → Odd K H (.ref a) (.dict [(.str "a", .tuple [])])
mutual
theorem dp_up {K : PySem.W.Frag} {H H' : Hp} (g : Gr H H') : ∀ {v : V} {d : PyData}, Dp K H v d → Dp K H' v d
  | _, _, .non => .non
  | _, _, .bl b => .bl b
  | _, _, .int i => .int i
  | _, _, .str x => .str x
  | _, _, .lst h q => .lst (sqlSame g h) (dpAll_up g q)
  | _, _, .tup h q => .tup (sqtSame g h) (dpAll_up g q)
theorem dpAll_up {K : PySem.W.Frag} {H H' : Hp} (g : Gr H H') : ∀ {vs : List V} {ds : List PyData}, DpAll K H vs ds → DpAll K H' vs ds
  | _, _, .nil => .nil
  | _, _, .cons h q => .cons (dp_up g h) (dpAll_up g q)
end
theorem Odd.up {K : PySem.W.Frag} {H H' : Hp} {v : V} {d : PyData} (h : Odd K H v d) (g : Gr H H') : Odd K H' v d := by
  cases h with
  | dp a b c e => exact .dp (dp_up g a) b c e
  | dic e t => exact .dic (g _ _ e) (sqtSame g t)
theorem Odd.len {K : PySem.W.Frag} {H : Hp} {v : V} {d : PyData} (h : Odd K H v d) : d.shown.length ≤ 2000 := by
  cases h with
  | dp a b c e => exact e
  | dic e t => decide +kernel
theorem Odd.showable {K : PySem.W.Frag} {H : Hp} {v : V} {d : PyData} (h : Odd K H v d) : d.showable = true := by
  cases h with
  | dp a b c e => exact b
  | dic e t => rfl
theorem Odd.depth {K : PySem.W.Frag} {H : Hp} {v : V} {d : PyData} (h : Odd K H v d) : d.depth ≤ 64 := by
  cases h with
  | dp a b c e => exact SeqAt.depth_of_shaped c
  | dic e t => decide +kernel
section
variable {X : Cx} {pins : List (Addr × Obj)} {σ : L2.St} {H : Hp} {s : Shared}
theorem Odd.reads {v : V} {d : PyData} {u : Value} (I : Inv X pins σ H s) (h : Odd X.K H v d) (r : RelV v u) : ∃ as, Reads s.heap u d as ∧ (d.hasDict = true → sysModules ∉ as) := by
  cases h with
  | dp a b c e =>
    obtain ⟨as, q⟩ := Dp.reads I d _ u a r
    exact ⟨as, q, PyData.noDict_hsm (PyData.hasDict_of_canLay d (SeqAt.canLay_of_shaped c))⟩
  | @dic a t e q =>
    cases (show u = Value.ref a from r)
    obtain ⟨hz, hs, vs, kv, o, es, ep, ho, hx, hd, _, hp, _⟩ := dk_of I.hok e
    cases kv with
    | @cons _ b _ _ k1 kr =>
      cases kr
      obtain ⟨kb, vb⟩ := b
      obtain ⟨ek, rv⟩ := k1
      replace ek : (Sum.inr (Str.ofString "a") : Key) = kb := ek
      subst ek
      cases (show vb = Value.ref t from rv)
      obtain ⟨l⟩ := es
      have hp' : Pairs (mixKind X.prog X.w) l [(Sum.inr "a", Value.ref t)] := hp
      cases hp' with
      | @cons en _ _ _ h1 h2 h3 =>
        cases h3
        obtain ⟨x, tk, e1, e2⟩ : ∃ x tk, (Sum.inr "a" : Key) = Sum.inr x ∧ en.key = Value.str x tk := by
          rcases keyIs_shape (show keyIs (Sum.inr "a") en.key = true from h1) with ⟨i, tk, z, _⟩ | h
          · cases z
          · exact h
        cases e1
        obtain ⟨its, rt, ⟨ot, ht, hc, n, hd2⟩, _⟩ := I.tuple q
        cases rt
        have r0 : Reads s.heap (.ref t) (.tuple []) [] := Reads.tuple ht hc hd2 .nil
        refine ⟨_, Reads.dict (as := [] ++ []) (bs := [] ++ []) ho hx.1 hd ?_ ?_, fun _ hm => ?_⟩
        · show ReadsAll s.heap [en.key] [.str "a"] _
          rw [e2]
          exact .cons (.str _ _) .nil
        · show ReadsAll s.heap [en.val] [.tuple []] _
          rw [h2]
          exact .cons r0 .nil
        · have : sysModules = a := by simpa using hm
          rw [this] at hs
          simp at hs
/-- repr(v) -/
def uReprO (K : PySem.W.Frag) : List V → Hp → VK → Prop := fun vs H Q => ∃ v d, vs = [v] ∧ Odd K H v d ∧ Q (.str d.shown) H
theorem caReprO (hg : X.A.guards = some []) (hu : X.A.units + 70 < cLine) : CallR X (.builtin "repr") (uReprO X.K) := fun p s z H xs us Q I r h => by
  obtain ⟨v, d, rfl, ho, q⟩ := h
  obtain ⟨u, rfl, ru⟩ := L2.vals1 r
  have hl : d.shown.length ≤ sizeLine := Nat.le_trans ho.len (by decide)
  obtain ⟨as, rd, hs⟩ := ho.reads I ru
  have hd := ho.depth
  cases rd with
  | none =>
    rw [PyData.shown_none] at q
    exact PySem.P.repr_of_none ⟨.str _, H, I.tok _, ⟨_, rfl⟩, q⟩
  | bool b =>
    rw [PyData.shown_bool] at q
    exact PySem.P.repr_of_bool ⟨.str (bstr b), H, I.tok _, ⟨_, rfl⟩, q⟩
  | int i t =>
    rw [PyData.shown_int] at q
    have hi : i.natAbs.log2 < 1920 := by simpa [PyData.showable] using ho.showable
    exact PySem.P.repr_of_int hi ⟨.str _, H, I.tok _, ⟨_, rfl⟩, q⟩
  | str x t =>
    rw [PyData.shown_str] at q hl
    exact PySem.P.repr_of_str ⟨.str _, H, I.tok _, ⟨_, rfl⟩, q⟩ hl
  | list h1 h2 h3 h4 => exact repr_of_reads' (Reads.list h1 h2 h3 h4) ho.showable hs hg (by omega) (fun _ _ e => e) (fun h' u tk k => ⟨.str _, H, I.kept (t' := tk) k, ⟨_, rfl⟩, q⟩) hl
  | tuple h1 h2 h3 h4 => exact repr_of_reads' (Reads.tuple h1 h2 h3 h4) ho.showable hs hg (by omega) (fun _ _ e => e) (fun h' u tk k => ⟨.str _, H, I.kept (t' := tk) k, ⟨_, rfl⟩, q⟩) hl
  | dict h1 h2 h3 h4 h5 => exact repr_of_reads' (Reads.dict h1 h2 h3 h4 h5) ho.showable hs hg (by omega) (fun _ _ e => e) (fun h' u tk k => ⟨.str _, H, I.kept (t' := tk) k, ⟨_, rfl⟩, q⟩) hl
theorem ref_of {v : V} {a : Addr} (r : L2.RelV v (.ref a)) : v = .ref a := by
  cases v with
  | ref b => cases (show Value.ref a = Value.ref b from r); rfl
  | non => cases (show Value.ref a = Value.none from r)
  | bl b => cases (show Value.ref a = Value.bool b from r)
  | ty n => cases (show Value.ref a = Value.type n from r)
  | int i => exact let ⟨_, e⟩ := (show ∃ t, Value.ref a = Value.int i t from r); nomatch e
  | str i => exact let ⟨_, e⟩ := (show ∃ t, Value.ref a = Value.str i t from r); nomatch e
  | byt i => exact let ⟨_, e⟩ := (show ∃ t, Value.ref a = Value.bytes i t from r); nomatch e
  | flt i => exact let ⟨_, e⟩ := (show ∃ t, Value.ref a = Value.float i t from r); nomatch e
/-- no list stands in it -/
def Far (v : V) (d : PyData) : Prop := (∀ a, v ≠ .ref a) ∨ d.hasDict = true
theorem Odd.far {v : V} {d : PyData} {u : Value} (I : Inv X pins σ H s) (h : Odd X.K H v d) (f : Far v d) (r : RelV v u) : ∃ as, Reads s.heap u d as ∧ sysModules ∉ as := by
  obtain ⟨as, rd, no⟩ := h.reads I r
  rcases f with f | f
  · cases rd with
    | none => exact ⟨_, .none, fun z => nomatch z⟩
    | bool b => exact ⟨_, .bool b, fun z => nomatch z⟩
    | int i t => exact ⟨_, .int i t, fun z => nomatch z⟩
    | str x t => exact ⟨_, .str x t, fun z => nomatch z⟩
    | list h1 h2 h3 h4 => exact absurd (ref_of r) (f _)
    | tuple h1 h2 h3 h4 => exact absurd (ref_of r) (f _)
    | dict h1 h2 h3 h4 h5 => exact absurd (ref_of r) (f _)
  · exact ⟨as, rd, no f⟩
/-- a list of pairs of a text and an odd value: no dicts stand in it (b), or no lists -/
inductive OddP (K : PySem.W.Frag) (H : Hp) (b : Bool) : List V → List PyData → Prop
  | nil : OddP K H b [] []
  | cons {t : Addr} {x : Str} {v : V} {d : PyData} {vs : List V} {ds : List PyData} : SqT K H t [.str x, v] → (reprText x).length ≤ 400 → Odd K H v d → (b = true → d.hasDict = false) → (b = false → Far v d) → OddP K H b vs ds → OddP K H b (.ref t :: vs) (.tuple [.str x, d] :: ds)
theorem OddP.up {K : PySem.W.Frag} {H H' : Hp} {b : Bool} (g : Gr H H') {vs : List V} {ds : List PyData} (h : OddP K H b vs ds) : OddP K H' b vs ds := by
  induction h with
  | nil => exact .nil
  | cons a b c e f _ ih => exact .cons (sqtSame g a) b (c.up g) e f ih
theorem OddP.append {K : PySem.W.Frag} {H : Hp} {b : Bool} {vs ws : List V} {ds es : List PyData} (h : OddP K H b vs ds) (k : OddP K H b ws es) : OddP K H b (vs ++ ws) (ds ++ es) := by
  induction h with
  | nil => exact k
  | cons a b c e f _ ih => exact .cons a b c e f ih
theorem pair_len {x : Str} {d : PyData} (h : (reprText x).length ≤ 400) (k : d.shown.length ≤ 2000) : (PyData.tuple [.str x, d]).shown.length ≤ 2406 := by
  rw [PyData.shown_tuple]
  simp only [PyData.shownAll_cons, PyData.shownAll_nil, PyData.shown_str]
  have e := PySem.join_length_add [reprText x, d.shown] (by simp)
  rw [piled_cons, piled_cons, piled_nil] at e
  rw [Str.length_append, Str.length_append]
  have a1 : (("(" : String) : Str).length = 1 := by decide +kernel
  have a2 : ((if ([PyData.str x, d] : List PyData).length == 1 then ",)" else ")" : String) : Str).length = 1 := by
    show (((")" : String) : Str)).length = 1
    decide +kernel
  omega
theorem OddP.reads {b : Bool} (I : Inv X pins σ H s) {vs : List V} {ds : List PyData} (h : OddP X.K H b vs ds) : ∀ {us : List Value}, Vals vs us →
    ∃ as, ReadsAll s.heap us ds as ∧ (b = true → PyData.hasDictAll ds = false) ∧ (b = false → sysModules ∉ as) ∧ PyData.showableAll ds = true ∧ PyData.depthAll ds ≤ 65 ∧ piled (PyData.shownAll ds) ≤ 2408 * ds.length := by
  induction h with
  | nil =>
    intro us r
    cases r
    exact ⟨[], .nil, fun _ => rfl, fun _ => List.not_mem_nil, rfl, Nat.zero_le _, Nat.zero_le _⟩
  | @cons t x v d vs ds ht hx ho hb hf _ ih =>
    intro us r
    cases r with
    | @cons _ u _ us r1 r2 =>
      cases (show u = Value.ref t from r1)
      obtain ⟨as, q1, q2, q3, q4, q5, q6⟩ := ih r2
      obtain ⟨its, rt, ⟨ot, hot, hc, n, hd2⟩, _⟩ := I.tuple ht
      obtain ⟨ux, uv, rfl, rx, rv⟩ := vals2 rt
      obtain ⟨tk, rfl⟩ := rx
      have dp := ho.depth
      obtain ⟨bs, b1, b2⟩ : ∃ bs, Reads s.heap uv d bs ∧ (b = false → sysModules ∉ bs) := by
        cases b with
        | true => exact let ⟨bs, b1, _⟩ := ho.reads I rv; ⟨bs, b1, fun z => nomatch z⟩
        | false => exact let ⟨bs, b1, b2⟩ := ho.far I (hf rfl) rv; ⟨bs, b1, fun _ => b2⟩
      refine ⟨_, .cons (Reads.tuple hot hc hd2 (.cons (.str x tk) (.cons b1 .nil))) q1, fun z => ?_, fun z hm => ?_, ?_, ?_, ?_⟩
      · simp only [PyData.hasDictAll, PyData.hasDict, hb z, q2 z, Bool.or_self]
      · rcases List.mem_append.mp hm with hm | hm
        · have hm' : sysModules ∈ bs := by simpa using hm
          exact b2 z hm'
        · exact q3 z hm
      · simp only [PyData.showableAll, PyData.showable, ho.showable, q4, Bool.and_self]
      · simp only [PyData.depthAll, PyData.depth]
        omega
      · rw [PyData.shownAll_cons, piled_cons, List.length_cons]
        have := pair_len hx ho.len
        omega
/-- repr of a list of such pairs -/
def uReprP (K : PySem.W.Frag) : List V → Hp → VK → Prop := fun vs H Q => ∃ (L : Addr) (xs : List V) (ds : List PyData) (b : Bool), vs = [.ref L] ∧ SqL K H L xs ∧ OddP K H b xs ds ∧ 0 < ds.length ∧ ds.length ≤ 100 ∧ Q (.str (PyData.list ds).shown) H
theorem caReprP (hg : X.A.guards = some []) (hu : X.A.units + 70 < cLine) : CallR X (.builtin "repr") (uReprP X.K) := fun p s z H xs us Q I r h => by
  obtain ⟨L, ys, ds, b, rfl, hL, ho, l0, l1, q⟩ := h
  obtain ⟨u, rfl, ru⟩ := L2.vals1 r
  cases (show u = Value.ref L from ru)
  obtain ⟨its, rv, ⟨o, n, hot, hc, _, hd⟩, _⟩ := I.list hL
  obtain ⟨as, q1, q2, q3, q4, q5, q6⟩ := ho.reads I rv
  have e := PySem.join_length_add (PyData.shownAll ds) (by
    intro z
    have := PyData.shownAll_length ds
    rw [z] at this
    simp at this
    omega)
  have hl : (PyData.list ds).shown.length ≤ sizeLine := by
    rw [PyData.shown_list, Str.length_append, Str.length_append]
    have a1 : (("[" : String) : Str).length = 1 := by decide +kernel
    have a2 : (("]" : String) : Str).length = 1 := by decide +kernel
    have : sizeLine = 16777216 := sizeLine_eq
    omega
  have fin : ∀ (h' : Heap) (u tk : Nat), (∀ b o, s.heap.get? b = some o → h'.get? b = some o) → EP X p z Q (.str (PyData.list ds).shown u) { s with heap := h', toks := tk } := fun h' u tk k => ⟨.str _, H, I.kept (t' := tk) k, ⟨_, rfl⟩, q⟩
  have hsh : (PyData.list ds).showable = true := by simpa [PyData.showable] using q4
  have hdep : (PyData.list ds).depth ≤ 66 := by simp only [PyData.depth]; omega
  cases b with
  | true =>
    refine repr_of_reads' (Reads.list hot hc hd q1) hsh (fun k => ?_) hg (by omega) (fun _ _ e => e) fin hl
    simp only [PyData.hasDict] at k
    rw [q2 rfl] at k
    cases k
  | false =>
    -- the list's own address does not matter
    have hz' : (listText (PyData.shownAll ds)).length ≤ sizeLine := by simpa only [PyData.shown] using hl
    obtain ⟨bs, hb, hk⟩ := ReprAllK.of_readsAll (prog := X.prog) (w := X.w) q1 q4 (fun _ => q3 rfl) fun t ht => Nat.le_trans (listText_mem_le ht) hz'
    have hna : L ∉ bs := not_mem_of_deeper (Reads.list hot hc hd q1) (by simp only [PyData.depth]; omega) hb
    have fin2 : ∀ (h' : Heap) (u tk : Nat), (∀ b o, s.heap.get? b = some o → h'.get? b = some o) → ∃ x t, (Value.str (listText (PyData.shownAll ds)) u : Value) = .str x t ∧ EP X p z Q (.str (listText (PyData.shownAll ds)) u) { s with heap := h', toks := tk } := by
      intro h' u tk k
      have := fin h' u tk k
      simp only [PyData.shown] at this
      exact ⟨_, _, rfl, this⟩
    refine call_repr_slot (by omega) ⟨o, hot, hc⟩ F.slot_list_repr.toG ?_
    match hi : its with
    | [] =>
      cases rv
      cases ho
      simp at l0
    | x :: l =>
      subst hi
      refine call_list_reprK hot hc hd hna (by simpa using hk.length_eq) (fun i y e => hk.item i y (by simpa using e)) hg (fun b _ => Clear.nil b) ?_ (fun _ _ e => e) fin2 hz'
      show X.A.units + 1 + (PyData.depthAll ds + 1) < cLine
      omega
end
end U

/-! U25: statements of exceptions: the store of a field; what isinstance says of a class. -/
namespace U
open PySem PySem.Spec PyProof.Rows L2
/-- self.f = e in the __init__ of an own exception class -/
def tXst (C : Addr) (f : Str) (to te : TE) : TS := fun D σ H => te σ H fun y H1 => to σ H1 fun x H2 => ∃ a : Addr, x = .ref a ∧ H2 a = some (exo a C none) ∧ ∀ dx, H2 dx = none → dx ≠ a → D.nx σ (upd (upd H2 dx (exd dx [(f, y)])) a (exo a C (some dx)))
theorem ps_xst {X : Cx} {C : Addr} {bm : List Value} {newId : String} {o e : Expr} {to te : TE} {f : Str} {p' pos : Pos} (B : XB bm newId) (T : XCl X.K C bm newId) (ht : PySem.W.takerIn X.K C f = some none) (ho : PE X o to) (he : PE X e te)
    (hs : swapsWith e (some (.Attribute o f p')) pos.line X.env = pure false := by rfl) : PS X (.Assign [.Attribute o f p'] e pos) (tXst C f to te) := by
  refine ⟨fun pins s σ H D I h => plainObj_wpAny_Assign_Attribute (thn (he.run pins s σ H _ I h) fun v s1 ⟨y, H1, I1, r1, q1⟩ => thn (ho.run pins s1 σ H1 _ I1 q1) fun u s2 ⟨x, H2, I2, r2, a, ex, ea, q⟩ => ?_) hs⟩
  subst ex
  obtain rfl : u = Value.ref a := r2
  exact xst B T I2 ea ht r1 fun dx s' n ne J => ⟨σ, _, J, q dx n ne⟩
/-- what isinstance says of the class D, for the classes cs -/
abbrev OwnK (K : PySem.W.Frag) (cs : List Value) (D : Addr) (bs : List Bool) : Prop := (cs.map fun c => PySem.W.kitOne K (.ref D) c) = bs.map some
theorem OwnK.at {K : PySem.W.Frag} {cs : List Value} {D : Addr} {bs : List Bool} (h : OwnK K cs D bs) (i : Nat) {c : Value} (e : cs[i]? = some c) : ∃ b, bs[i]? = some b ∧ PySem.W.kitOne K (.ref D) c = some b := by
  have z := congrArg (·[i]?) h
  simp only [List.getElem?_map, e, Option.map_some] at z
  cases q : bs[i]? with
  | none => rw [q] at z; cases z
  | some b => rw [q] at z; exact ⟨b, rfl, Option.some.inj z⟩
end U
namespace U
open PySem PySem.Spec PyProof.Rows L2
/-- the __init__ of an own exception class that keeps what it takes in f -/
def spXi (C : Addr) (f : Str) : Sp := fun vs H Q _ => ∃ (a : Addr) (v : V), vs = [.ref a, v] ∧ H a = some (exo a C none) ∧ ∀ dx, H dx = none → dx ≠ a → Q .non (upd (upd H dx (exd dx [(f, v)])) a (exo a C (some dx)))
theorem mkV_R {C : Addr} {f : Str} {v : V} {H : Hp} {R : Addr → Hp → Prop} (hq : ∀ a d H', Gr H H' → H a = none → H' a = some (exo a C (some d)) → H' d = some (exd d [(f, v)]) → R a H') :
    ∀ a, H a = none → spXi C f (.ref a :: [v]) (upd H a (exo a C none)) (fun w H2 => w = .non ∧ R a H2) E0 := by
  intro a na
  refine ⟨a, v, rfl, upd_same, fun d nd ne => ⟨rfl, hq a d _ (fun b u e => ?_) na upd_same (by rw [upd_ne ne, upd_same])⟩⟩
  rw [upd_ne ne] at nd
  rw [upd_ne (ne_of_none e na), upd_ne (ne_of_none e nd), upd_ne (ne_of_none e na)]
  exact e
theorem mkX_R {C : Addr} {f : Str} {v : V} {H : Hp} {R : Addr → Addr → List (Str × V) → Hp → Prop} (hq : ∀ a d H2, Gr H (upd (del H2 a) d (.xd [(f, v)])) → H d = none → R a d [(f, v)] H2) :
    ∀ a, H a = none → spXi C f (.ref a :: [v]) (upd H a (exo a C none)) (fun w H2 => w = .non ∧ ∃ (d : Addr) (fs : List (Str × V)), H2 a = some (exo a C (some d)) ∧ H2 d = some (exd d fs) ∧ H d = none ∧ R a d fs H2) E0 := by
  intro a na
  refine ⟨a, v, rfl, upd_same, fun d nd ne => ⟨rfl, d, _, upd_same, by rw [upd_ne ne, upd_same], by rw [upd_ne ne] at nd; exact nd, hq a d _ (fun b u e => ?_) (by rw [upd_ne ne] at nd; exact nd)⟩⟩
  rw [upd_ne ne] at nd
  rw [upd_ne (ne_of_none e nd), del_ne (ne_of_none e na), upd_ne (ne_of_none e na), upd_ne (ne_of_none e nd), upd_ne (ne_of_none e na)]
  exact e
end U
namespace U
open PySem PySem.Spec PyProof.Rows L2
theorem Gr.free' {H H' : Hp} {p : Addr} (g : Gr H H') (h : H' p = none) : H p = none := by
  cases e : H p with
  | none => rfl
  | some o => rw [g _ _ e] at h; cases h
end U
namespace U
open PySem PySem.Spec PyProof.Rows L2
/-- pairs of a text and a value -/
inductive PrA (H : Hp) : List V → List (Str × V) → Prop
  | nil : PrA H [] []
  | cons {t : Addr} {x : Str} {v : V} {vs : List V} {ps : List (Str × V)} : H t = some (.tup [.str x, v]) → PrA H vs ps → PrA H (.ref t :: vs) ((x, v) :: ps)
theorem PrA.up {H H' : Hp} (g : Gr H H') {vs : List V} {ps : List (Str × V)} (h : PrA H vs ps) : PrA H' vs ps := by
  induction h with
  | nil => exact .nil
  | cons a _ ih => exact .cons (g _ _ a) ih
end U
namespace U
open PySem PySem.Spec PyProof.Rows L2
theorem caReprOK {X : Cx} {K : PySem.W.Frag} (hK : X.K = K) (hg : X.A.guards = some []) (hu : X.A.units + 70 < cLine) : CallR X (.builtin "repr") (uReprO K) := hK ▸ caReprO hg hu
end U
namespace U
open PySem PySem.Spec PyProof.Rows L2
theorem roomMark {k : Nat} {A : Around} {v : Option Value} (r : Room k A) : L2H.RoomH k (A.mark v) := ⟨r.dp, r.un⟩
end U
namespace U
open PySem PySem.Spec PyProof.Rows L2
theorem opAddK {X : Cx} {K : PySem.W.Frag} (hK : X.K = K) : OpR X (binaryOp .Add) (uAdd K) := hK ▸ opAdd
end U
namespace U
open PySem PySem.Spec PyProof.Rows L2
theorem opEqK {X : Cx} {K : PySem.W.Frag} (hK : X.K = K) (hu : X.A.units + 64 < cLine) : OpR X (compareOp .Eq) (uEq K) := hK ▸ opEq hu
end U
namespace U
open PySem PySem.Spec PyProof.Rows L2
section
variable {K : PySem.W.Frag} {Wout : WX} {D : Ends} {i : Nat} {c cls : Value} {ts : Addr → Value → Option Addr → TS} {r : List (Value × (Addr → Value → Option Addr → TS))} {d : Option Addr} {σ : L2.St} {H : Hp}
theorem wn_no (e : PySem.W.exmOne K cls c = some false) (h : wNamed K Wout D i r cls d σ H) : wNamed K Wout D i ((c, ts) :: r) cls d σ H := ⟨false, e, fun z => absurd z (by decide), fun _ => h⟩
theorem wn_yes (e : PySem.W.exmOne K cls c = some true) (h : ∀ a, H a = none → ts a cls d (unset i D) (σ.set i (some (.ref a))) H) : wNamed K Wout D i ((c, ts) :: r) cls d σ H := ⟨true, e, fun _ => h, fun z => absurd z (by decide)⟩
end
end U
namespace U
open PySem PySem.Spec PyProof.Rows L2
def uReprOP (K : PySem.W.Frag) : List V → Hp → VK → Prop := fun vs H Q => uReprO K vs H Q ∨ uReprP K vs H Q
theorem caReprOP {X : Cx} (hg : X.A.guards = some []) (hu : X.A.units + 70 < cLine) : CallR X (.builtin "repr") (uReprOP X.K) := fun p s z H xs us Q I r h =>
  h.elim (fun h => caReprO hg hu p s z H xs us Q I r h) (fun h => caReprP hg hu p s z H xs us Q I r h)
theorem At.gr {H0 H H' : Hp} {D : List Addr} {F M : List (Addr × HO)} (L : At H0 D F M H) (g : Gr H H') : At H0 D F M H' := ⟨fun a o e n => g _ _ (L.fr a o e n), fun p hp => g _ _ (L.fa p hp), fun p hp => g _ _ (L.mu p hp), L.mf, L.df, L.nd⟩
theorem At.add {H0 H H' : Hp} {D : List Addr} {F M : List (Addr × HO)} {p : Addr} {o : HO} (L : At H0 D F M H) (g : Gr H H') (n : H p = none) (e : H' p = some o) : At H0 D ((p, o) :: F) M H' := by
  have L' := L.gr g
  refine ⟨L'.fr, fun q hq => ?_, L'.mu, L'.mf, fun q hq r hr => ?_, L'.nd⟩
  · rcases List.mem_cons.mp hq with rfl | hq
    · exact e
    · exact L'.fa q hq
  · rcases List.mem_cons.mp hr with rfl | hr
    · intro z
      have := L.mu q hq
      rw [z, n] at this
      cases this
    · exact L'.df q hq r hr
end U

namespace Law
open PySem PySem.Spec PyProof.Rows L2 U
/-! ### the text by places -/
def top (i : Nat) : Stmt := PySem.Challenge.pw_touchrows_k01_errors_kept_and_caught.main.body.getD i (.Pass ⟨0, 0, 0, 0⟩)
abbrev s__law_dice : Stmt := top 19
abbrev s__law_roll : Stmt := top 20
abbrev s__law_pick : Stmt := top 21
abbrev s__law_own : Stmt := top 22
abbrev s__law_whole : Stmt := top 23
abbrev s__law_messages : Stmt := top 24
abbrev s_ParseError___init__ : Stmt := inClass (top 10) 0
abbrev s_UnknownName___init__ : Stmt := inClass (top 11) 0
abbrev s_RowThere___init__ : Stmt := inClass (top 12) 0
abbrev s_RowAbsent___init__ : Stmt := inClass (top 13) 0
abbrev s_InvalidNumber___init__ : Stmt := inClass (top 14) 0
abbrev s_NothingToUndo___init__ : Stmt := inClass (top 15) 0
abbrev s_TooMany___init__ : Stmt := inClass (top 16) 0
abbrev s_Refused___init__ : Stmt := inClass (top 17) 0
abbrev s__law_stored : Stmt := top 25
abbrev s__law_caught : Stmt := top 26
abbrev s__law_right : Stmt := top 27
abbrev s_law : Stmt := top 28
theorem sc__law_dice : FnScope ["_law_script", "_law_spot", "_law_cell", "_law_great", "_law_left"] ["_law_script", "_law_spot"] (defScope s__law_dice) := ⟨rfl, rfl, rfl, by decide +kernel, rfl, by decide +kernel, by decide +kernel⟩
theorem sc__law_roll : FnScope ["_law_dice_here", "_law_total", "_law_found", "_law_one", "_law_two"] ["_law_dice_here", "_law_total"] (defScope s__law_roll) := ⟨rfl, rfl, rfl, by decide +kernel, rfl, by decide +kernel, by decide +kernel⟩
theorem sc__law_pick : FnScope ["_law_dice_here", "_law_items"] ["_law_dice_here", "_law_items"] (defScope s__law_pick) := ⟨rfl, rfl, rfl, by decide +kernel, rfl, by decide +kernel, by decide +kernel⟩
theorem sc__law_own : FnScope ["_law_error", "_law_found"] ["_law_error"] (defScope s__law_own) := ⟨rfl, rfl, rfl, by decide +kernel, rfl, by decide +kernel, by decide +kernel⟩
theorem sc__law_whole : FnScope ["_law_error", "_law_found"] ["_law_error"] (defScope s__law_whole) := ⟨rfl, rfl, rfl, by decide +kernel, rfl, by decide +kernel, by decide +kernel⟩
theorem sc__law_messages : FnScope ["_law_text", "_law_found"] ["_law_text"] (defScope s__law_messages) := ⟨rfl, rfl, rfl, by decide +kernel, rfl, by decide +kernel, by decide +kernel⟩
theorem sc_ParseError___init__ : FnScope ["self", "number"] ["self", "number"] (defScope s_ParseError___init__) := ⟨rfl, rfl, rfl, by decide +kernel, rfl, by decide +kernel, by decide +kernel⟩
theorem sc_UnknownName___init__ : FnScope ["self", "word"] ["self", "word"] (defScope s_UnknownName___init__) := ⟨rfl, rfl, rfl, by decide +kernel, rfl, by decide +kernel, by decide +kernel⟩
theorem sc_RowThere___init__ : FnScope ["self", "placed"] ["self", "placed"] (defScope s_RowThere___init__) := ⟨rfl, rfl, rfl, by decide +kernel, rfl, by decide +kernel, by decide +kernel⟩
theorem sc_RowAbsent___init__ : FnScope ["self", "missed"] ["self", "missed"] (defScope s_RowAbsent___init__) := ⟨rfl, rfl, rfl, by decide +kernel, rfl, by decide +kernel, by decide +kernel⟩
theorem sc_InvalidNumber___init__ : FnScope ["self", "value"] ["self", "value"] (defScope s_InvalidNumber___init__) := ⟨rfl, rfl, rfl, by decide +kernel, rfl, by decide +kernel, by decide +kernel⟩
theorem sc_NothingToUndo___init__ : FnScope ["self", "many"] ["self", "many"] (defScope s_NothingToUndo___init__) := ⟨rfl, rfl, rfl, by decide +kernel, rfl, by decide +kernel, by decide +kernel⟩
theorem sc_TooMany___init__ : FnScope ["self", "limit"] ["self", "limit"] (defScope s_TooMany___init__) := ⟨rfl, rfl, rfl, by decide +kernel, rfl, by decide +kernel, by decide +kernel⟩
theorem sc_Refused___init__ : FnScope ["self", "pledge"] ["self", "pledge"] (defScope s_Refused___init__) := ⟨rfl, rfl, rfl, by decide +kernel, rfl, by decide +kernel, by decide +kernel⟩
theorem sc__law_stored : FnScope ["_law_value", "_law_index", "_law_parse", "_law_unknown", "_law_there", "_law_absent", "_law_number", "_law_undo", "_law_limit", "_law_refused", "_law_found"] ["_law_value", "_law_index"] (defScope s__law_stored) := ⟨rfl, rfl, rfl, by decide +kernel, rfl, by decide +kernel, by decide +kernel⟩
theorem sc__law_caught : FnScope ["_law_way", "_law_value", "e"] ["_law_way", "_law_value"] (defScope s__law_caught) := ⟨rfl, rfl, rfl, by decide +kernel, rfl, by decide +kernel, by decide +kernel⟩
theorem sc__law_right : FnScope ["_law_dice_here", "_law_odd", "_law_value", "_law_index", "_law_due", "_law_told", "_law_letter", "_law_way"] ["_law_dice_here"] (defScope s__law_right) := ⟨rfl, rfl, rfl, by decide +kernel, rfl, by decide +kernel, by decide +kernel⟩
theorem sc_law : FnScope ["_law_script", "_law_spot", "_law_dice_here", "_law_turn"] ["_law_script"] (defScope s_law) := ⟨rfl, rfl, rfl, by decide +kernel, rfl, by decide +kernel, by decide +kernel⟩
/-- what the top leaves -/
structure Txt (K : PySem.W.Frag) (mg : Str → Option Value) where
  c_InvalidNumber : Addr
  g_InvalidNumber : mg "InvalidNumber" = some (.ref c_InvalidNumber)
  XC_InvalidNumber : XCl K c_InvalidNumber mIx "IndexError.__new__"
  HT_InvalidNumber : PySem.W.takerIn K c_InvalidNumber "value" = some none
  HF_InvalidNumber : PySem.W.findIn K (.ref c_InvalidNumber) "value" = some none
  c_InvalidOperation : Addr
  g_InvalidOperation : mg "InvalidOperation" = some (.ref c_InvalidOperation)
  x_InvalidOperation : PySem.W.excIn K c_InvalidOperation mVal "ValueError.__new__" = true
  k_InvalidOperation : PySem.W.keepIn K (.ref c_InvalidOperation) = true
  b_InvalidOperation : PySem.W.subIn K (.ref c_InvalidOperation) (.type "BaseException") = some true
  t_InvalidOperation : PySem.W.typeIn K (.ref c_InvalidOperation) = some (.type "type")
  is_InvalidOperation : ExcC K c_InvalidOperation
  c_InvalidPlan : Addr
  g_InvalidPlan : mg "InvalidPlan" = some (.ref c_InvalidPlan)
  x_InvalidPlan : PySem.W.excIn K c_InvalidPlan mVal "ValueError.__new__" = true
  k_InvalidPlan : PySem.W.keepIn K (.ref c_InvalidPlan) = true
  b_InvalidPlan : PySem.W.subIn K (.ref c_InvalidPlan) (.type "BaseException") = some true
  t_InvalidPlan : PySem.W.typeIn K (.ref c_InvalidPlan) = some (.type "type")
  is_InvalidPlan : ExcC K c_InvalidPlan
  c_InvalidQuestion : Addr
  g_InvalidQuestion : mg "InvalidQuestion" = some (.ref c_InvalidQuestion)
  x_InvalidQuestion : PySem.W.excIn K c_InvalidQuestion mVal "ValueError.__new__" = true
  k_InvalidQuestion : PySem.W.keepIn K (.ref c_InvalidQuestion) = true
  b_InvalidQuestion : PySem.W.subIn K (.ref c_InvalidQuestion) (.type "BaseException") = some true
  t_InvalidQuestion : PySem.W.typeIn K (.ref c_InvalidQuestion) = some (.type "type")
  is_InvalidQuestion : ExcC K c_InvalidQuestion
  c_InvalidRatio : Addr
  g_InvalidRatio : mg "InvalidRatio" = some (.ref c_InvalidRatio)
  x_InvalidRatio : PySem.W.excIn K c_InvalidRatio mVal "ValueError.__new__" = true
  k_InvalidRatio : PySem.W.keepIn K (.ref c_InvalidRatio) = true
  b_InvalidRatio : PySem.W.subIn K (.ref c_InvalidRatio) (.type "BaseException") = some true
  t_InvalidRatio : PySem.W.typeIn K (.ref c_InvalidRatio) = some (.type "type")
  is_InvalidRatio : ExcC K c_InvalidRatio
  c_InvalidRow : Addr
  g_InvalidRow : mg "InvalidRow" = some (.ref c_InvalidRow)
  x_InvalidRow : PySem.W.excIn K c_InvalidRow mVal "ValueError.__new__" = true
  k_InvalidRow : PySem.W.keepIn K (.ref c_InvalidRow) = true
  b_InvalidRow : PySem.W.subIn K (.ref c_InvalidRow) (.type "BaseException") = some true
  t_InvalidRow : PySem.W.typeIn K (.ref c_InvalidRow) = some (.type "type")
  is_InvalidRow : ExcC K c_InvalidRow
  c_InvalidStore : Addr
  g_InvalidStore : mg "InvalidStore" = some (.ref c_InvalidStore)
  x_InvalidStore : PySem.W.excIn K c_InvalidStore mVal "ValueError.__new__" = true
  k_InvalidStore : PySem.W.keepIn K (.ref c_InvalidStore) = true
  b_InvalidStore : PySem.W.subIn K (.ref c_InvalidStore) (.type "BaseException") = some true
  t_InvalidStore : PySem.W.typeIn K (.ref c_InvalidStore) = some (.type "type")
  is_InvalidStore : ExcC K c_InvalidStore
  c_InvalidView : Addr
  g_InvalidView : mg "InvalidView" = some (.ref c_InvalidView)
  x_InvalidView : PySem.W.excIn K c_InvalidView mVal "ValueError.__new__" = true
  k_InvalidView : PySem.W.keepIn K (.ref c_InvalidView) = true
  b_InvalidView : PySem.W.subIn K (.ref c_InvalidView) (.type "BaseException") = some true
  t_InvalidView : PySem.W.typeIn K (.ref c_InvalidView) = some (.type "type")
  is_InvalidView : ExcC K c_InvalidView
  c_InvalidWeights : Addr
  g_InvalidWeights : mg "InvalidWeights" = some (.ref c_InvalidWeights)
  x_InvalidWeights : PySem.W.excIn K c_InvalidWeights mVal "ValueError.__new__" = true
  k_InvalidWeights : PySem.W.keepIn K (.ref c_InvalidWeights) = true
  b_InvalidWeights : PySem.W.subIn K (.ref c_InvalidWeights) (.type "BaseException") = some true
  t_InvalidWeights : PySem.W.typeIn K (.ref c_InvalidWeights) = some (.type "type")
  is_InvalidWeights : ExcC K c_InvalidWeights
  c_NothingToUndo : Addr
  g_NothingToUndo : mg "NothingToUndo" = some (.ref c_NothingToUndo)
  XC_NothingToUndo : XCl K c_NothingToUndo mRun "RuntimeError.__new__"
  HT_NothingToUndo : PySem.W.takerIn K c_NothingToUndo "many" = some none
  HF_NothingToUndo : PySem.W.findIn K (.ref c_NothingToUndo) "many" = some none
  c_ParseError : Addr
  g_ParseError : mg "ParseError" = some (.ref c_ParseError)
  XC_ParseError : XCl K c_ParseError mVal "ValueError.__new__"
  HT_ParseError : PySem.W.takerIn K c_ParseError "number" = some none
  HF_ParseError : PySem.W.findIn K (.ref c_ParseError) "number" = some none
  c_Refused : Addr
  g_Refused : mg "Refused" = some (.ref c_Refused)
  XC_Refused : XCl K c_Refused mAr "ArithmeticError.__new__"
  HT_Refused : PySem.W.takerIn K c_Refused "pledge" = some none
  HF_Refused : PySem.W.findIn K (.ref c_Refused) "pledge" = some none
  c_RowAbsent : Addr
  g_RowAbsent : mg "RowAbsent" = some (.ref c_RowAbsent)
  XC_RowAbsent : XCl K c_RowAbsent mLook "LookupError.__new__"
  HT_RowAbsent : PySem.W.takerIn K c_RowAbsent "missed" = some none
  HF_RowAbsent : PySem.W.findIn K (.ref c_RowAbsent) "missed" = some none
  c_RowThere : Addr
  g_RowThere : mg "RowThere" = some (.ref c_RowThere)
  XC_RowThere : XCl K c_RowThere mLook "LookupError.__new__"
  HT_RowThere : PySem.W.takerIn K c_RowThere "placed" = some none
  HF_RowThere : PySem.W.findIn K (.ref c_RowThere) "placed" = some none
  c_TooMany : Addr
  g_TooMany : mg "TooMany" = some (.ref c_TooMany)
  XC_TooMany : XCl K c_TooMany mOver "OverflowError.__new__"
  HT_TooMany : PySem.W.takerIn K c_TooMany "limit" = some none
  HF_TooMany : PySem.W.findIn K (.ref c_TooMany) "limit" = some none
  c_TouchError : Addr
  g_TouchError : mg "TouchError" = some (.ref c_TouchError)
  x_TouchError : PySem.W.excIn K c_TouchError mVal "ValueError.__new__" = true
  k_TouchError : PySem.W.keepIn K (.ref c_TouchError) = true
  b_TouchError : PySem.W.subIn K (.ref c_TouchError) (.type "BaseException") = some true
  t_TouchError : PySem.W.typeIn K (.ref c_TouchError) = some (.type "type")
  is_TouchError : ExcC K c_TouchError
  c_UnknownName : Addr
  g_UnknownName : mg "UnknownName" = some (.ref c_UnknownName)
  XC_UnknownName : XCl K c_UnknownName mKey "LookupError.__new__"
  HT_UnknownName : PySem.W.takerIn K c_UnknownName "word" = some none
  HF_UnknownName : PySem.W.findIn K (.ref c_UnknownName) "word" = some none
  ow_InvalidRatio : OwnK K [.ref c_InvalidRatio, .ref c_InvalidQuestion, .ref c_InvalidRow, .ref c_InvalidStore, .ref c_InvalidView, .ref c_InvalidPlan, .ref c_InvalidWeights, .ref c_InvalidOperation, .ref c_ParseError, .ref c_UnknownName, .ref c_RowThere, .ref c_RowAbsent, .ref c_InvalidNumber, .ref c_NothingToUndo, .ref c_TooMany, .ref c_Refused] c_InvalidRatio [true, false, false, false, false, false, false, false, false, false, false, false, false, false, false, false]
  kb_InvalidRatio : OwnK K [.ref c_TouchError, .type "ValueError", .type "KeyError", .type "IndexError", .type "LookupError", .type "RuntimeError", .type "OverflowError", .type "ArithmeticError"] c_InvalidRatio [true, true, false, false, false, false, false, false]
  ow_InvalidQuestion : OwnK K [.ref c_InvalidRatio, .ref c_InvalidQuestion, .ref c_InvalidRow, .ref c_InvalidStore, .ref c_InvalidView, .ref c_InvalidPlan, .ref c_InvalidWeights, .ref c_InvalidOperation, .ref c_ParseError, .ref c_UnknownName, .ref c_RowThere, .ref c_RowAbsent, .ref c_InvalidNumber, .ref c_NothingToUndo, .ref c_TooMany, .ref c_Refused] c_InvalidQuestion [false, true, false, false, false, false, false, false, false, false, false, false, false, false, false, false]
  kb_InvalidQuestion : OwnK K [.ref c_TouchError, .type "ValueError", .type "KeyError", .type "IndexError", .type "LookupError", .type "RuntimeError", .type "OverflowError", .type "ArithmeticError"] c_InvalidQuestion [true, true, false, false, false, false, false, false]
  ow_InvalidRow : OwnK K [.ref c_InvalidRatio, .ref c_InvalidQuestion, .ref c_InvalidRow, .ref c_InvalidStore, .ref c_InvalidView, .ref c_InvalidPlan, .ref c_InvalidWeights, .ref c_InvalidOperation, .ref c_ParseError, .ref c_UnknownName, .ref c_RowThere, .ref c_RowAbsent, .ref c_InvalidNumber, .ref c_NothingToUndo, .ref c_TooMany, .ref c_Refused] c_InvalidRow [false, false, true, false, false, false, false, false, false, false, false, false, false, false, false, false]
  kb_InvalidRow : OwnK K [.ref c_TouchError, .type "ValueError", .type "KeyError", .type "IndexError", .type "LookupError", .type "RuntimeError", .type "OverflowError", .type "ArithmeticError"] c_InvalidRow [true, true, false, false, false, false, false, false]
  ow_InvalidStore : OwnK K [.ref c_InvalidRatio, .ref c_InvalidQuestion, .ref c_InvalidRow, .ref c_InvalidStore, .ref c_InvalidView, .ref c_InvalidPlan, .ref c_InvalidWeights, .ref c_InvalidOperation, .ref c_ParseError, .ref c_UnknownName, .ref c_RowThere, .ref c_RowAbsent, .ref c_InvalidNumber, .ref c_NothingToUndo, .ref c_TooMany, .ref c_Refused] c_InvalidStore [false, false, false, true, false, false, false, false, false, false, false, false, false, false, false, false]
  kb_InvalidStore : OwnK K [.ref c_TouchError, .type "ValueError", .type "KeyError", .type "IndexError", .type "LookupError", .type "RuntimeError", .type "OverflowError", .type "ArithmeticError"] c_InvalidStore [true, true, false, false, false, false, false, false]
  ow_InvalidView : OwnK K [.ref c_InvalidRatio, .ref c_InvalidQuestion, .ref c_InvalidRow, .ref c_InvalidStore, .ref c_InvalidView, .ref c_InvalidPlan, .ref c_InvalidWeights, .ref c_InvalidOperation, .ref c_ParseError, .ref c_UnknownName, .ref c_RowThere, .ref c_RowAbsent, .ref c_InvalidNumber, .ref c_NothingToUndo, .ref c_TooMany, .ref c_Refused] c_InvalidView [false, false, false, false, true, false, false, false, false, false, false, false, false, false, false, false]
  kb_InvalidView : OwnK K [.ref c_TouchError, .type "ValueError", .type "KeyError", .type "IndexError", .type "LookupError", .type "RuntimeError", .type "OverflowError", .type "ArithmeticError"] c_InvalidView [true, true, false, false, false, false, false, false]
  ow_InvalidPlan : OwnK K [.ref c_InvalidRatio, .ref c_InvalidQuestion, .ref c_InvalidRow, .ref c_InvalidStore, .ref c_InvalidView, .ref c_InvalidPlan, .ref c_InvalidWeights, .ref c_InvalidOperation, .ref c_ParseError, .ref c_UnknownName, .ref c_RowThere, .ref c_RowAbsent, .ref c_InvalidNumber, .ref c_NothingToUndo, .ref c_TooMany, .ref c_Refused] c_InvalidPlan [false, false, false, false, false, true, false, false, false, false, false, false, false, false, false, false]
  kb_InvalidPlan : OwnK K [.ref c_TouchError, .type "ValueError", .type "KeyError", .type "IndexError", .type "LookupError", .type "RuntimeError", .type "OverflowError", .type "ArithmeticError"] c_InvalidPlan [true, true, false, false, false, false, false, false]
  ow_InvalidWeights : OwnK K [.ref c_InvalidRatio, .ref c_InvalidQuestion, .ref c_InvalidRow, .ref c_InvalidStore, .ref c_InvalidView, .ref c_InvalidPlan, .ref c_InvalidWeights, .ref c_InvalidOperation, .ref c_ParseError, .ref c_UnknownName, .ref c_RowThere, .ref c_RowAbsent, .ref c_InvalidNumber, .ref c_NothingToUndo, .ref c_TooMany, .ref c_Refused] c_InvalidWeights [false, false, false, false, false, false, true, false, false, false, false, false, false, false, false, false]
  kb_InvalidWeights : OwnK K [.ref c_TouchError, .type "ValueError", .type "KeyError", .type "IndexError", .type "LookupError", .type "RuntimeError", .type "OverflowError", .type "ArithmeticError"] c_InvalidWeights [true, true, false, false, false, false, false, false]
  ow_InvalidOperation : OwnK K [.ref c_InvalidRatio, .ref c_InvalidQuestion, .ref c_InvalidRow, .ref c_InvalidStore, .ref c_InvalidView, .ref c_InvalidPlan, .ref c_InvalidWeights, .ref c_InvalidOperation, .ref c_ParseError, .ref c_UnknownName, .ref c_RowThere, .ref c_RowAbsent, .ref c_InvalidNumber, .ref c_NothingToUndo, .ref c_TooMany, .ref c_Refused] c_InvalidOperation [false, false, false, false, false, false, false, true, false, false, false, false, false, false, false, false]
  kb_InvalidOperation : OwnK K [.ref c_TouchError, .type "ValueError", .type "KeyError", .type "IndexError", .type "LookupError", .type "RuntimeError", .type "OverflowError", .type "ArithmeticError"] c_InvalidOperation [true, true, false, false, false, false, false, false]
  ow_ParseError : OwnK K [.ref c_InvalidRatio, .ref c_InvalidQuestion, .ref c_InvalidRow, .ref c_InvalidStore, .ref c_InvalidView, .ref c_InvalidPlan, .ref c_InvalidWeights, .ref c_InvalidOperation, .ref c_ParseError, .ref c_UnknownName, .ref c_RowThere, .ref c_RowAbsent, .ref c_InvalidNumber, .ref c_NothingToUndo, .ref c_TooMany, .ref c_Refused] c_ParseError [false, false, false, false, false, false, false, false, true, false, false, false, false, false, false, false]
  kb_ParseError : OwnK K [.ref c_TouchError, .type "ValueError", .type "KeyError", .type "IndexError", .type "LookupError", .type "RuntimeError", .type "OverflowError", .type "ArithmeticError"] c_ParseError [true, true, false, false, false, false, false, false]
  ow_UnknownName : OwnK K [.ref c_InvalidRatio, .ref c_InvalidQuestion, .ref c_InvalidRow, .ref c_InvalidStore, .ref c_InvalidView, .ref c_InvalidPlan, .ref c_InvalidWeights, .ref c_InvalidOperation, .ref c_ParseError, .ref c_UnknownName, .ref c_RowThere, .ref c_RowAbsent, .ref c_InvalidNumber, .ref c_NothingToUndo, .ref c_TooMany, .ref c_Refused] c_UnknownName [false, false, false, false, false, false, false, false, false, true, false, false, false, false, false, false]
  kb_UnknownName : OwnK K [.ref c_TouchError, .type "ValueError", .type "KeyError", .type "IndexError", .type "LookupError", .type "RuntimeError", .type "OverflowError", .type "ArithmeticError"] c_UnknownName [false, false, true, false, true, false, false, false]
  ow_RowThere : OwnK K [.ref c_InvalidRatio, .ref c_InvalidQuestion, .ref c_InvalidRow, .ref c_InvalidStore, .ref c_InvalidView, .ref c_InvalidPlan, .ref c_InvalidWeights, .ref c_InvalidOperation, .ref c_ParseError, .ref c_UnknownName, .ref c_RowThere, .ref c_RowAbsent, .ref c_InvalidNumber, .ref c_NothingToUndo, .ref c_TooMany, .ref c_Refused] c_RowThere [false, false, false, false, false, false, false, false, false, false, true, false, false, false, false, false]
  kb_RowThere : OwnK K [.ref c_TouchError, .type "ValueError", .type "KeyError", .type "IndexError", .type "LookupError", .type "RuntimeError", .type "OverflowError", .type "ArithmeticError"] c_RowThere [false, false, false, false, true, false, false, false]
  ow_RowAbsent : OwnK K [.ref c_InvalidRatio, .ref c_InvalidQuestion, .ref c_InvalidRow, .ref c_InvalidStore, .ref c_InvalidView, .ref c_InvalidPlan, .ref c_InvalidWeights, .ref c_InvalidOperation, .ref c_ParseError, .ref c_UnknownName, .ref c_RowThere, .ref c_RowAbsent, .ref c_InvalidNumber, .ref c_NothingToUndo, .ref c_TooMany, .ref c_Refused] c_RowAbsent [false, false, false, false, false, false, false, false, false, false, false, true, false, false, false, false]
  kb_RowAbsent : OwnK K [.ref c_TouchError, .type "ValueError", .type "KeyError", .type "IndexError", .type "LookupError", .type "RuntimeError", .type "OverflowError", .type "ArithmeticError"] c_RowAbsent [false, false, false, false, true, false, false, false]
  ow_InvalidNumber : OwnK K [.ref c_InvalidRatio, .ref c_InvalidQuestion, .ref c_InvalidRow, .ref c_InvalidStore, .ref c_InvalidView, .ref c_InvalidPlan, .ref c_InvalidWeights, .ref c_InvalidOperation, .ref c_ParseError, .ref c_UnknownName, .ref c_RowThere, .ref c_RowAbsent, .ref c_InvalidNumber, .ref c_NothingToUndo, .ref c_TooMany, .ref c_Refused] c_InvalidNumber [false, false, false, false, false, false, false, false, false, false, false, false, true, false, false, false]
  kb_InvalidNumber : OwnK K [.ref c_TouchError, .type "ValueError", .type "KeyError", .type "IndexError", .type "LookupError", .type "RuntimeError", .type "OverflowError", .type "ArithmeticError"] c_InvalidNumber [false, false, false, true, true, false, false, false]
  ow_NothingToUndo : OwnK K [.ref c_InvalidRatio, .ref c_InvalidQuestion, .ref c_InvalidRow, .ref c_InvalidStore, .ref c_InvalidView, .ref c_InvalidPlan, .ref c_InvalidWeights, .ref c_InvalidOperation, .ref c_ParseError, .ref c_UnknownName, .ref c_RowThere, .ref c_RowAbsent, .ref c_InvalidNumber, .ref c_NothingToUndo, .ref c_TooMany, .ref c_Refused] c_NothingToUndo [false, false, false, false, false, false, false, false, false, false, false, false, false, true, false, false]
  kb_NothingToUndo : OwnK K [.ref c_TouchError, .type "ValueError", .type "KeyError", .type "IndexError", .type "LookupError", .type "RuntimeError", .type "OverflowError", .type "ArithmeticError"] c_NothingToUndo [false, false, false, false, false, true, false, false]
  ow_TooMany : OwnK K [.ref c_InvalidRatio, .ref c_InvalidQuestion, .ref c_InvalidRow, .ref c_InvalidStore, .ref c_InvalidView, .ref c_InvalidPlan, .ref c_InvalidWeights, .ref c_InvalidOperation, .ref c_ParseError, .ref c_UnknownName, .ref c_RowThere, .ref c_RowAbsent, .ref c_InvalidNumber, .ref c_NothingToUndo, .ref c_TooMany, .ref c_Refused] c_TooMany [false, false, false, false, false, false, false, false, false, false, false, false, false, false, true, false]
  kb_TooMany : OwnK K [.ref c_TouchError, .type "ValueError", .type "KeyError", .type "IndexError", .type "LookupError", .type "RuntimeError", .type "OverflowError", .type "ArithmeticError"] c_TooMany [false, false, false, false, false, false, true, true]
  ow_Refused : OwnK K [.ref c_InvalidRatio, .ref c_InvalidQuestion, .ref c_InvalidRow, .ref c_InvalidStore, .ref c_InvalidView, .ref c_InvalidPlan, .ref c_InvalidWeights, .ref c_InvalidOperation, .ref c_ParseError, .ref c_UnknownName, .ref c_RowThere, .ref c_RowAbsent, .ref c_InvalidNumber, .ref c_NothingToUndo, .ref c_TooMany, .ref c_Refused] c_Refused [false, false, false, false, false, false, false, false, false, false, false, false, false, false, false, true]
  kb_Refused : OwnK K [.ref c_TouchError, .type "ValueError", .type "KeyError", .type "IndexError", .type "LookupError", .type "RuntimeError", .type "OverflowError", .type "ArithmeticError"] c_Refused [false, false, false, false, false, false, false, true]
  ow_TouchError : OwnK K [.ref c_InvalidRatio, .ref c_InvalidQuestion, .ref c_InvalidRow, .ref c_InvalidStore, .ref c_InvalidView, .ref c_InvalidPlan, .ref c_InvalidWeights, .ref c_InvalidOperation, .ref c_ParseError, .ref c_UnknownName, .ref c_RowThere, .ref c_RowAbsent, .ref c_InvalidNumber, .ref c_NothingToUndo, .ref c_TooMany, .ref c_Refused] c_TouchError [false, false, false, false, false, false, false, false, false, false, false, false, false, false, false, false]
  kb_TouchError : OwnK K [.ref c_TouchError, .type "ValueError", .type "KeyError", .type "IndexError", .type "LookupError", .type "RuntimeError", .type "OverflowError", .type "ArithmeticError"] c_TouchError [true, true, false, false, false, false, false, false]
  e_InvalidWeights_ParseError : PySem.W.exmOne K (.ref c_InvalidWeights) (.ref c_ParseError) = some false
  e_InvalidWeights_TouchError : PySem.W.exmOne K (.ref c_InvalidWeights) (.ref c_TouchError) = some true
  e_RowAbsent_ParseError : PySem.W.exmOne K (.ref c_RowAbsent) (.ref c_ParseError) = some false
  e_RowAbsent_TouchError : PySem.W.exmOne K (.ref c_RowAbsent) (.ref c_TouchError) = some false
  e_RowAbsent_RowThere : PySem.W.exmOne K (.ref c_RowAbsent) (.ref c_RowThere) = some false
  e_RowAbsent_RowAbsent : PySem.W.exmOne K (.ref c_RowAbsent) (.ref c_RowAbsent) = some true
  e_RowThere_ParseError : PySem.W.exmOne K (.ref c_RowThere) (.ref c_ParseError) = some false
  e_RowThere_TouchError : PySem.W.exmOne K (.ref c_RowThere) (.ref c_TouchError) = some false
  e_RowThere_RowThere : PySem.W.exmOne K (.ref c_RowThere) (.ref c_RowThere) = some true
  e_ParseError_ParseError : PySem.W.exmOne K (.ref c_ParseError) (.ref c_ParseError) = some true
  a__law_dice : Addr
  d__law_dice : FuncData
  g__law_dice : mg "_law_dice" = some (.ref a__law_dice)
  F__law_dice : Fun K "_law_dice" "_law_dice" s__law_dice a__law_dice d__law_dice
  B__law_dice : Binds K d__law_dice ["_law_script", "_law_spot"] []
  a__law_roll : Addr
  d__law_roll : FuncData
  g__law_roll : mg "_law_roll" = some (.ref a__law_roll)
  F__law_roll : Fun K "_law_roll" "_law_roll" s__law_roll a__law_roll d__law_roll
  B__law_roll : Binds K d__law_roll ["_law_dice_here", "_law_total"] []
  a__law_pick : Addr
  d__law_pick : FuncData
  g__law_pick : mg "_law_pick" = some (.ref a__law_pick)
  F__law_pick : Fun K "_law_pick" "_law_pick" s__law_pick a__law_pick d__law_pick
  B__law_pick : Binds K d__law_pick ["_law_dice_here", "_law_items"] []
  a__law_own : Addr
  d__law_own : FuncData
  g__law_own : mg "_law_own" = some (.ref a__law_own)
  F__law_own : Fun K "_law_own" "_law_own" s__law_own a__law_own d__law_own
  B__law_own : Binds K d__law_own ["_law_error"] []
  a__law_whole : Addr
  d__law_whole : FuncData
  g__law_whole : mg "_law_whole" = some (.ref a__law_whole)
  F__law_whole : Fun K "_law_whole" "_law_whole" s__law_whole a__law_whole d__law_whole
  B__law_whole : Binds K d__law_whole ["_law_error"] []
  a__law_messages : Addr
  d__law_messages : FuncData
  g__law_messages : mg "_law_messages" = some (.ref a__law_messages)
  F__law_messages : Fun K "_law_messages" "_law_messages" s__law_messages a__law_messages d__law_messages
  B__law_messages : Binds K d__law_messages ["_law_text"] []
  a_ParseError___init__ : Addr
  d_ParseError___init__ : FuncData
  F_ParseError___init__ : Fun K "__init__" "ParseError.__init__" s_ParseError___init__ a_ParseError___init__ d_ParseError___init__
  B_ParseError___init__ : Binds K d_ParseError___init__ ["self", "number"] []
  IC_ParseError : PySem.W.findIn K (.ref c_ParseError) "__init__" = some (some (.ref a_ParseError___init__))
  IT_ParseError : PySem.W.typeIn K (.ref a_ParseError___init__) = some (.type "function")
  a_UnknownName___init__ : Addr
  d_UnknownName___init__ : FuncData
  F_UnknownName___init__ : Fun K "__init__" "UnknownName.__init__" s_UnknownName___init__ a_UnknownName___init__ d_UnknownName___init__
  B_UnknownName___init__ : Binds K d_UnknownName___init__ ["self", "word"] []
  IC_UnknownName : PySem.W.findIn K (.ref c_UnknownName) "__init__" = some (some (.ref a_UnknownName___init__))
  IT_UnknownName : PySem.W.typeIn K (.ref a_UnknownName___init__) = some (.type "function")
  a_RowThere___init__ : Addr
  d_RowThere___init__ : FuncData
  F_RowThere___init__ : Fun K "__init__" "RowThere.__init__" s_RowThere___init__ a_RowThere___init__ d_RowThere___init__
  B_RowThere___init__ : Binds K d_RowThere___init__ ["self", "placed"] []
  IC_RowThere : PySem.W.findIn K (.ref c_RowThere) "__init__" = some (some (.ref a_RowThere___init__))
  IT_RowThere : PySem.W.typeIn K (.ref a_RowThere___init__) = some (.type "function")
  a_RowAbsent___init__ : Addr
  d_RowAbsent___init__ : FuncData
  F_RowAbsent___init__ : Fun K "__init__" "RowAbsent.__init__" s_RowAbsent___init__ a_RowAbsent___init__ d_RowAbsent___init__
  B_RowAbsent___init__ : Binds K d_RowAbsent___init__ ["self", "missed"] []
  IC_RowAbsent : PySem.W.findIn K (.ref c_RowAbsent) "__init__" = some (some (.ref a_RowAbsent___init__))
  IT_RowAbsent : PySem.W.typeIn K (.ref a_RowAbsent___init__) = some (.type "function")
  a_InvalidNumber___init__ : Addr
  d_InvalidNumber___init__ : FuncData
  F_InvalidNumber___init__ : Fun K "__init__" "InvalidNumber.__init__" s_InvalidNumber___init__ a_InvalidNumber___init__ d_InvalidNumber___init__
  B_InvalidNumber___init__ : Binds K d_InvalidNumber___init__ ["self", "value"] []
  IC_InvalidNumber : PySem.W.findIn K (.ref c_InvalidNumber) "__init__" = some (some (.ref a_InvalidNumber___init__))
  IT_InvalidNumber : PySem.W.typeIn K (.ref a_InvalidNumber___init__) = some (.type "function")
  a_NothingToUndo___init__ : Addr
  d_NothingToUndo___init__ : FuncData
  F_NothingToUndo___init__ : Fun K "__init__" "NothingToUndo.__init__" s_NothingToUndo___init__ a_NothingToUndo___init__ d_NothingToUndo___init__
  B_NothingToUndo___init__ : Binds K d_NothingToUndo___init__ ["self", "many"] []
  IC_NothingToUndo : PySem.W.findIn K (.ref c_NothingToUndo) "__init__" = some (some (.ref a_NothingToUndo___init__))
  IT_NothingToUndo : PySem.W.typeIn K (.ref a_NothingToUndo___init__) = some (.type "function")
  a_TooMany___init__ : Addr
  d_TooMany___init__ : FuncData
  F_TooMany___init__ : Fun K "__init__" "TooMany.__init__" s_TooMany___init__ a_TooMany___init__ d_TooMany___init__
  B_TooMany___init__ : Binds K d_TooMany___init__ ["self", "limit"] []
  IC_TooMany : PySem.W.findIn K (.ref c_TooMany) "__init__" = some (some (.ref a_TooMany___init__))
  IT_TooMany : PySem.W.typeIn K (.ref a_TooMany___init__) = some (.type "function")
  a_Refused___init__ : Addr
  d_Refused___init__ : FuncData
  F_Refused___init__ : Fun K "__init__" "Refused.__init__" s_Refused___init__ a_Refused___init__ d_Refused___init__
  B_Refused___init__ : Binds K d_Refused___init__ ["self", "pledge"] []
  IC_Refused : PySem.W.findIn K (.ref c_Refused) "__init__" = some (some (.ref a_Refused___init__))
  IT_Refused : PySem.W.typeIn K (.ref a_Refused___init__) = some (.type "function")
  a__law_stored : Addr
  d__law_stored : FuncData
  g__law_stored : mg "_law_stored" = some (.ref a__law_stored)
  F__law_stored : Fun K "_law_stored" "_law_stored" s__law_stored a__law_stored d__law_stored
  B__law_stored : Binds K d__law_stored ["_law_value", "_law_index"] []
  a__law_caught : Addr
  d__law_caught : FuncData
  g__law_caught : mg "_law_caught" = some (.ref a__law_caught)
  F__law_caught : Fun K "_law_caught" "_law_caught" s__law_caught a__law_caught d__law_caught
  B__law_caught : Binds K d__law_caught ["_law_way", "_law_value"] []
  a__law_right : Addr
  d__law_right : FuncData
  g__law_right : mg "_law_right" = some (.ref a__law_right)
  F__law_right : Fun K "_law_right" "_law_right" s__law_right a__law_right d__law_right
  B__law_right : Binds K d__law_right ["_law_dice_here"] []
  a_law : Addr
  d_law : FuncData
  g_law : mg "law" = some (.ref a_law)
  F_law : Fun K "law" "law" s_law a_law d_law
  B_law : Binds K d_law ["_law_script"] []
  b_ArithmeticError : mg "ArithmeticError" = none
  b_IndexError : mg "IndexError" = none
  b_KeyError : mg "KeyError" = none
  b_LookupError : mg "LookupError" = none
  b_OverflowError : mg "OverflowError" = none
  b_RuntimeError : mg "RuntimeError" = none
  b_ValueError : mg "ValueError" = none
  b_abs : mg "abs" = none
  b_int : mg "int" = none
  b_isinstance : mg "isinstance" = none
  b_len : mg "len" = none
  b_max : mg "max" = none
  b_min : mg "min" = none
  b_range : mg "range" = none
  b_repr : mg "repr" = none
section
variable {P : Program} {w : World} {K : PySem.W.Frag} {mg : Str → Option Value} {base : Heap}
def sp__law_dice (K : PySem.W.Frag) : Sp := fun vs H Q _ => ∃ (a : Addr) (ns : List Int) (i : Nat), vs = [.ref a, .int i] ∧ SqL K H a (ns.map V.int) ∧ i ≤ 100 ∧
  ∀ (H' : Hp) (p : Addr) (o : HO), (∀ b u, H b = some u → H' b = some u) → H p = none → H' p = some o → Dice 0 o → Q (.ref p) H'
theorem dice_fits {c : Int} {i : Nat} (hi : i ≤ 100) (k : Int) (hk : 0 ≤ k ∧ k ≤ 1) : Dice 0 (.lst [.int (max 0 ((c.natAbs : Int) - 10 ^ Int.toNat 17) % (10 ^ Int.toNat 60 * 10 ^ Int.toNat 60)), .int ((c.natAbs : Int) % 10 ^ Int.toNat 58 % 2147483563 * 41 + 709 * i + 17 * k + 3), .int 0]) := by
  have h1 := Int.emod_nonneg (max 0 ((c.natAbs : Int) - 10 ^ Int.toNat 17)) (show (10 ^ Int.toNat 60 * 10 ^ Int.toNat 60 : Int) ≠ 0 by decide)
  have h2 := Int.emod_lt_of_pos (max 0 ((c.natAbs : Int) - 10 ^ Int.toNat 17)) (show (0 : Int) < 10 ^ Int.toNat 60 * 10 ^ Int.toNat 60 by decide)
  have h3 := Int.emod_nonneg ((c.natAbs : Int) % 10 ^ Int.toNat 58) (show (2147483563 : Int) ≠ 0 by decide)
  have h4 := Int.emod_lt_of_pos ((c.natAbs : Int) % 10 ^ Int.toNat 58) (show (0 : Int) < 2147483563 by decide)
  exact ⟨_, _, _, rfl, ⟨h1, Int.lt_trans h2 (by decide +kernel)⟩, ⟨by omega, Int.lt_of_le_of_lt (show _ ≤ (100000000000 : Int) by omega) (by decide)⟩, by decide, by decide⟩
theorem ok__law_dice (T : Txt K mg) : FnOk P w K mg base CX0 1 T.a__law_dice T.d__law_dice ["_law_script", "_law_spot"] (sp__law_dice K) := by
  refine T.F__law_dice.ok sc__law_dice (fun vs H Q E h => ?_) (fun cdv A outer s H vs Q E hr h => ?_)
  · obtain ⟨a, ns, i, rfl, _⟩ := h; rfl
  · obtain ⟨a, ns, i, rfl, hS, hi, k⟩ := h
    refine ⟨_, (pss_cons (ps_set (i := 2) sc__law_dice.nd rfl (by first | exact Or.inl rfl | exact Or.inr rfl) (peIf (pt_cmpR opLt (pev 1) (pe_callB caLen (by rfl) T.b_len (by decide +kernel) (pa_cons (pev 0) pa_nil)) (nomark _)) (pe_callTy caIntT (by rfl) T.b_int (by decide +kernel) (pa_cons (pe_ix ixU (pev 0) (pev 1) (fun _ _ => rfl)) pa_nil)) (pe_op opAdd (pe_op opMulT pe_int (pev 1)) pe_int)))
        (pss_cons (ps_set (i := 3) sc__law_dice.nd rfl (by first | exact Or.inl rfl | exact Or.inr rfl) (pe_op opMod (pe_callB caAbs (by rfl) T.b_abs (by decide +kernel) (pa_cons (pev 2) pa_nil)) (pe_op opPow pe_int pe_int)))
        (pss_cons (ps_set (i := 4) sc__law_dice.nd rfl (by first | exact Or.inl rfl | exact Or.inr rfl) (pe_callB (caMax rfl) (by rfl) T.b_max (by decide +kernel) (pa_cons pe_int (pa_cons (pe_op opSub (pe_callB caAbs (by rfl) T.b_abs (by decide +kernel) (pa_cons (pev 2) pa_nil)) (pe_op opPow pe_int pe_int)) pa_nil))))
        (pss_one (ps_ret (pe_lst (pa_cons (pe_op opMod (pev 4) (pe_op opMulT (pe_op opPow pe_int pe_int) (pe_op opPow pe_int pe_int))) (pa_cons (pe_op opAdd (pe_op opAdd (pe_op opAdd (pe_op opMulT (pe_op opMod (pev 3) pe_int) pe_int) (pe_op opMulT pe_int (pev 1))) (pe_op opMulT pe_int (pe_callTy caIntT (by rfl) T.b_int (by decide +kernel) (pa_cons (pe_cmpR opLt (pev 2) pe_int (nomark _)) pa_nil)))) pe_int) (pa_cons pe_int pa_nil))))))))), ?_⟩
    conv => whnf
    refine ⟨_, .inl hS, ?_⟩
    conv => whnf
    refine ⟨_, rfl, ?_⟩
    refine brD (fun ha => ?x) (fun ha => ?y)
    case' x =>
      conv => whnf
      obtain ⟨v, hv, ev⟩ := atI_lt (xs := ns.map V.int) (i := i) (by omega) ha
      obtain ⟨c, hc, rfl⟩ := List.mem_map.mp hv
      refine ⟨_, _, .inl hS, ev, ?_⟩
      clear ev hv hc
      conv => whnf
    case' y =>
      conv => whnf
      refine ⟨mulW 20 20 (by decide) (U.abs_lt (by omega) (by omega)), ?_⟩
      conv => whnf
      generalize 59 * (i : Int) + 13 = c
    all_goals
      refine ⟨⟨by decide, by decide, by decide⟩, ?_⟩
      conv => whnf
      refine ⟨by decide, ?_⟩
      conv => whnf
      refine ⟨⟨by decide, by decide, by decide⟩, ?_⟩
      conv => whnf
      refine ⟨⟨by decide, by decide, by decide⟩, ?_⟩
      conv => whnf
      refine ⟨⟨by decide, by decide, by decide⟩, ?_⟩
      conv => whnf
      refine ⟨mulW 250 250 (by decide) (by decide), ?_⟩
      conv => whnf
      refine ⟨by decide, ?_⟩
      conv => whnf
      refine ⟨by decide, ?_⟩
      conv => whnf
      have h3 := Int.emod_nonneg ((c.natAbs : Int) % 10 ^ Int.toNat 58) (show (2147483563 : Int) ≠ 0 by decide)
      have h4 := Int.emod_lt_of_pos ((c.natAbs : Int) % 10 ^ Int.toNat 58) (show (0 : Int) < 2147483563 by decide)
      refine ⟨mulW 64 64 (U.abs_lt h3 (by omega)) (by decide), ?_⟩
      conv => whnf
      refine ⟨mulW 64 64 (by decide) (U.abs_lt (by omega) (by omega)), ?_⟩
      conv => whnf
      refine ⟨mulW 64 64 (by decide) (by split <;> decide), ?_⟩
      conv => whnf
      refine ⟨small_ok (by simp), fun p hp => ?_⟩
      exact k _ p _ (fun b u e => by rw [upd_ne (ne_of_none e hp)]; exact e) hp upd_same (dice_fits hi _ (by split <;> decide))
def sp__law_roll (K : PySem.W.Frag) : Sp := fun vs H Q _ => ∃ (d : Addr) (n : Nat) (t : Int) (o : HO), vs = [.ref d, .int t] ∧ H d = some o ∧ Dice n o ∧ n ≤ 1000000 ∧ 1 ≤ t ∧ t < 2 ^ 5000 ∧
  ∀ (H' : Hp) (r : Int) (o' : HO), (∀ b u, H b = some u → b ≠ d → H' b = some u) → H' d = some o' → Dice (n + 1) o' → 0 ≤ r → r < t → Q (.int r) H'
theorem ok__law_roll (T : Txt K mg) : FnOk P w K mg base CX0 1 T.a__law_roll T.d__law_roll ["_law_dice_here", "_law_total"] (sp__law_roll K) := by
  refine T.F__law_roll.ok sc__law_roll (fun vs H Q E h => ?_) (fun cdv A outer s H vs Q E hr h => ?_)
  · obtain ⟨d, n, t, o, rfl, _⟩ := h; rfl
  · obtain ⟨d, n, t, o, rfl, hd, ⟨a, b, c, rfl, ⟨a0, a1⟩, ⟨b0, b1⟩, ⟨c0, c1⟩⟩, hn, t1, t2, k⟩ := h
    refine ⟨_, (pss_cons (psIf (pt_cmpR opGt (pe_ix ixU (pev 0) pe_int (fun _ _ => rfl)) pe_int (nomark _)) (pss_cons (ps_set (i := 2) sc__law_roll.nd rfl (by first | exact Or.inl rfl | exact Or.inr rfl) (pe_op opMod (pe_callTy caIntT (by rfl) T.b_int (by decide +kernel) (pa_cons (pe_ix ixU (pev 0) pe_int (fun _ _ => rfl)) pa_nil)) (pev 1)))
        (pss_cons (ps_asg (pe_op opDiv (pe_ix ixU (pev 0) pe_int (fun _ _ => rfl)) (pev 1)) (pg_sub (pev 0) pe_int set_list))
        (pss_one (ps_ret (pev 2))))) pss_nil)
        (pss_cons (ps_asg (pe_op opAdd (pe_ix ixU (pev 0) pe_int (fun _ _ => rfl)) pe_int) (pg_sub (pev 0) pe_int set_list))
        (pss_cons (ps_set (i := 3) sc__law_roll.nd rfl (by first | exact Or.inl rfl | exact Or.inr rfl) (pe_op opMod (pe_callTy caIntT (by rfl) T.b_int (by decide +kernel) (pa_cons (pe_op opAdd (pe_ix ixU (pev 0) pe_int (fun _ _ => rfl)) (pe_op opMulT pe_int (pe_ix ixU (pev 0) pe_int (fun _ _ => rfl)))) pa_nil)) pe_int))
        (pss_cons (ps_set (i := 4) sc__law_roll.nd rfl (by first | exact Or.inl rfl | exact Or.inr rfl) (pe_op opAdd (pe_op opMulT (pe_op opMod (pe_callTy caIntT (by rfl) T.b_int (by decide +kernel) (pa_cons (pe_op opAdd (pe_op opMulT (pev 3) (pev 3)) (pe_op opMulT pe_int (pe_ix ixU (pev 0) pe_int (fun _ _ => rfl)))) pa_nil)) pe_int) pe_int) (pev 3)))
        (pss_one (ps_ret (pe_op opMod (pe_callTy caIntT (by rfl) T.b_int (by decide +kernel) (pa_cons (pe_op opDiv (pev 4) pe_int) pa_nil)) (pev 1)))))))), ?_⟩
    conv => whnf
    refine ⟨_, _, .inl (SqL.of hd), rfl, ?_⟩
    conv => whnf
    refine ⟨_, rfl, ?_⟩
    refine brD (fun ha => ?_) (fun ha => ?_)
    · conv => whnf
      refine ⟨_, _, .inl (SqL.of hd), rfl, ?_⟩
      conv => whnf
      refine ⟨by omega, ?_⟩
      conv => whnf
      refine ⟨_, _, .inl (SqL.of hd), rfl, ?_⟩
      conv => whnf
      refine ⟨divW 5000 (by omega) (U.abs_lt (by omega) t2), ?_⟩
      conv => whnf
      refine ⟨_, _, _, _, rfl, rfl, hd, rfl, ?_⟩
      conv => whnf
      refine k _ _ _ (fun b u e n => by rw [upd_ne n]; exact e) upd_same ⟨a / t, b, c, rfl, ⟨Int.ediv_nonneg a0 (by omega), ?_⟩, ⟨b0, b1⟩, c0, by omega⟩ (Int.emod_nonneg _ (by omega)) (Int.emod_lt_of_pos _ (by omega))
      exact Int.lt_of_le_of_lt (Int.ediv_le_self _ a0) a1
    · conv => whnf
      refine ⟨_, _, .inl (SqL.of hd), rfl, ?_⟩
      conv => whnf
      refine ⟨_, _, _, _, rfl, rfl, hd, rfl, ?_⟩
      conv => whnf
      refine ⟨_, _, .inl (SqL.of upd_same), rfl, ?_⟩
      conv => whnf
      refine ⟨_, _, .inl (SqL.of upd_same), rfl, ?_⟩
      conv => whnf
      refine ⟨mulW 20 300 (by decide) (U.abs_lt (by omega) (by omega)), ?_⟩
      conv => whnf
      refine ⟨by decide, ?_⟩
      conv => whnf
      have hm := Int.emod_lt_of_pos (b + 8111 * (c + 1)) (show (0 : Int) < 2305843009213693723 by decide)
      have hm0 := Int.emod_nonneg (b + 8111 * (c + 1)) (show (2305843009213693723 : Int) ≠ 0 by decide)
      generalize (b + 8111 * (c + 1)) % 2305843009213693723 = x at hm hm0 ⊢
      refine ⟨mulW 64 64 (U.abs_lt hm0 (by omega)) (U.abs_lt hm0 (by omega)), ?_⟩
      conv => whnf
      refine ⟨_, _, .inl (SqL.of upd_same), rfl, ?_⟩
      conv => whnf
      refine ⟨mulW 20 300 (by decide) (U.abs_lt (by omega) (by omega)), ?_⟩
      conv => whnf
      refine ⟨by decide, ?_⟩
      conv => whnf
      have hy := Int.emod_lt_of_pos (x * x + 71 * (c + 1)) (show (0 : Int) < 2305843009213693669 by decide)
      have hy0 := Int.emod_nonneg (x * x + 71 * (c + 1)) (show (2305843009213693669 : Int) ≠ 0 by decide)
      generalize (x * x + 71 * (c + 1)) % 2305843009213693669 = y at hy hy0 ⊢
      refine ⟨mulW 64 64 (U.abs_lt hy0 (by omega)) (by decide), ?_⟩
      conv => whnf
      refine ⟨divW 20 (by decide) (by decide), ?_⟩
      conv => whnf
      refine ⟨by omega, ?_⟩
      conv => whnf
      exact k _ _ _ (fun b u e n => by rw [upd_ne n]; exact e) upd_same ⟨a, b, c + 1, rfl, ⟨a0, a1⟩, ⟨b0, b1⟩, by omega, by omega⟩ (Int.emod_nonneg _ (by omega)) (Int.emod_lt_of_pos _ (by omega))
def sp__law_pick (K : PySem.W.Frag) : Sp := fun vs H Q _ => ∃ (d : Addr) (n : Nat) (o : HO) (x : V) (L : List V), vs = [.ref d, x] ∧ H d = some o ∧ Dice n o ∧ n ≤ 1000000 ∧ PickOf K H d x L ∧ 0 < L.length ∧ L.length ≤ 100000 ∧
  ∀ (H' : Hp) (r : V) (o' : HO), (∀ b u, H b = some u → b ≠ d → H' b = some u) → H' d = some o' → Dice (n + 1) o' → r ∈ L → Q r H'
theorem ok__law_pick (T : Txt K mg) : FnOk P w K mg base CX0 2 T.a__law_pick T.d__law_pick ["_law_dice_here", "_law_items"] (sp__law_pick K) := by
  refine T.F__law_pick.ok sc__law_pick (fun vs H Q E h => ?_) (fun cdv A outer s H vs Q E hr h => ?_)
  · obtain ⟨d, n, o, x, L, rfl, _⟩ := h; rfl
  · obtain ⟨d, n, o, x, L, rfl, hd, D, hn, hp, l0, l1, k⟩ := h
    refine ⟨_, (pss_one (ps_ret (pe_ix ixU (pev 1) (pe_call (ok__law_roll T) (hr.mono (by decide)) (by rfl) T.g__law_roll T.F__law_roll.kp T.B__law_roll .nil pass0 (pa_cons (pev 0) (pa_cons (pe_callB caLen (by rfl) T.b_len (by decide +kernel) (pa_cons (pev 1) pa_nil)) pa_nil))) (fun _ _ => rfl)))), ?_⟩
    rcases hp with ⟨z, rfl, hz, rfl⟩ | ⟨p, rfl, ne, hp⟩
    · have el : z.length = z.cps.toList.length := by simp [Str.length]
      rw [List.length_map] at l0 l1
      conv => whnf
      refine ⟨small_ok (by omega), ?_⟩
      conv => whnf
      refine ⟨d, n, _, o, rfl, hd, D, hn, by omega, Int.lt_of_le_of_lt (show ((z.length : Nat) : Int) ≤ 100000 by omega) (by decide), fun H1 r o1 f1 g1 D1 r0 r1 => ?_⟩
      conv => whnf
      obtain ⟨c, hc, ec⟩ := atI_lt (xs := z.cps.toList) r0 (by omega)
      exact ⟨small_ok (by omega), c, ec, k _ _ _ f1 g1 D1 (List.mem_map.mpr ⟨c, hc, rfl⟩)⟩
    · conv => whnf
      refine ⟨L, hp, ?_⟩
      conv => whnf
      refine ⟨d, n, _, o, rfl, hd, D, hn, by omega, Int.lt_of_le_of_lt (show ((L.length : Nat) : Int) ≤ 100000 by omega) (by decide), fun H1 r o1 f1 g1 D1 r0 r1 => ?_⟩
      conv => whnf
      obtain ⟨v, hv, ev⟩ := atI_lt (xs := L) r0 r1
      exact ⟨L, v, hp.elim (fun q => .inl (sqlKeep f1 ne q)) (fun q => .inr (sqtKeep f1 ne q)), ev, k _ _ _ f1 g1 D1 hv⟩
def otx (c : String) (b : Bool) : Str := Txt.mul (Str.ofString c) (if b then 1 else 0)
theorem otl {c : Str} (h : c.length = 1) (b : Bool) : (Txt.mul c (if b then 1 else 0)).length ≤ 1 := by
  rw [mul_len c _ (by cases b <;> decide), h]
  cases b <;> decide
theorem oti {b : Bool} {P : Prop} (h : P) : ((0 : Int) ≤ (if b then 1 else 0) ∧ ((if b then 1 else 0 : Int)) ≤ 1000000 ∧ 1 * (if b then 1 else 0 : Int).toNat ≤ 1000000) ∧ P := ⟨by cases b <;> decide, h⟩
theorem sapp (a b : Str) : (a ++ b).length = a.length + b.length := by simp [Str.length, Str.cps_append]
def ownT (b0 b1 b2 b3 b4 b5 b6 b7 b8 b9 b10 b11 b12 b13 b14 b15 : Bool) : Str := (((((((((((((((otx "f" b0 ++ otx "q" b1) ++ otx "r" b2) ++ otx "s" b3) ++ otx "v" b4) ++ otx "p" b5) ++ otx "w" b6) ++ otx "o" b7) ++ otx "x" b8) ++ otx "U" b9) ++ otx "T" b10) ++ otx "A" b11) ++ otx "N" b12) ++ otx "Z" b13) ++ otx "M" b14) ++ otx "R" b15)
def sp__law_own (K : PySem.W.Frag) (c0 c1 c2 c3 c4 c5 c6 c7 c8 c9 c10 c11 c12 c13 c14 c15 : Addr) (pn : List (Addr × Obj)) : Sp := fun vs H Q _ => ∃ (a D : Addr) (b0 b1 b2 b3 b4 b5 b6 b7 b8 b9 b10 b11 b12 b13 b14 b15 : Bool), vs = [.ref a] ∧ XAt pn H a D ∧ ExcC K D ∧ OwnK K [.ref c0, .ref c1, .ref c2, .ref c3, .ref c4, .ref c5, .ref c6, .ref c7, .ref c8, .ref c9, .ref c10, .ref c11, .ref c12, .ref c13, .ref c14, .ref c15] D [b0, b1, b2, b3, b4, b5, b6, b7, b8, b9, b10, b11, b12, b13, b14, b15] ∧ Q (.str (ownT b0 b1 b2 b3 b4 b5 b6 b7 b8 b9 b10 b11 b12 b13 b14 b15)) H
theorem ok__law_own (T : Txt K mg) : FnOk P w K mg base CX0 1 T.a__law_own T.d__law_own ["_law_error"] (sp__law_own K T.c_InvalidRatio T.c_InvalidQuestion T.c_InvalidRow T.c_InvalidStore T.c_InvalidView T.c_InvalidPlan T.c_InvalidWeights T.c_InvalidOperation T.c_ParseError T.c_UnknownName T.c_RowThere T.c_RowAbsent T.c_InvalidNumber T.c_NothingToUndo T.c_TooMany T.c_Refused []) := by
  refine T.F__law_own.ok sc__law_own (fun vs H Q E h => ?_) (fun cdv A outer s H vs Q E hr h => ?_)
  · obtain ⟨a, D, b0, b1, b2, b3, b4, b5, b6, b7, b8, b9, b10, b11, b12, b13, b14, b15, rfl, _⟩ := h; rfl
  · obtain ⟨a, D, b0, b1, b2, b3, b4, b5, b6, b7, b8, b9, b10, b11, b12, b13, b14, b15, rfl, hX, hC, own, k⟩ := h
    simp only [OwnK, List.map_cons, List.map_nil, List.cons.injEq] at own
    obtain ⟨k0, k1, k2, k3, k4, k5, k6, k7, k8, k9, k10, k11, k12, k13, k14, k15, _⟩ := own
    refine ⟨_, (pss_cons (ps_set (i := 1) sc__law_own.nd rfl (by first | exact Or.inl rfl | exact Or.inr rfl) (pe_op opAdd (pe_op opMulT pe_str (pe_callTy caIntT (by rfl) T.b_int (by decide +kernel) (pa_cons (pe_callB call_isA (by rfl) T.b_isinstance (by decide +kernel) (pa_cons (pev 0) (pa_cons (pe_glob (v := .ref T.c_InvalidRatio) (by rfl) T.g_InvalidRatio rfl) pa_nil))) pa_nil))) (pe_op opMulT pe_str (pe_callTy caIntT (by rfl) T.b_int (by decide +kernel) (pa_cons (pe_callB call_isA (by rfl) T.b_isinstance (by decide +kernel) (pa_cons (pev 0) (pa_cons (pe_glob (v := .ref T.c_InvalidQuestion) (by rfl) T.g_InvalidQuestion rfl) pa_nil))) pa_nil)))))
        (pss_cons (ps_set (i := 1) sc__law_own.nd rfl (by first | exact Or.inl rfl | exact Or.inr rfl) (pe_op opAdd (pe_op opAdd (pev 1) (pe_op opMulT pe_str (pe_callTy caIntT (by rfl) T.b_int (by decide +kernel) (pa_cons (pe_callB call_isA (by rfl) T.b_isinstance (by decide +kernel) (pa_cons (pev 0) (pa_cons (pe_glob (v := .ref T.c_InvalidRow) (by rfl) T.g_InvalidRow rfl) pa_nil))) pa_nil)))) (pe_op opMulT pe_str (pe_callTy caIntT (by rfl) T.b_int (by decide +kernel) (pa_cons (pe_callB call_isA (by rfl) T.b_isinstance (by decide +kernel) (pa_cons (pev 0) (pa_cons (pe_glob (v := .ref T.c_InvalidStore) (by rfl) T.g_InvalidStore rfl) pa_nil))) pa_nil)))))
        (pss_cons (ps_set (i := 1) sc__law_own.nd rfl (by first | exact Or.inl rfl | exact Or.inr rfl) (pe_op opAdd (pe_op opAdd (pev 1) (pe_op opMulT pe_str (pe_callTy caIntT (by rfl) T.b_int (by decide +kernel) (pa_cons (pe_callB call_isA (by rfl) T.b_isinstance (by decide +kernel) (pa_cons (pev 0) (pa_cons (pe_glob (v := .ref T.c_InvalidView) (by rfl) T.g_InvalidView rfl) pa_nil))) pa_nil)))) (pe_op opMulT pe_str (pe_callTy caIntT (by rfl) T.b_int (by decide +kernel) (pa_cons (pe_callB call_isA (by rfl) T.b_isinstance (by decide +kernel) (pa_cons (pev 0) (pa_cons (pe_glob (v := .ref T.c_InvalidPlan) (by rfl) T.g_InvalidPlan rfl) pa_nil))) pa_nil)))))
        (pss_cons (ps_set (i := 1) sc__law_own.nd rfl (by first | exact Or.inl rfl | exact Or.inr rfl) (pe_op opAdd (pe_op opAdd (pev 1) (pe_op opMulT pe_str (pe_callTy caIntT (by rfl) T.b_int (by decide +kernel) (pa_cons (pe_callB call_isA (by rfl) T.b_isinstance (by decide +kernel) (pa_cons (pev 0) (pa_cons (pe_glob (v := .ref T.c_InvalidWeights) (by rfl) T.g_InvalidWeights rfl) pa_nil))) pa_nil)))) (pe_op opMulT pe_str (pe_callTy caIntT (by rfl) T.b_int (by decide +kernel) (pa_cons (pe_callB call_isA (by rfl) T.b_isinstance (by decide +kernel) (pa_cons (pev 0) (pa_cons (pe_glob (v := .ref T.c_InvalidOperation) (by rfl) T.g_InvalidOperation rfl) pa_nil))) pa_nil)))))
        (pss_cons (ps_set (i := 1) sc__law_own.nd rfl (by first | exact Or.inl rfl | exact Or.inr rfl) (pe_op opAdd (pe_op opAdd (pev 1) (pe_op opMulT pe_str (pe_callTy caIntT (by rfl) T.b_int (by decide +kernel) (pa_cons (pe_callB call_isA (by rfl) T.b_isinstance (by decide +kernel) (pa_cons (pev 0) (pa_cons (pe_glob (v := .ref T.c_ParseError) (by rfl) T.g_ParseError rfl) pa_nil))) pa_nil)))) (pe_op opMulT pe_str (pe_callTy caIntT (by rfl) T.b_int (by decide +kernel) (pa_cons (pe_callB call_isA (by rfl) T.b_isinstance (by decide +kernel) (pa_cons (pev 0) (pa_cons (pe_glob (v := .ref T.c_UnknownName) (by rfl) T.g_UnknownName rfl) pa_nil))) pa_nil)))))
        (pss_cons (ps_set (i := 1) sc__law_own.nd rfl (by first | exact Or.inl rfl | exact Or.inr rfl) (pe_op opAdd (pe_op opAdd (pev 1) (pe_op opMulT pe_str (pe_callTy caIntT (by rfl) T.b_int (by decide +kernel) (pa_cons (pe_callB call_isA (by rfl) T.b_isinstance (by decide +kernel) (pa_cons (pev 0) (pa_cons (pe_glob (v := .ref T.c_RowThere) (by rfl) T.g_RowThere rfl) pa_nil))) pa_nil)))) (pe_op opMulT pe_str (pe_callTy caIntT (by rfl) T.b_int (by decide +kernel) (pa_cons (pe_callB call_isA (by rfl) T.b_isinstance (by decide +kernel) (pa_cons (pev 0) (pa_cons (pe_glob (v := .ref T.c_RowAbsent) (by rfl) T.g_RowAbsent rfl) pa_nil))) pa_nil)))))
        (pss_cons (ps_set (i := 1) sc__law_own.nd rfl (by first | exact Or.inl rfl | exact Or.inr rfl) (pe_op opAdd (pe_op opAdd (pev 1) (pe_op opMulT pe_str (pe_callTy caIntT (by rfl) T.b_int (by decide +kernel) (pa_cons (pe_callB call_isA (by rfl) T.b_isinstance (by decide +kernel) (pa_cons (pev 0) (pa_cons (pe_glob (v := .ref T.c_InvalidNumber) (by rfl) T.g_InvalidNumber rfl) pa_nil))) pa_nil)))) (pe_op opMulT pe_str (pe_callTy caIntT (by rfl) T.b_int (by decide +kernel) (pa_cons (pe_callB call_isA (by rfl) T.b_isinstance (by decide +kernel) (pa_cons (pev 0) (pa_cons (pe_glob (v := .ref T.c_NothingToUndo) (by rfl) T.g_NothingToUndo rfl) pa_nil))) pa_nil)))))
        (pss_one (ps_ret (pe_op opAdd (pe_op opAdd (pev 1) (pe_op opMulT pe_str (pe_callTy caIntT (by rfl) T.b_int (by decide +kernel) (pa_cons (pe_callB call_isA (by rfl) T.b_isinstance (by decide +kernel) (pa_cons (pev 0) (pa_cons (pe_glob (v := .ref T.c_TooMany) (by rfl) T.g_TooMany rfl) pa_nil))) pa_nil)))) (pe_op opMulT pe_str (pe_callTy caIntT (by rfl) T.b_int (by decide +kernel) (pa_cons (pe_callB call_isA (by rfl) T.b_isinstance (by decide +kernel) (pa_cons (pev 0) (pa_cons (pe_glob (v := .ref T.c_Refused) (by rfl) T.g_Refused rfl) pa_nil))) pa_nil))))))))))))), ?_⟩
    have l0 := otl (c := Str.ofString "f") rfl b0
    have l1 := otl (c := Str.ofString "q") rfl b1
    have l2 := otl (c := Str.ofString "r") rfl b2
    have l3 := otl (c := Str.ofString "s") rfl b3
    have l4 := otl (c := Str.ofString "v") rfl b4
    have l5 := otl (c := Str.ofString "p") rfl b5
    have l6 := otl (c := Str.ofString "w") rfl b6
    have l7 := otl (c := Str.ofString "o") rfl b7
    have l8 := otl (c := Str.ofString "x") rfl b8
    have l9 := otl (c := Str.ofString "U") rfl b9
    have l10 := otl (c := Str.ofString "T") rfl b10
    have l11 := otl (c := Str.ofString "A") rfl b11
    have l12 := otl (c := Str.ofString "N") rfl b12
    have l13 := otl (c := Str.ofString "Z") rfl b13
    have l14 := otl (c := Str.ofString "M") rfl b14
    have l15 := otl (c := Str.ofString "R") rfl b15
    conv => whnf
    refine ⟨a, D, _, _, b0, rfl, hX, hC, .own _, k0, ?_⟩
    conv => whnf
    refine oti ?_
    conv => whnf
    conv => whnf
    refine ⟨a, D, _, _, b1, rfl, hX, hC, .own _, k1, ?_⟩
    conv => whnf
    refine oti ?_
    conv => whnf
    refine ⟨by have : sizeLine = 16777216 := sizeLine_eq; omega, ?_⟩
    conv => whnf
    conv => whnf
    refine ⟨a, D, _, _, b2, rfl, hX, hC, .own _, k2, ?_⟩
    conv => whnf
    refine oti ?_
    conv => whnf
    refine ⟨by simp only [sapp]; have : sizeLine = 16777216 := sizeLine_eq; omega, ?_⟩
    conv => whnf
    conv => whnf
    refine ⟨a, D, _, _, b3, rfl, hX, hC, .own _, k3, ?_⟩
    conv => whnf
    refine oti ?_
    conv => whnf
    refine ⟨by simp only [sapp]; have : sizeLine = 16777216 := sizeLine_eq; omega, ?_⟩
    conv => whnf
    conv => whnf
    refine ⟨a, D, _, _, b4, rfl, hX, hC, .own _, k4, ?_⟩
    conv => whnf
    refine oti ?_
    conv => whnf
    refine ⟨by simp only [sapp]; have : sizeLine = 16777216 := sizeLine_eq; omega, ?_⟩
    conv => whnf
    conv => whnf
    refine ⟨a, D, _, _, b5, rfl, hX, hC, .own _, k5, ?_⟩
    conv => whnf
    refine oti ?_
    conv => whnf
    refine ⟨by simp only [sapp]; have : sizeLine = 16777216 := sizeLine_eq; omega, ?_⟩
    conv => whnf
    conv => whnf
    refine ⟨a, D, _, _, b6, rfl, hX, hC, .own _, k6, ?_⟩
    conv => whnf
    refine oti ?_
    conv => whnf
    refine ⟨by simp only [sapp]; have : sizeLine = 16777216 := sizeLine_eq; omega, ?_⟩
    conv => whnf
    conv => whnf
    refine ⟨a, D, _, _, b7, rfl, hX, hC, .own _, k7, ?_⟩
    conv => whnf
    refine oti ?_
    conv => whnf
    refine ⟨by simp only [sapp]; have : sizeLine = 16777216 := sizeLine_eq; omega, ?_⟩
    conv => whnf
    conv => whnf
    refine ⟨a, D, _, _, b8, rfl, hX, hC, .own _, k8, ?_⟩
    conv => whnf
    refine oti ?_
    conv => whnf
    refine ⟨by simp only [sapp]; have : sizeLine = 16777216 := sizeLine_eq; omega, ?_⟩
    conv => whnf
    conv => whnf
    refine ⟨a, D, _, _, b9, rfl, hX, hC, .own _, k9, ?_⟩
    conv => whnf
    refine oti ?_
    conv => whnf
    refine ⟨by simp only [sapp]; have : sizeLine = 16777216 := sizeLine_eq; omega, ?_⟩
    conv => whnf
    conv => whnf
    refine ⟨a, D, _, _, b10, rfl, hX, hC, .own _, k10, ?_⟩
    conv => whnf
    refine oti ?_
    conv => whnf
    refine ⟨by simp only [sapp]; have : sizeLine = 16777216 := sizeLine_eq; omega, ?_⟩
    conv => whnf
    conv => whnf
    refine ⟨a, D, _, _, b11, rfl, hX, hC, .own _, k11, ?_⟩
    conv => whnf
    refine oti ?_
    conv => whnf
    refine ⟨by simp only [sapp]; have : sizeLine = 16777216 := sizeLine_eq; omega, ?_⟩
    conv => whnf
    conv => whnf
    refine ⟨a, D, _, _, b12, rfl, hX, hC, .own _, k12, ?_⟩
    conv => whnf
    refine oti ?_
    conv => whnf
    refine ⟨by simp only [sapp]; have : sizeLine = 16777216 := sizeLine_eq; omega, ?_⟩
    conv => whnf
    conv => whnf
    refine ⟨a, D, _, _, b13, rfl, hX, hC, .own _, k13, ?_⟩
    conv => whnf
    refine oti ?_
    conv => whnf
    refine ⟨by simp only [sapp]; have : sizeLine = 16777216 := sizeLine_eq; omega, ?_⟩
    conv => whnf
    conv => whnf
    refine ⟨a, D, _, _, b14, rfl, hX, hC, .own _, k14, ?_⟩
    conv => whnf
    refine oti ?_
    conv => whnf
    refine ⟨by simp only [sapp]; have : sizeLine = 16777216 := sizeLine_eq; omega, ?_⟩
    conv => whnf
    conv => whnf
    refine ⟨a, D, _, _, b15, rfl, hX, hC, .own _, k15, ?_⟩
    conv => whnf
    refine oti ?_
    conv => whnf
    refine ⟨by simp only [sapp]; have : sizeLine = 16777216 := sizeLine_eq; omega, ?_⟩
    conv => whnf
    exact k
theorem okE__law_own (T : Txt K mg) : FnE P w K mg base 1 T.a__law_own T.d__law_own ["_law_error"] (fun p => sp__law_own K T.c_InvalidRatio T.c_InvalidQuestion T.c_InvalidRow T.c_InvalidStore T.c_InvalidView T.c_InvalidPlan T.c_InvalidWeights T.c_InvalidOperation T.c_ParseError T.c_UnknownName T.c_RowThere T.c_RowAbsent T.c_InvalidNumber T.c_NothingToUndo T.c_TooMany T.c_Refused [p]) := by
  refine okE T.F__law_own sc__law_own (fun p vs H Q E h => ?_) (fun cdv A outer s H vs Q p hr h => ?_)
  · obtain ⟨a, D, b0, b1, b2, b3, b4, b5, b6, b7, b8, b9, b10, b11, b12, b13, b14, b15, rfl, _⟩ := h; rfl
  · obtain ⟨a, D, b0, b1, b2, b3, b4, b5, b6, b7, b8, b9, b10, b11, b12, b13, b14, b15, rfl, hX, hC, own, k⟩ := h
    simp only [OwnK, List.map_cons, List.map_nil, List.cons.injEq] at own
    obtain ⟨k0, k1, k2, k3, k4, k5, k6, k7, k8, k9, k10, k11, k12, k13, k14, k15, _⟩ := own
    refine ⟨_, (pss_cons (ps_set (i := 1) sc__law_own.nd rfl (by first | exact Or.inl rfl | exact Or.inr rfl) (pe_op opAdd (pe_op opMulT pe_str (pe_callTy caIntT (by rfl) T.b_int (by decide +kernel) (pa_cons (pe_callB call_isA (by rfl) T.b_isinstance (by decide +kernel) (pa_cons (pev 0) (pa_cons (pe_glob (v := .ref T.c_InvalidRatio) (by rfl) T.g_InvalidRatio rfl) pa_nil))) pa_nil))) (pe_op opMulT pe_str (pe_callTy caIntT (by rfl) T.b_int (by decide +kernel) (pa_cons (pe_callB call_isA (by rfl) T.b_isinstance (by decide +kernel) (pa_cons (pev 0) (pa_cons (pe_glob (v := .ref T.c_InvalidQuestion) (by rfl) T.g_InvalidQuestion rfl) pa_nil))) pa_nil)))))
        (pss_cons (ps_set (i := 1) sc__law_own.nd rfl (by first | exact Or.inl rfl | exact Or.inr rfl) (pe_op opAdd (pe_op opAdd (pev 1) (pe_op opMulT pe_str (pe_callTy caIntT (by rfl) T.b_int (by decide +kernel) (pa_cons (pe_callB call_isA (by rfl) T.b_isinstance (by decide +kernel) (pa_cons (pev 0) (pa_cons (pe_glob (v := .ref T.c_InvalidRow) (by rfl) T.g_InvalidRow rfl) pa_nil))) pa_nil)))) (pe_op opMulT pe_str (pe_callTy caIntT (by rfl) T.b_int (by decide +kernel) (pa_cons (pe_callB call_isA (by rfl) T.b_isinstance (by decide +kernel) (pa_cons (pev 0) (pa_cons (pe_glob (v := .ref T.c_InvalidStore) (by rfl) T.g_InvalidStore rfl) pa_nil))) pa_nil)))))
        (pss_cons (ps_set (i := 1) sc__law_own.nd rfl (by first | exact Or.inl rfl | exact Or.inr rfl) (pe_op opAdd (pe_op opAdd (pev 1) (pe_op opMulT pe_str (pe_callTy caIntT (by rfl) T.b_int (by decide +kernel) (pa_cons (pe_callB call_isA (by rfl) T.b_isinstance (by decide +kernel) (pa_cons (pev 0) (pa_cons (pe_glob (v := .ref T.c_InvalidView) (by rfl) T.g_InvalidView rfl) pa_nil))) pa_nil)))) (pe_op opMulT pe_str (pe_callTy caIntT (by rfl) T.b_int (by decide +kernel) (pa_cons (pe_callB call_isA (by rfl) T.b_isinstance (by decide +kernel) (pa_cons (pev 0) (pa_cons (pe_glob (v := .ref T.c_InvalidPlan) (by rfl) T.g_InvalidPlan rfl) pa_nil))) pa_nil)))))
        (pss_cons (ps_set (i := 1) sc__law_own.nd rfl (by first | exact Or.inl rfl | exact Or.inr rfl) (pe_op opAdd (pe_op opAdd (pev 1) (pe_op opMulT pe_str (pe_callTy caIntT (by rfl) T.b_int (by decide +kernel) (pa_cons (pe_callB call_isA (by rfl) T.b_isinstance (by decide +kernel) (pa_cons (pev 0) (pa_cons (pe_glob (v := .ref T.c_InvalidWeights) (by rfl) T.g_InvalidWeights rfl) pa_nil))) pa_nil)))) (pe_op opMulT pe_str (pe_callTy caIntT (by rfl) T.b_int (by decide +kernel) (pa_cons (pe_callB call_isA (by rfl) T.b_isinstance (by decide +kernel) (pa_cons (pev 0) (pa_cons (pe_glob (v := .ref T.c_InvalidOperation) (by rfl) T.g_InvalidOperation rfl) pa_nil))) pa_nil)))))
        (pss_cons (ps_set (i := 1) sc__law_own.nd rfl (by first | exact Or.inl rfl | exact Or.inr rfl) (pe_op opAdd (pe_op opAdd (pev 1) (pe_op opMulT pe_str (pe_callTy caIntT (by rfl) T.b_int (by decide +kernel) (pa_cons (pe_callB call_isA (by rfl) T.b_isinstance (by decide +kernel) (pa_cons (pev 0) (pa_cons (pe_glob (v := .ref T.c_ParseError) (by rfl) T.g_ParseError rfl) pa_nil))) pa_nil)))) (pe_op opMulT pe_str (pe_callTy caIntT (by rfl) T.b_int (by decide +kernel) (pa_cons (pe_callB call_isA (by rfl) T.b_isinstance (by decide +kernel) (pa_cons (pev 0) (pa_cons (pe_glob (v := .ref T.c_UnknownName) (by rfl) T.g_UnknownName rfl) pa_nil))) pa_nil)))))
        (pss_cons (ps_set (i := 1) sc__law_own.nd rfl (by first | exact Or.inl rfl | exact Or.inr rfl) (pe_op opAdd (pe_op opAdd (pev 1) (pe_op opMulT pe_str (pe_callTy caIntT (by rfl) T.b_int (by decide +kernel) (pa_cons (pe_callB call_isA (by rfl) T.b_isinstance (by decide +kernel) (pa_cons (pev 0) (pa_cons (pe_glob (v := .ref T.c_RowThere) (by rfl) T.g_RowThere rfl) pa_nil))) pa_nil)))) (pe_op opMulT pe_str (pe_callTy caIntT (by rfl) T.b_int (by decide +kernel) (pa_cons (pe_callB call_isA (by rfl) T.b_isinstance (by decide +kernel) (pa_cons (pev 0) (pa_cons (pe_glob (v := .ref T.c_RowAbsent) (by rfl) T.g_RowAbsent rfl) pa_nil))) pa_nil)))))
        (pss_cons (ps_set (i := 1) sc__law_own.nd rfl (by first | exact Or.inl rfl | exact Or.inr rfl) (pe_op opAdd (pe_op opAdd (pev 1) (pe_op opMulT pe_str (pe_callTy caIntT (by rfl) T.b_int (by decide +kernel) (pa_cons (pe_callB call_isA (by rfl) T.b_isinstance (by decide +kernel) (pa_cons (pev 0) (pa_cons (pe_glob (v := .ref T.c_InvalidNumber) (by rfl) T.g_InvalidNumber rfl) pa_nil))) pa_nil)))) (pe_op opMulT pe_str (pe_callTy caIntT (by rfl) T.b_int (by decide +kernel) (pa_cons (pe_callB call_isA (by rfl) T.b_isinstance (by decide +kernel) (pa_cons (pev 0) (pa_cons (pe_glob (v := .ref T.c_NothingToUndo) (by rfl) T.g_NothingToUndo rfl) pa_nil))) pa_nil)))))
        (pss_one (ps_ret (pe_op opAdd (pe_op opAdd (pev 1) (pe_op opMulT pe_str (pe_callTy caIntT (by rfl) T.b_int (by decide +kernel) (pa_cons (pe_callB call_isA (by rfl) T.b_isinstance (by decide +kernel) (pa_cons (pev 0) (pa_cons (pe_glob (v := .ref T.c_TooMany) (by rfl) T.g_TooMany rfl) pa_nil))) pa_nil)))) (pe_op opMulT pe_str (pe_callTy caIntT (by rfl) T.b_int (by decide +kernel) (pa_cons (pe_callB call_isA (by rfl) T.b_isinstance (by decide +kernel) (pa_cons (pev 0) (pa_cons (pe_glob (v := .ref T.c_Refused) (by rfl) T.g_Refused rfl) pa_nil))) pa_nil))))))))))))), ?_⟩
    have l0 := otl (c := Str.ofString "f") rfl b0
    have l1 := otl (c := Str.ofString "q") rfl b1
    have l2 := otl (c := Str.ofString "r") rfl b2
    have l3 := otl (c := Str.ofString "s") rfl b3
    have l4 := otl (c := Str.ofString "v") rfl b4
    have l5 := otl (c := Str.ofString "p") rfl b5
    have l6 := otl (c := Str.ofString "w") rfl b6
    have l7 := otl (c := Str.ofString "o") rfl b7
    have l8 := otl (c := Str.ofString "x") rfl b8
    have l9 := otl (c := Str.ofString "U") rfl b9
    have l10 := otl (c := Str.ofString "T") rfl b10
    have l11 := otl (c := Str.ofString "A") rfl b11
    have l12 := otl (c := Str.ofString "N") rfl b12
    have l13 := otl (c := Str.ofString "Z") rfl b13
    have l14 := otl (c := Str.ofString "M") rfl b14
    have l15 := otl (c := Str.ofString "R") rfl b15
    conv => whnf
    refine ⟨a, D, _, _, b0, rfl, hX, hC, .own _, k0, ?_⟩
    conv => whnf
    refine oti ?_
    conv => whnf
    conv => whnf
    refine ⟨a, D, _, _, b1, rfl, hX, hC, .own _, k1, ?_⟩
    conv => whnf
    refine oti ?_
    conv => whnf
    refine ⟨by have : sizeLine = 16777216 := sizeLine_eq; omega, ?_⟩
    conv => whnf
    conv => whnf
    refine ⟨a, D, _, _, b2, rfl, hX, hC, .own _, k2, ?_⟩
    conv => whnf
    refine oti ?_
    conv => whnf
    refine ⟨by simp only [sapp]; have : sizeLine = 16777216 := sizeLine_eq; omega, ?_⟩
    conv => whnf
    conv => whnf
    refine ⟨a, D, _, _, b3, rfl, hX, hC, .own _, k3, ?_⟩
    conv => whnf
    refine oti ?_
    conv => whnf
    refine ⟨by simp only [sapp]; have : sizeLine = 16777216 := sizeLine_eq; omega, ?_⟩
    conv => whnf
    conv => whnf
    refine ⟨a, D, _, _, b4, rfl, hX, hC, .own _, k4, ?_⟩
    conv => whnf
    refine oti ?_
    conv => whnf
    refine ⟨by simp only [sapp]; have : sizeLine = 16777216 := sizeLine_eq; omega, ?_⟩
    conv => whnf
    conv => whnf
    refine ⟨a, D, _, _, b5, rfl, hX, hC, .own _, k5, ?_⟩
    conv => whnf
    refine oti ?_
    conv => whnf
    refine ⟨by simp only [sapp]; have : sizeLine = 16777216 := sizeLine_eq; omega, ?_⟩
    conv => whnf
    conv => whnf
    refine ⟨a, D, _, _, b6, rfl, hX, hC, .own _, k6, ?_⟩
    conv => whnf
    refine oti ?_
    conv => whnf
    refine ⟨by simp only [sapp]; have : sizeLine = 16777216 := sizeLine_eq; omega, ?_⟩
    conv => whnf
    conv => whnf
    refine ⟨a, D, _, _, b7, rfl, hX, hC, .own _, k7, ?_⟩
    conv => whnf
    refine oti ?_
    conv => whnf
    refine ⟨by simp only [sapp]; have : sizeLine = 16777216 := sizeLine_eq; omega, ?_⟩
    conv => whnf
    conv => whnf
    refine ⟨a, D, _, _, b8, rfl, hX, hC, .own _, k8, ?_⟩
    conv => whnf
    refine oti ?_
    conv => whnf
    refine ⟨by simp only [sapp]; have : sizeLine = 16777216 := sizeLine_eq; omega, ?_⟩
    conv => whnf
    conv => whnf
    refine ⟨a, D, _, _, b9, rfl, hX, hC, .own _, k9, ?_⟩
    conv => whnf
    refine oti ?_
    conv => whnf
    refine ⟨by simp only [sapp]; have : sizeLine = 16777216 := sizeLine_eq; omega, ?_⟩
    conv => whnf
    conv => whnf
    refine ⟨a, D, _, _, b10, rfl, hX, hC, .own _, k10, ?_⟩
    conv => whnf
    refine oti ?_
    conv => whnf
    refine ⟨by simp only [sapp]; have : sizeLine = 16777216 := sizeLine_eq; omega, ?_⟩
    conv => whnf
    conv => whnf
    refine ⟨a, D, _, _, b11, rfl, hX, hC, .own _, k11, ?_⟩
    conv => whnf
    refine oti ?_
    conv => whnf
    refine ⟨by simp only [sapp]; have : sizeLine = 16777216 := sizeLine_eq; omega, ?_⟩
    conv => whnf
    conv => whnf
    refine ⟨a, D, _, _, b12, rfl, hX, hC, .own _, k12, ?_⟩
    conv => whnf
    refine oti ?_
    conv => whnf
    refine ⟨by simp only [sapp]; have : sizeLine = 16777216 := sizeLine_eq; omega, ?_⟩
    conv => whnf
    conv => whnf
    refine ⟨a, D, _, _, b13, rfl, hX, hC, .own _, k13, ?_⟩
    conv => whnf
    refine oti ?_
    conv => whnf
    refine ⟨by simp only [sapp]; have : sizeLine = 16777216 := sizeLine_eq; omega, ?_⟩
    conv => whnf
    conv => whnf
    refine ⟨a, D, _, _, b14, rfl, hX, hC, .own _, k14, ?_⟩
    conv => whnf
    refine oti ?_
    conv => whnf
    refine ⟨by simp only [sapp]; have : sizeLine = 16777216 := sizeLine_eq; omega, ?_⟩
    conv => whnf
    conv => whnf
    refine ⟨a, D, _, _, b15, rfl, hX, hC, .own _, k15, ?_⟩
    conv => whnf
    refine oti ?_
    conv => whnf
    refine ⟨by simp only [sapp]; have : sizeLine = 16777216 := sizeLine_eq; omega, ?_⟩
    conv => whnf
    exact k
theorem otn (n : Nat) (hn : n ≤ 1000) {b : Bool} {P : Prop} (h : P) : ((0 : Int) ≤ (if b then 1 else 0) ∧ ((if b then 1 else 0 : Int)) ≤ 1000000 ∧ n * (if b then 1 else 0 : Int).toNat ≤ 1000000) ∧ P := ⟨by cases b <;> refine ⟨by decide, by decide, ?_⟩ <;> simp <;> omega, h⟩
theorem otm (c : Str) (b : Bool) : (Txt.mul c (if b then 1 else 0)).length ≤ c.length := by
  rw [mul_len c _ (by cases b <;> decide)]
  cases b <;> simp
def wholeT (x : Str) (d0 d1 d2 d3 d4 d5 d6 d7 : Bool) : Str := (((((((x ++ Str.ofString " " ++ otx "base " d0 ++ otx "value " d1) ++ otx "key " d2) ++ otx "index " d3) ++ otx "lookup " d4) ++ otx "runtime " d5) ++ otx "overflow " d6) ++ otx "arithmetic " d7)
theorem ownT_len (b0 b1 b2 b3 b4 b5 b6 b7 b8 b9 b10 b11 b12 b13 b14 b15 : Bool) : (ownT b0 b1 b2 b3 b4 b5 b6 b7 b8 b9 b10 b11 b12 b13 b14 b15).length ≤ 16 := by
  unfold ownT otx
  simp only [sapp]
  have l0 := otl (c := Str.ofString "f") rfl b0
  have l1 := otl (c := Str.ofString "q") rfl b1
  have l2 := otl (c := Str.ofString "r") rfl b2
  have l3 := otl (c := Str.ofString "s") rfl b3
  have l4 := otl (c := Str.ofString "v") rfl b4
  have l5 := otl (c := Str.ofString "p") rfl b5
  have l6 := otl (c := Str.ofString "w") rfl b6
  have l7 := otl (c := Str.ofString "o") rfl b7
  have l8 := otl (c := Str.ofString "x") rfl b8
  have l9 := otl (c := Str.ofString "U") rfl b9
  have l10 := otl (c := Str.ofString "T") rfl b10
  have l11 := otl (c := Str.ofString "A") rfl b11
  have l12 := otl (c := Str.ofString "N") rfl b12
  have l13 := otl (c := Str.ofString "Z") rfl b13
  have l14 := otl (c := Str.ofString "M") rfl b14
  have l15 := otl (c := Str.ofString "R") rfl b15
  omega
def sp__law_whole (K : PySem.W.Frag) (c0 c1 c2 c3 c4 c5 c6 c7 c8 c9 c10 c11 c12 c13 c14 c15 cT : Addr) : Sp := fun vs H Q _ => ∃ (a D : Addr) (b0 b1 b2 b3 b4 b5 b6 b7 b8 b9 b10 b11 b12 b13 b14 b15 d0 d1 d2 d3 d4 d5 d6 d7 : Bool), vs = [.ref a] ∧ XAt [] H a D ∧ ExcC K D ∧ OwnK K [.ref c0, .ref c1, .ref c2, .ref c3, .ref c4, .ref c5, .ref c6, .ref c7, .ref c8, .ref c9, .ref c10, .ref c11, .ref c12, .ref c13, .ref c14, .ref c15] D [b0, b1, b2, b3, b4, b5, b6, b7, b8, b9, b10, b11, b12, b13, b14, b15] ∧ OwnK K [.ref cT, .type "ValueError", .type "KeyError", .type "IndexError", .type "LookupError", .type "RuntimeError", .type "OverflowError", .type "ArithmeticError"] D [d0, d1, d2, d3, d4, d5, d6, d7] ∧ Q (.str (wholeT (ownT b0 b1 b2 b3 b4 b5 b6 b7 b8 b9 b10 b11 b12 b13 b14 b15) d0 d1 d2 d3 d4 d5 d6 d7)) H
theorem ok__law_whole (T : Txt K mg) : FnOk P w K mg base CX0 2 T.a__law_whole T.d__law_whole ["_law_error"] (sp__law_whole K T.c_InvalidRatio T.c_InvalidQuestion T.c_InvalidRow T.c_InvalidStore T.c_InvalidView T.c_InvalidPlan T.c_InvalidWeights T.c_InvalidOperation T.c_ParseError T.c_UnknownName T.c_RowThere T.c_RowAbsent T.c_InvalidNumber T.c_NothingToUndo T.c_TooMany T.c_Refused T.c_TouchError) := by
  refine T.F__law_whole.ok sc__law_whole (fun vs H Q E h => ?_) (fun cdv A outer s H vs Q E hr h => ?_)
  · obtain ⟨a, D, b0, b1, b2, b3, b4, b5, b6, b7, b8, b9, b10, b11, b12, b13, b14, b15, d0, d1, d2, d3, d4, d5, d6, d7, rfl, _⟩ := h; rfl
  · obtain ⟨a, D, b0, b1, b2, b3, b4, b5, b6, b7, b8, b9, b10, b11, b12, b13, b14, b15, d0, d1, d2, d3, d4, d5, d6, d7, rfl, hX, hC, own, kin, k⟩ := h
    simp only [OwnK, List.map_cons, List.map_nil, List.cons.injEq] at kin
    obtain ⟨k0, k1, k2, k3, k4, k5, k6, k7, _⟩ := kin
    refine ⟨_, (pss_cons (ps_set (i := 1) sc__law_whole.nd rfl (by first | exact Or.inl rfl | exact Or.inr rfl) (pe_op opAdd (pe_op opAdd (pe_call (ok__law_own T) (hr.mono (by decide)) (by rfl) T.g__law_own T.F__law_own.kp T.B__law_own .nil pass0 (pa_cons (pev 0) pa_nil)) pe_str) (pe_op opMulT pe_str (pe_callTy caIntT (by rfl) T.b_int (by decide +kernel) (pa_cons (pe_callB call_isA (by rfl) T.b_isinstance (by decide +kernel) (pa_cons (pev 0) (pa_cons (pe_glob (v := .ref T.c_TouchError) (by rfl) T.g_TouchError rfl) pa_nil))) pa_nil)))))
        (pss_cons (ps_set (i := 1) sc__law_whole.nd rfl (by first | exact Or.inl rfl | exact Or.inr rfl) (pe_op opAdd (pe_op opAdd (pev 1) (pe_op opMulT pe_str (pe_callTy caIntT (by rfl) T.b_int (by decide +kernel) (pa_cons (pe_callB call_isA (by rfl) T.b_isinstance (by decide +kernel) (pa_cons (pev 0) (pa_cons (pe_bltn (v := .ty "ValueError") (by rfl) T.b_ValueError (by decide +kernel) rfl) pa_nil))) pa_nil)))) (pe_op opMulT pe_str (pe_callTy caIntT (by rfl) T.b_int (by decide +kernel) (pa_cons (pe_callB call_isA (by rfl) T.b_isinstance (by decide +kernel) (pa_cons (pev 0) (pa_cons (pe_bltn (v := .ty "KeyError") (by rfl) T.b_KeyError (by decide +kernel) rfl) pa_nil))) pa_nil)))))
        (pss_cons (ps_set (i := 1) sc__law_whole.nd rfl (by first | exact Or.inl rfl | exact Or.inr rfl) (pe_op opAdd (pe_op opAdd (pev 1) (pe_op opMulT pe_str (pe_callTy caIntT (by rfl) T.b_int (by decide +kernel) (pa_cons (pe_callB call_isA (by rfl) T.b_isinstance (by decide +kernel) (pa_cons (pev 0) (pa_cons (pe_bltn (v := .ty "IndexError") (by rfl) T.b_IndexError (by decide +kernel) rfl) pa_nil))) pa_nil)))) (pe_op opMulT pe_str (pe_callTy caIntT (by rfl) T.b_int (by decide +kernel) (pa_cons (pe_callB call_isA (by rfl) T.b_isinstance (by decide +kernel) (pa_cons (pev 0) (pa_cons (pe_bltn (v := .ty "LookupError") (by rfl) T.b_LookupError (by decide +kernel) rfl) pa_nil))) pa_nil)))))
        (pss_cons (ps_set (i := 1) sc__law_whole.nd rfl (by first | exact Or.inl rfl | exact Or.inr rfl) (pe_op opAdd (pev 1) (pe_op opMulT pe_str (pe_callTy caIntT (by rfl) T.b_int (by decide +kernel) (pa_cons (pe_callB call_isA (by rfl) T.b_isinstance (by decide +kernel) (pa_cons (pev 0) (pa_cons (pe_bltn (v := .ty "RuntimeError") (by rfl) T.b_RuntimeError (by decide +kernel) rfl) pa_nil))) pa_nil)))))
        (pss_cons (ps_set (i := 1) sc__law_whole.nd rfl (by first | exact Or.inl rfl | exact Or.inr rfl) (pe_op opAdd (pev 1) (pe_op opMulT pe_str (pe_callTy caIntT (by rfl) T.b_int (by decide +kernel) (pa_cons (pe_callB call_isA (by rfl) T.b_isinstance (by decide +kernel) (pa_cons (pev 0) (pa_cons (pe_bltn (v := .ty "OverflowError") (by rfl) T.b_OverflowError (by decide +kernel) rfl) pa_nil))) pa_nil)))))
        (pss_one (ps_ret (pe_op opAdd (pev 1) (pe_op opMulT pe_str (pe_callTy caIntT (by rfl) T.b_int (by decide +kernel) (pa_cons (pe_callB call_isA (by rfl) T.b_isinstance (by decide +kernel) (pa_cons (pev 0) (pa_cons (pe_bltn (v := .ty "ArithmeticError") (by rfl) T.b_ArithmeticError (by decide +kernel) rfl) pa_nil))) pa_nil))))))))))), ?_⟩
    have lx := ownT_len b0 b1 b2 b3 b4 b5 b6 b7 b8 b9 b10 b11 b12 b13 b14 b15
    have e1 : (Str.ofString " ").length = 1 := rfl
    have l0 := otm (Str.ofString "base ") d0
    rw [show (Str.ofString "base ").length = 5 from rfl] at l0
    have l1 := otm (Str.ofString "value ") d1
    rw [show (Str.ofString "value ").length = 6 from rfl] at l1
    have l2 := otm (Str.ofString "key ") d2
    rw [show (Str.ofString "key ").length = 4 from rfl] at l2
    have l3 := otm (Str.ofString "index ") d3
    rw [show (Str.ofString "index ").length = 6 from rfl] at l3
    have l4 := otm (Str.ofString "lookup ") d4
    rw [show (Str.ofString "lookup ").length = 7 from rfl] at l4
    have l5 := otm (Str.ofString "runtime ") d5
    rw [show (Str.ofString "runtime ").length = 8 from rfl] at l5
    have l6 := otm (Str.ofString "overflow ") d6
    rw [show (Str.ofString "overflow ").length = 9 from rfl] at l6
    have l7 := otm (Str.ofString "arithmetic ") d7
    rw [show (Str.ofString "arithmetic ").length = 11 from rfl] at l7
    conv => whnf
    refine ⟨a, D, b0, b1, b2, b3, b4, b5, b6, b7, b8, b9, b10, b11, b12, b13, b14, b15, rfl, hX, hC, own, ?_⟩
    generalize ownT b0 b1 b2 b3 b4 b5 b6 b7 b8 b9 b10 b11 b12 b13 b14 b15 = x at lx k ⊢
    conv => whnf
    refine ⟨by (try simp only [sapp]); have : sizeLine = 16777216 := sizeLine_eq; omega, ?_⟩
    conv => whnf
    refine ⟨a, D, _, _, d0, rfl, hX, hC, .own _, k0, ?_⟩
    conv => whnf
    refine otn 5 (by decide) ?_
    conv => whnf
    refine ⟨by (try simp only [sapp]); have : sizeLine = 16777216 := sizeLine_eq; omega, ?_⟩
    conv => whnf
    conv => whnf
    refine ⟨a, D, _, _, d1, rfl, hX, hC, .ty _, k1, ?_⟩
    conv => whnf
    refine otn 6 (by decide) ?_
    conv => whnf
    refine ⟨by (try simp only [sapp]); have : sizeLine = 16777216 := sizeLine_eq; omega, ?_⟩
    conv => whnf
    conv => whnf
    refine ⟨a, D, _, _, d2, rfl, hX, hC, .ty _, k2, ?_⟩
    conv => whnf
    refine otn 4 (by decide) ?_
    conv => whnf
    refine ⟨by (try simp only [sapp]); have : sizeLine = 16777216 := sizeLine_eq; omega, ?_⟩
    conv => whnf
    conv => whnf
    refine ⟨a, D, _, _, d3, rfl, hX, hC, .ty _, k3, ?_⟩
    conv => whnf
    refine otn 6 (by decide) ?_
    conv => whnf
    refine ⟨by (try simp only [sapp]); have : sizeLine = 16777216 := sizeLine_eq; omega, ?_⟩
    conv => whnf
    conv => whnf
    refine ⟨a, D, _, _, d4, rfl, hX, hC, .ty _, k4, ?_⟩
    conv => whnf
    refine otn 7 (by decide) ?_
    conv => whnf
    refine ⟨by (try simp only [sapp]); have : sizeLine = 16777216 := sizeLine_eq; omega, ?_⟩
    conv => whnf
    conv => whnf
    refine ⟨a, D, _, _, d5, rfl, hX, hC, .ty _, k5, ?_⟩
    conv => whnf
    refine otn 8 (by decide) ?_
    conv => whnf
    refine ⟨by (try simp only [sapp]); have : sizeLine = 16777216 := sizeLine_eq; omega, ?_⟩
    conv => whnf
    conv => whnf
    refine ⟨a, D, _, _, d6, rfl, hX, hC, .ty _, k6, ?_⟩
    conv => whnf
    refine otn 9 (by decide) ?_
    conv => whnf
    refine ⟨by (try simp only [sapp]); have : sizeLine = 16777216 := sizeLine_eq; omega, ?_⟩
    conv => whnf
    conv => whnf
    refine ⟨a, D, _, _, d7, rfl, hX, hC, .ty _, k7, ?_⟩
    conv => whnf
    refine otn 11 (by decide) ?_
    conv => whnf
    refine ⟨by (try simp only [sapp]); have : sizeLine = 16777216 := sizeLine_eq; omega, ?_⟩
    conv => whnf
    exact k
def msgs : List Str := [wholeT (ownT true false false false false false false false false false false false false false false false) true true false false false false false false, wholeT (ownT false true false false false false false false false false false false false false false false) true true false false false false false false, wholeT (ownT false false true false false false false false false false false false false false false false) true true false false false false false false, wholeT (ownT false false false true false false false false false false false false false false false false) true true false false false false false false, wholeT (ownT false false false false true false false false false false false false false false false false) true true false false false false false false, wholeT (ownT false false false false false true false false false false false false false false false false) true true false false false false false false, wholeT (ownT false false false false false false true false false false false false false false false false) true true false false false false false false, wholeT (ownT false false false false false false false true false false false false false false false false) true true false false false false false false, wholeT (ownT false false false false false false false false false false false false false false false false) true true false false false false false false]
theorem msgs_eq : msgs = [Str.ofString "f base value ", Str.ofString "q base value ", Str.ofString "r base value ", Str.ofString "s base value ", Str.ofString "v base value ", Str.ofString "p base value ", Str.ofString "w base value ", Str.ofString "o base value ", Str.ofString " base value "] := by decide +kernel
def sp__law_messages (K : PySem.W.Frag) : Sp := fun vs H Q _ => ∃ x : Str, vs = [.str x] ∧ ∀ H' p, Gr H H' → H p = none → H' p = some (.lst (msgs.map V.str)) → Q (.ref p) H'
theorem ok__law_messages (T : Txt K mg) : FnOk P w K mg base CX0 3 T.a__law_messages T.d__law_messages ["_law_text"] (sp__law_messages K) := by
  refine T.F__law_messages.ok sc__law_messages (fun vs H Q E h => ?_) (fun cdv A outer s H vs Q E hr h => ?_)
  · obtain ⟨x, rfl, _⟩ := h; rfl
  · obtain ⟨x, rfl, k⟩ := h
    refine ⟨_, (pss_cons (ps_set (i := 1) sc__law_messages.nd rfl (by first | exact Or.inl rfl | exact Or.inr rfl) (pe_lst (pa_cons (pe_call (ok__law_whole T) (hr.mono (by decide)) (by rfl) T.g__law_whole T.F__law_whole.kp T.B__law_whole .nil pass0 (pa_cons (pe_exc1 PySem.F.excBase_ValueError T.x_InvalidRatio T.g_InvalidRatio T.k_InvalidRatio (by rfl) (pev 0)) pa_nil)) (pa_cons (pe_call (ok__law_whole T) (hr.mono (by decide)) (by rfl) T.g__law_whole T.F__law_whole.kp T.B__law_whole .nil pass0 (pa_cons (pe_exc1 PySem.F.excBase_ValueError T.x_InvalidQuestion T.g_InvalidQuestion T.k_InvalidQuestion (by rfl) (pev 0)) pa_nil)) (pa_cons (pe_call (ok__law_whole T) (hr.mono (by decide)) (by rfl) T.g__law_whole T.F__law_whole.kp T.B__law_whole .nil pass0 (pa_cons (pe_exc1 PySem.F.excBase_ValueError T.x_InvalidRow T.g_InvalidRow T.k_InvalidRow (by rfl) (pev 0)) pa_nil)) pa_nil)))))
        (pss_cons (ps_set (i := 1) sc__law_messages.nd rfl (by first | exact Or.inl rfl | exact Or.inr rfl) (pe_op opAdd (pev 1) (pe_lst (pa_cons (pe_call (ok__law_whole T) (hr.mono (by decide)) (by rfl) T.g__law_whole T.F__law_whole.kp T.B__law_whole .nil pass0 (pa_cons (pe_exc1 PySem.F.excBase_ValueError T.x_InvalidStore T.g_InvalidStore T.k_InvalidStore (by rfl) (pev 0)) pa_nil)) (pa_cons (pe_call (ok__law_whole T) (hr.mono (by decide)) (by rfl) T.g__law_whole T.F__law_whole.kp T.B__law_whole .nil pass0 (pa_cons (pe_exc1 PySem.F.excBase_ValueError T.x_InvalidView T.g_InvalidView T.k_InvalidView (by rfl) (pev 0)) pa_nil)) (pa_cons (pe_call (ok__law_whole T) (hr.mono (by decide)) (by rfl) T.g__law_whole T.F__law_whole.kp T.B__law_whole .nil pass0 (pa_cons (pe_exc1 PySem.F.excBase_ValueError T.x_InvalidPlan T.g_InvalidPlan T.k_InvalidPlan (by rfl) (pev 0)) pa_nil)) pa_nil))))))
        (pss_cons (ps_set (i := 1) sc__law_messages.nd rfl (by first | exact Or.inl rfl | exact Or.inr rfl) (pe_op opAdd (pev 1) (pe_lst (pa_cons (pe_call (ok__law_whole T) (hr.mono (by decide)) (by rfl) T.g__law_whole T.F__law_whole.kp T.B__law_whole .nil pass0 (pa_cons (pe_exc1 PySem.F.excBase_ValueError T.x_InvalidWeights T.g_InvalidWeights T.k_InvalidWeights (by rfl) (pev 0)) pa_nil)) (pa_cons (pe_call (ok__law_whole T) (hr.mono (by decide)) (by rfl) T.g__law_whole T.F__law_whole.kp T.B__law_whole .nil pass0 (pa_cons (pe_exc1 PySem.F.excBase_ValueError T.x_InvalidOperation T.g_InvalidOperation T.k_InvalidOperation (by rfl) (pev 0)) pa_nil)) pa_nil)))))
        (pss_one (ps_ret (pe_op opAdd (pev 1) (pe_lst (pa_cons (pe_call (ok__law_whole T) (hr.mono (by decide)) (by rfl) T.g__law_whole T.F__law_whole.kp T.B__law_whole .nil pass0 (pa_cons (pe_exc1 PySem.F.excBase_ValueError T.x_TouchError T.g_TouchError T.k_TouchError (by rfl) (pev 0)) pa_nil)) pa_nil)))))))), ?_⟩
    have G : Gr H H := Gr.rfl'
    conv => whnf
    intro aInvalidRatio nInvalidRatio
    have g1 := Gr.rfl'.up (o := ExO (.ref T.c_InvalidRatio) aInvalidRatio) nInvalidRatio
    have e1 := upd_same (H := H) (a := aInvalidRatio) (o := ExO (.ref T.c_InvalidRatio) aInvalidRatio)
    generalize upd H aInvalidRatio (ExO (.ref T.c_InvalidRatio) aInvalidRatio) = H1 at g1 e1 ⊢
    replace G := G.trans g1
    conv => whnf
    refine ⟨aInvalidRatio, T.c_InvalidRatio, true, false, false, false, false, false, false, false, false, false, false, false, false, false, false, false, true, true, false, false, false, false, false, false, rfl, .plain e1, T.is_InvalidRatio, T.ow_InvalidRatio, T.kb_InvalidRatio, ?_⟩
    conv => whnf
    intro aInvalidQuestion nInvalidQuestion
    have g2 := Gr.rfl'.up (o := ExO (.ref T.c_InvalidQuestion) aInvalidQuestion) nInvalidQuestion
    have e2 := upd_same (H := H1) (a := aInvalidQuestion) (o := ExO (.ref T.c_InvalidQuestion) aInvalidQuestion)
    generalize upd H1 aInvalidQuestion (ExO (.ref T.c_InvalidQuestion) aInvalidQuestion) = H2 at g2 e2 ⊢
    replace G := G.trans g2
    conv => whnf
    refine ⟨aInvalidQuestion, T.c_InvalidQuestion, false, true, false, false, false, false, false, false, false, false, false, false, false, false, false, false, true, true, false, false, false, false, false, false, rfl, .plain e2, T.is_InvalidQuestion, T.ow_InvalidQuestion, T.kb_InvalidQuestion, ?_⟩
    conv => whnf
    intro aInvalidRow nInvalidRow
    have g3 := Gr.rfl'.up (o := ExO (.ref T.c_InvalidRow) aInvalidRow) nInvalidRow
    have e3 := upd_same (H := H2) (a := aInvalidRow) (o := ExO (.ref T.c_InvalidRow) aInvalidRow)
    generalize upd H2 aInvalidRow (ExO (.ref T.c_InvalidRow) aInvalidRow) = H3 at g3 e3 ⊢
    replace G := G.trans g3
    conv => whnf
    refine ⟨aInvalidRow, T.c_InvalidRow, false, false, true, false, false, false, false, false, false, false, false, false, false, false, false, false, true, true, false, false, false, false, false, false, rfl, .plain e3, T.is_InvalidRow, T.ow_InvalidRow, T.kb_InvalidRow, ?_⟩
    conv => whnf
    refine ⟨small_ok (by simp), fun p0 np0 => ?_⟩
    have g4 := Gr.rfl'.up (o := .lst [.str (wholeT (ownT true false false false false false false false false false false false false false false false) true true false false false false false false), .str (wholeT (ownT false true false false false false false false false false false false false false false false) true true false false false false false false), .str (wholeT (ownT false false true false false false false false false false false false false false false false) true true false false false false false false)]) np0
    have e4 := upd_same (H := H3) (a := p0) (o := .lst [.str (wholeT (ownT true false false false false false false false false false false false false false false false) true true false false false false false false), .str (wholeT (ownT false true false false false false false false false false false false false false false false) true true false false false false false false), .str (wholeT (ownT false false true false false false false false false false false false false false false false) true true false false false false false false)])
    generalize upd H3 p0 (.lst [.str (wholeT (ownT true false false false false false false false false false false false false false false false) true true false false false false false false), .str (wholeT (ownT false true false false false false false false false false false false false false false false) true true false false false false false false), .str (wholeT (ownT false false true false false false false false false false false false false false false false) true true false false false false false false)]) = H4 at g4 e4 ⊢
    replace G := G.trans g4
    conv => whnf
    intro aInvalidStore nInvalidStore
    have g5 := Gr.rfl'.up (o := ExO (.ref T.c_InvalidStore) aInvalidStore) nInvalidStore
    have e5 := upd_same (H := H4) (a := aInvalidStore) (o := ExO (.ref T.c_InvalidStore) aInvalidStore)
    generalize upd H4 aInvalidStore (ExO (.ref T.c_InvalidStore) aInvalidStore) = H5 at g5 e5 ⊢
    replace G := G.trans g5
    conv => whnf
    refine ⟨aInvalidStore, T.c_InvalidStore, false, false, false, true, false, false, false, false, false, false, false, false, false, false, false, false, true, true, false, false, false, false, false, false, rfl, .plain e5, T.is_InvalidStore, T.ow_InvalidStore, T.kb_InvalidStore, ?_⟩
    replace e4 := g5 _ _ e4
    conv => whnf
    intro aInvalidView nInvalidView
    have g6 := Gr.rfl'.up (o := ExO (.ref T.c_InvalidView) aInvalidView) nInvalidView
    have e6 := upd_same (H := H5) (a := aInvalidView) (o := ExO (.ref T.c_InvalidView) aInvalidView)
    generalize upd H5 aInvalidView (ExO (.ref T.c_InvalidView) aInvalidView) = H6 at g6 e6 ⊢
    replace G := G.trans g6
    conv => whnf
    refine ⟨aInvalidView, T.c_InvalidView, false, false, false, false, true, false, false, false, false, false, false, false, false, false, false, false, true, true, false, false, false, false, false, false, rfl, .plain e6, T.is_InvalidView, T.ow_InvalidView, T.kb_InvalidView, ?_⟩
    replace e4 := g6 _ _ e4
    conv => whnf
    intro aInvalidPlan nInvalidPlan
    have g7 := Gr.rfl'.up (o := ExO (.ref T.c_InvalidPlan) aInvalidPlan) nInvalidPlan
    have e7 := upd_same (H := H6) (a := aInvalidPlan) (o := ExO (.ref T.c_InvalidPlan) aInvalidPlan)
    generalize upd H6 aInvalidPlan (ExO (.ref T.c_InvalidPlan) aInvalidPlan) = H7 at g7 e7 ⊢
    replace G := G.trans g7
    conv => whnf
    refine ⟨aInvalidPlan, T.c_InvalidPlan, false, false, false, false, false, true, false, false, false, false, false, false, false, false, false, false, true, true, false, false, false, false, false, false, rfl, .plain e7, T.is_InvalidPlan, T.ow_InvalidPlan, T.kb_InvalidPlan, ?_⟩
    replace e4 := g7 _ _ e4
    conv => whnf
    refine ⟨small_ok (by simp), fun p1 np1 => ?_⟩
    have g8 := Gr.rfl'.up (o := .lst [.str (wholeT (ownT false false false true false false false false false false false false false false false false) true true false false false false false false), .str (wholeT (ownT false false false false true false false false false false false false false false false false) true true false false false false false false), .str (wholeT (ownT false false false false false true false false false false false false false false false false) true true false false false false false false)]) np1
    have e8 := upd_same (H := H7) (a := p1) (o := .lst [.str (wholeT (ownT false false false true false false false false false false false false false false false false) true true false false false false false false), .str (wholeT (ownT false false false false true false false false false false false false false false false false) true true false false false false false false), .str (wholeT (ownT false false false false false true false false false false false false false false false false) true true false false false false false false)])
    generalize upd H7 p1 (.lst [.str (wholeT (ownT false false false true false false false false false false false false false false false false) true true false false false false false false), .str (wholeT (ownT false false false false true false false false false false false false false false false false) true true false false false false false false), .str (wholeT (ownT false false false false false true false false false false false false false false false false) true true false false false false false false)]) = H8 at g8 e8 ⊢
    replace G := G.trans g8
    replace e4 := g8 _ _ e4
    conv => whnf
    refine .inl ⟨_, _, _, _, rfl, rfl, e4, e8, by simp [sizeLine_eq], fun q1 nq1 => ?_⟩
    simp only [List.cons_append, List.nil_append]
    have g9 := Gr.rfl'.up (o := .lst [.str (wholeT (ownT true false false false false false false false false false false false false false false false) true true false false false false false false), .str (wholeT (ownT false true false false false false false false false false false false false false false false) true true false false false false false false), .str (wholeT (ownT false false true false false false false false false false false false false false false false) true true false false false false false false), .str (wholeT (ownT false false false true false false false false false false false false false false false false) true true false false false false false false), .str (wholeT (ownT false false false false true false false false false false false false false false false false) true true false false false false false false), .str (wholeT (ownT false false false false false true false false false false false false false false false false) true true false false false false false false)]) nq1
    have e9 := upd_same (H := H8) (a := q1) (o := .lst [.str (wholeT (ownT true false false false false false false false false false false false false false false false) true true false false false false false false), .str (wholeT (ownT false true false false false false false false false false false false false false false false) true true false false false false false false), .str (wholeT (ownT false false true false false false false false false false false false false false false false) true true false false false false false false), .str (wholeT (ownT false false false true false false false false false false false false false false false false) true true false false false false false false), .str (wholeT (ownT false false false false true false false false false false false false false false false false) true true false false false false false false), .str (wholeT (ownT false false false false false true false false false false false false false false false false) true true false false false false false false)])
    generalize upd H8 q1 (.lst [.str (wholeT (ownT true false false false false false false false false false false false false false false false) true true false false false false false false), .str (wholeT (ownT false true false false false false false false false false false false false false false false) true true false false false false false false), .str (wholeT (ownT false false true false false false false false false false false false false false false false) true true false false false false false false), .str (wholeT (ownT false false false true false false false false false false false false false false false false) true true false false false false false false), .str (wholeT (ownT false false false false true false false false false false false false false false false false) true true false false false false false false), .str (wholeT (ownT false false false false false true false false false false false false false false false false) true true false false false false false false)]) = H9 at g9 e9 ⊢
    replace G := G.trans g9
    conv => whnf
    intro aInvalidWeights nInvalidWeights
    have g10 := Gr.rfl'.up (o := ExO (.ref T.c_InvalidWeights) aInvalidWeights) nInvalidWeights
    have e10 := upd_same (H := H9) (a := aInvalidWeights) (o := ExO (.ref T.c_InvalidWeights) aInvalidWeights)
    generalize upd H9 aInvalidWeights (ExO (.ref T.c_InvalidWeights) aInvalidWeights) = H10 at g10 e10 ⊢
    replace G := G.trans g10
    conv => whnf
    refine ⟨aInvalidWeights, T.c_InvalidWeights, false, false, false, false, false, false, true, false, false, false, false, false, false, false, false, false, true, true, false, false, false, false, false, false, rfl, .plain e10, T.is_InvalidWeights, T.ow_InvalidWeights, T.kb_InvalidWeights, ?_⟩
    replace e9 := g10 _ _ e9
    conv => whnf
    intro aInvalidOperation nInvalidOperation
    have g11 := Gr.rfl'.up (o := ExO (.ref T.c_InvalidOperation) aInvalidOperation) nInvalidOperation
    have e11 := upd_same (H := H10) (a := aInvalidOperation) (o := ExO (.ref T.c_InvalidOperation) aInvalidOperation)
    generalize upd H10 aInvalidOperation (ExO (.ref T.c_InvalidOperation) aInvalidOperation) = H11 at g11 e11 ⊢
    replace G := G.trans g11
    conv => whnf
    refine ⟨aInvalidOperation, T.c_InvalidOperation, false, false, false, false, false, false, false, true, false, false, false, false, false, false, false, false, true, true, false, false, false, false, false, false, rfl, .plain e11, T.is_InvalidOperation, T.ow_InvalidOperation, T.kb_InvalidOperation, ?_⟩
    replace e9 := g11 _ _ e9
    conv => whnf
    refine ⟨small_ok (by simp), fun p2 np2 => ?_⟩
    have g12 := Gr.rfl'.up (o := .lst [.str (wholeT (ownT false false false false false false true false false false false false false false false false) true true false false false false false false), .str (wholeT (ownT false false false false false false false true false false false false false false false false) true true false false false false false false)]) np2
    have e12 := upd_same (H := H11) (a := p2) (o := .lst [.str (wholeT (ownT false false false false false false true false false false false false false false false false) true true false false false false false false), .str (wholeT (ownT false false false false false false false true false false false false false false false false) true true false false false false false false)])
    generalize upd H11 p2 (.lst [.str (wholeT (ownT false false false false false false true false false false false false false false false false) true true false false false false false false), .str (wholeT (ownT false false false false false false false true false false false false false false false false) true true false false false false false false)]) = H12 at g12 e12 ⊢
    replace G := G.trans g12
    replace e9 := g12 _ _ e9
    conv => whnf
    refine .inl ⟨_, _, _, _, rfl, rfl, e9, e12, by simp [sizeLine_eq], fun q2 nq2 => ?_⟩
    simp only [List.cons_append, List.nil_append]
    have g13 := Gr.rfl'.up (o := .lst [.str (wholeT (ownT true false false false false false false false false false false false false false false false) true true false false false false false false), .str (wholeT (ownT false true false false false false false false false false false false false false false false) true true false false false false false false), .str (wholeT (ownT false false true false false false false false false false false false false false false false) true true false false false false false false), .str (wholeT (ownT false false false true false false false false false false false false false false false false) true true false false false false false false), .str (wholeT (ownT false false false false true false false false false false false false false false false false) true true false false false false false false), .str (wholeT (ownT false false false false false true false false false false false false false false false false) true true false false false false false false), .str (wholeT (ownT false false false false false false true false false false false false false false false false) true true false false false false false false), .str (wholeT (ownT false false false false false false false true false false false false false false false false) true true false false false false false false)]) nq2
    have e13 := upd_same (H := H12) (a := q2) (o := .lst [.str (wholeT (ownT true false false false false false false false false false false false false false false false) true true false false false false false false), .str (wholeT (ownT false true false false false false false false false false false false false false false false) true true false false false false false false), .str (wholeT (ownT false false true false false false false false false false false false false false false false) true true false false false false false false), .str (wholeT (ownT false false false true false false false false false false false false false false false false) true true false false false false false false), .str (wholeT (ownT false false false false true false false false false false false false false false false false) true true false false false false false false), .str (wholeT (ownT false false false false false true false false false false false false false false false false) true true false false false false false false), .str (wholeT (ownT false false false false false false true false false false false false false false false false) true true false false false false false false), .str (wholeT (ownT false false false false false false false true false false false false false false false false) true true false false false false false false)])
    generalize upd H12 q2 (.lst [.str (wholeT (ownT true false false false false false false false false false false false false false false false) true true false false false false false false), .str (wholeT (ownT false true false false false false false false false false false false false false false false) true true false false false false false false), .str (wholeT (ownT false false true false false false false false false false false false false false false false) true true false false false false false false), .str (wholeT (ownT false false false true false false false false false false false false false false false false) true true false false false false false false), .str (wholeT (ownT false false false false true false false false false false false false false false false false) true true false false false false false false), .str (wholeT (ownT false false false false false true false false false false false false false false false false) true true false false false false false false), .str (wholeT (ownT false false false false false false true false false false false false false false false false) true true false false false false false false), .str (wholeT (ownT false false false false false false false true false false false false false false false false) true true false false false false false false)]) = H13 at g13 e13 ⊢
    replace G := G.trans g13
    conv => whnf
    intro aTouchError nTouchError
    have g14 := Gr.rfl'.up (o := ExO (.ref T.c_TouchError) aTouchError) nTouchError
    have e14 := upd_same (H := H13) (a := aTouchError) (o := ExO (.ref T.c_TouchError) aTouchError)
    generalize upd H13 aTouchError (ExO (.ref T.c_TouchError) aTouchError) = H14 at g14 e14 ⊢
    replace G := G.trans g14
    conv => whnf
    refine ⟨aTouchError, T.c_TouchError, false, false, false, false, false, false, false, false, false, false, false, false, false, false, false, false, true, true, false, false, false, false, false, false, rfl, .plain e14, T.is_TouchError, T.ow_TouchError, T.kb_TouchError, ?_⟩
    replace e13 := g14 _ _ e13
    conv => whnf
    refine ⟨small_ok (by simp), fun p3 np3 => ?_⟩
    have g15 := Gr.rfl'.up (o := .lst [.str (wholeT (ownT false false false false false false false false false false false false false false false false) true true false false false false false false)]) np3
    have e15 := upd_same (H := H14) (a := p3) (o := .lst [.str (wholeT (ownT false false false false false false false false false false false false false false false false) true true false false false false false false)])
    generalize upd H14 p3 (.lst [.str (wholeT (ownT false false false false false false false false false false false false false false false false) true true false false false false false false)]) = H15 at g15 e15 ⊢
    replace G := G.trans g15
    replace e13 := g15 _ _ e13
    conv => whnf
    refine .inl ⟨_, _, _, _, rfl, rfl, e13, e15, by simp [sizeLine_eq], fun q3 nq3 => ?_⟩
    have free := Gr.free' G nq3
    simp only [List.cons_append, List.nil_append]
    have g16 := Gr.rfl'.up (o := .lst [.str (wholeT (ownT true false false false false false false false false false false false false false false false) true true false false false false false false), .str (wholeT (ownT false true false false false false false false false false false false false false false false) true true false false false false false false), .str (wholeT (ownT false false true false false false false false false false false false false false false false) true true false false false false false false), .str (wholeT (ownT false false false true false false false false false false false false false false false false) true true false false false false false false), .str (wholeT (ownT false false false false true false false false false false false false false false false false) true true false false false false false false), .str (wholeT (ownT false false false false false true false false false false false false false false false false) true true false false false false false false), .str (wholeT (ownT false false false false false false true false false false false false false false false false) true true false false false false false false), .str (wholeT (ownT false false false false false false false true false false false false false false false false) true true false false false false false false), .str (wholeT (ownT false false false false false false false false false false false false false false false false) true true false false false false false false)]) nq3
    have e16 := upd_same (H := H15) (a := q3) (o := .lst [.str (wholeT (ownT true false false false false false false false false false false false false false false false) true true false false false false false false), .str (wholeT (ownT false true false false false false false false false false false false false false false false) true true false false false false false false), .str (wholeT (ownT false false true false false false false false false false false false false false false false) true true false false false false false false), .str (wholeT (ownT false false false true false false false false false false false false false false false false) true true false false false false false false), .str (wholeT (ownT false false false false true false false false false false false false false false false false) true true false false false false false false), .str (wholeT (ownT false false false false false true false false false false false false false false false false) true true false false false false false false), .str (wholeT (ownT false false false false false false true false false false false false false false false false) true true false false false false false false), .str (wholeT (ownT false false false false false false false true false false false false false false false false) true true false false false false false false), .str (wholeT (ownT false false false false false false false false false false false false false false false false) true true false false false false false false)])
    generalize upd H15 q3 (.lst [.str (wholeT (ownT true false false false false false false false false false false false false false false false) true true false false false false false false), .str (wholeT (ownT false true false false false false false false false false false false false false false false) true true false false false false false false), .str (wholeT (ownT false false true false false false false false false false false false false false false false) true true false false false false false false), .str (wholeT (ownT false false false true false false false false false false false false false false false false) true true false false false false false false), .str (wholeT (ownT false false false false true false false false false false false false false false false false) true true false false false false false false), .str (wholeT (ownT false false false false false true false false false false false false false false false false) true true false false false false false false), .str (wholeT (ownT false false false false false false true false false false false false false false false false) true true false false false false false false), .str (wholeT (ownT false false false false false false false true false false false false false false false false) true true false false false false false false), .str (wholeT (ownT false false false false false false false false false false false false false false false false) true true false false false false false false)]) = H16 at g16 e16 ⊢
    replace G := G.trans g16
    exact k _ _ G free e16
def sp_ParseError___init__ (K : PySem.W.Frag) (C : Addr) : Sp := spXi C "number"
theorem ok_ParseError___init__ (T : Txt K mg) : FnOk P w K mg base CX0 1 T.a_ParseError___init__ T.d_ParseError___init__ ["self", "number"] (sp_ParseError___init__ K T.c_ParseError) := by
  refine T.F_ParseError___init__.ok sc_ParseError___init__ (fun vs H Q E h => ?_) (fun cdv A outer s H vs Q E hr h => ?_)
  · obtain ⟨a, v, rfl, _⟩ := h; rfl
  · obtain ⟨a, v, rfl, e, k⟩ := h
    refine ⟨_, (pss_one (ps_xst xb_val T.XC_ParseError T.HT_ParseError (pev 0) (pev 1))), ?_⟩
    conv => whnf
    refine ⟨a, rfl, e, fun dx n ne => ?_⟩
    exact k dx n ne
def sp_UnknownName___init__ (K : PySem.W.Frag) (C : Addr) : Sp := spXi C "word"
theorem ok_UnknownName___init__ (T : Txt K mg) : FnOk P w K mg base CX0 1 T.a_UnknownName___init__ T.d_UnknownName___init__ ["self", "word"] (sp_UnknownName___init__ K T.c_UnknownName) := by
  refine T.F_UnknownName___init__.ok sc_UnknownName___init__ (fun vs H Q E h => ?_) (fun cdv A outer s H vs Q E hr h => ?_)
  · obtain ⟨a, v, rfl, _⟩ := h; rfl
  · obtain ⟨a, v, rfl, e, k⟩ := h
    refine ⟨_, (pss_one (ps_xst xb_key T.XC_UnknownName T.HT_UnknownName (pev 0) (pev 1))), ?_⟩
    conv => whnf
    refine ⟨a, rfl, e, fun dx n ne => ?_⟩
    exact k dx n ne
def sp_RowThere___init__ (K : PySem.W.Frag) (C : Addr) : Sp := spXi C "placed"
theorem ok_RowThere___init__ (T : Txt K mg) : FnOk P w K mg base CX0 1 T.a_RowThere___init__ T.d_RowThere___init__ ["self", "placed"] (sp_RowThere___init__ K T.c_RowThere) := by
  refine T.F_RowThere___init__.ok sc_RowThere___init__ (fun vs H Q E h => ?_) (fun cdv A outer s H vs Q E hr h => ?_)
  · obtain ⟨a, v, rfl, _⟩ := h; rfl
  · obtain ⟨a, v, rfl, e, k⟩ := h
    refine ⟨_, (pss_one (ps_xst xb_look T.XC_RowThere T.HT_RowThere (pev 0) (pev 1))), ?_⟩
    conv => whnf
    refine ⟨a, rfl, e, fun dx n ne => ?_⟩
    exact k dx n ne
def sp_RowAbsent___init__ (K : PySem.W.Frag) (C : Addr) : Sp := spXi C "missed"
theorem ok_RowAbsent___init__ (T : Txt K mg) : FnOk P w K mg base CX0 1 T.a_RowAbsent___init__ T.d_RowAbsent___init__ ["self", "missed"] (sp_RowAbsent___init__ K T.c_RowAbsent) := by
  refine T.F_RowAbsent___init__.ok sc_RowAbsent___init__ (fun vs H Q E h => ?_) (fun cdv A outer s H vs Q E hr h => ?_)
  · obtain ⟨a, v, rfl, _⟩ := h; rfl
  · obtain ⟨a, v, rfl, e, k⟩ := h
    refine ⟨_, (pss_one (ps_xst xb_look T.XC_RowAbsent T.HT_RowAbsent (pev 0) (pev 1))), ?_⟩
    conv => whnf
    refine ⟨a, rfl, e, fun dx n ne => ?_⟩
    exact k dx n ne
def sp_InvalidNumber___init__ (K : PySem.W.Frag) (C : Addr) : Sp := spXi C "value"
theorem ok_InvalidNumber___init__ (T : Txt K mg) : FnOk P w K mg base CX0 1 T.a_InvalidNumber___init__ T.d_InvalidNumber___init__ ["self", "value"] (sp_InvalidNumber___init__ K T.c_InvalidNumber) := by
  refine T.F_InvalidNumber___init__.ok sc_InvalidNumber___init__ (fun vs H Q E h => ?_) (fun cdv A outer s H vs Q E hr h => ?_)
  · obtain ⟨a, v, rfl, _⟩ := h; rfl
  · obtain ⟨a, v, rfl, e, k⟩ := h
    refine ⟨_, (pss_one (ps_xst xb_ix T.XC_InvalidNumber T.HT_InvalidNumber (pev 0) (pev 1))), ?_⟩
    conv => whnf
    refine ⟨a, rfl, e, fun dx n ne => ?_⟩
    exact k dx n ne
def sp_NothingToUndo___init__ (K : PySem.W.Frag) (C : Addr) : Sp := spXi C "many"
theorem ok_NothingToUndo___init__ (T : Txt K mg) : FnOk P w K mg base CX0 1 T.a_NothingToUndo___init__ T.d_NothingToUndo___init__ ["self", "many"] (sp_NothingToUndo___init__ K T.c_NothingToUndo) := by
  refine T.F_NothingToUndo___init__.ok sc_NothingToUndo___init__ (fun vs H Q E h => ?_) (fun cdv A outer s H vs Q E hr h => ?_)
  · obtain ⟨a, v, rfl, _⟩ := h; rfl
  · obtain ⟨a, v, rfl, e, k⟩ := h
    refine ⟨_, (pss_one (ps_xst xb_run T.XC_NothingToUndo T.HT_NothingToUndo (pev 0) (pev 1))), ?_⟩
    conv => whnf
    refine ⟨a, rfl, e, fun dx n ne => ?_⟩
    exact k dx n ne
def sp_TooMany___init__ (K : PySem.W.Frag) (C : Addr) : Sp := spXi C "limit"
theorem ok_TooMany___init__ (T : Txt K mg) : FnOk P w K mg base CX0 1 T.a_TooMany___init__ T.d_TooMany___init__ ["self", "limit"] (sp_TooMany___init__ K T.c_TooMany) := by
  refine T.F_TooMany___init__.ok sc_TooMany___init__ (fun vs H Q E h => ?_) (fun cdv A outer s H vs Q E hr h => ?_)
  · obtain ⟨a, v, rfl, _⟩ := h; rfl
  · obtain ⟨a, v, rfl, e, k⟩ := h
    refine ⟨_, (pss_one (ps_xst xb_over T.XC_TooMany T.HT_TooMany (pev 0) (pev 1))), ?_⟩
    conv => whnf
    refine ⟨a, rfl, e, fun dx n ne => ?_⟩
    exact k dx n ne
def sp_Refused___init__ (K : PySem.W.Frag) (C : Addr) : Sp := spXi C "pledge"
theorem ok_Refused___init__ (T : Txt K mg) : FnOk P w K mg base CX0 1 T.a_Refused___init__ T.d_Refused___init__ ["self", "pledge"] (sp_Refused___init__ K T.c_Refused) := by
  refine T.F_Refused___init__.ok sc_Refused___init__ (fun vs H Q E h => ?_) (fun cdv A outer s H vs Q E hr h => ?_)
  · obtain ⟨a, v, rfl, _⟩ := h; rfl
  · obtain ⟨a, v, rfl, e, k⟩ := h
    refine ⟨_, (pss_one (ps_xst xb_ar T.XC_Refused T.HT_Refused (pev 0) (pev 1))), ?_⟩
    conv => whnf
    refine ⟨a, rfl, e, fun dx n ne => ?_⟩
    exact k dx n ne
def stored (v iv : V) : List (Str × V) := [(wholeT (ownT false false false false false false false false true false false false false false false false) true true false false false false false false, iv), (wholeT (ownT false false false false false false false false false true false false false false false false) false false true false true false false false, v), (wholeT (ownT false false false false false false false false false false true false false false false false) false false false false true false false false, v), (wholeT (ownT false false false false false false false false false false false true false false false false) false false false false true false false false, v), (wholeT (ownT false false false false false false false false false false false false true false false false) false false false true true false false false, v), (wholeT (ownT false false false false false false false false false false false false false true false false) false false false false false true false false, v), (wholeT (ownT false false false false false false false false false false false false false false true false) false false false false false false true true, v), (wholeT (ownT false false false false false false false false false false false false false false false true) false false false false false false false true, v)]
def storedT : List Str := [wholeT (ownT false false false false false false false false true false false false false false false false) true true false false false false false false, wholeT (ownT false false false false false false false false false true false false false false false false) false false true false true false false false, wholeT (ownT false false false false false false false false false false true false false false false false) false false false false true false false false, wholeT (ownT false false false false false false false false false false false true false false false false) false false false false true false false false, wholeT (ownT false false false false false false false false false false false false true false false false) false false false true true false false false, wholeT (ownT false false false false false false false false false false false false false true false false) false false false false false true false false, wholeT (ownT false false false false false false false false false false false false false false true false) false false false false false false true true, wholeT (ownT false false false false false false false false false false false false false false false true) false false false false false false false true]
theorem storedT_eq : storedT = [Str.ofString "x base value ", Str.ofString "U key lookup ", Str.ofString "T lookup ", Str.ofString "A lookup ", Str.ofString "N index lookup ", Str.ofString "Z runtime ", Str.ofString "M overflow arithmetic ", Str.ofString "R arithmetic "] := by decide +kernel
theorem stored_eq (v iv : V) : stored v iv = storedT.zip [iv, v, v, v, v, v, v, v] := rfl
def sp__law_stored (K : PySem.W.Frag) : Sp := fun vs H Q _ => ∃ v iv : V, vs = [v, iv] ∧ ∀ H' p xs, Gr H H' → H p = none → H' p = some (.lst xs) → PrA H' xs (stored v iv) → Q (.ref p) H'
theorem ok__law_stored (T : Txt K mg) : FnOk P w K mg base CX0 3 T.a__law_stored T.d__law_stored ["_law_value", "_law_index"] (sp__law_stored K) := by
  refine T.F__law_stored.ok sc__law_stored (fun vs H Q E h => ?_) (fun cdv A outer s H vs Q E hr h => ?_)
  · obtain ⟨v, iv, rfl, _⟩ := h; rfl
  · obtain ⟨v, iv, rfl, k⟩ := h
    refine ⟨_, (pss_cons (ps_par (i := 2) (j := 3) (by rfl) sc__law_stored.nd rfl rfl (by decide) rfl rfl (pa_cons (pe_xmake xb_val T.XC_ParseError T.IC_ParseError T.IT_ParseError (ok_ParseError___init__ T) (hr.mono (by decide)) T.B_ParseError___init__ pass0 (by rfl) T.g_ParseError (pa_cons (pev 1) pa_nil)) (pa_cons (pe_xmake xb_key T.XC_UnknownName T.IC_UnknownName T.IT_UnknownName (ok_UnknownName___init__ T) (hr.mono (by decide)) T.B_UnknownName___init__ pass0 (by rfl) T.g_UnknownName (pa_cons (pev 0) pa_nil)) pa_nil)) (by rfl))
        (pss_cons (ps_par (i := 4) (j := 5) (by rfl) sc__law_stored.nd rfl rfl (by decide) rfl rfl (pa_cons (pe_xmake xb_look T.XC_RowThere T.IC_RowThere T.IT_RowThere (ok_RowThere___init__ T) (hr.mono (by decide)) T.B_RowThere___init__ pass0 (by rfl) T.g_RowThere (pa_cons (pev 0) pa_nil)) (pa_cons (pe_xmake xb_look T.XC_RowAbsent T.IC_RowAbsent T.IT_RowAbsent (ok_RowAbsent___init__ T) (hr.mono (by decide)) T.B_RowAbsent___init__ pass0 (by rfl) T.g_RowAbsent (pa_cons (pev 0) pa_nil)) pa_nil)) (by rfl))
        (pss_cons (ps_par (i := 6) (j := 7) (by rfl) sc__law_stored.nd rfl rfl (by decide) rfl rfl (pa_cons (pe_xmake xb_ix T.XC_InvalidNumber T.IC_InvalidNumber T.IT_InvalidNumber (ok_InvalidNumber___init__ T) (hr.mono (by decide)) T.B_InvalidNumber___init__ pass0 (by rfl) T.g_InvalidNumber (pa_cons (pev 0) pa_nil)) (pa_cons (pe_xmake xb_run T.XC_NothingToUndo T.IC_NothingToUndo T.IT_NothingToUndo (ok_NothingToUndo___init__ T) (hr.mono (by decide)) T.B_NothingToUndo___init__ pass0 (by rfl) T.g_NothingToUndo (pa_cons (pev 0) pa_nil)) pa_nil)) (by rfl))
        (pss_cons (ps_par (i := 8) (j := 9) (by rfl) sc__law_stored.nd rfl rfl (by decide) rfl rfl (pa_cons (pe_xmake xb_over T.XC_TooMany T.IC_TooMany T.IT_TooMany (ok_TooMany___init__ T) (hr.mono (by decide)) T.B_TooMany___init__ pass0 (by rfl) T.g_TooMany (pa_cons (pev 0) pa_nil)) (pa_cons (pe_xmake xb_ar T.XC_Refused T.IC_Refused T.IT_Refused (ok_Refused___init__ T) (hr.mono (by decide)) T.B_Refused___init__ pass0 (by rfl) T.g_Refused (pa_cons (pev 0) pa_nil)) pa_nil)) (by rfl))
        (pss_cons (ps_set (i := 10) sc__law_stored.nd rfl (by first | exact Or.inl rfl | exact Or.inr rfl) (pe_lst (pa_cons (pe_tup (pa_cons (pe_call (ok__law_whole T) (hr.mono (by decide)) (by rfl) T.g__law_whole T.F__law_whole.kp T.B__law_whole .nil pass0 (pa_cons (pev 2) pa_nil)) (pa_cons (pe_xo (pev 2)) pa_nil))) (pa_cons (pe_tup (pa_cons (pe_call (ok__law_whole T) (hr.mono (by decide)) (by rfl) T.g__law_whole T.F__law_whole.kp T.B__law_whole .nil pass0 (pa_cons (pev 3) pa_nil)) (pa_cons (pe_xo (pev 3)) pa_nil))) pa_nil))))
        (pss_cons (ps_set (i := 10) sc__law_stored.nd rfl (by first | exact Or.inl rfl | exact Or.inr rfl) (pe_op opAdd (pev 10) (pe_lst (pa_cons (pe_tup (pa_cons (pe_call (ok__law_whole T) (hr.mono (by decide)) (by rfl) T.g__law_whole T.F__law_whole.kp T.B__law_whole .nil pass0 (pa_cons (pev 4) pa_nil)) (pa_cons (pe_xo (pev 4)) pa_nil))) (pa_cons (pe_tup (pa_cons (pe_call (ok__law_whole T) (hr.mono (by decide)) (by rfl) T.g__law_whole T.F__law_whole.kp T.B__law_whole .nil pass0 (pa_cons (pev 5) pa_nil)) (pa_cons (pe_xo (pev 5)) pa_nil))) pa_nil)))))
        (pss_cons (ps_set (i := 10) sc__law_stored.nd rfl (by first | exact Or.inl rfl | exact Or.inr rfl) (pe_op opAdd (pev 10) (pe_lst (pa_cons (pe_tup (pa_cons (pe_call (ok__law_whole T) (hr.mono (by decide)) (by rfl) T.g__law_whole T.F__law_whole.kp T.B__law_whole .nil pass0 (pa_cons (pev 6) pa_nil)) (pa_cons (pe_xo (pev 6)) pa_nil))) (pa_cons (pe_tup (pa_cons (pe_call (ok__law_whole T) (hr.mono (by decide)) (by rfl) T.g__law_whole T.F__law_whole.kp T.B__law_whole .nil pass0 (pa_cons (pev 7) pa_nil)) (pa_cons (pe_xo (pev 7)) pa_nil))) pa_nil)))))
        (pss_one (ps_ret (pe_op opAdd (pev 10) (pe_lst (pa_cons (pe_tup (pa_cons (pe_call (ok__law_whole T) (hr.mono (by decide)) (by rfl) T.g__law_whole T.F__law_whole.kp T.B__law_whole .nil pass0 (pa_cons (pev 8) pa_nil)) (pa_cons (pe_xo (pev 8)) pa_nil))) (pa_cons (pe_tup (pa_cons (pe_call (ok__law_whole T) (hr.mono (by decide)) (by rfl) T.g__law_whole T.F__law_whole.kp T.B__law_whole .nil pass0 (pa_cons (pev 9) pa_nil)) (pa_cons (pe_xo (pev 9)) pa_nil))) pa_nil))))))))))))), ?_⟩
    have G : Gr H H := Gr.rfl'
    conv => whnf
    refine ⟨by simp, mkV_R (C := T.c_ParseError) (f := "number") fun aParseError dParseError H1 g1 nParseError eaParseError edParseError => ?_⟩
    replace G := G.trans g1
    conv => whnf
    refine ⟨by simp, mkV_R (C := T.c_UnknownName) (f := "word") fun aUnknownName dUnknownName H2 g2 nUnknownName eaUnknownName edUnknownName => ?_⟩
    replace G := G.trans g2
    replace eaParseError := g2 _ _ eaParseError
    replace edParseError := g2 _ _ edParseError
    conv => whnf
    refine ⟨_, _, rfl, ?_⟩
    conv => whnf
    refine ⟨by simp, mkV_R (C := T.c_RowThere) (f := "placed") fun aRowThere dRowThere H3 g3 nRowThere eaRowThere edRowThere => ?_⟩
    replace G := G.trans g3
    replace eaParseError := g3 _ _ eaParseError
    replace edParseError := g3 _ _ edParseError
    replace eaUnknownName := g3 _ _ eaUnknownName
    replace edUnknownName := g3 _ _ edUnknownName
    conv => whnf
    refine ⟨by simp, mkV_R (C := T.c_RowAbsent) (f := "missed") fun aRowAbsent dRowAbsent H4 g4 nRowAbsent eaRowAbsent edRowAbsent => ?_⟩
    replace G := G.trans g4
    replace eaParseError := g4 _ _ eaParseError
    replace edParseError := g4 _ _ edParseError
    replace eaUnknownName := g4 _ _ eaUnknownName
    replace edUnknownName := g4 _ _ edUnknownName
    replace eaRowThere := g4 _ _ eaRowThere
    replace edRowThere := g4 _ _ edRowThere
    conv => whnf
    refine ⟨_, _, rfl, ?_⟩
    conv => whnf
    refine ⟨by simp, mkV_R (C := T.c_InvalidNumber) (f := "value") fun aInvalidNumber dInvalidNumber H5 g5 nInvalidNumber eaInvalidNumber edInvalidNumber => ?_⟩
    replace G := G.trans g5
    replace eaParseError := g5 _ _ eaParseError
    replace edParseError := g5 _ _ edParseError
    replace eaUnknownName := g5 _ _ eaUnknownName
    replace edUnknownName := g5 _ _ edUnknownName
    replace eaRowThere := g5 _ _ eaRowThere
    replace edRowThere := g5 _ _ edRowThere
    replace eaRowAbsent := g5 _ _ eaRowAbsent
    replace edRowAbsent := g5 _ _ edRowAbsent
    conv => whnf
    refine ⟨by simp, mkV_R (C := T.c_NothingToUndo) (f := "many") fun aNothingToUndo dNothingToUndo H6 g6 nNothingToUndo eaNothingToUndo edNothingToUndo => ?_⟩
    replace G := G.trans g6
    replace eaParseError := g6 _ _ eaParseError
    replace edParseError := g6 _ _ edParseError
    replace eaUnknownName := g6 _ _ eaUnknownName
    replace edUnknownName := g6 _ _ edUnknownName
    replace eaRowThere := g6 _ _ eaRowThere
    replace edRowThere := g6 _ _ edRowThere
    replace eaRowAbsent := g6 _ _ eaRowAbsent
    replace edRowAbsent := g6 _ _ edRowAbsent
    replace eaInvalidNumber := g6 _ _ eaInvalidNumber
    replace edInvalidNumber := g6 _ _ edInvalidNumber
    conv => whnf
    refine ⟨_, _, rfl, ?_⟩
    conv => whnf
    refine ⟨by simp, mkV_R (C := T.c_TooMany) (f := "limit") fun aTooMany dTooMany H7 g7 nTooMany eaTooMany edTooMany => ?_⟩
    replace G := G.trans g7
    replace eaParseError := g7 _ _ eaParseError
    replace edParseError := g7 _ _ edParseError
    replace eaUnknownName := g7 _ _ eaUnknownName
    replace edUnknownName := g7 _ _ edUnknownName
    replace eaRowThere := g7 _ _ eaRowThere
    replace edRowThere := g7 _ _ edRowThere
    replace eaRowAbsent := g7 _ _ eaRowAbsent
    replace edRowAbsent := g7 _ _ edRowAbsent
    replace eaInvalidNumber := g7 _ _ eaInvalidNumber
    replace edInvalidNumber := g7 _ _ edInvalidNumber
    replace eaNothingToUndo := g7 _ _ eaNothingToUndo
    replace edNothingToUndo := g7 _ _ edNothingToUndo
    conv => whnf
    refine ⟨by simp, mkV_R (C := T.c_Refused) (f := "pledge") fun aRefused dRefused H8 g8 nRefused eaRefused edRefused => ?_⟩
    replace G := G.trans g8
    replace eaParseError := g8 _ _ eaParseError
    replace edParseError := g8 _ _ edParseError
    replace eaUnknownName := g8 _ _ eaUnknownName
    replace edUnknownName := g8 _ _ edUnknownName
    replace eaRowThere := g8 _ _ eaRowThere
    replace edRowThere := g8 _ _ edRowThere
    replace eaRowAbsent := g8 _ _ eaRowAbsent
    replace edRowAbsent := g8 _ _ edRowAbsent
    replace eaInvalidNumber := g8 _ _ eaInvalidNumber
    replace edInvalidNumber := g8 _ _ edInvalidNumber
    replace eaNothingToUndo := g8 _ _ eaNothingToUndo
    replace edNothingToUndo := g8 _ _ edNothingToUndo
    replace eaTooMany := g8 _ _ eaTooMany
    replace edTooMany := g8 _ _ edTooMany
    conv => whnf
    refine ⟨_, _, rfl, ?_⟩
    conv => whnf
    refine ⟨aParseError, T.c_ParseError, false, false, false, false, false, false, false, false, true, false, false, false, false, false, false, false, true, true, false, false, false, false, false, false, rfl, .own eaParseError edParseError, T.XC_ParseError.is, T.ow_ParseError, T.kb_ParseError, ?_⟩
    conv => whnf
    refine ⟨aParseError, T.c_ParseError, dParseError, _, iv, rfl, eaParseError, edParseError, T.XC_ParseError.is, T.HF_ParseError, rfl, ?_⟩
    conv => whnf
    refine ⟨small_ok (by simp), fun tParseError ntParseError => ?_⟩
    have g9 := Gr.rfl'.up (o := .tup [.str (wholeT (ownT false false false false false false false false true false false false false false false false) true true false false false false false false), iv]) ntParseError
    have e9 := upd_same (H := H8) (a := tParseError) (o := .tup [.str (wholeT (ownT false false false false false false false false true false false false false false false false) true true false false false false false false), iv])
    generalize upd H8 tParseError (.tup [.str (wholeT (ownT false false false false false false false false true false false false false false false false) true true false false false false false false), iv]) = H9 at g9 e9 ⊢
    replace G := G.trans g9
    replace eaParseError := g9 _ _ eaParseError
    replace edParseError := g9 _ _ edParseError
    replace eaUnknownName := g9 _ _ eaUnknownName
    replace edUnknownName := g9 _ _ edUnknownName
    replace eaRowThere := g9 _ _ eaRowThere
    replace edRowThere := g9 _ _ edRowThere
    replace eaRowAbsent := g9 _ _ eaRowAbsent
    replace edRowAbsent := g9 _ _ edRowAbsent
    replace eaInvalidNumber := g9 _ _ eaInvalidNumber
    replace edInvalidNumber := g9 _ _ edInvalidNumber
    replace eaNothingToUndo := g9 _ _ eaNothingToUndo
    replace edNothingToUndo := g9 _ _ edNothingToUndo
    replace eaTooMany := g9 _ _ eaTooMany
    replace edTooMany := g9 _ _ edTooMany
    replace eaRefused := g9 _ _ eaRefused
    replace edRefused := g9 _ _ edRefused
    conv => whnf
    refine ⟨aUnknownName, T.c_UnknownName, false, false, false, false, false, false, false, false, false, true, false, false, false, false, false, false, false, false, true, false, true, false, false, false, rfl, .own eaUnknownName edUnknownName, T.XC_UnknownName.is, T.ow_UnknownName, T.kb_UnknownName, ?_⟩
    conv => whnf
    refine ⟨aUnknownName, T.c_UnknownName, dUnknownName, _, v, rfl, eaUnknownName, edUnknownName, T.XC_UnknownName.is, T.HF_UnknownName, rfl, ?_⟩
    conv => whnf
    refine ⟨small_ok (by simp), fun tUnknownName ntUnknownName => ?_⟩
    have g10 := Gr.rfl'.up (o := .tup [.str (wholeT (ownT false false false false false false false false false true false false false false false false) false false true false true false false false), v]) ntUnknownName
    have e10 := upd_same (H := H9) (a := tUnknownName) (o := .tup [.str (wholeT (ownT false false false false false false false false false true false false false false false false) false false true false true false false false), v])
    generalize upd H9 tUnknownName (.tup [.str (wholeT (ownT false false false false false false false false false true false false false false false false) false false true false true false false false), v]) = H10 at g10 e10 ⊢
    replace G := G.trans g10
    replace eaParseError := g10 _ _ eaParseError
    replace edParseError := g10 _ _ edParseError
    replace eaUnknownName := g10 _ _ eaUnknownName
    replace edUnknownName := g10 _ _ edUnknownName
    replace eaRowThere := g10 _ _ eaRowThere
    replace edRowThere := g10 _ _ edRowThere
    replace eaRowAbsent := g10 _ _ eaRowAbsent
    replace edRowAbsent := g10 _ _ edRowAbsent
    replace eaInvalidNumber := g10 _ _ eaInvalidNumber
    replace edInvalidNumber := g10 _ _ edInvalidNumber
    replace eaNothingToUndo := g10 _ _ eaNothingToUndo
    replace edNothingToUndo := g10 _ _ edNothingToUndo
    replace eaTooMany := g10 _ _ eaTooMany
    replace edTooMany := g10 _ _ edTooMany
    replace eaRefused := g10 _ _ eaRefused
    replace edRefused := g10 _ _ edRefused
    replace e9 := g10 _ _ e9
    conv => whnf
    refine ⟨small_ok (by simp), fun p0 np0 => ?_⟩
    have g11 := Gr.rfl'.up (o := .lst [.ref tParseError, .ref tUnknownName]) np0
    have e11 := upd_same (H := H10) (a := p0) (o := .lst [.ref tParseError, .ref tUnknownName])
    generalize upd H10 p0 (.lst [.ref tParseError, .ref tUnknownName]) = H11 at g11 e11 ⊢
    replace G := G.trans g11
    replace eaParseError := g11 _ _ eaParseError
    replace edParseError := g11 _ _ edParseError
    replace eaUnknownName := g11 _ _ eaUnknownName
    replace edUnknownName := g11 _ _ edUnknownName
    replace eaRowThere := g11 _ _ eaRowThere
    replace edRowThere := g11 _ _ edRowThere
    replace eaRowAbsent := g11 _ _ eaRowAbsent
    replace edRowAbsent := g11 _ _ edRowAbsent
    replace eaInvalidNumber := g11 _ _ eaInvalidNumber
    replace edInvalidNumber := g11 _ _ edInvalidNumber
    replace eaNothingToUndo := g11 _ _ eaNothingToUndo
    replace edNothingToUndo := g11 _ _ edNothingToUndo
    replace eaTooMany := g11 _ _ eaTooMany
    replace edTooMany := g11 _ _ edTooMany
    replace eaRefused := g11 _ _ eaRefused
    replace edRefused := g11 _ _ edRefused
    replace e9 := g11 _ _ e9
    replace e10 := g11 _ _ e10
    conv => whnf
    refine ⟨aRowThere, T.c_RowThere, false, false, false, false, false, false, false, false, false, false, true, false, false, false, false, false, false, false, false, false, true, false, false, false, rfl, .own eaRowThere edRowThere, T.XC_RowThere.is, T.ow_RowThere, T.kb_RowThere, ?_⟩
    conv => whnf
    refine ⟨aRowThere, T.c_RowThere, dRowThere, _, v, rfl, eaRowThere, edRowThere, T.XC_RowThere.is, T.HF_RowThere, rfl, ?_⟩
    conv => whnf
    refine ⟨small_ok (by simp), fun tRowThere ntRowThere => ?_⟩
    have g12 := Gr.rfl'.up (o := .tup [.str (wholeT (ownT false false false false false false false false false false true false false false false false) false false false false true false false false), v]) ntRowThere
    have e12 := upd_same (H := H11) (a := tRowThere) (o := .tup [.str (wholeT (ownT false false false false false false false false false false true false false false false false) false false false false true false false false), v])
    generalize upd H11 tRowThere (.tup [.str (wholeT (ownT false false false false false false false false false false true false false false false false) false false false false true false false false), v]) = H12 at g12 e12 ⊢
    replace G := G.trans g12
    replace eaParseError := g12 _ _ eaParseError
    replace edParseError := g12 _ _ edParseError
    replace eaUnknownName := g12 _ _ eaUnknownName
    replace edUnknownName := g12 _ _ edUnknownName
    replace eaRowThere := g12 _ _ eaRowThere
    replace edRowThere := g12 _ _ edRowThere
    replace eaRowAbsent := g12 _ _ eaRowAbsent
    replace edRowAbsent := g12 _ _ edRowAbsent
    replace eaInvalidNumber := g12 _ _ eaInvalidNumber
    replace edInvalidNumber := g12 _ _ edInvalidNumber
    replace eaNothingToUndo := g12 _ _ eaNothingToUndo
    replace edNothingToUndo := g12 _ _ edNothingToUndo
    replace eaTooMany := g12 _ _ eaTooMany
    replace edTooMany := g12 _ _ edTooMany
    replace eaRefused := g12 _ _ eaRefused
    replace edRefused := g12 _ _ edRefused
    replace e9 := g12 _ _ e9
    replace e10 := g12 _ _ e10
    replace e11 := g12 _ _ e11
    conv => whnf
    refine ⟨aRowAbsent, T.c_RowAbsent, false, false, false, false, false, false, false, false, false, false, false, true, false, false, false, false, false, false, false, false, true, false, false, false, rfl, .own eaRowAbsent edRowAbsent, T.XC_RowAbsent.is, T.ow_RowAbsent, T.kb_RowAbsent, ?_⟩
    conv => whnf
    refine ⟨aRowAbsent, T.c_RowAbsent, dRowAbsent, _, v, rfl, eaRowAbsent, edRowAbsent, T.XC_RowAbsent.is, T.HF_RowAbsent, rfl, ?_⟩
    conv => whnf
    refine ⟨small_ok (by simp), fun tRowAbsent ntRowAbsent => ?_⟩
    have g13 := Gr.rfl'.up (o := .tup [.str (wholeT (ownT false false false false false false false false false false false true false false false false) false false false false true false false false), v]) ntRowAbsent
    have e13 := upd_same (H := H12) (a := tRowAbsent) (o := .tup [.str (wholeT (ownT false false false false false false false false false false false true false false false false) false false false false true false false false), v])
    generalize upd H12 tRowAbsent (.tup [.str (wholeT (ownT false false false false false false false false false false false true false false false false) false false false false true false false false), v]) = H13 at g13 e13 ⊢
    replace G := G.trans g13
    replace eaParseError := g13 _ _ eaParseError
    replace edParseError := g13 _ _ edParseError
    replace eaUnknownName := g13 _ _ eaUnknownName
    replace edUnknownName := g13 _ _ edUnknownName
    replace eaRowThere := g13 _ _ eaRowThere
    replace edRowThere := g13 _ _ edRowThere
    replace eaRowAbsent := g13 _ _ eaRowAbsent
    replace edRowAbsent := g13 _ _ edRowAbsent
    replace eaInvalidNumber := g13 _ _ eaInvalidNumber
    replace edInvalidNumber := g13 _ _ edInvalidNumber
    replace eaNothingToUndo := g13 _ _ eaNothingToUndo
    replace edNothingToUndo := g13 _ _ edNothingToUndo
    replace eaTooMany := g13 _ _ eaTooMany
    replace edTooMany := g13 _ _ edTooMany
    replace eaRefused := g13 _ _ eaRefused
    replace edRefused := g13 _ _ edRefused
    replace e9 := g13 _ _ e9
    replace e10 := g13 _ _ e10
    replace e11 := g13 _ _ e11
    replace e12 := g13 _ _ e12
    conv => whnf
    refine ⟨small_ok (by simp), fun p1 np1 => ?_⟩
    have g14 := Gr.rfl'.up (o := .lst [.ref tRowThere, .ref tRowAbsent]) np1
    have e14 := upd_same (H := H13) (a := p1) (o := .lst [.ref tRowThere, .ref tRowAbsent])
    generalize upd H13 p1 (.lst [.ref tRowThere, .ref tRowAbsent]) = H14 at g14 e14 ⊢
    replace G := G.trans g14
    replace eaParseError := g14 _ _ eaParseError
    replace edParseError := g14 _ _ edParseError
    replace eaUnknownName := g14 _ _ eaUnknownName
    replace edUnknownName := g14 _ _ edUnknownName
    replace eaRowThere := g14 _ _ eaRowThere
    replace edRowThere := g14 _ _ edRowThere
    replace eaRowAbsent := g14 _ _ eaRowAbsent
    replace edRowAbsent := g14 _ _ edRowAbsent
    replace eaInvalidNumber := g14 _ _ eaInvalidNumber
    replace edInvalidNumber := g14 _ _ edInvalidNumber
    replace eaNothingToUndo := g14 _ _ eaNothingToUndo
    replace edNothingToUndo := g14 _ _ edNothingToUndo
    replace eaTooMany := g14 _ _ eaTooMany
    replace edTooMany := g14 _ _ edTooMany
    replace eaRefused := g14 _ _ eaRefused
    replace edRefused := g14 _ _ edRefused
    replace e9 := g14 _ _ e9
    replace e10 := g14 _ _ e10
    replace e11 := g14 _ _ e11
    replace e12 := g14 _ _ e12
    replace e13 := g14 _ _ e13
    conv => whnf
    refine .inl ⟨_, _, _, _, rfl, rfl, e11, e14, by simp [sizeLine_eq], fun q1 nq1 => ?_⟩
    simp only [List.cons_append, List.nil_append]
    have g15 := Gr.rfl'.up (o := .lst [.ref tParseError, .ref tUnknownName, .ref tRowThere, .ref tRowAbsent]) nq1
    have e15 := upd_same (H := H14) (a := q1) (o := .lst [.ref tParseError, .ref tUnknownName, .ref tRowThere, .ref tRowAbsent])
    generalize upd H14 q1 (.lst [.ref tParseError, .ref tUnknownName, .ref tRowThere, .ref tRowAbsent]) = H15 at g15 e15 ⊢
    replace G := G.trans g15
    replace eaParseError := g15 _ _ eaParseError
    replace edParseError := g15 _ _ edParseError
    replace eaUnknownName := g15 _ _ eaUnknownName
    replace edUnknownName := g15 _ _ edUnknownName
    replace eaRowThere := g15 _ _ eaRowThere
    replace edRowThere := g15 _ _ edRowThere
    replace eaRowAbsent := g15 _ _ eaRowAbsent
    replace edRowAbsent := g15 _ _ edRowAbsent
    replace eaInvalidNumber := g15 _ _ eaInvalidNumber
    replace edInvalidNumber := g15 _ _ edInvalidNumber
    replace eaNothingToUndo := g15 _ _ eaNothingToUndo
    replace edNothingToUndo := g15 _ _ edNothingToUndo
    replace eaTooMany := g15 _ _ eaTooMany
    replace edTooMany := g15 _ _ edTooMany
    replace eaRefused := g15 _ _ eaRefused
    replace edRefused := g15 _ _ edRefused
    replace e9 := g15 _ _ e9
    replace e10 := g15 _ _ e10
    replace e11 := g15 _ _ e11
    replace e12 := g15 _ _ e12
    replace e13 := g15 _ _ e13
    conv => whnf
    refine ⟨aInvalidNumber, T.c_InvalidNumber, false, false, false, false, false, false, false, false, false, false, false, false, true, false, false, false, false, false, false, true, true, false, false, false, rfl, .own eaInvalidNumber edInvalidNumber, T.XC_InvalidNumber.is, T.ow_InvalidNumber, T.kb_InvalidNumber, ?_⟩
    conv => whnf
    refine ⟨aInvalidNumber, T.c_InvalidNumber, dInvalidNumber, _, v, rfl, eaInvalidNumber, edInvalidNumber, T.XC_InvalidNumber.is, T.HF_InvalidNumber, rfl, ?_⟩
    conv => whnf
    refine ⟨small_ok (by simp), fun tInvalidNumber ntInvalidNumber => ?_⟩
    have g16 := Gr.rfl'.up (o := .tup [.str (wholeT (ownT false false false false false false false false false false false false true false false false) false false false true true false false false), v]) ntInvalidNumber
    have e16 := upd_same (H := H15) (a := tInvalidNumber) (o := .tup [.str (wholeT (ownT false false false false false false false false false false false false true false false false) false false false true true false false false), v])
    generalize upd H15 tInvalidNumber (.tup [.str (wholeT (ownT false false false false false false false false false false false false true false false false) false false false true true false false false), v]) = H16 at g16 e16 ⊢
    replace G := G.trans g16
    replace eaParseError := g16 _ _ eaParseError
    replace edParseError := g16 _ _ edParseError
    replace eaUnknownName := g16 _ _ eaUnknownName
    replace edUnknownName := g16 _ _ edUnknownName
    replace eaRowThere := g16 _ _ eaRowThere
    replace edRowThere := g16 _ _ edRowThere
    replace eaRowAbsent := g16 _ _ eaRowAbsent
    replace edRowAbsent := g16 _ _ edRowAbsent
    replace eaInvalidNumber := g16 _ _ eaInvalidNumber
    replace edInvalidNumber := g16 _ _ edInvalidNumber
    replace eaNothingToUndo := g16 _ _ eaNothingToUndo
    replace edNothingToUndo := g16 _ _ edNothingToUndo
    replace eaTooMany := g16 _ _ eaTooMany
    replace edTooMany := g16 _ _ edTooMany
    replace eaRefused := g16 _ _ eaRefused
    replace edRefused := g16 _ _ edRefused
    replace e9 := g16 _ _ e9
    replace e10 := g16 _ _ e10
    replace e11 := g16 _ _ e11
    replace e12 := g16 _ _ e12
    replace e13 := g16 _ _ e13
    replace e15 := g16 _ _ e15
    conv => whnf
    refine ⟨aNothingToUndo, T.c_NothingToUndo, false, false, false, false, false, false, false, false, false, false, false, false, false, true, false, false, false, false, false, false, false, true, false, false, rfl, .own eaNothingToUndo edNothingToUndo, T.XC_NothingToUndo.is, T.ow_NothingToUndo, T.kb_NothingToUndo, ?_⟩
    conv => whnf
    refine ⟨aNothingToUndo, T.c_NothingToUndo, dNothingToUndo, _, v, rfl, eaNothingToUndo, edNothingToUndo, T.XC_NothingToUndo.is, T.HF_NothingToUndo, rfl, ?_⟩
    conv => whnf
    refine ⟨small_ok (by simp), fun tNothingToUndo ntNothingToUndo => ?_⟩
    have g17 := Gr.rfl'.up (o := .tup [.str (wholeT (ownT false false false false false false false false false false false false false true false false) false false false false false true false false), v]) ntNothingToUndo
    have e17 := upd_same (H := H16) (a := tNothingToUndo) (o := .tup [.str (wholeT (ownT false false false false false false false false false false false false false true false false) false false false false false true false false), v])
    generalize upd H16 tNothingToUndo (.tup [.str (wholeT (ownT false false false false false false false false false false false false false true false false) false false false false false true false false), v]) = H17 at g17 e17 ⊢
    replace G := G.trans g17
    replace eaParseError := g17 _ _ eaParseError
    replace edParseError := g17 _ _ edParseError
    replace eaUnknownName := g17 _ _ eaUnknownName
    replace edUnknownName := g17 _ _ edUnknownName
    replace eaRowThere := g17 _ _ eaRowThere
    replace edRowThere := g17 _ _ edRowThere
    replace eaRowAbsent := g17 _ _ eaRowAbsent
    replace edRowAbsent := g17 _ _ edRowAbsent
    replace eaInvalidNumber := g17 _ _ eaInvalidNumber
    replace edInvalidNumber := g17 _ _ edInvalidNumber
    replace eaNothingToUndo := g17 _ _ eaNothingToUndo
    replace edNothingToUndo := g17 _ _ edNothingToUndo
    replace eaTooMany := g17 _ _ eaTooMany
    replace edTooMany := g17 _ _ edTooMany
    replace eaRefused := g17 _ _ eaRefused
    replace edRefused := g17 _ _ edRefused
    replace e9 := g17 _ _ e9
    replace e10 := g17 _ _ e10
    replace e11 := g17 _ _ e11
    replace e12 := g17 _ _ e12
    replace e13 := g17 _ _ e13
    replace e15 := g17 _ _ e15
    replace e16 := g17 _ _ e16
    conv => whnf
    refine ⟨small_ok (by simp), fun p2 np2 => ?_⟩
    have g18 := Gr.rfl'.up (o := .lst [.ref tInvalidNumber, .ref tNothingToUndo]) np2
    have e18 := upd_same (H := H17) (a := p2) (o := .lst [.ref tInvalidNumber, .ref tNothingToUndo])
    generalize upd H17 p2 (.lst [.ref tInvalidNumber, .ref tNothingToUndo]) = H18 at g18 e18 ⊢
    replace G := G.trans g18
    replace eaParseError := g18 _ _ eaParseError
    replace edParseError := g18 _ _ edParseError
    replace eaUnknownName := g18 _ _ eaUnknownName
    replace edUnknownName := g18 _ _ edUnknownName
    replace eaRowThere := g18 _ _ eaRowThere
    replace edRowThere := g18 _ _ edRowThere
    replace eaRowAbsent := g18 _ _ eaRowAbsent
    replace edRowAbsent := g18 _ _ edRowAbsent
    replace eaInvalidNumber := g18 _ _ eaInvalidNumber
    replace edInvalidNumber := g18 _ _ edInvalidNumber
    replace eaNothingToUndo := g18 _ _ eaNothingToUndo
    replace edNothingToUndo := g18 _ _ edNothingToUndo
    replace eaTooMany := g18 _ _ eaTooMany
    replace edTooMany := g18 _ _ edTooMany
    replace eaRefused := g18 _ _ eaRefused
    replace edRefused := g18 _ _ edRefused
    replace e9 := g18 _ _ e9
    replace e10 := g18 _ _ e10
    replace e11 := g18 _ _ e11
    replace e12 := g18 _ _ e12
    replace e13 := g18 _ _ e13
    replace e15 := g18 _ _ e15
    replace e16 := g18 _ _ e16
    replace e17 := g18 _ _ e17
    conv => whnf
    refine .inl ⟨_, _, _, _, rfl, rfl, e15, e18, by simp [sizeLine_eq], fun q2 nq2 => ?_⟩
    simp only [List.cons_append, List.nil_append]
    have g19 := Gr.rfl'.up (o := .lst [.ref tParseError, .ref tUnknownName, .ref tRowThere, .ref tRowAbsent, .ref tInvalidNumber, .ref tNothingToUndo]) nq2
    have e19 := upd_same (H := H18) (a := q2) (o := .lst [.ref tParseError, .ref tUnknownName, .ref tRowThere, .ref tRowAbsent, .ref tInvalidNumber, .ref tNothingToUndo])
    generalize upd H18 q2 (.lst [.ref tParseError, .ref tUnknownName, .ref tRowThere, .ref tRowAbsent, .ref tInvalidNumber, .ref tNothingToUndo]) = H19 at g19 e19 ⊢
    replace G := G.trans g19
    replace eaParseError := g19 _ _ eaParseError
    replace edParseError := g19 _ _ edParseError
    replace eaUnknownName := g19 _ _ eaUnknownName
    replace edUnknownName := g19 _ _ edUnknownName
    replace eaRowThere := g19 _ _ eaRowThere
    replace edRowThere := g19 _ _ edRowThere
    replace eaRowAbsent := g19 _ _ eaRowAbsent
    replace edRowAbsent := g19 _ _ edRowAbsent
    replace eaInvalidNumber := g19 _ _ eaInvalidNumber
    replace edInvalidNumber := g19 _ _ edInvalidNumber
    replace eaNothingToUndo := g19 _ _ eaNothingToUndo
    replace edNothingToUndo := g19 _ _ edNothingToUndo
    replace eaTooMany := g19 _ _ eaTooMany
    replace edTooMany := g19 _ _ edTooMany
    replace eaRefused := g19 _ _ eaRefused
    replace edRefused := g19 _ _ edRefused
    replace e9 := g19 _ _ e9
    replace e10 := g19 _ _ e10
    replace e11 := g19 _ _ e11
    replace e12 := g19 _ _ e12
    replace e13 := g19 _ _ e13
    replace e15 := g19 _ _ e15
    replace e16 := g19 _ _ e16
    replace e17 := g19 _ _ e17
    conv => whnf
    refine ⟨aTooMany, T.c_TooMany, false, false, false, false, false, false, false, false, false, false, false, false, false, false, true, false, false, false, false, false, false, false, true, true, rfl, .own eaTooMany edTooMany, T.XC_TooMany.is, T.ow_TooMany, T.kb_TooMany, ?_⟩
    conv => whnf
    refine ⟨aTooMany, T.c_TooMany, dTooMany, _, v, rfl, eaTooMany, edTooMany, T.XC_TooMany.is, T.HF_TooMany, rfl, ?_⟩
    conv => whnf
    refine ⟨small_ok (by simp), fun tTooMany ntTooMany => ?_⟩
    have g20 := Gr.rfl'.up (o := .tup [.str (wholeT (ownT false false false false false false false false false false false false false false true false) false false false false false false true true), v]) ntTooMany
    have e20 := upd_same (H := H19) (a := tTooMany) (o := .tup [.str (wholeT (ownT false false false false false false false false false false false false false false true false) false false false false false false true true), v])
    generalize upd H19 tTooMany (.tup [.str (wholeT (ownT false false false false false false false false false false false false false false true false) false false false false false false true true), v]) = H20 at g20 e20 ⊢
    replace G := G.trans g20
    replace eaParseError := g20 _ _ eaParseError
    replace edParseError := g20 _ _ edParseError
    replace eaUnknownName := g20 _ _ eaUnknownName
    replace edUnknownName := g20 _ _ edUnknownName
    replace eaRowThere := g20 _ _ eaRowThere
    replace edRowThere := g20 _ _ edRowThere
    replace eaRowAbsent := g20 _ _ eaRowAbsent
    replace edRowAbsent := g20 _ _ edRowAbsent
    replace eaInvalidNumber := g20 _ _ eaInvalidNumber
    replace edInvalidNumber := g20 _ _ edInvalidNumber
    replace eaNothingToUndo := g20 _ _ eaNothingToUndo
    replace edNothingToUndo := g20 _ _ edNothingToUndo
    replace eaTooMany := g20 _ _ eaTooMany
    replace edTooMany := g20 _ _ edTooMany
    replace eaRefused := g20 _ _ eaRefused
    replace edRefused := g20 _ _ edRefused
    replace e9 := g20 _ _ e9
    replace e10 := g20 _ _ e10
    replace e11 := g20 _ _ e11
    replace e12 := g20 _ _ e12
    replace e13 := g20 _ _ e13
    replace e15 := g20 _ _ e15
    replace e16 := g20 _ _ e16
    replace e17 := g20 _ _ e17
    replace e19 := g20 _ _ e19
    conv => whnf
    refine ⟨aRefused, T.c_Refused, false, false, false, false, false, false, false, false, false, false, false, false, false, false, false, true, false, false, false, false, false, false, false, true, rfl, .own eaRefused edRefused, T.XC_Refused.is, T.ow_Refused, T.kb_Refused, ?_⟩
    conv => whnf
    refine ⟨aRefused, T.c_Refused, dRefused, _, v, rfl, eaRefused, edRefused, T.XC_Refused.is, T.HF_Refused, rfl, ?_⟩
    conv => whnf
    refine ⟨small_ok (by simp), fun tRefused ntRefused => ?_⟩
    have g21 := Gr.rfl'.up (o := .tup [.str (wholeT (ownT false false false false false false false false false false false false false false false true) false false false false false false false true), v]) ntRefused
    have e21 := upd_same (H := H20) (a := tRefused) (o := .tup [.str (wholeT (ownT false false false false false false false false false false false false false false false true) false false false false false false false true), v])
    generalize upd H20 tRefused (.tup [.str (wholeT (ownT false false false false false false false false false false false false false false false true) false false false false false false false true), v]) = H21 at g21 e21 ⊢
    replace G := G.trans g21
    replace eaParseError := g21 _ _ eaParseError
    replace edParseError := g21 _ _ edParseError
    replace eaUnknownName := g21 _ _ eaUnknownName
    replace edUnknownName := g21 _ _ edUnknownName
    replace eaRowThere := g21 _ _ eaRowThere
    replace edRowThere := g21 _ _ edRowThere
    replace eaRowAbsent := g21 _ _ eaRowAbsent
    replace edRowAbsent := g21 _ _ edRowAbsent
    replace eaInvalidNumber := g21 _ _ eaInvalidNumber
    replace edInvalidNumber := g21 _ _ edInvalidNumber
    replace eaNothingToUndo := g21 _ _ eaNothingToUndo
    replace edNothingToUndo := g21 _ _ edNothingToUndo
    replace eaTooMany := g21 _ _ eaTooMany
    replace edTooMany := g21 _ _ edTooMany
    replace eaRefused := g21 _ _ eaRefused
    replace edRefused := g21 _ _ edRefused
    replace e9 := g21 _ _ e9
    replace e10 := g21 _ _ e10
    replace e11 := g21 _ _ e11
    replace e12 := g21 _ _ e12
    replace e13 := g21 _ _ e13
    replace e15 := g21 _ _ e15
    replace e16 := g21 _ _ e16
    replace e17 := g21 _ _ e17
    replace e19 := g21 _ _ e19
    replace e20 := g21 _ _ e20
    conv => whnf
    refine ⟨small_ok (by simp), fun p3 np3 => ?_⟩
    have g22 := Gr.rfl'.up (o := .lst [.ref tTooMany, .ref tRefused]) np3
    have e22 := upd_same (H := H21) (a := p3) (o := .lst [.ref tTooMany, .ref tRefused])
    generalize upd H21 p3 (.lst [.ref tTooMany, .ref tRefused]) = H22 at g22 e22 ⊢
    replace G := G.trans g22
    replace eaParseError := g22 _ _ eaParseError
    replace edParseError := g22 _ _ edParseError
    replace eaUnknownName := g22 _ _ eaUnknownName
    replace edUnknownName := g22 _ _ edUnknownName
    replace eaRowThere := g22 _ _ eaRowThere
    replace edRowThere := g22 _ _ edRowThere
    replace eaRowAbsent := g22 _ _ eaRowAbsent
    replace edRowAbsent := g22 _ _ edRowAbsent
    replace eaInvalidNumber := g22 _ _ eaInvalidNumber
    replace edInvalidNumber := g22 _ _ edInvalidNumber
    replace eaNothingToUndo := g22 _ _ eaNothingToUndo
    replace edNothingToUndo := g22 _ _ edNothingToUndo
    replace eaTooMany := g22 _ _ eaTooMany
    replace edTooMany := g22 _ _ edTooMany
    replace eaRefused := g22 _ _ eaRefused
    replace edRefused := g22 _ _ edRefused
    replace e9 := g22 _ _ e9
    replace e10 := g22 _ _ e10
    replace e11 := g22 _ _ e11
    replace e12 := g22 _ _ e12
    replace e13 := g22 _ _ e13
    replace e15 := g22 _ _ e15
    replace e16 := g22 _ _ e16
    replace e17 := g22 _ _ e17
    replace e19 := g22 _ _ e19
    replace e20 := g22 _ _ e20
    replace e21 := g22 _ _ e21
    conv => whnf
    refine .inl ⟨_, _, _, _, rfl, rfl, e19, e22, by simp [sizeLine_eq], fun q3 nq3 => ?_⟩
    have free := Gr.free' G nq3
    simp only [List.cons_append, List.nil_append]
    have g23 := Gr.rfl'.up (o := .lst [.ref tParseError, .ref tUnknownName, .ref tRowThere, .ref tRowAbsent, .ref tInvalidNumber, .ref tNothingToUndo, .ref tTooMany, .ref tRefused]) nq3
    have e23 := upd_same (H := H22) (a := q3) (o := .lst [.ref tParseError, .ref tUnknownName, .ref tRowThere, .ref tRowAbsent, .ref tInvalidNumber, .ref tNothingToUndo, .ref tTooMany, .ref tRefused])
    generalize upd H22 q3 (.lst [.ref tParseError, .ref tUnknownName, .ref tRowThere, .ref tRowAbsent, .ref tInvalidNumber, .ref tNothingToUndo, .ref tTooMany, .ref tRefused]) = H23 at g23 e23 ⊢
    replace G := G.trans g23
    replace eaParseError := g23 _ _ eaParseError
    replace edParseError := g23 _ _ edParseError
    replace eaUnknownName := g23 _ _ eaUnknownName
    replace edUnknownName := g23 _ _ edUnknownName
    replace eaRowThere := g23 _ _ eaRowThere
    replace edRowThere := g23 _ _ edRowThere
    replace eaRowAbsent := g23 _ _ eaRowAbsent
    replace edRowAbsent := g23 _ _ edRowAbsent
    replace eaInvalidNumber := g23 _ _ eaInvalidNumber
    replace edInvalidNumber := g23 _ _ edInvalidNumber
    replace eaNothingToUndo := g23 _ _ eaNothingToUndo
    replace edNothingToUndo := g23 _ _ edNothingToUndo
    replace eaTooMany := g23 _ _ eaTooMany
    replace edTooMany := g23 _ _ edTooMany
    replace eaRefused := g23 _ _ eaRefused
    replace edRefused := g23 _ _ edRefused
    replace e9 := g23 _ _ e9
    replace e10 := g23 _ _ e10
    replace e11 := g23 _ _ e11
    replace e12 := g23 _ _ e12
    replace e13 := g23 _ _ e13
    replace e15 := g23 _ _ e15
    replace e16 := g23 _ _ e16
    replace e17 := g23 _ _ e17
    replace e19 := g23 _ _ e19
    replace e20 := g23 _ _ e20
    replace e21 := g23 _ _ e21
    exact k _ _ _ G free e23 ((.cons e9 (.cons e10 (.cons e12 (.cons e13 (.cons e16 (.cons e17 (.cons e20 (.cons e21 .nil)))))))))
def caughtT (w : Nat) (x : Str) : Str := match w with | 0 => Str.ofString "base " ++ ownT false false false false false false true false false false false false false false false false | 1 => Str.ofString "absent " ++ x | 2 => Str.ofString "there " ++ x | _ => Str.ofString "parse " ++ Str.ofString "None"
def sp__law_caught (K : PySem.W.Frag) : Sp := fun vs H Q _ => ∃ (w : Nat) (v : V) (d : PyData), vs = [.int w, v] ∧ w < 4 ∧ Odd K H v d ∧ ∀ H', Gr H H' → Q (.str (caughtT w d.shown)) H'
theorem ok__law_caught (T : Txt K mg) : FnG P w K mg base CX0 3 T.a__law_caught T.d__law_caught ["_law_way", "_law_value"] (sp__law_caught K) := by
  refine okG T.F__law_caught sc__law_caught (fun vs H Q E h => ?_) (fun cdv A outer s H vs Q E hg hr h => ?_)
  · obtain ⟨w, v, d, rfl, _⟩ := h; rfl
  · obtain ⟨w, v, d, rfl, hw, ho, k⟩ := h
    refine ⟨_, PSs.nox (pss_one (ps_try_named (i := 2) rfl rfl sc__law_caught.nd rfl (by rfl) (takes_none5 (X := _)) (fun W pn xe tk _ => (pss_cons (psIf (pt_cmpR (opEqK (K := K) rfl (have z := hu64 hr; z)) (pev 0) pe_int (nomark _)) (pss_one (ps_raise rfl tk (pmk_own PySem.F.excBase_ValueError T.x_InvalidWeights T.g_InvalidWeights T.k_InvalidWeights (raises_own T.b_InvalidWeights T.t_InvalidWeights) (by exact rfl)))) pss_nil) (pss_cons (psIf (pt_cmpR (opEqK (K := K) rfl (have z := hu64 hr; z)) (pev 0) pe_int (nomark _)) (pss_one (ps_raise rfl tk (pmk_x xb_look T.XC_RowAbsent T.IC_RowAbsent T.IT_RowAbsent (ok_RowAbsent___init__ T) (hr.mono (by decide)) T.B_RowAbsent___init__ pass0 (by rfl) T.g_RowAbsent (pa_cons (pev 1) pa_nil)))) pss_nil) (pss_cons (psIf (pt_cmpR (opEqK (K := K) rfl (have z := hu64 hr; z)) (pev 0) pe_int (nomark _)) (pss_one (ps_raise rfl tk (pmk_x xb_look T.XC_RowThere T.IC_RowThere T.IT_RowThere (ok_RowThere___init__ T) (hr.mono (by decide)) T.B_RowThere___init__ pass0 (by rfl) T.g_RowThere (pa_cons (pev 1) pa_nil)))) pss_nil) (pss_one (ps_raise rfl tk (pmk_x xb_val T.XC_ParseError T.IC_ParseError T.IT_ParseError (ok_ParseError___init__ T) (hr.mono (by decide)) T.B_ParseError___init__ pass0 (by rfl) T.g_ParseError (pa_cons pe_non pa_nil)))))))) (.cons ⟨rfl, by decide, .inl T.g_ParseError⟩ (fun a oe cls d pn hz hf => (pss_one (ps_ret (pe_op (opAddK (K := K) rfl) pe_str (pe_callB (caReprOK (K := K) rfl hg (have z := hu70 hr; z)) (by rfl) T.b_repr (by decide +kernel) (pa_cons (pe_xf ⟨T.XC_ParseError.is.hg, T.XC_ParseError.is.hk, T.XC_ParseError.is.hs, T.XC_ParseError.is.hd⟩ T.HF_ParseError hz hf (pev 2)) pa_nil)))))) (.cons ⟨rfl, by decide, .inl T.g_TouchError⟩ (fun a oe cls d pn hz hf => (pss_one (ps_ret (pe_op (opAddK (K := K) rfl) pe_str (pe_callE (p := (a, oe)) (spz := fun vs H Q => ∀ oe, Zc cls d oe → (∃ vs, oe.data = .fields vs) → sp__law_own K T.c_InvalidRatio T.c_InvalidQuestion T.c_InvalidRow T.c_InvalidStore T.c_InvalidView T.c_InvalidPlan T.c_InvalidWeights T.c_InvalidOperation T.c_ParseError T.c_UnknownName T.c_RowThere T.c_RowAbsent T.c_InvalidNumber T.c_NothingToUndo T.c_TooMany T.c_Refused [(a, oe)] vs H Q E0) (okE__law_own T) (fun vs H Q h => h oe hz hf) (L2H.RoomH.mono (roomMark hr) (by decide)) (.head _) T.B__law_own T.g__law_own T.F__law_own.kp (by rfl) (pa_cons (pev 2) pa_nil)))))) (.cons ⟨rfl, by decide, .inl T.g_RowThere⟩ (fun a oe cls d pn hz hf => (pss_one (ps_ret (pe_op (opAddK (K := K) rfl) pe_str (pe_callB (caReprOK (K := K) rfl hg (have z := hu70 hr; z)) (by rfl) T.b_repr (by decide +kernel) (pa_cons (pe_xf ⟨T.XC_RowThere.is.hg, T.XC_RowThere.is.hk, T.XC_RowThere.is.hs, T.XC_RowThere.is.hd⟩ T.HF_RowThere hz hf (pev 2)) pa_nil)))))) (.cons ⟨rfl, by decide, .inl T.g_RowAbsent⟩ (fun a oe cls d pn hz hf => (pss_one (ps_ret (pe_op (opAddK (K := K) rfl) pe_str (pe_callB (caReprOK (K := K) rfl hg (have z := hu70 hr; z)) (by rfl) T.b_repr (by decide +kernel) (pa_cons (pe_xf ⟨T.XC_RowAbsent.is.hg, T.XC_RowAbsent.is.hk, T.XC_RowAbsent.is.hs, T.XC_RowAbsent.is.hd⟩ T.HF_RowAbsent hz hf (pev 2)) pa_nil)))))) .nil)))))), ?_⟩
    have cases4 : w = 0 ∨ w = 1 ∨ w = 2 ∨ w = 3 := by omega
    rcases cases4 with rfl | rfl | rfl | rfl
    · conv => whnf
      refine ⟨_, rfl, ?_⟩
      refine brT ?_
      conv => whnf
      refine wn_no T.e_InvalidWeights_ParseError (wn_yes T.e_InvalidWeights_TouchError fun a na => ?_)
      conv => whnf
      intro oe hz hf
      refine ⟨a, T.c_InvalidWeights, false, false, false, false, false, false, true, false, false, false, false, false, false, false, false, false, rfl, .pin (.head _) hz hf, T.is_InvalidWeights, T.ow_InvalidWeights, ?_⟩
      conv => whnf
      refine ⟨by rw [show (ownT false false false false false false true false false false false false false false false false).length = 1 by decide +kernel]; decide, ?_⟩
      exact k H Gr.rfl'
    · conv => whnf
      refine ⟨_, rfl, ?_⟩
      refine brF ?_
      conv => whnf
      refine ⟨_, rfl, ?_⟩
      refine brT ?_
      conv => whnf
      refine ⟨by simp, mkX_R (C := T.c_RowAbsent) (f := "missed") fun a d H2 g nd => ?_⟩
      have e := upd_same (H := del H2 a) (a := d) (o := .xd [("missed", v)])
      generalize upd (del H2 a) d (.xd [("missed", v)]) = H3 at g e ⊢
      refine wn_no T.e_RowAbsent_ParseError (wn_no T.e_RowAbsent_TouchError (wn_no T.e_RowAbsent_RowThere (wn_yes T.e_RowAbsent_RowAbsent fun b nb => ?_)))
      conv => whnf
      refine ⟨rfl, rfl, d, _, v, rfl, e, rfl, ?_⟩
      conv => whnf
      refine ⟨v, _, rfl, ho.up g, ?_⟩
      have hl := ho.len
      conv => whnf
      refine ⟨by rw [show (Str.ofString "absent ").length = 7 by decide +kernel]; have : sizeLine = 16777216 := sizeLine_eq; omega, ?_⟩
      exact k H3 g
    · conv => whnf
      refine ⟨_, rfl, ?_⟩
      refine brF ?_
      conv => whnf
      refine ⟨_, rfl, ?_⟩
      refine brF ?_
      conv => whnf
      refine ⟨_, rfl, ?_⟩
      refine brT ?_
      conv => whnf
      refine ⟨by simp, mkX_R (C := T.c_RowThere) (f := "placed") fun a d H2 g nd => ?_⟩
      have e := upd_same (H := del H2 a) (a := d) (o := .xd [("placed", v)])
      generalize upd (del H2 a) d (.xd [("placed", v)]) = H3 at g e ⊢
      refine wn_no T.e_RowThere_ParseError (wn_no T.e_RowThere_TouchError (wn_yes T.e_RowThere_RowThere fun b nb => ?_))
      conv => whnf
      refine ⟨rfl, rfl, d, _, v, rfl, e, rfl, ?_⟩
      conv => whnf
      refine ⟨v, _, rfl, ho.up g, ?_⟩
      have hl := ho.len
      conv => whnf
      refine ⟨by rw [show (Str.ofString "there ").length = 6 by decide +kernel]; have : sizeLine = 16777216 := sizeLine_eq; omega, ?_⟩
      exact k H3 g
    · conv => whnf
      refine ⟨_, rfl, ?_⟩
      refine brF ?_
      conv => whnf
      refine ⟨_, rfl, ?_⟩
      refine brF ?_
      conv => whnf
      refine ⟨_, rfl, ?_⟩
      refine brF ?_
      conv => whnf
      refine ⟨by simp, mkX_R (C := T.c_ParseError) (f := "number") fun a d H2 g nd => ?_⟩
      have e := upd_same (H := del H2 a) (a := d) (o := .xd [("number", V.non)])
      generalize upd (del H2 a) d (.xd [("number", V.non)]) = H3 at g e ⊢
      refine wn_yes T.e_ParseError_ParseError fun b nb => ?_
      conv => whnf
      refine ⟨rfl, rfl, d, _, V.non, rfl, e, rfl, ?_⟩
      conv => whnf
      refine ⟨V.non, .none, rfl, .dp .non rfl (by decide +kernel) (by decide +kernel), ?_⟩
      conv => whnf
      rw [PyData.shown_none]
      refine ⟨by decide +kernel, ?_⟩
      exact k H3 g
theorem eqv_strs : ∀ xs : List Str, PyData.eqv (.list (xs.map PyData.str)) (.list (xs.map PyData.str)) = true := by
  intro xs
  simp only [PyData.eqv]
  induction xs with
  | nil => simp [PyData.eqvAll]
  | cons x xs ih => simp [PyData.eqvAll, PyData.eqv, ih]
theorem dpAll_strs {K : PySem.W.Frag} {H : Hp} : ∀ xs : List Str, DpAll K H (xs.map V.str) (xs.map PyData.str)
  | [] => .nil
  | x :: xs => .cons (.str x) (dpAll_strs xs)
theorem shaped_strs : ∀ xs : List Str, (∀ x ∈ xs, PyData.strOk x = true) → SeqAt.shaped (.list (xs.map PyData.str)) = true := by
  intro xs hx
  have h : PyData.canLayAll0 (xs.map PyData.str) = true ∧ PyData.depthAll (xs.map PyData.str) = 0 := by
    induction xs with
    | nil => exact ⟨by simp [PyData.canLayAll0], by simp [PyData.depthAll]⟩
    | cons x xs ih =>
      have := ih fun y hy => hx y (List.mem_cons_of_mem _ hy)
      exact ⟨by simp [PyData.canLayAll0, PyData.canLay0, this.1, hx x (List.mem_cons_self ..)], by simp [PyData.depthAll, PyData.depth, this.2]⟩
  simp [SeqAt.shaped, PyData.canLay0, h.1, PyData.depth, h.2]
theorem strOk_app {a b : Str} (h : PyData.strOk a = true) (k : PyData.strOk b = true) : PyData.strOk (a ++ b) = true := by
  have e : (a ++ b).cps = a.cps ++ b.cps := Str.cps_append a b
  unfold PyData.strOk at *
  rw [e, Array.all_append, h, k]
  rfl
theorem PrA.odd {K : PySem.W.Frag} {H : Hp} {b : Bool} : ∀ (ps : List (Str × V × PyData)) {xs : List V}, PrA H xs (ps.map fun q => (q.1, q.2.1)) → (∀ q ∈ ps, (reprText q.1).length ≤ 400 ∧ Odd K H q.2.1 q.2.2 ∧ (b = true → q.2.2.hasDict = false) ∧ (b = false → Far q.2.1 q.2.2)) →
    OddP K H b xs (ps.map fun q => .tuple [.str q.1, q.2.2])
  | [], _, h, _ => by cases h; exact .nil
  | q :: ps, _, h, g => by
    cases h with
    | cons e r =>
      obtain ⟨g1, g2, g3, g4⟩ := g q (List.mem_cons_self ..)
      exact .cons (SqT.of e) g1 g2 g3 g4 (PrA.odd ps r fun q hq => g q (List.mem_cons_of_mem _ hq))
def told (x : Str) : List Str := [Str.ofString "base w", Str.ofString "absent " ++ x, Str.ofString "there " ++ x, Str.ofString "parse None"]
theorem told_eq (x : Str) : told x = (List.range 4).map fun w => caughtT w x := by
  have e0 : Str.ofString "base w" = caughtT 0 x := by
    show Str.ofString "base w" = Str.ofString "base " ++ ownT false false false false false false true false false false false false false false false false
    decide +kernel
  have e3 : Str.ofString "parse None" = caughtT 3 x := by
    show Str.ofString "parse None" = Str.ofString "parse " ++ Str.ofString "None"
    decide +kernel
  unfold told
  rw [e0, e3]
  rfl
theorem told_ok {x : Str} (h : PyData.strOk x = true) : ∀ y ∈ told x, PyData.strOk y = true := by
  intro y hy
  simp only [told, List.mem_cons, List.not_mem_nil, or_false] at hy
  rcases hy with rfl | rfl | rfl | rfl
  · decide +kernel
  · exact strOk_app (by decide +kernel) h
  · exact strOk_app (by decide +kernel) h
  · decide +kernel
theorem odd_num {K : PySem.W.Frag} {H : Hp} {i : Int} (h0 : 0 ≤ i) (h1 : i < 10 ^ Int.toNat 30) : Odd K H (.int i) (.int i) := by
  have e : (10 : Int) ^ Int.toNat 30 = ((10 ^ 30 : Nat) : Int) := by decide +kernel
  have l0 : i.natAbs < 10 ^ 30 := by omega
  have l : i.natAbs.log2 < 1920 := num_fits (Nat.lt_of_lt_of_le l0 (Nat.le_of_lt (by decide +kernel)))
  refine .dp (.int i) (by simp only [PyData.showable]; exact decide_eq_true l) (by simp [SeqAt.shaped, PyData.canLay0, PyData.depth]) ?_
  rw [PyData.shown_int]
  exact Nat.le_trans (int_text_len_1921 l) (by decide)
def eight (v iv : V) (pd di : PyData) : List (Str × V × PyData) := [(Str.ofString "x base value ", iv, di), (Str.ofString "U key lookup ", v, pd), (Str.ofString "T lookup ", v, pd), (Str.ofString "A lookup ", v, pd), (Str.ofString "N index lookup ", v, pd), (Str.ofString "Z runtime ", v, pd), (Str.ofString "M overflow arithmetic ", v, pd), (Str.ofString "R arithmetic ", v, pd)]
def eightD (v iv : V) (pd di : PyData) : List PyData := (eight v iv pd di).map fun q => .tuple [.str q.1, q.2.2]
theorem eight_fst (v iv : V) (pd di : PyData) : (eight v iv pd di).map (fun q => (q.1, q.2.1)) = stored v iv := by
  rw [stored_eq, storedT_eq]; rfl
theorem eight_ok {K : PySem.W.Frag} {H : Hp} {v iv : V} {pd di : PyData} {b : Bool} (ho : Odd K H v pd) (hi : Odd K H iv di) (h1 : b = true → pd.hasDict = false) (h2 : b = false → Far v pd) (h3 : di.hasDict = false) (h4 : ∀ a, iv ≠ .ref a) :
    ∀ q ∈ eight v iv pd di, (reprText q.1).length ≤ 400 ∧ Odd K H q.2.1 q.2.2 ∧ (b = true → q.2.2.hasDict = false) ∧ (b = false → Far q.2.1 q.2.2) := by
  intro q hq
  simp only [eight, List.mem_cons, List.not_mem_nil, or_false] at hq
  rcases hq with rfl | rfl | rfl | rfl | rfl | rfl | rfl | rfl
  · exact ⟨by dsimp only; decide +kernel, hi, fun _ => h3, fun _ => .inl h4⟩
  all_goals exact ⟨by dsimp only; decide +kernel, ho, h1, h2⟩
def dueL : List Str := (("fqrsvpwo" : Str).cps.toList.map fun c => (⟨#[c]⟩ : Str) ++ Str.ofString " base value ") ++ [Str.ofString " base value "]
theorem due_eq : msgs = dueL := by decide +kernel
def sp__law_right (K : PySem.W.Frag) : Sp := fun vs H Q _ => ∃ (d : Addr) (n : Nat) (o : HO), vs = [.ref d] ∧ H d = some o ∧ Dice n o ∧ n ≤ 500000 ∧
  ∀ (H' : Hp) (o' : HO), (∀ b u, H b = some u → b ≠ d → H' b = some u) → H' d = some o' → Dice (n + 50) o' → Q (.bl true) H'
theorem ok__law_right (T : Txt K mg) : FnG P w K mg base CX0 4 T.a__law_right T.d__law_right ["_law_dice_here"] (sp__law_right K) := by
  refine okG T.F__law_right sc__law_right (fun vs H Q E h => ?_) (fun cdv A outer s H vs Q E hg hr h => ?_)
  · obtain ⟨d, n, o, rfl, _⟩ := h; rfl
  · obtain ⟨d, n, o, rfl, hd, D0, hn, k⟩ := h
    refine ⟨_, PSs.nox (pss_cons (ps_set (i := 1) sc__law_right.nd rfl (by first | exact Or.inl rfl | exact Or.inr rfl) (pe_lst (pa_cons pe_non (pa_cons pe_bl (pa_cons (pe_un unNeg pe_int) (pa_cons (pe_op opMulT (pe_op opPow pe_int pe_int) (pe_op opPow pe_int pe_int)) (pa_cons pe_str (pa_cons pe_str (pa_cons (pe_tup (pa_cons pe_str (pa_cons (pe_tup (pa_cons pe_int (pa_cons pe_int pa_nil))) pa_nil))) (pa_cons (pe_lst (pa_cons pe_int (pa_cons (pe_lst (pa_cons pe_int pa_nil)) pa_nil))) (pa_cons (pe_disp (pps_cons pe_str (pe_tup pa_nil) pps_nil) (by rfl) (by rfl) (fun z => by cases z) (by decide)) (pa_cons (pe_tup (pa_cons (pe_tup (pa_cons (pe_tup (pa_cons pe_int pa_nil)) pa_nil)) pa_nil)) pa_nil))))))))))))
        (pss_cons (ps_asg (pe_tup (pa_cons (pe_call (ok__law_pick T) (hr.mono (by decide)) (by rfl) T.g__law_pick T.F__law_pick.kp T.B__law_pick .nil pass0 (pa_cons (pev 0) (pa_cons (pev 1) pa_nil))) (pa_cons (pe_call (ok__law_pick T) (hr.mono (by decide)) (by rfl) T.g__law_pick T.F__law_pick.kp T.B__law_pick .nil pass0 (pa_cons (pev 0) (pa_cons (pe_lst (pa_cons pe_non (pa_cons pe_int (pa_cons pe_int (pa_cons (pe_call (ok__law_roll T) (hr.mono (by decide)) (by rfl) T.g__law_roll T.F__law_roll.kp T.B__law_roll .nil pass0 (pa_cons (pev 0) (pa_cons (pe_op opPow pe_int pe_int) pa_nil))) pa_nil))))) pa_nil))) pa_nil))) (pg_tup rfl (pgs_cons (pg_name (i := 2) sc__law_right.nd rfl (by first | exact Or.inl rfl | exact Or.inr rfl)) (pgs_cons (pg_name (i := 3) sc__law_right.nd rfl (by first | exact Or.inl rfl | exact Or.inr rfl)) pgs_nil))))
        (pss_cons (ps_set (i := 4) sc__law_right.nd rfl (by first | exact Or.inl rfl | exact Or.inr rfl) (pe_op opAdd (pe_lc (own := [("_law_letter", 6)]) (g := (gName 6)) (tt := tYes) (te := (tOp (uAdd K) (uV 6) (tC (.str " base value ")))) rfl sc__law_right.nd (pi_str pe_str) (blkOk_by (own := [("_law_letter", 6)]) (N := ["_law_dice_here", "_law_odd", "_law_value", "_law_index", "_law_due", "_law_told", "_law_letter", "_law_way"]) (sc := defScope s__law_right) (by decide +kernel)) (fun _ _ _ _ _ => pg_name (i := 6) sc__law_right.nd rfl (by first | exact Or.inl rfl | exact Or.inr rfl)) (fun _ _ _ _ _ => pts_nil) (fun _ _ _ _ _ => (pe_op opAdd (pev 6) pe_str))) (pe_lst (pa_cons pe_str pa_nil))))
        (pss_cons (psIf (pt_cmpR (opNe (hu64 hr)) (pe_call (ok__law_messages T) (hr.mono (by decide)) (by rfl) T.g__law_messages T.F__law_messages.kp T.B__law_messages .nil pass0 (pa_cons (pe_call (ok__law_pick T) (hr.mono (by decide)) (by rfl) T.g__law_pick T.F__law_pick.kp T.B__law_pick .nil pass0 (pa_cons (pev 0) (pa_cons (pe_lst (pa_cons pe_str (pa_cons pe_str (pa_cons pe_str pa_nil)))) pa_nil))) pa_nil)) (pev 4) (nomark _)) (pss_one (ps_ret pe_bl)) pss_nil)
        (pss_cons (ps_set (i := 4) sc__law_right.nd rfl (by first | exact Or.inl rfl | exact Or.inr rfl) (pe_lst (pa_cons (pe_tup (pa_cons pe_str (pa_cons (pev 3) pa_nil))) (pa_cons (pe_tup (pa_cons pe_str (pa_cons (pev 2) pa_nil))) (pa_cons (pe_tup (pa_cons pe_str (pa_cons (pev 2) pa_nil))) (pa_cons (pe_tup (pa_cons pe_str (pa_cons (pev 2) pa_nil))) pa_nil))))))
        (pss_cons (ps_set (i := 4) sc__law_right.nd rfl (by first | exact Or.inl rfl | exact Or.inr rfl) (pe_op opAdd (pev 4) (pe_lst (pa_cons (pe_tup (pa_cons pe_str (pa_cons (pev 2) pa_nil))) (pa_cons (pe_tup (pa_cons pe_str (pa_cons (pev 2) pa_nil))) (pa_cons (pe_tup (pa_cons pe_str (pa_cons (pev 2) pa_nil))) pa_nil))))))
        (pss_cons (psIf (pt_cmpR (opNe (hu64 hr)) (pe_callB (caReprOP hg (hu70 hr)) (by rfl) T.b_repr (by decide +kernel) (pa_cons (pe_call (ok__law_stored T) (hr.mono (by decide)) (by rfl) T.g__law_stored T.F__law_stored.kp T.B__law_stored .nil pass0 (pa_cons (pev 2) (pa_cons (pev 3) pa_nil))) pa_nil)) (pe_callB (caReprOP hg (hu70 hr)) (by rfl) T.b_repr (by decide +kernel) (pa_cons (pe_op opAdd (pev 4) (pe_lst (pa_cons (pe_tup (pa_cons pe_str (pa_cons (pev 2) pa_nil))) pa_nil))) pa_nil)) (nomark _)) (pss_one (ps_ret pe_bl)) pss_nil)
        (pss_cons (ps_setLc (i := 5) (own := [("_law_way", 7)]) (g := (gName 7)) (tt := tYes) (te := (tCall (sp__law_caught K) [] E0 (tCons (uV 7) (tCons (uV 2) tNil)))) rfl sc__law_right.nd rfl rfl (sw_true rfl rfl rfl (by decide +kernel)) (pi_range1 (by rfl) T.b_range (pa_cons pe_int pa_nil)) (blkOk_by (own := [("_law_way", 7)]) (N := ["_law_dice_here", "_law_odd", "_law_value", "_law_index", "_law_due", "_law_told", "_law_letter", "_law_way"]) (sc := defScope s__law_right) (by decide +kernel)) (fun _ _ _ _ _ => pg_name (i := 7) sc__law_right.nd rfl (by first | exact Or.inl rfl | exact Or.inr rfl)) (fun _ _ _ _ _ => pts_nil) (fun _ _ _ _ _ => (peG (ok__law_caught T) hg (hr.mono (by decide)) (by rfl) T.g__law_caught T.F__law_caught.kp T.B__law_caught .nil pass0 (pa_cons (pev 7) (pa_cons (pev 2) pa_nil)))))
        (pss_one (ps_ret (pe_cmpR (opEq (hu64 hr)) (pev 5) (pe_lst (pa_cons pe_str (pa_cons (pe_op opAdd pe_str (pe_callB (caReprOP hg (hu70 hr)) (by rfl) T.b_repr (by decide +kernel) (pa_cons (pev 2) pa_nil))) (pa_cons (pe_op opAdd pe_str (pe_callB (caReprOP hg (hu70 hr)) (by rfl) T.b_repr (by decide +kernel) (pa_cons (pev 2) pa_nil))) (pa_cons pe_str pa_nil))))) (nomark _)))))))))))), ?_⟩
    have L := At.start1 hd
    conv => whnf
    refine ⟨⟨by decide, by decide, by decide⟩, ?_⟩
    conv => whnf
    refine ⟨⟨by decide, by decide, by decide⟩, ?_⟩
    conv => whnf
    refine ⟨mulW 250 250 (by decide) (by decide), ?_⟩
    conv => whnf
    refine ⟨small_ok (by simp), fun t1 nt1 => ?_⟩
    replace L := L.new (o := .tup [.int 1, .int 2]) nt1
    generalize upd H t1 (.tup [.int 1, .int 2]) = H1 at L ⊢
    conv => whnf
    refine ⟨small_ok (by simp), fun t2 nt2 => ?_⟩
    replace L := L.new (o := .tup [.str (Str.ofString "all"), .ref t1]) nt2
    generalize upd H1 t2 (.tup [.str (Str.ofString "all"), .ref t1]) = H2 at L ⊢
    conv => whnf
    refine ⟨small_ok (by simp), fun l1 nl1 => ?_⟩
    replace L := L.new (o := .lst [.int 2]) nl1
    generalize upd H2 l1 (.lst [.int 2]) = H3 at L ⊢
    conv => whnf
    refine ⟨small_ok (by simp), fun l2 nl2 => ?_⟩
    replace L := L.new (o := .lst [.int 1, .ref l1]) nl2
    generalize upd H3 l2 (.lst [.int 1, .ref l1]) = H4 at L ⊢
    intro dp ndp
    replace L := L.newM (o := .dK []) (fun e he => by obtain rfl := List.mem_singleton.mp he; exact ⟨o, L.getM (.head _)⟩) ndp
    generalize upd H4 dp (.dK []) = H5 at L ⊢
    conv => whnf
    refine ⟨small_ok (by simp), fun t3 nt3 => ?_⟩
    replace L := L.new (o := .tup []) nt3
    generalize upd H5 t3 (.tup []) = H6 at L ⊢
    conv => whnf
    refine ⟨L.getM (.head _), [(.inr "a", .ref t3)], rfl, by simp, ?_⟩
    replace L := (L.upd (u := .dK [(.inr "a", .ref t3)])).still
    rw [show mergeK [] [((.inr "a" : Key), V.ref t3)] = [(.inr "a", .ref t3)] from rfl]
    generalize upd H6 dp (.dK [(.inr "a", .ref t3)]) = H7 at L ⊢
    conv => whnf
    refine ⟨small_ok (by simp), fun t4 nt4 => ?_⟩
    replace L := L.new (o := .tup [.int 1]) nt4
    generalize upd H7 t4 (.tup [.int 1]) = H8 at L ⊢
    conv => whnf
    refine ⟨small_ok (by simp), fun t5 nt5 => ?_⟩
    replace L := L.new (o := .tup [.ref t4]) nt5
    generalize upd H8 t5 (.tup [.ref t4]) = H9 at L ⊢
    conv => whnf
    refine ⟨small_ok (by simp), fun t6 nt6 => ?_⟩
    replace L := L.new (o := .tup [.ref t5]) nt6
    generalize upd H9 t6 (.tup [.ref t5]) = H10 at L ⊢
    conv => whnf
    refine ⟨small_ok (by simp), fun od nod => ?_⟩
    replace L := L.new (o := .lst [.non, .bl true, .int (-7), .int (10 ^ Int.toNat 45 * 10 ^ Int.toNat 45), .str (Str.ofString ""), .str (Str.ofString "((r s) t)"), .ref t2, .ref l2, .ref dp, .ref t6]) nod
    generalize upd H10 od (.lst [.non, .bl true, .int (-7), .int (10 ^ Int.toNat 45 * 10 ^ Int.toNat 45), .str (Str.ofString ""), .str (Str.ofString "((r s) t)"), .ref t2, .ref l2, .ref dp, .ref t6]) = H11 at L ⊢
    have nod : od ≠ d := fun e => L.df (d, o) (.head _) (od, _) (.head _) e.symm
    conv => whnf
    refine ⟨d, n, o, _, _, rfl, L.getM (.head _), D0, by omega, .inr ⟨od, rfl, nod, .inl (SqL.of (L.get (.head _)))⟩, by simp, by simp, fun Ha v oa fa ga Da hv => ?_⟩
    replace L := L.set fa ga
    clear fa ga nod
    conv => whnf
    refine ⟨⟨by decide, by decide, by decide⟩, ?_⟩
    conv => whnf
    refine ⟨d, _, _, oa, rfl, L.getM (.head _), Da, by omega, by decide, by decide, fun Hb r ob fb gb Db r0 r1 => ?_⟩
    replace L := L.set fb gb
    clear fb gb
    conv => whnf
    refine ⟨small_ok (by simp), fun il nil => ?_⟩
    replace L := L.new (o := .lst [.non, .int 0, .int 1, .int r]) nil
    generalize upd Hb il (.lst [.non, .int 0, .int 1, .int r]) = H21 at L ⊢
    have nil_ : il ≠ d := fun e => L.df (d, ob) (.head _) (il, _) (.head _) e.symm
    conv => whnf
    refine ⟨d, _, ob, _, _, rfl, L.getM (.head _), Db, by omega, .inr ⟨il, rfl, nil_, .inl (SqL.of (L.get (.head _)))⟩, by simp, by simp, fun Hc iv oc fc gc Dc hi => ?_⟩
    replace L := L.set fc gc
    clear fc gc nil_
    conv => whnf
    refine ⟨small_ok (by simp), fun tp ntp => ?_⟩
    replace L := L.new (o := .tup [v, iv]) ntp
    generalize upd Hc tp (.tup [v, iv]) = H22 at L ⊢
    conv => whnf
    refine ⟨tp, _, rfl, SqT.of (L.get (.head _)), rfl, ?_⟩
    conv => whnf
    refine ⟨_, _, rfl, ?_⟩
    conv => whnf
    refine ⟨_, _, rfl, ?_⟩
    conv => whnf
    refine ⟨rfl, ?_⟩
    have zs : (Str.ofString "fqrsvpwo").cps.size = 8 := by decide +kernel
    refine ⟨_, rfl, fun E hE => lc_it walk_str (fun i H' => Gr H22 H' ∧ H' E = some (.lst (((Str.ofString "fqrsvpwo").cps.toList.take i).map fun c => V.str ((⟨#[c]⟩ : Str) ++ Str.ofString " base value ")))) ⟨Gr.rfl'.up hE, upd_same⟩ (fun _ _ _ _ => trivial) ?_ ?_⟩
    · rintro i x Hx Hy hi ⟨g, e⟩ ⟨rfl, c, hc, rfl⟩
      conv => whnf
      refine ⟨rfl, ?_⟩
      conv => whnf
      have l1 : (⟨#[c]⟩ : Str).length = 1 := rfl
      refine ⟨by rw [l1]; decide, ?_⟩
      conv => whnf
      refine ⟨_, e, small_lt (by rw [List.length_map, List.length_take, Array.length_toList, zs]; omega), ?_⟩
      have e2 : (Str.ofString "fqrsvpwo").cps.toList.take (i + 1) = (Str.ofString "fqrsvpwo").cps.toList.take i ++ [c] := by
        rw [List.take_add_one]
        simp [hc]
      rw [e2, List.map_append]
      exact ⟨Gr.app hE g, upd_same⟩
    rintro Hd ⟨g, e⟩
    replace L := L.add g hE e
    clear g e hE
    conv => whnf
    refine ⟨small_ok (by simp), fun sl nsl => ?_⟩
    replace L := L.new (o := .lst [.str (Str.ofString " base value ")]) nsl
    generalize upd Hd sl (.lst [.str (Str.ofString " base value ")]) = H31 at L ⊢
    conv => whnf
    have edl : ((Str.ofString "fqrsvpwo").cps.toList.take (Str.ofString "fqrsvpwo").cps.size).map (fun c => V.str ((⟨#[c]⟩ : Str) ++ Str.ofString " base value ")) ++ [V.str (Str.ofString " base value ")] = dueL.map V.str := by rw [zs]; decide +kernel
    refine .inl ⟨_, _, _, _, rfl, rfl, L.get (.tail _ (.head _)), L.get (.head _), by rw [List.length_map, List.length_take, Array.length_toList, zs]; decide, fun dl ndl => ?_⟩
    rw [edl]
    replace L := L.new (o := .lst (dueL.map V.str)) ndl
    generalize upd H31 dl (.lst (dueL.map V.str)) = He at L ⊢
    clear edl zs
    conv => whnf
    refine ⟨small_ok (by simp), fun xl nxl => ?_⟩
    replace L := L.new (o := .lst [.str (Str.ofString ""), .str (Str.ofString "no"), .str (Str.ofString "no such thing")]) nxl
    generalize upd He xl (.lst [.str (Str.ofString ""), .str (Str.ofString "no"), .str (Str.ofString "no such thing")]) = H41 at L ⊢
    have nxl : xl ≠ d := fun e => L.df (d, oc) (.head _) (xl, _) (.head _) e.symm
    conv => whnf
    refine ⟨d, _, oc, _, _, rfl, L.getM (.head _), Dc, by omega, .inr ⟨xl, rfl, nxl, .inl (SqL.of (L.get (.head _)))⟩, by simp, by simp, fun Hf tx of ff gf Df ht => ?_⟩
    replace L := L.set ff gf
    clear ff gf nxl
    obtain ⟨x, rfl⟩ : ∃ x : Str, tx = .str x := by
      simp only [List.mem_cons, List.not_mem_nil, or_false] at ht
      rcases ht with rfl | rfl | rfl <;> exact ⟨_, rfl⟩
    clear ht
    conv => whnf
    refine ⟨x, rfl, fun Hg mp gg nmp emp => ?_⟩
    replace L := L.add gg nmp emp
    conv => whnf
    refine ⟨.list (msgs.map .str), .list (dueL.map .str), .lst (SqL.of (L.get (.head _))) (dpAll_strs _), .lst (SqL.of (L.get (.tail _ (.tail _ (.head _))))) (dpAll_strs _), by rw [due_eq]; decide +kernel, by decide +kernel, ?_⟩
    rw [due_eq, eqv_strs]
    conv => whnf
    refine ⟨_, rfl, ?_⟩
    refine brN (by rfl) ?_
    obtain ⟨pd, b, ho, hb1, hb2, hok⟩ : ∃ (pd : PyData) (b : Bool), Odd K Hg v pd ∧ (b = true → pd.hasDict = false) ∧ (b = false → Far v pd) ∧ PyData.strOk pd.shown = true := by
      have go : ∀ {w : V} (pd : PyData), Dp K Hg w pd → pd.showable = true → SeqAt.shaped pd = true → pd.shown.length ≤ 2000 → pd.hasDict = false → PyData.strOk pd.shown = true → ∃ (pd : PyData) (b : Bool), Odd K Hg w pd ∧ (b = true → pd.hasDict = false) ∧ (b = false → Far w pd) ∧ PyData.strOk pd.shown = true :=
        fun pd h1 h2 h3 h4 h5 h6 => ⟨pd, true, .dp h1 h2 h3 h4, fun _ => h5, fun z => absurd z (by decide), h6⟩
      have D : ∀ pd : PyData, (pd.showable && SeqAt.shaped pd && decide (pd.shown.length ≤ 2000) && !pd.hasDict && PyData.strOk pd.shown) = true → pd.showable = true ∧ SeqAt.shaped pd = true ∧ pd.shown.length ≤ 2000 ∧ pd.hasDict = false ∧ PyData.strOk pd.shown = true := fun pd h => by
        simp only [Bool.and_eq_true, decide_eq_true_eq, Bool.not_eq_true'] at h
        exact ⟨h.1.1.1.1, h.1.1.1.2, h.1.1.2, h.1.2, h.2⟩
      simp only [List.mem_cons, List.not_mem_nil, or_false] at hv
      rcases hv with rfl | rfl | rfl | rfl | rfl | rfl | rfl | rfl | rfl | rfl
      · exact let z := D .none (by decide +kernel); go _ .non z.1 z.2.1 z.2.2.1 z.2.2.2.1 z.2.2.2.2
      · exact let z := D (.bool true) (by decide +kernel); go _ (.bl true) z.1 z.2.1 z.2.2.1 z.2.2.2.1 z.2.2.2.2
      · exact let z := D (.int (-7)) (by decide +kernel); go _ (.int _) z.1 z.2.1 z.2.2.1 z.2.2.2.1 z.2.2.2.2
      · exact let z := D (.int (10 ^ Int.toNat 45 * 10 ^ Int.toNat 45)) (by decide +kernel); go _ (.int _) z.1 z.2.1 z.2.2.1 z.2.2.2.1 z.2.2.2.2
      · exact let z := D (.str (Str.ofString "")) (by decide +kernel); go _ (.str _) z.1 z.2.1 z.2.2.1 z.2.2.2.1 z.2.2.2.2
      · exact let z := D (.str (Str.ofString "((r s) t)")) (by decide +kernel); go _ (.str _) z.1 z.2.1 z.2.2.1 z.2.2.2.1 z.2.2.2.2
      · exact let z := D (.tuple [.str (Str.ofString "all"), .tuple [.int 1, .int 2]]) (by decide +kernel); go _ (.tup (SqT.of (L.get (.tail _ (.tail _ (.tail _ (.tail _ (.tail _ (.tail _ (.tail _ (.tail _ (.tail _ (.tail _ (.tail _ (.tail _ (.tail _ (.tail _ (.tail _ (.head _)))))))))))))))))) (.cons (.str _) (.cons (.tup (SqT.of (L.get (.tail _ (.tail _ (.tail _ (.tail _ (.tail _ (.tail _ (.tail _ (.tail _ (.tail _ (.tail _ (.tail _ (.tail _ (.tail _ (.tail _ (.tail _ (.tail _ (.head _))))))))))))))))))) (.cons (.int 1) (.cons (.int 2) .nil))) .nil))) z.1 z.2.1 z.2.2.1 z.2.2.2.1 z.2.2.2.2
      · exact let z := D (.list [.int 1, .list [.int 2]]) (by decide +kernel); go _ (.lst (SqL.of (L.get (.tail _ (.tail _ (.tail _ (.tail _ (.tail _ (.tail _ (.tail _ (.tail _ (.tail _ (.tail _ (.tail _ (.tail _ (.tail _ (.head _)))))))))))))))) (.cons (.int 1) (.cons (.lst (SqL.of (L.get (.tail _ (.tail _ (.tail _ (.tail _ (.tail _ (.tail _ (.tail _ (.tail _ (.tail _ (.tail _ (.tail _ (.tail _ (.tail _ (.tail _ (.head _))))))))))))))))) (.cons (.int 2) .nil)) .nil))) z.1 z.2.1 z.2.2.1 z.2.2.2.1 z.2.2.2.2
      · exact ⟨_, false, .dic (L.get (.tail _ (.tail _ (.tail _ (.tail _ (.tail _ (.tail _ (.tail _ (.tail _ (.tail _ (.tail _ (.tail _ (.head _))))))))))))) (SqT.of (L.get (.tail _ (.tail _ (.tail _ (.tail _ (.tail _ (.tail _ (.tail _ (.tail _ (.tail _ (.tail _ (.tail _ (.tail _ (.head _))))))))))))))), fun z => absurd z (by decide), fun _ => .inr rfl, by decide +kernel⟩
      · exact let z := D (.tuple [.tuple [.tuple [.int 1]]]) (by decide +kernel); go _ (.tup (SqT.of (L.get (.tail _ (.tail _ (.tail _ (.tail _ (.tail _ (.tail _ (.tail _ (.tail _ (.head _))))))))))) (.cons (.tup (SqT.of (L.get (.tail _ (.tail _ (.tail _ (.tail _ (.tail _ (.tail _ (.tail _ (.tail _ (.tail _ (.head _)))))))))))) (.cons (.tup (SqT.of (L.get (.tail _ (.tail _ (.tail _ (.tail _ (.tail _ (.tail _ (.tail _ (.tail _ (.tail _ (.tail _ (.head _))))))))))))) (.cons (.int 1) .nil)) .nil)) .nil)) z.1 z.2.1 z.2.2.1 z.2.2.2.1 z.2.2.2.2
    clear hv
    obtain ⟨di, hoi, hi3, hi4⟩ : ∃ di : PyData, Odd K Hg iv di ∧ di.hasDict = false ∧ ∀ a, iv ≠ .ref a := by
      simp only [List.mem_cons, List.not_mem_nil, or_false] at hi
      rcases hi with rfl | rfl | rfl | rfl
      · exact ⟨.none, .dp .non rfl (by decide +kernel) (by decide +kernel), rfl, fun _ z => nomatch z⟩
      · exact ⟨.int 0, odd_num (by decide) (by decide +kernel), rfl, fun _ z => nomatch z⟩
      · exact ⟨.int 1, odd_num (by decide) (by decide +kernel), rfl, fun _ z => nomatch z⟩
      · exact ⟨.int r, odd_num r0 r1, rfl, fun _ z => nomatch z⟩
    clear hi
    have fr : ∀ b u, H b = some u → b ≠ d → Hg b = some u := fun b u e n => L.fr b u e (fun z => n (List.mem_singleton.mp z))
    have gd := L.getM (.head _)
    clear L gg nmp emp Dc Db Da
    have G : Gr Hg Hg := Gr.rfl'
    conv => whnf
    refine ⟨small_ok (by simp), fun u0 nu0 => ?_⟩
    have g51 := Gr.rfl'.up (o := .tup [.str (Str.ofString "x base value "), iv]) nu0
    have eu0 := upd_same (H := Hg) (a := u0) (o := .tup [.str (Str.ofString "x base value "), iv])
    generalize upd Hg u0 (.tup [.str (Str.ofString "x base value "), iv]) = H51 at g51 eu0 ⊢
    replace G := G.trans g51
    conv => whnf
    refine ⟨small_ok (by simp), fun u1 nu1 => ?_⟩
    have g52 := Gr.rfl'.up (o := .tup [.str (Str.ofString "U key lookup "), v]) nu1
    have eu1 := upd_same (H := H51) (a := u1) (o := .tup [.str (Str.ofString "U key lookup "), v])
    generalize upd H51 u1 (.tup [.str (Str.ofString "U key lookup "), v]) = H52 at g52 eu1 ⊢
    replace G := G.trans g52
    replace eu0 := g52 _ _ eu0
    conv => whnf
    refine ⟨small_ok (by simp), fun u2 nu2 => ?_⟩
    have g53 := Gr.rfl'.up (o := .tup [.str (Str.ofString "T lookup "), v]) nu2
    have eu2 := upd_same (H := H52) (a := u2) (o := .tup [.str (Str.ofString "T lookup "), v])
    generalize upd H52 u2 (.tup [.str (Str.ofString "T lookup "), v]) = H53 at g53 eu2 ⊢
    replace G := G.trans g53
    replace eu0 := g53 _ _ eu0
    replace eu1 := g53 _ _ eu1
    conv => whnf
    refine ⟨small_ok (by simp), fun u3 nu3 => ?_⟩
    have g54 := Gr.rfl'.up (o := .tup [.str (Str.ofString "A lookup "), v]) nu3
    have eu3 := upd_same (H := H53) (a := u3) (o := .tup [.str (Str.ofString "A lookup "), v])
    generalize upd H53 u3 (.tup [.str (Str.ofString "A lookup "), v]) = H54 at g54 eu3 ⊢
    replace G := G.trans g54
    replace eu0 := g54 _ _ eu0
    replace eu1 := g54 _ _ eu1
    replace eu2 := g54 _ _ eu2
    conv => whnf
    refine ⟨small_ok (by simp), fun p1 np1 => ?_⟩
    have g55 := Gr.rfl'.up (o := .lst [.ref u0, .ref u1, .ref u2, .ref u3]) np1
    have ep1 := upd_same (H := H54) (a := p1) (o := .lst [.ref u0, .ref u1, .ref u2, .ref u3])
    generalize upd H54 p1 (.lst [.ref u0, .ref u1, .ref u2, .ref u3]) = H55 at g55 ep1 ⊢
    replace G := G.trans g55
    replace eu0 := g55 _ _ eu0
    replace eu1 := g55 _ _ eu1
    replace eu2 := g55 _ _ eu2
    replace eu3 := g55 _ _ eu3
    conv => whnf
    refine ⟨small_ok (by simp), fun u4 nu4 => ?_⟩
    have g56 := Gr.rfl'.up (o := .tup [.str (Str.ofString "N index lookup "), v]) nu4
    have eu4 := upd_same (H := H55) (a := u4) (o := .tup [.str (Str.ofString "N index lookup "), v])
    generalize upd H55 u4 (.tup [.str (Str.ofString "N index lookup "), v]) = H56 at g56 eu4 ⊢
    replace G := G.trans g56
    replace eu0 := g56 _ _ eu0
    replace eu1 := g56 _ _ eu1
    replace eu2 := g56 _ _ eu2
    replace eu3 := g56 _ _ eu3
    replace ep1 := g56 _ _ ep1
    conv => whnf
    refine ⟨small_ok (by simp), fun u5 nu5 => ?_⟩
    have g57 := Gr.rfl'.up (o := .tup [.str (Str.ofString "Z runtime "), v]) nu5
    have eu5 := upd_same (H := H56) (a := u5) (o := .tup [.str (Str.ofString "Z runtime "), v])
    generalize upd H56 u5 (.tup [.str (Str.ofString "Z runtime "), v]) = H57 at g57 eu5 ⊢
    replace G := G.trans g57
    replace eu0 := g57 _ _ eu0
    replace eu1 := g57 _ _ eu1
    replace eu2 := g57 _ _ eu2
    replace eu3 := g57 _ _ eu3
    replace ep1 := g57 _ _ ep1
    replace eu4 := g57 _ _ eu4
    conv => whnf
    refine ⟨small_ok (by simp), fun u6 nu6 => ?_⟩
    have g58 := Gr.rfl'.up (o := .tup [.str (Str.ofString "M overflow arithmetic "), v]) nu6
    have eu6 := upd_same (H := H57) (a := u6) (o := .tup [.str (Str.ofString "M overflow arithmetic "), v])
    generalize upd H57 u6 (.tup [.str (Str.ofString "M overflow arithmetic "), v]) = H58 at g58 eu6 ⊢
    replace G := G.trans g58
    replace eu0 := g58 _ _ eu0
    replace eu1 := g58 _ _ eu1
    replace eu2 := g58 _ _ eu2
    replace eu3 := g58 _ _ eu3
    replace ep1 := g58 _ _ ep1
    replace eu4 := g58 _ _ eu4
    replace eu5 := g58 _ _ eu5
    conv => whnf
    refine ⟨small_ok (by simp), fun p2 np2 => ?_⟩
    have g59 := Gr.rfl'.up (o := .lst [.ref u4, .ref u5, .ref u6]) np2
    have ep2 := upd_same (H := H58) (a := p2) (o := .lst [.ref u4, .ref u5, .ref u6])
    generalize upd H58 p2 (.lst [.ref u4, .ref u5, .ref u6]) = H59 at g59 ep2 ⊢
    replace G := G.trans g59
    replace eu0 := g59 _ _ eu0
    replace eu1 := g59 _ _ eu1
    replace eu2 := g59 _ _ eu2
    replace eu3 := g59 _ _ eu3
    replace ep1 := g59 _ _ ep1
    replace eu4 := g59 _ _ eu4
    replace eu5 := g59 _ _ eu5
    replace eu6 := g59 _ _ eu6
    conv => whnf
    refine .inl ⟨_, _, _, _, rfl, rfl, ep1, ep2, by simp [sizeLine_eq], fun q1 nq1 => ?_⟩
    have g60 := Gr.rfl'.up (o := .lst ([.ref u0, .ref u1, .ref u2, .ref u3] ++ [.ref u4, .ref u5, .ref u6])) nq1
    have eq1 := upd_same (H := H59) (a := q1) (o := .lst ([.ref u0, .ref u1, .ref u2, .ref u3] ++ [.ref u4, .ref u5, .ref u6]))
    generalize upd H59 q1 (.lst ([.ref u0, .ref u1, .ref u2, .ref u3] ++ [.ref u4, .ref u5, .ref u6])) = H60 at g60 eq1 ⊢
    replace G := G.trans g60
    replace eu0 := g60 _ _ eu0
    replace eu1 := g60 _ _ eu1
    replace eu2 := g60 _ _ eu2
    replace eu3 := g60 _ _ eu3
    replace ep1 := g60 _ _ ep1
    replace eu4 := g60 _ _ eu4
    replace eu5 := g60 _ _ eu5
    replace eu6 := g60 _ _ eu6
    replace ep2 := g60 _ _ ep2
    conv => whnf
    refine ⟨v, iv, rfl, fun Hs ps xs gs nps es pr => ?_⟩
    replace G := G.trans gs
    replace eu0 := gs _ _ eu0
    replace eu1 := gs _ _ eu1
    replace eu2 := gs _ _ eu2
    replace eu3 := gs _ _ eu3
    replace ep1 := gs _ _ ep1
    replace eu4 := gs _ _ eu4
    replace eu5 := gs _ _ eu5
    replace eu6 := gs _ _ eu6
    replace ep2 := gs _ _ ep2
    replace eq1 := gs _ _ eq1
    conv => whnf
    refine .inr ⟨ps, xs, eightD v iv pd di, b, rfl, SqL.of es, PrA.odd _ (by rw [eight_fst]; exact pr) (eight_ok (ho.up G) (hoi.up G) hb1 hb2 hi3 hi4), by simp [eightD, eight], by simp [eightD, eight], ?_⟩
    clear es pr nps
    conv => whnf
    refine ⟨small_ok (by simp), fun u7 nu7 => ?_⟩
    have g61 := Gr.rfl'.up (o := .tup [.str (Str.ofString "R arithmetic "), v]) nu7
    have eu7 := upd_same (H := Hs) (a := u7) (o := .tup [.str (Str.ofString "R arithmetic "), v])
    generalize upd Hs u7 (.tup [.str (Str.ofString "R arithmetic "), v]) = H61 at g61 eu7 ⊢
    replace G := G.trans g61
    replace eu0 := g61 _ _ eu0
    replace eu1 := g61 _ _ eu1
    replace eu2 := g61 _ _ eu2
    replace eu3 := g61 _ _ eu3
    replace ep1 := g61 _ _ ep1
    replace eu4 := g61 _ _ eu4
    replace eu5 := g61 _ _ eu5
    replace eu6 := g61 _ _ eu6
    replace ep2 := g61 _ _ ep2
    replace eq1 := g61 _ _ eq1
    conv => whnf
    refine ⟨small_ok (by simp), fun p3 np3 => ?_⟩
    have g62 := Gr.rfl'.up (o := .lst [.ref u7]) np3
    have ep3 := upd_same (H := H61) (a := p3) (o := .lst [.ref u7])
    generalize upd H61 p3 (.lst [.ref u7]) = H62 at g62 ep3 ⊢
    replace G := G.trans g62
    replace eu0 := g62 _ _ eu0
    replace eu1 := g62 _ _ eu1
    replace eu2 := g62 _ _ eu2
    replace eu3 := g62 _ _ eu3
    replace ep1 := g62 _ _ ep1
    replace eu4 := g62 _ _ eu4
    replace eu5 := g62 _ _ eu5
    replace eu6 := g62 _ _ eu6
    replace ep2 := g62 _ _ ep2
    replace eq1 := g62 _ _ eq1
    replace eu7 := g62 _ _ eu7
    conv => whnf
    refine .inl ⟨_, _, _, _, rfl, rfl, eq1, ep3, by simp [sizeLine_eq], fun q2 nq2 => ?_⟩
    have g63 := Gr.rfl'.up (o := .lst ([.ref u0, .ref u1, .ref u2, .ref u3] ++ [.ref u4, .ref u5, .ref u6] ++ [.ref u7])) nq2
    have eq2 := upd_same (H := H62) (a := q2) (o := .lst ([.ref u0, .ref u1, .ref u2, .ref u3] ++ [.ref u4, .ref u5, .ref u6] ++ [.ref u7]))
    generalize upd H62 q2 (.lst ([.ref u0, .ref u1, .ref u2, .ref u3] ++ [.ref u4, .ref u5, .ref u6] ++ [.ref u7])) = H63 at g63 eq2 ⊢
    replace G := G.trans g63
    replace eu0 := g63 _ _ eu0
    replace eu1 := g63 _ _ eu1
    replace eu2 := g63 _ _ eu2
    replace eu3 := g63 _ _ eu3
    replace ep1 := g63 _ _ ep1
    replace eu4 := g63 _ _ eu4
    replace eu5 := g63 _ _ eu5
    replace eu6 := g63 _ _ eu6
    replace ep2 := g63 _ _ ep2
    replace eq1 := g63 _ _ eq1
    replace eu7 := g63 _ _ eu7
    replace ep3 := g63 _ _ ep3
    conv => whnf
    refine .inr ⟨q2, _, eightD v iv pd di, b, rfl, SqL.of eq2, PrA.odd _ ((.cons eu0 (.cons eu1 (.cons eu2 (.cons eu3 (.cons eu4 (.cons eu5 (.cons eu6 (.cons eu7 .nil))))))))) (eight_ok (ho.up G) (hoi.up G) hb1 hb2 hi3 hi4), by simp [eightD, eight], by simp [eightD, eight], ?_⟩
    conv => whnf
    refine ⟨_, rfl, ?_⟩
    refine brN (by simp) ?_
    conv => whnf
    refine ⟨_, rfl, by decide, by decide, fun E hE => lc_range (lo := 0) (n := 4) (fun i H' => Gr H63 H' ∧ H' E = some (.lst ((List.range i).map fun w => V.str (caughtT w pd.shown)))) ⟨Gr.rfl'.up hE, upd_same⟩ ?_ ?_⟩
    · rintro i Hx hi ⟨g, e⟩
      conv => whnf
      refine ⟨rfl, ?_⟩
      conv => whnf
      refine ⟨i, v, pd, by rw [Int.zero_add]; rfl, hi, ho.up (G.trans g), fun Hy g2 => ?_⟩
      conv => whnf
      refine ⟨_, g2 _ _ e, small_lt (by rw [List.length_map, List.length_range]; omega), ?_⟩
      rw [List.range_succ, List.map_append]
      exact ⟨Gr.app hE (g.trans g2), upd_same⟩
    rintro Hh ⟨g, e⟩
    replace G := G.trans g
    have ho := ho.up G
    clear eu0 eu1 eu2 eu3 eu4 eu5 eu6 eu7 ep1 ep2 ep3 eq1 eq2
    have lo := ho.len
    conv => whnf
    refine .inl ⟨v, pd, rfl, ho, ?_⟩
    conv => whnf
    refine ⟨by rw [show (Str.ofString "absent ").length = 7 by decide +kernel]; have : sizeLine = 16777216 := sizeLine_eq; omega, ?_⟩
    conv => whnf
    refine .inl ⟨v, pd, rfl, ho, ?_⟩
    conv => whnf
    refine ⟨by rw [show (Str.ofString "there ").length = 6 by decide +kernel]; have : sizeLine = 16777216 := sizeLine_eq; omega, ?_⟩
    conv => whnf
    refine ⟨small_ok (by simp), fun fl nfl => ?_⟩
    have et : (List.range 4).map (fun w => V.str (caughtT w pd.shown)) = (told pd.shown).map V.str := by
      rw [told_eq]
      rfl
    rw [et] at e
    have gl := Gr.rfl'.up (o := .lst ((told pd.shown).map V.str)) nfl
    have el := upd_same (H := Hh) (a := fl) (o := .lst ((told pd.shown).map V.str))
    conv => whnf
    refine ⟨.list ((told pd.shown).map .str), .list ((told pd.shown).map .str), .lst (SqL.of (gl _ _ e)) (dpAll_strs _), .lst (SqL.of el) (dpAll_strs _), shaped_strs _ (told_ok hok), shaped_strs _ (told_ok hok), ?_⟩
    rw [eqv_strs]
    have GE := G.trans gl
    exact k _ of (fun b u eb nb => GE _ _ (fr b u eb nb)) (GE _ _ gd) (Df.up (by omega))
def sp_law (K : PySem.W.Frag) : Sp := fun vs H Q _ => ∃ (a : Addr) (ns : List Int), vs = [.ref a] ∧ SqL K H a (ns.map V.int) ∧ ns.length ≤ 63 ∧ ∀ H', Q (.bl true) H'
theorem enter (K : PySem.W.Frag) (H : Hp) (a : Addr) (ns : List Int) (h1 : ns.length ≤ 63) (h2 : ∀ z ∈ ns, Builtin.Int.intBits z ≤ 1048576) (h3 : SqL K H a (ns.map V.int)) : sp_law K [.ref a] H (fun v _ => v = .bl true) fun _ _ _ => False := ⟨a, ns, rfl, h3, h1, fun _ => rfl⟩
theorem ok_law (T : Txt K mg) : FnG P w K mg base CX0 5 T.a_law T.d_law ["_law_script"] (sp_law K) := by
  refine okG T.F_law sc_law (fun vs H Q E h => ?_) (fun cdv A outer s H vs Q E hg hr h => ?_)
  · obtain ⟨a, ns, rfl, _⟩ := h; rfl
  · obtain ⟨a, ns, rfl, hS, hn, k⟩ := h
    refine ⟨_, PSs.nox (pss_cons (ps_for PassesOwn.never rfl (pi_range1 (by rfl) T.b_range (pa_cons (pe_callB (caMax rfl) (by rfl) T.b_max (by decide +kernel) (pa_cons pe_int (pa_cons (pe_callB (caMin rfl) (by rfl) T.b_min (by decide +kernel) (pa_cons pe_int (pa_cons (pe_callB caLen (by rfl) T.b_len (by decide +kernel) (pa_cons (pev 0) pa_nil)) pa_nil))) pa_nil))) pa_nil)) (pg_name (i := 1) sc_law.nd rfl (by first | exact Or.inl rfl | exact Or.inr rfl))
        (pss_cons (ps_set (i := 2) sc_law.nd rfl (by first | exact Or.inl rfl | exact Or.inr rfl) (pe_call (ok__law_dice T) (hr.mono (by decide)) (by rfl) T.g__law_dice T.F__law_dice.kp T.B__law_dice .nil pass0 (pa_cons (pev 0) (pa_cons (pev 1) pa_nil))))
        (pss_one (ps_for PassesOwn.never rfl (pi_range1 (by rfl) T.b_range (pa_cons pe_int pa_nil)) (pg_name (i := 3) sc_law.nd rfl (by first | exact Or.inl rfl | exact Or.inr rfl))
        (pss_one (psIf (pt_not (ptV (peG (ok__law_right T) hg (hr.mono (by decide)) (by rfl) T.g__law_right T.F__law_right.kp T.B__law_right .nil pass0 (pa_cons (pev 2) pa_nil)))) (pss_one (ps_ret pe_bl)) pss_nil))))))
        (pss_one (ps_ret pe_bl))), ?_⟩
    conv => whnf
    refine ⟨_, .inl hS, ?_⟩
    conv => whnf
    rw [List.length_map]
    refine ⟨_, rfl, by omega, by omega, for_range (lo := 0) (n := (max 1 (min 4 (ns.length : Int))).toNat) (fun i σ H' => (∃ v1 v2 v3, σ = [some (.ref a), v1, v2, v3]) ∧ Gr H H')
      ⟨⟨none, none, none, rfl⟩, fun _ _ e => e⟩ ?_ ?_⟩
    · rintro i σ H1 hi ⟨⟨v1, v2, v3, rfl⟩, s1⟩
      conv => whnf
      refine ⟨a, ns, i, by rw [Int.zero_add]; rfl, sqlSame s1 hS, by omega, fun H2 p o s2 p0 p1 D0 => ?_⟩
      conv => whnf
      refine ⟨_, rfl, by decide, by decide, for_range (lo := 0) (n := 3) (fun j σ H' => (∃ v3, σ = [some (.ref a), some (.int (0 + (i : Nat))), some (.ref p), v3]) ∧ Gr H1 H' ∧ ∃ o', H' p = some o' ∧ Dice (50 * j) o')
        ⟨⟨v3, rfl⟩, s2, o, p1, D0⟩ ?_ ?_⟩
      · rintro j σ H3 hj ⟨⟨v3, rfl⟩, s3, o3, p3, D3⟩
        conv => whnf
        refine ⟨p, _, o3, rfl, p3, D3, by omega, fun H4 o4 f4 g4 D4 => ?_⟩
        conv => whnf
        refine brF ?_
        exact ⟨⟨_, rfl⟩, fun b u e => f4 b u (s3 b u e) (fun z => by subst z; rw [p0] at e; cases e), o4, g4, D4.up (by omega)⟩
      · rintro σ H3 ⟨⟨v3, rfl⟩, s3, _⟩
        exact ⟨⟨_, _, _, rfl⟩, fun b u e => s3 b u (s1 b u e)⟩
    · rintro σ H1 ⟨⟨v1, v2, v3, rfl⟩, s1⟩
      conv => whnf
      exact k _
end
open PySem.W in
theorem all_mk {P : Program} {w : World} {K : Frag} {h : Heap} {mg : Str → Option Value} {fa : Addr} (X : K.In h) (G : h.Ns mainGlobals mg) (hfa : mg "law" = some (.ref fa))
    {q_InvalidNumber : Addr} (aq_InvalidNumber : nsIn K mainGlobals "InvalidNumber" = some (some (.ref q_InvalidNumber)))
    (xb_InvalidNumber : subIn K (.ref q_InvalidNumber) (.type "BaseException") = some true) (xt_InvalidNumber : typeIn K (.ref q_InvalidNumber) = some (.type "type"))
    (ega_InvalidNumber : findIn K (.ref q_InvalidNumber) "__getattribute__" = some (some (.builtin "BaseException.__getattribute__")))
    (egt_InvalidNumber : findIn K (.ref q_InvalidNumber) "__getattr__" = some none)
    (ehd_InvalidNumber : hasDictIn K q_InvalidNumber = true)
    (ehc_InvalidNumber : findIn K (.ref q_InvalidNumber) "__class__" = some (some (.builtin "object.__class__")))
    (ehn_InvalidNumber : specialIn K (.builtin "object.__class__") "__get__" = some (some (.builtin "getset_descriptor.__get__")))
    (eht_InvalidNumber : takesIn K (.builtin "object.__class__") = some true)
    (ehm_InvalidNumber : mroIn K q_InvalidNumber (.type "object") = some true)
    (em_InvalidNumber : excInitIn K q_InvalidNumber mIx "IndexError.__new__" = true) (eo_InvalidNumber : excOver K q_InvalidNumber mIx = true) (es_InvalidNumber : findIn K (.ref q_InvalidNumber) "__setattr__" = some (some (.builtin "object.__setattr__"))) (ek_InvalidNumber : keepIn K (.ref q_InvalidNumber) = true) (et_InvalidNumber : takerIn K q_InvalidNumber "value" = some none) (ef_InvalidNumber : findIn K (.ref q_InvalidNumber) "value" = some none)
    {q_InvalidOperation : Addr} (aq_InvalidOperation : nsIn K mainGlobals "InvalidOperation" = some (some (.ref q_InvalidOperation)))
    (xb_InvalidOperation : subIn K (.ref q_InvalidOperation) (.type "BaseException") = some true) (xt_InvalidOperation : typeIn K (.ref q_InvalidOperation) = some (.type "type"))
    (xx_InvalidOperation : excIn K q_InvalidOperation mVal "ValueError.__new__" = true) (xk_InvalidOperation : keepIn K (.ref q_InvalidOperation) = true)
    (ega_InvalidOperation : findIn K (.ref q_InvalidOperation) "__getattribute__" = some (some (.builtin "BaseException.__getattribute__")))
    (egt_InvalidOperation : findIn K (.ref q_InvalidOperation) "__getattr__" = some none)
    (ehd_InvalidOperation : hasDictIn K q_InvalidOperation = true)
    (ehc_InvalidOperation : findIn K (.ref q_InvalidOperation) "__class__" = some (some (.builtin "object.__class__")))
    (ehn_InvalidOperation : specialIn K (.builtin "object.__class__") "__get__" = some (some (.builtin "getset_descriptor.__get__")))
    (eht_InvalidOperation : takesIn K (.builtin "object.__class__") = some true)
    (ehm_InvalidOperation : mroIn K q_InvalidOperation (.type "object") = some true)
    {q_InvalidPlan : Addr} (aq_InvalidPlan : nsIn K mainGlobals "InvalidPlan" = some (some (.ref q_InvalidPlan)))
    (xb_InvalidPlan : subIn K (.ref q_InvalidPlan) (.type "BaseException") = some true) (xt_InvalidPlan : typeIn K (.ref q_InvalidPlan) = some (.type "type"))
    (xx_InvalidPlan : excIn K q_InvalidPlan mVal "ValueError.__new__" = true) (xk_InvalidPlan : keepIn K (.ref q_InvalidPlan) = true)
    (ega_InvalidPlan : findIn K (.ref q_InvalidPlan) "__getattribute__" = some (some (.builtin "BaseException.__getattribute__")))
    (egt_InvalidPlan : findIn K (.ref q_InvalidPlan) "__getattr__" = some none)
    (ehd_InvalidPlan : hasDictIn K q_InvalidPlan = true)
    (ehc_InvalidPlan : findIn K (.ref q_InvalidPlan) "__class__" = some (some (.builtin "object.__class__")))
    (ehn_InvalidPlan : specialIn K (.builtin "object.__class__") "__get__" = some (some (.builtin "getset_descriptor.__get__")))
    (eht_InvalidPlan : takesIn K (.builtin "object.__class__") = some true)
    (ehm_InvalidPlan : mroIn K q_InvalidPlan (.type "object") = some true)
    {q_InvalidQuestion : Addr} (aq_InvalidQuestion : nsIn K mainGlobals "InvalidQuestion" = some (some (.ref q_InvalidQuestion)))
    (xb_InvalidQuestion : subIn K (.ref q_InvalidQuestion) (.type "BaseException") = some true) (xt_InvalidQuestion : typeIn K (.ref q_InvalidQuestion) = some (.type "type"))
    (xx_InvalidQuestion : excIn K q_InvalidQuestion mVal "ValueError.__new__" = true) (xk_InvalidQuestion : keepIn K (.ref q_InvalidQuestion) = true)
    (ega_InvalidQuestion : findIn K (.ref q_InvalidQuestion) "__getattribute__" = some (some (.builtin "BaseException.__getattribute__")))
    (egt_InvalidQuestion : findIn K (.ref q_InvalidQuestion) "__getattr__" = some none)
    (ehd_InvalidQuestion : hasDictIn K q_InvalidQuestion = true)
    (ehc_InvalidQuestion : findIn K (.ref q_InvalidQuestion) "__class__" = some (some (.builtin "object.__class__")))
    (ehn_InvalidQuestion : specialIn K (.builtin "object.__class__") "__get__" = some (some (.builtin "getset_descriptor.__get__")))
    (eht_InvalidQuestion : takesIn K (.builtin "object.__class__") = some true)
    (ehm_InvalidQuestion : mroIn K q_InvalidQuestion (.type "object") = some true)
    {q_InvalidRatio : Addr} (aq_InvalidRatio : nsIn K mainGlobals "InvalidRatio" = some (some (.ref q_InvalidRatio)))
    (xb_InvalidRatio : subIn K (.ref q_InvalidRatio) (.type "BaseException") = some true) (xt_InvalidRatio : typeIn K (.ref q_InvalidRatio) = some (.type "type"))
    (xx_InvalidRatio : excIn K q_InvalidRatio mVal "ValueError.__new__" = true) (xk_InvalidRatio : keepIn K (.ref q_InvalidRatio) = true)
    (ega_InvalidRatio : findIn K (.ref q_InvalidRatio) "__getattribute__" = some (some (.builtin "BaseException.__getattribute__")))
    (egt_InvalidRatio : findIn K (.ref q_InvalidRatio) "__getattr__" = some none)
    (ehd_InvalidRatio : hasDictIn K q_InvalidRatio = true)
    (ehc_InvalidRatio : findIn K (.ref q_InvalidRatio) "__class__" = some (some (.builtin "object.__class__")))
    (ehn_InvalidRatio : specialIn K (.builtin "object.__class__") "__get__" = some (some (.builtin "getset_descriptor.__get__")))
    (eht_InvalidRatio : takesIn K (.builtin "object.__class__") = some true)
    (ehm_InvalidRatio : mroIn K q_InvalidRatio (.type "object") = some true)
    {q_InvalidRow : Addr} (aq_InvalidRow : nsIn K mainGlobals "InvalidRow" = some (some (.ref q_InvalidRow)))
    (xb_InvalidRow : subIn K (.ref q_InvalidRow) (.type "BaseException") = some true) (xt_InvalidRow : typeIn K (.ref q_InvalidRow) = some (.type "type"))
    (xx_InvalidRow : excIn K q_InvalidRow mVal "ValueError.__new__" = true) (xk_InvalidRow : keepIn K (.ref q_InvalidRow) = true)
    (ega_InvalidRow : findIn K (.ref q_InvalidRow) "__getattribute__" = some (some (.builtin "BaseException.__getattribute__")))
    (egt_InvalidRow : findIn K (.ref q_InvalidRow) "__getattr__" = some none)
    (ehd_InvalidRow : hasDictIn K q_InvalidRow = true)
    (ehc_InvalidRow : findIn K (.ref q_InvalidRow) "__class__" = some (some (.builtin "object.__class__")))
    (ehn_InvalidRow : specialIn K (.builtin "object.__class__") "__get__" = some (some (.builtin "getset_descriptor.__get__")))
    (eht_InvalidRow : takesIn K (.builtin "object.__class__") = some true)
    (ehm_InvalidRow : mroIn K q_InvalidRow (.type "object") = some true)
    {q_InvalidStore : Addr} (aq_InvalidStore : nsIn K mainGlobals "InvalidStore" = some (some (.ref q_InvalidStore)))
    (xb_InvalidStore : subIn K (.ref q_InvalidStore) (.type "BaseException") = some true) (xt_InvalidStore : typeIn K (.ref q_InvalidStore) = some (.type "type"))
    (xx_InvalidStore : excIn K q_InvalidStore mVal "ValueError.__new__" = true) (xk_InvalidStore : keepIn K (.ref q_InvalidStore) = true)
    (ega_InvalidStore : findIn K (.ref q_InvalidStore) "__getattribute__" = some (some (.builtin "BaseException.__getattribute__")))
    (egt_InvalidStore : findIn K (.ref q_InvalidStore) "__getattr__" = some none)
    (ehd_InvalidStore : hasDictIn K q_InvalidStore = true)
    (ehc_InvalidStore : findIn K (.ref q_InvalidStore) "__class__" = some (some (.builtin "object.__class__")))
    (ehn_InvalidStore : specialIn K (.builtin "object.__class__") "__get__" = some (some (.builtin "getset_descriptor.__get__")))
    (eht_InvalidStore : takesIn K (.builtin "object.__class__") = some true)
    (ehm_InvalidStore : mroIn K q_InvalidStore (.type "object") = some true)
    {q_InvalidView : Addr} (aq_InvalidView : nsIn K mainGlobals "InvalidView" = some (some (.ref q_InvalidView)))
    (xb_InvalidView : subIn K (.ref q_InvalidView) (.type "BaseException") = some true) (xt_InvalidView : typeIn K (.ref q_InvalidView) = some (.type "type"))
    (xx_InvalidView : excIn K q_InvalidView mVal "ValueError.__new__" = true) (xk_InvalidView : keepIn K (.ref q_InvalidView) = true)
    (ega_InvalidView : findIn K (.ref q_InvalidView) "__getattribute__" = some (some (.builtin "BaseException.__getattribute__")))
    (egt_InvalidView : findIn K (.ref q_InvalidView) "__getattr__" = some none)
    (ehd_InvalidView : hasDictIn K q_InvalidView = true)
    (ehc_InvalidView : findIn K (.ref q_InvalidView) "__class__" = some (some (.builtin "object.__class__")))
    (ehn_InvalidView : specialIn K (.builtin "object.__class__") "__get__" = some (some (.builtin "getset_descriptor.__get__")))
    (eht_InvalidView : takesIn K (.builtin "object.__class__") = some true)
    (ehm_InvalidView : mroIn K q_InvalidView (.type "object") = some true)
    {q_InvalidWeights : Addr} (aq_InvalidWeights : nsIn K mainGlobals "InvalidWeights" = some (some (.ref q_InvalidWeights)))
    (xb_InvalidWeights : subIn K (.ref q_InvalidWeights) (.type "BaseException") = some true) (xt_InvalidWeights : typeIn K (.ref q_InvalidWeights) = some (.type "type"))
    (xx_InvalidWeights : excIn K q_InvalidWeights mVal "ValueError.__new__" = true) (xk_InvalidWeights : keepIn K (.ref q_InvalidWeights) = true)
    (ega_InvalidWeights : findIn K (.ref q_InvalidWeights) "__getattribute__" = some (some (.builtin "BaseException.__getattribute__")))
    (egt_InvalidWeights : findIn K (.ref q_InvalidWeights) "__getattr__" = some none)
    (ehd_InvalidWeights : hasDictIn K q_InvalidWeights = true)
    (ehc_InvalidWeights : findIn K (.ref q_InvalidWeights) "__class__" = some (some (.builtin "object.__class__")))
    (ehn_InvalidWeights : specialIn K (.builtin "object.__class__") "__get__" = some (some (.builtin "getset_descriptor.__get__")))
    (eht_InvalidWeights : takesIn K (.builtin "object.__class__") = some true)
    (ehm_InvalidWeights : mroIn K q_InvalidWeights (.type "object") = some true)
    {q_NothingToUndo : Addr} (aq_NothingToUndo : nsIn K mainGlobals "NothingToUndo" = some (some (.ref q_NothingToUndo)))
    (xb_NothingToUndo : subIn K (.ref q_NothingToUndo) (.type "BaseException") = some true) (xt_NothingToUndo : typeIn K (.ref q_NothingToUndo) = some (.type "type"))
    (ega_NothingToUndo : findIn K (.ref q_NothingToUndo) "__getattribute__" = some (some (.builtin "BaseException.__getattribute__")))
    (egt_NothingToUndo : findIn K (.ref q_NothingToUndo) "__getattr__" = some none)
    (ehd_NothingToUndo : hasDictIn K q_NothingToUndo = true)
    (ehc_NothingToUndo : findIn K (.ref q_NothingToUndo) "__class__" = some (some (.builtin "object.__class__")))
    (ehn_NothingToUndo : specialIn K (.builtin "object.__class__") "__get__" = some (some (.builtin "getset_descriptor.__get__")))
    (eht_NothingToUndo : takesIn K (.builtin "object.__class__") = some true)
    (ehm_NothingToUndo : mroIn K q_NothingToUndo (.type "object") = some true)
    (em_NothingToUndo : excInitIn K q_NothingToUndo mRun "RuntimeError.__new__" = true) (eo_NothingToUndo : excOver K q_NothingToUndo mRun = true) (es_NothingToUndo : findIn K (.ref q_NothingToUndo) "__setattr__" = some (some (.builtin "object.__setattr__"))) (ek_NothingToUndo : keepIn K (.ref q_NothingToUndo) = true) (et_NothingToUndo : takerIn K q_NothingToUndo "many" = some none) (ef_NothingToUndo : findIn K (.ref q_NothingToUndo) "many" = some none)
    {q_ParseError : Addr} (aq_ParseError : nsIn K mainGlobals "ParseError" = some (some (.ref q_ParseError)))
    (xb_ParseError : subIn K (.ref q_ParseError) (.type "BaseException") = some true) (xt_ParseError : typeIn K (.ref q_ParseError) = some (.type "type"))
    (ega_ParseError : findIn K (.ref q_ParseError) "__getattribute__" = some (some (.builtin "BaseException.__getattribute__")))
    (egt_ParseError : findIn K (.ref q_ParseError) "__getattr__" = some none)
    (ehd_ParseError : hasDictIn K q_ParseError = true)
    (ehc_ParseError : findIn K (.ref q_ParseError) "__class__" = some (some (.builtin "object.__class__")))
    (ehn_ParseError : specialIn K (.builtin "object.__class__") "__get__" = some (some (.builtin "getset_descriptor.__get__")))
    (eht_ParseError : takesIn K (.builtin "object.__class__") = some true)
    (ehm_ParseError : mroIn K q_ParseError (.type "object") = some true)
    (em_ParseError : excInitIn K q_ParseError mVal "ValueError.__new__" = true) (eo_ParseError : excOver K q_ParseError mVal = true) (es_ParseError : findIn K (.ref q_ParseError) "__setattr__" = some (some (.builtin "object.__setattr__"))) (ek_ParseError : keepIn K (.ref q_ParseError) = true) (et_ParseError : takerIn K q_ParseError "number" = some none) (ef_ParseError : findIn K (.ref q_ParseError) "number" = some none)
    (xi_ParseError : isClsIn K q_ParseError = true)
    {q_Refused : Addr} (aq_Refused : nsIn K mainGlobals "Refused" = some (some (.ref q_Refused)))
    (xb_Refused : subIn K (.ref q_Refused) (.type "BaseException") = some true) (xt_Refused : typeIn K (.ref q_Refused) = some (.type "type"))
    (ega_Refused : findIn K (.ref q_Refused) "__getattribute__" = some (some (.builtin "BaseException.__getattribute__")))
    (egt_Refused : findIn K (.ref q_Refused) "__getattr__" = some none)
    (ehd_Refused : hasDictIn K q_Refused = true)
    (ehc_Refused : findIn K (.ref q_Refused) "__class__" = some (some (.builtin "object.__class__")))
    (ehn_Refused : specialIn K (.builtin "object.__class__") "__get__" = some (some (.builtin "getset_descriptor.__get__")))
    (eht_Refused : takesIn K (.builtin "object.__class__") = some true)
    (ehm_Refused : mroIn K q_Refused (.type "object") = some true)
    (em_Refused : excInitIn K q_Refused mAr "ArithmeticError.__new__" = true) (eo_Refused : excOver K q_Refused mAr = true) (es_Refused : findIn K (.ref q_Refused) "__setattr__" = some (some (.builtin "object.__setattr__"))) (ek_Refused : keepIn K (.ref q_Refused) = true) (et_Refused : takerIn K q_Refused "pledge" = some none) (ef_Refused : findIn K (.ref q_Refused) "pledge" = some none)
    {q_RowAbsent : Addr} (aq_RowAbsent : nsIn K mainGlobals "RowAbsent" = some (some (.ref q_RowAbsent)))
    (xb_RowAbsent : subIn K (.ref q_RowAbsent) (.type "BaseException") = some true) (xt_RowAbsent : typeIn K (.ref q_RowAbsent) = some (.type "type"))
    (ega_RowAbsent : findIn K (.ref q_RowAbsent) "__getattribute__" = some (some (.builtin "BaseException.__getattribute__")))
    (egt_RowAbsent : findIn K (.ref q_RowAbsent) "__getattr__" = some none)
    (ehd_RowAbsent : hasDictIn K q_RowAbsent = true)
    (ehc_RowAbsent : findIn K (.ref q_RowAbsent) "__class__" = some (some (.builtin "object.__class__")))
    (ehn_RowAbsent : specialIn K (.builtin "object.__class__") "__get__" = some (some (.builtin "getset_descriptor.__get__")))
    (eht_RowAbsent : takesIn K (.builtin "object.__class__") = some true)
    (ehm_RowAbsent : mroIn K q_RowAbsent (.type "object") = some true)
    (em_RowAbsent : excInitIn K q_RowAbsent mLook "LookupError.__new__" = true) (eo_RowAbsent : excOver K q_RowAbsent mLook = true) (es_RowAbsent : findIn K (.ref q_RowAbsent) "__setattr__" = some (some (.builtin "object.__setattr__"))) (ek_RowAbsent : keepIn K (.ref q_RowAbsent) = true) (et_RowAbsent : takerIn K q_RowAbsent "missed" = some none) (ef_RowAbsent : findIn K (.ref q_RowAbsent) "missed" = some none)
    (xi_RowAbsent : isClsIn K q_RowAbsent = true)
    {q_RowThere : Addr} (aq_RowThere : nsIn K mainGlobals "RowThere" = some (some (.ref q_RowThere)))
    (xb_RowThere : subIn K (.ref q_RowThere) (.type "BaseException") = some true) (xt_RowThere : typeIn K (.ref q_RowThere) = some (.type "type"))
    (ega_RowThere : findIn K (.ref q_RowThere) "__getattribute__" = some (some (.builtin "BaseException.__getattribute__")))
    (egt_RowThere : findIn K (.ref q_RowThere) "__getattr__" = some none)
    (ehd_RowThere : hasDictIn K q_RowThere = true)
    (ehc_RowThere : findIn K (.ref q_RowThere) "__class__" = some (some (.builtin "object.__class__")))
    (ehn_RowThere : specialIn K (.builtin "object.__class__") "__get__" = some (some (.builtin "getset_descriptor.__get__")))
    (eht_RowThere : takesIn K (.builtin "object.__class__") = some true)
    (ehm_RowThere : mroIn K q_RowThere (.type "object") = some true)
    (em_RowThere : excInitIn K q_RowThere mLook "LookupError.__new__" = true) (eo_RowThere : excOver K q_RowThere mLook = true) (es_RowThere : findIn K (.ref q_RowThere) "__setattr__" = some (some (.builtin "object.__setattr__"))) (ek_RowThere : keepIn K (.ref q_RowThere) = true) (et_RowThere : takerIn K q_RowThere "placed" = some none) (ef_RowThere : findIn K (.ref q_RowThere) "placed" = some none)
    (xi_RowThere : isClsIn K q_RowThere = true)
    {q_TooMany : Addr} (aq_TooMany : nsIn K mainGlobals "TooMany" = some (some (.ref q_TooMany)))
    (xb_TooMany : subIn K (.ref q_TooMany) (.type "BaseException") = some true) (xt_TooMany : typeIn K (.ref q_TooMany) = some (.type "type"))
    (ega_TooMany : findIn K (.ref q_TooMany) "__getattribute__" = some (some (.builtin "BaseException.__getattribute__")))
    (egt_TooMany : findIn K (.ref q_TooMany) "__getattr__" = some none)
    (ehd_TooMany : hasDictIn K q_TooMany = true)
    (ehc_TooMany : findIn K (.ref q_TooMany) "__class__" = some (some (.builtin "object.__class__")))
    (ehn_TooMany : specialIn K (.builtin "object.__class__") "__get__" = some (some (.builtin "getset_descriptor.__get__")))
    (eht_TooMany : takesIn K (.builtin "object.__class__") = some true)
    (ehm_TooMany : mroIn K q_TooMany (.type "object") = some true)
    (em_TooMany : excInitIn K q_TooMany mOver "OverflowError.__new__" = true) (eo_TooMany : excOver K q_TooMany mOver = true) (es_TooMany : findIn K (.ref q_TooMany) "__setattr__" = some (some (.builtin "object.__setattr__"))) (ek_TooMany : keepIn K (.ref q_TooMany) = true) (et_TooMany : takerIn K q_TooMany "limit" = some none) (ef_TooMany : findIn K (.ref q_TooMany) "limit" = some none)
    {q_TouchError : Addr} (aq_TouchError : nsIn K mainGlobals "TouchError" = some (some (.ref q_TouchError)))
    (xb_TouchError : subIn K (.ref q_TouchError) (.type "BaseException") = some true) (xt_TouchError : typeIn K (.ref q_TouchError) = some (.type "type"))
    (xx_TouchError : excIn K q_TouchError mVal "ValueError.__new__" = true) (xk_TouchError : keepIn K (.ref q_TouchError) = true)
    (ega_TouchError : findIn K (.ref q_TouchError) "__getattribute__" = some (some (.builtin "BaseException.__getattribute__")))
    (egt_TouchError : findIn K (.ref q_TouchError) "__getattr__" = some none)
    (ehd_TouchError : hasDictIn K q_TouchError = true)
    (ehc_TouchError : findIn K (.ref q_TouchError) "__class__" = some (some (.builtin "object.__class__")))
    (ehn_TouchError : specialIn K (.builtin "object.__class__") "__get__" = some (some (.builtin "getset_descriptor.__get__")))
    (eht_TouchError : takesIn K (.builtin "object.__class__") = some true)
    (ehm_TouchError : mroIn K q_TouchError (.type "object") = some true)
    (xi_TouchError : isClsIn K q_TouchError = true)
    {q_UnknownName : Addr} (aq_UnknownName : nsIn K mainGlobals "UnknownName" = some (some (.ref q_UnknownName)))
    (xb_UnknownName : subIn K (.ref q_UnknownName) (.type "BaseException") = some true) (xt_UnknownName : typeIn K (.ref q_UnknownName) = some (.type "type"))
    (ega_UnknownName : findIn K (.ref q_UnknownName) "__getattribute__" = some (some (.builtin "BaseException.__getattribute__")))
    (egt_UnknownName : findIn K (.ref q_UnknownName) "__getattr__" = some none)
    (ehd_UnknownName : hasDictIn K q_UnknownName = true)
    (ehc_UnknownName : findIn K (.ref q_UnknownName) "__class__" = some (some (.builtin "object.__class__")))
    (ehn_UnknownName : specialIn K (.builtin "object.__class__") "__get__" = some (some (.builtin "getset_descriptor.__get__")))
    (eht_UnknownName : takesIn K (.builtin "object.__class__") = some true)
    (ehm_UnknownName : mroIn K q_UnknownName (.type "object") = some true)
    (em_UnknownName : excInitIn K q_UnknownName mKey "LookupError.__new__" = true) (eo_UnknownName : excOver K q_UnknownName mKey = true) (es_UnknownName : findIn K (.ref q_UnknownName) "__setattr__" = some (some (.builtin "object.__setattr__"))) (ek_UnknownName : keepIn K (.ref q_UnknownName) = true) (et_UnknownName : takerIn K q_UnknownName "word" = some none) (ef_UnknownName : findIn K (.ref q_UnknownName) "word" = some none)
    (xf_ow_InvalidRatio : OwnK K [.ref q_InvalidRatio, .ref q_InvalidQuestion, .ref q_InvalidRow, .ref q_InvalidStore, .ref q_InvalidView, .ref q_InvalidPlan, .ref q_InvalidWeights, .ref q_InvalidOperation, .ref q_ParseError, .ref q_UnknownName, .ref q_RowThere, .ref q_RowAbsent, .ref q_InvalidNumber, .ref q_NothingToUndo, .ref q_TooMany, .ref q_Refused] q_InvalidRatio [true, false, false, false, false, false, false, false, false, false, false, false, false, false, false, false])
    (xf_kb_InvalidRatio : OwnK K [.ref q_TouchError, .type "ValueError", .type "KeyError", .type "IndexError", .type "LookupError", .type "RuntimeError", .type "OverflowError", .type "ArithmeticError"] q_InvalidRatio [true, true, false, false, false, false, false, false])
    (xf_ow_InvalidQuestion : OwnK K [.ref q_InvalidRatio, .ref q_InvalidQuestion, .ref q_InvalidRow, .ref q_InvalidStore, .ref q_InvalidView, .ref q_InvalidPlan, .ref q_InvalidWeights, .ref q_InvalidOperation, .ref q_ParseError, .ref q_UnknownName, .ref q_RowThere, .ref q_RowAbsent, .ref q_InvalidNumber, .ref q_NothingToUndo, .ref q_TooMany, .ref q_Refused] q_InvalidQuestion [false, true, false, false, false, false, false, false, false, false, false, false, false, false, false, false])
    (xf_kb_InvalidQuestion : OwnK K [.ref q_TouchError, .type "ValueError", .type "KeyError", .type "IndexError", .type "LookupError", .type "RuntimeError", .type "OverflowError", .type "ArithmeticError"] q_InvalidQuestion [true, true, false, false, false, false, false, false])
    (xf_ow_InvalidRow : OwnK K [.ref q_InvalidRatio, .ref q_InvalidQuestion, .ref q_InvalidRow, .ref q_InvalidStore, .ref q_InvalidView, .ref q_InvalidPlan, .ref q_InvalidWeights, .ref q_InvalidOperation, .ref q_ParseError, .ref q_UnknownName, .ref q_RowThere, .ref q_RowAbsent, .ref q_InvalidNumber, .ref q_NothingToUndo, .ref q_TooMany, .ref q_Refused] q_InvalidRow [false, false, true, false, false, false, false, false, false, false, false, false, false, false, false, false])
    (xf_kb_InvalidRow : OwnK K [.ref q_TouchError, .type "ValueError", .type "KeyError", .type "IndexError", .type "LookupError", .type "RuntimeError", .type "OverflowError", .type "ArithmeticError"] q_InvalidRow [true, true, false, false, false, false, false, false])
    (xf_ow_InvalidStore : OwnK K [.ref q_InvalidRatio, .ref q_InvalidQuestion, .ref q_InvalidRow, .ref q_InvalidStore, .ref q_InvalidView, .ref q_InvalidPlan, .ref q_InvalidWeights, .ref q_InvalidOperation, .ref q_ParseError, .ref q_UnknownName, .ref q_RowThere, .ref q_RowAbsent, .ref q_InvalidNumber, .ref q_NothingToUndo, .ref q_TooMany, .ref q_Refused] q_InvalidStore [false, false, false, true, false, false, false, false, false, false, false, false, false, false, false, false])
    (xf_kb_InvalidStore : OwnK K [.ref q_TouchError, .type "ValueError", .type "KeyError", .type "IndexError", .type "LookupError", .type "RuntimeError", .type "OverflowError", .type "ArithmeticError"] q_InvalidStore [true, true, false, false, false, false, false, false])
    (xf_ow_InvalidView : OwnK K [.ref q_InvalidRatio, .ref q_InvalidQuestion, .ref q_InvalidRow, .ref q_InvalidStore, .ref q_InvalidView, .ref q_InvalidPlan, .ref q_InvalidWeights, .ref q_InvalidOperation, .ref q_ParseError, .ref q_UnknownName, .ref q_RowThere, .ref q_RowAbsent, .ref q_InvalidNumber, .ref q_NothingToUndo, .ref q_TooMany, .ref q_Refused] q_InvalidView [false, false, false, false, true, false, false, false, false, false, false, false, false, false, false, false])
    (xf_kb_InvalidView : OwnK K [.ref q_TouchError, .type "ValueError", .type "KeyError", .type "IndexError", .type "LookupError", .type "RuntimeError", .type "OverflowError", .type "ArithmeticError"] q_InvalidView [true, true, false, false, false, false, false, false])
    (xf_ow_InvalidPlan : OwnK K [.ref q_InvalidRatio, .ref q_InvalidQuestion, .ref q_InvalidRow, .ref q_InvalidStore, .ref q_InvalidView, .ref q_InvalidPlan, .ref q_InvalidWeights, .ref q_InvalidOperation, .ref q_ParseError, .ref q_UnknownName, .ref q_RowThere, .ref q_RowAbsent, .ref q_InvalidNumber, .ref q_NothingToUndo, .ref q_TooMany, .ref q_Refused] q_InvalidPlan [false, false, false, false, false, true, false, false, false, false, false, false, false, false, false, false])
    (xf_kb_InvalidPlan : OwnK K [.ref q_TouchError, .type "ValueError", .type "KeyError", .type "IndexError", .type "LookupError", .type "RuntimeError", .type "OverflowError", .type "ArithmeticError"] q_InvalidPlan [true, true, false, false, false, false, false, false])
    (xf_ow_InvalidWeights : OwnK K [.ref q_InvalidRatio, .ref q_InvalidQuestion, .ref q_InvalidRow, .ref q_InvalidStore, .ref q_InvalidView, .ref q_InvalidPlan, .ref q_InvalidWeights, .ref q_InvalidOperation, .ref q_ParseError, .ref q_UnknownName, .ref q_RowThere, .ref q_RowAbsent, .ref q_InvalidNumber, .ref q_NothingToUndo, .ref q_TooMany, .ref q_Refused] q_InvalidWeights [false, false, false, false, false, false, true, false, false, false, false, false, false, false, false, false])
    (xf_kb_InvalidWeights : OwnK K [.ref q_TouchError, .type "ValueError", .type "KeyError", .type "IndexError", .type "LookupError", .type "RuntimeError", .type "OverflowError", .type "ArithmeticError"] q_InvalidWeights [true, true, false, false, false, false, false, false])
    (xf_ow_InvalidOperation : OwnK K [.ref q_InvalidRatio, .ref q_InvalidQuestion, .ref q_InvalidRow, .ref q_InvalidStore, .ref q_InvalidView, .ref q_InvalidPlan, .ref q_InvalidWeights, .ref q_InvalidOperation, .ref q_ParseError, .ref q_UnknownName, .ref q_RowThere, .ref q_RowAbsent, .ref q_InvalidNumber, .ref q_NothingToUndo, .ref q_TooMany, .ref q_Refused] q_InvalidOperation [false, false, false, false, false, false, false, true, false, false, false, false, false, false, false, false])
    (xf_kb_InvalidOperation : OwnK K [.ref q_TouchError, .type "ValueError", .type "KeyError", .type "IndexError", .type "LookupError", .type "RuntimeError", .type "OverflowError", .type "ArithmeticError"] q_InvalidOperation [true, true, false, false, false, false, false, false])
    (xf_ow_ParseError : OwnK K [.ref q_InvalidRatio, .ref q_InvalidQuestion, .ref q_InvalidRow, .ref q_InvalidStore, .ref q_InvalidView, .ref q_InvalidPlan, .ref q_InvalidWeights, .ref q_InvalidOperation, .ref q_ParseError, .ref q_UnknownName, .ref q_RowThere, .ref q_RowAbsent, .ref q_InvalidNumber, .ref q_NothingToUndo, .ref q_TooMany, .ref q_Refused] q_ParseError [false, false, false, false, false, false, false, false, true, false, false, false, false, false, false, false])
    (xf_kb_ParseError : OwnK K [.ref q_TouchError, .type "ValueError", .type "KeyError", .type "IndexError", .type "LookupError", .type "RuntimeError", .type "OverflowError", .type "ArithmeticError"] q_ParseError [true, true, false, false, false, false, false, false])
    (xf_ow_UnknownName : OwnK K [.ref q_InvalidRatio, .ref q_InvalidQuestion, .ref q_InvalidRow, .ref q_InvalidStore, .ref q_InvalidView, .ref q_InvalidPlan, .ref q_InvalidWeights, .ref q_InvalidOperation, .ref q_ParseError, .ref q_UnknownName, .ref q_RowThere, .ref q_RowAbsent, .ref q_InvalidNumber, .ref q_NothingToUndo, .ref q_TooMany, .ref q_Refused] q_UnknownName [false, false, false, false, false, false, false, false, false, true, false, false, false, false, false, false])
    (xf_kb_UnknownName : OwnK K [.ref q_TouchError, .type "ValueError", .type "KeyError", .type "IndexError", .type "LookupError", .type "RuntimeError", .type "OverflowError", .type "ArithmeticError"] q_UnknownName [false, false, true, false, true, false, false, false])
    (xf_ow_RowThere : OwnK K [.ref q_InvalidRatio, .ref q_InvalidQuestion, .ref q_InvalidRow, .ref q_InvalidStore, .ref q_InvalidView, .ref q_InvalidPlan, .ref q_InvalidWeights, .ref q_InvalidOperation, .ref q_ParseError, .ref q_UnknownName, .ref q_RowThere, .ref q_RowAbsent, .ref q_InvalidNumber, .ref q_NothingToUndo, .ref q_TooMany, .ref q_Refused] q_RowThere [false, false, false, false, false, false, false, false, false, false, true, false, false, false, false, false])
    (xf_kb_RowThere : OwnK K [.ref q_TouchError, .type "ValueError", .type "KeyError", .type "IndexError", .type "LookupError", .type "RuntimeError", .type "OverflowError", .type "ArithmeticError"] q_RowThere [false, false, false, false, true, false, false, false])
    (xf_ow_RowAbsent : OwnK K [.ref q_InvalidRatio, .ref q_InvalidQuestion, .ref q_InvalidRow, .ref q_InvalidStore, .ref q_InvalidView, .ref q_InvalidPlan, .ref q_InvalidWeights, .ref q_InvalidOperation, .ref q_ParseError, .ref q_UnknownName, .ref q_RowThere, .ref q_RowAbsent, .ref q_InvalidNumber, .ref q_NothingToUndo, .ref q_TooMany, .ref q_Refused] q_RowAbsent [false, false, false, false, false, false, false, false, false, false, false, true, false, false, false, false])
    (xf_kb_RowAbsent : OwnK K [.ref q_TouchError, .type "ValueError", .type "KeyError", .type "IndexError", .type "LookupError", .type "RuntimeError", .type "OverflowError", .type "ArithmeticError"] q_RowAbsent [false, false, false, false, true, false, false, false])
    (xf_ow_InvalidNumber : OwnK K [.ref q_InvalidRatio, .ref q_InvalidQuestion, .ref q_InvalidRow, .ref q_InvalidStore, .ref q_InvalidView, .ref q_InvalidPlan, .ref q_InvalidWeights, .ref q_InvalidOperation, .ref q_ParseError, .ref q_UnknownName, .ref q_RowThere, .ref q_RowAbsent, .ref q_InvalidNumber, .ref q_NothingToUndo, .ref q_TooMany, .ref q_Refused] q_InvalidNumber [false, false, false, false, false, false, false, false, false, false, false, false, true, false, false, false])
    (xf_kb_InvalidNumber : OwnK K [.ref q_TouchError, .type "ValueError", .type "KeyError", .type "IndexError", .type "LookupError", .type "RuntimeError", .type "OverflowError", .type "ArithmeticError"] q_InvalidNumber [false, false, false, true, true, false, false, false])
    (xf_ow_NothingToUndo : OwnK K [.ref q_InvalidRatio, .ref q_InvalidQuestion, .ref q_InvalidRow, .ref q_InvalidStore, .ref q_InvalidView, .ref q_InvalidPlan, .ref q_InvalidWeights, .ref q_InvalidOperation, .ref q_ParseError, .ref q_UnknownName, .ref q_RowThere, .ref q_RowAbsent, .ref q_InvalidNumber, .ref q_NothingToUndo, .ref q_TooMany, .ref q_Refused] q_NothingToUndo [false, false, false, false, false, false, false, false, false, false, false, false, false, true, false, false])
    (xf_kb_NothingToUndo : OwnK K [.ref q_TouchError, .type "ValueError", .type "KeyError", .type "IndexError", .type "LookupError", .type "RuntimeError", .type "OverflowError", .type "ArithmeticError"] q_NothingToUndo [false, false, false, false, false, true, false, false])
    (xf_ow_TooMany : OwnK K [.ref q_InvalidRatio, .ref q_InvalidQuestion, .ref q_InvalidRow, .ref q_InvalidStore, .ref q_InvalidView, .ref q_InvalidPlan, .ref q_InvalidWeights, .ref q_InvalidOperation, .ref q_ParseError, .ref q_UnknownName, .ref q_RowThere, .ref q_RowAbsent, .ref q_InvalidNumber, .ref q_NothingToUndo, .ref q_TooMany, .ref q_Refused] q_TooMany [false, false, false, false, false, false, false, false, false, false, false, false, false, false, true, false])
    (xf_kb_TooMany : OwnK K [.ref q_TouchError, .type "ValueError", .type "KeyError", .type "IndexError", .type "LookupError", .type "RuntimeError", .type "OverflowError", .type "ArithmeticError"] q_TooMany [false, false, false, false, false, false, true, true])
    (xf_ow_Refused : OwnK K [.ref q_InvalidRatio, .ref q_InvalidQuestion, .ref q_InvalidRow, .ref q_InvalidStore, .ref q_InvalidView, .ref q_InvalidPlan, .ref q_InvalidWeights, .ref q_InvalidOperation, .ref q_ParseError, .ref q_UnknownName, .ref q_RowThere, .ref q_RowAbsent, .ref q_InvalidNumber, .ref q_NothingToUndo, .ref q_TooMany, .ref q_Refused] q_Refused [false, false, false, false, false, false, false, false, false, false, false, false, false, false, false, true])
    (xf_kb_Refused : OwnK K [.ref q_TouchError, .type "ValueError", .type "KeyError", .type "IndexError", .type "LookupError", .type "RuntimeError", .type "OverflowError", .type "ArithmeticError"] q_Refused [false, false, false, false, false, false, false, true])
    (xf_ow_TouchError : OwnK K [.ref q_InvalidRatio, .ref q_InvalidQuestion, .ref q_InvalidRow, .ref q_InvalidStore, .ref q_InvalidView, .ref q_InvalidPlan, .ref q_InvalidWeights, .ref q_InvalidOperation, .ref q_ParseError, .ref q_UnknownName, .ref q_RowThere, .ref q_RowAbsent, .ref q_InvalidNumber, .ref q_NothingToUndo, .ref q_TooMany, .ref q_Refused] q_TouchError [false, false, false, false, false, false, false, false, false, false, false, false, false, false, false, false])
    (xf_kb_TouchError : OwnK K [.ref q_TouchError, .type "ValueError", .type "KeyError", .type "IndexError", .type "LookupError", .type "RuntimeError", .type "OverflowError", .type "ArithmeticError"] q_TouchError [true, true, false, false, false, false, false, false])
    (xf_e_InvalidWeights_ParseError : PySem.W.exmOne K (.ref q_InvalidWeights) (.ref q_ParseError) = some false)
    (xf_e_InvalidWeights_TouchError : PySem.W.exmOne K (.ref q_InvalidWeights) (.ref q_TouchError) = some true)
    (xf_e_RowAbsent_ParseError : PySem.W.exmOne K (.ref q_RowAbsent) (.ref q_ParseError) = some false)
    (xf_e_RowAbsent_TouchError : PySem.W.exmOne K (.ref q_RowAbsent) (.ref q_TouchError) = some false)
    (xf_e_RowAbsent_RowThere : PySem.W.exmOne K (.ref q_RowAbsent) (.ref q_RowThere) = some false)
    (xf_e_RowAbsent_RowAbsent : PySem.W.exmOne K (.ref q_RowAbsent) (.ref q_RowAbsent) = some true)
    (xf_e_RowThere_ParseError : PySem.W.exmOne K (.ref q_RowThere) (.ref q_ParseError) = some false)
    (xf_e_RowThere_TouchError : PySem.W.exmOne K (.ref q_RowThere) (.ref q_TouchError) = some false)
    (xf_e_RowThere_RowThere : PySem.W.exmOne K (.ref q_RowThere) (.ref q_RowThere) = some true)
    (xf_e_ParseError_ParseError : PySem.W.exmOne K (.ref q_ParseError) (.ref q_ParseError) = some true)
    {f1 : Addr} {od1 an1 : Option Addr} {sl1 : Array (Option Value)} {oc1 kV1 dc1 pm1 cd1 ct1 : Value} (a1 : nsIn K mainGlobals "_law_dice" = some (some (.ref f1)))
    (l1 : K.lookup f1 = some ⟨oc1, od1, .func (fnOf "_law_dice" "_law_dice" (defArgs s__law_dice) (defBody s__law_dice) (defScope s__law_dice) .none kV1 dc1 pm1 an1 cd1 ct1), sl1⟩) (c1 : codeIn K cd1 "_law_dice" = true) (k1 : keepIn K (.ref f1) = true)
    {f2 : Addr} {od2 an2 : Option Addr} {sl2 : Array (Option Value)} {oc2 kV2 dc2 pm2 cd2 ct2 : Value} (a2 : nsIn K mainGlobals "_law_roll" = some (some (.ref f2)))
    (l2 : K.lookup f2 = some ⟨oc2, od2, .func (fnOf "_law_roll" "_law_roll" (defArgs s__law_roll) (defBody s__law_roll) (defScope s__law_roll) .none kV2 dc2 pm2 an2 cd2 ct2), sl2⟩) (c2 : codeIn K cd2 "_law_roll" = true) (k2 : keepIn K (.ref f2) = true)
    {f3 : Addr} {od3 an3 : Option Addr} {sl3 : Array (Option Value)} {oc3 kV3 dc3 pm3 cd3 ct3 : Value} (a3 : nsIn K mainGlobals "_law_pick" = some (some (.ref f3)))
    (l3 : K.lookup f3 = some ⟨oc3, od3, .func (fnOf "_law_pick" "_law_pick" (defArgs s__law_pick) (defBody s__law_pick) (defScope s__law_pick) .none kV3 dc3 pm3 an3 cd3 ct3), sl3⟩) (c3 : codeIn K cd3 "_law_pick" = true) (k3 : keepIn K (.ref f3) = true)
    {f4 : Addr} {od4 an4 : Option Addr} {sl4 : Array (Option Value)} {oc4 kV4 dc4 pm4 cd4 ct4 : Value} (a4 : nsIn K mainGlobals "_law_own" = some (some (.ref f4)))
    (l4 : K.lookup f4 = some ⟨oc4, od4, .func (fnOf "_law_own" "_law_own" (defArgs s__law_own) (defBody s__law_own) (defScope s__law_own) .none kV4 dc4 pm4 an4 cd4 ct4), sl4⟩) (c4 : codeIn K cd4 "_law_own" = true) (k4 : keepIn K (.ref f4) = true)
    {f5 : Addr} {od5 an5 : Option Addr} {sl5 : Array (Option Value)} {oc5 kV5 dc5 pm5 cd5 ct5 : Value} (a5 : nsIn K mainGlobals "_law_whole" = some (some (.ref f5)))
    (l5 : K.lookup f5 = some ⟨oc5, od5, .func (fnOf "_law_whole" "_law_whole" (defArgs s__law_whole) (defBody s__law_whole) (defScope s__law_whole) .none kV5 dc5 pm5 an5 cd5 ct5), sl5⟩) (c5 : codeIn K cd5 "_law_whole" = true) (k5 : keepIn K (.ref f5) = true)
    {f6 : Addr} {od6 an6 : Option Addr} {sl6 : Array (Option Value)} {oc6 kV6 dc6 pm6 cd6 ct6 : Value} (a6 : nsIn K mainGlobals "_law_messages" = some (some (.ref f6)))
    (l6 : K.lookup f6 = some ⟨oc6, od6, .func (fnOf "_law_messages" "_law_messages" (defArgs s__law_messages) (defBody s__law_messages) (defScope s__law_messages) .none kV6 dc6 pm6 an6 cd6 ct6), sl6⟩) (c6 : codeIn K cd6 "_law_messages" = true) (k6 : keepIn K (.ref f6) = true)
    {f7 : Addr} (a7 : findIn K (.ref q_ParseError) "__init__" = some (some (.ref f7))) (i7 : isFn K (.ref f7) = true)
    {od7 an7 : Option Addr} {sl7 : Array (Option Value)} {oc7 kV7 dc7 pm7 cd7 ct7 : Value} (l7 : K.lookup f7 = some ⟨oc7, od7, .func (fnOf "__init__" "ParseError.__init__" (defArgs s_ParseError___init__) (defBody s_ParseError___init__) (defScope s_ParseError___init__) .none kV7 dc7 pm7 an7 cd7 ct7), sl7⟩) (c7 : codeIn K cd7 "ParseError.__init__" = true) (k7 : keepIn K (.ref f7) = true)
    (it_ParseError : typeIn K (.ref f7) = some (.type "function"))
    {f8 : Addr} (a8 : findIn K (.ref q_UnknownName) "__init__" = some (some (.ref f8))) (i8 : isFn K (.ref f8) = true)
    {od8 an8 : Option Addr} {sl8 : Array (Option Value)} {oc8 kV8 dc8 pm8 cd8 ct8 : Value} (l8 : K.lookup f8 = some ⟨oc8, od8, .func (fnOf "__init__" "UnknownName.__init__" (defArgs s_UnknownName___init__) (defBody s_UnknownName___init__) (defScope s_UnknownName___init__) .none kV8 dc8 pm8 an8 cd8 ct8), sl8⟩) (c8 : codeIn K cd8 "UnknownName.__init__" = true) (k8 : keepIn K (.ref f8) = true)
    (it_UnknownName : typeIn K (.ref f8) = some (.type "function"))
    {f9 : Addr} (a9 : findIn K (.ref q_RowThere) "__init__" = some (some (.ref f9))) (i9 : isFn K (.ref f9) = true)
    {od9 an9 : Option Addr} {sl9 : Array (Option Value)} {oc9 kV9 dc9 pm9 cd9 ct9 : Value} (l9 : K.lookup f9 = some ⟨oc9, od9, .func (fnOf "__init__" "RowThere.__init__" (defArgs s_RowThere___init__) (defBody s_RowThere___init__) (defScope s_RowThere___init__) .none kV9 dc9 pm9 an9 cd9 ct9), sl9⟩) (c9 : codeIn K cd9 "RowThere.__init__" = true) (k9 : keepIn K (.ref f9) = true)
    (it_RowThere : typeIn K (.ref f9) = some (.type "function"))
    {f10 : Addr} (a10 : findIn K (.ref q_RowAbsent) "__init__" = some (some (.ref f10))) (i10 : isFn K (.ref f10) = true)
    {od10 an10 : Option Addr} {sl10 : Array (Option Value)} {oc10 kV10 dc10 pm10 cd10 ct10 : Value} (l10 : K.lookup f10 = some ⟨oc10, od10, .func (fnOf "__init__" "RowAbsent.__init__" (defArgs s_RowAbsent___init__) (defBody s_RowAbsent___init__) (defScope s_RowAbsent___init__) .none kV10 dc10 pm10 an10 cd10 ct10), sl10⟩) (c10 : codeIn K cd10 "RowAbsent.__init__" = true) (k10 : keepIn K (.ref f10) = true)
    (it_RowAbsent : typeIn K (.ref f10) = some (.type "function"))
    {f11 : Addr} (a11 : findIn K (.ref q_InvalidNumber) "__init__" = some (some (.ref f11))) (i11 : isFn K (.ref f11) = true)
    {od11 an11 : Option Addr} {sl11 : Array (Option Value)} {oc11 kV11 dc11 pm11 cd11 ct11 : Value} (l11 : K.lookup f11 = some ⟨oc11, od11, .func (fnOf "__init__" "InvalidNumber.__init__" (defArgs s_InvalidNumber___init__) (defBody s_InvalidNumber___init__) (defScope s_InvalidNumber___init__) .none kV11 dc11 pm11 an11 cd11 ct11), sl11⟩) (c11 : codeIn K cd11 "InvalidNumber.__init__" = true) (k11 : keepIn K (.ref f11) = true)
    (it_InvalidNumber : typeIn K (.ref f11) = some (.type "function"))
    {f12 : Addr} (a12 : findIn K (.ref q_NothingToUndo) "__init__" = some (some (.ref f12))) (i12 : isFn K (.ref f12) = true)
    {od12 an12 : Option Addr} {sl12 : Array (Option Value)} {oc12 kV12 dc12 pm12 cd12 ct12 : Value} (l12 : K.lookup f12 = some ⟨oc12, od12, .func (fnOf "__init__" "NothingToUndo.__init__" (defArgs s_NothingToUndo___init__) (defBody s_NothingToUndo___init__) (defScope s_NothingToUndo___init__) .none kV12 dc12 pm12 an12 cd12 ct12), sl12⟩) (c12 : codeIn K cd12 "NothingToUndo.__init__" = true) (k12 : keepIn K (.ref f12) = true)
    (it_NothingToUndo : typeIn K (.ref f12) = some (.type "function"))
    {f13 : Addr} (a13 : findIn K (.ref q_TooMany) "__init__" = some (some (.ref f13))) (i13 : isFn K (.ref f13) = true)
    {od13 an13 : Option Addr} {sl13 : Array (Option Value)} {oc13 kV13 dc13 pm13 cd13 ct13 : Value} (l13 : K.lookup f13 = some ⟨oc13, od13, .func (fnOf "__init__" "TooMany.__init__" (defArgs s_TooMany___init__) (defBody s_TooMany___init__) (defScope s_TooMany___init__) .none kV13 dc13 pm13 an13 cd13 ct13), sl13⟩) (c13 : codeIn K cd13 "TooMany.__init__" = true) (k13 : keepIn K (.ref f13) = true)
    (it_TooMany : typeIn K (.ref f13) = some (.type "function"))
    {f14 : Addr} (a14 : findIn K (.ref q_Refused) "__init__" = some (some (.ref f14))) (i14 : isFn K (.ref f14) = true)
    {od14 an14 : Option Addr} {sl14 : Array (Option Value)} {oc14 kV14 dc14 pm14 cd14 ct14 : Value} (l14 : K.lookup f14 = some ⟨oc14, od14, .func (fnOf "__init__" "Refused.__init__" (defArgs s_Refused___init__) (defBody s_Refused___init__) (defScope s_Refused___init__) .none kV14 dc14 pm14 an14 cd14 ct14), sl14⟩) (c14 : codeIn K cd14 "Refused.__init__" = true) (k14 : keepIn K (.ref f14) = true)
    (it_Refused : typeIn K (.ref f14) = some (.type "function"))
    {f15 : Addr} {od15 an15 : Option Addr} {sl15 : Array (Option Value)} {oc15 kV15 dc15 pm15 cd15 ct15 : Value} (a15 : nsIn K mainGlobals "_law_stored" = some (some (.ref f15)))
    (l15 : K.lookup f15 = some ⟨oc15, od15, .func (fnOf "_law_stored" "_law_stored" (defArgs s__law_stored) (defBody s__law_stored) (defScope s__law_stored) .none kV15 dc15 pm15 an15 cd15 ct15), sl15⟩) (c15 : codeIn K cd15 "_law_stored" = true) (k15 : keepIn K (.ref f15) = true)
    {f16 : Addr} {od16 an16 : Option Addr} {sl16 : Array (Option Value)} {oc16 kV16 dc16 pm16 cd16 ct16 : Value} (a16 : nsIn K mainGlobals "_law_caught" = some (some (.ref f16)))
    (l16 : K.lookup f16 = some ⟨oc16, od16, .func (fnOf "_law_caught" "_law_caught" (defArgs s__law_caught) (defBody s__law_caught) (defScope s__law_caught) .none kV16 dc16 pm16 an16 cd16 ct16), sl16⟩) (c16 : codeIn K cd16 "_law_caught" = true) (k16 : keepIn K (.ref f16) = true)
    {f17 : Addr} {od17 an17 : Option Addr} {sl17 : Array (Option Value)} {oc17 kV17 dc17 pm17 cd17 ct17 : Value} (a17 : nsIn K mainGlobals "_law_right" = some (some (.ref f17)))
    (l17 : K.lookup f17 = some ⟨oc17, od17, .func (fnOf "_law_right" "_law_right" (defArgs s__law_right) (defBody s__law_right) (defScope s__law_right) .none kV17 dc17 pm17 an17 cd17 ct17), sl17⟩) (c17 : codeIn K cd17 "_law_right" = true) (k17 : keepIn K (.ref f17) = true)
    {f18 : Addr} {od18 an18 : Option Addr} {sl18 : Array (Option Value)} {oc18 kV18 dc18 pm18 cd18 ct18 : Value} (a18 : nsIn K mainGlobals "law" = some (some (.ref f18)))
    (l18 : K.lookup f18 = some ⟨oc18, od18, .func (fnOf "law" "law" (defArgs s_law) (defBody s_law) (defScope s_law) .none kV18 dc18 pm18 an18 cd18 ct18), sl18⟩) (c18 : codeIn K cd18 "law" = true) (k18 : keepIn K (.ref f18) = true)
    (z_ArithmeticError : nsIn K mainGlobals "ArithmeticError" = some none)
    (z_IndexError : nsIn K mainGlobals "IndexError" = some none)
    (z_KeyError : nsIn K mainGlobals "KeyError" = some none)
    (z_LookupError : nsIn K mainGlobals "LookupError" = some none)
    (z_OverflowError : nsIn K mainGlobals "OverflowError" = some none)
    (z_RuntimeError : nsIn K mainGlobals "RuntimeError" = some none)
    (z_ValueError : nsIn K mainGlobals "ValueError" = some none)
    (z_abs : nsIn K mainGlobals "abs" = some none)
    (z_int : nsIn K mainGlobals "int" = some none)
    (z_isinstance : nsIn K mainGlobals "isinstance" = some none)
    (z_len : nsIn K mainGlobals "len" = some none)
    (z_max : nsIn K mainGlobals "max" = some none)
    (z_min : nsIn K mainGlobals "min" = some none)
    (z_range : nsIn K mainGlobals "range" = some none)
    (z_repr : nsIn K mainGlobals "repr" = some none) :
    ∃ fd : FuncData, (∀ (s : Shared) (v : Value), BindsTo s fd ⟨[v], []⟩ [("_law_script", v)]) ∧ ∀ base : Heap, K.In base → base.Ns mainGlobals mg → FnG P w K mg base CX0 5 fa fd ["_law_script"] (sp_law K) := by
  have e := hfa.symm.trans (mg_of X G a18)
  cases e
  let T : Txt K mg := {
    c_InvalidNumber := q_InvalidNumber,
    g_InvalidNumber := mg_of X G aq_InvalidNumber,
    XC_InvalidNumber := ⟨em_InvalidNumber, eo_InvalidNumber, es_InvalidNumber, ek_InvalidNumber, ⟨ega_InvalidNumber, egt_InvalidNumber, xb_InvalidNumber, ehd_InvalidNumber, ehc_InvalidNumber, ehn_InvalidNumber, eht_InvalidNumber, ehm_InvalidNumber⟩, xt_InvalidNumber⟩,
    HT_InvalidNumber := et_InvalidNumber,
    HF_InvalidNumber := ef_InvalidNumber,
    c_InvalidOperation := q_InvalidOperation,
    g_InvalidOperation := mg_of X G aq_InvalidOperation,
    x_InvalidOperation := xx_InvalidOperation,
    k_InvalidOperation := xk_InvalidOperation,
    b_InvalidOperation := xb_InvalidOperation,
    t_InvalidOperation := xt_InvalidOperation,
    is_InvalidOperation := ⟨ega_InvalidOperation, egt_InvalidOperation, xb_InvalidOperation, ehd_InvalidOperation, ehc_InvalidOperation, ehn_InvalidOperation, eht_InvalidOperation, ehm_InvalidOperation⟩,
    c_InvalidPlan := q_InvalidPlan,
    g_InvalidPlan := mg_of X G aq_InvalidPlan,
    x_InvalidPlan := xx_InvalidPlan,
    k_InvalidPlan := xk_InvalidPlan,
    b_InvalidPlan := xb_InvalidPlan,
    t_InvalidPlan := xt_InvalidPlan,
    is_InvalidPlan := ⟨ega_InvalidPlan, egt_InvalidPlan, xb_InvalidPlan, ehd_InvalidPlan, ehc_InvalidPlan, ehn_InvalidPlan, eht_InvalidPlan, ehm_InvalidPlan⟩,
    c_InvalidQuestion := q_InvalidQuestion,
    g_InvalidQuestion := mg_of X G aq_InvalidQuestion,
    x_InvalidQuestion := xx_InvalidQuestion,
    k_InvalidQuestion := xk_InvalidQuestion,
    b_InvalidQuestion := xb_InvalidQuestion,
    t_InvalidQuestion := xt_InvalidQuestion,
    is_InvalidQuestion := ⟨ega_InvalidQuestion, egt_InvalidQuestion, xb_InvalidQuestion, ehd_InvalidQuestion, ehc_InvalidQuestion, ehn_InvalidQuestion, eht_InvalidQuestion, ehm_InvalidQuestion⟩,
    c_InvalidRatio := q_InvalidRatio,
    g_InvalidRatio := mg_of X G aq_InvalidRatio,
    x_InvalidRatio := xx_InvalidRatio,
    k_InvalidRatio := xk_InvalidRatio,
    b_InvalidRatio := xb_InvalidRatio,
    t_InvalidRatio := xt_InvalidRatio,
    is_InvalidRatio := ⟨ega_InvalidRatio, egt_InvalidRatio, xb_InvalidRatio, ehd_InvalidRatio, ehc_InvalidRatio, ehn_InvalidRatio, eht_InvalidRatio, ehm_InvalidRatio⟩,
    c_InvalidRow := q_InvalidRow,
    g_InvalidRow := mg_of X G aq_InvalidRow,
    x_InvalidRow := xx_InvalidRow,
    k_InvalidRow := xk_InvalidRow,
    b_InvalidRow := xb_InvalidRow,
    t_InvalidRow := xt_InvalidRow,
    is_InvalidRow := ⟨ega_InvalidRow, egt_InvalidRow, xb_InvalidRow, ehd_InvalidRow, ehc_InvalidRow, ehn_InvalidRow, eht_InvalidRow, ehm_InvalidRow⟩,
    c_InvalidStore := q_InvalidStore,
    g_InvalidStore := mg_of X G aq_InvalidStore,
    x_InvalidStore := xx_InvalidStore,
    k_InvalidStore := xk_InvalidStore,
    b_InvalidStore := xb_InvalidStore,
    t_InvalidStore := xt_InvalidStore,
    is_InvalidStore := ⟨ega_InvalidStore, egt_InvalidStore, xb_InvalidStore, ehd_InvalidStore, ehc_InvalidStore, ehn_InvalidStore, eht_InvalidStore, ehm_InvalidStore⟩,
    c_InvalidView := q_InvalidView,
    g_InvalidView := mg_of X G aq_InvalidView,
    x_InvalidView := xx_InvalidView,
    k_InvalidView := xk_InvalidView,
    b_InvalidView := xb_InvalidView,
    t_InvalidView := xt_InvalidView,
    is_InvalidView := ⟨ega_InvalidView, egt_InvalidView, xb_InvalidView, ehd_InvalidView, ehc_InvalidView, ehn_InvalidView, eht_InvalidView, ehm_InvalidView⟩,
    c_InvalidWeights := q_InvalidWeights,
    g_InvalidWeights := mg_of X G aq_InvalidWeights,
    x_InvalidWeights := xx_InvalidWeights,
    k_InvalidWeights := xk_InvalidWeights,
    b_InvalidWeights := xb_InvalidWeights,
    t_InvalidWeights := xt_InvalidWeights,
    is_InvalidWeights := ⟨ega_InvalidWeights, egt_InvalidWeights, xb_InvalidWeights, ehd_InvalidWeights, ehc_InvalidWeights, ehn_InvalidWeights, eht_InvalidWeights, ehm_InvalidWeights⟩,
    c_NothingToUndo := q_NothingToUndo,
    g_NothingToUndo := mg_of X G aq_NothingToUndo,
    XC_NothingToUndo := ⟨em_NothingToUndo, eo_NothingToUndo, es_NothingToUndo, ek_NothingToUndo, ⟨ega_NothingToUndo, egt_NothingToUndo, xb_NothingToUndo, ehd_NothingToUndo, ehc_NothingToUndo, ehn_NothingToUndo, eht_NothingToUndo, ehm_NothingToUndo⟩, xt_NothingToUndo⟩,
    HT_NothingToUndo := et_NothingToUndo,
    HF_NothingToUndo := ef_NothingToUndo,
    c_ParseError := q_ParseError,
    g_ParseError := mg_of X G aq_ParseError,
    XC_ParseError := ⟨em_ParseError, eo_ParseError, es_ParseError, ek_ParseError, ⟨ega_ParseError, egt_ParseError, xb_ParseError, ehd_ParseError, ehc_ParseError, ehn_ParseError, eht_ParseError, ehm_ParseError⟩, xt_ParseError⟩,
    HT_ParseError := et_ParseError,
    HF_ParseError := ef_ParseError,
    c_Refused := q_Refused,
    g_Refused := mg_of X G aq_Refused,
    XC_Refused := ⟨em_Refused, eo_Refused, es_Refused, ek_Refused, ⟨ega_Refused, egt_Refused, xb_Refused, ehd_Refused, ehc_Refused, ehn_Refused, eht_Refused, ehm_Refused⟩, xt_Refused⟩,
    HT_Refused := et_Refused,
    HF_Refused := ef_Refused,
    c_RowAbsent := q_RowAbsent,
    g_RowAbsent := mg_of X G aq_RowAbsent,
    XC_RowAbsent := ⟨em_RowAbsent, eo_RowAbsent, es_RowAbsent, ek_RowAbsent, ⟨ega_RowAbsent, egt_RowAbsent, xb_RowAbsent, ehd_RowAbsent, ehc_RowAbsent, ehn_RowAbsent, eht_RowAbsent, ehm_RowAbsent⟩, xt_RowAbsent⟩,
    HT_RowAbsent := et_RowAbsent,
    HF_RowAbsent := ef_RowAbsent,
    c_RowThere := q_RowThere,
    g_RowThere := mg_of X G aq_RowThere,
    XC_RowThere := ⟨em_RowThere, eo_RowThere, es_RowThere, ek_RowThere, ⟨ega_RowThere, egt_RowThere, xb_RowThere, ehd_RowThere, ehc_RowThere, ehn_RowThere, eht_RowThere, ehm_RowThere⟩, xt_RowThere⟩,
    HT_RowThere := et_RowThere,
    HF_RowThere := ef_RowThere,
    c_TooMany := q_TooMany,
    g_TooMany := mg_of X G aq_TooMany,
    XC_TooMany := ⟨em_TooMany, eo_TooMany, es_TooMany, ek_TooMany, ⟨ega_TooMany, egt_TooMany, xb_TooMany, ehd_TooMany, ehc_TooMany, ehn_TooMany, eht_TooMany, ehm_TooMany⟩, xt_TooMany⟩,
    HT_TooMany := et_TooMany,
    HF_TooMany := ef_TooMany,
    c_TouchError := q_TouchError,
    g_TouchError := mg_of X G aq_TouchError,
    x_TouchError := xx_TouchError,
    k_TouchError := xk_TouchError,
    b_TouchError := xb_TouchError,
    t_TouchError := xt_TouchError,
    is_TouchError := ⟨ega_TouchError, egt_TouchError, xb_TouchError, ehd_TouchError, ehc_TouchError, ehn_TouchError, eht_TouchError, ehm_TouchError⟩,
    c_UnknownName := q_UnknownName,
    g_UnknownName := mg_of X G aq_UnknownName,
    XC_UnknownName := ⟨em_UnknownName, eo_UnknownName, es_UnknownName, ek_UnknownName, ⟨ega_UnknownName, egt_UnknownName, xb_UnknownName, ehd_UnknownName, ehc_UnknownName, ehn_UnknownName, eht_UnknownName, ehm_UnknownName⟩, xt_UnknownName⟩,
    HT_UnknownName := et_UnknownName,
    HF_UnknownName := ef_UnknownName,
    ow_InvalidRatio := xf_ow_InvalidRatio,
    kb_InvalidRatio := xf_kb_InvalidRatio,
    ow_InvalidQuestion := xf_ow_InvalidQuestion,
    kb_InvalidQuestion := xf_kb_InvalidQuestion,
    ow_InvalidRow := xf_ow_InvalidRow,
    kb_InvalidRow := xf_kb_InvalidRow,
    ow_InvalidStore := xf_ow_InvalidStore,
    kb_InvalidStore := xf_kb_InvalidStore,
    ow_InvalidView := xf_ow_InvalidView,
    kb_InvalidView := xf_kb_InvalidView,
    ow_InvalidPlan := xf_ow_InvalidPlan,
    kb_InvalidPlan := xf_kb_InvalidPlan,
    ow_InvalidWeights := xf_ow_InvalidWeights,
    kb_InvalidWeights := xf_kb_InvalidWeights,
    ow_InvalidOperation := xf_ow_InvalidOperation,
    kb_InvalidOperation := xf_kb_InvalidOperation,
    ow_ParseError := xf_ow_ParseError,
    kb_ParseError := xf_kb_ParseError,
    ow_UnknownName := xf_ow_UnknownName,
    kb_UnknownName := xf_kb_UnknownName,
    ow_RowThere := xf_ow_RowThere,
    kb_RowThere := xf_kb_RowThere,
    ow_RowAbsent := xf_ow_RowAbsent,
    kb_RowAbsent := xf_kb_RowAbsent,
    ow_InvalidNumber := xf_ow_InvalidNumber,
    kb_InvalidNumber := xf_kb_InvalidNumber,
    ow_NothingToUndo := xf_ow_NothingToUndo,
    kb_NothingToUndo := xf_kb_NothingToUndo,
    ow_TooMany := xf_ow_TooMany,
    kb_TooMany := xf_kb_TooMany,
    ow_Refused := xf_ow_Refused,
    kb_Refused := xf_kb_Refused,
    ow_TouchError := xf_ow_TouchError,
    kb_TouchError := xf_kb_TouchError,
    e_InvalidWeights_ParseError := xf_e_InvalidWeights_ParseError,
    e_InvalidWeights_TouchError := xf_e_InvalidWeights_TouchError,
    e_RowAbsent_ParseError := xf_e_RowAbsent_ParseError,
    e_RowAbsent_TouchError := xf_e_RowAbsent_TouchError,
    e_RowAbsent_RowThere := xf_e_RowAbsent_RowThere,
    e_RowAbsent_RowAbsent := xf_e_RowAbsent_RowAbsent,
    e_RowThere_ParseError := xf_e_RowThere_ParseError,
    e_RowThere_TouchError := xf_e_RowThere_TouchError,
    e_RowThere_RowThere := xf_e_RowThere_RowThere,
    e_ParseError_ParseError := xf_e_ParseError_ParseError,
    a__law_dice := f1,
    d__law_dice := _,
    g__law_dice := mg_of X G a1,
    F__law_dice := fun_mk (st := s__law_dice) l1 c1 k1,
    B__law_dice := (fun_mk (st := s__law_dice) l1 c1 k1).binds (ps := ["_law_script", "_law_spot"]) (fun _ _ _ _ _ _ us hl => match us, hl with | [_, _], _ => rfl),
    a__law_roll := f2,
    d__law_roll := _,
    g__law_roll := mg_of X G a2,
    F__law_roll := fun_mk (st := s__law_roll) l2 c2 k2,
    B__law_roll := (fun_mk (st := s__law_roll) l2 c2 k2).binds (ps := ["_law_dice_here", "_law_total"]) (fun _ _ _ _ _ _ us hl => match us, hl with | [_, _], _ => rfl),
    a__law_pick := f3,
    d__law_pick := _,
    g__law_pick := mg_of X G a3,
    F__law_pick := fun_mk (st := s__law_pick) l3 c3 k3,
    B__law_pick := (fun_mk (st := s__law_pick) l3 c3 k3).binds (ps := ["_law_dice_here", "_law_items"]) (fun _ _ _ _ _ _ us hl => match us, hl with | [_, _], _ => rfl),
    a__law_own := f4,
    d__law_own := _,
    g__law_own := mg_of X G a4,
    F__law_own := fun_mk (st := s__law_own) l4 c4 k4,
    B__law_own := (fun_mk (st := s__law_own) l4 c4 k4).binds (ps := ["_law_error"]) (fun _ _ _ _ _ _ us hl => match us, hl with | [_], _ => rfl),
    a__law_whole := f5,
    d__law_whole := _,
    g__law_whole := mg_of X G a5,
    F__law_whole := fun_mk (st := s__law_whole) l5 c5 k5,
    B__law_whole := (fun_mk (st := s__law_whole) l5 c5 k5).binds (ps := ["_law_error"]) (fun _ _ _ _ _ _ us hl => match us, hl with | [_], _ => rfl),
    a__law_messages := f6,
    d__law_messages := _,
    g__law_messages := mg_of X G a6,
    F__law_messages := fun_mk (st := s__law_messages) l6 c6 k6,
    B__law_messages := (fun_mk (st := s__law_messages) l6 c6 k6).binds (ps := ["_law_text"]) (fun _ _ _ _ _ _ us hl => match us, hl with | [_], _ => rfl),
    a_ParseError___init__ := f7,
    d_ParseError___init__ := _,
    F_ParseError___init__ := fun_mk (st := s_ParseError___init__) l7 c7 k7,
    B_ParseError___init__ := (fun_mk (st := s_ParseError___init__) l7 c7 k7).binds (ps := ["self", "number"]) (fun _ _ _ _ _ _ us hl => match us, hl with | [_, _], _ => rfl),
    IC_ParseError := a7,
    IT_ParseError := it_ParseError,
    a_UnknownName___init__ := f8,
    d_UnknownName___init__ := _,
    F_UnknownName___init__ := fun_mk (st := s_UnknownName___init__) l8 c8 k8,
    B_UnknownName___init__ := (fun_mk (st := s_UnknownName___init__) l8 c8 k8).binds (ps := ["self", "word"]) (fun _ _ _ _ _ _ us hl => match us, hl with | [_, _], _ => rfl),
    IC_UnknownName := a8,
    IT_UnknownName := it_UnknownName,
    a_RowThere___init__ := f9,
    d_RowThere___init__ := _,
    F_RowThere___init__ := fun_mk (st := s_RowThere___init__) l9 c9 k9,
    B_RowThere___init__ := (fun_mk (st := s_RowThere___init__) l9 c9 k9).binds (ps := ["self", "placed"]) (fun _ _ _ _ _ _ us hl => match us, hl with | [_, _], _ => rfl),
    IC_RowThere := a9,
    IT_RowThere := it_RowThere,
    a_RowAbsent___init__ := f10,
    d_RowAbsent___init__ := _,
    F_RowAbsent___init__ := fun_mk (st := s_RowAbsent___init__) l10 c10 k10,
    B_RowAbsent___init__ := (fun_mk (st := s_RowAbsent___init__) l10 c10 k10).binds (ps := ["self", "missed"]) (fun _ _ _ _ _ _ us hl => match us, hl with | [_, _], _ => rfl),
    IC_RowAbsent := a10,
    IT_RowAbsent := it_RowAbsent,
    a_InvalidNumber___init__ := f11,
    d_InvalidNumber___init__ := _,
    F_InvalidNumber___init__ := fun_mk (st := s_InvalidNumber___init__) l11 c11 k11,
    B_InvalidNumber___init__ := (fun_mk (st := s_InvalidNumber___init__) l11 c11 k11).binds (ps := ["self", "value"]) (fun _ _ _ _ _ _ us hl => match us, hl with | [_, _], _ => rfl),
    IC_InvalidNumber := a11,
    IT_InvalidNumber := it_InvalidNumber,
    a_NothingToUndo___init__ := f12,
    d_NothingToUndo___init__ := _,
    F_NothingToUndo___init__ := fun_mk (st := s_NothingToUndo___init__) l12 c12 k12,
    B_NothingToUndo___init__ := (fun_mk (st := s_NothingToUndo___init__) l12 c12 k12).binds (ps := ["self", "many"]) (fun _ _ _ _ _ _ us hl => match us, hl with | [_, _], _ => rfl),
    IC_NothingToUndo := a12,
    IT_NothingToUndo := it_NothingToUndo,
    a_TooMany___init__ := f13,
    d_TooMany___init__ := _,
    F_TooMany___init__ := fun_mk (st := s_TooMany___init__) l13 c13 k13,
    B_TooMany___init__ := (fun_mk (st := s_TooMany___init__) l13 c13 k13).binds (ps := ["self", "limit"]) (fun _ _ _ _ _ _ us hl => match us, hl with | [_, _], _ => rfl),
    IC_TooMany := a13,
    IT_TooMany := it_TooMany,
    a_Refused___init__ := f14,
    d_Refused___init__ := _,
    F_Refused___init__ := fun_mk (st := s_Refused___init__) l14 c14 k14,
    B_Refused___init__ := (fun_mk (st := s_Refused___init__) l14 c14 k14).binds (ps := ["self", "pledge"]) (fun _ _ _ _ _ _ us hl => match us, hl with | [_, _], _ => rfl),
    IC_Refused := a14,
    IT_Refused := it_Refused,
    a__law_stored := f15,
    d__law_stored := _,
    g__law_stored := mg_of X G a15,
    F__law_stored := fun_mk (st := s__law_stored) l15 c15 k15,
    B__law_stored := (fun_mk (st := s__law_stored) l15 c15 k15).binds (ps := ["_law_value", "_law_index"]) (fun _ _ _ _ _ _ us hl => match us, hl with | [_, _], _ => rfl),
    a__law_caught := f16,
    d__law_caught := _,
    g__law_caught := mg_of X G a16,
    F__law_caught := fun_mk (st := s__law_caught) l16 c16 k16,
    B__law_caught := (fun_mk (st := s__law_caught) l16 c16 k16).binds (ps := ["_law_way", "_law_value"]) (fun _ _ _ _ _ _ us hl => match us, hl with | [_, _], _ => rfl),
    a__law_right := f17,
    d__law_right := _,
    g__law_right := mg_of X G a17,
    F__law_right := fun_mk (st := s__law_right) l17 c17 k17,
    B__law_right := (fun_mk (st := s__law_right) l17 c17 k17).binds (ps := ["_law_dice_here"]) (fun _ _ _ _ _ _ us hl => match us, hl with | [_], _ => rfl),
    a_law := fa,
    d_law := _,
    g_law := mg_of X G a18,
    F_law := fun_mk (st := s_law) l18 c18 k18,
    B_law := (fun_mk (st := s_law) l18 c18 k18).binds (ps := ["_law_script"]) (fun _ _ _ _ _ _ us hl => match us, hl with | [_], _ => rfl),
    b_ArithmeticError := mg_none_of X G z_ArithmeticError,
    b_IndexError := mg_none_of X G z_IndexError,
    b_KeyError := mg_none_of X G z_KeyError,
    b_LookupError := mg_none_of X G z_LookupError,
    b_OverflowError := mg_none_of X G z_OverflowError,
    b_RuntimeError := mg_none_of X G z_RuntimeError,
    b_ValueError := mg_none_of X G z_ValueError,
    b_abs := mg_none_of X G z_abs,
    b_int := mg_none_of X G z_int,
    b_isinstance := mg_none_of X G z_isinstance,
    b_len := mg_none_of X G z_len,
    b_max := mg_none_of X G z_max,
    b_min := mg_none_of X G z_min,
    b_range := mg_none_of X G z_range,
    b_repr := mg_none_of X G z_repr }
  exact ⟨_, fun s v => .of_eq rfl, fun base _ _ => ok_law T⟩
end Law
open PySem PySem.W PyProof.Rows
set_option maxRecDepth 100000 in
set_option maxHeartbeats 0 in
theorem PySem.Challenge.cw_touchrows_k01_errors_kept_and_caught_holds : PySem.Challenge.rw_touchrows_k01_errors_kept_and_caught.Holds := by
  w_on; o_law; k_head; (case hw => w_witness2)
  k_fill
  refine U.walkG (l := PySem.Challenge.rw_touchrows_k01_errors_kept_and_caught) (n := 63) (k := 5) (x := "_law_script") (sp := Law.sp_law) rfl (by decide) rfl ⟨rfl, by decide, by decide⟩ (fun w h Y => kIn_of Y) ?F (fun K H a ns h1 h2 _ h3 => Law.enter K H a ns h1 h2 h3)
  case F =>
    intro w mg fa h KX G hmg
    refine' Law.all_mk KX G hmg ?aq_InvalidNumber ?xb_InvalidNumber ?xt_InvalidNumber ?ega_InvalidNumber ?egt_InvalidNumber ?ehd_InvalidNumber ?ehc_InvalidNumber ?ehn_InvalidNumber ?eht_InvalidNumber ?ehm_InvalidNumber ?em_InvalidNumber ?eo_InvalidNumber ?es_InvalidNumber ?ek_InvalidNumber ?et_InvalidNumber ?ef_InvalidNumber ?aq_InvalidOperation ?xb_InvalidOperation ?xt_InvalidOperation ?xx_InvalidOperation ?xk_InvalidOperation ?ega_InvalidOperation ?egt_InvalidOperation ?ehd_InvalidOperation ?ehc_InvalidOperation ?ehn_InvalidOperation ?eht_InvalidOperation ?ehm_InvalidOperation ?aq_InvalidPlan ?xb_InvalidPlan ?xt_InvalidPlan ?xx_InvalidPlan ?xk_InvalidPlan ?ega_InvalidPlan ?egt_InvalidPlan ?ehd_InvalidPlan ?ehc_InvalidPlan ?ehn_InvalidPlan ?eht_InvalidPlan ?ehm_InvalidPlan ?aq_InvalidQuestion ?xb_InvalidQuestion ?xt_InvalidQuestion ?xx_InvalidQuestion ?xk_InvalidQuestion ?ega_InvalidQuestion ?egt_InvalidQuestion ?ehd_InvalidQuestion ?ehc_InvalidQuestion ?ehn_InvalidQuestion ?eht_InvalidQuestion ?ehm_InvalidQuestion ?aq_InvalidRatio ?xb_InvalidRatio ?xt_InvalidRatio ?xx_InvalidRatio ?xk_InvalidRatio ?ega_InvalidRatio ?egt_InvalidRatio ?ehd_InvalidRatio ?ehc_InvalidRatio ?ehn_InvalidRatio ?eht_InvalidRatio ?ehm_InvalidRatio ?aq_InvalidRow ?xb_InvalidRow ?xt_InvalidRow ?xx_InvalidRow ?xk_InvalidRow ?ega_InvalidRow ?egt_InvalidRow ?ehd_InvalidRow ?ehc_InvalidRow ?ehn_InvalidRow ?eht_InvalidRow ?ehm_InvalidRow ?aq_InvalidStore ?xb_InvalidStore ?xt_InvalidStore ?xx_InvalidStore ?xk_InvalidStore ?ega_InvalidStore ?egt_InvalidStore ?ehd_InvalidStore ?ehc_InvalidStore ?ehn_InvalidStore ?eht_InvalidStore ?ehm_InvalidStore ?aq_InvalidView ?xb_InvalidView ?xt_InvalidView ?xx_InvalidView ?xk_InvalidView ?ega_InvalidView ?egt_InvalidView ?ehd_InvalidView ?ehc_InvalidView ?ehn_InvalidView ?eht_InvalidView ?ehm_InvalidView ?aq_InvalidWeights ?xb_InvalidWeights ?xt_InvalidWeights ?xx_InvalidWeights ?xk_InvalidWeights ?ega_InvalidWeights ?egt_InvalidWeights ?ehd_InvalidWeights ?ehc_InvalidWeights ?ehn_InvalidWeights ?eht_InvalidWeights ?ehm_InvalidWeights ?aq_NothingToUndo ?xb_NothingToUndo ?xt_NothingToUndo ?ega_NothingToUndo ?egt_NothingToUndo ?ehd_NothingToUndo ?ehc_NothingToUndo ?ehn_NothingToUndo ?eht_NothingToUndo ?ehm_NothingToUndo ?em_NothingToUndo ?eo_NothingToUndo ?es_NothingToUndo ?ek_NothingToUndo ?et_NothingToUndo ?ef_NothingToUndo ?aq_ParseError ?xb_ParseError ?xt_ParseError ?ega_ParseError ?egt_ParseError ?ehd_ParseError ?ehc_ParseError ?ehn_ParseError ?eht_ParseError ?ehm_ParseError ?em_ParseError ?eo_ParseError ?es_ParseError ?ek_ParseError ?et_ParseError ?ef_ParseError ?xi_ParseError ?aq_Refused ?xb_Refused ?xt_Refused ?ega_Refused ?egt_Refused ?ehd_Refused ?ehc_Refused ?ehn_Refused ?eht_Refused ?ehm_Refused ?em_Refused ?eo_Refused ?es_Refused ?ek_Refused ?et_Refused ?ef_Refused ?aq_RowAbsent ?xb_RowAbsent ?xt_RowAbsent ?ega_RowAbsent ?egt_RowAbsent ?ehd_RowAbsent ?ehc_RowAbsent ?ehn_RowAbsent ?eht_RowAbsent ?ehm_RowAbsent ?em_RowAbsent ?eo_RowAbsent ?es_RowAbsent ?ek_RowAbsent ?et_RowAbsent ?ef_RowAbsent ?xi_RowAbsent ?aq_RowThere ?xb_RowThere ?xt_RowThere ?ega_RowThere ?egt_RowThere ?ehd_RowThere ?ehc_RowThere ?ehn_RowThere ?eht_RowThere ?ehm_RowThere ?em_RowThere ?eo_RowThere ?es_RowThere ?ek_RowThere ?et_RowThere ?ef_RowThere ?xi_RowThere ?aq_TooMany ?xb_TooMany ?xt_TooMany ?ega_TooMany ?egt_TooMany ?ehd_TooMany ?ehc_TooMany ?ehn_TooMany ?eht_TooMany ?ehm_TooMany ?em_TooMany ?eo_TooMany ?es_TooMany ?ek_TooMany ?et_TooMany ?ef_TooMany ?aq_TouchError ?xb_TouchError ?xt_TouchError ?xx_TouchError ?xk_TouchError ?ega_TouchError ?egt_TouchError ?ehd_TouchError ?ehc_TouchError ?ehn_TouchError ?eht_TouchError ?ehm_TouchError ?xi_TouchError ?aq_UnknownName ?xb_UnknownName ?xt_UnknownName ?ega_UnknownName ?egt_UnknownName ?ehd_UnknownName ?ehc_UnknownName ?ehn_UnknownName ?eht_UnknownName ?ehm_UnknownName ?em_UnknownName ?eo_UnknownName ?es_UnknownName ?ek_UnknownName ?et_UnknownName ?ef_UnknownName ?xf_ow_InvalidRatio ?xf_kb_InvalidRatio ?xf_ow_InvalidQuestion ?xf_kb_InvalidQuestion ?xf_ow_InvalidRow ?xf_kb_InvalidRow ?xf_ow_InvalidStore ?xf_kb_InvalidStore ?xf_ow_InvalidView ?xf_kb_InvalidView ?xf_ow_InvalidPlan ?xf_kb_InvalidPlan ?xf_ow_InvalidWeights ?xf_kb_InvalidWeights ?xf_ow_InvalidOperation ?xf_kb_InvalidOperation ?xf_ow_ParseError ?xf_kb_ParseError ?xf_ow_UnknownName ?xf_kb_UnknownName ?xf_ow_RowThere ?xf_kb_RowThere ?xf_ow_RowAbsent ?xf_kb_RowAbsent ?xf_ow_InvalidNumber ?xf_kb_InvalidNumber ?xf_ow_NothingToUndo ?xf_kb_NothingToUndo ?xf_ow_TooMany ?xf_kb_TooMany ?xf_ow_Refused ?xf_kb_Refused ?xf_ow_TouchError ?xf_kb_TouchError ?xf_e_InvalidWeights_ParseError ?xf_e_InvalidWeights_TouchError ?xf_e_RowAbsent_ParseError ?xf_e_RowAbsent_TouchError ?xf_e_RowAbsent_RowThere ?xf_e_RowAbsent_RowAbsent ?xf_e_RowThere_ParseError ?xf_e_RowThere_TouchError ?xf_e_RowThere_RowThere ?xf_e_ParseError_ParseError ?a1 ?l1 ?c1 ?k1 ?a2 ?l2 ?c2 ?k2 ?a3 ?l3 ?c3 ?k3 ?a4 ?l4 ?c4 ?k4 ?a5 ?l5 ?c5 ?k5 ?a6 ?l6 ?c6 ?k6 ?a7 ?i7 ?l7 ?c7 ?k7 ?it_ParseError ?a8 ?i8 ?l8 ?c8 ?k8 ?it_UnknownName ?a9 ?i9 ?l9 ?c9 ?k9 ?it_RowThere ?a10 ?i10 ?l10 ?c10 ?k10 ?it_RowAbsent ?a11 ?i11 ?l11 ?c11 ?k11 ?it_InvalidNumber ?a12 ?i12 ?l12 ?c12 ?k12 ?it_NothingToUndo ?a13 ?i13 ?l13 ?c13 ?k13 ?it_TooMany ?a14 ?i14 ?l14 ?c14 ?k14 ?it_Refused ?a15 ?l15 ?c15 ?k15 ?a16 ?l16 ?c16 ?k16 ?a17 ?l17 ?c17 ?k17 ?a18 ?l18 ?c18 ?k18 ?z_ArithmeticError ?z_IndexError ?z_KeyError ?z_LookupError ?z_OverflowError ?z_RuntimeError ?z_ValueError ?z_abs ?z_int ?z_isinstance ?z_len ?z_max ?z_min ?z_range ?z_repr
    (case aq_InvalidNumber => k_is); (case xb_InvalidNumber => k_is); (case xt_InvalidNumber => k_is); (case ega_InvalidNumber => k_is); (case egt_InvalidNumber => k_is); (case ehd_InvalidNumber => k_is); (case ehc_InvalidNumber => k_is); (case ehn_InvalidNumber => k_is); (case eht_InvalidNumber => k_is); (case ehm_InvalidNumber => k_is); (case em_InvalidNumber => kernel_rfl); (case eo_InvalidNumber => kernel_rfl); (case es_InvalidNumber => k_is); (case ek_InvalidNumber => k_is); (case et_InvalidNumber => k_is); (case ef_InvalidNumber => k_is); (case aq_InvalidOperation => k_is); (case xb_InvalidOperation => k_is); (case xt_InvalidOperation => k_is); (case xx_InvalidOperation => k_exc); (case xk_InvalidOperation => k_is); (case ega_InvalidOperation => k_is); (case egt_InvalidOperation => k_is); (case ehd_InvalidOperation => k_is); (case ehc_InvalidOperation => k_is); (case ehn_InvalidOperation => k_is); (case eht_InvalidOperation => k_is); (case ehm_InvalidOperation => k_is); (case aq_InvalidPlan => k_is); (case xb_InvalidPlan => k_is); (case xt_InvalidPlan => k_is); (case xx_InvalidPlan => k_exc); (case xk_InvalidPlan => k_is); (case ega_InvalidPlan => k_is); (case egt_InvalidPlan => k_is); (case ehd_InvalidPlan => k_is); (case ehc_InvalidPlan => k_is); (case ehn_InvalidPlan => k_is); (case eht_InvalidPlan => k_is); (case ehm_InvalidPlan => k_is); (case aq_InvalidQuestion => k_is); (case xb_InvalidQuestion => k_is); (case xt_InvalidQuestion => k_is); (case xx_InvalidQuestion => k_exc); (case xk_InvalidQuestion => k_is); (case ega_InvalidQuestion => k_is); (case egt_InvalidQuestion => k_is); (case ehd_InvalidQuestion => k_is); (case ehc_InvalidQuestion => k_is); (case ehn_InvalidQuestion => k_is); (case eht_InvalidQuestion => k_is); (case ehm_InvalidQuestion => k_is); (case aq_InvalidRatio => k_is); (case xb_InvalidRatio => k_is); (case xt_InvalidRatio => k_is); (case xx_InvalidRatio => k_exc); (case xk_InvalidRatio => k_is); (case ega_InvalidRatio => k_is); (case egt_InvalidRatio => k_is); (case ehd_InvalidRatio => k_is); (case ehc_InvalidRatio => k_is); (case ehn_InvalidRatio => k_is); (case eht_InvalidRatio => k_is); (case ehm_InvalidRatio => k_is); (case aq_InvalidRow => k_is); (case xb_InvalidRow => k_is); (case xt_InvalidRow => k_is); (case xx_InvalidRow => k_exc); (case xk_InvalidRow => k_is); (case ega_InvalidRow => k_is); (case egt_InvalidRow => k_is); (case ehd_InvalidRow => k_is); (case ehc_InvalidRow => k_is); (case ehn_InvalidRow => k_is); (case eht_InvalidRow => k_is); (case ehm_InvalidRow => k_is); (case aq_InvalidStore => k_is); (case xb_InvalidStore => k_is); (case xt_InvalidStore => k_is); (case xx_InvalidStore => k_exc); (case xk_InvalidStore => k_is); (case ega_InvalidStore => k_is); (case egt_InvalidStore => k_is); (case ehd_InvalidStore => k_is); (case ehc_InvalidStore => k_is); (case ehn_InvalidStore => k_is); (case eht_InvalidStore => k_is); (case ehm_InvalidStore => k_is); (case aq_InvalidView => k_is); (case xb_InvalidView => k_is); (case xt_InvalidView => k_is); (case xx_InvalidView => k_exc); (case xk_InvalidView => k_is); (case ega_InvalidView => k_is); (case egt_InvalidView => k_is); (case ehd_InvalidView => k_is); (case ehc_InvalidView => k_is); (case ehn_InvalidView => k_is); (case eht_InvalidView => k_is); (case ehm_InvalidView => k_is); (case aq_InvalidWeights => k_is); (case xb_InvalidWeights => k_is); (case xt_InvalidWeights => k_is); (case xx_InvalidWeights => k_exc); (case xk_InvalidWeights => k_is); (case ega_InvalidWeights => k_is); (case egt_InvalidWeights => k_is); (case ehd_InvalidWeights => k_is); (case ehc_InvalidWeights => k_is); (case ehn_InvalidWeights => k_is); (case eht_InvalidWeights => k_is); (case ehm_InvalidWeights => k_is); (case aq_NothingToUndo => k_is); (case xb_NothingToUndo => k_is); (case xt_NothingToUndo => k_is); (case ega_NothingToUndo => k_is); (case egt_NothingToUndo => k_is); (case ehd_NothingToUndo => k_is); (case ehc_NothingToUndo => k_is); (case ehn_NothingToUndo => k_is); (case eht_NothingToUndo => k_is); (case ehm_NothingToUndo => k_is); (case em_NothingToUndo => kernel_rfl); (case eo_NothingToUndo => kernel_rfl); (case es_NothingToUndo => k_is); (case ek_NothingToUndo => k_is); (case et_NothingToUndo => k_is); (case ef_NothingToUndo => k_is); (case aq_ParseError => k_is); (case xb_ParseError => k_is); (case xt_ParseError => k_is); (case ega_ParseError => k_is); (case egt_ParseError => k_is); (case ehd_ParseError => k_is); (case ehc_ParseError => k_is); (case ehn_ParseError => k_is); (case eht_ParseError => k_is); (case ehm_ParseError => k_is); (case em_ParseError => kernel_rfl); (case eo_ParseError => kernel_rfl); (case es_ParseError => k_is); (case ek_ParseError => k_is); (case et_ParseError => k_is); (case ef_ParseError => k_is); (case xi_ParseError => k_is); (case aq_Refused => k_is); (case xb_Refused => k_is); (case xt_Refused => k_is); (case ega_Refused => k_is); (case egt_Refused => k_is); (case ehd_Refused => k_is); (case ehc_Refused => k_is); (case ehn_Refused => k_is); (case eht_Refused => k_is); (case ehm_Refused => k_is); (case em_Refused => kernel_rfl); (case eo_Refused => kernel_rfl); (case es_Refused => k_is); (case ek_Refused => k_is); (case et_Refused => k_is); (case ef_Refused => k_is); (case aq_RowAbsent => k_is); (case xb_RowAbsent => k_is); (case xt_RowAbsent => k_is); (case ega_RowAbsent => k_is); (case egt_RowAbsent => k_is); (case ehd_RowAbsent => k_is); (case ehc_RowAbsent => k_is); (case ehn_RowAbsent => k_is); (case eht_RowAbsent => k_is); (case ehm_RowAbsent => k_is); (case em_RowAbsent => kernel_rfl); (case eo_RowAbsent => kernel_rfl); (case es_RowAbsent => k_is); (case ek_RowAbsent => k_is); (case et_RowAbsent => k_is); (case ef_RowAbsent => k_is); (case xi_RowAbsent => k_is); (case aq_RowThere => k_is); (case xb_RowThere => k_is); (case xt_RowThere => k_is); (case ega_RowThere => k_is); (case egt_RowThere => k_is); (case ehd_RowThere => k_is); (case ehc_RowThere => k_is); (case ehn_RowThere => k_is); (case eht_RowThere => k_is); (case ehm_RowThere => k_is); (case em_RowThere => kernel_rfl); (case eo_RowThere => kernel_rfl); (case es_RowThere => k_is); (case ek_RowThere => k_is); (case et_RowThere => k_is); (case ef_RowThere => k_is); (case xi_RowThere => k_is); (case aq_TooMany => k_is); (case xb_TooMany => k_is); (case xt_TooMany => k_is); (case ega_TooMany => k_is); (case egt_TooMany => k_is); (case ehd_TooMany => k_is); (case ehc_TooMany => k_is); (case ehn_TooMany => k_is); (case eht_TooMany => k_is); (case ehm_TooMany => k_is); (case em_TooMany => kernel_rfl); (case eo_TooMany => kernel_rfl); (case es_TooMany => k_is); (case ek_TooMany => k_is); (case et_TooMany => k_is); (case ef_TooMany => k_is); (case aq_TouchError => k_is); (case xb_TouchError => k_is); (case xt_TouchError => k_is); (case xx_TouchError => k_exc); (case xk_TouchError => k_is); (case ega_TouchError => k_is); (case egt_TouchError => k_is); (case ehd_TouchError => k_is); (case ehc_TouchError => k_is); (case ehn_TouchError => k_is); (case eht_TouchError => k_is); (case ehm_TouchError => k_is); (case xi_TouchError => k_is); (case aq_UnknownName => k_is); (case xb_UnknownName => k_is); (case xt_UnknownName => k_is); (case ega_UnknownName => k_is); (case egt_UnknownName => k_is); (case ehd_UnknownName => k_is); (case ehc_UnknownName => k_is); (case ehn_UnknownName => k_is); (case eht_UnknownName => k_is); (case ehm_UnknownName => k_is); (case em_UnknownName => kernel_rfl); (case eo_UnknownName => kernel_rfl); (case es_UnknownName => k_is); (case ek_UnknownName => k_is); (case et_UnknownName => k_is); (case ef_UnknownName => k_is); (case xf_ow_InvalidRatio => kernel_rfl); (case xf_kb_InvalidRatio => kernel_rfl); (case xf_ow_InvalidQuestion => kernel_rfl); (case xf_kb_InvalidQuestion => kernel_rfl); (case xf_ow_InvalidRow => kernel_rfl); (case xf_kb_InvalidRow => kernel_rfl); (case xf_ow_InvalidStore => kernel_rfl); (case xf_kb_InvalidStore => kernel_rfl); (case xf_ow_InvalidView => kernel_rfl); (case xf_kb_InvalidView => kernel_rfl); (case xf_ow_InvalidPlan => kernel_rfl); (case xf_kb_InvalidPlan => kernel_rfl); (case xf_ow_InvalidWeights => kernel_rfl); (case xf_kb_InvalidWeights => kernel_rfl); (case xf_ow_InvalidOperation => kernel_rfl); (case xf_kb_InvalidOperation => kernel_rfl); (case xf_ow_ParseError => kernel_rfl); (case xf_kb_ParseError => kernel_rfl); (case xf_ow_UnknownName => kernel_rfl); (case xf_kb_UnknownName => kernel_rfl); (case xf_ow_RowThere => kernel_rfl); (case xf_kb_RowThere => kernel_rfl); (case xf_ow_RowAbsent => kernel_rfl); (case xf_kb_RowAbsent => kernel_rfl); (case xf_ow_InvalidNumber => kernel_rfl); (case xf_kb_InvalidNumber => kernel_rfl); (case xf_ow_NothingToUndo => kernel_rfl); (case xf_kb_NothingToUndo => kernel_rfl); (case xf_ow_TooMany => kernel_rfl); (case xf_kb_TooMany => kernel_rfl); (case xf_ow_Refused => kernel_rfl); (case xf_kb_Refused => kernel_rfl); (case xf_ow_TouchError => kernel_rfl); (case xf_kb_TouchError => kernel_rfl); (case xf_e_InvalidWeights_ParseError => kernel_rfl); (case xf_e_InvalidWeights_TouchError => kernel_rfl); (case xf_e_RowAbsent_ParseError => kernel_rfl); (case xf_e_RowAbsent_TouchError => kernel_rfl); (case xf_e_RowAbsent_RowThere => kernel_rfl); (case xf_e_RowAbsent_RowAbsent => kernel_rfl); (case xf_e_RowThere_ParseError => kernel_rfl); (case xf_e_RowThere_TouchError => kernel_rfl); (case xf_e_RowThere_RowThere => kernel_rfl); (case xf_e_ParseError_ParseError => kernel_rfl); (case a1 => k_is); (case l1 => k_is); (case c1 => k_is); (case k1 => k_is); (case a2 => k_is); (case l2 => k_is); (case c2 => k_is); (case k2 => k_is); (case a3 => k_is); (case l3 => k_is); (case c3 => k_is); (case k3 => k_is); (case a4 => k_is); (case l4 => k_is); (case c4 => k_is); (case k4 => k_is); (case a5 => k_is); (case l5 => k_is); (case c5 => k_is); (case k5 => k_is); (case a6 => k_is); (case l6 => k_is); (case c6 => k_is); (case k6 => k_is); (case a7 => k_is); (case i7 => k_is); (case l7 => k_is); (case c7 => k_is); (case k7 => k_is); (case it_ParseError => k_is); (case a8 => k_is); (case i8 => k_is); (case l8 => k_is); (case c8 => k_is); (case k8 => k_is); (case it_UnknownName => k_is); (case a9 => k_is); (case i9 => k_is); (case l9 => k_is); (case c9 => k_is); (case k9 => k_is); (case it_RowThere => k_is); (case a10 => k_is); (case i10 => k_is); (case l10 => k_is); (case c10 => k_is); (case k10 => k_is); (case it_RowAbsent => k_is); (case a11 => k_is); (case i11 => k_is); (case l11 => k_is); (case c11 => k_is); (case k11 => k_is); (case it_InvalidNumber => k_is); (case a12 => k_is); (case i12 => k_is); (case l12 => k_is); (case c12 => k_is); (case k12 => k_is); (case it_NothingToUndo => k_is); (case a13 => k_is); (case i13 => k_is); (case l13 => k_is); (case c13 => k_is); (case k13 => k_is); (case it_TooMany => k_is); (case a14 => k_is); (case i14 => k_is); (case l14 => k_is); (case c14 => k_is); (case k14 => k_is); (case it_Refused => k_is); (case a15 => k_is); (case l15 => k_is); (case c15 => k_is); (case k15 => k_is); (case a16 => k_is); (case l16 => k_is); (case c16 => k_is); (case k16 => k_is); (case a17 => k_is); (case l17 => k_is); (case c17 => k_is); (case k17 => k_is); (case a18 => k_is); (case l18 => k_is); (case c18 => k_is); (case k18 => k_is); (case z_ArithmeticError => k_is); (case z_IndexError => k_is); (case z_KeyError => k_is); (case z_LookupError => k_is); (case z_OverflowError => k_is); (case z_RuntimeError => k_is); (case z_ValueError => k_is); (case z_abs => k_is); (case z_int => k_is); (case z_isinstance => k_is); (case z_len => k_is); (case z_max => k_is); (case z_min => k_is); (case z_range => k_is); (case z_repr => k_is)
