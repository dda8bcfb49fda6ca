import PyProof.Rows.All
import Wide.All
import OpenK.AllK
import Wide.FinOn
import HandS.ForMost
import HandS.Wide
import HandS.Steps
import HandS.StrMore
import HandS.TupAny
import HandS.Style
import HandS.Flow
import HandS.IsInst
import HandS.RaiseMore
import HandS.Gcd
import HandS.EndBits
import HandS.Walk
import PyProof.Rows.StrCut
import KE.KIntText
import HandS.OwnEq
import HandS.Property
import HandS.FStr
import KE.KOpsOwn
import KE.KCallOwn
import HandS.Deep
import PyProof.ReprLen
import HandS.NoneIn
import HandS.ClsMeth
import PyProof.StrLawsRepr
import KE.IntTextLaws
import KE.IntTextText
import HandS.Text
import HandS.Exc
import HandS.ExcOwn
import HandS.WordsExc
import HandS.TryMany
import HandS.Lambda
import HandS.EndTab
import KE.KNestM
import PyProof.NeKinds
import PyProof.Rows.StrIntSpec
import PyProof.FString3
import HandS.WideBits
import HandS.DictComp
import HandS.Zip
import KE.KMathGC
import HandS.ListItems
import HandS.Small
import HandS.Sort
import HandS.Iter
import KE.KDictList
import HandS.ExcInit
import HandS.ExcValue
import HandS.ExcField
import HandS.ExcIs
import HandS.HotCalls
import KE.KExcInit
import KE.KExcIs
import HandS.Dict
import HandS.Set
import HandS.Strs
import HandS.SetBool
import HandS.More
import HandS.Comp
import PyProof.Rows.StrMeet
import PyProof.SetRoads
import KE.KFmtOwn
import HandS.Star
import HandS.Defaults
import HandS.MakeKwOnly
import HandS.Words
import HandS.Conv
import KE.KDictSum
import HandS.DictEq
import PyProof.DictUpdate
import PyProof.DictDisplay
import KE.KOwnIter
import HandS.IterVal
import PySem.Challenge.RW_touchrows_k07_questions_told
set_option Elab.async false
set_option linter.all false
set_option maxRecDepth 100000
set_option maxHeartbeats 4000000
/-! U: readings that compute by matching on the values, and a ledger of the objects that a def knows. -/
namespace U
open PySem PySem.Spec PyProof.Rows L2

section mono
variable {X : Cx}
theorem peM {e : Expr} {t t' : TE} (h : PE X e t) (m : ∀ σ H Q, t' σ H Q → t σ H Q) : PE X e t' := ⟨fun pins s σ H Q I q => h.run pins s σ H Q I (m σ H Q q)⟩
theorem ptM {e : Expr} {t t' : TT} (h : PT X e t) (m : ∀ σ H Q, t' σ H Q → t σ H Q) : PT X e t' := ⟨fun pins s σ H Q I q => h.run pins s σ H Q I (m σ H Q q)⟩
theorem pwM {e : Expr} {t t' : TT} (h : PW X e t) (m : ∀ σ H Q, t' σ H Q → t σ H Q) : PW X e t' := ⟨fun wh pins s σ H Q I q => h.run wh pins s σ H Q I (m σ H Q q)⟩
theorem psM {e : Stmt} {t t' : TS} (h : PS X e t) (m : ∀ D σ H, t' D σ H → t D σ H) : PS X e t' := ⟨fun pins s σ H D I q => h.run pins s σ H D I (m D σ H q)⟩
theorem opM {f : Value → Value → Sem Value} {r r' : R2} (h : OpR X f r) (m : ∀ x y H Q, r' x y H Q → r x y H Q) : OpR X f r' := fun pins s σ H x y v u Q I rx ry q => h pins s σ H x y v u Q I rx ry (m x y H Q q)
theorem caM {f : Value} {r r' : List V → Hp → VK → Prop} (h : CallR X f r) (m : ∀ xs H Q, r' xs H Q → r xs H Q) : CallR X f r' := fun pins s σ H xs us Q I r q => h pins s σ H xs us Q I r (m xs H Q q)
end mono

/-- a way of two: by the answer -/
@[irreducible] def br (c : Bool) (A B : Prop) : Prop := if c = true then A else B
theorem brT {A B : Prop} (h : A) : br true A B := by unfold br; exact h
theorem brF {A B : Prop} (h : B) : br false A B := by unfold br; rw [if_neg Bool.false_ne_true]; exact h
theorem brY {c : Bool} {A B : Prop} (e : c = true) (h : A) : br c A B := by subst e; exact brT h
theorem brN {c : Bool} {A B : Prop} (e : c = false) (h : B) : br c A B := by subst e; exact brF h
theorem br2 {c : Bool} {A B : Prop} (h1 : c = true → A) (h2 : c = false → B) : br c A B := by
  cases c with
  | true => exact brT (h1 rfl)
  | false => exact brF (h2 rfl)
theorem brD {p : Prop} [Decidable p] {A B : Prop} (h1 : p → A) (h2 : ¬ p → B) : br (decide p) A B := br2 (fun e => h1 (of_decide_eq_true e)) (fun e => h2 (of_decide_eq_false e))
theorem br_if {c : Bool} {A B : Prop} (h : br c A B) : if c = true then A else B := by unfold br at h; exact h

/-! ### names, choices -/
def uV (i : Nat) : TE := fun σ H Q => match σ[i]? with | some (some v) => Q v H | _ => False
section
variable {X : Cx} {pos : Pos}
theorem pev (i : Nat) {x : Str} {pos : Pos} (hN : X.N[i]? = some x := by rfl) (hv : Vis X.env.scope x := by first | exact Or.inl rfl | exact Or.inr (Or.inl rfl) | exact Or.inr (Or.inr rfl)) (hd : (x == ("__debug__" : Str)) = false := by decide)
    (hcd : (x == ("__classdict__" : Str)) = false := by decide) : PE X (.Name x pos) (uV i) := peM (pv i hN hv hd hcd) fun σ H Q h => by
  unfold uV at h
  split at h
  · exact ⟨_, by assumption, h⟩
  · exact h.elim
def uIf (t : TT) (ta tb : TE) : TE := fun σ H Q => t σ H fun c H1 => br c (ta σ H1 Q) (tb σ H1 Q)
def uIfS (c : TT) (t u : TS) : TS := fun D σ H => c σ H fun b H1 => br b (t D σ H1) (u D σ H1)
def uAnd (t u : TT) : TT := fun σ H Q => t σ H fun c H1 => br c (u σ H1 Q) (Q false H1)
def uOr (t u : TT) : TT := fun σ H Q => t σ H fun c H1 => br c (Q true H1) (u σ H1 Q)
/-- monotone readings of tests -/
structure MT (t : TT) : Prop where
  m : ∀ σ H Q Q', (∀ b H1, Q b H1 → Q' b H1) → t σ H Q → t σ H Q'
end
section
variable {X : Cx} {pos : Pos} {a b c : Expr} {ta tb te : TE} {tc td : TT} {t u : TS} {rest : List Expr} {xs ys : List Stmt}
theorem psIf (hc : PT X c tc) (ha : PSs X xs t) (hb : PSs X ys u) : PS X (.If c xs ys pos) (uIfS tc t u) := ⟨fun p s z H D I h => wpAny_If (thn (hc.run p s z H _ I h) fun k s1 ⟨H1, I1, q⟩ => by
  cases k with
  | true => exact ha.run p s1 z H1 D I1 (by unfold br at q; exact q)
  | false => exact hb.run p s1 z H1 D I1 (by unfold br at q; exact q))⟩
theorem peIf (hc : PT X c tc) (ha : PE X a ta) (hb : PE X b tb) : PE X (.IfExp c a b pos) (uIf tc ta tb) := ⟨fun p s z H Q I h => wpAny_IfExp (thn (hc.run p s z H _ I h) fun k s1 ⟨H1, I1, q⟩ => by
  cases k with
  | true => exact ha.run p s1 z H1 Q I1 (by unfold br at q; exact q)
  | false => exact hb.run p s1 z H1 Q I1 (by unfold br at q; exact q))⟩
theorem pwAnd (ha : PT X a tc) (hb : PW X (.BoolOp .And (b :: rest) pos) td) : PW X (.BoolOp .And (a :: b :: rest) pos) (uAnd tc td) := ⟨fun wh p s z H Q I h => isTrue_and (thn (ha.run p s z H _ I h) fun k s1 ⟨H1, I1, q⟩ => by
  cases k with
  | true => exact hb.run wh p s1 z H1 Q I1 (by unfold br at q; exact q)
  | false => exact ⟨H1, I1, by unfold br at q; exact q⟩)⟩
theorem pwOr (ha : PT X a tc) (hb : PW X (.BoolOp .Or (b :: rest) pos) td) : PW X (.BoolOp .Or (a :: b :: rest) pos) (uOr tc td) := ⟨fun wh p s z H Q I h => isTrue_or (thn (ha.run p s z H _ I h) fun k s1 ⟨H1, I1, q⟩ => by
  cases k with
  | true => exact ⟨H1, I1, by unfold br at q; exact q⟩
  | false => exact hb.run wh p s1 z H1 Q I1 (by unfold br at q; exact q))⟩
/-- and, or, not as values, the members bools -/
def uAndV (ta tb : TE) : TE := fun σ H Q => ta σ H fun x H1 => match x with | .bl k => br k (tb σ H1 Q) (Q (.bl false) H1) | _ => False
def uOrV (ta tb : TE) : TE := fun σ H Q => ta σ H fun x H1 => match x with | .bl k => br k (Q (.bl true) H1) (tb σ H1 Q) | _ => False
def uNotV (ta : TE) : TE := fun σ H Q => ta σ H fun x H1 => match x with | .bl k => Q (.bl (!k)) H1 | _ => False
theorem peAnd (ha : PE X a ta) (hb : PE X (.BoolOp .And (b :: rest) pos) tb) : PE X (.BoolOp .And (a :: b :: rest) pos) (uAndV ta tb) := ⟨fun p s z H Q I h => BoolOp_and (thn (ha.run p s z H _ I h) fun v s1 ⟨x, H1, I1, r1, q⟩ => by
  cases x with
  | bl k =>
    cases r1
    refine wpAny_truthy_bool ?_
    cases k with
    | true => exact hb.run p s1 z H1 Q I1 (by simp only [br] at q; exact q)
    | false => exact ⟨.bl false, H1, I1, rfl, by simp only [br] at q; exact q⟩
  | _ => exact (show False from q).elim)⟩
theorem peOr (ha : PE X a ta) (hb : PE X (.BoolOp .Or (b :: rest) pos) tb) : PE X (.BoolOp .Or (a :: b :: rest) pos) (uOrV ta tb) := ⟨fun p s z H Q I h => BoolOp_or (thn (ha.run p s z H _ I h) fun v s1 ⟨x, H1, I1, r1, q⟩ => by
  cases x with
  | bl k =>
    cases r1
    refine wpAny_truthy_bool ?_
    cases k with
    | true => exact ⟨.bl true, H1, I1, rfl, by simp only [br] at q; exact q⟩
    | false => exact hb.run p s1 z H1 Q I1 (by simp only [br] at q; exact q)
  | _ => exact (show False from q).elim)⟩
/-- a value's truth -/
def uTru (K : PySem.W.Frag) (x : V) (H : Hp) (Q : Bool → Hp → Prop) : Prop := match x with
  | .bl k => Q k H
  | .int i => Q (decide (i ≠ 0)) H
  | .non => Q false H
  | .str y => y.length ≤ sizeLine ∧ Q (decide (y.length ≠ 0)) H
  | .ref p => ∃ k, TruV K (.ref p) H k ∧ Q k H
  | _ => False
def uTrue (K : PySem.W.Frag) (ta : TE) : TT := fun σ H Q => ta σ H fun x H1 => uTru K x H1 Q
theorem ptV (ha : PE X a ta) (he : ∀ whole, isTrue a X.env whole = (do let v ← whole; standAt a.pos; holding [v] (truthy v)) := by intro _; rfl) : PT X a (uTrue X.K ta) := by
  refine ⟨fun p s z H Q I h => isTrue_plain (thn (ha.run p s z H _ I h) fun v s1 ⟨x, H1, I1, r1, q⟩ => ?_) (he _)⟩
  refine tru_ok p s1 z H1 x v Q I1 r1 ?_
  cases x with
  | non => exact ⟨false, rfl, q⟩
  | bl k => exact ⟨k, rfl, q⟩
  | int i =>
    refine ⟨_, rfl, ?_⟩
    have e : decide (i ≠ 0) = (i != 0) := by by_cases h0 : i = 0 <;> simp [h0]
    have q' : Q (decide (i ≠ 0)) H1 := q
    rw [e] at q'
    exact q'
  | str y =>
    obtain ⟨q1, q2⟩ := (show y.length ≤ sizeLine ∧ Q (decide (y.length ≠ 0)) H1 from q)
    refine ⟨_, ⟨q1, rfl⟩, ?_⟩
    have e : decide (y.length ≠ 0) = ((y.length : Int) != 0) := by by_cases h0 : y.length = 0 <;> simp [h0]
    rw [e] at q2
    exact q2
  | ref r => exact q
  | byt _ => exact (show False from q).elim
  | flt _ => exact (show False from q).elim
  | ty _ => exact (show False from q).elim
end

/-! ### operators by matching -/
section
variable {X : Cx}
def uAdd (K : PySem.W.Frag) : R2 := fun x y H Q => match x, y with
  | .int i, .int j => Q (.int (i + j)) H
  | .str i, .str j => i.length + j.length ≤ sizeLine ∧ Q (.str (i ++ j)) H
  | .ref a, .ref b => rCat (.ref a) (.ref b) H Q ∨ rCatA K (.ref a) (.ref b) H Q
  | _, _ => False
theorem opAdd : OpR X (binaryOp .Add) (uAdd X.K) := fun p s z H x y v u Q I rx ry h => by
  unfold uAdd at h
  split at h
  · exact op_add p s z H _ _ v u Q I rx ry ⟨_, _, rfl, rfl, h⟩
  · exact op_add_str p s z H _ _ v u Q I rx ry ⟨_, _, rfl, rfl, h.1, h.2⟩
  · rcases h with h | h
    · exact op_cat p s z H _ _ v u Q I rx ry h
    · exact op_catA p s z H _ _ v u Q I rx ry h
  · exact h.elim
def uSub : R2 := fun x y H Q => match x, y with | .int i, .int j => Q (.int (i - j)) H | _, _ => False
theorem opSub : OpR X (binaryOp .Sub) uSub := fun p s z H x y v u Q I rx ry h => by
  unfold uSub at h
  split at h
  · exact op_sub p s z H _ _ v u Q I rx ry ⟨_, _, rfl, rfl, h⟩
  · exact h.elim
/-- the sizes of a product's factors -/
def FitM (i j : Int) : Prop := i.natAbs < 2 ^ 400000 ∧ j.natAbs < 2 ^ 400000
def uMul : R2 := fun x y H Q => match x, y with
  | .int i, .int j => CMulW i j ∧ Q (.int (i * j)) H
  | .ref a, .int j => rRep (.ref a) (.int j) H Q
  | _, _ => False
theorem opMul : OpR X (binaryOp .Mult) uMul := fun p s z H x y v u Q I rx ry h => by
  unfold uMul at h
  split at h
  · exact op_mulW p s z H _ _ v u Q I rx ry ⟨_, _, rfl, rfl, h.1, h.2⟩
  · exact op_rep p s z H _ _ v u Q I rx ry h
  · exact h.elim
def uDiv : R2 := fun x y H Q => match x, y with | .int i, .int j => CDivW i j ∧ Q (.int (i / j)) H | _, _ => False
theorem opDiv : OpR X (binaryOp .FloorDiv) uDiv := fun p s z H x y v u Q I rx ry h => by
  unfold uDiv at h
  split at h
  · exact op_fdivW p s z H _ _ v u Q I rx ry ⟨_, _, rfl, rfl, h.1, h.2⟩
  · exact h.elim
def uMod : R2 := fun x y H Q => match x, y with | .int i, .int j => 0 < j ∧ Q (.int (i % j)) H | _, _ => False
theorem opMod : OpR X (binaryOp .Mod) uMod := fun p s z H x y v u Q I rx ry h => by
  unfold uMod at h
  split at h
  · exact op_mod p s z H _ _ v u Q I rx ry ⟨_, _, rfl, rfl, h.1, h.2⟩
  · exact h.elim
def uPow : R2 := fun x y H Q => match x, y with | .int i, .int j => CPow i j ∧ Q (.int (i ^ j.toNat)) H | _, _ => False
theorem opPow : OpR X (binaryOp .Pow) uPow := fun p s z H x y v u Q I rx ry h => by
  unfold uPow at h
  split at h
  · exact op_pow p s z H _ _ v u Q I rx ry ⟨_, _, rfl, rfl, h.1, h.2⟩
  · exact h.elim
def uNeg : V → Hp → VK → Prop := fun x H Q => match x with | .int i => Q (.int (-i)) H | _ => False
theorem unNeg : UnR X (unaryOp .USub) uNeg := fun p s z H x v Q I rx h => by
  unfold uNeg at h
  split at h
  · exact un_neg p s z H _ v Q I rx ⟨_, rfl, h⟩
  · exact h.elim

/-! ### comparisons -/
def uEq (K : PySem.W.Frag) : R2 := fun x y H Q => match scal x y with
  | true => Q (.bl (decide (x = y))) H
  | false => rEqD K x y H Q
theorem opEq (hu : X.A.units + 64 < cLine) : OpR X (compareOp .Eq) (uEq X.K) := fun p s z H x y v u Q I rx ry h => by
  unfold uEq at h
  split at h
  · exact op_eq p s z H _ _ v u Q I rx ry ⟨by assumption, h⟩
  · exact op_eqD hu p s z H _ _ v u Q I rx ry h
def uNe (K : PySem.W.Frag) : R2 := fun x y H Q => match scal x y with
  | true => Q (.bl (!decide (x = y))) H
  | false => rNeD K x y H Q
theorem opNe (hu : X.A.units + 64 < cLine) : OpR X (compareOp .NotEq) (uNe X.K) := fun p s z H x y v u Q I rx ry h => by
  unfold uNe at h
  split at h
  · exact op_ne p s z H _ _ v u Q I rx ry ⟨by assumption, h⟩
  · exact op_neD hu p s z H _ _ v u Q I rx ry h
def uLt : R2 := fun x y H Q => match x, y with
  | .int i, .int j => Q (.bl (decide (i < j))) H
  | .str i, .str j => Q (.bl (decide (i.cps.toList < j.cps.toList))) H
  | _, _ => False
theorem opLt : OpR X (compareOp .Lt) uLt := fun p s z H x y v u Q I rx ry h => by
  unfold uLt at h
  split at h
  · exact op_lt p s z H _ _ v u Q I rx ry ⟨_, _, rfl, rfl, h⟩
  · exact op_lt_str p s z H _ _ v u Q I rx ry ⟨_, _, rfl, rfl, h⟩
  · exact h.elim
def uLe : R2 := fun x y H Q => match x, y with | .int i, .int j => Q (.bl (decide (i ≤ j))) H | _, _ => False
theorem opLe : OpR X (compareOp .LtE) uLe := fun p s z H x y v u Q I rx ry h => by
  unfold uLe at h
  split at h
  · exact op_le p s z H _ _ v u Q I rx ry ⟨_, _, rfl, rfl, h⟩
  · exact h.elim
def uGt : R2 := fun x y H Q => match x, y with | .int i, .int j => Q (.bl (decide (j < i))) H | _, _ => False
theorem opGt : OpR X (compareOp .Gt) uGt := fun p s z H x y v u Q I rx ry h => by
  unfold uGt at h
  split at h
  · exact op_gt p s z H _ _ v u Q I rx ry ⟨_, _, rfl, rfl, h⟩
  · exact h.elim
def uGe : R2 := fun x y H Q => match x, y with | .int i, .int j => Q (.bl (decide (j ≤ i))) H | _, _ => False
theorem opGe : OpR X (compareOp .GtE) uGe := fun p s z H x y v u Q I rx ry h => by
  unfold uGe at h
  split at h
  · exact op_ge p s z H _ _ v u Q I rx ry ⟨_, _, rfl, rfl, h⟩
  · exact h.elim
/-- a sign in a text -/
def uInS : R2 := fun x y H Q => match x, y with
  | .str c, .str z => ∃ n, c = ⟨#[n]⟩ ∧ Q (.bl (decide (n ∈ z.cps.toList))) H
  | _, _ => False
theorem opInS : OpR X (compareOp .In) uInS := fun p s z H x y v u Q I rx ry h => by
  unfold uInS at h
  split at h
  · obtain ⟨n, e, h⟩ := h
    subst e
    exact op_in_sign p s z H _ _ v u Q I rx ry ⟨_, _, rfl, rfl, h⟩
  · exact h.elim
def uNotInS : R2 := fun x y H Q => match x, y with
  | .str c, .str z => ∃ n, c = ⟨#[n]⟩ ∧ Q (.bl (!decide (n ∈ z.cps.toList))) H
  | _, _ => False
theorem opNotInS : OpR X (compareOp .NotIn) uNotInS := fun p s z H x y v u Q I rx ry h => by
  unfold uNotInS at h
  split at h
  · obtain ⟨n, e, h⟩ := h
    subst e
    exact op_notIn_sign p s z H _ _ v u Q I rx ry ⟨_, _, rfl, rfl, h⟩
  · exact h.elim
end
/-- a chain of two comparisons -/
def uChain (r r' : R2) (ta tb tc : TE) : TE := fun σ H Q => ta σ H fun x H1 => tb σ H1 fun y H2 => r x y H2 fun z H3 => match z with
  | .bl k => br k (tc σ H3 fun w H4 => r' y w H4 Q) (Q (.bl false) H3)
  | _ => False
end U

namespace U
open PySem PySem.Spec PyProof.Rows L2
theorem foldl_arr (x : Array Nat) : ∀ (n : Nat) (a : Array Nat), ((List.replicate n x).foldl (· ++ ·) a).toList = a.toList ++ (List.replicate n x.toList).flatten
  | 0, a => by simp
  | n + 1, a => by
    rw [List.replicate_succ, List.foldl_cons, foldl_arr x n, List.replicate_succ, List.flatten_cons]
    simp
theorem flat_nil : ∀ k : Nat, (List.replicate k ([] : List Nat)).flatten = []
  | 0 => rfl
  | k + 1 => by rw [List.replicate_succ, List.flatten_cons, flat_nil k]; rfl
theorem mul_list (x : Str) (n : Int) (h0 : 0 ≤ n) : (Txt.mul x n).cps.toList = (List.replicate n.toNat x.cps.toList).flatten := by
  unfold Txt.mul
  split
  · rw [show n.toNat = 0 by omega]; rfl
  · split
    · rename_i h1 h2
      rw [Bool.or_eq_true] at h2
      rcases h2 with h2 | h2
      · obtain rfl : n = 1 := by simpa using h2
        simp
      · have h3 : x.cps.toList.length = 0 := by simpa [Str.length] using h2
        rw [List.eq_nil_of_length_eq_zero h3, flat_nil]
    · rw [foldl_arr]; rfl
theorem mul_ok {x : Str} {n : Int} (h0 : 0 ≤ n) (h1 : n ≤ 1000000) (h : x.length * n.toNat ≤ 1000000) : MulOk x n := by
  refine ⟨?_, fun h2 _ => ?_, fun _ _ => ?_⟩
  · rw [decide_eq_false (show ¬ n < -(2 ^ 63 : Int) by omega), decide_eq_false (show ¬ n ≥ (2 ^ 63 : Int) by omega)]; rfl
  · intro z
    have hx : x.length ≤ 1000000 := Nat.le_trans (by
      have h5 := Nat.mul_le_mul_left x.length (show 1 ≤ n.toNat by omega)
      omega) h
    have h3 : (2 ^ 63 - 1 : Int) / n ≥ 1000000 := (Int.le_ediv_iff_mul_le (by omega)).mpr (by omega)
    omega
  · unfold Builtin.Str.tooLong
    have := sizeLine_eq
    simp
    omega
section
variable {X : Cx}
/-- a product, also of a text -/
def uMulT : R2 := fun x y H Q => match x, y with
  | .str i, .int j => (0 ≤ j ∧ j ≤ 1000000 ∧ i.length * j.toNat ≤ 1000000) ∧ Q (.str (Txt.mul i j)) H
  | _, _ => uMul x y H Q
theorem opMulT : OpR X (binaryOp .Mult) uMulT := fun p s z H x y v u Q I rx ry h => by
  unfold uMulT at h
  split at h
  · obtain ⟨⟨h0, h1, h2⟩, q⟩ := h
    obtain ⟨t, rfl⟩ := rx
    obtain ⟨t', rfl⟩ := ry
    exact SB.mul (mul_ok h0 h1 h2) fun t' k => ⟨.str _, H, I.tok k, ⟨_, rfl⟩, q⟩
  · exact opMul p s z H _ _ v u Q I rx ry h

/-! ### calls of built-ins -/
def uLen (K : PySem.W.Frag) : List V → Hp → VK → Prop := fun vs H Q => match vs with
  | [.str y] => y.length ≤ sizeLine ∧ Q (.int y.length) H
  | [.ref p] => ∃ xs, (SqL K H p xs ∨ SqT K H p xs) ∧ Q (.int xs.length) H
  | _ => False
theorem caLen : CallR X (.builtin "len") (uLen X.K) := fun p s z H xs us Q I r h => by
  unfold uLen at h
  split at h
  · exact call_len_str p s z H _ us Q I r ⟨_, rfl, h.1, h.2⟩
  · obtain ⟨ys, h1, h2⟩ := h
    exact call_len_seq p s z H _ us Q I r ⟨_, ys, rfl, h1, h2⟩
  · exact h.elim
def uMax (vs : List V) (H : Hp) (Q : VK) : Prop := match vs with | [.int i, .int j] => Q (.int (max i j)) H | _ => False
theorem caMax (hc : X.calm = true) : CallR X (.builtin "max") uMax := fun p s z H xs us Q I r h => by
  unfold uMax at h
  split at h
  · refine call_max2 hc p s z H _ us Q I r ⟨_, _, rfl, ?_⟩
    rename_i i j
    have e : (if j > i then j else i) = max i j := by omega
    rw [e]; exact h
  · exact h.elim
def uMin (vs : List V) (H : Hp) (Q : VK) : Prop := match vs with | [.int i, .int j] => Q (.int (min i j)) H | _ => False
theorem caMin (hc : X.calm = true) : CallR X (.builtin "min") uMin := fun p s z H xs us Q I r h => by
  unfold uMin at h
  split at h
  · refine call_min2 hc p s z H _ us Q I r ⟨_, _, rfl, ?_⟩
    rename_i i j
    have e : (if j < i then j else i) = min i j := by omega
    rw [e]; exact h
  · exact h.elim
def uAbs (vs : List V) (H : Hp) (Q : VK) : Prop := match vs with | [.int i] => Q (.int i.natAbs) H | _ => False
theorem caAbs : CallR X (.builtin "abs") uAbs := fun p s z H xs us Q I r h => by
  unfold uAbs at h
  split at h
  · refine call_abs p s z H _ us Q I r ⟨_, rfl, ?_⟩
    rename_i i
    have e : (if i < 0 then -i else i) = (i.natAbs : Int) := by omega
    rw [e]; exact h
  · exact h.elim
def uInt (vs : List V) (H : Hp) (Q : VK) : Prop := match vs with | [.int i] => Q (.int i) H | [.bl k] => Q (.int (if k then 1 else 0)) H | _ => False
theorem caInt : CallR X (.type "int") uInt := fun p s z H xs us Q I r h => by
  unfold uInt at h
  split at h
  · exact call_int1 p s z H _ us Q I r (.inl ⟨_, rfl, h⟩)
  · exact call_int1 p s z H _ us Q I r (.inr ⟨_, rfl, h⟩)
  · exact h.elim
def uStr (vs : List V) (H : Hp) (Q : VK) : Prop := match vs with | [.int i] => i.natAbs.log2 < 1920 ∧ Q (.str (toString i)) H | [.str a] => Q (.str a) H | _ => False
theorem caStr : CallR X (.type "str") uStr := fun p s z H xs us Q I r h => by
  unfold uStr at h
  split at h
  · exact call_str_int p s z H _ us Q I r ⟨_, rfl, h.1, h.2⟩
  · exact SkE.call_str_str p s z H _ us Q I r ⟨_, rfl, h⟩
  · exact h.elim
/-- repr of data at any depth: a list or a tuple -/
def uRepr (K : PySem.W.Frag) (vs : List V) (H : Hp) (Q : VK) : Prop := match vs with
  | [.ref a] => ∃ d, Dp K H (.ref a) d ∧ d.showable = true ∧ SeqAt.shaped d = true ∧ d.shown.length ≤ sizeLine ∧ Q (.str d.shown) H
  | _ => False
theorem caRepr (hg : X.A.guards = some []) (hu : X.A.units + 70 < cLine) : CallR X (.builtin "repr") (uRepr X.K) := fun p s z H xs us Q I r h => by
  unfold uRepr at h
  split at h
  · obtain ⟨d, hd, h1, h2, h3, q⟩ := h
    obtain ⟨u, rfl, ru⟩ := L2.vals1 r
    cases (show u = Value.ref _ from ru)
    obtain ⟨as, rd⟩ := Dp.reads I d _ _ hd rfl
    have hdep := SeqAt.depth_of_shaped h2
    refine repr_of_reads' rd h1 (PyData.noDict_hsm (PyData.hasDict_of_canLay d (SeqAt.canLay_of_shaped h2))) hg (by omega) (fun _ _ e => e) (fun h' u tk k => ?_) h3
    exact ⟨.str d.shown, H, I.kept (t' := tk) k, ⟨_, rfl⟩, q⟩
  · exact h.elim
/-- an item by its place -/
def uIx (K : PySem.W.Frag) : R2 := fun x y H Q => match x, y with
  | .str z, .int i => z.length ≤ sizeLine ∧ ∃ c, atI z.cps.toList i = some c ∧ Q (.str ⟨#[c]⟩) H
  | .ref p, .int i => ∃ xs v, (SqL K H p xs ∨ SqT K H p xs) ∧ atI xs i = some v ∧ Q v H
  | _, _ => False
theorem ixU : IxR X (uIx X.K) := fun va sl p s z H x y v u Q I rx ry h hs => by
  unfold uIx at h
  split at h
  · obtain ⟨h1, c, h2, q⟩ := h
    exact ix_str va sl p s z H _ _ v u Q I rx ry ⟨_, _, c, rfl, rfl, h1, h2, q⟩ hs
  · obtain ⟨xs, w, h1 | h1, h2, q⟩ := h
    · exact ix_list va sl p s z H _ _ v u Q I rx ry ⟨_, xs, _, w, rfl, rfl, h1, h2, q⟩ hs
    · exact ix_tup va sl p s z H _ _ v u Q I rx ry ⟨_, xs, _, w, rfl, rfl, h1, h2, q⟩ hs
  · exact h.elim
end

/-! ### the ledger: what a def knows of the heap -/
/-- H0 the heap at the start, D what may change of it; F what stands still, M what may still change, each by its address -/
structure At (H0 : Hp) (D : List Addr) (F M : List (Addr × HO)) (H : Hp) : Prop where
  fr : ∀ a o, H0 a = some o → a ∉ D → H a = some o
  fa : ∀ p ∈ F, H p.1 = some p.2
  mu : ∀ p ∈ M, H p.1 = some p.2
  mf : ∀ p ∈ M, p.1 ∈ D ∨ H0 p.1 = none
  df : ∀ p ∈ M, ∀ q ∈ F, p.1 ≠ q.1
  nd : (M.map (·.1)).Nodup
section
variable {H0 H H' : Hp} {D : List Addr} {F M : List (Addr × HO)} {a p : Addr} {o u : HO}
theorem At.start (H : Hp) : At H [] [] [] H := ⟨fun _ _ h _ => h, fun _ h => absurd h List.not_mem_nil, fun _ h => absurd h List.not_mem_nil, fun _ h => absurd h List.not_mem_nil, fun _ h => absurd h List.not_mem_nil, List.nodup_nil⟩
/-- the dice alone may change -/
theorem At.start1 (h : H a = some o) : At H [a] [] [(a, o)] H := ⟨fun _ _ e _ => e, fun _ h => absurd h List.not_mem_nil, fun p hp => by
  obtain rfl := List.mem_singleton.mp hp
  exact h, fun p hp => .inl (by obtain rfl := List.mem_singleton.mp hp; exact List.mem_singleton.mpr rfl), fun _ _ _ h => absurd h List.not_mem_nil, by simp⟩
theorem At.get (L : At H0 D F M H) (h : (a, o) ∈ F) : H a = some o := L.fa _ h
theorem At.getM (L : At H0 D F M H) (h : (a, o) ∈ M) : H a = some o := L.mu _ h
/-- what is known of an object that doesn't change -/
theorem At.know (L : At H0 D F M H) (h : H a = some o) (hM : a ∉ M.map (·.1)) : At H0 D ((a, o) :: F) M H := ⟨L.fr, fun p hp => by
  rcases List.mem_cons.mp hp with rfl | hp
  · exact h
  · exact L.fa p hp, L.mu, L.mf, fun p hp q hq e => by
  rcases List.mem_cons.mp hq with rfl | hq
  · exact hM (List.mem_map.mpr ⟨p, hp, e⟩)
  · exact L.df p hp q hq e, L.nd⟩
theorem At.new (L : At H0 D F M H) (h : H p = none) : At H0 D ((p, o) :: F) M (upd H p o) := ⟨fun b u e n => by
  have q := L.fr b u e n
  rw [upd_ne (ne_of_none q h)]; exact q, fun q hq => by
  rcases List.mem_cons.mp hq with rfl | hq
  · exact upd_same
  · rw [upd_ne (ne_of_none (L.fa q hq) h)]; exact L.fa q hq, fun q hq => by
  rw [upd_ne (ne_of_none (L.mu q hq) h)]; exact L.mu q hq, L.mf, fun q hq r hr e => by
  rcases List.mem_cons.mp hr with rfl | hr
  · have e2 := L.mu q hq
    rw [show q.1 = p from e, h] at e2
    cases e2
  · exact L.df q hq r hr e, L.nd⟩
theorem At.no0 (L : At H0 D F M H) (hD : ∀ d ∈ D, ∃ u, H d = some u) (h : H p = none) : H0 p = none := by
  cases e : H0 p with
  | none => rfl
  | some u =>
    by_cases hp : p ∈ D
    · obtain ⟨w, e2⟩ := hD p hp
      rw [h] at e2; cases e2
    · rw [L.fr p u e hp] at h; cases h
theorem At.newM (L : At H0 D F M H) (hD : ∀ d ∈ D, ∃ u, H d = some u) (h : H p = none) : At H0 D F ((p, o) :: M) (upd H p o) := ⟨(L.new (o := o) h).fr, fun q hq => (L.new (o := o) h).fa q (List.mem_cons_of_mem _ hq), fun q hq => by
  rcases List.mem_cons.mp hq with rfl | hq
  · exact upd_same
  · exact (L.new (o := o) h).mu q hq, fun q hq => by
  rcases List.mem_cons.mp hq with rfl | hq
  · exact .inr (L.no0 hD h)
  · exact L.mf q hq, fun q hq r hr e => by
  rcases List.mem_cons.mp hq with rfl | hq
  · have e2 := L.fa r hr
    rw [← show p = r.1 from e, h] at e2; cases e2
  · exact L.df q hq r hr e, by
  rw [List.map_cons]
  refine List.nodup_cons.mpr ⟨fun z => ?_, L.nd⟩
  obtain ⟨q, hq, e⟩ := List.mem_map.mp z
  have e2 := L.mu q hq
  rw [show q.1 = p from e, h] at e2; cases e2⟩
/-- the first of M changes -/
theorem At.set (L : At H0 D F ((a, o) :: M) H) (h1 : ∀ b u, H b = some u → b ≠ a → H' b = some u) (h2 : H' a = some u) : At H0 D F ((a, u) :: M) H' := ⟨fun b w e n => h1 b w (L.fr b w e n) (fun z => by
  subst z
  rcases L.mf _ (List.mem_cons_self ..) with z | z
  · exact n z
  · rw [e] at z; cases z), fun q hq => h1 _ _ (L.fa q hq) (fun z => L.df _ (List.mem_cons_self ..) q hq z.symm), fun q hq => by
  rcases List.mem_cons.mp hq with rfl | hq
  · exact h2
  · refine h1 _ _ (L.mu q (List.mem_cons_of_mem _ hq)) fun z => ?_
    have := L.nd
    rw [List.map_cons] at this
    exact (List.nodup_cons.mp this).1 (List.mem_map.mpr ⟨q, hq, z⟩), fun q hq => by
  rcases List.mem_cons.mp hq with rfl | hq
  · exact L.mf (a, o) (List.mem_cons_self ..)
  · exact L.mf q (List.mem_cons_of_mem _ hq), fun q hq r hr => by
  rcases List.mem_cons.mp hq with rfl | hq
  · exact L.df (a, o) (List.mem_cons_self ..) r hr
  · exact L.df q (List.mem_cons_of_mem _ hq) r hr, by have := L.nd; rw [List.map_cons] at this ⊢; exact this⟩
theorem At.upd (L : At H0 D F ((a, o) :: M) H) : At H0 D F ((a, u) :: M) (L2.upd H a u) := L.set (fun b w e n => by rw [upd_ne n]; exact e) upd_same
theorem memSwap {α : Type} {x q r : α} {l : List α} (h : x ∈ r :: q :: l) : x ∈ q :: r :: l := by
  rcases List.mem_cons.mp h with rfl | h
  · exact .tail _ (.head _)
  · rcases List.mem_cons.mp h with rfl | h
    · exact .head _
    · exact .tail _ (.tail _ h)
/-- M in another order -/
theorem At.swap {q r : Addr × HO} (L : At H0 D F (q :: r :: M) H) : At H0 D F (r :: q :: M) H := ⟨L.fr, L.fa, fun x hx => L.mu x (memSwap hx), fun x hx => L.mf x (memSwap hx), fun x hx => L.df x (memSwap hx), by
  have := L.nd
  simp only [List.map_cons, List.nodup_cons, List.mem_cons, not_or] at this ⊢
  exact ⟨⟨fun z => this.1.1 z.symm, this.2.1⟩, this.1.2, this.2.2⟩⟩
/-- the first of M stands still from here on -/
theorem At.still (L : At H0 D F ((a, o) :: M) H) : At H0 D ((a, o) :: F) M H := ⟨L.fr, fun q hq => by
  rcases List.mem_cons.mp hq with rfl | hq
  · exact L.mu _ (List.mem_cons_self ..)
  · exact L.fa q hq, fun q hq => L.mu q (List.mem_cons_of_mem _ hq), fun q hq => L.mf q (List.mem_cons_of_mem _ hq), fun q hq r hr e => by
  rcases List.mem_cons.mp hr with rfl | hr
  · have := L.nd
    rw [List.map_cons] at this
    exact (List.nodup_cons.mp this).1 (List.mem_map.mpr ⟨q, hq, e⟩)
  · exact L.df q (List.mem_cons_of_mem _ hq) r hr e, by have := L.nd; rw [List.map_cons] at this; exact (List.nodup_cons.mp this).2⟩
/-- behind what only adds -/
theorem At.same (L : At H0 D F M H) (h : ∀ b u, H b = some u → H' b = some u) : At H0 D F M H' := ⟨fun b w e n => h _ _ (L.fr b w e n), fun q hq => h _ _ (L.fa q hq), fun q hq => h _ _ (L.mu q hq), L.mf, L.df, L.nd⟩
/-- forget -/
theorem At.less {F' : List (Addr × HO)} (L : At H0 D F M H) (h : ∀ p ∈ F', p ∈ F) : At H0 D F' M H := ⟨L.fr, fun q hq => L.fa q (h q hq), L.mu, L.mf, fun q hq r hr => L.df q hq r (h r hr), L.nd⟩
end
end U

/-! U3: promises of defs that are called where no repr is under way (repr of a list asks for that). -/
namespace U
open PySem PySem.Spec PyProof.Rows L2
/-- a def's promise, wherever no repr is under way -/
structure FnG (P : Program) (w : World) (K : PySem.W.Frag) (mg : Str → Option Value) (base : Heap) (CX : CXT) (k : Nat) (f : Addr) (fd : FuncData) (ps : List Str) (sp : Sp) : Prop where
  len : ∀ vs H Q E, sp vs H Q E → vs.length = ps.length
  run : ∀ (A : Around) (outer : List Env) (s : Shared) (H : Hp) (args : Args) (us : List Value) (vs : List V) (Q : VK) (E : XK), A.guards = some [] → Room k A → Env0 P w K mg base A outer s H → BindsTo s fd args (ps.zip us) → Vals vs us →
    sp vs H Q E → codeAny (model P w) A (.call (.ref f) args) (CR CX outer P w H s Q E) s
section
variable {P : Program} {w : World} {K : PySem.W.Frag} {mg : Str → Option Value} {base : Heap} {CX : CXT} {k j : Nat} {f : Addr} {fd : FuncData} {ps N : List Str} {sp : Sp} {st : Stmt} {nm qual : Str}
theorem FnG.of (F : FnOk P w K mg base CX k f fd ps sp) : FnG P w K mg base CX k f fd ps sp := ⟨F.len, fun A o s H ar us vs Q E _ => F.run A o s H ar us vs Q E⟩
theorem FnG.mono (F : FnG P w K mg base CX j f fd ps sp) (h : j ≤ k) : FnG P w K mg base CX k f fd ps sp := ⟨F.len, fun A o s H ar us vs Q E g r => F.run A o s H ar us vs Q E g (r.mono h)⟩
/-- a def by its body, where no repr is under way -/
theorem okG (F : Fun K nm qual st f fd) (S : FnScope N ps (defScope st)) (len : ∀ vs H Q E, sp vs H Q E → vs.length = ps.length)
    (body : ∀ (cdv : Value) (A : Around) (outer : List Env) (s : Shared) (H : Hp) (vs : List V) (Q : VK) (E : XK), A.guards = some [] → Room k (A.deeper (envOfC qual (defScope st) s.heap.objs.size f cdv)) → sp vs H Q E →
      ∃ t, PSs (cxOf CX P w K mg base N qual (defScope st) f cdv A outer s H E) (defBody st) t ∧ t { nx := fun _ H' => Q .non H', rt := Q } (start N vs) H) : FnG P w K mg base CX (k + 1) f fd ps sp := by
  obtain ⟨oc, od, kV, doc, pm, an, cdv, ct, osl, rfl, lk, hcd⟩ := F.ex
  refine ⟨len, fun A outer s H args us vs Q E hg hr e0 hb r hsp => ?_⟩
  have kin : K.In s.heap := e0.mod.kin.keeps fun b o z => (e0.bs b o z).1
  have nol : s.heap.NoLimit := e0.mod.nolimit.keeps fun b o z => (e0.bs b o z).1
  refine codeAny_call_function hr.depth (kin _ _ lk) rfl S.co S.gen rfl (PySem.W.codeRec_of kin hcd) (hb _ _ _ _ ?_)
  refine wpAny_newFunctionEnv_cells S.kind (fun ⟨n, v⟩ hy => (S.par n (List.of_mem_zip hy).1).elim .inl fun q => .inr ⟨q, PySem.W.cellsFrom_some _ _ _ (.inl q)⟩) fun env he s1 x => ?_
  subst he
  refine ⟨nol.keeps x.toInCall.keep, codeAny_func ?_⟩
  obtain ⟨t, ht, hq⟩ := body cdv A outer s H vs Q E hg (hr.deeper _) hsp
  have I0 := inv_start (CX := CX) (E := E) S hr.hd e0 (len _ _ _ _ hsp) r x
  refine wpAny_mono (ht.run [] s1 _ H _ I0 hq) (fun fl s' hs => ?_) fun e s' hs => hs
  cases fl with
  | ret u => exact let ⟨v, _, H', J, rv, q⟩ := hs; ⟨v, H', J.os, J.bare, J.base, J.hok, rv, q⟩
  | next => exact let ⟨_, H', J, q⟩ := hs; ⟨V.non, H', J.os, J.bare, J.base, J.hok, rfl, q⟩
  | brk => exact let ⟨_, _, _, q⟩ := hs; False.elim q
  | cont => exact let ⟨_, _, _, q⟩ := hs; False.elim q
end
section
variable {X : Cx} {CX : CXT} {k : Nat} {f : Addr} {fd : FuncData} {ps : List Str} {sp : Sp} {dvs : List V} {ds : List Value} {E : XK} {x : Str} {p pos : Pos} {e : Expr} {es : List Expr} {t : TA}
theorem runG {pins : List (Addr × Obj)} {σ : L2.St} {H : Hp} {s : Shared} {Q : VK} {us : List Value} {vs : List V} (F : FnG X.prog X.w X.K X.mg X.base CX k f fd ps sp) (hg : X.A.guards = some []) (hr : Room k X.A) (hb : Binds X.K fd ps ds) (hd : Vals dvs ds) (hx : Passes CX X E)
    (I : Inv X pins σ H s) (r : Vals vs us) (h : sp (vs ++ dvs) H Q E) : wpAny (model X.prog X.w) X.A (call (.ref f) us) (EP X pins σ Q) X.xe s := by
  have r2 : Vals (vs ++ dvs) (us ++ ds) := r.append hd
  refine wpAny_call (codeAny_mono (F.run X.A X.stack s H ⟨us, []⟩ (us ++ ds) (vs ++ dvs) Q E hg hr I.env0 (hb s us I.kIn (by rw [← r2.length]; exact F.len _ _ _ _ h)) r2 h) fun r s' hq => ?_)
  match r, hq with
  | .error e, hq => exact hx pins σ H s e s' I hq
  | .ok (.ret u), hq => exact I.after hq
  | .ok .next, hq => exact False.elim hq
  | .ok .brk, hq => exact False.elim hq
  | .ok .cont, hq => exact False.elim hq
theorem peG (F : FnG X.prog X.w X.K X.mg X.base CX k f fd ps sp) (hg : X.A.guards = some []) (hr : Room k X.A) (hn : Gl X x) (hm : X.mg x = some (.ref f)) (hk : PySem.W.keepIn X.K (.ref f) = true) (hb : Binds X.K fd ps ds) (hd : Vals dvs ds) (hx : Passes CX X E)
    (ha : PA X (e :: es) t) (hdb : (x == ("__debug__" : Str)) = false := by decide) (he : starEach (e :: es) X.env = (false, eval e X.env) :: starEach es X.env := by rfl) (hpl : (backTo pos (starEach es X.env)).any (·.1) = false := by rfl) :
    PE X (.Call (.Name x p) (e :: es) [] pos) (tCall sp dvs E t) := ⟨fun pins s σ H Q I h => wpAny_Call_Name_kw (ld_glob I hn hm (PySem.W.callWith_K (h₀ := X.base) I.ok.mod.kin hk
      (thn (ha.run pos pins s σ H _ I h) fun us s1 ⟨vs, H1, I1, r, q⟩ => ⟨I1.kIn, runG F hg hr hb hd hx I1 r q⟩) he hpl) hdb)⟩
end
/-! ### the law's own call -/
section
open PySem.W
theorem scriptH {P : Program} {w : World} {K : Frag} {s : Shared} {a : Addr} {vs : List Value} {ns : List Int} (KX : K.In s.heap) (ha : s.heap.get? a = some { cls := .type "list", data := .seq vs.toArray }) (hi : IntsAre vs ns) (hl : ns.length ≤ sizeLine) :
    ∃ H : Hp, Only H ∧ SqL K H a (ns.map V.int) ∧ HOk P w H s.heap ∧ (∀ b, H b ≠ none → b = a) ∧ (H a ≠ none → K.lookup a = none) := by
  have rv := vals_ints hi
  have lv : vs.length = ns.length := hi.length
  cases e : K.lookup a with
  | some o =>
    obtain rfl : o = _ := Option.some.inj ((KX a o e).symm.trans ha)
    exact ⟨fun _ => none, fun _ => .inl rfl, .inr ⟨_, vs.toArray, _, e, rfl, rfl, rfl, by rw [List.size_toArray, lv]; exact hl, by simpa using rv⟩, fun b u z => absurd (show (none : Option HO) = some u from z) (fun q => nomatch q), fun b z => absurd rfl z, fun z => absurd rfl z⟩
  | none =>
    refine ⟨fun b => if b = a then some (.frz { cls := .type "list", data := .seq vs.toArray } (.lst (ns.map V.int))) else none, fun b => ?_, .inl (.inr ⟨_, if_pos rfl⟩), fun b u z => ?_, fun b z => ?_, fun _ => rfl⟩
    · by_cases h : b = a
      · exact .inr ⟨_, _, if_pos h⟩
      · exact .inl (if_neg h)
    · by_cases h : b = a
      · subst h
        obtain rfl := Option.some.inj ((if_pos rfl).symm.trans z)
        exact ⟨ha, by rw [List.length_map]; exact hl, vs, _, rv, ha⟩
      · exact nomatch (if_neg h).symm.trans z
    · by_cases h : b = a
      · exact h
      · exact absurd (if_neg h) z
theorem lawG {P : Program} {w : World} {K : Frag} {mg mb : Str → Option Value} {CX : CXT} {k : Nat} {fa a : Addr} {fd : FuncData} {x : Str} {sp : Sp} {s : Shared} {vs : List Value} {ns : List Int}
    (KX : K.In s.heap) (hns : s.heap.Ns mainGlobals mg) (hb : s.heap.Ns builtinsNs mb) (hbb : ∀ y : Str, y ≠ "__name__" → mb y = bootBuiltins y) (hlim : s.heap.NoLimit) (hgn : s.gens = #[])
    (ha : s.heap.get? a = some { cls := .type "list", data := .seq vs.toArray }) (hi : IntsAre vs ns) (hl : ns.length ≤ sizeLine) (hr : Room k callerA)
    (F : ∀ base : Heap, K.In base → base.Ns mainGlobals mg → FnG P w K mg base CX k fa fd [x] sp) (hbind : ∀ (s : Shared) (u : Value), BindsTo s fd ⟨[u], []⟩ [(x, u)])
    (hsp : ∀ H : Hp, Only H → SqL K H a (ns.map V.int) → sp [.ref a] H (fun v _ => v = .bl true) fun _ _ _ => False) (hCX : ∀ H e s', CX [] H s (fun _ _ _ => False) e s' → False) :
    codeAny (model P w) callerA (.call (.ref fa) ⟨[.ref a], []⟩) (fun r s' => r = .ok (.ret (.bool true)) ∧ OldK s.heap s'.heap ∧ s'.os = s.os ∧ AllBare s'.gens) s := by
  obtain ⟨H, hO, hS, hok, hA, hK⟩ := scriptH (P := P) (w := w) KX ha hi hl
  have keep : ∀ {b : Addr} {o : Obj}, s.heap.get? b = some o → H b = none → (hidT s.heap H).get? b = some o := fun e n => hidT_get e n
  have free : ∀ {b : Addr}, b ≠ a → H b = none := fun {b} h => Classical.byContradiction fun z => h (hA b z)
  have kIn : K.In (hidT s.heap H) := fun b o e => keep (KX b o e) (Classical.byContradiction fun z => by
    obtain rfl := hA b z
    rw [hK z] at e; cases e)
  have nsIn : ∀ {b : Addr} {m : Str → Option Value}, s.heap.Ns b m → (hidT s.heap H).Ns b m := fun {b m} ⟨o, es, ep, e, d, r⟩ => ⟨o, es, ep, keep e (free fun z => by
    subst z
    rw [ha] at e; cases e; cases d), d, r⟩
  have M : Mod K mg (hidT s.heap H) := ⟨kIn, nsIn hns, ⟨mb, nsIn hb, hbb⟩, let ⟨mc, h1, h2⟩ := hlim; ⟨mc, nsIn h1, h2⟩⟩
  refine codeAny_mono ((F _ kIn (nsIn hns)).run callerA [] s H ⟨[.ref a], []⟩ [.ref a] [.ref a] _ _ rfl hr ⟨rfl, M, fun b o e => of_hidT e, Nat.le_of_eq (hidT_size _ _), trivial, fun b z => absurd (show b ∈ ([] : List Addr) from z) List.not_mem_nil, hok, .of_eq hgn⟩ (hbind s (.ref a)) (.cons rfl .nil) (hsp H hO hS)) fun r s' h => ?_
  match r, h with
  | .error e, h => exact (hCX H e s' h).elim
  | .ok .next, h => exact False.elim h
  | .ok .brk, h => exact False.elim h
  | .ok .cont, h => exact False.elim h
  | .ok (.ret u), ⟨v, H', os, bare, un, hok', r', q⟩ =>
    obtain rfl : v = .bl true := q
    obtain rfl : u = Value.bool true := r'
    refine ⟨rfl, OldK.of_keep fun b o e => ?_, os, bare⟩
    cases q : H b with
    | none => exact un.keep b o e q (fun z => absurd (show b ∈ ([] : List Addr) from z) List.not_mem_nil) List.not_mem_nil
    | some u =>
      rcases hO b with z | ⟨ob, xs, z⟩
      · rw [q] at z; cases z
      · have e1 := (hok b _ z).1
        have e2 := (hok' b _ (un.frzs b ob _ z)).1
        rw [e] at e1; cases e1
        exact e2
theorem walkG {l : OpenLaw} {n k : Nat} {q : Program} {loose : List Str} {XP : (Str → Option Value) → Heap → Prop} {YP : World → Heap → Prop} {d : DefRec} {K : Params → Frag} {sp : Frag → Sp} {x : Str}
    (hn : l.most = some n) (hn2 : n ≤ sizeLine) (hdf : d.params.defaults = []) (hr : Room k callerA) (hY : ∀ (w : World) (h : Heap), YP w h → (K w.params).In h)
    (F : ∀ (w : World) (mg : Str → Option Value) (fa : Addr) (h : Heap), (K w.params).In h → h.Ns mainGlobals mg → mg d.name = some (.ref fa) →
      ∃ fd : FuncData, (∀ (s : Shared) (u : Value), BindsTo s fd ⟨[u], []⟩ [(x, u)]) ∧ ∀ base : Heap, (K w.params).In base → base.Ns mainGlobals mg → FnG l.prog w (K w.params) mg base CX0 k fa fd [x] (sp (K w.params)))
    (hsp : ∀ (K : Frag) (H : Hp) (a : Addr) (ns : List Int), ns.length ≤ n → (∀ z ∈ ns, Builtin.Int.intBits z ≤ 1048576) → Only H → SqL K H a (ns.map V.int) → sp K [.ref a] H (fun v _ => v = .bl true) fun _ _ _ => False) :
    WalkO q loose XP YP l.row.toRowW d [] (fun f vs => PySem.call f vs) :=
  Att.attach_callB hn hdf fun w _ s mg mb fa o pm cd doc a vs ns G Y ho hd hcd hmg hobj hints hlen hbits hg =>
    let ⟨fd, hb, hF⟩ := F w mg fa _ (hY w _ Y) G.T.g hmg
    lawG (hY w _ Y) G.T.g G.T.b G.T.builtins G.T.nolimit hg hobj hints (Nat.le_trans hlen hn2) hr hF hb (fun H hO hS => hsp _ H a ns hlen hbits hO hS) fun _ _ _ z => z
end
end U

namespace U
open PySem PySem.Spec PyProof.Rows L2
theorem hu64 {k : Nat} {A : Around} (h : Room k A) : A.units + 64 < cLine := h.units
theorem hu70 {k : Nat} {A : Around} (h : Room k A) : A.units + 70 < cLine := by have := h.un; omega
section
variable {X : Cx}
theorem caAll (hc : X.calm = true) : CallR X (.builtin "all") (rAll X.K) := cr_all hc
/-- a slice of a text or a list -/
def uSl (K : PySem.W.Frag) : V → Option Int → Option Int → Hp → VK → Prop := fun x lo hi H Q => match x with
  | .str z => z.length ≤ sizeLine ∧ Q (.str (Txt.slice z lo hi)) H
  | _ => rSlL K x lo hi H Q
end
theorem walkO {l : PySem.W.OpenLaw} {n k : Nat} {q : Program} {loose : List Str} {XP : (Str → Option Value) → Heap → Prop} {YP : World → Heap → Prop} {d : DefRec} {K : Params → PySem.W.Frag} {sp : PySem.W.Frag → Sp} {x : Str}
    (hn : l.most = some n) (hn2 : n ≤ sizeLine) (hdf : d.params.defaults = []) (hr : Room k callerA) (hY : ∀ (w : World) (h : Heap), YP w h → (K w.params).In h)
    (F : ∀ (w : World) (mg : Str → Option Value) (fa : Addr) (h : Heap), (K w.params).In h → h.Ns mainGlobals mg → mg d.name = some (.ref fa) →
      ∃ fd : FuncData, (∀ (s : Shared) (u : Value), BindsTo s fd ⟨[u], []⟩ [(x, u)]) ∧ ∀ base : Heap, (K w.params).In base → base.Ns mainGlobals mg → FnOk l.prog w (K w.params) mg base CX0 k fa fd [x] (sp (K w.params)))
    (hsp : ∀ (K : PySem.W.Frag) (H : Hp) (a : Addr) (ns : List Int), ns.length ≤ n → (∀ z ∈ ns, Builtin.Int.intBits z ≤ 1048576) → Only H → SqL K H a (ns.map V.int) → sp K [.ref a] H (fun v _ => v = .bl true) fun _ _ _ => False) :
    PySem.W.WalkO q loose XP YP l.row.toRowW d [] (fun f vs => PySem.call f vs) :=
  walkG hn hn2 hdf hr hY (fun w mg fa h a b c => let ⟨fd, h1, h2⟩ := F w mg fa h a b c; ⟨fd, h1, fun base e g => .of (h2 base e g)⟩) hsp
/-- what a dice list holds: the rest of a great cell, a seed, how often it was rolled -/
def Dice (n : Nat) (o : HO) : Prop := ∃ a b c : Int, o = .lst [.int a, .int b, .int c] ∧ (0 ≤ a ∧ a < 2 ^ 500) ∧ (0 ≤ b ∧ b < 2 ^ 80) ∧ (0 ≤ c ∧ c ≤ n)
theorem Dice.up {n m : Nat} {o : HO} (h : Dice n o) (l : n ≤ m) : Dice m o := by
  obtain ⟨a, b, c, e, h1, h2, h3⟩ := h
  exact ⟨a, b, c, e, h1, h2, by omega⟩
theorem mulW {i j : Int} (a b : Nat) (ha : i.natAbs < 2 ^ a) (hb : j.natAbs < 2 ^ b) (h0 : 0 < a := by decide) (h1 : 0 < b := by decide) (h : a + b ≤ 1000000 := by decide) : CMulW i j := wide_mul ha hb h0 h1 h
theorem divW {i j : Int} (b : Nat) (h : 0 < j) (hb : j.natAbs < 2 ^ b) (h0 : 0 < b := by decide) (h9 : b ≤ 9000 := by decide) : CDivW i j := wide_div h hb h0 h9
theorem abs_lt {i : Int} {n : Nat} (h0 : 0 ≤ i) (h : i < 2 ^ n) : i.natAbs < 2 ^ n := by
  have e : ((i.natAbs : Nat) : Int) = i := by omega
  have : ((i.natAbs : Nat) : Int) < ((2 ^ n : Nat) : Int) := by rw [e]; push_cast; exact h
  exact Int.ofNat_lt.mp this
end U
namespace U
open PySem PySem.Spec PyProof.Rows L2
section
variable {K : PySem.W.Frag} {H H' : Hp} {p d : Addr} {xs : List V}
theorem rdKeep {u : HO} (h : ∀ b u, H b = some u → b ≠ d → H' b = some u) (ne : p ≠ d) (r : Rd H p u) : Rd H' p u := r.elim (fun e => .inl (h _ _ e ne)) fun ⟨o, e⟩ => .inr ⟨o, h _ _ e ne⟩
theorem sqlKeep (h : ∀ b u, H b = some u → b ≠ d → H' b = some u) (ne : p ≠ d) (r : SqL K H p xs) : SqL K H' p xs := r.elim (fun e => .inl (rdKeep h ne e)) .inr
theorem sqtKeep (h : ∀ b u, H b = some u → b ≠ d → H' b = some u) (ne : p ≠ d) (r : SqT K H p xs) : SqT K H' p xs := r.elim (fun e => .inl (rdKeep h ne e)) .inr
theorem sqlSame (h : ∀ b u, H b = some u → H' b = some u) (r : SqL K H p xs) : SqL K H' p xs := r.elim (fun e => .inl (e.elim (fun e => .inl (h _ _ e)) fun ⟨o, e⟩ => .inr ⟨o, h _ _ e⟩)) .inr
theorem sqtSame (h : ∀ b u, H b = some u → H' b = some u) (r : SqT K H p xs) : SqT K H' p xs := r.elim (fun e => .inl (e.elim (fun e => .inl (h _ _ e)) fun ⟨o, e⟩ => .inr ⟨o, h _ _ e⟩)) .inr
theorem atI_lt {α : Type} {xs : List α} {i : Int} (h0 : 0 ≤ i) (h : i < xs.length) : ∃ v, v ∈ xs ∧ atI xs i = some v := by
  obtain ⟨j, rfl⟩ := Int.eq_ofNat_of_zero_le h0
  have hj : j < xs.length := by omega
  exact ⟨xs[j], List.getElem_mem hj, atI_nat (by simp [hj])⟩
/-- what is picked from: a text's signs, or the items of a list or tuple -/
def PickOf (K : PySem.W.Frag) (H : Hp) (d : Addr) (x : V) (L : List V) : Prop :=
  (∃ z, x = .str z ∧ z.length ≤ 100000 ∧ L = z.cps.toList.map fun c => V.str ⟨#[c]⟩) ∨ ∃ p, x = .ref p ∧ p ≠ d ∧ (SqL K H p L ∨ SqT K H p L)
theorem small_ok {n : Nat} (h : n ≤ 1000000) : n ≤ sizeLine := by have := sizeLine_eq; omega
theorem small_lt {n : Nat} (h : n ≤ 1000000) : n < sizeLine := by have := sizeLine_eq; omega
end
end U
namespace U
open PySem PySem.Spec PyProof.Rows L2
def kinds : List String := ["NoneType", "bool", "int", "str", "list", "tuple", "dict"]
/-- a value of a built-in kind -/
def Kd (K : PySem.W.Frag) (H : Hp) (v : V) (T : String) : Prop := TyX K H v (.type T) ∧ T ∈ kinds
theorem kd_int {T : String} (h : T ∈ kinds) : kitB T "int" = some (T == "int" || T == "bool") := by
  have e : (kinds.all fun T => decide (kitB T "int" = some (T == "int" || T == "bool"))) = true := by decide +kernel
  exact of_decide_eq_true (List.all_eq_true.mp e T h)
theorem kd_bool {T : String} (h : T ∈ kinds) : kitB T "bool" = some (T == "bool") := by
  have e : (kinds.all fun T => decide (kitB T "bool" = some (T == "bool"))) = true := by decide +kernel
  exact of_decide_eq_true (List.all_eq_true.mp e T h)
theorem kd_str {T : String} (h : T ∈ kinds) : kitB T "str" = some (T == "str") := by
  have e : (kinds.all fun T => decide (kitB T "str" = some (T == "str"))) = true := by decide +kernel
  exact of_decide_eq_true (List.all_eq_true.mp e T h)
theorem kd_tuple {T : String} (h : T ∈ kinds) : kitB T "tuple" = some (T == "tuple") := by
  have e : (kinds.all fun T => decide (kitB T "tuple" = some (T == "tuple"))) = true := by decide +kernel
  exact of_decide_eq_true (List.all_eq_true.mp e T h)
theorem kd_dict {T : String} (h : T ∈ kinds) : kitB T "dict" = some (T == "dict") := by
  have e : (kinds.all fun T => decide (kitB T "dict" = some (T == "dict"))) = true := by decide +kernel
  exact of_decide_eq_true (List.all_eq_true.mp e T h)
section
variable {K : PySem.W.Frag} {H : Hp} {v : V} {T : String}
theorem ty_of {t : Value} (h : TyX K H v t) : (t = .type "int" → ∃ i, v = .int i) ∧ (t = .type "bool" → ∃ i, v = .bl i) ∧ (t = .type "str" → ∃ i, v = .str i) := by
  cases h with
  | base b => cases b <;> simp
  | _ => simp
theorem ty_to {t : Value} (h : TyX K H v t) : (∀ i, v = .int i → t = .type "int") ∧ (∀ i, v = .bl i → t = .type "bool") ∧ (∀ i, v = .str i → t = .type "str") := by
  cases h with
  | base b => cases b <;> simp
  | _ => simp
theorem Kd.isInt (h : Kd K H v "int") : ∃ i, v = .int i := (ty_of h.1).1 rfl
theorem Kd.isBool (h : Kd K H v "bool") : ∃ i, v = .bl i := (ty_of h.1).2.1 rfl
theorem Kd.isStr (h : Kd K H v "str") : ∃ i, v = .str i := (ty_of h.1).2.2 rfl
theorem Kd.ofInt {i : Int} (h : Kd K H (.int i) T) : T = "int" := Value.type.inj ((ty_to h.1).1 i rfl)
theorem Kd.ofBool {i : Bool} (h : Kd K H (.bl i) T) : T = "bool" := Value.type.inj ((ty_to h.1).2.1 i rfl)
theorem Kd.ofStr {i : Str} (h : Kd K H (.str i) T) : T = "str" := Value.type.inj ((ty_to h.1).2.2 i rfl)
theorem Kd.int (i : Int) : Kd K H (.int i) "int" := ⟨.base (.int i), by decide⟩
theorem Kd.str (i : Str) : Kd K H (.str i) "str" := ⟨.base (.str i), by decide⟩
theorem Kd.bl (i : Bool) : Kd K H (.bl i) "bool" := ⟨.base (.bl i), by decide⟩
theorem Kd.non : Kd K H .non "NoneType" := ⟨.base .non, by decide⟩
theorem Kd.lst {a : Addr} {xs : List V} (h : H a = some (.lst xs)) : Kd K H (.ref a) "list" := ⟨.base (.lst h), by decide⟩
theorem Kd.tup {a : Addr} {xs : List V} (h : H a = some (.tup xs)) : Kd K H (.ref a) "tuple" := ⟨.base (.tup h), by decide⟩
theorem Kd.dK {a : Addr} {xs : List (Key × V)} (h : H a = some (.dK xs)) : Kd K H (.ref a) "dict" := ⟨.base (.dK h), by decide⟩
end
end U

namespace U
open PySem PySem.Spec PyProof.Rows L2
/-! ### texts as lists of signs -/
def stripL (p : Nat → Bool) (l : List Nat) : List Nat := (((l.dropWhile p).reverse.dropWhile p)).reverse
theorem drop_tw {α : Type} (p : α → Bool) (l : List α) : l.drop (l.takeWhile p).length = l.dropWhile p := by
  have h := List.takeWhile_append_dropWhile (p := p) (l := l)
  conv => lhs; rw [← h]
  rw [h]
  have e : (l.takeWhile p ++ l.dropWhile p).drop (l.takeWhile p).length = l.dropWhile p := List.drop_left
  rw [h] at e
  exact e
theorem take_tw {α : Type} (p : α → Bool) (m : List α) : m.take (m.length - (m.reverse.takeWhile p).length) = (m.reverse.dropWhile p).reverse := by
  have h := drop_tw p m.reverse
  rw [← h, List.drop_reverse, List.reverse_reverse]
theorem strip_list (p : Nat → Bool) (x : Str) : (Txt.stripBy p true true x).cps.toList = stripL p x.cps.toList := by
  rw [stripBy_eq, StrLaws.strSub_toList]
  have e1 : stripLo p true x = (x.cps.toList.takeWhile p).length := rfl
  have e2 : ∀ lo, stripHi p true x lo = x.length - ((x.cps.toList.drop lo).reverse.takeWhile p).length := fun _ => rfl
  rw [e2, e1, drop_tw]
  have el : x.length = x.cps.toList.length := by simp [Str.length]
  have hd : (x.cps.toList.dropWhile p).length = x.cps.toList.length - (x.cps.toList.takeWhile p).length := by rw [← drop_tw, List.length_drop]
  unfold stripL
  rw [← take_tw, hd, el]
  congr 1
  omega
theorem dw_nil {α : Type} {p : α → Bool} : ∀ {l : List α}, l.dropWhile p = [] ↔ ∀ c ∈ l, p c = true
  | [] => by simp
  | a :: l => by
    rw [List.dropWhile_cons]
    by_cases h : p a = true
    · rw [if_pos h, dw_nil]
      simp [h]
    · rw [if_neg h]
      simp [h]
theorem stripL_nil {p : Nat → Bool} {l : List Nat} : stripL p l = [] ↔ ∀ c ∈ l, p c = true := by
  unfold stripL
  rw [List.reverse_eq_nil_iff, dw_nil]
  constructor
  · intro h c hc
    by_cases hp : p c = true
    · exact hp
    · have hm : c ∈ l.dropWhile p := by
        have e := List.takeWhile_append_dropWhile (p := p) (l := l)
        rw [← e] at hc
        rcases List.mem_append.mp hc with z | z
        · exact absurd (List.all_eq_true.mp List.all_takeWhile c z) hp
        · exact z
      exact h c (List.mem_reverse.mpr hm)
  · intro h c hc
    exact h c ((List.dropWhile_sublist p).subset (List.mem_reverse.mp hc))
theorem stripL_keep {p : Nat → Bool} {l : List Nat} (h : ∀ c ∈ l, p c = false) : stripL p l = l := by
  have e : ∀ m : List Nat, (∀ c ∈ m, p c = false) → m.dropWhile p = m := fun m hm => by
    cases m with
    | nil => rfl
    | cons a m => rw [List.dropWhile_cons, if_neg (by rw [hm a (List.mem_cons_self ..)]; decide)]
  unfold stripL
  rw [e l h, e _ (fun c hc => h c (List.mem_reverse.mp hc)), List.reverse_reverse]
theorem str_nil {x : Str} : x = Str.ofString "" ↔ x.cps.toList = [] := by
  constructor
  · intro h; rw [h]; rfl
  · intro h
    have : x.cps = #[] := by
      apply Array.ext'
      rw [h]
    cases x
    simp only at this
    rw [this]; rfl
/-! ### digits -/
theorem digits_are (m : Nat) : ∀ c ∈ (Nat.toDigits 10 m).map Char.toNat, 48 ≤ c ∧ c ≤ 57 := by
  intro c hc
  obtain ⟨ch, hch, e⟩ := List.mem_map.mp hc
  have r := PyProof.Rows.digit_range (Nat.isDigit_of_mem_toDigits (by decide) (by decide) hch)
  rw [← e]
  exact r
theorem num_list (n : Int) : (Str.ofString (toString n)).cps.toList = (if n < 0 then [45] else []) ++ (Nat.toDigits 10 n.natAbs).map Char.toNat := by
  cases n with
  | ofNat m =>
    rw [if_neg (by simp)]
    exact PySem.W.KIN.signs_num m
  | negSucc m =>
    rw [if_pos (by omega)]
    have e : toString (Int.negSucc m) = "-" ++ toString ((m + 1 : Nat) : Int) := rfl
    rw [e]
    have h2 := PySem.W.KIN.signs_num (m + 1)
    rw [PyProof.Rows.signs_ofString] at h2 ⊢
    rw [String.toList_append, List.map_append, h2]
    rfl
/-- the length of an integer's text without its sign -/
theorem let_len (n : Int) : (Txt.stripChars (Str.ofString (toString n)) (Str.ofString "-")).length < 61 ↔ n.natAbs < 10 ^ 60 := by
  have el : ∀ x : Str, x.length = x.cps.toList.length := fun x => by simp [Str.length]
  rw [el]
  unfold Txt.stripChars
  rw [strip_list, num_list]
  have hp : ∀ c, (Str.ofString "-").cps.contains c = decide (c = 45) := fun c => by
    show (#[45] : Array Nat).contains c = _
    simp [eq_comm]
  have hk : stripL (fun c => (Str.ofString "-").cps.contains c) ((if n < 0 then [45] else []) ++ (Nat.toDigits 10 n.natAbs).map Char.toNat) = (Nat.toDigits 10 n.natAbs).map Char.toNat := by
    have hd : ∀ c ∈ (Nat.toDigits 10 n.natAbs).map Char.toNat, (Str.ofString "-").cps.contains c = false := fun c hc => by
      have := digits_are _ c hc
      rw [hp]
      exact decide_eq_false (by omega)
    by_cases h : n < 0
    · rw [if_pos h]
      have e : stripL (fun c => (Str.ofString "-").cps.contains c) ([45] ++ (Nat.toDigits 10 n.natAbs).map Char.toNat) = stripL (fun c => (Str.ofString "-").cps.contains c) ((Nat.toDigits 10 n.natAbs).map Char.toNat) := by
        unfold stripL
        rw [List.singleton_append, List.dropWhile_cons, if_pos (by rw [hp]; rfl)]
      rw [e, stripL_keep hd]
    · rw [if_neg h, List.nil_append, stripL_keep hd]
  have hk' : stripL (Str.ofString "-").cps.contains ((if n < 0 then [45] else []) ++ (Nat.toDigits 10 n.natAbs).map Char.toNat) = _ := hk
  rw [hk', List.length_map]
  have := Nat.length_toDigits_le_iff (b := 10) (n := n.natAbs) (k := 60) (by decide) (by decide)
  omega
theorem num_fits {n : Int} (h : n.natAbs < 2 ^ 1900) : n.natAbs.log2 < 1920 := Nat.lt_of_lt_of_le (PySem.Flt.log2_lt_of (by decide) h) (by decide)
theorem num_len {n : Int} (h : n.natAbs < 2 ^ 1900) : (Str.ofString (toString n)).length ≤ sizeLine := int_text_fits (num_fits h)
end U
namespace U
open PySem PySem.Spec PyProof.Rows L2
section
variable {H0 H H' : Hp} {D : List Addr} {F M M' : List (Addr × HO)}
theorem At.lessM (L : At H0 D F M H) (h : List.Sublist M' M) : At H0 D F M' H := ⟨L.fr, L.fa, fun q hq => L.mu q (h.subset hq), fun q hq => L.mf q (h.subset hq), fun q hq => L.df q (h.subset hq), L.nd.sublist (h.map _)⟩
/-- the second of M changes -/
theorem At.set2 {a b : Addr} {o u v : HO} (L : At H0 D F ((b, v) :: (a, o) :: M) H) (h1 : ∀ c w, H c = some w → c ≠ a → H' c = some w) (h2 : H' a = some u) : At H0 D F ((b, v) :: (a, u) :: M) H' := (L.swap.set h1 h2).swap
end
theorem mul_len (x : Str) (n : Int) (h0 : 0 ≤ n) : (Txt.mul x n).length = n.toNat * x.length := by
  have el : ∀ y : Str, y.length = y.cps.toList.length := fun y => by simp [Str.length]
  rw [el, mul_list x n h0, List.length_flatten, List.map_replicate, List.sum_replicate_nat, el]
end U
namespace U
open PySem PySem.Spec PyProof.Rows L2
theorem At.fresh {H H' : Hp} {p : Addr} {o : HO} (s : ∀ b u, H b = some u → H' b = some u) (h : H p = none) (h' : H' p = some o) : At H [] [] [(p, o)] H' := ⟨fun b u e _ => s b u e, fun _ z => absurd z List.not_mem_nil, fun q hq => by
  obtain rfl := List.mem_singleton.mp hq
  exact h', fun q hq => by
  obtain rfl := List.mem_singleton.mp hq
  exact .inr h, fun _ _ _ z => absurd z List.not_mem_nil, by simp⟩
theorem no_dead {H' : Hp} : ∀ e ∈ ([] : List Addr), ∃ u, H' e = some u := fun _ h => absurd h List.not_mem_nil
theorem At.all {H H' : Hp} {F M : List (Addr × HO)} (L : At H [] F M H') : ∀ b u, H b = some u → H' b = some u := fun b u e => L.fr b u e List.not_mem_nil
end U

/-! U6: own classes: operators, comparisons, str, isinstance. -/
namespace U
open PySem PySem.Spec PyProof.Rows L2
/-- a heap that has grown -/
abbrev Gr (H H' : Hp) : Prop := ∀ b u, H b = some u → H' b = some u
theorem Gr.rfl' {H : Hp} : Gr H H := fun _ _ e => e
theorem Gr.up {H H' : Hp} {p : Addr} {o : HO} (g : Gr H H') (h : H' p = none) : Gr H (upd H' p o) := fun b u e => by rw [upd_ne (ne_of_none (g b u e) h)]; exact g b u e
theorem Gr.trans {H H1 H2 : Hp} (a : Gr H H1) (b : Gr H1 H2) : Gr H H2 := fun c o e => b c o (a c o e)
/-- what is asked of an own class whose instances have a dict -/
structure OwnC (K : PySem.W.Frag) (C : Addr) : Prop where
  cl : Cls K C
  sf : PySem.W.selfFirst K C = true
  ha : PySem.W.findIn K (.ref C) "__class__" = some (some (.builtin "object.__class__"))
  hn : PySem.W.specialIn K (.builtin "object.__class__") "__get__" = some (some (.builtin "getset_descriptor.__get__"))
  htk : PySem.W.takesIn K (.builtin "object.__class__") = some true
  hm : PySem.W.mroIn K C (.type "object") = some true
  tyC : PySem.W.typeIn K (.ref C) = some (.type "type")
theorem mro_no (C : Addr) {T : String} (h : T ∈ kinds) : (PySem.fastBuiltinMro T).map (·.contains (.ref C)) = some false := by
  unfold kinds at h
  simp only [List.mem_cons, List.not_mem_nil, or_false] at h
  rcases h with rfl | rfl | rfl | rfl | rfl | rfl | rfl <;> rfl
section
variable {K : PySem.W.Frag} {C a dx : Addr} {fs : List (Str × V)} {H : Hp} {Q : VK} {v : V} {T : String}
theorem OwnC.ty (o : OwnC K C) (e : H a = some (.ins C dx fs)) : TyX K H (.ref a) (.ref C) := .base (.ins e o.cl o.ha o.hn o.htk o.hm)
theorem OwnC.isi (o : OwnC K C) (e : H a = some (.ins C dx fs)) (q : Q (.bl true) H) : rIsi K [.ref a, .ref C] H Q := ⟨_, _, .ref C, .ref C, true, rfl, .own C, o.ty e, by unfold PySem.W.kitOne; rw [if_pos (beq_self_eq_true _)], q⟩
theorem OwnC.no (o : OwnC K C) (h : T ∈ kinds) : PySem.W.kitOne K (.type T) (.ref C) = some false := by
  have hc : (PySem.W.clsIn K C).isSome = true := by
    obtain ⟨cd, hc, _⟩ := PySem.W.any_some o.cl.hd
    rw [hc]
    rfl
  unfold PySem.W.kitOne
  rw [if_neg (by intro z; cases z)]
  show (if ((PySem.W.clsIn K C).isSome && PySem.W.typeIn K (.ref C) == some (.type "type")) = true then PySem.W.subIn K (.type T) (.ref C) else none) = _
  rw [if_pos (by rw [hc, o.tyC]; rfl)]
  exact mro_no C h
theorem OwnC.isn (o : OwnC K C) (k : Kd K H v T) (q : Q (.bl false) H) : rIsi K [v, .ref C] H Q := ⟨_, _, .type T, .ref C, false, rfl, .own C, k.1, o.no k.2, q⟩
end
/-- two instances of C handed to an own method -/
def uOwn (C : Addr) (sp : Sp) (E : XK) : R2 := fun x y H Q => match x, y with
  | .ref a, .ref b => ∃ dx dy fs gs, H a = some (.ins C dx fs) ∧ H b = some (.ins C dy gs) ∧ sp [.ref a, .ref b] H Q E
  | _, _ => False
def uOwn1 (C : Addr) (sp : Sp) (E : XK) : V → Hp → VK → Prop := fun x H Q => match x with
  | .ref a => ∃ dx fs, H a = some (.ins C dx fs) ∧ sp [.ref a] H Q E
  | _ => False
section
variable {X : Cx} {CX : CXT} {n : Nat} {C f : Addr} {fd : FuncData} {ps : List Str} {sp : Sp} {E : XK} {nm : Str}
theorem run_here {A : Around} {pins : List (Addr × Obj)} {σ : L2.St} {H : Hp} {s : Shared} {Q : VK} {us : List Value} {vs : List V} (F : FnOk X.prog X.w X.K X.mg X.base CX n f fd ps sp) (hr : Room n A) (hfr : A.frames = X.A.frames) (hb : Binds X.K fd ps [])
    (hx : Passes CX X E) (I : Inv X pins σ H s) (r : Vals vs us) (h : sp vs H Q E) : wpAny (model X.prog X.w) A (call (.ref f) us) (EP X pins σ Q) X.xe s := by
  have e0 : Env0 X.prog X.w X.K X.mg X.base A X.stack s H := by
    have e := I.env0
    exact ⟨by rw [hfr]; exact e.frames, e.mod, e.bs, e.bsz, e.funs, e.frf, e.hok, e.bare⟩
  have hl := F.len _ _ _ _ h
  have hb' := hb s us I.kIn (by rw [List.append_nil, ← r.length]; exact hl)
  rw [List.append_nil] at hb'
  refine wpAny_call (codeAny_mono (F.run A X.stack s H ⟨us, []⟩ us vs Q E hr e0 hb' r h) fun r s' hq => ?_)
  cases r with
  | error e => exact hx pins σ H s e s' I hq
  | ok fl =>
    cases fl with
    | ret u => exact I.after hq
    | next => exact False.elim hq
    | brk => exact False.elim hq
    | cont => exact False.elim hq
theorem no_ni {pins : List (Addr × Obj)} {σ : L2.St} {Q : VK} {v : Value} {s' : Shared} (h : EP X pins σ Q v s') : PySem.W.CmpBack (EP X pins σ Q) v s' := by
  obtain ⟨x, H', I, r, q⟩ := h
  cases v with
  | notImplemented => cases x <;> first | (cases r; done) | (obtain ⟨_, r⟩ := r; cases r)
  | _ => exact ⟨x, H', I, r, q⟩
/-- x op y by x's own method -/
theorem opBin {op : Operator} (he : PySem.dunder op.info.2 = nm) (o : OwnC X.K C) (m : Meth X.K C nm f) (F : FnOk X.prog X.w X.K X.mg X.base CX n f fd ps sp) (hr : Room n X.A) (hb : Binds X.K fd ps []) (hx : Passes CX X E) : OpR X (binaryOp op) (uOwn C sp E) := by
  intro pins s σ H x y v u Q I rx ry h
  unfold uOwn at h
  split at h
  · rename_i a b
    obtain ⟨dx, dy, fs, gs, ha, hb', hs⟩ := h
    cases rx; cases ry
    obtain ⟨mA, J, _⟩ := ins_get I.hok ha
    obtain ⟨mB, J', _⟩ := ins_get I.hok hb'
    obtain ⟨od, J, _⟩ := J.look
    obtain ⟨od', J', _⟩ := J'.look
    obtain ⟨m', hF⟩ := I.fr
    refine PySem.W.binop_K (op := op) hF I.ok.mod.kin J J'.type o.sf (by rw [he]; exact m.at_) m.fn ?_
    exact wpAny_mono (run_here F hr rfl hb hx I (show Vals [V.ref a, V.ref b] [Value.ref a, Value.ref b] from .cons rfl (.cons rfl .nil)) hs) (fun _ _ q => no_ni q) fun _ _ z => z
  · exact h.elim
/-- x op y, a comparison, by x's own method -/
theorem opCmp {op : CmpOp} (he : (PySem.cmpInfo op).2.1 = nm) (hop : compareOp op = richCompare op) (m : Meth X.K C nm f) (F : FnOk X.prog X.w X.K X.mg X.base CX n f fd ps sp) (hr : Room n X.A) (hb : Binds X.K fd ps []) (hx : Passes CX X E) : OpR X (compareOp op) (uOwn C sp E) := by
  intro pins s σ H x y v u Q I rx ry h
  unfold uOwn at h
  split at h
  · rename_i a b
    obtain ⟨dx, dy, fs, gs, ha, hb', hs⟩ := h
    cases rx; cases ry
    obtain ⟨mA, J, _⟩ := ins_get I.hok ha
    obtain ⟨mB, J', _⟩ := ins_get I.hok hb'
    obtain ⟨od, J, _⟩ := J.look
    obtain ⟨od', J', _⟩ := J'.look
    obtain ⟨m', hF⟩ := I.fr
    rw [hop]
    refine PySem.W.cmp_K (op := op) (tb := .ref C) hr.units0 hF I.ok.mod.kin J J'.type (by simp [PySem.W.notFirst]) (by rw [he]; exact m.at_) m.fn ?_
    exact wpAny_mono (run_here F hr rfl hb hx I (show Vals [V.ref a, V.ref b] [Value.ref a, Value.ref b] from .cons rfl (.cons rfl .nil)) hs) (fun _ _ q => no_ni q) fun _ _ z => z
  · exact h.elim
/-- -x by x's own method -/
theorem unOwn (m : Meth X.K C "__neg__" f) (F : FnOk X.prog X.w X.K X.mg X.base CX n f fd ps sp) (hr : Room n X.A) (hb : Binds X.K fd ps []) (hx : Passes CX X E) : UnR X (unaryOp .USub) (uOwn1 C sp E) := by
  intro pins s σ H x v Q I rx h
  unfold uOwn1 at h
  split at h
  · rename_i a
    obtain ⟨dx, fs, ha, hs⟩ := h
    cases rx
    obtain ⟨mA, J, _⟩ := ins_get I.hok ha
    obtain ⟨od, J, _⟩ := J.look
    obtain ⟨m', hF⟩ := I.fr
    refine PySem.W.ksp_neg hF I.ok.mod.kin J m.at_ m.fn ?_
    exact run_here F hr rfl hb hx I (show Vals [V.ref a] [Value.ref a] from .cons rfl .nil) hs
  · exact h.elim
/-- str(x) by x's own method -/
def uStrO (C : Addr) (sp : Sp) (E : XK) : List V → Hp → VK → Prop := fun vs H Q => match vs with
  | [.ref a] => ∃ dx fs, H a = some (.ins C dx fs) ∧ sp [.ref a] H (fun v H' => (∃ y, v = .str y) ∧ Q v H') E
  | _ => False
theorem caStrO (m : Meth X.K C "__str__" f) (F : FnOk X.prog X.w X.K X.mg X.base CX n f fd ps sp) (hr : Room (n + 2) X.A) (hb : Binds X.K fd ps []) (hx : Passes CX X E) : CallR X (.type "str") (uStrO C sp E) := by
  intro pins s σ H xs us Q I r h
  unfold uStrO at h
  split at h
  · rename_i a
    obtain ⟨dx, fs, ha, hs⟩ := h
    obtain ⟨u, rfl, ru⟩ := vals1 r
    cases (show u = Value.ref a from ru)
    obtain ⟨mA, J, _⟩ := ins_get I.hok ha
    obtain ⟨od, J, _⟩ := J.look
    have hr2 : Room n X.A.in1.in1 := Room.in1 (Room.in1 hr)
    refine PySem.W.kso_call hr2.units0 I.kIn J m.at_ m.fn ?_
    refine wpAny_mono (run_here F hr2 rfl hb hx I (show Vals [V.ref a] [Value.ref a] from .cons rfl .nil) hs) (fun v s' q => ?_) fun _ _ z => z
    obtain ⟨x, H', I', rv, ⟨y, rfl⟩, q⟩ := q
    obtain ⟨t, rfl⟩ := (show ∃ t, v = Value.str y t from rv)
    exact ⟨.str y, H', I', ⟨t, rfl⟩, q⟩
  · exact h.elim
end
end U

/-! U7: repr of a bool, fractions. -/
namespace U
open PySem PySem.Spec PyProof.Rows L2
section
variable {X : Cx}
def bstr (k : Bool) : Str := if k then "True" else "False"
theorem bstr_inj {a b : Bool} (h : bstr a = bstr b) : a = b := by revert h; cases a <;> cases b <;> decide
def uReprB (K : PySem.W.Frag) (vs : List V) (H : Hp) (Q : VK) : Prop := match vs with
  | [.bl k] => Q (.str (bstr k)) H
  | _ => uRepr K vs H Q
theorem caReprB (hg : X.A.guards = some []) (hu : X.A.units + 70 < cLine) : CallR X (.builtin "repr") (uReprB X.K) := fun p s z H xs us Q I r h => by
  unfold uReprB at h
  split at h
  · rename_i k
    obtain ⟨u, rfl, ru⟩ := L2.vals1 r
    cases (show u = Value.bool k from ru)
    refine PySem.P.repr_of_bool ?_
    exact ⟨.str (bstr k), H, I.tok _, ⟨_, rfl⟩, h⟩
  · exact caRepr hg hu p s z H _ us Q I r h
end
/-! ### fractions -/
/-- equal fractions compare alike -/
theorem fr_lt {p q N D p' q' N' D' : Int} (h : p * D = N * q) (h' : p' * D' = N' * q') (hq : 0 < q) (hD : 0 < D) (hq' : 0 < q') (hD' : 0 < D') : p * q' < p' * q ↔ N * D' < N' * D := by
  have key : (p' * q - p * q') * (D * D') = (N' * D - N * D') * (q * q') := by grind
  have e1 : 0 < D * D' := Int.mul_pos hD hD'
  have e2 : 0 < q * q' := Int.mul_pos hq hq'
  constructor
  · intro z
    have : 0 < (p' * q - p * q') * (D * D') := Int.mul_pos (by omega) e1
    rw [key] at this
    have := Int.pos_of_mul_pos_left this e2
    omega
  · intro z
    have : 0 < (N' * D - N * D') * (q * q') := Int.mul_pos (by omega) e2
    rw [← key] at this
    have := Int.pos_of_mul_pos_left this e1
    omega
def gcdI (a b : Int) : Int := ((Nat.gcd a.natAbs b.natAbs : Nat) : Int)
theorem gcdI_pos {a b : Int} (h : 0 < b) : 0 < gcdI a b := by
  have : 0 < Nat.gcd a.natAbs b.natAbs := Nat.gcd_pos_of_pos_right _ (by omega)
  exact Int.natCast_pos.mpr this
theorem gcdI_dl (a b : Int) : gcdI a b ∣ a := by
  have := Nat.gcd_dvd_left a.natAbs b.natAbs
  exact Int.dvd_natAbs.mp (Int.natCast_dvd_natCast.mpr this)
theorem gcdI_dr (a b : Int) : gcdI a b ∣ b := by
  have := Nat.gcd_dvd_right a.natAbs b.natAbs
  exact Int.dvd_natAbs.mp (Int.natCast_dvd_natCast.mpr this)
theorem gcdI_le {a b : Int} (h : 0 < b) : gcdI a b ≤ b := Int.le_of_dvd h (gcdI_dr a b)
/-- a fraction in lowest terms -/
structure Low (p q : Int) : Prop where
  pos : 0 < q
  one : Nat.gcd p.natAbs q.natAbs = 1
theorem ediv_of {a g x : Int} (h : 0 < g) (e : a = g * x) : a / g = x := by rw [e]; exact Int.mul_ediv_cancel_left x (by omega)
/-- what is left of a fraction by its greatest common divisor -/
theorem low_of {a b : Int} (h : 0 < b) : Low (a / gcdI a b) (b / gcdI a b) ∧ (a / gcdI a b) * b = a * (b / gcdI a b) ∧ (a / gcdI a b).natAbs ≤ a.natAbs ∧ b / gcdI a b ≤ b := by
  have g := gcdI_pos (a := a) h
  obtain ⟨x, hx⟩ := gcdI_dl a b
  obtain ⟨y, hy⟩ := gcdI_dr a b
  have ex : a / gcdI a b = x := ediv_of g hx
  have ey : b / gcdI a b = y := ediv_of g hy
  have ge : gcdI a b = ((Nat.gcd a.natAbs b.natAbs : Nat) : Int) := rfl
  rw [ex, ey]
  generalize hG : gcdI a b = G at *
  have y0 : 0 < y := by
    rw [hy] at h
    exact Int.pos_of_mul_pos_right h g
  have n1 : a.natAbs = G.natAbs * x.natAbs := by rw [hx, Int.natAbs_mul]
  have n2 : b.natAbs = G.natAbs * y.natAbs := by rw [hy, Int.natAbs_mul]
  refine ⟨⟨y0, ?_⟩, by rw [hx, hy]; grind, ?_, ?_⟩
  · have e : G.natAbs = Nat.gcd a.natAbs b.natAbs := by omega
    rw [n1, n2, Nat.gcd_mul_left] at e
    have hp : 0 < G.natAbs := by omega
    have := Nat.eq_of_mul_eq_mul_left hp (show G.natAbs * Nat.gcd x.natAbs y.natAbs = G.natAbs * 1 by omega)
    exact this
  · rw [n1]
    exact Nat.le_mul_of_pos_left _ (by omega)
  · have : y * 1 ≤ y * G := Int.mul_le_mul_of_nonneg_left (by omega) (by omega)
    rw [hy]
    have e2 : G * y = y * G := Int.mul_comm _ _
    omega
/-- two fractions in lowest terms are equal exactly if top and bottom are -/
theorem Low.inj {p q p' q' : Int} (h : Low p q) (h' : Low p' q') (e : p * q' = p' * q) : p = p' ∧ q = q' := by
  have hq := h.pos
  have hq' := h'.pos
  have n : p.natAbs * q'.natAbs = p'.natAbs * q.natAbs := by rw [← Int.natAbs_mul, ← Int.natAbs_mul, e]
  have d1 : q.natAbs ∣ q'.natAbs := by
    refine Nat.Coprime.dvd_of_dvd_mul_left (Nat.coprime_comm.mp h.one) ?_
    exact ⟨p'.natAbs, by rw [n]; exact Nat.mul_comm _ _⟩
  have d2 : q'.natAbs ∣ q.natAbs := by
    refine Nat.Coprime.dvd_of_dvd_mul_left (Nat.coprime_comm.mp h'.one) ?_
    exact ⟨p.natAbs, by rw [← n]; exact Nat.mul_comm _ _⟩
  have e3 := Nat.dvd_antisymm d1 d2
  have e4 : q = q' := by omega
  subst e4
  exact ⟨Int.eq_of_mul_eq_mul_right (by omega) e, rfl⟩
/-- a fraction in lowest terms stays as it is -/
theorem Low.same {p q : Int} (h : Low p q) : p / gcdI p q = p ∧ q / gcdI p q = q := by
  have : gcdI p q = 1 := by unfold gcdI; rw [h.one]; rfl
  rw [this]
  exact ⟨Int.ediv_one p, Int.ediv_one q⟩
/-- less, of fractions with positive bottoms, goes on -/
theorem fr_trans {p q p' q' p'' q'' : Int} (h : 0 < q) (h' : 0 < q') (h'' : 0 < q'') (a : p * q' < p' * q) (b : p' * q'' < p'' * q') : p * q'' < p'' * q := by
  have e1 : 0 < (p' * q - p * q') * q'' := Int.mul_pos (by omega) h''
  have e2 : 0 < (p'' * q' - p' * q'') * q := Int.mul_pos (by omega) h
  have e3 : (p'' * q - p * q'') * q' = (p' * q - p * q') * q'' + (p'' * q' - p' * q'') * q := by grind
  have : 0 < (p'' * q - p * q'') * q' := by omega
  have := Int.pos_of_mul_pos_left this h'
  omega
end U

/-! U8: ratios as they stand in the heap. -/
namespace U
open PySem PySem.Spec PyProof.Rows L2
def rf (p q : Int) : List (Str × V) := [("_top", .int p), ("_bottom", .int q)]
theorem tb_ : ¬ (("_top" : Str) = "_bottom") := by decide +kernel
theorem bt_ : ¬ (("_bottom" : Str) = "_top") := by decide +kernel
theorem rf_mk (p q : Int) : putF "_bottom" (.int q) (putF "_top" (.int p) []) = rf p q := by
  show (if ("_top" : Str) = "_bottom" then [(("_top" : Str), V.int q)] else (("_top" : Str), V.int p) :: putF "_bottom" (V.int q) []) = _
  rw [if_neg tb_]
  rfl
theorem rf_top (p q t : Int) : putF "_top" (.int t) (rf p q) = rf t q := by
  show (if ("_top" : Str) = "_top" then (("_top" : Str), V.int t) :: [(("_bottom" : Str), V.int q)] else _) = _
  rw [if_pos rfl]
  rfl
theorem rf_bot (p q t : Int) : putF "_bottom" (.int t) (rf p q) = rf p t := by
  show (if ("_top" : Str) = "_bottom" then _ else (("_top" : Str), V.int p) :: (if ("_bottom" : Str) = "_bottom" then [(("_bottom" : Str), V.int t)] else _)) = _
  rw [if_neg tb_, if_pos rfl]
  rfl
theorem rf_lt (p q : Int) : (rf p q).lookup ("_top" : Str) = some (.int p) := by
  unfold rf
  rw [List.lookup_cons_self]
theorem rf_lb (p q : Int) : (rf p q).lookup ("_bottom" : Str) = some (.int q) := by
  unfold rf
  rw [List.lookup_cons, show (("_bottom" : Str) == "_top") = false by decide +kernel]
  simp only [List.lookup_cons_self]
theorem rf_no (p q : Int) {m : Str} (h1 : (m == "_top") = false) (h2 : (m == "_bottom") = false) : (rf p q).lookup m = none := by
  unfold rf
  rw [List.lookup_cons, h1]
  simp only
  rw [List.lookup_cons, h2]
  rfl
theorem own_self {K : PySem.W.Frag} {C : Addr} : PySem.W.kitOne K (.ref C) (.ref C) = some true := by unfold PySem.W.kitOne; rw [if_pos (beq_self_eq_true _)]
/-- v is a ratio with this top and bottom -/
def IsR (C : Addr) (H : Hp) (v : V) (p q : Int) : Prop := ∃ a dx, v = .ref a ∧ H a = some (.ins C dx (rf p q))
theorem IsR.up {C : Addr} {H H' : Hp} {v : V} {p q : Int} (r : IsR C H v p q) (g : Gr H H') : IsR C H' v p q := let ⟨a, dx, e, h⟩ := r; ⟨a, dx, e, g _ _ h⟩
theorem mul_lt {a b : Int} (m n : Nat) (ha : a.natAbs < 2 ^ m) (hb : b.natAbs < 2 ^ n) : (a * b).natAbs < 2 ^ (m + n) := by
  rw [Int.natAbs_mul, Nat.pow_add]
  exact Nat.mul_lt_mul'' ha hb
theorem pos_abs {q : Int} (h : 0 < q) : ((q.natAbs : Nat) : Int) = q := by omega
/-- v is a new tuple of two integers -/
def TupAt (H : Hp) (v : V) (p q : Int) : Prop := ∃ x, v = .ref x ∧ H x = some (.tup [.int p, .int q])
theorem TupAt.up {H H' : Hp} {v : V} {p q : Int} (r : TupAt H v p q) (g : Gr H H') : TupAt H' v p q := let ⟨a, e, h⟩ := r; ⟨a, e, g _ _ h⟩
theorem TupAt.keep {H H' : Hp} {v : V} {p q : Int} {d : Addr} {l : List V} (r : TupAt H v p q) (s : ∀ b u, H b = some u → b ≠ d → H' b = some u) (hd : H d = some (.lst l)) : TupAt H' v p q := let ⟨a, e, h⟩ := r; ⟨a, e, s _ _ h (fun z => by rw [z, hd] at h; cases h)⟩
theorem IsR.keep {C : Addr} {H H' : Hp} {v : V} {p q : Int} {d : Addr} {l : List V} (r : IsR C H v p q) (s : ∀ b u, H b = some u → b ≠ d → H' b = some u) (hd : H d = some (.lst l)) : IsR C H' v p q := let ⟨a, dx, e, h⟩ := r; ⟨a, dx, e, s _ _ h (fun z => by rw [z, hd] at h; cases h)⟩
def pd (p q : Int) : PyData := .tuple [.int p, .int q]
def pds (l : List (Int × Int)) : List PyData := l.map fun z => pd z.1 z.2
theorem shaped_pd (p q : Int) : SeqAt.shaped (pd p q) = true := rfl
theorem lay_pds : ∀ l, PyData.canLayAll0 (pds l) = true
  | [] => rfl
  | (p, q) :: r => by
    show (PyData.canLay0 (pd p q) && PyData.canLayAll0 (pds r)) = true
    rw [lay_pds r]
    rfl
theorem depth_pds : ∀ l, PyData.depthAll (pds l) ≤ 1
  | [] => by decide
  | (p, q) :: r => by
    show max (PyData.depth (pd p q)) (PyData.depthAll (pds r)) ≤ 1
    have := depth_pds r
    have e : PyData.depth (pd p q) = 1 := rfl
    omega
theorem shaped_pds (l : List (Int × Int)) : SeqAt.shaped (.list (pds l)) = true := by
  show (PyData.canLayAll0 (pds l) && decide (PyData.depthAll (pds l) + 1 ≤ 64)) = true
  rw [lay_pds, decide_eq_true (by have := depth_pds l; omega)]
  rfl
theorem eqv_pd (p q r s : Int) : PyData.eqv (pd p q) (pd r s) = decide (p = r ∧ q = s) := by
  show (p == r && (q == s && true)) = _
  rw [Bool.and_true, Bool.eq_iff_iff]
  simp
theorem in_pds {p q : Int} {l : List (Int × Int)} (h : (p, q) ∈ l) : ((pds l).any fun z => PyData.eqv z (pd p q)) = true := by
  rw [List.any_eq_true]
  exact ⟨pd p q, List.mem_map.mpr ⟨(p, q), h, rfl⟩, by rw [eqv_pd]; simp⟩
theorem TupAt.dp {K : PySem.W.Frag} {H : Hp} {v : V} {p q : Int} (h : TupAt H v p q) : Dp K H v (pd p q) := by
  obtain ⟨x, rfl, e⟩ := h
  exact .tup (SqT.of e) (.cons (.int _) (.cons (.int _) .nil))
theorem dp_pairs {K : PySem.W.Frag} {H : Hp} : ∀ {xs : List V}, (∀ v ∈ xs, ∃ p q, TupAt H v p q) → ∃ l : List (Int × Int), DpAll K H xs (pds l) ∧ ∀ v ∈ xs, ∀ p q, TupAt H v p q → (p, q) ∈ l
  | [], _ => ⟨[], .nil, fun _ h => absurd h List.not_mem_nil⟩
  | v :: r, h => by
    obtain ⟨l, hl, hm⟩ := dp_pairs (K := K) (xs := r) fun w hw => h w (List.mem_cons_of_mem _ hw)
    obtain ⟨p, q, t⟩ := h v (List.mem_cons_self ..)
    refine ⟨(p, q) :: l, .cons t.dp hl, fun w hw p' q' t' => ?_⟩
    rcases List.mem_cons.mp hw with rfl | hw
    · obtain ⟨x, rfl, e⟩ := t
      obtain ⟨y, z, e'⟩ := t'
      cases z
      rw [e] at e'
      cases e'
      exact List.mem_cons_self ..
    · exact List.mem_cons_of_mem _ (hm w hw p' q' t')
theorem hu65 {k : Nat} {A : Around} (h : Room k A) : A.units + 65 < cLine := by have := h.un; omega
end U

/-! U9: own == and != with any second operand, an own truth value. -/
namespace NeW
open PySem PySem.Spec PySem.Calls PyProof.Rows PySem.W Builtin
section
variable {prog : Program} {w : World} {A : Around} {E : Value → Shared → Prop} {s : Shared} {K : Frag} {x C f L : Addr} {h₀ : Heap} {m : Str → Option Value} {ox : Obj} {od : Option Obj} {b tb : Value}
theorem ifBound_B {M : Model} {args : List Value} {name : Str} {id : String} {Q : Option Value → Shared → Prop} (X : K.In s.heap) (I : InstAt s.heap x ox C od) (hs : findIn K (.ref C) name = some (some (.builtin id)))
    (hb : ∀ self, bindSpecial (.builtin id) self = pure (.builtin id, [self])) (h : wpAny M A (call (.builtin id) (.ref x :: args)) (fun v => Q (some v)) E s) : wpAny M A (callSpecialIfBound? (.ref x) name args) Q E s := by
  simp only [callSpecialIfBound?, bindSpecialIfBound?]
  refine wpAny_holding (wpAny_bind (wpAny_bind (wpAny_bind (I.type.here ((looks_findIn X hs).here ?_)))))
  refine wpAny_bind (wpAny_askSetting (wpAny_ite ?_))
  have fin : wpAny M A (call (.builtin id) ([.ref x] ++ args) >>= fun v => pure (some v)) Q E s := wpAny_bind (wpAny_mono h (fun v s' h' => wpAny_pure h') fun _ _ h' => h')
  split
  · exact wpAny_bind ((Looks.of_pure (hb _)).here (wpAny_pure (by exact fin)))
  · exact wpAny_tryCatch (wpAny_bind ((Looks.of_pure (hb _)).here (wpAny_pure (by exact fin))))
theorem one_ne {Q : Value → Shared → Prop} (hu : A.in1.units < cLine) (X : K.In s.heap) (I : InstAt s.heap x ox C od) (hn : findIn K (.ref C) "__ne__" = some (some (.builtin "object.__ne__"))) (hm : mroIn K C (.type "object") = some true)
    (hs : findIn K (.ref C) "__eq__" = some (some (.ref f))) (hf : isFn K (.ref f) = true)
    (h : wpAny (model prog w) A.in1 (call (.ref f) [.ref x, b]) (fun v s' => ∃ k, v = .bool k ∧ Q (.bool (!k)) s') E s) : wpAny (model prog w) A (tryCompare (.ref x) "__ne__" b) (fun r s' => ∃ v, r = some v ∧ Q v s') E s := by
  unfold tryCompare
  refine wpAny_bind (ifBound_B X I hn PySem.F.slot_object_ne.bind ?_)
  refine wpAny_call (codeAny_call_builtin PySem.F.slot_object_ne.plain PySem.F.cmpEntry_ne (PySem.W.check_slot (i := "object.__ne__") (owner := "object") (n := "__ne__") PySem.F.cmpKind_ne PySem.F.cmpSplit_ne (I.type.andThen (looks_mroIn X hm)) (PySem.F.cmpArgs_ne _ _) ?_))
  unfold Builtin.«object.__ne__»
  refine wpAny_bind (m := slotArgs "__ne__" 1 _) (wpAny_pure ?_)
  refine wpAny_bind (m := cRoomFor _ _) (wpAny_cRoomFor hu ?_)
  refine wpAny_bind (m := callSpecialIfBound? (.ref x) (Str.ofString "__eq__") _) (ifBound_K X I hs hf (wpAny_mono h (fun r s' hr => ?_) fun _ _ y => y))
  obtain ⟨k, rfl, q⟩ := hr
  refine wpAny_bind (m := truthy (.bool k)) (wpAny_truthy_bool ?_)
  first
    | exact wpAny_pure ⟨_, rfl, q⟩
    | exact wpAny_pure (wpAny_pure ⟨_, rfl, q⟩)
theorem ne_K {Q : Value → Shared → Prop} (hu : A.in1.units < cLine) (hu0 : A.units < cLine) (X : K.In s.heap) (I : InstAt s.heap x ox C od) (hb : Looks (model prog w) s.heap (typeOf b) tb) (hnf : notFirst K C tb = true) (hn : findIn K (.ref C) "__ne__" = some (some (.builtin "object.__ne__"))) (hm : mroIn K C (.type "object") = some true)
    (hs : findIn K (.ref C) "__eq__" = some (some (.ref f))) (hf : isFn K (.ref f) = true)
    (h : wpAny (model prog w) A.in1 (call (.ref f) [.ref x, b]) (fun v s' => ∃ k, v = .bool k ∧ Q (.bool (!k)) s') E s) : wpAny (model prog w) A (richCompare .NotEq (.ref x) b) Q E s := by
  have one := one_ne hu X I hn hm hs hf h
  unfold richCompare
  simp only [oneThing_ref]
  refine wpAny_holding (wpAny_bind (wpAny_cRoomFor hu0 ?_))
  rw [PySem.cmpInfo_NotEq]
  dsimp only
  refine wpAny_bind (I.type.here (wpAny_bind (hb.here ?_)))
  split
  · rename_i q
    have e : subIn K tb (.ref C) = some false := by
      rcases Bool.or_eq_true_iff.mp hnf with e | e
      · rw [beq_iff_eq.mp e] at q; simp at q
      · exact beq_iff_eq.mp e
    refine wpAny_bind ((looks_subIn X e).here ?_)
    simp only [Bool.false_eq_true, if_false]
    refine wpAny_bind (wpAny_mono one (fun r s' z => ?_) fun _ _ e => e)
    obtain ⟨v, rfl, hq⟩ := z
    exact wpAny_pure hq
  · refine wpAny_bind (wpAny_pure ?_)
    simp only [Bool.false_eq_true, if_false]
    refine wpAny_bind (wpAny_mono one (fun r s' z => ?_) fun _ _ e => e)
    obtain ⟨v, rfl, hq⟩ := z
    exact wpAny_pure hq
end
end NeW
namespace U
open PySem PySem.Spec PyProof.Rows L2
/-- what is asked of a class without an own != -/
def NoNe (K : PySem.W.Frag) (C : Addr) : Prop := PySem.W.findIn K (.ref C) "__ne__" = some (some (.builtin "object.__ne__"))
/-- the second operand of an own comparison: an instance of the class, or a value of a built-in kind -/
def Snd (K : PySem.W.Frag) (C : Addr) (H : Hp) (y : V) : Prop := (∃ b dx fs, y = .ref b ∧ H b = some (.ins C dx fs)) ∨ ∃ S, Kd K H y S
/-- an instance of C and any second operand handed to an own method -/
def uOwnX (K : PySem.W.Frag) (C : Addr) (sp : Sp) (E : XK) : R2 := fun x y H Q => match x with
  | .ref a => ∃ dx fs, H a = some (.ins C dx fs) ∧ Snd K C H y ∧ sp [.ref a, y] H Q E
  | _ => False
section
variable {X : Cx} {CX : CXT} {n : Nat} {C f : Addr} {fd : FuncData} {ps : List Str} {sp : Sp} {E : XK} {nm : Str}
theorem not_first {K : PySem.W.Frag} {T : String} (h : T ∈ kinds) : PySem.W.notFirst K C (.type T) = true := by
  unfold PySem.W.notFirst
  have : PySem.W.subIn K (.type T) (.ref C) = some false := mro_no C h
  rw [this]
  simp
theorem snd_ty {pins : List (Addr × Obj)} {σ : L2.St} {H : Hp} {s : Shared} {y : V} {u : Value} (I : Inv X pins σ H s) (ry : L2.RelV y u) (h : Snd X.K C H y) : ∃ tb, PySem.W.Looks (model X.prog X.w) s.heap (typeOf u) tb ∧ PySem.W.notFirst X.K C tb = true := by
  rcases h with ⟨b, dx, fs, rfl, hb⟩ | ⟨S, hk⟩
  · cases ry
    obtain ⟨mB, J', _⟩ := ins_get I.hok hb
    obtain ⟨od', J', _⟩ := J'.look
    exact ⟨_, J'.type, by simp [PySem.W.notFirst]⟩
  · obtain ⟨P, Z, hp, _⟩ := kit_of I ry hk.1
    exact ⟨_, Z.ty _ _ I.kIn hp, not_first hk.2⟩
theorem opCmpX {op : CmpOp} (he : (PySem.cmpInfo op).2.1 = nm) (hop : compareOp op = richCompare op) (m : Meth X.K C nm f) (F : FnOk X.prog X.w X.K X.mg X.base CX n f fd ps sp) (hr : Room n X.A) (hb : Binds X.K fd ps []) (hx : Passes CX X E) : OpR X (compareOp op) (uOwnX X.K C sp E) := by
  intro pins s σ H x y v u Q I rx ry h
  unfold uOwnX at h
  split at h
  · rename_i a
    obtain ⟨dx, fs, ha, hy, hs⟩ := h
    cases rx
    obtain ⟨mA, J, _⟩ := ins_get I.hok ha
    obtain ⟨od, J, _⟩ := J.look
    obtain ⟨m', hF⟩ := I.fr
    obtain ⟨tb, lt, hnf⟩ := snd_ty I ry hy
    rw [hop]
    refine PySem.W.cmp_K (op := op) (tb := tb) hr.units0 hF I.ok.mod.kin J lt hnf (by rw [he]; exact m.at_) m.fn ?_
    exact wpAny_mono (run_here F hr rfl hb hx I (show Vals [V.ref a, y] [Value.ref a, u] from .cons rfl (.cons ry .nil)) hs) (fun _ _ q => no_ni q) fun _ _ z => z
  · exact h.elim
/-- x != y by x's own == -/
def uOwnN (K : PySem.W.Frag) (C : Addr) (sp : Sp) (E : XK) : R2 := fun x y H Q => match x with
  | .ref a => ∃ dx fs, H a = some (.ins C dx fs) ∧ Snd K C H y ∧ sp [.ref a, y] H (fun v H' => ∃ k, v = .bl k ∧ Q (.bl (!k)) H') E
  | _ => False
theorem opNeX (o : OwnC X.K C) (ne : NoNe X.K C) (m : Meth X.K C "__eq__" f) (F : FnOk X.prog X.w X.K X.mg X.base CX n f fd ps sp) (hr : Room (n + 1) X.A) (hb : Binds X.K fd ps []) (hx : Passes CX X E) : OpR X (compareOp .NotEq) (uOwnN X.K C sp E) := by
  intro pins s σ H x y v u Q I rx ry h
  unfold uOwnN at h
  split at h
  · rename_i a
    obtain ⟨dx, fs, ha, hy, hs⟩ := h
    cases rx
    obtain ⟨mA, J, _⟩ := ins_get I.hok ha
    obtain ⟨od, J, _⟩ := J.look
    obtain ⟨tb, lt, hnf⟩ := snd_ty I ry hy
    show wpAny (model X.prog X.w) X.A (richCompare .NotEq (.ref a) u) (EP X pins σ Q) X.xe s
    refine NeW.ne_K hr.in1.units0 hr.units0 I.kIn J lt hnf ne o.hm m.at_ m.fn ?_
    refine wpAny_mono (run_here F hr.in1 rfl hb hx I (show Vals [V.ref a, y] [Value.ref a, u] from .cons rfl (.cons ry .nil)) hs) (fun r s' q => ?_) fun _ _ z => z
    obtain ⟨z, H', I', rz, k, rfl, q⟩ := q
    cases rz
    exact ⟨k, rfl, .bl (!k), H', I', rfl, q⟩
  · exact h.elim
/-- a truth value by an own method -/
def uTruO (C : Addr) (sp : Sp) (E : XK) (ta : TE) : TT := fun σ H Q => ta σ H fun x H1 => ∃ a dx fs, x = .ref a ∧ H1 a = some (.ins C dx fs) ∧ sp [.ref a] H1 (fun v H2 => ∃ k, v = .bl k ∧ Q k H2) E
theorem ptO {a : Expr} {ta : TE} (m : Meth X.K C "__bool__" f) (F : FnOk X.prog X.w X.K X.mg X.base CX n f fd ps sp) (hr : Room n X.A) (hb : Binds X.K fd ps []) (hx : Passes CX X E) (ha : PE X a ta)
    (he : ∀ whole, isTrue a X.env whole = (do let v ← whole; standAt a.pos; holding [v] (truthy v)) := by intro _; rfl) : PT X a (uTruO C sp E ta) := by
  refine ⟨fun p s z H Q I h => isTrue_plain (thn (ha.run p s z H _ I h) fun v s1 ⟨x, H1, I1, r1, q⟩ => ?_) (he _)⟩
  obtain ⟨b, dx, fs, rfl, hb', hs⟩ := q
  cases r1
  obtain ⟨mA, J, _⟩ := ins_get I1.hok hb'
  obtain ⟨od, J, _⟩ := J.look
  obtain ⟨m', hF⟩ := I1.fr
  refine PySem.W.truthy_K hF I1.ok.mod.kin J m.at_ m.fn ?_
  refine wpAny_mono (run_here F hr rfl hb hx I1 (show Vals [V.ref b] [Value.ref b] from .cons rfl .nil) hs) (fun r s' q => ?_) fun _ _ z => z
  obtain ⟨y, H', I', ry, k, rfl, q⟩ := q
  cases ry
  exact ⟨H', I', q⟩
end
end U

/-! U10: fractions by value, texts of pairs. -/
namespace U
open PySem PySem.Spec PyProof.Rows L2
def uBool (vs : List V) (H : Hp) (Q : VK) : Prop := match vs with | [.int i] => Q (.bl (decide (i ≠ 0))) H | [.bl k] => Q (.bl k) H | _ => False
theorem caBool {X : Cx} : CallR X (.type "bool") uBool := fun p s z H xs us Q I r h => by
  unfold uBool at h
  split at h
  · rename_i i
    refine call_bool1 p s z H _ us Q I r (.inl ⟨i, rfl, ?_⟩)
    have e : decide (i ≠ 0) = (i != 0) := by by_cases h0 : i = 0 <;> simp [h0]
    rw [← e]
    exact h
  · exact call_bool1 p s z H _ us Q I r (.inr ⟨_, rfl, h⟩)
  · exact h.elim
/-- p / q is N / D in lowest terms -/
structure Val (p q N D : Int) : Prop where
  low : Low p q
  dp : 0 < D
  eq : p * D = N * q
theorem Val.of {N D : Int} (h : 0 < D) : Val (N / gcdI N D) (D / gcdI N D) N D := ⟨(low_of h).1, h, (low_of h).2.1⟩
theorem Val.self {p q : Int} (h : Low p q) : Val p q p q := ⟨h, h.pos, rfl⟩
/-- another fraction of the same value -/
theorem Val.to {p q N D N' D' : Int} (v : Val p q N D) (h : 0 < D') (e : N * D' = N' * D) : Val p q N' D' := ⟨v.low, h, by
  have hD := v.dp
  have e1 := v.eq
  refine Int.eq_of_mul_eq_mul_right (show D ≠ 0 by omega) ?_
  grind⟩
theorem Val.inj {p q p' q' N D N' D' : Int} (v : Val p q N D) (v' : Val p' q' N' D') (e : N * D' = N' * D) : p = p' ∧ q = q' := by
  refine v.low.inj v'.low ?_
  have v2 := v.to v'.dp e
  have h := v'.dp
  have e1 := v2.eq
  have e2 := v'.eq
  refine Int.eq_of_mul_eq_mul_right (show D' ≠ 0 by omega) ?_
  grind
section
variable {p q p' q' N D N' D' : Int}
theorem Val.add (v : Val p q N D) (v' : Val p' q' N' D') : Val ((p * q' + p' * q) / gcdI (p * q' + p' * q) (q * q')) (q * q' / gcdI (p * q' + p' * q) (q * q')) (N * D' + N' * D) (D * D') :=
  (Val.of (Int.mul_pos v.low.pos v'.low.pos)).to (Int.mul_pos v.dp v'.dp) (by have := v.eq; have := v'.eq; grind)
theorem Val.sub (v : Val p q N D) (v' : Val p' q' N' D') : Val ((p * q' - p' * q) / gcdI (p * q' - p' * q) (q * q')) (q * q' / gcdI (p * q' - p' * q) (q * q')) (N * D' - N' * D) (D * D') :=
  (Val.of (Int.mul_pos v.low.pos v'.low.pos)).to (Int.mul_pos v.dp v'.dp) (by have := v.eq; have := v'.eq; grind)
theorem Val.mul (v : Val p q N D) (v' : Val p' q' N' D') : Val ((p * p') / gcdI (p * p') (q * q')) (q * q' / gcdI (p * p') (q * q')) (N * N') (D * D') :=
  (Val.of (Int.mul_pos v.low.pos v'.low.pos)).to (Int.mul_pos v.dp v'.dp) (by have := v.eq; have := v'.eq; grind)
theorem Val.neg (v : Val p q N D) : Val (-p / gcdI (-p) q) (q / gcdI (-p) q) (-N) D :=
  (Val.of v.low.pos).to v.dp (by have := v.eq; grind)
end
/-- both numbers have at most k bits -/
def Sm (k : Nat) (p q : Int) : Prop := p.natAbs < 2 ^ k ∧ q.natAbs < 2 ^ k
theorem pow_le {a b : Nat} (h : a ≤ b) : 2 ^ a ≤ 2 ^ b := Nat.pow_le_pow_right (by decide) h
theorem Sm.up {k m : Nat} {p q : Int} (s : Sm k p q) (h : k ≤ m) : Sm m p q := ⟨Nat.lt_of_lt_of_le s.1 (pow_le h), Nat.lt_of_lt_of_le s.2 (pow_le h)⟩
theorem Sm.low {k : Nat} {N D : Int} (h : 0 < D) (s : Sm k N D) : Sm k (N / gcdI N D) (D / gcdI N D) := by
  obtain ⟨lo, _, e1, e2⟩ := low_of (a := N) h
  have := lo.pos
  exact ⟨Nat.lt_of_le_of_lt e1 s.1, Nat.lt_of_le_of_lt (by omega) s.2⟩
section
variable {p q p' q' : Int} {k m : Nat}
theorem Sm.addN (s : Sm k p q) (s' : Sm m p' q') : Sm (k + m + 1) (p * q' + p' * q) (q * q') := by
  have h1 := mul_lt k m s.1 s'.2
  have h2 := mul_lt m k s'.1 s.2
  have h3 := mul_lt k m s.2 s'.2
  rw [Nat.add_comm m k] at h2
  have e : 2 ^ (k + m + 1) = 2 ^ (k + m) * 2 := Nat.pow_succ ..
  refine ⟨?_, ?_⟩ <;> rw [e] <;> omega
theorem Sm.subN (s : Sm k p q) (s' : Sm m p' q') : Sm (k + m + 1) (p * q' - p' * q) (q * q') := by
  have h1 := mul_lt k m s.1 s'.2
  have h2 := mul_lt m k s'.1 s.2
  have h3 := mul_lt k m s.2 s'.2
  rw [Nat.add_comm m k] at h2
  have e : 2 ^ (k + m + 1) = 2 ^ (k + m) * 2 := Nat.pow_succ ..
  refine ⟨?_, ?_⟩ <;> rw [e] <;> omega
theorem Sm.mulN (s : Sm k p q) (s' : Sm m p' q') : Sm (k + m + 1) (p * p') (q * q') := by
  have h1 := mul_lt k m s.1 s'.1
  have h3 := mul_lt k m s.2 s'.2
  have e : 2 ^ (k + m + 1) = 2 ^ (k + m) * 2 := Nat.pow_succ ..
  refine ⟨?_, ?_⟩ <;> rw [e] <;> omega
end
/-- a ratio of the value N / D, of at most k bits -/
def RV (C : Addr) (H : Hp) (v : V) (N D : Int) (k : Nat) : Prop := ∃ p q, IsR C H v p q ∧ Val p q N D ∧ Sm k p q
theorem RV.up {C : Addr} {H H' : Hp} {v : V} {N D : Int} {k : Nat} (r : RV C H v N D k) (g : Gr H H') : RV C H' v N D k := let ⟨p, q, i, z⟩ := r; ⟨p, q, i.up g, z⟩
/-! ### the text of pairs -/
theorem num_short' {n : Int} {k : Nat} (hk : 0 < k) (h : n.natAbs < 10 ^ k) : (Str.ofString (toString n)).length ≤ k + 1 := by
  have el : (Str.ofString (toString n)).length = (Str.ofString (toString n)).cps.toList.length := by simp [Str.length]
  rw [el, num_list, List.length_append, List.length_map]
  have := (Nat.length_toDigits_le_iff (b := 10) (n := n.natAbs) (k := k) (by decide) hk).mpr h
  have h2 : (if n < 0 then [45] else ([] : List Nat)).length ≤ 1 := by by_cases q : n < 0 <;> simp [q]
  omega
def Few (k : Nat) (l : List (Int × Int)) : Prop := ∀ z ∈ l, z.1.natAbs < 10 ^ k ∧ z.2.natAbs < 10 ^ k
theorem pd_len {p q : Int} {k : Nat} (hk : 0 < k) (h1 : p.natAbs < 10 ^ k) (h2 : q.natAbs < 10 ^ k) : (pd p q).shown.length ≤ 2 * k + 9 := by
  have a := num_short' hk h1
  have b := num_short' hk h2
  have c := tupleText_len_le [Str.ofString (toString p), Str.ofString (toString q)]
  show (tupleText [Str.ofString (toString p), Str.ofString (toString q)]).length ≤ _
  simp only [List.map_cons, List.map_nil, List.sum_cons, List.sum_nil, List.length_cons, List.length_nil] at c
  omega
theorem pds_sum {k : Nat} (hk : 0 < k) : ∀ (l : List (Int × Int)), Few k l → ((PyData.shownAll (pds l)).map (·.length)).sum ≤ l.length * (2 * k + 9) ∧ (PyData.shownAll (pds l)).length = l.length
  | [], _ => ⟨by simp [pds, PyData.shownAll], by simp [pds, PyData.shownAll]⟩
  | (p, q) :: r, h => by
    obtain ⟨h1, h2⟩ := pds_sum hk r fun z hz => h z (List.mem_cons_of_mem _ hz)
    have h0 := h (p, q) (List.mem_cons_self ..)
    have e : PyData.shownAll (pds ((p, q) :: r)) = (pd p q).shown :: PyData.shownAll (pds r) := rfl
    rw [e]
    have hpl : (pd p q).shown.length ≤ 2 * k + 9 := pd_len hk h0.1 h0.2
    simp only [List.map_cons, List.sum_cons, List.length_cons]
    refine ⟨?_, by omega⟩
    rw [Nat.succ_mul]
    omega
theorem pds_len {k : Nat} {l : List (Int × Int)} (hk : 0 < k) (h : Few k l) : (PyData.list (pds l)).shown.length ≤ l.length * (2 * k + 11) + 3 := by
  obtain ⟨h1, h2⟩ := pds_sum hk l h
  have c := listText_len_le (PyData.shownAll (pds l))
  show (listText (PyData.shownAll (pds l))).length ≤ _
  rw [h2] at c
  have : l.length * (2 * k + 11) = l.length * (2 * k + 9) + l.length * 2 := by rw [← Nat.mul_add]
  omega
theorem pd_show {p q : Int} (h1 : p.natAbs.log2 < 1920) (h2 : q.natAbs.log2 < 1920) : (pd p q).showable = true := by
  show (decide _ && (decide _ && true)) = true
  rw [decide_eq_true h1, decide_eq_true h2]
  rfl
theorem pds_show : ∀ {l : List (Int × Int)}, (∀ z ∈ l, z.1.natAbs.log2 < 1920 ∧ z.2.natAbs.log2 < 1920) → PyData.showableAll (pds l) = true
  | [], _ => rfl
  | (p, q) :: r, h => by
    have h0 := h (p, q) (List.mem_cons_self ..)
    have h1 := pds_show fun z hz => h z (List.mem_cons_of_mem _ hz)
    show ((pd p q).showable && PyData.showableAll (pds r)) = true
    rw [pd_show h0.1 h0.2, h1]
    rfl
section
variable {H H' : Hp} {F M M' : List (Addr × HO)} {d : Addr} {o : HO} {D : List Addr}
theorem At.keep1 (L : At H [d] F M H') : ∀ b u, H b = some u → b ≠ d → H' b = some u := fun b u e n => L.fr b u e (by simpa using n)
theorem one_dead (h : H d = some o) : ∀ e ∈ [d], ∃ u, H e = some u := fun e he => by
  obtain rfl := List.mem_singleton.mp he
  exact ⟨o, h⟩
theorem At.perm (L : At H D F M H') (p : M.Perm M') : At H D F M' H' := ⟨L.fr, L.fa, fun x hx => L.mu x (p.mem_iff.mpr hx), fun x hx => L.mf x (p.mem_iff.mpr hx), fun x hx => L.df x (p.mem_iff.mpr hx), (p.map _).nodup_iff.mp L.nd⟩
theorem rot3 {α : Type} {x y z : α} : [x, y, z].Perm [z, x, y] := ((List.Perm.swap z y []).cons x).trans (List.Perm.swap z x [y])
end
/-- a sum of fractions, step by step -/
def stepF (z : Int × Int) (y : Int × Int) : Int × Int := (z.1 * y.2 + y.1 * z.2, z.2 * y.2)
def sumF (l : List (Int × Int)) : Int × Int := l.foldl stepF (0, 1)
theorem sumF_take {l : List (Int × Int)} {i : Nat} {y : Int × Int} (h : l[i]? = some y) : sumF (l.take (i + 1)) = stepF (sumF (l.take i)) y := by
  unfold sumF
  rw [List.take_add_one, h, List.foldl_append]
  rfl
theorem idx_of {α β : Type} {P : α → β → Prop} : ∀ {xs : List α} {ls : List β}, PySem.Paired P xs ls → ∀ (i : Nat) (x : α) (z : β), xs[i]? = some x → ls[i]? = some z → P x z
  | _, _, .nil, i, x, z, h, _ => by simp at h
  | _, _, .cons h _, 0, x, z, h1, h2 => by
    obtain rfl := Option.some.inj h1
    obtain rfl := Option.some.inj h2
    exact h
  | _, _, .cons _ r, i + 1, x, z, h1, h2 => idx_of r i x z h1 h2
theorem str_ext {x y : Str} (h : x.cps.toList = y.cps.toList) : x = y := by
  cases x; cases y
  simp only at h
  rw [Array.ext' h]
theorem app_list (x y : Str) : (x ++ y).cps.toList = x.cps.toList ++ y.cps.toList := by rw [PySem.Str.cps_append, Array.toList_append]
theorem app_len (x y : Str) : (x ++ y).length = x.length + y.length := by
  show (x ++ y).cps.size = x.cps.size + y.cps.size
  rw [PySem.Str.cps_append, Array.size_append]
theorem e_app (x : Str) : Str.empty ++ x = x := str_ext (by rw [app_list]; rfl)
theorem abs_num (n : Int) : (Str.ofString (toString ((n.natAbs : Nat) : Int))).cps.toList = (Nat.toDigits 10 n.natAbs).map Char.toNat := by
  rw [num_list, if_neg (by omega)]
  rfl
theorem abs_neg {n : Int} (h : n < 0) : Str.ofString "-" ++ Str.ofString (toString ((n.natAbs : Nat) : Int)) = Str.ofString (toString n) := str_ext (by
  rw [app_list, abs_num, num_list, if_pos h]
  rfl)
theorem abs_pos {n : Int} (h : ¬ n < 0) : Str.ofString "" ++ Str.ofString (toString ((n.natAbs : Nat) : Int)) = Str.ofString (toString n) := str_ext (by
  rw [app_list, abs_num, num_list, if_neg h]
  rfl)
theorem join1 (x : Str) : Txt.join (Str.ofString "") [x] = x := by
  exact str_ext (by unfold Txt.join Builtin.Str.glued; simp)
theorem num_short {n : Int} (h : n.natAbs < 10 ^ 60) : (Str.ofString (toString n)).length ≤ 100 := by
  have el : (Str.ofString (toString n)).length = (Str.ofString (toString n)).cps.toList.length := by simp [Str.length]
  rw [el, num_list, List.length_append, List.length_map]
  have := (Nat.length_toDigits_le_iff (b := 10) (n := n.natAbs) (k := 60) (by decide) (by decide)).mpr h
  have h2 : (if n < 0 then [45] else ([] : List Nat)).length ≤ 1 := by by_cases q : n < 0 <;> simp [q]
  omega
def rtext (p q : Int) : Str := if q = 1 then Str.ofString (toString p) else Str.ofString (toString p) ++ Str.ofString "/" ++ Str.ofString (toString q)
end U
namespace NeW
open PySem PySem.Spec PySem.Calls PyProof.Rows PySem.W Builtin Builtin.Str
section
variable {prog : Program} {w : World} {A : Around} {E : Value → Shared → Prop} {s : Shared} {K : Frag} {x C f : Addr} {ox : Obj} {od : Option Obj}
theorem bool_own {L : Addr} {h₀ : Heap} {m : Str → Option Value} {Q : Value → Shared → Prop} (X : Fr h₀ L s.heap m) (X₀ : K.In h₀) (I : InstAt s.heap x ox C od) (hs : findIn K (.ref C) "__bool__" = some (some (.ref f))) (hf : isFn K (.ref f) = true)
    (h : wpAny (model prog w) A.in1.in1 (call (.ref f) [.ref x]) (PySem.W.BoolBack fun b s' => Q (.bool b) s') E s) : wpAny (model prog w) A (call (.type "bool") [.ref x]) Q E s := by
  refine callType_codes (T := "bool") (Bi := Builtin.«object.__init__») (Q₁ := fun r s₁ => ∃ b, r = .bool b ∧ Q r s₁) PySem.F.called_bool (PySem.F.typeCall_bool_1 _) PySem.F.entry_object_init ?_ ?_
  · refine codeAny_of_tree ?_
    show wpAny _ A.in1.in1 (do checkBuiltinCall "bool.__new__" ⟨[.type "bool", .ref x], []⟩; again (.builtin "bool.__new__" ⟨[.type "bool", .ref x], []⟩)) _ _ s
    refine wpAny_bind (wpAny_of_eq (PySem.F.newCall_bool_1 _) (wpAny_pure ⟨plainId_quiet (by decide +kernel) _, codeAny_builtin PySem.F.entry_bool_new ?_⟩))
    rw [Around.under_plainId (by decide +kernel) _]
    unfold Builtin.«bool.__new__»
    refine wpAny_bind (wpAny_pure ?_)
    refine wpAny_bind (wpAny_of_eq PySem.F.conv_sub_bool ?_)
    refine wpAny_bind (m := someArgs "bool" 0 1 _) (wpAny_pure ?_)
    refine wpAny_bind (m := truthy (.ref x)) (truthy_K X X₀ I hs hf (wpAny_mono h (fun r s₁ hr => ?_) fun _ _ y => y))
    cases r <;> first | exact hr.elim | exact wpAny_pure ⟨_, rfl, hr⟩
  · rintro obj s₁ ⟨b, rfl, hq⟩
    exact ⟨PySem.typeIs_bool _ _, PySem.F.args_object_init_2 _ _, object_init_meets PySem.F.called_bool.init.lookup PySem.F.called_bool.made (by decide) prog w A.in1 _ s₁ ⟨PySem.typeIs_bool _ _, rfl, hq⟩⟩
end
end NeW
namespace U
open PySem PySem.Spec PyProof.Rows L2
section
variable {X : Cx} {CX : CXT} {n : Nat} {C f : Addr} {fd : FuncData} {ps : List Str} {sp : Sp} {E : XK}
/-- bool(x) by x's own method -/
def uBoolO (C : Addr) (sp : Sp) (E : XK) : List V → Hp → VK → Prop := fun vs H Q => match vs with
  | [.ref a] => ∃ dx fs, H a = some (.ins C dx fs) ∧ sp [.ref a] H (fun v H' => (∃ y, v = .bl y) ∧ Q v H') E
  | _ => False
theorem caBoolO (m : Meth X.K C "__bool__" f) (F : FnOk X.prog X.w X.K X.mg X.base CX n f fd ps sp) (hr : Room (n + 2) X.A) (hb : Binds X.K fd ps []) (hx : Passes CX X E) : CallR X (.type "bool") (uBoolO C sp E) := by
  intro pins s σ H xs us Q I r h
  unfold uBoolO at h
  split at h
  · rename_i a
    obtain ⟨dx, fs, ha, hs⟩ := h
    obtain ⟨u, rfl, ru⟩ := vals1 r
    cases (show u = Value.ref a from ru)
    obtain ⟨mA, J, _⟩ := ins_get I.hok ha
    obtain ⟨od, J, _⟩ := J.look
    obtain ⟨m', hF⟩ := I.fr
    have hr2 : Room n X.A.in1.in1 := Room.in1 (Room.in1 hr)
    refine NeW.bool_own hF I.ok.mod.kin J m.at_ m.fn ?_
    refine wpAny_mono (run_here F hr2 rfl hb hx I (show Vals [V.ref a] [Value.ref a] from .cons rfl .nil) hs) (fun v s' q => ?_) fun _ _ z => z
    obtain ⟨x, H', I', rv, ⟨y, rfl⟩, q⟩ := q
    obtain rfl := (show v = Value.bool y from rv)
    exact ⟨.bl y, H', I', rfl, q⟩
  · exact h.elim
end
end U

/-! U12: texts of integers, read. -/
namespace U
open PySem PySem.Spec PyProof.Rows L2
open NumText
theorem len_list (x : Str) : x.length = x.cps.toList.length := by simp [Str.length]
theorem minus_len : (Str.ofString "-").length = 1 := by decide
theorem minus_cps : (Str.ofString "-").cps = #[45] := by decide
theorem sub_at0 (x : Str) : Builtin.Str.subAt x (Str.ofString "-") 0 = (match x.cps.toList with | c :: _ => decide (c = 45) | [] => false) := by
  unfold Builtin.Str.subAt
  rw [minus_len, minus_cps]
  rcases e : x.cps.toList with _ | ⟨c, r⟩
  · have : x.cps = #[] := by apply Array.ext'; rw [e]
    rw [this]
    rfl
  · have e2 : (x.cps.extract 0 (0 + 1)).toList = [c] := by
      rw [Array.toList_extract, List.extract_eq_take_drop, e]
      rfl
    have e3 : x.cps.extract 0 (0 + 1) = #[c] := by apply Array.ext'; rw [e2]
    rw [e3]
    by_cases h : c = 45
    · subst h; rfl
    · show (#[c] == #[45]) = decide (c = 45)
      rw [decide_eq_false h]
      simp [h]
/-- what stands behind a sign - -/
def behind : List Nat → List Nat
  | 45 :: r => r
  | l => l
theorem startswith_minus (x : Str) : Txt.startswith x (Str.ofString "-") = (match x.cps.toList with | c :: _ => decide (c = 45) | [] => false) := by
  unfold Txt.startswith
  rw [sub_at0, minus_len, len_list]
  rcases x.cps.toList with _ | ⟨c, r⟩
  · rfl
  · simp
theorem removeprefix_minus (x : Str) : (Txt.removeprefix x (Str.ofString "-")).cps.toList = behind x.cps.toList := by
  unfold Txt.removeprefix
  rw [sub_at0, minus_len]
  rcases e : x.cps.toList with _ | ⟨c, r⟩
  · exact e
  · by_cases h : c = 45
    · subst h
      simp only [decide_true, if_true]
      have hl : x.length = r.length + 1 := by rw [len_list, e]; rfl
      show (if (x.length - 1 == x.length) = true then x else Builtin.Str.strSub x 1 x.length).cps.toList = r
      rw [if_neg (by rw [hl]; simp), StrLaws.strSub_toList, e, hl]
      simp
    · simp only [h, decide_false, Bool.false_eq_true, if_false]
      show x.cps.toList = behind (c :: r)
      rw [e]
      unfold behind
      split
      · rename_i heq; cases heq; exact absurd rfl h
      · rfl
theorem ascii_digit : ∀ c : Nat, c < 128 → Unicode.isDigit c = decide (48 ≤ c ∧ c ≤ 57) := by decide +kernel
/-- nothing but figures -/
def Figs (l : List Nat) : Prop := (∀ c ∈ l, 48 ≤ c ∧ c ≤ 57) ∧ l ≠ []
theorem isascii_iff (x : Str) : Txt.isascii x = true ↔ ∀ c ∈ x.cps.toList, c < 128 := by
  unfold Txt.isascii
  rw [Array.all_eq_true_iff_forall_mem]
  simp
theorem isdigit_iff (x : Str) (h : ∀ c ∈ x.cps.toList, c < 128) : Txt.isdigit x = true ↔ Figs x.cps.toList := by
  unfold Txt.isdigit Figs
  rw [Bool.and_eq_true, Array.all_eq_true_iff_forall_mem, decide_eq_true_iff]
  rw [len_list]
  constructor
  · rintro ⟨h1, h2⟩
    refine ⟨fun c hc => ?_, fun e => by rw [e] at h1; exact absurd h1 (by decide)⟩
    have := h2 c (Array.mem_toList_iff.mp hc)
    rw [ascii_digit c (h c hc)] at this
    exact of_decide_eq_true this
  · rintro ⟨h1, h2⟩
    refine ⟨List.length_pos_iff.mpr h2, fun c hc => ?_⟩
    have hc' := Array.mem_toList_iff.mpr hc
    rw [ascii_digit c (h c hc')]
    exact decide_eq_true (h1 c hc')
/-- the text of an integer: its figures behind the sign -/
theorem num_figs (n : Int) : Figs (behind (Str.ofString (toString n)).cps.toList) ∧ behind (Str.ofString (toString n)).cps.toList = (Nat.toDigits 10 n.natAbs).map Char.toNat := by
  have e : behind (Str.ofString (toString n)).cps.toList = (Nat.toDigits 10 n.natAbs).map Char.toNat := by
    rw [num_list]
    by_cases h : n < 0
    · rw [if_pos h]
      rfl
    · rw [if_neg h, List.nil_append]
      unfold behind
      split
      · rename_i r heq
        have := digits_are n.natAbs 45 (by rw [heq]; exact List.mem_cons_self ..)
        omega
      · rfl
  refine ⟨?_, e⟩
  rw [e]
  refine ⟨digits_are _, fun z => ?_⟩
  have z2 := List.map_eq_nil_iff.mp z
  exact absurd z2 (Nat.toDigits_ne_nil)
theorem foldl_lt : ∀ (l : List Nat) (a : Nat), (∀ c ∈ l, 48 ≤ c ∧ c ≤ 57) → l.foldl (fun acc c => acc * 10 + (c - 48)) a < (a + 1) * 10 ^ l.length
  | [], a, _ => by simp
  | c :: r, a, h => by
    have h1 := foldl_lt r (a * 10 + (c - 48)) fun d hd => h d (List.mem_cons_of_mem _ hd)
    have h2 := h c (List.mem_cons_self ..)
    rw [List.foldl_cons, List.length_cons, Nat.pow_succ]
    refine Nat.lt_of_lt_of_le h1 ?_
    have h3 : (a * 10 + (c - 48) + 1) * 10 ^ r.length ≤ ((a + 1) * 10) * 10 ^ r.length := Nat.mul_le_mul_right _ (by omega)
    have h4 : ((a + 1) * 10) * 10 ^ r.length = (a + 1) * (10 ^ r.length * 10) := by rw [Nat.mul_assoc, Nat.mul_comm 10]
    omega
theorem digitsVal_lt {l : List Nat} (h : ∀ c ∈ l, 48 ≤ c ∧ c ≤ 57) : digitsVal l < 10 ^ l.length := by
  have := foldl_lt l 0 h
  simpa [digitsVal] using this
/-- what int reads behind a sign - of figures -/
theorem int_of_figs {x : Str} (h : Figs (behind x.cps.toList)) (hl : (behind x.cps.toList).length ≤ 60) : ∃ m : Int, intText? x = some m ∧ m.natAbs < 10 ^ 60 := by
  have up : ∀ l : List Nat, (∀ c ∈ l, 48 ≤ c ∧ c ≤ 57) → l.length ≤ 60 → digitsVal l < 10 ^ 60 := fun l h1 h2 =>
    Nat.lt_of_lt_of_le (digitsVal_lt h1) (Nat.pow_le_pow_right (by decide) h2)
  have hx : x.length = x.cps.toList.length := by simp [Str.length]
  rcases e : x.cps.toList with _ | ⟨c, r⟩
  · rw [e] at h; exact absurd rfl h.2
  · by_cases h45 : c = 45
    · subst h45
      rw [e] at h hl
      refine ⟨_, intText_neg e h.1 h.2 (by rw [hx, e]; show r.length + 1 ≤ _; have : r.length ≤ 60 := hl; omega), ?_⟩
      rw [Int.natAbs_neg, Int.natAbs_natCast]
      exact up r h.1 hl
    · have eb : behind (c :: r) = c :: r := by
        unfold behind
        split
        · rename_i heq; cases heq; exact absurd rfl h45
        · rfl
      rw [e, eb] at h hl
      refine ⟨_, intText_digits (by rw [e]; exact h.1) (by rw [e]; exact h.2) (by rw [hx, e]; omega), ?_⟩
      rw [Int.natAbs_natCast, e]
      exact up _ h.1 hl
/-- int behind str -/
theorem intText_num {n : Int} (h : n.natAbs < 10 ^ 60) : intText? (Str.ofString (toString n)) = some n := by
  have hl : ((Nat.toDigits 10 n.natAbs).map Char.toNat).length ≤ 60 := by
    rw [List.length_map]
    exact (Nat.length_toDigits_le_iff (b := 10) (n := n.natAbs) (k := 60) (by decide) (by decide)).mpr h
  have hne : ((Nat.toDigits 10 n.natAbs).map Char.toNat) ≠ [] := fun z => Nat.toDigits_ne_nil (List.map_eq_nil_iff.mp z)
  have hx : ∀ x : Str, x.length = x.cps.toList.length := fun x => by simp [Str.length]
  have e := num_list n
  by_cases h0 : n < 0
  · rw [if_pos h0] at e
    have e' : (Str.ofString (toString n)).cps.toList = 45 :: (Nat.toDigits 10 n.natAbs).map Char.toNat := e
    rw [intText_neg e' (digits_are _) hne (by rw [hx, e]; simp only [List.length_append, List.length_cons, List.length_nil]; omega), PySem.W.KIN.val_back]
    congr 1
    omega
  · rw [if_neg h0, List.nil_append] at e
    rw [intText_digits (by rw [e]; exact digits_are _) (by rw [e]; exact hne) (by rw [hx, e]; omega), e, PySem.W.KIN.val_back]
    congr 1
    omega
/-- a text cut at its first sign / -/
theorem cut_slash (x : Str) : (47 ∉ x.cps.toList ∧ Txt.partition x (Str.ofString "/") = (x, Str.empty, Str.empty)) ∨
    (∃ a b : Str, 47 ∉ a.cps.toList ∧ x = a ++ Str.ofString "/" ++ b ∧ Txt.partition x (Str.ofString "/") = (a, Str.ofString "/", b)) := by
  have ey : TL.tl (Str.ofString "/") = 47 :: [] := by decide
  by_cases h : 47 ∈ x.cps.toList
  · obtain ⟨s, t, e, hs⟩ := List.append_of_mem h |> fun ⟨s, t, e⟩ => (show ∃ s t, x.cps.toList = s ++ 47 :: t ∧ 47 ∉ s from by
      clear e
      generalize x.cps.toList = l at h
      induction l with
      | nil => cases h
      | cons c r ih =>
        by_cases hc : c = 47
        · subst hc; exact ⟨[], r, rfl, by simp⟩
        · rcases List.mem_cons.mp h with z | z
          · exact absurd z.symm hc
          · obtain ⟨s, t, e, hs⟩ := ih z
            exact ⟨c :: s, t, by rw [e]; rfl, fun z => by rcases List.mem_cons.mp z with z | z; exact hc z.symm; exact hs z⟩)
    have ex : x = (⟨s.toArray⟩ : Str) ++ Str.ofString "/" ++ (⟨t.toArray⟩ : Str) := str_ext (by
      rw [app_list, app_list, e, show (Str.ofString "/").cps.toList = [47] by decide]
      simp)
    refine .inr ⟨⟨s.toArray⟩, ⟨t.toArray⟩, hs, ex, ?_⟩
    rw [ex]
    exact TL.partition_app ey hs
  · exact .inl ⟨h, TL.partition_none ey h⟩
theorem num_inj {m n : Int} (h1 : m.natAbs < 10 ^ 60) (h2 : n.natAbs < 10 ^ 60) (h : Str.ofString (toString m) = Str.ofString (toString n)) : m = n := by
  have e := intText_num h1
  rw [h, intText_num h2] at e
  exact (Option.some.inj e).symm
theorem num_no47 (n : Int) : 47 ∉ (Str.ofString (toString n)).cps.toList := fun h => by
  rw [num_list] at h
  rcases List.mem_append.mp h with h | h
  · by_cases q : n < 0
    · rw [if_pos q] at h; simp at h
    · rw [if_neg q] at h; cases h
  · have := digits_are n.natAbs 47 h
    omega
theorem cut_eq {a b c d : Str} (ha : 47 ∉ a.cps.toList) (hc : 47 ∉ c.cps.toList) (h : a ++ Str.ofString "/" ++ b = c ++ Str.ofString "/" ++ d) : a = c ∧ b = d := by
  have ey : TL.tl (Str.ofString "/") = 47 :: [] := by decide
  have h1 := TL.partition_app (b := b) ey ha
  rw [h, TL.partition_app ey hc] at h1
  exact ⟨(congrArg (·.1) h1).symm, (congrArg (·.2.2) h1).symm⟩
theorem cut_no {a b x : Str} (hx : 47 ∉ x.cps.toList) : x ≠ a ++ Str.ofString "/" ++ b := fun h => hx (by
  rw [h, app_list, app_list]
  exact List.mem_append_left _ (List.mem_append_right _ (by decide)))
/-- what int_in tells of a text: the number of which it is the text -/
def IsNum (x : Str) (n : Int) : Prop := n.natAbs < 10 ^ 60 ∧ x = Str.ofString (toString n)
theorem num_figs' {n : Int} (h : n.natAbs < 10 ^ 60) : Txt.isascii (Txt.removeprefix (Str.ofString (toString n)) (Str.ofString "-")) = true ∧ Txt.isdigit (Txt.removeprefix (Str.ofString (toString n)) (Str.ofString "-")) = true ∧ (Txt.removeprefix (Str.ofString (toString n)) (Str.ofString "-")).length ≤ 60 := by
  have e := removeprefix_minus (Str.ofString (toString n))
  obtain ⟨f, g⟩ := num_figs n
  have ha : Txt.isascii (Txt.removeprefix (Str.ofString (toString n)) (Str.ofString "-")) = true := (isascii_iff _).mpr (by
    rw [e]; intro c hc; have := f.1 c hc; omega)
  refine ⟨ha, (isdigit_iff _ ((isascii_iff _).mp ha)).mpr (by rw [e]; exact f), ?_⟩
  rw [len_list, e, g, List.length_map]
  exact (Nat.length_toDigits_le_iff (b := 10) (n := n.natAbs) (k := 60) (by decide) (by decide)).mpr h
section
variable {X : Cx}
/-- int, also of a text -/
def uIntT (vs : List V) (H : Hp) (Q : VK) : Prop := match vs with | [.str a] => ∃ n, intText? a = some n ∧ a.length ≤ 640 ∧ Q (.int n) H | _ => uInt vs H Q
theorem caIntT : CallR X (.type "int") uIntT := fun p s z H xs us Q I r h => by
  unfold uIntT at h
  split at h
  · obtain ⟨n, h1, h2, q⟩ := h
    exact call_int_str p s z H _ us Q I r ⟨_, n, rfl, h1, h2, q⟩
  · exact caInt p s z H _ us Q I r h
end
end U

/-! U13: exceptions that are caught by their classes, lambdas handed to a def, defs whose code object is known. -/
namespace U
open PySem PySem.Spec PyProof.Rows L2 LamX
/-- a def of the text whose code object is known -/
structure FunC (K : PySem.W.Frag) (nm qual : Str) (st : Stmt) (f : Addr) (fd : FuncData) (c : Addr) : Prop where
  ex : ∃ (oc : Value) (od : Option Addr) (kV doc pm : Value) (an : Option Addr) (ct : Value) (osl : Array (Option Value)), fd = PySem.W.fnOf nm qual (defArgs st) (defBody st) (defScope st) .none kV doc pm an (.ref c) ct ∧ K.lookup f = some ⟨oc, od, .func fd, osl⟩ ∧ PySem.W.codeIn K (.ref c) qual = true
section
variable {P : Program} {w : World} {K : PySem.W.Frag} {mg : Str → Option Value} {base : Heap} {CX : CXT} {k : Nat} {f c : Addr} {fd : FuncData} {ps N : List Str} {sp : Sp} {st : Stmt} {nm qual : Str}
theorem okC (F : FunC K nm qual st f fd c) (S : FnScope N ps (defScope st)) (len : ∀ vs H Q E, sp vs H Q E → vs.length = ps.length)
    (body : ∀ (A : Around) (outer : List Env) (s : Shared) (H : Hp) (vs : List V) (Q : VK) (E : XK), Room k (A.deeper (envOfC qual (defScope st) s.heap.objs.size f (.ref c))) → sp vs H Q E →
      ∃ t, PSs (cxOf CX P w K mg base N qual (defScope st) f (.ref c) A outer s H E).nox (defBody st) t ∧ t { nx := fun _ H' => Q .non H', rt := Q } (start N vs) H) : FnOk P w K mg base CX (k + 1) f fd ps sp := by
  obtain ⟨oc, od, kV, doc, pm, an, ct, osl, rfl, lk, hcd⟩ := F.ex
  exact ⟨len, fun A outer s H args us vs Q E hr e0 hb r h => run_ofS lk hcd S hr e0 hb r (len _ _ _ _ h) fun hr' => let ⟨t, ht, hq⟩ := body A outer s H vs Q E hr' h; ⟨t, ht.nox, hq⟩⟩
end
section
variable {X : Cx}
/-- x(lambda: body), x a def of the text -/
theorem peLam {T : List (Addr × Str)} {TT : (XK → Hp → VK → Prop) → Hp → VK → Prop} {x a : Str} {g c P : Addr} {k : Nat} {st : Stmt} {fd : FuncData} {Ng : List Str} {params : Arguments} {body : Expr} {scope : Scope} {t : XK → TE} {p lpos pos : Pos}
    (F : Fun X.K x x st g fd) (hm : X.mg x = some (.ref g)) (hb : Binds X.K fd [a] []) (Sg : FnScope Ng [a] (defScope st))
    (hG : ∀ cdg : Value, GivesTo X Ng x (defScope st) g cdg (defBody st) a (X.env.qual ++ "<lambda>") TT)
    (TB : TabB X.base X.mg c P) (hcode : X.env.code = .ref c) (hmT : (P, X.env.qual ++ "<lambda>") ∈ T) (hu : ∀ q ∈ T, q.1 = P → q.2 = X.env.qual ++ "<lambda>") (hr : Room (k + 2) X.A)
    (hbody : ∀ (A : Around) (outer : List Env) (s : Shared) (H : Hp) (E : XK) (f c' : Addr), Room k (A.deeper (lamEnv X scope s.heap.objs.size f c')) → PE (lamCx X A outer s H E scope f c') body (t E))
    (hg : Gl X x := by rfl) (hN : Ng[0]? = some a := by rfl) (hva : Vis (defScope st) a := by first | exact Or.inl rfl | exact Or.inr (Or.inl rfl)) (L : LamS X.env.scope scope := by exact LamX.lamS_by (by decide +kernel)) (hdef : defaultsOf params X.env = ([], []) := by rfl)
    (hbind : ∀ (q : Str) (cl : List (Str × Addr)) (pm cv ctv : Value), bindArgs (PySem.W.kla_fn "<lambda>" q params body scope cl pm cv ctv) ⟨[], []⟩ = pure [] := by (intros; rfl))
    (hdb : (x == ("__debug__" : Str)) = false := by decide) (hd : (a == ("__debug__" : Str)) = false := by decide) (hcd : (a == ("__classdict__" : Str)) = false := by decide) :
    PE X (.Call (.Name x p) [.Lambda params body scope lpos] [] pos) (tLam T TT t) := by
  have hk := F.kp
  obtain ⟨oc, od, kV, doc, pm, an, cdv, ct, osl, rfl, lk, hcg⟩ := F.ex
  exact pe_lamcall hg hm hk lk hcg hb Sg hN hva (hG cdv) TB hcode hmT hu hr L hdef hbind hbody hdb hd hcd
/-- what is made of a lambda: try: return a().pair, and two clauses, each with a text -/
def TTpair (K : PySem.W.Frag) (C : Addr) (sp : Sp) (C1 C2 : Addr) (w1 w2 : Str) : (XK → Hp → VK → Prop) → Hp → VK → Prop := fun tl H Q =>
  tl (fun cls _ H' => ∃ b, PySem.W.exmOne K cls (.ref C1) = some b ∧ (b = true → Q (.str w1) H') ∧ (b = false → ∃ b', PySem.W.exmOne K cls (.ref C2) = some b' ∧ (b' = true → Q (.str w2) H') ∧ (b' = false → False))) H
    fun x H1 => ∃ b dx fs, x = .ref b ∧ H1 b = some (.ins C dx fs) ∧ sp [.ref b] H1 Q E0
theorem told_pair {Ng : List Str} {x a e1 e2 q w1 w2 f : Str} {sg : Scope} {g C C1 C2 pa ga : Addr} {fdp : FuncData} {psp : List Str} {sp : Sp} {cdg : Value} {i j k : Nat} {p1 p2 p3 p4 p5 p6 p7 p8 p9 pb pc pd pe : Pos}
    (c : Cls X.K C) (hp : PropOf X.K C f pa ga) (F : FnOk X.prog X.w X.K X.mg X.base CX0 k ga fdp psp sp) (hr : Room (k + 2) X.A) (hb : Binds X.K fdp psp [])
    (g1 : sg.names.lookup e1 = some .globalImplicit) (m1 : X.mg e1 = some (.ref C1)) (g2 : sg.names.lookup e2 = some .globalImplicit) (m2 : X.mg e2 = some (.ref C2)) (d1 : (e1 == ("__debug__" : Str)) = false) (d2 : (e2 == ("__debug__" : Str)) = false)
    (hab : ∀ env : Env, attributeBase (.Call (.Name a p1) [] [] p2) f env (eval (.Call (.Name a p1) [] [] p2) env) = eval (.Call (.Name a p1) [] [] p2) env)
    (h0 : ∀ z : Addr, (L2.start Ng [V.ref z])[0]? = some (some (V.ref z))) :
    GivesTo X Ng x sg g cdg [.Try [.Return (some (.Attribute (.Call (.Name a p1) [] [] p2) f p9)) p3] [.ExceptHandler (some (.Name e1 p4)) none [.Return (some (.Constant (.str w1) i p5)) p6] p7, .ExceptHandler (some (.Name e2 pb)) none [.Return (some (.Constant (.str w2) j pc)) pd] pe] [] [] p8] a q (TTpair X.K C sp C1 C2 w1 w2) := by
  intro fl c' s H Q tl act hc h
  let Z : Cx := (cxOf C8.CX0 X.prog X.w X.K X.mg X.base Ng x sg g cdg X.A X.stack s H C8.E0).nox
  have n1 : Names Z e1 (.ref C1) := ⟨g1, d1, .inl m1⟩
  have n2 : Names Z e2 (.ref C2) := ⟨g2, d2, .inl m2⟩
  have hz : Room (k + 1) Z.A := hr.deeper _
  have T0 : Takes Z (fun _ _ _ _ => False) := takes_none5
  have suites : HdsOk Z [.ExceptHandler (some (.Name e1 p4)) none [.Return (some (.Constant (.str w1) i p5)) p6] p7, .ExceptHandler (some (.Name e2 pb)) none [.Return (some (.Constant (.str w2) j pc)) pd] pe]
      [(.ref C1, fun _ _ _ => tRet (tC (.str w1))), (.ref C2, fun _ _ _ => tRet (tC (.str w2)))] :=
    .cons n1 (fun _ _ _ _ _ _ _ => pss_one (ps_ret pe_str)) (.cons n2 (fun _ _ _ _ _ _ _ => pss_one (ps_ret pe_str)) .nil)
  refine ⟨_, pss_one (ps_try_many (X := Z) (tb := fun W D σ H => ∃ Ech : XK, (∀ cls d σ' H', Ech cls d H' → W cls d σ' H') ∧ σ[0]? = some (some (.ref fl)) ∧ H c' = some (CodeO c' q) ∧ tl Ech H fun y H1 => ∃ b dx fs, y = .ref b ∧ H1 b = some (.ins C dx fs) ∧ sp [.ref b] H1 D.rt E0)
    rfl rfl T0 (fun W pn xe tk _ => ?_) suites), ?_⟩
  · refine ⟨fun pins s' σ H' D I h' => ?_⟩
    obtain ⟨Ech, hW, h1, h2, h3⟩ := h'
    have act1 := act W pn xe Ech p1 p2 tk hW
    have whole := pss_one (ps_ret (pos := p3) (pe_prop (f := f) (pos := p9) act1 c hp F hz hb .nil pass0 (hab _)))
    exact whole.run pins s' σ H' D I ⟨h1, h2, h3⟩
  · refine ⟨_, fun cls d σ' H' hh => ?_, h0 fl, hc, h⟩
    obtain ⟨b, e, y1, y2⟩ := hh
    refine ⟨b, e, fun z _ _ => y1 z, fun z => ?_⟩
    obtain ⟨b', e', z1, z2⟩ := y2 z
    exact ⟨b', e', fun z _ _ => z1 z, fun z => z2 z⟩
end
/-- does a clause that names B take an error of the class A? -/
theorem exm_of {K : PySem.W.Frag} {A B : Addr} {b : Bool} (h1 : PySem.W.subIn K (.ref B) (.type "BaseException") = some true) (h2 : PySem.W.isClsIn K B = true) (h3 : PySem.W.typeIn K (.ref B) = some (.type "type")) (h4 : PySem.W.subIn K (.ref A) (.ref B) = some b) : PySem.W.exmOne K (.ref A) (.ref B) = some b := by
  have h2' : (PySem.W.clsIn K B).isSome = true := h2
  unfold PySem.W.exmOne
  rw [h1, if_pos (beq_self_eq_true _)]
  show (if ((PySem.W.clsIn K B).isSome && PySem.W.typeIn K (.ref B) == some (.type "type")) = true then _ else _) = _
  rw [h2', h3, if_pos (by rfl)]
  exact h4
theorem look_none {l : PySem.W.Frag} {a : Addr} (h : a ∉ l.map (·.1)) : l.lookup a = none := by
  induction l with
  | nil => rfl
  | cons p r ih =>
    obtain ⟨b, o⟩ := p
    rw [List.map_cons, List.mem_cons, not_or] at h
    rw [List.lookup_cons, show (a == b) = false from beq_eq_false_iff_ne.mpr h.1]
    exact ih h.2
open PySem.W in
/-- the end of a law whose defs make lambdas -/
theorem walkT {l : OpenLaw} {n k : Nat} {q : Program} {loose : List Str} {XP : (Str → Option Value) → Heap → Prop} {d : DefRec} {K : Params → Frag} {as ts : List Addr} {e : ∀ P, as = (K P).map (·.1)} {x : Str}
    (hn : l.most = some n) (hn2 : n ≤ sizeLine) (hdf : d.params.defaults = []) (hr : Room k callerA)
    (F : ∀ (w : World) (mg : Str → Option Value) (fa : Addr) (h : Heap), (K w.params).In h → h.Ns mainGlobals mg → mg d.name = some (.ref fa) →
      ∃ (fd : FuncData) (cs : List (Addr × Addr)) (sp : Sp), (∀ p ∈ cs, p.2 ∈ ts ∧ p.2 ∉ as) ∧ (∀ p ∈ cs, codeHdIn (K w.params) p.1 p.2 = true) ∧ (∀ (s : Shared) (u : Value), BindsTo s fd ⟨[u], []⟩ [(x, u)]) ∧
        (∀ (H : Hp) (a : Addr) (ns : List Int), ns.length ≤ n → (∀ z ∈ ns, Builtin.Int.intBits z ≤ 1048576) → (∀ p ∈ cs, H p.2 = some (.tbl #[])) → SqL (K w.params) H a (ns.map V.int) → sp [.ref a] H (fun v _ => v = .bl true) fun _ _ _ => False) ∧
        ∀ base : Heap, (K w.params).In base → base.Ns mainGlobals mg → (∀ p ∈ cs, TabB base mg p.1 p.2) → FnOk l.prog w (K w.params) mg base CX0 k fa fd [x] sp) :
    WalkO q loose XP (kmHook K as e ts).says l.row.toRowW d [] (fun f vs => PySem.call f vs) := by
  refine walk_ofTs (n := n) (k := k) (x := x) (CX := fun _ => CX0) hn hn2 hdf hr (fun w h Y => km_in_of Y) (fun w mg fa h Y KX G hm => ?_) (fun _ _ _ _ _ z => z)
  obtain ⟨fd, cs, sp, h1, h2, h3, h4, h5⟩ := F w mg fa h KX G hm
  refine ⟨fd, cs, sp, fun p hp => km_tabs_of Y p.2 (h1 p hp).1, fun p hp => look_none ?_, fun p hp => codeHd_of_K KX (h2 p hp), h3, h4, h5⟩
  rw [← e w.params]
  exact (h1 p hp).2
theorem kit_blt {K : PySem.W.Frag} {D : Addr} {T : String} {b : Bool} (hm : PySem.W.kitMeta T = true) (h : PySem.W.subIn K (.ref D) (.type T) = some b) : PySem.W.kitOne K (.ref D) (.type T) = some b := by
  unfold PySem.W.kitOne
  rw [if_neg (by intro z; cases z)]
  show (if PySem.W.kitMeta T = true then PySem.W.subIn K (.ref D) (.type T) else none) = _
  rw [if_pos hm]
  exact h
/-- a value of a built-in kind, or a ratio -/
def Ob (K : PySem.W.Frag) (C : Addr) (H : Hp) (v : V) : Prop := (∃ S, Kd K H v S) ∨ ∃ p q, IsR C H v p q
section
variable {K : PySem.W.Frag} {C : Addr} {H H' : Hp} {v : V} {S : String}
theorem tyx_up {t : Value} (h : TyX K H v t) (g : Gr H H') : TyX K H' v t := by
  cases h with
  | base b =>
    refine .base ?_
    cases b with
    | non => exact .non
    | bl x => exact .bl x
    | int x => exact .int x
    | str x => exact .str x
    | flt x => exact .flt x
    | lst e => exact .lst (g _ _ e)
    | frz e => exact .frz (g _ _ e)
    | tup e => exact .tup (g _ _ e)
    | dK e => exact .dK (g _ _ e)
    | dT e => exact .dT (g _ _ e)
    | ins e c1 c2 c3 c4 c5 => exact .ins (g _ _ e) c1 c2 c3 c4 c5
  | byt b => exact .byt b
  | set e => exact .set (g _ _ e)
  | kList e c => exact .kList e c
  | kTuple e c => exact .kTuple e c
  | kDict e c => exact .kDict e c
  | fTuple e => exact .fTuple (g _ _ e)
  | fDict e => exact .fDict (g _ _ e)
theorem Kd.up (h : Kd K H v S) (g : Gr H H') : Kd K H' v S := ⟨tyx_up h.1 g, h.2⟩
theorem Ob.up (h : Ob K C H v) (g : Gr H H') : Ob K C H' v := by
  rcases h with ⟨S, h⟩ | ⟨p, q, h⟩
  · exact .inl ⟨S, h.up g⟩
  · exact .inr ⟨p, q, h.up g⟩
end
end U

/-! U14: which texts are those of integers and of ratios. -/
namespace U
open PySem PySem.Spec PyProof.Rows L2
open NumText
theorem cut_from (z : Str) (k : Nat) : (cutS z (some (k : Int)) none).cps.toList = z.cps.toList.drop k := by
  have hl : z.length = z.cps.toList.length := by simp [Str.length]
  unfold cutS HT.sIx
  simp only [hl]
  rw [if_neg (by omega)]
  by_cases h : k ≤ z.cps.toList.length
  · rw [show min (k : Int).toNat z.cps.toList.length = k by omega]
    rw [List.take_of_length_le (by rw [List.length_drop]; omega)]
  · rw [show min (k : Int).toNat z.cps.toList.length = z.cps.toList.length by omega]
    rw [List.drop_eq_nil_of_le (Nat.le_refl _), List.drop_eq_nil_of_le (by omega)]
    simp
theorem cut_to (z : Str) (k : Nat) : (cutS z none (some (k : Int))).cps.toList = z.cps.toList.take k := by
  have hl : z.length = z.cps.toList.length := by simp [Str.length]
  unfold cutS HT.sIx
  simp only [hl]
  rw [if_neg (by omega)]
  by_cases h : k ≤ z.cps.toList.length
  · rw [show min (k : Int).toNat z.cps.toList.length = k by omega]
    simp
  · rw [show min (k : Int).toNat z.cps.toList.length = z.cps.toList.length by omega]
    have e1 : z.cps.toList.take k = z.cps.toList := List.take_of_length_le (by omega)
    rw [e1, List.drop_zero, Nat.sub_zero, List.take_length]
theorem canon (l : List Nat) : (∀ c ∈ l, 48 ≤ c ∧ c ≤ 57) → l ≠ [] → l.head? ≠ some 48 → TL.numL (digitsVal l) = l := by
  induction h : l.length generalizing l with
  | zero => intro _ n _; exact absurd (List.length_eq_zero_iff.mp h) n
  | succ k ih =>
    intro hd hn hh
    obtain ⟨r, c, rfl⟩ : ∃ r c, l = r ++ [c] := ⟨l.dropLast, l.getLast hn, (List.dropLast_concat_getLast hn).symm⟩
    have hc := hd c (by simp)
    have ed : digitsVal (r ++ [c]) = digitsVal r * 10 + (c - 48) := by
      unfold digitsVal
      rw [List.foldl_append]
      rfl
    rw [ed]
    by_cases e : r = []
    · subst e
      have e0 : digitsVal [] = 0 := rfl
      rw [e0, TL.numL_lt (by omega), show 48 + (0 * 10 + (c - 48)) = c by omega]
      rfl
    · have hr : r.head? ≠ some 48 := by
        intro z
        apply hh
        rw [List.head?_append, z]
        rfl
      have ih := ih r (by simp at h; exact h) (fun d hdm => hd d (by simp [hdm])) e hr
      have h1 : digitsVal r ≠ 0 := by
        intro z
        rw [z, TL.numL_lt (by decide)] at ih
        rw [← ih] at hr
        exact hr rfl
      rw [TL.numL_step (by omega), show (digitsVal r * 10 + (c - 48)) / 10 = digitsVal r by omega, ih, show 48 + (digitsVal r * 10 + (c - 48)) % 10 = c by omega]
theorem numL_head (n : Nat) : n ≠ 0 → (TL.numL n).head? ≠ some 48 := by
  induction n using Nat.strongRecOn with
  | _ n ih =>
    intro h0
    by_cases h : n < 10
    · rw [TL.numL_lt h]
      intro z
      have := Option.some.inj z
      omega
    · rw [TL.numL_step (by omega)]
      have := ih (n / 10) (by omega) (by omega)
      intro z
      apply this
      rw [List.head?_append] at z
      rcases e : TL.numL (n / 10) with _ | ⟨c, r⟩
      · exact absurd e (TL.numL_ne _)
      · rw [e] at z
        exact z
/-- the text of an integer of at most sixty figures -/
def numB (x : Str) : Prop := Figs (behind x.cps.toList) ∧ (behind x.cps.toList).length ≤ 60 ∧ ((behind x.cps.toList = [48] ∧ x.cps.toList = [48]) ∨ (behind x.cps.toList).head? ≠ some 48)
theorem numB_iff (x : Str) : numB x ↔ ∃ n, IsNum x n := by
  constructor
  · rintro ⟨⟨f1, f2⟩, f3, f4⟩
    have up : digitsVal (behind x.cps.toList) < 10 ^ 60 := Nat.lt_of_lt_of_le (digitsVal_lt f1) (Nat.pow_le_pow_right (by decide) f3)
    rcases e : x.cps.toList with _ | ⟨c, r⟩
    · rw [e] at f2; exact absurd rfl f2
    · by_cases h45 : c = 45
      · subst h45
        rw [e] at f1 f2 f3 f4 up
        have hh : r.head? ≠ some 48 := by
          rcases f4 with ⟨_, z⟩ | z
          · cases z
          · exact z
        have ec := canon r f1 f2 hh
        have h1 : digitsVal r ≠ 0 := fun z => by
          rw [z, TL.numL_lt (by decide)] at ec
          rw [← ec] at hh
          exact hh rfl
        refine ⟨-(digitsVal r : Int), by rw [Int.natAbs_neg, Int.natAbs_natCast]; exact up, str_ext ?_⟩
        rw [e, num_list, if_pos (by omega), Int.natAbs_neg, Int.natAbs_natCast]
        show 45 :: r = [45] ++ TL.numL (digitsVal r)
        rw [ec]
        rfl
      · have eb : behind (c :: r) = c :: r := by
          unfold behind
          split
          · rename_i heq; cases heq; exact absurd rfl h45
          · rfl
        rw [e, eb] at f1 f2 f3 f4 up
        refine ⟨(digitsVal (c :: r) : Int), by rw [Int.natAbs_natCast]; exact up, str_ext ?_⟩
        rw [e, num_list, if_neg (by omega), Int.natAbs_natCast, List.nil_append]
        show c :: r = TL.numL (digitsVal (c :: r))
        rcases f4 with ⟨z, _⟩ | z
        · rw [z]; decide
        · exact (canon _ f1 f2 z).symm
  · rintro ⟨n, h1, rfl⟩
    obtain ⟨f, g⟩ := num_figs n
    refine ⟨f, ?_, ?_⟩
    · rw [g, List.length_map]
      exact (Nat.length_toDigits_le_iff (b := 10) (n := n.natAbs) (k := 60) (by decide) (by decide)).mpr h1
    · by_cases h0 : n = 0
      · subst h0; exact .inl ⟨by decide, by decide⟩
      · right
        rw [g]
        exact numL_head _ (by omega)
/-- a text of plain signs -/
def Asc (x : Str) : Prop := ∀ c ∈ x.cps.toList, c < 128
theorem Asc.app {x y : Str} (h : Asc x) (k : Asc y) : Asc (x ++ y) := fun c hc => by
  rw [app_list] at hc
  rcases List.mem_append.mp hc with z | z
  · exact h c z
  · exact k c z
theorem Asc.sub {x y : Str} (h : Asc x) (k : ∀ c ∈ y.cps.toList, c ∈ x.cps.toList) : Asc y := fun c hc => h c (k c hc)
def txs (l : List Str) : List PyData := l.map PyData.str
theorem dp_txs {K : PySem.W.Frag} {H : Hp} : ∀ l : List Str, DpAll K H (l.map V.str) (txs l)
  | [] => .nil
  | _ :: r => .cons (.str _) (dp_txs r)
theorem lay_txs : ∀ l : List Str, (∀ z ∈ l, Asc z) → PyData.canLayAll0 (txs l) = true ∧ PyData.depthAll (txs l) ≤ 1
  | [], _ => ⟨rfl, by decide⟩
  | x :: r, h => by
    obtain ⟨a, b⟩ := lay_txs r fun z hz => h z (List.mem_cons_of_mem _ hz)
    have hx : PyData.canLay0 (.str x) = true := by
      show x.cps.all (· < 0x110000) = true
      rw [Array.all_eq_true_iff_forall_mem]
      intro c hc
      have := h x (List.mem_cons_self ..) c (Array.mem_toList_iff.mpr hc)
      exact decide_eq_true (by omega)
    refine ⟨?_, ?_⟩
    · show (PyData.canLay0 (.str x) && PyData.canLayAll0 (txs r)) = true
      rw [hx, a]
      rfl
    · show max (PyData.depth (.str x)) (PyData.depthAll (txs r)) ≤ 1
      have e : PyData.depth (.str x) = 0 := rfl
      omega
theorem shaped_txs {l : List Str} (h : ∀ z ∈ l, Asc z) : SeqAt.shaped (.list (txs l)) = true := by
  obtain ⟨a, b⟩ := lay_txs l h
  show (PyData.canLayAll0 (txs l) && decide (PyData.depthAll (txs l) + 1 ≤ 64)) = true
  rw [a, decide_eq_true (by omega)]
  rfl
theorem eqv_txs_nil (l : List Str) : PyData.eqv (.list (txs l)) (.list []) = decide (l = []) := by
  cases l with
  | nil => rfl
  | cons x r => rw [decide_eq_false (by simp)]; rfl
theorem cut_all : ∀ (n : Nat) (x : Str), x.length ≤ n → ∃ parts : List Str, parts ≠ [] ∧ (∀ z ∈ parts, 47 ∉ z.cps.toList ∧ (∀ c ∈ z.cps.toList, c ∈ x.cps.toList) ∧ z.length ≤ x.length) ∧ Txt.join (Str.ofString "/") parts = x
  | n, x, h => by
    have e47 : (Str.ofString "/").cps.toList = [47] := by decide
    have l47 : (Str.ofString "/").length = 1 := by decide
    rcases cut_slash x with ⟨hs, _⟩ | ⟨a, b, hs, ex, _⟩
    · refine ⟨[x], by simp, fun z hz => ?_, ?_⟩
      · obtain rfl := List.mem_singleton.mp hz
        exact ⟨hs, fun c hc => hc, Nat.le_refl _⟩
      · rw [TL.join_eq]; rfl
    · have hx : x.length = a.length + 1 + b.length := by rw [ex, app_len, app_len, l47]
      match n, h with
      | 0, h => omega
      | m + 1, h =>
        obtain ⟨ps, p1, p2, p3⟩ := cut_all m b (by omega)
        have sub : ∀ c, (c ∈ a.cps.toList ∨ c ∈ b.cps.toList) → c ∈ x.cps.toList := fun c hc => by
          rw [ex, app_list, app_list]
          rcases hc with hc | hc
          · exact List.mem_append_left _ (List.mem_append_left _ hc)
          · exact List.mem_append_right _ hc
        refine ⟨a :: ps, by simp, fun z hz => ?_, ?_⟩
        · rcases List.mem_cons.mp hz with rfl | hz
          · exact ⟨hs, fun c hc => sub c (.inl hc), by omega⟩
          · obtain ⟨z1, z2, z3⟩ := p2 z hz
            exact ⟨z1, fun c hc => sub c (.inr (z2 c hc)), by omega⟩
        · rw [TL.join_eq] at p3 ⊢
          cases ps with
          | nil => exact absurd rfl p1
          | cons z r =>
            show a ++ Str.ofString "/" ++ Str.join (Str.ofString "/") (z :: r) = x
            rw [p3, ex]
/-- a text split at its signs / -/
theorem split_slash (x : Str) : ∃ parts : List Str, Txt.split x (Str.ofString "/") = parts ∧ parts.length ≤ x.length + 2 ∧ (∀ z ∈ parts, (∀ c ∈ z.cps.toList, c ∈ x.cps.toList) ∧ z.length ≤ x.length) ∧
    ((parts = [x] ∧ 47 ∉ x.cps.toList) ∨ (∃ a b, parts = [a, b] ∧ x = a ++ Str.ofString "/" ++ b ∧ 47 ∉ a.cps.toList ∧ 47 ∉ b.cps.toList) ∨ (2 < parts.length ∧ ∃ a b, x = a ++ Str.ofString "/" ++ b ∧ 47 ∉ a.cps.toList ∧ 47 ∈ b.cps.toList)) := by
  obtain ⟨ps, p1, p2, p3⟩ := cut_all x.length x (Nat.le_refl _)
  have ey : TL.tl (Str.ofString "/") = 47 :: [] := by decide
  have e47 : (Str.ofString "/").cps.toList = [47] := by decide
  have sp := TL.split_join ey (by decide +kernel) p1 fun z hz => (p2 z hz).1
  rw [p3] at sp
  refine ⟨ps, sp, by rw [← sp]; exact PyProof.Rows.split_le _ _, fun z hz => (p2 z hz).2, ?_⟩
  rw [TL.join_eq] at p3
  match ps, p1, p2, p3 with
  | [], h, _, _ => exact absurd rfl h
  | [a], _, h2, h3 =>
    have h3' : a = x := h3
    subst h3'
    exact .inl ⟨rfl, (h2 a (List.mem_cons_self ..)).1⟩
  | [a, b], _, h2, h3 =>
    have h3' : a ++ Str.ofString "/" ++ b = x := h3
    exact .inr (.inl ⟨a, b, rfl, h3'.symm, (h2 a (by simp)).1, (h2 b (by simp)).1⟩)
  | a :: b :: c :: r, _, h2, h3 =>
    have h3' : a ++ Str.ofString "/" ++ (b ++ Str.ofString "/" ++ Str.join (Str.ofString "/") (c :: r)) = x := h3
    refine .inr (.inr ⟨by simp only [List.length_cons]; omega, a, _, h3'.symm, (h2 a (by simp)).1, ?_⟩)
    rw [app_list, app_list, e47]
    exact List.mem_append_left _ (List.mem_append_right _ (List.mem_cons_self ..))
/-- x is the text of the ratio p / q of at most sixty figures -/
def IsRat (x : Str) (p q : Int) : Prop := Low p q ∧ p.natAbs < 10 ^ 60 ∧ q.natAbs < 10 ^ 60 ∧ x = rtext p q
theorem rat_slash {p q : Int} {a b : Str} (ha : 47 ∉ a.cps.toList) (h : a ++ Str.ofString "/" ++ b = rtext p q) : q ≠ 1 ∧ a = Str.ofString (toString p) ∧ b = Str.ofString (toString q) := by
  unfold rtext at h
  by_cases e : q = 1
  · rw [if_pos e] at h
    exact absurd h.symm (cut_no (num_no47 p))
  · rw [if_neg e] at h
    exact ⟨e, cut_eq ha (num_no47 p) h⟩
theorem rat_plain {p q : Int} {x : Str} (hx : 47 ∉ x.cps.toList) (h : x = rtext p q) : q = 1 ∧ x = Str.ofString (toString p) := by
  unfold rtext at h
  by_cases e : q = 1
  · rw [if_pos e] at h; exact ⟨e, h⟩
  · rw [if_neg e] at h
    exact absurd h (cut_no hx)
theorem ratA {x : Str} {p q : Int} (hs : 47 ∉ x.cps.toList) (h : IsRat x p q) : q = 1 ∧ IsNum x p := by
  obtain ⟨e1, e2⟩ := rat_plain hs h.2.2.2
  exact ⟨e1, h.2.1, e2⟩
theorem ratB {x a b : Str} {p q : Int} (hs : 47 ∉ a.cps.toList) (ex : x = a ++ Str.ofString "/" ++ b) (h : IsRat x p q) : q ≠ 1 ∧ IsNum a p ∧ IsNum b q := by
  obtain ⟨e0, e1, e2⟩ := rat_slash hs (ex.symm.trans h.2.2.2)
  exact ⟨e0, ⟨h.2.1, e1⟩, ⟨h.2.2.1, e2⟩⟩
theorem num_uniq {x : Str} {m n : Int} (h1 : IsNum x m) (h2 : IsNum x n) : m = n := num_inj h1.1 h2.1 (h1.2.symm.trans h2.2)
theorem rat_inj {x : Str} {p q p' q' : Int} (h1 : IsRat x p q) (h2 : IsRat x p' q') : p = p' ∧ q = q' := by
  rcases cut_slash x with ⟨hs, _⟩ | ⟨a, b, hs, ex, _⟩
  · obtain ⟨a1, a2⟩ := ratA hs h1
    obtain ⟨b1, b2⟩ := ratA hs h2
    exact ⟨num_uniq a2 b2, by rw [a1, b1]⟩
  · obtain ⟨_, a1, a2⟩ := ratB hs ex h1
    obtain ⟨_, b1, b2⟩ := ratB hs ex h2
    exact ⟨num_uniq a1 b1, num_uniq a2 b2⟩
theorem low_self {p q : Int} (h : Low p q) : p / gcdI p q = p ∧ q / gcdI p q = q := (Val.of h.pos).inj (Val.self h) rfl
theorem slash_len : (Str.ofString "/").length = 1 := by decide
theorem empty_len : Str.empty.length = 0 := by decide
theorem nt {p : Prop} [Decidable p] (h : (!decide p) = true) : ¬ p := by simpa using h
theorem nf {p : Prop} [Decidable p] (h : (!decide p) = false) : p := by simpa using h
theorem low_one (n : Int) : Low n 1 := by
  have h0 := gcdI_pos (a := n) (b := 1) (by decide)
  have h1 := gcdI_le (a := n) (b := 1) (by decide)
  have e : gcdI n 1 = 1 := by omega
  have := (low_of (a := n) (b := 1) (by decide)).1
  rw [e] at this
  simpa using this
end U

/-! U15: a list, a tuple or a dict beside a text: they differ. -/
namespace U
open PySem PySem.Spec PyProof.Rows L2 PySem.SeqAt
open AutoSeq1 (wpAny_loadPart')
theorem dict_other (l : Addr) (z : Str) (k : Tok) (dd : Option Addr) (es : Array DictEntry) (ep : Nat) (sl : Array (Option Value)) :
    Meets (Builtin.«dict.__ne__» ⟨[.ref l, .str z k], []⟩)
      (fun _ R s => s.heap.get? l = some { cls := .type "dict", dict := dd, data := .dict es ep, slots := sl } ∧ R (.ok (.ret .notImplemented)) s) :=
  .of_wp fun prog w A R s h => by
    obtain ⟨hp, g, d, tk, os⟩ := s
    obtain ⟨hl, h⟩ := h
    have f1 := F.sub_str_dict
    wp_walk using wpAny_loadPart' hl, wpAny_load hl
    exact ⟨_, rfl, h⟩
theorem str_other (l : Addr) (z : Str) (k : Tok) (dd : Option Addr) (es : Array DictEntry) (ep : Nat) (sl : Array (Option Value)) :
    Meets (Builtin.«str.__ne__» ⟨[.str z k, .ref l], []⟩)
      (fun _ R s => s.heap.get? l = some { cls := .type "dict", dict := dd, data := .dict es ep, slots := sl } ∧ R (.ok (.ret .notImplemented)) s) :=
  .of_wp fun prog w A R s h => by
    obtain ⟨hp, g, d, tk, os⟩ := s
    obtain ⟨hl, h⟩ := h
    wp_walk using wpAny_loadPart' hl, wpAny_load hl
    exact ⟨_, rfl, h⟩
section
variable {X : Cx}
/-- x != a text, x a list, a tuple or a dict -/
def uNeS : R2 := fun x y H Q => ∃ (a : Addr) (z : Str), x = .ref a ∧ y = .str z ∧ ((∃ xs, H a = some (.lst xs)) ∨ (∃ xs, H a = some (.tup xs)) ∨ ∃ kvs, H a = some (.dK kvs)) ∧ Q (.bl true) H
theorem opNeS (hu : X.A.units + 64 < cLine) : OpR X (compareOp .NotEq) uNeS := fun p s σ H x y v u Q I rx ry h => by
  obtain ⟨a, z, rfl, rfl, hk, q⟩ := h
  obtain rfl : v = Value.ref a := rx
  obtain ⟨k, rfl⟩ : ∃ k, u = Value.str z k := ry
  have room : X.A.units < cLine := by omega
  have fin : EP X p σ Q (.bool true) s := ⟨.bl true, H, I, rfl, q⟩
  rcases hk with ⟨xs, e⟩ | ⟨xs, e⟩ | ⟨kvs, e⟩
  · obtain ⟨its, _, hl, _⟩ := I.list (SqL.of e)
    exact RcNeAt.list_str z k hl.isList room X.prog X.w X.xe _ fin
  · obtain ⟨its, _, hl, _⟩ := I.tuple (SqT.of e)
    exact RcNeAt.tuple_str z k hl room X.prog X.w X.xe _ fin
  · obtain ⟨_, _, vs, _, D⟩ := (show ObjOk X.prog X.w H s.heap a (.dK kvs) from I.hok a _ e)
    obtain ⟨o, es, ep, ho, ⟨c1, c2, c3⟩, hd, _⟩ := D
    obtain ⟨cls, dd, data, sl⟩ := o
    simp only at c1 c2 c3 hd
    subst c1 c2 c3 hd
    show wpAny _ _ (richCompare .NotEq (.ref a) (.str z k)) _ _ s
    refine rc_ne_decline_or (k := false) (Ta := "dict") (Tb := "str") ⟨_, ho, rfl⟩ (typeIs_str s z k) (by decide) F.sub_str_dict F.slot_dict_ne F.slot_str_ne_refl ?_ ?_ ?_ (.inr room) fin
    · intro R hR
      exact call_meets F.slot_dict_ne ⟨_, ho, rfl⟩ F.entry_dict_ne (F.args_dict_ne_2 _ _) (dict_other a z k _ es ep _) ⟨ho, hR⟩
    · intro R hR
      exact call_meets F.slot_str_ne_refl (typeIs_str s z k) F.entry_str_ne (F.args_str_ne_2 _ _) (str_other a z k _ es ep _) ⟨ho, hR⟩
    · intro R hR
      exact wpAny_of_eq (rfl : isSame (.ref a) (.str z k) = pure false) hR
/-- a value of any kind beside a text -/
@[irreducible] def uNeT (K : PySem.W.Frag) : R2 := fun x y H Q => match scal x y with | true => Q (.bl (!decide (x = y))) H | false => uNeS x y H Q
theorem opNeT (hu : X.A.units + 64 < cLine) : OpR X (compareOp .NotEq) (uNeT X.K) := fun p s z H x y v u Q I rx ry h => by
  unfold uNeT at h
  split at h
  · exact op_ne p s z H _ _ v u Q I rx ry ⟨by assumption, h⟩
  · exact opNeS hu p s z H _ _ v u Q I rx ry h
theorem neT_str {K : PySem.W.Frag} {a b : Str} {H : Hp} {R : VK} (k : R (.bl (!decide (V.str a = V.str b))) H) : uNeT K (.str a) (.str b) H R := by
  unfold uNeT
  exact k
theorem neT_flat {K : PySem.W.Frag} {v : V} {b : Str} {H : Hp} {R : VK} (h : scal v (.str b) = true) (k : R (.bl (!decide (v = V.str b))) H) : uNeT K v (.str b) H R := by
  unfold uNeT
  rw [h]
  exact k
theorem neT_ref {K : PySem.W.Frag} {a : Addr} {b : Str} {H : Hp} {R : VK} (h : (∃ xs, H a = some (.lst xs)) ∨ (∃ xs, H a = some (.tup xs)) ∨ ∃ kvs, H a = some (.dK kvs)) (k : R (.bl true) H) : uNeT K (.ref a) (.str b) H R := by
  unfold uNeT
  exact ⟨a, b, rfl, rfl, h, k⟩
end
/-- all but the tables and the object at d stay -/
def Kp (d : Addr) (H H' : Hp) : Prop := ∀ b u, H b = some u → (∀ ps, u ≠ .tbl ps) → b ≠ d → H' b = some u
section
variable {K : PySem.W.Frag} {C d : Addr} {H H' H2 : Hp} {v : V} {S : String} {p q : Int} {n : Nat} {o : HO}
theorem Kp.refl (d : Addr) (H : Hp) : Kp d H H := fun _ _ e _ _ => e
theorem Kp.trans (a : Kp d H H') (b : Kp d H' H2) : Kp d H H2 := fun c u e t n => b c u (a c u e t n) t n
theorem Kp.of (g : Gr H H') : Kp d H H' := fun b u e _ _ => g b u e
theorem Kp.dice (f : ∀ b u, H b = some u → b ≠ d → H' b = some u) : Kp d H H' := fun b u e _ n => f b u e n
theorem Kp.ext (f : LamX.ExtN H H') : Kp d H H' := fun b u e t _ => f b u e t
theorem dice_ne (hd : H d = some o) (D : Dice n o) {b : Addr} {C dx : Addr} {fs : List (Str × V)} (e : H b = some (.ins C dx fs)) : b ≠ d := fun z => by
  obtain ⟨a1, a2, a3, rfl, _⟩ := D
  rw [z, hd] at e
  cases e
theorem tup_ne (hd : H d = some o) (D : Dice n o) {b : Addr} {xs : List V} (e : H b = some (.tup xs)) : b ≠ d := fun z => by
  obtain ⟨a1, a2, a3, rfl, _⟩ := D
  rw [z, hd] at e
  cases e
theorem IsR.kp (r : IsR C H v p q) (k : Kp d H H') (hd : H d = some o) (D : Dice n o) : IsR C H' v p q := by
  obtain ⟨a, dx, e, h⟩ := r
  exact ⟨a, dx, e, k _ _ h (fun ps z => by cases z) (dice_ne hd D h)⟩
theorem tyx_kp {t : Value} (h : TyX K H v t) (k : Kp d H H') (ne : v ≠ .ref d) : TyX K H' v t := by
  have go : ∀ {a : Addr} {u : HO}, v = .ref a → H a = some u → (∀ ps, u ≠ .tbl ps) → H' a = some u := fun {a u} ev e t => k a u e t fun z => ne (by rw [ev, z])
  cases h with
  | base b =>
    refine .base ?_
    cases b with
    | non => exact .non
    | bl x => exact .bl x
    | int x => exact .int x
    | str x => exact .str x
    | flt x => exact .flt x
    | lst e => exact .lst (go rfl e (fun _ z => by cases z))
    | frz e => exact .frz (go rfl e (fun _ z => by cases z))
    | tup e => exact .tup (go rfl e (fun _ z => by cases z))
    | dK e => exact .dK (go rfl e (fun _ z => by cases z))
    | dT e => exact .dT (go rfl e (fun _ z => by cases z))
    | ins e c1 c2 c3 c4 c5 => exact .ins (go rfl e (fun _ z => by cases z)) c1 c2 c3 c4 c5
  | byt b => exact .byt b
  | set e => exact .set (go rfl e (fun _ z => by cases z))
  | kList e c => exact .kList e c
  | kTuple e c => exact .kTuple e c
  | kDict e c => exact .kDict e c
  | fTuple e => exact .fTuple (go rfl e (fun _ z => by cases z))
  | fDict e => exact .fDict (go rfl e (fun _ z => by cases z))
theorem Kd.kp (h : Kd K H v S) (k : Kp d H H') (ne : v ≠ .ref d) : Kd K H' v S := ⟨tyx_kp h.1 k ne, h.2⟩
theorem Ob.kp (h : Ob K C H v) (k : Kp d H H') (ne : v ≠ .ref d) (hd : H d = some o) (D : Dice n o) : Ob K C H' v := by
  rcases h with ⟨S, h⟩ | ⟨p, q, h⟩
  · exact .inl ⟨S, h.kp k ne⟩
  · exact .inr ⟨p, q, h.kp k hd D⟩
theorem tabs_dice {T : List (Addr × Str)} (t : LamX.Tabs T H) (f : ∀ b u, H b = some u → b ≠ d → H' b = some u) (hd : H d = some o) (D : Dice n o) : LamX.Tabs T H' := fun p hp => by
  obtain ⟨ps, h1, h2, h3⟩ := t p hp
  have ne : p.1 ≠ d := fun z => by
    obtain ⟨a1, a2, a3, rfl, _⟩ := D
    rw [z, hd] at h1
    cases h1
  refine ⟨ps, f _ _ h1 ne, h2, fun pos cv hc => ?_⟩
  obtain ⟨c, e1, e2⟩ := h3 pos cv hc
  refine ⟨c, e1, f _ _ e2 fun z => ?_⟩
  obtain ⟨a1, a2, a3, rfl, _⟩ := D
  rw [z, hd] at e2
  have e3 := Option.some.inj e2
  unfold LamX.CodeO at e3
  cases e3
end
/-- on the way: what stood at A stands, the dice d, a list at l that grows, and the tables -/
structure Way (T : List (Addr × Str)) (d l : Addr) (o : HO) (A : Hp) (H : Hp) (L : List V) : Prop where
  kp : Kp d A H
  dd : H d = some o
  tb : LamX.Tabs T H
  ll : H l = some (.lst L)
section
variable {T : List (Addr × Str)} {d l : Addr} {o : HO} {A H H' : Hp} {L : List V} {n : Nat}
theorem dice_no_tbl (D : Dice n o) : ∀ ps, o ≠ .tbl ps := fun ps z => by
  obtain ⟨_, _, _, rfl, _⟩ := D
  cases z
theorem Way.lam (s : Way T d l o A H L) (D : Dice n o) (x : LamX.ExtN H H') (t : LamX.Tabs T H') : Way T d l o A H' L := ⟨s.kp.trans (Kp.ext x), x _ _ s.dd (dice_no_tbl D), t, x _ _ s.ll (fun _ z => by cases z)⟩
theorem Way.gr (s : Way T d l o A H L) (g : Gr H H') : Way T d l o A H' L := ⟨s.kp.trans (Kp.of g), g _ _ s.dd, s.tb.ext g, g _ _ s.ll⟩
theorem tabs_set {M L' : List V} (t : LamX.Tabs T H) (e : H l = some (.lst M)) : LamX.Tabs T (upd H l (.lst L')) := fun p hp => by
  obtain ⟨ps, h1, h2, h3⟩ := t p hp
  have n1 : p.1 ≠ l := fun z => by rw [z, e] at h1; cases h1
  refine ⟨ps, by rw [upd_ne n1]; exact h1, h2, fun pos cv hc => ?_⟩
  obtain ⟨c, e1, e2⟩ := h3 pos cv hc
  refine ⟨c, e1, ?_⟩
  have n2 : c ≠ l := fun z => by
    rw [z, e] at e2
    have e3 := Option.some.inj e2
    unfold LamX.CodeO at e3
    cases e3
  rw [upd_ne n2]
  exact e2
theorem Way.set (s : Way T d l o A H L) (h : A l = none) (n : l ≠ d) (L' : List V) : Way T d l o A (upd H l (.lst L')) L' := by
  refine ⟨fun b u e t nb => ?_, ?_, tabs_set s.tb s.ll, upd_same⟩
  · rw [upd_ne (ne_of_none e h)]
    exact s.kp b u e t nb
  · rw [upd_ne (fun z => n z.symm)]
    exact s.dd
theorem Way.app (s : Way T d l o A H L) (h : A l = none) (n : l ≠ d) (y : V) : Way T d l o A (upd H l (.lst (L ++ [y]))) (L ++ [y]) := s.set h n _
/-- one more object is known to stand -/
theorem Way.more (s : Way T d l o A H L) (h : A l = none) {t : Addr} {u : HO} (ht : H t = some u) (nt : ∀ ps, u ≠ .tbl ps) (nl : t ≠ l) : ∃ A' : Hp, A' l = none ∧ A' t = some u ∧ Kp d A A' ∧ Way T d l o A' H L := by
  refine ⟨fun b => if b = t then some u else A b, ?_, if_pos rfl, fun b w e tb nb => ?_, ⟨fun b w e tb nb => ?_, s.dd, s.tb, s.ll⟩⟩
  · show (if l = t then _ else _) = _
    rw [if_neg (fun z => nl z.symm)]
    exact h
  · show (if b = t then _ else _) = _
    by_cases hb : b = t
    · rw [if_pos hb, ← ht, ← hb]
      exact s.kp b w e tb nb
    · rw [if_neg hb]
      exact e
  · by_cases hb : b = t
    · have e' : some u = some w := (if_pos hb).symm.trans e
      rw [hb, ht, e']
    · exact s.kp b w ((if_neg hb).symm.trans e) tb nb
theorem Way.start (g : Gr A H) (hd : A d = some o) (t : LamX.Tabs T A) (e : H l = some (.lst L)) : Way T d l o A H L := ⟨Kp.of g, g _ _ hd, t.ext g, e⟩
end
theorem asc_num (n : Int) : Asc (Str.ofString (toString n)) := fun c hc => by
  rw [num_list] at hc
  rcases List.mem_append.mp hc with h | h
  · by_cases q : n < 0
    · rw [if_pos q] at h
      obtain rfl := List.mem_singleton.mp h
      decide
    · rw [if_neg q] at h; cases h
  · have := digits_are _ c h
    omega
theorem asc_rtext (p q : Int) : Asc (rtext p q) := by
  unfold rtext
  split
  · exact asc_num p
  · refine ((asc_num p).app ?_).app (asc_num q)
    intro c hc
    rw [show (Str.ofString "/").cps.toList = [47] by decide] at hc
    obtain rfl := List.mem_singleton.mp hc
    decide
theorem len_rtext {p q : Int} (hp : p.natAbs < 10 ^ 60) (hq : q.natAbs < 10 ^ 60) : (rtext p q).length ≤ 201 := by
  have h1 := num_short hp
  have h2 := num_short hq
  unfold rtext
  split
  · omega
  · rw [app_len, app_len, slash_len]
    omega
theorem sql_ext {K : PySem.W.Frag} {H H' : Hp} {a : Addr} {xs : List V} (h : SqL K H a xs) (x : LamX.ExtN H H') : SqL K H' a xs := by
  rcases h with (h | ⟨o, h⟩) | h
  · exact .inl (.inl (x _ _ h (fun _ z => by cases z)))
  · exact .inl (.inr ⟨o, x _ _ h (fun _ z => by cases z)⟩)
  · exact .inr h
instance (l : List Nat) : Decidable (Figs l) := by unfold Figs; infer_instance
instance (x : Str) : Decidable (numB x) := by unfold numB; infer_instance
theorem rat_no1 {x : Str} (h : 47 ∉ x.cps.toList) (n : ¬ numB x) (p q : Int) : ¬ IsRat x p q := fun hr => n ((numB_iff _).mpr ⟨_, (ratA h hr).2⟩)
theorem rat_no2 {x a b : Str} (e : x = a ++ Str.ofString "/" ++ b) (h : 47 ∉ a.cps.toList) (n : ¬ numB a ∨ ¬ numB b) (p q : Int) : ¬ IsRat x p q := fun hr => by
  obtain ⟨_, h1, h2⟩ := ratB h e hr
  rcases n with n | n
  · exact n ((numB_iff _).mpr ⟨_, h1⟩)
  · exact n ((numB_iff _).mpr ⟨_, h2⟩)
theorem rat_no3 {x : Str} {n m : Int} (e : x = Str.ofString (toString n) ++ Str.ofString "/" ++ Str.ofString (toString m)) (hn : n.natAbs < 10 ^ 60) (hm : m.natAbs < 10 ^ 60) (no : m = 1 ∨ m ≤ 0 ∨ Nat.gcd n.natAbs m.natAbs ≠ 1) (p q : Int) : ¬ IsRat x p q := fun hr => by
  obtain ⟨h0, h1, h2⟩ := ratB (num_no47 n) e hr
  obtain rfl := num_uniq h1 ⟨hn, rfl⟩
  obtain rfl := num_uniq h2 ⟨hm, rfl⟩
  have := hr.1.pos
  rcases no with z | z | z
  · exact h0 z
  · omega
  · exact z hr.1.one
end U

/-! U16: binary texts, least common multiples. -/
namespace U
open PySem PySem.Spec PyProof.Rows L2 PySem.Builtin PySem.Builtin.Str PySem.Builtin.Int PySem.Builtin.Float
/-- the binary text of a number -/
def biT (n : Nat) : Str := ⟨((Nat.toDigits 2 n).map Char.toNat).toArray⟩
def specB : FormatSpec := { align := 62, type := some 98 }
theorem parse_b : parseFormatSpec (Str.ofString "b").cps.toList "int" 62 = .ok specB := by rfl
section
variable {prog : Program} {w : World} {A : Around} {E : Value → Shared → Prop} {s : Shared}
theorem field_b {n : Nat} {k : Tok} {Q : Value → Shared → Prop} (hl : (biT n).length ≤ 1000000) (h : Q (.str (biT n) (s.toks + 1)) { s with toks := s.toks + 1 + 1 }) : wpAny (model prog w) A (formatField (.int (n : Int) k) (Str.ofString "b")) Q E s := by
  have big : (biT n).length ≤ sizeLine := small_ok hl
  show wpAny _ _ (holding [.int (n : Int) k] (pyFormat (.int (n : Int) k) (Str.ofString "b"))) Q E s
  refine wpAny_holding ?_
  unfold pyFormat
  refine wpAny_bind (wpAny_mkStr ?_ (by decide))
  refine wpAny_bind (m := callSpecial? (.int (n : Int) k) (Str.ofString "__format__") [.str (Str.ofString "b") s.toks])
    (wpAny_callSpecial?_slot (name := Str.ofString "__format__") (typeIs_int _ (n : Int) k) F.slot_int_format ?_)
  refine wpAny_call (codeAny_call_builtin F.slot_int_format.plain F.entry_int_format (F.slot_int_format.check _ _ _ _ _ _ _ _ (typeIs_int _ (n : Int) k) (F.args_int_format_2 _ _) ?_))
  unfold Builtin.«int.__format__»
  simp only [selfAndOne, noKeywords, intOfSelf, asInt?, asStr?, List.isEmpty_nil, if_true, pure_bind, bind_pure, bind_assoc, Bool.false_eq_true, if_false, show (Value.str (Str.ofString "b") s.toks == Value.none) = false from rfl, show ((Str.ofString "b").length == 0) = false from rfl]
  refine wpAny_bind (wpAny_typeNameOf (T := "str") (typeIs_str _ _ _) (by decide) fun _ => ?_)
  rw [if_neg (by decide)]
  refine wpAny_bind (wpAny_typeNameOfCut_int ?_)
  simp only [parse_b]
  rw [if_pos (by decide)]
  suffices hh : ∀ y : Str, y = biT n → wpAny (model prog w) A.in1 (retStr y) _ _ _ from hh _ (by
    refine str_ext ?_
    have ne : (Nat.toDigits 2 n).map Char.toNat ≠ [] := fun z => Nat.toDigits_ne_nil (List.map_eq_nil_iff.mp z)
    rw [show decide ((n : Int) < 0) = false from decide_eq_false (by omega), show ((n : Int)).natAbs = n from Int.natAbs_natCast n]
    have eD : (biT n).cps.toList = (Nat.toDigits 2 n).map Char.toNat := by unfold biT; simp
    rw [eD]
    change (_ : Str).cps.toList = _
    generalize hD : (Nat.toDigits 2 n).map Char.toNat = D at ne ⊢
    cases D with
    | nil => exact absurd rfl ne
    | cons c r =>
      have e1 := hD
      change List.map (fun z : Char => (if (specB.type.getD (if ((Str.ofString "b").cps.back? == some 0) = true then 0 else 100) == 88) = true then z.toUpper else z).toNat) (Nat.toDigits 2 n) = c :: r at e1
      rw [e1]
      have p0 : ∀ m : Nat, ((-1 : Int) - 0 - (m : Int)).toNat = 0 := fun m => by omega
      show List.replicate (((-1 : Int) - 0 - ((List.replicate (0 - (c :: r).length) 48 ++ c :: r).length : Int)).toNat) 32 ++ [] ++ [] ++ [] ++ (List.replicate (0 - (c :: r).length) 48 ++ c :: r) ++ [] ++ [] = c :: r
      rw [p0, show 0 - (c :: r).length = 0 by omega]
      simp)
  intro y ey
  subst ey
  unfold retStr
  refine wpAny_bind (wpAny_mkStr (wpAny_pure ?_) big)
  dsimp only
  refine wpAny_bind (wpAny_isInstance (typeIs_str _ _ _) isSubtype_str_str (wpAny_pure ?_))
  exact h
end
section
variable {X : Cx}
/-- f"{e:b}" of a natural number -/
def tFmtB (te : TE) : TE := fun σ H Q => te σ H fun x H1 => ∃ n : Nat, x = .int (n : Int) ∧ (biT n).length ≤ 1000000 ∧ Q (.str (biT n)) H1
theorem pe_fmtB {e : Expr} {te : TE} {j p1 p2 p3} (he : PE X e te) : PE X (.FormattedValue e (-1) (some (.JoinedStr [.Constant (.str (Str.ofString "b")) j p1] p2)) p3) (tFmtB te) := by
  refine ⟨fun pins s σ H Q I h => ?_⟩
  refine wpAny_FormattedValue_spec (thn (he.run pins s σ H _ I h) fun v s1 hv => ?_)
  obtain ⟨x, H1, I1, r1, n, rfl, hl, q⟩ := hv
  obtain ⟨k, rfl⟩ := r1
  refine thn ((pe_joined1 (X := X) (pe_str (x := Str.ofString "b"))).run pins s1 σ H1 (fun y H2 => y = .str (Str.ofString "b") ∧ H2 = H1) I1 ⟨rfl, rfl⟩) fun r s2 hr => ?_
  obtain ⟨y, H2, I2, r2, rfl, rfl⟩ := hr
  obtain ⟨t, rfl⟩ := r2
  exact ⟨_, t, rfl, field_b hl ⟨.str (biT n), H2, I2.tok _, ⟨_, rfl⟩, q⟩⟩
end
/-- base raised by binary figures -/
def sqm (b : Nat) (cs : List Nat) : Nat := cs.foldl (fun r c => if c = 49 then r * r * b else r * r) 1
theorem sqm_snoc (b : Nat) (cs : List Nat) (c : Nat) : sqm b (cs ++ [c]) = if c = 49 then sqm b cs * sqm b cs * b else sqm b cs * sqm b cs := by
  unfold sqm; rw [List.foldl_append]; rfl
/-- the number of binary figures -/
def vl2 (cs : List Nat) : Nat := cs.foldl (fun r c => if c = 49 then 2 * r + 1 else 2 * r) 0
theorem vl2_snoc (cs : List Nat) (c : Nat) : vl2 (cs ++ [c]) = if c = 49 then 2 * vl2 cs + 1 else 2 * vl2 cs := by
  unfold vl2; rw [List.foldl_append]; rfl
theorem snoc_ind {P : List Nat → Prop} (h0 : P []) (h : ∀ xs c, P xs → P (xs ++ [c])) (xs : List Nat) : P xs := by
  have : ∀ l : List Nat, P l.reverse := fun l => by
    induction l with
    | nil => exact h0
    | cons a l ih => rw [List.reverse_cons]; exact h _ _ ih
  rw [← xs.reverse_reverse]
  exact this _
theorem vl2_le (xs : List Nat) : ∀ ys, vl2 xs ≤ vl2 (xs ++ ys) := by
  intro ys
  refine snoc_ind (P := fun ys => vl2 xs ≤ vl2 (xs ++ ys)) (by simp) (fun ys c ih => ?_) ys
  rw [← List.append_assoc, vl2_snoc]
  split <;> omega
theorem vl2_take (xs : List Nat) (i : Nat) : vl2 (xs.take i) ≤ vl2 xs := by
  have h := vl2_le (xs.take i) (xs.drop i)
  rwa [List.take_append_drop] at h
theorem sqm_pow (b : Nat) (cs : List Nat) : sqm b cs = b ^ vl2 cs := by
  refine snoc_ind (P := fun cs => sqm b cs = b ^ vl2 cs) rfl (fun ys c ih => ?_) cs
  rw [sqm_snoc, vl2_snoc, ih]
  split
  · rw [Nat.pow_succ, Nat.two_mul, Nat.pow_add]
  · rw [Nat.two_mul, Nat.pow_add]
theorem vl2_bin : ∀ n : Nat, vl2 ((Nat.toDigits 2 n).map Char.toNat) = n := by
  intro n
  induction n using Nat.strongRecOn with
  | ind n ih =>
    by_cases h : n < 2
    · have : n = 0 ∨ n = 1 := by omega
      rcases this with rfl | rfl <;> simp [vl2, Nat.toDigits, Nat.toDigitsCore, Nat.digitChar]
    · rw [Nat.toDigits_of_base_le (by decide) (by omega), List.map_append, List.map_cons, List.map_nil, vl2_snoc, ih (n / 2) (by omega)]
      have hm : n % 2 = 0 ∨ n % 2 = 1 := by omega
      rcases hm with h0 | h0 <;> rw [h0] <;> simp [Nat.digitChar] <;> omega
theorem sqm_bin (b n : Nat) : sqm b ((Nat.toDigits 2 n).map Char.toNat) = b ^ n := by rw [sqm_pow, vl2_bin]
theorem log_pow {b k v : Nat} (h : b ≤ 2 ^ k) : (b ^ v).log2 ≤ k * v := by
  have h1 : b ^ v ≤ 2 ^ (k * v) := by rw [Nat.pow_mul]; exact Nat.pow_le_pow_left h v
  by_cases h0 : b ^ v = 0
  · rw [h0]; simp
  · have := (Nat.log2_lt h0 (k := k * v + 1)).mpr (Nat.lt_of_le_of_lt h1 (Nat.pow_lt_pow_right (by decide) (by omega)))
    omega
theorem log_le {a k : Nat} (h : a < 2 ^ (k + 1)) : a.log2 ≤ k := by
  by_cases h0 : a = 0
  · rw [h0]; simp
  · have := (Nat.log2_lt h0).mpr h
    omega
theorem biT_len (n : Nat) (k : Nat) (h : n < 2 ^ k) (hk : 0 < k) : (biT n).length ≤ k := by
  have e : (biT n).length = (Nat.toDigits 2 n).length := by simp [biT, Str.length]
  rw [e]
  exact (Nat.length_toDigits_le_iff (by decide) hk).mpr h
end U

/-! U17: zips of tuples; loops that only grow the heap; weights. -/
namespace U
open PySem PySem.Spec PyProof.Rows L2
section
variable {K : PySem.W.Frag} {a b : Addr} {xs ys : List V}
theorem walk_zipT {n : Nat} (hn : n = min xs.length ys.length) : Walk (RZ.ItzT K a b) n (fun H => SqT K H a xs ∧ SqT K H b ys) (YPair (fun i => xs[i]?) (fun i => ys[i]?)) := by
  subst hn
  refine ⟨fun i _ hi q => ?_, fun _ q => ⟨xs, ys, q.1, q.2, by omega⟩, fun i H v H' _ q y => ?_⟩
  · have h1 : i < xs.length := by omega
    have h2 : i < ys.length := by omega
    exact ⟨xs, ys, xs[i], ys[i], q.1, q.2, by simp [h1], by simp [h2]⟩
  · obtain ⟨T, x, z, h1, h2, h3, h4, h5⟩ := y
    exact ⟨T, x, z, h1, h2, h3, h4 xs q.1, h5 ys q.2⟩
/-- a new list of xs that grows -/
theorem Gr.app {H Hm : Hp} {D : Addr} {o : HO} (hD : H D = none) (g : Gr H Hm) : Gr H (upd Hm D o) := fun b u eb => by rw [upd_ne (ne_of_none eb hD)]; exact g b u eb
theorem all_true (n : Nat) : (List.replicate n true).all id = true := by
  rw [List.all_eq_true]
  intro b hb
  rw [List.eq_of_mem_replicate hb]
  rfl
/-- a weight with its name, as a pair -/
def PairW (H : Hp) (v : V) (w : Str × Nat × Nat) : Prop := ∃ r p, v = .ref r ∧ H r = some (.tup [.str w.1, .ref p]) ∧ H p = some (.tup [.int (w.2.1 : Int), .int (w.2.2 : Int)])
theorem PairW.up {H H' : Hp} {v : V} {w : Str × Nat × Nat} (h : PairW H v w) (g : Gr H H') : PairW H' v w := by
  obtain ⟨r, p, e, h1, h2⟩ := h
  exact ⟨r, p, e, g _ _ h1, g _ _ h2⟩
/-- the items as they stand -/
def WtL (H : Hp) (xs : List V) (ws : List (Str × Nat × Nat)) : Prop := xs.length = ws.length ∧ ∀ (i : Nat) (x : V) (w : Str × Nat × Nat), xs[i]? = some x → ws[i]? = some w → PairW H x w
theorem WtL.up {H H' : Hp} {xs : List V} {ws : List (Str × Nat × Nat)} (h : WtL H xs ws) (g : Gr H H') : WtL H' xs ws := ⟨h.1, fun i x w a b => (h.2 i x w a b).up g⟩
theorem WtL.at {H : Hp} {xs : List V} {ws : List (Str × Nat × Nat)} {i : Nat} {x : V} (h : WtL H xs ws) (hx : xs[i]? = some x) : ∃ w, ws[i]? = some w ∧ PairW H x w := by
  have hi := (List.getElem?_eq_some_iff.mp hx).1
  have hi2 : i < ws.length := by rw [← h.1]; exact hi
  exact ⟨ws[i], by simp [hi2], h.2 i x ws[i] hx (by simp [hi2])⟩
theorem take_snoc {α β : Type} {ws : List α} {i : Nat} {w : α} (f : α → β) (h : ws[i]? = some w) : (ws.take (i + 1)).map f = (ws.take i).map f ++ [f w] := by
  rw [List.take_add_one, h, List.map_append]
  rfl
end
section
variable {X : Cx} {e : Expr} {te : TE} {p apos cpos pos : Pos}
theorem vals_of : ∀ {xs : List V} {us : List Value}, xs.length = us.length → (∀ (j : Nat) (x : V) (u : Value), xs[j]? = some x → us[j]? = some u → RelV x u) → Vals xs us
  | [], [], _, _ => .nil
  | [], _ :: _, h, _ => by cases h
  | _ :: _, [], h, _ => by cases h
  | x :: xs, u :: us, h, q => .cons (q 0 x u rfl rfl) (vals_of (Nat.succ.inj h) fun j y v a b => q (j + 1) y v a b)
/-- list(e.values()) -/
def tListVals (te : TE) : TE := fun σ H Q => te σ H fun x H1 => ∃ (d : Addr) (kvs : List (Key × V)), x = .ref d ∧ H1 d = some (.dK kvs) ∧ ∀ l, H1 l = none → Q (.ref l) (upd H1 l (.lst (kvs.map Prod.snd)))
theorem pe_listVals (hc : X.calm = true) (he : PE X e te) (hg : Gl X "list") (hm : X.mg "list" = none) (hv : bootBuiltins "list" = some (.type "list")) (hbase : attributeBase e "values" X.env (eval e X.env) = eval e X.env := by rfl) (hline : (apos.endLine == cpos.line) = true := by rfl)
    (hs : starEach [.Call (.Attribute e "values" apos) [] [] cpos] X.env = (false, eval (.Call (.Attribute e "values" apos) [] [] cpos) X.env) :: starEach [] X.env := by rfl) :
    PE X (.Call (.Name "list" p) [.Call (.Attribute e "values" apos) [] [] cpos] [] pos) (tListVals te) := by
  refine ⟨fun pins s σ H Q I hq => ?_⟩
  refine wpAny_Call_Name_kw (ld_blt I hg hm hv ?_)
  refine PyProof.Rows.callWith_type1 ?_ hs rfl
  rw [hs]
  show wpAny _ _ (spliced ((false, eval (.Call (.Attribute e "values" apos) [] [] cpos) X.env) :: backTo pos (starEach [] X.env))) _ _ s
  refine Calls.spliced_cons ?_
  refine wpAny_Call_method (T := "dict") (id := "dict.values") hbase rfl hline F.plainAttrs_dict F.slot_dict_values F.type_dict_values (thn (he.run pins s σ H _ I hq) fun u s1 ⟨x, H1, I1, rx, d, kvs, ex, hd, q⟩ => ?_)
  subst ex
  obtain rfl : u = Value.ref d := rx
  obtain ⟨hz, hs0, vs, kv, hdo⟩ := I1.hok d _ hd
  obtain ⟨ep, hat⟩ := hdo.dictAt
  have lk : kvs.length = vs.length := Paired.length kv
  have I2 : Inv X pins σ H1 { s1 with heap := s1.heap.push { cls := .type "dict_values", data := .fields #[.ref d] } } := I1.kept (t' := s1.toks) fun b ob q => Heap.get?_push_of_some _ q
  refine ⟨hdo.typeIs, hdo.mapOf.noDict, ?_⟩
  show wpAny _ _ (callWith cpos (.builtin "dict.values") [.ref d] [] []) _ X.xe s1
  refine method_meetsIn F.slot_dict_values F.entry_dict_values rfl (PySem.evalArgs_none ⟨rfl, hdo.typeIs, F.args_dict_values_1 _, _, meets_dict_values (mixKind X.prog X.w) d hs0, ⟨vs, hdo⟩, ?_⟩)
  refine Calls.spliced_nil ?_
  refine PySem.W.kdl_call (PySem.W.kdl_values (knd := mixKind X.prog X.w) (kvs := vs) (ep := ep) (d := d)) (I1.ok.hd hc) ⟨⟨_, Heap.get?_push_size _ rfl, rfl, rfl⟩, hat.push _⟩ (by omega) fun h' tk acc c hk hS hacc => ?_
  have hv2 : Vals (kvs.map Prod.snd) acc.toList := by
    refine vals_of ((List.length_map _).trans (lk.trans (hacc.1.symm.trans Array.length_toList.symm))) fun j x u hx hu => ?_
    obtain ⟨k, hk2⟩ := hacc.2 j u (by rw [← Array.getElem?_toList]; exact hu)
    obtain ⟨y, hy, ry⟩ := KV.at' kv hk2
    rw [List.getElem?_map, hy] at hx
    cases hx
    exact ry
  exact ⟨.ref _, _, I2.laid (t' := tk) hk (Nat.le_refl _) (show ObjOk X.prog X.w _ h' _ (.lst (kvs.map Prod.snd)) from ⟨by rw [List.length_map]; omega, acc.toList, c, hv2, by rw [Array.toArray_toList]; exact hS⟩), rfl, q _ (I2.hok.fresh (Nat.le_refl _))⟩
end
/-- weights that are let, up to 1 -/
structure OKW (ws : List (Str × Nat × Nat)) : Prop where
  few : ws.length ≤ 1000
  up : ∀ (i : Nat) (x y : Str × Nat × Nat), ws[i]? = some x → ws[i + 1]? = some y → x.1.cps.toList < y.1.cps.toList
  ne : ∀ (i j : Nat) (x y : Str × Nat × Nat), i < j → ws[i]? = some x → ws[j]? = some y → x.1 ≠ y.1
  nums : ∀ w ∈ ws, (1 ≤ w.2.1 ∧ w.2.1 ≤ 1000) ∧ (1 ≤ w.2.2 ∧ w.2.2 ≤ 1000) ∧ Nat.gcd w.2.1 w.2.2 = 1
/-- the dict of weights: the ratios by their names -/
def RatK (C : Addr) (H : Hp) (kvs : List (Key × V)) (ws : List (Str × Nat × Nat)) : Prop :=
  kvs.length = ws.length ∧ ∀ (i : Nat) (k : Key × V) (w : Str × Nat × Nat), kvs[i]? = some k → ws[i]? = some w → k.1 = .inr w.1 ∧ IsR C H k.2 (w.2.1 : Int) (w.2.2 : Int)
theorem RatK.up {C : Addr} {H H' : Hp} {kvs : List (Key × V)} {ws : List (Str × Nat × Nat)} (h : RatK C H kvs ws) (g : Gr H H') : RatK C H' kvs ws := ⟨h.1, fun i k w a b => ⟨(h.2 i k w a b).1, (h.2 i k w a b).2.up g⟩⟩
theorem RatK.nil {C : Addr} {H : Hp} : RatK C H [] [] := ⟨rfl, fun i k w a _ => by simp at a⟩
theorem snoc_at {α : Type} {xs : List α} {x y : α} {i : Nat} (h : (xs ++ [x])[i]? = some y) : xs[i]? = some y ∨ (i = xs.length ∧ y = x) := by
  rcases Nat.lt_trichotomy i xs.length with hi | hi | hi
  · left; rwa [List.getElem?_append_left hi] at h
  · right; subst hi; simp at h; exact ⟨rfl, h.symm⟩
  · rw [List.getElem?_append_right (by omega)] at h
    rw [List.getElem?_eq_none (by simp; omega)] at h
    cases h
theorem RatK.snoc {C : Addr} {H : Hp} {kvs : List (Key × V)} {ws : List (Str × Nat × Nat)} {w : Str × Nat × Nat} {v : V} (h : RatK C H kvs ws) (hw : IsR C H v (w.2.1 : Int) (w.2.2 : Int)) : RatK C H (kvs ++ [(.inr w.1, v)]) (ws ++ [w]) := by
  refine ⟨by simp [h.1], fun i k u hk hu => ?_⟩
  rcases snoc_at hk with a | ⟨a, rfl⟩
  · have hi := (List.getElem?_eq_some_iff.mp a).1
    rw [List.getElem?_append_left (by rw [← h.1]; exact hi)] at hu
    exact h.2 i k u a hu
  · rw [a, h.1] at hu
    simp at hu
    subst hu
    exact ⟨rfl, hw⟩
theorem putK_new {kvs : List (Key × V)} {k : Key} {v : V} (h : ∀ p ∈ kvs, p.1 ≠ k) : putK kvs k v = kvs ++ [(k, v)] := by
  unfold putK
  rw [if_neg]
  intro e
  obtain ⟨p, hp, e2⟩ := List.any_eq_true.mp e
  exact h p hp (of_decide_eq_true e2)
theorem gcd_one {t b : Nat} (h : Nat.gcd t b = 1) : gcdI (t : Int) (b : Int) = 1 := by
  unfold gcdI
  rw [Int.natAbs_natCast, Int.natAbs_natCast, h]
  rfl
theorem IsR.off {C : Addr} {H : Hp} {v : V} {p q : Int} {D : Addr} {l : List (Key × V)} {o : HO} (r : IsR C H v p q) (hd : H D = some (.dK l)) : IsR C (upd H D o) v p q := by
  obtain ⟨a, dx, e, h⟩ := r
  exact ⟨a, dx, e, by rw [upd_ne (fun z => by rw [z, hd] at h; cases h)]; exact h⟩
theorem RatK.off {C : Addr} {H : Hp} {kvs l : List (Key × V)} {ws : List (Str × Nat × Nat)} {D : Addr} {o : HO} (h : RatK C H kvs ws) (hd : H D = some (.dK l)) : RatK C (upd H D o) kvs ws :=
  ⟨h.1, fun i k w a b => ⟨(h.2 i k w a b).1, (h.2 i k w a b).2.off hd⟩⟩
/-- the least common multiple of the bottoms -/
def lcmW (ws : List (Str × Nat × Nat)) : Nat := ws.foldl (fun r w => Nat.lcm r w.2.2) 1
theorem lcmW_snoc (ws : List (Str × Nat × Nat)) (w : Str × Nat × Nat) : lcmW (ws ++ [w]) = Nat.lcm (lcmW ws) w.2.2 := by
  unfold lcmW; rw [List.foldl_append]; rfl
theorem lcm_fold_dvd (ws : List (Str × Nat × Nat)) : ∀ a : Nat, a ∣ ws.foldl (fun r w => Nat.lcm r w.2.2) a := by
  induction ws with
  | nil => intro a; exact Nat.dvd_refl a
  | cons w ws ih => intro a; exact Nat.dvd_trans (Nat.dvd_lcm_left a w.2.2) (ih _)
theorem lcmW_take (ws : List (Str × Nat × Nat)) (i : Nat) : lcmW (ws.take i) ∣ lcmW ws := by
  have e : lcmW ws = (ws.drop i).foldl (fun r w => Nat.lcm r w.2.2) (lcmW (ws.take i)) := by
    unfold lcmW
    rw [← List.foldl_append, List.take_append_drop]
  rw [e]
  exact lcm_fold_dvd _ _
theorem lcmW_pos {ws : List (Str × Nat × Nat)} (h : ∀ w ∈ ws, 1 ≤ w.2.2) : 0 < lcmW ws := by
  unfold lcmW
  suffices ∀ a : Nat, 0 < a → 0 < ws.foldl (fun r w => Nat.lcm r w.2.2) a from this 1 (by decide)
  induction ws with
  | nil => intro a h; exact h
  | cons w ws ih => intro a ha; exact ih (fun u hu => h u (List.mem_cons_of_mem _ hu)) _ (Nat.lcm_pos ha (h w List.mem_cons_self))
theorem lcmW_le {ws : List (Str × Nat × Nat)} (h : ∀ w ∈ ws, 1 ≤ w.2.2) (i : Nat) : lcmW (ws.take i) ≤ lcmW ws := Nat.le_of_dvd (lcmW_pos h) (lcmW_take ws i)
theorem lcmW_dvd {ws : List (Str × Nat × Nat)} {w : Str × Nat × Nat} (h : w ∈ ws) : w.2.2 ∣ lcmW ws := by
  obtain ⟨i, hi, e⟩ := List.getElem_of_mem h
  have h1 := lcmW_take ws (i + 1)
  rw [List.take_add_one, show ws[i]? = some w by rw [← e]; simp [hi], show (some w).toList = [w] from rfl, lcmW_snoc] at h1
  exact Nat.dvd_trans (Nat.dvd_lcm_right _ _) h1
section
variable {X : Cx}
def rLcm : List V → Hp → VK → Prop := fun vs H Q => ∃ a b : Int, vs = [.int a, .int b] ∧ a.natAbs < 2 ^ 64 ∧ b.natAbs < 2 ^ 64 ∧ Q (.int ((Nat.lcm a.natAbs b.natAbs : Nat) : Int)) H
theorem cr_lcm : CallR X (.builtin "math.lcm") rLcm := by
  intro pins s σ H vs us Q I r h
  obtain ⟨a, b, rfl, h1, h2, q⟩ := h
  obtain ⟨t, u, rfl⟩ := Vals.int2 r
  exact PySem.W.mc_lcm h1 h2 fun _ => ⟨.int _, H, I.tok _, ⟨_, rfl⟩, q⟩
end
theorem Gr.unlock {H Hm : Hp} {d : Addr} {o p : HO} (hd : H d = some o) (g : Gr (upd H d p) Hm) : Gr H (upd Hm d o) := fun b u e => by
  by_cases h : b = d
  · subst h; rw [upd_same]; rw [hd] at e; exact e
  · rw [upd_ne h]; exact g b u (by rw [upd_ne h]; exact e)
theorem any_false (n : Nat) : (List.replicate n false).any id = false := by
  rw [List.any_eq_false]
  intro b hb
  rw [List.eq_of_mem_replicate hb]
  decide
theorem hu1 {u : Nat} (h : u + 64 < cLine) : u + 1 < cLine := by omega
/-- the dict of counts -/
def ck (cs : List (Str × Nat)) : List (Key × V) := cs.map fun c => (.inr c.1, .int (c.2 : Int))
/-- the count of a name -/
def cnt (cs : List (Str × Nat)) (z : Str) : Option Nat := (cs.find? fun c => decide (c.1 = z)).map (·.2)
theorem ck_val (cs : List (Str × Nat)) (z : Str) : valV (ck cs) (.inr z) = (cnt cs z).map fun (n : Nat) => V.int (n : Int) := by
  unfold valV ck cnt
  induction cs with
  | nil => rfl
  | cons c cs ih =>
    rw [List.map_cons, List.find?_cons, List.find?_cons]
    by_cases h : c.1 = z
    · simp [h]
    · simp only [show ¬ (Sum.inr c.1 : Key) = .inr z from fun e => h (Sum.inr.inj e), h, decide_false]
      exact ih
def cntD (cs : List (Str × Nat)) (z : Str) : Nat := (cnt cs z).getD 0
theorem cntD_le {cs : List (Str × Nat)} {m : Nat} (h : ∀ c ∈ cs, c.2 ≤ m) (z : Str) : cntD cs z ≤ m := by
  unfold cntD cnt
  cases e : cs.find? fun c => decide (c.1 = z) with
  | none => exact Nat.zero_le _
  | some c => exact h c (List.mem_of_find?_eq_some e)
/-- the product of the counts, raised by the weights times L -/
def prodW (cs : List (Str × Nat)) (L : Nat) (ws : List (Str × Nat × Nat)) : Nat := ws.foldl (fun p w => p * cntD cs w.1 ^ (w.2.1 * (L / w.2.2))) 1
theorem prodW_snoc (cs : List (Str × Nat)) (L : Nat) (ws : List (Str × Nat × Nat)) (w : Str × Nat × Nat) : prodW cs L (ws ++ [w]) = prodW cs L ws * cntD cs w.1 ^ (w.2.1 * (L / w.2.2)) := by
  unfold prodW; rw [List.foldl_append]; rfl
theorem exp_le {L t b : Nat} (h : t ≤ b) : t * (L / b) ≤ L := Nat.le_trans (Nat.mul_le_mul_right _ h) (Nat.mul_div_le L b)
theorem fac_le {cs : List (Str × Nat)} (h : ∀ c ∈ cs, c.2 ≤ 2000) {L : Nat} (hL : L ≤ 24) {w : Str × Nat × Nat} (hw : w.2.1 ≤ w.2.2) : cntD cs w.1 ^ (w.2.1 * (L / w.2.2)) ≤ 2 ^ 264 := by
  have h1 : cntD cs w.1 ≤ 2 ^ 11 := Nat.le_trans (cntD_le h _) (by decide)
  have h2 := exp_le (L := L) hw
  calc cntD cs w.1 ^ (w.2.1 * (L / w.2.2)) ≤ (2 ^ 11) ^ (w.2.1 * (L / w.2.2)) := Nat.pow_le_pow_left h1 _
    _ ≤ (2 ^ 11) ^ 24 := Nat.pow_le_pow_right (by decide) (by omega)
    _ = 2 ^ 264 := by rw [← Nat.pow_mul]
theorem prodW_take {cs : List (Str × Nat)} (h : ∀ c ∈ cs, c.2 ≤ 2000) {L : Nat} (hL : L ≤ 24) {ws : List (Str × Nat × Nat)} (hw : ∀ w ∈ ws, w.2.1 ≤ w.2.2) (i : Nat) : prodW cs L (ws.take i) ≤ 2 ^ (264 * i) := by
  induction i with
  | zero => simp [prodW]
  | succ i ih =>
    by_cases hi : i < ws.length
    · rw [List.take_add_one, show ws[i]? = some ws[i] by simp [hi], show (some ws[i]).toList = [ws[i]] from rfl, prodW_snoc, show 264 * (i + 1) = 264 * i + 264 by omega, Nat.pow_add]
      exact Nat.mul_le_mul ih (fac_le h hL (hw _ (List.getElem_mem hi)))
    · rw [List.take_of_length_le (by omega)]
      rw [List.take_of_length_le (by omega)] at ih
      exact Nat.le_trans ih (Nat.pow_le_pow_right (by decide) (by omega))
theorem log_of_le {a k : Nat} (h : a ≤ 2 ^ k) : a.log2 ≤ k := log_le (Nat.lt_of_le_of_lt h (Nat.pow_lt_pow_right (by decide) (by omega)))
/-- the least multiplier is that of the least common multiple -/
theorem least_mul {f b j : Nat} (hf : 0 < f) (hb : 0 < b) (hn : ∀ m, 1 ≤ m → m ≤ j → ¬ b ∣ f * m) (h : b ∣ f * (j + 1)) : f * (j + 1) = Nat.lcm f b := by
  have d1 : Nat.lcm f b ∣ f * (j + 1) := Nat.lcm_dvd (Nat.dvd_mul_right f (j + 1)) h
  have l1 : Nat.lcm f b ≤ f * (j + 1) := Nat.le_of_dvd (Nat.mul_pos hf (by omega)) d1
  obtain ⟨q, hq⟩ := Nat.dvd_lcm_left f b
  have p0 := Nat.lcm_pos hf hb
  have hq0 : 1 ≤ q := by
    rcases Nat.eq_zero_or_pos q with h0 | h0
    · rw [h0, Nat.mul_zero] at hq; omega
    · exact h0
  have hq1 : j + 1 ≤ q := by
    refine Nat.lt_of_not_le fun z => hn q hq0 z ?_
    rw [← hq]; exact Nat.dvd_lcm_right f b
  have l2 : f * (j + 1) ≤ f * q := Nat.mul_le_mul_left f hq1
  omega
theorem has_mul {f b : Nat} (hf : 0 < f) (hb : 0 < b) (h : Nat.lcm f b ≤ 24) : ¬ ∀ m, 1 ≤ m → m ≤ 24 → ¬ b ∣ f * m := fun hn => by
  obtain ⟨q, hq⟩ := Nat.dvd_lcm_left f b
  have p0 := Nat.lcm_pos hf hb
  have hq0 : 1 ≤ q := by
    rcases Nat.eq_zero_or_pos q with h0 | h0
    · rw [h0, Nat.mul_zero] at hq; omega
    · exact h0
  have : q ≤ f * q := Nat.le_mul_of_pos_left q hf
  refine hn q hq0 (by omega) ?_
  rw [← hq]; exact Nat.dvd_lcm_right f b
theorem div_mul_iff (x b : Nat) : (((x : Int) / (b : Int)) * (b : Int) = (x : Int)) ↔ b ∣ x := by
  rw [← Int.natCast_ediv, ← Int.natCast_mul]
  refine ⟨fun h => ⟨x / b, ?_⟩, fun h => ?_⟩
  · have := Int.ofNat.inj h
    rw [Nat.mul_comm]; exact this.symm
  · rw [Nat.div_mul_cancel h]
/-- weights and counts that make a bound -/
structure BndW (H : Hp) (a d : Addr) (ws : List (Str × Nat × Nat)) (cs : List (Str × Nat)) : Prop where
  wts : ∃ xs, H a = some (.tup xs) ∧ WtL H xs ws
  ok : OKW ws
  one : ∀ w ∈ ws, w.2.1 ≤ w.2.2
  few : ws.length ≤ 5
  low : lcmW ws ≤ 24
  cts : H d = some (.dK (ck cs))
  few' : cs.length ≤ 1000
  lim : ∀ c ∈ cs, c.2 ≤ 2000
  has : ∀ w ∈ ws, (cnt cs w.1).isSome = true
end U

/-! U18: drawn weights. -/
namespace U
open PySem PySem.Spec PyProof.Rows L2
def names8 : List Str := ["g", "h", "i", "j", "k", "r", "s", "t"]
def goodP (p : Nat × Nat) : Prop := p ∈ [(1, 1), (1, 2), (1, 3), (2, 3), (1, 4), (3, 4), (5, 6), (1, 24)]
theorem goodP_num {p : Nat × Nat} (h : goodP p) : 1 ≤ p.1 ∧ p.1 ≤ p.2 ∧ p.2 ≤ 24 ∧ Nat.gcd p.1 p.2 = 1 ∧ p.2 ∣ 24 := by
  have e : ([(1, 1), (1, 2), (1, 3), (2, 3), (1, 4), (3, 4), (5, 6), (1, 24)] : List (Nat × Nat)).all (fun p => decide (1 ≤ p.1 ∧ p.1 ≤ p.2 ∧ p.2 ≤ 24 ∧ Nat.gcd p.1 p.2 = 1 ∧ p.2 ∣ 24)) = true := by decide +kernel
  exact of_decide_eq_true (List.all_eq_true.mp e p h)
theorem names8_up : names8.Pairwise fun x y => x.cps.toList < y.cps.toList := by decide +kernel
theorem lcm_24 {ws : List (Str × Nat × Nat)} (h : ∀ w ∈ ws, w.2.2 ∣ 24) : lcmW ws ∣ 24 := by
  unfold lcmW
  suffices ∀ a : Nat, a ∣ 24 → ws.foldl (fun r w => Nat.lcm r w.2.2) a ∣ 24 from this 1 (by decide)
  induction ws with
  | nil => intro a h; exact h
  | cons w ws ih => intro a ha; exact ih (fun u hu => h u (List.mem_cons_of_mem _ hu)) _ (Nat.lcm_dvd ha (h w List.mem_cons_self))
/-- drawn weights: some of the names, in their order -/
structure DrW (ws : List (Str × Nat × Nat)) : Prop where
  sub : (ws.map (·.1)).Sublist names8
  good : ∀ w ∈ ws, goodP w.2
  few : ws.length ≤ 5
theorem DrW.pw {ws : List (Str × Nat × Nat)} (h : DrW ws) : ws.Pairwise fun x y => x.1.cps.toList < y.1.cps.toList :=
  (List.pairwise_map (f := fun w : Str × Nat × Nat => w.1) (R := fun x y : Str => x.cps.toList < y.cps.toList)).mp (List.Pairwise.sublist h.sub names8_up)
theorem DrW.ok {ws : List (Str × Nat × Nat)} (h : DrW ws) : OKW ws := by
  have pw := List.pairwise_iff_getElem.mp h.pw
  have lt : ∀ (i j : Nat) (x y : Str × Nat × Nat), i < j → ws[i]? = some x → ws[j]? = some y → x.1.cps.toList < y.1.cps.toList := fun i j x y hij hx hy => by
    obtain ⟨hi, rfl⟩ := List.getElem?_eq_some_iff.mp hx
    obtain ⟨hj, rfl⟩ := List.getElem?_eq_some_iff.mp hy
    exact pw i j hi hj hij
  refine ⟨by have := h.few; omega, fun i x y hx hy => lt i (i + 1) x y (by omega) hx hy, fun i j x y hij hx hy e => ?_, fun w hw => ?_⟩
  · have := lt i j x y hij hx hy
    rw [e] at this
    exact List.lt_irrefl _ this
  · have := goodP_num (h.good w hw)
    exact ⟨⟨this.1, by omega⟩, ⟨by omega, by omega⟩, this.2.2.2.1⟩
theorem DrW.one {ws : List (Str × Nat × Nat)} (h : DrW ws) : ∀ w ∈ ws, w.2.1 ≤ w.2.2 := fun w hw => (goodP_num (h.good w hw)).2.1
theorem DrW.low {ws : List (Str × Nat × Nat)} (h : DrW ws) : lcmW ws ≤ 24 := Nat.le_of_dvd (by decide) (lcm_24 fun w hw => (goodP_num (h.good w hw)).2.2.2.2)
theorem DrW.mem {ws : List (Str × Nat × Nat)} (h : DrW ws) : ∀ w ∈ ws, w.1 ∈ names8 := fun w hw => h.sub.subset (List.mem_map.mpr ⟨w, hw, rfl⟩)
/-- roots are one -/
theorem root_one {r s L P : Nat} (h1 : r ^ L ≤ P) (h2 : P < (r + 1) ^ L) (h3 : s ^ L ≤ P) (h4 : P < (s + 1) ^ L) : r = s := by
  have a : r < s + 1 := Nat.lt_of_not_le fun z => absurd (Nat.lt_of_lt_of_le h4 (Nat.pow_le_pow_left z L)) (by omega)
  have b : s < r + 1 := Nat.lt_of_not_le fun z => absurd (Nat.lt_of_lt_of_le h2 (Nat.pow_le_pow_left z L)) (by omega)
  omega
theorem root_up {r s L P P' : Nat} (h1 : r ^ L ≤ P) (h : P ≤ P') (h4 : P' < (s + 1) ^ L) : r ≤ s := by
  have a : r < s + 1 := Nat.lt_of_not_le fun z => absurd (Nat.lt_of_lt_of_le h4 (Nat.pow_le_pow_left z L)) (by omega)
  omega
theorem prodW_up {cs cs' : List (Str × Nat)} {L : Nat} (ws : List (Str × Nat × Nat)) (h : ∀ w ∈ ws, cntD cs w.1 ≤ cntD cs' w.1) : prodW cs L ws ≤ prodW cs' L ws := by
  unfold prodW
  suffices ∀ a b : Nat, a ≤ b → ws.foldl (fun p w => p * cntD cs w.1 ^ (w.2.1 * (L / w.2.2))) a ≤ ws.foldl (fun p w => p * cntD cs' w.1 ^ (w.2.1 * (L / w.2.2))) b from this 1 1 (Nat.le_refl _)
  induction ws with
  | nil => intro a b h; exact h
  | cons w ws ih => intro a b hab; exact ih (fun u hu => h u (List.mem_cons_of_mem _ hu)) _ _ (Nat.mul_le_mul hab (Nat.pow_le_pow_left (h w List.mem_cons_self) _))
/-- a pair of the pools -/
def PairAt (H : Hp) (t : V) : Prop := ∃ (a b : Nat), goodP (a, b) ∧ ∃ x, t = .ref x ∧ H x = some (.tup [.int (a : Int), .int (b : Int)])
theorem PairAt.up {H H' : Hp} {t : V} (h : PairAt H t) (g : Gr H H') : PairAt H' t := let ⟨a, b, c, x, e, z⟩ := h; ⟨a, b, c, x, e, g _ _ z⟩
theorem PairAt.keep {H H' : Hp} {t : V} {d : Addr} {l : List V} (h : PairAt H t) (s : ∀ b u, H b = some u → b ≠ d → H' b = some u) (hd : H d = some (.lst l)) : PairAt H' t :=
  let ⟨a, b, c, x, e, z⟩ := h; ⟨a, b, c, x, e, s _ _ z fun q => by rw [q, hd] at z; cases z⟩
def PoolAt (H : Hp) (d : Addr) (v : V) : Prop := ∃ (a : Addr) (ts : List V), v = .ref a ∧ a ≠ d ∧ H a = some (.lst ts) ∧ 0 < ts.length ∧ ts.length ≤ 10 ∧ ∀ t ∈ ts, PairAt H t
theorem PoolAt.up {H H' : Hp} {d : Addr} {v : V} (h : PoolAt H d v) (g : Gr H H') : PoolAt H' d v := let ⟨a, ts, e, n, z, l, m, q⟩ := h; ⟨a, ts, e, n, g _ _ z, l, m, fun t ht => (q t ht).up g⟩
theorem pools_2 {H : Hp} {x y : V} (h1 : PairAt H x) (h2 : PairAt H y) : ∀ t ∈ [x, y], PairAt H t := fun t ht => by
  simp only [List.mem_cons, List.not_mem_nil, or_false] at ht
  rcases ht with rfl | rfl <;> assumption
theorem pools_3 {H : Hp} {x y z : V} (h1 : PairAt H x) (h2 : PairAt H y) (h3 : PairAt H z) : ∀ t ∈ [x, y, z], PairAt H t := fun t ht => by
  simp only [List.mem_cons, List.not_mem_nil, or_false] at ht
  rcases ht with rfl | rfl | rfl <;> assumption
theorem rep_one (x : V) (k : Nat) (h : k ≤ 1) : (List.replicate k [x]).flatten.length ≤ 1 ∧ ∀ t ∈ (List.replicate k [x]).flatten, t = x := by
  rcases Nat.lt_or_ge k 1 with h0 | h0
  · obtain rfl : k = 0 := by omega
    simp
  · obtain rfl : k = 1 := by omega
    simp
theorem PairW.keep {H H' : Hp} {v : V} {w : Str × Nat × Nat} {d : Addr} {l : List V} (h : PairW H v w) (s : ∀ b u, H b = some u → b ≠ d → H' b = some u) (hd : H d = some (.lst l)) : PairW H' v w := by
  obtain ⟨r, p, e, h1, h2⟩ := h
  exact ⟨r, p, e, s _ _ h1 (fun q => by rw [q, hd] at h1; cases h1), s _ _ h2 (fun q => by rw [q, hd] at h2; cases h2)⟩
theorem WtL.keep {H H' : Hp} {xs : List V} {ws : List (Str × Nat × Nat)} {d : Addr} {l : List V} (h : WtL H xs ws) (s : ∀ b u, H b = some u → b ≠ d → H' b = some u) (hd : H d = some (.lst l)) : WtL H' xs ws :=
  ⟨h.1, fun i x w a b => (h.2 i x w a b).keep s hd⟩
theorem WtL.snoc {H : Hp} {xs : List V} {ws : List (Str × Nat × Nat)} {x : V} {w : Str × Nat × Nat} (h : WtL H xs ws) (hx : PairW H x w) : WtL H (xs ++ [x]) (ws ++ [w]) := by
  refine ⟨by simp [h.1], fun i k u hk hu => ?_⟩
  rcases snoc_at hk with a | ⟨a, rfl⟩
  · have hi := (List.getElem?_eq_some_iff.mp a).1
    rw [List.getElem?_append_left (by rw [← h.1]; exact hi)] at hu
    exact h.2 i k u a hu
  · rw [a, h.1] at hu
    simp at hu
    subst hu
    exact hx
def names5 : List Str := ["g", "h", "i", "j", "k"]
/-- the weights as they are drawn -/
structure LpW (d : Addr) (B Hm : Hp) (n i : Nat) (wa : Addr) (ws : List (Str × Nat × Nat)) : Prop where
  keep : ∀ b u, B b = some u → b ≠ d → Hm b = some u
  dice : ∃ o, Hm d = some o ∧ Dice (n + 2 * i) o
  wts : ∃ xs, Hm wa = some (.tup xs) ∧ WtL Hm xs ws
  sub : (ws.map (·.1)).Sublist (names5.take i)
  good : ∀ w ∈ ws, goodP w.2
theorem LpW.draw {d : Addr} {B Hm : Hp} {n : Nat} {wa : Addr} {ws : List (Str × Nat × Nat)} (h : LpW d B Hm n 5 wa ws) : DrW ws := by
  have h5 : names5.take 5 = names5 := rfl
  have sb := h.sub
  rw [h5] at sb
  refine ⟨sb.trans (by decide +kernel), h.good, ?_⟩
  have := sb.length_le
  rw [List.length_map] at this
  exact this
/-- the counts as they are drawn -/
structure LpC (d pd : Addr) (B Hm : Hp) (n i : Nat) (cs : List (Str × Nat)) : Prop where
  keep : ∀ b u, B b = some u → b ≠ d → Hm b = some u
  dice : ∃ o, Hm d = some o ∧ Dice (n + 3 * i) o
  dct : Hm pd = some (.dK (ck cs))
  nms : cs.map (·.1) = names5.take i
  lim : ∀ c ∈ cs, c.2 ≤ 2000
theorem names5_nd : names5.Nodup := by decide +kernel
theorem put_ck {cs : List (Str × Nat)} {z : Str} {m : Nat} (h : z ∉ cs.map (·.1)) : putK (ck cs) (.inr z) (.int (m : Int)) = ck (cs ++ [(z, m)]) := by
  rw [putK_new]
  · unfold ck; rw [List.map_append]; rfl
  · intro p hp e
    obtain ⟨c, hc, rfl⟩ := List.mem_map.mp hp
    exact h (List.mem_map.mpr ⟨c, hc, Sum.inr.inj e⟩)
theorem names5_not {i : Nat} {z : Str} (h : names5[i]? = some z) : z ∉ names5.take i := fun hm => by
  obtain ⟨j, hj, e⟩ := List.getElem_of_mem hm
  rw [List.length_take] at hj
  rw [List.getElem_take] at e
  obtain ⟨hi, e2⟩ := List.getElem?_eq_some_iff.mp h
  have := (List.getElem_inj (h₀ := by omega) (h₁ := hi) names5_nd).mp (e.trans e2.symm)
  omega
theorem cnt_has {cs : List (Str × Nat)} {z : Str} (h : z ∈ cs.map (·.1)) : (cnt cs z).isSome = true := by
  obtain ⟨c, hc, e⟩ := List.mem_map.mp h
  unfold cnt
  rw [Option.isSome_map, List.find?_isSome]
  exact ⟨c, hc, by simpa using e⟩
theorem merge_ck : ∀ (more acc : List (Str × Nat)), ((acc ++ more).map (·.1)).Nodup → mergeK (ck acc) (ck more) = ck (acc ++ more)
  | [], acc, _ => by simp [ck, mergeK]
  | c :: more, acc, h => by
    have e : acc ++ c :: more = (acc ++ [c]) ++ more := by simp
    have hn : c.1 ∉ acc.map (·.1) := fun hm => by
      rw [List.map_append, List.map_cons] at h
      exact (List.nodup_append.mp h).2.2 _ hm _ List.mem_cons_self rfl
    show mergeK (putK (ck acc) (.inr c.1) (.int (c.2 : Int))) (ck more) = _
    rw [put_ck hn, merge_ck more (acc ++ [c]) (by rw [← e]; exact h), e]
theorem cntD_up {cs cs' : List (Str × Nat)} (h : Paired (fun c c' => c.1 = c'.1 ∧ c.2 ≤ c'.2) cs cs') (z : Str) : cntD cs z ≤ cntD cs' z := by
  unfold cntD cnt
  induction h with
  | nil => exact Nat.le_refl _
  | @cons c c' cs cs' hc ht ih =>
    rw [List.find?_cons, List.find?_cons, ← hc.1]
    by_cases e : c.1 = z
    · simp [e]; exact hc.2
    · simp only [e, decide_false]; exact ih
theorem BndW.up {H H' : Hp} {a d : Addr} {ws : List (Str × Nat × Nat)} {cs : List (Str × Nat)} (h : BndW H a d ws cs) (g : Gr H H') : BndW H' a d ws cs :=
  ⟨let ⟨xs, h1, h2⟩ := h.wts; ⟨xs, g _ _ h1, h2.up g⟩, h.ok, h.one, h.few, h.low, g _ _ h.cts, h.few', h.lim, h.has⟩
theorem cnt_at : ∀ {cs : List (Str × Nat)} {i : Nat} {c : Str × Nat}, (cs.map (·.1)).Nodup → cs[i]? = some c → cnt cs c.1 = some c.2
  | [], i, c, _, h => by simp at h
  | b :: cs, 0, c, _, h => by
    simp at h
    subst h
    simp [cnt]
  | b :: cs, i + 1, c, hn, h => by
    have h' : cs[i]? = some c := by simpa using h
    have hn' := List.nodup_cons.mp hn
    have ne : ¬ b.1 = c.1 := fun e => hn'.1 (by show b.1 ∈ _; rw [e]; exact List.mem_map.mpr ⟨c, List.mem_of_getElem? h', rfl⟩)
    have ih := cnt_at hn'.2 h'
    unfold cnt at ih ⊢
    rw [List.find?_cons]
    simp only [ne, decide_false]
    exact ih
/-- the greater counts as they are made -/
structure LpM (d D : Addr) (B Hm : Hp) (n i : Nat) (cs cs' : List (Str × Nat)) (ps : List Addr) : Prop where
  keep : ∀ b u, B b = some u → b ≠ d → Hm b = some u
  dice : ∃ o, Hm d = some o ∧ Dice (n + i) o
  lst : Hm D = some (.lst (ps.map V.ref))
  par : Paired (fun c c' => c.1 = c'.1 ∧ c.2 ≤ c'.2) (cs.take i) cs'
  lim : ∀ c ∈ cs', c.2 ≤ 2000
  tup : Paired (fun (p : Addr) (kv : Key × V) => Hm p = some (.tup [kV kv.1, kv.2])) ps (ck cs')
theorem paired_up {α β : Type} {F G : α → β → Prop} {xs : List α} {ys : List β} (h : Paired F xs ys) (hf : ∀ x y, F x y → G x y) : Paired G xs ys := by
  induction h with
  | nil => exact .nil
  | cons a t ih => exact .cons (hf _ _ a) ih
theorem paired_fst {cs cs' : List (Str × Nat)} (h : Paired (fun c c' => c.1 = c'.1 ∧ c.2 ≤ c'.2) cs cs') : cs.map (·.1) = cs'.map (·.1) := by
  induction h with
  | nil => rfl
  | cons a t ih => rw [List.map_cons, List.map_cons, a.1, ih]
theorem drw_nil : DrW [] := ⟨List.nil_sublist _, fun w h => by simp at h, by decide⟩
theorem wtl_nil {H : Hp} : WtL H [] [] := ⟨rfl, fun i x w a b => by simp at a⟩
theorem bnd_lit {H : Hp} {a d : Addr} {ws : List (Str × Nat × Nat)} {cs : List (Str × Nat)} {xs : List V} (ha : H a = some (.tup xs)) (hw : WtL H xs ws) (hd : H d = some (.dK (ck cs))) (w : DrW ws) (few : cs.length ≤ 1000) (lim : ∀ c ∈ cs, c.2 ≤ 2000) (has : ∀ w ∈ ws, (cnt cs w.1).isSome = true) : BndW H a d ws cs :=
  ⟨⟨xs, ha, hw⟩, w.ok, w.one, w.few, w.low, hd, few, lim, has⟩
instance {p : Nat × Nat} : Decidable (goodP p) := by unfold goodP; exact inferInstance
end U

/-! U19: own exceptions over any built-in class, as values. -/
namespace U
open PySem PySem.Spec L2
open PySem.HandSPX (excO)
section
open PySem.Builtin PySem.Builtin.ObjectAttr
variable {M : Model} {prog : Program} {w : World} {A : Around} {E : Value → Shared → Prop} {R : Result → Shared → Prop} {hp : Heap} {g : Array GenState} {d : Drawn} {t : Nat} {os : OsState}
variable {nm q : Str} {C N : Addr} {bs bm bmF : List Value} {hdct : Bool} {sn : List Str} {sub : List Value} {ab : Bool} {col : Option Bool} {dd : Option Addr} {k0 k1 k2 k3 k5 : Option Value} {B newId initId : String} {xs : List Value}
/-- what must be known of the built-in classes above -/
structure Above (B : String) (bm : List Value) : Prop where
  b : bm.contains (.type B) = true
  at_ : bm.contains (.type "AttributeError") = false
  nam : bm.contains (.type "NameError") = false
/-- __new__ of an own exception class whose maker is B's -/
theorem xnew_code (F : ExcBaseFacts B newId initId bmF) (T : Above B bm) (hC : hp.get? C = some (excClassObj nm q C N bs bm hdct sn sub ab col dd k0 k1 k2 k3 k5 newId)) (hz : xs.length ≤ sizeLine)
    (hq : R (.ok (.ret (.ref (hp.objs.size + 1)))) ⟨(hp.push (PySem.W.kdv_tup xs)).push (excO C hp.objs.size), g, d, t, os⟩) : codeAny (model prog w) A (.builtin newId ⟨.ref C :: xs, []⟩) R ⟨hp, g, d, t, os⟩ := by
  have e1 : (Value.ref C :: bm).contains (.type B) = true := by rw [List.contains_cons, T.b]; exact Bool.or_true _
  have e2 : (Value.ref C :: bm).contains (.type "AttributeError") = false := by rw [List.contains_cons, T.at_] <;> rfl
  have e3 : (Value.ref C :: bm).contains (.type "NameError") = false := by rw [List.contains_cons, T.nam] <;> rfl
  have e4 := F.ends
  refine codeAny_builtinAt F.entry ?_
  unfold Builtin.«BaseException.__new__»
  refine wpAt_bind ?_
  show wpAt _ _ _ (stack >>= _) _ _ _
  refine wpAt_bind (wpAt_stack fun _ _ => wpAt_of_wpAny ?_)
  wp_walk
  refine wpAt_of_wpAny ?_
  rw [F.owner]
  repeat (first | with_reducible refine wpAny_loadPart_at hC ?_ | with_reducible refine wpAny_madeHere_exc F.canon hC ?_ | (with_reducible refine wpAny_isSubtype_exc hC ?_; first | rw [e1] | rw [e2] | rw [e3]) | wp_step)
  show R _ _
  rw [Heap.size_push]
  exact hq
theorem xnew_check (F : ExcBaseFacts B newId initId bmF) (T : Above B bm) {Q : Unit → Shared → Prop} (hC : hp.get? C = some (excClassObj nm q C N bs bm hdct sn sub ab col dd k0 k1 k2 k3 k5 newId)) (hq : Q () ⟨hp, g, d, t, os⟩) :
    wpAny M A (checkBuiltinCall newId ⟨.ref C :: xs, []⟩) Q E ⟨hp, g, d, t, os⟩ := by
  have e1 : (Value.ref C :: bm).contains (.type B) = true := by rw [List.contains_cons, T.b]; exact Bool.or_true _
  have e4 := F.noStar
  simp only [checkBuiltinCall, F.newKind, F.newRow, F.newSplit]
  repeat (first | refine wpAny_loadPart_at hC ?_ | refine wpAny_madeBy_exc hC ?_ | refine wpAny_staticBase_exc hC ?_ | (refine wpAny_isSubtype_exc hC ?_; rw [e1]) | simp only [Bool.false_eq_true, if_false, bne_self_eq_false] | wp_step)
  exact hq
/-- C(..): a new exception object, then C's own __init__ -/
theorem xcall (F : ExcBaseFacts B newId initId bmF) (T : Above B bm) {fI : Addr} (hC : hp.get? C = some (excClassObj nm q C N bs bm hdct sn sub ab col dd k0 k1 k2 k3 k5 newId)) (hz : xs.length ≤ sizeLine)
    (hi : W.Looks (model prog w) hp (typeLookup (.ref C) "__init__") (some (.ref fI))) (hb : ∀ me, W.Looks (model prog w) hp (bindSpecial (.ref fI) me) (.ref fI, [me]))
    (hq : codeAny (model prog w) (A.under (.builtin "type.__call__" ⟨.ref C :: xs, []⟩)) (.call (.ref fI) ⟨.ref (hp.objs.size + 1) :: xs, []⟩) (W.InitBack (hp.objs.size + 1) R) ⟨(hp.push (PySem.W.kdv_tup xs)).push (excO C hp.objs.size), g, d, t, os⟩) :
    codeAny (model prog w) A (.call (.ref C) ⟨xs, []⟩) R ⟨hp, g, d, t, os⟩ := by
  have l1 := tc_lookup
  have l2 := tc_bind (.ref C)
  have l3 : (⟨hp, g, d, t, os⟩ : Shared).TypeIs (.ref C) "type" := ⟨_, hC, rfl⟩
  have keep : ∀ b o, hp.get? b = some o → ((hp.push (PySem.W.kdv_tup xs)).push (excO C hp.objs.size)).get? b = some o := fun b o e => Heap.get?_push_of_some _ (Heap.get?_push_of_some _ e)
  have new : ((hp.push (PySem.W.kdv_tup xs)).push (excO C hp.objs.size)).get? (hp.objs.size + 1) = some (excO C hp.objs.size) := by heap_get
  have hC' := keep _ _ hC
  have own : (Value.ref C :: bm).contains (.ref C) = true := by simp
  refine codeAny_of_tree ?_
  show wpAny _ _ (callAny (.ref C) _) _ _ _
  repeat (any_goals (first | assumption | with_reducible refine wpAny_loadPart_at hC ?_ | wp_step))
  refine ⟨rfl, codeAny_call_builtin_at (Code.quiet_builtin _ (by decide +kernel)) entry_typeCall (wpAny_check_type_call_sub hC ?_)⟩
  repeat (first | with_reducible refine wpAny_madeBy_exc hC ?_ | with_reducible refine wpAny_loadPart_at hC ?_ | wp_step)
  refine codeAny_call_builtin_code (Code.quiet_builtin _ F.quiet) (xnew_check F T hC (xnew_code F T hC hz ?_))
  show wpAny _ _ _ _ _ ⟨(hp.push (PySem.W.kdv_tup xs)).push (excO C hp.objs.size), g, d, t, os⟩
  unfold isInstance
  repeat (first | with_reducible refine wpAny_loadPart_at new ?_ | (with_reducible refine wpAny_isSubtype_exc hC' ?_; rw [own]) | wp_step)
  show wpAny _ _ (typeLookup (.ref C) _) _ _ _
  refine (hi.keeps keep).at (wpAny_holding (wpAny_bind (((hb (.ref (hp.objs.size + 1))).keeps keep).at (wpAny_bind (wpAny_call (codeAny_mono hq fun r s' z => ?_))))))
  cases r with
  | error e => exact z
  | ok f =>
    cases f with
    | ret v =>
      obtain ⟨rfl, z'⟩ := z
      first
        | exact wpAny_pure (wpAny_pure z')
        | (wp_walk; done)
        | (wp_walk; exact z')
    | next => exact z.elim
    | brk => exact z.elim
    | cont => exact z.elim
end
end U

/-! U20: own exceptions with an own __init__, held as values: made, stored into, read, asked of. -/
namespace U
open PySem PySem.Spec L2
open PySem.Builtin PySem.Builtin.ObjectAttr
theorem xsl {T sa : String} (h : T = "KeyError") (hs : sa = "object.__setattr__") : Slot T "__setattr__" sa := by
  subst h hs
  refine .of (owner := "object") (n := "__setattr__") ?_ (by decide +kernel) (by decide +kernel) (by decide +kernel) ?_ ?_
  · rw [typeLookup_type, builtinLookup_eq_fast]
    kernel_rfl
  · first
      | exact .inl (by decide +kernel)
      | exact .inr (by decide +kernel)
  · rw [isSubtype_type]
    kernel_rfl
theorem xsf_key : StoreFacts "KeyError" [.type "KeyError", .type "LookupError", .type "Exception", .type "BaseException", .type "object"] "object.__setattr__" "object" :=
  ⟨by kernel_rfl, xsl rfl rfl, PySem.F.entry_object_sa, by decide +kernel, by decide +kernel, by decide +kernel, fun a b c => by unfold argsOk; kernel_rfl, fun me => by kernel_rfl⟩
/-- a built-in exception class under own ones: what makes, what stores -/
structure XB (bm : List Value) (newId : String) : Prop where
  mkr : ∃ B initId bmF, ExcBaseFacts B newId initId bmF ∧ Above B bm
  st : ∃ B, StoreFacts B bm "object.__setattr__" "object"
  base : bm.contains (.type "BaseException") = true
abbrev mVal : List Value := [.type "ValueError", .type "Exception", .type "BaseException", .type "object"]
abbrev mKey : List Value := [.type "KeyError", .type "LookupError", .type "Exception", .type "BaseException", .type "object"]
abbrev mLook : List Value := [.type "LookupError", .type "Exception", .type "BaseException", .type "object"]
abbrev mIx : List Value := [.type "IndexError", .type "LookupError", .type "Exception", .type "BaseException", .type "object"]
abbrev mRun : List Value := [.type "RuntimeError", .type "Exception", .type "BaseException", .type "object"]
abbrev mOver : List Value := [.type "OverflowError", .type "ArithmeticError", .type "Exception", .type "BaseException", .type "object"]
abbrev mAr : List Value := [.type "ArithmeticError", .type "Exception", .type "BaseException", .type "object"]
theorem xb_val : XB mVal "ValueError.__new__" := ⟨⟨_, _, _, PySem.F.excBase_ValueError, by decide +kernel, by decide +kernel, by decide +kernel⟩, ⟨_, PySem.F.store_ValueError⟩, by decide +kernel⟩
theorem xb_key : XB mKey "LookupError.__new__" := ⟨⟨_, _, _, PySem.F.excBase_LookupError, by decide +kernel, by decide +kernel, by decide +kernel⟩, ⟨_, xsf_key⟩, by decide +kernel⟩
theorem xb_look : XB mLook "LookupError.__new__" := ⟨⟨_, _, _, PySem.F.excBase_LookupError, by decide +kernel, by decide +kernel, by decide +kernel⟩, ⟨_, PySem.F.store_LookupError⟩, by decide +kernel⟩
theorem xb_ix : XB mIx "IndexError.__new__" := ⟨⟨_, _, _, PySem.F.excBase_IndexError, by decide +kernel, by decide +kernel, by decide +kernel⟩, ⟨_, PySem.F.store_IndexError⟩, by decide +kernel⟩
theorem xb_run : XB mRun "RuntimeError.__new__" := ⟨⟨_, _, _, PySem.F.excBase_RuntimeError, by decide +kernel, by decide +kernel, by decide +kernel⟩, ⟨_, PySem.F.store_RuntimeError⟩, by decide +kernel⟩
theorem xb_over : XB mOver "OverflowError.__new__" := ⟨⟨_, _, _, PySem.F.excBase_OverflowError, by decide +kernel, by decide +kernel, by decide +kernel⟩, ⟨_, PySem.F.store_OverflowError⟩, by decide +kernel⟩
theorem xb_ar : XB mAr "ArithmeticError.__new__" := ⟨⟨_, _, _, PySem.F.excBase_ArithmeticError, by decide +kernel, by decide +kernel, by decide +kernel⟩, ⟨_, PySem.F.store_ArithmeticError⟩, by decide +kernel⟩
/-- what the written part says of an own exception class -/
structure XCl (K : PySem.W.Frag) (C : Addr) (bm : List Value) (newId : String) : Prop where
  mkr : PySem.W.excInitIn K C bm newId = true
  ov : PySem.W.excOver K C bm = true
  sa : PySem.W.findIn K (.ref C) "__setattr__" = some (some (.builtin "object.__setattr__"))
  kC : PySem.W.keepIn K (.ref C) = true
  is : ExcC K C
  tyC : PySem.W.typeIn K (.ref C) = some (.type "type")
theorem XCl.raises {X : Cx} {C : Addr} {bm : List Value} {newId : String} (T : XCl X.K C bm newId) : Raises X (.ref C) := raises_own T.is.hs T.tyC
section
variable {X : Cx} {pins : List (Addr × Obj)} {σ : L2.St} {H : Hp} {s : Shared} {a C : Addr} {f : Str} {y : V} {u : Value} {bm : List Value} {newId : String}
/-- self.f = y, the first field of an exception that is being made -/
theorem xst {Q : Unit → Shared → Prop} {E : Value → Shared → Prop} {A : Around} (B : XB bm newId) (T : XCl X.K C bm newId) (I : Inv X pins σ H s) (e : H a = some (exo a C none)) (ht : PySem.W.takerIn X.K C f = some none) (ry : RelV y u)
    (h : ∀ dx s', H dx = none → dx ≠ a → Inv X pins σ (upd (upd H dx (exd dx [(f, y)])) a (exo a C (some dx))) s' → Q () s') : wpAny (model X.prog X.w) A (setAttr (.ref a) f u) Q E s := by
  obtain ⟨Bs, SF⟩ := B.st
  obtain ⟨t1, ho⟩ := exo_at I.hok e
  have J : PySem.W.InstAt s.heap a { cls := .ref C, data := .fields #[.ref t1, .none, .none, .none, .bool false, .none] } C none := ⟨ho, rfl, rfl, trivial⟩
  have kin := I.kIn
  obtain ⟨nm, N, qn, bs, b2, hdct, sn, sub, ab, col, dd, k0, k1, k2, k3, k5, hC, _⟩ := PySem.W.excInit_of kin T.mkr
  obtain ⟨cd, hcd, hdc⟩ := PySem.W.any_some T.is.hd
  have Lc := PySem.W.looks_clsIn (M := model X.prog X.w) kin hcd
  obtain ⟨hp, g, d, t, os⟩ := s
  refine PySem.W.set_plain kin J T.sa (PySem.W.osa_openX SF kin J T.ov ht fun b => ?_)
  show wpAny _ _ (storeInOwnDict (.ref a) (.ref C) (.str f t) f u b) _ _ _
  have hxs : a ≠ hp.objs.size := Nat.ne_of_lt (Heap.lt_size ho)
  obtain ⟨n1, b1, m1, ns1, q1, h1, s1, u1, a1, c1, dl1⟩ := cd
  dsimp only at hdc
  subst hdc
  unfold storeInOwnDict ownDictForStores
  repeat (first | with_reducible refine PySem.HandSPX.store_in_new ?_ ?_ | with_reducible refine wpAny_loadPart_at ho ?_ | with_reducible refine Lc.at ?_ | wp_step)
  · refine ⟨{ cls := .type "dict", data := .dict #[] }, #[], _, ?_, rfl, fun e he => absurd he (by simp), fun _ => rfl⟩
    rw [Heap.get?_update_ne _ _ _ _ hxs.symm]
    exact Heap.get?_push_at rfl rfl
  · intro h' tk' hn hs
    generalize hdx : hp.objs.size = dx at *
    have hnd : H dx = none := I.hok.fresh (Nat.le_of_eq hdx)
    have gp : ∀ c o, hp.get? c = some o → (hp.push { cls := .type "dict", data := .dict #[] }).get? c = some o := fun c o z => Heap.get?_push_of_some _ z
    have nd : ∀ {c : Addr} {o : Obj}, hp.get? c = some o → c ≠ dx := fun {c o} z e => absurd (Heap.lt_size z) (by rw [e, ← hdx]; exact Nat.lt_irrefl _)
    have old : ∀ c o, c ≠ a → hp.get? c = some o → h'.get? c = some o := fun c o hc z => (hs.2 c (nd z)).trans ((Heap.get?_update_ne _ _ _ _ hc).trans (gp c o z))
    have hx : h'.get? a = some { cls := .ref C, dict := some dx, data := .fields #[.ref t1, .none, .none, .none, .bool false, .none] } := (hs.2 a hxs).trans (Heap.get?_update_self _ (gp _ _ ho) rfl)
    -- the dict first, then the object
    have I1 : Inv X pins σ (upd H dx (exd dx [(f, y)])) { (⟨hp, g, d, t, os⟩ : Shared) with heap := h'.update a (fun _ => { cls := .ref C, data := .fields #[.ref t1, .none, .none, .none, .bool false, .none] }), toks := tk' } := by
      refine I.laid (fun c o z => ?_) (Nat.le_of_eq hdx) (exd_ok (mA := fun z => if z = f then some u else none) (hn.at fun o z => ?_) (relO_put (fs := []) ry fun g => True.intro))
      · by_cases hc : c = a
        · subst hc
          rw [show some o = _ from z.symm.trans ho]
          exact Heap.get?_update_self _ hx rfl
        · rw [Heap.get?_update_ne _ _ _ _ hc]
          exact old c o hc z
      · rw [Heap.get?_update_ne _ _ _ _ hxs.symm]
        exact z
    have e1 : upd H dx (exd dx [(f, y)]) a = some (exo a C none) := by rw [upd_ne hxs]; exact e
    refine h dx _ hnd hxs.symm (I1.write (t' := tk') (x := a) (e := a) (by rw [e1]; exact True.intro) (.inl rfl) (fun c o hc z => ?_) ⟨_, hx⟩ (exo_ok hx))
    rw [Heap.get?_update_ne _ _ _ _ hc] at z
    exact z
end
end U

/-! U21: C(..), C an own exception class with an own __init__: as a value, and raised. -/
namespace U
open PySem PySem.Spec PyProof.Rows L2
open PySem.HandSPX (excO)
/-- C(e, ..) as a value: a new exception, then its own __init__ -/
def tMkV (C : Addr) (sp : Sp) (ta : TA) : TE := fun σ H Q => ta σ H fun vs H1 => vs.length ≤ 1000 ∧ ∀ a, H1 a = none → sp (.ref a :: vs) (upd H1 a (exo a C none)) (fun v H2 => v = .non ∧ Q (.ref a) H2) E0
/-- C(e, ..), to be raised -/
def tMkX (C : Addr) (sp : Sp) (ta : TA) : L2.St → Hp → XK → Prop := fun σ H Q => ta σ H fun vs H1 => vs.length ≤ 1000 ∧ ∀ a, H1 a = none → sp (.ref a :: vs) (upd H1 a (exo a C none))
  (fun v H2 => v = .non ∧ ∃ (d : Addr) (fs : List (Str × V)), H2 a = some (exo a C (some d)) ∧ H2 d = some (exd d fs) ∧ H1 d = none ∧ Q (.ref C) (some d) (upd (del H2 a) d (.xd fs))) E0
section
variable {X : Cx} {pins : List (Addr × Obj)} {σ : L2.St} {H1 : Hp} {s : Shared} {C fI : Addr} {bm : List Value} {newId : String} {CX : CXT} {k : Nat} {fd : FuncData} {ps : List Str} {sp : Sp} {us : List Value} {vs : List V}
theorem xcallR {Qi : Addr → VK} {Q : Value → Shared → Prop} (B : XB bm newId) (T : XCl X.K C bm newId) (iC : PySem.W.findIn X.K (.ref C) "__init__" = some (some (.ref fI))) (tI : PySem.W.typeIn X.K (.ref fI) = some (.type "function"))
    (F1 : FnOk X.prog X.w X.K X.mg X.base CX k fI fd ps sp) (hr : Room (k + 1) X.A) (hb : Binds X.K fd ps []) (hx : Passes CX X E0) (I1 : Inv X pins σ H1 s) (r1 : Vals vs us) (hl : vs.length ≤ 1000)
    (q1 : ∀ a, H1 a = none → sp (.ref a :: vs) (upd H1 a (exo a C none)) (fun v H2 => v = .non ∧ Qi a v H2) E0)
    (fin : ∀ (a : Addr) (hp2 : Heap) (s' : Shared), s.heap.objs.size ≤ a → H1 a = none → (∀ b o, s.heap.get? b = some o → hp2.get? b = some o) → Inv X pins σ (upd H1 a (exo a C none)) { s with heap := hp2 } →
      CE X.stack X.prog X.w (upd H1 a (exo a C none)) { s with heap := hp2 } (Qi a) .none s' → Q (.ref a) s') : wpAny (model X.prog X.w) X.A (call (.ref C) us) Q X.xe s := by
  obtain ⟨Bs, initId, bmF, F, ab⟩ := B.mkr
  obtain ⟨nm, N, qn, bs, b2, hdct, sn, sub, abs, col, dd, k0, k1, k2, k3, k5, hC, hT⟩ := PySem.W.excInit_of I1.kIn T.mkr
  have ab2 : Above Bs b2 := ⟨(hT _).trans ab.b, (hT _).trans ab.at_, (hT _).trans ab.nam⟩
  obtain ⟨hp, g, dr, tk, os⟩ := s
  have hsz : hp.objs.size ≤ hp.objs.size + 1 := Nat.le_succ _
  have hn : H1 (hp.objs.size + 1) = none := I1.hok.fresh hsz
  have hq := q1 _ hn
  have kk : ∀ b o, hp.get? b = some o → ((hp.push (PySem.W.kdv_tup us)).push (excO C hp.objs.size)).get? b = some o := fun b o e => Heap.get?_push_of_some _ (Heap.get?_push_of_some _ e)
  have new : ((hp.push (PySem.W.kdv_tup us)).push (excO C hp.objs.size)).get? (hp.objs.size + 1) = some (excO C hp.objs.size) := by heap_get
  have I2 : Inv X pins σ (upd H1 (hp.objs.size + 1) (exo (hp.objs.size + 1) C none)) ⟨(hp.push (PySem.W.kdv_tup us)).push (excO C hp.objs.size), g, dr, tk, os⟩ := I1.laid (t' := tk) kk hsz (exo_ok new)
  have r2 : Vals (V.ref (hp.objs.size + 1) :: vs) (Value.ref (hp.objs.size + 1) :: us) := .cons rfl r1
  have lus : us.length ≤ sizeLine := by
    rw [← r1.length, sizeLine_eq]
    omega
  have bnd := hb _ (Value.ref (hp.objs.size + 1) :: us) I2.kIn (by
    rw [← F1.len _ _ _ _ hq, List.append_nil]
    exact r2.length.symm)
  rw [List.append_nil] at bnd
  refine wpAny_call (xcall F ab2 hC lus (PySem.W.looks_findIn I1.kIn iC) (fun me => PySem.W.bind_fn I1.kIn me tI) (codeAny_mono (F1.run _ X.stack _ _ ⟨Value.ref (hp.objs.size + 1) :: us, []⟩ _ _ _ E0 (hr.make C us []) (I2.env0.make C us []) bnd r2 hq) fun r s' hc => ?_))
  match r, hc with
  | .error e, hc => exact hx pins σ _ _ e s' I2 hc
  | .ok (.ret u), ⟨v, H2, os2, bare2, un2, hok2, rv, ev, q2⟩ =>
    subst ev
    obtain rfl : u = Value.none := rv
    exact ⟨rfl, fin _ _ s' hsz hn kk I2 ⟨.non, H2, os2, bare2, un2, hok2, rfl, q2⟩⟩
  | .ok .next, hc => exact False.elim hc
  | .ok .brk, hc => exact False.elim hc
  | .ok .cont, hc => exact False.elim hc
end
section
variable {X : Cx} {C fI : Addr} {bm : List Value} {newId : String} {CX : CXT} {k : Nat} {fd : FuncData} {ps : List Str} {sp : Sp} {x : Str} {p pos : Pos} {e : Expr} {es : List Expr} {ta : TA}
theorem pe_xmake (B : XB bm newId) (T : XCl X.K C bm newId) (iC : PySem.W.findIn X.K (.ref C) "__init__" = some (some (.ref fI))) (tI : PySem.W.typeIn X.K (.ref fI) = some (.type "function"))
    (F1 : FnOk X.prog X.w X.K X.mg X.base CX k fI fd ps sp) (hr : Room (k + 1) X.A) (hb : Binds X.K fd ps []) (hx : Passes CX X E0) (hg : Gl X x) (hm : X.mg x = some (.ref C)) (ha : PA X (e :: es) ta)
    (hdb : (x == ("__debug__" : Str)) = false := by decide) (he : starEach (e :: es) X.env = (false, eval e X.env) :: starEach es X.env := by rfl) (hpl : (backTo pos (starEach es X.env)).any (·.1) = false := by rfl) :
    PE X (.Call (.Name x p) (e :: es) [] pos) (tMkV C sp ta) := by
  refine ⟨fun pins s σ H Q I h => wpAny_Call_Name_kw (ld_glob I hg hm (PySem.W.callWith_K (h₀ := X.base) I.ok.mod.kin T.kC (thn (ha.run pos pins s σ H _ I h) fun us s1 ⟨vs, H1, I1, r1, hl, q1⟩ => ⟨I1.kIn, ?_⟩) he hpl) hdb)⟩
  refine xcallR (Qi := fun a _ H2 => Q (.ref a) H2) B T iC tI F1 hr hb hx I1 r1 hl q1 fun a hp2 s' _ _ _ I2 c => ?_
  obtain ⟨v, H2, J, _, q⟩ := I2.after c
  exact ⟨.ref a, H2, J, rfl, q⟩
theorem pmk_x (B : XB bm newId) (T : XCl X.K C bm newId) (iC : PySem.W.findIn X.K (.ref C) "__init__" = some (some (.ref fI))) (tI : PySem.W.typeIn X.K (.ref fI) = some (.type "function"))
    (F1 : FnOk X.prog X.w X.K X.mg X.base CX k fI fd ps sp) (hr : Room (k + 1) X.A) (hb : Binds X.K fd ps []) (hx : Passes CX X E0) (hg : Gl X x) (hm : X.mg x = some (.ref C)) (ha : PA X (e :: es) ta)
    (hdb : (x == ("__debug__" : Str)) = false := by decide) (he : starEach (e :: es) X.env = (false, eval e X.env) :: starEach es X.env := by rfl) (hpl : (backTo pos (starEach es X.env)).any (·.1) = false := by rfl) :
    PMk X (.Call (.Name x p) (e :: es) [] pos) (tMkX C sp ta) := by
  intro pins s σ H Q I h
  refine wpAny_Call_Name_kw (ld_glob I hg hm (PySem.W.callWith_K (h₀ := X.base) I.ok.mod.kin T.kC (thn (ha.run pos pins s σ H _ I h) fun us s1 ⟨vs, H1, I1, r1, hl, q1⟩ => ⟨I1.kIn, ?_⟩) he hpl) hdb)
  obtain ⟨hp, g, dr, tk, os⟩ := s1
  refine xcallR (Qi := fun a _ H2 => ∃ (d : Addr) (fs : List (Str × V)), H2 a = some (exo a C (some d)) ∧ H2 d = some (exd d fs) ∧ H1 d = none ∧ Q (.ref C) (some d) (upd (del H2 a) d (.xd fs))) B T iC tI F1 hr hb hx I1 r1 hl q1 fun a hp2 s' hsz _ kk _ c => ?_
  obtain ⟨v, H2, os2, bare2, un2, hok2, _, d, fs, ea, ed, hd1, q2⟩ := c
  obtain ⟨h2, g2, d2, t2, os'⟩ := s'
  exact mk_end T.raises I1 hsz kk un2 hok2 os2 bare2 ea ed hd1 q2
end
end U

/-! U22: exceptions as values, made or caught: isinstance, fields; defs that are handed the caught one. -/
namespace U
open PySem PySem.Spec PyProof.Rows L2
/-- at a stands an exception of the class at D: one that was made, or one that is pinned (caught) -/
inductive XAt (pn : List (Addr × Obj)) (H : Hp) (a D : Addr) : Prop
  | plain : H a = some (ExO (.ref D) a) → XAt pn H a D
  | own {d : Addr} {fs : List (Str × V)} : H a = some (exo a D (some d)) → H d = some (exd d fs) → XAt pn H a D
  | pin {oe : Obj} : (a, oe) ∈ pn → Zc (.ref D) none oe → (∃ vs, oe.data = .fields vs) → XAt pn H a D
  | pind {oe : Obj} {d : Addr} {fs : List (Str × V)} : (a, oe) ∈ pn → Zc (.ref D) (some d) oe → (∃ vs, oe.data = .fields vs) → H d = some (.xd fs) → XAt pn H a D
theorem XAt.up {pn : List (Addr × Obj)} {H H' : Hp} {a D : Addr} (h : XAt pn H a D) (g : Gr H H') : XAt pn H' a D := by
  cases h with
  | plain e => exact .plain (g _ _ e)
  | own e1 e2 => exact .own (g _ _ e1) (g _ _ e2)
  | pin e z f => exact .pin e z f
  | pind e z f x => exact .pind e z f (g _ _ x)
section
variable {X : Cx} {pins : List (Addr × Obj)} {σ : L2.St} {H : Hp} {s : Shared} {a D : Addr}
theorem XAt.inst (I : Inv X pins σ H s) (h : XAt X.pn H a D) : ∃ oe od, PySem.W.InstAt s.heap a oe D od := by
  have key : ∀ {oe : Obj} {d : Option Addr} {od : Option Obj}, s.heap.get? a = some oe → Zc (.ref D) d oe → (∃ vs, oe.data = .fields vs) → (match d, od with | some dx, some o => s.heap.get? dx = some o | none, none => True | _, _ => False) → PySem.W.InstAt s.heap a oe D od := by
    intro oe d od e z f k
    obtain ⟨vs, f⟩ := f
    refine ⟨e, z.1, by unfold PySem.W.notCls; rw [f] <;> rfl, ?_⟩
    rw [z.2]
    exact k
  cases h with
  | plain e =>
    obtain ⟨⟨oe, vs, ho, hz, hd, _⟩, _, _⟩ := I.hok a _ e
    exact ⟨oe, none, key ho hz ⟨vs, hd⟩ trivial⟩
  | own e1 e2 =>
    obtain ⟨t1, ho⟩ := exo_at I.hok e1
    obtain ⟨m, hn, _⟩ := exd_at I.hok e2
    obtain ⟨od, e3, _⟩ := lookIn_ns hn
    exact ⟨_, some od, key ho ⟨rfl, rfl⟩ ⟨_, rfl⟩ e3⟩
  | pin e z f => exact ⟨_, none, key (I.pin _ (List.mem_append_left _ e)).1 z f trivial⟩
  | pind e z f x =>
    obtain ⟨m, hn, _⟩ : ObjOk X.prog X.w H s.heap _ (.xd _) := I.hok _ _ x
    obtain ⟨od, e3, _⟩ := lookIn_ns hn
    exact ⟨_, some od, key (I.pin _ (List.mem_append_left _ e)).1 z f e3⟩
/-- isinstance(e, c), e an exception -/
def rIsA (K : PySem.W.Frag) (pn : List (Addr × Obj)) : List V → Hp → VK → Prop := fun xs H Q => ∃ (a D : Addr) (c : V) (u : Value) (b : Bool), xs = [.ref a, c] ∧ XAt pn H a D ∧ ExcC K D ∧ ClsV c u ∧ PySem.W.kitOne K (.ref D) u = some b ∧ Q (.bl b) H
theorem call_isA : CallR X (.builtin "isinstance") (rIsA X.K X.pn) := by
  intro pins s σ H xs us Q I r h
  obtain ⟨a, D, c, u, b, rfl, ha, C, k, e, q⟩ := h
  obtain ⟨u1, u2, rfl, r1, r2⟩ := vals2 r
  cases (show u1 = Value.ref a from r1)
  have e2 := k.eq r2
  subst e2
  obtain ⟨oe, od, J⟩ := ha.inst I
  obtain ⟨cd, hcd, _⟩ := PySem.W.any_some C.hd
  exact PySem.W.kia_one (PySem.W.kitx_exc (by rw [hcd]; rfl) C.hg C.hk C.hs C.ha C.hn C.ht C.hm) I.kIn J e (fun z => nomatch z) fun tk => ⟨.bl b, H, I.tok tk, rfl, q⟩
/-- e.f, e an exception that was made -/
def tXo (f : Str) (te : TE) (K : PySem.W.Frag) : TE := fun σ H Q => te σ H fun x H1 => ∃ (a D d : Addr) (fs : List (Str × V)) (v : V), x = .ref a ∧ H1 a = some (exo a D (some d)) ∧ H1 d = some (exd d fs) ∧ ExcC K D ∧ PySem.W.findIn K (.ref D) f = some none ∧ fs.lookup f = some v ∧ Q v H1
theorem pe_xo {e : Expr} {te : TE} {pos : Pos} {n : Str} (he : PE X e te) (hb : attributeBase e n X.env (eval e X.env) = eval e X.env := by rfl) : PE X (.Attribute e n pos) (tXo n te X.K) := by
  refine ⟨fun pins s σ H Q I h => attr_of hb (thn (he.run pins s σ H _ I h) fun u s1 hh => ?_)⟩
  obtain ⟨x, H1, I1, rx, a, D, d, fs, v, rfl, e1, e2, C, hno, l, q⟩ := hh
  cases (show u = Value.ref a from rx)
  obtain ⟨t1, ho⟩ := exo_at I1.hok e1
  obtain ⟨m, hn, hr⟩ := exd_at I1.hok e2
  obtain ⟨od, e3, hl⟩ := lookIn_ns hn
  obtain ⟨u, hu, ru⟩ := RelO.some_of (v := v) (o := m n) (by rw [← l]; exact hr n)
  have J : PySem.W.InstAt s1.heap a _ D (some od) := ⟨ho, rfl, rfl, e3⟩
  exact HandSPX.exc_get I1.kIn J C.hg C.hk C.hs (PySem.W.findObj_own C.hd hno rfl (by rw [hl, hu])) (handed_of ru) ⟨v, H1, I1.tok _, ru, q⟩
end
/-! ### defs that are handed the caught exception, in an except suite -/
section
open L2H (RoomH PinOk cxH inv_startH)
structure FnE (P : Program) (w : World) (K : PySem.W.Frag) (mg : Str → Option Value) (base : Heap) (k : Nat) (f : Addr) (fd : FuncData) (ps : List Str) (sp : Addr × Obj → Sp) : Prop where
  len : ∀ p vs H Q E, sp p vs H Q E → vs.length = ps.length
  run : ∀ (A : Around) (outer : List Env) (s : Shared) (H : Hp) (args : Args) (us : List Value) (vs : List V) (Q : VK) (p : Addr × Obj), RoomH k A → PinOk outer H s p → Env0 P w K mg base A outer s H → BindsTo s fd args (ps.zip us) → Vals vs us → sp p vs H Q E0 →
    codeAny (model P w) A (.call (.ref f) args) (CR CX0 outer P w H s Q E0) s
variable {P : Program} {w : World} {K : PySem.W.Frag} {mg : Str → Option Value} {base : Heap} {k : Nat} {f : Addr} {fd : FuncData} {ps N : List Str} {sp : Addr × Obj → Sp} {st : Stmt} {nm qual : Str}
theorem okE (F : Fun K nm qual st f fd) (S : FnScope N ps (defScope st)) (len : ∀ p vs H Q E, sp p vs H Q E → vs.length = ps.length)
    (body : ∀ (cdv : Value) (A : Around) (outer : List Env) (s : Shared) (H : Hp) (vs : List V) (Q : VK) (p : Addr × Obj), RoomH k (A.deeper (envOfC qual (defScope st) s.heap.objs.size f cdv)) → sp p vs H Q E0 →
      ∃ t, PSs (cxH CX0 P w K mg base N qual (defScope st) f cdv A outer s H E0 p) (defBody st) t ∧ t { nx := fun _ H' => Q .non H', rt := Q } (start N vs) H) : FnE P w K mg base (k + 1) f fd ps sp := by
  obtain ⟨oc, od, kV, doc, pm, an, cdv, ct, osl, rfl, lk, hcd⟩ := F.ex
  refine ⟨len, fun A outer s H args us vs Q p hr pin e0 hb r hsp => ?_⟩
  have old : ∀ b o, base.get? b = some o → s.heap.get? b = some o := fun b o z => (e0.bs b o z).1
  have kin : K.In s.heap := e0.mod.kin.keeps old
  refine codeAny_call_function hr.depth (kin _ _ lk) rfl S.co S.gen rfl (PySem.W.codeRec_of kin hcd) (hb _ _ _ _ ?_)
  refine wpAny_newFunctionEnv_cells S.kind (fun y hy => ?_) fun env he s1 x => ?_
  · rcases S.par y.1 (List.of_mem_zip (show (y.1, y.2) ∈ _ from hy)).1 with q | q
    · exact .inl q
    · exact .inr ⟨q, PySem.W.cellsFrom_some _ _ _ (.inl q)⟩
  · subst he
    obtain ⟨t, ht, hq⟩ := body cdv A outer s H vs Q p (hr.deeper _) hsp
    refine ⟨(e0.mod.nolimit.keeps old).keeps x.toInCall.keep, codeAny_func (wpAny_mono (ht.run [] s1 _ H _ (inv_startH S pin e0 (len _ _ _ _ _ hsp) r x) hq) (fun fl s' hs => ?_) fun e s' hs => hs)⟩
    cases fl with
    | brk => exact let ⟨_, _, _, q⟩ := hs; False.elim q
    | cont => exact let ⟨_, _, _, q⟩ := hs; False.elim q
    | ret u => exact let ⟨v, _, H', J, rv, q⟩ := hs; ⟨v, H', J.os, J.bare, J.base, J.hok, rv, q⟩
    | next => exact let ⟨_, H', J, q⟩ := hs; ⟨V.non, H', J.os, J.bare, J.base, J.hok, rfl, q⟩
end
section
open L2H (RoomH PinOk)
variable {X : Cx} {k : Nat} {f : Addr} {fd : FuncData} {ps : List Str} {sp : Addr × Obj → Sp} {x : Str} {p : Addr × Obj} {q pos : Pos} {e : Expr} {es : List Expr} {t : TA}
/-- a call by what is asked of its arguments -/
def tCz (spz : List V → Hp → VK → Prop) (t : TA) : TE := fun σ H Q => t σ H fun vs H1 => spz vs H1 Q
theorem pe_callE {spz : List V → Hp → VK → Prop} (F : FnE X.prog X.w X.K X.mg X.base k f fd ps sp) (im : ∀ vs H Q, spz vs H Q → sp p vs H Q E0) (hr : RoomH k X.A) (hp : p ∈ X.pn) (hb : Binds X.K fd ps []) (hm : X.mg x = some (.ref f)) (hk : PySem.W.keepIn X.K (.ref f) = true) (hg : Gl X x) (ha : PA X (e :: es) t)
    (hdb : (x == ("__debug__" : Str)) = false := by decide) (he : starEach (e :: es) X.env = (false, eval e X.env) :: starEach es X.env := by rfl) (hpl : (backTo pos (starEach es X.env)).any (·.1) = false := by rfl) :
    PE X (.Call (.Name x q) (e :: es) [] pos) (tCz spz t) := by
  refine ⟨fun pins s σ H Q I h => wpAny_Call_Name_kw (ld_glob I hg hm (PySem.W.callWith_K (h₀ := X.base) I.ok.mod.kin hk (thn (ha.run pos pins s σ H _ I h) fun us s1 ⟨vs, H1, I1, r, hq⟩ => ⟨I1.kIn, ?_⟩) he hpl) hdb)⟩
  replace hq : sp p vs H1 Q E0 := im _ _ _ hq
  have hl : us.length = ps.length := by rw [← r.length]; exact F.len _ _ _ _ _ hq
  have b := hb s1 us I1.kIn (by rw [List.append_nil]; exact hl)
  rw [List.append_nil] at b
  obtain ⟨p1, p2, p3, p4, p5⟩ := I1.pin p (List.mem_append_left _ hp)
  have pin : PinOk X.stack H1 s1 p := ⟨p1, p2, fun hm => (List.mem_cons.mp (I1.stkSub p.1 hm)).elim p3 p4, p5⟩
  refine wpAny_call (codeAny_mono (F.run X.A X.stack s1 H1 ⟨us, []⟩ us vs Q p hr pin I1.env0 b r hq) fun r s' hc => ?_)
  match r, hc with
  | .error e, hc => exact hc.elim
  | .ok (.ret u), hc => exact I1.after hc
  | .ok .next, hc => exact False.elim hc
  | .ok .brk, hc => exact False.elim hc
  | .ok .cont, hc => exact False.elim hc
end
end U

/-! U23: try with many clauses, each with its name. -/
namespace U
open PySem PySem.Spec L2
/-- the slot i is unset behind a suite -/
def unset (i : Nat) (D : Ends) : Ends := { nx := fun σ H => D.nx (σ.set i none) H, rt := D.rt, bk := fun σ H => D.bk (σ.set i none) H, ct := fun σ H => D.ct (σ.set i none) H }
/-- what 'except c1 as n: .. except c2 as n: ..' wishes of an exception -/
def wNamed (K : PySem.W.Frag) (Wout : WX) (D : Ends) (i : Nat) : List (Value × (Addr → Value → Option Addr → TS)) → WX
  | [] => Wout
  | z :: r => fun cls d σ H => ∃ b, PySem.W.exmOne K cls z.1 = some b ∧ (b = true → ∀ a, H a = none → z.2 a cls d (unset i D) (σ.set i (some (.ref a))) H) ∧ (b = false → wNamed K Wout D i r cls d σ H)
inductive Named (X : Cx) (n : Str) : List ExceptHandler → List (Value × (Addr → Value → Option Addr → TS)) → Prop
  | nil : Named X n [] []
  | cons {x : Str} {c : Value} {ts : Addr → Value → Option Addr → TS} {b : Stmt} {bs : List Stmt} {p q : Pos} {hds : List ExceptHandler} {l : List (Value × (Addr → Value → Option Addr → TS))} (hc : Names X x c)
      (hsu : ∀ (a : Addr) (oe : Obj) (cls : Value) (d : Option Addr) (pn : List (Addr × Obj)), Zc cls d oe → (∃ vs, oe.data = .fields vs) → PSs (X.suite a ((a, oe) :: pn)) (b :: bs) (ts a cls d)) (r : Named X n hds l) :
      Named X n (.ExceptHandler (some (.Name x p)) (some n) (b :: bs) q :: hds) ((c, ts) :: l)
section
variable {X : Cx} {body : List Stmt} {h₀ : ExceptHandler} {hds : List ExceptHandler} {l : List (Value × (Addr → Value → Option Addr → TS))} {pos : Pos} {tb : WX → TS} {Wout : WX} {n : Str} {i : Nat}
/-- where a caught exception stands: out of the frames -/
theorem not_frame {B h : Heap} {l : List Env} {a : Addr} {o : Obj} {vs : Array Value} (ff : h.FunFrames B l) (e : h.get? a = some o) (d : o.data = .fields vs) : a ∉ frs l := by
  intro hm
  obtain ⟨_, o', e', nf⟩ := ff.mem hm
  have : o = o' := Option.some.inj (e.symm.trans e')
  exact nf _ (this ▸ d)
theorem ps_try_named (hs : X.stack = X.env :: X.outer) (hf : X.env.frame = some X.env.locals) (hN : X.N.Nodup) (hi : X.N[i]? = some n) (hln : X.env.kindOf n = some .local) (tk : Takes X Wout)
    (hb : ∀ (W : WX) (pn : List (Addr × Obj)) (xe : Value → Shared → Prop), Takes (X.tr pn xe) W → PassesOwn (model X.prog X.w) X.A X.env xe → PSs (X.tr pn xe) body (tb W))
    (hh : Named X n (h₀ :: hds) l) : PS X (.Try body (h₀ :: hds) [] [] pos) (fun D σ H => tb (wNamed X.K Wout D i l) D σ H) := by
  constructor
  intro pins s σ H D I h
  have ok := I.ok
  have frames : X.A.frames = some (X.env :: X.outer) := hs ▸ ok.frames
  let after : Value → Shared → Prop := fun e s₁ => wpAny (model X.prog X.w) X.A (noteFrame e X.env) (fun _ s₂ => wpAny (model X.prog X.w) X.A (setFlight e none) (fun _ s₃ => wpAny (model X.prog X.w) X.A (handleBy e X.env (h₀ :: hds)) (SP X pins D) X.xe s₃) X.xe s₂) X.xe s₁
  have inside := (hb (wNamed X.K Wout D i l) (X.pn ++ pins) after (fun u s' xx => ?flies) PassesOwn.looking).run [] s σ H D (I.toTry _) h
  case flies =>
    obtain ⟨a, B, sI, pins', σ', H', cls, d, rfl, J', nb, up, sky, na, os, ag, w⟩ := xx
    have J : Inv X pins σ' H' sI := J'.ofTry ok
    have sky2 : Sky B (X.env :: X.outer) a (Zc cls d) X.env.locals s'.heap := hs ▸ sky
    show wpAny (model X.prog X.w) X.A (noteFrame (.ref a) X.env) _ _ _
    refine Sky.land Zc.steady frames hf sky2 fun h3 fl up3 => ?_
    obtain ⟨o3, v3, he3, hz3, hd3⟩ := fl.there
    have J3 : Inv X pins σ' H' { s' with heap := h3 } := J.landed nb fl.1 (up.trans up3) os ag
    have out := not_frame fl.2.2.1 he3 hd3
    have nL : a ≠ X.env.locals := fun z => out (List.mem_filterMap.mpr ⟨X.env, List.mem_cons_self, by rw [hf, z]⟩)
    have nF : a ∉ X.fs := fun hm => let ⟨e, he, q⟩ := List.mem_filterMap.mp hm; out (List.mem_filterMap.mpr ⟨e, List.mem_cons_of_mem _ he, q⟩)
    have S3 := J3.suite he3 hd3 na nL nF
    clear out
    suffices go : ∀ {hds' : List ExceptHandler} {l' : List (Value × (Addr → Value → Option Addr → TS))}, Named X n hds' l' → wNamed X.K Wout D i l' cls d σ' H' → wpAny (model X.prog X.w) X.A (handleBy (.ref a) X.env hds') (SP X pins D) X.xe { s' with heap := h3 } from go hh w
    intro hds' l' hk
    induction hk with
    | nil =>
      intro w
      obtain ⟨_, _, _, oe, vs, T, _, _, he, _, hd, h1, _⟩ := id fl
      refine wpAny_handleBy_nil ?_
      unfold PySem.passOn
      refine wpAny_bind (wpAny_field he hd h1 ?_)
      have nn : ¬ ((Value.ref T == Value.none) = true) := by simp
      rw [if_neg nn]
      have up_ : wpAny (model X.prog X.w) X.A (setFlight (.ref a) X.env.frame) (fun _ s4 => wpAny (model X.prog X.w) X.A (throw (.ref a) : Sem Flow) (SP X pins D) X.xe s4) X.xe { s' with heap := h3 } := by
        rw [hf]
        exact HandSPX.setFlight_upZ fl fun h4 hh4 up4 => wpAny_throw (tk _ _ ⟨a, B, sI, pins, σ', H', cls, d, rfl, J, nb, (up.trans up3).trans up4, .inr (.inr (by rw [hs]; exact hh4)), na, os, ag, w⟩)
      first
        | exact wpAny_bind (wpAny_pure (wpAny_bind up_))
        | exact wpAny_bind up_
    | @cons x c ts b bs p q hds2 l2 hc hsu r ih =>
      intro w
      obtain ⟨yes, e, w1, w2⟩ := w
      have LT : PySem.W.Looks (model X.prog X.w) h3 (typeOf (.ref a)) cls := fun A Q E s k q => wpAny_typeOf_ref (k _ _ he3) (by rw [hz3.1]; exact q)
      have test : ∀ {Q : Value → Shared → Prop} {E : Value → Shared → Prop}, Q c { s' with heap := h3 } → wpAny (model X.prog X.w) (X.A.mark (some (.ref a))) (eval (.Name x p) X.env) Q E { s' with heap := h3 } := by
        intro Q E q
        obtain ⟨g, g2, k | ⟨k, k2, k3⟩⟩ := hc
        · exact ld_glob (X := X.suite a ((a, o3) :: (X.pn ++ pins))) S3 g k q g2
        · exact ld_blt (X := X.suite a ((a, o3) :: (X.pn ++ pins))) S3 g k k2 q k3 g2
      refine wpAny_handleBy_cons (codeAny_handlers_test (test ((PySem.W.exm_one (M := model X.prog X.w) J3.kIn LT e).here ?_))) (by intro z; cases z)
      cases yes with
      | false =>
        show wpAny _ X.A (handleBy (.ref a) X.env hds2) _ _ _
        exact ih (w2 rfl)
      | true =>
        refine codeAny_handlers_suite_as (HandSPX.lands_againZ fl fun h4 fl4 up4 => ?_)
        obtain ⟨o4, v4, he4, hz4, hd4⟩ := fl4.there
        have J4 : Inv X pins σ' H' { s' with heap := h4 } := J.landed nb fl4.1 ((up.trans up3).trans up4) os ag
        refine store_ok (X := X.suite a ((a, o4) :: (X.pn ++ pins))) (v := .ref a) (J4.suite he4 hd4 na nL nF) hN hi (.inl hln) rfl (fun s5 S5 => ?_) (.inr hln)
        have behind : ∀ {σ6 : L2.St} {H6 : Hp} {s6 : Shared} {Q : Shared → Prop}, Inv (X.suite a ((a, o4) :: (X.pn ++ pins))) [] σ6 H6 s6 → (∀ s7, Inv X pins (σ6.set i none) H6 s7 → Q s7) → wpAny (model X.prog X.w) X.A (do bindName X.env n .none; unbindBehindTheSuite X.env n q) (fun _ s7 => Q s7) X.xe s6 := fun S6 hq => gone_ok (S6.unsuite ok) hN hi hln hq
        refine wpAny_mono ((hsu a o4 cls d (X.pn ++ pins) hz4 ⟨_, hd4⟩).run [] s5 _ H' _ S5 (w1 rfl a na)) (fun f s6 hsp => ?_) fun _ _ z => False.elim z
        cases f with
        | ret u => exact let ⟨_, _, _, S6, r6, q6⟩ := hsp; behind S6 fun s7 J7 => ⟨_, _, _, J7, r6, q6⟩
        | next => exact let ⟨_, _, S6, q6⟩ := hsp; behind S6 fun s7 J7 => ⟨_, _, J7, q6⟩
        | brk => exact let ⟨_, _, S6, q6⟩ := hsp; behind S6 fun s7 J7 => ⟨_, _, J7, q6⟩
        | cont => exact let ⟨_, _, S6, q6⟩ := hsp; behind S6 fun s7 J7 => ⟨_, _, J7, q6⟩
  refine wpAny_Try_except (wpAny_mono inside (fun f s1 hsp => ?_) fun e s1 he => he)
  cases f with
  | ret u => exact let ⟨_, _, _, J, r, q⟩ := hsp; ⟨_, _, _, J.ofTry ok, r, q⟩
  | brk => exact let ⟨_, _, J, q⟩ := hsp; ⟨_, _, J.ofTry ok, q⟩
  | cont => exact let ⟨_, _, J, q⟩ := hsp; ⟨_, _, J.ofTry ok, q⟩
  | next => exact let ⟨_, _, J, q⟩ := hsp; wpAny_execs_nil ⟨_, _, J.ofTry ok, q⟩
end
end U

/-! U24: repr of odd values: data at any depth, one dict; lists of pairs of a text and such a value. -/
namespace U
open PySem PySem.Spec PyProof.Rows L2
/-- a value whose repr is asked for -/
inductive Odd (K : PySem.W.Frag) (H : Hp) : V → PyData → Prop
  | dp {v : V} {d : PyData} : Dp K H v d → d.showable = true → SeqAt.shaped d = true → d.shown.length ≤ 2000 → Odd K H v d
  | dic {a t : Addr} : H a = some (.dK [(.inr "a", .ref t)]) → SqT K H t [] → Odd K H (.ref a) (.dict [(.str "a", .tuple [])])
mutual
theorem dp_up {K : PySem.W.Frag} {H H' : Hp} (g : Gr H H') : ∀ {v : V} {d : PyData}, Dp K H v d → Dp K H' v d
  | _, _, .non => .non
  | _, _, .bl b => .bl b
  | _, _, .int i => .int i
  | _, _, .str x => .str x
  | _, _, .lst h q => .lst (sqlSame g h) (dpAll_up g q)
  | _, _, .tup h q => .tup (sqtSame g h) (dpAll_up g q)
theorem dpAll_up {K : PySem.W.Frag} {H H' : Hp} (g : Gr H H') : ∀ {vs : List V} {ds : List PyData}, DpAll K H vs ds → DpAll K H' vs ds
  | _, _, .nil => .nil
  | _, _, .cons h q => .cons (dp_up g h) (dpAll_up g q)
end
theorem Odd.up {K : PySem.W.Frag} {H H' : Hp} {v : V} {d : PyData} (h : Odd K H v d) (g : Gr H H') : Odd K H' v d := by
  cases h with
  | dp a b c e => exact .dp (dp_up g a) b c e
  | dic e t => exact .dic (g _ _ e) (sqtSame g t)
theorem Odd.len {K : PySem.W.Frag} {H : Hp} {v : V} {d : PyData} (h : Odd K H v d) : d.shown.length ≤ 2000 := by
  cases h with
  | dp a b c e => exact e
  | dic e t => decide +kernel
theorem Odd.showable {K : PySem.W.Frag} {H : Hp} {v : V} {d : PyData} (h : Odd K H v d) : d.showable = true := by
  cases h with
  | dp a b c e => exact b
  | dic e t => rfl
theorem Odd.depth {K : PySem.W.Frag} {H : Hp} {v : V} {d : PyData} (h : Odd K H v d) : d.depth ≤ 64 := by
  cases h with
  | dp a b c e => exact SeqAt.depth_of_shaped c
  | dic e t => decide +kernel
section
variable {X : Cx} {pins : List (Addr × Obj)} {σ : L2.St} {H : Hp} {s : Shared}
theorem Odd.reads {v : V} {d : PyData} {u : Value} (I : Inv X pins σ H s) (h : Odd X.K H v d) (r : RelV v u) : ∃ as, Reads s.heap u d as ∧ (d.hasDict = true → sysModules ∉ as) := by
  cases h with
  | dp a b c e =>
    obtain ⟨as, q⟩ := Dp.reads I d _ u a r
    exact ⟨as, q, PyData.noDict_hsm (PyData.hasDict_of_canLay d (SeqAt.canLay_of_shaped c))⟩
  | @dic a t e q =>
    cases (show u = Value.ref a from r)
    obtain ⟨hz, hs, vs, kv, o, es, ep, ho, hx, hd, _, hp, _⟩ := dk_of I.hok e
    cases kv with
    | @cons _ b _ _ k1 kr =>
      cases kr
      obtain ⟨kb, vb⟩ := b
      obtain ⟨ek, rv⟩ := k1
      replace ek : (Sum.inr (Str.ofString "a") : Key) = kb := ek
      subst ek
      cases (show vb = Value.ref t from rv)
      obtain ⟨l⟩ := es
      have hp' : Pairs (mixKind X.prog X.w) l [(Sum.inr "a", Value.ref t)] := hp
      cases hp' with
      | @cons en _ _ _ h1 h2 h3 =>
        cases h3
        obtain ⟨x, tk, e1, e2⟩ : ∃ x tk, (Sum.inr "a" : Key) = Sum.inr x ∧ en.key = Value.str x tk := by
          rcases keyIs_shape (show keyIs (Sum.inr "a") en.key = true from h1) with ⟨i, tk, z, _⟩ | h
          · cases z
          · exact h
        cases e1
        obtain ⟨its, rt, ⟨ot, ht, hc, n, hd2⟩, _⟩ := I.tuple q
        cases rt
        have r0 : Reads s.heap (.ref t) (.tuple []) [] := Reads.tuple ht hc hd2 .nil
        refine ⟨_, Reads.dict (as := [] ++ []) (bs := [] ++ []) ho hx.1 hd ?_ ?_, fun _ hm => ?_⟩
        · show ReadsAll s.heap [en.key] [.str "a"] _
          rw [e2]
          exact .cons (.str _ _) .nil
        · show ReadsAll s.heap [en.val] [.tuple []] _
          rw [h2]
          exact .cons r0 .nil
        · have : sysModules = a := by simpa using hm
          rw [this] at hs
          simp at hs
/-- repr(v) -/
def uReprO (K : PySem.W.Frag) : List V → Hp → VK → Prop := fun vs H Q => ∃ v d, vs = [v] ∧ Odd K H v d ∧ Q (.str d.shown) H
theorem caReprO (hg : X.A.guards = some []) (hu : X.A.units + 70 < cLine) : CallR X (.builtin "repr") (uReprO X.K) := fun p s z H xs us Q I r h => by
  obtain ⟨v, d, rfl, ho, q⟩ := h
  obtain ⟨u, rfl, ru⟩ := L2.vals1 r
  have hl : d.shown.length ≤ sizeLine := Nat.le_trans ho.len (by decide)
  obtain ⟨as, rd, hs⟩ := ho.reads I ru
  have hd := ho.depth
  cases rd with
  | none =>
    rw [PyData.shown_none] at q
    exact PySem.P.repr_of_none ⟨.str _, H, I.tok _, ⟨_, rfl⟩, q⟩
  | bool b =>
    rw [PyData.shown_bool] at q
    exact PySem.P.repr_of_bool ⟨.str (bstr b), H, I.tok _, ⟨_, rfl⟩, q⟩
  | int i t =>
    rw [PyData.shown_int] at q
    have hi : i.natAbs.log2 < 1920 := by simpa [PyData.showable] using ho.showable
    exact PySem.P.repr_of_int hi ⟨.str _, H, I.tok _, ⟨_, rfl⟩, q⟩
  | str x t =>
    rw [PyData.shown_str] at q hl
    exact PySem.P.repr_of_str ⟨.str _, H, I.tok _, ⟨_, rfl⟩, q⟩ hl
  | list h1 h2 h3 h4 => exact repr_of_reads' (Reads.list h1 h2 h3 h4) ho.showable hs hg (by omega) (fun _ _ e => e) (fun h' u tk k => ⟨.str _, H, I.kept (t' := tk) k, ⟨_, rfl⟩, q⟩) hl
  | tuple h1 h2 h3 h4 => exact repr_of_reads' (Reads.tuple h1 h2 h3 h4) ho.showable hs hg (by omega) (fun _ _ e => e) (fun h' u tk k => ⟨.str _, H, I.kept (t' := tk) k, ⟨_, rfl⟩, q⟩) hl
  | dict h1 h2 h3 h4 h5 => exact repr_of_reads' (Reads.dict h1 h2 h3 h4 h5) ho.showable hs hg (by omega) (fun _ _ e => e) (fun h' u tk k => ⟨.str _, H, I.kept (t' := tk) k, ⟨_, rfl⟩, q⟩) hl
theorem ref_of {v : V} {a : Addr} (r : L2.RelV v (.ref a)) : v = .ref a := by
  cases v with
  | ref b => cases (show Value.ref a = Value.ref b from r); rfl
  | non => cases (show Value.ref a = Value.none from r)
  | bl b => cases (show Value.ref a = Value.bool b from r)
  | ty n => cases (show Value.ref a = Value.type n from r)
  | int i => exact let ⟨_, e⟩ := (show ∃ t, Value.ref a = Value.int i t from r); nomatch e
  | str i => exact let ⟨_, e⟩ := (show ∃ t, Value.ref a = Value.str i t from r); nomatch e
  | byt i => exact let ⟨_, e⟩ := (show ∃ t, Value.ref a = Value.bytes i t from r); nomatch e
  | flt i => exact let ⟨_, e⟩ := (show ∃ t, Value.ref a = Value.float i t from r); nomatch e
/-- no list stands in it -/
def Far (v : V) (d : PyData) : Prop := (∀ a, v ≠ .ref a) ∨ d.hasDict = true
theorem Odd.far {v : V} {d : PyData} {u : Value} (I : Inv X pins σ H s) (h : Odd X.K H v d) (f : Far v d) (r : RelV v u) : ∃ as, Reads s.heap u d as ∧ sysModules ∉ as := by
  obtain ⟨as, rd, no⟩ := h.reads I r
  rcases f with f | f
  · cases rd with
    | none => exact ⟨_, .none, fun z => nomatch z⟩
    | bool b => exact ⟨_, .bool b, fun z => nomatch z⟩
    | int i t => exact ⟨_, .int i t, fun z => nomatch z⟩
    | str x t => exact ⟨_, .str x t, fun z => nomatch z⟩
    | list h1 h2 h3 h4 => exact absurd (ref_of r) (f _)
    | tuple h1 h2 h3 h4 => exact absurd (ref_of r) (f _)
    | dict h1 h2 h3 h4 h5 => exact absurd (ref_of r) (f _)
  · exact ⟨as, rd, no f⟩
/-- a list of pairs of a text and an odd value: no dicts stand in it (b), or no lists -/
inductive OddP (K : PySem.W.Frag) (H : Hp) (b : Bool) : List V → List PyData → Prop
  | nil : OddP K H b [] []
  | cons {t : Addr} {x : Str} {v : V} {d : PyData} {vs : List V} {ds : List PyData} : SqT K H t [.str x, v] → (reprText x).length ≤ 400 → Odd K H v d → (b = true → d.hasDict = false) → (b = false → Far v d) → OddP K H b vs ds → OddP K H b (.ref t :: vs) (.tuple [.str x, d] :: ds)
theorem OddP.up {K : PySem.W.Frag} {H H' : Hp} {b : Bool} (g : Gr H H') {vs : List V} {ds : List PyData} (h : OddP K H b vs ds) : OddP K H' b vs ds := by
  induction h with
  | nil => exact .nil
  | cons a b c e f _ ih => exact .cons (sqtSame g a) b (c.up g) e f ih
theorem OddP.append {K : PySem.W.Frag} {H : Hp} {b : Bool} {vs ws : List V} {ds es : List PyData} (h : OddP K H b vs ds) (k : OddP K H b ws es) : OddP K H b (vs ++ ws) (ds ++ es) := by
  induction h with
  | nil => exact k
  | cons a b c e f _ ih => exact .cons a b c e f ih
theorem pair_len {x : Str} {d : PyData} (h : (reprText x).length ≤ 400) (k : d.shown.length ≤ 2000) : (PyData.tuple [.str x, d]).shown.length ≤ 2406 := by
  rw [PyData.shown_tuple]
  simp only [PyData.shownAll_cons, PyData.shownAll_nil, PyData.shown_str]
  have e := PySem.join_length_add [reprText x, d.shown] (by simp)
  rw [piled_cons, piled_cons, piled_nil] at e
  rw [Str.length_append, Str.length_append]
  have a1 : (("(" : String) : Str).length = 1 := by decide +kernel
  have a2 : ((if ([PyData.str x, d] : List PyData).length == 1 then ",)" else ")" : String) : Str).length = 1 := by
    show (((")" : String) : Str)).length = 1
    decide +kernel
  omega
theorem OddP.reads {b : Bool} (I : Inv X pins σ H s) {vs : List V} {ds : List PyData} (h : OddP X.K H b vs ds) : ∀ {us : List Value}, Vals vs us →
    ∃ as, ReadsAll s.heap us ds as ∧ (b = true → PyData.hasDictAll ds = false) ∧ (b = false → sysModules ∉ as) ∧ PyData.showableAll ds = true ∧ PyData.depthAll ds ≤ 65 ∧ piled (PyData.shownAll ds) ≤ 2408 * ds.length := by
  induction h with
  | nil =>
    intro us r
    cases r
    exact ⟨[], .nil, fun _ => rfl, fun _ => List.not_mem_nil, rfl, Nat.zero_le _, Nat.zero_le _⟩
  | @cons t x v d vs ds ht hx ho hb hf _ ih =>
    intro us r
    cases r with
    | @cons _ u _ us r1 r2 =>
      cases (show u = Value.ref t from r1)
      obtain ⟨as, q1, q2, q3, q4, q5, q6⟩ := ih r2
      obtain ⟨its, rt, ⟨ot, hot, hc, n, hd2⟩, _⟩ := I.tuple ht
      obtain ⟨ux, uv, rfl, rx, rv⟩ := vals2 rt
      obtain ⟨tk, rfl⟩ := rx
      have dp := ho.depth
      obtain ⟨bs, b1, b2⟩ : ∃ bs, Reads s.heap uv d bs ∧ (b = false → sysModules ∉ bs) := by
        cases b with
        | true => exact let ⟨bs, b1, _⟩ := ho.reads I rv; ⟨bs, b1, fun z => nomatch z⟩
        | false => exact let ⟨bs, b1, b2⟩ := ho.far I (hf rfl) rv; ⟨bs, b1, fun _ => b2⟩
      refine ⟨_, .cons (Reads.tuple hot hc hd2 (.cons (.str x tk) (.cons b1 .nil))) q1, fun z => ?_, fun z hm => ?_, ?_, ?_, ?_⟩
      · simp only [PyData.hasDictAll, PyData.hasDict, hb z, q2 z, Bool.or_self]
      · rcases List.mem_append.mp hm with hm | hm
        · have hm' : sysModules ∈ bs := by simpa using hm
          exact b2 z hm'
        · exact q3 z hm
      · simp only [PyData.showableAll, PyData.showable, ho.showable, q4, Bool.and_self]
      · simp only [PyData.depthAll, PyData.depth]
        omega
      · rw [PyData.shownAll_cons, piled_cons, List.length_cons]
        have := pair_len hx ho.len
        omega
/-- repr of a list of such pairs -/
def uReprP (K : PySem.W.Frag) : List V → Hp → VK → Prop := fun vs H Q => ∃ (L : Addr) (xs : List V) (ds : List PyData) (b : Bool), vs = [.ref L] ∧ SqL K H L xs ∧ OddP K H b xs ds ∧ 0 < ds.length ∧ ds.length ≤ 100 ∧ Q (.str (PyData.list ds).shown) H
theorem caReprP (hg : X.A.guards = some []) (hu : X.A.units + 70 < cLine) : CallR X (.builtin "repr") (uReprP X.K) := fun p s z H xs us Q I r h => by
  obtain ⟨L, ys, ds, b, rfl, hL, ho, l0, l1, q⟩ := h
  obtain ⟨u, rfl, ru⟩ := L2.vals1 r
  cases (show u = Value.ref L from ru)
  obtain ⟨its, rv, ⟨o, n, hot, hc, _, hd⟩, _⟩ := I.list hL
  obtain ⟨as, q1, q2, q3, q4, q5, q6⟩ := ho.reads I rv
  have e := PySem.join_length_add (PyData.shownAll ds) (by
    intro z
    have := PyData.shownAll_length ds
    rw [z] at this
    simp at this
    omega)
  have hl : (PyData.list ds).shown.length ≤ sizeLine := by
    rw [PyData.shown_list, Str.length_append, Str.length_append]
    have a1 : (("[" : String) : Str).length = 1 := by decide +kernel
    have a2 : (("]" : String) : Str).length = 1 := by decide +kernel
    have : sizeLine = 16777216 := sizeLine_eq
    omega
  have fin : ∀ (h' : Heap) (u tk : Nat), (∀ b o, s.heap.get? b = some o → h'.get? b = some o) → EP X p z Q (.str (PyData.list ds).shown u) { s with heap := h', toks := tk } := fun h' u tk k => ⟨.str _, H, I.kept (t' := tk) k, ⟨_, rfl⟩, q⟩
  have hsh : (PyData.list ds).showable = true := by simpa [PyData.showable] using q4
  have hdep : (PyData.list ds).depth ≤ 66 := by simp only [PyData.depth]; omega
  cases b with
  | true =>
    refine repr_of_reads' (Reads.list hot hc hd q1) hsh (fun k => ?_) hg (by omega) (fun _ _ e => e) fin hl
    simp only [PyData.hasDict] at k
    rw [q2 rfl] at k
    cases k
  | false =>
    -- the list's own address does not matter
    have hz' : (listText (PyData.shownAll ds)).length ≤ sizeLine := by simpa only [PyData.shown] using hl
    obtain ⟨bs, hb, hk⟩ := ReprAllK.of_readsAll (prog := X.prog) (w := X.w) q1 q4 (fun _ => q3 rfl) fun t ht => Nat.le_trans (listText_mem_le ht) hz'
    have hna : L ∉ bs := not_mem_of_deeper (Reads.list hot hc hd q1) (by simp only [PyData.depth]; omega) hb
    have fin2 : ∀ (h' : Heap) (u tk : Nat), (∀ b o, s.heap.get? b = some o → h'.get? b = some o) → ∃ x t, (Value.str (listText (PyData.shownAll ds)) u : Value) = .str x t ∧ EP X p z Q (.str (listText (PyData.shownAll ds)) u) { s with heap := h', toks := tk } := by
      intro h' u tk k
      have := fin h' u tk k
      simp only [PyData.shown] at this
      exact ⟨_, _, rfl, this⟩
    refine call_repr_slot (by omega) ⟨o, hot, hc⟩ F.slot_list_repr.toG ?_
    match hi : its with
    | [] =>
      cases rv
      cases ho
      simp at l0
    | x :: l =>
      subst hi
      refine call_list_reprK hot hc hd hna (by simpa using hk.length_eq) (fun i y e => hk.item i y (by simpa using e)) hg (fun b _ => Clear.nil b) ?_ (fun _ _ e => e) fin2 hz'
      show X.A.units + 1 + (PyData.depthAll ds + 1) < cLine
      omega
end
end U

/-! U25: statements of exceptions: the store of a field; what isinstance says of a class. -/
namespace U
open PySem PySem.Spec PyProof.Rows L2
/-- self.f = e in the __init__ of an own exception class -/
def tXst (C : Addr) (f : Str) (to te : TE) : TS := fun D σ H => te σ H fun y H1 => to σ H1 fun x H2 => ∃ a : Addr, x = .ref a ∧ H2 a = some (exo a C none) ∧ ∀ dx, H2 dx = none → dx ≠ a → D.nx σ (upd (upd H2 dx (exd dx [(f, y)])) a (exo a C (some dx)))
theorem ps_xst {X : Cx} {C : Addr} {bm : List Value} {newId : String} {o e : Expr} {to te : TE} {f : Str} {p' pos : Pos} (B : XB bm newId) (T : XCl X.K C bm newId) (ht : PySem.W.takerIn X.K C f = some none) (ho : PE X o to) (he : PE X e te)
    (hs : swapsWith e (some (.Attribute o f p')) pos.line X.env = pure false := by rfl) : PS X (.Assign [.Attribute o f p'] e pos) (tXst C f to te) := by
  refine ⟨fun pins s σ H D I h => plainObj_wpAny_Assign_Attribute (thn (he.run pins s σ H _ I h) fun v s1 ⟨y, H1, I1, r1, q1⟩ => thn (ho.run pins s1 σ H1 _ I1 q1) fun u s2 ⟨x, H2, I2, r2, a, ex, ea, q⟩ => ?_) hs⟩
  subst ex
  obtain rfl : u = Value.ref a := r2
  exact xst B T I2 ea ht r1 fun dx s' n ne J => ⟨σ, _, J, q dx n ne⟩
/-- what isinstance says of the class D, for the classes cs -/
abbrev OwnK (K : PySem.W.Frag) (cs : List Value) (D : Addr) (bs : List Bool) : Prop := (cs.map fun c => PySem.W.kitOne K (.ref D) c) = bs.map some
theorem OwnK.at {K : PySem.W.Frag} {cs : List Value} {D : Addr} {bs : List Bool} (h : OwnK K cs D bs) (i : Nat) {c : Value} (e : cs[i]? = some c) : ∃ b, bs[i]? = some b ∧ PySem.W.kitOne K (.ref D) c = some b := by
  have z := congrArg (·[i]?) h
  simp only [List.getElem?_map, e, Option.map_some] at z
  cases q : bs[i]? with
  | none => rw [q] at z; cases z
  | some b => rw [q] at z; exact ⟨b, rfl, Option.some.inj z⟩
end U
namespace U
open PySem PySem.Spec PyProof.Rows L2
/-- the __init__ of an own exception class that keeps what it takes in f -/
def spXi (C : Addr) (f : Str) : Sp := fun vs H Q _ => ∃ (a : Addr) (v : V), vs = [.ref a, v] ∧ H a = some (exo a C none) ∧ ∀ dx, H dx = none → dx ≠ a → Q .non (upd (upd H dx (exd dx [(f, v)])) a (exo a C (some dx)))
theorem mkV_R {C : Addr} {f : Str} {v : V} {H : Hp} {R : Addr → Hp → Prop} (hq : ∀ a d H', Gr H H' → H a = none → H' a = some (exo a C (some d)) → H' d = some (exd d [(f, v)]) → R a H') :
    ∀ a, H a = none → spXi C f (.ref a :: [v]) (upd H a (exo a C none)) (fun w H2 => w = .non ∧ R a H2) E0 := by
  intro a na
  refine ⟨a, v, rfl, upd_same, fun d nd ne => ⟨rfl, hq a d _ (fun b u e => ?_) na upd_same (by rw [upd_ne ne, upd_same])⟩⟩
  rw [upd_ne ne] at nd
  rw [upd_ne (ne_of_none e na), upd_ne (ne_of_none e nd), upd_ne (ne_of_none e na)]
  exact e
theorem mkX_R {C : Addr} {f : Str} {v : V} {H : Hp} {R : Addr → Addr → List (Str × V) → Hp → Prop} (hq : ∀ a d H2, Gr H (upd (del H2 a) d (.xd [(f, v)])) → H d = none → R a d [(f, v)] H2) :
    ∀ a, H a = none → spXi C f (.ref a :: [v]) (upd H a (exo a C none)) (fun w H2 => w = .non ∧ ∃ (d : Addr) (fs : List (Str × V)), H2 a = some (exo a C (some d)) ∧ H2 d = some (exd d fs) ∧ H d = none ∧ R a d fs H2) E0 := by
  intro a na
  refine ⟨a, v, rfl, upd_same, fun d nd ne => ⟨rfl, d, _, upd_same, by rw [upd_ne ne, upd_same], by rw [upd_ne ne] at nd; exact nd, hq a d _ (fun b u e => ?_) (by rw [upd_ne ne] at nd; exact nd)⟩⟩
  rw [upd_ne ne] at nd
  rw [upd_ne (ne_of_none e nd), del_ne (ne_of_none e na), upd_ne (ne_of_none e na), upd_ne (ne_of_none e nd), upd_ne (ne_of_none e na)]
  exact e
end U
namespace U
open PySem PySem.Spec PyProof.Rows L2
theorem Gr.free' {H H' : Hp} {p : Addr} (g : Gr H H') (h : H' p = none) : H p = none := by
  cases e : H p with
  | none => rfl
  | some o => rw [g _ _ e] at h; cases h
end U
namespace U
open PySem PySem.Spec PyProof.Rows L2
/-- pairs of a text and a value -/
inductive PrA (H : Hp) : List V → List (Str × V) → Prop
  | nil : PrA H [] []
  | cons {t : Addr} {x : Str} {v : V} {vs : List V} {ps : List (Str × V)} : H t = some (.tup [.str x, v]) → PrA H vs ps → PrA H (.ref t :: vs) ((x, v) :: ps)
theorem PrA.up {H H' : Hp} (g : Gr H H') {vs : List V} {ps : List (Str × V)} (h : PrA H vs ps) : PrA H' vs ps := by
  induction h with
  | nil => exact .nil
  | cons a _ ih => exact .cons (g _ _ a) ih
end U
namespace U
open PySem PySem.Spec PyProof.Rows L2
theorem caReprOK {X : Cx} {K : PySem.W.Frag} (hK : X.K = K) (hg : X.A.guards = some []) (hu : X.A.units + 70 < cLine) : CallR X (.builtin "repr") (uReprO K) := hK ▸ caReprO hg hu
end U
namespace U
open PySem PySem.Spec PyProof.Rows L2
theorem roomMark {k : Nat} {A : Around} {v : Option Value} (r : Room k A) : L2H.RoomH k (A.mark v) := ⟨r.dp, r.un⟩
end U
namespace U
open PySem PySem.Spec PyProof.Rows L2
theorem opAddK {X : Cx} {K : PySem.W.Frag} (hK : X.K = K) : OpR X (binaryOp .Add) (uAdd K) := hK ▸ opAdd
end U
namespace U
open PySem PySem.Spec PyProof.Rows L2
theorem opEqK {X : Cx} {K : PySem.W.Frag} (hK : X.K = K) (hu : X.A.units + 64 < cLine) : OpR X (compareOp .Eq) (uEq K) := hK ▸ opEq hu
end U
namespace U
open PySem PySem.Spec PyProof.Rows L2
section
variable {K : PySem.W.Frag} {Wout : WX} {D : Ends} {i : Nat} {c cls : Value} {ts : Addr → Value → Option Addr → TS} {r : List (Value × (Addr → Value → Option Addr → TS))} {d : Option Addr} {σ : L2.St} {H : Hp}
theorem wn_no (e : PySem.W.exmOne K cls c = some false) (h : wNamed K Wout D i r cls d σ H) : wNamed K Wout D i ((c, ts) :: r) cls d σ H := ⟨false, e, fun z => absurd z (by decide), fun _ => h⟩
theorem wn_yes (e : PySem.W.exmOne K cls c = some true) (h : ∀ a, H a = none → ts a cls d (unset i D) (σ.set i (some (.ref a))) H) : wNamed K Wout D i ((c, ts) :: r) cls d σ H := ⟨true, e, fun _ => h, fun z => absurd z (by decide)⟩
end
end U
namespace U
open PySem PySem.Spec PyProof.Rows L2
def uReprOP (K : PySem.W.Frag) : List V → Hp → VK → Prop := fun vs H Q => uReprO K vs H Q ∨ uReprP K vs H Q
theorem caReprOP {X : Cx} (hg : X.A.guards = some []) (hu : X.A.units + 70 < cLine) : CallR X (.builtin "repr") (uReprOP X.K) := fun p s z H xs us Q I r h =>
  h.elim (fun h => caReprO hg hu p s z H xs us Q I r h) (fun h => caReprP hg hu p s z H xs us Q I r h)
theorem At.gr {H0 H H' : Hp} {D : List Addr} {F M : List (Addr × HO)} (L : At H0 D F M H) (g : Gr H H') : At H0 D F M H' := ⟨fun a o e n => g _ _ (L.fr a o e n), fun p hp => g _ _ (L.fa p hp), fun p hp => g _ _ (L.mu p hp), L.mf, L.df, L.nd⟩
theorem At.add {H0 H H' : Hp} {D : List Addr} {F M : List (Addr × HO)} {p : Addr} {o : HO} (L : At H0 D F M H) (g : Gr H H') (n : H p = none) (e : H' p = some o) : At H0 D ((p, o) :: F) M H' := by
  have L' := L.gr g
  refine ⟨L'.fr, fun q hq => ?_, L'.mu, L'.mf, fun q hq r hr => ?_, L'.nd⟩
  · rcases List.mem_cons.mp hq with rfl | hq
    · exact e
    · exact L'.fa q hq
  · rcases List.mem_cons.mp hr with rfl | hr
    · intro z
      have := L.mu q hq
      rw [z, n] at this
      cases this
    · exact L'.df q hq r hr
end U

/-! U26: sets of texts: made, added to, sorted. -/
namespace U
open PySem PySem.Spec PyProof.Rows L2
/-- the text of an entry -/
def txtOf (e : Int × Value) : Str := match e.2 with | .str x _ => x | _ => Str.empty
def TxtE (w : World) (e : Int × Value) : Prop := ∃ x tk, e.2 = Value.str x tk ∧ e.1 = hashStr w x
/-- a set's table: its entries are just these texts, it can be walked -/
structure Tab (w : World) (xs : List Str) (es : Array (Int × Value)) (t : SetTable) : Prop where
  good : ∀ e ∈ es.toList, TxtE w e
  perm : (es.toList.map txtOf).Perm xs
  nodup : xs.Nodup
  few : es.size < scanBound
  fits : t.fits es.size = true
  ris : Ris t.place.toList
  led : w.params.followText "set-order" = true ∨ t.led = true
/-- at a: the set of the texts xs -/
def SetX (w : World) (h : Heap) (a : Addr) (xs : List Str) : Prop := ∃ o es ep t, h.get? a = some o ∧ o.ExactSet ∧ o.data = .set es ep t ∧ Tab w xs es t
section
variable {P : Program} {w : World} {h h' : Heap} {a : Addr} {xs ys : List Str} {es es' : Array (Int × Value)} {t t' : SetTable}
theorem Tab.size (T : Tab w xs es t) : es.size = xs.length := by rw [← T.perm.length_eq, List.length_map, Array.length_toList]
theorem Tab.elems (T : Tab w xs es t) : ElemsOf (PySem.strKind P w) es.toList := fun e he => by
  obtain ⟨x, tk, h1, h2⟩ := T.good e he
  exact ⟨⟨x, by rw [h1]; exact strKind_is _ _ _ _, h2⟩, by rw [h1] <;> rfl⟩
theorem txt_is {e : Int × Value} (g : TxtE w e) (x : Str) : (PySem.strKind P w).is x e.2 = true ↔ txtOf e = x := by
  obtain ⟨y, tk, h1, _⟩ := g
  unfold txtOf
  rw [h1]
  show (y == x) = true ↔ y = x
  exact beq_iff_eq
theorem Tab.mem (T : Tab w xs es t) (x : Str) : x ∈ xs ↔ ∃ e ∈ es.toList, (PySem.strKind P w).is x e.2 = true := by
  rw [← T.perm.mem_iff, List.mem_map]
  exact ⟨fun ⟨e, he, q⟩ => ⟨e, he, (txt_is (T.good e he) x).mpr q⟩, fun ⟨e, he, q⟩ => ⟨e, he, (txt_is (T.good e he) x).mp q⟩⟩
theorem SetX.at (R : SetX w h a xs) (k : ∀ o, h.get? a = some o → h'.get? a = some o) : SetX w h' a xs := let ⟨o, es, ep, t, ho, r⟩ := R; ⟨o, es, ep, t, k o ho, r⟩
theorem SetX.congr (R : SetX w h a xs) (p : xs.Perm ys) : SetX w h a ys := let ⟨o, es, ep, t, ho, hx, hd, T⟩ := R; ⟨o, es, ep, t, ho, hx, hd, ⟨T.good, T.perm.trans p, p.nodup_iff.mp T.nodup, T.few, T.fits, T.ris, T.led⟩⟩
/-- the table laid anew -/
theorem Tab.re (T : Tab w xs es t) (pm : es'.toList.Perm es.toList) (hf : t'.fits es'.size = true) (hr : Ris t'.place.toList) (hl : t'.led = t.led) : Tab w xs es' t' := by
  have e : es'.size = es.size := by rw [← Array.length_toList, pm.length_eq, Array.length_toList]
  exact ⟨fun z hz => T.good z (pm.mem_iff.mp hz), (pm.map txtOf).trans T.perm, T.nodup, by rw [e]; exact T.few, hf, hr, by rw [hl]; exact T.led⟩
theorem SetX.setOf (R : SetX w h a xs) : h.SetOf (PySem.strKind P w) a (fun x => decide (x ∈ xs)) xs.length := by
  obtain ⟨o, es, ep, t, ho, hx, hd, T⟩ := R
  exact ⟨o, es, ep, t, ho, hx, hd, T.elems, fun x => by rw [decide_eq_true_eq]; exact T.mem x, T.few, T.fits, T.size⟩
end
section
variable {P : Program} {w : World} {A : Around} {E : Value → Shared → Prop} {s : Shared} {a : Addr} {xs : List Str}
/-- what stands behind the table's new entry -/
theorem setX_store {f : Bool → Sem Unit} (hf : ∀ (b : Bool) (z : Shared) (Q : Unit → Shared → Prop), Q () z → wpAny (model P w) A (f b) Q E z) {o : Obj} {es es1 : Array (Int × Value)} {ep : Nat} {t t1 : SetTable}
    (ho : s.heap.get? a = some o) (hex : o.ExactSet) (hd : o.data = .set es ep t) (T : Tab w xs es1 t1) {dummy : Bool} {R : Option Bool → Shared → Prop} (hR : ∀ h', Heap.SameBut a s.heap h' → SetX w h' a xs → R (some true) { s with heap := h' }) :
    wpAny (model P w) A (storeSet a es1 t1 >>= fun _ => if (!dummy && t1.tooFull) = true then (f (relayAll t1 es1 (SetTable.grown es1.size)).2.2 >>= fun _ => storeSet a (relayAll t1 es1 (SetTable.grown es1.size)).1 (relayAll t1 es1 (SetTable.grown es1.size)).2.1 >>= fun _ => pure (some true)) else pure (some true)) R E s := by
  have one : ∀ {hp : Heap} {o : Obj} {es0 es1 : Array (Int × Value)} {ep0 : Nat} {t0 t1 : SetTable}, hp.get? a = some o → o.data = .set es0 ep0 t0 → (hp.update a (Obj.putSet es1 t1)).get? a = some { o with data := .set es1 (ep0 + 1) t1 } := by
    intro hp o es0 es1 ep0 t0 t1 e1 e2
    have q := Heap.get?_update_self (Obj.putSet es1 t1) e1 (by rw [putSet_of es1 t1 e2] <;> rfl)
    rw [putSet_of es1 t1 e2] at q
    exact q
  refine wpAny_bind (wpAny_storeSet_of ho hd ?_ (fits_of_scanBound T.few))
  have o1 := one (es1 := es1) (t1 := t1) ho hd
  have s1 := Heap.SameBut.update s.heap a (Obj.putSet es1 t1)
  cases hq : (!dummy && t1.tooFull) with
  | false =>
    rw [if_neg (by decide)]
    exact wpAny_pure (hR _ s1 ⟨_, es1, _, t1, o1, hex, rfl, T⟩)
  | true =>
    rw [if_pos rfl]
    have T2 := T.re (relayAll_perm t1 es1 (SetTable.grown es1.size)) (relayAll_fits t1 es1 (SetTable.grown es1.size)) (relayAll_ris t1 es1 (SetTable.grown es1.size)) (relayAll_led t1 es1 (SetTable.grown es1.size))
    generalize relayAll t1 es1 (SetTable.grown es1.size) = Z at T2 ⊢
    obtain ⟨es2, t2, gave⟩ := Z
    refine wpAny_bind (hf _ _ _ (wpAny_bind (wpAny_storeSet_of o1 rfl (wpAny_pure (hR _ (s1.trans (Heap.SameBut.update _ a _)) ?_)) (fits_of_scanBound T2.few))))
    exact ⟨_, es2, _, t2, one (es1 := es2) (t1 := t2) o1 rfl, hex, rfl, T2⟩
/-- one text more -/
theorem setX_add {x : Str} {tk : Tok} {Q : Bool → Shared → Prop} (R : SetX w s.heap a xs) (room : xs.length + 1 < scanBound)
    (hQ : ∀ b h', Heap.SameBut a s.heap h' → SetX w h' a (if x ∈ xs then xs else x :: xs) → Q b { s with heap := h' }) : wpAny (model P w) A (setAddHashed a (.str x tk) ((PySem.strKind P w).hash x)) Q E s := by
  obtain ⟨o, es, ep, t, ho, hex, hd, T⟩ := R
  have el : ElemsOf (PySem.strKind P w) es.toList := T.elems
  have sc : (Value.str x tk).scannable = true := rfl
  unfold setAddHashed setAddHashedIn
  refine wpAny_holding (wpAny_bind (wpAny_setState_of ho hd T.fits ?_))
  dsimp only
  rw [byScan_of sc T.few el]
  simp only [↓reduceIte]
  unfold setAddByScan
  refine wpAny_bind (wpAny_bind (wpAny_rule (wpAny_bind (wpAny_setScan_of (knd := PySem.strKind P w) (k := x) (strKind_is _ _ _ _) ho hd T.fits el ?_))))
  cases hi : List.findIdx? (fun e => (PySem.strKind P w).is x e.2) es.toList with
  | some j =>
    dsimp only
    obtain ⟨hj, pj, _⟩ := List.findIdx?_eq_some_iff_getElem.mp hi
    have hx : x ∈ xs := (T.mem (P := P) x).mpr ⟨_, List.getElem_mem hj, pj⟩
    refine wpAny_pure (wpAny_pure (hQ _ s.heap (Heap.SameBut.refl a s.heap) ?_))
    rw [if_pos hx]
    exact ⟨o, es, ep, t, ho, hex, hd, T⟩
  | none =>
    dsimp only
    have hx : x ∉ xs := fun z => by
      obtain ⟨e, he, q⟩ := (T.mem (P := P) x).mp z
      rw [List.findIdx?_eq_none_iff.mp hi e he] at q
      cases q
    have gv : ∀ (b : Bool) {z : Shared} {Q' : Unit → Shared → Prop}, Q' () z → wpAny (model P w) A (match b with | true => rule "set.scan.the-table-gave-way" | false => pure ()) Q' E z := fun b z Q' q => by
      cases b
      · exact wpAny_pure q
      · exact wpAny_rule q
    have pm := layNew_perm t es ((PySem.strKind P w).hash x) (.str x tk)
    have f1 := layNew_fits t es ((PySem.strKind P w).hash x) (.str x tk)
    have r1 := layNew_ris t es ((PySem.strKind P w).hash x) (.str x tk) T.ris
    have l1 := layNew_led t es ((PySem.strKind P w).hash x) (.str x tk)
    generalize layNew t es ((PySem.strKind P w).hash x) (.str x tk) = Z at pm f1 r1 l1 ⊢
    obtain ⟨es1, t1, dummy, gave⟩ := Z
    dsimp only at pm f1 r1 l1 ⊢
    rw [Array.toList_push] at pm
    have pc : es1.toList.Perm (((PySem.strKind P w).hash x, Value.str x tk) :: es.toList) := pm.trans (List.perm_append_singleton _ _)
    have z1 : es1.size = xs.length + 1 := by rw [← Array.length_toList, pc.length_eq, List.length_cons, Array.length_toList, T.size]
    have mk : ∀ {t2 : SetTable}, t2.fits es1.size = true → Ris t2.place.toList → (w.params.followText "set-order" = true ∨ t2.led = true) → Tab w (x :: xs) es1 t2 := fun hf hr hl => ⟨fun e he => by
      rcases List.mem_cons.mp (pc.mem_iff.mp he) with z | z
      · exact ⟨x, tk, by rw [z], by rw [z] <;> rfl⟩
      · exact T.good e z, ((pc.map txtOf).trans (T.perm.cons x)), List.nodup_cons.mpr ⟨hx, T.nodup⟩, by rw [z1]; exact room, hf, hr, hl⟩
    have ld : w.params.followText "set-order" = true ∨ t1.led = true := T.led.imp id fun z => by rw [l1]; exact z
    have fin : ∀ h', Heap.SameBut a s.heap h' → SetX w h' a (x :: xs) → Q true { s with heap := h' } := fun h' sb r => hQ true h' sb (by rw [if_neg hx]; exact r)
    have gw : ∀ (b : Bool) (z : Shared) (Q' : Unit → Shared → Prop), Q' () z → wpAny (model P w) A (match b with | true => rule "set.scan.the-table-gave-way" | false => pure ()) Q' E z := fun b z Q' q => gv b q
    refine wpAny_bind (gv _ ?_)
    split
    · refine wpAny_bind ?_
      rw [hashByValue_scannable 8 sc]
      refine wpAny_pure (setX_store ?_ ho hex hd (mk ?_ ?_ ?_) fun h' sb r => ?_)
      · intro b z Q' q
        cases b <;> first | exact wpAny_pure q | exact wpAny_rule q
      · first
          | (split <;> first | exact f1 | exact SetTable.fits_plain_off f1)
          | exact f1
      · first
          | (split <;> exact r1)
          | exact r1
      · first
          | (split <;> exact ld)
          | exact ld
      · dsimp only
        exact wpAny_pure (fin h' sb r)
    · refine wpAny_bind (wpAny_pure ?_)
      simp only [↓reduceIte]
      refine setX_store ?_ ho hex hd (mk f1 r1 ld) fun h' sb r => ?_
      · intro b z Q' q
        cases b <;> first | exact wpAny_pure q | exact wpAny_rule q
      · dsimp only
        exact wpAny_pure (fin h' sb r)
end
end U

/-! U27: set(list of texts), sorted(set of texts). -/
namespace U
open PySem PySem.Spec PyProof.Rows L2
/-- texts put in, one behind the other -/
def adds : List Str → List Str → List Str
  | acc, [] => acc
  | acc, x :: r => adds (if x ∈ acc then acc else x :: acc) r
theorem adds_mem : ∀ (xs acc : List Str) (y : Str), y ∈ adds acc xs ↔ y ∈ acc ∨ y ∈ xs
  | [], acc, y => by simp [adds]
  | x :: r, acc, y => by
    rw [adds, adds_mem r]
    by_cases h : x ∈ acc
    · rw [if_pos h, List.mem_cons]
      constructor
      · rintro (z | z)
        · exact .inl z
        · exact .inr (.inr z)
      · rintro (z | rfl | z)
        · exact .inl z
        · exact .inl h
        · exact .inr z
    · rw [if_neg h, List.mem_cons, List.mem_cons]
      constructor
      · rintro ((z | z) | z)
        · exact .inr (.inl z)
        · exact .inl z
        · exact .inr (.inr z)
      · rintro (z | z | z)
        · exact .inl (.inr z)
        · exact .inl (.inl z)
        · exact .inr z
theorem adds_nodup : ∀ (xs acc : List Str), acc.Nodup → (adds acc xs).Nodup
  | [], _, h => h
  | x :: r, acc, h => by
    rw [adds]
    by_cases e : x ∈ acc
    · rw [if_pos e]
      exact adds_nodup r acc h
    · rw [if_neg e]
      exact adds_nodup r _ (List.nodup_cons.mpr ⟨e, h⟩)
theorem adds_len : ∀ (xs acc : List Str), (adds acc xs).length ≤ acc.length + xs.length
  | [], acc => by simp [adds]
  | x :: r, acc => by
    rw [adds]
    have := adds_len r (if x ∈ acc then acc else x :: acc)
    split at this <;> rename_i h
    · rw [if_pos h, List.length_cons]
      omega
    · rw [if_neg h]
      simp only [List.length_cons] at *
      omega
section
variable {P : Program} {w : World} {A : Around} {R : Result → Shared → Prop} {I : Addr} {fp wr : List Addr} {G : Array GenState → Array GenState → Prop} {n : Nat} {Pv : Nat → Value → Prop} {St : Nat → Shared → Prop}
theorem setX_loop (W : WalksS P w A.in1 I fp wr G n Pv St) {D : Addr} (hD : D ∉ fp) {xs : List Str} (hn : xs.length = n) (hb : n + 1 < scanBound) (hv : ∀ i v, Pv i v → ∃ t, v = .str (xs.getD i Str.empty) t) :
    ∀ (m i : Nat) (s : Shared) (ys : List Str), n - i = m → i ≤ n → St i s → SetX w s.heap D ys → ys.length ≤ i → (∀ s', Moved (D :: wr) G s s' → SetX w s'.heap D (adds ys (xs.drop i)) → R (.ok (.ret .none)) s') →
      codeAny (model P w) A (.builtin "set.update.loop" ⟨[.ref D, .ref I], []⟩) R s := by
  have out : D ∉ wr := fun z => hD (W.sub _ z)
  have up : ∀ b ∈ wr, b ∈ D :: wr := fun _ => List.mem_cons_of_mem _
  intro m
  induction m with
  | zero =>
    intro i s ys e1 e2 st hS _ k
    obtain rfl : i = n := by omega
    refine codeAny_builtin PyProof.Rows.F.entry_set_update_loop ?_
    rw [Around.under_plainId PyProof.Rows.F.plain_set_update_loop _]
    show wpAny _ A.in1 (pyNext (.ref I) >>= _) _ _ s
    refine wpAny_bind (W.done s _ _ st fun s' mv => ?_)
    show wpAny _ A.in1 (ret Value.none) _ _ s'
    have q := k s' (mv.mono up)
    rw [← hn, List.drop_length] at q
    exact wpAny_pure (q (hS.at fun o e => mv.heap D o out e))
  | succ m ih =>
    intro i s ys e1 e2 st hS hl k
    have hi : i < n := by omega
    refine codeAny_builtin PyProof.Rows.F.entry_set_update_loop ?_
    rw [Around.under_plainId PyProof.Rows.F.plain_set_update_loop _]
    show wpAny _ A.in1 (pyNext (.ref I) >>= _) _ _ s
    refine wpAny_bind (W.item i s _ _ hi st fun v s1 pv st1 mv => ?_)
    obtain ⟨tk, rfl⟩ := hv i v pv
    have hS1 : SetX w s1.heap D ys := hS.at fun o e => mv.heap D o out e
    show wpAny _ A.in1 (holding [Value.str (xs.getD i Str.empty) tk] (setAdd D (.str (xs.getD i Str.empty) tk)) >>= _) _ _ s1
    refine wpAny_bind (wpAny_holding ?_)
    unfold setAdd
    refine wpAny_holding (wpAny_bind ((PySem.strKind P w).pyHash (k := xs.getD i Str.empty) (strKind_is _ _ _ _) ?_))
    refine setX_add (s := { s1 with toks := s1.toks + 1 }) hS1 (by omega) fun b h' sb hS2 => ?_
    have ed : xs.drop i = xs.getD i Str.empty :: xs.drop (i + 1) := by
      have h := List.drop_eq_getElem_cons (l := xs) (i := i) (by omega)
      rw [h, List.getD_eq_getElem?_getD, List.getElem?_eq_getElem (by omega)]
      rfl
    refine wpAny_pure ⟨plainId_quiet PyProof.Rows.F.plain_set_update_loop _, ih (i + 1) _ _ (by omega) hi (W.frame _ s1 _ _ st1 (Nat.le_succ _) fun c hc o e => ?_) hS2 ?_ fun s2 mv2 hS3 => ?_⟩
    · rw [sb.2 c fun z : c = D => hD (by rw [← z]; exact hc)]
      exact e
    · split
      · omega
      · rw [List.length_cons]
        omega
    · refine k s2 (Moved.trans W.gtrans ((mv.mono up).then_heap (Nat.le_succ _) fun c o hc e => ?_) mv2) (by rw [ed]; exact hS3)
      rw [sb.2 c fun z : c = D => hc (by rw [z]; exact List.mem_cons_self)]
      exact e
end
section
variable {P : Program} {w : World} {A : Around} {E : Value → Shared → Prop} {s : Shared}
/-- set.__new__ with one argument: its table knows its order if the world doesn't follow the text's -/
theorem newX {a : Value} {Q : Value → Shared → Prop} (h : Q (.ref s.heap.objs.size) { s with heap := s.heap.push { cls := .type "set", dict := none, data := .set #[] 0 (.fresh 0 0 (!w.params.followText "set-order")) } }) :
    codeAny (model P w) A (.call (.builtin "set.__new__") ⟨[.type "set", a], []⟩) (wants Q E) s := by
  refine codeAny_of_tree ?_
  show wpAny _ A.in1 (checkBuiltinCall "set.__new__" ⟨[.type "set", a], []⟩ >>= fun _ => again (.builtin "set.__new__" ⟨[.type "set", a], []⟩)) _ _ s
  refine wpAny_bind (wpAny_of_eq (PySem.F.newCall_set_1 a) (wpAny_pure ⟨plainId_quiet PySem.F.plain_set_new _, codeAny_builtin PySem.F.entry_set_new ?_⟩))
  rw [Around.under_plainId PySem.F.plain_set_new _]
  unfold Builtin.«set.__new__» Builtin.Frozenset.newClass
  have sb := sub_set_self
  obtain ⟨hp, g, d, tk, os⟩ := s
  dsimp only
  wp_walk
  refine wpAny_askSetting (wpAny_pure ?_)
  dsimp only
  simp only [newObj]
  exact wpAny_bind (wpAny_alloc (wpAny_pure (wpAny_pure h)))
end
end U

/-! U28: set(list of texts) as a rule; sorted of such a set. -/
namespace U
open PySem PySem.Spec PyProof.Rows L2
section
variable {P : Program} {w : World} {A : Around} {E : Value → Shared → Prop} {s : Shared}
abbrev blank (w : World) : Obj := { cls := .type "set", dict := none, data := .set #[] 0 (.fresh 0 0 (!w.params.followText "set-order")) }
theorem strs_of_all : ∀ (vs : List Value), (∀ v ∈ vs, ∃ y tk, v = Value.str y tk) → StrsAre vs (vs.map fun v => txtOf (0, v))
  | [], _ => .nil
  | v :: r, h => by
    obtain ⟨y, tk, rfl⟩ := h v List.mem_cons_self
    exact .cons y tk (strs_of_all r fun u hu => h u (List.mem_cons_of_mem _ hu))
theorem blank_setX (w : World) (h : Heap) : SetX w (h.push (blank w)) h.objs.size [] :=
  ⟨_, #[], 0, _, Heap.get?_push_size _ rfl, ⟨rfl, rfl, rfl⟩, rfl, ⟨fun e he => by simp at he, .refl _, List.nodup_nil, by decide, by rfl, List.Pairwise.nil, by
    show _ ∨ (!w.params.followText "set-order") = true
    cases w.params.followText "set-order"
    · exact .inr rfl
    · exact .inl rfl⟩⟩
theorem strs_val : ∀ {us : List Value} {xs : List Str}, StrsAre us xs → ∀ (i : Nat) (v : Value), us[i]? = some v → ∃ t, v = .str (xs.getD i Str.empty) t := fun h i v e => SS.strs_at h i v e
set_option maxHeartbeats 8000000 in
theorem call_setX {l : Addr} {its : Array Value} {xs : List Str} {Q : Value → Shared → Prop} (hh : A.handled = none) (hl : s.heap.IsList l its) (hi : StrsAre its.toList xs) (hb : xs.length + 1 < scanBound)
    (h : ∀ (h' : Heap) (tk : Nat), SetX w h' s.heap.objs.size (adds [] xs) → (∀ b o, s.heap.get? b = some o → h'.get? b = some o) → Q (.ref s.heap.objs.size) { s with heap := h', toks := tk }) :
    wpAny (model P w) A (call (.type "set") [.ref l]) Q E s := by
  obtain ⟨c, tl, q1⟩ := PySem.F.called_set.mro
  have q2 := PySem.F.called_set.made
  have q3 := PySem.F.called_set.sub
  have q4 := PySem.F.called_set.notType
  have q5 := PySem.F.called_set.canCreate
  have q6 := PySem.F.typeCall_set_1 (.ref l)
  refine wpAny_call (codeAny_of_tree ?_)
  show wpAny _ _ (callAny (.type "set") _) _ _ _
  refine wpAny_pure ⟨Code.quiet_builtin _ (by decide +kernel), codeAny_builtin PySem.F.entry_type_call ?_⟩
  rw [Around.under_plain (weight_type_call_type "set" [.ref l] []) rfl]
  repeat (any_goals (first | assumption | wp_step))
  refine codeAny_mono (newX (a := .ref l) (E := E) (Q := fun v z => v = .ref s.heap.objs.size ∧ z = { s with heap := s.heap.push (blank w) }) ⟨rfl, rfl⟩) fun r z hr => ?_
  match r, hr with
  | .error e, hr => exact hr
  | .ok .next, hr => exact hr.elim
  | .ok .brk, hr => exact hr.elim
  | .ok .cont, hr => exact hr.elim
  | .ok (.ret v), ⟨e1, e2⟩ =>
    subst e1 e2
    have g0 : (s.heap.push (blank w)).get? s.heap.objs.size = some (blank w) := Heap.get?_push_size _ rfl
    have ty : Shared.TypeIs { s with heap := s.heap.push (blank w) } (.ref s.heap.objs.size) "set" := ⟨_, g0, rfl⟩
    have q7 := PySem.F.called_set.init.lookup
    have q8 := PySem.F.called_set.init.bind (.ref s.heap.objs.size)
    repeat (any_goals (first | assumption | wp_step))
    refine codeAny_mono (codeAny_call_builtin (R := wants (fun r z => r = .none ∧ ∃ h' tk, z = { s with heap := h', toks := tk } ∧ SetX w h' s.heap.objs.size (adds [] xs) ∧ ∀ b o, s.heap.get? b = some o → h'.get? b = some o) E)
      PySem.F.called_set.init.plain PySem.F.entry_set_init (check_set_init_1 ty ?_)) fun r z hr => ?_
    · obtain ⟨⟨oc, od, oda, osl⟩, ho, hc, n0, hd⟩ := hl
      simp only at hc hd
      subst hc hd
      have keep : ∀ b o, s.heap.get? b = some o → (s.heap.push (blank w)).get? b = some o := fun b o e => Heap.get?_push_of_some _ e
      have ho1 := keep _ _ ho
      have r1 := PySem.F.sub_list_set
      have r2 := PySem.F.sub_list_frozenset
      have r3 : (Value.type "list" == Value.type "dict") = false := by decide
      have hl1 : (s.heap.push (blank w)).IsList l its := ⟨_, ho1, rfl, n0, rfl⟩
      unfold Builtin.«set.__init__» noKeywords Builtin.Frozenset.updateFrom
      generalize hPI : pyIter = PI
      wp_walk
      subst hPI
      have lt := Heap.lt_size ho
      have sz : (s.heap.push (blank w)).objs.size = s.heap.objs.size + 1 := Heap.size_push ..
      have calm : A.in1.in1.in1.handled = none := by simp [hh]
      have n1 : l ≠ (s.heap.push (blank w)).objs.size := by rw [sz]; exact Nat.ne_of_lt (Nat.lt_succ_of_lt lt)
      have n2 : s.heap.objs.size ∉ [(s.heap.push (blank w)).objs.size, l] := by
        rw [sz]
        intro z
        rcases List.mem_cons.mp z with z | z
        · exact Nat.ne_of_lt (Nat.lt_succ_self _) z
        · exact Nat.ne_of_gt lt (List.mem_singleton.mp z)
      have hz : xs.length = its.size := by rw [← StrsAre.len_eq hi, Array.length_toList]
      refine wpAny_pyIter_list hl1 (wpAny_bind (wpAny_runValue ?_))
      refine setX_loop ((Walks.list calm _ l n1 its).toS) n2 hz (by omega) (fun i v e => strs_val hi i v (by rw [Array.getElem?_toList]; exact e)) (its.size - 0) 0 _ [] rfl (Nat.zero_le _) ⟨⟨_, Heap.get?_push_size _ rfl, rfl, rfl⟩, hl1.push _⟩ ?_ (Nat.le_refl _) fun z mv hS => ?_
      · exact (blank_setX w s.heap).at fun o e => Heap.get?_push_of_some _ e
      · obtain ⟨h', g', d', tk', os'⟩ := z
        obtain rfl : g' = s.gens := mv.gens
        obtain rfl : d' = s.drawn := mv.drawn
        obtain rfl : os' = s.os := mv.os
        show wpAny _ _ _ _ _ _
        refine wpAny_pure ?_
        show wpAny _ _ (ret Value.none) _ _ _
        refine wpAny_pure ⟨rfl, h', tk', rfl, hS, fun b o e => mv.heap b o (fun z => ?_) (Heap.get?_push_of_some _ (keep b o e))⟩
        have lb := Heap.lt_size e
        rcases List.mem_cons.mp z with z | z
        · exact Nat.ne_of_lt lb z
        · have z := List.mem_singleton.mp z
          rw [sz] at z
          exact Nat.ne_of_lt (Nat.lt_succ_of_lt lb) z
    · match r, hr with
      | .error e, hr => exact hr
      | .ok .next, hr => exact hr.elim
      | .ok .brk, hr => exact hr.elim
      | .ok .cont, hr => exact hr.elim
      | .ok (.ret v), hr =>
        obtain ⟨rfl, h', tk, rfl, hS, k⟩ := hr
        repeat (any_goals (first | assumption | wp_step))
        exact h _ _ hS k
end
/-- the set of the texts xs, at a -/
def SetXO (w : World) (a : Addr) (xs : List Str) : HO := .ext fun h => SetX w h a xs
theorem setXO_ok {P : Program} {w : World} {H : Hp} {h : Heap} {a : Addr} {xs : List Str} (R : SetX w h a xs) : ObjOk P w H h a (SetXO w a xs) := ⟨R, let ⟨o, _, _, _, ho, _⟩ := R; ⟨o, ho⟩, fun _ _ p k => p.at k⟩
section
variable {X : Cx}
theorem setXO_at {pins : List (Addr × Obj)} {σ : L2.St} {H : Hp} {s : Shared} {a : Addr} {xs : List Str} (I : Inv X pins σ H s) (e : H a = some (SetXO X.w a xs)) : SetX X.w s.heap a xs := (I.hok a _ e).1
/-- set(list of texts) -/
def rSetL (K : PySem.W.Frag) (w : World) : List V → Hp → VK → Prop := fun vs H Q => ∃ (l : Addr) (xs : List Str), vs = [.ref l] ∧ SqL K H l (xs.map V.str) ∧ xs.length ≤ 1000 ∧ ∀ p, H p = none → Q (.ref p) (upd H p (SetXO w p (adds [] xs)))
theorem cr_setL (hc : X.calm = true) : CallR X (.type "set") (rSetL X.K X.w) := by
  intro pins s σ H vs us Q I r h
  obtain ⟨l, xs, rfl, hs, hl, q⟩ := h
  obtain ⟨u, rfl, ru⟩ := L2.vals1 r
  cases (show u = Value.ref l from ru)
  obtain ⟨its, rv, hlist, _⟩ := I.list hs
  refine call_setX (I.ok.hd hc) hlist.isList rv.strs (by unfold scanBound; omega) fun h' tk R k => ?_
  exact ⟨.ref _, _, I.laid (t' := tk) k (Nat.le_refl _) (setXO_ok R), rfl, q _ (I.hok.fresh (Nat.le_refl _))⟩
/-- sorted(set of texts) -/
def rSortX (w : World) : List V → Hp → VK → Prop := fun vs H Q => ∃ (a : Addr) (xs : List Str), vs = [.ref a] ∧ H a = some (SetXO w a xs) ∧ xs.length < 64 ∧ ∀ ys p, ys.Perm xs → sortedS ys = true → H p = none → Q (.ref p) (upd H p (.lst (ys.map V.str)))
theorem cr_sortX (hc : X.calm = true) : CallR X (.builtin "sorted") (rSortX X.w) := by
  intro pins s σ H vs us Q I r h
  obtain ⟨a, xs, rfl, ha, h64, q⟩ := h
  obtain ⟨u, rfl, ru⟩ := L2.vals1 r
  cases (show u = Value.ref a from ru)
  obtain ⟨o, es, ep, t, ho, hx, hd, T⟩ := setXO_at I ha
  refine Calls.call_function_entry PyProof.Rows.kind_sorted PyProof.Rows.plain_sorted PyProof.Rows.entry_sorted (PyProof.Rows.args_sorted1 _) ?_
  unfold Builtin.«sorted»
  refine wpAny_bind (m := checkCount "sorted" 1 1 _) (wpAny_pure (wpAny_bind ?_))
  refine collect_set (A := X.A.in1) (I.ok.hd hc) ⟨o, ho, hx.1, hd⟩ T.fits T.few T.ris T.led fun s1 vs k hsz g1 o1 pm => ?_
  have hl : vs.length = xs.length := by rw [pm.length_eq, List.length_map, Array.length_toList, T.size]
  obtain ⟨ks, hS, pk⟩ : ∃ ks, StrsAre vs ks ∧ ks.Perm xs := by
    refine ⟨vs.map fun v => txtOf (0, v), ?_, ?_⟩
    · refine strs_of_all vs fun v hv => ?_
      obtain ⟨e, he, q⟩ := List.mem_map.mp (pm.mem_iff.mp hv)
      obtain ⟨y, tk, h1, _⟩ := T.good e he
      exact ⟨y, tk, by rw [← q]; exact h1⟩
    · have p := pm.map fun v => txtOf (0, v)
      rw [List.map_map] at p
      exact p.trans T.perm
  refine wpAny_bind (wpAny_newList ?_ (by rw [hl, sizeLine_eq]; omega))
  have hoL : (s1.heap.push (seqObj "list" vs.toArray 0)).get? s1.heap.objs.size = some (seqObj "list" vs.toArray 0) := Heap.get?_push_size _ rfl
  refine wpAny_bind (wpAny_holding (wpAny_call_entry PyProof.Rows.slot_list_sort ⟨_, hoL, rfl⟩ PyProof.Rows.entry_list_sort
    (list_sort_treeK strKind_oneLt hoL hS.keysOf (fun v₁ v₂ rest e => keyKind_strs (by rw [← e]; exact hS)) (by rw [hl]; exact h64) fun st' hp hs => ⟨_, rfl, ?_⟩)
    (PyProof.Rows.args_list_sort _)))
  obtain ⟨ys, a1, a2, a3⟩ := sorted_out_str hS hp hs
  obtain ⟨c, hc'⟩ := PyProof.Rows.sortedHeap_at (vs := vs) (out := (arrOf st').map (·.2)) hoL
  have hn : H s1.heap.objs.size = none := I.hok.fresh hsz
  have hlen : (ys.map V.str).length ≤ sizeLine := by
    rw [List.length_map, a2.length_eq, pk.length_eq]
    exact Nat.le_trans (Nat.le_of_lt h64) (by decide)
  have kk : ∀ b u, s.heap.get? b = some u → (PyProof.Rows.sortedHeap (s1.heap.push (seqObj "list" vs.toArray 0)) s1.heap.objs.size vs ((arrOf st').map (·.2))).get? b = some u := fun b u e => by
    have q := k b u e
    have hlt := Heap.lt_size q
    rw [PyProof.Rows.sortedHeap_old (Nat.ne_of_lt hlt) (by rw [size_push']; exact Nat.lt_succ_of_lt hlt)]
    exact Heap.get?_push_of_some _ q
  have J : Inv X pins σ (upd H s1.heap.objs.size (.lst (ys.map V.str))) { s with heap := PyProof.Rows.sortedHeap (s1.heap.push (seqObj "list" vs.toArray 0)) s1.heap.objs.size vs ((arrOf st').map (·.2)), gens := s1.gens, drawn := s1.drawn, toks := s1.toks } :=
    I.call (ch := []) (Un.laid kk hsz hn) (I.hok.laid kk hsz ⟨hlen, ((arrOf st').map (·.2)).toList, c, vals_of_strs a1, by rw [Array.toArray_toList]; exact hc'⟩) (by rw [g1]; exact I.bare) (fun _ z => nomatch z)
  refine wpAny_pure ⟨_, rfl, .ref s1.heap.objs.size, _, ?_, rfl, q ys _ (a2.trans pk) a3 hn⟩
  cases s1
  cases s
  cases o1
  exact J
end
end U

/-! U29: sets of texts by comprehension, two clauses, no tests. -/
namespace U
open PySem PySem.Spec PyProof.Rows L2
abbrev SC (elt t0 i0 t1 i1 : Expr) (sc : Scope) (p : Pos) : Expr := .SetComp elt [⟨t0, i0, [], 0⟩, ⟨t1, i1, [], 0⟩] sc p
section
variable (elt t0 i0 t1 i1 : Expr) (sc : Scope) (p : Pos) (it D : Value) (env : Env)
theorem turn_sc0 : compTurn (SC elt t0 i0 t1 i1 sc p) 0 it D env = (standAt i0.pos >>= fun _ => pyNext it >>= fun r => match r with
    | none => pure (.done .next)
    | some v => letOwnedTupleGo t0 it v >>= fun _ => assign t0 env v >>= fun _ => eval i1 env >>= fun x => standAt i1.pos >>= fun _ => foldedSetIterable i1 env x >>= fun x =>
      holding [x] (pyIter x) >>= fun b => runOwn (.compStart (SC elt t0 i0 t1 i1 sc p) 1 b D env) env >>= fun _ => again (.compLoop (SC elt t0 i0 t1 i1 sc p) 0 it D env)) := by rfl
theorem turn_sc1 : compTurn (SC elt t0 i0 t1 i1 sc p) 1 it D env = (standAt i1.pos >>= fun _ => pyNext it >>= fun r => match r with
    | none => pure (.done .next)
    | some v => letOwnedTupleGo t1 it v >>= fun _ => assign t1 env v >>= fun _ => (eval elt env >>= fun x => standAt elt.pos >>= fun _ => call (.builtin "set.add") [D, x] >>= fun _ => pure ()) >>= fun _ =>
      again (.compLoop (SC elt t0 i0 t1 i1 sc p) 1 it D env)) := by rfl
end
/-- what an error leads to -/
abbrev NB (P : Program) (w : World) (A : Around) (env : Env) (R : Result → Shared → Prop) : Value → Shared → Prop := notedBy (model P w) A env fun e z => R (.error e) z
section
variable {P : Program} {w : World} {A : Around} {R : Result → Shared → Prop} {s : Shared} {elt t0 i0 t1 i1 : Expr} {sc : Scope} {p : Pos} {it D : Value} {env : Env}
theorem loop_sc0 (hs : ∀ x, foldedSetIterable i1 env x = pure x) (I : Nat → Shared → Prop)
    (turn : ∀ n s, I n s → wpAny (model P w) A (pyNext it) (fun r y1 => match r with
      | none => R (.ok .next) y1
      | some v => wpAny (model P w) A (letOwnedTupleGo t0 it v) (fun _ y2 => wpAny (model P w) A (assign t0 env v) (fun _ y3 =>
          wpAny (model P w) A (eval i1 env) (fun x y4 => wpAny (model P w) A (pyIter x) (fun b y5 =>
            codeAny (model P w) A (.compStart (SC elt t0 i0 t1 i1 sc p) 1 b D env) (fun r z => match r with
              | .ok _ => ∃ m, m < n ∧ I m z
              | .error _ => False) y5) (NB P w A env R) y4) (NB P w A env R) y3) (NB P w A env R) y2) (NB P w A env R) y1) (NB P w A env R) s)
    (n : Nat) (h : I n s) : codeAny (model P w) A (.compLoop (SC elt t0 i0 t1 i1 sc p) 0 it D env) R s := by
  refine codeAny_loop rfl I (fun n s hI => ?_) n h
  show wpAny _ A ((compTurn (SC elt t0 i0 t1 i1 sc p) 0 it D env).onRaise (fun x => do noteFrame x env; theTreesLotGoes x)) _ _ s
  refine wpAny_noted ?_
  rw [turn_sc0]
  refine wpAny_bind (wpAny_standAt (wpAny_bind (wpAny_mono (turn n s hI) (fun r y1 h1 => ?_) fun _ _ z => z)))
  cases r with
  | none => exact wpAny_pure h1
  | some v =>
    refine wpAny_bind (wpAny_mono h1 (fun _ y2 h2 => wpAny_bind (wpAny_mono h2 (fun _ y3 h3 => wpAny_bind (wpAny_mono h3 (fun x y4 h4 => ?_) fun _ _ z => z)) fun _ _ z => z)) fun _ _ z => z)
    refine wpAny_bind (wpAny_standAt (wpAny_bind (wpAny_of_eq (hs x) (wpAny_bind (wpAny_holding (wpAny_mono h4 (fun b y5 h5 => ?_) fun _ _ z => z))))))
    refine wpAny_bind (wpAny_runOwn ?_)
    rw [Around.mark_none]
    refine codeAny_mono h5 fun r z hr => ?_
    match r, hr with
    | .ok f, hr =>
      first
        | exact wpAny_pure ⟨rfl, hr⟩
        | exact wpAny_bind (wpAny_pure (wpAny_pure ⟨rfl, hr⟩))
theorem loop_sc1 (I : Nat → Shared → Prop)
    (turn : ∀ n s, I n s → wpAny (model P w) A (pyNext it) (fun r y1 => match r with
      | none => R (.ok .next) y1
      | some v => wpAny (model P w) A (letOwnedTupleGo t1 it v) (fun _ y2 => wpAny (model P w) A (assign t1 env v) (fun _ y3 =>
          wpAny (model P w) A (eval elt env) (fun x y4 => wpAny (model P w) A (call (.builtin "set.add") [D, x]) (fun _ y5 => ∃ m, m < n ∧ I m y5) (NB P w A env R) y4) (NB P w A env R) y3) (NB P w A env R) y2) (NB P w A env R) y1) (NB P w A env R) s)
    (n : Nat) (h : I n s) : codeAny (model P w) A (.compLoop (SC elt t0 i0 t1 i1 sc p) 1 it D env) R s := by
  refine codeAny_loop rfl I (fun n s hI => ?_) n h
  show wpAny _ A ((compTurn (SC elt t0 i0 t1 i1 sc p) 1 it D env).onRaise (fun x => do noteFrame x env; theTreesLotGoes x)) _ _ s
  refine wpAny_noted ?_
  rw [turn_sc1]
  refine wpAny_bind (wpAny_standAt (wpAny_bind (wpAny_mono (turn n s hI) (fun r y1 h1 => ?_) fun _ _ z => z)))
  cases r with
  | none => exact wpAny_pure h1
  | some v =>
    refine wpAny_bind (wpAny_mono h1 (fun _ y2 h2 => wpAny_bind (wpAny_mono h2 (fun _ y3 h3 => wpAny_bind (wpAny_bind (wpAny_mono h3 (fun x y4 h4 => ?_) fun _ _ z => z))) fun _ _ z => z)) fun _ _ z => z)
    exact wpAny_bind (wpAny_standAt (wpAny_bind (wpAny_mono h4 (fun _ y5 h5 => wpAny_pure (wpAny_pure ⟨rfl, h5⟩)) fun _ _ z => z)))
theorem start_sc1 (h0 : codeAny (model P w) A (.compLoop (SC elt t0 i0 t1 i1 sc p) 1 it D env) R s)
    (h : wpAny (model P w) A (pyIter it) (fun b z => codeAny (model P w) A (.compLoop (SC elt t0 i0 t1 i1 sc p) 1 b D env) R z) (NB P w A env R) s) :
    codeAny (model P w) A (.compStart (SC elt t0 i0 t1 i1 sc p) 1 it D env) R s := by
  refine codeAny_of_tree ?_
  show wpAny _ _ ((compStart (SC elt t0 i0 t1 i1 sc p) 1 it D env).onRaise (fun x => do noteFrame x env; standAt theWindowsPlace)) _ _ s
  refine wpAny_notedAt ?_
  unfold compStart
  show wpAny _ _ (ask >>= _) _ _ s
  refine wpAny_bind (wpAny_askSetting (wpAny_ite ?_))
  split
  · first
      | exact wpAny_bind (wpAny_pure (wpAny_pure ⟨rfl, h0⟩))
      | exact wpAny_pure ⟨rfl, h0⟩
  · first
      | exact wpAny_bind (wpAny_rule (wpAny_bind (wpAny_standAt (wpAny_bind (wpAny_mono h (fun b z k => wpAny_pure ⟨rfl, k⟩) fun _ _ x => x)))))
      | (refine wpAny_bind (wpAny_rule ?_); show wpAny _ _ (standAt i1.pos >>= _) _ _ s; exact wpAny_bind (wpAny_standAt (wpAny_bind (wpAny_mono h (fun b z k => wpAny_pure ⟨rfl, k⟩) fun _ _ x => x))))
end
section
variable {X : Cx}
/-- one text more in a set of ours -/
theorem addX_ok {pins : List (Addr × Obj)} {σ : L2.St} {H : Hp} {s : Shared} {E : Value → Shared → Prop} {D : Addr} {xs : List Str} {x : Str} {tk : Tok} {Q : Value → Shared → Prop} (I : Inv X pins σ H s) (hD : H D = some (SetXO X.w D xs)) (room : xs.length + 1 < scanBound)
    (h : ∀ z, Inv X pins σ (upd H D (SetXO X.w D (if x ∈ xs then xs else x :: xs))) z → Q .none z) : wpAny (model X.prog X.w) X.A (call (.builtin "set.add") [.ref D, .str x tk]) Q E s := by
  have R := setXO_at I hD
  refine wpAny_call_entry PySem.F.slot_set_add (R.setOf (P := X.prog)).typeIs PySem.F.entry_set_add ?_ (PySem.F.args_set_add_2 _ _)
  unfold Builtin.«set.add» Builtin.Frozenset.oneOther
  simp only [List.isEmpty_nil, bind_assoc]
  unfold Builtin.Frozenset.addrOf setAdd
  refine wpAny_bind (wpAny_pure (wpAny_bind (wpAny_pure (wpAny_bind (wpAny_holding (wpAny_bind ((PySem.strKind X.prog X.w).pyHash (k := x) (strKind_is _ _ _ _) ?_)))))))
  refine setX_add (s := { s with toks := s.toks + 1 }) R room fun b h' sb r => ?_
  show wpAny _ _ (ret Value.none) _ _ _
  exact wpAny_pure ⟨_, rfl, h _ (I.write (e := D) (t' := s.toks + 1) (by rw [hD]; trivial) (.inl rfl) (fun c u hb hu => (sb.2 c hb).trans hu) (let ⟨o, _, _, _, ho, _⟩ := r; ⟨o, ho⟩) (setXO_ok r))⟩
/-- the inner walk: it gives texts to the set at D and leads to Nx -/
def SxIn (w : World) (g1 : TG) (te : TE) (vs1 : List Nat) (σ3 : L2.St) (D : Addr) (Nx : Hp → Prop) (J1 : It) (H4 : Hp) : Prop := ∃ W1 : Nat → Nat → Hp → Prop, (∃ m, W1 0 m H4) ∧ ∀ j k H, W1 j k H →
      (J1.stop j H ∧ Nx H) ∨ (J1.go j H ∧ ∃ Nx1 : Hp → Prop, (∀ Hn, Nx1 Hn → ∃ k1, k1 < k ∧ W1 (j + 1) k1 Hn) ∧ ∀ x H5, J1.yld j H x H5 → g1 x (wipe σ3 vs1) H5 fun σ6 H6 => wipe σ6 vs1 = wipe σ3 vs1 ∧
        te σ6 H6 fun y H7 => ∃ (t : Str) (acc : List Str), y = .str t ∧ H7 D = some (SetXO w D acc) ∧ acc.length + 1 < scanBound ∧ Nx1 (upd H7 D (SetXO w D (if t ∈ acc then acc else t :: acc))))
/-- {elt for t0 in i0 for t1 in i1}, elt a text -/
def tSx (w : World) (wi : TI) (g : TG) (wi1 : TI) (g1 : TG) (te : TE) (vs vs1 : List Nat) : TE := fun σ H Q => wi σ H fun J H1 => ∀ D, H1 D = none → ∃ W : Nat → Nat → Hp → Prop, (∃ m, W 0 m (upd H1 D (SetXO w D []))) ∧ ∀ i m H, W i m H →
  (J.stop i H ∧ Q (.ref D) H) ∨ (J.go i H ∧ ∃ Nx : Hp → Prop, (∀ Hn, Nx Hn → ∃ k, k < m ∧ W (i + 1) k Hn) ∧ ∀ x H2, J.yld i H x H2 → g x (wipe σ vs) H2 fun σ3 H3 => wipe σ3 vs = wipe σ vs ∧ wi1 σ3 H3 (SxIn w g1 te vs1 σ3 D Nx))
/-- the outer walk, read -/
theorem sx_out {w : World} {J : It} {n : Nat} {G : Hp → Prop} {Y : Nat → Hp → V → Hp → Prop} (wk : Walk J n G Y) {g g1 : TG} {wi1 : TI} {te : TE} {vs vs1 : List Nat} {σ : L2.St} {H1 : Hp} {D : Addr} {Qd : Hp → Prop} (Pv : Nat → Hp → Prop)
    (h0 : Pv 0 (upd H1 D (SetXO w D []))) (hG : ∀ i H, i ≤ n → Pv i H → G H)
    (hs : ∀ i x H H', i < n → Pv i H → Y i H x H' → g x (wipe σ vs) H' fun σ3 H3 => wipe σ3 vs = wipe σ vs ∧ wi1 σ3 H3 (SxIn w g1 te vs1 σ3 D (Pv (i + 1)))) (hd : ∀ H, Pv n H → Qd H) :
    ∃ W : Nat → Nat → Hp → Prop, (∃ m, W 0 m (upd H1 D (SetXO w D []))) ∧ ∀ i m H, W i m H →
      (J.stop i H ∧ Qd H) ∨ (J.go i H ∧ ∃ Nx : Hp → Prop, (∀ Hn, Nx Hn → ∃ k, k < m ∧ W (i + 1) k Hn) ∧ ∀ x H2, J.yld i H x H2 → g x (wipe σ vs) H2 fun σ3 H3 => wipe σ3 vs = wipe σ vs ∧ wi1 σ3 H3 (SxIn w g1 te vs1 σ3 D Nx)) := by
  refine ⟨fun i m H => m = n - i ∧ i ≤ n ∧ Pv i H, ⟨n, rfl, Nat.zero_le _, h0⟩, fun i m H ⟨e, hi, p⟩ => ?_⟩
  subst e
  by_cases lt : i < n
  · exact .inr ⟨wk.goes i H lt (hG i H hi p), Pv (i + 1), fun Hn pn => ⟨n - (i + 1), by omega, rfl, lt, pn⟩, fun x H2 y => hs i x H H2 lt p (wk.yields i H x H2 lt (hG i H hi p) y)⟩
  · obtain rfl : i = n := by omega
    exact .inl ⟨wk.stops H (hG i H hi p), hd H p⟩
/-- the inner one -/
theorem sx_in {w : World} {J : It} {n : Nat} {G : Hp → Prop} {Y : Nat → Hp → V → Hp → Prop} (wk : Walk J n G Y) {g1 : TG} {te : TE} {vs1 : List Nat} {σ3 : L2.St} {H4 : Hp} {D : Addr} {Nx : Hp → Prop} (Pv : Nat → Hp → Prop)
    (h0 : Pv 0 H4) (hG : ∀ i H, i ≤ n → Pv i H → G H)
    (hs : ∀ i x H H', i < n → Pv i H → Y i H x H' → g1 x (wipe σ3 vs1) H' fun σ6 H6 => wipe σ6 vs1 = wipe σ3 vs1 ∧
        te σ6 H6 fun y H7 => ∃ (t : Str) (acc : List Str), y = .str t ∧ H7 D = some (SetXO w D acc) ∧ acc.length + 1 < scanBound ∧ Pv (i + 1) (upd H7 D (SetXO w D (if t ∈ acc then acc else t :: acc)))) (hd : ∀ H, Pv n H → Nx H) : SxIn w g1 te vs1 σ3 D Nx J H4 := by
  refine ⟨fun i m H => m = n - i ∧ i ≤ n ∧ Pv i H, ⟨n, rfl, Nat.zero_le _, h0⟩, fun i m H ⟨e, hi, p⟩ => ?_⟩
  subst e
  by_cases lt : i < n
  · exact .inr ⟨wk.goes i H lt (hG i H hi p), Pv (i + 1), fun Hn pn => ⟨n - (i + 1), by omega, rfl, lt, pn⟩, fun x H2 y => hs i x H H2 lt p (wk.yields i H x H2 lt (hG i H hi p) y)⟩
  · obtain rfl : i = n := by omega
    exact .inl ⟨wk.stops H (hG i H hi p), hd H p⟩
theorem adds_app : ∀ (xs acc ys : List Str), adds acc (xs ++ ys) = adds (adds acc xs) ys
  | [], _, _ => rfl
  | x :: r, acc, ys => by rw [List.cons_append, adds, adds, adds_app r]
theorem adds_snoc (acc xs : List Str) (x : Str) : adds acc (xs ++ [x]) = if x ∈ adds acc xs then adds acc xs else x :: adds acc xs := by rw [adds_app]; rfl
theorem sc2_core {pins : List (Addr × Obj)} {s : Shared} {σ : L2.St} {H : Hp} {Q : VK} {elt t0 i0 t1 i1 : Expr} {sc : Scope} {own : List (Str × Nat)} {vs1 : List Nat} {p p' : Pos} {wi wi1 : TI} {g g1 : TG} {te : TE} {use : Option (Value → Sem Unit)} {Qf : Value → Shared → Prop}
    (hc : X.calm = true) (hN : X.N.Nodup) (I : Inv X pins σ H s) (ok : BlkOk X.N X.env.scope sc own) (hv : ∀ i ∈ vs1, i ∈ own.map (·.2)) (hi : PI X t0 i0 wi)
    (kg : ∀ z G C cl fp, PG (X.blk z G sc (compEnvC sc cl C X.env) fp) t0 g) (ki : ∀ z G C cl fp, PI (X.blk z G sc (compEnvC sc cl C X.env) fp) t1 i1 wi1)
    (kg1 : ∀ z G C cl fp, PG (X.blk z G sc (compEnvC sc cl C X.env) fp) t1 g1) (ke : ∀ z G C cl fp, PE (X.blk z G sc (compEnvC sc cl C X.env) fp) elt te)
    (f0 : ∀ x, foldedSetIterable i0 X.env x = pure x) (f1 : ∀ env x, foldedSetIterable i1 env x = pure x) (h : tSx X.w wi g wi1 g1 te (own.map (·.2)) vs1 σ H Q)
    (hRR : ∀ D C z m G, Inv X pins σ G z → Q (.ref D) G → z.heap.Ns C m → FpOk X pins G C → compPost (model X.prog X.w) X.A X.xe use Qf (.ref D) C (.ok .next) z) :
    wpAny (model X.prog X.w) X.A (comprehension (SC elt t0 i0 t1 i1 sc p) sc X.env p' (newSet (.type "set")) false (eval i0 X.env) use) Qf X.xe s := by
  have hfree : ∀ y ∈ sc.names, y.2 = .free → ∃ c, X.env.cells.lookup y.1 = some c := fun y hy e => (ok.free y hy e).elim (fun k => I.ok.has _ (.inl k)) fun k => I.ok.has _ (.inr k)
  refine wpAny_comprehension_free (use := use) rfl f0 (closure_ok hfree) ok.kind (fun y hy e => by rw [ok.uniq y hy, e]) (thn (hi.run pins s σ H _ I h) fun xv s1 hx => thn hx fun itv s2 h2 => ?_)
  obtain ⟨it, fp, tn, J, H2, rfl, I2, T, st2, f2, q⟩ := h2
  refine PpSet.newSet_ok (newEnv_comp ?_)
  generalize hD : s2.heap.objs.size = D
  have hDn : H2 D = none := I2.hok.fresh (Nat.le_of_eq hD)
  obtain ⟨W, ⟨m0, w0⟩, turn⟩ := q D hDn
  -- the empty set
  have keep2 : ∀ b o, s2.heap.get? b = some o → (s2.heap.push (blank X.w)).get? b = some o := fun b o e => Heap.get?_push_of_some _ e
  have I3 : Inv X pins σ (upd H2 D (SetXO X.w D [])) { s2 with heap := s2.heap.push (blank X.w) } := I2.laid (t' := s2.toks) keep2 (Nat.le_of_eq hD) (by rw [← hD]; exact setXO_ok (blank_setX X.w s2.heap))
  generalize hH3 : upd H2 D (SetXO X.w D []) = H3 at I3 w0
  have fpOk : ∀ b ∈ fp, FpOk X pins H3 b ∧ b < (s2.heap.push (blank X.w)).objs.size := fun b hb => by
    obtain ⟨o, e, _⟩ := T.obj _ _ st2 b hb
    have lt := Heap.lt_size e
    refine ⟨⟨?_, (f2 b hb).2⟩, Heap.lt_size (keep2 _ _ e)⟩
    rw [← hH3, upd_ne (by rw [← hD]; exact Nat.ne_of_lt lt)]
    exact (f2 b hb).1
  have st3 : tn 0 (s2.heap.push (blank X.w)) := T.keep _ _ _ st2 fun b _ o e => keep2 b o e
  have n3 : ∀ b ∈ fp, H3 b = none := fun b hb => (fpOk b hb).1.1
  generalize hs3 : ({ s2 with heap := s2.heap.push (blank X.w) } : Shared) = s3 at I3
  have e3 : s3.heap = s2.heap.push (blank X.w) := by rw [← hs3]
  rw [← e3] at fpOk st3
  have I4 := block_start I3 ok hN fpOk
  have pg := kg s3 H3 s3.heap.objs.size (cellsFrom (s3.heap.objs.size + 1) sc.names (cloFrom X.env.cells sc.names [])) fp
  have pi1 := ki s3 H3 s3.heap.objs.size (cellsFrom (s3.heap.objs.size + 1) sc.names (cloFrom X.env.cells sc.names [])) fp
  have pg1 := kg1 s3 H3 s3.heap.objs.size (cellsFrom (s3.heap.objs.size + 1) sc.names (cloFrom X.env.cells sc.names [])) fp
  have pe := ke s3 H3 s3.heap.objs.size (cellsFrom (s3.heap.objs.size + 1) sc.names (cloFrom X.env.cells sc.names [])) fp
  show codeAny _ _ (.compStart (SC elt t0 i0 t1 i1 sc p) 0 (.ref it) (.ref D) (compEnvC sc (cellsFrom (s3.heap.objs.size + 1) sc.names (cloFrom X.env.cells sc.names [])) s3.heap.objs.size X.env))
    (compPost (model X.prog X.w) X.A X.xe use Qf (.ref D) s3.heap.objs.size) { s3 with heap := pushCells (s3.heap.push { cls := .type "dict", data := .dict #[] }) sc.names }
  generalize hce : compEnvC sc (cellsFrom (s3.heap.objs.size + 1) sc.names (cloFrom X.env.cells sc.names [])) s3.heap.objs.size X.env = ce at I4 pg pi1 pg1 pe ⊢
  have cL : ce.locals = s3.heap.objs.size := by rw [← hce] <;> rfl
  generalize hs4 : ({ s3 with heap := pushCells (s3.heap.push { cls := .type "dict", data := .dict #[] }) sc.names } : Shared) = s4 at I4 ⊢
  have st4 : tn 0 s4.heap := T.keep _ _ _ st3 fun b _ o e => by
    rw [← hs4]
    exact pushCells_keeps _ _ _ _ (Heap.get?_push_of_some _ e)
  let B := X.blk s3 H3 sc ce fp
  let st' := wipe σ (own.map (·.2))
  let Inn : Nat → Shared → Prop := fun n z => ∃ i G, Inv B [] st' G z ∧ tn i z.heap ∧ (∀ b ∈ fp, G b = none) ∧ W i n G
  have stat : ∀ {σ' : L2.St} {G : Hp} {z : Shared}, Inv B [] σ' G z → (∀ b ∈ fp, G b = none) → ∀ b ∈ fp, FpOk B [] G b := fun {σ' G z} k hn b hb =>
    ⟨hn b hb, (k.ok.exf b hb).1, k.ok.exfs b hb, .inl hb, fun x c e => (k.ok.exf b hb).2 x c e, fun u hu => by cases hu⟩
  have loop : codeAny (model X.prog X.w) X.A (.compLoop (SC elt t0 i0 t1 i1 sc p) 0 (.ref it) (.ref D) ce) (compPost (model X.prog X.w) X.A X.xe use Qf (.ref D) s3.heap.objs.size) s4 := by
    refine loop_sc0 (f1 ce) Inn ?_ m0 ⟨0, H3, I4, st4, n3, w0⟩
    rintro n s5 ⟨i, H5, I5, st5, n5, w5⟩
    rcases turn i n H5 w5 with ⟨stop, qq⟩ | ⟨go, Nx, hNx, step⟩
    · refine thnF (T.done B rfl rfl rfl hc i [] s5 _ H5 (fun _ _ => False) I5 (stat I5 n5) st5 stop) fun r s6 ⟨hr, I6⟩ => ?_
      subst hr
      have I7 : Inv X pins σ H5 s6 := I3.call' (ch := fp) I6.os I6.base I6.hok I6.bare fun b hb =>
        let ⟨⟨_, a1, a2, a3, a4, a5⟩, _⟩ := fpOk b hb
        ⟨a3, a1, a4, a5⟩
      obtain ⟨m, hn, _⟩ := I6.loc
      have nC : H5 ce.locals = none := I6.free
      have hn : s6.heap.Ns ce.locals m := hn
      rw [cL] at nC hn
      exact hRR D s3.heap.objs.size s6 m H5 I7 qq hn (I3.fpOk (Nat.le_refl _) nC)
    · refine thnF (T.item B rfl rfl rfl hc i [] s5 _ H5 (fun _ _ => False) I5 (stat I5 n5) st5 go) fun r s6 ⟨u, hr, h6⟩ => ?_
      subst hr
      refine thnF h6 fun _ s7 ⟨x, H7, I7, r7, y7, st7, n7⟩ => ?_
      refine thnF (pg.run _ s7 _ H7 x u _ (I7.pinned (stat I7 n7) (T.obj _ _ st7)) r7 (step x H7 y7)) fun _ s8 ⟨σ8, H8, I8, hw8, q8⟩ => ?_
      -- what the block knew at its start stands at its end
      have fin : ∀ {σ9 : L2.St} {z : Shared} {G : Hp}, Inv B ([] ++ pinsAt fp s7.heap) σ9 G z → st'.length = σ9.length → (∀ (j : Nat) v, st'[j]? = some (some v) → σ9[j]? = some (some v)) → Nx G → ∃ m, m < n ∧ Inn m z := fun {σ9 z G} k hl hk nx => by
        obtain ⟨m', hm, w'⟩ := hNx G nx
        have held : ∀ b ∈ fp, ∀ o, s7.heap.get? b = some o → z.heap.get? b = some o ∧ G b = none := fun b hb o e =>
          let ⟨a1, a2, _⟩ := k.pin (b, o) (List.mem_append_right _ (List.mem_append_right _ (mem_pinsAt hb e)))
          ⟨a1, a2⟩
        refine ⟨m', hm, i + 1, G, (k.unpinned (pins := [])).weak hl hk, T.keep _ _ _ st7 fun b hb o e => (held b hb o e).1, fun b hb => ?_, w'⟩
        obtain ⟨o, e, _⟩ := T.obj _ _ st7 b hb
        exact (held b hb o e).2
      have l8 : st'.length = (wipe σ8 vs1).length := ((congrArg List.length hw8).symm.trans (wipe_length σ8 _)).trans (wipe_length σ8 vs1).symm
      have k9 : ∀ (j : Nat) v, st'[j]? = some (some v) → (wipe σ8 vs1)[j]? = some (some v) := fun j v e => by
        have e : (wipe σ8 (own.map (·.2)))[j]? = some (some v) := by rw [hw8]; exact e
        obtain ⟨a1, a2⟩ := wipe_some e
        rw [wipe_out fun z => a2 (hv j z)]
        exact a1
      refine thnF (pi1.run _ s8 σ8 H8 _ I8 q8) fun xv s9 hx => thnF hx fun itv s10 h10 => ?_
      obtain ⟨it1, fp1, tn1, J1, H10, rfl, I10, T1, st10, f10, W1, ⟨m1, w1⟩, turn1⟩ := h10
      have stat1 : ∀ {G : Hp}, (∀ b ∈ fp1, G b = none) → ∀ b ∈ fp1, FpOk B ([] ++ pinsAt fp s7.heap) G b := fun hn b hb => ⟨hn b hb, (f10 b hb).2⟩
      have inner : codeAny (model X.prog X.w) X.A (.compLoop (SC elt t0 i0 t1 i1 sc p) 1 (.ref it1) (.ref D) ce) (fun r z => match r with
          | .ok _ => ∃ m, m < n ∧ Inn m z
          | .error _ => False) s10 := by
        refine loop_sc1 (fun k z => ∃ j G, Inv B ([] ++ pinsAt fp s7.heap) (wipe σ8 vs1) G z ∧ tn1 j z.heap ∧ (∀ b ∈ fp1, G b = none) ∧ W1 j k G) ?_ m1 ⟨0, H10, I10.weak (wipe_length _ _) (fun j v e => (wipe_some e).1), st10, fun b hb => (f10 b hb).1, w1⟩
        rintro k s11 ⟨j, H11, I11, st11, n11, w11⟩
        rcases turn1 j k H11 w11 with ⟨stop1, nx1⟩ | ⟨go1, Nx1, hNx1, step1⟩
        · refine thnF (T1.done B rfl rfl rfl hc j _ s11 (wipe σ8 vs1) H11 (fun _ _ => False) I11 (stat1 n11) st11 stop1) fun r s12 ⟨hr, I12⟩ => ?_
          subst hr
          exact fin I12 l8 k9 nx1
        · refine thnF (T1.item B rfl rfl rfl hc j _ s11 (wipe σ8 vs1) H11 (fun _ _ => False) I11 (stat1 n11) st11 go1) fun r s12 ⟨u1, hr, h12⟩ => ?_
          subst hr
          refine thnF h12 fun _ s13 ⟨x1, H13, I13, r13, y13, st13, n13⟩ => ?_
          refine thnF (pg1.run _ s13 (wipe σ8 vs1) H13 x1 u1 _ (I13.pinned (stat1 n13) (T1.obj _ _ st13)) r13 (step1 x1 H13 y13)) fun _ s14 ⟨σ14, H14, I14, hw14, q14⟩ => ?_
          refine thnF (pe.run _ s14 σ14 H14 _ I14 q14) fun z s15 ⟨yv, H15, I15, r15, tx, acc, ey, hD15, room, nx⟩ => ?_
          subst ey
          obtain ⟨tk, rfl⟩ : ∃ tk, z = Value.str tx tk := r15
          refine addX_ok (X := B) I15 hD15 room fun s16 I16 => ?_
          obtain ⟨m', hm, w'⟩ := hNx1 _ nx
          have held : ∀ b ∈ fp1, ∀ o, s13.heap.get? b = some o → s16.heap.get? b = some o ∧ (upd H15 D (SetXO X.w D (if tx ∈ acc then acc else tx :: acc))) b = none := fun b hb o e =>
            let ⟨a1, a2, _⟩ := I16.pin (b, o) (List.mem_append_right _ (List.mem_append_right _ (mem_pinsAt hb e)))
            ⟨a1, a2⟩
          refine ⟨m', hm, j + 1, _, I16.unpinned.weak (by rw [← hw14, wipe_length]) (fun j v e => by rw [← hw14] at e; exact (wipe_some e).1), T1.keep _ _ _ st13 fun b hb o e => (held b hb o e).1, fun b hb => ?_, w'⟩
          obtain ⟨o, e, _⟩ := T1.obj _ _ st13 b hb
          exact (held b hb o e).2
      exact start_sc1 inner (T1.self X.A 0 _ _ _ st10 inner)
  exact PpSet.codeAny_compStart_set loop (T.self X.A 0 _ _ _ st4 loop)
/-- as a value -/
theorem pe_sc2 {elt t0 i0 t1 i1 : Expr} {sc : Scope} {own : List (Str × Nat)} {vs1 : List Nat} {p : Pos} {wi wi1 : TI} {g g1 : TG} {te : TE} (hc : X.calm = true) (hN : X.N.Nodup) (ok : BlkOk X.N X.env.scope sc own) (hv : ∀ i ∈ vs1, i ∈ own.map (·.2)) (hi : PI X t0 i0 wi)
    (kg : ∀ z G C cl fp, PG (X.blk z G sc (compEnvC sc cl C X.env) fp) t0 g) (ki : ∀ z G C cl fp, PI (X.blk z G sc (compEnvC sc cl C X.env) fp) t1 i1 wi1)
    (kg1 : ∀ z G C cl fp, PG (X.blk z G sc (compEnvC sc cl C X.env) fp) t1 g1) (ke : ∀ z G C cl fp, PE (X.blk z G sc (compEnvC sc cl C X.env) fp) elt te)
    (f0 : ∀ x, foldedSetIterable i0 X.env x = pure x := by intro _; rfl) (f1 : ∀ env x, foldedSetIterable i1 env x = pure x := by intro _ _; rfl) :
    PE X (SC elt t0 i0 t1 i1 sc p) (tSx X.w wi g wi1 g1 te (own.map (·.2)) vs1) := by
  refine ⟨fun pins s σ H Q I h => ?_⟩
  rw [show SC elt t0 i0 t1 i1 sc p = .SetComp elt [⟨t0, i0, [], 0⟩, ⟨t1, i1, [], 0⟩] sc p from rfl, PpSet.eval_SetComp]
  refine sc2_core hc hN I ok hv hi kg ki kg1 ke f0 f1 h fun D C z m G k q hn f => ⟨m, hn, fun hp sb => ?_⟩
  obtain ⟨b0, b1, b2, b3, b4, b5⟩ := f
  exact ⟨.ref D, G, k.turned (t' := z.toks) (fun b o hb e => (sb.2 b hb).trans e) b0 b1 b3 b4 b5, rfl, q⟩
end
end U

/-! U30: texts in their order; dicts with text keys, told by a list of what their values are. -/
namespace U
open PySem PySem.Spec PyProof.Rows L2
/-! ### the order of texts -/
def leS (a b : Str) : Bool := decide (a.cps.toList ≤ b.cps.toList)
theorem leS_anti {a b : Str} (h : leS a b = true) (k : leS b a = true) : a = b := by
  have e := List.le_antisymm (of_decide_eq_true h) (of_decide_eq_true k)
  cases a; cases b
  simpa [Array.toList_inj] using e
theorem leS_trans (a b c : Str) (h : leS a b = true) (k : leS b c = true) : leS a c = true := decide_eq_true (List.le_trans (of_decide_eq_true h) (of_decide_eq_true k))
theorem leS_total (a b : Str) : (leS a b || leS b a) = true := by
  rcases List.le_total a.cps.toList b.cps.toList with h | h
  · rw [show leS a b = true from decide_eq_true h]; rfl
  · rw [show leS b a = true from decide_eq_true h, Bool.or_true]
def srt (xs : List Str) : List Str := xs.mergeSort leS
theorem srt_perm (xs : List Str) : (srt xs).Perm xs := List.mergeSort_perm xs leS
theorem srt_le (xs : List Str) : (srt xs).Pairwise fun a b => leS a b = true := List.pairwise_mergeSort leS_trans leS_total xs
theorem rising_le : ∀ (r : List Str) (p : Str), risingS p r = true → (p :: r).Pairwise fun a b => leS a b = true
  | [], p, _ => List.pairwise_singleton _ _
  | x :: r, p, h => by
    have h : (!ltCps x.cps.toList p.cps.toList && risingS x r) = true := h
    rw [Bool.and_eq_true] at h
    have ih := rising_le r x h.2
    have h1 : leS p x = true := by
      have z := h.1
      rw [ltCps_eq] at z
      exact decide_eq_true (List.not_lt.mp (by simpa using z))
    refine List.pairwise_cons.mpr ⟨fun y hy => ?_, ih⟩
    rcases List.mem_cons.mp hy with rfl | hy
    · exact h1
    · exact leS_trans _ _ _ h1 ((List.pairwise_cons.mp ih).1 y hy)
theorem sorted_le : ∀ (xs : List Str), sortedS xs = true → xs.Pairwise fun a b => leS a b = true
  | [], _ => List.Pairwise.nil
  | x :: r, h => rising_le r x h
theorem le_srt {xs ys : List Str} (p : ys.Perm xs) (h : ys.Pairwise fun a b => leS a b = true) : ys = srt xs :=
  List.Perm.eq_of_pairwise (fun _ _ _ _ a b => leS_anti a b) h (srt_le xs) (p.trans (srt_perm xs).symm)
/-- what sorted gives is just this -/
theorem sorted_srt {xs ys : List Str} (p : ys.Perm xs) (h : sortedS ys = true) : ys = srt xs := le_srt p (sorted_le ys h)
theorem srt_congr {xs ys : List Str} (p : xs.Perm ys) : srt xs = srt ys := le_srt ((srt_perm xs).trans p) (srt_le xs)
theorem srt_idem (xs : List Str) : srt (srt xs) = srt xs := srt_congr (srt_perm xs)
theorem srt_nodup {xs : List Str} (h : xs.Nodup) : (srt xs).Nodup := (srt_perm xs).nodup_iff.mpr h
theorem srt_len (xs : List Str) : (srt xs).length = xs.length := (srt_perm xs).length_eq
/-- strictly rising -/
def Up (xs : List Str) : Prop := xs.Pairwise fun a b => a.cps.toList < b.cps.toList
theorem lt_of_leS {a b : Str} (h : leS a b = true) (n : a ≠ b) : a.cps.toList < b.cps.toList := by
  rcases List.le_iff_lt_or_eq.mp (of_decide_eq_true h : a.cps.toList ≤ b.cps.toList) with h | h
  · exact h
  · exact absurd (leS_anti (decide_eq_true (Std.le_of_eq h)) (decide_eq_true (Std.le_of_eq h.symm))) n
theorem srt_up {xs : List Str} (h : xs.Nodup) : Up (srt xs) := by
  have a := srt_le xs
  have b := srt_nodup h
  exact (a.and b).imp fun ⟨x, y⟩ => lt_of_leS x y
theorem Up.nodup {xs : List Str} (h : Up xs) : xs.Nodup := h.imp fun {a b} l e => by
  subst e
  exact List.lt_irrefl _ l
theorem Up.srt {xs : List Str} (h : Up xs) : U.srt xs = xs := (le_srt (List.Perm.refl _) (h.imp fun {a b} l => decide_eq_true (Std.le_of_lt l))).symm
theorem Up.at {xs : List Str} (h : Up xs) {i : Nat} {x y : Str} (hx : xs[i]? = some x) (hy : xs[i + 1]? = some y) : x.cps.toList < y.cps.toList := by
  obtain ⟨h1, rfl⟩ := List.getElem?_eq_some_iff.mp hx
  obtain ⟨h2, rfl⟩ := List.getElem?_eq_some_iff.mp hy
  exact List.pairwise_iff_getElem.mp h i (i + 1) h1 h2 (Nat.lt_succ_self i)
/-- the distinct texts, in their order -/
def dist (xs : List Str) : List Str := srt (adds [] xs)
theorem dist_up (xs : List Str) : Up (dist xs) := srt_up (adds_nodup xs [] List.nodup_nil)
theorem dist_mem (xs : List Str) (y : Str) : y ∈ dist xs ↔ y ∈ xs := by
  unfold dist
  rw [(srt_perm _).mem_iff, adds_mem]
  simp
theorem dist_len (xs : List Str) : (dist xs).length ≤ xs.length := by
  unfold dist
  rw [srt_len]
  have := adds_len xs []
  simpa using this
theorem up_ext {xs ys : List Str} (hx : Up xs) (hy : Up ys) (h : ∀ z, z ∈ xs ↔ z ∈ ys) : xs = ys := by
  have p : xs.Perm ys := (List.perm_ext_iff_of_nodup hx.nodup hy.nodup).mpr h
  rw [← hx.srt, ← hy.srt, srt_congr p]
/-! ### dicts with text keys -/
section
variable {β : Type}
def lk (ts : List (Str × β)) (x : Str) : Option β := (ts.find? fun t => decide (t.1 = x)).map (·.2)
def putA (ts : List (Str × β)) (x : Str) (b : β) : List (Str × β) := if (ts.any fun t => decide (t.1 = x)) = true then ts.map (fun t => if t.1 = x then (t.1, b) else t) else ts ++ [(x, b)]
def names (ts : List (Str × β)) : List Str := ts.map (·.1)
theorem any_name {ts : List (Str × β)} {x : Str} : (ts.any fun t => decide (t.1 = x)) = true ↔ x ∈ names ts := by
  unfold names
  rw [List.any_eq_true, List.mem_map]
  exact ⟨fun ⟨t, h, e⟩ => ⟨t, h, of_decide_eq_true e⟩, fun ⟨t, h, e⟩ => ⟨t, h, decide_eq_true e⟩⟩
theorem putA_new {ts : List (Str × β)} {x : Str} {b : β} (h : x ∉ names ts) : putA ts x b = ts ++ [(x, b)] := by
  unfold putA
  rw [if_neg fun z => h (any_name.mp z)]
theorem putA_names_in {ts : List (Str × β)} {x : Str} {b : β} (h : x ∈ names ts) : names (putA ts x b) = names ts := by
  unfold putA
  rw [if_pos (any_name.mpr h)]
  unfold names
  rw [List.map_map]
  refine List.map_congr_left fun t _ => ?_
  show (if t.1 = x then (t.1, b) else t).1 = t.1
  split <;> rfl
theorem lk_cons (t : Str × β) (ts : List (Str × β)) (x : Str) : lk (t :: ts) x = if t.1 = x then some t.2 else lk ts x := by
  unfold lk
  rw [List.find?_cons]
  by_cases h : t.1 = x
  · rw [if_pos h, decide_eq_true h]; rfl
  · rw [if_neg h, decide_eq_false h]
theorem lk_none {ts : List (Str × β)} {x : Str} : lk ts x = none ↔ x ∉ names ts := by
  induction ts with
  | nil => exact ⟨fun _ => List.not_mem_nil, fun _ => rfl⟩
  | cons t ts ih =>
    rw [lk_cons]
    by_cases h : t.1 = x
    · rw [if_pos h]
      exact ⟨fun z => (nomatch z), fun z => absurd (by rw [← h]; exact List.mem_cons_self) z⟩
    · rw [if_neg h, ih]
      exact ⟨fun z q => (List.mem_cons.mp q).elim (fun e => h e.symm) z, fun z q => z (List.mem_cons_of_mem _ q)⟩
theorem lk_some {ts : List (Str × β)} {x : Str} (h : x ∈ names ts) : ∃ b, lk ts x = some b := by
  cases e : lk ts x with
  | none => exact absurd h (lk_none.mp e)
  | some b => exact ⟨b, rfl⟩
theorem lk_mem {ts : List (Str × β)} {x : Str} {b : β} (h : lk ts x = some b) : (x, b) ∈ ts := by
  induction ts with
  | nil => cases h
  | cons t ts ih =>
    rw [lk_cons] at h
    by_cases e : t.1 = x
    · rw [if_pos e] at h
      cases h
      rw [← e]
      exact List.mem_cons_self
    · rw [if_neg e] at h
      exact List.mem_cons_of_mem _ (ih h)
theorem lk_at {ts : List (Str × β)} (nd : (names ts).Nodup) {t : Str × β} (h : t ∈ ts) : lk ts t.1 = some t.2 := by
  induction ts with
  | nil => cases h
  | cons u ts ih =>
    rw [lk_cons]
    obtain ⟨n1, n2⟩ := List.nodup_cons.mp nd
    rcases List.mem_cons.mp h with rfl | h
    · rw [if_pos rfl]
    · rw [if_neg fun e => n1 (List.mem_map.mpr ⟨t, h, e.symm⟩)]
      exact ih n2 h
theorem lk_put {ts : List (Str × β)} {x y : Str} {b : β} : lk (putA ts x b) y = if x = y then some b else lk ts y := by
  unfold putA
  by_cases h : (ts.any fun t => decide (t.1 = x)) = true
  · rw [if_pos h]
    have hx := any_name.mp h
    clear h
    induction ts with
    | nil => cases hx
    | cons t ts ih =>
      rw [List.map_cons, lk_cons, lk_cons]
      by_cases e : t.1 = x
      · rw [if_pos e]
        by_cases e2 : x = y
        · rw [if_pos (e.trans e2), if_pos e2]
        · rw [if_neg (show ¬ (t.1, b).1 = y from fun z => e2 (e.symm.trans z)), if_neg e2, if_neg fun z => e2 (e.symm.trans z)]
          by_cases hn : x ∈ names ts
          · rw [ih hn, if_neg e2]
          · have e3 : ts.map (fun t => if t.1 = x then (t.1, b) else t) = ts := by
              refine (List.map_congr_left fun t ht => ?_).trans (List.map_id ts)
              rw [if_neg fun z => hn (by rw [← z]; exact List.mem_map_of_mem ht)]
              rfl
            rw [e3]
      · rw [if_neg e]
        have hx : x ∈ names ts := (List.mem_cons.mp hx).elim (fun z => absurd z.symm e) id
        by_cases e2 : t.1 = y
        · rw [if_pos e2, if_pos e2, if_neg fun z => e (e2.trans z.symm)]
        · rw [if_neg e2, if_neg e2, ih hx]
  · rw [if_neg h]
    have hx : x ∉ names ts := fun z => h (any_name.mpr z)
    clear h
    induction ts with
    | nil => rw [List.nil_append, lk_cons]
    | cons t ts ih =>
      rw [List.cons_append, lk_cons, lk_cons]
      by_cases e2 : t.1 = y
      · rw [if_pos e2, if_pos e2, if_neg fun z => hx (by rw [z, ← e2]; exact List.mem_cons_self)]
      · rw [if_neg e2, if_neg e2, ih fun z => hx (List.mem_cons_of_mem _ z)]
/-- the dict's entries are told by ts -/
def DRel (R : Hp → V → β → Prop) (H : Hp) (kvs : List (Key × V)) (ts : List (Str × β)) : Prop :=
  kvs.length = ts.length ∧ ∀ (i : Nat) (k : Key × V) (t : Str × β), kvs[i]? = some k → ts[i]? = some t → k.1 = .inr t.1 ∧ R H k.2 t.2
variable {R : Hp → V → β → Prop} {H H' : Hp} {kvs : List (Key × V)} {ts : List (Str × β)}
theorem DRel.mono {R' : Hp → V → β → Prop} (h : DRel R H kvs ts) (q : ∀ v b, R H v b → R' H' v b) : DRel R' H' kvs ts := ⟨h.1, fun i k t a b => ⟨(h.2 i k t a b).1, q _ _ (h.2 i k t a b).2⟩⟩
theorem DRel.nil : DRel R H [] [] := ⟨rfl, fun i k t a _ => by simp at a⟩
theorem DRel.cons {k : Key × V} {t : Str × β} (h : DRel R H (k :: kvs) (t :: ts)) : k.1 = .inr t.1 ∧ R H k.2 t.2 ∧ DRel R H kvs ts :=
  ⟨(h.2 0 k t rfl rfl).1, (h.2 0 k t rfl rfl).2, Nat.succ.inj h.1, fun i k t a b => h.2 (i + 1) k t a b⟩
theorem DRel.add {k : Key × V} {t : Str × β} (e : k.1 = .inr t.1) (r : R H k.2 t.2) (h : DRel R H kvs ts) : DRel R H (k :: kvs) (t :: ts) := by
  refine ⟨congrArg Nat.succ h.1, fun i u v a b => ?_⟩
  cases i with
  | zero => cases a; cases b; exact ⟨e, r⟩
  | succ i => exact h.2 i u v a b
theorem DRel.ind {C : List (Key × V) → List (Str × β) → Prop} (h0 : C [] []) (hc : ∀ k t kvs ts, k.1 = .inr t.1 → R H k.2 t.2 → DRel R H kvs ts → C kvs ts → C (k :: kvs) (t :: ts)) : ∀ {kvs ts}, DRel R H kvs ts → C kvs ts
  | [], [], _ => h0
  | [], _ :: _, h => nomatch h.1
  | _ :: _, [], h => nomatch h.1
  | _ :: _, _ :: _, h => let ⟨a, b, c⟩ := h.cons; hc _ _ _ _ a b c (DRel.ind h0 hc c)
theorem DRel.keys (h : DRel R H kvs ts) : kvs.map (·.1) = (names ts).map Sum.inr := by
  refine h.ind (C := fun kvs ts => kvs.map (·.1) = (names ts).map Sum.inr) rfl fun k t kvs ts e _ _ ih => ?_
  show k.1 :: kvs.map (·.1) = Sum.inr t.1 :: (names ts).map Sum.inr
  rw [e, ih]
theorem DRel.at (h : DRel R H kvs ts) {i : Nat} {k : Key × V} (hk : kvs[i]? = some k) : ∃ t, ts[i]? = some t ∧ k.1 = .inr t.1 ∧ R H k.2 t.2 := by
  have hi : i < ts.length := by rw [← h.1]; exact (List.getElem?_eq_some_iff.mp hk).1
  exact ⟨ts[i], by simp [hi], h.2 i k ts[i] hk (by simp [hi])⟩
theorem DRel.get (h : DRel R H kvs ts) {x : Str} {b : β} (hx : lk ts x = some b) : ∃ v, valV kvs (.inr x) = some v ∧ R H v b := by
  revert hx
  refine h.ind (C := fun kvs ts => lk ts x = some b → ∃ v, valV kvs (.inr x) = some v ∧ R H v b) (fun z => by cases z) fun k t kvs ts e r _ ih z => ?_
  rw [lk_cons] at z
  unfold valV at ih ⊢
  rw [List.find?_cons]
  by_cases e2 : t.1 = x
  · rw [if_pos e2] at z
    cases z
    rw [decide_eq_true (show k.1 = .inr x by rw [e, e2])]
    exact ⟨_, rfl, r⟩
  · rw [if_neg e2] at z
    rw [decide_eq_false (show ¬ k.1 = .inr x from fun w => e2 (Sum.inr.inj (e.symm.trans w)))]
    exact ih z
theorem DRel.miss (h : DRel R H kvs ts) {x : Str} (hx : lk ts x = none) : valV kvs (.inr x) = none := by
  have e : ∀ p ∈ kvs, p.1 ≠ .inr x := fun p hp z => by
    obtain ⟨i, hi, ei⟩ := List.getElem_of_mem hp
    obtain ⟨t, ht, e1, _⟩ := h.at (i := i) (k := p) (by rw [← ei]; simp)
    exact lk_none.mp hx (by rw [← Sum.inr.inj (e1.symm.trans z)]; exact List.mem_map_of_mem (List.mem_of_getElem? ht))
  unfold valV
  rw [List.find?_eq_none.mpr fun p hp => by simpa using e p hp]
  rfl
theorem DRel.put (h : DRel R H kvs ts) {x : Str} {v : V} {b : β} (r : R H v b) : DRel R H (putK kvs (.inr x) v) (putA ts x b) := by
  have e : (kvs.any fun kv => decide (kv.1 = .inr x)) = (ts.any fun t => decide (t.1 = x)) :=
    h.ind (C := fun kvs ts => (kvs.any fun kv => decide (kv.1 = .inr x)) = (ts.any fun t => decide (t.1 = x))) rfl fun k t kvs ts e _ _ ih => by
      rw [List.any_cons, List.any_cons, ih, e]
      congr 1
      exact decide_eq_decide.mpr ⟨fun z => Sum.inr.inj z, fun z => congrArg _ z⟩
  unfold putK putA
  rw [e]
  split
  · refine h.ind (C := fun kvs ts => DRel R H (kvs.map fun kv => if kv.1 = .inr x then (kv.1, v) else kv) (ts.map fun t => if t.1 = x then (t.1, b) else t)) .nil fun k t kvs ts e r' _ ih => ?_
    rw [List.map_cons, List.map_cons]
    by_cases e2 : t.1 = x
    · rw [if_pos e2, if_pos (by rw [e, e2])]
      exact .add e r ih
    · rw [if_neg e2, if_neg fun z => e2 (Sum.inr.inj (e.symm.trans z))]
      exact .add e r' ih
  · exact h.ind (C := fun kvs ts => DRel R H (kvs ++ [(.inr x, v)]) (ts ++ [(x, b)])) (.add rfl r .nil) fun k t kvs ts e r' _ ih => .add e r' ih
theorem DRel.take (h : DRel R H kvs ts) (n : Nat) : DRel R H (kvs.take n) (ts.take n) := by
  refine ⟨by rw [List.length_take, List.length_take, h.1], fun i k t a b => ?_⟩
  rw [List.getElem?_take] at a b
  split at a
  · rename_i hi
    rw [if_pos hi] at b
    exact h.2 i k t a b
  · cases a
end
theorem upd_comm {H : Hp} {a b : Addr} {o p : HO} (h : a ≠ b) : upd (upd H b p) a o = upd (upd H a o) b p := by
  funext c
  by_cases e : c = a
  · subst e; rw [upd_same, upd_ne h, upd_same]
  · by_cases e2 : c = b
    · subst e2; rw [upd_ne e, upd_same, upd_same]
    · rw [upd_ne e, upd_ne e2, upd_ne e2, upd_ne e]
theorem upd_back {H : Hp} {a : Addr} {o : HO} (h : H a = some o) : upd H a o = H := by
  funext c
  by_cases e : c = a
  · subst e; rw [upd_same, h]
  · rw [upd_ne e]
theorem upd_unlock {H : Hp} {a D : Addr} {x p u : HO} (n : D ≠ a) (h : H a = some u) : upd (upd (upd H a p) D x) a u = upd H D x := by
  rw [upd_comm n, upd_upd, upd_comm n.symm, upd_back h]
/-- a tuple, a list of texts; a pair of integers -/
def TupS (H : Hp) (v : V) (xs : List Str) : Prop := ∃ a, v = .ref a ∧ H a = some (.tup (xs.map V.str))
def LstS (H : Hp) (v : V) (xs : List Str) : Prop := ∃ a, v = .ref a ∧ H a = some (.lst (xs.map V.str))
theorem TupS.up {H H' : Hp} {v : V} {xs : List Str} (h : TupS H v xs) (g : Gr H H') : TupS H' v xs := let ⟨a, e, k⟩ := h; ⟨a, e, g _ _ k⟩
theorem LstS.up {H H' : Hp} {v : V} {xs : List Str} (h : LstS H v xs) (g : Gr H H') : LstS H' v xs := let ⟨a, e, k⟩ := h; ⟨a, e, g _ _ k⟩
theorem TupS.off {H : Hp} {v : V} {xs : List Str} {D : Addr} {o p : HO} (h : TupS H v xs) (hd : H D = some p) (np : ∀ l, p ≠ .tup l) : TupS (upd H D o) v xs := by
  obtain ⟨a, e, k⟩ := h
  exact ⟨a, e, by rw [upd_ne fun z => by rw [z, hd] at k; exact np _ (Option.some.inj k)]; exact k⟩
theorem LstS.off {H : Hp} {v : V} {xs : List Str} {D : Addr} {o p : HO} (h : LstS H v xs) (hd : H D = some p) (np : ∀ l, p ≠ .lst l) : LstS (upd H D o) v xs := by
  obtain ⟨a, e, k⟩ := h
  exact ⟨a, e, by rw [upd_ne fun z => by rw [z, hd] at k; exact np _ (Option.some.inj k)]; exact k⟩
end U

/-! U31: rules for dicts told by lists, and for sets of texts. -/
namespace U
open PySem PySem.Spec PyProof.Rows L2
section
variable {X : Cx}
/-- len(d) -/
def uLenD : List V → Hp → VK → Prop := fun vs H Q => ∃ (d : Addr) (kvs : List (Key × V)), vs = [.ref d] ∧ Rd H d (.dK kvs) ∧ Q (.int kvs.length) H
theorem caLenD : CallR X (.builtin "len") uLenD := by
  intro pins s σ H vs us Q I r h
  obtain ⟨d, kvs, rfl, hd, q⟩ := h
  obtain ⟨u, rfl, ru⟩ := L2.vals1 r
  cases (show u = Value.ref d from ru)
  exact d_len I hd fun t z J => ⟨.int _, H, J, ⟨t, rfl⟩, q⟩
/-- len(set of texts) -/
def uLenX (w : World) : List V → Hp → VK → Prop := fun vs H Q => ∃ (d : Addr) (xs : List Str), vs = [.ref d] ∧ H d = some (SetXO w d xs) ∧ Q (.int xs.length) H
theorem caLenX : CallR X (.builtin "len") (uLenX X.w) := by
  intro pins s σ H vs us Q I r h
  obtain ⟨a, xs, rfl, ha, q⟩ := h
  obtain ⟨u, rfl, ru⟩ := L2.vals1 r
  cases (show u = Value.ref a from ru)
  obtain ⟨o, es, ep, t, ho, hx, hd, T⟩ := setXO_at I ha
  have hz := T.size
  have hf := T.few
  refine call_len_set ho hx hd T.fits (by unfold scanBound at hf; omega) ?_
  rw [hz]
  exact ⟨.int _, H, I.tok _, ⟨_, rfl⟩, q⟩
end
theorem inV_str (x : Str) (xs : List Str) : inV (.str x) (xs.map V.str) = decide (x ∈ xs) := by
  unfold inV
  induction xs with
  | nil => rfl
  | cons y xs ih =>
    rw [List.map_cons, List.any_cons, ih]
    have e : eqV (V.str y) (V.str x) = decide (x = y) := by
      by_cases h : x = y
      · subst h; simp [eqV]
      · rw [decide_eq_false h]
        show (y == x) = false
        exact beq_eq_false_iff_ne.mpr fun z => h z.symm
    rw [e]
    by_cases h : x = y
    · rw [decide_eq_true h, decide_eq_true (show x ∈ y :: xs by rw [h]; exact List.mem_cons_self)]; rfl
    · rw [decide_eq_false h, Bool.false_or]
      exact decide_eq_decide.mpr ⟨fun z => List.mem_cons_of_mem _ z, fun z => (List.mem_cons.mp z).elim (fun e => absurd e h) id⟩
def fl (ts : List (Str × List Str)) : List Str := (ts.map Prod.snd).flatten
/-- all columns of the tables, in their order -/
def colsOf (ts : List (Str × List Str)) : List Str := dist (fl ts)
/-- a name -/
def nmB (z : Str) : Bool := decide (1 ≤ z.length) && decide (z.length ≤ 8) && z.cps.toList.all fun c => decide (c ∈ ("abcdefghijklmnopqrstuvwxyz" : Str).cps.toList)
def Nm (z : Str) : Prop := nmB z = true
theorem Nm.len {z : Str} (h : Nm z) : z.length ≤ 8 := by
  have h : (decide (1 ≤ z.length) && decide (z.length ≤ 8) && _) = true := h
  rw [Bool.and_eq_true, Bool.and_eq_true] at h
  exact of_decide_eq_true h.1.2
/-- tables that a question can have -/
structure OKT (ts : List (Str × List Str)) : Prop where
  few : 1 ≤ ts.length ∧ ts.length ≤ 6
  nd : (names ts).Nodup
  nm : ∀ t ∈ ts, Nm t.1
  cols : ∀ t ∈ ts, (1 ≤ t.2.length ∧ t.2.length ≤ 6) ∧ Up t.2 ∧ ∀ z ∈ t.2, Nm z
  all : (colsOf ts).length ≤ 8
theorem fl_le {n : Nat} : ∀ (ts : List (Str × List Str)), (∀ t ∈ ts, t.2.length ≤ n) → (fl ts).length ≤ ts.length * n
  | [], _ => by simp [fl]
  | t :: ts, h => by
    have ih := fl_le ts fun u hu => h u (List.mem_cons_of_mem _ hu)
    have h1 := h t List.mem_cons_self
    show ((List.map Prod.snd (t :: ts)).flatten).length ≤ _
    rw [List.map_cons, List.flatten_cons, List.length_append, List.length_cons, Nat.add_mul]
    have : (List.map Prod.snd ts).flatten.length = (fl ts).length := rfl
    omega
theorem OKT.fl {ts : List (Str × List Str)} (ok : OKT ts) : (fl ts).length < 64 := by
  have := fl_le (n := 6) ts fun t ht => (ok.cols t ht).1.2
  have := ok.few
  omega
/-- groups of a question with these tables -/
structure OKG (ts : List (Str × List Str)) (gs : List Str) : Prop where
  up : Up gs
  nm : ∀ z ∈ gs, Nm z
  has : ∀ z ∈ gs, z ∈ colsOf ts
  few : gs.length ≤ 8
/-- a ratio told by its top and bottom -/
def RatS (C : Addr) (H : Hp) (v : V) (r : Nat × Nat) : Prop := IsR C H v (r.1 : Int) (r.2 : Int)
/-- sizes that are let, for some of the names -/
structure OKZ (ns : List Str) (zs : List (Str × (Nat × Nat))) : Prop where
  few : zs.length ≤ 64
  has : ∀ z ∈ zs, z.1 ∈ ns
  let_ : ∀ z ∈ zs, 1 ≤ z.2.2 ∧ z.2.2 ≤ 60 ∧ z.2.1 ≤ 9 * z.2.2
theorem RatS.up {C : Addr} {H H' : Hp} {v : V} {r : Nat × Nat} (h : RatS C H v r) (g : Gr H H') : RatS C H' v r := IsR.up h g
theorem RatS.off {C : Addr} {H : Hp} {v : V} {r : Nat × Nat} {D : Addr} {o p : HO} (h : RatS C H v r) (hd : H D = some p) (np : ∀ a b c, p ≠ .ins a b c) : RatS C (upd H D o) v r := by
  obtain ⟨a, dx, e, k⟩ := h
  exact ⟨a, dx, e, by rw [upd_ne fun z => by rw [z, hd] at k; exact np _ _ _ (Option.some.inj k)]; exact k⟩
section
variable {X : Cx} {CX : CXT} {n : Nat} {f C : Addr} {fd : FuncData} {ps : List Str} {sp : Sp} {E : XK}
/-- {e}, e an instance that is shown by its own __str__ -/
def tFmtO (C : Addr) (sp : Sp) (E : XK) (te : TE) : TE := fun σ H Q => te σ H fun x H1 => ∃ (a dx : Addr) (fs : List (Str × V)), x = .ref a ∧ H1 a = some (.ins C dx fs) ∧ sp [.ref a] H1 (fun v H' => (∃ y, v = .str y) ∧ Q v H') E
theorem pe_fmtO {e : Expr} {te : TE} {pos : Pos} (hff : PySem.W.findIn X.K (.ref C) "__format__" = some (some (.builtin "object.__format__"))) (hmo : PySem.W.mroIn X.K C (.type "object") = some true)
    (m : Meth X.K C "__str__" f) (F : FnOk X.prog X.w X.K X.mg X.base CX n f fd ps sp) (hr : Room (n + 2) X.A) (hb : L2.Binds X.K fd ps []) (hx : Passes CX X E) (he : PE X e te) : PE X (.FormattedValue e (-1) none pos) (tFmtO C sp E te) := by
  refine ⟨fun pins s σ H Q I h => ?_⟩
  refine wpAny_FormattedValue_plain (thn (he.run pins s σ H _ I h) fun v s1 hv => ?_)
  obtain ⟨x, H1, I1, r1, a, dx, fs, rfl, ha, hs⟩ := hv
  cases r1
  obtain ⟨mA, J, _⟩ := ins_get I1.hok ha
  obtain ⟨od, J, _⟩ := J.look
  have hr2 : Room n X.A.in1 := Room.in1 (hr.mono (by omega))
  refine PySem.W.kfo_fieldS hr2.units0 I1.kIn J hff hmo m.at_ m.fn ?_
  refine wpAny_mono (run_here F hr2 rfl hb hx (I1.tok (s1.toks + 1)) (show Vals [V.ref a] [Value.ref a] from .cons rfl .nil) hs) (fun v s' q => ?_) fun _ _ z => z
  obtain ⟨x, H', I', rv, ⟨y, rfl⟩, q⟩ := q
  obtain ⟨t, rfl⟩ := (show ∃ t, v = Value.str y t from rv)
  exact ⟨.str y, H', I', ⟨t, rfl⟩, q⟩
end
def rJoin (K : PySem.W.Frag) : V → List V → Hp → VK → Prop := fun x xs H Q => ∃ a p, ∃ ys : List Str, x = .str a ∧ xs = [.ref p] ∧ (SqL K H p (ys.map V.str) ∨ SqT K H p (ys.map V.str)) ∧ (ys.map (·.length)).sum + ys.length * a.length ≤ 16777216 ∧ Q (.str (Txt.join a ys)) H
theorem mt_joinK {X : Cx} : MtR X "str.join" (rJoin X.K) := mt_join
/-! ### a question's lines -/
def tline (t : Str × List Str) : Str := Txt.join " " ("table" :: t.1 :: t.2)
def zline (z : Str × (Nat × Nat)) : Str := Str.empty ++ "size " ++ z.1 ++ " " ++ rtext (z.2.1 : Int) (z.2.2 : Int)
def gline (gs : List Str) : Str := Txt.join " " ("group" :: gs)
def qLines (ts : List (Str × List Str)) (gs : List Str) (zs : List (Str × (Nat × Nat))) : List Str :=
  ts.map tline ++ (zs.filter fun z => decide (z.2 ≠ (1, 1))).map zline ++ if gs = [] then [] else [gline gs]
theorem sum_len_le {n : Nat} : ∀ (xs : List Str), (∀ z ∈ xs, z.length ≤ n) → (xs.map (·.length)).sum ≤ xs.length * n
  | [], _ => by simp
  | x :: xs, h => by
    have ih := sum_len_le xs fun z hz => h z (List.mem_cons_of_mem _ hz)
    have h1 := h x List.mem_cons_self
    rw [List.map_cons, List.sum_cons, List.length_cons, Nat.add_mul]
    omega
def tJoined (ts : List TE) : TE := fun σ H Q => tJs ts Str.empty σ H fun out H1 => Q (.str out) H1
theorem names_nm {ts : List (Str × List Str)} (ok : OKT ts) (x : Str) (h : x ∈ names ts) : Nm x := by
  obtain ⟨t, ht, rfl⟩ := List.mem_map.mp h
  exact ok.nm t ht
theorem rtext_len {p q : Int} (hp : p.natAbs < 10 ^ 60) (hq : q.natAbs < 10 ^ 60) : (rtext p q).length ≤ 201 := by
  have h1 := num_short hp
  have h2 := num_short hq
  have l1 : (Str.ofString "/").length = 1 := by decide
  unfold rtext
  split
  · omega
  · rw [app_len, app_len]
    omega
end U

/-! U32: keyword-only parameters that are always given. -/
namespace U
open PySem PySem.Spec PyProof.Rows L2
section
variable {K : PySem.W.Frag} {x qual : Str} {st : Stmt} {f : Addr} {fd : FuncData} {ps ks : List Str} {n : Nat}
theorem kb_of (F : L2.Fun K x qual st f fd)
    (h : ∀ (kV doc pm : Value) (an : Option Addr) (cdv ct : Value) (us ws : List Value), us.length = n → ws.length = ks.length → bindArgs (PySem.W.fnOf x qual (defArgs st) (defBody st) (defScope st) .none kV doc pm an cdv ct) ⟨us, ks.zip ws⟩ = pure (ps.zip (us ++ ws))) :
    KBn K fd ps n ks (fun us ws => us ++ ws) (fun vs zs => vs ++ zs) := by
  obtain ⟨oc, od, kV, doc, pm, an, cdv, ct, osl, rfl, lk, hcd⟩ := F.ex
  exact ⟨fun s us ws _ l1 l2 => .of_eq (h kV doc pm an cdv ct us ws l1 l2), fun r1 r2 => r1.append r2⟩
end
/-- a dict comprehension, read -/
theorem dc_it {J : It} {n : Nat} {G : Hp → Prop} {Y : Nat → Hp → V → Hp → Prop} (wk : Walk J n G Y) {g : TG} {tt : TT} {tk tv : TE} {vs : List Nat} {σ : L2.St} {H1 : Hp} {D : Addr} {Qd : Hp → Prop} (Pv : Nat → Hp → Prop)
    (h0 : Pv 0 (upd H1 D (.dK []))) (hG : ∀ i H, i ≤ n → Pv i H → G H)
    (hs : ∀ i x H H', i < n → Pv i H → Y i H x H' → g x (wipe σ vs) H' fun σ2 H2 => wipe σ2 vs = wipe σ vs ∧ tt σ2 H2 fun b H3 =>
      if b = true then tk σ2 H3 fun y H4 => tv σ2 H4 fun z H5 => ∃ kvs k, y = kV k ∧ H5 D = some (.dK kvs) ∧ kvs.length < sizeLine ∧ Pv (i + 1) (upd H5 D (.dK (putK kvs k z))) else Pv (i + 1) H3) (hd : ∀ H, Pv n H → Qd H) :
    ∃ W : Nat → Nat → Hp → Prop, (∃ m, W 0 m (upd H1 D (.dK []))) ∧ ∀ i m H, W i m H →
      (J.stop i H ∧ Qd H) ∨ (J.go i H ∧ ∃ Nx : Hp → Prop, (∀ H', Nx H' → ∃ m', m' < m ∧ W (i + 1) m' H') ∧ ∀ x H', J.yld i H x H' → g x (wipe σ vs) H' fun σ2 H2 => wipe σ2 vs = wipe σ vs ∧ tt σ2 H2 fun b H3 =>
        if b = true then tk σ2 H3 fun y H4 => tv σ2 H4 fun z H5 => ∃ kvs k, y = kV k ∧ H5 D = some (.dK kvs) ∧ kvs.length < sizeLine ∧ Nx (upd H5 D (.dK (putK kvs k z))) else Nx H3) := by
  refine ⟨fun i m H => m = n - i ∧ i ≤ n ∧ Pv i H, ⟨n, rfl, Nat.zero_le _, h0⟩, fun i m H ⟨e, hi, p⟩ => ?_⟩
  subst e
  by_cases lt : i < n
  · exact .inr ⟨wk.goes i H lt (hG i H hi p), Pv (i + 1), fun Hn pn => ⟨n - (i + 1), by omega, rfl, lt, pn⟩, fun x H2 y => hs i x H H2 lt p (wk.yields i H x H2 lt (hG i H hi p) y)⟩
  · obtain rfl : i = n := by omega
    exact .inl ⟨wk.stops H (hG i H hi p), hd H p⟩
/-! ### the sorted dict -/
def byName {β : Type} (ns : List Str) (d : β) (ts : List (Str × β)) : List (Str × β) := ns.map fun n => (n, (lk ts n).getD d)
theorem byName_names {β : Type} (ns : List Str) (d : β) (ts : List (Str × β)) : names (byName ns d ts) = ns := by
  unfold names byName
  rw [List.map_map]
  exact List.map_id ns
theorem byName_lk {β : Type} {ns : List Str} {d : β} {ts : List (Str × β)} {x : Str} (h : x ∈ ns) : lk (byName ns d ts) x = some ((lk ts x).getD d) := by
  induction ns with
  | nil => cases h
  | cons n ns ih =>
    show lk ((n, (lk ts n).getD d) :: byName ns d ts) x = _
    rw [lk_cons]
    by_cases e : n = x
    · subst e; rw [if_pos rfl]
    · rw [if_neg (show ¬ (n, (lk ts n).getD d).1 = x from e)]
      exact ih ((List.mem_cons.mp h).elim (fun z => absurd z.symm e) id)
theorem byName_perm {β : Type} {ns : List Str} {d : β} {ts : List (Str × β)} (nd : (names ts).Nodup) (p : ns.Perm (names ts)) : (byName ns d ts).Perm ts := by
  have h1 : (byName ns d ts).Perm (byName (names ts) d ts) := p.map _
  have h2 : byName (names ts) d ts = ts := by
    unfold byName names
    rw [List.map_map]
    refine (List.map_congr_left fun t ht => ?_).trans (List.map_id ts)
    show (t.1, (lk ts t.1).getD d) = t
    rw [lk_at nd ht]
    rfl
  rw [h2] at h1
  exact h1
/-- the tables by their names -/
def srtT (ts : List (Str × List Str)) : List (Str × List Str) := byName (srt (names ts)) [] ts
def srtZ (ns : List Str) (zs : List (Str × (Nat × Nat))) : List (Str × (Nat × Nat)) := byName (srt ns) (1, 1) zs
theorem srtT_perm {ts : List (Str × List Str)} (nd : (names ts).Nodup) : (srtT ts).Perm ts := byName_perm nd (srt_perm _)
theorem colsOf_perm {ts us : List (Str × List Str)} (p : ts.Perm us) : colsOf ts = colsOf us := by
  unfold colsOf fl
  refine up_ext (dist_up _) (dist_up _) fun z => ?_
  rw [dist_mem, dist_mem]
  exact ((p.map Prod.snd).flatten).mem_iff
theorem OKT.perm {ts us : List (Str × List Str)} (ok : OKT ts) (p : us.Perm ts) : OKT us :=
  ⟨by rw [p.length_eq]; exact ok.few, (p.map Prod.fst).nodup_iff.mpr ok.nd, fun t ht => ok.nm t (p.mem_iff.mp ht), fun t ht => ok.cols t (p.mem_iff.mp ht), by rw [colsOf_perm p]; exact ok.all⟩
theorem OKG.perm {ts us : List (Str × List Str)} {gs : List Str} (h : OKG ts gs) (p : us.Perm ts) : OKG us gs := ⟨h.up, h.nm, fun z hz => by rw [colsOf_perm p]; exact h.has z hz, h.few⟩
theorem byName_take {β : Type} {ns : List Str} {d : β} {ts : List (Str × β)} {i : Nat} {n : Str} (h : ns[i]? = some n) : (byName ns d ts).take (i + 1) = (byName ns d ts).take i ++ [(n, (lk ts n).getD d)] := by
  have e : (byName ns d ts)[i]? = some (n, (lk ts n).getD d) := by
    unfold byName
    rw [List.getElem?_map, h]
    rfl
  rw [List.take_add_one, e]
  rfl
theorem byName_new {β : Type} {ns : List Str} {d : β} {ts : List (Str × β)} {i : Nat} {n : Str} (nd : ns.Nodup) (h : ns[i]? = some n) : n ∉ names ((byName ns d ts).take i) := by
  have e : names ((byName ns d ts).take i) = ns.take i := by
    show ((byName ns d ts).take i).map (·.1) = _
    rw [List.map_take]
    exact congrArg (List.take i) (byName_names ns d ts)
  rw [e]
  intro z
  obtain ⟨j, hj, ej⟩ := List.getElem_of_mem z
  obtain ⟨hi, ei⟩ := List.getElem?_eq_some_iff.mp h
  rw [List.length_take] at hj
  rw [List.getElem_take] at ej
  exact List.pairwise_iff_getElem.mp nd j i (by omega) hi (by omega) (ej.trans ei.symm)
theorem byName_len {β : Type} {ns : List Str} {d : β} {ts : List (Str × β)} : (byName ns d ts).length = ns.length := List.length_map _
theorem byName_get {β : Type} {ns : List Str} {d : β} {ts : List (Str × β)} {i : Nat} {t : Str × β} (h : (byName ns d ts)[i]? = some t) : ns[i]? = some t.1 := by
  unfold byName at h
  rw [List.getElem?_map] at h
  obtain ⟨n, hn, e⟩ := Option.map_eq_some_iff.mp h
  rw [hn, ← e]
/-- all but a stands -/
def Gx (a : Addr) (H H' : Hp) : Prop := ∀ b u, H b = some u → b ≠ a → H' b = some u
theorem Gr.gx {a : Addr} {H H' : Hp} (g : Gr H H') : Gx a H H' := fun b u e _ => g b u e
theorem Gx.gr {a : Addr} {H H' H2 : Hp} (g : Gx a H H') (k : Gr H' H2) : Gx a H H2 := fun b u e n => k _ _ (g b u e n)
theorem Gx.put {a : Addr} {H H' : Hp} {o : HO} (g : Gx a H H') : Gx a H (upd H' a o) := fun b u e n => by rw [upd_ne n]; exact g b u e n
theorem Gx.add {a p : Addr} {H H' : Hp} {o : HO} (g : Gx a H H') (h : H' p = none) : Gx a H (upd H' p o) := fun b u e n => by rw [upd_ne fun z => by rw [← z, g b u e n] at h; cases h]; exact g b u e n
theorem TupS.gx {a C dx : Addr} {H H' : Hp} {v : V} {xs : List Str} {fs : List (Str × V)} (ha : H a = some (.ins C dx fs)) (h : TupS H v xs) (g : Gx a H H') : TupS H' v xs := by
  obtain ⟨b, e, k⟩ := h
  exact ⟨b, e, g _ _ k fun z => by rw [z, ha] at k; cases k⟩
theorem RatS.gx {R a C dx : Addr} {H H' : Hp} {v : V} {r : Nat × Nat} (ha : H a = some (.ins C dx [])) (h : RatS R H v r) (g : Gx a H H') : RatS R H' v r := by
  obtain ⟨b, dy, e, k⟩ := h
  exact ⟨b, dy, e, g _ _ k fun z => by rw [z, ha] at k; cases k⟩
theorem RatS.at_ {R a C dx : Addr} {H : Hp} {v u : V} {r : Nat × Nat} {fs : List (Str × V)} {o : HO} (h : RatS R H v r) (ha : H a = some (.ins C dx (("_tables", u) :: fs))) : RatS R (upd H a o) v r := by
  obtain ⟨b, dy, e, k⟩ := h
  refine ⟨b, dy, e, ?_⟩
  rw [upd_ne fun z => ?_]
  · exact k
  · rw [z, ha] at k
    have e1 := congrArg (fun o => match o with | some (HO.ins _ _ l) => l.head?.map Prod.fst | _ => none) k
    exact absurd (show ("_tables" : Str) = "_top" from Option.some.inj e1) (by decide)
/-! ### renaming -/
/-- a text as itself -/
def SV (_ : Hp) (v : V) (x : Str) : Prop := v = .str x
def im (rs : List (Str × Str)) (x : Str) : Str := (lk rs x).getD x
/-- a renaming of these names -/
structure OKR (rs : List (Str × Str)) (xs : List Str) : Prop where
  perm : (names rs).Perm xs
  nd : (names rs).Nodup
  inj : (rs.map Prod.snd).Nodup
  nm : ∀ r ∈ rs, Nm r.2
theorem OKR.mem {rs : List (Str × Str)} {xs : List Str} (h : OKR rs xs) {x : Str} (hx : x ∈ xs) : ∃ b, lk rs x = some b ∧ Nm b := by
  obtain ⟨b, hb⟩ := lk_some (h.perm.mem_iff.mpr hx)
  exact ⟨b, hb, h.nm _ (lk_mem hb)⟩
theorem adds_of_nodup : ∀ (xs acc : List Str), (acc ++ xs).Nodup → (adds acc xs).length = acc.length + xs.length
  | [], acc, _ => by simp [adds]
  | x :: r, acc, h => by
    have hx : x ∉ acc := fun z => by
      have := (List.nodup_append.mp h).2.2 x z x List.mem_cons_self
      exact this rfl
    rw [adds, if_neg hx, adds_of_nodup r (x :: acc) ?_]
    · rw [List.length_cons, List.length_cons]; omega
    · exact (List.perm_middle.nodup_iff).mp h
theorem SV.vals {H : Hp} {kvs : List (Key × V)} {rs : List (Str × Str)} (h : DRel SV H kvs rs) : kvs.map Prod.snd = (rs.map Prod.snd).map V.str := by
  refine h.ind (C := fun kvs rs => kvs.map Prod.snd = (rs.map Prod.snd).map V.str) rfl fun k t kvs ts _ r _ ih => ?_
  rw [List.map_cons, List.map_cons, List.map_cons, ih, show k.2 = V.str t.2 from r]
end U

/-! U33: tuple(dict). -/
namespace U
open PySem PySem.Spec PyProof.Rows L2
section
variable {X : Cx}
theorem new_tupD {A : Around} {E : Value → Shared → Prop} {s : Shared} {R : Value → Shared → Prop} {d : Addr} {n : Nat} {Pv : Nat → Value → Prop} {T : String} {OK : Heap → Prop} {P : Program} {w : World} (S : PySem.W.KdlSrc P w T d d n Pv OK) (ty : s.TypeIs (.ref d) "dict") (hh : A.handled = none) (ok : OK s.heap) (hn : n ≤ sizeLine)
    (h : ∀ (hp : Heap) (tk : Nat) (acc : Array Value), (∀ b o, s.heap.get? b = some o → hp.get? b = some o) → ItemsOf Pv acc n → R (.ref hp.objs.size) { s with heap := hp.push { cls := .type "tuple", data := .seq acc }, toks := tk }) :
    codeAny (model P w) A (.call (.builtin "tuple.__new__") ⟨[.type "tuple", .ref d], []⟩) (wants R E) s := by
  refine codeAny_of_tree ?_
  show wpAny _ A.in1 (checkBuiltinCall "tuple.__new__" ⟨[.type "tuple", .ref d], []⟩ >>= fun _ => again (.builtin "tuple.__new__" ⟨[.type "tuple", .ref d], []⟩)) _ _ s
  refine wpAny_bind (wpAny_of_eq (PySem.F.newCall_tuple_1 _) (wpAny_pure ⟨plainId_quiet PySem.F.plain_tuple_new _, codeAny_builtin PySem.F.entry_tuple_new ?_⟩))
  rw [Around.under_plainId PySem.F.plain_tuple_new _]
  have q1 := sub_tuple_self
  have q2 := init_tuple_lookup
  have q3 := madeHere_tuple
  have q4 : A.in1.handled = none := hh
  wp_walk using wpAny_typeOf ty, PySem.W.kdu_collect S q4 ok hn
  intro hp tk acc k hacc
  show wpAny _ _ (Builtin.Tuple.tupleExact acc.toList.toArray >>= fun v => ret v) _ _ _
  unfold Builtin.Tuple.tupleExact
  refine wpAny_bind (wpAny_newObj_type (wpAny_pure ?_) (by show acc.toList.toArray.size ≤ sizeLine; rw [Array.toArray_toList, hacc.1]; exact hn))
  rw [Array.toArray_toList]
  exact h hp tk acc k hacc
/-- tuple(d): its keys -/
def uTupD : List V → Hp → VK → Prop := fun vs H Q => ∃ (d : Addr) (kvs : List (Key × V)), vs = [.ref d] ∧ Rd H d (.dK kvs) ∧ ∀ p, H p = none → Q (.ref p) (upd H p (.tup (kvs.map fun kv => kV kv.1)))
theorem caTupD (hc : X.calm = true) : CallR X (.type "tuple") uTupD := by
  intro pins s σ H vs us Q I r h
  obtain ⟨d, kvs, rfl, hd, q⟩ := h
  obtain ⟨u, rfl, ru⟩ := L2.vals1 r
  cases (show u = Value.ref d from ru)
  obtain ⟨z, lo, vs, rel, dd⟩ := dk_rd I.hok hd
  obtain ⟨ep, hat⟩ := dd.dictAt
  have ek : (kvs.map fun kv => kV kv.1) = vs.map fun p => kV p.1 := by
    have e := congrArg (List.map kV) rel.keys
    rw [List.map_map, List.map_map] at e
    exact e
  refine callType_codes (Q₁ := fun ob z => z.TypeIs ob "tuple" ∧ EP X pins σ Q ob z) PySem.F.called_tuple (PySem.F.typeCall_tuple_1 _) PySem.F.entry_object_init
    (new_tupD (A := X.A.in1) (PySem.W.kdl_dict (knd := mixKind X.prog X.w) (kvs := vs) (ep := ep) lo) dd.typeIs (I.ok.hd hc) hat (by rw [← rel.length]; exact z) fun hp tk acc k hacc => ⟨⟨_, Heap.get?_push_size _ rfl, rfl⟩, ?_⟩) fun ob z h => ?_
  · have hv : Vals (vs.map fun p => kV p.1) acc.toList := keys_at (by rw [Array.length_toList]; exact hacc.1) fun j v e => hacc.2 j v (by rw [← Array.getElem?_toList]; exact e)
    have I1 : Inv X pins σ H { s with heap := hp, toks := tk } := I.kept k
    have I2 : Inv X pins σ (upd H hp.objs.size (.tup (kvs.map fun kv => kV kv.1))) { s with heap := hp.push { cls := .type "tuple", data := .seq acc }, toks := tk } :=
      I1.laid (t' := tk) (fun b o e => Heap.get?_push_of_some _ e) (Nat.le_refl _) (show ObjOk X.prog X.w _ _ _ (.tup (kvs.map fun kv => kV kv.1)) from ⟨by rw [List.length_map]; exact z, acc.toList, by rw [ek]; exact hv, by
        have t := IsTup.new hp acc
        rw [Array.toArray_toList]
        exact t⟩)
    exact ⟨.ref hp.objs.size, _, I2, rfl, q _ (I1.hok.fresh (Nat.le_refl _))⟩
  · exact ⟨h.1, PySem.F.args_object_init_2 ob _, object_init_meets PySem.F.called_tuple.init.lookup PySem.F.called_tuple.made (by decide) X.prog X.w X.A.in1 _ z ⟨h.1, rfl, h.2⟩⟩
end
theorem keys_txt {β : Type} {R : Hp → V → β → Prop} {H : Hp} {kvs : List (Key × V)} {ts : List (Str × β)} (h : DRel R H kvs ts) : (kvs.map fun kv => kV kv.1) = (names ts).map V.str := by
  have e := congrArg (List.map kV) h.keys
  rw [List.map_map, List.map_map] at e
  exact e
/-- a question's fields -/
def qf (d g e c l : V) : List (Str × V) := [("_tables", d), ("_groups", g), ("_sizes", e), ("_columns", c), ("_lines", l)]
/-- a question of these tables (in their order), groups and sizes -/
def QO (C R : Addr) (H : Hp) (a : Addr) (ts : List (Str × List Str)) (gs : List Str) (zs : List (Str × (Nat × Nat))) : Prop :=
  ∃ (dx d g e c l : Addr) (kvs kz : List (Key × V)), H a = some (.ins C dx (qf (.ref d) (.ref g) (.ref e) (.ref c) (.ref l))) ∧ H d = some (.dK kvs) ∧ DRel TupS H kvs ts ∧ H g = some (.tup (gs.map V.str)) ∧
    H e = some (.dK kz) ∧ DRel (RatS R) H kz zs ∧ H c = some (.tup ((colsOf ts).map V.str)) ∧ H l = some (.tup ((qLines ts gs zs).map V.str)) ∧ names ts = srt (names ts) ∧ names zs = names ts ∧ OKT ts ∧ OKG ts gs ∧ OKZ (names ts) zs
/-! ### renamed -/
theorem nodup_inj {α β : Type} {f : α → β} : ∀ {l : List α}, (l.map f).Nodup → ∀ {a b : α}, a ∈ l → b ∈ l → f a = f b → a = b
  | c :: l, h, a, b, ha, hb, e => by
    obtain ⟨h1, h2⟩ := List.nodup_cons.mp h
    rcases List.mem_cons.mp ha with q | q <;> rcases List.mem_cons.mp hb with z | z
    · rw [q, z]
    · exact absurd (by rw [← q, e]; exact List.mem_map_of_mem z) h1
    · exact absurd (by rw [← z, ← e]; exact List.mem_map_of_mem q) h1
    · exact nodup_inj h2 q z e
theorem nodup_map_on {α β : Type} {f : α → β} : ∀ {l : List α}, l.Nodup → (∀ a ∈ l, ∀ b ∈ l, f a = f b → a = b) → (l.map f).Nodup
  | [], _, _ => List.nodup_nil
  | c :: l, h, q => by
    obtain ⟨h1, h2⟩ := List.nodup_cons.mp h
    refine List.nodup_cons.mpr ⟨fun z => ?_, nodup_map_on h2 fun a ha b hb => q a (List.mem_cons_of_mem _ ha) b (List.mem_cons_of_mem _ hb)⟩
    obtain ⟨b, hb, e⟩ := List.mem_map.mp z
    exact h1 (by rw [← q b (List.mem_cons_of_mem _ hb) c List.mem_cons_self e]; exact hb)
section
variable {rs : List (Str × Str)} {xs : List Str}
theorem OKR.im (h : OKR rs xs) {x : Str} (hx : x ∈ xs) : (x, U.im rs x) ∈ rs ∧ Nm (U.im rs x) := by
  obtain ⟨b, hb, nb⟩ := h.mem hx
  unfold U.im
  rw [hb]
  exact ⟨lk_mem hb, nb⟩
theorem OKR.inj_on (h : OKR rs xs) {x y : Str} (hx : x ∈ xs) (hy : y ∈ xs) (e : U.im rs x = U.im rs y) : x = y :=
  congrArg Prod.fst (nodup_inj h.inj (h.im hx).1 (h.im hy).1 e)
theorem OKR.sub {ys : List Str} (h : OKR rs xs) (sub : ∀ y ∈ ys, y ∈ xs) (nd : ys.Nodup) : (ys.map (U.im rs)).Nodup := nodup_map_on nd fun a ha b hb e => h.inj_on (sub a ha) (sub b hb) e
end
/-- the images -/
def imT (r1 r2 : List (Str × Str)) (ts : List (Str × List Str)) : List (Str × List Str) := ts.map fun t => (im r1 t.1, srt (t.2.map (im r2)))
def imG (r2 : List (Str × Str)) (gs : List Str) : List Str := srt (gs.map (im r2))
def imZ (r1 : List (Str × Str)) (zs : List (Str × (Nat × Nat))) : List (Str × (Nat × Nat)) := zs.map fun z => (im r1 z.1, z.2)
section
variable {r1 r2 : List (Str × Str)} {ts : List (Str × List Str)} {gs : List Str} {zs : List (Str × (Nat × Nat))}
theorem imT_names : names (imT r1 r2 ts) = (names ts).map (im r1) := by
  unfold names imT
  rw [List.map_map, List.map_map]
  rfl
theorem imZ_names : names (imZ r1 zs) = (names zs).map (im r1) := by
  unfold names imZ
  rw [List.map_map, List.map_map]
  rfl
theorem fl_mem {ts : List (Str × List Str)} {z : Str} : z ∈ fl ts ↔ ∃ t ∈ ts, z ∈ t.2 := by
  unfold fl
  rw [List.mem_flatten]
  exact ⟨fun ⟨l, hl, h⟩ => let ⟨t, ht, e⟩ := List.mem_map.mp hl; ⟨t, ht, by rw [e]; exact h⟩, fun ⟨t, ht, h⟩ => ⟨t.2, List.mem_map_of_mem ht, h⟩⟩
theorem cols_mem {ts : List (Str × List Str)} {z : Str} : z ∈ colsOf ts ↔ ∃ t ∈ ts, z ∈ t.2 := by
  unfold colsOf
  rw [dist_mem, fl_mem]
/-- the columns of the images -/
theorem imT_cols (h2 : OKR r2 (colsOf ts)) : colsOf (imT r1 r2 ts) = srt ((colsOf ts).map (im r2)) := by
  refine up_ext (dist_up _) (srt_up (h2.sub (fun _ h => h) (dist_up _).nodup)) fun z => ?_
  rw [cols_mem (ts := imT r1 r2 ts), (srt_perm _).mem_iff, List.mem_map]
  constructor
  · rintro ⟨t, ht, hz⟩
    obtain ⟨u, hu, rfl⟩ := List.mem_map.mp ht
    obtain ⟨y, hy, e⟩ := List.mem_map.mp ((srt_perm _).mem_iff.mp hz)
    exact ⟨y, cols_mem.mpr ⟨u, hu, hy⟩, e⟩
  · rintro ⟨y, hy, rfl⟩
    obtain ⟨u, hu, h⟩ := cols_mem.mp hy
    exact ⟨_, List.mem_map_of_mem hu, (srt_perm _).mem_iff.mpr (List.mem_map_of_mem h)⟩
theorem OKT.im (ok : OKT ts) (h1 : OKR r1 (names ts)) (h2 : OKR r2 (colsOf ts)) : OKT (imT r1 r2 ts) := by
  have sub : ∀ t ∈ ts, ∀ y ∈ t.2, y ∈ colsOf ts := fun t ht y hy => cols_mem.mpr ⟨t, ht, hy⟩
  refine ⟨by rw [imT, List.length_map]; exact ok.few, by rw [imT_names]; exact h1.sub (fun _ h => h) ok.nd, fun t ht => ?_, fun t ht => ?_, ?_⟩
  · obtain ⟨u, hu, rfl⟩ := List.mem_map.mp ht
    exact (h1.im (List.mem_map_of_mem hu)).2
  · obtain ⟨u, hu, rfl⟩ := List.mem_map.mp ht
    have c := ok.cols u hu
    refine ⟨by show 1 ≤ (srt _).length ∧ (srt _).length ≤ 6; rw [srt_len, List.length_map]; exact c.1, srt_up (h2.sub (sub u hu) c.2.1.nodup), fun z hz => ?_⟩
    obtain ⟨y, hy, rfl⟩ := List.mem_map.mp ((srt_perm _).mem_iff.mp hz)
    exact (h2.im (sub u hu y hy)).2
  · rw [imT_cols h2, srt_len, List.length_map]
    exact ok.all
theorem OKG.im (og : OKG ts gs) (h2 : OKR r2 (colsOf ts)) : OKG (imT r1 r2 ts) (imG r2 gs) := by
  refine ⟨srt_up (h2.sub og.has og.up.nodup), fun z hz => ?_, fun z hz => ?_, by rw [imG, srt_len, List.length_map]; exact og.few⟩
  · obtain ⟨y, hy, rfl⟩ := List.mem_map.mp ((srt_perm _).mem_iff.mp hz)
    exact (h2.im (og.has y hy)).2
  · obtain ⟨y, hy, rfl⟩ := List.mem_map.mp ((srt_perm _).mem_iff.mp hz)
    rw [imT_cols h2]
    exact (srt_perm _).mem_iff.mpr (List.mem_map_of_mem (og.has y hy))
theorem OKZ.im (oz : OKZ (names ts) zs) : OKZ (names (imT r1 r2 ts)) (imZ r1 zs) := by
  refine ⟨by rw [imZ, List.length_map]; exact oz.few, fun z hz => ?_, fun z hz => ?_⟩
  · obtain ⟨y, hy, rfl⟩ := List.mem_map.mp hz
    rw [imT_names]
    exact List.mem_map_of_mem (oz.has y hy)
  · obtain ⟨y, hy, rfl⟩ := List.mem_map.mp hz
    exact oz.let_ y hy
end
theorem imT_take {r1 r2 : List (Str × Str)} {ts : List (Str × List Str)} {i : Nat} {t : Str × List Str} (h : ts[i]? = some t) : (imT r1 r2 ts).take (i + 1) = (imT r1 r2 ts).take i ++ [(im r1 t.1, srt (t.2.map (im r2)))] := by
  have e : (imT r1 r2 ts)[i]? = some (im r1 t.1, srt (t.2.map (im r2))) := by
    unfold imT
    rw [List.getElem?_map, h]
    rfl
  rw [List.take_add_one, e]
  rfl
theorem imZ_take {r1 : List (Str × Str)} {zs : List (Str × (Nat × Nat))} {i : Nat} {z : Str × (Nat × Nat)} (h : zs[i]? = some z) : (imZ r1 zs).take (i + 1) = (imZ r1 zs).take i ++ [(im r1 z.1, z.2)] := by
  have e : (imZ r1 zs)[i]? = some (im r1 z.1, z.2) := by
    unfold imZ
    rw [List.getElem?_map, h]
    rfl
  rw [List.take_add_one, e]
  rfl
/-- a name stands once -/
theorem take_new {β : Type} {ts : List (Str × β)} {i : Nat} {t : Str × β} (nd : (names ts).Nodup) (h : ts[i]? = some t) : t.1 ∉ names (ts.take i) := fun z => by
  obtain ⟨u, hu, e⟩ := List.mem_map.mp z
  obtain ⟨j, hj, ej⟩ := List.getElem_of_mem hu
  obtain ⟨hi, ei⟩ := List.getElem?_eq_some_iff.mp h
  rw [List.length_take] at hj
  rw [List.getElem_take] at ej
  have l : (names ts).length = ts.length := List.length_map _
  have q := List.pairwise_iff_getElem.mp nd j i (by omega) (by omega) (by omega)
  exact q (by simp only [names, List.getElem_map, ej, ei, e])
/-! ### the law's plain questions -/
def PQ (H : Hp) (v : V) (r : Nat × Nat) : Prop := TupAt H v (r.1 : Int) (r.2 : Int)
def plk (D G S : Addr) : List (Key × V) := [(.inr "tables", .ref D), (.inr "groups", .ref G), (.inr "sizes", .ref S)]
theorem PQ.up {H H' : Hp} {v : V} {r : Nat × Nat} (h : PQ H v r) (g : Gr H H') : PQ H' v r := TupAt.up h g
theorem PQ.off {H : Hp} {v : V} {r : Nat × Nat} {D : Addr} {o p : HO} (h : PQ H v r) (hd : H D = some p) (np : ∀ l, p ≠ .tup l) : PQ (upd H D o) v r := by
  obtain ⟨a, e, k⟩ := h
  exact ⟨a, e, by rw [upd_ne fun z => by rw [z, hd] at k; exact np _ (Option.some.inj k)]; exact k⟩
theorem DRel.snoc {β : Type} {R : Hp → V → β → Prop} {H : Hp} {kvs : List (Key × V)} {ts : List (Str × β)} {x : Str} {v : V} {b : β} (h : DRel R H kvs ts) (r : R H v b) : DRel R H (kvs ++ [(.inr x, v)]) (ts ++ [(x, b)]) :=
  h.ind (C := fun kvs ts => DRel R H (kvs ++ [(.inr x, v)]) (ts ++ [(x, b)])) (.add rfl r .nil) fun _ _ _ _ e r' _ ih => .add e r' ih
/-- pairs of names that stand once, put in one behind the other -/
theorem merge_new {β : Type} {R : Hp → V → β → Prop} {H : Hp} : ∀ {kvs : List (Key × V)} {ts : List (Str × β)}, DRel R H kvs ts → ∀ {acc : List (Key × V)} {as : List (Str × β)}, DRel R H acc as → (names (as ++ ts)).Nodup → mergeK acc kvs = acc ++ kvs
  | [], [], _, acc, as, _, _ => by rw [List.append_nil]; rfl
  | [], _ :: _, h, _, _, _, _ => nomatch h.1
  | _ :: _, [], h, _, _, _, _ => nomatch h.1
  | k :: kvs, t :: ts, h, acc, as, ha, nd => by
    obtain ⟨e, r, h2⟩ := h.cons
    show mergeK (putK acc k.1 k.2) kvs = _
    have nx : ∀ p ∈ acc, p.1 ≠ k.1 := fun p hp z => by
      obtain ⟨i, hi, ei⟩ := List.getElem_of_mem hp
      obtain ⟨u, hu, e1, _⟩ := ha.at (i := i) (k := p) (by rw [← ei]; simp)
      have um := List.mem_of_getElem? hu
      have q : u.1 = t.1 := Sum.inr.inj (e1.symm.trans (z.trans e))
      unfold names at nd
      rw [List.map_append, List.nodup_append] at nd
      exact nd.2.2 u.1 (List.mem_map_of_mem um) t.1 (List.mem_map_of_mem List.mem_cons_self) q
    have ek : k = (.inr t.1, k.2) := Prod.ext e rfl
    rw [putK_new nx, show acc ++ [(k.1, k.2)] = acc ++ [(.inr t.1, k.2)] by rw [e], merge_new h2 (ha.snoc r) (by rw [List.append_assoc]; exact nd), List.append_assoc, ek]
    rfl
theorem merge_nil {β : Type} {R : Hp → V → β → Prop} {H : Hp} {kvs : List (Key × V)} {ts : List (Str × β)} (h : DRel R H kvs ts) (nd : (names ts).Nodup) : mergeK [] kvs = kvs := merge_new h .nil (by rw [List.nil_append]; exact nd)
def PlainQ (H : Hp) (P : Addr) (ts : List (Str × List Str)) (gs : List Str) (zs : List (Str × (Nat × Nat))) : Prop :=
  ∃ (D G S : Addr) (kt kz kp : List (Key × V)), H P = some (.dK kp) ∧ (valV kp (.inr "tables") = some (.ref D) ∧ valV kp (.inr "groups") = some (.ref G) ∧ valV kp (.inr "sizes") = some (.ref S)) ∧ H D = some (.dK kt) ∧ DRel LstS H kt ts ∧ H G = some (.lst (gs.map V.str)) ∧ H S = some (.dK kz) ∧ DRel PQ H kz zs ∧ P ≠ D ∧ P ≠ S ∧ D ≠ S
theorem plk_t {D G S : Addr} : valV (plk D G S) (.inr "tables") = some (.ref D) := by rfl
theorem plk_g {D G S : Addr} : valV (plk D G S) (.inr "groups") = some (.ref G) := by rfl
theorem plk_s {D G S : Addr} : valV (plk D G S) (.inr "sizes") = some (.ref S) := by rfl
def rTupOf (K : PySem.W.Frag) : List V → Hp → VK → Prop := fun xs H Q => ∃ p ys, xs = [.ref p] ∧ ((SqL K H p ys ∧ ∀ l, H l = none → Q (.ref l) (upd H l (.tup ys))) ∨ (SqT K H p ys ∧ Q (.ref p) H))
theorem caTupOf {X : Cx} : CallR X (.type "tuple") (rTupOf X.K) := call_tuple_of
/-- the columns of these tables, one behind the other -/
def colL (ts : List (Str × List Str)) (ns : List Str) : List Str := (ns.map fun n => (lk ts n).getD []).flatten
theorem colL_snoc {ts : List (Str × List Str)} {ns : List Str} {i : Nat} {n : Str} (h : ns[i]? = some n) : colL ts (ns.take (i + 1)) = colL ts (ns.take i) ++ (lk ts n).getD [] := by
  unfold colL
  rw [List.take_add_one, h, List.map_append, List.flatten_append]
  simp
theorem colL_len {ts : List (Str × List Str)} (ok : OKT ts) : ∀ (ns : List Str), (∀ n ∈ ns, n ∈ names ts) → (colL ts ns).length ≤ ns.length * 6
  | [], _ => by simp [colL]
  | n :: ns, h => by
    have ih := colL_len ok ns fun m hm => h m (List.mem_cons_of_mem _ hm)
    obtain ⟨b, hb⟩ := lk_some (h n List.mem_cons_self)
    have hc : b.length ≤ 6 := (ok.cols _ (lk_mem hb)).1.2
    have e : colL ts (n :: ns) = b ++ colL ts ns := by
      unfold colL
      rw [List.map_cons, List.flatten_cons, hb]
      rfl
    rw [e, List.length_append, List.length_cons, Nat.add_mul]
    omega
theorem colL_cols {ts : List (Str × List Str)} {ns : List Str} (nd : (names ts).Nodup) (p : ns.Perm (names ts)) : dist (colL ts ns) = colsOf ts := by
  refine up_ext (dist_up _) (dist_up _) fun z => ?_
  rw [dist_mem, cols_mem]
  unfold colL
  rw [List.mem_flatten]
  constructor
  · rintro ⟨l, hl, hz⟩
    obtain ⟨n, hn, rfl⟩ := List.mem_map.mp hl
    obtain ⟨b, hb⟩ := lk_some (p.mem_iff.mp hn)
    rw [hb] at hz
    exact ⟨(n, b), lk_mem hb, hz⟩
  · rintro ⟨t, ht, hz⟩
    exact ⟨t.2, List.mem_map.mpr ⟨t.1, p.mem_iff.mpr (List.mem_map_of_mem ht), by rw [lk_at nd ht]; rfl⟩, hz⟩
theorem Nm.asc {z : Str} (h : Nm z) : Asc z := fun c hc => by
  have h : (decide (1 ≤ z.length) && decide (z.length ≤ 8) && z.cps.toList.all fun c => decide (c ∈ ("abcdefghijklmnopqrstuvwxyz" : Str).cps.toList)) = true := h
  rw [Bool.and_eq_true] at h
  have q := List.all_eq_true.mp h.2 c hc
  have q := of_decide_eq_true q
  have all : ∀ d ∈ ("abcdefghijklmnopqrstuvwxyz" : Str).cps.toList, d < 128 := by decide +kernel
  exact all c q
end U

/-! U34: written questions. -/
namespace U
open PySem PySem.Spec PyProof.Rows L2
/-- texts, read as constants one behind the other -/
def tl : List Str → TA
  | [] => tNil
  | x :: r => tCons (tC (.str x)) (tl r)
theorem tl_read : ∀ (xs : List Str) {σ : L2.St} {H : Hp} {Q : List V → Hp → Prop}, Q (xs.map V.str) H → tl xs σ H Q
  | [], _, _, _, h => h
  | x :: r, σ, H, Q, h => tl_read r (Q := fun vs H2 => Q (.str x :: vs) H2) h
def dispT (ts : List (Str × List Str)) : List (TE × TE) := ts.map fun t => (tC (.str t.1), tLst (tl t.2))
theorem pairs_read : ∀ (ts : List (Str × List Str)) {σ : L2.St} {H : Hp} {Q : List (V × V) → Hp → Prop}, (∀ t ∈ ts, t.2.length ≤ 100) → (∀ (H' : Hp) (kvs : List (Key × V)), Gr H H' → DRel LstS H' kvs ts → Q (kvs.map fun kv => (kV kv.1, kv.2)) H') → tPairs (dispT ts) σ H Q
  | [], σ, H, Q, _, h => h H [] Gr.rfl' .nil
  | t :: ts, σ, H, Q, few, h => by
    show tLst (tl t.2) σ H fun y H2 => tPairs (dispT ts) σ H2 fun ps H3 => Q ((.str t.1, y) :: ps) H3
    refine tl_read t.2 ⟨?_, fun p hp => pairs_read ts (fun u hu => few u (List.mem_cons_of_mem _ hu)) fun H' kvs g r => ?_⟩
    · rw [List.length_map]
      have := few t List.mem_cons_self
      exact small_ok (by omega)
    · exact h H' ((.inr t.1, .ref p) :: kvs) ((Gr.rfl'.up hp).trans g) (.add rfl ⟨p, rfl, g _ _ upd_same⟩ r)
theorem disp_read {ts : List (Str × List Str)} {σ : L2.St} {H : Hp} {Q : VK} (few : ∀ t ∈ ts, t.2.length ≤ 100) (l : ts.length ≤ 15) (nd : (names ts).Nodup)
    (h : ∀ (H' : Hp) (D : Addr) (kvs : List (Key × V)), Gr H H' → H D = none → H' D = some (.dK kvs) → DRel LstS H' kvs ts → Q (.ref D) H') : tDisp (dispT ts) σ H Q := by
  intro p hp
  refine pairs_read ts few fun H' kvs g r => ?_
  have ep := g _ _ (upd_same (H := H) (a := p) (o := .dK []))
  refine ⟨ep, kvs, rfl, by rw [r.1]; exact l, ?_⟩
  rw [merge_nil r nd]
  exact h _ p kvs (Gr.app hp ((Gr.rfl'.up hp).trans g)) hp upd_same (r.mono fun v b q => LstS.off q ep (fun _ z => by cases z))
/-- what may be asked of a plain question -/
structure OKP (ts : List (Str × List Str)) (gs : List Str) (zs : List (Str × (Nat × Nat))) : Prop where
  t : OKT ts
  g : OKG ts gs
  z : OKZ (names ts) zs
  nz : names zs = names ts
  low : ∀ z ∈ zs, Nat.gcd z.2.1 z.2.2 = 1
theorem sub_len : ∀ {xs ys : List Str}, xs.Nodup → (∀ x ∈ xs, x ∈ ys) → xs.length ≤ ys.length
  | [], _, _, _ => Nat.zero_le _
  | x :: xs, ys, nd, h => by
    obtain ⟨n1, n2⟩ := List.nodup_cons.mp nd
    have hx := h x List.mem_cons_self
    have ih := sub_len (ys := ys.erase x) n2 fun y hy => (List.mem_erase_of_ne fun e => n1 (by rw [← e]; exact hy)).mpr (h y (List.mem_cons_of_mem _ hy))
    rw [List.length_erase_of_mem hx] at ih
    have : 0 < ys.length := List.length_pos_of_mem hx
    rw [List.length_cons]
    omega
/-- all sizes 1 -/
def ones (ts : List (Str × List Str)) : List (Str × (Nat × Nat)) := ts.map fun t => (t.1, (1, 1))
theorem ones_names (ts : List (Str × List Str)) : names (ones ts) = names ts := by unfold names ones; rw [List.map_map]; rfl
theorem okp_ones {ts : List (Str × List Str)} {gs : List Str} (t : OKT ts) (g : OKG ts gs) : OKP ts gs (ones ts) := by
  have f := t.few
  refine ⟨t, g, ⟨by rw [ones, List.length_map]; omega, fun z hz => ?_, fun z hz => ?_⟩, ones_names ts, fun z hz => ?_⟩
  · rw [← ones_names]
    exact List.mem_map_of_mem hz
  · obtain ⟨u, _, rfl⟩ := List.mem_map.mp hz
    show 1 ≤ 1 ∧ 1 ≤ 60 ∧ 1 ≤ 9 * 1
    decide
  · obtain ⟨u, _, rfl⟩ := List.mem_map.mp hz
    show Nat.gcd 1 1 = 1
    decide
def upB : List Str → Bool
  | [] => true
  | [_] => true
  | x :: y :: r => decide (x.cps.toList < y.cps.toList) && upB (y :: r)
theorem upB_up : ∀ {xs : List Str}, upB xs = true → Up xs
  | [], _ => List.Pairwise.nil
  | [_], _ => List.pairwise_singleton _ _
  | x :: y :: r, h => by
    have h : (decide (x.cps.toList < y.cps.toList) && upB (y :: r)) = true := h
    rw [Bool.and_eq_true] at h
    have h1 := of_decide_eq_true h.1
    have ih : Up (y :: r) := upB_up h.2
    refine List.pairwise_cons.mpr ⟨fun z hz => ?_, ih⟩
    rcases List.mem_cons.mp hz with rfl | hz
    · exact h1
    · exact List.lt_trans h1 ((List.pairwise_cons.mp ih).1 z hz)
/-- a written question is one: seen by looking -/
def okB (ts : List (Str × List Str)) (gs us : List Str) : Bool :=
  decide (1 ≤ ts.length) && decide (ts.length ≤ 6) && decide (names ts).Nodup && ts.all (fun t => nmB t.1 && decide (1 ≤ t.2.length) && decide (t.2.length ≤ 6) && upB t.2 && t.2.all nmB && t.2.all fun z => decide (z ∈ us)) && decide (us.length ≤ 8) &&
    upB gs && gs.all nmB && gs.all (fun z => ts.any fun t => decide (z ∈ t.2)) && decide (gs.length ≤ 8)
theorem okB_ok {ts : List (Str × List Str)} {gs us : List Str} (h : okB ts gs us = true) : OKT ts ∧ OKG ts gs := by
  unfold okB at h
  simp only [Bool.and_eq_true, decide_eq_true_eq, List.all_eq_true, List.any_eq_true] at h
  obtain ⟨⟨⟨⟨⟨⟨⟨⟨a1, a2⟩, a3⟩, a4⟩, a5⟩, a6⟩, a7⟩, a8⟩, a9⟩ := h
  refine ⟨⟨⟨a1, a2⟩, a3, fun t ht => (a4 t ht).1.1.1.1.1, fun t ht => ⟨⟨(a4 t ht).1.1.1.1.2, (a4 t ht).1.1.1.2⟩, upB_up (a4 t ht).1.1.2, fun z hz => (a4 t ht).1.2 z hz⟩, ?_⟩, upB_up a6, fun z hz => a7 z hz, fun z hz => ?_, a9⟩
  · refine Nat.le_trans (sub_len (dist_up _).nodup fun z hz => ?_) a5
    obtain ⟨t, ht, hz⟩ := cols_mem.mp hz
    exact (a4 t ht).2 z hz
  · obtain ⟨t, ht, q⟩ := a8 z hz
    exact cols_mem.mpr ⟨t, ht, q⟩
theorem cut_take {xs : List V} {k : Nat} : cutV xs none (some (k : Int)) = xs.take k := by
  unfold cutV
  rw [HT.sIx_nat, HT.sIx_none, List.drop_zero, Nat.sub_zero]
  rw [show min k xs.length = min k xs.length from rfl, ← List.take_take, List.take_length]
def seven : List Str := ["r", "s", "t", "u", "ab", "table", "zzzzzzzz"]
def six : List Str := ["a", "b", "c", "d", "x", "zz"]
def unV : V → Str | .str x => x | _ => Str.empty
theorem perm_strs {L : List V} {xs : List Str} (p : L.Perm (xs.map V.str)) : ∃ ys : List Str, L = ys.map V.str ∧ ys.Perm xs := by
  refine ⟨L.map unV, ?_, ?_⟩
  · rw [List.map_map]
    refine ((List.map_congr_left fun v hv => ?_).trans (List.map_id L)).symm
    obtain ⟨x, _, rfl⟩ := List.mem_map.mp (p.mem_iff.mp hv)
    rfl
  · have q := p.map unV
    rw [List.map_map] at q
    exact q.trans (List.Perm.of_eq (List.map_id xs))
theorem seven_nm : ∀ z ∈ seven, Nm z := by
  have h : seven.all nmB = true := by decide +kernel
  exact fun z hz => List.all_eq_true.mp h z hz
theorem six_nm : ∀ z ∈ six, Nm z := by
  have h : six.all nmB = true := by decide +kernel
  exact fun z hz => List.all_eq_true.mp h z hz
theorem seven_nd : seven.Nodup := by decide +kernel
theorem six_nd : six.Nodup := by decide +kernel
/-- some of a mixed list, in their order -/
theorem some_of {xs L : List Str} {k : Nat} (p : L.Perm xs) (nd : xs.Nodup) : Up (srt (L.take k)) ∧ (∀ z ∈ srt (L.take k), z ∈ xs) ∧ (srt (L.take k)).length = min k xs.length := by
  have n2 : (L.take k).Nodup := (List.take_sublist k L).nodup (p.nodup_iff.mpr nd)
  refine ⟨srt_up n2, fun z hz => p.mem_iff.mp (List.mem_of_mem_take ((srt_perm _).mem_iff.mp hz)), ?_⟩
  rw [srt_len, List.length_take, p.length_eq]
theorem Gx.fresh {a p : Addr} {H H' : Hp} (g : Gx a H H') (h : H' p = none) (n : p ≠ a) : H p = none := by
  cases e : H p with
  | none => rfl
  | some u => rw [g p u e n] at h; cases h
theorem strs_no_dice {n : Nat} {o : HO} (D : Dice n o) (xs : List Str) : o ≠ .lst (xs.map V.str) := by
  obtain ⟨a, b, c, rfl, _⟩ := D
  intro z
  cases xs with
  | nil => cases z
  | cons x xs =>
    have h := congrArg (fun o => match o with | HO.lst (V.int _ :: _) => true | _ => false) z
    cases h
theorem LstS.keep {n : Nat} {o : HO} {d : Addr} {H H' : Hp} {v : V} {xs : List Str} (h : LstS H v xs) (hd : H d = some o) (D : Dice n o) (f : ∀ b u, H b = some u → b ≠ d → H' b = some u) : LstS H' v xs := by
  obtain ⟨a, e, k⟩ := h
  exact ⟨a, e, f _ _ k fun z => by rw [z, hd] at k; exact strs_no_dice D xs (Option.some.inj k)⟩
theorem PQ.keep {n : Nat} {o : HO} {d : Addr} {H H' : Hp} {v : V} {r : Nat × Nat} (h : PQ H v r) (hd : H d = some o) (D : Dice n o) (f : ∀ b u, H b = some u → b ≠ d → H' b = some u) : PQ H' v r := by
  obtain ⟨a, e, k⟩ := h
  refine ⟨a, e, f _ _ k fun z => ?_⟩
  obtain ⟨x, y, w, rfl, _⟩ := D
  rw [z, hd] at k
  cases k
def sixP : List (Nat × Nat) := [(1, 1), (1, 2), (2, 1), (0, 1), (3, 2), (1, 3)]
theorem okp_six {ts : List (Str × List Str)} {gs : List Str} {zs : List (Str × (Nat × Nat))} (t : OKT ts) (g : OKG ts gs) (nz : names zs = names ts) (h : ∀ z ∈ zs, z.2 ∈ sixP) : OKP ts gs zs := by
  have f := t.few
  have l : zs.length = ts.length := by
    have q := congrArg List.length nz
    simp only [names, List.length_map] at q
    exact q
  have all : ∀ r ∈ sixP, (1 ≤ r.2 ∧ r.2 ≤ 60 ∧ r.1 ≤ 9 * r.2) ∧ Nat.gcd r.1 r.2 = 1 := by decide +kernel
  exact ⟨t, g, ⟨by omega, fun z hz => by rw [← nz]; exact List.mem_map_of_mem hz, fun z hz => (all _ (h z hz)).1⟩, nz, fun z hz => (all _ (h z hz)).2⟩
theorem ones_six (ts : List (Str × List Str)) : ∀ z ∈ ones ts, z.2 ∈ sixP := fun z hz => by
  obtain ⟨t, _, rfl⟩ := List.mem_map.mp hz
  show ((1 : Nat), (1 : Nat)) ∈ sixP
  decide
section
variable {X : Cx} {CX : CXT} {n : Nat} {f C : Addr} {fd : FuncData} {ps : List Str} {sp : Sp} {E : XK}
/-- len(x) by x's own method -/
def uLenO (C : Addr) (sp : Sp) (E : XK) : List V → Hp → VK → Prop := fun vs H Q => ∃ (a dx : Addr) (fs : List (Str × V)), vs = [.ref a] ∧ H a = some (.ins C dx fs) ∧ sp [.ref a] H (fun v H' => ∃ k : Nat, v = .int (k : Int) ∧ k ≤ 1000000 ∧ Q (.int (k : Int)) H') E
theorem caLenO (m : Meth X.K C "__len__" f) (F : FnOk X.prog X.w X.K X.mg X.base CX n f fd ps sp) (hr : Room (n + 2) X.A) (hb : L2.Binds X.K fd ps []) (hx : Passes CX X E) : CallR X (.builtin "len") (uLenO C sp E) := by
  intro pins s σ H xs us Q I r h
  obtain ⟨a, dx, fs, rfl, ha, hs⟩ := h
  obtain ⟨u, rfl, ru⟩ := vals1 r
  cases (show u = Value.ref a from ru)
  obtain ⟨mA, J, _⟩ := ins_get I.hok ha
  obtain ⟨od, J, _⟩ := J.look
  have hr2 : Room n X.A.in1 := Room.in1 (hr.mono (by omega))
  refine Calls.call_function_entry kind_len plain_len entry_len (args_len1 _) ?_
  unfold Builtin.«len»
  refine wpAny_bind (m := oneArg "len" _) (wpAny_pure ?_)
  refine wpAny_bind (m := callSpecial? (.ref a) (Str.ofString "__len__")) (PySem.W.special_fn I.kIn J m.at_ (beq_iff_eq.mp m.fn) ?_)
  refine wpAny_mono (run_here F hr2 rfl hb hx I (show Vals [V.ref a] [Value.ref a] from .cons rfl .nil) hs) (fun v s' q => ?_) fun _ _ z => z
  obtain ⟨x, H', I', rv, k, rfl, hk, q⟩ := q
  obtain ⟨t, rfl⟩ := (show ∃ t, v = Value.int (k : Int) t from rv)
  refine wpAny_bind (wpAny_holding (wpAny_pure (wpAny_bind (wpAny_letGo ?_))))
  show wpAny _ _ (if (k : Int) < 0 then _ else _) _ _ _
  rw [if_neg (by omega)]
  show wpAny _ _ (if (k : Int) ≥ 2 ^ 63 then _ else _) _ _ _
  rw [if_neg (by omega)]
  exact wpAny_bind (wpAny_mkInt (wpAny_pure ⟨_, rfl, .int (k : Int), H', I'.tok _, ⟨_, rfl⟩, q⟩))
end
theorem QO.up {C R : Addr} {H H' : Hp} {a : Addr} {ts : List (Str × List Str)} {gs : List Str} {zs : List (Str × (Nat × Nat))} (h : QO C R H a ts gs zs) (g : Gr H H') : QO C R H' a ts gs zs := by
  obtain ⟨dx, d, q, e, c, l, kvs, kz, ha, hd, hk, hg, he, hz, hc, hl, r⟩ := h
  exact ⟨dx, d, q, e, c, l, kvs, kz, g _ _ ha, g _ _ hd, hk.mono fun v b r => r.up g, g _ _ hg, g _ _ he, hz.mono fun v b r => RatS.up r g, g _ _ hc, g _ _ hl, r⟩
/-- a question stands while only the dice change -/
theorem QO.keep {n : Nat} {o : HO} {x C R : Addr} {H H' : Hp} {a : Addr} {ts : List (Str × List Str)} {gs : List Str} {zs : List (Str × (Nat × Nat))} (h : QO C R H a ts gs zs) (hx : H x = some o) (D : Dice n o) (f : Gx x H H') : QO C R H' a ts gs zs := by
  obtain ⟨dx, d, q, e, c, l, kvs, kz, ha, hd, hk, hg, he, hz, hc, hl, r⟩ := h
  obtain ⟨i, j, k, rfl, _⟩ := D
  have g : ∀ b u, H b = some u → (∀ w, u ≠ .lst w) → H' b = some u := fun b u eb nl => f b u eb fun z => by rw [z, hx] at eb; exact nl _ (Option.some.inj eb).symm
  refine ⟨dx, d, q, e, c, l, kvs, kz, g _ _ ha (fun _ z => by cases z), g _ _ hd (fun _ z => by cases z), hk.mono fun v b r => ?_, g _ _ hg (fun _ z => by cases z), g _ _ he (fun _ z => by cases z), hz.mono fun v b r => ?_, g _ _ hc (fun _ z => by cases z), g _ _ hl (fun _ z => by cases z), r⟩
  · obtain ⟨w, ew, hw⟩ := r
    exact ⟨w, ew, g _ _ hw (fun _ z => by cases z)⟩
  · obtain ⟨w, dw, ew, hw⟩ := r
    exact ⟨w, dw, ew, g _ _ hw (fun _ z => by cases z)⟩
def five : List Str := ["new", "table", "group", "z", "size"]
theorem five_nm : ∀ z ∈ five, Nm z := by
  have h : five.all nmB = true := by decide +kernel
  exact fun z hz => List.all_eq_true.mp h z hz
/-- a dict of lists is none of texts -/
theorem not_both {H : Hp} {kt : List (Key × V)} {ts : List (Str × List Str)} {rs : List (Str × Str)} (h : DRel LstS H kt ts) (k : DRel SV H kt rs) (n : 1 ≤ ts.length) : False := by
  have l : 0 < kt.length := by rw [h.1]; exact n
  obtain ⟨t, _, _, a, e, _⟩ := h.at (i := 0) (k := kt[0]) (by simp)
  obtain ⟨r, _, _, e2⟩ := k.at (i := 0) (k := kt[0]) (by simp)
  have e2 : kt[0].2 = .str r.2 := e2
  rw [e2] at e
  cases e
def plk2 (D S G : Addr) : List (Key × V) := [(.inr "tables", .ref D), (.inr "sizes", .ref S), (.inr "groups", .ref G)]
theorem plk2_all {D S G : Addr} : valV (plk2 D S G) (.inr "tables") = some (.ref D) ∧ valV (plk2 D S G) (.inr "groups") = some (.ref G) ∧ valV (plk2 D S G) (.inr "sizes") = some (.ref S) := ⟨rfl, rfl, rfl⟩
/-! ### the order of the tables does not matter -/
theorem lk_perm {β : Type} {ts us : List (Str × β)} (nd : (names ts).Nodup) (p : ts.Perm us) (x : Str) : lk ts x = lk us x := by
  have nd2 : (names us).Nodup := (p.map Prod.fst).nodup_iff.mp nd
  cases e : lk ts x with
  | some b => exact (lk_at nd2 (p.mem_iff.mp (lk_mem e))).symm
  | none => exact (lk_none.mpr fun z => lk_none.mp e ((p.map Prod.fst).mem_iff.mpr z)).symm
theorem byName_congr {β : Type} {ns : List Str} {d : β} {ts us : List (Str × β)} (h : ∀ x, lk ts x = lk us x) : byName ns d ts = byName ns d us := List.map_congr_left fun n _ => by rw [h]
theorem srtT_congr {ts us : List (Str × List Str)} (nd : (names ts).Nodup) (p : ts.Perm us) : srtT ts = srtT us := by
  unfold srtT
  rw [byName_congr (lk_perm nd p), show srt (names ts) = srt (names us) from srt_congr (p.map Prod.fst)]
theorem srtZ_congr {ns ms : List Str} {zs ys : List (Str × (Nat × Nat))} (nd : (names zs).Nodup) (q : ns.Perm ms) (p : zs.Perm ys) : srtZ ns zs = srtZ ms ys := by
  unfold srtZ
  rw [byName_congr (lk_perm nd p), srt_congr q]
theorem imT_perm {r1 r2 : List (Str × Str)} {ts us : List (Str × List Str)} (p : ts.Perm us) : (imT r1 r2 ts).Perm (imT r1 r2 us) := p.map _
theorem imZ_perm {r1 : List (Str × Str)} {zs ys : List (Str × (Nat × Nat))} (p : zs.Perm ys) : (imZ r1 zs).Perm (imZ r1 ys) := p.map _
/-- one renaming behind another -/
def thenR (ra rb : List (Str × Str)) : List (Str × Str) := ra.map fun p => (p.1, im rb p.2)
theorem thenR_names (ra rb : List (Str × Str)) : names (thenR ra rb) = names ra := by unfold names thenR; rw [List.map_map]; rfl
theorem thenR_im {ra rb : List (Str × Str)} {xs : List Str} (h : OKR ra xs) {x : Str} (hx : x ∈ xs) : im (thenR ra rb) x = im rb (im ra x) := by
  obtain ⟨b, hb, _⟩ := h.mem hx
  have nd : (names (thenR ra rb)).Nodup := by rw [thenR_names]; exact h.nd
  have m : (x, im rb b) ∈ thenR ra rb := List.mem_map.mpr ⟨(x, b), lk_mem hb, rfl⟩
  have e : lk (thenR ra rb) x = some (im rb b) := lk_at nd m
  unfold im at e ⊢
  rw [e, hb]
  rfl
theorem imG_then {ra rb : List (Str × Str)} {xs gs : List Str} (h : OKR ra xs) (sub : ∀ z ∈ gs, z ∈ xs) : imG (thenR ra rb) gs = imG rb (imG ra gs) := by
  have e : gs.map (im (thenR ra rb)) = (gs.map (im ra)).map (im rb) := by
    rw [List.map_map]
    exact List.map_congr_left fun z hz => thenR_im h (sub z hz)
  unfold imG
  rw [e]
  exact srt_congr ((srt_perm _).map _).symm
theorem imT_then {a1 b1 a2 b2 : List (Str × Str)} {ts : List (Str × List Str)} (h1 : OKR a1 (names ts)) (h2 : OKR a2 (colsOf ts)) : imT (thenR a1 b1) (thenR a2 b2) ts = imT b1 b2 (imT a1 a2 ts) := by
  unfold imT
  rw [List.map_map]
  refine List.map_congr_left fun t ht => ?_
  show (im (thenR a1 b1) t.1, srt (t.2.map (im (thenR a2 b2)))) = (im b1 (im a1 t.1), srt ((srt (t.2.map (im a2))).map (im b2)))
  rw [thenR_im h1 (List.mem_map_of_mem ht)]
  exact congrArg _ (imG_then (gs := t.2) h2 fun z hz => cols_mem.mpr ⟨t, ht, hz⟩)
theorem imZ_then {a1 b1 : List (Str × Str)} {ns : List Str} {zs : List (Str × (Nat × Nat))} (h1 : OKR a1 ns) (sub : ∀ z ∈ zs, z.1 ∈ ns) : imZ (thenR a1 b1) zs = imZ b1 (imZ a1 zs) := by
  unfold imZ
  rw [List.map_map]
  refine List.map_congr_left fun z hz => ?_
  show (im (thenR a1 b1) z.1, z.2) = (im b1 (im a1 z.1), z.2)
  rw [thenR_im h1 (sub z hz)]
end U

/-! U35: == of two dicts that are locked, their values compared by what D says (an own == among them). -/
namespace U
open PySem PySem.Spec PyProof.Rows L2
section
variable {X : Cx} {n : Nat} {D : Eqv}
theorem pairs_eq (hD : Mon D) (h : EqG X n D) {A : Around} (sb : Sub X (n + 1) A) {pins : List (Addr × Obj)} {σ : L2.St} {H : Hp} {s : Shared} {a b : Addr} {oa ob : Obj} {ka kb : List (Key × V)} {nm : String} (I : Inv X pins σ H s) (ha : H a = some (.frz oa (.dK ka))) (hb : H b = some (.frz ob (.dK kb)))
    (hl : ka.length = kb.length) (hp : ∀ p ∈ ka, ∃ v, valV kb p.1 = some v ∧ D p.2 v H) :
    wpAny (model X.prog X.w) A.in1 (Builtin.Dict.samePairs nm a b) (fun r z => r = true ∧ LoopI X pins σ H z) X.xe s := by
  obtain ⟨ma, hoa, hxa, es, ep, va, hda, sza, kva, oa', es1, hoa', _, hda', keya, pa, nda⟩ := I.frzK ha
  obtain ⟨mb, hob, hxb, es', ep', vb, hdb, szb, kvb, ob', es2, hob', _, hdb', keyb, pb, ndb⟩ := I.frzK hb
  rw [hoa] at hoa'
  cases hoa'
  rw [hob] at hob'
  cases hob'
  rw [hda] at hda'
  cases hda'
  rw [hdb] at hdb'
  cases hdb'
  have objs : ∀ z, LoopI X pins σ H z → z.heap.get? a = some oa ∧ z.heap.get? b = some ob := fun z ⟨H1, I1, e1⟩ => ⟨(I1.frzK (e1 _ _ ha)).2.1, (I1.frzK (e1 _ _ hb)).2.1⟩
  have hsz : es.size = es'.size := by rw [sza, szb, hl]
  unfold Builtin.Dict.samePairs Builtin.Dict.showsAll
  rw [if_neg (show ¬ (a == sysModules) = true by rw [ma]; exact Bool.false_ne_true), if_neg (show ¬ (b == sysModules) = true by rw [mb]; exact Bool.false_ne_true)]
  refine wpAny_bind (wpAny_pure (wpAny_bind (wpAny_pure (wpAny_bind (wpAny_dictEntries hoa hda ?_)))))
  dsimp only
  refine wpAny_bind (wpAny_dictEntries hob hdb ?_)
  rw [if_neg (by rw [hsz]; simp)]
  refine wpAny_bind (wpAny_dictEpoch hoa hda (wpAny_bind ?_))
  rw [Std.Legacy.Range.forIn_eq_forIn_range']
  simp only [Std.Legacy.Range.size, Nat.sub_zero, Nat.add_sub_cancel, Nat.div_one]
  refine wpAny_forIn_list _ (fun rest q z => LoopI X pins σ H z ∧ q = (none, ()) ∧ ∃ i, rest = List.range' i (es.size - i) ∧ i ≤ es.size) _ ?_ ?_ _ _ ⟨⟨H, I, Ext.rfl'⟩, rfl, 0, by simp, Nat.zero_le _⟩
  · rintro x rest q z ⟨L, rfl, i, hr, hi⟩
    have lt : i < es.size := by
      rcases Nat.lt_or_ge i es.size with k | k
      · exact k
      · rw [Nat.sub_eq_zero_of_le k] at hr
        simp at hr
    obtain ⟨rfl, hrest⟩ : x = i ∧ rest = List.range' (i + 1) (es.size - (i + 1)) := by
      rw [show es.size - i = (es.size - (i + 1)) + 1 by omega, List.range'_succ] at hr
      injection hr with h1 h2
      exact ⟨h1, h2⟩
    obtain ⟨ga, gb⟩ := objs z L
    refine wpAny_bind (wpAny_dictEntries ga hda ?_)
    rw [Array.getElem?_eq_getElem lt]
    have lk : x < ka.length := by rw [← sza]; exact lt
    obtain ⟨p, hpx⟩ : ∃ p, ka[x]? = some p := ⟨ka[x], by simp [lk]⟩
    have lva : ka.length = va.length := Paired.length kva
    obtain ⟨q, hqx⟩ : ∃ q, va[x]? = some q := ⟨va[x]'(by omega), by simp [show x < va.length by omega]⟩
    obtain ⟨k, v⟩ := q
    obtain ⟨ek, rv⟩ : p.1 = k ∧ RelV p.2 v := by
      obtain ⟨y, hy, ry⟩ := KV.at' kva hqx
      rw [hpx] at hy
      cases hy
      exact ⟨rfl, ry⟩
    obtain ⟨hkey, hval⟩ := pa.get? (i := x) (e := es[x]) (k := k) (v := v) (by rw [Array.getElem?_toList]; exact Array.getElem?_eq_getElem lt) hqx
    obtain ⟨k2, hk2, hh⟩ := keya es[x] (Array.getElem_mem lt)
    obtain rfl : k2 = k := (mixKind X.prog X.w).inj _ _ _ hk2 hkey
    obtain ⟨y, hy, dy⟩ := hp p (List.mem_of_getElem? hpx)
    rw [ek] at hy
    obtain ⟨w, hw, rw'⟩ : ∃ w, valueAt vb k2 = some w ∧ RelV y w := by
      have r := kvb.val k2
      rw [hy] at r
      cases hv : valueAt vb k2 with
      | none =>
        rw [hv] at r
        exact r.elim
      | some w =>
        rw [hv] at r
        exact ⟨w, rfl, r⟩
    have hf : findBy (mixKind X.prog X.w).is es' k2 = valueAt vb k2 := by
      rw [← pb.find k2]
      obtain ⟨l⟩ := es'
      simp [findBy]
    show wpAny _ _ (holding [es[x].key, es[x].val] _ >>= _) _ _ _
    rw [hh]
    refine wpAny_bind (wpAny_holding (wpAny_bind (wpAny_dictFind_of hkey gb hdb keyb ?_)))
    cases hj : es'.findIdx? fun e => (mixKind X.prog X.w).is k2 e.key with
    | none =>
      rw [findBy_of_findIdx?, hj, hw] at hf
      exact nomatch hf
    | some j =>
      obtain ⟨jlt, _, _⟩ := Array.findIdx?_eq_some_iff_getElem.mp hj
      rw [findBy_of_findIdx?, hj, hw] at hf
      have ew : es'[j].val = w := by simpa [Array.getElem?_eq_getElem jlt] using hf
      refine wpAny_bind (wpAny_dictEntries gb hdb ?_)
      rw [Array.getElem?_eq_getElem jlt]
      obtain ⟨H1, I1, e1⟩ := L
      refine wpAny_holding (wpAny_mono (h A.in1 pins z σ H1 p.2 y es[x].val es'[j].val sb.in1 I1 (by rw [hval]; exact rv) (by rw [ew]; exact rw') (hD _ _ _ _ e1 dy)) (fun r z2 q => ?_) fun _ _ x => x)
      obtain ⟨rfl, H2, I2, e2⟩ := q
      have L2' : LoopI X pins σ H z2 := ⟨H2, I2, e1.trans e2⟩
      show wpAny _ _ (if (!true) = true then _ else _) _ _ _
      rw [if_neg (by decide)]
      refine wpAny_bind (wpAny_dictEpoch (objs z2 L2').1 hda ?_)
      rw [if_neg (by simp)]
      exact wpAny_pure ⟨L2', rfl, x + 1, hrest, lt⟩
  · rintro q z ⟨L, rfl, i, hr, hi⟩
    exact wpAny_pure ⟨rfl, L⟩
theorem rc_dct (hD : Mon D) (h : EqG X n D) {A : Around} (sb : Sub X (n + 1) A) {pins : List (Addr × Obj)} {σ : L2.St} {H : Hp} {s : Shared} {a b : Addr} {oa ob : Obj} {ka kb : List (Key × V)} (I : Inv X pins σ H s) (ha : H a = some (.frz oa (.dK ka))) (hb : H b = some (.frz ob (.dK kb)))
    (hl : ka.length = kb.length) (hp : ∀ p ∈ ka, ∃ v, valV kb p.1 = some v ∧ D p.2 v H) :
    wpAny (model X.prog X.w) A (richCompare .Eq (.ref a) (.ref b)) (fun r z => r = .bool true ∧ LoopI X pins σ H z) X.xe s := by
  obtain ⟨_, _, _, _, _, _, _, _, _, da⟩ := I.frzK ha
  obtain ⟨_, _, _, _, _, _, _, _, _, db⟩ := I.frzK hb
  have da := da.dictOf
  have db := db.dictOf
  refine wpAny_richCompare_same_room (op := .Eq) da.typeIs db.typeIs PySem.F.slot_dict_eq (wpAny_call_entry PySem.F.slot_dict_eq da.typeIs PySem.F.entry_dict_eq ?_ (PySem.F.args_dict_eq_2 _ _)) sb.room.units0
  show wpAny _ _ (Builtin.Dict.dictSlotArgs "__eq__" ⟨[.ref a, .ref b], []⟩ >>= _) _ _ s
  refine wpAny_bind ?_
  unfold Builtin.Dict.dictSlotArgs
  refine wpAny_bind (wpAny_notOrdered_dict da.typeIs ?_)
  show wpAny _ _ (pure (Value.ref a, Value.ref b)) _ _ s
  refine wpAny_pure (wpAny_bind (wpAny_isInstance (T := "dict") db.typeIs PySem.F.sub_dict_dict ?_))
  simp only [Bool.not_true, Bool.false_eq_true, if_false]
  refine wpAny_bind (wpAny_pure ?_)
  refine wpAny_bind (wpAny_pure ?_)
  refine wpAny_bind ?_
  have key := pairs_eq (nm := toString "dict." ++ toString "__eq__") hD h sb I ha hb hl hp
  refine wpAny_mono key (fun r z q => ?_) fun _ _ x => x
  obtain ⟨rfl, L⟩ := q
  refine wpAny_pure ⟨_, rfl, ?_, ?_, L⟩
  · exact fun x => nomatch x
  · rfl
/-- d == d' of two dicts with the same keys and values that D sees to be equal -/
def rEqDct (D : Eqv) : R2 := fun x y H Q => ∃ (a b : Addr) (ka kb : List (Key × V)), x = .ref a ∧ y = .ref b ∧ a ≠ b ∧ H a = some (.dK ka) ∧ H b = some (.dK kb) ∧ ka.length = kb.length ∧
  (∀ oa ob, ∀ p ∈ ka, ∃ v, valV kb p.1 = some v ∧ D p.2 v (upd (upd H a (.frz oa (.dK ka))) b (.frz ob (.dK kb)))) ∧ ∀ H', Gr H H' → Q (.bl true) H'
theorem op_eqDct (hD : Mon D) (h : EqG X n D) (hr : Room (n + 1) X.A) : OpR X (compareOp .Eq) (rEqDct D) := by
  intro pins s σ H x y v u Q I rx ry hq
  obtain ⟨a, b, ka, kb, rfl, rfl, nab, ha, hb, hl, hp, q⟩ := hq
  cases rx
  cases ry
  obtain ⟨oa, I1⟩ := I.lock ha trivial
  have hb1 : (upd H a (.frz oa (.dK ka))) b = some (.dK kb) := by rw [upd_ne nab.symm]; exact hb
  obtain ⟨ob, I2⟩ := I1.lock hb1 trivial
  have ea : (upd (upd H a (.frz oa (.dK ka))) b (.frz ob (.dK kb))) a = some (.frz oa (.dK ka)) := by rw [upd_ne nab, upd_same]
  show wpAny _ _ (richCompare .Eq (.ref a) (.ref b)) _ _ _
  have key := rc_dct hD h (A := X.A) ⟨hr, rfl⟩ I2 ea upd_same hl (hp oa ob)
  refine wpAny_mono key (fun r z w => ?_) fun _ _ x => x
  obtain ⟨rfl, H3, I3, e3⟩ := w
  have I4 := I3.unlock (d := b) (od := ob) (u := .dK kb) (e3 _ _ upd_same) (I1.nofrz hb1 trivial)
  have I5 := I4.unlock (d := a) (od := oa) (u := .dK ka) (by rw [upd_ne nab]; exact e3 _ _ ea) (I.nofrz ha trivial)
  refine ⟨.bl true, _, I5, rfl, q _ fun c o eo => ?_⟩
  by_cases ca : c = a
  · rw [ca] at eo ⊢
    rw [upd_same, ← eo, ha]
  · rw [upd_ne ca]
    by_cases cb : c = b
    · rw [cb] at eo ⊢
      rw [upd_same, ← eo, hb]
    · rw [upd_ne cb]
      exact e3 _ _ (by rw [upd_ne cb, upd_ne ca]; exact eo)
end
end U

/-! U36: == of two dicts, true or false, their values compared by what D says. -/
namespace U
open PySem PySem.Spec PyProof.Rows L2
abbrev EqvB := V → V → Bool → Hp → Prop
def MonB (D : EqvB) : Prop := ∀ x y e H H', Ext H H' → D x y e H → D x y e H'
def EqB (X : Cx) (n : Nat) (D : EqvB) : Prop :=
  ∀ (A : Around) (pins : List (Addr × Obj)) (s : Shared) (σ : L2.St) (H : Hp) (x y : V) (e : Bool) (u v : Value), Sub X n A → Inv X pins σ H s → RelV x u → RelV y v → D x y e H →
    wpAny (model X.prog X.w) A (eqBool u v) (fun r s' => r = e ∧ LoopI X pins σ H s') X.xe s
section
variable {X : Cx} {n : Nat} {D : EqvB}
theorem EqB.mono {m : Nat} (h : EqB X n D) (hn : n ≤ m) : EqB X m D := fun A pins s σ H x y e u v sb => h A pins s σ H x y e u v (sb.mono hn)
theorem pairs_eqB (hD : MonB D) (h : EqB X n D) {A : Around} (sb : Sub X (n + 1) A) {pins : List (Addr × Obj)} {σ : L2.St} {H : Hp} {s : Shared} {a b : Addr} {oa ob : Obj} {ka kb : List (Key × V)} {nm : String} (f : Key × V → Bool) (I : Inv X pins σ H s) (ha : H a = some (.frz oa (.dK ka))) (hb : H b = some (.frz ob (.dK kb)))
    (hp : ∀ p ∈ ka, (valV kb p.1 = none ∧ f p = false) ∨ ∃ v, valV kb p.1 = some v ∧ D p.2 v (f p) H) :
    wpAny (model X.prog X.w) A.in1 (Builtin.Dict.samePairs nm a b) (fun r z => r = (decide (ka.length = kb.length) && ka.all f) ∧ LoopI X pins σ H z) X.xe s := by
  obtain ⟨ma, hoa, hxa, es, ep, va, hda, sza, kva, oa', es1, hoa', _, hda', keya, pa, nda⟩ := I.frzK ha
  obtain ⟨mb, hob, hxb, es', ep', vb, hdb, szb, kvb, ob', es2, hob', _, hdb', keyb, pb, ndb⟩ := I.frzK hb
  rw [hoa] at hoa'
  cases hoa'
  rw [hob] at hob'
  cases hob'
  rw [hda] at hda'
  cases hda'
  rw [hdb] at hdb'
  cases hdb'
  have objs : ∀ z, LoopI X pins σ H z → z.heap.get? a = some oa ∧ z.heap.get? b = some ob := fun z ⟨H1, I1, e1⟩ => ⟨(I1.frzK (e1 _ _ ha)).2.1, (I1.frzK (e1 _ _ hb)).2.1⟩
  have L0 : LoopI X pins σ H s := ⟨H, I, Ext.rfl'⟩
  unfold Builtin.Dict.samePairs Builtin.Dict.showsAll
  rw [if_neg (show ¬ (a == sysModules) = true by rw [ma]; exact Bool.false_ne_true), if_neg (show ¬ (b == sysModules) = true by rw [mb]; exact Bool.false_ne_true)]
  refine wpAny_bind (wpAny_pure (wpAny_bind (wpAny_pure (wpAny_bind (wpAny_dictEntries hoa hda ?_)))))
  dsimp only
  refine wpAny_bind (wpAny_dictEntries hob hdb ?_)
  by_cases hl : ka.length = kb.length
  case neg =>
    rw [if_pos (by rw [sza, szb]; simpa using hl)]
    rw [decide_eq_false hl, Bool.false_and]
    exact wpAny_bind (wpAny_rule (wpAny_pure ⟨rfl, L0⟩))
  rw [decide_eq_true hl, Bool.true_and]
  have hsz : es.size = es'.size := by rw [sza, szb, hl]
  rw [if_neg (by rw [hsz]; simp)]
  refine wpAny_bind (wpAny_dictEpoch hoa hda (wpAny_bind ?_))
  rw [Std.Legacy.Range.forIn_eq_forIn_range']
  simp only [Std.Legacy.Range.size, Nat.sub_zero, Nat.add_sub_cancel, Nat.div_one]
  refine wpAny_forIn_list _ (fun rest q z => LoopI X pins σ H z ∧ q = (none, ()) ∧ ∃ i, rest = List.range' i (es.size - i) ∧ i ≤ es.size ∧ (ka.drop i).all f = ka.all f) _ ?_ ?_ _ _ ⟨L0, rfl, 0, by simp, Nat.zero_le _, rfl⟩
  · rintro x rest q z ⟨L, rfl, i, hr, hi, hall⟩
    have lt : i < es.size := by
      rcases Nat.lt_or_ge i es.size with k | k
      · exact k
      · rw [Nat.sub_eq_zero_of_le k] at hr
        simp at hr
    obtain ⟨rfl, hrest⟩ : x = i ∧ rest = List.range' (i + 1) (es.size - (i + 1)) := by
      rw [show es.size - i = (es.size - (i + 1)) + 1 by omega, List.range'_succ] at hr
      injection hr with h1 h2
      exact ⟨h1, h2⟩
    obtain ⟨ga, gb⟩ := objs z L
    refine wpAny_bind (wpAny_dictEntries ga hda ?_)
    rw [Array.getElem?_eq_getElem lt]
    have lk : x < ka.length := by rw [← sza]; exact lt
    obtain ⟨p, hpx⟩ : ∃ p, ka[x]? = some p := ⟨ka[x], by simp [lk]⟩
    have hdrop : ka.drop x = p :: ka.drop (x + 1) := by
      obtain ⟨h1, rfl⟩ := List.getElem?_eq_some_iff.mp hpx
      exact List.drop_eq_getElem_cons h1
    rw [hdrop, List.all_cons] at hall
    have lva : ka.length = va.length := Paired.length kva
    obtain ⟨q, hqx⟩ : ∃ q, va[x]? = some q := ⟨va[x]'(by omega), by simp [show x < va.length by omega]⟩
    obtain ⟨k, v⟩ := q
    obtain ⟨ek, rv⟩ : p.1 = k ∧ RelV p.2 v := by
      obtain ⟨y, hy, ry⟩ := KV.at' kva hqx
      rw [hpx] at hy
      cases hy
      exact ⟨rfl, ry⟩
    obtain ⟨hkey, hval⟩ := pa.get? (i := x) (e := es[x]) (k := k) (v := v) (by rw [Array.getElem?_toList]; exact Array.getElem?_eq_getElem lt) hqx
    obtain ⟨k2, hk2, hh⟩ := keya es[x] (Array.getElem_mem lt)
    obtain rfl : k2 = k := (mixKind X.prog X.w).inj _ _ _ hk2 hkey
    have hf : findBy (mixKind X.prog X.w).is es' k2 = valueAt vb k2 := by
      rw [← pb.find k2]
      obtain ⟨l⟩ := es'
      simp [findBy]
    have r0 := kvb.val k2
    show wpAny _ _ (holding [es[x].key, es[x].val] _ >>= _) _ _ _
    rw [hh]
    refine wpAny_bind (wpAny_holding (wpAny_bind (wpAny_dictFind_of hkey gb hdb keyb ?_)))
    cases hj : es'.findIdx? fun e => (mixKind X.prog X.w).is k2 e.key with
    | none =>
      have hn : valueAt vb k2 = none := by rw [← hf, findBy_of_findIdx?, hj]
      rw [hn] at r0
      rcases hp p (List.mem_of_getElem? hpx) with ⟨_, ef⟩ | ⟨y, hy, _⟩
      · rw [ef, Bool.false_and] at hall
        refine wpAny_pure ?_
        show wpAny _ _ (if (!false) = true then _ else _) _ _ _
        rw [if_pos (by decide)]
        exact wpAny_pure (wpAny_pure ⟨hall, L⟩)
      · rw [ek] at hy
        rw [hy] at r0
        exact r0.elim
    | some j =>
      obtain ⟨jlt, _, _⟩ := Array.findIdx?_eq_some_iff_getElem.mp hj
      rw [findBy_of_findIdx?, hj] at hf
      rcases hp p (List.mem_of_getElem? hpx) with ⟨hn, _⟩ | ⟨y, hy, dy⟩
      · rw [ek] at hn
        rw [hn] at r0
        rw [← hf] at r0
        simp [Array.getElem?_eq_getElem jlt] at r0
        exact r0.elim
      rw [ek] at hy
      obtain ⟨w, hw, rw'⟩ : ∃ w, valueAt vb k2 = some w ∧ RelV y w := by
        rw [hy] at r0
        cases hv : valueAt vb k2 with
        | none =>
          rw [hv] at r0
          exact r0.elim
        | some w =>
          rw [hv] at r0
          exact ⟨w, rfl, r0⟩
      rw [hw] at hf
      have ew : es'[j].val = w := by simpa [Array.getElem?_eq_getElem jlt] using hf
      refine wpAny_bind (wpAny_dictEntries gb hdb ?_)
      rw [Array.getElem?_eq_getElem jlt]
      obtain ⟨H1, I1, e1⟩ := L
      refine wpAny_holding (wpAny_mono (h A.in1 pins z σ H1 p.2 y (f p) es[x].val es'[j].val sb.in1 I1 (by rw [hval]; exact rv) (by rw [ew]; exact rw') (hD _ _ _ _ _ e1 dy)) (fun r z2 q => ?_) fun _ _ x => x)
      obtain ⟨er, H2, I2, e2⟩ := q
      have L2' : LoopI X pins σ H z2 := ⟨H2, I2, e1.trans e2⟩
      rw [← er] at hall
      cases r with
      | false =>
        rw [Bool.false_and] at hall
        show wpAny _ _ (if (!false) = true then _ else _) _ _ _
        rw [if_pos (by decide)]
        exact wpAny_pure (wpAny_pure ⟨hall, L2'⟩)
      | true =>
        rw [Bool.true_and] at hall
        show wpAny _ _ (if (!true) = true then _ else _) _ _ _
        rw [if_neg (by decide)]
        refine wpAny_bind (wpAny_dictEpoch (objs z2 L2').1 hda ?_)
        rw [if_neg (by simp)]
        exact wpAny_pure ⟨L2', rfl, x + 1, hrest, lt, hall⟩
  · rintro q z ⟨L, rfl, i, hr, hi, hall⟩
    have hin : i = es.size := by
      rcases Nat.lt_or_ge i es.size with h | h
      · rw [show es.size - i = (es.size - (i + 1)) + 1 by omega, List.range'_succ] at hr
        exact nomatch hr
      · exact Nat.le_antisymm hi h
    rw [hin, sza, List.drop_length] at hall
    exact wpAny_pure ⟨hall, L⟩
theorem rc_dctB (hD : MonB D) (h : EqB X n D) {A : Around} (sb : Sub X (n + 1) A) {pins : List (Addr × Obj)} {σ : L2.St} {H : Hp} {s : Shared} {a b : Addr} {oa ob : Obj} {ka kb : List (Key × V)} (f : Key × V → Bool) (I : Inv X pins σ H s) (ha : H a = some (.frz oa (.dK ka))) (hb : H b = some (.frz ob (.dK kb)))
    (hp : ∀ p ∈ ka, (valV kb p.1 = none ∧ f p = false) ∨ ∃ v, valV kb p.1 = some v ∧ D p.2 v (f p) H) :
    wpAny (model X.prog X.w) A (richCompare .Eq (.ref a) (.ref b)) (fun r z => r = .bool (decide (ka.length = kb.length) && ka.all f) ∧ LoopI X pins σ H z) X.xe s := by
  obtain ⟨_, _, _, _, _, _, _, _, _, da⟩ := I.frzK ha
  obtain ⟨_, _, _, _, _, _, _, _, _, db⟩ := I.frzK hb
  have da := da.dictOf
  have db := db.dictOf
  refine wpAny_richCompare_same_room (op := .Eq) da.typeIs db.typeIs PySem.F.slot_dict_eq (wpAny_call_entry PySem.F.slot_dict_eq da.typeIs PySem.F.entry_dict_eq ?_ (PySem.F.args_dict_eq_2 _ _)) sb.room.units0
  show wpAny _ _ (Builtin.Dict.dictSlotArgs "__eq__" ⟨[.ref a, .ref b], []⟩ >>= _) _ _ s
  refine wpAny_bind ?_
  unfold Builtin.Dict.dictSlotArgs
  refine wpAny_bind (wpAny_notOrdered_dict da.typeIs ?_)
  show wpAny _ _ (pure (Value.ref a, Value.ref b)) _ _ s
  refine wpAny_pure (wpAny_bind (wpAny_isInstance (T := "dict") db.typeIs PySem.F.sub_dict_dict ?_))
  simp only [Bool.not_true, Bool.false_eq_true, if_false]
  refine wpAny_bind (wpAny_pure ?_)
  refine wpAny_bind (wpAny_pure ?_)
  refine wpAny_bind ?_
  have key := pairs_eqB (nm := toString "dict." ++ toString "__eq__") hD h sb f I ha hb hp
  refine wpAny_mono key (fun r z q => ?_) fun _ _ x => x
  obtain ⟨rfl, L⟩ := q
  refine wpAny_pure ⟨_, rfl, ?_, by cases (decide (ka.length = kb.length) && ka.all f) <;> rfl, L⟩
  exact fun x => nomatch x
/-- d == d' of two dicts, their values compared by what D says; f tells, entry by entry, what comes out -/
def rEqB (D : EqvB) : R2 := fun x y H Q => ∃ (a b : Addr) (ka kb : List (Key × V)) (f : Key × V → Bool), x = .ref a ∧ y = .ref b ∧ H a = some (.dK ka) ∧ H b = some (.dK kb) ∧
  (∀ H', (∀ c o, H c = some o → c ≠ a → c ≠ b → H' c = some o) → ∀ p ∈ ka, (valV kb p.1 = none ∧ f p = false) ∨ ∃ v, valV kb p.1 = some v ∧ D p.2 v (f p) H') ∧
  ∀ H', Gr H H' → Q (.bl (decide (ka.length = kb.length) && ka.all f)) H'
theorem op_eqB (hD : MonB D) (h : EqB X n D) (hr : Room (n + 1) X.A) : OpR X (compareOp .Eq) (rEqB D) := by
  intro pins s σ H x y v u Q I rx ry hq
  obtain ⟨a, b, ka, kb, f, rfl, rfl, ha, hb, hp, q⟩ := hq
  cases rx
  cases ry
  show wpAny _ _ (richCompare .Eq (.ref a) (.ref b)) _ _ _
  obtain ⟨oa, I1⟩ := I.lock ha trivial
  by_cases nab : b = a
  · subst nab
    rw [ha] at hb
    cases hb
    have key := rc_dctB hD h (A := X.A) ⟨hr, rfl⟩ f I1 upd_same upd_same (hp (upd H b (.frz oa (.dK ka))) fun c o e n _ => by rw [upd_ne n]; exact e)
    refine wpAny_mono key (fun r z w => ?_) fun _ _ x => x
    obtain ⟨rfl, H3, I3, e3⟩ := w
    have I5 := I3.unlock (d := b) (od := oa) (u := .dK ka) (e3 _ _ upd_same) (I.nofrz ha trivial)
    refine ⟨.bl _, _, I5, rfl, q _ fun c o eo => ?_⟩
    by_cases ca : c = b
    · rw [ca] at eo ⊢
      rw [upd_same, ← eo, ha]
    · rw [upd_ne ca]
      exact e3 _ _ (by rw [upd_ne ca]; exact eo)
  have hb1 : (upd H a (.frz oa (.dK ka))) b = some (.dK kb) := by rw [upd_ne nab]; exact hb
  obtain ⟨ob, I2⟩ := I1.lock hb1 trivial
  have ea : (upd (upd H a (.frz oa (.dK ka))) b (.frz ob (.dK kb))) a = some (.frz oa (.dK ka)) := by rw [upd_ne fun z => nab z.symm, upd_same]
  have key := rc_dctB hD h (A := X.A) ⟨hr, rfl⟩ f I2 ea upd_same (hp _ fun c o e n1 n2 => by rw [upd_ne n2, upd_ne n1]; exact e)
  refine wpAny_mono key (fun r z w => ?_) fun _ _ x => x
  obtain ⟨rfl, H3, I3, e3⟩ := w
  have I4 := I3.unlock (d := b) (od := ob) (u := .dK kb) (e3 _ _ upd_same) (I1.nofrz hb1 trivial)
  have I5 := I4.unlock (d := a) (od := oa) (u := .dK ka) (by rw [upd_ne fun z => nab z.symm]; exact e3 _ _ ea) (I.nofrz ha trivial)
  refine ⟨.bl _, _, I5, rfl, q _ fun c o eo => ?_⟩
  by_cases ca : c = a
  · rw [ca] at eo ⊢
    rw [upd_same, ← eo, ha]
  · rw [upd_ne ca]
    by_cases cb : c = b
    · rw [cb] at eo ⊢
      rw [upd_same, ← eo, hb]
    · rw [upd_ne cb]
      exact e3 _ _ (by rw [upd_ne cb, upd_ne ca]; exact eo)
/-- tuples of texts -/
def DTupS : EqvB := fun x y e H => ∃ xs ys : List Str, TupS H x xs ∧ TupS H y ys ∧ e = decide (xs = ys)
theorem mon_tupS : MonB DTupS := fun x y e H H' g d => by
  obtain ⟨xs, ys, h1, h2, h3⟩ := d
  exact ⟨xs, ys, h1.up g, h2.up g, h3⟩
theorem all_zip (f : Nat → Bool) (xs ys : List Str) (hf : ∀ i x y, xs[i]? = some x → ys[i]? = some y → f i = decide (x = y)) (hl : xs.length = ys.length) : (List.range xs.length).all f = decide (xs = ys) := by
  by_cases h : xs = ys
  · subst h
    rw [decide_eq_true rfl]
    refine List.all_eq_true.mpr fun i hi => ?_
    have hi := List.mem_range.mp hi
    rw [hf i xs[i] xs[i] (by simp [hi]) (by simp [hi])]
    exact decide_eq_true rfl
  · rw [decide_eq_false h]
    refine Bool.eq_false_iff.mpr fun z => h ?_
    refine List.ext_getElem hl fun i h1 h2 => ?_
    have := List.all_eq_true.mp z i (List.mem_range.mpr h1)
    rw [hf i xs[i] ys[i] (by simp [h1]) (by simp [h2])] at this
    exact of_decide_eq_true this
theorem tup_inj {xs ys : List Str} (h : xs.map V.str = ys.map V.str) : xs = ys := by
  have := congrArg (List.map unV) h
  rw [List.map_map, List.map_map] at this
  have e : ∀ l : List Str, l.map (unV ∘ V.str) = l := fun l => (List.map_congr_left fun _ _ => rfl).trans (List.map_id l)
  rwa [e, e] at this
theorem eqB_tupS : EqB X 1 DTupS := by
  rintro A pins s σ H x y e u v sb I rx ry ⟨xs, ys, ⟨a, rfl, ha⟩, ⟨b, rfl, hb⟩, rfl⟩
  cases rx
  cases ry
  by_cases hab : a = b
  · subst hab
    rw [ha] at hb
    have q : xs = ys := tup_inj (by injection hb with h; injection h)
    rw [decide_eq_true q]
    exact SeqAt.EqAt.same (A := A) (s := s) (.ref a) X.prog X.w X.xe _ ⟨rfl, H, I, Ext.rfl'⟩
  · obtain ⟨its, r, e1, z⟩ := I.tuple (SqT.of ha)
    obtain ⟨its2, r2, e2, z2⟩ := I.tuple (SqT.of hb)
    have l1 : its.length = xs.length := by rw [← r.length, List.length_map]
    have l2 : its2.length = ys.length := by rw [← r2.length, List.length_map]
    have at1 : ∀ j (h : j < its.toArray.size) (h' : j < xs.length), ∃ t, its.toArray[j] = .str xs[j] t := fun j h h' => by
      obtain ⟨u, hu, ru⟩ := r.get (i := j) (x := .str xs[j]) (by simp [h'])
      obtain ⟨t, rfl⟩ := (show ∃ t, u = Value.str xs[j] t from ru)
      refine ⟨t, ?_⟩
      have h2 : j < its.length := by simpa using h
      rw [List.getElem?_eq_getElem h2] at hu
      simpa using Option.some.inj hu
    have at2 : ∀ j (h : j < its2.toArray.size) (h' : j < ys.length), ∃ t, its2.toArray[j] = .str ys[j] t := fun j h h' => by
      obtain ⟨u, hu, ru⟩ := r2.get (i := j) (x := .str ys[j]) (by simp [h'])
      obtain ⟨t, rfl⟩ := (show ∃ t, u = Value.str ys[j] t from ru)
      refine ⟨t, ?_⟩
      have h2 : j < its2.length := by simpa using h
      rw [List.getElem?_eq_getElem h2] at hu
      simpa using Option.some.inj hu
    refine SeqAt.EqAt.of_refs hab (SeqAt.RcAt.tuples (e := fun j => decide (xs[j]? = ys[j]?)) e1 e2 sb.room.units0 fun j h1 h2 => ?_) X.prog X.w X.xe _ ⟨?_, H, I, Ext.rfl'⟩
    · have k1 : j < xs.length := by simpa [l1] using h1
      have k2 : j < ys.length := by simpa [l2] using h2
      obtain ⟨t1, q1⟩ := at1 j h1 k1
      obtain ⟨t2, q2⟩ := at2 j h2 k2
      rw [q1, q2]
      have q := SeqAt.EqAt.str_str (A := A.in1) (s := s) xs[j] t1 ys[j] t2
      rw [show (xs[j] == ys[j]) = decide (xs[j]? = ys[j]?) by rw [List.getElem?_eq_getElem k1, List.getElem?_eq_getElem k2, Bool.beq_eq_decide_eq]; exact decide_eq_decide.mpr ⟨fun z => congrArg _ z, fun z => Option.some.inj z⟩] at q
      exact q
    · rw [List.size_toArray, List.size_toArray, l1, l2]
      by_cases hl : xs.length = ys.length
      · rw [hl, Nat.min_self, show (ys.length == ys.length) = true from beq_self_eq_true _, Bool.and_true, ← hl]
        exact all_zip _ xs ys (fun i x y hx hy => by rw [hx, hy]; exact decide_eq_decide.mpr ⟨fun z => Option.some.inj z, fun z => congrArg _ z⟩) hl
      · rw [show (xs.length == ys.length) = false from beq_eq_false_iff_ne.mpr hl, Bool.and_false]
        exact (decide_eq_false fun z => hl (by rw [z])).symm
/-- instances of the class at C with an own ==: what its promise says -/
theorem eqB_ins {CX : CXT} {C f : Addr} {fd : FuncData} {ps : List Str} {sp : Sp} {E : XK} (m : Meth X.K C "__eq__" f) (F : FnOk X.prog X.w X.K X.mg X.base CX n f fd ps sp) (hb : L2.Binds X.K fd ps []) (hx : Passes CX X E)
    (hd : ∀ x y e H, D x y e H → ∃ a b dx dy fs gs, x = .ref a ∧ y = .ref b ∧ H a = some (.ins C dx fs) ∧ H b = some (.ins C dy gs) ∧ (a = b → e = true) ∧ ∀ Q : VK, (∀ H', Gr H H' → Q (.bl e) H') → sp [.ref a, .ref b] H Q E) : EqB X n D := by
  intro A pins s σ H x y e u v sb I rx ry d
  obtain ⟨a, b, dx, dy, fs, gs, rfl, rfl, ha, hb', same, hs⟩ := hd x y e H d
  cases rx
  cases ry
  by_cases hab : a = b
  · rw [same hab, hab]
    exact SeqAt.EqAt.same (A := A) (s := s) (.ref b) X.prog X.w X.xe _ ⟨rfl, H, I, Ext.rfl'⟩
  refine GQ.eqBool_refG hab ?_
  obtain ⟨mA, J, _⟩ := ins_get I.hok ha
  obtain ⟨mB, J', _⟩ := ins_get I.hok hb'
  obtain ⟨od, J, _⟩ := J.look
  obtain ⟨od', J', _⟩ := J'.look
  obtain ⟨m', hF⟩ := I.fr
  refine PySem.W.cmp_K (op := .Eq) (tb := .ref C) sb.room.units0 hF I.ok.mod.kin J J'.type (by simp [PySem.W.notFirst]) m.at_ m.fn ?_
  refine wpAny_mono (run_here F sb.room sb.fr hb hx I (show Vals [V.ref a, V.ref b] [Value.ref a, Value.ref b] from .cons rfl (.cons rfl .nil)) (hs (fun v H' => v = .bl e ∧ Gr H H') fun H' g => ⟨rfl, g⟩)) (fun v s' q => ?_) fun _ _ z => z
  obtain ⟨x, H', I', rv, rfl, g⟩ := q
  cases rv
  exact ⟨e, rfl, rfl, H', I', g⟩
end
/-- two ratios -/
def DRatS (R : Addr) : EqvB := fun x y e H => ∃ r t : Nat × Nat, RatS R H x r ∧ RatS R H y t ∧ e = decide (r = t)
theorem mon_ratS {R : Addr} : MonB (DRatS R) := fun x y e H H' g d => by
  obtain ⟨r, t, h1, h2, h3⟩ := d
  exact ⟨r, t, h1.up g, h2.up g, h3⟩
/-! ### dicts told by lists -/
section
variable {β : Type} [DecidableEq β]
theorem full_of {xs ys : List Str} (n1 : xs.Nodup) (sub : ∀ x ∈ xs, x ∈ ys) (hl : xs.length = ys.length) : ∀ y ∈ ys, y ∈ xs := fun y hy => by
  by_cases h : y ∈ xs
  · exact h
  · have := sub_len (List.nodup_cons.mpr ⟨h, n1⟩) (fun x hx => (List.mem_cons.mp hx).elim (fun e => by rw [e]; exact hy) (sub x))
    rw [List.length_cons] at this
    omega
/-- what == of the two dicts gives -/
theorem same_lists {ts us : List (Str × β)} (n1 : (names ts).Nodup) (n2 : (names us).Nodup) (s1 : names ts = srt (names ts)) (s2 : names us = srt (names us)) (hl : ts.length = us.length) (h : ∀ t ∈ ts, lk us t.1 = some t.2) : ts = us := by
  have sub : ∀ t ∈ ts, t ∈ us := fun t ht => by have := lk_mem (h t ht); exact this
  have subN : ∀ x ∈ names ts, x ∈ names us := fun x hx => by
    obtain ⟨t, ht, rfl⟩ := List.mem_map.mp hx
    exact List.mem_map_of_mem (sub t ht)
  have lN : (names ts).length = (names us).length := by unfold names; rw [List.length_map, List.length_map]; exact hl
  have p : (names ts).Perm (names us) := (List.perm_ext_iff_of_nodup n1 n2).mpr fun x => ⟨subN x, full_of n1 subN lN x⟩
  have en : names ts = names us := by rw [s1, s2]; exact srt_congr p
  refine List.ext_getElem hl fun i h1 h2 => ?_
  have e1 : ts[i].1 = us[i].1 := by
    have := congrArg (fun l => l[i]?) en
    simp only [names, List.getElem?_map, List.getElem?_eq_getElem h1, List.getElem?_eq_getElem h2, Option.map_some] at this
    exact Option.some.inj this
  have a := h _ (List.getElem_mem h1)
  have b := lk_at n2 (List.getElem_mem h2)
  rw [e1, b] at a
  exact Prod.ext e1 (Option.some.inj a).symm
end
/-- the values of a key, told by ts -/
def toldBy {β : Type} (ts : List (Str × β)) (k : Key) : Option β := match k with | .inr x => lk ts x | _ => none
def sameBy {β : Type} [DecidableEq β] (ts us : List (Str × β)) (p : Key × V) : Bool := match toldBy ts p.1, toldBy us p.1 with | some r, some t => decide (r = t) | _, _ => false
theorem sameBy_at {β : Type} [DecidableEq β] {ts us : List (Str × β)} {p : Key × V} {x : Str} {b : β} (e : p.1 = .inr x) (h : lk ts x = some b) : sameBy ts us p = decide (lk us x = some b) := by
  unfold sameBy
  rw [e, show toldBy ts (.inr x) = some b from h, show toldBy us (.inr x) = lk us x from rfl]
  cases lk us x with
  | none => rfl
  | some c => exact decide_eq_decide.mpr ⟨fun z => by rw [z], fun z => (Option.some.inj z).symm⟩
theorem eqB_dicts {β : Type} [DecidableEq β] {D : EqvB} {R : Hp → V → β → Prop} {H : Hp} {ka kb : List (Key × V)} {ts us : List (Str × β)} {a b : Addr} {Q : VK} (h1 : DRel R H ka ts) (h2 : DRel R H kb us) (n1 : (names ts).Nodup) (n2 : (names us).Nodup)
    (s1 : names ts = srt (names ts)) (s2 : names us = srt (names us)) (ha : H a = some (.dK ka)) (hb : H b = some (.dK kb))
    (hD : ∀ H' v w r t, (∀ c o, H c = some o → c ≠ a → c ≠ b → H' c = some o) → R H v r → R H w t → D v w (decide (r = t)) H')
    (q : ∀ H', Gr H H' → Q (.bl (decide (ts = us))) H') : rEqB D (.ref a) (.ref b) H Q := by
  refine ⟨a, b, ka, kb, sameBy ts us, rfl, rfl, ha, hb, fun H' f p hp => ?_, fun H' g => ?_⟩
  · obtain ⟨i, hi, ei⟩ := List.getElem_of_mem hp
    obtain ⟨t, ht, e1, r1⟩ := h1.at (i := i) (k := p) (by rw [← ei]; simp)
    have l1 := lk_at n1 (List.mem_of_getElem? ht)
    rw [sameBy_at e1 l1, e1]
    cases eu : lk us t.1 with
    | none => exact .inl ⟨h2.miss eu, rfl⟩
    | some c =>
      obtain ⟨w, hw, rw'⟩ := h2.get eu
      refine .inr ⟨w, hw, ?_⟩
      have := hD H' _ _ _ _ f r1 rw'
      rw [show decide (t.2 = c) = decide (some c = some t.2) from decide_eq_decide.mpr ⟨fun z => by rw [z], fun z => (Option.some.inj z).symm⟩] at this
      exact this
  · have e : (decide (ka.length = kb.length) && ka.all (sameBy ts us)) = decide (ts = us) := by
      rw [h1.1, h2.1]
      by_cases h : ts = us
      · rw [decide_eq_true h, decide_eq_true (show ts.length = us.length by rw [h]), Bool.true_and]
        refine List.all_eq_true.mpr fun p hp => ?_
        obtain ⟨i, hi, ei⟩ := List.getElem_of_mem hp
        obtain ⟨t, ht, e1, r1⟩ := h1.at (i := i) (k := p) (by rw [← ei]; simp)
        have l1 := lk_at n1 (List.mem_of_getElem? ht)
        rw [sameBy_at e1 l1, ← h, l1]
        exact decide_eq_true rfl
      · rw [decide_eq_false h]
        by_cases hl : ts.length = us.length
        · rw [decide_eq_true hl, Bool.true_and]
          refine Bool.eq_false_iff.mpr fun z => h (same_lists n1 n2 s1 s2 hl fun t ht => ?_)
          obtain ⟨i, hi, ei⟩ := List.getElem_of_mem ht
          have hk : i < ka.length := by rw [h1.1]; exact hi
          obtain ⟨e1, _⟩ := h1.2 i ka[i] t (by simp [hk]) (by rw [← ei]; simp)
          have z := List.all_eq_true.mp z ka[i] (List.getElem_mem hk)
          rw [sameBy_at e1 (lk_at n1 ht)] at z
          exact of_decide_eq_true z
        · rw [decide_eq_false hl, Bool.false_and]
    rw [e]
    exact q H' g
end U

/-! U37: lists of pairs by comprehension; renamings put together and turned round. -/
namespace U
open PySem PySem.Spec PyProof.Rows L2
/-- tuples and instances -/
def firm : HO → Bool
  | .tup _ => true
  | .ins _ _ _ => true
  | _ => false
/-- a relation that rests on tuples and instances alone -/
def Sta {β : Type} (R : Hp → V → β → Prop) : Prop := ∀ H H' v b, (∀ c u, H c = some u → firm u = true → H' c = some u) → R H v b → R H' v b
theorem sta_SV : Sta SV := fun _ _ _ _ _ r => r
theorem sta_TupS : Sta TupS := fun _ _ _ _ f ⟨a, e, k⟩ => ⟨a, e, f _ _ k rfl⟩
theorem sta_PQ : Sta PQ := fun _ _ _ _ f ⟨a, e, k⟩ => ⟨a, e, f _ _ k rfl⟩
theorem sta_RatS {C : Addr} : Sta (RatS C) := fun _ _ _ _ f ⟨a, dx, e, k⟩ => ⟨a, dx, e, f _ _ k rfl⟩
theorem Sta.up {β : Type} {R : Hp → V → β → Prop} (s : Sta R) {H H' : Hp} {v : V} {b : β} (r : R H v b) (g : Gr H H') : R H' v b := s _ _ _ _ (fun c u e _ => g c u e) r
theorem Sta.off {β : Type} {R : Hp → V → β → Prop} (s : Sta R) {H : Hp} {D : Addr} {p : HO} {o : HO} {v : V} {b : β} (r : R H v b) (h : H D = some p) (n : firm p = false) : R (upd H D o) v b :=
  s _ _ _ _ (fun c u e f => by rw [upd_ne fun z => by rw [z, h] at e; cases e; rw [n] at f; cases f]; exact e) r
section
variable {J : It} {n : Nat} {G : Hp → Prop} {Y : Nat → Hp → V → Hp → Prop} {β : Type}
/-- [(text, value) for …]: a list of pairs, told by rs -/
theorem lc_prs (wk : Walk J n G Y) {g : TG} {tt : TT} {te : TE} {vs : List Nat} {σ : L2.St} {H1 : Hp} {D : Addr} {Qd : Hp → Prop} {R : Hp → V → β → Prop} (st : Sta R) (rs : List (Str × β)) (hD : H1 D = none) (hn : rs.length = n) (few : n ≤ 1000) (hG : ∀ H, Gr H1 H → G H)
    (hs : ∀ i x Hm H' t (Q : VK) (E3 : Hp → Prop), i < n → Gr H1 Hm → Y i Hm x H' → rs[i]? = some t → (∀ H4 a v, Gr Hm H4 → H4 a = some (.tup [.str t.1, v]) → R H4 v t.2 → Q (.ref a) H4) →
      g x (wipe σ vs) H' fun σ2 H2 => wipe σ2 vs = wipe σ vs ∧ tt σ2 H2 fun b H3 => if b = true then te σ2 H3 Q else E3 H3)
    (hd : ∀ (Hm : Hp) (ps : List Addr) (kvs : List (Key × V)), Gr H1 Hm → Hm D = some (.lst (ps.map V.ref)) → PySem.Paired (fun p kv => Hm p = some (.tup [kV kv.1, kv.2])) ps kvs → DRel R Hm kvs rs → Qd Hm) :
    ∃ W : Nat → Nat → Hp → Prop, (∃ m, W 0 m (upd H1 D (.lst []))) ∧ ∀ i m H, W i m H →
      (J.stop i H ∧ Qd H) ∨ (J.go i H ∧ ∃ Nx : Hp → Prop, (∀ H', Nx H' → ∃ m', m' < m ∧ W (i + 1) m' H') ∧ ∀ x H', J.yld i H x H' → g x (wipe σ vs) H' fun σ2 H2 => wipe σ2 vs = wipe σ vs ∧ tt σ2 H2 fun b H3 =>
        if b = true then te σ2 H3 fun y H4 => ∃ acc, H4 D = some (.lst acc) ∧ acc.length < sizeLine ∧ Nx (upd H4 D (.lst (acc ++ [y]))) else Nx H3) := by
  refine lc_it wk (fun i Hm => Gr H1 Hm ∧ ∃ (ps : List Addr) (kvs : List (Key × V)), Hm D = some (.lst (ps.map V.ref)) ∧ PySem.Paired (fun p kv => Hm p = some (.tup [kV kv.1, kv.2])) ps kvs ∧ DRel R Hm kvs (rs.take i))
    ⟨Gr.rfl'.up hD, [], [], upd_same, .nil, by rw [List.take_zero]; exact .nil⟩ (fun i H _ p => hG H p.1) ?_ ?_
  · rintro i x Hm H' hi ⟨gm, ps, kvs, eD, pp, dd⟩ y
    have hi2 : i < rs.length := by omega
    have ht : rs[i]? = some rs[i] := by simp [hi2]
    have lp : ps.length ≤ i := by rw [pp.length, dd.1, List.length_take]; exact Nat.min_le_left _ _
    refine hs i x Hm H' rs[i] _ _ hi gm y ht fun H4 a v g4 e4 r4 => ?_
    have eD4 := g4 _ _ eD
    refine ⟨_, eD4, small_lt (by rw [List.length_map]; omega), Gr.app hD (gm.trans g4), ps ++ [a], kvs ++ [(.inr rs[i].1, v)], by rw [upd_same, List.map_append]; rfl, ?_, ?_⟩
    · refine PySem.Paired.snoc (pp.mono fun p kv e => ?_) ?_
      · rw [upd_ne fun z => by rw [z, eD] at e; cases e]
        exact g4 _ _ e
      · rw [upd_ne fun z => by rw [z, eD4] at e4; cases e4]
        exact e4
    · rw [List.take_add_one, ht]
      exact (dd.mono fun v b r => st.off (st.up r g4) eD4 rfl).snoc (st.off r4 eD4 rfl)
  · rintro Hm ⟨gm, ps, kvs, eD, pp, dd⟩
    rw [List.take_of_length_le (by omega)] at dd
    exact hd Hm ps kvs gm eD pp dd
/-- the same over a dict that is locked meanwhile -/
theorem lc_prsK (wk : Walk J n G Y) {g : TG} {tt : TT} {te : TE} {vs : List Nat} {σ : L2.St} {H0 : Hp} {d D : Addr} {od : Obj} {kt : List (Key × V)} {Qd : Hp → Prop} {R : Hp → V → β → Prop} (st : Sta R) (rs : List (Str × β)) (h0 : H0 d = some (.dK kt)) (hD : (upd H0 d (.frz od (.dK kt))) D = none) (hn : rs.length = n) (few : n ≤ 1000)
    (hG : ∀ H, Gr (upd H0 d (.frz od (.dK kt))) H → G H)
    (hs : ∀ i x Hm H' t (Q : VK) (E3 : Hp → Prop), i < n → Gr (upd H0 d (.frz od (.dK kt))) Hm → Y i Hm x H' → rs[i]? = some t → (∀ H4 a v, Gr Hm H4 → H4 a = some (.tup [.str t.1, v]) → R H4 v t.2 → Q (.ref a) H4) →
      g x (wipe σ vs) H' fun σ2 H2 => wipe σ2 vs = wipe σ vs ∧ tt σ2 H2 fun b H3 => if b = true then te σ2 H3 Q else E3 H3)
    (hd : ∀ (H5 : Hp) (ps : List Addr) (kvs : List (Key × V)), Gr H0 H5 → H0 D = none → H5 D = some (.lst (ps.map V.ref)) → PySem.Paired (fun p kv => H5 p = some (.tup [kV kv.1, kv.2])) ps kvs → DRel R H5 kvs rs → Qd H5) :
    ∃ W : Nat → Nat → Hp → Prop, (∃ m, W 0 m (upd (upd H0 d (.frz od (.dK kt))) D (.lst []))) ∧ ∀ i m H, W i m H →
      (J.stop i H ∧ H d = some (.frz od (.dK kt)) ∧ Qd (upd H d (.dK kt))) ∨ (J.go i H ∧ ∃ Nx : Hp → Prop, (∀ H', Nx H' → ∃ m', m' < m ∧ W (i + 1) m' H') ∧ ∀ x H', J.yld i H x H' → g x (wipe σ vs) H' fun σ2 H2 => wipe σ2 vs = wipe σ vs ∧ tt σ2 H2 fun b H3 =>
        if b = true then te σ2 H3 fun y H4 => ∃ acc, H4 D = some (.lst acc) ∧ acc.length < sizeLine ∧ Nx (upd H4 D (.lst (acc ++ [y]))) else Nx H3) := by
  refine lc_prs wk st rs hD hn few hG hs fun Hm ps kvs gm eD pp dd => ?_
  have ed : Hm d = some (.frz od (.dK kt)) := gm _ _ upd_same
  have nDd : D ≠ d := fun z => by rw [z, upd_same] at hD; cases hD
  refine ⟨ed, hd _ ps kvs (Gr.unlock h0 gm) (by rw [upd_ne nDd] at hD; exact hD) (by rw [upd_ne nDd]; exact eD) (pp.mono fun p kv e => by rw [upd_ne fun z => by rw [z, ed] at e; cases e]; exact e) (dd.mono fun v b r => st.off r ed rfl)⟩
end
/-! ### renamings -/
/-- all names as they are -/
def idR (xs : List Str) : List (Str × Str) := xs.map fun x => (x, x)
def invR (rs : List (Str × Str)) : List (Str × Str) := rs.map fun r => (r.2, r.1)
theorem idR_names (xs : List Str) : names (idR xs) = xs := by unfold names idR; rw [List.map_map]; exact (List.map_congr_left fun _ _ => rfl).trans (List.map_id xs)
theorem idR_im {xs : List Str} {x : Str} (hx : x ∈ xs) (nd : xs.Nodup) : im (idR xs) x = x := by
  have m : (x, x) ∈ idR xs := List.mem_map_of_mem (f := fun x => (x, x)) hx
  have e := lk_at (by rw [idR_names]; exact nd) m
  unfold im
  rw [e]
  rfl
theorem idR_ok {xs : List Str} (nd : xs.Nodup) (nm : ∀ x ∈ xs, Nm x) : OKR (idR xs) xs := by
  refine ⟨by rw [idR_names], by rw [idR_names]; exact nd, ?_, fun r hr => ?_⟩
  · unfold idR
    rw [List.map_map]
    rw [show (xs.map (Prod.snd ∘ fun x => (x, x))) = xs from (List.map_congr_left fun _ _ => rfl).trans (List.map_id xs)]
    exact nd
  · obtain ⟨x, hx, rfl⟩ := List.mem_map.mp hr
    exact nm x hx
theorem im_at {rs : List (Str × Str)} (nd : (names rs).Nodup) {r : Str × Str} (h : r ∈ rs) : im rs r.1 = r.2 := by
  unfold im
  rw [lk_at nd h]
  rfl
theorem map_im {rs : List (Str × Str)} (nd : (names rs).Nodup) : (names rs).map (im rs) = rs.map Prod.snd := by
  unfold names
  rw [List.map_map]
  exact List.map_congr_left fun r hr => im_at nd hr
theorem okr_then {ra rb : List (Str × Str)} {xs ys : List Str} (h : OKR ra xs) (k : OKR rb ys) (p : (xs.map (im ra)).Perm ys) : OKR (thenR ra rb) xs := by
  have e2 : (thenR ra rb).map Prod.snd = (ra.map Prod.snd).map (im rb) := by unfold thenR; rw [List.map_map, List.map_map]; rfl
  have pr : (ra.map Prod.snd).Perm ys := by
    rw [← map_im h.nd]
    exact (h.perm.map _).trans p
  refine ⟨by rw [thenR_names]; exact h.perm, by rw [thenR_names]; exact h.nd, by rw [e2]; exact k.sub (fun y hy => pr.mem_iff.mp hy) h.inj, fun r hr => ?_⟩
  obtain ⟨q, hq, rfl⟩ := List.mem_map.mp hr
  exact (k.im (pr.mem_iff.mp (List.mem_map_of_mem hq))).2
theorem invR_names (rs : List (Str × Str)) : names (invR rs) = rs.map Prod.snd := by unfold names invR; rw [List.map_map]; rfl
theorem okr_inv {rs : List (Str × Str)} {xs ys : List Str} (h : OKR rs xs) (nm : ∀ x ∈ xs, Nm x) (p : (xs.map (im rs)).Perm ys) : OKR (invR rs) ys := by
  refine ⟨?_, by rw [invR_names]; exact h.inj, ?_, fun r hr => ?_⟩
  · rw [invR_names, ← map_im h.nd]
    exact (h.perm.map _).trans p
  · unfold invR
    rw [List.map_map]
    exact h.nd
  · obtain ⟨q, hq, rfl⟩ := List.mem_map.mp hr
    exact nm _ (h.perm.mem_iff.mp (List.mem_map_of_mem hq))
theorem okr_back {rs : List (Str × Str)} {xs : List Str} (h : OKR rs xs) {x : Str} (hx : x ∈ xs) : im (invR rs) (im rs x) = x := by
  have m := (h.im hx).1
  have m2 : (im rs x, x) ∈ invR rs := List.mem_map.mpr ⟨(x, im rs x), m, rfl⟩
  exact im_at (by rw [invR_names]; exact h.inj) m2
theorem imG_back {rs : List (Str × Str)} {xs gs : List Str} (h : OKR rs xs) (sub : ∀ z ∈ gs, z ∈ xs) (up : Up gs) : imG (invR rs) (imG rs gs) = gs := by
  unfold imG
  have e : srt ((srt (gs.map (im rs))).map (im (invR rs))) = srt ((gs.map (im rs)).map (im (invR rs))) := srt_congr ((srt_perm _).map _)
  rw [e, List.map_map]
  have e2 : gs.map (im (invR rs) ∘ im rs) = gs := (List.map_congr_left fun z hz => okr_back h (sub z hz)).trans (List.map_id gs)
  rw [e2]
  exact up.srt
theorem imT_back {r1 r2 : List (Str × Str)} {ts : List (Str × List Str)} (h1 : OKR r1 (names ts)) (h2 : OKR r2 (colsOf ts)) (ok : OKT ts) : imT (invR r1) (invR r2) (imT r1 r2 ts) = ts := by
  unfold imT
  rw [List.map_map]
  refine (List.map_congr_left fun t ht => ?_).trans (List.map_id ts)
  show (im (invR r1) (im r1 t.1), srt ((srt (t.2.map (im r2))).map (im (invR r2)))) = t
  rw [okr_back h1 (List.mem_map_of_mem ht)]
  exact Prod.ext rfl (imG_back (gs := t.2) h2 (fun z hz => cols_mem.mpr ⟨t, ht, hz⟩) (ok.cols t ht).2.1)
theorem imZ_back {r1 : List (Str × Str)} {ns : List Str} {zs : List (Str × (Nat × Nat))} (h1 : OKR r1 ns) (sub : ∀ z ∈ zs, z.1 ∈ ns) : imZ (invR r1) (imZ r1 zs) = zs := by
  unfold imZ
  rw [List.map_map]
  refine (List.map_congr_left fun z hz => ?_).trans (List.map_id zs)
  show (im (invR r1) (im r1 z.1), z.2) = z
  rw [okr_back h1 (sub z hz)]
theorem imG_id {xs gs : List Str} (nd : xs.Nodup) (sub : ∀ z ∈ gs, z ∈ xs) (up : Up gs) : imG (idR xs) gs = gs := by
  unfold imG
  rw [(List.map_congr_left fun z hz => idR_im (sub z hz) nd).trans (List.map_id gs)]
  exact up.srt
theorem imT_id {xs ys : List Str} {ts : List (Str × List Str)} (nx : xs.Nodup) (ny : ys.Nodup) (sx : ∀ z ∈ names ts, z ∈ xs) (sy : ∀ z ∈ colsOf ts, z ∈ ys) (ok : OKT ts) : imT (idR xs) (idR ys) ts = ts := by
  unfold imT
  refine (List.map_congr_left fun t ht => ?_).trans (List.map_id ts)
  show (im (idR xs) t.1, srt (t.2.map (im (idR ys)))) = t
  rw [idR_im (sx _ (List.mem_map_of_mem ht)) nx]
  exact Prod.ext rfl (imG_id (gs := t.2) ny (fun z hz => sy z (cols_mem.mpr ⟨t, ht, hz⟩)) (ok.cols t ht).2.1)
theorem imZ_id {xs : List Str} {zs : List (Str × (Nat × Nat))} (nx : xs.Nodup) (sx : ∀ z ∈ zs, z.1 ∈ xs) : imZ (idR xs) zs = zs := by
  unfold imZ
  refine (List.map_congr_left fun z hz => ?_).trans (List.map_id zs)
  show (im (idR xs) z.1, z.2) = z
  rw [idR_im (sx _ hz) nx]
end U

/-! U38: one question the image of another. -/
namespace U
open PySem PySem.Spec PyProof.Rows L2
/-- what a question is told by -/
structure QQ (A : List (Str × List Str)) (g : List Str) (Z : List (Str × (Nat × Nat))) : Prop where
  s : names A = srt (names A)
  nz : names Z = names A
  t : OKT A
  g : OKG A g
  z : OKZ (names A) Z
theorem QO.qq {C R : Addr} {H : Hp} {a : Addr} {A : List (Str × List Str)} {g : List Str} {Z : List (Str × (Nat × Nat))} (h : QO C R H a A g Z) : QQ A g Z := by
  obtain ⟨_, _, _, _, _, _, _, _, _, _, _, _, _, _, _, _, s, nz, t, og, oz⟩ := h
  exact ⟨s, nz, t, og, oz⟩
theorem list_self {β : Type} {d : β} {ts : List (Str × β)} (nd : (names ts).Nodup) : byName (names ts) d ts = ts := by
  unfold byName names
  rw [List.map_map]
  refine (List.map_congr_left fun t ht => ?_).trans (List.map_id ts)
  show (t.1, (lk ts t.1).getD d) = t
  rw [lk_at nd ht]
  rfl
theorem srtT_self {ts : List (Str × List Str)} (nd : (names ts).Nodup) (s : names ts = srt (names ts)) : srtT ts = ts := by
  unfold srtT
  rw [← s]
  exact list_self nd
theorem srtZ_self {ns : List Str} {zs : List (Str × (Nat × Nat))} (nd : (names zs).Nodup) (s : srt ns = names zs) : srtZ ns zs = zs := by
  unfold srtZ
  rw [s]
  exact list_self nd
theorem cols_perm {ts us : List (Str × List Str)} (p : ts.Perm us) : colsOf ts = colsOf us := up_ext (dist_up _) (dist_up _) fun z => by
  rw [cols_mem, cols_mem]
  exact ⟨fun ⟨t, h, k⟩ => ⟨t, p.mem_iff.mp h, k⟩, fun ⟨t, h, k⟩ => ⟨t, p.mem_iff.mpr h, k⟩⟩
theorem OKR.perm' {rs : List (Str × Str)} {xs ys : List Str} (h : OKR rs xs) (p : xs.Perm ys) : OKR rs ys := ⟨h.perm.trans p, h.nd, h.inj, h.nm⟩
theorem srtT_names (ts : List (Str × List Str)) : names (srtT ts) = srt (names ts) := byName_names _ _ _
theorem srtZ_names (ns : List Str) (zs : List (Str × (Nat × Nat))) : names (srtZ ns zs) = srt ns := byName_names _ _ _
theorem QQ.ndz {A : List (Str × List Str)} {g : List Str} {Z : List (Str × (Nat × Nat))} (q : QQ A g Z) : (names Z).Nodup := by rw [q.nz]; exact q.t.nd
/-- (B, h, Y) is the image of (A, g, Z) -/
structure Img (r1 r2 : List (Str × Str)) (A : List (Str × List Str)) (g : List Str) (Z : List (Str × (Nat × Nat))) (B : List (Str × List Str)) (h : List Str) (Y : List (Str × (Nat × Nat))) : Prop where
  o1 : OKR r1 (names A)
  o2 : OKR r2 (colsOf A)
  t : B = srtT (imT r1 r2 A)
  g : h = imG r2 g
  z : Y = srtZ (names (imT r1 r2 A)) (imZ r1 Z)
section
variable {r1 r2 ra rb : List (Str × Str)} {A B D : List (Str × List Str)} {g h k : List Str} {Z Y X : List (Str × (Nat × Nat))}
theorem imT_nd (o1 : OKR r1 (names A)) : (names (imT r1 r2 A)).Nodup := by
  rw [imT_names]
  exact o1.sub (fun _ h => h) (o1.perm.nodup_iff.mp o1.nd)
theorem Img.permT (i : Img r1 r2 A g Z B h Y) : B.Perm (imT r1 r2 A) := by rw [i.t]; exact srtT_perm (imT_nd i.o1)
theorem imZ_nd (q : QQ A g Z) (o1 : OKR r1 (names A)) : (names (imZ r1 Z)).Nodup := by
  rw [imZ_names, q.nz]
  exact o1.sub (fun _ h => h) q.t.nd
theorem imZT_names (q : QQ A g Z) : names (imZ r1 Z) = names (imT r1 r2 A) := by rw [imZ_names, imT_names, q.nz]
theorem Img.permZ (q : QQ A g Z) (i : Img r1 r2 A g Z B h Y) : Y.Perm (imZ r1 Z) := by
  rw [i.z]
  exact byName_perm (imZ_nd q i.o1) (by rw [imZT_names (r2 := r2) q]; exact srt_perm _)
theorem Img.qq (q : QQ A g Z) (i : Img r1 r2 A g Z B h Y) : QQ B h Y := by
  have okI := q.t.im (r1 := r1) (r2 := r2) i.o1 i.o2
  have nB : names B = srt (names (imT r1 r2 A)) := by rw [i.t, srtT_names]
  have nY : names Y = srt (names (imT r1 r2 A)) := by rw [i.z, srtZ_names]
  refine ⟨by rw [nB, srt_idem], by rw [nY, nB], okI.perm i.permT, ?_, ?_⟩
  · have og := q.g.im (r1 := r1) (r2 := r2) i.o2
    rw [i.g]
    exact ⟨og.up, og.nm, fun z hz => by rw [cols_perm i.permT]; exact og.has z hz, og.few⟩
  · have oz := q.z.im (r1 := r1) (r2 := r2)
    have p := i.permZ q
    exact ⟨by rw [p.length_eq]; exact oz.few, fun z hz => by rw [nB]; exact (srt_perm _).mem_iff.mpr (oz.has z (p.mem_iff.mp hz)), fun z hz => oz.let_ z (p.mem_iff.mp hz)⟩
theorem Img.names (i : Img r1 r2 A g Z B h Y) : ((U.names A).map (im r1)).Perm (U.names B) := by
  rw [← imT_names (r2 := r2)]
  exact (i.permT.map Prod.fst).symm
theorem Img.cols (i : Img r1 r2 A g Z B h Y) : ((colsOf A).map (im r2)).Perm (colsOf B) := by
  rw [cols_perm i.permT, imT_cols i.o2]
  exact (srt_perm _).symm
theorem Img.then' (q : QQ A g Z) (i : Img r1 r2 A g Z B h Y) (j : Img ra rb B h Y D k X) : Img (thenR r1 ra) (thenR r2 rb) A g Z D k X := by
  have o1 := okr_then i.o1 j.o1 i.names
  have o2 := okr_then i.o2 j.o2 i.cols
  have eT := imT_then (a1 := r1) (b1 := ra) (a2 := r2) (b2 := rb) i.o1 i.o2
  refine ⟨o1, o2, ?_, ?_, ?_⟩
  · rw [j.t, eT]
    exact srtT_congr (imT_nd j.o1) (imT_perm i.permT)
  · rw [j.g, i.g, imG_then i.o2 q.g.has]
  · rw [j.z, eT, imZ_then i.o1 q.z.has]
    exact srtZ_congr (imZ_nd (i.qq q) j.o1) ((imT_perm i.permT).map Prod.fst) (imZ_perm (i.permZ q))
theorem Img.inv (q : QQ A g Z) (i : Img r1 r2 A g Z B h Y) : Img (invR r1) (invR r2) B h Y A g Z := by
  have o1 : OKR (invR r1) (U.names B) := okr_inv i.o1 (fun x hx => names_nm q.t x hx) i.names
  have o2 : OKR (invR r2) (colsOf B) := okr_inv i.o2 (fun x hx => by
    obtain ⟨t, ht, hz⟩ := cols_mem.mp hx
    exact (q.t.cols t ht).2.2 x hz) i.cols
  have pT : (imT (invR r1) (invR r2) B).Perm A := by
    have := imT_perm (r1 := invR r1) (r2 := invR r2) i.permT
    rwa [imT_back i.o1 i.o2 q.t] at this
  refine ⟨o1, o2, ?_, ?_, ?_⟩
  · rw [srtT_congr (imT_nd o1) pT, srtT_self q.t.nd q.s]
  · rw [i.g, imG_back i.o2 q.g.has q.g.up]
  · have pZ := imZ_perm (r1 := invR r1) (i.permZ q)
    rw [imZ_back i.o1 q.z.has] at pZ
    have e : srtZ (U.names (imT (invR r1) (invR r2) B)) (imZ (invR r1) Y) = srtZ (U.names A) Z := srtZ_congr (imZ_nd (i.qq q) o1) (pT.map Prod.fst) pZ
    rw [e]
    exact (srtZ_self q.ndz (by rw [q.nz]; exact q.s.symm)).symm
theorem Img.id (q : QQ A g Z) : Img (idR (U.names A)) (idR (colsOf A)) A g Z A g Z := by
  have o2 : OKR (idR (colsOf A)) (colsOf A) := idR_ok (dist_up _).nodup fun x hx => by
    obtain ⟨t, ht, hz⟩ := cols_mem.mp hx
    exact (q.t.cols t ht).2.2 x hz
  have eT := imT_id q.t.nd (dist_up (fl A)).nodup (fun _ h => h) (fun _ h => h) q.t
  refine ⟨idR_ok q.t.nd fun x hx => names_nm q.t x hx, o2, ?_, ?_, ?_⟩
  · show A = srtT (imT (idR (U.names A)) (idR (dist (fl A))) A)
    rw [eT, srtT_self q.t.nd q.s]
  · exact (imG_id (dist_up (fl A)).nodup q.g.has q.g.up).symm
  · show Z = srtZ (U.names (imT (idR (U.names A)) (idR (dist (fl A))) A)) (imZ (idR (U.names A)) Z)
    rw [eT, imZ_id q.t.nd q.z.has]
    exact (srtZ_self q.ndz (by rw [q.nz]; exact q.s.symm)).symm
/-- a plain question behind a renaming -/
theorem OKP.im (o : OKP A g Z) (o1 : OKR r1 (U.names A)) (o2 : OKR r2 (colsOf A)) : OKP (imT r1 r2 A) (imG r2 g) (imZ r1 Z) := by
  refine ⟨o.t.im o1 o2, o.g.im o2, o.z.im, by rw [imZ_names, imT_names, o.nz], fun z hz => ?_⟩
  obtain ⟨y, hy, rfl⟩ := List.mem_map.mp hz
  exact o.low y hy
theorem plain_im (o : OKP A g Z) (o1 : OKR r1 (U.names (srtT A))) (o2 : OKR r2 (colsOf (srtT A))) :
    srtT (imT r1 r2 A) = srtT (imT r1 r2 (srtT A)) ∧ srtZ (U.names (imT r1 r2 A)) (imZ r1 Z) = srtZ (U.names (imT r1 r2 (srtT A))) (imZ r1 (srtZ (U.names A) Z)) := by
  have p := srtT_perm o.t.nd
  have n1 : (U.names (imT r1 r2 (srtT A))).Nodup := imT_nd o1
  have pz : (srtZ (U.names A) Z).Perm Z := byName_perm (by rw [o.nz]; exact o.t.nd) (by rw [o.nz]; exact srt_perm _)
  have nzz : (U.names (imZ r1 (srtZ (U.names A) Z))).Nodup := by
    rw [imZ_names, srtZ_names]
    exact o1.sub (fun x hx => by rw [srtT_names]; exact hx) (srt_nodup o.t.nd)
  exact ⟨(srtT_congr n1 (imT_perm p)).symm, (srtZ_congr nzz ((imT_perm p).map Prod.fst) (imZ_perm pz)).symm⟩
end
/-- the fields of a question are different objects, and none is new -/
theorem QO.sep {C R : Addr} {H H2 : Hp} {a d1 d2 x : Addr} {A : List (Str × List Str)} {g : List Str} {Z : List (Str × (Nat × Nat))} (q : QO C R H a A g Z) (f : Gx x H H2) (na : a ≠ x) (h1 : H d1 = none) (h2 : H d2 = none) :
    ∀ d e c g l : Addr, ∀ dx, H2 a = some (.ins C dx (qf (.ref d) (.ref g) (.ref e) (.ref c) (.ref l))) → d1 ≠ d ∧ d2 ≠ d ∧ e ≠ d ∧ d1 ≠ e ∧ d2 ≠ e := by
  intro d e c g l dx he
  obtain ⟨dx', d', g', e', c', l', kvs, kz, ha, hd, hk, hg, hee, hz, _, _, _, _, t, _, _⟩ := q
  rw [f _ _ ha na] at he
  unfold qf at he
  cases he
  refine ⟨fun z => ?_, fun z => ?_, fun z => ?_, fun z => ?_, fun z => ?_⟩
  · rw [z, hd] at h1; cases h1
  · rw [z, hd] at h2; cases h2
  · rw [z, hd] at hee
    cases hee
    have lp := t.few.1
    have hk0 := hk.1
    have i0 : 0 < kvs.length := by omega
    obtain ⟨_, _, _, p1, e1, f1⟩ := hk.at (i := 0) (k := kvs[0]) (by simp [i0])
    obtain ⟨_, _, _, p2, dy, e2, f2⟩ := hz.at (i := 0) (k := kvs[0]) (by simp [i0])
    rw [e1] at e2
    cases e2
    rw [f1] at f2
    cases f2
  · rw [z, hee] at h1; cases h1
  · rw [z, hee] at h2; cases h2
/-! ### lists and tuples of texts, compared -/
theorem eqv_all : ∀ l m : List Str, PyData.eqvAll (txs l) (txs m) = decide (l = m)
  | [], [] => by unfold txs; rw [decide_eq_true rfl]; rfl
  | [], y :: m => by rw [decide_eq_false (by simp)]; rfl
  | x :: l, [] => by rw [decide_eq_false (by simp)]; rfl
  | x :: l, y :: m => by
    show ((x == y) && PyData.eqvAll (txs l) (txs m)) = _
    rw [eqv_all l m, Bool.beq_eq_decide_eq, ← Bool.decide_and]
    exact decide_eq_decide.mpr ⟨fun z => by rw [z.1, z.2], fun z => by injection z with a b; exact ⟨a, b⟩⟩
theorem shaped_tup {l : List Str} (h : ∀ z ∈ l, Asc z) : SeqAt.shaped (.tuple (txs l)) = true := by
  obtain ⟨a, b⟩ := lay_txs l h
  show (PyData.canLayAll0 (txs l) && decide (PyData.depthAll (txs l) + 1 ≤ 64)) = true
  rw [a, decide_eq_true (by omega)]
  rfl
theorem eqv_tups (l m : List Str) : PyData.eqv (.tuple (txs l)) (.tuple (txs m)) = decide (l = m) := eqv_all l m
theorem eqv_lsts (l m : List Str) : PyData.eqv (.list (txs l)) (.list (txs m)) = decide (l = m) := eqv_all l m
/-! ### a plain question stands -/
theorem PlainQ.up {H H' : Hp} {P : Addr} {ts : List (Str × List Str)} {gs : List Str} {zs : List (Str × (Nat × Nat))} (h : PlainQ H P ts gs zs) (g : Gr H H') : PlainQ H' P ts gs zs := by
  obtain ⟨D, G, S, kt, kz, kp, hP, hk, hD, hkt, hG, hS, hkz, ne⟩ := h
  exact ⟨D, G, S, kt, kz, kp, g _ _ hP, hk, g _ _ hD, hkt.mono fun v b r => LstS.up r g, g _ _ hG, g _ _ hS, hkz.mono fun v b r => PQ.up r g, ne⟩
theorem PlainQ.keep {n : Nat} {o : HO} {x : Addr} {H H' : Hp} {P : Addr} {ts : List (Str × List Str)} {gs : List Str} {zs : List (Str × (Nat × Nat))} (h : PlainQ H P ts gs zs) (hx : H x = some o) (D0 : Dice n o) (f : Gx x H H') : PlainQ H' P ts gs zs := by
  obtain ⟨D, G, S, kt, kz, kp, hP, hk, hD, hkt, hG, hS, hkz, ne⟩ := h
  have nd : ∀ b kv, H b = some (.dK kv) → H' b = some (.dK kv) := fun b kv e => f b _ e fun z => by
    obtain ⟨i, j, k, rfl, _⟩ := D0
    rw [z, hx] at e
    cases e
  exact ⟨D, G, S, kt, kz, kp, nd _ _ hP, hk, nd _ _ hD, hkt.mono fun v b r => LstS.keep r hx D0 f, f _ _ hG fun z => by rw [z, hx] at hG; exact strs_no_dice D0 gs (Option.some.inj hG), nd _ _ hS, hkz.mono fun v b r => PQ.keep r hx D0 f, ne⟩
/-! ### a question's lines are of plain signs -/
theorem joinL_mem {S : List Nat} {c : Nat} : ∀ (ls : List (List Nat)), c ∈ TL.joinL S ls → c ∈ S ∨ ∃ l ∈ ls, c ∈ l
  | [], h => by cases h
  | [l], h => .inr ⟨l, List.mem_singleton.mpr rfl, h⟩
  | l :: m :: r, h => by
    have h : c ∈ l ++ (S ++ TL.joinL S (m :: r)) := h
    rw [← List.append_assoc] at h
    rcases List.mem_append.mp h with h | h
    · rcases List.mem_append.mp h with h | h
      · exact .inr ⟨l, List.mem_cons_self, h⟩
      · exact .inl h
    · rcases joinL_mem (m :: r) h with h | ⟨x, hx, h⟩
      · exact .inl h
      · exact .inr ⟨x, List.mem_cons_of_mem _ hx, h⟩
theorem asc_join {s : Str} {xs : List Str} (hs : Asc s) (h : ∀ z ∈ xs, Asc z) : Asc (Txt.join s xs) := fun c hc => by
  rw [TL.join_eq] at hc
  have hc : c ∈ TL.tl (Str.join s xs) := hc
  rw [TL.tl_join] at hc
  rcases joinL_mem _ hc with h1 | ⟨l, hl, h1⟩
  · exact hs c h1
  · obtain ⟨z, hz, rfl⟩ := List.mem_map.mp hl
    exact h z hz c h1
def ascB (x : Str) : Bool := x.cps.toList.all fun c => decide (c < 128)
theorem ascB_asc {x : Str} (h : ascB x = true) : Asc x := fun c hc => of_decide_eq_true (List.all_eq_true.mp h c hc)
theorem asc_lines {A : List (Str × List Str)} {g : List Str} {Z : List (Str × (Nat × Nat))} (t : OKT A) (og : OKG A g) (oz : OKZ (names A) Z) : ∀ z ∈ qLines A g Z, Asc z := fun z hz => by
  unfold qLines at hz
  rcases List.mem_append.mp hz with hz | hz
  · rcases List.mem_append.mp hz with hz | hz
    · obtain ⟨u, hu, rfl⟩ := List.mem_map.mp hz
      refine asc_join (ascB_asc (by decide +kernel)) fun y hy => ?_
      rcases List.mem_cons.mp hy with rfl | hy
      · exact ascB_asc (by decide +kernel)
      rcases List.mem_cons.mp hy with rfl | hy
      · exact (t.nm u hu).asc
      · exact ((t.cols u hu).2.2 y hy).asc
    · obtain ⟨u, hu, rfl⟩ := List.mem_map.mp hz
      have hu := (List.mem_filter.mp hu).1
      obtain ⟨w, hw, e⟩ := List.mem_map.mp (oz.has u hu)
      have n1 : Asc u.1 := by rw [← e]; exact (t.nm w hw).asc
      exact Asc.app (Asc.app (Asc.app (Asc.app (ascB_asc (by decide +kernel)) (ascB_asc (by decide +kernel))) n1) (ascB_asc (by decide +kernel))) (asc_rtext _ _)
  · split at hz
    · cases hz
    · obtain rfl := List.mem_singleton.mp hz
      refine asc_join (ascB_asc (by decide +kernel)) fun y hy => ?_
      rcases List.mem_cons.mp hy with rfl | hy
      · exact ascB_asc (by decide +kernel)
      · exact (og.nm y hy).asc
theorem QQ.asc {A : List (Str × List Str)} {g : List Str} {Z : List (Str × (Nat × Nat))} (q : QQ A g Z) : ∀ z ∈ qLines A g Z, Asc z := asc_lines q.t q.g q.z
end U

/-! U39: how small a drawn question is. -/
namespace U
open PySem PySem.Spec PyProof.Rows L2
def colsC : List Str := ["a", "b", "c", "d", "x", "y", "zz"]
def namesC : List Str := ["r", "s", "t", "u", "ab", "table", "zzzzzzzz", "only"]
def Lil (m w : Nat) (ts : List (Str × List Str)) : Prop := (ts.length ≤ max m 4 ∧ ∀ z ∈ names ts, z ∈ namesC) ∧ (∀ t ∈ ts, t.2.length ≤ 3) ∧ (colsOf ts).length ≤ max w 4 ∧ ∀ z ∈ colsOf ts, z ∈ colsC
def lilB (ts : List (Str × List Str)) (us : List Str) : Bool := (decide (ts.length ≤ 4) && (names ts).all fun z => decide (z ∈ namesC)) && ts.all (fun t => decide (t.2.length ≤ 3)) && decide (us.length ≤ 4) && us.all fun z => decide (z ∈ colsC)
theorem Lil.mono {m w : Nat} {ts : List (Str × List Str)} (h : Lil 4 4 ts) : Lil m w ts := by
  obtain ⟨⟨a, a2⟩, b, c, e⟩ := h
  exact ⟨⟨by omega, a2⟩, b, by omega, e⟩
theorem lil_of {ts : List (Str × List Str)} {gs us : List Str} (h : okB ts gs us = true) (s : lilB ts us = true) : Lil 4 4 ts := by
  unfold okB at h
  unfold lilB at s
  simp only [Bool.and_eq_true, decide_eq_true_eq, List.all_eq_true, List.any_eq_true] at h s
  obtain ⟨⟨⟨⟨⟨⟨⟨⟨a1, a2⟩, a3⟩, a4⟩, a5⟩, a6⟩, a7⟩, a8⟩, a9⟩ := h
  obtain ⟨⟨⟨⟨s1, s0⟩, s2⟩, s3⟩, s4⟩ := s
  have inU : ∀ z ∈ colsOf ts, z ∈ us := fun z hz => by
    obtain ⟨t, ht, hz⟩ := cols_mem.mp hz
    exact (a4 t ht).2 z hz
  exact ⟨⟨by omega, fun z hz => s0 z hz⟩, fun t ht => s2 t ht, Nat.le_trans (sub_len (dist_up _).nodup inU) (show us.length ≤ _ by omega), fun z hz => s4 z (inU z hz)⟩
end U

/-! U40: tables each of which is right, whether or not a question can have them all. -/
namespace U
open PySem PySem.Spec PyProof.Rows L2
structure WT (ts : List (Str × List Str)) : Prop where
  few : ts.length ≤ 10
  nd : (names ts).Nodup
  nm : ∀ t ∈ ts, Nm t.1
  cols : ∀ t ∈ ts, (1 ≤ t.2.length ∧ t.2.length ≤ 6) ∧ Up t.2 ∧ ∀ z ∈ t.2, Nm z
def okTB (ts : List (Str × List Str)) : Bool := decide (1 ≤ ts.length ∧ ts.length ≤ 6 ∧ (colsOf ts).length ≤ 8)
def okGB (ts : List (Str × List Str)) (gs : List Str) : Bool := decide (∀ z ∈ gs, z ∈ colsOf ts)
theorem WT.fl {ts : List (Str × List Str)} (ok : WT ts) : (fl ts).length < 64 := by
  have := fl_le (n := 6) ts fun t ht => (ok.cols t ht).1.2
  have := ok.few
  omega
theorem WT.okt {ts : List (Str × List Str)} (w : WT ts) (h : okTB ts = true) : OKT ts := by
  obtain ⟨a, b, c⟩ := of_decide_eq_true h
  exact ⟨⟨a, b⟩, w.nd, w.nm, w.cols, c⟩
theorem OKT.wt {ts : List (Str × List Str)} (o : OKT ts) : WT ts := ⟨by have := o.few; omega, o.nd, o.nm, o.cols⟩
theorem OKT.b {ts : List (Str × List Str)} (o : OKT ts) : okTB ts = true := decide_eq_true ⟨o.few.1, o.few.2, o.all⟩
/-- groups that are names in their order -/
structure WG (gs : List Str) : Prop where
  up : Up gs
  nm : ∀ z ∈ gs, Nm z
  few : gs.length ≤ 20
theorem OKG.wg {ts : List (Str × List Str)} {gs : List Str} (o : OKG ts gs) : WG gs := ⟨o.up, o.nm, by have := o.few; omega⟩
theorem OKG.b {ts : List (Str × List Str)} {gs : List Str} (o : OKG ts gs) : okGB ts gs = true := decide_eq_true o.has
theorem WG.okg {ts : List (Str × List Str)} {gs : List Str} (w : WG gs) (o : OKT ts) (h : okGB ts gs = true) : OKG ts gs :=
  ⟨w.up, w.nm, of_decide_eq_true h, Nat.le_trans (sub_len w.up.nodup (of_decide_eq_true h)) o.all⟩
end U

/-! U41: {**d, k: v}. -/
namespace U
open PySem PySem.Spec PyProof.Rows L2
section
variable {prog : Program} {w : World} {K : Type} [DecidableEq K] {knd : KeyKind prog w K} {A : Around} {E : Value → Shared → Prop} {s : Shared}
theorem wpAny_dictPut_pairs {d : Addr} {kvs : List (K × Value)} {k : K} {key v : Value} {Q : Unit → Shared → Prop} (hkey : knd.is k key = true) (hm : s.heap.DictOf knd d kvs)
    (hQ : ∀ h', h'.DictOf knd d (stored kvs k v) → Heap.SameBut d s.heap h' → Q () { s with heap := h' })
    (hsz : kvs.length ≤ sizeLine) :
    wpAny (model prog w) A (dictPut d (knd.hash k) key v) Q E s := by
  obtain ⟨o, es, ep, ho, hc, hd, hk, hp, hn⟩ := hm
  have hes : es.size ≤ sizeLine := by have e1 := hp.length; have e2 : es.toList.length = es.size := by simp
                                      omega
  unfold dictPut
  refine wpAny_bind (wpAny_dictFind_of hkey ho hd hk ?_)
  have hidx : (es.findIdx? fun e => knd.is k e.key) = kvs.findIdx? fun kv => decide (kv.1 = k) := by
    rw [← hp.findIdx k]; obtain ⟨l⟩ := es; simp
  cases hi : es.findIdx? fun e => knd.is k e.key with
  | some i =>
    refine wpAny_updateDict ho hd (hQ _ ⟨_, _, ep, Heap.get?_update_self _ ho (Obj.isFreed_of_dict (Obj.data_mapDict hd _)),
      hc.mapDict _, Obj.data_mapDict hd _, hk.modify _ _, ?_, ?_⟩ (Heap.SameBut.update ..))
    · rw [stored, if_pos (any_of_findIdx_some (hidx ▸ hi))]
      have hl : (es.toList.findIdx? fun e => knd.is k e.key) = some i := by rw [← hi]; obtain ⟨l⟩ := es; simp
      have := hp.modify hn hl v
      obtain ⟨l⟩ := es
      simpa using this
    · rw [stored, if_pos (any_of_findIdx_some (hidx ▸ hi)), keys_map_store]; exact hn
  | none =>
    have hnot : k ∉ kvs.map (·.1) := not_mem_of_findIdx_none (hidx ▸ hi)
    have hany : ¬ (kvs.any fun kv => decide (kv.1 = k)) = true := by
      rw [List.any_eq_true]; rintro ⟨kv, hkv, he⟩
      exact hnot (List.mem_map.mpr ⟨kv, hkv, of_decide_eq_true he⟩)
    refine wpAny_updateDictKeys (hz := hes) ho hd (hQ _ ⟨_, _, ep + 1, Heap.get?_update_self _ ho (Obj.isFreed_of_dict (Obj.data_mapDictKeys hd _)),
      hc.mapDictKeys _, Obj.data_mapDictKeys hd _, hk.push hkey _, ?_, ?_⟩ (Heap.SameBut.update ..))
    · rw [stored, if_neg hany]
      have := hp.append hkey (knd.hash k) v
      obtain ⟨l⟩ := es
      simpa using this
    · rw [stored, if_neg hany, List.map_append, List.nodup_append]
      refine ⟨hn, by simp, ?_⟩
      intro a ha b hb
      simp only [List.map_cons, List.map_nil, List.mem_singleton] at hb
      subst hb
      exact fun e => hnot (e ▸ ha)
/-- a dict put into another: no key is an object -/
theorem wpAny_mergeMap {d o : Addr} {kvs more : List (K × Value)} {Q : Unit → Shared → Prop} (hdo : d ≠ o) (hoS : (o == sysModules) = false)
    (hd : s.heap.DictOf knd d kvs) (ho : s.heap.DictOf knd o more) (hnr : ∀ k a, knd.is k (.ref a) = false)
    (hQ : ∀ h', h'.DictOf knd d (merged kvs more) → h'.DictOf knd o more → Heap.SameBut d s.heap h' → Q () { s with heap := h' })
    (hsz : kvs.length + more.length ≤ sizeLine) :
    wpAny (model prog w) A (mergeMapping d (.ref o) false) Q E s := by
  obtain ⟨od, esd, epd, hod, hcd, hdd, hkd, hpd, hnd⟩ := id hd
  obtain ⟨oo, eso, epo, hoo, hco, hdo', hko, hpo, hno⟩ := id ho
  unfold mergeMapping
  refine wpAny_bind (wpAny_isInstance (T := "dict") ho.typeIs PySem.F.sub_dict_dict ?_)
  rw [if_pos rfl]
  refine wpAny_bind (wpAny_specialOf ho.typeIs PySem.F.slot_dict_iter.lookup (wpAny_bind (wpAny_pure ?_)))
  simp only [beq_self_eq_true]
  rw [if_neg (by rw [hoS]; exact Bool.false_ne_true)]
  refine wpAny_bind (wpAny_dictEntries hod hdd ?_)
  have hlen : more.length = eso.size := by rw [← hpo.length]; simp
  have loop : wpAny (model prog w) A (do
      let es ← dictEntries o
      let epoch ← dictEpoch o
      forIn (List.range es.size) PUnit.unit fun i (_ : PUnit) => (do
          let l' ← dictEntries o
          match l'[i]? with
            | some e => do
              holding [e.key, e.val] (if false = true then do
                          let q ← dictFind d e.key e.hash
                          if q.isSome = true then do
                              rule "dict.merge.duplicate-key"
                              let q ← newExc (Value.type "KeyError") [e.key]
                              raiseNew q
                              dictPut d e.hash e.key e.val
                            else dictPut d e.hash e.key e.val
                        else dictPut d e.hash e.key e.val)
              let ep' ← dictEpoch o
              if (ep' != epoch) = true then do
                  (unsupported "dict.changed-during-merge" : Sem PUnit)
                  pure (ForInStep.yield PUnit.unit)
                else pure (ForInStep.yield PUnit.unit)
            | _ => do
              (unsupported "dict.changed-during-merge" : Sem PUnit)
              pure (ForInStep.yield PUnit.unit) : Sem (ForInStep PUnit))
      pure ()) Q E s := by
    refine wpAny_bind (wpAny_dictEntries hoo hdo' ?_)
    refine wpAny_bind (wpAny_dictEpoch hoo hdo' ?_)
    refine wpAny_bind ?_
    rw [List.range_eq_range']
    refine wpAny_forIn_list _
      (fun rest _ s' => ∃ h' i, s' = { s with heap := h' } ∧ rest = List.range' i (eso.size - i) ∧ i ≤ eso.size ∧ h'.DictOf knd d (merged kvs (more.take i)) ∧ h'.get? o = some oo ∧ Heap.SameBut d s.heap h')
      _ ?_ ?_ _ _ ⟨s.heap, 0, rfl, by simp, Nat.zero_le _, by simpa [merged] using hd, hoo, Heap.SameBut.refl _ _⟩
    · rintro x rest b s' ⟨h', i, rfl, hr, hi, hd', hoo', hs'⟩
      have hlt : i < eso.size := by
        rcases Nat.lt_or_ge i eso.size with h | h
        · exact h
        · rw [Nat.sub_eq_zero_of_le h] at hr; simp at hr
      obtain ⟨rfl, hrest⟩ : x = i ∧ rest = List.range' (i + 1) (eso.size - (i + 1)) := by
        have e : eso.size - i = (eso.size - (i + 1)) + 1 := by omega
        rw [e, List.range'_succ] at hr
        injection hr with h1 h2
        exact ⟨h1, h2⟩
      refine wpAny_bind (wpAny_dictEntries hoo' hdo' ?_)
      rw [Array.getElem?_eq_getElem hlt]
      obtain ⟨kv, hkv⟩ : ∃ kv, more[x]? = some kv := ⟨more[x]'(by rw [hlen]; exact hlt), List.getElem?_eq_getElem _⟩
      obtain ⟨k, v⟩ := kv
      obtain ⟨hkey, hval⟩ := hpo.get? (e := eso[x]) (by simp [hlt]) hkv
      obtain ⟨k', hkey', hhash⟩ := hko eso[x] (Array.getElem_mem hlt)
      obtain rfl : k' = k := knd.inj _ _ _ hkey' hkey
      show wpAny _ _ (holding [eso[x].key, eso[x].val] (if false = true then _ else dictPut d eso[x].hash eso[x].key eso[x].val) >>= _) _ _ _
      rw [if_neg Bool.false_ne_true, hhash, hval]
      have hmx : (merged kvs (more.take x)).length ≤ sizeLine := by
        have e1 := merged_length_le kvs (more.take x)
        have e2 : (more.take x).length ≤ more.length := by rw [List.length_take]; omega
        omega
      refine wpAny_bind (wpAny_holding (wpAny_dictPut_pairs (hsz := hmx) hkey hd' fun h'' hd'' hs'' => ?_))
      have hoo'' : h''.get? o = some oo := (hs''.2 o (Ne.symm hdo)).trans hoo'
      refine wpAny_bind (wpAny_dictEpoch hoo'' hdo' ?_)
      rw [if_neg (by simp)]
      exact wpAny_pure ⟨h'', x + 1, rfl, hrest, hlt, by rw [merged_take_succ kvs more x (k', v) hkv]; exact hd'', hoo'', hs'.trans hs''⟩
    · rintro b s' ⟨h', i, rfl, hr, hi, hd', hoo', hs'⟩
      have hin : i = eso.size := by
        rcases Nat.lt_or_ge i eso.size with h | h
        · have e : eso.size - i = (eso.size - (i + 1)) + 1 := by omega
          rw [e, List.range'_succ] at hr; exact nomatch hr
        · exact Nat.le_antisymm hi h
      refine wpAny_pure (hQ h' ?_ ⟨oo, eso, epo, hoo', hco, hdo', hko, hpo, hno⟩ hs')
      rw [hin, ← hlen, List.take_length] at hd'; exact hd'
  split
  · refine wpAny_bind (wpAny_dictEntries hoo hdo' ?_)
    refine wpAny_bind ?_
    rw [← Array.forIn_toList]
    refine wpAny_forIn_list _ (fun rest _ s' => s' = s ∧ ∀ e ∈ rest, e ∈ eso.toList) _ ?_ ?_ _ _ ⟨rfl, fun e h => h⟩
    · rintro x rest b s' ⟨rfl, hin⟩
      have hx := hin x List.mem_cons_self
      obtain ⟨k, hk, _⟩ := hko x (by simpa using hx)
      have hrest : ∀ e ∈ rest, e ∈ eso.toList := fun e he => hin e (List.mem_cons_of_mem _ he)
      split
      · rename_i a ea
        rw [ea, hnr] at hk
        cases hk
      · exact wpAny_pure ⟨rfl, hrest⟩
    · rintro b s' ⟨rfl, _⟩
      exact loop
  · exact loop
end
end U

/-! U42: {**d, k: v}, the rule. -/
namespace U
open PySem PySem.Spec PyProof.Rows L2
section
variable {prog : Program} {w : World} {K : Type} [DecidableEq K] {knd : KeyKind prog w K} {A : Around} {E : Value → Shared → Prop} {s : Shared}
theorem wpAny_dispU {m k v : Sem Value} {Q : Value → Shared → Prop} (hnr : ∀ k a, knd.is k (.ref a) = false)
    (h1 : wpAny (model prog w) A m (fun x s1 => ∃ (o : Addr) (more : List (K × Value)), x = .ref o ∧ s.heap.objs.size ≠ o ∧ (o == sysModules) = false ∧ s1.heap.DictOf knd s.heap.objs.size [] ∧ s1.heap.DictOf knd o more ∧ more.length ≤ sizeLine ∧
      ∀ h', h'.DictOf knd s.heap.objs.size (merged [] more) → Heap.SameBut s.heap.objs.size s1.heap h' → wpAny (model prog w) A (subDict [(k, v)]) (fun q s2 => ∃ (kvs e : List (K × Value)), s.heap.objs.size ≠ q ∧ (q == sysModules) = false ∧ s2.heap.DictOf knd s.heap.objs.size kvs ∧ s2.heap.DictOf knd q e ∧ kvs.length + e.length ≤ sizeLine ∧
        ∀ h'', h''.DictOf knd s.heap.objs.size (merged kvs e) → Heap.SameBut s.heap.objs.size s2.heap h'' → Q (.ref s.heap.objs.size) { s2 with heap := h'' }) E { s1 with heap := h' }) E { s with heap := s.heap.push { cls := .type "dict", data := .dict #[] } }) :
    wpAny (model prog w) A (dictDisplay [(none, m), (some k, v)]) Q E s := by
  unfold dictDisplay
  simp only [List.forIn_cons, List.forIn_nil, List.isEmpty_nil, if_true, List.nil_append, List.length_singleton, pure_bind, bind_assoc]
  refine wpAny_bind (wpAny_alloc (wpAny_bind (wpAny_holding (wpAny_mono h1 (fun x s1 q => ?_) fun _ _ e => e))))
  obtain ⟨o, more, rfl, no, so, d0, d1, sz, q⟩ := q
  refine wpAny_bind (wpAny_onRaise (wpAny_tryCatch (wpAny_onRaise (wpAny_holding (wpAny_mergeMap no so d0 d1 hnr (fun h' a1 a2 a3 => ?_) (by rw [List.length_nil]; omega))))))
  simp only [show ((1 : Nat) == 17) = false from rfl, Bool.false_eq_true, if_false, pure_bind, List.isEmpty_cons]
  refine wpAny_bind (wpAny_bind (wpAny_holding (wpAny_mono (q h' a1 a3) (fun p s2 r => ?_) fun _ _ e => e)))
  obtain ⟨kvs, e, nq, sq, d2, d3, sz2, r⟩ := r
  refine wpAny_bind (wpAny_onRaise (wpAny_holding (wpAny_mergeMap nq sq d2 d3 hnr (fun h'' b1 b2 b3 => ?_) sz2)))
  exact wpAny_pure (wpAny_pure (r h'' b1 b3))
end
/-- {**d, k: v} -/
def tDispU (td tk tv : TE) : TE := fun σ H Q => ∀ p, H p = none → td σ (upd H p (.dK [])) fun x H1 => ∃ (a : Addr) (kvs : List (Key × V)), x = .ref a ∧ p ≠ a ∧ Rd H1 a (.dK kvs) ∧ H1 p = some (.dK []) ∧ kvs.length ≤ 100000 ∧
  ∀ q, (upd H1 p (.dK (mergeK [] kvs))) q = none → tk σ (upd (upd H1 p (.dK (mergeK [] kvs))) q (.dK [])) fun y H2 => tv σ H2 fun z H3 => ∃ k : Key, y = kV k ∧ H3 p = some (.dK (mergeK [] kvs)) ∧ H3 q = some (.dK []) ∧ Q (.ref p) (upd (upd H3 q (.dK [(k, z)])) p (.dK (putK (mergeK [] kvs) k z)))
theorem mix_ref {P : Program} {w : World} (k : Key) (a : Addr) : (mixKind P w).is k (.ref a) = false := by cases k <;> rfl
theorem pe_dispU {X : Cx} {pos : Pos} {de ke ve : Expr} {td tk tv : TE} (hd : PE X de td) (hk : PE X ke tk) (hv : PE X ve tv) : PE X (.Dict [none, some ke] [de, ve] pos) (tDispU td tk tv) := by
  refine ⟨fun pins s σ H Q I q => ?_⟩
  have hn := I.hok.fresh (Nat.le_refl s.heap.objs.size)
  have I1 := I.laid (a := s.heap.objs.size) (o := .dK []) (h' := s.heap.push { cls := .type "dict", data := .dict #[] }) (t' := s.toks) (fun _ _ q => Heap.get?_push_of_some _ q) (Nat.le_refl _) (dk_empty s.heap I.big)
  rw [arm_eval_Dict]
  refine wpAny_bind (wpAny_standAt ?_)
  refine wpAny_dispU (knd := mixKind X.prog X.w) mix_ref ?_
  refine wpAny_bind (wpAny_mono (hd.run pins _ σ _ _ I1 (q _ hn)) (fun x s1 r => wpAny_bind (wpAny_standAt (wpAny_pure ?_))) fun _ _ e => e)
  obtain ⟨x', H1, I2, rx, a, kvs, rfl, npa, ha, hp, lk, q⟩ := r
  cases rx
  obtain ⟨z, sa, vs, rel, da⟩ := dk_rd I2.hok ha
  obtain ⟨_, sp, vs0, r0, dp⟩ := dk_of I2.hok hp
  cases r0
  refine ⟨a, vs, rfl, npa, sa, dp, da, by rw [← rel.length]; exact z, fun h' d1 s1' => ?_⟩
  have rk : KV (mergeK [] kvs) (merged [] vs) := rel.merge .nil
  have lm : (mergeK [] kvs).length ≤ 100000 := by
    have := length_mergeK kvs []
    rw [List.length_nil] at this
    omega
  have lz : (mergeK [] kvs).length ≤ sizeLine := by rw [sizeLine_eq]; omega
  have he : ∃ q, h'.get? s.heap.objs.size = some q := let ⟨q, _, _, hq, _⟩ := d1; ⟨q, hq⟩
  have I3 : Inv X pins σ (upd H1 s.heap.objs.size (.dK (mergeK [] kvs))) { s1 with heap := h' } := d_write I2 (by rw [hp]; exact True.intro) s1' he (dk_new lz sp rk d1)
  have hn2 := I3.hok.fresh (Nat.le_refl h'.objs.size)
  have I4 := I3.laid (a := h'.objs.size) (o := .dK []) (h' := h'.push { cls := .type "dict", data := .dict #[] }) (t' := s1.toks) (fun _ _ q => Heap.get?_push_of_some _ q) (Nat.le_refl _) (dk_empty h' I3.big)
  refine wpAny_subDict (knd := mixKind X.prog X.w) (by show 1 ≤ 15; decide) ?_
  unfold evalPairs
  refine wpAny_bind (wpAny_mono (hk.run pins _ σ _ _ I4 (q _ hn2)) (fun y s2 r => ?_) fun _ _ e => e)
  obtain ⟨y', H2, I5, ry, q⟩ := r
  refine wpAny_bind (wpAny_holding (wpAny_bind (wpAny_mono (hv.run pins _ σ _ _ I5 q) (fun u s3 r => wpAny_bind (wpAny_standAt (wpAny_pure ?_))) fun _ _ e => e)))
  obtain ⟨u', H3, I6, ru, k, rfl, h3p, h3q, q⟩ := r
  refine wpAny_bind (wpAny_holding (wpAny_pure (wpAny_pure ?_)))
  obtain ⟨_, sq, vq, rq, dq⟩ := dk_of I6.hok h3q
  cases rq
  refine ⟨[(k, u)], ⟨kV_is ry, rfl, True.intro⟩, dq, fun h2 d2 s2' => ?_⟩
  have hq2 : ∃ q, h2.get? h'.objs.size = some q := let ⟨q, _, _, hq, _⟩ := d2; ⟨q, hq⟩
  have rk1 : KV [(k, u')] (merged [] [(k, u)]) := by
    show KV (mergeK [] [(k, u')]) (merged [] [(k, u)])
    exact (show KV [(k, u')] [(k, u)] from .cons ⟨rfl, ru⟩ .nil).merge .nil
  have npq : s.heap.objs.size ≠ h'.objs.size := fun z => by rw [← z, upd_same] at hn2; cases hn2
  have I7 : Inv X pins σ (upd H3 h'.objs.size (.dK [(k, u')])) { s3 with heap := h2, toks := s3.toks + 1 } := d_write I6 (by rw [h3q]; exact True.intro) s2' hq2 (dk_new (by rw [sizeLine_eq]; show 1 ≤ 16777216; decide) sq rk1 d2)
  have h7p : (upd H3 h'.objs.size (.dK [(k, u')])) s.heap.objs.size = some (.dK (mergeK [] kvs)) := by rw [upd_ne npq]; exact h3p
  obtain ⟨z7, sp7, vs7, r7, d7⟩ := dk_of I7.hok h7p
  refine ⟨vs7, merged [] [(k, u)], npq, sq, d7, d2, by rw [← r7.length, ← rk1.length, sizeLine_eq]; show (mergeK [] kvs).length + 1 ≤ _; omega, fun h8 d8 s8 => ?_⟩
  have he8 : ∃ q, h8.get? s.heap.objs.size = some q := let ⟨q, _, _, hq, _⟩ := d8; ⟨q, hq⟩
  have r8 : KV (mergeK (mergeK [] kvs) [(k, u')]) (merged vs7 (merged [] [(k, u)])) := rk1.merge r7
  have l8 : (mergeK (mergeK [] kvs) [(k, u')]).length ≤ sizeLine := by
    have := length_mergeK [(k, u')] (mergeK [] kvs)
    rw [sizeLine_eq]
    rw [List.length_singleton] at this
    omega
  have I8 := d_write (t' := s3.toks + 1) I7 (by rw [h7p]; exact True.intro) s8 he8 (dk_new l8 sp r8 d8)
  exact ⟨.ref s.heap.objs.size, _, I8, rfl, q⟩
end U

/-! U43: x in o by o's own __contains__. -/
namespace U
open PySem PySem.Spec PyProof.Rows L2
section
variable {X : Cx} {CX : CXT} {n : Nat} {f C : Addr} {fd : FuncData} {ps : List Str} {sp : Sp} {E : XK}
def uInO (neg : Bool) (C : Addr) (sp : Sp) (E : XK) : R2 := fun x y H Q => ∃ (a dx : Addr) (fs : List (Str × V)), y = .ref a ∧ H a = some (.ins C dx fs) ∧ sp [.ref a, x] H (fun v H' => ∃ b, v = .bl b ∧ Q (.bl (if neg = true then !b else b)) H') E
theorem has_own (m : Meth X.K C "__contains__" f) (F : FnOk X.prog X.w X.K X.mg X.base CX n f fd ps sp) (hr : Room n X.A) (hb : L2.Binds X.K fd ps []) (hx : Passes CX X E)
    {pins : List (Addr × Obj)} {s : Shared} {σ : L2.St} {H : Hp} {x : V} {u : Value} {a dx : Addr} {fs : List (Str × V)} {R : Bool → Hp → Prop} {Q : Bool → Shared → Prop} (I : Inv X pins σ H s) (rx : RelV x u) (ha : H a = some (.ins C dx fs))
    (hs : sp [.ref a, x] H (fun v H' => ∃ b, v = .bl b ∧ R b H') E) (hq : ∀ b H' s', Inv X pins σ H' s' → R b H' → Q b s') : wpAny (model X.prog X.w) X.A (contains (.ref a) u) Q X.xe s := by
  obtain ⟨mA, J, _⟩ := ins_get I.hok ha
  obtain ⟨od, J, _⟩ := J.look
  unfold contains
  refine wpAny_holding ?_
  rw [show stdlibNamesSay? (.ref a) u = none from rfl]
  dsimp only
  have mf := beq_iff_eq.mp m.fn
  refine wpAny_bind (m := specialOf (.ref a) (Str.ofString "__contains__")) (wpAny_bind (J.type.here ((PySem.W.looks_findIn I.kIn m.at_).here ?_)))
  rw [if_neg (by simp)]
  refine wpAny_bind ?_
  unfold callSpecialUnlessNone?
  refine wpAny_bind (m := specialOf (.ref a) (Str.ofString "__contains__")) (wpAny_bind (J.type.here ((PySem.W.looks_findIn I.kIn m.at_).here ?_)))
  refine wpAny_holding (wpAny_bind ((PySem.W.bind_fn I.kIn _ mf).here ?_))
  dsimp only
  rw [if_neg (by simp)]
  refine wpAny_bind (wpAny_mono (run_here F hr rfl hb hx I (show Vals [V.ref a, x] [Value.ref a, u] from .cons rfl (.cons rx .nil)) hs) (fun v s' q => wpAny_pure ?_) fun _ _ z => z)
  obtain ⟨y, H', I', rv, b, rfl, q⟩ := q
  cases rv
  exact wpAny_truthy_bool (hq b H' s' I' q)
theorem opInO (m : Meth X.K C "__contains__" f) (F : FnOk X.prog X.w X.K X.mg X.base CX n f fd ps sp) (hr : Room n X.A) (hb : L2.Binds X.K fd ps []) (hx : Passes CX X E) : OpR X (compareOp .In) (uInO false C sp E) := by
  intro pins s σ H x y v u Q I rx ry h
  obtain ⟨a, dx, fs, rfl, ha, hs⟩ := h
  cases ry
  unfold compareOp
  exact wpAny_bind (has_own (R := fun b H' => Q (.bl b) H') m F hr hb hx I rx ha hs fun b H' s' I' q => wpAny_pure ⟨.bl b, H', I', rfl, q⟩)
theorem opNotInO (m : Meth X.K C "__contains__" f) (F : FnOk X.prog X.w X.K X.mg X.base CX n f fd ps sp) (hr : Room n X.A) (hb : L2.Binds X.K fd ps []) (hx : Passes CX X E) : OpR X (compareOp .NotIn) (uInO true C sp E) := by
  intro pins s σ H x y v u Q I rx ry h
  obtain ⟨a, dx, fs, rfl, ha, hs⟩ := h
  cases ry
  unfold compareOp
  exact wpAny_bind (has_own (R := fun b H' => Q (.bl (!b)) H') m F hr hb hx I rx ha hs fun b H' s' I' q => wpAny_pure ⟨.bl (!b), H', I', rfl, q⟩)
end
/-- a question's two dicts are two -/
theorem QO.eod {C R : Addr} {H : Hp} {a d e c g l dx : Addr} {A : List (Str × List Str)} {gs : List Str} {Z : List (Str × (Nat × Nat))} (q : QO C R H a A gs Z) (he : H a = some (.ins C dx (qf (.ref d) (.ref g) (.ref e) (.ref c) (.ref l)))) : e ≠ d := by
  obtain ⟨dx', d', g', e', c', l', kvs, kz, ha, hd, hk, hg, hee, hz, _, _, _, _, t, _, _⟩ := q
  rw [ha] at he
  unfold qf at he
  cases he
  intro z
  rw [z, hd] at hee
  cases hee
  have lp := t.few.1
  have hk0 := hk.1
  have i0 : 0 < kvs.length := by omega
  obtain ⟨_, _, _, p1, e1, f1⟩ := hk.at (i := 0) (k := kvs[0]) (by simp [i0])
  obtain ⟨_, _, _, p2, dy, e2, f2⟩ := hz.at (i := 0) (k := kvs[0]) (by simp [i0])
  rw [e1] at e2
  cases e2
  rw [f1] at f2
  cases f2
theorem dispU_gr {H : Hp} {p q : Addr} {a b c d e : HO} (hp : H p = none) (hq : H q = none) : Gr H (upd (upd (upd (upd (upd H p a) p b) q c) q d) p e) := fun z o ez => by
  have n1 : z ≠ p := fun y => by rw [y, hp] at ez; cases ez
  have n2 : z ≠ q := fun y => by rw [y, hq] at ez; cases ez
  rw [upd_ne n1, upd_ne n2, upd_ne n2, upd_ne n1, upd_ne n1]
  exact ez
/-! ### y = {k: v for …} -/
section
variable {X : Cx}
theorem sw_trueD {kx vx : Expr} {gs : List Comprehension} {scope : Scope} {pos py : Pos} {y : Str} {l : Nat} {env : Env} (hk : env.scope.kind = .function) (hy : env.scope.names.lookup y = some .local) (hl : (py.line == pos.line) = true)
    (ha : (scope.names.any fun (n, k) => n == y && (k == .local || k == .cell)) = false) : swapsWith (.DictComp kx vx gs scope pos) (some (.Name y py)) l env = pure true := by
  have ky : env.kindOf y = some .local := hy
  have hb : env.blockKind = .function := by unfold Env.blockKind; rw [hk]; rfl
  unfold swapsWith
  simp only [hb, ky, ha, Expr.pos, hl]
  rfl
theorem ps_setDc {i : Nat} {y : Str} {py : Pos} {kx vx tg iter : Expr} {ifs : List Expr} {scope : Scope} {own : List (Str × Nat)} {pos spos : Pos} {wi : TI} {g : TG} {tt : TT} {tk tv : TE} (hc : X.calm = true) (hN : X.N.Nodup) (hy : X.N[i]? = some y) (hyl : X.env.scope.names.lookup y = some .local)
    (hsw : swapsWith (.DictComp kx vx [⟨tg, iter, ifs, 0⟩] scope pos) (some (.Name y py)) spos.line X.env = pure true) (hi : PI X tg iter wi) (ok : BlkOk X.N X.env.scope scope own)
    (hg : ∀ (s : Shared) (H : Hp) (C : Addr) (cl : List (Str × Addr)) (fp : List Addr), PG (X.blk s H scope (compEnvC scope cl C X.env) fp) tg g) (ht : ∀ (s : Shared) (H : Hp) (C : Addr) (cl : List (Str × Addr)) (fp : List Addr), PTs (X.blk s H scope (compEnvC scope cl C X.env) fp) ifs tt)
    (hk : ∀ (s : Shared) (H : Hp) (C : Addr) (cl : List (Str × Addr)) (fp : List Addr), PE (X.blk s H scope (compEnvC scope cl C X.env) fp) kx tk)
    (he : ∀ (s : Shared) (H : Hp) (C : Addr) (cl : List (Str × Addr)) (fp : List Addr), PE (X.blk s H scope (compEnvC scope cl C X.env) fp) vx tv) (hs : ∀ x, foldedSetIterable iter X.env x = pure x := by intro _; rfl) :
    PS X (.Assign [.Name y py] (.DictComp kx vx [⟨tg, iter, ifs, 0⟩] scope pos) spos) (tAsg (tDc wi g tt tk tv (own.map (·.2))) (gName i)) := by
  refine ⟨fun pins s σ H D I h => ?_⟩
  rw [exec_Assign_Name_used _ _ _ _ hsw]
  refine wpAny_bind (wpAny_standAt (wpAny_bind ?_))
  show wpAny _ X.A (do let _ ← comprehension (.DictComp kx vx [⟨tg, iter, ifs, 0⟩] scope pos) scope X.env (firstIterPos [⟨tg, iter, ifs, 0⟩] pos) newDict false (eval iter X.env) (some (assign (.Name y py) X.env))) _ _ s
  have h : tDc wi g tt tk tv (own.map (·.2)) σ H (fun x H1 => gName i x σ H1 D.nx) := h
  refine wpAny_bind (thn (dc_core (Qf := fun _ s' => SP X pins D .next s') hc hN I hi ok hg ht hk he hs h fun L C s' m H' I' q hn f => ?_) fun _ s' hq => wpAny_pure (wpAny_pure hq))
  show wpAny _ _ (assign (.Name y py) X.env (.ref L)) _ _ _
  refine wpAny_assign_Name (store_ok2 (v := V.ref L) I' hN hy (.inl hyl) rfl (fun s2 I2 ⟨a, sb, ha⟩ => ?_) (.inr hyl))
  obtain ⟨f0, f1, f2, f3, f4, f5⟩ := f
  have haC : C ≠ a := by
    rcases ha with z | z
    · rw [z]; exact f1
    · exact fun e => f4 y a z e.symm
  refine ⟨m, hn.sameBut sb haC, fun h3 sb3 => ?_⟩
  exact ⟨_, H', I2.turned (t' := s2.toks) (fun b o hb e => (sb3.2 b hb).trans e) f0 f1 f3 f4 f5, q⟩
end
section
variable {J : It} {n : Nat} {G : Hp → Prop} {Y : Nat → Hp → V → Hp → Prop} {β : Type}
/-- {text: value for …}: a dict told by rs -/
theorem dc_prs (wk : Walk J n G Y) {g : TG} {tt : TT} {tk tv : TE} {vs : List Nat} {σ : L2.St} {H1 : Hp} {D : Addr} {Qd : Hp → Prop} {R : Hp → V → β → Prop} (st : Sta R) (rs : List (Str × β)) (hD : H1 D = none) (hn : rs.length = n) (few : n ≤ 1000) (nd : (names rs).Nodup) (hG : ∀ H, Gr H1 H → G H)
    (hs : ∀ i x Hm H' t (Q2 : V → V → Hp → Prop) (E3 : Hp → Prop), i < n → Gr H1 Hm → Y i Hm x H' → rs[i]? = some t → (∀ H5 z, Gr Hm H5 → R H5 z t.2 → Q2 (.str t.1) z H5) →
      g x (wipe σ vs) H' fun σ2 H2 => wipe σ2 vs = wipe σ vs ∧ tt σ2 H2 fun b H3 => if b = true then tk σ2 H3 fun y H4 => tv σ2 H4 fun z H5 => Q2 y z H5 else E3 H3)
    (hd : ∀ (Hm : Hp) (kvs : List (Key × V)), Gr H1 Hm → Hm D = some (.dK kvs) → DRel R Hm kvs rs → Qd Hm) :
    ∃ W : Nat → Nat → Hp → Prop, (∃ m, W 0 m (upd H1 D (.dK []))) ∧ ∀ i m H, W i m H →
      (J.stop i H ∧ Qd H) ∨ (J.go i H ∧ ∃ Nx : Hp → Prop, (∀ H', Nx H' → ∃ m', m' < m ∧ W (i + 1) m' H') ∧ ∀ x H', J.yld i H x H' → g x (wipe σ vs) H' fun σ2 H2 => wipe σ2 vs = wipe σ vs ∧ tt σ2 H2 fun b H3 =>
        if b = true then tk σ2 H3 fun y H4 => tv σ2 H4 fun z H5 => ∃ kvs k, y = kV k ∧ H5 D = some (.dK kvs) ∧ kvs.length < sizeLine ∧ Nx (upd H5 D (.dK (putK kvs k z))) else Nx H3) := by
  refine dc_it wk (fun i Hm => Gr H1 Hm ∧ ∃ kvs, Hm D = some (.dK kvs) ∧ DRel R Hm kvs (rs.take i)) ⟨Gr.rfl'.up hD, [], upd_same, by rw [List.take_zero]; exact .nil⟩ (fun i H _ p => hG H p.1) ?_ ?_
  · rintro i x Hm H' hi ⟨gm, kvs, eD, dd⟩ y
    have hi2 : i < rs.length := by omega
    have ht : rs[i]? = some rs[i] := by simp [hi2]
    have lp : kvs.length ≤ i := by rw [dd.1, List.length_take]; exact Nat.min_le_left _ _
    refine hs i x Hm H' rs[i] _ _ hi gm y ht fun H5 z g5 r5 => ?_
    have eD5 := g5 _ _ eD
    refine ⟨kvs, .inr rs[i].1, rfl, eD5, small_lt (by omega), Gr.app hD (gm.trans g5), _, upd_same, ?_⟩
    have h := ((dd.mono fun v b r => st.up r g5).put (x := rs[i].1) r5).mono (H' := upd H5 D (.dK (putK kvs (.inr rs[i].1) z))) fun v b r => st.off r eD5 rfl
    rw [putA_new (take_new nd ht)] at h
    rw [List.take_add_one, ht]
    exact h
  · rintro Hm ⟨gm, kvs, eD, dd⟩
    rw [List.take_of_length_le (by omega)] at dd
    exact hd Hm kvs gm eD dd
end
end U

/-! U44: a def that tries what it is handed: try: return a(); except X: return None. -/
namespace U
open PySem PySem.Spec PyProof.Rows L2 LamX
section
variable {X : Cx}
def TTone (K : PySem.W.Frag) (C1 : Addr) : (XK → Hp → VK → Prop) → Hp → VK → Prop := fun tl H Q =>
  tl (fun cls _ H' => ∃ b, PySem.W.exmOne K cls (.ref C1) = some b ∧ (b = true → Q .non H') ∧ (b = false → False)) H Q
theorem told_one {Ng : List Str} {x a e1 q : Str} {sg : Scope} {g C1 : Addr} {cdg : Value} {i : Nat} {p1 p2 p3 p4 p5 p6 p7 p8 : Pos}
    (g1 : sg.names.lookup e1 = some .globalImplicit) (m1 : X.mg e1 = some (.ref C1)) (d1 : (e1 == ("__debug__" : Str)) = false)
    (h0 : ∀ z : Addr, (L2.start Ng [V.ref z])[0]? = some (some (V.ref z))) :
    GivesTo X Ng x sg g cdg [.Try [.Return (some (.Call (.Name a p1) [] [] p2)) p3] [.ExceptHandler (some (.Name e1 p4)) none [.Return (some (.Constant .none i p5)) p6] p7] [] [] p8] a q (TTone X.K C1) := by
  intro fl c' s H Q tl act hc h
  let Z : Cx := (cxOf C8.CX0 X.prog X.w X.K X.mg X.base Ng x sg g cdg X.A X.stack s H C8.E0).nox
  have n1 : Names Z e1 (.ref C1) := ⟨g1, d1, .inl m1⟩
  have T0 : Takes Z (fun _ _ _ _ => False) := takes_none5
  have suites : HdsOk Z [.ExceptHandler (some (.Name e1 p4)) none [.Return (some (.Constant .none i p5)) p6] p7] [(.ref C1, fun _ _ _ => tRet (tC .non))] :=
    .cons n1 (fun _ _ _ _ _ _ _ => pss_one (ps_ret pe_non)) .nil
  refine ⟨_, pss_one (ps_try_many (X := Z) (tb := fun W D σ H => ∃ Ech : XK, (∀ cls d σ' H', Ech cls d H' → W cls d σ' H') ∧ σ[0]? = some (some (.ref fl)) ∧ H c' = some (CodeO c' q) ∧ tl Ech H D.rt)
    rfl rfl T0 (fun W pn xe tk _ => ?_) suites), ?_⟩
  · refine ⟨fun pins s' σ H' D I h' => ?_⟩
    obtain ⟨Ech, hW, h1, h2, h3⟩ := h'
    have act1 := act W pn xe Ech p1 p2 tk hW
    have whole := pss_one (ps_ret (pos := p3) act1)
    exact whole.run pins s' σ H' D I ⟨h1, h2, h3⟩
  · refine ⟨_, fun cls d σ' H' hh => ?_, h0 fl, hc, h⟩
    obtain ⟨b, e, y1, y2⟩ := hh
    exact ⟨b, e, fun z _ _ => y1 z, fun z => y2 z⟩
end
def rListOf (K : PySem.W.Frag) : List V → Hp → VK → Prop := fun xs H Q => ∃ p ys, xs = [.ref p] ∧ (SqL K H p ys ∨ SqT K H p ys) ∧ ∀ l, H l = none → Q (.ref l) (upd H l (.lst ys))
theorem caListOf {X : Cx} : CallR X (.type "list") (rListOf X.K) := call_list_of
/-- a relation that stands growth, and what is stored at D -/
structure StaD {β : Type} (R : Hp → V → β → Prop) (D : Addr) : Prop where
  up : ∀ H H' v b, Gr H H' → R H v b → R H' v b
  off : ∀ H v b o, R H v b → R (upd H D o) v b
/-- a list of texts that is not at D -/
def LstN (D : Addr) (H : Hp) (v : V) (xs : List Str) : Prop := ∃ a, v = .ref a ∧ a ≠ D ∧ H a = some (.lst (xs.map V.str))
theorem staD_lst {D : Addr} : StaD (LstN D) D := ⟨fun _ _ _ _ g ⟨a, e, n, h⟩ => ⟨a, e, n, g _ _ h⟩, fun _ _ _ _ ⟨a, e, n, h⟩ => ⟨a, e, n, by rw [upd_ne n]; exact h⟩⟩
theorem lstN_offd {D d : Addr} : ∀ H v b od kt o, LstN D H v b → H d = some (.frz od (.dK kt)) → LstN D (upd H d o) v b := fun H v b od kt o ⟨a, e, n, h⟩ hd => ⟨a, e, n, by rw [upd_ne fun z => by rw [z, hd] at h; cases h]; exact h⟩
theorem LstN.lst {D : Addr} {H : Hp} {v : V} {xs : List Str} (h : LstN D H v xs) : LstS H v xs := let ⟨a, e, _, k⟩ := h; ⟨a, e, k⟩
section
variable {J : It} {n : Nat} {G : Hp → Prop} {Y : Nat → Hp → V → Hp → Prop} {β : Type}
/-- [(text, value) for …]: a list of pairs, told by rs -/
theorem lc_prsL (wk : Walk J n G Y) {g : TG} {tt : TT} {te : TE} {vs : List Nat} {σ : L2.St} {H1 : Hp} {D : Addr} {Qd : Hp → Prop} {R : Hp → V → β → Prop} (st : StaD R D) (rs : List (Str × β)) (hD : H1 D = none) (hn : rs.length = n) (few : n ≤ 1000) (hG : ∀ H, Gr H1 H → G H)
    (hs : ∀ i x Hm H' t (Q : VK) (E3 : Hp → Prop), i < n → Gr H1 Hm → (∃ L, Hm D = some (.lst L)) → Y i Hm x H' → rs[i]? = some t → (∀ H4 a v, Gr Hm H4 → H4 a = some (.tup [.str t.1, v]) → R H4 v t.2 → Q (.ref a) H4) →
      g x (wipe σ vs) H' fun σ2 H2 => wipe σ2 vs = wipe σ vs ∧ tt σ2 H2 fun b H3 => if b = true then te σ2 H3 Q else E3 H3)
    (hd : ∀ (Hm : Hp) (ps : List Addr) (kvs : List (Key × V)), Gr H1 Hm → Hm D = some (.lst (ps.map V.ref)) → PySem.Paired (fun p kv => Hm p = some (.tup [kV kv.1, kv.2])) ps kvs → DRel R Hm kvs rs → Qd Hm) :
    ∃ W : Nat → Nat → Hp → Prop, (∃ m, W 0 m (upd H1 D (.lst []))) ∧ ∀ i m H, W i m H →
      (J.stop i H ∧ Qd H) ∨ (J.go i H ∧ ∃ Nx : Hp → Prop, (∀ H', Nx H' → ∃ m', m' < m ∧ W (i + 1) m' H') ∧ ∀ x H', J.yld i H x H' → g x (wipe σ vs) H' fun σ2 H2 => wipe σ2 vs = wipe σ vs ∧ tt σ2 H2 fun b H3 =>
        if b = true then te σ2 H3 fun y H4 => ∃ acc, H4 D = some (.lst acc) ∧ acc.length < sizeLine ∧ Nx (upd H4 D (.lst (acc ++ [y]))) else Nx H3) := by
  refine lc_it wk (fun i Hm => Gr H1 Hm ∧ ∃ (ps : List Addr) (kvs : List (Key × V)), Hm D = some (.lst (ps.map V.ref)) ∧ PySem.Paired (fun p kv => Hm p = some (.tup [kV kv.1, kv.2])) ps kvs ∧ DRel R Hm kvs (rs.take i))
    ⟨Gr.rfl'.up hD, [], [], upd_same, .nil, by rw [List.take_zero]; exact .nil⟩ (fun i H _ p => hG H p.1) ?_ ?_
  · rintro i x Hm H' hi ⟨gm, ps, kvs, eD, pp, dd⟩ y
    have hi2 : i < rs.length := by omega
    have ht : rs[i]? = some rs[i] := by simp [hi2]
    have lp : ps.length ≤ i := by rw [pp.length, dd.1, List.length_take]; exact Nat.min_le_left _ _
    refine hs i x Hm H' rs[i] _ _ hi gm ⟨_, eD⟩ y ht fun H4 a v g4 e4 r4 => ?_
    have eD4 := g4 _ _ eD
    refine ⟨_, eD4, small_lt (by rw [List.length_map]; omega), Gr.app hD (gm.trans g4), ps ++ [a], kvs ++ [(.inr rs[i].1, v)], by rw [upd_same, List.map_append]; rfl, ?_, ?_⟩
    · refine PySem.Paired.snoc (pp.mono fun p kv e => ?_) ?_
      · rw [upd_ne fun z => by rw [z, eD] at e; cases e]
        exact g4 _ _ e
      · rw [upd_ne fun z => by rw [z, eD4] at e4; cases e4]
        exact e4
    · rw [List.take_add_one, ht]
      exact (dd.mono fun v b r => st.off _ _ _ _ (st.up _ _ _ _ g4 r)).snoc (st.off _ _ _ _ r4)
  · rintro Hm ⟨gm, ps, kvs, eD, pp, dd⟩
    rw [List.take_of_length_le (by omega)] at dd
    exact hd Hm ps kvs gm eD pp dd
/-- the same over a dict that is locked meanwhile -/
theorem lc_prsKL (wk : Walk J n G Y) {g : TG} {tt : TT} {te : TE} {vs : List Nat} {σ : L2.St} {H0 : Hp} {d D : Addr} {od : Obj} {kt : List (Key × V)} {Qd : Hp → Prop} {R : Hp → V → β → Prop} (st : StaD R D) (offd : ∀ H v b od kt o, R H v b → H d = some (.frz od (.dK kt)) → R (upd H d o) v b) (rs : List (Str × β)) (h0 : H0 d = some (.dK kt)) (hD : (upd H0 d (.frz od (.dK kt))) D = none) (hn : rs.length = n) (few : n ≤ 1000)
    (hG : ∀ H, Gr (upd H0 d (.frz od (.dK kt))) H → G H)
    (hs : ∀ i x Hm H' t (Q : VK) (E3 : Hp → Prop), i < n → Gr (upd H0 d (.frz od (.dK kt))) Hm → (∃ L, Hm D = some (.lst L)) → Y i Hm x H' → rs[i]? = some t → (∀ H4 a v, Gr Hm H4 → H4 a = some (.tup [.str t.1, v]) → R H4 v t.2 → Q (.ref a) H4) →
      g x (wipe σ vs) H' fun σ2 H2 => wipe σ2 vs = wipe σ vs ∧ tt σ2 H2 fun b H3 => if b = true then te σ2 H3 Q else E3 H3)
    (hd : ∀ (H5 : Hp) (ps : List Addr) (kvs : List (Key × V)), Gr H0 H5 → H0 D = none → H5 D = some (.lst (ps.map V.ref)) → PySem.Paired (fun p kv => H5 p = some (.tup [kV kv.1, kv.2])) ps kvs → DRel R H5 kvs rs → Qd H5) :
    ∃ W : Nat → Nat → Hp → Prop, (∃ m, W 0 m (upd (upd H0 d (.frz od (.dK kt))) D (.lst []))) ∧ ∀ i m H, W i m H →
      (J.stop i H ∧ H d = some (.frz od (.dK kt)) ∧ Qd (upd H d (.dK kt))) ∨ (J.go i H ∧ ∃ Nx : Hp → Prop, (∀ H', Nx H' → ∃ m', m' < m ∧ W (i + 1) m' H') ∧ ∀ x H', J.yld i H x H' → g x (wipe σ vs) H' fun σ2 H2 => wipe σ2 vs = wipe σ vs ∧ tt σ2 H2 fun b H3 =>
        if b = true then te σ2 H3 fun y H4 => ∃ acc, H4 D = some (.lst acc) ∧ acc.length < sizeLine ∧ Nx (upd H4 D (.lst (acc ++ [y]))) else Nx H3) := by
  refine lc_prsL wk st rs hD hn few hG hs fun Hm ps kvs gm eD pp dd => ?_
  have ed : Hm d = some (.frz od (.dK kt)) := gm _ _ upd_same
  have nDd : D ≠ d := fun z => by rw [z, upd_same] at hD; cases hD
  refine ⟨ed, hd _ ps kvs (Gr.unlock h0 gm) (by rw [upd_ne nDd] at hD; exact hD) (by rw [upd_ne nDd]; exact eD) (pp.mono fun p kv e => by rw [upd_ne fun z => by rw [z, ed] at e; cases e]; exact e) (dd.mono fun v b r => offd _ _ _ _ _ _ r ed)⟩
end
theorem Gx.app {d B : Addr} {H Hm : Hp} {o : HO} (g : Gx d H Hm) (hB : H B = none) : Gx d H (upd Hm B o) := fun b u e n => by rw [upd_ne (ne_of_none e hB)]; exact g b u e n
theorem colL_lenW {ts : List (Str × List Str)} (ok : WT ts) : ∀ (ns : List Str), (∀ n ∈ ns, n ∈ names ts) → (colL ts ns).length ≤ ns.length * 6
  | [], _ => by simp [colL]
  | n :: ns, h => by
    have ih := colL_lenW ok ns fun m hm => h m (List.mem_cons_of_mem _ hm)
    obtain ⟨b, hb⟩ := lk_some (h n List.mem_cons_self)
    have hc : b.length ≤ 6 := (ok.cols _ (lk_mem hb)).1.2
    have e : colL ts (n :: ns) = b ++ colL ts ns := by
      unfold colL
      rw [List.map_cons, List.flatten_cons, hb]
      rfl
    rw [e, List.length_append, List.length_cons, Nat.add_mul]
    omega
end U

/-! U45: what stands while lambdas are handed on; a plain question of its own dicts. -/
namespace U
open PySem PySem.Spec PyProof.Rows L2
section
variable {n : Nat} {o : HO} {x C R : Addr} {H H' : Hp} {a P : Addr} {ts : List (Str × List Str)} {gs : List Str} {zs : List (Str × (Nat × Nat))}
theorem Gx.kp (g : Gx x H H') : Kp x H H' := fun b u e _ nb => g b u e nb
theorem Kp.gr {H2 : Hp} (k : Kp x H H') (g : Gr H' H2) : Kp x H H2 := fun b u e t nb => g _ _ (k b u e t nb)
theorem Kp.app {B : Addr} {Hm : Hp} {p : HO} (g : Kp x H Hm) (hB : H B = none) : Kp x H (upd Hm B p) := fun b u e t nb => by rw [upd_ne (ne_of_none e hB)]; exact g b u e t nb
theorem LstS.kp {v : V} {xs : List Str} (h : LstS H v xs) (hd : H x = some o) (D : Dice n o) (f : Kp x H H') : LstS H' v xs := by
  obtain ⟨b, e, k⟩ := h
  exact ⟨b, e, f _ _ k (fun _ z => by cases z) fun z => by rw [z, hd] at k; exact strs_no_dice D xs (Option.some.inj k)⟩
theorem PQ.kp {v : V} {r : Nat × Nat} (h : PQ H v r) (hd : H x = some o) (D : Dice n o) (f : Kp x H H') : PQ H' v r := by
  obtain ⟨b, e, k⟩ := h
  exact ⟨b, e, f _ _ k (fun _ z => by cases z) (tup_ne hd D k)⟩
theorem dK_kp {b : Addr} {kv : List (Key × V)} (e : H b = some (.dK kv)) (hd : H x = some o) (D : Dice n o) (f : Kp x H H') : H' b = some (.dK kv) := f _ _ e (fun _ z => by cases z) fun z => by
  obtain ⟨i, j, k, rfl, _⟩ := D
  rw [z, hd] at e
  cases e
theorem QO.kp (h : QO C R H a ts gs zs) (hx : H x = some o) (D : Dice n o) (f : Kp x H H') : QO C R H' a ts gs zs := by
  obtain ⟨dx, d, q, e, c, l, kvs, kz, ha, hd, hk, hg, he, hz, hc, hl, r⟩ := h
  refine ⟨dx, d, q, e, c, l, kvs, kz, f _ _ ha (fun _ z => by cases z) (dice_ne hx D ha), dK_kp hd hx D f, hk.mono fun v b r => ?_, f _ _ hg (fun _ z => by cases z) (tup_ne hx D hg), dK_kp he hx D f, hz.mono fun v b r => ?_, f _ _ hc (fun _ z => by cases z) (tup_ne hx D hc), f _ _ hl (fun _ z => by cases z) (tup_ne hx D hl), r⟩
  · obtain ⟨w, ew, hw⟩ := r
    exact ⟨w, ew, f _ _ hw (fun _ z => by cases z) (tup_ne hx D hw)⟩
  · exact IsR.kp r f hx D
theorem PlainQ.kp (h : PlainQ H P ts gs zs) (hx : H x = some o) (D0 : Dice n o) (f : Kp x H H') : PlainQ H' P ts gs zs := by
  obtain ⟨D, G, S, kt, kz, kp, hP, hk, hD, hkt, hG, hS, hkz, ne⟩ := h
  exact ⟨D, G, S, kt, kz, kp, dK_kp hP hx D0 f, hk, dK_kp hD hx D0 f, hkt.mono fun v b r => LstS.kp r hx D0 f, f _ _ hG (fun _ z => by cases z) (fun z => by rw [z, hx] at hG; exact strs_no_dice D0 gs (Option.some.inj hG)), dK_kp hS hx D0 f, hkz.mono fun v b r => PQ.kp r hx D0 f, ne⟩
end
/-- tables stand what is stored elsewhere -/
theorem tabs_off {T : List (Addr × Str)} {H : Hp} {D : Addr} {kv : List (Key × V)} {o : HO} (t : LamX.Tabs T H) (hD : H D = some (.dK kv)) : LamX.Tabs T (upd H D o) := fun p hp => by
  obtain ⟨ps, h1, h2, h3⟩ := t p hp
  refine ⟨ps, by rw [upd_ne fun z => by rw [z, hD] at h1; cases h1]; exact h1, h2, fun pos cv hc => ?_⟩
  obtain ⟨c, e1, e2⟩ := h3 pos cv hc
  exact ⟨c, e1, by rw [upd_ne fun z => by rw [z, hD] at e2; cases e2]; exact e2⟩
/-- a plain question of dicts of its own -/
def PlainN (H0 H : Hp) (F D G S : Addr) (ts : List (Str × List Str)) (gs : List Str) (zs : List (Str × (Nat × Nat))) : Prop :=
  ∃ (kt kz : List (Key × V)), H F = some (.dK (plk D G S)) ∧ H D = some (.dK kt) ∧ DRel LstS H kt ts ∧ H G = some (.lst (gs.map V.str)) ∧ H S = some (.dK kz) ∧ DRel PQ H kz zs ∧ (F ≠ D ∧ F ≠ S ∧ D ≠ S) ∧ H0 F = none ∧ H0 D = none ∧ H0 S = none
section
variable {n : Nat} {o : HO} {x : Addr} {H0 H H' : Hp} {F D G S : Addr} {ts : List (Str × List Str)} {gs : List Str} {zs : List (Str × (Nat × Nat))}
theorem PlainN.q (h : PlainN H0 H F D G S ts gs zs) : PlainQ H F ts gs zs := by
  obtain ⟨kt, kz, hF, hD, dt, hG, hS, dz, ⟨n1, n2, n3⟩, _⟩ := h
  exact ⟨D, G, S, kt, kz, _, hF, ⟨plk_t, plk_g, plk_s⟩, hD, dt, hG, hS, dz, n1, n2, n3⟩
theorem PlainN.up (h : PlainN H0 H F D G S ts gs zs) (g : Gr H H') : PlainN H0 H' F D G S ts gs zs := by
  obtain ⟨kt, kz, hF, hD, dt, hG, hS, dz, r⟩ := h
  exact ⟨kt, kz, g _ _ hF, g _ _ hD, dt.mono fun v b r => LstS.up r g, g _ _ hG, g _ _ hS, dz.mono fun v b r => PQ.up r g, r⟩
theorem PlainN.kp (h : PlainN H0 H F D G S ts gs zs) (hx : H x = some o) (D0 : Dice n o) (f : Kp x H H') : PlainN H0 H' F D G S ts gs zs := by
  obtain ⟨kt, kz, hF, hD, dt, hG, hS, dz, r⟩ := h
  exact ⟨kt, kz, dK_kp hF hx D0 f, dK_kp hD hx D0 f, dt.mono fun v b r => LstS.kp r hx D0 f, f _ _ hG (fun _ z => by cases z) (fun z => by rw [z, hx] at hG; exact strs_no_dice D0 gs (Option.some.inj hG)), dK_kp hS hx D0 f, dz.mono fun v b r => PQ.kp r hx D0 f, r⟩
end
/-- what can be asked of a plain question, whether or not there is a question of it -/
structure WP (ts : List (Str × List Str)) (gs : List Str) (zs : List (Str × (Nat × Nat))) : Prop where
  t : WT ts
  g : WG gs
  z : OKZ (names ts) zs
  nz : names zs = names ts
  low : ∀ z ∈ zs, Nat.gcd z.2.1 z.2.2 = 1
theorem WP.okp {ts : List (Str × List Str)} {gs : List Str} {zs : List (Str × (Nat × Nat))} (w : WP ts gs zs) (h : (okTB ts && okGB ts gs) = true) : OKP ts gs zs := by
  rw [Bool.and_eq_true] at h
  have t := w.t.okt h.1
  exact ⟨t, w.g.okg t h.2, w.z, w.nz, w.low⟩
theorem OKP.wp {ts : List (Str × List Str)} {gs : List Str} {zs : List (Str × (Nat × Nat))} (o : OKP ts gs zs) : WP ts gs zs := ⟨o.t.wt, o.g.wg, o.z, o.nz, o.low⟩
def nine : List Str := ["a", "b", "c", "d", "x", "zz", "e", "f", "g"]
theorem nine_nm : ∀ z ∈ nine, Nm z := by
  have h : nine.all nmB = true := by decide +kernel
  exact fun z hz => List.all_eq_true.mp h z hz
theorem nine_nd : nine.Nodup := by decide +kernel
end U

/-! U46: a question changed beside a plain question changed. -/
namespace U
open PySem PySem.Spec PyProof.Rows L2
theorem srtT_ext {ts us : List (Str × List Str)} (n : (names ts).Perm (names us)) (l : ∀ x, lk ts x = lk us x) : srtT ts = srtT us := by
  unfold srtT
  rw [byName_congr l, srt_congr n]
theorem srtZ_ext {ns ms : List Str} {zs ys : List (Str × (Nat × Nat))} (p : ns.Perm ms) (l : ∀ x, (lk zs x).getD (1, 1) = (lk ys x).getD (1, 1)) : srtZ ns zs = srtZ ms ys := by
  unfold srtZ
  rw [srt_congr p]
  exact List.map_congr_left fun n _ => by rw [l]
theorem perm_ext {ts us : List (Str × List Str)} (n1 : (names ts).Nodup) (n : (names ts).Perm (names us)) (l : ∀ x, lk ts x = lk us x) : ts.Perm us := by
  have e := srtT_ext n l
  have p := srtT_perm n1
  rw [e] at p
  exact p.symm.trans (srtT_perm (n.nodup_iff.mp n1))
theorem okTB_perm {ts us : List (Str × List Str)} (p : ts.Perm us) : okTB ts = okTB us := by
  unfold okTB
  rw [p.length_eq, cols_perm p]
theorem okGB_perm {ts us : List (Str × List Str)} (p : ts.Perm us) (gs : List Str) : okGB ts gs = okGB us gs := by
  unfold okGB
  rw [cols_perm p]
theorem put_names {β : Type} {ts us : List (Str × β)} (p : (names ts).Perm (names us)) (x : Str) (b c : β) : (names (putA ts x b)).Perm (names (putA us x c)) := by
  by_cases h : x ∈ names ts
  · rw [putA_names_in h, putA_names_in (p.mem_iff.mp h)]
    exact p
  · rw [putA_new h, putA_new fun z => h (p.mem_iff.mpr z)]
    unfold names at p ⊢
    rw [List.map_append, List.map_append]
    exact p.append (List.Perm.refl _)
theorem put_nd {β : Type} {ts : List (Str × β)} (nd : (names ts).Nodup) (x : Str) (b : β) : (names (putA ts x b)).Nodup := by
  by_cases h : x ∈ names ts
  · rw [putA_names_in h]; exact nd
  · rw [putA_new h]
    unfold names at *
    rw [List.map_append]
    exact List.nodup_append.mpr ⟨nd, List.pairwise_singleton _ _, fun y hy z hz e => h (by rw [List.mem_singleton.mp hz] at e; rw [← show y = x from e]; exact hy)⟩
theorem put_nz {β γ : Type} {ts : List (Str × β)} {zs : List (Str × γ)} (nz : names zs = names ts) (x : Str) (b : β) (c : γ) : names (putA zs x c) = names (putA ts x b) := by
  by_cases h : x ∈ names ts
  · rw [putA_names_in h, putA_names_in (by rw [nz]; exact h), nz]
  · rw [putA_new h, putA_new (by rw [nz]; exact h)]
    unfold names at *
    rw [List.map_append, List.map_append, nz]
    rfl
/-- what the question behind a change is told by, and what the plain question is -/
structure Like (A : List (Str × List Str)) (Z : List (Str × (Nat × Nat))) (ts : List (Str × List Str)) (zs : List (Str × (Nat × Nat))) : Prop where
  p : A.Perm ts
  t : srtT A = srtT ts
  z : srtZ (names A) Z = srtZ (names ts) zs
theorem Like.ok {A : List (Str × List Str)} {Z : List (Str × (Nat × Nat))} {ts : List (Str × List Str)} {zs : List (Str × (Nat × Nat))} (k : Like A Z ts zs) (gs : List Str) : (okTB A && okGB A gs) = (okTB ts && okGB ts gs) := by
  rw [okTB_perm k.p, okGB_perm k.p]
section
variable {ts : List (Str × List Str)} {gs : List Str} {zs : List (Str × (Nat × Nat))}
theorem OKP.ndz (o : OKP ts gs zs) : (names zs).Nodup := by rw [o.nz]; exact o.t.nd
theorem OKP.permZ (o : OKP ts gs zs) : (srtZ (names ts) zs).Perm zs := byName_perm o.ndz (by rw [o.nz]; exact srt_perm _)
theorem OKP.lkT (o : OKP ts gs zs) (x : Str) : lk (srtT ts) x = lk ts x := (lk_perm o.t.nd (srtT_perm o.t.nd).symm x).symm
theorem OKP.lkZ (o : OKP ts gs zs) (x : Str) : lk (srtZ (names ts) zs) x = lk zs x := (lk_perm o.ndz o.permZ.symm x).symm
theorem OKP.namesT (o : OKP ts gs zs) : (names (srtT ts)).Perm (names ts) := by rw [srtT_names]; exact srt_perm _
/-- another table, or other columns of one -/
theorem like_table (o : OKP ts gs zs) (x : Str) (cs : List Str) : Like (putA (srtT ts) x cs) (srtZ (names ts) zs) (putA ts x cs) (putA zs x ((lk zs x).getD (1, 1))) := by
  have n := put_names o.namesT x cs cs
  have l : ∀ y, lk (putA (srtT ts) x cs) y = lk (putA ts x cs) y := fun y => by rw [lk_put, lk_put, o.lkT]
  refine ⟨perm_ext (put_nd (by rw [srtT_names]; exact srt_nodup o.t.nd) x cs) n l, srtT_ext n l, srtZ_ext n fun y => ?_⟩
  rw [lk_put, o.lkZ]
  by_cases h : x = y
  · rw [if_pos h, h]; rfl
  · rw [if_neg h]
/-- another size -/
theorem like_size (o : OKP ts gs zs) (x : Str) (r : Nat × Nat) : Like (srtT ts) (putA (srtZ (names ts) zs) x r) ts (putA zs x r) := by
  refine ⟨srtT_perm o.t.nd, srtT_ext o.namesT ?_, srtZ_ext o.namesT fun y => by rw [lk_put, lk_put, o.lkZ]⟩
  exact fun y => o.lkT y
/-- other groups -/
theorem like_same (o : OKP ts gs zs) : Like (srtT ts) (srtZ (names ts) zs) ts zs :=
  ⟨srtT_perm o.t.nd, srtT_ext o.namesT o.lkT, srtZ_ext o.namesT fun y => by rw [o.lkZ]⟩
end
section
variable {J : It} {n : Nat} {G : Hp → Prop} {Y : Nat → Hp → V → Hp → Prop} {β : Type}
/-- [(text, value) for … if …]: a list of pairs, told by those of rs that are kept -/
theorem lc_prsF (wk : Walk J n G Y) {g : TG} {tt : TT} {te : TE} {vs : List Nat} {σ : L2.St} {H1 : Hp} {D : Addr} {Qd : Hp → Prop} {R : Hp → V → β → Prop} (st : StaD R D) (rs : List (Str × β)) (keep : Str × β → Bool) (hD : H1 D = none) (hn : rs.length = n) (few : n ≤ 1000) (hG : ∀ H, Gr H1 H → G H)
    (hs : ∀ i x Hm H' t (Q : VK) (E3 : Hp → Prop), i < n → Gr H1 Hm → (∃ L, Hm D = some (.lst L)) → Y i Hm x H' → rs[i]? = some t → (keep t = true → ∀ H4 a v, Gr Hm H4 → H4 a = some (.tup [.str t.1, v]) → R H4 v t.2 → Q (.ref a) H4) → (keep t = false → ∀ H4, Gr Hm H4 → E3 H4) →
      g x (wipe σ vs) H' fun σ2 H2 => wipe σ2 vs = wipe σ vs ∧ tt σ2 H2 fun b H3 => if b = true then te σ2 H3 Q else E3 H3)
    (hd : ∀ (Hm : Hp) (ps : List Addr) (kvs : List (Key × V)), Gr H1 Hm → Hm D = some (.lst (ps.map V.ref)) → PySem.Paired (fun p kv => Hm p = some (.tup [kV kv.1, kv.2])) ps kvs → DRel R Hm kvs (rs.filter keep) → Qd Hm) :
    ∃ W : Nat → Nat → Hp → Prop, (∃ m, W 0 m (upd H1 D (.lst []))) ∧ ∀ i m H, W i m H →
      (J.stop i H ∧ Qd H) ∨ (J.go i H ∧ ∃ Nx : Hp → Prop, (∀ H', Nx H' → ∃ m', m' < m ∧ W (i + 1) m' H') ∧ ∀ x H', J.yld i H x H' → g x (wipe σ vs) H' fun σ2 H2 => wipe σ2 vs = wipe σ vs ∧ tt σ2 H2 fun b H3 =>
        if b = true then te σ2 H3 fun y H4 => ∃ acc, H4 D = some (.lst acc) ∧ acc.length < sizeLine ∧ Nx (upd H4 D (.lst (acc ++ [y]))) else Nx H3) := by
  refine lc_it wk (fun i Hm => Gr H1 Hm ∧ ∃ (ps : List Addr) (kvs : List (Key × V)), Hm D = some (.lst (ps.map V.ref)) ∧ PySem.Paired (fun p kv => Hm p = some (.tup [kV kv.1, kv.2])) ps kvs ∧ DRel R Hm kvs ((rs.take i).filter keep))
    ⟨Gr.rfl'.up hD, [], [], upd_same, .nil, by rw [List.take_zero]; exact .nil⟩ (fun i H _ p => hG H p.1) ?_ ?_
  · rintro i x Hm H' hi ⟨gm, ps, kvs, eD, pp, dd⟩ y
    have hi2 : i < rs.length := by omega
    have ht : rs[i]? = some rs[i] := by simp [hi2]
    have lp : ps.length ≤ i := by rw [pp.length, dd.1]; exact Nat.le_trans (List.length_filter_le _ _) (by rw [List.length_take]; exact Nat.min_le_left _ _)
    have et : (rs.take (i + 1)).filter keep = (rs.take i).filter keep ++ if keep rs[i] = true then [rs[i]] else [] := by
      rw [List.take_add_one, ht, List.filter_append]
      congr 1
      simp only [Option.toList_some, List.filter_cons, List.filter_nil]
    refine hs i x Hm H' rs[i] _ _ hi gm ⟨_, eD⟩ y ht (fun hk H4 a v g4 e4 r4 => ?_) fun hk H4 g4 => ?_
    · have eD4 := g4 _ _ eD
      refine ⟨_, eD4, small_lt (by rw [List.length_map]; omega), Gr.app hD (gm.trans g4), ps ++ [a], kvs ++ [(.inr rs[i].1, v)], by rw [upd_same, List.map_append]; rfl, ?_, ?_⟩
      · refine PySem.Paired.snoc (pp.mono fun p kv e => ?_) ?_
        · rw [upd_ne fun z => by rw [z, eD] at e; cases e]
          exact g4 _ _ e
        · rw [upd_ne fun z => by rw [z, eD4] at e4; cases e4]
          exact e4
      · rw [et, if_pos hk]
        exact (dd.mono fun v b r => st.off _ _ _ _ (st.up _ _ _ _ g4 r)).snoc (st.off _ _ _ _ r4)
    · refine ⟨gm.trans g4, ps, kvs, g4 _ _ eD, pp.mono fun p kv e => g4 _ _ e, ?_⟩
      rw [et, if_neg (by rw [hk]; exact Bool.false_ne_true), List.append_nil]
      exact dd.mono fun v b r => st.up _ _ _ _ g4 r
  · rintro Hm ⟨gm, ps, kvs, eD, pp, dd⟩
    rw [List.take_of_length_le (by omega)] at dd
    exact hd Hm ps kvs gm eD pp dd
end
theorem staD_of {β : Type} {R : Hp → V → β → Prop} {D : Addr} (up : ∀ H H' v b, Gr H H' → R H v b → R H' v b) (off : ∀ H v b o, R H v b → R (upd H D o) v b) : StaD R D := ⟨up, off⟩
/-- a pair of integers that is not at D -/
def PQN (D : Addr) (H : Hp) (v : V) (r : Nat × Nat) : Prop := ∃ a, v = .ref a ∧ a ≠ D ∧ H a = some (.tup [.int (r.1 : Int), .int (r.2 : Int)])
theorem staD_pq {D : Addr} : StaD (PQN D) D := ⟨fun _ _ _ _ g ⟨a, e, n, h⟩ => ⟨a, e, n, g _ _ h⟩, fun _ _ _ _ ⟨a, e, n, h⟩ => ⟨a, e, n, by rw [upd_ne n]; exact h⟩⟩
theorem PQN.pq {D : Addr} {H : Hp} {v : V} {r : Nat × Nat} (h : PQN D H v r) : PQ H v r := let ⟨a, e, _, k⟩ := h; ⟨a, e, k⟩
end U

/-! U47: iter(tuple), and list(x) by x's own __iter__ and __len__. -/
namespace U
open PySem PySem.Spec PyProof.Rows L2
/-- an iterator over the tuple at t, at its begin -/
def ItT (t it : Addr) : HO := .ext fun h => h.IsTupleIter it t 0
theorem itT_ok {P : Program} {w : World} {H : Hp} {h : Heap} {t it : Addr} (e : h.IsTupleIter it t 0) : ObjOk P w H h it (ItT t it) := ⟨e, by obtain ⟨o, ho, _⟩ := e; exact ⟨o, ho⟩, fun h1 h2 q k => by obtain ⟨o, ho, r⟩ := q; exact ⟨o, k _ ho, r⟩⟩
section
variable {prog : Program} {w : World} {A : Around} {E : Value → Shared → Prop} {s : Shared}
theorem call_iter_tup {t : Addr} {items : Array Value} {Q : Value → Shared → Prop} (hl : s.heap.IsTuple t items) (h : Q (.ref s.heap.objs.size) { s with heap := s.heap.push { cls := .type "tuple_iterator", data := .fields #[.ref t, .int 0 0] } }) : wpAny (model prog w) A (call (.builtin "iter") [.ref t]) Q E s := by
  refine Calls.call_function_entry (by decide +kernel) (by decide +kernel) PySem.W.kdk_entry_iter (PySem.W.kdk_args_iter _) ?_
  unfold Builtin.«iter»
  refine wpAny_bind (m := someArgs "iter" 1 2 _) (wpAny_of_eq (a := [Value.ref t]) (by first | rfl | kernel_rfl!) ?_)
  show wpAny _ _ (pyIter (.ref t) >>= _) _ _ _
  refine wpAny_bind (wpAny_pyIter_tuple hl ?_)
  exact wpAny_pure ⟨_, rfl, h⟩
end
section
variable {X : Cx} {n m : Nat} {f g C : Addr} {fd gd : FuncData} {ps qs : List Str} {sp sq : Sp} {E : XK}
theorem run_1 {n : Nat} {f : Addr} {fd : FuncData} {ps : List Str} {sp : Sp} {E : XK} {Ex : Value → Shared → Prop} {A : Around} {pins : List (Addr × Obj)} {σ : L2.St} {H : Hp} {s : Shared} {Q : VK} {us : List Value} {vs : List V} (F : FnOk X.prog X.w X.K X.mg X.base CX0 n f fd ps sp) (hr : Room n A) (hfr : A.frames = X.A.frames) (hb : L2.Binds X.K fd ps [])
    (I : Inv X pins σ H s) (r : Vals vs us) (h : sp vs H Q E) : wpAny (model X.prog X.w) A (call (.ref f) us) (EP X pins σ (fun v H' => Q v H' ∧ ∀ b o, s.heap.get? b = some o → H b = none → H' b = none)) Ex s := by
  have e0 : Env0 X.prog X.w X.K X.mg X.base A X.stack s H := by
    have e := I.env0
    exact ⟨by rw [hfr]; exact e.frames, e.mod, e.bs, e.bsz, e.funs, e.frf, e.hok, e.bare⟩
  have hl := F.len _ _ _ _ h
  have hb' := hb s us I.kIn (by rw [List.append_nil, ← r.length]; exact hl)
  rw [List.append_nil] at hb'
  refine wpAny_call (codeAny_mono (F.run A X.stack s H ⟨us, []⟩ us vs Q E hr e0 hb' r h) fun r s' hq => ?_)
  cases r with
  | error e => exact hq.elim
  | ok fl =>
    cases fl with
    | ret u =>
      refine I.after ?_
      obtain ⟨v, H', os, bare, un, hok, r, q⟩ := hq
      exact ⟨v, H', os, bare, un, hok, r, q, fun b o e n => un.free b o e n (by simp)⟩
    | next => exact False.elim hq
    | brk => exact False.elim hq
    | cont => exact False.elim hq
/-- len(x) by x's own method, whatever is wished of what is raised -/
theorem len_0 {n : Nat} {f C a : Addr} {fd : FuncData} {ps : List Str} {sp : Sp} {E : XK} {Ex : Value → Shared → Prop} {A : Around} {pins : List (Addr × Obj)} {σ : L2.St} {H : Hp} {s : Shared} {Q : VK} {dx : Addr} {fs : List (Str × V)} (m : Meth X.K C "__len__" f) (F : FnOk X.prog X.w X.K X.mg X.base CX0 n f fd ps sp) (hr : Room (n + 1) A) (hfr : A.frames = X.A.frames) (hb : L2.Binds X.K fd ps [])
    (I : Inv X pins σ H s) (ha : H a = some (.ins C dx fs)) (hs : sp [.ref a] H (fun v H' => ∃ k : Nat, v = .int (k : Int) ∧ k ≤ 1000000 ∧ Q (.int (k : Int)) H') E) : wpAny (model X.prog X.w) A (call (.builtin "len") [.ref a]) (EP X pins σ fun v H' => ∃ k : Nat, v = .int (k : Int) ∧ k ≤ 1000000 ∧ Q (.int (k : Int)) H') Ex s := by
  obtain ⟨mA, J, _⟩ := ins_get I.hok ha
  obtain ⟨od, J, _⟩ := J.look
  refine Calls.call_function_entry kind_len plain_len entry_len (args_len1 _) ?_
  unfold Builtin.«len»
  refine wpAny_bind (m := oneArg "len" _) (wpAny_pure ?_)
  refine wpAny_bind (m := callSpecial? (.ref a) (Str.ofString "__len__")) (PySem.W.special_fn I.kIn J m.at_ (beq_iff_eq.mp m.fn) ?_)
  refine wpAny_mono (run_1 F (Room.in1 hr) hfr hb I (show Vals [V.ref a] [Value.ref a] from .cons rfl .nil) hs) (fun v s' q => ?_) fun _ _ z => z
  obtain ⟨x, H', I', rv, ⟨k, rfl, hk, q⟩, _⟩ := q
  obtain ⟨t, rfl⟩ := (show ∃ t, v = Value.int (k : Int) t from rv)
  refine wpAny_bind (wpAny_holding (wpAny_pure (wpAny_bind (wpAny_letGo ?_))))
  show wpAny _ _ (if (k : Int) < 0 then _ else _) _ _ _
  rw [if_neg (by omega)]
  show wpAny _ _ (if (k : Int) ≥ 2 ^ 63 then _ else _) _ _ _
  rw [if_neg (by omega)]
  exact wpAny_bind (wpAny_mkInt (wpAny_pure ⟨_, rfl, .int (k : Int), H', I'.tok _, ⟨_, rfl⟩, k, rfl, hk, q⟩))
/-- iter(x), x a tuple -/
def rIterT (K : PySem.W.Frag) : List V → Hp → VK → Prop := fun xs H Q => ∃ (t : Addr) (zs : List V), xs = [.ref t] ∧ SqT K H t zs ∧ ∀ it, H it = none → Q (.ref it) (upd H it (ItT t it))
theorem call_iterT : CallR X (.builtin "iter") (rIterT X.K) := by
  intro pins s σ H xs us Q I r h
  obtain ⟨t, zs, rfl, hq, q⟩ := h
  obtain ⟨u, rfl, ru⟩ := vals1 r
  cases (show u = Value.ref t from ru)
  obtain ⟨its, rv, pl, hz⟩ := I.tuple hq
  refine call_iter_tup pl ?_
  exact ⟨.ref s.heap.objs.size, _, I.laid (t' := s.toks) (fun b u e => Heap.get?_push_of_some _ e) (Nat.le_refl _) (itT_ok ⟨_, Heap.get?_push_size _ rfl, rfl, rfl⟩), rfl, q _ (I.hok.fresh (Nat.le_refl _))⟩
/-- an untracked thing that was not there at the entry has turned -/
theorem turn_new {pins : List (Addr × Obj)} {σ : L2.St} {H : Hp} {s : Shared} {h' : Heap} {t' : Nat} {it : Addr} (I : Inv X pins σ H s) (k : ∀ b o, b ≠ it → s.heap.get? b = some o → h'.get? b = some o) (hn : H it = none) (hL : it ≠ X.env.locals)
    (h1 : it ∈ X.ex ∨ X.s_0.heap.get? it = none) (h2 : ∀ x c, X.env.cells.lookup x = some c → c ≠ it) (h3 : ∀ p ∈ X.pn ++ pins, p.1 ≠ it) : Inv X pins σ H { s with heap := h', toks := t' } := by
  have nit : ∀ b u, H b = some u → b ≠ it := fun b u e z => by rw [z, hn] at e; cases e
  have old : ∀ b o, X.s_0.heap.get? b = some o → b ∉ X.ex → b ≠ it := fun b o e nx z => by
    rcases h1 with h | h
    · exact nx (z ▸ h)
    · rw [z, h] at e
      cases e
  refine ⟨I.ok, I.os, I.bare, ⟨fun b o e n f x => k b o (old b o e x) (I.base.keep b o e n f x), fun b o e n f x => ?_, I.base.free, fun b o e x => ?_, I.base.tups, I.base.frzs, I.base.tbls⟩, ?_, fun x c e => ?_, I.free, I.freeC, fun p hp => ?_, fun b u e => ?_, I.len⟩
  · obtain ⟨sl, h⟩ := I.base.slot b o e n f x
    exact ⟨sl, k b _ (old b o e x) h⟩
  · obtain ⟨o', h⟩ := I.base.there b o e x
    exact ⟨o', k b _ (old b o e x) h⟩
  · obtain ⟨m, hm, l⟩ := I.loc
    refine ⟨m, ?_, fun i x v a b c => ?_⟩
    · obtain ⟨o, es, ep, ho, r⟩ := hm
      exact ⟨o, es, ep, k _ o (Ne.symm hL) ho, r⟩
    · obtain ⟨u, ru, lu⟩ := l i x v a b c
      refine ⟨u, ru, ?_⟩
      rcases lu with h | ⟨h, cc, hcc, hce⟩
      · exact .inl h
      · exact .inr ⟨h, cc, hcc, by
          obtain ⟨o, ho, r⟩ := hce
          exact ⟨o, k _ _ (h2 x cc hcc) ho, r⟩⟩
  · obtain ⟨v, o, ho, r⟩ := I.cell x c e
    exact ⟨v, o, k _ _ (h2 x c e) ho, r⟩
  · obtain ⟨e, r⟩ := I.pin p hp
    exact ⟨k _ _ (h3 p hp) e, r⟩
  · refine (I.hok b u e).stay (fun c v hc q => k c v ?_ q) (fun _ q => q) fun _ _ q => q
    rcases hc with z | z
    · rw [z]; exact nit b u e
    · exact nit c _ z
/-- list(x) by x's own methods -/
def uListO (K : PySem.W.Frag) (C : Addr) (sp sq : Sp) (E : XK) : List V → Hp → VK → Prop := fun vs H Q => ∃ (a dx : Addr) (fs : List (Str × V)), vs = [.ref a] ∧ H a = some (.ins C dx fs) ∧ ∀ S, H S = none →
  sp [.ref a] (upd H S (.lst [])) (fun v H1 => ∃ (it t : Addr), v = .ref it ∧ (upd H S (.lst [])) it = none ∧ H1 = upd (upd H S (.lst [])) it (ItT t it) ∧
    sq [.ref a] H1 (fun v H2 => ∃ (k : Nat), v = .int (k : Int) ∧ k ≤ 1000000 ∧ H2 = H1 ∧ ∃ (ys : List V), SqT K H1 t ys ∧ Q (.ref S) (upd H S (.lst ys))) E) E
theorem caListO (mi : Meth X.K C "__iter__" f) (F : FnOk X.prog X.w X.K X.mg X.base CX0 n f fd ps sp) (hr : Room (n + 2) X.A) (hb : L2.Binds X.K fd ps [])
    (ml : Meth X.K C "__len__" g) (G : FnOk X.prog X.w X.K X.mg X.base CX0 m g gd qs sq) (hr2 : Room (m + 3) X.A) (hb2 : L2.Binds X.K gd qs []) (hc : X.calm = true) : CallR X (.type "list") (uListO X.K C sp sq E) := by
  intro pins s σ H xs us Q I r h
  obtain ⟨a, dx, fs, rfl, ha, h⟩ := h
  obtain ⟨u, rfl, ru⟩ := vals1 r
  cases (show u = Value.ref a from ru)
  refine callType_codes (Q₁ := fun obj s₁ => obj = .ref s.heap.objs.size ∧ s₁ = { s with heap := s.heap.push { cls := .type "list", data := .seq #[] } }) PySem.F.called_list (PySem.F.typeCall_list_1 _) PySem.F.entry_list_init
    (code_list_new _ ⟨rfl, rfl⟩) fun obj s₁ h₁ => ?_
  obtain ⟨rfl, rfl⟩ := h₁
  have hS : (s.heap.push { cls := .type "list", data := .seq #[] }).get? s.heap.objs.size = some { cls := .type "list", data := .seq #[] } := Heap.get?_push_size _ rfl
  refine ⟨⟨_, hS, rfl⟩, PySem.F.args_list_init_2 _ _, ?_⟩
  show wpAny _ _ (do let old ← Builtin.List.listItems (.ref s.heap.objs.size); Builtin.List.listUpdate (.ref s.heap.objs.size) (fun _ => #[]); letGo old.toList.reverse; Builtin.List.listExtendWith (.ref s.heap.objs.size) (.ref a) .none) _ _ _
  refine wpAny_bind ?_
  unfold Builtin.List.listItems
  refine wpAny_bind (wpAny_seqItems hS rfl (wpAny_pure ?_))
  show wpAny _ _ (updateSeq s.heap.objs.size (fun _ => #[]) >>= fun _ => letGo (#[] : Array Value).toList.reverse >>= fun _ => Builtin.List.listExtendWith (.ref s.heap.objs.size) (.ref a) .none) _ _ _
  refine wpAny_bind (wpAny_updateSeq hS rfl ?_)
  have hS₂ := Heap.get?_update_self (Obj.mapSeq (fun _ => (#[] : Array Value))) hS rfl
  refine wpAny_bind (wpAny_letGo ?_)
  have hSz : H s.heap.objs.size = none := I.hok.fresh (Nat.le_refl _)
  have nSa : s.heap.objs.size ≠ a := fun z => by rw [z, ha] at hSz; cases hSz
  have I1 : Inv X pins σ (upd H s.heap.objs.size (.lst [])) { s with heap := (s.heap.push { cls := .type "list", data := .seq #[] }).update s.heap.objs.size (Obj.mapSeq (fun _ => (#[] : Array Value))), toks := s.toks } :=
    I.laid (fun b o e => (Heap.get?_update_other _ _ (Nat.ne_of_gt (Heap.lt_size e))).trans (Heap.get?_push_of_some _ e)) (Nat.le_refl _) ⟨by decide, [], _, .nil, hS₂⟩
  have ha1 : (upd H s.heap.objs.size (.lst [])) a = some (.ins C dx fs) := by rw [upd_ne nSa.symm]; exact ha
  have hrun := h _ hSz
  obtain ⟨m0, F0⟩ := I1.fr
  obtain ⟨mA, J, _⟩ := ins_get I1.hok ha1
  obtain ⟨od, J, _⟩ := J.look
  unfold Builtin.List.listExtendWith
  refine wpAny_bind (J.type.here ?_)
  have h1 : Builtin.List.listSameRef (.ref s.heap.objs.size) (.ref a) = false := by simp [Builtin.List.listSameRef, nSa]
  have h2 : (Value.ref C == Value.type "list") = false := rfl
  have h3 : (Value.ref C == Value.type "tuple") = false := rfl
  simp only [h1, h2, h3, Bool.or_false, Bool.false_eq_true, if_false]
  refine wpAny_bind (PySem.W.owit_iter F0 I1.mod.kin J mi.at_ mi.fn ?_)
  refine wpAny_mono (run_1 F (Room.in1 (Room.in1 (hr.mono (by omega)))) rfl hb I1 (show Vals [V.ref a] [Value.ref a] from .cons rfl .nil) hrun) (fun v s' q => ?_) (fun _ _ z => z)
  obtain ⟨x, H1, I', rv, ⟨it, t, rfl, hin, rfl, hs2⟩, fr⟩ := q
  cases (show v = Value.ref it from rv)
  have nitS : it ≠ s.heap.objs.size := fun z => by rw [z, upd_same] at hin; cases hin
  have nia : it ≠ a := fun z => by rw [z, upd_ne nSa.symm, ha] at hin; cases hin
  have hit : upd (upd H s.heap.objs.size (.lst [])) it (ItT t it) it = some (ItT t it) := upd_same
  have ha' : upd (upd H s.heap.objs.size (.lst [])) it (ItT t it) a = some (.ins C dx fs) := by rw [upd_ne nia.symm, upd_ne nSa.symm]; exact ha
  have hi : s'.heap.IsTupleIter it t 0 := (I'.hok it _ hit).1
  have old : it ∈ X.ex ∨ X.s_0.heap.get? it = none := by
    by_cases hx : it ∈ X.ex
    · exact .inl hx
    · refine .inr ?_
      cases e : X.s_0.heap.get? it with
      | none => rfl
      | some o =>
        obtain ⟨o', h⟩ := I1.base.there it o e hx
        have := fr it o' h hin
        rw [hit] at this
        cases this
  unfold PySem.W.OwitIt
  refine wpAny_specialOf hi.typeIs PySem.F.slot_tuple_iterator_next.lookup ?_
  refine wpAny_bind (wpAny_holding ?_)
  unfold Builtin.List.listLengthHint
  obtain ⟨mB, J2, _⟩ := ins_get I'.hok ha'
  obtain ⟨od2, J2, _⟩ := J2.look
  refine wpAny_bind (wpAny_bind (J2.type.here ((PySem.W.looks_findIn I'.kIn ml.at_).here ?_)))
  refine wpAny_ite_split (fun hab => nomatch (show false = true from hab)) (fun _ => ?_)
  refine wpAny_ite_split (fun _ => ?_) (fun hab => absurd rfl hab)
  refine wpAny_bind (wpAny_rule ?_)
  refine wpAny_bind (wpAny_attempt (wpAny_mono (len_0 ml G (Room.in1 (Room.in1 (hr2.mono (by omega)))) rfl hb2 I' ha' (sp := sq) (E := E) (Q := fun v H2 => H2 = upd (upd H s.heap.objs.size (.lst [])) it (ItT t it) ∧ ∃ (ys : List V), SqT X.K (upd (upd H s.heap.objs.size (.lst [])) it (ItT t it)) t ys ∧ Q (.ref s.heap.objs.size) (upd H s.heap.objs.size (.lst ys))) hs2) (fun v s2 q => ?_) fun _ _ z => z))
  obtain ⟨x, H2, I2, rv, k, rfl, hk, rfl, ys, hty, q⟩ := q
  obtain ⟨tk, rfl⟩ := (show ∃ t, v = Value.int (k : Int) t from rv)
  refine wpAny_bind (wpAny_of_eq (a := some (k : Int)) rfl ?_)
  have long : Builtin.List.listTooLong (k : Int).toNat = false := by
    show decide (_ > sizeLine) = false
    exact decide_eq_false (by have := small_ok (n := k) (by omega); rw [Int.toNat_natCast]; omega)
  refine wpAny_ite_split (fun hab => absurd (hab.symm.trans long) (by decide)) (fun _ => ?_)
  refine wpAny_pure ?_
  have hSl : upd (upd H s.heap.objs.size (.lst [])) it (ItT t it) s.heap.objs.size = some (.lst []) := by rw [upd_ne nitS.symm, upd_same]
  obtain ⟨_, its0, c0, rv0, hS0⟩ := (show ObjOk X.prog X.w _ s2.heap s.heap.objs.size (.lst []) from I2.hok _ _ hSl)
  cases rv0
  have hi2 : s2.heap.IsTupleIter it t 0 := (I2.hok it _ hit).1
  obtain ⟨its, rvt, pl, hz⟩ := I2.tuple hty
  have nti : t ≠ it := fun z => by
    obtain ⟨o, ho, hcl, _⟩ := id hi2
    obtain ⟨o2, ho2, hcl2, _⟩ := id pl
    rw [z, ho] at ho2
    cases ho2
    rw [hcl] at hcl2
    injection hcl2 with e
    exact absurd e (by decide)
  have nSt : s.heap.objs.size ≠ t := fun z => by
    obtain ⟨o2, ho2, hcl2, _⟩ := id pl
    rw [← z, hS0] at ho2
    cases ho2
    injection hcl2 with e
    exact absurd e (by decide)
  have hh : X.A.in1.in1.handled = none := I.ok.hd hc
  have W := (Walks.tuple (prog := X.prog) (w := X.w) (A := X.A.in1.in1) hh it t nti its.toArray).toS
  have lits : its.length ≤ sizeLine := by have := rvt.length; omega
  have key : ∀ (h : Heap) (c₁ tk : Nat), (h.IsTupleIter it t 0 ∧ h.IsTuple t its.toArray) → (∀ b o, b ≠ s.heap.objs.size → s2.heap.get? b = some o → h.get? b = some o) →
      h.get? s.heap.objs.size = some { cls := .type "list", data := .seq #[] c₁ } → codeAny (model X.prog X.w) X.A.in1 (.builtin "list.extend.loop" ⟨[.ref s.heap.objs.size, .ref it, .none], []⟩) (wants (fun r s₂ => r = .none ∧ EP X pins σ Q (Value.ref s.heap.objs.size) s₂) X.xe) { s2 with heap := h, toks := tk } := by
    intro h c₁ tk hst hkp hS₁
    refine codeAny_extend_loopS W (by rw [List.size_toArray]; exact lits) s.heap.objs.size (by simp only [List.mem_cons, List.not_mem_nil, or_false, not_or]; exact ⟨nitS.symm, nSt⟩) .none its.toArray.size 0 _ #[] c₁ rfl (Nat.zero_le _) hst hS₁ (ItemsOf.nil _) fun s3 acc c3 hm hS3 hacc => ?_
    have ea : acc = its.toArray := Array.ext_getElem? fun i => by
      by_cases hlt : i < acc.size
      · rw [Array.getElem?_eq_getElem hlt]
        exact (hacc.2 i acc[i] (Array.getElem?_eq_getElem hlt)).symm
      · have := hacc.1
        rw [Array.getElem?_eq_none (by omega), Array.getElem?_eq_none (by omega)]
    subst ea
    have up := Heap.get?_update_self (fun _ => ({ cls := .type "list", dict := none, data := .seq its.toArray c3, slots := #[] } : Obj)) hS0 rfl
    have J1 : Inv X pins σ (upd (upd (upd H s.heap.objs.size (.lst [])) it (ItT t it)) s.heap.objs.size (.lst ys)) { s2 with heap := s2.heap.update s.heap.objs.size (fun _ => ({ cls := .type "list", dict := none, data := .seq its.toArray c3, slots := #[] } : Obj)), toks := s3.toks } :=
      I2.write (by rw [hSl]; trivial) (.inl rfl) (fun b u nb e => (Heap.get?_update_other _ _ (Ne.symm nb)).trans e) ⟨_, up⟩ ⟨by have := rvt.length; omega, its, c3, rvt, up⟩
    have hit3 : upd (upd (upd H s.heap.objs.size (.lst [])) it (ItT t it)) s.heap.objs.size (.lst ys) it = some (ItT t it) := by rw [upd_ne nitS]; exact hit
    have J2 := ItX.inv_drop J1 hit3
    have hn0 : H it = none := by rw [upd_ne nitS] at hin; exact hin
    have eH : ItX.dropH (upd (upd (upd H s.heap.objs.size (.lst [])) it (ItT t it)) s.heap.objs.size (.lst ys)) it = upd H s.heap.objs.size (.lst ys) := funext fun b => by
      by_cases hb : b = it
      · rw [hb, ItX.dropH_same, upd_ne nitS, hn0]
      · rw [ItX.dropH_ne hb]
        by_cases hs : b = s.heap.objs.size
        · rw [hs, upd_same, upd_same]
        · rw [upd_ne hs, upd_ne hb, upd_ne hs, upd_ne hs]
    rw [eH] at J2
    have J3 := turn_new (h' := s3.heap) (t' := s3.toks) J2 (fun b o nb e => ?_) (by rw [upd_ne nitS, hn0]) (fun z => by have := I2.free; rw [← z, hit] at this; cases this) old (fun x c e z => by have := I2.freeC x c e; rw [z, hit] at this; cases this) (fun p hp z => by have := (I2.pin p hp).2.1; rw [z, hit] at this; cases this)
    · rw [Moved.eq_with hm]
      exact ⟨rfl, .ref s.heap.objs.size, _, J3, rfl, q⟩
    by_cases hs : b = s.heap.objs.size
    · rw [hs] at e ⊢
      rw [up] at e
      rw [← e]
      exact hS3
    · exact hm.heap b o (by simp only [List.mem_cons, List.not_mem_nil, or_false, not_or]; exact ⟨hs, nb⟩) (hkp b o hs ((Heap.get?_update_other _ _ (Ne.symm hs)).symm.trans e))
  refine wpAny_ite_split (fun _ => ?_) (fun _ => wpAny_pure ⟨plainId_quiet PySem.F.plain_extend_loop _, key s2.heap c0 s2.toks ⟨hi2, pl⟩ (fun b o _ e => e) hS0⟩)
  refine wpAny_bind (wpAny_rule ?_)
  refine wpAny_bind ?_
  show wpAny _ _ (updateSeq s.heap.objs.size (·.push .none) >>= fun _ => updateSeq s.heap.objs.size (·.pop)) _ _ _
  refine wpAny_bind (wpAny_updateSeq hS0 rfl ?_)
  have hT₂ := Heap.get?_update_self (Obj.mapSeq (·.push Value.none)) hS0 rfl
  refine wpAny_updateSeq (hz := by seq_fits) hT₂ rfl ?_
  have hT₃ := Heap.get?_update_self (Obj.mapSeq (·.pop)) hT₂ rfl
  have oth : ∀ b o, b ≠ s.heap.objs.size → s2.heap.get? b = some o → ((s2.heap.update s.heap.objs.size (Obj.mapSeq (·.push Value.none))).update s.heap.objs.size (Obj.mapSeq (·.pop))).get? b = some o :=
    fun b o hb e => (Heap.get?_update_other _ _ (Ne.symm hb)).trans ((Heap.get?_update_other _ _ (Ne.symm hb)).trans e)
  refine wpAny_pure ⟨plainId_quiet PySem.F.plain_extend_loop _, key _ _ _ ⟨?_, ?_⟩ oth hT₃⟩
  · obtain ⟨o, ho, r⟩ := hi2
    exact ⟨o, oth _ o nitS ho, r⟩
  · obtain ⟨o, ho, r⟩ := pl
    exact ⟨o, oth _ o nSt.symm ho, r⟩
end
end U

/-! U48: repr of data made of texts: how long, that it may be shown, how deep. -/
namespace U
open PySem PySem.Spec PyProof.Rows L2
theorem shown_sum {n : Nat} : ∀ ds : List PyData, (∀ d ∈ ds, d.shown.length ≤ n) → ((PyData.shownAll ds).map (·.length)).sum ≤ ds.length * n ∧ (PyData.shownAll ds).length = ds.length
  | [], _ => ⟨by simp [PyData.shownAll], by simp [PyData.shownAll]⟩
  | d :: r, h => by
    obtain ⟨h1, h2⟩ := shown_sum r fun z hz => h z (List.mem_cons_of_mem _ hz)
    have h0 := h d (List.mem_cons_self ..)
    have e : PyData.shownAll (d :: r) = d.shown :: PyData.shownAll r := rfl
    rw [e]
    simp only [List.map_cons, List.sum_cons, List.length_cons]
    refine ⟨?_, by omega⟩
    rw [Nat.succ_mul]
    omega
theorem shown_list {n : Nat} {ds : List PyData} (h : ∀ d ∈ ds, d.shown.length ≤ n) : (PyData.list ds).shown.length ≤ ds.length * (n + 2) + 3 := by
  obtain ⟨h1, h2⟩ := shown_sum ds h
  have c := listText_len_le (PyData.shownAll ds)
  show (listText (PyData.shownAll ds)).length ≤ _
  rw [h2] at c
  have : ds.length * (n + 2) = ds.length * n + ds.length * 2 := by rw [← Nat.mul_add]
  omega
theorem shown_tup {n : Nat} {ds : List PyData} (h : ∀ d ∈ ds, d.shown.length ≤ n) : (PyData.tuple ds).shown.length ≤ ds.length * (n + 2) + 3 := by
  obtain ⟨h1, h2⟩ := shown_sum ds h
  have c := tupleText_len_le (PyData.shownAll ds)
  show (tupleText (PyData.shownAll ds)).length ≤ _
  rw [h2] at c
  have : ds.length * (n + 2) = ds.length * n + ds.length * 2 := by rw [← Nat.mul_add]
  omega
theorem shown_txs {m : Nat} {l : List Str} (h : ∀ z ∈ l, Asc z ∧ z.length ≤ m) : ∀ d ∈ txs l, d.shown.length ≤ 10 * m + 2 := fun d hd => by
  obtain ⟨z, hz, rfl⟩ := List.mem_map.mp hd
  obtain ⟨a, b⟩ := h z hz
  have := StrLaws.reprText_len z fun c hc => Nat.lt_of_lt_of_le (a c hc) (by decide)
  show (reprText z).length ≤ _
  omega
theorem able_list : ∀ {ds : List PyData}, (∀ d ∈ ds, d.showable = true) → PyData.showableAll ds = true
  | [], _ => rfl
  | d :: r, h => by
    show (d.showable && PyData.showableAll r) = true
    rw [h d List.mem_cons_self, able_list fun z hz => h z (List.mem_cons_of_mem _ hz)]
    rfl
theorem able_txs (l : List Str) : ∀ d ∈ txs l, d.showable = true := fun d hd => by
  obtain ⟨z, hz, rfl⟩ := List.mem_map.mp hd
  rfl
/-- data that may be laid and are at most k deep -/
def Deep (k : Nat) (d : PyData) : Prop := PyData.canLay0 d = true ∧ PyData.depth d ≤ k
theorem deep_all {k : Nat} : ∀ {ds : List PyData}, (∀ d ∈ ds, Deep k d) → PyData.canLayAll0 ds = true ∧ PyData.depthAll ds ≤ k
  | [], _ => ⟨rfl, Nat.zero_le _⟩
  | d :: r, h => by
    obtain ⟨a, b⟩ := deep_all fun z hz => h z (List.mem_cons_of_mem _ hz)
    obtain ⟨x, y⟩ := h d List.mem_cons_self
    refine ⟨?_, ?_⟩
    · show (PyData.canLay0 d && PyData.canLayAll0 r) = true
      rw [x, a]
      rfl
    · show max (PyData.depth d) (PyData.depthAll r) ≤ k
      omega
theorem deep_txs {l : List Str} (h : ∀ z ∈ l, Asc z) : ∀ d ∈ txs l, Deep 0 d := fun d hd => by
  obtain ⟨x, hx, rfl⟩ := List.mem_map.mp hd
  refine ⟨?_, Nat.le_refl _⟩
  show x.cps.all (· < 0x110000) = true
  rw [Array.all_eq_true_iff_forall_mem]
  intro c hc
  have := h x hx c (Array.mem_toList_iff.mpr hc)
  exact decide_eq_true (by omega)
theorem deep_list {k : Nat} {ds : List PyData} (h : ∀ d ∈ ds, Deep k d) : Deep (k + 1) (.list ds) := by
  obtain ⟨a, b⟩ := deep_all h
  exact ⟨a, by show PyData.depthAll ds + 1 ≤ _; omega⟩
theorem deep_tup {k : Nat} {ds : List PyData} (h : ∀ d ∈ ds, Deep k d) : Deep (k + 1) (.tuple ds) := by
  obtain ⟨a, b⟩ := deep_all h
  exact ⟨a, by show PyData.depthAll ds + 1 ≤ _; omega⟩
theorem Deep.shaped {k : Nat} {d : PyData} (h : Deep k d) (hk : k ≤ 64) : SeqAt.shaped d = true := by
  obtain ⟨a, b⟩ := h
  show (PyData.canLay0 d && decide (PyData.depth d ≤ 64)) = true
  rw [a, decide_eq_true (by omega)]
  rfl
theorem joinN {m k : Nat} {xs : List Str} (hk : xs.length ≤ k) (h : ∀ z ∈ xs, z.length ≤ m) : (Txt.join " " xs).length ≤ k * m + k := by
  rw [TL.join_eq]
  have a := StrLaws.join_length_le " " xs
  have b := sum_len_le xs h
  have c : (" " : Str).length = 1 := by decide
  have d : xs.length * m ≤ k * m := Nat.mul_le_mul_right _ hk
  rw [c] at a
  omega
theorem rtext_len2 {p q : Nat} (hp : p ≤ 1000) (hq : q ≤ 1000) : (rtext (p : Int) (q : Int)).length ≤ 201 := by
  have h1 := num_short (n := (p : Int)) (by rw [Int.natAbs_natCast]; exact Nat.lt_of_le_of_lt hp (by decide))
  have h2 := num_short (n := (q : Int)) (by rw [Int.natAbs_natCast]; exact Nat.lt_of_le_of_lt hq (by decide))
  have l1 : (Str.ofString "/").length = 1 := by decide
  unfold rtext
  split
  · omega
  · rw [app_len, app_len]
    omega
theorem lines_len {A : List (Str × List Str)} {g : List Str} {Z : List (Str × (Nat × Nat))} (t : OKT A) (og : OKG A g) (oz : OKZ (names A) Z) : ∀ z ∈ qLines A g Z, z.length ≤ 300 := fun z hz => by
  unfold qLines at hz
  rcases List.mem_append.mp hz with hz | hz
  · rcases List.mem_append.mp hz with hz | hz
    · obtain ⟨u, hu, rfl⟩ := List.mem_map.mp hz
      have c := (t.cols u hu).1.2
      have := joinN (m := 8) (k := 8) (xs := "table" :: u.1 :: u.2) (by simp only [List.length_cons]; omega) fun y hy => by
        rcases List.mem_cons.mp hy with rfl | hy
        · decide
        rcases List.mem_cons.mp hy with rfl | hy
        · exact (t.nm u hu).len
        · exact ((t.cols u hu).2.2 y hy).len
      show (Txt.join " " ("table" :: u.1 :: u.2)).length ≤ 300
      omega
    · obtain ⟨u, hu, rfl⟩ := List.mem_map.mp hz
      have hu := (List.mem_filter.mp hu).1
      obtain ⟨w, hw, e⟩ := List.mem_map.mp (oz.has u hu)
      have n1 : u.1.length ≤ 8 := by rw [← e]; exact (t.nm w hw).len
      obtain ⟨b1, b2, b3⟩ := oz.let_ u hu
      have r := rtext_len2 (p := u.2.1) (q := u.2.2) (by omega) (by omega)
      have l1 : ("size " : Str).length = 5 := by decide
      have l2 : (" " : Str).length = 1 := by decide
      show (Str.empty ++ "size " ++ u.1 ++ " " ++ rtext (u.2.1 : Int) (u.2.2 : Int)).length ≤ 300
      rw [e_app, app_len, app_len, app_len]
      omega
  · split at hz
    · cases hz
    · obtain rfl := List.mem_singleton.mp hz
      have c := og.few
      have := joinN (m := 8) (k := 9) (xs := "group" :: g) (by simp only [List.length_cons]; omega) fun y hy => by
        rcases List.mem_cons.mp hy with rfl | hy
        · decide
        · exact (og.nm y hy).len
      show (Txt.join " " ("group" :: g)).length ≤ 300
      omega
theorem lines_few {A : List (Str × List Str)} {g : List Str} {Z : List (Str × (Nat × Nat))} (t : OKT A) (nz : names Z = names A) : (qLines A g Z).length ≤ 13 := by
  have few := t.few.2
  have lz : Z.length = A.length := by
    have h := congrArg List.length nz
    simp only [names, List.length_map] at h
    exact h
  unfold qLines
  rw [List.length_append, List.length_append, List.length_map, List.length_map]
  have f := List.length_filter_le (fun z : Str × (Nat × Nat) => decide (z.2 ≠ (1, 1))) Z
  split
  · simp only [List.length_nil]
    omega
  · simp only [List.length_cons, List.length_nil]
    omega
/-- texts of a known length, in a tuple or a list -/
structure TxD (m k : Nat) (l : List Str) : Prop where
  asc : ∀ z ∈ l, Asc z
  len : ∀ z ∈ l, z.length ≤ m
  few : l.length ≤ k
theorem TxD.tup {m k : Nat} {l : List Str} (h : TxD m k l) : (PyData.tuple (txs l)).shown.length ≤ k * (10 * m + 4) + 3 := by
  have a := shown_tup (shown_txs fun z hz => ⟨h.asc z hz, h.len z hz⟩)
  have b : (txs l).length ≤ k := by show (l.map PyData.str).length ≤ k; rw [List.length_map]; exact h.few
  exact Nat.le_trans a (Nat.add_le_add_right (Nat.mul_le_mul_right _ b) 3)
theorem TxD.list {m k : Nat} {l : List Str} (h : TxD m k l) : (PyData.list (txs l)).shown.length ≤ k * (10 * m + 4) + 3 := by
  have a := shown_list (shown_txs fun z hz => ⟨h.asc z hz, h.len z hz⟩)
  have b : (txs l).length ≤ k := by show (l.map PyData.str).length ≤ k; rw [List.length_map]; exact h.few
  exact Nat.le_trans a (Nat.add_le_add_right (Nat.mul_le_mul_right _ b) 3)
end U

/-! U49: a dict just made is locked where it is read, and stays so. -/
namespace U
open PySem PySem.Spec PyProof.Rows L2
section
variable {X : Cx}
def tFrz (te : TE) : TE := fun σ H Q => te σ H fun x H1 => ∃ (d : Addr) (kvs : List (Key × V)), x = .ref d ∧ H1 d = some (.dK kvs) ∧ ∀ od, Q (.ref d) (upd H1 d (.frz od (.dK kvs)))
theorem pe_frz {e : Expr} {te : TE} (h : PE X e te) : PE X e (tFrz te) := by
  refine ⟨fun pins s σ H Q I hw => ?_⟩
  refine thn (h.run pins s σ _ _ I hw) fun v s1 ⟨x, H1, I1, r, d, kvs, ex, hd, q⟩ => ?_
  subst ex
  obtain ⟨od, I2⟩ := I1.lock hd trivial
  exact ⟨_, _, I2, r, q od⟩
end
end U

/-! U50: what is no list of dice stands while only the dice change; a value of a built-in kind, or an instance. -/
namespace U
open PySem PySem.Spec PyProof.Rows L2
/-- surely no dice: by its head -/
def nod : HO → Bool
  | .lst (.int _ :: _) => false
  | _ => true
theorem nod_strs {α : Type} {f : α → Str} (xs : List α) : nod (.lst (xs.map fun x => V.str (f x))) = true := by cases xs <;> rfl
theorem nod_refs (xs : List Addr) : nod (.lst (xs.map V.ref)) = true := by cases xs <;> rfl
theorem nod_ne {n : Nat} {o u : HO} (D : Dice n o) (h : nod u = true) : u ≠ o := by
  obtain ⟨a, b, c, rfl, _⟩ := D
  intro z
  rw [z] at h
  cases h
section
variable {n : Nat} {o u : HO} {d a : Addr} {H H' : Hp}
theorem gx_at (g : ∀ b u, H b = some u → b ≠ d → H' b = some u) (hd : H d = some o) (D : Dice n o) (h : H a = some u) (z : nod u = true) : H' a = some u :=
  g _ _ h fun e => by rw [e, hd] at h; exact nod_ne D z (Option.some.inj h).symm
theorem kp_at (g : Kp d H H') (hd : H d = some o) (D : Dice n o) (h : H a = some u) (t : ∀ ps, u ≠ .tbl ps) (z : nod u = true) : H' a = some u :=
  g _ _ h t fun e => by rw [e, hd] at h; exact nod_ne D z (Option.some.inj h).symm
end
theorem ne_fresh {H : Hp} {a b : Addr} {u : HO} (f : H a = none) (t : H b = some u) : a ≠ b := fun z => by rw [z, t] at f; cases f
theorem ne_objs {H : Hp} {a b : Addr} {u v : HO} (ha : H a = some u) (hb : H b = some v) (n : u = v → False) : a ≠ b := fun z => by rw [z, hb] at ha; exact n (Option.some.inj ha).symm
theorem ne_dice {n : Nat} {H : Hp} {a d : Addr} {o u : HO} (hd : H d = some o) (D : Dice n o) (h : H a = some u) (z : nod u = true) : a ≠ d := fun e => by rw [e, hd] at h; exact nod_ne D z (Option.some.inj h).symm
/-! ### what stands while one object is written -/
section
variable {n : Nat} {o : HO} {d p : Addr} {A X Y H H' : Hp} {kv : List (Key × V)} {v : V} {xs : List Str} {r : Nat × Nat} {C : Addr} {S : String}
theorem Gx.refl (d : Addr) (A : Hp) : Gx d A A := fun _ _ e _ => e
theorem Gx.gx (a : Gx d A X) (g : ∀ b u, X b = some u → b ≠ d → Y b = some u) : Gx d A Y := fun b u e n => g b u (a b u e n) n
theorem Gx.gn (a : Gx d A X) (f : A p = none) (g : ∀ b u, X b = some u → b ≠ p → Y b = some u) : Gx d A Y := fun b u e n => g b u (a b u e n) (ne_of_none e f)
theorem Gr.gn (a : Gr A X) (f : A p = none) (g : ∀ b u, X b = some u → b ≠ p → Y b = some u) : Gr A Y := fun b u e => g b u (a b u e) (ne_of_none e f)
theorem Kp.gx (a : Kp d A X) (g : ∀ b u, X b = some u → b ≠ d → Y b = some u) : Kp d A Y := fun b u e t n => g b u (a b u e t n) n
theorem Kp.gn (a : Kp d A X) (f : A p = none) (g : ∀ b u, X b = some u → b ≠ p → Y b = some u) : Kp d A Y := fun b u e t n => g b u (a b u e t n) (ne_of_none e f)
theorem Kp.kn (a : Kp d A X) (f : A p = none) (g : Kp p X Y) : Kp d A Y := fun b u e t n => g b u (a b u e t n) t (ne_of_none e f)
theorem ext_kn (a : LamX.ExtN A X) (f : A p = none) (g : Kp p X Y) : LamX.ExtN A Y := fun b u e t => g b u (a b u e t) t (ne_of_none e f)
theorem ext_gn (a : LamX.ExtN A X) (f : A p = none) (g : ∀ b u, X b = some u → b ≠ p → Y b = some u) : LamX.ExtN A Y := fun b u e t => g b u (a b u e t) (ne_of_none e f)
theorem Gx.wrote (H : Hp) (p : Addr) (o : HO) : Gx p H (upd H p o) := fun b u e n => by rw [upd_ne n]; exact e
theorem TupS.gxk (h : TupS H v xs) (e : H p = some (.dK kv)) (g : ∀ b u, H b = some u → b ≠ p → H' b = some u) : TupS H' v xs := by
  obtain ⟨a, ea, k⟩ := h
  exact ⟨a, ea, g _ _ k (ne_objs k e fun z => by cases z)⟩
theorem LstS.gxk (h : LstS H v xs) (e : H p = some (.dK kv)) (g : ∀ b u, H b = some u → b ≠ p → H' b = some u) : LstS H' v xs := by
  obtain ⟨a, ea, k⟩ := h
  exact ⟨a, ea, g _ _ k (ne_objs k e fun z => by cases z)⟩
theorem PQ.gxk (h : PQ H v r) (e : H p = some (.dK kv)) (g : ∀ b u, H b = some u → b ≠ p → H' b = some u) : PQ H' v r := by
  obtain ⟨a, ea, k⟩ := h
  exact ⟨a, ea, g _ _ k (ne_objs k e fun z => by cases z)⟩
theorem RatS.gxk (h : RatS C H v r) (e : H p = some (.dK kv)) (g : ∀ b u, H b = some u → b ≠ p → H' b = some u) : RatS C H' v r := by
  obtain ⟨a, dx, ea, k⟩ := h
  exact ⟨a, dx, ea, g _ _ k (ne_objs k e fun z => by cases z)⟩
theorem TupS.gxi (h : TupS H v xs) (e : H d = some o) (D : Dice n o) (g : ∀ b u, H b = some u → b ≠ d → H' b = some u) : TupS H' v xs := by
  obtain ⟨a, ea, k⟩ := h
  exact ⟨a, ea, gx_at g e D k rfl⟩
theorem LstS.gxi (h : LstS H v xs) (e : H d = some o) (D : Dice n o) (g : ∀ b u, H b = some u → b ≠ d → H' b = some u) : LstS H' v xs := by
  obtain ⟨a, ea, k⟩ := h
  exact ⟨a, ea, gx_at g e D k (nod_strs _)⟩
theorem PQ.gxi (h : PQ H v r) (e : H d = some o) (D : Dice n o) (g : ∀ b u, H b = some u → b ≠ d → H' b = some u) : PQ H' v r := by
  obtain ⟨a, ea, k⟩ := h
  exact ⟨a, ea, gx_at g e D k rfl⟩
theorem RatS.gxi (h : RatS C H v r) (e : H d = some o) (D : Dice n o) (g : ∀ b u, H b = some u → b ≠ d → H' b = some u) : RatS C H' v r := by
  obtain ⟨a, dx, ea, k⟩ := h
  exact ⟨a, dx, ea, gx_at g e D k rfl⟩
theorem TupS.kpi (h : TupS H v xs) (e : H d = some o) (D : Dice n o) (g : Kp d H H') : TupS H' v xs := by
  obtain ⟨a, ea, k⟩ := h
  exact ⟨a, ea, kp_at g e D k (fun _ z => by cases z) rfl⟩
theorem LstS.kpi (h : LstS H v xs) (e : H d = some o) (D : Dice n o) (g : Kp d H H') : LstS H' v xs := LstS.kp h e D g
theorem PQ.kpi (h : PQ H v r) (e : H d = some o) (D : Dice n o) (g : Kp d H H') : PQ H' v r := PQ.kp h e D g
theorem RatS.kpi (h : RatS C H v r) (e : H d = some o) (D : Dice n o) (g : Kp d H H') : RatS C H' v r := IsR.kp h g e D
theorem QO.gxi {C R a : Addr} {ts : List (Str × List Str)} {gs : List Str} {zs : List (Str × (Nat × Nat))} (h : QO C R H a ts gs zs) (e : H d = some o) (D : Dice n o) (g : ∀ b u, H b = some u → b ≠ d → H' b = some u) : QO C R H' a ts gs zs := QO.keep h e D g
theorem QO.kpi {C R a : Addr} {ts : List (Str × List Str)} {gs : List Str} {zs : List (Str × (Nat × Nat))} (h : QO C R H a ts gs zs) (e : H d = some o) (D : Dice n o) (g : Kp d H H') : QO C R H' a ts gs zs := QO.kp h e D g
theorem PlainQ.gxi {P : Addr} {ts : List (Str × List Str)} {gs : List Str} {zs : List (Str × (Nat × Nat))} (h : PlainQ H P ts gs zs) (e : H d = some o) (D : Dice n o) (g : ∀ b u, H b = some u → b ≠ d → H' b = some u) : PlainQ H' P ts gs zs := PlainQ.kp h e D (Kp.dice g)
theorem PlainQ.kpi {P : Addr} {ts : List (Str × List Str)} {gs : List Str} {zs : List (Str × (Nat × Nat))} (h : PlainQ H P ts gs zs) (e : H d = some o) (D : Dice n o) (g : Kp d H H') : PlainQ H' P ts gs zs := PlainQ.kp h e D g
end
/-- a new instance, and its dict -/
theorem make_gr {H : Hp} {x dx C : Addr} (hx : H x = none) (hd : H dx = none) (ne : dx ≠ x) : Gr H (upd (upd H dx (.own x)) x (.ins C dx [])) := (Gr.rfl'.up hd).up (by rw [upd_ne ne.symm]; exact hx)
/-- the question's two dicts are new ones -/
def OwnD (C : Addr) (H H' : Hp) (a : Addr) : Prop := ∃ dx d q e c l : Addr, H' a = some (.ins C dx (qf (.ref d) (.ref q) (.ref e) (.ref c) (.ref l))) ∧ H d = none ∧ H e = none
theorem OwnD.up {C : Addr} {H H' H2 : Hp} {a : Addr} (o : OwnD C H H' a) (g : Gr H' H2) : OwnD C H H2 a := by
  obtain ⟨dx, d, q, e, c, l, ha, r⟩ := o
  exact ⟨dx, d, q, e, c, l, g _ _ ha, r⟩
theorem OwnD.gxk {C p : Addr} {H H' H2 : Hp} {a : Addr} {kv : List (Key × V)} (o : OwnD C H H' a) (hp : H' p = some (.dK kv)) (g : ∀ b u, H' b = some u → b ≠ p → H2 b = some u) : OwnD C H H2 a := by
  obtain ⟨dx, d, q, e, c, l, ha, r⟩ := o
  exact ⟨dx, d, q, e, c, l, g _ _ ha (ne_objs ha hp fun z => by cases z), r⟩
/-- a question stands while a dict is written that was there before it -/
theorem QO.gxd {C R p a : Addr} {H0 H H' : Hp} {u : HO} {kv : List (Key × V)} {ts : List (Str × List Str)} {gs : List Str} {zs : List (Str × (Nat × Nat))} (h : QO C R H a ts gs zs) (o : OwnD C H0 H a) (e0 : H0 p = some u) (hp : H p = some (.dK kv)) (g : ∀ b u, H b = some u → b ≠ p → H' b = some u) : QO C R H' a ts gs zs := by
  obtain ⟨dx, d, q, e, c, l, kvs, kz, ha, hd, hk, hg, he, hz, hc, hl, r⟩ := h
  obtain ⟨dx', d', q', e', c', l', ha', hd0, he0⟩ := o
  rw [ha] at ha'
  unfold qf at ha'
  cases ha'
  exact ⟨dx, d, q, e, c, l, kvs, kz, g _ _ ha (ne_objs ha hp fun z => by cases z), g _ _ hd (ne_fresh hd0 e0), hk.mono fun v b r => TupS.gxk r hp g, g _ _ hg (ne_objs hg hp fun z => by cases z), g _ _ he (ne_fresh he0 e0), hz.mono fun v b r => RatS.gxk r hp g, g _ _ hc (ne_objs hc hp fun z => by cases z), g _ _ hl (ne_objs hl hp fun z => by cases z), r⟩
/-- of a built-in kind, or an instance of an own class that is no text -/
def KdO (K : PySem.W.Frag) (H : Hp) (v : V) (T : String) : Prop := Kd K H v T ∨ (T = "own" ∧ ∃ (a C dx : Addr) (fs : List (Str × V)), v = .ref a ∧ H a = some (.ins C dx fs) ∧ OwnC K C ∧ PySem.W.subIn K (.ref C) (.type "str") = some false)
instance {K : PySem.W.Frag} {H : Hp} {v : V} {T : String} : Coe (Kd K H v T) (KdO K H v T) := ⟨.inl⟩
theorem KdO.up {K : PySem.W.Frag} {H H' : Hp} {v : V} {T : String} (h : KdO K H v T) (g : Gr H H') : KdO K H' v T := by
  rcases h with h | ⟨e, a, C, dx, fs, e2, h, r⟩
  · exact .inl (h.up g)
  · exact .inr ⟨e, a, C, dx, fs, e2, g _ _ h, r⟩
end U

/-! U51: a question's lines tell the question. -/
namespace U
open PySem PySem.Spec PyProof.Rows L2
theorem num_no32 (n : Int) : 32 ∉ (Str.ofString (toString n)).cps.toList := fun h => by
  rw [num_list] at h
  rcases List.mem_append.mp h with h | h
  · by_cases q : n < 0
    · rw [if_pos q] at h; simp at h
    · rw [if_neg q] at h; cases h
  · have := digits_are n.natAbs 32 h
    omega
theorem rtext_no32 (p q : Int) : 32 ∉ (rtext p q).cps.toList := fun h => by
  unfold rtext at h
  split at h
  · exact num_no32 _ h
  · rw [app_list, app_list] at h
    rcases List.mem_append.mp h with h | h
    · rcases List.mem_append.mp h with h | h
      · exact num_no32 _ h
      · revert h; decide
    · exact num_no32 _ h
theorem rtext_inj {p q p' q' : Int} (hp : p.natAbs < 10 ^ 60) (hq : q.natAbs < 10 ^ 60) (hp' : p'.natAbs < 10 ^ 60) (hq' : q'.natAbs < 10 ^ 60) (e : rtext p q = rtext p' q') : p = p' ∧ q = q' := by
  by_cases h : q = 1
  · have e2 : rtext p q = Str.ofString (toString p) := by unfold rtext; rw [if_pos h]
    rw [e2] at e
    obtain ⟨h1, h2⟩ := rat_plain (num_no47 p) e
    exact ⟨num_inj hp hp' h2, h.trans h1.symm⟩
  · have e2 : rtext p q = Str.ofString (toString p) ++ Str.ofString "/" ++ Str.ofString (toString q) := by unfold rtext; rw [if_neg h]
    rw [e2] at e
    obtain ⟨_, h2, h3⟩ := rat_slash (num_no47 p) e
    exact ⟨num_inj hp hp' h2, num_inj hq hq' h3⟩
theorem Nm.no32 {z : Str} (h : Nm z) : 32 ∉ z.cps.toList := fun k => by
  have h : (_ && List.all _ _) = true := h
  rw [Bool.and_eq_true, List.all_eq_true] at h
  have := of_decide_eq_true (h.2 32 k)
  revert this
  decide
/-- words without a space, put together and cut again -/
theorem split_words {ws : List Str} (hn : ws ≠ []) (h : ∀ z ∈ ws, 32 ∉ z.cps.toList) : Txt.split (Txt.join " " ws) " " = ws :=
  TL.split_join (s := 32) (S := []) (by decide) (by decide +kernel) hn h
def zWords (z : Str × (Nat × Nat)) : List Str := ["size", z.1, rtext (z.2.1 : Int) (z.2.2 : Int)]
theorem zline_join (z : Str × (Nat × Nat)) : zline z = Txt.join " " (zWords z) := by
  rw [TL.join_eq]
  show Str.empty ++ ("size " : Str) ++ z.1 ++ (" " : Str) ++ rtext _ _ = ("size" : Str) ++ " " ++ (z.1 ++ " " ++ rtext _ _)
  refine str_ext ?_
  have e1 : ("size " : Str).cps.toList = ("size" : Str).cps.toList ++ (" " : Str).cps.toList := by decide +kernel
  rw [e_app]
  simp only [app_list, e1, List.append_assoc]
def qWords (A : List (Str × List Str)) (g : List Str) (Z : List (Str × (Nat × Nat))) : List (List Str) :=
  A.map (fun t => ("table" : Str) :: t.1 :: t.2) ++ (Z.filter fun z => decide (z.2 ≠ (1, 1))).map zWords ++ if g = [] then [] else [("group" : Str) :: g]
theorem qLines_words (A : List (Str × List Str)) (g : List Str) (Z : List (Str × (Nat × Nat))) : qLines A g Z = (qWords A g Z).map (Txt.join " ") := by
  unfold qLines qWords
  rw [List.map_append, List.map_append, List.map_map, List.map_map]
  have e1 : (Z.filter fun z => decide (z.2 ≠ (1, 1))).map zline = (Z.filter fun z => decide (z.2 ≠ (1, 1))).map (Txt.join " " ∘ zWords) := List.map_congr_left fun z _ => zline_join z
  have e2 : (if g = [] then [] else [gline g]) = (if g = [] then [] else [("group" : Str) :: g]).map (Txt.join " ") := by split <;> rfl
  rw [e1, e2]
  rfl
theorem qWords_ok {A : List (Str × List Str)} {g : List Str} {Z : List (Str × (Nat × Nat))} (q : QQ A g Z) : ∀ ws ∈ qWords A g Z, ws ≠ [] ∧ ∀ z ∈ ws, 32 ∉ z.cps.toList := by
  intro ws h
  have t1 : 32 ∉ ("table" : Str).cps.toList := by decide
  have t2 : 32 ∉ ("size" : Str).cps.toList := by decide
  have t3 : 32 ∉ ("group" : Str).cps.toList := by decide
  unfold qWords at h
  rcases List.mem_append.mp h with h | h
  · rcases List.mem_append.mp h with h | h
    · obtain ⟨t, ht, rfl⟩ := List.mem_map.mp h
      refine ⟨by simp, fun z hz => ?_⟩
      rcases List.mem_cons.mp hz with rfl | hz
      · exact t1
      · rcases List.mem_cons.mp hz with rfl | hz
        · exact (q.t.nm t ht).no32
        · exact ((q.t.cols t ht).2.2 z hz).no32
    · obtain ⟨t, ht, rfl⟩ := List.mem_map.mp h
      have tm : t.1 ∈ names A := by rw [← q.nz]; exact List.mem_map_of_mem (List.mem_filter.mp ht).1
      refine ⟨by unfold zWords; simp, fun z hz => ?_⟩
      unfold zWords at hz
      rcases List.mem_cons.mp hz with rfl | hz
      · exact t2
      · rcases List.mem_cons.mp hz with rfl | hz
        · exact (names_nm q.t _ tm).no32
        · obtain rfl := List.mem_singleton.mp hz
          exact rtext_no32 _ _
  · by_cases e : g = []
    · rw [if_pos e] at h; cases h
    · rw [if_neg e] at h
      obtain rfl := List.mem_singleton.mp h
      refine ⟨by simp, fun z hz => ?_⟩
      rcases List.mem_cons.mp hz with rfl | hz
      · exact t3
      · exact (q.g.nm z hz).no32
theorem map_inj_on {α β : Type} {f : α → β} {p : β → α} : ∀ {xs ys : List α}, (∀ x ∈ xs, p (f x) = x) → (∀ y ∈ ys, p (f y) = y) → xs.map f = ys.map f → xs = ys
  | [], [], _, _, _ => rfl
  | [], _ :: _, _, _, h => by simp at h
  | _ :: _, [], _, _, h => by simp at h
  | x :: xs, y :: ys, hx, hy, h => by
    rw [List.map_cons, List.map_cons] at h
    obtain ⟨h1, h2⟩ := List.cons.inj h
    have e : x = y := by rw [← hx x List.mem_cons_self, ← hy y List.mem_cons_self, h1]
    rw [e, map_inj_on (fun z hz => hx z (List.mem_cons_of_mem _ hz)) (fun z hz => hy z (List.mem_cons_of_mem _ hz)) h2]
theorem qWords_eq {A B : List (Str × List Str)} {g h : List Str} {Z Y : List (Str × (Nat × Nat))} (qa : QQ A g Z) (qb : QQ B h Y) (e : qLines A g Z = qLines B h Y) : qWords A g Z = qWords B h Y := by
  rw [qLines_words, qLines_words] at e
  exact map_inj_on (p := fun x => Txt.split x " ") (fun ws hw => split_words (qWords_ok qa ws hw).1 (qWords_ok qa ws hw).2) (fun ws hw => split_words (qWords_ok qb ws hw).1 (qWords_ok qb ws hw).2) e
/-- the words of one kind -/
def kindW (k : Str) (ws : List (List Str)) : List (List Str) := ws.filter fun w => decide (w.head? = some k)
theorem kindW_all {α : Type} {k : Str} {f : α → List Str} (h : ∀ x, (f x).head? = some k) (xs : List α) : kindW k (xs.map f) = xs.map f := by
  unfold kindW
  exact List.filter_eq_self.mpr fun w hw => by
    obtain ⟨x, _, rfl⟩ := List.mem_map.mp hw
    exact decide_eq_true (h x)
theorem kindW_no {α : Type} {k m : Str} {f : α → List Str} (h : ∀ x, (f x).head? = some m) (n : m ≠ k) (xs : List α) : kindW k (xs.map f) = [] := by
  unfold kindW
  exact List.filter_eq_nil_iff.mpr fun w hw => by
    obtain ⟨x, _, rfl⟩ := List.mem_map.mp hw
    rw [h x]
    simpa using n
theorem kindW_app (k : Str) (a b : List (List Str)) : kindW k (a ++ b) = kindW k a ++ kindW k b := List.filter_append ..
theorem kindW_g (k : Str) (g : List Str) : kindW k (if g = [] then [] else [("group" : Str) :: g]) = if g = [] then [] else if k = "group" then [("group" : Str) :: g] else [] := by
  by_cases e : g = []
  · rw [if_pos e, if_pos e]; rfl
  · rw [if_neg e, if_neg e]
    unfold kindW
    rw [List.filter_cons]
    by_cases e2 : k = "group"
    · rw [if_pos e2, if_pos (by simp [e2])]; rfl
    · rw [if_neg e2, if_neg (by simpa using fun z => e2 z.symm)]; rfl
theorem kindW_g0 {k : Str} (n : k ≠ "group") (g : List Str) : kindW k (if g = [] then [] else [("group" : Str) :: g]) = [] := by rw [kindW_g, if_neg n, ite_self]
theorem kindW_g1 (g : List Str) : kindW "group" (if g = [] then [] else [("group" : Str) :: g]) = if g = [] then [] else [("group" : Str) :: g] := by rw [kindW_g, if_pos rfl]
theorem size_same {Z : List (Str × (Nat × Nat))} : ∀ {Y : List (Str × (Nat × Nat))}, names Z = names Y → (names Z).Nodup → (Z.filter fun z => decide (z.2 ≠ (1, 1))) = (Y.filter fun z => decide (z.2 ≠ (1, 1))) → Z = Y := by
  induction Z with
  | nil =>
    intro Y n _ _
    cases Y with
    | nil => rfl
    | cons => simp [names] at n
  | cons z Z ih =>
    intro Y n nd f
    cases Y with
    | nil => simp [names] at n
    | cons y Y =>
      obtain ⟨n1, n2⟩ := List.cons.inj (show z.1 :: names Z = y.1 :: names Y from n)
      obtain ⟨d1, d2⟩ := List.nodup_cons.mp (show (z.1 :: names Z).Nodup from nd)
      rw [List.filter_cons, List.filter_cons] at f
      by_cases hz : z.2 = (1, 1)
      · rw [if_neg (by simp [hz])] at f
        by_cases hy : y.2 = (1, 1)
        · rw [if_neg (by simp [hy])] at f
          rw [ih n2 d2 f, Prod.ext n1 (hz.trans hy.symm)]
        · rw [if_pos (by simpa using hy)] at f
          have : y ∈ Z.filter fun z => decide (z.2 ≠ (1, 1)) := by rw [f]; exact List.mem_cons_self
          exact absurd (by rw [n1]; exact List.mem_map_of_mem (List.mem_filter.mp this).1) d1
      · rw [if_pos (by simpa using hz)] at f
        by_cases hy : y.2 = (1, 1)
        · rw [if_neg (by simp [hy])] at f
          have : z ∈ Y.filter fun z => decide (z.2 ≠ (1, 1)) := by rw [← f]; exact List.mem_cons_self
          exact absurd (by rw [n2]; exact List.mem_map_of_mem (List.mem_filter.mp this).1) d1
        · rw [if_pos (by simpa using hy)] at f
          obtain ⟨f1, f2⟩ := List.cons.inj f
          rw [ih n2 d2 f2, f1]
theorem zWords_inj {z y : Str × (Nat × Nat)} (hz : z.2.2 ≤ 60 ∧ z.2.1 ≤ 9 * z.2.2) (hy : y.2.2 ≤ 60 ∧ y.2.1 ≤ 9 * y.2.2) (e : zWords z = zWords y) : z = y := by
  obtain ⟨_, e⟩ := List.cons.inj e
  obtain ⟨e1, e⟩ := List.cons.inj e
  obtain ⟨e2, _⟩ := List.cons.inj e
  have big : (1000 : Nat) < 10 ^ 60 := by decide
  obtain ⟨a, b⟩ := rtext_inj (by rw [Int.natAbs_natCast]; omega) (by rw [Int.natAbs_natCast]; omega) (by rw [Int.natAbs_natCast]; omega) (by rw [Int.natAbs_natCast]; omega) e2
  exact Prod.ext e1 (Prod.ext (by omega) (by omega))
theorem map_inj_mem {α β : Type} {f : α → β} : ∀ {xs ys : List α}, (∀ x ∈ xs, ∀ y ∈ ys, f x = f y → x = y) → xs.map f = ys.map f → xs = ys
  | [], [], _, _ => rfl
  | [], _ :: _, _, h => by simp at h
  | _ :: _, [], _, h => by simp at h
  | x :: xs, y :: ys, hi, h => by
    rw [List.map_cons, List.map_cons] at h
    obtain ⟨h1, h2⟩ := List.cons.inj h
    rw [hi x List.mem_cons_self y List.mem_cons_self h1, map_inj_mem (fun a ha b hb => hi a (List.mem_cons_of_mem _ ha) b (List.mem_cons_of_mem _ hb)) h2]
theorem qLines_inj {A B : List (Str × List Str)} {g h : List Str} {Z Y : List (Str × (Nat × Nat))} (qa : QQ A g Z) (qb : QQ B h Y) (e : qLines A g Z = qLines B h Y) : A = B ∧ g = h ∧ Z = Y := by
  have w := qWords_eq qa qb e
  unfold qWords at w
  have n1 : ("table" : Str) ≠ "size" := by decide
  have n2 : ("table" : Str) ≠ "group" := by decide
  have n3 : ("size" : Str) ≠ "group" := by decide
  have hA : ∀ t : Str × List Str, ((fun t : Str × List Str => ("table" : Str) :: t.1 :: t.2) t).head? = some ("table" : Str) := fun _ => rfl
  have hZ : ∀ z, (zWords z).head? = some ("size" : Str) := fun _ => rfl
  have k1 := congrArg (kindW "table") w
  rw [kindW_app, kindW_app, kindW_app, kindW_app, kindW_all hA, kindW_all hA, kindW_no hZ n1.symm, kindW_no hZ n1.symm, kindW_g0 n2, kindW_g0 n2, List.append_nil, List.append_nil, List.append_nil, List.append_nil] at k1
  have k2 := congrArg (kindW "size") w
  rw [kindW_app, kindW_app, kindW_app, kindW_app, kindW_no hA n1, kindW_no hA n1, kindW_all hZ, kindW_all hZ, kindW_g0 n3, kindW_g0 n3, List.append_nil, List.append_nil, List.nil_append, List.nil_append] at k2
  have k3 := congrArg (kindW "group") w
  rw [kindW_app, kindW_app, kindW_app, kindW_app, kindW_no hA n2, kindW_no hA n2, kindW_no hZ n3, kindW_no hZ n3, kindW_g1, kindW_g1] at k3
  have eA : A = B := map_inj_mem (fun x _ y _ e => by
    obtain ⟨_, e⟩ := List.cons.inj e
    obtain ⟨e1, e2⟩ := List.cons.inj e
    exact Prod.ext e1 e2) k1
  refine ⟨eA, ?_, ?_⟩
  · have k3 : (if g = [] then [] else [("group" : Str) :: g]) = if h = [] then [] else [("group" : Str) :: h] := k3
    by_cases e1 : g = []
    · rw [if_pos e1] at k3
      by_cases e2 : h = []
      · rw [e1, e2]
      · rw [if_neg e2] at k3; cases k3
    · rw [if_neg e1] at k3
      by_cases e2 : h = []
      · rw [if_pos e2] at k3; cases k3
      · rw [if_neg e2] at k3
        exact (List.cons.inj (List.cons.inj k3).1).2
  · have ok1 := fun z (hz : z ∈ Z.filter fun z => decide (z.2 ≠ (1, 1))) => qa.z.let_ z (List.mem_filter.mp hz).1
    have ok2 := fun z (hz : z ∈ Y.filter fun z => decide (z.2 ≠ (1, 1))) => qb.z.let_ z (List.mem_filter.mp hz).1
    have f := map_inj_mem (fun x hx y hy e => zWords_inj (ok1 x hx).2 (ok2 y hy).2 e) k2
    exact size_same (by rw [qa.nz, qb.nz, eA]) qa.ndz f
end U

namespace Law
open PySem PySem.Spec PyProof.Rows L2 U
/-! ### the text by places -/
def top (i : Nat) : Stmt := PySem.Challenge.pw_touchrows_k07_questions_told.main.body.getD i (.Pass ⟨0, 0, 0, 0⟩)
abbrev s__law_dice : Stmt := top 34
abbrev s__law_roll : Stmt := top 35
abbrev s__law_mixed : Stmt := top 37
abbrev s__law_names : Stmt := top 40
abbrev s_is_integer : Stmt := top 7
abbrev s_Ratio___init__ : Stmt := inClass (top 18) 0
abbrev s_is_name : Stmt := top 8
abbrev s_is_ascending_names : Stmt := top 9
abbrev s__columns_of : Stmt := top 27
abbrev s__is_tables : Stmt := top 28
abbrev s__is_groups : Stmt := top 29
abbrev s_Ratio_bottom : Stmt := inClass (top 18) 3
abbrev s_Ratio_top : Stmt := inClass (top 18) 2
abbrev s__is_size : Stmt := top 30
abbrev s__is_sizes : Stmt := top 31
abbrev s_written : Stmt := top 11
abbrev s_Ratio___str__ : Stmt := inClass (top 18) 13
abbrev s_Ratio_pair : Stmt := inClass (top 18) 4
abbrev s__lines_of : Stmt := top 32
abbrev s_Question___init__ : Stmt := inClass (top 26) 0
abbrev s_Question_tables : Stmt := inClass (top 26) 2
abbrev s_Question_sizes : Stmt := inClass (top 26) 3
abbrev s_Question___len__ : Stmt := inClass (top 26) 14
abbrev s__law_columns : Stmt := top 41
abbrev s_Question_groups : Stmt := inClass (top 26) 4
abbrev s_Question_names : Stmt := inClass (top 26) 5
abbrev s_Question_columns : Stmt := inClass (top 26) 6
abbrev s_Question_lines : Stmt := inClass (top 26) 7
abbrev s_Question___iter__ : Stmt := inClass (top 26) 15
abbrev s__law_ratio_text : Stmt := top 45
abbrev s__law_lines : Stmt := top 46
abbrev s_Question_tables_with : Stmt := inClass (top 26) 8
abbrev s_Question___str__ : Stmt := inClass (top 26) 18
abbrev s_Question___contains__ : Stmt := inClass (top 26) 16
abbrev s__law_is_told : Stmt := top 48
abbrev s__law_copy : Stmt := top 47
abbrev s__law_pick : Stmt := top 36
abbrev s__law_other : Stmt := top 49
abbrev s__law_made : Stmt := top 39
abbrev s_Ratio___eq__ : Stmt := inClass (top 18) 12
abbrev s_Question___eq__ : Stmt := inClass (top 26) 17
abbrev s__law_right : Stmt := top 50
abbrev s__law_plain : Stmt := top 38
abbrev s__law_written : Stmt := top 42
abbrev s__law_drawn : Stmt := top 43
abbrev s__law_any : Stmt := top 44
abbrev s_law : Stmt := top 51
theorem sc__law_dice : FnScope ["_law_script", "_law_spot", "_law_cell", "_law_great", "_law_left"] ["_law_script", "_law_spot"] (defScope s__law_dice) := ⟨rfl, rfl, rfl, by decide +kernel, rfl, by decide +kernel, by decide +kernel⟩
theorem sc__law_roll : FnScope ["_law_dice_here", "_law_total", "_law_found", "_law_one", "_law_two"] ["_law_dice_here", "_law_total"] (defScope s__law_roll) := ⟨rfl, rfl, rfl, by decide +kernel, rfl, by decide +kernel, by decide +kernel⟩
theorem sc__law_mixed : FnScope ["_law_dice_here", "_law_items", "_law_left", "_law_found", "_law_turn"] ["_law_dice_here", "_law_items"] (defScope s__law_mixed) := ⟨rfl, rfl, rfl, by decide +kernel, rfl, by decide +kernel, by decide +kernel⟩
theorem sc__law_names : FnScope ["_law_plain_here"] ["_law_plain_here"] (defScope s__law_names) := ⟨rfl, rfl, rfl, by decide +kernel, rfl, by decide +kernel, by decide +kernel⟩
theorem sc_is_integer : FnScope ["value"] ["value"] (defScope s_is_integer) := ⟨rfl, rfl, rfl, by decide +kernel, rfl, by decide +kernel, by decide +kernel⟩
theorem sc_Ratio___init__ : FnScope ["self", "top", "bottom", "common"] ["self", "top", "bottom"] (defScope s_Ratio___init__) := ⟨rfl, rfl, rfl, by decide +kernel, rfl, by decide +kernel, by decide +kernel⟩
theorem sc_is_name : FnScope ["value", "letter"] ["value"] (defScope s_is_name) := ⟨rfl, rfl, rfl, by decide +kernel, rfl, by decide +kernel, by decide +kernel⟩
theorem sc_is_ascending_names : FnScope ["value", "name", "low", "high"] ["value"] (defScope s_is_ascending_names) := ⟨rfl, rfl, rfl, by decide +kernel, rfl, by decide +kernel, by decide +kernel⟩
theorem sc__columns_of : FnScope ["tables", "name", "column"] ["tables"] (defScope s__columns_of) := ⟨rfl, rfl, rfl, by decide +kernel, rfl, by decide +kernel, by decide +kernel⟩
theorem sc__is_tables : FnScope ["value", "name", "columns"] ["value"] (defScope s__is_tables) := ⟨rfl, rfl, rfl, by decide +kernel, rfl, by decide +kernel, by decide +kernel⟩
theorem sc__is_groups : FnScope ["value", "tables", "columns", "column"] ["value", "tables"] (defScope s__is_groups) := ⟨rfl, rfl, rfl, by decide +kernel, rfl, by decide +kernel, by decide +kernel⟩
theorem sc_Ratio_bottom : FnScope ["self"] ["self"] (defScope s_Ratio_bottom) := ⟨rfl, rfl, rfl, by decide +kernel, rfl, by decide +kernel, by decide +kernel⟩
theorem sc_Ratio_top : FnScope ["self"] ["self"] (defScope s_Ratio_top) := ⟨rfl, rfl, rfl, by decide +kernel, rfl, by decide +kernel, by decide +kernel⟩
theorem sc__is_size : FnScope ["value"] ["value"] (defScope s__is_size) := ⟨rfl, rfl, rfl, by decide +kernel, rfl, by decide +kernel, by decide +kernel⟩
theorem sc__is_sizes : FnScope ["value", "tables", "name", "size"] ["value", "tables"] (defScope s__is_sizes) := ⟨rfl, rfl, rfl, by decide +kernel, rfl, by decide +kernel, by decide +kernel⟩
theorem sc_written : FnScope ["number", "sign", "rest", "blocks", "low"] ["number"] (defScope s_written) := ⟨rfl, rfl, rfl, by decide +kernel, rfl, by decide +kernel, by decide +kernel⟩
theorem sc_Ratio___str__ : FnScope ["self"] ["self"] (defScope s_Ratio___str__) := ⟨rfl, rfl, rfl, by decide +kernel, rfl, by decide +kernel, by decide +kernel⟩
theorem sc_Ratio_pair : FnScope ["self"] ["self"] (defScope s_Ratio_pair) := ⟨rfl, rfl, rfl, by decide +kernel, rfl, by decide +kernel, by decide +kernel⟩
theorem sc__lines_of : FnScope ["tables", "groups", "sizes", "lines", "name", "columns", "size"] ["tables", "groups", "sizes"] (defScope s__lines_of) := ⟨rfl, rfl, rfl, by decide +kernel, rfl, by decide +kernel, by decide +kernel⟩
theorem sc_Question___init__ : FnScope ["self", "tables", "groups", "sizes", "given", "name"] ["self", "tables", "groups", "sizes"] (defScope s_Question___init__) := ⟨rfl, rfl, rfl, by decide +kernel, rfl, by decide +kernel, by decide +kernel⟩
theorem sc_Question_tables : FnScope ["self"] ["self"] (defScope s_Question_tables) := ⟨rfl, rfl, rfl, by decide +kernel, rfl, by decide +kernel, by decide +kernel⟩
theorem sc_Question_sizes : FnScope ["self"] ["self"] (defScope s_Question_sizes) := ⟨rfl, rfl, rfl, by decide +kernel, rfl, by decide +kernel, by decide +kernel⟩
theorem sc_Question___len__ : FnScope ["self"] ["self"] (defScope s_Question___len__) := ⟨rfl, rfl, rfl, by decide +kernel, rfl, by decide +kernel, by decide +kernel⟩
theorem sc__law_columns : FnScope ["_law_plain_here", "_law_names_here", "_law_found", "_law_name"] ["_law_plain_here", "_law_names_here"] (defScope s__law_columns) := ⟨rfl, rfl, rfl, by decide +kernel, rfl, by decide +kernel, by decide +kernel⟩
theorem sc_Question_groups : FnScope ["self"] ["self"] (defScope s_Question_groups) := ⟨rfl, rfl, rfl, by decide +kernel, rfl, by decide +kernel, by decide +kernel⟩
theorem sc_Question_names : FnScope ["self"] ["self"] (defScope s_Question_names) := ⟨rfl, rfl, rfl, by decide +kernel, rfl, by decide +kernel, by decide +kernel⟩
theorem sc_Question_columns : FnScope ["self"] ["self"] (defScope s_Question_columns) := ⟨rfl, rfl, rfl, by decide +kernel, rfl, by decide +kernel, by decide +kernel⟩
theorem sc_Question_lines : FnScope ["self"] ["self"] (defScope s_Question_lines) := ⟨rfl, rfl, rfl, by decide +kernel, rfl, by decide +kernel, by decide +kernel⟩
theorem sc_Question___iter__ : FnScope ["self"] ["self"] (defScope s_Question___iter__) := ⟨rfl, rfl, rfl, by decide +kernel, rfl, by decide +kernel, by decide +kernel⟩
theorem sc__law_ratio_text : FnScope ["_law_pair"] ["_law_pair"] (defScope s__law_ratio_text) := ⟨rfl, rfl, rfl, by decide +kernel, rfl, by decide +kernel, by decide +kernel⟩
theorem sc__law_lines : FnScope ["_law_plain_here", "_law_found", "_law_name"] ["_law_plain_here"] (defScope s__law_lines) := ⟨rfl, rfl, rfl, by decide +kernel, rfl, by decide +kernel, by decide +kernel⟩
theorem sc_Question_tables_with : FnScope ["self", "column", "name"] ["self", "column"] (defScope s_Question_tables_with) := ⟨rfl, rfl, rfl, by decide +kernel, rfl, by decide +kernel, by decide +kernel⟩
theorem sc_Question___str__ : FnScope ["self"] ["self"] (defScope s_Question___str__) := ⟨rfl, rfl, rfl, by decide +kernel, rfl, by decide +kernel, by decide +kernel⟩
theorem sc_Question___contains__ : FnScope ["self", "value"] ["self", "value"] (defScope s_Question___contains__) := ⟨rfl, rfl, rfl, by decide +kernel, rfl, by decide +kernel, by decide +kernel⟩
theorem sc__law_is_told : FnScope ["_law_question", "_law_plain_here", "_law_names_here", "_law_columns_here", "_law_told", "_law_lines_here", "_law_column", "_law_words", "_law_odd", "_law_name", "_law_size", "_law_one"] ["_law_question", "_law_plain_here"] (defScope s__law_is_told) := ⟨rfl, rfl, rfl, by decide +kernel, rfl, by decide +kernel, by decide +kernel⟩
theorem sc__law_copy : FnScope ["_law_plain_here", "_law_tables", "_law_name"] ["_law_plain_here"] (defScope s__law_copy) := ⟨rfl, rfl, rfl, by decide +kernel, rfl, by decide +kernel, by decide +kernel⟩
theorem sc__law_pick : FnScope ["_law_dice_here", "_law_items"] ["_law_dice_here", "_law_items"] (defScope s__law_pick) := ⟨rfl, rfl, rfl, by decide +kernel, rfl, by decide +kernel, by decide +kernel⟩
theorem sc__law_other : FnScope ["_law_dice_here", "_law_plain_here", "_law_found", "_law_way", "_law_names_here", "_law_name", "_law_column"] ["_law_dice_here", "_law_plain_here"] (defScope s__law_other) := ⟨rfl, rfl, rfl, by decide +kernel, rfl, by decide +kernel, by decide +kernel⟩
theorem sc__law_made : FnScope ["_law_plain_here", "_law_tables", "_law_some", "_law_name", "_law_pair"] ["_law_plain_here"] (defScope s__law_made) := ⟨rfl, rfl, rfl, by decide +kernel, rfl, by decide +kernel, by decide +kernel⟩
theorem sc_Ratio___eq__ : FnScope ["self", "other"] ["self", "other"] (defScope s_Ratio___eq__) := ⟨rfl, rfl, rfl, by decide +kernel, rfl, by decide +kernel, by decide +kernel⟩
theorem sc_Question___eq__ : FnScope ["self", "other"] ["self", "other"] (defScope s_Question___eq__) := ⟨rfl, rfl, rfl, by decide +kernel, rfl, by decide +kernel, by decide +kernel⟩
theorem sc__law_right : FnScope ["_law_dice_here", "_law_plain_here", "_law_names_here", "_law_tables", "_law_some", "_law_name", "_law_question", "_law_told", "_law_more", "_law_other_here", "_law_near", "_law_is_like"] ["_law_dice_here", "_law_plain_here"] (defScope s__law_right) := ⟨rfl, rfl, rfl, by decide +kernel, rfl, by decide +kernel, by decide +kernel⟩
theorem sc__law_plain : FnScope ["_law_tables", "_law_groups", "_law_name"] ["_law_tables", "_law_groups"] (defScope s__law_plain) := ⟨rfl, rfl, rfl, by decide +kernel, rfl, by decide +kernel, by decide +kernel⟩
theorem sc__law_written : FnScope ["_law_way", "_law_tables"] ["_law_way"] (defScope s__law_written) := ⟨rfl, rfl, rfl, by decide +kernel, rfl, by decide +kernel, by decide +kernel⟩
theorem sc__law_drawn : FnScope ["_law_dice_here", "_law_many", "_law_width", "_law_names_here", "_law_pool", "_law_tables", "_law_name", "_law_found", "_law_column"] ["_law_dice_here", "_law_many", "_law_width"] (defScope s__law_drawn) := ⟨rfl, rfl, rfl, by decide +kernel, rfl, by decide +kernel, by decide +kernel⟩
theorem sc__law_any : FnScope ["_law_dice_here", "_law_many", "_law_width"] ["_law_dice_here", "_law_many", "_law_width"] (defScope s__law_any) := ⟨rfl, rfl, rfl, by decide +kernel, rfl, by decide +kernel, by decide +kernel⟩
theorem sc_law : FnScope ["_law_script", "_law_spot", "_law_dice_here", "_law_turn", "_law_bare"] ["_law_script"] (defScope s_law) := ⟨rfl, rfl, rfl, by decide +kernel, rfl, by decide +kernel, by decide +kernel⟩
/-- what the top leaves -/
structure Txt (K : PySem.W.Frag) (mg : Str → Option Value) where
  c_Question : Addr
  g_Question : mg "Question" = some (.ref c_Question)
  o_Question : OwnC K c_Question
  n_Question : NoNe K c_Question
  f_Question__tables : NoAttr K c_Question "_tables"
  f_Question__groups : NoAttr K c_Question "_groups"
  f_Question__sizes : NoAttr K c_Question "_sizes"
  f_Question__columns : NoAttr K c_Question "_columns"
  f_Question__lines : NoAttr K c_Question "_lines"
  c_Ratio : Addr
  g_Ratio : mg "Ratio" = some (.ref c_Ratio)
  o_Ratio : OwnC K c_Ratio
  f_Ratio__top : NoAttr K c_Ratio "_top"
  f_Ratio__bottom : NoAttr K c_Ratio "_bottom"
  fmt_Ratio : PySem.W.findIn K (.ref c_Ratio) "__format__" = some (some (.builtin "object.__format__"))
  mro_Ratio : PySem.W.mroIn K c_Ratio (.type "object") = some true
  nstr_Question : PySem.W.subIn K (.ref c_Question) (.type "str") = some false
  a__law_dice : Addr
  d__law_dice : FuncData
  g__law_dice : mg "_law_dice" = some (.ref a__law_dice)
  F__law_dice : Fun K "_law_dice" "_law_dice" s__law_dice a__law_dice d__law_dice
  B__law_dice : Binds K d__law_dice ["_law_script", "_law_spot"] []
  a__law_roll : Addr
  d__law_roll : FuncData
  g__law_roll : mg "_law_roll" = some (.ref a__law_roll)
  F__law_roll : Fun K "_law_roll" "_law_roll" s__law_roll a__law_roll d__law_roll
  B__law_roll : Binds K d__law_roll ["_law_dice_here", "_law_total"] []
  a__law_mixed : Addr
  d__law_mixed : FuncData
  g__law_mixed : mg "_law_mixed" = some (.ref a__law_mixed)
  F__law_mixed : Fun K "_law_mixed" "_law_mixed" s__law_mixed a__law_mixed d__law_mixed
  B__law_mixed : Binds K d__law_mixed ["_law_dice_here", "_law_items"] []
  a__law_names : Addr
  d__law_names : FuncData
  g__law_names : mg "_law_names" = some (.ref a__law_names)
  F__law_names : Fun K "_law_names" "_law_names" s__law_names a__law_names d__law_names
  B__law_names : Binds K d__law_names ["_law_plain_here"] []
  a_is_integer : Addr
  d_is_integer : FuncData
  g_is_integer : mg "is_integer" = some (.ref a_is_integer)
  F_is_integer : Fun K "is_integer" "is_integer" s_is_integer a_is_integer d_is_integer
  B_is_integer : Binds K d_is_integer ["value"] []
  a_Ratio___init__ : Addr
  d_Ratio___init__ : FuncData
  F_Ratio___init__ : Fun K "__init__" "Ratio.__init__" s_Ratio___init__ a_Ratio___init__ d_Ratio___init__
  B_Ratio___init__ : Binds K d_Ratio___init__ ["self", "top", "bottom"] []
  K_Ratio : Mk K c_Ratio a_Ratio___init__
  a_is_name : Addr
  d_is_name : FuncData
  g_is_name : mg "is_name" = some (.ref a_is_name)
  F_is_name : Fun K "is_name" "is_name" s_is_name a_is_name d_is_name
  B_is_name : Binds K d_is_name ["value"] []
  a_is_ascending_names : Addr
  d_is_ascending_names : FuncData
  g_is_ascending_names : mg "is_ascending_names" = some (.ref a_is_ascending_names)
  F_is_ascending_names : Fun K "is_ascending_names" "is_ascending_names" s_is_ascending_names a_is_ascending_names d_is_ascending_names
  B_is_ascending_names : Binds K d_is_ascending_names ["value"] []
  a__columns_of : Addr
  d__columns_of : FuncData
  g__columns_of : mg "_columns_of" = some (.ref a__columns_of)
  F__columns_of : Fun K "_columns_of" "_columns_of" s__columns_of a__columns_of d__columns_of
  B__columns_of : Binds K d__columns_of ["tables"] []
  a__is_tables : Addr
  d__is_tables : FuncData
  g__is_tables : mg "_is_tables" = some (.ref a__is_tables)
  F__is_tables : Fun K "_is_tables" "_is_tables" s__is_tables a__is_tables d__is_tables
  B__is_tables : Binds K d__is_tables ["value"] []
  a__is_groups : Addr
  d__is_groups : FuncData
  g__is_groups : mg "_is_groups" = some (.ref a__is_groups)
  F__is_groups : Fun K "_is_groups" "_is_groups" s__is_groups a__is_groups d__is_groups
  B__is_groups : Binds K d__is_groups ["value", "tables"] []
  a_Ratio_bottom : Addr
  d_Ratio_bottom : FuncData
  F_Ratio_bottom : Fun K "bottom" "Ratio.bottom" s_Ratio_bottom a_Ratio_bottom d_Ratio_bottom
  B_Ratio_bottom : Binds K d_Ratio_bottom ["self"] []
  p_Ratio_bottom : Addr
  P_Ratio_bottom : PropOf K c_Ratio "bottom" p_Ratio_bottom a_Ratio_bottom
  a_Ratio_top : Addr
  d_Ratio_top : FuncData
  F_Ratio_top : Fun K "top" "Ratio.top" s_Ratio_top a_Ratio_top d_Ratio_top
  B_Ratio_top : Binds K d_Ratio_top ["self"] []
  p_Ratio_top : Addr
  P_Ratio_top : PropOf K c_Ratio "top" p_Ratio_top a_Ratio_top
  a__is_size : Addr
  d__is_size : FuncData
  g__is_size : mg "_is_size" = some (.ref a__is_size)
  F__is_size : Fun K "_is_size" "_is_size" s__is_size a__is_size d__is_size
  B__is_size : Binds K d__is_size ["value"] []
  a__is_sizes : Addr
  d__is_sizes : FuncData
  g__is_sizes : mg "_is_sizes" = some (.ref a__is_sizes)
  F__is_sizes : Fun K "_is_sizes" "_is_sizes" s__is_sizes a__is_sizes d__is_sizes
  B__is_sizes : Binds K d__is_sizes ["value", "tables"] []
  a_written : Addr
  d_written : FuncData
  g_written : mg "written" = some (.ref a_written)
  F_written : Fun K "written" "written" s_written a_written d_written
  B_written : Binds K d_written ["number"] []
  a_Ratio___str__ : Addr
  d_Ratio___str__ : FuncData
  F_Ratio___str__ : Fun K "__str__" "Ratio.__str__" s_Ratio___str__ a_Ratio___str__ d_Ratio___str__
  B_Ratio___str__ : Binds K d_Ratio___str__ ["self"] []
  M_Ratio___str__ : Meth K c_Ratio "__str__" a_Ratio___str__
  a_Ratio_pair : Addr
  d_Ratio_pair : FuncData
  F_Ratio_pair : Fun K "pair" "Ratio.pair" s_Ratio_pair a_Ratio_pair d_Ratio_pair
  B_Ratio_pair : Binds K d_Ratio_pair ["self"] []
  p_Ratio_pair : Addr
  P_Ratio_pair : PropOf K c_Ratio "pair" p_Ratio_pair a_Ratio_pair
  a__lines_of : Addr
  d__lines_of : FuncData
  g__lines_of : mg "_lines_of" = some (.ref a__lines_of)
  F__lines_of : Fun K "_lines_of" "_lines_of" s__lines_of a__lines_of d__lines_of
  B__lines_of : Binds K d__lines_of ["tables", "groups", "sizes"] []
  a_Question___init__ : Addr
  d_Question___init__ : FuncData
  F_Question___init__ : Fun K "__init__" "Question.__init__" s_Question___init__ a_Question___init__ d_Question___init__
  KB_Question___init__ : KBn K d_Question___init__ ["self", "tables", "groups", "sizes"] 3 ["sizes"] (fun us ws => us ++ ws) (fun vs zs => vs ++ zs)
  DB_Question___init__ : ∃ ds, Vals [V.non] ds ∧ Binds K d_Question___init__ ["self", "tables", "groups", "sizes"] ds
  K_Question : Mk K c_Question a_Question___init__
  a_Question_tables : Addr
  d_Question_tables : FuncData
  F_Question_tables : Fun K "tables" "Question.tables" s_Question_tables a_Question_tables d_Question_tables
  B_Question_tables : Binds K d_Question_tables ["self"] []
  p_Question_tables : Addr
  P_Question_tables : PropOf K c_Question "tables" p_Question_tables a_Question_tables
  a_Question_sizes : Addr
  d_Question_sizes : FuncData
  F_Question_sizes : Fun K "sizes" "Question.sizes" s_Question_sizes a_Question_sizes d_Question_sizes
  B_Question_sizes : Binds K d_Question_sizes ["self"] []
  p_Question_sizes : Addr
  P_Question_sizes : PropOf K c_Question "sizes" p_Question_sizes a_Question_sizes
  a_Question___len__ : Addr
  d_Question___len__ : FuncData
  F_Question___len__ : Fun K "__len__" "Question.__len__" s_Question___len__ a_Question___len__ d_Question___len__
  B_Question___len__ : Binds K d_Question___len__ ["self"] []
  M_Question___len__ : Meth K c_Question "__len__" a_Question___len__
  a__law_columns : Addr
  d__law_columns : FuncData
  g__law_columns : mg "_law_columns" = some (.ref a__law_columns)
  F__law_columns : Fun K "_law_columns" "_law_columns" s__law_columns a__law_columns d__law_columns
  B__law_columns : Binds K d__law_columns ["_law_plain_here", "_law_names_here"] []
  a_Question_groups : Addr
  d_Question_groups : FuncData
  F_Question_groups : Fun K "groups" "Question.groups" s_Question_groups a_Question_groups d_Question_groups
  B_Question_groups : Binds K d_Question_groups ["self"] []
  p_Question_groups : Addr
  P_Question_groups : PropOf K c_Question "groups" p_Question_groups a_Question_groups
  a_Question_names : Addr
  d_Question_names : FuncData
  F_Question_names : Fun K "names" "Question.names" s_Question_names a_Question_names d_Question_names
  B_Question_names : Binds K d_Question_names ["self"] []
  p_Question_names : Addr
  P_Question_names : PropOf K c_Question "names" p_Question_names a_Question_names
  a_Question_columns : Addr
  d_Question_columns : FuncData
  F_Question_columns : Fun K "columns" "Question.columns" s_Question_columns a_Question_columns d_Question_columns
  B_Question_columns : Binds K d_Question_columns ["self"] []
  p_Question_columns : Addr
  P_Question_columns : PropOf K c_Question "columns" p_Question_columns a_Question_columns
  a_Question_lines : Addr
  d_Question_lines : FuncData
  F_Question_lines : Fun K "lines" "Question.lines" s_Question_lines a_Question_lines d_Question_lines
  B_Question_lines : Binds K d_Question_lines ["self"] []
  p_Question_lines : Addr
  P_Question_lines : PropOf K c_Question "lines" p_Question_lines a_Question_lines
  a_Question___iter__ : Addr
  d_Question___iter__ : FuncData
  F_Question___iter__ : Fun K "__iter__" "Question.__iter__" s_Question___iter__ a_Question___iter__ d_Question___iter__
  B_Question___iter__ : Binds K d_Question___iter__ ["self"] []
  M_Question___iter__ : Meth K c_Question "__iter__" a_Question___iter__
  a__law_ratio_text : Addr
  d__law_ratio_text : FuncData
  g__law_ratio_text : mg "_law_ratio_text" = some (.ref a__law_ratio_text)
  F__law_ratio_text : Fun K "_law_ratio_text" "_law_ratio_text" s__law_ratio_text a__law_ratio_text d__law_ratio_text
  B__law_ratio_text : Binds K d__law_ratio_text ["_law_pair"] []
  a__law_lines : Addr
  d__law_lines : FuncData
  g__law_lines : mg "_law_lines" = some (.ref a__law_lines)
  F__law_lines : Fun K "_law_lines" "_law_lines" s__law_lines a__law_lines d__law_lines
  B__law_lines : Binds K d__law_lines ["_law_plain_here"] []
  a_Question_tables_with : Addr
  d_Question_tables_with : FuncData
  F_Question_tables_with : Fun K "tables_with" "Question.tables_with" s_Question_tables_with a_Question_tables_with d_Question_tables_with
  B_Question_tables_with : Binds K d_Question_tables_with ["self", "column"] []
  M_Question_tables_with : Meth K c_Question "tables_with" a_Question_tables_with
  a_Question___str__ : Addr
  d_Question___str__ : FuncData
  F_Question___str__ : Fun K "__str__" "Question.__str__" s_Question___str__ a_Question___str__ d_Question___str__
  B_Question___str__ : Binds K d_Question___str__ ["self"] []
  M_Question___str__ : Meth K c_Question "__str__" a_Question___str__
  a_Question___contains__ : Addr
  d_Question___contains__ : FuncData
  F_Question___contains__ : Fun K "__contains__" "Question.__contains__" s_Question___contains__ a_Question___contains__ d_Question___contains__
  B_Question___contains__ : Binds K d_Question___contains__ ["self", "value"] []
  M_Question___contains__ : Meth K c_Question "__contains__" a_Question___contains__
  a__law_is_told : Addr
  d__law_is_told : FuncData
  g__law_is_told : mg "_law_is_told" = some (.ref a__law_is_told)
  F__law_is_told : Fun K "_law_is_told" "_law_is_told" s__law_is_told a__law_is_told d__law_is_told
  B__law_is_told : Binds K d__law_is_told ["_law_question", "_law_plain_here"] []
  a__law_copy : Addr
  d__law_copy : FuncData
  g__law_copy : mg "_law_copy" = some (.ref a__law_copy)
  F__law_copy : Fun K "_law_copy" "_law_copy" s__law_copy a__law_copy d__law_copy
  B__law_copy : Binds K d__law_copy ["_law_plain_here"] []
  a__law_pick : Addr
  d__law_pick : FuncData
  g__law_pick : mg "_law_pick" = some (.ref a__law_pick)
  F__law_pick : Fun K "_law_pick" "_law_pick" s__law_pick a__law_pick d__law_pick
  B__law_pick : Binds K d__law_pick ["_law_dice_here", "_law_items"] []
  a__law_other : Addr
  d__law_other : FuncData
  g__law_other : mg "_law_other" = some (.ref a__law_other)
  F__law_other : Fun K "_law_other" "_law_other" s__law_other a__law_other d__law_other
  B__law_other : Binds K d__law_other ["_law_dice_here", "_law_plain_here"] []
  a__law_made : Addr
  d__law_made : FuncData
  g__law_made : mg "_law_made" = some (.ref a__law_made)
  F__law_made : Fun K "_law_made" "_law_made" s__law_made a__law_made d__law_made
  B__law_made : Binds K d__law_made ["_law_plain_here"] []
  a_Ratio___eq__ : Addr
  d_Ratio___eq__ : FuncData
  F_Ratio___eq__ : Fun K "__eq__" "Ratio.__eq__" s_Ratio___eq__ a_Ratio___eq__ d_Ratio___eq__
  B_Ratio___eq__ : Binds K d_Ratio___eq__ ["self", "other"] []
  M_Ratio___eq__ : Meth K c_Ratio "__eq__" a_Ratio___eq__
  a_Question___eq__ : Addr
  d_Question___eq__ : FuncData
  F_Question___eq__ : Fun K "__eq__" "Question.__eq__" s_Question___eq__ a_Question___eq__ d_Question___eq__
  B_Question___eq__ : Binds K d_Question___eq__ ["self", "other"] []
  M_Question___eq__ : Meth K c_Question "__eq__" a_Question___eq__
  a__law_right : Addr
  d__law_right : FuncData
  g__law_right : mg "_law_right" = some (.ref a__law_right)
  F__law_right : Fun K "_law_right" "_law_right" s__law_right a__law_right d__law_right
  B__law_right : Binds K d__law_right ["_law_dice_here", "_law_plain_here"] []
  a__law_plain : Addr
  d__law_plain : FuncData
  g__law_plain : mg "_law_plain" = some (.ref a__law_plain)
  F__law_plain : Fun K "_law_plain" "_law_plain" s__law_plain a__law_plain d__law_plain
  B__law_plain : Binds K d__law_plain ["_law_tables", "_law_groups"] []
  a__law_written : Addr
  d__law_written : FuncData
  g__law_written : mg "_law_written" = some (.ref a__law_written)
  F__law_written : Fun K "_law_written" "_law_written" s__law_written a__law_written d__law_written
  B__law_written : Binds K d__law_written ["_law_way"] []
  a__law_drawn : Addr
  d__law_drawn : FuncData
  g__law_drawn : mg "_law_drawn" = some (.ref a__law_drawn)
  F__law_drawn : Fun K "_law_drawn" "_law_drawn" s__law_drawn a__law_drawn d__law_drawn
  B__law_drawn : Binds K d__law_drawn ["_law_dice_here", "_law_many", "_law_width"] []
  a__law_any : Addr
  d__law_any : FuncData
  g__law_any : mg "_law_any" = some (.ref a__law_any)
  F__law_any : Fun K "_law_any" "_law_any" s__law_any a__law_any d__law_any
  B__law_any : Binds K d__law_any ["_law_dice_here", "_law_many", "_law_width"] []
  a_law : Addr
  d_law : FuncData
  g_law : mg "law" = some (.ref a_law)
  F_law : Fun K "law" "law" s_law a_law d_law
  B_law : Binds K d_law ["_law_script"] []
  b_abs : mg "abs" = none
  b_all : mg "all" = none
  b_bool : mg "bool" = none
  b_dict : mg "dict" = none
  b_int : mg "int" = none
  b_isinstance : mg "isinstance" = none
  b_iter : mg "iter" = none
  b_len : mg "len" = none
  b_list : mg "list" = none
  b_max : mg "max" = none
  b_min : mg "min" = none
  b_range : mg "range" = none
  b_repr : mg "repr" = none
  b_set : mg "set" = none
  b_sorted : mg "sorted" = none
  b_str : mg "str" = none
  b_tuple : mg "tuple" = none
  b_zip : mg "zip" = none
  i_gcd : mg "gcd" = some (.builtin "math.gcd")
  t_BEYOND : Tok
  v_BEYOND : mg "BEYOND" = some (.int 1000000000000000000000000000000000000000000000000000000000000 t_BEYOND)
  t_LETTERS : Tok
  v_LETTERS : mg "LETTERS" = some (.str "abcdefghijklmnopqrstuvwxyz" t_LETTERS)
  t_MAX_COLUMNS : Tok
  v_MAX_COLUMNS : mg "MAX_COLUMNS" = some (.int 8 t_MAX_COLUMNS)
  t_MAX_LETTERS : Tok
  v_MAX_LETTERS : mg "MAX_LETTERS" = some (.int 8 t_MAX_LETTERS)
  t_MAX_SIZE : Tok
  v_MAX_SIZE : mg "MAX_SIZE" = some (.int 9 t_MAX_SIZE)
  t_MAX_SIZE_BOTTOM : Tok
  v_MAX_SIZE_BOTTOM : mg "MAX_SIZE_BOTTOM" = some (.int 60 t_MAX_SIZE_BOTTOM)
  t_MAX_TABLES : Tok
  v_MAX_TABLES : mg "MAX_TABLES" = some (.int 6 t_MAX_TABLES)
  t_MAX_TABLE_COLUMNS : Tok
  v_MAX_TABLE_COLUMNS : mg "MAX_TABLE_COLUMNS" = some (.int 6 t_MAX_TABLE_COLUMNS)
section
variable {P : Program} {w : World} {K : PySem.W.Frag} {mg : Str → Option Value} {base : Heap}
def sp__law_dice (K : PySem.W.Frag) : Sp := fun vs H Q _ => ∃ (a : Addr) (ns : List Int) (i : Nat), vs = [.ref a, .int i] ∧ SqL K H a (ns.map V.int) ∧ i ≤ 100 ∧
  ∀ (H' : Hp) (p : Addr) (o : HO), (∀ b u, H b = some u → H' b = some u) → H p = none → H' p = some o → Dice 0 o → Q (.ref p) H'
theorem dice_fits {c : Int} {i : Nat} (hi : i ≤ 100) (k : Int) (hk : 0 ≤ k ∧ k ≤ 1) : Dice 0 (.lst [.int (max 0 ((c.natAbs : Int) - 10 ^ Int.toNat 17) % (10 ^ Int.toNat 60 * 10 ^ Int.toNat 60)), .int ((c.natAbs : Int) % 10 ^ Int.toNat 58 % 2147483563 * 41 + 709 * i + 17 * k + 3), .int 0]) := by
  have h1 := Int.emod_nonneg (max 0 ((c.natAbs : Int) - 10 ^ Int.toNat 17)) (show (10 ^ Int.toNat 60 * 10 ^ Int.toNat 60 : Int) ≠ 0 by decide)
  have h2 := Int.emod_lt_of_pos (max 0 ((c.natAbs : Int) - 10 ^ Int.toNat 17)) (show (0 : Int) < 10 ^ Int.toNat 60 * 10 ^ Int.toNat 60 by decide)
  have h3 := Int.emod_nonneg ((c.natAbs : Int) % 10 ^ Int.toNat 58) (show (2147483563 : Int) ≠ 0 by decide)
  have h4 := Int.emod_lt_of_pos ((c.natAbs : Int) % 10 ^ Int.toNat 58) (show (0 : Int) < 2147483563 by decide)
  exact ⟨_, _, _, rfl, ⟨h1, Int.lt_trans h2 (by decide +kernel)⟩, ⟨by omega, Int.lt_of_le_of_lt (show _ ≤ (100000000000 : Int) by omega) (by decide)⟩, by decide, by decide⟩
theorem ok__law_dice (T : Txt K mg) : FnOk P w K mg base CX0 1 T.a__law_dice T.d__law_dice ["_law_script", "_law_spot"] (sp__law_dice K) := by
  refine T.F__law_dice.ok sc__law_dice (fun vs H Q E h => ?_) (fun cdv A outer s H vs Q E hr h => ?_)
  · obtain ⟨a, ns, i, rfl, _⟩ := h; rfl
  · obtain ⟨a, ns, i, rfl, hS, hi, k⟩ := h
    refine ⟨_, (pss_cons (ps_set (i := 2) sc__law_dice.nd rfl (by first | exact Or.inl rfl | exact Or.inr rfl) (peIf (pt_cmpR opLt (pev 1) (pe_callB caLen (by rfl) T.b_len (by decide +kernel) (pa_cons (pev 0) pa_nil)) (nomark _)) (pe_callTy caIntT (by rfl) T.b_int (by decide +kernel) (pa_cons (pe_ix ixU (pev 0) (pev 1) (fun _ _ => rfl)) pa_nil)) (pe_op opAdd (pe_op opMulT pe_int (pev 1)) pe_int)))
        (pss_cons (ps_set (i := 3) sc__law_dice.nd rfl (by first | exact Or.inl rfl | exact Or.inr rfl) (pe_op opMod (pe_callB caAbs (by rfl) T.b_abs (by decide +kernel) (pa_cons (pev 2) pa_nil)) (pe_op opPow pe_int pe_int)))
        (pss_cons (ps_set (i := 4) sc__law_dice.nd rfl (by first | exact Or.inl rfl | exact Or.inr rfl) (pe_callB (caMax rfl) (by rfl) T.b_max (by decide +kernel) (pa_cons pe_int (pa_cons (pe_op opSub (pe_callB caAbs (by rfl) T.b_abs (by decide +kernel) (pa_cons (pev 2) pa_nil)) (pe_op opPow pe_int pe_int)) pa_nil))))
        (pss_one (ps_ret (pe_lst (pa_cons (pe_op opMod (pev 4) (pe_op opMulT (pe_op opPow pe_int pe_int) (pe_op opPow pe_int pe_int))) (pa_cons (pe_op opAdd (pe_op opAdd (pe_op opAdd (pe_op opMulT (pe_op opMod (pev 3) pe_int) pe_int) (pe_op opMulT pe_int (pev 1))) (pe_op opMulT pe_int (pe_callTy caIntT (by rfl) T.b_int (by decide +kernel) (pa_cons (pe_cmpR opLt (pev 2) pe_int (nomark _)) pa_nil)))) pe_int) (pa_cons pe_int pa_nil))))))))), ?_⟩
    conv => whnf
    refine ⟨_, .inl hS, ?_⟩
    conv => whnf
    refine ⟨_, rfl, ?_⟩
    refine brD (fun ha => ?x) (fun ha => ?y)
    case' x =>
      conv => whnf
      obtain ⟨v, hv, ev⟩ := atI_lt (xs := ns.map V.int) (i := i) (by omega) ha
      obtain ⟨c, hc, rfl⟩ := List.mem_map.mp hv
      refine ⟨_, _, .inl hS, ev, ?_⟩
      clear ev hv hc
      conv => whnf
    case' y =>
      conv => whnf
      refine ⟨mulW 20 20 (by decide) (U.abs_lt (by omega) (by omega)), ?_⟩
      conv => whnf
      generalize 59 * (i : Int) + 13 = c
    all_goals
      refine ⟨⟨by decide, by decide, by decide⟩, ?_⟩
      conv => whnf
      refine ⟨by decide, ?_⟩
      conv => whnf
      refine ⟨⟨by decide, by decide, by decide⟩, ?_⟩
      conv => whnf
      refine ⟨⟨by decide, by decide, by decide⟩, ?_⟩
      conv => whnf
      refine ⟨⟨by decide, by decide, by decide⟩, ?_⟩
      conv => whnf
      refine ⟨mulW 250 250 (by decide) (by decide), ?_⟩
      conv => whnf
      refine ⟨by decide, ?_⟩
      conv => whnf
      refine ⟨by decide, ?_⟩
      conv => whnf
      have h3 := Int.emod_nonneg ((c.natAbs : Int) % 10 ^ Int.toNat 58) (show (2147483563 : Int) ≠ 0 by decide)
      have h4 := Int.emod_lt_of_pos ((c.natAbs : Int) % 10 ^ Int.toNat 58) (show (0 : Int) < 2147483563 by decide)
      refine ⟨mulW 64 64 (U.abs_lt h3 (by omega)) (by decide), ?_⟩
      conv => whnf
      refine ⟨mulW 64 64 (by decide) (U.abs_lt (by omega) (by omega)), ?_⟩
      conv => whnf
      refine ⟨mulW 64 64 (by decide) (by split <;> decide), ?_⟩
      conv => whnf
      refine ⟨small_ok (by simp), fun p hp => ?_⟩
      exact k _ p _ (fun b u e => by rw [upd_ne (ne_of_none e hp)]; exact e) hp upd_same (dice_fits hi _ (by split <;> decide))
def sp__law_roll (K : PySem.W.Frag) : Sp := fun vs H Q _ => ∃ (d : Addr) (n : Nat) (t : Int) (o : HO), vs = [.ref d, .int t] ∧ H d = some o ∧ Dice n o ∧ n ≤ 1000000 ∧ 1 ≤ t ∧ t < 2 ^ 5000 ∧
  ∀ (H' : Hp) (r : Int) (o' : HO), (∀ b u, H b = some u → b ≠ d → H' b = some u) → H' d = some o' → Dice (n + 1) o' → 0 ≤ r → r < t → Q (.int r) H'
theorem ok__law_roll (T : Txt K mg) : FnOk P w K mg base CX0 1 T.a__law_roll T.d__law_roll ["_law_dice_here", "_law_total"] (sp__law_roll K) := by
  refine T.F__law_roll.ok sc__law_roll (fun vs H Q E h => ?_) (fun cdv A outer s H vs Q E hr h => ?_)
  · obtain ⟨d, n, t, o, rfl, _⟩ := h; rfl
  · obtain ⟨d, n, t, o, rfl, hd, ⟨a, b, c, rfl, ⟨a0, a1⟩, ⟨b0, b1⟩, ⟨c0, c1⟩⟩, hn, t1, t2, k⟩ := h
    refine ⟨_, (pss_cons (psIf (pt_cmpR opGt (pe_ix ixU (pev 0) pe_int (fun _ _ => rfl)) pe_int (nomark _)) (pss_cons (ps_set (i := 2) sc__law_roll.nd rfl (by first | exact Or.inl rfl | exact Or.inr rfl) (pe_op opMod (pe_callTy caIntT (by rfl) T.b_int (by decide +kernel) (pa_cons (pe_ix ixU (pev 0) pe_int (fun _ _ => rfl)) pa_nil)) (pev 1)))
        (pss_cons (ps_asg (pe_op opDiv (pe_ix ixU (pev 0) pe_int (fun _ _ => rfl)) (pev 1)) (pg_sub (pev 0) pe_int set_list))
        (pss_one (ps_ret (pev 2))))) pss_nil)
        (pss_cons (ps_asg (pe_op opAdd (pe_ix ixU (pev 0) pe_int (fun _ _ => rfl)) pe_int) (pg_sub (pev 0) pe_int set_list))
        (pss_cons (ps_set (i := 3) sc__law_roll.nd rfl (by first | exact Or.inl rfl | exact Or.inr rfl) (pe_op opMod (pe_callTy caIntT (by rfl) T.b_int (by decide +kernel) (pa_cons (pe_op opAdd (pe_ix ixU (pev 0) pe_int (fun _ _ => rfl)) (pe_op opMulT pe_int (pe_ix ixU (pev 0) pe_int (fun _ _ => rfl)))) pa_nil)) pe_int))
        (pss_cons (ps_set (i := 4) sc__law_roll.nd rfl (by first | exact Or.inl rfl | exact Or.inr rfl) (pe_op opAdd (pe_op opMulT (pe_op opMod (pe_callTy caIntT (by rfl) T.b_int (by decide +kernel) (pa_cons (pe_op opAdd (pe_op opMulT (pev 3) (pev 3)) (pe_op opMulT pe_int (pe_ix ixU (pev 0) pe_int (fun _ _ => rfl)))) pa_nil)) pe_int) pe_int) (pev 3)))
        (pss_one (ps_ret (pe_op opMod (pe_callTy caIntT (by rfl) T.b_int (by decide +kernel) (pa_cons (pe_op opDiv (pev 4) pe_int) pa_nil)) (pev 1)))))))), ?_⟩
    conv => whnf
    refine ⟨_, _, .inl (SqL.of hd), rfl, ?_⟩
    conv => whnf
    refine ⟨_, rfl, ?_⟩
    refine brD (fun ha => ?_) (fun ha => ?_)
    · conv => whnf
      refine ⟨_, _, .inl (SqL.of hd), rfl, ?_⟩
      conv => whnf
      refine ⟨by omega, ?_⟩
      conv => whnf
      refine ⟨_, _, .inl (SqL.of hd), rfl, ?_⟩
      conv => whnf
      refine ⟨divW 5000 (by omega) (U.abs_lt (by omega) t2), ?_⟩
      conv => whnf
      refine ⟨_, _, _, _, rfl, rfl, hd, rfl, ?_⟩
      conv => whnf
      refine k _ _ _ (fun b u e n => by rw [upd_ne n]; exact e) upd_same ⟨a / t, b, c, rfl, ⟨Int.ediv_nonneg a0 (by omega), ?_⟩, ⟨b0, b1⟩, c0, by omega⟩ (Int.emod_nonneg _ (by omega)) (Int.emod_lt_of_pos _ (by omega))
      exact Int.lt_of_le_of_lt (Int.ediv_le_self _ a0) a1
    · conv => whnf
      refine ⟨_, _, .inl (SqL.of hd), rfl, ?_⟩
      conv => whnf
      refine ⟨_, _, _, _, rfl, rfl, hd, rfl, ?_⟩
      conv => whnf
      refine ⟨_, _, .inl (SqL.of upd_same), rfl, ?_⟩
      conv => whnf
      refine ⟨_, _, .inl (SqL.of upd_same), rfl, ?_⟩
      conv => whnf
      refine ⟨mulW 20 300 (by decide) (U.abs_lt (by omega) (by omega)), ?_⟩
      conv => whnf
      refine ⟨by decide, ?_⟩
      conv => whnf
      have hm := Int.emod_lt_of_pos (b + 8111 * (c + 1)) (show (0 : Int) < 2305843009213693723 by decide)
      have hm0 := Int.emod_nonneg (b + 8111 * (c + 1)) (show (2305843009213693723 : Int) ≠ 0 by decide)
      generalize (b + 8111 * (c + 1)) % 2305843009213693723 = x at hm hm0 ⊢
      refine ⟨mulW 64 64 (U.abs_lt hm0 (by omega)) (U.abs_lt hm0 (by omega)), ?_⟩
      conv => whnf
      refine ⟨_, _, .inl (SqL.of upd_same), rfl, ?_⟩
      conv => whnf
      refine ⟨mulW 20 300 (by decide) (U.abs_lt (by omega) (by omega)), ?_⟩
      conv => whnf
      refine ⟨by decide, ?_⟩
      conv => whnf
      have hy := Int.emod_lt_of_pos (x * x + 71 * (c + 1)) (show (0 : Int) < 2305843009213693669 by decide)
      have hy0 := Int.emod_nonneg (x * x + 71 * (c + 1)) (show (2305843009213693669 : Int) ≠ 0 by decide)
      generalize (x * x + 71 * (c + 1)) % 2305843009213693669 = y at hy hy0 ⊢
      refine ⟨mulW 64 64 (U.abs_lt hy0 (by omega)) (by decide), ?_⟩
      conv => whnf
      refine ⟨divW 20 (by decide) (by decide), ?_⟩
      conv => whnf
      refine ⟨by omega, ?_⟩
      conv => whnf
      exact k _ _ _ (fun b u e n => by rw [upd_ne n]; exact e) upd_same ⟨a, b, c + 1, rfl, ⟨a0, a1⟩, ⟨b0, b1⟩, by omega, by omega⟩ (Int.emod_nonneg _ (by omega)) (Int.emod_lt_of_pos _ (by omega))
theorem erase_perm : ∀ {l : List V} {k : Nat} {y : V}, l[k]? = some y → (y :: l.eraseIdx k).Perm l
  | [], k, y, h => by simp at h
  | a :: r, 0, y, h => by
    obtain rfl := Option.some.inj (show some a = some y from h)
    exact List.Perm.refl _
  | a :: r, k + 1, y, h => by
    have ih := erase_perm (l := r) (k := k) (y := y) h
    show (y :: a :: r.eraseIdx k).Perm (a :: r)
    exact (List.Perm.swap a y _).trans (ih.cons a)
def sp__law_mixed (K : PySem.W.Frag) : Sp := fun vs H Q _ => ∃ (d : Addr) (n : Nat) (o : HO) (p : Addr) (L : List V), vs = [.ref d, .ref p] ∧ H d = some o ∧ Dice n o ∧ n ≤ 900000 ∧ p ≠ d ∧ SqL K H p L ∧ L.length ≤ 16 ∧
  ∀ (H' : Hp) (r : Addr) (o' : HO) (L' : List V), (∀ b u, H b = some u → b ≠ d → H' b = some u) → H' d = some o' → Dice (n + 16) o' → r ≠ d → H' r = some (.lst L') → L'.Perm L → Q (.ref r) H'
theorem ok__law_mixed (T : Txt K mg) : FnOk P w K mg base CX0 2 T.a__law_mixed T.d__law_mixed ["_law_dice_here", "_law_items"] (sp__law_mixed K) := by
  refine T.F__law_mixed.ok sc__law_mixed (fun vs H Q E h => ?_) (fun cdv A outer s H vs Q E hr h => ?_)
  · obtain ⟨d, n, o, p, L, rfl, _⟩ := h; rfl
  · obtain ⟨d, n, o, p, L, rfl, hd, D0, hn, pd, hp, hl, k⟩ := h
    refine ⟨_, (pss_cons (ps_par (i := 2) (j := 3) (by rfl) sc__law_mixed.nd rfl rfl (by decide) rfl rfl (pa_cons (pe_callTy call_list_of (by rfl) T.b_list (by decide +kernel) (pa_cons (pev 1) pa_nil)) (pa_cons (pe_lst pa_nil) pa_nil)) (by rfl))
        (pss_cons (ps_for PassesOwn.never rfl (pi_range1 (by rfl) T.b_range (pa_cons (pe_callB caLen (by rfl) T.b_len (by decide +kernel) (pa_cons (pev 1) pa_nil)) pa_nil)) (pg_name (i := 4) sc__law_mixed.nd rfl (by first | exact Or.inl rfl | exact Or.inr rfl))
        (pss_one (ps_expr (pe_bm PySem.F.plainAttrs_list PySem.F.slot_list_append PySem.F.type_list_append mt_append (pev 3) (pa_cons (pe_bm PySem.F.plainAttrs_list PySem.F.slot_list_pop PySem.F.type_list_pop mt_popAt (pev 2) (pa_cons (pe_call (ok__law_roll T) (hr.mono (by decide)) (by rfl) T.g__law_roll T.F__law_roll.kp T.B__law_roll .nil pass0 (pa_cons (pev 0) (pa_cons (pe_callB caLen (by rfl) T.b_len (by decide +kernel) (pa_cons (pev 2) pa_nil)) pa_nil))) pa_nil)) pa_nil)))))
        (pss_one (ps_ret (pev 3))))), ?_⟩
    have L0 := At.start1 hd
    conv => whnf
    refine ⟨p, L, rfl, .inl hp, fun a ha => ?_⟩
    have L1 := L0.newM (o := .lst L) (one_dead hd) ha
    conv => whnf
    refine ⟨small_ok (by simp), fun f hf => ?_⟩
    have L2' := L1.newM (o := .lst []) (fun e he => by
      obtain rfl := List.mem_singleton.mp he
      exact ⟨o, L1.getM (.tail _ (.head _))⟩) hf
    have kp : ∀ {F M Hx}, At H [d] F M Hx → SqL K Hx p L := fun M => sqlKeep (At.keep1 M) pd hp
    conv => whnf
    refine ⟨_, _, rfl, ?_⟩
    conv => whnf
    refine ⟨L, .inl (kp L2'), ?_⟩
    conv => whnf
    refine ⟨_, rfl, by omega, by omega, for_range (lo := 0) (n := L.length) (fun i σ H' => (∃ v, σ = [some (.ref d), some (.ref p), some (.ref a), some (.ref f), v]) ∧ ∃ o' xs ys, Dice (n + i) o' ∧ (xs ++ ys).Perm L ∧ xs.length = i ∧ At H [d] [] [(f, .lst xs), (a, .lst ys), (d, o')] H')
      ⟨⟨none, rfl⟩, o, [], L, D0, List.Perm.refl _, rfl, L2'⟩ ?_ ?_⟩
    · rintro i σ H1 hi ⟨⟨v, rfl⟩, o1, xs, ys, D1, pm, lx, M1⟩
      have hly : ys.length = L.length - i := by
        have := pm.length_eq
        rw [List.length_append] at this
        omega
      conv => whnf
      refine ⟨.inl ⟨rfl, _, SqL.of (M1.getM (.head _))⟩, ?_⟩
      conv => whnf
      refine ⟨.inl ⟨rfl, _, SqL.of (M1.getM (.tail _ (.head _)))⟩, ?_⟩
      conv => whnf
      refine ⟨ys, .inl (SqL.of (M1.getM (.tail _ (.head _)))), ?_⟩
      conv => whnf
      refine ⟨d, _, _, o1, rfl, M1.getM (.tail _ (.tail _ (.head _))), D1, by omega, by omega, Int.lt_of_le_of_lt (show ((ys.length : Nat) : Int) ≤ 16 by omega) (by decide), fun H2 r o2 f2 g2 D2 r0 r1 => ?_⟩
      have M2 := ((M1.perm rot3).set f2 g2).perm (rot3.symm)
      obtain ⟨kk, rfl⟩ := Int.eq_ofNat_of_zero_le r0
      have hk : kk < ys.length := by omega
      have hy : ys[kk]? = some ys[kk] := List.getElem?_eq_getElem hk
      conv => whnf
      refine ⟨a, ys, kk, kk, ys[kk], rfl, rfl, M2.getM (.tail _ (.head _)), by omega, by omega, PySem.seqIndex_of r0 r1, hy, ?_⟩
      have M3 := (M2.swap.upd (u := .lst (ys.eraseIdx kk))).swap
      conv => whnf
      refine ⟨f, xs, ys[kk], rfl, rfl, M3.getM (.head _), small_lt (by omega), ?_⟩
      have M4 := M3.upd (u := .lst (xs ++ [ys[kk]]))
      exact ⟨⟨_, rfl⟩, o2, xs ++ [ys[kk]], ys.eraseIdx kk, D2, by
        rw [List.append_assoc]
        exact ((erase_perm hy).append_left xs).trans pm, by rw [List.length_append, lx]; rfl, M4⟩
    · rintro σ H1 ⟨⟨v, rfl⟩, o1, xs, ys, D1, pm, lx, M1⟩
      have hly : ys = [] := by
        have := pm.length_eq
        rw [List.length_append] at this
        exact List.eq_nil_of_length_eq_zero (by omega)
      subst hly
      rw [List.append_nil] at pm
      conv => whnf
      exact k H1 f o1 xs (At.keep1 M1) (M1.getM (.tail _ (.tail _ (.head _)))) (D1.up (by omega)) (fun z => by subst z; rw [L1.getM (.tail _ (.head _))] at hf; cases hf) (M1.getM (.head _)) pm
def sp__law_names (K : PySem.W.Frag) : Sp := fun vs H Q _ => ∃ (P : Addr) (ts : List (Str × List Str)) (gs : List Str) (zs : List (Str × (Nat × Nat))), vs = [.ref P] ∧ PlainQ H P ts gs zs ∧ ts.length < 64 ∧ ∀ (H' : Hp) (p : Addr), Gr H H' → H p = none → H' p = some (.lst ((srt (names ts)).map V.str)) → Q (.ref p) H'
theorem ok__law_names (T : Txt K mg) : FnOk P w K mg base CX0 1 T.a__law_names T.d__law_names ["_law_plain_here"] (sp__law_names K) := by
  refine T.F__law_names.ok sc__law_names (fun vs H Q E h => ?_) (fun cdv A outer s H vs Q E hr h => ?_)
  · obtain ⟨P, ts, gs, zs, rfl, _⟩ := h; rfl
  · obtain ⟨P, ts, gs, zs, rfl, ⟨D, G, S, kt, kz, kp, hP, ⟨kpt, kpg, kps⟩, hD, hkt, hG, hS, hkz, nPD, nPS, nDS⟩, few, k⟩ := h
    refine ⟨_, (pss_one (ps_ret (pe_callB (call_sortedD rfl) (by rfl) T.b_sorted (by decide +kernel) (pa_cons (pe_dget (hu1 (hu64 hr)) (pev 0) pe_str (fun _ _ => rfl)) pa_nil)))), ?_⟩
    conv => whnf
    refine ⟨P, .ref D, rfl, .inl ⟨kp, .inr "tables", .inl hP, rfl, kpt.symm⟩, ?_⟩
    conv => whnf
    refine ⟨D, kt, names ts, rfl, .inl hD, hkt.keys, by rw [show (names ts).length = ts.length from List.length_map _]; exact few, fun ys p pm hs hp => ?_⟩
    obtain rfl : ys = srt (names ts) := sorted_srt pm hs
    exact k _ p (Gr.rfl'.up hp) hp upd_same
/-- an integer that is let -/
def isIntV : V → Bool
  | .int i => decide (-(10 ^ 60) < i) && decide (i < 10 ^ 60)
  | _ => false
def sp_is_integer (K : PySem.W.Frag) : Sp := fun vs H Q _ => ∃ (v : V) (T : String), vs = [v] ∧ Kd K H v T ∧ Q (.bl (isIntV v)) H
theorem isIntV_not {K : PySem.W.Frag} {H : Hp} {v : V} {T : String} (h : Kd K H v T) (n : T ≠ "int") : isIntV v = false := by
  cases v with
  | int i => exact absurd h.ofInt n
  | _ => rfl
theorem ok_is_integer (T : Txt K mg) : FnOk P w K mg base CX0 1 T.a_is_integer T.d_is_integer ["value"] (sp_is_integer K) := by
  refine T.F_is_integer.ok sc_is_integer (fun vs H Q E h => ?_) (fun cdv A outer s H vs Q E hr h => ?_)
  · obtain ⟨v, S, rfl, _⟩ := h; rfl
  · obtain ⟨v, S, rfl, hk, k⟩ := h
    refine ⟨_, (pss_cons (psIf (PW.pt (pwOr (pt_not (ptV (pe_callB call_isi (by rfl) T.b_isinstance (by decide +kernel) (pa_cons (pev 0) (pa_cons (pe_bltn (v := .ty "int") (by rfl) T.b_int (by decide +kernel) rfl) pa_nil))))) (pw_or1 (ptV (pe_callB call_isi (by rfl) T.b_isinstance (by decide +kernel) (pa_cons (pev 0) (pa_cons (pe_bltn (v := .ty "bool") (by rfl) T.b_bool (by decide +kernel) rfl) pa_nil))))))) (pss_one (ps_ret pe_bl)) pss_nil)
        (pss_one (ps_ret (pe_chain opLt opLt (pe_un unNeg (pe_glob (v := .int 1000000000000000000000000000000000000000000000000000000000000) (by rfl) T.v_BEYOND ⟨_, rfl⟩)) (pev 0) (pe_glob (v := .int 1000000000000000000000000000000000000000000000000000000000000) (by rfl) T.v_BEYOND ⟨_, rfl⟩))))), ?_⟩
    conv => whnf
    refine ⟨_, _, _, _, _, rfl, .ty _, hk.1, kit_ty (kd_int hk.2), ?_⟩
    conv => whnf
    by_cases h1 : S = "int"
    · subst h1
      obtain ⟨i, rfl⟩ := hk.isInt
      refine brF ?_
      conv => whnf
      refine ⟨_, _, _, _, _, rfl, .ty _, hk.1, kit_ty (kd_bool hk.2), ?_⟩
      conv => whnf
      refine brF ?_
      conv => whnf
      refine ⟨_, rfl, ?_⟩
      refine ite2 (fun h => ?_) (fun h => ?_)
      · conv => whnf
        have e : isIntV (.int i) = decide (i < 1000000000000000000000000000000000000000000000000000000000000) := by
          show (decide _ && decide _) = _
          rw [show decide (-(10 ^ 60 : Int) < i) = true from h]; rfl
        rw [e] at k
        exact k
      · conv => whnf
        have e : isIntV (.int i) = false := by
          show (decide _ && decide _) = _
          rw [show decide (-(10 ^ 60 : Int) < i) = false from Bool.eq_false_iff.mpr h]; rfl
        rw [e] at k
        exact k
    · by_cases h2 : S = "bool"
      · subst h2
        refine brF ?_
        conv => whnf
        refine ⟨_, _, _, _, _, rfl, .ty _, hk.1, kit_ty (kd_bool hk.2), ?_⟩
        conv => whnf
        refine brT ?_
        conv => whnf
        rw [isIntV_not hk h1] at k
        exact k
      · refine brY (by simp [h1, h2]) ?_
        conv => whnf
        refine brT ?_
        conv => whnf
        rw [isIntV_not hk h1] at k
        exact k
def sp_Ratio___init__ (K : PySem.W.Frag) (C : Addr) : Sp := fun vs H Q _ => ∃ (a dx : Addr) (p q : Int), vs = [.ref a, .int p, .int q] ∧ H a = some (.ins C dx []) ∧ (-(10 ^ 60) < p ∧ p < 10 ^ 60) ∧ (0 < q ∧ q < 10 ^ 60) ∧
  ∀ H' : Hp, (∀ b u, H b = some u → b ≠ a → H' b = some u) → H' a = some (.ins C dx (rf (p / gcdI p q) (q / gcdI p q))) → Q .non H'
theorem make_R {K : PySem.W.Frag} {C : Addr} {H : Hp} {p q : Int} {R : Hp → Prop} {E : XK} {x dx : Addr} (hx : H x = none) (hd : H dx = none) (ne : dx ≠ x) (hp : -(10 ^ 60) < p ∧ p < 10 ^ 60) (hq : 0 < q ∧ q < 10 ^ 60) (k : ∀ H' : Hp, Gr H H' → IsR C H' (.ref x) (p / gcdI p q) (q / gcdI p q) → R H') :
    sp_Ratio___init__ K C (.ref x :: ([.int p, .int q] ++ [])) (upd (upd H dx (.own x)) x (.ins C dx [])) (fun v H2 => v = .non ∧ R H2) E :=
  ⟨x, dx, p, q, rfl, upd_same, hp, hq, fun H' s e => ⟨rfl, k _ (fun b u eb => s b u (by rw [upd_ne (ne_of_none eb hx), upd_ne (ne_of_none eb hd)]; exact eb) (ne_of_none eb hx)) ⟨x, dx, rfl, e⟩⟩⟩
theorem ok_Ratio___init__ (T : Txt K mg) : FnOk P w K mg base CX0 2 T.a_Ratio___init__ T.d_Ratio___init__ ["self", "top", "bottom"] (sp_Ratio___init__ K T.c_Ratio) := by
  refine T.F_Ratio___init__.ok sc_Ratio___init__ (fun vs H Q E h => ?_) (fun cdv A outer s H vs Q E hr h => ?_)
  · obtain ⟨a, dx, p, q, rfl, _⟩ := h; rfl
  · obtain ⟨a, dx, p, q, rfl, ha, ⟨p0, p1⟩, ⟨q0, q1⟩, k⟩ := h
    refine ⟨_, (pss_cons (psIf (PW.pt (pwOr (pt_not (ptV (pe_call (ok_is_integer T) (hr.mono (by decide)) (by rfl) T.g_is_integer T.F_is_integer.kp T.B_is_integer .nil pass0 (pa_cons (pev 1) pa_nil)))) (pwOr (pt_not (ptV (pe_call (ok_is_integer T) (hr.mono (by decide)) (by rfl) T.g_is_integer T.F_is_integer.kp T.B_is_integer .nil pass0 (pa_cons (pev 2) pa_nil)))) (pw_or1 (pt_cmpR opLt (pev 2) pe_int (nomark _)))))) (pss_one ps_never) pss_nil)
        (pss_cons (ps_set (i := 3) sc_Ratio___init__.nd rfl (by first | exact Or.inl rfl | exact Or.inr rfl) (pe_callBfun cr_gcd (by rfl) T.i_gcd (pa_cons (pev 1) (pa_cons (pev 2) pa_nil))))
        (pss_cons (ps_fld (pev 0) (pe_op opDiv (pev 1) (pev 3)) rfl)
        (pss_one (ps_fld (pev 0) (pe_op opDiv (pev 2) (pev 3)) rfl))))), ?_⟩
    have g0 := gcdI_pos (a := p) q0
    have g1 := gcdI_le (a := p) q0
    have gb : (gcdI p q).natAbs < 2 ^ 200 := U.abs_lt (by omega) (by omega)
    have ip : isIntV (.int p) = true := by
      show (decide (-(10 ^ 60) < p) && decide (p < 10 ^ 60)) = true
      simp only [Bool.and_eq_true, decide_eq_true_iff]; exact ⟨p0, p1⟩
    have iq : isIntV (.int q) = true := by
      show (decide (-(10 ^ 60) < q) && decide (q < 10 ^ 60)) = true
      simp only [Bool.and_eq_true, decide_eq_true_iff]; exact ⟨by omega, q1⟩
    conv => whnf
    refine ⟨_, _, rfl, Kd.int p, ?_⟩
    rw [ip]
    conv => whnf
    refine brF ?_
    conv => whnf
    refine ⟨_, _, rfl, Kd.int q, ?_⟩
    rw [iq]
    conv => whnf
    refine brF ?_
    conv => whnf
    refine ⟨_, rfl, ?_⟩
    refine brN (decide_eq_false (by omega)) ?_
    conv => whnf
    refine ⟨_, _, rfl, ?_⟩
    conv => whnf
    refine ⟨divW 200 g0 gb, ?_⟩
    conv => whnf
    refine ⟨a, T.c_Ratio, dx, _, rfl, ha, T.o_Ratio.cl, T.f_Ratio__top, by decide, ?_⟩
    conv => whnf
    refine ⟨divW 200 g0 gb, ?_⟩
    conv => whnf
    refine ⟨a, T.c_Ratio, dx, _, rfl, upd_same, T.o_Ratio.cl, T.f_Ratio__bottom, (by show 1 < 1000; decide), ?_⟩
    conv => whnf
    refine k _ (fun b u e n => by rw [upd_ne n, upd_ne n]; exact e) ?_
    rw [upd_same]
    exact congrArg (fun l => some (HO.ins T.c_Ratio dx l)) (rf_mk _ _)
def letters : List Nat := ("abcdefghijklmnopqrstuvwxyz" : Str).cps.toList
/-- a name -/
def isNameV : V → Bool
  | .str z => decide (1 ≤ z.length) && decide (z.length ≤ 8) && z.cps.toList.all fun c => decide (c ∈ letters)
  | _ => false
def sp_is_name (K : PySem.W.Frag) : Sp := fun vs H Q _ => ∃ (v : V) (T : String), vs = [v] ∧ KdO K H v T ∧ (∀ z, v = .str z → z.length ≤ 100000) ∧ ∀ H', (∀ b u, H b = some u → H' b = some u) → Q (.bl (isNameV v)) H'
theorem isNameV_not {K : PySem.W.Frag} {H : Hp} {v : V} {T : String} (h : Kd K H v T) (n : T ≠ "str") : isNameV v = false := by
  cases v with
  | str i => exact absurd h.ofStr n
  | _ => rfl
theorem ok_is_name (T : Txt K mg) : FnOk P w K mg base CX0 1 T.a_is_name T.d_is_name ["value"] (sp_is_name K) := by
  refine T.F_is_name.ok sc_is_name (fun vs H Q E h => ?_) (fun cdv A outer s H vs Q E hr h => ?_)
  · obtain ⟨v, T, rfl, _⟩ := h; rfl
  · obtain ⟨v, S, rfl, hk, hz, k⟩ := h
    refine ⟨_, (pss_cons (psIf (PW.pt (pwOr (pt_not (ptV (pe_callB call_isi (by rfl) T.b_isinstance (by decide +kernel) (pa_cons (pev 0) (pa_cons (pe_bltn (v := .ty "str") (by rfl) T.b_str (by decide +kernel) rfl) pa_nil))))) (pw_or1 (pt_not (pt_chain opLe opLe pe_int (pe_callB caLen (by rfl) T.b_len (by decide +kernel) (pa_cons (pev 0) pa_nil)) (pe_glob (v := .int 8) (by rfl) T.v_MAX_LETTERS ⟨_, rfl⟩)))))) (pss_one (ps_ret pe_bl)) pss_nil)
        (pss_one (ps_ret (pe_callB (caAll rfl) (by rfl) T.b_all (by decide +kernel) (pa_cons (pe_lc (own := [("letter", 1)]) (g := (gName 1)) (tt := tYes) (te := (tOp uInS (uV 1) (tC (.str "abcdefghijklmnopqrstuvwxyz")))) rfl sc_is_name.nd (pi_str (pev 0)) (blkOk_by (own := [("letter", 1)]) (N := ["value", "letter"]) (sc := defScope s_is_name) (by decide +kernel)) (fun _ _ _ _ _ => pg_name (i := 1) sc_is_name.nd rfl (by first | exact Or.inl rfl | exact Or.inr rfl)) (fun _ _ _ _ _ => pts_nil) (fun _ _ _ _ _ => (pe_cmpR opInS (pev 1) (pe_glob (v := .str "abcdefghijklmnopqrstuvwxyz") (by rfl) T.v_LETTERS ⟨_, rfl⟩) rfl))) pa_nil))))), ?_⟩
    rcases hk with hk | ⟨rfl, a, C, dx, fs, rfl, ha, oc, sb⟩
    rotate_left
    · conv => whnf
      refine ⟨_, _, _, _, _, rfl, .ty _, oc.ty ha, kit_blt (by rfl) sb, ?_⟩
      conv => whnf
      refine brT ?_
      conv => whnf
      refine brT ?_
      conv => whnf
      exact k H (fun _ _ e => e)
    conv => whnf
    refine ⟨_, _, _, _, _, rfl, .ty _, hk.1, kit_ty (kd_str hk.2), ?_⟩
    conv => whnf
    by_cases h1 : S = "str"
    · subst h1
      obtain ⟨z, rfl⟩ := hk.isStr
      have hz := hz z rfl
      refine brF ?_
      conv => whnf
      refine ⟨small_ok (by omega), ?_⟩
      conv => whnf
      refine ⟨_, rfl, ?_⟩
      have el : z.length = z.cps.toList.length := by simp [Str.length]
      refine ite2 (fun h => ?_) (fun h => ?_)
      · conv => whnf
        refine ⟨_, rfl, ?_⟩
        refine br2 (fun h8 => ?_) (fun h8 => ?_)
        · conv => whnf
          have h8' : ¬ ((z.length : Int) ≤ 8) := by simpa using h8
          have e : isNameV (.str z) = false := by
            show (_ && decide (z.length ≤ 8) && _) = false
            rw [decide_eq_false (show ¬ z.length ≤ 8 by omega)]; simp
          have k := k H (fun _ _ e => e)
          rw [e] at k
          exact k
        · conv => whnf
          have h8' : (z.length : Int) ≤ 8 := by simpa using h8
          have h' : 1 ≤ (z.length : Int) := by simpa using h
          refine ⟨z, rfl, fun D hD => lc_it walk_str (fun i H' => H' = upd H D (.lst ((z.cps.toList.take i).map fun c => V.bl (decide (c ∈ letters))))) (by rfl) (fun _ _ _ _ => trivial) ?_ ?_⟩
          · rintro i x H1 H2 hi rfl ⟨rfl, c, hc, rfl⟩
            conv => whnf
            refine ⟨rfl, ?_⟩
            conv => whnf
            refine ⟨c, rfl, ?_⟩
            conv => whnf
            have hl : i < z.cps.toList.length := by simpa using hi
            have e : z.cps.toList.take (i + 1) = z.cps.toList.take i ++ [c] := by
              rw [List.take_add_one]
              simp [hc]
            refine ⟨_, upd_same, small_lt (by simp only [List.length_map, List.length_take]; omega), ?_⟩
            rw [e, List.map_append, upd_upd]
            rfl
          · rintro H1 rfl
            conv => whnf
            refine ⟨D, z.cps.toList.map fun c => decide (c ∈ letters), rfl, SqL.of ?_, ?_⟩
            · have e : z.cps.toList.take z.cps.size = z.cps.toList := by rw [List.take_of_length_le (by simp)]
              rw [e, List.map_map]
              exact upd_same
            · have e : isNameV (.str z) = (z.cps.toList.map fun c => decide (c ∈ letters)).all id := by
                show (decide _ && decide (z.length ≤ 8) && _) = _
                rw [decide_eq_true (show 1 ≤ z.length by omega), decide_eq_true (show z.length ≤ 8 by omega), List.all_map]
                rfl
              rw [← e]
              exact k _ fun b u q => by rw [upd_ne (ne_of_none q hD)]; exact q
      · conv => whnf
        refine ⟨_, rfl, ?_⟩
        refine brT ?_
        conv => whnf
        have h' : ¬ (1 ≤ (z.length : Int)) := by simpa using h
        have e : isNameV (.str z) = false := by
          show (decide _ && _ && _) = false
          rw [decide_eq_false (show ¬ 1 ≤ z.length by omega)]; simp
        have k := k H (fun _ _ e => e)
        rw [e] at k
        exact k
    · refine brY (by simp [h1]) ?_
      conv => whnf
      refine brT ?_
      conv => whnf
      have k := k H (fun _ _ e => e)
      rw [isNameV_not hk h1] at k
      exact k
def ltS (a b : Str) : Bool := decide (a.cps.toList < b.cps.toList)
def sp_is_ascending_names (K : PySem.W.Frag) : Sp := fun vs H Q _ => ∃ (a : Addr) (zs : List Str), vs = [.ref a] ∧ H a = some (.tup (zs.map V.str)) ∧ zs.length ≤ 1000 ∧ (∀ z ∈ zs, z.length ≤ 8 ∧ isNameV (.str z) = true) ∧ (∀ i x y, zs[i]? = some x → zs[i + 1]? = some y → x.cps.toList < y.cps.toList) ∧ ∀ H' : Hp, Gr H H' → Q (.bl true) H'
theorem ok_is_ascending_names (T : Txt K mg) : FnOk P w K mg base CX0 2 T.a_is_ascending_names T.d_is_ascending_names ["value"] (sp_is_ascending_names K) := by
  refine T.F_is_ascending_names.ok sc_is_ascending_names (fun vs H Q E h => ?_) (fun cdv A outer s H vs Q E hr h => ?_)
  · obtain ⟨a, zs, rfl, _⟩ := h; rfl
  · obtain ⟨a, zs, rfl, ha, hl, hz, hlt, k⟩ := h
    refine ⟨_, (pss_cons (psIf (PW.pt (pwOr (pt_not (ptV (pe_callB call_isi (by rfl) T.b_isinstance (by decide +kernel) (pa_cons (pev 0) (pa_cons (pe_bltn (v := .ty "tuple") (by rfl) T.b_tuple (by decide +kernel) rfl) pa_nil))))) (pw_or1 (pt_not (ptV (pe_callB (caAll rfl) (by rfl) T.b_all (by decide +kernel) (pa_cons (pe_lc (own := [("name", 1)]) (g := (gName 1)) (tt := tYes) (te := (tCall (sp_is_name K) [] E0 (tCons (uV 1) tNil))) rfl sc_is_ascending_names.nd (pi_tup (pev 0)) (blkOk_by (own := [("name", 1)]) (N := ["value", "name", "low", "high"]) (sc := defScope s_is_ascending_names) (by decide +kernel)) (fun _ _ _ _ _ => pg_name (i := 1) sc_is_ascending_names.nd rfl (by first | exact Or.inl rfl | exact Or.inr rfl)) (fun _ _ _ _ _ => pts_nil) (fun _ _ _ _ _ => (pe_call (ok_is_name T) (hr.mono (by decide)) (by rfl) T.g_is_name T.F_is_name.kp T.B_is_name .nil pass0 (pa_cons (pev 1) pa_nil)))) pa_nil))))))) (pss_one (ps_ret pe_bl)) pss_nil)
        (pss_one (ps_ret (pe_callB (caAll rfl) (by rfl) T.b_all (by decide +kernel) (pa_cons (pe_lc (own := [("low", 2), ("high", 3)]) (g := (gTup K 2 (gCons (gName 2) (gCons (gName 3) gNil)))) (tt := tYes) (te := (tOp uLt (uV 2) (uV 3))) rfl sc_is_ascending_names.nd (RZ.pi_zipA (by rfl) T.b_zip (pa_cons (pev 0) (pa_cons (pe_slice sl_tupA (pev 0) (po_some pe_int) po_none) pa_nil))) (blkOk_by (own := [("low", 2), ("high", 3)]) (N := ["value", "name", "low", "high"]) (sc := defScope s_is_ascending_names) (by decide +kernel)) (fun _ _ _ _ _ => pg_tup rfl (pgs_cons (pg_name (i := 2) sc_is_ascending_names.nd rfl (by first | exact Or.inl rfl | exact Or.inr rfl)) (pgs_cons (pg_name (i := 3) sc_is_ascending_names.nd rfl (by first | exact Or.inl rfl | exact Or.inr rfl)) pgs_nil))) (fun _ _ _ _ _ => pts_nil) (fun _ _ _ _ _ => (pe_cmpR opLt (pev 2) (pev 3) (nomark _)))) pa_nil))))), ?_⟩
    have ka : Kd K H (.ref a) "tuple" := Kd.tup ha
    conv => whnf
    refine ⟨_, _, _, _, _, rfl, .ty _, ka.1, kit_ty (kd_tuple ka.2), ?_⟩
    conv => whnf
    refine brF ?_
    conv => whnf
    refine ⟨a, rfl, ⟨_, SqT.of ha⟩, fun D hD => ?_⟩
    refine lc_tup (xs := zs.map V.str) (fun i Hm => Gr H Hm ∧ Hm D = some (.lst ((List.replicate i true).map V.bl))) ⟨Gr.rfl'.up hD, upd_same⟩ (fun _ _ _ L => SqT.of (L.1 _ _ ha)) ?_ ?_
    · rintro j x Hm hx' ⟨g, e⟩
      have hj := (List.getElem?_eq_some_iff.mp hx').1
      obtain ⟨z, hz1, rfl⟩ := List.mem_map.mp (List.mem_of_getElem? hx')
      conv => whnf
      refine ⟨rfl, ?_⟩
      conv => whnf
      refine ⟨_, "str", rfl, .inl (Kd.str _), fun z' e' => by cases e'; have := (hz z hz1).1; omega, fun Hn gn => ?_⟩
      rw [(hz z hz1).2]
      conv => whnf
      refine ⟨_, gn _ _ e, small_lt (by rw [List.length_map, List.length_replicate]; rw [List.length_map] at hj; omega), ?_⟩
      refine ⟨Gr.app hD (g.trans gn), ?_⟩
      rw [upd_same, List.replicate_succ', List.map_append]
      rfl
    · rintro Hm ⟨g, e⟩
      conv => whnf
      refine ⟨D, _, rfl, SqL.of e, ?_⟩
      rw [all_true]
      conv => whnf
      refine brF ?_
      conv => whnf
      refine ⟨_, rfl, ?_⟩
      conv => whnf
      refine ⟨a, _, rfl, SqT.of (g _ _ ha), fun hw => ?x, fun hw p hp => ?y⟩
      case' x =>
        have hb : SqT K Hm a ((zs.drop 1).map V.str) := by
          have h0 : zs = [] := by
            have h1 := hw.1
            rw [show ((1 : Int)) = ((1 : Nat) : Int) from rfl, HT.sIx_nat, List.length_map] at h1
            exact List.eq_nil_of_length_eq_zero (by omega)
          subst h0
          exact SqT.of (g _ _ ha)
        have gn : Gr H Hm := g
      case' y =>
        have hb : SqT K (upd Hm p (.tup (cutV (zs.map V.str) (some 1) none))) p ((zs.drop 1).map V.str) := by
          refine SqT.of ?_
          rw [upd_same]
          have e1 : HT.sIx (zs.map V.str).length 0 (some 1) = min 1 zs.length := by rw [show ((1 : Int)) = ((1 : Nat) : Int) from rfl, HT.sIx_nat, List.length_map]
          have e2 : cutV (zs.map V.str) (some 1) none = (zs.drop 1).map V.str := by
            unfold cutV
            rw [e1, HT.sIx_none, List.map_drop, List.take_of_length_le (by rw [List.length_drop]; omega)]
            by_cases h : zs = []
            · subst h; rfl
            · have : 0 < zs.length := List.length_pos_iff.mpr h
              rw [show min 1 zs.length = 1 by omega]
          rw [e2]
        have gn : Gr H (upd Hm p (.tup (cutV (zs.map V.str) (some 1) none))) := g.up hp
      all_goals
        conv => whnf
        refine ⟨a, _, _, _, rfl, .inr ⟨SqT.of (gn _ _ ha), hb, fun D' hD' => ?_⟩⟩
        refine lc_it (walk_zipT rfl) (fun i Hk => Gr _ Hk ∧ Hk D' = some (.lst ((List.replicate i true).map V.bl))) ⟨Gr.rfl'.up hD', upd_same⟩ (fun _ Hk _ L => ⟨sqtSame L.1 (SqT.of (gn _ _ ha)), sqtSame L.1 hb⟩) ?_ ?_
        · rintro j x Hk H2 hj ⟨g2, e2⟩ ⟨T', x', y', rfl, hT, rfl, hx', hy'⟩
          simp only [List.getElem?_map] at hx' hy'
          obtain ⟨z1, h1, rfl⟩ := Option.map_eq_some_iff.mp hx'
          obtain ⟨z2, h2, rfl⟩ := Option.map_eq_some_iff.mp hy'
          have hz2 : zs[j + 1]? = some z2 := by rw [List.getElem?_drop, Nat.add_comm] at h2; exact h2
          have hj1 := (List.getElem?_eq_some_iff.mp hz2).1
          conv => whnf
          refine ⟨T', _, rfl, SqT.of upd_same, rfl, ?_⟩
          conv => whnf
          refine ⟨_, _, rfl, ?_⟩
          conv => whnf
          refine ⟨_, _, rfl, ?_⟩
          conv => whnf
          refine ⟨rfl, ?_⟩
          conv => whnf
          refine ⟨rfl, ?_⟩
          conv => whnf
          rw [decide_eq_true (hlt j z1 z2 h1 hz2)]
          refine ⟨_, (Gr.rfl'.up hT) _ _ e2, small_lt (by rw [List.length_map, List.length_replicate]; omega), ?_⟩
          refine ⟨Gr.app hD' (g2.trans (Gr.rfl'.up hT)), ?_⟩
          rw [upd_same, List.replicate_succ', List.map_append]
          rfl
        · rintro Hk ⟨g2, e2⟩
          conv => whnf
          refine ⟨D', _, rfl, SqL.of e2, ?_⟩
          rw [all_true]
          exact k _ (gn.trans g2)
def sp__columns_of (K : PySem.W.Frag) : Sp := fun vs H Q _ => ∃ (a : Addr) (kvs : List (Key × V)) (ts : List (Str × List Str)), vs = [.ref a] ∧ H a = some (.dK kvs) ∧ DRel TupS H kvs ts ∧ (names ts).Nodup ∧ (fl ts).length < 64 ∧
  ∀ (H' : Hp) (p : Addr), Gr H H' → H p = none → H' p = some (.tup ((colsOf ts).map V.str)) → Q (.ref p) H'
theorem ok__columns_of (T : Txt K mg) : FnOk P w K mg base CX0 1 T.a__columns_of T.d__columns_of ["tables"] (sp__columns_of K) := by
  refine T.F__columns_of.ok sc__columns_of (fun vs H Q E h => ?_) (fun cdv A outer s H vs Q E hr h => ?_)
  · obtain ⟨a, kvs, ts, rfl, _⟩ := h; rfl
  · obtain ⟨a, kvs, ts, rfl, ha, hd, nd, few, k⟩ := h
    refine ⟨_, (pss_one (ps_ret (pe_callTy call_tuple_of (by rfl) T.b_tuple (by decide +kernel) (pa_cons (pe_callB (cr_sortX rfl) (by rfl) T.b_sorted (by decide +kernel) (pa_cons (pe_lock (pe_sc2 (own := [("name", 1), ("column", 2)]) (vs1 := [2]) (g := (gName 1)) (g1 := (gName 2)) (wi1 := (iTup K (tDGet (uV 0) (uV 1)))) (te := (uV 2)) rfl sc__columns_of.nd (blkOk_by (own := [("name", 1), ("column", 2)]) (N := ["tables", "name", "column"]) (sc := defScope s__columns_of) (by decide +kernel)) (by decide) (pi_keys (pev 0)) (fun _ _ _ _ _ => pg_name (i := 1) sc__columns_of.nd rfl (by first | exact Or.inl rfl | exact Or.inr rfl)) (fun _ _ _ _ _ => (pi_tup (pe_dget (hu1 (hu64 hr)) (pev 0) (pev 1) (fun _ _ => rfl)))) (fun _ _ _ _ _ => pg_name (i := 2) sc__columns_of.nd rfl (by first | exact Or.inl rfl | exact Or.inr rfl)) (fun _ _ _ _ _ => (pev 2)))) pa_nil)) pa_nil)))), ?_⟩
    conv => whnf
    refine ⟨a, _, ha, trivial, fun od => ?_⟩
    conv => whnf
    refine ⟨a, od, rfl, .inl ⟨kvs, upd_same, fun D hD => ?_⟩⟩
    have aD : D ≠ a := fun z => by rw [z, upd_same] at hD; cases hD
    have hDn : H D = none := by rw [upd_ne aD] at hD; exact hD
    have tupAt : ∀ (b : Addr) (xs : List Str) (o : HO), H b = some (.tup (xs.map V.str)) → (upd (upd H a (.frz od (.dK kvs))) D o) b = some (.tup (xs.map V.str)) := fun b xs o e => by
      rw [upd_ne (fun z => by rw [z, hDn] at e; cases e), upd_ne (fun z => by rw [z, ha] at e; cases e)]
      exact e
    refine sx_out walk_keys (fun i Hm => Hm = upd (upd H a (.frz od (.dK kvs))) D (SetXO w D (adds [] (fl (ts.take i))))) rfl (fun i Hm _ e => ?_) ?_ ?_
    · subst e
      rw [upd_ne aD.symm, upd_same]
    · rintro i x Hm H2 hi rfl ⟨rfl, k', v', hk, rfl⟩
      obtain ⟨t, ht, e1, _⟩ := hd.at hk
      have e1 : k' = .inr t.1 := e1
      subst e1
      obtain ⟨v, hv, b, rfl, hb⟩ := hd.get (lk_at nd (List.mem_of_getElem? ht))
      conv => whnf
      refine ⟨rfl, ?_⟩
      conv => whnf
      refine ⟨a, .ref b, rfl, .inl ⟨kvs, .inr t.1, .inr ⟨od, by rw [upd_ne aD.symm, upd_same]⟩, rfl, hv.symm⟩, b, rfl, ⟨_, SqT.of (tupAt b _ _ hb)⟩, ?_⟩
      have room : (fl (ts.take (i + 1))).length < 64 := by
        refine Nat.lt_of_le_of_lt ?_ few
        have e : fl ts = fl (ts.take (i + 1)) ++ fl (ts.drop (i + 1)) := by
          unfold fl
          rw [← List.flatten_append, ← List.map_append, List.take_append_drop]
        rw [e, List.length_append]
        omega
      have e2 : fl (ts.take (i + 1)) = fl (ts.take i) ++ t.2 := by
        unfold fl
        rw [List.take_add_one, ht, List.map_append, List.flatten_append]
        simp
      refine sx_in (walk_tup (xs := t.2.map V.str)) (fun j Hm => Hm = upd (upd H a (.frz od (.dK kvs))) D (SetXO w D (adds [] (fl (ts.take i) ++ t.2.take j)))) (by rw [List.take_zero, List.append_nil]) (fun j Hm _ e => by rw [e]; exact SqT.of (tupAt b _ _ hb)) ?_ ?_
      · rintro j x Hm H2 hj rfl ⟨rfl, hx⟩
        rw [List.getElem?_map] at hx
        obtain ⟨z, hz, rfl⟩ := Option.map_eq_some_iff.mp hx
        conv => whnf
        refine ⟨rfl, ?_⟩
        conv => whnf
        refine ⟨z, _, rfl, upd_same, ?_, ?_⟩
        · have h1 := adds_len (fl (ts.take i) ++ t.2.take j) []
          rw [e2, List.length_append] at room
          rw [List.length_append, List.length_take] at h1
          unfold scanBound
          simp only [List.length_nil] at h1
          omega
        · rw [upd_upd, List.take_add_one, hz, ← List.append_assoc]
          simp only [Option.toList_some]
          rw [adds_snoc]
          rfl
      · rintro Hm rfl
        rw [List.length_map, List.take_length, e2]
    · rintro Hm rfl
      refine ⟨by rw [upd_ne aD.symm, upd_same], ?_⟩
      rw [hd.1, List.take_length]
      rw [upd_unlock aD ha]
      conv => whnf
      refine ⟨D, _, rfl, upd_same, ?_, fun ys p pm hs hp => ?_⟩
      · have := adds_len (fl ts) []
        simp only [List.length_nil] at this
        omega
      obtain rfl : ys = colsOf ts := sorted_srt pm hs
      have pD : p ≠ D := fun z => by rw [z, upd_same] at hp; cases hp
      have hpn : H p = none := by rw [upd_ne pD] at hp; exact hp
      conv => whnf
      refine ⟨p, _, rfl, .inl ⟨SqL.of upd_same, fun l hl => ?_⟩⟩
      have g := (Gr.rfl'.up hDn).up (o := .lst ((colsOf ts).map V.str)) hp
      exact k _ l (g.up hl) (g.free' hl) upd_same
def sp__is_tables (K : PySem.W.Frag) : Sp := fun vs H Q _ => ∃ (d : Addr) (kvs : List (Key × V)) (ts : List (Str × List Str)), vs = [.ref d] ∧ H d = some (.dK kvs) ∧ DRel TupS H kvs ts ∧ OKT ts ∧ ∀ H' : Hp, Gr H H' → Q (.bl true) H'
theorem ok__is_tables (T : Txt K mg) : FnOk P w K mg base CX0 3 T.a__is_tables T.d__is_tables ["value"] (sp__is_tables K) := by
  refine T.F__is_tables.ok sc__is_tables (fun vs H Q E h => ?_) (fun cdv A outer s H vs Q E hr h => ?_)
  · obtain ⟨d, kvs, ts, rfl, _⟩ := h; rfl
  · obtain ⟨d, kvs, ts, rfl, hd, hk, ok, k⟩ := h
    refine ⟨_, (pss_cons (psIf (PW.pt (pwOr (pt_not (ptV (pe_callB call_isi (by rfl) T.b_isinstance (by decide +kernel) (pa_cons (pev 0) (pa_cons (pe_bltn (v := .ty "dict") (by rfl) T.b_dict (by decide +kernel) rfl) pa_nil))))) (pw_or1 (pt_not (pt_chain opLe opLe pe_int (pe_callB caLenD (by rfl) T.b_len (by decide +kernel) (pa_cons (pev 0) pa_nil)) (pe_glob (v := .int 6) (by rfl) T.v_MAX_TABLES ⟨_, rfl⟩)))))) pss_never pss_nil)
        (pss_cons (ps_lock (ps_for PassesOwn.never rfl (pi_items (pev 0)) (pg_tup rfl (pgs_cons (pg_name (i := 1) sc__is_tables.nd rfl (by first | exact Or.inl rfl | exact Or.inr rfl)) (pgs_cons (pg_name (i := 2) sc__is_tables.nd rfl (by first | exact Or.inl rfl | exact Or.inr rfl)) pgs_nil)))
        (pss_one (psIf (PW.pt (pwOr (pt_not (ptV (pe_call (ok_is_name T) (hr.mono (by decide)) (by rfl) T.g_is_name T.F_is_name.kp T.B_is_name .nil pass0 (pa_cons (pev 1) pa_nil)))) (pwOr (pt_not (ptV (pe_call (ok_is_ascending_names T) (hr.mono (by decide)) (by rfl) T.g_is_ascending_names T.F_is_ascending_names.kp T.B_is_ascending_names .nil pass0 (pa_cons (pev 2) pa_nil)))) (pw_or1 (pt_not (pt_chain opLe opLe pe_int (pe_callB caLen (by rfl) T.b_len (by decide +kernel) (pa_cons (pev 2) pa_nil)) (pe_glob (v := .int 6) (by rfl) T.v_MAX_TABLE_COLUMNS ⟨_, rfl⟩))))))) pss_never pss_nil))))
        (pss_one (ps_ret (pe_cmpR opLe (pe_callB caLen (by rfl) T.b_len (by decide +kernel) (pa_cons (pe_call (ok__columns_of T) (hr.mono (by decide)) (by rfl) T.g__columns_of T.F__columns_of.kp T.B__columns_of .nil pass0 (pa_cons (pev 0) pa_nil)) pa_nil)) (pe_glob (v := .int 8) (by rfl) T.v_MAX_COLUMNS ⟨_, rfl⟩) (nomark _)))))), ?_⟩
    have kd : Kd K H (.ref d) "dict" := Kd.dK hd
    have lk := hk.1
    have few := ok.few
    conv => whnf
    refine ⟨_, _, _, _, _, rfl, .ty _, kd.1, kit_ty (kd_dict kd.2), ?_⟩
    conv => whnf
    refine brF ?_
    conv => whnf
    refine ⟨d, kvs, rfl, .inl hd, ?_⟩
    conv => whnf
    refine ⟨_, rfl, ?_⟩
    refine ite2 (fun h1 => ?_) (fun h1 => absurd (show 1 ≤ (kvs.length : Int) by omega) (by simpa using h1))
    conv => whnf
    refine ⟨_, rfl, ?_⟩
    refine br2 (fun h2 => absurd (show (kvs.length : Int) ≤ 6 by omega) (by simpa using h2)) (fun h2 => ?_)
    conv => whnf
    refine ⟨d, _, hd, trivial, fun od => ?_⟩
    conv => whnf
    refine ⟨d, od, kvs, rfl, upd_same, ?_⟩
    refine for_it walk_items (fun i σ Hm => Gr (upd H d (.frz od (.dK kvs))) Hm ∧ ∃ x y, σ = [some (.ref d), x, y]) ⟨Gr.rfl', _, _, rfl⟩ (fun _ _ _ _ L => L.1 _ _ upd_same) ?_ ?_
    · rintro i x σ Hm Hn hi ⟨g, x1, x2, rfl⟩ ⟨T', y1, y2, rfl, hT, rfl, hy1, hy2⟩
      simp only [Option.map_eq_some_iff] at hy1 hy2
      obtain ⟨kv, hkv, rfl⟩ := hy1
      obtain ⟨kv', hkv', rfl⟩ := hy2
      obtain rfl : kv = kv' := Option.some.inj (hkv.symm.trans hkv')
      obtain ⟨t, ht, ek, b, eb, hb⟩ := hk.at hkv
      have tm := List.mem_of_getElem? ht
      have oc := ok.cols t tm
      have gT := g.up (o := .tup [kV kv.1, kv.2]) hT
      rw [ek, eb] at gT ⊢
      have hb2 := gT _ _ (show (upd H d (.frz od (.dK kvs))) b = _ by rw [upd_ne (fun z => by rw [z, hd] at hb; cases hb)]; exact hb)
      conv => whnf
      refine ⟨T', _, rfl, SqT.of upd_same, rfl, ?_⟩
      generalize upd Hm T' _ = Hn at gT hb2 ⊢
      conv => whnf
      refine ⟨_, _, rfl, ?_⟩
      conv => whnf
      refine ⟨_, _, rfl, ?_⟩
      conv => whnf
      refine ⟨rfl, ?_⟩
      conv => whnf
      refine ⟨_, "str", rfl, .inl (Kd.str _), fun z e => by cases e; have := (ok.nm t tm).len; omega, fun H2 g2 => ?_⟩
      rw [show isNameV (kV (.inr t.1)) = true from ok.nm t tm]
      conv => whnf
      refine brF ?_
      conv => whnf
      refine ⟨b, t.2, rfl, g2 _ _ hb2, by omega, fun z hz => ⟨(oc.2.2 z hz).len, oc.2.2 z hz⟩, fun i x y hx hy => oc.2.1.at hx hy, fun H3 g3 => ?_⟩
      conv => whnf
      refine brF ?_
      conv => whnf
      refine ⟨_, .inr (SqT.of (g3 _ _ (g2 _ _ hb2))), ?_⟩
      conv => whnf
      refine ⟨_, rfl, ?_⟩
      refine ite2 (fun h1 => ?_) (fun h1 => absurd (show 1 ≤ (((t.2.map V.str).length : Nat) : Int) by rw [List.length_map]; omega) (by simpa using h1))
      conv => whnf
      refine ⟨_, rfl, ?_⟩
      refine br2 (fun h2 => absurd (show (((t.2.map V.str).length : Nat) : Int) ≤ 6 by rw [List.length_map]; omega) (by simpa using h2)) (fun h2 => ?_)
      exact ⟨(gT.trans g2).trans g3, _, _, rfl⟩
    · rintro σ Hm ⟨g, x1, x2, rfl⟩
      have e := g _ _ (upd_same (H := H) (a := d) (o := .frz od (.dK kvs)))
      refine ⟨e, ?_⟩
      have G := g.unlock hd
      have hd2 := G _ _ hd
      have hk2 := hk.mono fun v b r => r.up G
      generalize upd Hm d (.dK kvs) = Hn at G hd2 hk2 ⊢
      conv => whnf
      refine ⟨d, kvs, ts, rfl, hd2, hk2, ok.nd, ok.fl, fun H2 p g2 hp e2 => ?_⟩
      conv => whnf
      refine ⟨_, .inr (SqT.of e2), ?_⟩
      conv => whnf
      have h8 := ok.all
      rw [decide_eq_true (show ((((colsOf ts).map V.str).length : Nat) : Int) ≤ 8 by rw [List.length_map]; omega)]
      exact k _ (G.trans g2)
def sp__is_groups (K : PySem.W.Frag) : Sp := fun vs H Q _ => ∃ (g d : Addr) (gs : List Str) (kvs : List (Key × V)) (ts : List (Str × List Str)), vs = [.ref g, .ref d] ∧ H g = some (.tup (gs.map V.str)) ∧ H d = some (.dK kvs) ∧ DRel TupS H kvs ts ∧ OKT ts ∧ OKG ts gs ∧ ∀ H' : Hp, Gr H H' → Q (.bl true) H'
theorem ok__is_groups (T : Txt K mg) : FnOk P w K mg base CX0 3 T.a__is_groups T.d__is_groups ["value", "tables"] (sp__is_groups K) := by
  refine T.F__is_groups.ok sc__is_groups (fun vs H Q E h => ?_) (fun cdv A outer s H vs Q E hr h => ?_)
  · obtain ⟨g, d, gs, kvs, ts, rfl, _⟩ := h; rfl
  · obtain ⟨g, d, gs, kvs, ts, rfl, hg, hd, hk, ok, og, k⟩ := h
    refine ⟨_, (pss_cons (ps_set (i := 2) sc__is_groups.nd rfl (by first | exact Or.inl rfl | exact Or.inr rfl) (pe_call (ok__columns_of T) (hr.mono (by decide)) (by rfl) T.g__columns_of T.F__columns_of.kp T.B__columns_of .nil pass0 (pa_cons (pev 1) pa_nil)))
        (pss_one (ps_ret (peAnd (pe_call (ok_is_ascending_names T) (hr.mono (by decide)) (by rfl) T.g_is_ascending_names T.F_is_ascending_names.kp T.B_is_ascending_names .nil pass0 (pa_cons (pev 0) pa_nil)) (pe_one (pe_callB (caAll rfl) (by rfl) T.b_all (by decide +kernel) (pa_cons (pe_lc (own := [("column", 3)]) (g := (gName 3)) (tt := tYes) (te := (tOp (rIn K false) (uV 3) (uV 2))) rfl sc__is_groups.nd (pi_tup (pev 0)) (blkOk_by (own := [("column", 3)]) (N := ["value", "tables", "columns", "column"]) (sc := defScope s__is_groups) (by decide +kernel)) (fun _ _ _ _ _ => pg_name (i := 3) sc__is_groups.nd rfl (by first | exact Or.inl rfl | exact Or.inr rfl)) (fun _ _ _ _ _ => pts_nil) (fun _ _ _ _ _ => (pe_cmpR op_in_seq (pev 3) (pev 2) rfl))) pa_nil))))))), ?_⟩
    conv => whnf
    refine ⟨d, kvs, ts, rfl, hd, hk, ok.nd, ok.fl, fun H1 p g1 hp e1 => ?_⟩
    conv => whnf
    have few := og.few
    refine ⟨g, gs, rfl, g1 _ _ hg, by omega, fun z hz => ⟨(og.nm z hz).len, og.nm z hz⟩, fun i x y hx hy => og.up.at hx hy, fun H2 g2 => ?_⟩
    conv => whnf
    have hg2 := g2 _ _ (g1 _ _ hg)
    have e2 := g2 _ _ e1
    refine brT ?_
    conv => whnf
    refine ⟨g, rfl, ⟨_, SqT.of hg2⟩, fun D hD => ?_⟩
    refine lc_tup (xs := gs.map V.str) (fun i Hm => Gr H2 Hm ∧ Hm D = some (.lst ((List.replicate i true).map V.bl))) ⟨Gr.rfl'.up hD, upd_same⟩ (fun _ _ _ L => SqT.of (L.1 _ _ hg2)) ?_ ?_
    · rintro j x Hm hx ⟨g3, e⟩
      obtain ⟨z, hz, rfl⟩ := List.mem_map.mp (List.mem_of_getElem? hx)
      have hj := (List.getElem?_eq_some_iff.mp hx).1
      rw [List.length_map] at hj
      conv => whnf
      refine ⟨rfl, ?_⟩
      conv => whnf
      refine ⟨p, _, rfl, .inr (SqT.of (g3 _ _ e2)), rfl, flat_strs _, ?_⟩
      conv => whnf
      rw [show (if false = true then !inV (V.str z) ((colsOf ts).map V.str) else inV (V.str z) ((colsOf ts).map V.str)) = true by rw [if_neg (by decide), inV_str]; exact decide_eq_true (og.has z hz)]
      refine ⟨_, e, small_lt (by rw [List.length_map, List.length_replicate]; omega), Gr.app hD g3, ?_⟩
      rw [upd_same, List.replicate_succ', List.map_append]
      rfl
    · rintro Hm ⟨g3, e⟩
      conv => whnf
      refine ⟨D, _, rfl, SqL.of e, ?_⟩
      rw [all_true]
      exact k _ ((g1.trans g2).trans g3)
def sp_Ratio_bottom (K : PySem.W.Frag) (C : Addr) : Sp := fun vs H Q _ => ∃ (v : V) (p q : Int), vs = [v] ∧ IsR C H v p q ∧ Q (.int q) H
theorem ok_Ratio_bottom (T : Txt K mg) : FnOk P w K mg base CX0 1 T.a_Ratio_bottom T.d_Ratio_bottom ["self"] (sp_Ratio_bottom K T.c_Ratio) := by
  refine T.F_Ratio_bottom.ok sc_Ratio_bottom (fun vs H Q E h => ?_) (fun cdv A outer s H vs Q E hr h => ?_)
  · obtain ⟨v, p, q, rfl, _⟩ := h; rfl
  · obtain ⟨v, p, q, rfl, ⟨a, dx, rfl, ha⟩, k⟩ := h
    refine ⟨_, (pss_one (ps_ret (pe_fld (pev 0) rfl))), ?_⟩
    conv => whnf
    exact ⟨a, T.c_Ratio, dx, _, _, rfl, ha, T.o_Ratio.cl, T.f_Ratio__bottom, rf_lb _ _, k⟩
def sp_Ratio_top (K : PySem.W.Frag) (C : Addr) : Sp := fun vs H Q _ => ∃ (v : V) (p q : Int), vs = [v] ∧ IsR C H v p q ∧ Q (.int p) H
theorem ok_Ratio_top (T : Txt K mg) : FnOk P w K mg base CX0 1 T.a_Ratio_top T.d_Ratio_top ["self"] (sp_Ratio_top K T.c_Ratio) := by
  refine T.F_Ratio_top.ok sc_Ratio_top (fun vs H Q E h => ?_) (fun cdv A outer s H vs Q E hr h => ?_)
  · obtain ⟨v, p, q, rfl, _⟩ := h; rfl
  · obtain ⟨v, p, q, rfl, ⟨a, dx, rfl, ha⟩, k⟩ := h
    refine ⟨_, (pss_one (ps_ret (pe_fld (pev 0) rfl))), ?_⟩
    conv => whnf
    exact ⟨a, T.c_Ratio, dx, _, _, rfl, ha, T.o_Ratio.cl, T.f_Ratio__top, rf_lt _ _, k⟩
def sp__is_size (K : PySem.W.Frag) (C : Addr) : Sp := fun vs H Q _ => ∃ (v : V) (p q : Nat), vs = [v] ∧ IsR C H v (p : Int) (q : Int) ∧ 1 ≤ q ∧ q ≤ 60 ∧ p ≤ 9 * q ∧ Q (.bl true) H
theorem ok__is_size (T : Txt K mg) : FnOk P w K mg base CX0 3 T.a__is_size T.d__is_size ["value"] (sp__is_size K T.c_Ratio) := by
  refine T.F__is_size.ok sc__is_size (fun vs H Q E h => ?_) (fun cdv A outer s H vs Q E hr h => ?_)
  · obtain ⟨v, p, q, rfl, _⟩ := h; rfl
  · obtain ⟨v, p, q, rfl, hr0, h1, h2, h3, k⟩ := h
    refine ⟨_, (pss_cons (psIf (PW.pt (pwOr (pt_not (ptV (pe_callB call_isi (by rfl) T.b_isinstance (by decide +kernel) (pa_cons (pev 0) (pa_cons (pe_glob (v := .ref T.c_Ratio) (by rfl) T.g_Ratio rfl) pa_nil))))) (pw_or1 (pt_cmpR opGt (pe_prop (pev 0) T.o_Ratio.cl T.P_Ratio_bottom (ok_Ratio_bottom T) (hr.mono (by decide)) T.B_Ratio_bottom .nil pass0 rfl) (pe_glob (v := .int 60) (by rfl) T.v_MAX_SIZE_BOTTOM ⟨_, rfl⟩) (nomark _))))) pss_never pss_nil)
        (pss_one (ps_ret (pe_chain opLe opLe pe_int (pe_prop (pev 0) T.o_Ratio.cl T.P_Ratio_top (ok_Ratio_top T) (hr.mono (by decide)) T.B_Ratio_top .nil pass0 rfl) (pe_op opMulT (pe_glob (v := .int 9) (by rfl) T.v_MAX_SIZE ⟨_, rfl⟩) (pe_prop (pev 0) T.o_Ratio.cl T.P_Ratio_bottom (ok_Ratio_bottom T) (hr.mono (by decide)) T.B_Ratio_bottom .nil pass0 rfl)))))), ?_⟩
    obtain ⟨a, dx, rfl, ha⟩ := id hr0
    conv => whnf
    refine ⟨_, _, _, _, _, rfl, .own _, T.o_Ratio.ty ha, own_self, ?_⟩
    conv => whnf
    refine brF ?_
    conv => whnf
    refine ⟨a, dx, _, rfl, ha, .ref a, (p : Int), (q : Int), rfl, hr0, ?_⟩
    conv => whnf
    refine ⟨_, rfl, ?_⟩
    refine brN (decide_eq_false (by omega)) ?_
    conv => whnf
    refine ⟨a, dx, _, rfl, ha, .ref a, (p : Int), (q : Int), rfl, hr0, ?_⟩
    conv => whnf
    refine ⟨_, rfl, ?_⟩
    rw [if_pos (decide_eq_true (show (0 : Int) ≤ (p : Int) by omega))]
    conv => whnf
    refine ⟨a, dx, _, rfl, ha, .ref a, (p : Int), (q : Int), rfl, hr0, ?_⟩
    conv => whnf
    refine ⟨mulW 4 6 (by decide) (by omega), ?_⟩
    conv => whnf
    rw [decide_eq_true (show (p : Int) ≤ 9 * (q : Int) by omega)]
    exact k
def sp__is_sizes (K : PySem.W.Frag) (C : Addr) : Sp := fun vs H Q _ => ∃ (v : V) (d : Addr) (kvs : List (Key × V)) (ts : List (Str × List Str)), vs = [v, .ref d] ∧ H d = some (.dK kvs) ∧ DRel TupS H kvs ts ∧ (v = .non ∨ ∃ (e : Addr) (kz : List (Key × V)) (zs : List (Str × (Nat × Nat))), v = .ref e ∧ e ≠ d ∧ H e = some (.dK kz) ∧ DRel (RatS C) H kz zs ∧ OKZ (names ts) zs) ∧
  ∀ H' : Hp, Gr H H' → Q (.bl true) H'
theorem ok__is_sizes (T : Txt K mg) : FnOk P w K mg base CX0 4 T.a__is_sizes T.d__is_sizes ["value", "tables"] (sp__is_sizes K T.c_Ratio) := by
  refine T.F__is_sizes.ok sc__is_sizes (fun vs H Q E h => ?_) (fun cdv A outer s H vs Q E hr h => ?_)
  · obtain ⟨v, d, kvs, ts, rfl, _⟩ := h; rfl
  · obtain ⟨v, d, kvs, ts, rfl, hd, hk, hv, k⟩ := h
    refine ⟨_, (pss_cons (psIf (pt_cmpR op_isN (pev 0) pe_non (nomark _)) (pss_one (ps_ret pe_bl)) pss_nil)
        (pss_cons (psIf (pt_not (ptV (pe_callB call_isi (by rfl) T.b_isinstance (by decide +kernel) (pa_cons (pev 0) (pa_cons (pe_bltn (v := .ty "dict") (by rfl) T.b_dict (by decide +kernel) rfl) pa_nil))))) pss_never pss_nil)
        (pss_one (ps_ret (pe_callB (caAll rfl) (by rfl) T.b_all (by decide +kernel) (pa_cons (pe_lock (pe_lc (own := [("name", 2), ("size", 3)]) (g := (gTup K 2 (gCons (gName 2) (gCons (gName 3) gNil)))) (tt := tYes) (te := (uAndV (tDIn (uV 2) (uV 1)) (tCall (sp__is_size K T.c_Ratio) [] E0 (tCons (uV 3) tNil)))) rfl sc__is_sizes.nd (pi_items (pev 0)) (blkOk_by (own := [("name", 2), ("size", 3)]) (N := ["value", "tables", "name", "size"]) (sc := defScope s__is_sizes) (by decide +kernel)) (fun _ _ _ _ _ => pg_tup rfl (pgs_cons (pg_name (i := 2) sc__is_sizes.nd rfl (by first | exact Or.inl rfl | exact Or.inr rfl)) (pgs_cons (pg_name (i := 3) sc__is_sizes.nd rfl (by first | exact Or.inl rfl | exact Or.inr rfl)) pgs_nil))) (fun _ _ _ _ _ => pts_nil) (fun _ _ _ _ _ => (peAnd (pe_cmp (pc_din (hu1 (hu64 hr)) (pev 2) (pev 1))) (pe_one (pe_call (ok__is_size T) (hr.mono (by decide)) (by rfl) T.g__is_size T.F__is_size.kp T.B__is_size .nil pass0 (pa_cons (pev 3) pa_nil))))))) pa_nil)))))), ?_⟩
    rcases hv with rfl | ⟨e, kz, zs, rfl, ne, he, hz, oz⟩
    · conv => whnf
      refine ⟨rfl, _, rfl, ?_⟩
      refine brY (by simp) ?_
      exact k H Gr.rfl'
    · have kd : Kd K H (.ref e) "dict" := Kd.dK he
      conv => whnf
      refine ⟨rfl, _, rfl, ?_⟩
      refine brN (by simp) ?_
      conv => whnf
      refine ⟨_, _, _, _, _, rfl, .ty _, kd.1, kit_ty (kd_dict kd.2), ?_⟩
      conv => whnf
      refine brF ?_
      conv => whnf
      refine ⟨e, _, he, trivial, fun od => ?_⟩
      conv => whnf
      refine ⟨e, od, kz, rfl, upd_same, fun D hD => ?_⟩
      have hd1 : (upd H e (.frz od (.dK kz))) d = some (.dK kvs) := by rw [upd_ne ne.symm]; exact hd
      have lz : kz.length ≤ 64 := by rw [hz.1]; exact oz.few
      refine lc_it walk_items (fun i Hm => Gr (upd H e (.frz od (.dK kz))) Hm ∧ Hm D = some (.lst ((List.replicate i true).map V.bl))) ⟨Gr.rfl'.up hD, upd_same⟩ (fun _ _ _ L => L.1 _ _ upd_same) ?_ ?_
      · rintro i x Hm Hn hi ⟨g, e1⟩ ⟨T', y1, y2, rfl, hT, rfl, hy1, hy2⟩
        simp only [Option.map_eq_some_iff] at hy1 hy2
        obtain ⟨kv, hkv, rfl⟩ := hy1
        obtain ⟨kv', hkv', rfl⟩ := hy2
        obtain rfl : kv = kv' := Option.some.inj (hkv.symm.trans hkv')
        obtain ⟨z, hz1, ek, rz⟩ := hz.at hkv
        have zm := List.mem_of_getElem? hz1
        have gT := g.up (o := .tup [kV kv.1, kv.2]) hT
        have e2 := Gr.rfl'.up (o := .tup [kV kv.1, kv.2]) hT _ _ e1
        have rz2 := (rz.off he (fun _ _ _ z => by cases z)).up gT
        have hd2 := gT _ _ hd1
        have eT := upd_same (H := Hm) (a := T') (o := .tup [kV kv.1, kv.2])
        generalize upd Hm T' (.tup [kV kv.1, kv.2]) = Hn at gT e2 rz2 hd2 eT ⊢
        conv => whnf
        refine ⟨T', _, rfl, SqT.of eT, rfl, ?_⟩
        conv => whnf
        refine ⟨_, _, rfl, ?_⟩
        conv => whnf
        refine ⟨_, _, rfl, ?_⟩
        conv => whnf
        refine ⟨rfl, ?_⟩
        rw [ek]
        conv => whnf
        refine ⟨rfl, ?_⟩
        conv => whnf
        refine ⟨d, _, rfl, DGet.k (k := .inr z.1) hd2, ?_⟩
        obtain ⟨b, hb⟩ := lk_some (oz.has z zm)
        obtain ⟨v, hv, _⟩ := hk.get hb
        rw [hv]
        refine brT ?_
        conv => whnf
        obtain ⟨l1, l2, l3⟩ := oz.let_ z zm
        refine ⟨kv.2, z.2.1, z.2.2, rfl, rz2, l1, l2, l3, ?_⟩
        conv => whnf
        refine ⟨_, e2, small_lt (by rw [List.length_map, List.length_replicate]; omega), Gr.app hD gT, ?_⟩
        rw [upd_same, List.replicate_succ', List.map_append]
        rfl
      · rintro Hm ⟨g, e1⟩
        refine ⟨g _ _ upd_same, ?_⟩
        conv => whnf
        have nD : D ≠ e := fun z => by rw [z, upd_same] at hD; cases hD
        have G := Gr.unlock he g
        refine ⟨D, _, rfl, SqL.of (by rw [upd_ne nD]; exact e1), ?_⟩
        rw [all_true]
        exact k _ G
def sp_written (K : PySem.W.Frag) : Sp := fun vs H Q _ => ∃ (n : Int), vs = [.int n] ∧ n.natAbs < 10 ^ 60 ∧ ∀ H' : Hp, Gr H H' → Q (.str (toString n)) H'
theorem ok_written (T : Txt K mg) : FnOk P w K mg base CX0 1 T.a_written T.d_written ["number"] (sp_written K) := by
  refine T.F_written.ok sc_written (fun vs H Q E h => ?_) (fun cdv A outer s H vs Q E hr h => ?_)
  · obtain ⟨n, rfl, _⟩ := h; rfl
  · obtain ⟨n, rfl, hn, k⟩ := h
    refine ⟨_, (pss_cons (ps_set (i := 1) sc_written.nd rfl (by first | exact Or.inl rfl | exact Or.inr rfl) (peIf (pt_cmpR opLt (pev 0) pe_int (nomark _)) pe_str pe_str))
        (pss_cons (ps_set (i := 2) sc_written.nd rfl (by first | exact Or.inl rfl | exact Or.inr rfl) (pe_callB caAbs (by rfl) T.b_abs (by decide +kernel) (pa_cons (pev 0) pa_nil)))
        (pss_cons (ps_set (i := 3) sc_written.nd rfl (by first | exact Or.inl rfl | exact Or.inr rfl) (pe_lst pa_nil))
        (pss_cons (ps_while PassesOwn.never (pt_cmpR opGe (pev 2) (pe_glob (v := .int 1000000000000000000000000000000000000000000000000000000000000) (by rfl) T.v_BEYOND ⟨_, rfl⟩) (nomark _)) pss_never)
        (pss_cons (ps_expr (pe_bm PySem.F.plainAttrs_list PySem.F.slot_list_append PySem.F.type_list_append mt_append (pev 3) (pa_cons (pe_joined (.cons (pe_fmt (pev 1)) (.cons (pe_fmt (pev 2)) .nil))) pa_nil)))
        (pss_one (ps_ret (pe_bm PySem.F.plainAttrs_str PySem.F.slot_str_join PySem.F.type_str_join mt_join pe_str (pa_cons (pe_revL (pev 3)) pa_nil))))))))), ?_⟩
    have hs := num_short hn
    have hl : n.natAbs.log2 < 1920 := num_fits (Nat.lt_of_lt_of_le hn (by decide))
    have ha : (Str.ofString (toString ((n.natAbs : Nat) : Int))).length ≤ 100 := num_short (by omega)
    conv => whnf
    refine ⟨_, rfl, ?_⟩
    refine brD (fun h => ?x) (fun h => ?y)
    case' x => have e := abs_neg h
    case' y => have e := abs_pos h
    all_goals
      conv => whnf
      refine ⟨small_ok (by simp), fun p hp => ?_⟩
      conv => whnf
      refine ⟨fun m σ H' => σ = [some (.int n), _, _, _, _] ∧ H' = _, ⟨0, ⟨rfl, rfl⟩⟩, ?_⟩
      rintro m σ H' ⟨rfl, rfl⟩
      conv => whnf
      refine ⟨_, rfl, ?_⟩
      refine ite2 (fun q => absurd (of_decide_eq_true q) (by omega)) (fun _ => ?_)
      conv => whnf
      refine ⟨.inl ⟨rfl, _, SqL.of upd_same⟩, ?_⟩
      conv => whnf
      refine .inl ⟨_, rfl, small_ok (by decide), ?_⟩
      conv => whnf
      refine ⟨_, rfl, by rw [e_app]; exact small_ok (by decide), ?_⟩
      conv => whnf
      refine .inr ⟨_, rfl, (by rw [Int.natAbs_natCast]; exact hl), ?_⟩
      conv => whnf
      refine ⟨_, rfl, by rw [e_app, e]; exact small_ok (by omega), ?_⟩
      conv => whnf
      rw [e_app, e]
      refine ⟨p, _, _, rfl, rfl, upd_same, small_lt (by simp), ?_⟩
      conv => whnf
      refine ⟨rfl, ?_⟩
      conv => whnf
      refine ⟨p, _, rfl, SqL.of upd_same, fun r hr2 => ?_⟩
      conv => whnf
      refine ⟨_, r, [Str.ofString (toString n)], rfl, rfl, .inl (SqL.of upd_same), ?_, ?_⟩
      · show ([(Str.ofString (toString n)).length].sum + _) ≤ _
        rw [show (Str.ofString "").length = 0 by decide]
        simp only [List.sum_cons, List.sum_nil]
        omega
      · rw [join1]
        rw [upd_upd] at hr2 ⊢
        exact k _ ((Gr.rfl'.up hp).up hr2)
def sp_Ratio___str__ (K : PySem.W.Frag) (C : Addr) : Sp := fun vs H Q _ => ∃ (v : V) (p q : Int), vs = [v] ∧ IsR C H v p q ∧ p.natAbs < 10 ^ 60 ∧ q.natAbs < 10 ^ 60 ∧ ∀ H' : Hp, Gr H H' → Q (.str (rtext p q)) H'
theorem ok_Ratio___str__ (T : Txt K mg) : FnOk P w K mg base CX0 2 T.a_Ratio___str__ T.d_Ratio___str__ ["self"] (sp_Ratio___str__ K T.c_Ratio) := by
  refine T.F_Ratio___str__.ok sc_Ratio___str__ (fun vs H Q E h => ?_) (fun cdv A outer s H vs Q E hr h => ?_)
  · obtain ⟨v, p, q, rfl, _⟩ := h; rfl
  · obtain ⟨v, p, q, rfl, ⟨a, dx, rfl, ha⟩, hp, hq, k⟩ := h
    refine ⟨_, (pss_cons (psIf (pt_cmpR (opEq (hu64 hr)) (pe_fld (pev 0) rfl) pe_int (nomark _)) (pss_one (ps_ret (pe_joined1 (pe_fmt (pe_call (ok_written T) (hr.mono (by decide)) (by rfl) T.g_written T.F_written.kp T.B_written .nil pass0 (pa_cons (pe_fld (pev 0) rfl) pa_nil)))))) pss_nil)
        (pss_one (ps_ret (pe_joined (.cons (pe_fmt (pe_call (ok_written T) (hr.mono (by decide)) (by rfl) T.g_written T.F_written.kp T.B_written .nil pass0 (pa_cons (pe_fld (pev 0) rfl) pa_nil))) (.cons pe_str (.cons (pe_fmt (pe_call (ok_written T) (hr.mono (by decide)) (by rfl) T.g_written T.F_written.kp T.B_written .nil pass0 (pa_cons (pe_fld (pev 0) rfl) pa_nil))) .nil))))))), ?_⟩
    have h1 := num_short hp
    have h2 := num_short hq
    have l1 : (Str.ofString "/").length = 1 := by decide
    unfold rtext at k
    conv => whnf
    refine ⟨a, T.c_Ratio, dx, _, _, rfl, ha, T.o_Ratio.cl, T.f_Ratio__bottom, rf_lb _ _, ?_⟩
    conv => whnf
    refine ⟨_, rfl, ?_⟩
    refine brD (fun h => ?_) (fun h => ?_)
    · have e := V.int.inj h
      rw [if_pos e] at k
      conv => whnf
      refine ⟨a, T.c_Ratio, dx, _, _, rfl, ha, T.o_Ratio.cl, T.f_Ratio__top, rf_lt _ _, ?_⟩
      conv => whnf
      refine ⟨_, rfl, hp, fun H1 g1 => .inl ⟨_, rfl, small_ok (by omega), ?_⟩⟩
      exact k _ g1
    · have e : ¬ q = 1 := fun z => h (by rw [z])
      rw [if_neg e] at k
      conv => whnf
      refine ⟨a, T.c_Ratio, dx, _, _, rfl, ha, T.o_Ratio.cl, T.f_Ratio__top, rf_lt _ _, ?_⟩
      conv => whnf
      refine ⟨_, rfl, hp, fun H1 g1 => .inl ⟨_, rfl, small_ok (by omega), ?_⟩⟩
      conv => whnf
      refine ⟨_, rfl, by rw [e_app]; exact small_ok (by omega), ?_⟩
      conv => whnf
      refine ⟨_, rfl, by rw [e_app, app_len]; exact small_ok (by omega), ?_⟩
      conv => whnf
      refine ⟨a, T.c_Ratio, dx, _, _, rfl, g1 _ _ ha, T.o_Ratio.cl, T.f_Ratio__bottom, rf_lb _ _, ?_⟩
      conv => whnf
      refine ⟨_, rfl, hq, fun H2 g2 => .inl ⟨_, rfl, small_ok (by omega), ?_⟩⟩
      conv => whnf
      refine ⟨_, rfl, by rw [e_app, app_len, app_len]; exact small_ok (by omega), ?_⟩
      conv => whnf
      rw [e_app]
      exact k _ (g1.trans g2)
def sp_Ratio_pair (K : PySem.W.Frag) (C : Addr) : Sp := fun vs H Q _ => ∃ (v : V) (p q : Int), vs = [v] ∧ IsR C H v p q ∧ ∀ (x : Addr) (H' : Hp), Gr H H' → H x = none → H' x = some (.tup [.int p, .int q]) → Q (.ref x) H'
theorem own_pair {K : PySem.W.Frag} {C a : Addr} {H : Hp} {Q : VK} {E : XK} {N D : Int} {k : Nat} (h : RV C H (.ref a) N D k) (q : ∀ (r s : Int) (x : Addr) (H' : Hp), Gr H H' → H x = none → TupAt H' (.ref x) r s → Val r s N D → Sm k r s → Q (.ref x) H') :
    ∃ b dx fs, V.ref a = V.ref b ∧ H b = some (.ins C dx fs) ∧ sp_Ratio_pair K C [.ref b] H Q E := by
  obtain ⟨p, r, i, v, s⟩ := h
  obtain ⟨_, dx, z, e1⟩ := id i
  cases z
  exact ⟨a, dx, _, rfl, e1, _, p, r, rfl, i, fun x H' g n e => q p r x H' g n ⟨x, rfl, e⟩ v s⟩
theorem ok_Ratio_pair (T : Txt K mg) : FnOk P w K mg base CX0 1 T.a_Ratio_pair T.d_Ratio_pair ["self"] (sp_Ratio_pair K T.c_Ratio) := by
  refine T.F_Ratio_pair.ok sc_Ratio_pair (fun vs H Q E h => ?_) (fun cdv A outer s H vs Q E hr h => ?_)
  · obtain ⟨v, p, q, rfl, _⟩ := h; rfl
  · obtain ⟨v, p, q, rfl, ⟨a, dx, rfl, ha⟩, k⟩ := h
    refine ⟨_, (pss_one (ps_ret (pe_tup (pa_cons (pe_fld (pev 0) rfl) (pa_cons (pe_fld (pev 0) rfl) pa_nil))))), ?_⟩
    conv => whnf
    refine ⟨a, T.c_Ratio, dx, _, _, rfl, ha, T.o_Ratio.cl, T.f_Ratio__top, rf_lt _ _, ?_⟩
    conv => whnf
    refine ⟨a, T.c_Ratio, dx, _, _, rfl, ha, T.o_Ratio.cl, T.f_Ratio__bottom, rf_lb _ _, ?_⟩
    conv => whnf
    exact ⟨small_ok (by simp), fun x hx => k x _ (Gr.rfl'.up hx) hx upd_same⟩
def sp__lines_of (K : PySem.W.Frag) (C : Addr) : Sp := fun vs H Q _ => ∃ (d g e : Addr) (kvs kz : List (Key × V)) (ts : List (Str × List Str)) (gs : List Str) (zs : List (Str × (Nat × Nat))), vs = [.ref d, .ref g, .ref e] ∧
  H d = some (.dK kvs) ∧ DRel TupS H kvs ts ∧ H g = some (.tup (gs.map V.str)) ∧ H e = some (.dK kz) ∧ DRel (RatS C) H kz zs ∧ OKT ts ∧ OKG ts gs ∧ OKZ (names ts) zs ∧
  ∀ (H' : Hp) (p : Addr), Gr H H' → H p = none → H' p = some (.tup ((qLines ts gs zs).map V.str)) → Q (.ref p) H'
theorem ok__lines_of (T : Txt K mg) : FnOk P w K mg base CX0 5 T.a__lines_of T.d__lines_of ["tables", "groups", "sizes"] (sp__lines_of K T.c_Ratio) := by
  refine T.F__lines_of.ok sc__lines_of (fun vs H Q E h => ?_) (fun cdv A outer s H vs Q E hr h => ?_)
  · obtain ⟨d, g, e, kvs, kz, ts, gs, zs, rfl, _⟩ := h; rfl
  · obtain ⟨d, g, e, kvs, kz, ts, gs, zs, rfl, hd, hk, hg, he, hz, ok, og, oz, k⟩ := h
    refine ⟨_, (pss_cons (ps_lock (ps_setLc (i := 3) (own := [("name", 4), ("columns", 5)]) (g := (gTup K 2 (gCons (gName 4) (gCons (gName 5) gNil)))) (tt := tYes) (te := (tBM K "str" (rJoin K) (tC (.str " ")) (tCons (tLst (tCons (tC (.str "table")) (tCons (uV 4) (StX.tStar K (uV 5) tNil)))) tNil))) rfl sc__lines_of.nd rfl rfl (sw_true rfl rfl rfl (by decide +kernel)) (pi_items (pev 0)) (blkOk_by (own := [("name", 4), ("columns", 5)]) (N := ["tables", "groups", "sizes", "lines", "name", "columns", "size"]) (sc := defScope s__lines_of) (by decide +kernel)) (fun _ _ _ _ _ => pg_tup rfl (pgs_cons (pg_name (i := 4) sc__lines_of.nd rfl (by first | exact Or.inl rfl | exact Or.inr rfl)) (pgs_cons (pg_name (i := 5) sc__lines_of.nd rfl (by first | exact Or.inl rfl | exact Or.inr rfl)) pgs_nil))) (fun _ _ _ _ _ => pts_nil) (fun _ _ _ _ _ => (pe_bm PySem.F.plainAttrs_str PySem.F.slot_str_join PySem.F.type_str_join mt_joinK pe_str (pa_cons (pe_lst (pa_cons pe_str (pa_cons (pev 4) (StX.pa_star (pev 5) pa_nil)))) pa_nil)))))
        (pss_cons (ps_expr (pe_bm PySem.F.plainAttrs_list PySem.F.slot_list_extend PySem.F.type_list_extend mt_extend (pev 3) (pa_cons (pe_lock (pe_lc (own := [("name", 4), ("size", 6)]) (g := (gTup K 2 (gCons (gName 4) (gCons (gName 6) gNil)))) (tt := (tTest (tOp (uNe K) (tProp T.c_Ratio (sp_Ratio_pair K T.c_Ratio) [] E0 (uV 6)) (tTup (tCons (tC (.int 1)) (tCons (tC (.int 1)) tNil)))))) (te := (tJoined [(tC (.str "size ")), (tFmt (uV 4)), (tC (.str " ")), (tFmtO T.c_Ratio (sp_Ratio___str__ K T.c_Ratio) E0 (uV 6))])) rfl sc__lines_of.nd (pi_items (pev 2)) (blkOk_by (own := [("name", 4), ("size", 6)]) (N := ["tables", "groups", "sizes", "lines", "name", "columns", "size"]) (sc := defScope s__lines_of) (by decide +kernel)) (fun _ _ _ _ _ => pg_tup rfl (pgs_cons (pg_name (i := 4) sc__lines_of.nd rfl (by first | exact Or.inl rfl | exact Or.inr rfl)) (pgs_cons (pg_name (i := 6) sc__lines_of.nd rfl (by first | exact Or.inl rfl | exact Or.inr rfl)) pgs_nil))) (fun _ _ _ _ _ => (pts_one (pt_cmpR (opNe (hu64 hr)) (pe_prop (pev 6) T.o_Ratio.cl T.P_Ratio_pair (ok_Ratio_pair T) (hr.mono (by decide)) T.B_Ratio_pair .nil pass0 rfl) (pe_tup (pa_cons pe_int (pa_cons pe_int pa_nil))) (nomark _)))) (fun _ _ _ _ _ => (pe_joined (.cons pe_str (.cons (pe_fmt (pev 4)) (.cons pe_str (.cons (pe_fmtO T.fmt_Ratio T.mro_Ratio T.M_Ratio___str__ (ok_Ratio___str__ T) (hr.mono (by decide)) T.B_Ratio___str__ pass0 (pev 6)) .nil)))))))) pa_nil)))
        (pss_cons (psIf (ptV (pev 1)) (pss_one (ps_expr (pe_bm PySem.F.plainAttrs_list PySem.F.slot_list_append PySem.F.type_list_append mt_append (pev 3) (pa_cons (pe_bm PySem.F.plainAttrs_str PySem.F.slot_str_join PySem.F.type_str_join mt_joinK pe_str (pa_cons (pe_lst (pa_cons pe_str (StX.pa_star (pev 1) pa_nil))) pa_nil)) pa_nil)))) pss_nil)
        (pss_one (ps_ret (pe_callTy call_tuple_of (by rfl) T.b_tuple (by decide +kernel) (pa_cons (pev 3) pa_nil))))))), ?_⟩
    conv => whnf
    refine ⟨d, _, hd, trivial, fun od => ?_⟩
    conv => whnf
    refine ⟨d, od, kvs, rfl, upd_same, fun D hD => ?_⟩
    have lk := hk.1
    have few := ok.few
    refine lc_it walk_items (fun i Hm => Gr (upd H d (.frz od (.dK kvs))) Hm ∧ Hm D = some (.lst ((ts.take i).map fun t => V.str (tline t)))) ⟨Gr.rfl'.up hD, upd_same⟩ (fun _ _ _ L => L.1 _ _ upd_same) ?_ ?_
    · rintro i x Hm Hn hi ⟨g1, e1⟩ ⟨T', y1, y2, rfl, hT, rfl, hy1, hy2⟩
      simp only [Option.map_eq_some_iff] at hy1 hy2
      obtain ⟨kv, hkv, rfl⟩ := hy1
      obtain ⟨kv', hkv', rfl⟩ := hy2
      obtain rfl : kv = kv' := Option.some.inj (hkv.symm.trans hkv')
      obtain ⟨t, ht, ek, rt⟩ := hk.at hkv
      have tm := List.mem_of_getElem? ht
      have gT := g1.up (o := .tup [kV kv.1, kv.2]) hT
      have e2 := Gr.rfl'.up (o := .tup [kV kv.1, kv.2]) hT _ _ e1
      have rt2 := (rt.off hd (fun _ z => by cases z)).up gT
      have eT := upd_same (H := Hm) (a := T') (o := .tup [kV kv.1, kv.2])
      rw [ek] at gT e2 rt2 eT ⊢
      generalize upd Hm T' (.tup [kV (.inr t.1), kv.2]) = Hn at gT e2 rt2 eT ⊢
      obtain ⟨b, eb, hb⟩ := rt2
      rw [eb] at eT
      have c1 := (ok.nm t tm).len
      have c2 := (ok.cols t tm)
      conv => whnf
      refine ⟨T', _, rfl, SqT.of eT, rfl, ?_⟩
      conv => whnf
      refine ⟨_, _, rfl, ?_⟩
      conv => whnf
      refine ⟨_, _, rfl, ?_⟩
      conv => whnf
      refine ⟨rfl, ?_⟩
      conv => whnf
      refine ⟨rfl, ?_⟩
      conv => whnf
      refine ⟨rfl, ?_⟩
      conv => whnf
      refine ⟨b, _, rfl, .inl (SqT.of hb), ?_⟩
      conv => whnf
      have c3 : (t.2.map V.str).length ≤ 6 := by rw [List.length_map]; omega
      refine ⟨small_ok (by simp only [List.length_cons, List.length_append, List.length_nil]; omega), fun l hl => ?_⟩
      conv => whnf
      have ej : (.str "table" :: .str t.1 :: (t.2.map V.str ++ [])) = (("table" : Str) :: t.1 :: t.2).map V.str := by rw [List.append_nil]; rfl
      refine ⟨" ", l, "table" :: t.1 :: t.2, rfl, rfl, .inl (SqL.of (by rw [upd_same]; exact congrArg _ (congrArg _ ej))), ?_, ?_⟩
      · have h1 := sum_len_le (n := 8) ("table" :: t.1 :: t.2) fun z hz => by
          rcases List.mem_cons.mp hz with rfl | hz
          · decide
          rcases List.mem_cons.mp hz with rfl | hz
          · exact c1
          · exact (c2.2.2 z hz).len
        have h2 : (("table" : Str) :: t.1 :: t.2).length ≤ 8 := by simp only [List.length_cons]; omega
        have h3 : (" " : Str).length = 1 := by decide
        rw [h3]
        omega
      conv => whnf
      have nl : D ≠ l := fun z => by rw [z, hl] at e2; cases e2
      refine ⟨_, by rw [upd_ne nl]; exact e2, ?_, Gr.app hD (gT.up hl), ?_⟩
      · refine small_lt ?_
        rw [List.length_map, List.length_take]
        omega
      · rw [upd_same, List.take_add_one, ht, List.map_append]
        rfl
    · rintro Hm ⟨g1, e1⟩
      rw [List.take_of_length_le (by rw [lk]; exact Nat.le_refl _)] at e1
      conv => whnf
      refine ⟨g1 _ _ upd_same, ?_⟩
      have G1 := Gr.unlock hd g1
      have nD : D ≠ d := fun z => by rw [z, upd_same] at hD; cases hD
      have hDn : H D = none := by rw [upd_ne nD] at hD; exact hD
      have e1 : (upd Hm d (.dK kvs)) D = some (.lst (ts.map fun t => V.str (tline t))) := by rw [upd_ne nD]; exact e1
      generalize upd Hm d (.dK kvs) = H1 at G1 e1 ⊢
      conv => whnf
      refine ⟨.inl ⟨rfl, _, SqL.of e1⟩, ?_⟩
      conv => whnf
      refine ⟨e, _, G1 _ _ he, trivial, fun oe => ?_⟩
      conv => whnf
      refine ⟨e, oe, kz, rfl, upd_same, fun B hB => ?_⟩
      have he1 := G1 _ _ he
      have hz1 := hz.mono fun v r h => RatS.up h G1
      have lz := hz.1
      have few2 := oz.few
      refine lc_it walk_items (fun i Hm => Gr (upd H1 e (.frz oe (.dK kz))) Hm ∧ Hm B = some (.lst (((zs.take i).filter fun z => decide (z.2 ≠ (1, 1))).map fun z => V.str (zline z)))) ⟨Gr.rfl'.up hB, upd_same⟩ (fun _ _ _ L => L.1 _ _ upd_same) ?_ ?_
      · rintro i x Hm Hn hi ⟨g1, e2⟩ ⟨T', y1, y2, rfl, hT, rfl, hy1, hy2⟩
        simp only [Option.map_eq_some_iff] at hy1 hy2
        obtain ⟨kv, hkv, rfl⟩ := hy1
        obtain ⟨kv', hkv', rfl⟩ := hy2
        obtain rfl : kv = kv' := Option.some.inj (hkv.symm.trans hkv')
        obtain ⟨z, hzi, ek, rz⟩ := hz1.at hkv
        have zm := List.mem_of_getElem? hzi
        have gT := g1.up (o := .tup [kV kv.1, kv.2]) hT
        have e3 := Gr.rfl'.up (o := .tup [kV kv.1, kv.2]) hT _ _ e2
        have rz2 := (rz.off he1 (fun _ _ _ z => by cases z)).up gT
        have eT := upd_same (H := Hm) (a := T') (o := .tup [kV kv.1, kv.2])
        rw [ek] at gT e3 rz2 eT ⊢
        generalize upd Hm T' (.tup [kV (.inr z.1), kv.2]) = Hn at gT e3 rz2 eT ⊢
        obtain ⟨l1, l2, l3⟩ := oz.let_ z zm
        obtain ⟨a, dx, ea, ha⟩ := id rz2
        have ntk : (zs.take (i + 1)).filter (fun z => decide (z.2 ≠ (1, 1))) = (zs.take i).filter (fun z => decide (z.2 ≠ (1, 1))) ++ if z.2 ≠ (1, 1) then [z] else [] := by
          rw [List.take_add_one, hzi, List.filter_append]
          congr 1
          simp only [Option.toList_some, List.filter_cons, List.filter_nil, decide_eq_true_eq]
        conv => whnf
        refine ⟨T', _, rfl, SqT.of eT, rfl, ?_⟩
        conv => whnf
        refine ⟨_, _, rfl, ?_⟩
        conv => whnf
        refine ⟨_, _, rfl, ?_⟩
        conv => whnf
        refine ⟨rfl, ?_⟩
        conv => whnf
        refine ⟨rfl, ?_⟩
        rw [ea]
        conv => whnf
        refine ⟨a, dx, _, rfl, ha, .ref a, _, _, rfl, ea ▸ rz2, fun x1 H2 g2 n2 f2 => ?_⟩
        conv => whnf
        refine ⟨small_ok (by simp), fun x2 n3 => ?_⟩
        conv => whnf
        have f3 := Gr.rfl'.up (o := .tup [.int 1, .int 1]) n3 _ _ f2
        have e4 := Gr.rfl'.up (o := .tup [.int 1, .int 1]) n3 _ _ (g2 _ _ e3)
        have G3 := (gT.trans g2).up (o := .tup [.int 1, .int 1]) n3
        have g23 := g2.up (o := .tup [.int 1, .int 1]) n3
        refine ⟨_, _, TupAt.dp ⟨x1, rfl, f3⟩, TupAt.dp ⟨x2, rfl, upd_same⟩, shaped_pd _ _, shaped_pd _ _, ?_⟩
        rw [eqv_pd]
        generalize upd H2 x2 (.tup [.int 1, .int 1]) = H3 at f3 e4 G3 g23 ⊢
        have hb : (!decide ((z.2.1 : Int) = 1 ∧ (z.2.2 : Int) = 1)) = decide (z.2 ≠ (1, 1)) := by
          rw [← decide_not]
          refine decide_eq_decide.mpr (not_congr ⟨fun q => Prod.ext (by have := q.1; omega) (by have := q.2; omega), fun q => ⟨by rw [q]; rfl, by rw [q]; rfl⟩⟩)
        refine ⟨_, rfl, ?_⟩
        rw [hb, ntk]
        by_cases h1 : z.2 ≠ (1, 1)
        · rw [decide_eq_true h1, if_pos h1]
          have zn := (names_nm ok _ (oz.has z zm)).len
          have s1 : (Str.ofString "size ").length = 5 := by decide
          have s2 : (Str.ofString " ").length = 1 := by decide
          have p1 : ((z.2.1 : Nat) : Int).natAbs < 10 ^ 60 := Nat.lt_of_le_of_lt (show ((z.2.1 : Nat) : Int).natAbs ≤ 1000 by omega) (by decide)
          have p2 : ((z.2.2 : Nat) : Int).natAbs < 10 ^ 60 := Nat.lt_of_le_of_lt (show ((z.2.2 : Nat) : Int).natAbs ≤ 1000 by omega) (by decide)
          conv => whnf
          refine ⟨_, rfl, by rw [e_app]; exact small_ok (by omega), ?_⟩
          conv => whnf
          refine .inl ⟨_, rfl, small_ok (by omega), ?_⟩
          conv => whnf
          refine ⟨_, rfl, by rw [e_app, app_len]; exact small_ok (by omega), ?_⟩
          conv => whnf
          refine ⟨_, rfl, by rw [e_app, app_len, app_len]; exact small_ok (by omega), ?_⟩
          conv => whnf
          refine ⟨a, dx, _, rfl, g23 _ _ ha, .ref a, _, _, rfl, (ea ▸ rz2 : RatS T.c_Ratio Hn (.ref a) z.2).up g23, p1, p2, fun H4 g4 => ⟨⟨_, rfl⟩, _, rfl, ?_, ?_⟩⟩
          · have := rtext_len p1 p2
            rw [e_app, app_len, app_len, app_len]
            exact small_ok (by omega)
          conv => whnf
          refine ⟨_, g4 _ _ e4, small_lt ?_, Gr.app hB (G3.trans g4), ?_⟩
          · have h3 := List.length_filter_le (fun z => decide (z.2 ≠ (1, 1))) (zs.take i)
            rw [List.length_take] at h3
            rw [List.length_map]
            omega
          · rw [upd_same, List.map_append]
            rfl
        · rw [decide_eq_false h1, if_neg h1, List.append_nil]
          exact ⟨G3, e4⟩
      · rintro Hm ⟨g1, e2⟩
        rw [List.take_of_length_le (by rw [lz]; exact Nat.le_refl _)] at e2
        refine ⟨g1 _ _ upd_same, ?_⟩
        have G2 := Gr.unlock he1 g1
        have nB : B ≠ e := fun z => by rw [z, upd_same] at hB; cases hB
        have hBn : H1 B = none := by rw [upd_ne nB] at hB; exact hB
        have e2 : (upd Hm e (.dK kz)) B = some (.lst ((zs.filter fun z => decide (z.2 ≠ (1, 1))).map fun z => V.str (zline z))) := by rw [upd_ne nB]; exact e2
        have e1 := G2 _ _ e1
        generalize upd Hm e (.dK kz) = H2 at G2 e1 e2 ⊢
        conv => whnf
        have len3 : (zs.filter fun z => decide (z.2 ≠ (1, 1))).length ≤ 64 := Nat.le_trans (List.length_filter_le _ _) few2
        refine ⟨D, B, _, _, rfl, rfl, e1, e2, small_ok (by simp only [List.length_map]; omega), ?_⟩
        have hDn2 : H D = none := hDn
        have nDg : D ≠ g := fun z => by rw [z, hg] at hDn2; cases hDn2
        have GG := Gr.app (o := .lst (ts.map (fun t => V.str (tline t)) ++ (zs.filter fun z => decide (z.2 ≠ (1, 1))).map fun z => V.str (zline z))) hDn2 (G1.trans G2)
        have eD := upd_same (H := H2) (a := D) (o := .lst (ts.map (fun t => V.str (tline t)) ++ (zs.filter fun z => decide (z.2 ≠ (1, 1))).map fun z => V.str (zline z)))
        generalize upd H2 D _ = H3 at GG eD ⊢
        have hg3 := GG _ _ hg
        conv => whnf
        refine ⟨_, .inr (.inl ⟨_, SqT.of hg3, rfl⟩), ?_⟩
        cases gs with
        | nil =>
          refine brF ?_
          conv => whnf
          refine ⟨D, _, rfl, .inl ⟨SqL.of eD, fun l hl => ?_⟩⟩
          refine k _ l (GG.up hl) (GG.free' hl) ?_
          rw [upd_same]
          unfold qLines
          rw [if_pos rfl, List.append_nil, List.map_append, List.map_map, List.map_map]
          rfl
        | cons z gs =>
          refine brT ?_
          conv => whnf
          refine ⟨.inl ⟨rfl, _, SqL.of eD⟩, ?_⟩
          conv => whnf
          refine ⟨rfl, ?_⟩
          conv => whnf
          have gfew := og.few
          refine ⟨g, _, rfl, .inl (SqT.of hg3), ?_⟩
          conv => whnf
          refine ⟨small_ok (by simp only [List.length_cons, List.length_append, List.length_nil, List.length_map] at gfew ⊢; omega), fun l hl => ?_⟩
          conv => whnf
          have ej : (.str "group" :: ((z :: gs).map V.str ++ [])) = (("group" : Str) :: z :: gs).map V.str := by rw [List.append_nil]; rfl
          refine ⟨" ", l, "group" :: z :: gs, rfl, rfl, .inl (SqL.of (by rw [upd_same]; exact congrArg _ (congrArg _ ej))), ?_, ?_⟩
          · have h1 := sum_len_le (n := 8) ("group" :: z :: gs) fun y hy => by
              rcases List.mem_cons.mp hy with rfl | hy
              · decide
              · exact (og.nm y hy).len
            have h2 : (("group" : Str) :: z :: gs).length ≤ 9 := by simp only [List.length_cons] at gfew ⊢; omega
            have h3 : (" " : Str).length = 1 := by decide
            rw [h3]
            omega
          have nl : D ≠ l := fun z => by rw [z, hl] at eD; cases eD
          have eD2 := Gr.rfl'.up (o := .lst (.str "group" :: ((z :: gs).map V.str ++ []))) hl _ _ eD
          have GG2 := GG.up (o := .lst (.str "group" :: ((z :: gs).map V.str ++ []))) hl
          conv => whnf
          refine ⟨D, _, _, rfl, rfl, eD2, small_lt (by simp only [List.length_append, List.length_map]; omega), ?_⟩
          have GG3 := Gr.app (o := .lst (ts.map (fun t => V.str (tline t)) ++ ((zs.filter fun z => decide (z.2 ≠ (1, 1))).map fun z => V.str (zline z)) ++ [V.str (Txt.join " " ("group" :: z :: gs))])) hDn2 GG2
          conv => whnf
          refine ⟨D, _, rfl, .inl ⟨SqL.of upd_same, fun l hl => ?_⟩⟩
          refine k _ l (GG3.up hl) (GG3.free' hl) ?_
          rw [upd_same]
          unfold qLines
          rw [if_neg (by simp), List.map_append, List.map_append, List.map_map, List.map_map]
          rfl
def sp_Question___init__ (K : PySem.W.Frag) (C R : Addr) : Sp := fun vs H Q _ => ∃ (a dx d g : Addr) (z : V) (kvs : List (Key × V)) (ts : List (Str × List Str)) (gs : List Str) (zs : List (Str × (Nat × Nat))), vs = [.ref a, .ref d, .ref g, z] ∧ H a = some (.ins C dx []) ∧
  H d = some (.dK kvs) ∧ DRel TupS H kvs ts ∧ OKT ts ∧ H g = some (.tup (gs.map V.str)) ∧ OKG ts gs ∧ ((z = .non ∧ zs = []) ∨ ∃ (e : Addr) (kz : List (Key × V)), z = .ref e ∧ e ≠ d ∧ H e = some (.dK kz) ∧ DRel (RatS R) H kz zs) ∧ OKZ (names ts) zs ∧
  ∀ H' : Hp, (∀ b u, H b = some u → b ≠ a → H' b = some u) → QO C R H' a (srtT ts) gs (srtZ (names ts) zs) → OwnD C H H' a → Q .non H'
theorem ok_Question___init__ (T : Txt K mg) : FnOk P w K mg base CX0 6 T.a_Question___init__ T.d_Question___init__ ["self", "tables", "groups", "sizes"] (sp_Question___init__ K T.c_Question T.c_Ratio) := by
  refine T.F_Question___init__.ok sc_Question___init__ (fun vs H Q E h => ?_) (fun cdv A outer s H vs Q E hr h => ?_)
  · obtain ⟨a, dx, d, g, z, kvs, ts, gs, zs, rfl, _⟩ := h; rfl
  · obtain ⟨a, dx, d, g, z, kvs, ts, gs, zs, rfl, ha, hd, hk, ok, hg, og, hz, oz, k⟩ := h
    refine ⟨_, (pss_cons (psIf (PW.pt (pwOr (pt_not (ptV (pe_call (ok__is_tables T) (hr.mono (by decide)) (by rfl) T.g__is_tables T.F__is_tables.kp T.B__is_tables .nil pass0 (pa_cons (pev 1) pa_nil)))) (pwOr (pt_not (ptV (pe_call (ok__is_groups T) (hr.mono (by decide)) (by rfl) T.g__is_groups T.F__is_groups.kp T.B__is_groups .nil pass0 (pa_cons (pev 2) (pa_cons (pev 1) pa_nil))))) (pw_or1 (pt_not (ptV (pe_call (ok__is_sizes T) (hr.mono (by decide)) (by rfl) T.g__is_sizes T.F__is_sizes.kp T.B__is_sizes .nil pass0 (pa_cons (pev 3) (pa_cons (pev 1) pa_nil))))))))) (pss_one ps_never) pss_nil)
        (pss_cons (ps_set (i := 4) sc_Question___init__.nd rfl (by first | exact Or.inl rfl | exact Or.inr rfl) (peIf (pt_cmpR op_isN (pev 3) pe_non (nomark _)) pe_dnewK (pev 3)))
        (pss_cons (ps_fld (pev 0) (pe_dc (own := [("name", 5)]) (g := (gName 5)) (tt := tYes) (tk := (uV 5)) (tv := (tDGet (uV 1) (uV 5))) rfl sc_Question___init__.nd (pi_list (pe_callB (call_sortedD rfl) (by rfl) T.b_sorted (by decide +kernel) (pa_cons (pev 1) pa_nil))) (blkOk_by (own := [("name", 5)]) (N := ["self", "tables", "groups", "sizes", "given", "name"]) (sc := defScope s_Question___init__) (by decide +kernel)) (fun _ _ _ _ _ => pg_name (i := 5) sc_Question___init__.nd rfl (by first | exact Or.inl rfl | exact Or.inr rfl)) (fun _ _ _ _ _ => pts_nil) (fun _ _ _ _ _ => (pev 5)) (fun _ _ _ _ _ => (pe_dget (hu1 (hu64 hr)) (pev 1) (pev 5) (fun _ _ => rfl)))) rfl)
        (pss_cons (ps_fld (pev 0) (pev 2) rfl)
        (pss_cons (ps_fld (pev 0) (pe_lock (pe_dc (own := [("name", 5)]) (g := (gName 5)) (tt := tYes) (tk := (uV 5)) (tv := (tDGet2 (uV 4) (uV 5) (tMake T.c_Ratio (sp_Ratio___init__ K T.c_Ratio) [] E0 (tCons (tC (.int 1)) (tCons (tC (.int 1)) tNil))))) rfl sc_Question___init__.nd (pi_keys (pe_fld (pev 0) rfl)) (blkOk_by (own := [("name", 5)]) (N := ["self", "tables", "groups", "sizes", "given", "name"]) (sc := defScope s_Question___init__) (by decide +kernel)) (fun _ _ _ _ _ => pg_name (i := 5) sc_Question___init__.nd rfl (by first | exact Or.inl rfl | exact Or.inr rfl)) (fun _ _ _ _ _ => pts_nil) (fun _ _ _ _ _ => (pev 5)) (fun _ _ _ _ _ => (pe_dget2 (hu1 (hu64 hr)) (pev 4) (pev 5) (pe_make T.K_Ratio (ok_Ratio___init__ T) (hr.mono (by decide)) (by rfl) T.g_Ratio T.B_Ratio___init__ .nil pass0 (pa_cons pe_int (pa_cons pe_int pa_nil))) ⟨rfl, rfl, rfl, rfl⟩)))) rfl)
        (pss_cons (ps_fld (pev 0) (pe_call (ok__columns_of T) (hr.mono (by decide)) (by rfl) T.g__columns_of T.F__columns_of.kp T.B__columns_of .nil pass0 (pa_cons (pev 1) pa_nil)) rfl)
        (pss_one (ps_fld (pev 0) (pe_call (ok__lines_of T) (hr.mono (by decide)) (by rfl) T.g__lines_of T.F__lines_of.kp T.B__lines_of .nil pass0 (pa_cons (pe_fld (pev 0) rfl) (pa_cons (pe_fld (pev 0) rfl) (pa_cons (pe_fld (pev 0) rfl) pa_nil)))) rfl)))))))), ?_⟩
    conv => whnf
    refine ⟨d, kvs, ts, rfl, hd, hk, ok, fun H1 g1 => ?_⟩
    conv => whnf
    refine brF ?_
    conv => whnf
    refine ⟨g, d, gs, kvs, ts, rfl, g1 _ _ hg, g1 _ _ hd, hk.mono fun v b r => r.up g1, ok, og, fun H2 g2 => ?_⟩
    conv => whnf
    refine brF ?_
    conv => whnf
    have G2 := g1.trans g2
    refine ⟨z, d, kvs, ts, rfl, G2 _ _ hd, hk.mono fun v b r => r.up G2, ?_, fun H3 g3 => ?_⟩
    · rcases hz with ⟨rfl, rfl⟩ | ⟨e, kz, rfl, ne, he, hkz⟩
      · exact .inl rfl
      · exact .inr ⟨e, kz, zs, rfl, ne, G2 _ _ he, hkz.mono fun v b r => RatS.up r G2, oz⟩
    conv => whnf
    refine brF ?_
    conv => whnf
    have G3 := G2.trans g3
    rcases hz with ⟨rfl, hzs⟩ | ⟨e, kz, rfl, ne, he, hkz⟩
    case' inl =>
      refine ⟨rfl, _, rfl, ?_⟩
      rw [decide_eq_true (show V.non = V.non from rfl)]
      refine brT ?_
      conv => whnf
      intro e hen
      have G4 : Gr H (upd H3 e (.dK [])) := G3.up hen
      have hez : ∃ kz : List (Key × V), (upd H3 e (.dK [])) e = some (.dK kz) ∧ DRel (RatS T.c_Ratio) (upd H3 e (.dK [])) kz zs := ⟨[], upd_same, by rw [hzs]; exact .nil⟩
      have ne : e ≠ d := fun z => by rw [z, G3 _ _ hd] at hen; cases hen
      have nea : e ≠ a := fun z => by rw [z, G3 _ _ ha] at hen; cases hen
      generalize upd H3 e (.dK []) = H4 at G4 hez ⊢
    case' inr =>
      refine ⟨rfl, _, rfl, ?_⟩
      rw [decide_eq_false (show ¬ V.ref e = V.non by simp)]
      refine brF ?_
      conv => whnf
      have G4 := G3
      have nea : e ≠ a := fun z => by rw [z, ha] at he; cases he
      have hez : ∃ kz : List (Key × V), H3 e = some (.dK kz) ∧ DRel (RatS T.c_Ratio) H3 kz zs := ⟨kz, G3 _ _ he, hkz.mono fun v b r => RatS.up r G3⟩
      generalize H3 = H4 at G4 hez ⊢
    all_goals
      obtain ⟨kz4, he4, hz4⟩ := hez
      have ns6 : (names ts).length ≤ 6 := by rw [show (names ts).length = ts.length from List.length_map _]; exact ok.few.2
      have nd := ok.nd
      have snd := srt_nodup nd
      have sl : (srt (names ts)).length ≤ 6 := by rw [srt_len]; exact ns6
      conv => whnf
      refine ⟨d, kvs, names ts, rfl, .inl (G4 _ _ hd), hk.keys, by omega, fun ys p pm hs hp => ?_⟩
      obtain rfl : ys = srt (names ts) := sorted_srt pm hs
      clear pm hs
      conv => whnf
      refine ⟨p, rfl, ⟨_, SqL.of upd_same⟩, fun D hD => ?_⟩
      have G5 : Gr H (upd H4 p (.lst ((srt (names ts)).map V.str))) := G4.up hp
      have e5 := upd_same (H := H4) (a := p) (o := .lst ((srt (names ts)).map V.str))
      have he5 := Gr.rfl'.up (o := .lst ((srt (names ts)).map V.str)) hp _ _ he4
      have hz5 : DRel (RatS T.c_Ratio) _ kz4 zs := hz4.mono fun v b r => RatS.up r (Gr.rfl'.up (o := .lst ((srt (names ts)).map V.str)) hp)
      generalize upd H4 p (.lst ((srt (names ts)).map V.str)) = H5 at G5 e5 he5 hz5 hD ⊢
      have hDn := G5.free' hD
      refine dc_it (walk_list (xs := (srt (names ts)).map V.str)) (fun i Hm => Gr H5 Hm ∧ ∃ k2, Hm D = some (.dK k2) ∧ DRel TupS Hm k2 ((srtT ts).take i)) ⟨Gr.rfl'.up hD, [], upd_same, .nil⟩ (fun _ _ _ L => SqL.of (L.1 _ _ e5)) ?_ ?_
      · rintro i x Hm Hn hi ⟨g5, k2, e2, r2⟩ ⟨rfl, hx⟩
        rw [List.getElem?_map] at hx
        obtain ⟨n, hn, rfl⟩ := Option.map_eq_some_iff.mp hx
        obtain ⟨cs, hcs⟩ := lk_some ((srt_perm _).mem_iff.mp (List.mem_of_getElem? hn))
        obtain ⟨v, hv, rv⟩ := (hk.mono fun v b r => TupS.up r (G5.trans g5)).get hcs
        have l2 : k2.length ≤ i := by rw [r2.1, List.length_take]; exact Nat.min_le_left _ _
        rw [List.length_map] at hi
        conv => whnf
        refine ⟨rfl, ?_⟩
        conv => whnf
        refine ⟨d, v, rfl, .inl ⟨kvs, .inr n, .inl (g5 _ _ (G5 _ _ hd)), rfl, hv.symm⟩, ?_⟩
        conv => whnf
        refine ⟨k2, .inr n, rfl, e2, small_lt (by omega), Gr.app hD g5, _, upd_same, ?_⟩
        rw [show (srtT ts).take (i + 1) = (srtT ts).take i ++ [(n, (lk ts n).getD [])] from byName_take hn, hcs]
        have h3 : DRel TupS (upd Hn D (.dK (putK k2 (.inr n) v))) (putK k2 (.inr n) v) _ := (r2.put (x := n) rv).mono fun v b r => TupS.off r e2 (fun _ z => by cases z)
        rw [show putA ((srtT ts).take i) n cs = (srtT ts).take i ++ [(n, cs)] from putA_new (byName_new snd hn)] at h3
        exact h3
      rintro Hm ⟨g5, k2, e2, r2⟩
      rw [List.take_of_length_le (by rw [List.length_map]; exact Nat.le_of_eq byName_len)] at r2
      conv => whnf
      have eaM := g5 _ _ (G5 _ _ ha)
      have nDa : D ≠ a := fun z => by rw [z, ha] at hDn; cases hDn
      have nDe : D ≠ e := fun z => by rw [z, he5] at hD; cases hD
      refine ⟨a, T.c_Question, dx, _, rfl, eaM, T.o_Question.cl, T.f_Question__tables, by decide, ?_⟩
      have X6 : Gx a H (upd Hm a (.ins T.c_Question dx [("_tables", .ref D)])) := ((G5.trans g5).gx (a := a)).put
      have ea6 := upd_same (H := Hm) (a := a) (o := .ins T.c_Question dx [("_tables", .ref D)])
      have e6 : (upd Hm a (.ins T.c_Question dx [("_tables", .ref D)])) D = some (.dK k2) := by rw [upd_ne nDa]; exact e2
      have r6 : DRel TupS (upd Hm a (.ins T.c_Question dx [("_tables", .ref D)])) k2 (srtT ts) := r2.mono fun v b r => TupS.off r eaM (fun _ z => by cases z)
      have he6 : (upd Hm a (.ins T.c_Question dx [("_tables", .ref D)])) e = some (.dK kz4) := by rw [upd_ne nea]; exact g5 _ _ he5
      have Y6 : Gx a H5 (upd Hm a (.ins T.c_Question dx [("_tables", .ref D)])) := g5.gx.put
      rw [show putF (Str.ofString "_tables") (V.ref D) [] = ([("_tables", V.ref D)] : List (Str × V)) from rfl]
      generalize upd Hm a (.ins T.c_Question dx [("_tables", .ref D)]) = H6 at X6 ea6 e6 r6 he6 Y6 ⊢
      have nga : g ≠ a := fun z => by rw [z, ha] at hg; cases hg
      conv => whnf
      refine ⟨a, T.c_Question, dx, _, rfl, ea6, T.o_Question.cl, T.f_Question__groups, (by show 1 < 1000; decide), ?_⟩
      rw [show putF (Str.ofString "_groups") (V.ref g) ([("_tables", V.ref D)] : List (Str × V)) = ([("_tables", V.ref D), ("_groups", V.ref g)] : List (Str × V)) from rfl]
      have X7 : Gx a H (upd H6 a (.ins T.c_Question dx [("_tables", .ref D), ("_groups", .ref g)])) := X6.put
      have ea7 := upd_same (H := H6) (a := a) (o := .ins T.c_Question dx [("_tables", .ref D), ("_groups", .ref g)])
      have e7 : (upd H6 a (.ins T.c_Question dx [("_tables", .ref D), ("_groups", .ref g)])) D = some (.dK k2) := by rw [upd_ne nDa]; exact e6
      have r7 : DRel TupS (upd H6 a (.ins T.c_Question dx [("_tables", .ref D), ("_groups", .ref g)])) k2 (srtT ts) := r6.mono fun v b r => TupS.off r ea6 (fun _ z => by cases z)
      have he7 : (upd H6 a (.ins T.c_Question dx [("_tables", .ref D), ("_groups", .ref g)])) e = some (.dK kz4) := by rw [upd_ne nea]; exact he6
      have Y7 : Gx a H5 (upd H6 a (.ins T.c_Question dx [("_tables", .ref D), ("_groups", .ref g)])) := Y6.put
      generalize upd H6 a (.ins T.c_Question dx [("_tables", .ref D), ("_groups", .ref g)]) = H7 at X7 ea7 e7 r7 he7 Y7 ⊢
      conv => whnf
      have hz7 : DRel (RatS T.c_Ratio) H7 kz4 zs := hz5.mono fun v b r => RatS.gx (G5 _ _ ha) r Y7
      refine ⟨D, _, e7, trivial, fun od => ?_⟩
      conv => whnf
      have nse : D ≠ e := nDe
      refine ⟨a, T.c_Question, dx, _, .ref D, rfl, by rw [upd_ne nDa.symm]; exact ea7, T.o_Question.cl, T.f_Question__tables, rfl, D, od, rfl, .inl ⟨k2, upd_same, fun D2 hD2 => ?_⟩⟩
      refine dc_it walk_keys (fun i Hm => Gr (upd H7 D (.frz od (.dK k2))) Hm ∧ ∃ k3, Hm D2 = some (.dK k3) ∧ DRel (RatS T.c_Ratio) Hm k3 ((srtZ (names ts) zs).take i)) ⟨Gr.rfl'.up hD2, [], upd_same, .nil⟩ (fun _ _ _ L => L.1 _ _ upd_same) ?_ ?_
      · rintro i x Hm Hn hi ⟨g7, k3, e3, r3⟩ ⟨rfl, k', v', hkv, rfl⟩
        obtain ⟨t, ht, e1, _⟩ := r7.at hkv
        have e1 : k' = .inr t.1 := e1
        subst e1
        have hn : (srt (names ts))[i]? = some t.1 := byName_get ht
        have li : k2.length ≤ 6 := by rw [r7.1, show (srtT ts).length = (srt (names ts)).length from byName_len]; exact sl
        have l3 : k3.length ≤ i := by rw [r3.1, List.length_take]; exact Nat.min_le_left _ _
        have he8 := g7 _ _ (show (upd H7 D (.frz od (.dK k2))) e = _ by rw [upd_ne nDe.symm]; exact he7)
        have hz8 : DRel (RatS T.c_Ratio) Hn kz4 zs := hz7.mono fun v b r => (RatS.off r e7 (fun _ _ _ z => by cases z)).up g7
        conv => whnf
        refine ⟨rfl, ?_⟩
        conv => whnf
        refine ⟨e, rfl, .inl ⟨kz4, .inl he8⟩, ?_⟩
        conv => whnf
        intro x dx' hx hdx ne'
        refine make_R (R := fun H2 => _) hx hdx ne' (by decide) (by decide) fun H9 g9 i9 => ?_
        rw [show gcdI 1 1 = 1 from gcd_one (t := 1) (b := 1) rfl] at i9
        have e9 := g9 _ _ e3
        have r9 := r3.mono fun v b r => RatS.up r g9
        have fin : ∀ v, RatS T.c_Ratio H9 v ((lk zs t.1).getD (1, 1)) → DRel (RatS T.c_Ratio) (upd H9 D2 (.dK (putK k3 (.inr t.1) v))) (putK k3 (.inr t.1) v) ((srtZ (names ts) zs).take (i + 1)) := fun v rv => by
          rw [show (srtZ (names ts) zs).take (i + 1) = (srtZ (names ts) zs).take i ++ [(t.1, (lk zs t.1).getD (1, 1))] from byName_take hn]
          have h3 : DRel (RatS T.c_Ratio) (upd H9 D2 (.dK (putK k3 (.inr t.1) v))) (putK k3 (.inr t.1) v) _ := (r9.put (x := t.1) rv).mono fun v b r => RatS.off r e9 (fun _ _ _ z => by cases z)
          rw [show putA ((srtZ (names ts) zs).take i) t.1 ((lk zs t.1).getD (1, 1)) = _ from putA_new (byName_new snd hn)] at h3
          exact h3
        cases hl : lk zs t.1 with
        | none =>
          refine ⟨none, .inl ⟨kz4, .inr t.1, .inl (g9 _ _ he8), rfl, (hz8.miss hl).symm⟩, ?_⟩
          conv => whnf
          refine ⟨k3, .inr t.1, rfl, e9, small_lt (by omega), Gr.app hD2 (g7.trans g9), _, upd_same, fin _ ?_⟩
          rw [hl]
          exact i9
        | some r =>
          obtain ⟨v, hv, rv⟩ := hz8.get hl
          refine ⟨some v, .inl ⟨kz4, .inr t.1, .inl (g9 _ _ he8), rfl, hv.symm⟩, ?_⟩
          conv => whnf
          refine ⟨k3, .inr t.1, rfl, e9, small_lt (by omega), Gr.app hD2 (g7.trans g9), _, upd_same, fin _ ?_⟩
          rw [hl]
          exact rv.up g9
      rintro Hm ⟨g7, k3, e3, r3⟩
      rw [List.take_of_length_le (by rw [r7.1, show (srtT ts).length = (srt (names ts)).length from byName_len]; exact Nat.le_of_eq byName_len)] at r3
      refine ⟨g7 _ _ upd_same, ?_⟩
      have G8 : Gr H7 (upd Hm D (.dK k2)) := Gr.unlock e7 g7
      have nD2 : D2 ≠ D := fun z => by rw [z, upd_same] at hD2; cases hD2
      have hD27 : H7 D2 = none := by rw [upd_ne nD2] at hD2; exact hD2
      have e8 : (upd Hm D (.dK k2)) D2 = some (.dK k3) := by rw [upd_ne nD2]; exact e3
      have r8 : DRel (RatS T.c_Ratio) (upd Hm D (.dK k2)) k3 (srtZ (names ts) zs) := r3.mono fun v b r => RatS.off r (g7 _ _ upd_same) (fun _ _ _ z => by cases z)
      generalize upd Hm D (.dK k2) = H8 at G8 e8 r8 ⊢
      have nD2a : D2 ≠ a := fun z => by rw [z, ea7] at hD27; cases hD27
      conv => whnf
      have ea8 := G8 _ _ ea7
      have X8 := X7.gr G8
      refine ⟨a, T.c_Question, dx, _, rfl, ea8, T.o_Question.cl, T.f_Question__sizes, (by show 2 < 1000; decide), ?_⟩
      rw [show putF (Str.ofString "_sizes") (V.ref D2) ([("_tables", V.ref D), ("_groups", V.ref g)] : List (Str × V)) = ([("_tables", V.ref D), ("_groups", V.ref g), ("_sizes", V.ref D2)] : List (Str × V)) from rfl]
      have X9 : Gx a H (upd H8 a (.ins T.c_Question dx [("_tables", .ref D), ("_groups", .ref g), ("_sizes", .ref D2)])) := X8.put
      have ea9 := upd_same (H := H8) (a := a) (o := .ins T.c_Question dx [("_tables", .ref D), ("_groups", .ref g), ("_sizes", .ref D2)])
      have e9 : (upd H8 a (.ins T.c_Question dx [("_tables", .ref D), ("_groups", .ref g), ("_sizes", .ref D2)])) D = some (.dK k2) := by rw [upd_ne nDa]; exact G8 _ _ e7
      have r9 : DRel TupS (upd H8 a (.ins T.c_Question dx [("_tables", .ref D), ("_groups", .ref g), ("_sizes", .ref D2)])) k2 (srtT ts) := r7.mono fun v b r => TupS.off (r.up G8) ea8 (fun _ z => by cases z)
      have f9 : (upd H8 a (.ins T.c_Question dx [("_tables", .ref D), ("_groups", .ref g), ("_sizes", .ref D2)])) D2 = some (.dK k3) := by rw [upd_ne nD2a]; exact e8
      have z9 : DRel (RatS T.c_Ratio) (upd H8 a (.ins T.c_Question dx [("_tables", .ref D), ("_groups", .ref g), ("_sizes", .ref D2)])) k3 (srtZ (names ts) zs) := r8.mono fun v b r => RatS.at_ r ea8
      generalize upd H8 a (.ins T.c_Question dx [("_tables", .ref D), ("_groups", .ref g), ("_sizes", .ref D2)]) = H9 at X9 ea9 e9 r9 f9 z9 ⊢
      have nda : d ≠ a := fun z => by rw [z, ha] at hd; cases hd
      conv => whnf
      refine ⟨d, kvs, ts, rfl, X9 _ _ hd nda, hk.mono fun v b r => TupS.gx ha r X9, ok.nd, ok.fl, fun H10 c g10 hc ec => ?_⟩
      conv => whnf
      have ea10 := g10 _ _ ea9
      have nca : c ≠ a := fun z => by rw [z, ea9] at hc; cases hc
      refine ⟨a, T.c_Question, dx, _, rfl, ea10, T.o_Question.cl, T.f_Question__columns, (by show 3 < 1000; decide), ?_⟩
      rw [show putF (Str.ofString "_columns") (V.ref c) ([("_tables", V.ref D), ("_groups", V.ref g), ("_sizes", V.ref D2)] : List (Str × V)) = ([("_tables", V.ref D), ("_groups", V.ref g), ("_sizes", V.ref D2), ("_columns", V.ref c)] : List (Str × V)) from rfl]
      have X11 : Gx a H (upd H10 a (.ins T.c_Question dx [("_tables", .ref D), ("_groups", .ref g), ("_sizes", .ref D2), ("_columns", .ref c)])) := (X9.gr g10).put
      have ea11 := upd_same (H := H10) (a := a) (o := .ins T.c_Question dx [("_tables", .ref D), ("_groups", .ref g), ("_sizes", .ref D2), ("_columns", .ref c)])
      have e11 : (upd H10 a (.ins T.c_Question dx [("_tables", .ref D), ("_groups", .ref g), ("_sizes", .ref D2), ("_columns", .ref c)])) D = some (.dK k2) := by rw [upd_ne nDa]; exact g10 _ _ e9
      have r11 : DRel TupS (upd H10 a (.ins T.c_Question dx [("_tables", .ref D), ("_groups", .ref g), ("_sizes", .ref D2), ("_columns", .ref c)])) k2 (srtT ts) := r9.mono fun v b r => TupS.off (r.up g10) ea10 (fun _ z => by cases z)
      have f11 : (upd H10 a (.ins T.c_Question dx [("_tables", .ref D), ("_groups", .ref g), ("_sizes", .ref D2), ("_columns", .ref c)])) D2 = some (.dK k3) := by rw [upd_ne nD2a]; exact g10 _ _ f9
      have z11 : DRel (RatS T.c_Ratio) (upd H10 a (.ins T.c_Question dx [("_tables", .ref D), ("_groups", .ref g), ("_sizes", .ref D2), ("_columns", .ref c)])) k3 (srtZ (names ts) zs) := z9.mono fun v b r => RatS.at_ (r.up g10) ea10
      have c11 : (upd H10 a (.ins T.c_Question dx [("_tables", .ref D), ("_groups", .ref g), ("_sizes", .ref D2), ("_columns", .ref c)])) c = some (.tup ((colsOf ts).map V.str)) := by rw [upd_ne nca]; exact ec
      generalize upd H10 a (.ins T.c_Question dx [("_tables", .ref D), ("_groups", .ref g), ("_sizes", .ref D2), ("_columns", .ref c)]) = H11 at X11 ea11 e11 r11 f11 z11 c11 ⊢
      conv => whnf
      refine ⟨a, T.c_Question, dx, _, .ref D, rfl, ea11, T.o_Question.cl, T.f_Question__tables, rfl, ?_⟩
      conv => whnf
      refine ⟨a, T.c_Question, dx, _, .ref g, rfl, ea11, T.o_Question.cl, T.f_Question__groups, rfl, ?_⟩
      conv => whnf
      refine ⟨a, T.c_Question, dx, _, .ref D2, rfl, ea11, T.o_Question.cl, T.f_Question__sizes, rfl, ?_⟩
      conv => whnf
      have pS := srtT_perm nd
      have okS := ok.perm pS
      have ogS := og.perm pS
      have nmS : names (srtT ts) = srt (names ts) := byName_names _ _ _
      have nmZ : names (srtZ (names ts) zs) = srt (names ts) := byName_names _ _ _
      have ozS : OKZ (names (srtT ts)) (srtZ (names ts) zs) := by
        refine ⟨?_, fun z hz => ?_, fun z hz => ?_⟩
        · show (byName _ _ _).length ≤ 64
          rw [byName_len]
          omega
        · rw [nmS, ← nmZ]
          exact List.mem_map_of_mem hz
        · obtain ⟨n, hn, rfl⟩ := List.mem_map.mp hz
          show 1 ≤ ((lk zs n).getD (1, 1)).2 ∧ ((lk zs n).getD (1, 1)).2 ≤ 60 ∧ ((lk zs n).getD (1, 1)).1 ≤ 9 * ((lk zs n).getD (1, 1)).2
          cases hl : lk zs n with
          | none => decide
          | some r => exact oz.let_ _ (lk_mem hl)
      have hg11 := X11 _ _ hg nga
      refine ⟨D, g, D2, k2, k3, srtT ts, gs, srtZ (names ts) zs, rfl, e11, r11, hg11, f11, z11, okS, ogS, ozS, fun H12 l g12 hl el => ?_⟩
      conv => whnf
      have ea12 := g12 _ _ ea11
      have nla : l ≠ a := fun z => by rw [z, ea11] at hl; cases hl
      refine ⟨a, T.c_Question, dx, _, rfl, ea12, T.o_Question.cl, T.f_Question__lines, (by show 4 < 1000; decide), ?_⟩
      have n2 : D2 ≠ D := fun z => by rw [z, upd_same] at hD2; cases hD2
      have h2 : H7 D2 = none := by rw [upd_ne n2] at hD2; exact hD2
      refine k _ (X11.gr g12).put ?_ ⟨dx, D, g, D2, c, l, upd_same, hDn, X7.fresh h2 nD2a⟩
      refine ⟨dx, D, g, D2, c, l, k2, k3, upd_same, by rw [upd_ne nDa]; exact g12 _ _ e11, r11.mono fun v b r => TupS.off (r.up g12) ea12 (fun _ z => by cases z), by rw [upd_ne nga]; exact g12 _ _ hg11, by rw [upd_ne nD2a]; exact g12 _ _ f11,
        z11.mono fun v b r => RatS.at_ (r.up g12) ea12, by rw [upd_ne nca, colsOf_perm pS]; exact g12 _ _ c11, by rw [upd_ne nla]; exact el, by rw [nmS, srt_idem], by rw [nmZ, nmS], okS, ogS, ozS⟩
def sp_Question_tables (K : PySem.W.Frag) (C R : Addr) : Sp := fun vs H Q _ => ∃ (a : Addr) (ts : List (Str × List Str)) (gs : List Str) (zs : List (Str × (Nat × Nat))), vs = [.ref a] ∧ QO C R H a ts gs zs ∧ ∀ (H' : Hp) (p : Addr) (kvs : List (Key × V)), Gr H H' → H p = none → H' p = some (.dK kvs) → DRel TupS H' kvs ts → Q (.ref p) H'
theorem ok_Question_tables (T : Txt K mg) : FnOk P w K mg base CX0 1 T.a_Question_tables T.d_Question_tables ["self"] (sp_Question_tables K T.c_Question T.c_Ratio) := by
  refine T.F_Question_tables.ok sc_Question_tables (fun vs H Q E h => ?_) (fun cdv A outer s H vs Q E hr h => ?_)
  · obtain ⟨a, ts, gs, zs, rfl, _⟩ := h; rfl
  · obtain ⟨a, ts, gs, zs, rfl, ⟨dx, d, g, e, c, l, kvs, kz, ha, hd, hk, hg, he, hz, _⟩, k⟩ := h
    refine ⟨_, (pss_one (ps_ret (pe_callTy call_dictD (by rfl) T.b_dict (by decide +kernel) (pa_cons (pe_fld (pev 0) rfl) pa_nil)))), ?_⟩
    conv => whnf
    refine ⟨a, T.c_Question, dx, _, .ref d, rfl, ha, T.o_Question.cl, T.f_Question__tables, rfl, ?_⟩
    conv => whnf
    exact ⟨d, _, rfl, .inl hd, fun p hp => k _ p _ (Gr.rfl'.up hp) hp upd_same (hk.mono fun v b r => TupS.up r (Gr.rfl'.up hp))⟩
def sp_Question_sizes (K : PySem.W.Frag) (C R : Addr) : Sp := fun vs H Q _ => ∃ (a : Addr) (ts : List (Str × List Str)) (gs : List Str) (zs : List (Str × (Nat × Nat))), vs = [.ref a] ∧ QO C R H a ts gs zs ∧ ∀ (H' : Hp) (p : Addr) (kvs : List (Key × V)), Gr H H' → H p = none → H' p = some (.dK kvs) → DRel (RatS R) H' kvs zs → Q (.ref p) H'
theorem ok_Question_sizes (T : Txt K mg) : FnOk P w K mg base CX0 1 T.a_Question_sizes T.d_Question_sizes ["self"] (sp_Question_sizes K T.c_Question T.c_Ratio) := by
  refine T.F_Question_sizes.ok sc_Question_sizes (fun vs H Q E h => ?_) (fun cdv A outer s H vs Q E hr h => ?_)
  · obtain ⟨a, ts, gs, zs, rfl, _⟩ := h; rfl
  · obtain ⟨a, ts, gs, zs, rfl, ⟨dx, d, g, e, c, l, kvs, kz, ha, hd, hk, hg, he, hz, _⟩, k⟩ := h
    refine ⟨_, (pss_one (ps_ret (pe_callTy call_dictD (by rfl) T.b_dict (by decide +kernel) (pa_cons (pe_fld (pev 0) rfl) pa_nil)))), ?_⟩
    conv => whnf
    refine ⟨a, T.c_Question, dx, _, .ref e, rfl, ha, T.o_Question.cl, T.f_Question__sizes, rfl, ?_⟩
    conv => whnf
    exact ⟨e, _, rfl, .inl he, fun p hp => k _ p _ (Gr.rfl'.up hp) hp upd_same (hz.mono fun v b r => RatS.up r (Gr.rfl'.up hp))⟩
def sp_Question___len__ (K : PySem.W.Frag) (C R : Addr) : Sp := fun vs H Q _ => ∃ (a : Addr) (ts : List (Str × List Str)) (gs : List Str) (zs : List (Str × (Nat × Nat))), vs = [.ref a] ∧ QO C R H a ts gs zs ∧ Q (.int (ts.length : Int)) H
theorem ok_Question___len__ (T : Txt K mg) : FnOk P w K mg base CX0 1 T.a_Question___len__ T.d_Question___len__ ["self"] (sp_Question___len__ K T.c_Question T.c_Ratio) := by
  refine T.F_Question___len__.ok sc_Question___len__ (fun vs H Q E h => ?_) (fun cdv A outer s H vs Q E hr h => ?_)
  · obtain ⟨a, ts, gs, zs, rfl, _⟩ := h; rfl
  · obtain ⟨a, ts, gs, zs, rfl, ⟨dx, d, g, e, c, l, kvs, kz, ha, hd, hk, _⟩, k⟩ := h
    refine ⟨_, (pss_one (ps_ret (pe_callB caLenD (by rfl) T.b_len (by decide +kernel) (pa_cons (pe_fld (pev 0) rfl) pa_nil)))), ?_⟩
    conv => whnf
    refine ⟨a, T.c_Question, dx, _, .ref d, rfl, ha, T.o_Question.cl, T.f_Question__tables, rfl, ?_⟩
    conv => whnf
    refine ⟨d, kvs, rfl, .inl hd, ?_⟩
    rw [hk.1]
    exact k
def sp__law_columns (K : PySem.W.Frag) : Sp := fun vs H Q _ => ∃ (P N : Addr) (ns : List Str) (ts : List (Str × List Str)) (gs : List Str) (zs : List (Str × (Nat × Nat))), vs = [.ref P, .ref N] ∧ PlainQ H P ts gs zs ∧ WT ts ∧ H N = some (.lst (ns.map V.str)) ∧ ns.Perm (names ts) ∧
  ∀ (H' : Hp) (p : Addr), Gr H H' → H p = none → H' p = some (.lst ((colsOf ts).map V.str)) → Q (.ref p) H'
theorem ok__law_columns (T : Txt K mg) : FnOk P w K mg base CX0 1 T.a__law_columns T.d__law_columns ["_law_plain_here", "_law_names_here"] (sp__law_columns K) := by
  refine T.F__law_columns.ok sc__law_columns (fun vs H Q E h => ?_) (fun cdv A outer s H vs Q E hr h => ?_)
  · obtain ⟨P, N, ns, ts, gs, zs, rfl, _⟩ := h; rfl
  · obtain ⟨P, N, ns, ts, gs, zs, rfl, ⟨D, G, S, kt, kz, kp, hP, ⟨kpt, kpg, kps⟩, hD, hkt, hG, hS, hkz, nPD, nPS, nDS⟩, ok, hN, pm, k⟩ := h
    refine ⟨_, (pss_cons (ps_set (i := 2) sc__law_columns.nd rfl (by first | exact Or.inl rfl | exact Or.inr rfl) (pe_lst pa_nil))
        (pss_cons (ps_for PassesOwn.never rfl (pi_list (pev 1)) (pg_name (i := 3) sc__law_columns.nd rfl (by first | exact Or.inl rfl | exact Or.inr rfl))
        (pss_one (ps_set (i := 2) sc__law_columns.nd rfl (by first | exact Or.inl rfl | exact Or.inr rfl) (pe_op opAdd (pev 2) (pe_dget (hu1 (hu64 hr)) (pe_dget (hu1 (hu64 hr)) (pev 0) pe_str (fun _ _ => rfl)) (pev 3) (fun _ _ => rfl))))))
        (pss_one (ps_ret (pe_callB (cr_sortX rfl) (by rfl) T.b_sorted (by decide +kernel) (pa_cons (pe_callTy (cr_setL rfl) (by rfl) T.b_set (by decide +kernel) (pa_cons (pev 2) pa_nil)) pa_nil)))))), ?_⟩
    conv => whnf
    refine ⟨small_ok (by simp), fun f hf => ?_⟩
    conv => whnf
    have g1 := Gr.rfl'.up (o := .lst []) hf
    have ef := upd_same (H := H) (a := f) (o := .lst [])
    generalize upd H f (.lst []) = H1 at g1 ef ⊢
    have hN1 := g1 _ _ hN
    have few := ok.few
    have nl : ns.length ≤ 10 := by rw [pm.length_eq, show (names ts).length = ts.length from List.length_map _]; exact few
    refine ⟨N, rfl, ⟨_, SqL.of hN1⟩, ?_⟩
    refine for_it (walk_list (xs := ns.map V.str)) (fun i σ Hm => Gr H1 Hm ∧ ∃ (f' : Addr) (x : Option V), σ = [some (.ref P), some (.ref N), some (.ref f'), x] ∧ Hm f' = some (.lst ((colL ts (ns.take i)).map V.str))) ⟨Gr.rfl', f, _, rfl, ef⟩ (fun _ _ _ _ L => SqL.of (L.1 _ _ hN1)) ?_ ?_
    · rintro i x σ Hm Hn hi ⟨g2, f', x0, rfl, e2⟩ ⟨rfl, hx⟩
      rw [List.getElem?_map] at hx
      obtain ⟨n, hn, rfl⟩ := Option.map_eq_some_iff.mp hx
      obtain ⟨b, hb⟩ := lk_some (pm.mem_iff.mp (List.mem_of_getElem? hn))
      obtain ⟨v, hv, c, rfl, hc⟩ := (hkt.mono fun v b r => LstS.up r (g1.trans g2)).get hb
      have bl : b.length ≤ 6 := (ok.cols _ (lk_mem hb)).1.2
      have ll := colL_lenW ok (ns.take i) fun m hm => pm.mem_iff.mp (List.mem_of_mem_take hm)
      have li : (ns.take i).length ≤ 10 := by rw [List.length_take]; omega
      conv => whnf
      refine ⟨P, .ref D, rfl, .inl ⟨kp, .inr "tables", .inl (g2 _ _ (g1 _ _ hP)), rfl, kpt.symm⟩, ?_⟩
      conv => whnf
      refine ⟨D, .ref c, rfl, .inl ⟨kt, .inr n, .inl (g2 _ _ (g1 _ _ hD)), rfl, hv.symm⟩, ?_⟩
      refine .inl ⟨f', c, _, _, rfl, rfl, e2, hc, small_ok (by simp only [List.length_map]; omega), fun q hq => ?_⟩
      exact ⟨g2.up hq, q, _, rfl, by rw [upd_same, colL_snoc hn, List.map_append, hb]; rfl⟩
    · rintro σ Hm ⟨g2, f', x0, rfl, e2⟩
      rw [List.take_of_length_le (by rw [List.length_map]; exact Nat.le_refl _)] at e2
      conv => whnf
      have ll := colL_lenW ok ns fun m hm => pm.mem_iff.mp hm
      refine ⟨f', _, rfl, SqL.of e2, by omega, fun p hp => ?_⟩
      conv => whnf
      have g3 := g2.up (o := SetXO w p (adds [] (colL ts ns))) hp
      refine ⟨p, _, rfl, upd_same, ?_, fun ys q pq hs hq => ?_⟩
      · have := adds_len (colL ts ns) []
        simp only [List.length_nil] at this
        omega
      obtain rfl : ys = dist (colL ts ns) := sorted_srt pq hs
      rw [colL_cols ok.nd pm]
      exact k _ q ((g1.trans g3).up hq) ((g1.trans g3).free' hq) upd_same
def sp_Question_groups (K : PySem.W.Frag) (C R : Addr) : Sp := fun vs H Q _ => ∃ (a : Addr) (ts : List (Str × List Str)) (gs : List Str) (zs : List (Str × (Nat × Nat))), vs = [.ref a] ∧ QO C R H a ts gs zs ∧ ∀ p : Addr, H p = some (.tup (gs.map V.str)) → Q (.ref p) H
theorem ok_Question_groups (T : Txt K mg) : FnOk P w K mg base CX0 1 T.a_Question_groups T.d_Question_groups ["self"] (sp_Question_groups K T.c_Question T.c_Ratio) := by
  refine T.F_Question_groups.ok sc_Question_groups (fun vs H Q E h => ?_) (fun cdv A outer s H vs Q E hr h => ?_)
  · obtain ⟨a, ts, gs, zs, rfl, _⟩ := h; rfl
  · obtain ⟨a, ts, gs, zs, rfl, ⟨dx, d, g, e, c, l, kvs, kz, ha, hd, hk, hg, _⟩, k⟩ := h
    refine ⟨_, (pss_one (ps_ret (pe_fld (pev 0) rfl))), ?_⟩
    conv => whnf
    exact ⟨a, T.c_Question, dx, _, .ref g, rfl, ha, T.o_Question.cl, T.f_Question__groups, rfl, k g hg⟩
def sp_Question_names (K : PySem.W.Frag) (C R : Addr) : Sp := fun vs H Q _ => ∃ (a : Addr) (ts : List (Str × List Str)) (gs : List Str) (zs : List (Str × (Nat × Nat))), vs = [.ref a] ∧ QO C R H a ts gs zs ∧ ∀ (H' : Hp) (p : Addr), Gr H H' → H p = none → H' p = some (.tup ((names ts).map V.str)) → Q (.ref p) H'
theorem ok_Question_names (T : Txt K mg) : FnOk P w K mg base CX0 1 T.a_Question_names T.d_Question_names ["self"] (sp_Question_names K T.c_Question T.c_Ratio) := by
  refine T.F_Question_names.ok sc_Question_names (fun vs H Q E h => ?_) (fun cdv A outer s H vs Q E hr h => ?_)
  · obtain ⟨a, ts, gs, zs, rfl, _⟩ := h; rfl
  · obtain ⟨a, ts, gs, zs, rfl, ⟨dx, d, g, e, c, l, kvs, kz, ha, hd, hk, _⟩, k⟩ := h
    refine ⟨_, (pss_one (ps_ret (pe_callTy (caTupD rfl) (by rfl) T.b_tuple (by decide +kernel) (pa_cons (pe_fld (pev 0) rfl) pa_nil)))), ?_⟩
    conv => whnf
    refine ⟨a, T.c_Question, dx, _, .ref d, rfl, ha, T.o_Question.cl, T.f_Question__tables, rfl, ?_⟩
    conv => whnf
    refine ⟨d, kvs, rfl, .inl hd, fun p hp => k _ p (Gr.rfl'.up hp) hp ?_⟩
    rw [upd_same, keys_txt hk]
def sp_Question_columns (K : PySem.W.Frag) (C R : Addr) : Sp := fun vs H Q _ => ∃ (a : Addr) (ts : List (Str × List Str)) (gs : List Str) (zs : List (Str × (Nat × Nat))), vs = [.ref a] ∧ QO C R H a ts gs zs ∧ ∀ p : Addr, H p = some (.tup ((colsOf ts).map V.str)) → Q (.ref p) H
theorem ok_Question_columns (T : Txt K mg) : FnOk P w K mg base CX0 1 T.a_Question_columns T.d_Question_columns ["self"] (sp_Question_columns K T.c_Question T.c_Ratio) := by
  refine T.F_Question_columns.ok sc_Question_columns (fun vs H Q E h => ?_) (fun cdv A outer s H vs Q E hr h => ?_)
  · obtain ⟨a, ts, gs, zs, rfl, _⟩ := h; rfl
  · obtain ⟨a, ts, gs, zs, rfl, ⟨dx, d, g, e, c, l, kvs, kz, ha, hd, hk, hg, he, hz, hc, hl, _⟩, k⟩ := h
    refine ⟨_, (pss_one (ps_ret (pe_fld (pev 0) rfl))), ?_⟩
    conv => whnf
    exact ⟨a, T.c_Question, dx, _, .ref c, rfl, ha, T.o_Question.cl, T.f_Question__columns, rfl, k c hc⟩
def sp_Question_lines (K : PySem.W.Frag) (C R : Addr) : Sp := fun vs H Q _ => ∃ (a : Addr) (ts : List (Str × List Str)) (gs : List Str) (zs : List (Str × (Nat × Nat))), vs = [.ref a] ∧ QO C R H a ts gs zs ∧ ∀ p : Addr, H p = some (.tup ((qLines ts gs zs).map V.str)) → Q (.ref p) H
theorem ok_Question_lines (T : Txt K mg) : FnOk P w K mg base CX0 1 T.a_Question_lines T.d_Question_lines ["self"] (sp_Question_lines K T.c_Question T.c_Ratio) := by
  refine T.F_Question_lines.ok sc_Question_lines (fun vs H Q E h => ?_) (fun cdv A outer s H vs Q E hr h => ?_)
  · obtain ⟨a, ts, gs, zs, rfl, _⟩ := h; rfl
  · obtain ⟨a, ts, gs, zs, rfl, ⟨dx, d, g, e, c, l, kvs, kz, ha, hd, hk, hg, he, hz, hc, hl, _⟩, k⟩ := h
    refine ⟨_, (pss_one (ps_ret (pe_fld (pev 0) rfl))), ?_⟩
    conv => whnf
    exact ⟨a, T.c_Question, dx, _, .ref l, rfl, ha, T.o_Question.cl, T.f_Question__lines, rfl, k l hl⟩
def sp_Question___iter__ (K : PySem.W.Frag) (C R : Addr) : Sp := fun vs H Q _ => ∃ (a : Addr) (ts : List (Str × List Str)) (gs : List Str) (zs : List (Str × (Nat × Nat))), vs = [.ref a] ∧ QO C R H a ts gs zs ∧ ∀ it t : Addr, H it = none → H t = some (.tup ((qLines ts gs zs).map V.str)) → Q (.ref it) (upd H it (ItT t it))
theorem ok_Question___iter__ (T : Txt K mg) : FnOk P w K mg base CX0 1 T.a_Question___iter__ T.d_Question___iter__ ["self"] (sp_Question___iter__ K T.c_Question T.c_Ratio) := by
  refine T.F_Question___iter__.ok sc_Question___iter__ (fun vs H Q E h => ?_) (fun cdv A outer s H vs Q E hr h => ?_)
  · obtain ⟨a, ts, gs, zs, rfl, _⟩ := h; rfl
  · obtain ⟨a, ts, gs, zs, rfl, ⟨dx, d, g, e, c, l, kvs, kz, ha, hd, hk, hg, he, hz, hc, hl, _⟩, k⟩ := h
    refine ⟨_, (pss_one (ps_ret (pe_callB call_iterT (by rfl) T.b_iter (by decide +kernel) (pa_cons (pe_fld (pev 0) rfl) pa_nil)))), ?_⟩
    conv => whnf
    refine ⟨a, T.c_Question, dx, _, .ref l, rfl, ha, T.o_Question.cl, T.f_Question__lines, rfl, ?_⟩
    conv => whnf
    exact ⟨l, _, rfl, SqT.of hl, fun it hit => k it l hit hl⟩
def sp__law_ratio_text (K : PySem.W.Frag) : Sp := fun vs H Q _ => ∃ (v : V) (p q : Nat), vs = [v] ∧ TupAt H v (p : Int) (q : Int) ∧ p ≤ 1000 ∧ q ≤ 1000 ∧ Q (.str (rtext (p : Int) (q : Int))) H
theorem ok__law_ratio_text (T : Txt K mg) : FnOk P w K mg base CX0 1 T.a__law_ratio_text T.d__law_ratio_text ["_law_pair"] (sp__law_ratio_text K) := by
  refine T.F__law_ratio_text.ok sc__law_ratio_text (fun vs H Q E h => ?_) (fun cdv A outer s H vs Q E hr h => ?_)
  · obtain ⟨v, p, q, rfl, _⟩ := h; rfl
  · obtain ⟨v, p, q, rfl, ⟨a, rfl, ha⟩, hp, hq, k⟩ := h
    refine ⟨_, (pss_one (ps_ret (peIf (pt_cmpR (opEq (hu64 hr)) (pe_ix ixU (pev 0) pe_int (fun _ _ => rfl)) pe_int (nomark _)) (pe_callTy caStr (by rfl) T.b_str (by decide +kernel) (pa_cons (pe_ix ixU (pev 0) pe_int (fun _ _ => rfl)) pa_nil)) (pe_op opAdd (pe_op opAdd (pe_callTy caStr (by rfl) T.b_str (by decide +kernel) (pa_cons (pe_ix ixU (pev 0) pe_int (fun _ _ => rfl)) pa_nil)) pe_str) (pe_callTy caStr (by rfl) T.b_str (by decide +kernel) (pa_cons (pe_ix ixU (pev 0) pe_int (fun _ _ => rfl)) pa_nil)))))), ?_⟩
    conv => whnf
    refine ⟨_, _, .inr (SqT.of ha), rfl, ?_⟩
    conv => whnf
    refine ⟨_, rfl, ?_⟩
    unfold rtext at k
    have lp : ((p : Nat) : Int).natAbs.log2 < 1920 := by rw [Int.natAbs_natCast]; exact Nat.lt_of_le_of_lt (log_of_le (k := 10) (by omega)) (by decide)
    have lq : ((q : Nat) : Int).natAbs.log2 < 1920 := by rw [Int.natAbs_natCast]; exact Nat.lt_of_le_of_lt (log_of_le (k := 10) (by omega)) (by decide)
    refine brD (fun h => ?_) (fun h => ?_)
    · rw [if_pos (V.int.inj h)] at k
      conv => whnf
      refine ⟨_, _, .inr (SqT.of ha), rfl, ?_⟩
      conv => whnf
      exact ⟨lp, k⟩
    · rw [if_neg fun z => h (by rw [z])] at k
      conv => whnf
      refine ⟨_, _, .inr (SqT.of ha), rfl, ?_⟩
      conv => whnf
      have h1 := num_short (n := (p : Int)) (by rw [Int.natAbs_natCast]; exact Nat.lt_of_le_of_lt hp (by decide))
      have h2 := num_short (n := (q : Int)) (by rw [Int.natAbs_natCast]; exact Nat.lt_of_le_of_lt hq (by decide))
      have l1 : (Str.ofString "/").length = 1 := by decide
      refine ⟨lp, ?_⟩
      conv => whnf
      refine ⟨small_ok (by omega), ?_⟩
      conv => whnf
      refine ⟨_, _, .inr (SqT.of ha), rfl, ?_⟩
      conv => whnf
      refine ⟨lq, ?_⟩
      conv => whnf
      exact ⟨small_ok (by rw [app_len]; omega), k⟩
def sp__law_lines (K : PySem.W.Frag) : Sp := fun vs H Q _ => ∃ (P : Addr) (ts : List (Str × List Str)) (gs : List Str) (zs : List (Str × (Nat × Nat))), vs = [.ref P] ∧ PlainQ H P ts gs zs ∧ OKT ts ∧ OKG ts gs ∧ OKZ (names ts) zs ∧ names zs = names ts ∧
  ∀ (H' : Hp) (p : Addr), Gr H H' → H p = none → H' p = some (.lst ((qLines (srtT ts) gs (srtZ (names ts) zs)).map V.str)) → Q (.ref p) H'
theorem ok__law_lines (T : Txt K mg) : FnOk P w K mg base CX0 2 T.a__law_lines T.d__law_lines ["_law_plain_here"] (sp__law_lines K) := by
  refine T.F__law_lines.ok sc__law_lines (fun vs H Q E h => ?_) (fun cdv A outer s H vs Q E hr h => ?_)
  · obtain ⟨P, ts, gs, zs, rfl, _⟩ := h; rfl
  · obtain ⟨P, ts, gs, zs, rfl, hQ, ok, og, oz, nz, k⟩ := h
    obtain ⟨D, G, S, kt, kz, kp, hP, ⟨kpt, kpg, kps⟩, hD, hkt, hG, hS, hkz, nPD, nPS, nDS⟩ := id hQ
    refine ⟨_, (pss_cons (ps_setLc (i := 1) (own := [("_law_name", 2)]) (g := (gName 2)) (tt := tYes) (te := (tBM K "str" (rJoin K) (tC (.str " ")) (tCons (tOp (uAdd K) (tLst (tCons (tC (.str "table")) (tCons (uV 2) tNil))) (tDGet (tDGet (uV 0) (tC (.str "tables"))) (uV 2))) tNil))) rfl sc__law_lines.nd rfl rfl (sw_true rfl rfl rfl (by decide +kernel)) (pi_list (pe_call (ok__law_names T) (hr.mono (by decide)) (by rfl) T.g__law_names T.F__law_names.kp T.B__law_names .nil pass0 (pa_cons (pev 0) pa_nil))) (blkOk_by (own := [("_law_name", 2)]) (N := ["_law_plain_here", "_law_found", "_law_name"]) (sc := defScope s__law_lines) (by decide +kernel)) (fun _ _ _ _ _ => pg_name (i := 2) sc__law_lines.nd rfl (by first | exact Or.inl rfl | exact Or.inr rfl)) (fun _ _ _ _ _ => pts_nil) (fun _ _ _ _ _ => (pe_bm PySem.F.plainAttrs_str PySem.F.slot_str_join PySem.F.type_str_join mt_joinK pe_str (pa_cons (pe_op opAdd (pe_lst (pa_cons pe_str (pa_cons (pev 2) pa_nil))) (pe_dget (hu1 (hu64 hr)) (pe_dget (hu1 (hu64 hr)) (pev 0) pe_str (fun _ _ => rfl)) (pev 2) (fun _ _ => rfl))) pa_nil))))
        (pss_cons (ps_for PassesOwn.never rfl (pi_list (pe_call (ok__law_names T) (hr.mono (by decide)) (by rfl) T.g__law_names T.F__law_names.kp T.B__law_names .nil pass0 (pa_cons (pev 0) pa_nil))) (pg_name (i := 2) sc__law_lines.nd rfl (by first | exact Or.inl rfl | exact Or.inr rfl))
        (pss_one (psIf (pt_cmpR (opNe (hu64 hr)) (pe_dget (hu1 (hu64 hr)) (pe_dget (hu1 (hu64 hr)) (pev 0) pe_str (fun _ _ => rfl)) (pev 2) (fun _ _ => rfl)) (pe_tup (pa_cons pe_int (pa_cons pe_int pa_nil))) (nomark _)) (pss_one (ps_expr (pe_bm PySem.F.plainAttrs_list PySem.F.slot_list_append PySem.F.type_list_append mt_append (pev 1) (pa_cons (pe_op opAdd (pe_op opAdd (pe_op opAdd pe_str (pev 2)) pe_str) (pe_call (ok__law_ratio_text T) (hr.mono (by decide)) (by rfl) T.g__law_ratio_text T.F__law_ratio_text.kp T.B__law_ratio_text .nil pass0 (pa_cons (pe_dget (hu1 (hu64 hr)) (pe_dget (hu1 (hu64 hr)) (pev 0) pe_str (fun _ _ => rfl)) (pev 2) (fun _ _ => rfl)) pa_nil))) pa_nil)))) pss_nil)))
        (pss_one (ps_ret (pe_op opAdd (pev 1) (peIf (pt_cmpR (opNe (hu64 hr)) (pe_dget (hu1 (hu64 hr)) (pev 0) pe_str (fun _ _ => rfl)) (pe_lst pa_nil) (nomark _)) (pe_lst (pa_cons (pe_bm PySem.F.plainAttrs_str PySem.F.slot_str_join PySem.F.type_str_join mt_joinK pe_str (pa_cons (pe_op opAdd (pe_lst (pa_cons pe_str pa_nil)) (pe_dget (hu1 (hu64 hr)) (pev 0) pe_str (fun _ _ => rfl))) pa_nil)) pa_nil)) (pe_lst pa_nil))))))), ?_⟩
    have few := ok.few
    have ln : (names ts).length = ts.length := List.length_map _
    have sl : (srt (names ts)).length = ts.length := by rw [srt_len, ln]
    conv => whnf
    refine ⟨P, ts, gs, zs, rfl, hQ, by omega, fun H1 N g1 hN eN => ?_⟩
    conv => whnf
    refine ⟨N, rfl, ⟨_, SqL.of eN⟩, fun B hB => ?_⟩
    refine lc_it (walk_list (xs := (srt (names ts)).map V.str)) (fun i Hm => Gr H1 Hm ∧ Hm B = some (.lst (((srtT ts).take i).map fun t => V.str (tline t)))) ⟨Gr.rfl'.up hB, upd_same⟩ (fun _ _ _ L => SqL.of (L.1 _ _ eN)) ?_ ?_
    · rintro i x Hm Hn hi ⟨g2, e2⟩ ⟨rfl, hx⟩
      rw [List.getElem?_map] at hx
      obtain ⟨n, hn, rfl⟩ := Option.map_eq_some_iff.mp hx
      rw [List.length_map] at hi
      have nm := (srt_perm _).mem_iff.mp (List.mem_of_getElem? hn)
      obtain ⟨b, hb⟩ := lk_some nm
      obtain ⟨v, hv, c, rfl, hc⟩ := (hkt.mono fun v b r => LstS.up r (g1.trans g2)).get hb
      have bc := ok.cols _ (lk_mem hb)
      have bl : b.length ≤ 6 := bc.1.2
      have nn := (names_nm ok n nm).len
      conv => whnf
      refine ⟨rfl, ?_⟩
      conv => whnf
      refine ⟨rfl, ?_⟩
      conv => whnf
      refine ⟨small_ok (by simp), fun l hl => ?_⟩
      conv => whnf
      have gl := Gr.rfl'.up (o := .lst [.str "table", .str n]) hl
      refine ⟨P, .ref D, rfl, .inl ⟨kp, .inr "tables", .inl (gl _ _ (g2 _ _ (g1 _ _ hP))), rfl, kpt.symm⟩, ?_⟩
      conv => whnf
      refine ⟨D, .ref c, rfl, .inl ⟨kt, .inr n, .inl (gl _ _ (g2 _ _ (g1 _ _ hD))), rfl, hv.symm⟩, ?_⟩
      conv => whnf
      refine .inl ⟨l, c, _, _, rfl, rfl, upd_same, gl _ _ hc, small_ok (by simp only [List.length_map, List.length_cons, List.length_nil]; omega), fun q hq => ?_⟩
      have gq := Gr.rfl'.up (o := .lst ([.str "table", .str n] ++ b.map V.str)) hq
      conv => whnf
      have ej : ([.str "table", .str n] ++ b.map V.str : List V) = (("table" : Str) :: n :: b).map V.str := rfl
      refine ⟨" ", q, "table" :: n :: b, rfl, rfl, .inl (SqL.of (by rw [upd_same]; exact congrArg _ (congrArg _ ej))), ?_, ?_⟩
      · have h1 := sum_len_le (n := 8) ("table" :: n :: b) fun z hz => by
          rcases List.mem_cons.mp hz with rfl | hz
          · decide
          rcases List.mem_cons.mp hz with rfl | hz
          · exact nn
          · exact (bc.2.2 z hz).len
        have h2 : (("table" : Str) :: n :: b).length ≤ 8 := by simp only [List.length_cons]; omega
        have h3 : (" " : Str).length = 1 := by decide
        rw [h3]
        omega
      conv => whnf
      have e3 := gq _ _ (gl _ _ e2)
      refine ⟨_, e3, small_lt (by rw [List.length_map, List.length_take]; omega), Gr.app hB ((g2.trans gl).trans gq), ?_⟩
      rw [upd_same, show (srtT ts).take (i + 1) = (srtT ts).take i ++ [(n, (lk ts n).getD [])] from byName_take hn, hb, List.map_append]
      rfl
    rintro Hm ⟨g2, e2⟩
    rw [List.take_of_length_le (by rw [List.length_map]; exact Nat.le_of_eq byName_len)] at e2
    conv => whnf
    have G2 := g1.trans g2
    have hQ2 : PlainQ Hm P ts gs zs := ⟨D, G, S, kt, kz, kp, G2 _ _ hP, ⟨kpt, kpg, kps⟩, G2 _ _ hD, hkt.mono fun v b r => LstS.up r G2, G2 _ _ hG, G2 _ _ hS, hkz.mono fun v b r => PQ.up r G2, nPD, nPS, nDS⟩
    refine ⟨P, ts, gs, zs, rfl, hQ2, by omega, fun H3 M g3 hM eM => ?_⟩
    conv => whnf
    have hBn : H B = none := g1.free' hB
    have nBM : B ≠ M := fun z => by rw [← z, e2] at hM; cases hM
    refine ⟨M, rfl, ⟨_, SqL.of eM⟩, ?_⟩
    have zl : (srtZ (names ts) zs).length = (srt (names ts)).length := byName_len
    refine for_it (walk_list (xs := (srt (names ts)).map V.str)) (fun i σ Hm => Gx B H3 Hm ∧ Hm B = some (.lst ((srtT ts).map (fun t => V.str (tline t)) ++ (((srtZ (names ts) zs).take i).filter fun z => decide (z.2 ≠ (1, 1))).map fun z => V.str (zline z))) ∧ ∃ x, σ = [some (.ref P), some (.ref B), x])
      ⟨Gr.rfl'.gx, by rw [g3 _ _ e2, List.take_zero]; simp, _, rfl⟩ (fun _ _ _ _ L => SqL.of (L.1 _ _ eM nBM.symm)) ?_ ?_
    · rintro i x σ Ha Hb hi ⟨g4, e4, x0, rfl⟩ ⟨rfl, hx⟩
      rw [List.getElem?_map] at hx
      obtain ⟨n, hn, rfl⟩ := Option.map_eq_some_iff.mp hx
      rw [List.length_map] at hi
      have nm := (srt_perm _).mem_iff.mp (List.mem_of_getElem? hn)
      obtain ⟨r, hr⟩ := lk_some (show n ∈ names zs by rw [nz]; exact nm)
      have G3 := G2.trans g3
      have GB : ∀ b u, H b = some u → b ≠ B := fun b u eb z => by rw [z, hBn] at eb; cases eb
      have up : ∀ b u, H b = some u → Hb b = some u := fun b u eb => g4 b u (G3 _ _ eb) (GB b u eb)
      obtain ⟨v, hv, rv⟩ := (hkz.mono fun v b r => PQ.up r up).get hr
      obtain ⟨l1, l2, l3⟩ := oz.let_ _ (lk_mem hr)
      obtain ⟨c, rfl, hc⟩ := id rv
      have nn := (names_nm ok n nm).len
      have ez : (srtZ (names ts) zs).take (i + 1) = (srtZ (names ts) zs).take i ++ [(n, r)] := by
        rw [show (srtZ (names ts) zs).take (i + 1) = (srtZ (names ts) zs).take i ++ [(n, (lk zs n).getD (1, 1))] from byName_take hn, hr]
        rfl
      have nf : ((srtZ (names ts) zs).take (i + 1)).filter (fun z => decide (z.2 ≠ (1, 1))) = ((srtZ (names ts) zs).take i).filter (fun z => decide (z.2 ≠ (1, 1))) ++ if r ≠ (1, 1) then [(n, r)] else [] := by
        rw [ez, List.filter_append]
        congr 1
        simp only [List.filter_cons, List.filter_nil, decide_eq_true_eq]
      conv => whnf
      refine ⟨P, .ref S, rfl, .inl ⟨kp, .inr "sizes", .inl (up _ _ hP), rfl, kps.symm⟩, ?_⟩
      conv => whnf
      refine ⟨S, .ref c, rfl, .inl ⟨kz, .inr n, .inl (up _ _ hS), rfl, hv.symm⟩, ?_⟩
      conv => whnf
      refine ⟨small_ok (by simp), fun y hy => ?_⟩
      conv => whnf
      have gy := Gr.rfl'.up (o := .tup [.int 1, .int 1]) hy
      refine ⟨_, _, TupAt.dp ⟨c, rfl, gy _ _ hc⟩, TupAt.dp ⟨y, rfl, upd_same⟩, shaped_pd _ _, shaped_pd _ _, ?_⟩
      rw [eqv_pd]
      have hb : (!decide (((r.1 : Nat) : Int) = 1 ∧ ((r.2 : Nat) : Int) = 1)) = decide (r ≠ (1, 1)) := by
        rw [← decide_not]
        refine decide_eq_decide.mpr (not_congr ⟨fun q => Prod.ext (by have := q.1; omega) (by have := q.2; omega), fun q => ⟨by rw [q]; rfl, by rw [q]; rfl⟩⟩)
      have l1 : 1 ≤ r.2 := l1
      have l2 : r.2 ≤ 60 := l2
      have l3 : r.1 ≤ 9 * r.2 := l3
      have g5 : Gx B H3 (upd Hb y (.tup [.int 1, .int 1])) := g4.gr gy
      have e5 := gy _ _ e4
      have up5 : ∀ b u, H b = some u → (upd Hb y (.tup [.int 1, .int 1])) b = some u := fun b u eb => gy _ _ (up b u eb)
      generalize upd Hb y (.tup [.int 1, .int 1]) = H5 at g5 e5 up5 ⊢
      refine ⟨_, rfl, ?_⟩
      rw [hb, nf]
      by_cases h1 : r ≠ (1, 1)
      · rw [decide_eq_true h1, if_pos h1]
        refine brT ?_
        have s1 : (Str.ofString "size ").length = 5 := by decide
        have s2 : (Str.ofString " ").length = 1 := by decide
        have p1 : ((r.1 : Nat) : Int).natAbs < 10 ^ 60 := Nat.lt_of_le_of_lt (show ((r.1 : Nat) : Int).natAbs ≤ 1000 by omega) (by decide)
        have p2 : ((r.2 : Nat) : Int).natAbs < 10 ^ 60 := Nat.lt_of_le_of_lt (show ((r.2 : Nat) : Int).natAbs ≤ 1000 by omega) (by decide)
        have rl := rtext_len p1 p2
        conv => whnf
        refine ⟨.inl ⟨rfl, _, SqL.of e5⟩, ?_⟩
        conv => whnf
        refine ⟨small_ok (by omega), ?_⟩
        conv => whnf
        refine ⟨small_ok (by rw [app_len]; omega), ?_⟩
        conv => whnf
        refine ⟨P, .ref S, rfl, .inl ⟨kp, .inr "sizes", .inl (up5 _ _ hP), rfl, kps.symm⟩, ?_⟩
        conv => whnf
        refine ⟨S, .ref c, rfl, .inl ⟨kz, .inr n, .inl (up5 _ _ hS), rfl, hv.symm⟩, ?_⟩
        conv => whnf
        refine ⟨.ref c, r.1, r.2, rfl, ⟨c, rfl, ?_⟩, by omega, by omega, ?_⟩
        · exact up5 _ _ (by
            obtain ⟨v', hv', c', ec, hc'⟩ := hkz.get hr
            rw [hv] at hv'
            cases hv'
            cases ec
            exact hc')
        conv => whnf
        refine ⟨small_ok (by rw [app_len, app_len]; omega), ?_⟩
        conv => whnf
        refine ⟨B, _, _, rfl, rfl, e5, small_lt ?_, ?_⟩
        · have h3 := List.length_filter_le (fun z => decide (z.2 ≠ (1, 1))) ((srtZ (names ts) zs).take i)
          rw [List.length_take] at h3
          simp only [List.length_append, List.length_map]
          have : (srtT ts).length = (srt (names ts)).length := byName_len
          omega
        · refine ⟨g5.put, ?_, _, rfl⟩
          rw [upd_same, List.map_append, List.append_assoc]
          unfold zline
          rw [e_app]
          rfl
      · rw [decide_eq_false h1, if_neg h1, List.append_nil]
        refine brF ?_
        exact ⟨g5, e5, _, rfl⟩
    rintro σ Ha ⟨g4, e4, x0, rfl⟩
    rw [List.take_of_length_le (by rw [List.length_map, zl]; exact Nat.le_refl _)] at e4
    have G3 := G2.trans g3
    have up : ∀ b u, H b = some u → Ha b = some u := fun b u eb => g4 b u (G3 _ _ eb) fun z => by rw [z, hBn] at eb; cases eb
    have GG : Gr H Ha := up
    conv => whnf
    refine ⟨P, .ref G, rfl, .inl ⟨kp, .inr "groups", .inl (up _ _ hP), rfl, kpg.symm⟩, ?_⟩
    conv => whnf
    refine ⟨small_ok (by simp), fun y hy => ?_⟩
    have gy := Gr.rfl'.up (o := .lst []) hy
    have ey := upd_same (H := Ha) (a := y) (o := .lst [])
    have e5 := gy _ _ e4
    have G5 := GG.trans gy
    generalize upd Ha y (.lst []) = H5 at ey e5 G5 ⊢
    conv => whnf
    refine ⟨_, _, .lst (SqL.of (G5 _ _ hG)) (dp_txs gs), .lst (SqL.of ey) .nil, shaped_txs fun z hz => (og.nm z hz).asc, by decide +kernel, ?_⟩
    rw [eqv_txs_nil]
    refine ⟨_, rfl, ?_⟩
    have lf : (((srtZ (names ts) zs)).filter fun z => decide (z.2 ≠ (1, 1))).length ≤ 6 := Nat.le_trans (List.length_filter_le _ _) (by omega)
    have lt' : (srtT ts).length = (srt (names ts)).length := byName_len
    cases gs with
    | nil =>
      refine brN (by rfl) ?_
      conv => whnf
      refine ⟨small_ok (by simp), fun z hz => ?_⟩
      conv => whnf
      have gz := Gr.rfl'.up (o := .lst []) hz
      refine .inl ⟨B, z, _, _, rfl, rfl, gz _ _ e5, upd_same, small_ok (by simp only [List.length_append, List.length_map, List.length_nil]; omega), fun q hq => ?_⟩
      have G6 := G5.trans gz
      refine k _ q (G6.up hq) (G6.free' hq) ?_
      rw [upd_same]
      unfold qLines
      rw [if_pos rfl, List.append_nil, List.append_nil, List.map_append, List.map_map, List.map_map]
      rfl
    | cons z gs =>
      refine brY (by rfl) ?_
      conv => whnf
      refine ⟨rfl, ?_⟩
      conv => whnf
      refine ⟨small_ok (by simp), fun l hl => ?_⟩
      conv => whnf
      have gl := Gr.rfl'.up (o := .lst [.str "group"]) hl
      have el := upd_same (H := H5) (a := l) (o := .lst [.str "group"])
      have e6 := gl _ _ e5
      have G6 := G5.trans gl
      generalize upd H5 l (.lst [.str "group"]) = H6 at el e6 G6 ⊢
      refine ⟨P, .ref G, rfl, .inl ⟨kp, .inr "groups", .inl (G6 _ _ hP), rfl, kpg.symm⟩, ?_⟩
      conv => whnf
      have gfew := og.few
      refine .inl ⟨l, G, _, _, rfl, rfl, el, G6 _ _ hG, small_ok (by simp only [List.length_cons, List.length_nil, List.length_map] at gfew ⊢; omega), fun q hq => ?_⟩
      conv => whnf
      have gq := Gr.rfl'.up (o := .lst ([.str "group"] ++ (z :: gs).map V.str)) hq
      have ej : ([.str "group"] ++ (z :: gs).map V.str : List V) = (("group" : Str) :: z :: gs).map V.str := rfl
      have eq := upd_same (H := H6) (a := q) (o := .lst ([.str "group"] ++ (z :: gs).map V.str))
      have e7 := gq _ _ e6
      have G7 := G6.trans gq
      generalize upd H6 q (.lst ([.str "group"] ++ (z :: gs).map V.str)) = H7 at eq e7 G7 ⊢
      refine ⟨" ", q, "group" :: z :: gs, rfl, rfl, .inl (SqL.of (by rw [eq]; exact congrArg _ (congrArg _ ej))), ?_, ?_⟩
      · have h1 := sum_len_le (n := 8) ("group" :: z :: gs) fun y hy => by
          rcases List.mem_cons.mp hy with rfl | hy
          · decide
          · exact (og.nm y hy).len
        have h2 : (("group" : Str) :: z :: gs).length ≤ 9 := by simp only [List.length_cons] at gfew ⊢; omega
        have h3 : (" " : Str).length = 1 := by decide
        rw [h3]
        omega
      conv => whnf
      refine ⟨small_ok (by simp), fun y2 hy2 => ?_⟩
      conv => whnf
      have g8 := Gr.rfl'.up (o := .lst [V.str (Txt.join " " ("group" :: z :: gs))]) hy2
      refine .inl ⟨B, y2, _, _, rfl, rfl, g8 _ _ e7, upd_same, small_ok (by simp only [List.length_append, List.length_map, List.length_cons, List.length_nil]; omega), fun u hu => ?_⟩
      have G8 := G7.trans g8
      refine k _ u (G8.up hu) (G8.free' hu) ?_
      rw [upd_same]
      unfold qLines
      rw [if_neg (by simp), List.map_append, List.map_append, List.map_map, List.map_map]
      rfl
def withCol (ts : List (Str × List Str)) (x : Str) : List Str := (ts.filter fun t => decide (x ∈ t.2)).map (·.1)
def sp_Question_tables_with (K : PySem.W.Frag) (C R : Addr) : Sp := fun vs H Q _ => ∃ (a : Addr) (x : Str) (ts : List (Str × List Str)) (gs : List Str) (zs : List (Str × (Nat × Nat))), vs = [.ref a, .str x] ∧ QO C R H a ts gs zs ∧ x ∈ colsOf ts ∧
  ∀ (H' : Hp) (p : Addr), Gr H H' → H p = none → H' p = some (.tup ((withCol ts x).map V.str)) → Q (.ref p) H'
theorem ok_Question_tables_with (T : Txt K mg) : FnOk P w K mg base CX0 1 T.a_Question_tables_with T.d_Question_tables_with ["self", "column"] (sp_Question_tables_with K T.c_Question T.c_Ratio) := by
  refine T.F_Question_tables_with.ok sc_Question_tables_with (fun vs H Q E h => ?_) (fun cdv A outer s H vs Q E hr h => ?_)
  · obtain ⟨a, x, ts, gs, zs, rfl, _⟩ := h; rfl
  · obtain ⟨a, x, ts, gs, zs, rfl, ⟨dx, d, g, e, c, l, kvs, kz, ha, hd, hk, hg, he, hz, hc, hl, ns, nz, ok, og, oz⟩, hx, k⟩ := h
    refine ⟨_, (pss_cons (psIf (pt_cmpR op_notIn_seq (pev 1) (pe_fld (pev 0) rfl) rfl) (pss_one ps_never) pss_nil)
        (pss_one (ps_ret (pe_callTy call_tuple_of (by rfl) T.b_tuple (by decide +kernel) (pa_cons (pe_lock (pe_lc (own := [("name", 2)]) (g := (gName 2)) (tt := (tTest (tOp (rIn K false) (uV 1) (tDGet (tFld K (uV 0) "_tables") (uV 2))))) (te := (uV 2)) rfl sc_Question_tables_with.nd (pi_keys (pe_fld (pev 0) rfl)) (blkOk_by (own := [("name", 2)]) (N := ["self", "column", "name"]) (sc := defScope s_Question_tables_with) (by decide +kernel)) (fun _ _ _ _ _ => pg_name (i := 2) sc_Question_tables_with.nd rfl (by first | exact Or.inl rfl | exact Or.inr rfl)) (fun _ _ _ _ _ => (pts_one (pt_cmpR op_in_seq (pev 1) (pe_dget (hu1 (hu64 hr)) (pe_fld (pev 0) rfl) (pev 2) (fun _ _ => rfl)) rfl))) (fun _ _ _ _ _ => (pev 2)))) pa_nil))))), ?_⟩
    conv => whnf
    refine ⟨a, T.c_Question, dx, _, .ref c, rfl, ha, T.o_Question.cl, T.f_Question__columns, rfl, ?_⟩
    conv => whnf
    refine ⟨c, _, rfl, .inr (SqT.of hc), rfl, L2.flat_strs _, ?_⟩
    rw [show (if true = true then !inV (V.str x) ((colsOf ts).map V.str) else inV (V.str x) ((colsOf ts).map V.str)) = false by rw [if_pos rfl, inV_str, decide_eq_true hx]; rfl]
    refine ⟨_, rfl, ?_⟩
    refine brF ?_
    conv => whnf
    refine ⟨d, _, hd, trivial, fun od => ?_⟩
    conv => whnf
    have nad : a ≠ d := fun z => by rw [z, hd] at ha; cases ha
    have hk3 : DRel TupS (upd H d (.frz od (.dK kvs))) kvs ts := hk.mono fun v b r => TupS.off r hd (fun _ z => by cases z)
    have ha3 : (upd H d (.frz od (.dK kvs))) a = some (.ins T.c_Question dx (qf (.ref d) (.ref g) (.ref e) (.ref c) (.ref l))) := by rw [upd_ne nad]; exact ha
    have few := ok.few
    have lk1 := hk.1
    refine ⟨a, T.c_Question, dx, _, .ref d, rfl, ha3, T.o_Question.cl, T.f_Question__tables, rfl, d, od, rfl, .inl ⟨kvs, upd_same, fun D hD => ?_⟩⟩
    refine lc_it walk_keys (fun i Hm => Gr (upd H d (.frz od (.dK kvs))) Hm ∧ Hm D = some (.lst ((withCol (ts.take i) x).map V.str))) ⟨Gr.rfl'.up hD, upd_same⟩ (fun _ _ _ L => L.1 _ _ upd_same) ?_ ?_
    · rintro i y Hm Hn hi ⟨g4, e4⟩ ⟨rfl, k', v', hkv, rfl⟩
      obtain ⟨t, ht, e1, _⟩ := hk.at hkv
      have e1 : k' = .inr t.1 := e1
      subst e1
      have tm := List.mem_of_getElem? ht
      obtain ⟨vt, hvt, bt, rfl, hbt⟩ := (hk3.mono fun v b r => TupS.up r g4).get (lk_at ok.nd tm)
      have ew : withCol (ts.take (i + 1)) x = withCol (ts.take i) x ++ if x ∈ t.2 then [t.1] else [] := by
        unfold withCol
        rw [List.take_add_one, ht, List.filter_append, List.map_append]
        congr 1
        by_cases h : x ∈ t.2
        · rw [if_pos h]; simp [h]
        · rw [if_neg h]; simp [h]
      have lw : (withCol (ts.take i) x).length ≤ i := by
        unfold withCol
        rw [List.length_map]
        exact Nat.le_trans (List.length_filter_le _ _) (by rw [List.length_take]; exact Nat.min_le_left _ _)
      conv => whnf
      refine ⟨rfl, ?_⟩
      conv => whnf
      refine ⟨a, T.c_Question, dx, _, .ref d, rfl, g4 _ _ ha3, T.o_Question.cl, T.f_Question__tables, rfl, ?_⟩
      conv => whnf
      refine ⟨d, .ref bt, rfl, .inl ⟨kvs, .inr t.1, .inr ⟨od, g4 _ _ upd_same⟩, rfl, hvt.symm⟩, ?_⟩
      conv => whnf
      refine ⟨bt, _, rfl, .inr (SqT.of hbt), rfl, L2.flat_strs _, ?_⟩
      rw [show (if false = true then !inV (V.str x) (t.2.map V.str) else inV (V.str x) (t.2.map V.str)) = decide (x ∈ t.2) by rw [if_neg (by decide), inV_str]]
      refine ⟨_, rfl, ?_⟩
      rw [ew]
      by_cases h : x ∈ t.2
      · rw [decide_eq_true h, if_pos h]
        conv => whnf
        refine ⟨_, e4, small_lt (by rw [List.length_map]; omega), Gr.app hD g4, ?_⟩
        rw [upd_same, List.map_append]
        rfl
      · rw [decide_eq_false h, if_neg h, List.append_nil]
        exact ⟨g4, e4⟩
    · rintro Hm ⟨g4, e4⟩
      rw [List.take_of_length_le (by rw [lk1]; exact Nat.le_refl _)] at e4
      refine ⟨g4 _ _ upd_same, ?_⟩
      have G4 : Gr H (upd Hm d (.dK kvs)) := Gr.unlock hd g4
      have nDd : D ≠ d := fun z => by rw [z, upd_same] at hD; cases hD
      have e5 : (upd Hm d (.dK kvs)) D = some (.lst ((withCol ts x).map V.str)) := by rw [upd_ne nDd]; exact e4
      generalize upd Hm d (.dK kvs) = H4 at G4 e5 ⊢
      conv => whnf
      exact ⟨D, _, rfl, .inl ⟨SqL.of e5, fun p hp => k _ p (G4.up hp) (G4.free' hp) upd_same⟩⟩
/-- what a question's text is -/
def qText (n c g : Nat) : Str := ("question with " : Str) ++ Str.ofString (toString (n : Int)) ++ (" tables, " : Str) ++ Str.ofString (toString (c : Int)) ++ (" columns, " : Str) ++ Str.ofString (toString (g : Int)) ++ (" groups" : Str)
def sp_Question___str__ (K : PySem.W.Frag) (C R : Addr) : Sp := fun vs H Q _ => ∃ (a : Addr) (ts : List (Str × List Str)) (gs : List Str) (zs : List (Str × (Nat × Nat))), vs = [.ref a] ∧ QO C R H a ts gs zs ∧ Q (.str (qText ts.length (colsOf ts).length gs.length)) H
theorem ok_Question___str__ (T : Txt K mg) : FnOk P w K mg base CX0 1 T.a_Question___str__ T.d_Question___str__ ["self"] (sp_Question___str__ K T.c_Question T.c_Ratio) := by
  refine T.F_Question___str__.ok sc_Question___str__ (fun vs H Q E h => ?_) (fun cdv A outer s H vs Q E hr h => ?_)
  · obtain ⟨a, ts, gs, zs, rfl, _⟩ := h; rfl
  · obtain ⟨a, ts, gs, zs, rfl, ⟨dx, d, g, e, c, l, kvs, kz, ha, hd, hk, hg, he, hz, hc, hl, nn, nzn, ok, og, oz⟩, k⟩ := h
    refine ⟨_, (pss_one (ps_ret (pe_joined (.cons pe_str (.cons (pe_fmt (pe_callB caLenD (by rfl) T.b_len (by decide +kernel) (pa_cons (pe_fld (pev 0) rfl) pa_nil))) (.cons pe_str (.cons (pe_fmt (pe_callB caLen (by rfl) T.b_len (by decide +kernel) (pa_cons (pe_fld (pev 0) rfl) pa_nil))) (.cons pe_str (.cons (pe_fmt (pe_callB caLen (by rfl) T.b_len (by decide +kernel) (pa_cons (pe_fld (pev 0) rfl) pa_nil))) (.cons pe_str .nil)))))))))), ?_⟩
    have few : ts.length ≤ 6 := ok.few.2
    have nc : (colsOf ts).length ≤ 8 := ok.all
    have ng : gs.length ≤ 8 := og.few
    have sh : ∀ n : Nat, n ≤ 8 → (Str.ofString (toString (n : Int))).length ≤ 100 := fun n h => num_short (by rw [Int.natAbs_natCast]; exact Nat.lt_of_le_of_lt h (by decide))
    have s1 := sh _ (Nat.le_trans few (by decide))
    have s2 := sh _ nc
    have s3 := sh _ ng
    unfold qText at k
    have lg : ∀ n : Nat, n ≤ 8 → ((n : Nat) : Int).natAbs.log2 < 1920 := fun n h => by rw [Int.natAbs_natCast]; exact Nat.lt_of_le_of_lt (log_of_le (k := 10) (by omega)) (by decide)
    have l1 : ("question with " : Str).length = 14 := by decide
    have l2 : (" tables, " : Str).length = 9 := by decide
    have l3 : (" columns, " : Str).length = 10 := by decide
    have l4 : (" groups" : Str).length = 7 := by decide
    conv => whnf
    refine ⟨_, rfl, by rw [e_app]; exact small_ok (by omega), ?_⟩
    rw [e_app]
    conv => whnf
    refine ⟨a, T.c_Question, dx, _, .ref d, rfl, ha, T.o_Question.cl, T.f_Question__tables, rfl, ?_⟩
    conv => whnf
    refine ⟨d, kvs, rfl, .inl hd, ?_⟩
    rw [hk.1]
    conv => whnf
    refine .inr ⟨_, rfl, lg _ (Nat.le_trans few (by decide)), ?_⟩
    conv => whnf
    refine ⟨_, rfl, by rw [app_len]; exact small_ok (by omega), ?_⟩
    conv => whnf
    refine ⟨_, rfl, by rw [app_len, app_len]; exact small_ok (by omega), ?_⟩
    conv => whnf
    refine ⟨a, T.c_Question, dx, _, .ref c, rfl, ha, T.o_Question.cl, T.f_Question__columns, rfl, ?_⟩
    conv => whnf
    refine ⟨_, .inr (SqT.of hc), ?_⟩
    rw [List.length_map]
    conv => whnf
    refine .inr ⟨_, rfl, lg _ nc, ?_⟩
    conv => whnf
    refine ⟨_, rfl, by rw [app_len, app_len, app_len]; exact small_ok (by omega), ?_⟩
    conv => whnf
    refine ⟨_, rfl, by rw [app_len, app_len, app_len, app_len]; exact small_ok (by omega), ?_⟩
    conv => whnf
    refine ⟨a, T.c_Question, dx, _, .ref g, rfl, ha, T.o_Question.cl, T.f_Question__groups, rfl, ?_⟩
    conv => whnf
    refine ⟨_, .inr (SqT.of hg), ?_⟩
    rw [List.length_map]
    conv => whnf
    refine .inr ⟨_, rfl, lg _ ng, ?_⟩
    conv => whnf
    refine ⟨_, rfl, by rw [app_len, app_len, app_len, app_len, app_len]; exact small_ok (by omega), ?_⟩
    conv => whnf
    refine ⟨_, rfl, by rw [app_len, app_len, app_len, app_len, app_len, app_len]; exact small_ok (by omega), ?_⟩
    conv => whnf
    exact k
def hasNm (ts : List (Str × List Str)) (v : V) : Bool := isNameV v && (match v with | .str z => decide (z ∈ names ts) | _ => false)
def sp_Question___contains__ (K : PySem.W.Frag) (C R : Addr) : Sp := fun vs H Q _ => ∃ (a : Addr) (v : V) (S : String) (ts : List (Str × List Str)) (gs : List Str) (zs : List (Str × (Nat × Nat))), vs = [.ref a, v] ∧ QO C R H a ts gs zs ∧ KdO K H v S ∧ (∀ z, v = .str z → z.length ≤ 1000) ∧
  ∀ H', Gr H H' → Q (.bl (hasNm ts v)) H'
theorem ok_Question___contains__ (T : Txt K mg) : FnOk P w K mg base CX0 2 T.a_Question___contains__ T.d_Question___contains__ ["self", "value"] (sp_Question___contains__ K T.c_Question T.c_Ratio) := by
  refine T.F_Question___contains__.ok sc_Question___contains__ (fun vs H Q E h => ?_) (fun cdv A outer s H vs Q E hr h => ?_)
  · obtain ⟨a, v, S, ts, gs, zs, rfl, _⟩ := h; rfl
  · obtain ⟨a, v, S, ts, gs, zs, rfl, hq, hv, hl, k⟩ := h
    obtain ⟨dx, d, g, e, c, l, kvs, kz, ha, hd, hk, hg, he, hz, hc, hll, ns, nz, ok, og, oz⟩ := id hq
    refine ⟨_, (pss_one (ps_ret (peAnd (pe_call (ok_is_name T) (hr.mono (by decide)) (by rfl) T.g_is_name T.F_is_name.kp T.B_is_name .nil pass0 (pa_cons (pev 1) pa_nil)) (pe_one (pe_cmp (pc_din (hu1 (hu64 hr)) (pev 1) (pe_fld (pev 0) rfl))))))), ?_⟩
    conv => whnf
    refine ⟨v, S, rfl, hv, fun z e => by have := hl z e; omega, fun H1 g1 => ?_⟩
    refine br2 (fun h => ?_) (fun h => ?_)
    case' refine_2 =>
      have e : hasNm ts v = false := by unfold hasNm; rw [h]; rfl
      rw [e] at k
      exact k H1 g1
    cases v with
    | str z => ?_
    | _ => cases h
    conv => whnf
    refine ⟨a, T.c_Question, dx, _, .ref d, rfl, g1 _ _ ha, T.o_Question.cl, T.f_Question__tables, rfl, ?_⟩
    conv => whnf
    refine ⟨d, _, rfl, DGet.k (k := .inr z) (g1 _ _ hd), ?_⟩
    have e : (valV kvs (.inr z)).isSome = hasNm ts (.str z) := by
      unfold hasNm
      rw [h, Bool.true_and]
      show _ = decide (z ∈ names ts)
      cases el : lk ts z with
      | none =>
        rw [hk.miss el, decide_eq_false (lk_none.mp el)]
        rfl
      | some b =>
        obtain ⟨w, hw, _⟩ := hk.get el
        rw [hw, decide_eq_true (show z ∈ names ts from List.mem_map_of_mem (lk_mem el))]
        rfl
    rw [e]
    exact k H1 g1
/-- what a question tells, as data -/
def sixD (gs ns cs ln : List Str) (n : Int) : PyData := .list [.tuple (txs gs), .tuple (txs ns), .tuple (txs cs), .tuple (txs ln), .list (txs ln), .int n]
theorem sixD_ok {gs ns cs ln : List Str} {n : Nat} (h1 : TxD 8 8 gs) (h2 : TxD 8 8 ns) (h3 : TxD 8 8 cs) (h4 : TxD 300 13 ln) (hn : n ≤ 6) : (sixD gs ns cs ln n).showable = true ∧ SeqAt.shaped (sixD gs ns cs ln n) = true ∧ (sixD gs ns cs ln n).shown.length ≤ sizeLine := by
  have sn := num_short (n := (n : Int)) (by rw [Int.natAbs_natCast]; exact Nat.lt_of_le_of_lt hn (by decide))
  refine ⟨?_, ?_, ?_⟩
  · refine able_list (ds := [.tuple (txs gs), .tuple (txs ns), .tuple (txs cs), .tuple (txs ln), .list (txs ln), .int n]) fun d hd => ?_
    simp only [List.mem_cons, List.not_mem_nil, or_false] at hd
    rcases hd with rfl | rfl | rfl | rfl | rfl | rfl
    · exact able_list (able_txs _)
    · exact able_list (able_txs _)
    · exact able_list (able_txs _)
    · exact able_list (able_txs _)
    · exact able_list (able_txs _)
    · show decide _ = true
      exact decide_eq_true (by rw [Int.natAbs_natCast]; exact Nat.lt_of_le_of_lt (log_of_le (k := 10) (by omega)) (by decide))
  · refine Deep.shaped (k := 2) (deep_list fun d hd => ?_) (by decide)
    simp only [List.mem_cons, List.not_mem_nil, or_false] at hd
    rcases hd with rfl | rfl | rfl | rfl | rfl | rfl
    · exact deep_tup (deep_txs h1.asc)
    · exact deep_tup (deep_txs h2.asc)
    · exact deep_tup (deep_txs h3.asc)
    · exact deep_tup (deep_txs h4.asc)
    · exact deep_list (deep_txs h4.asc)
    · exact ⟨rfl, Nat.zero_le _⟩
  · have a := shown_list (n := 50000) (ds := [.tuple (txs gs), .tuple (txs ns), .tuple (txs cs), .tuple (txs ln), .list (txs ln), .int n]) fun d hd => by
      simp only [List.mem_cons, List.not_mem_nil, or_false] at hd
      rcases hd with rfl | rfl | rfl | rfl | rfl | rfl
      · have := h1.tup; omega
      · have := h2.tup; omega
      · have := h3.tup; omega
      · have := h4.tup; omega
      · have := h4.list; omega
      · show (Str.ofString (toString (n : Int))).length ≤ _
        omega
    exact small_ok (Nat.le_trans a (show 6 * (50000 + 2) + 3 ≤ 1000000 by decide))
/-- names with their texts, as data -/
def pairsD (A : List (Str × List Str)) : List PyData := A.map fun t => .tuple [.str t.1, .tuple (txs t.2)]
theorem dp_pairs {K : PySem.W.Frag} {H : Hp} : ∀ {ps : List Addr} {kvs : List (Key × V)} {A : List (Str × List Str)}, PySem.Paired (fun p kv => H p = some (.tup [kV kv.1, kv.2])) ps kvs → DRel TupS H kvs A → DpAll K H (ps.map V.ref) (pairsD A)
  | [], [], [], _, _ => .nil
  | [], [], t :: A, _, d => nomatch d.1
  | p :: ps, kv :: kvs, [], _, d => nomatch d.1
  | p :: ps, kv :: kvs, t :: A, .cons e r, d => by
    obtain ⟨k, ⟨b, hb, eb⟩, d⟩ := d.cons
    rw [k, hb] at e
    exact .cons (.tup (SqT.of e) (.cons (.str _) (.cons (.tup (SqT.of eb) (dp_txs _)) .nil))) (dp_pairs r d)
theorem pairsD_ok {A : List (Str × List Str)} (o : OKT A) : (PyData.list (pairsD A)).showable = true ∧ SeqAt.shaped (.list (pairsD A)) = true ∧ (PyData.list (pairsD A)).shown.length ≤ sizeLine := by
  have tx : ∀ t ∈ A, TxD 8 8 t.2 := fun t ht => ⟨fun z hz => ((o.cols t ht).2.2 z hz).asc, fun z hz => ((o.cols t ht).2.2 z hz).len, by have := (o.cols t ht).1.2; omega⟩
  have nm : ∀ t ∈ A, TxD 8 8 [t.1] := fun t ht => ⟨fun z hz => by obtain rfl := List.mem_singleton.mp hz; exact (o.nm t ht).asc, fun z hz => by obtain rfl := List.mem_singleton.mp hz; exact (o.nm t ht).len, by show 1 ≤ 8; decide⟩
  have few := o.few.2
  refine ⟨able_list fun d hd => ?_, Deep.shaped (k := 3) (deep_list fun d hd => ?_) (by decide), ?_⟩
  · obtain ⟨t, ht, rfl⟩ := List.mem_map.mp hd
    refine able_list fun d hd => ?_
    simp only [List.mem_cons, List.not_mem_nil, or_false] at hd
    rcases hd with rfl | rfl
    · rfl
    · exact able_list (able_txs _)
  · obtain ⟨t, ht, rfl⟩ := List.mem_map.mp hd
    refine deep_tup fun d hd => ?_
    simp only [List.mem_cons, List.not_mem_nil, or_false] at hd
    rcases hd with rfl | rfl
    · obtain ⟨a, b⟩ := deep_txs (nm t ht).asc (.str t.1) List.mem_cons_self
      exact ⟨a, Nat.le_trans b (by decide)⟩
    · exact deep_tup (deep_txs (tx t ht).asc)
  · have a := shown_list (n := 2000) (ds := pairsD A) fun d hd => by
      obtain ⟨t, ht, rfl⟩ := List.mem_map.mp hd
      have h := shown_tup (n := 800) (ds := [.str t.1, .tuple (txs t.2)]) fun d hd => by
        simp only [List.mem_cons, List.not_mem_nil, or_false] at hd
        rcases hd with rfl | rfl
        · have := shown_txs (m := 8) (l := [t.1]) (fun z hz => ⟨(nm t ht).asc z hz, (nm t ht).len z hz⟩) (.str t.1) List.mem_cons_self
          omega
        · have := (tx t ht).tup
          omega
      exact Nat.le_trans h (show 2 * (800 + 2) + 3 ≤ 2000 by decide)
    have l : (pairsD A).length ≤ 6 := by unfold pairsD; rw [List.length_map]; exact few
    exact small_ok (Nat.le_trans a (Nat.le_trans (Nat.add_le_add_right (Nat.mul_le_mul_right _ l) 3) (show 6 * (2000 + 2) + 3 ≤ 1000000 by decide)))
/-- names with their sizes, as data -/
def sizesD (Z : List (Str × (Nat × Nat))) : List PyData := Z.map fun z => .tuple [.str z.1, pd (z.2.1 : Int) (z.2.2 : Int)]
theorem dp_sizes {K : PySem.W.Frag} {H : Hp} : ∀ {ps : List Addr} {kvs : List (Key × V)} {A : List (Str × (Nat × Nat))}, PySem.Paired (fun p kv => H p = some (.tup [kV kv.1, kv.2])) ps kvs → DRel PQ H kvs A → DpAll K H (ps.map V.ref) (sizesD A)
  | [], [], [], _, _ => .nil
  | [], [], t :: A, _, d => nomatch d.1
  | p :: ps, kv :: kvs, [], _, d => nomatch d.1
  | p :: ps, kv :: kvs, t :: A, .cons e r, d => by
    obtain ⟨k, pq, d⟩ := d.cons
    rw [k] at e
    exact .cons (.tup (SqT.of e) (.cons (.str _) (.cons (TupAt.dp pq) .nil))) (dp_sizes r d)
theorem sizesD_deep {Z : List (Str × (Nat × Nat))} (h : ∀ z ∈ Z, Asc z.1) : Deep 3 (.list (sizesD Z)) := deep_list fun d hd => by
  obtain ⟨t, ht, rfl⟩ := List.mem_map.mp hd
  refine deep_tup fun d hd => ?_
  simp only [List.mem_cons, List.not_mem_nil, or_false] at hd
  rcases hd with rfl | rfl
  · obtain ⟨a, b⟩ := deep_txs (l := [t.1]) (fun z hz => by obtain rfl := List.mem_singleton.mp hz; exact h t ht) (.str t.1) List.mem_cons_self
    exact ⟨a, Nat.le_trans b (by decide)⟩
  · exact ⟨rfl, Nat.le_refl _⟩
/-- a question's text, of its words -/
theorem join_cons (s a b : Str) (r : List Str) : Str.join s (a :: b :: r) = a ++ s ++ Str.join s (b :: r) := rfl
theorem join_one (s a : Str) : Str.join s [a] = a := rfl
theorem words_join (n c g : Nat) : Txt.join " " ["question with", Str.ofString (toString (n : Int)), "tables,", Str.ofString (toString (c : Int)), "columns,", Str.ofString (toString (g : Int)), "groups"] = qText n c g := by
  rw [TL.join_eq]
  unfold qText
  generalize Str.ofString (toString (n : Int)) = x
  generalize Str.ofString (toString (c : Int)) = y
  generalize Str.ofString (toString (g : Int)) = z
  simp only [join_cons, join_one]
  have e1 : ("question with " : Str).cps.toList = ("question with" : Str).cps.toList ++ (" " : Str).cps.toList := by decide +kernel
  have e2 : (" tables, " : Str).cps.toList = (" " : Str).cps.toList ++ (("tables," : Str).cps.toList ++ (" " : Str).cps.toList) := by decide +kernel
  have e3 : (" columns, " : Str).cps.toList = (" " : Str).cps.toList ++ (("columns," : Str).cps.toList ++ (" " : Str).cps.toList) := by decide +kernel
  have e4 : (" groups" : Str).cps.toList = (" " : Str).cps.toList ++ ("groups" : Str).cps.toList := by decide +kernel
  refine str_ext ?_
  simp only [app_list, e1, e2, e3, e4, List.append_assoc]
theorem isNameV_sp (z : Str) : isNameV (.str (z ++ " ")) = false := by
  show (_ && List.all _ _) = false
  have e : (z ++ (" " : Str)).cps.toList.all (fun c => decide (c ∈ letters)) = false := by
    rw [app_list]
    rw [List.all_append]
    rw [show ((" " : Str).cps.toList.all fun c => decide (c ∈ letters)) = false by decide +kernel, Bool.and_false]
  rw [e, Bool.and_false]
theorem hasNm_not {ts : List (Str × List Str)} {v : V} (h : isNameV v = false) : hasNm ts v = false := by unfold hasNm; rw [h]; rfl
theorem hasNm_out {ts : List (Str × List Str)} {z : Str} (h : z ∉ names ts) : hasNm ts (.str z) = false := by unfold hasNm; rw [show (match V.str z with | .str z => decide (z ∈ names ts) | _ => false) = false from decide_eq_false h, Bool.and_false]
def sp__law_is_told (K : PySem.W.Frag) (C R : Addr) : Sp := fun vs H Q _ => ∃ (a P : Addr) (ts : List (Str × List Str)) (gs : List Str) (zs : List (Str × (Nat × Nat))), vs = [.ref a, .ref P] ∧ QO C R H a (srtT ts) gs (srtZ (names ts) zs) ∧ PlainQ H P ts gs zs ∧ OKP ts gs zs ∧ (∀ z ∈ names ts, z ∈ namesC) ∧ ∀ H', Gr H H' → Q (.bl true) H'
theorem ok__law_is_told (T : Txt K mg) : FnG P w K mg base CX0 5 T.a__law_is_told T.d__law_is_told ["_law_question", "_law_plain_here"] (sp__law_is_told K T.c_Question T.c_Ratio) := by
  refine okG T.F__law_is_told sc__law_is_told (fun vs H Q E h => ?_) (fun cdv A outer s H vs Q E hg hr h => ?_)
  · obtain ⟨a, P, ts, gs, zs, rfl, _⟩ := h; rfl
  · obtain ⟨a, P, ts, gs, zs, rfl, qo, pl0, okp, inC, k⟩ := h
    refine ⟨_, PSs.nox (pss_cons (ps_set (i := 2) sc__law_is_told.nd rfl (by first | exact Or.inl rfl | exact Or.inr rfl) (pe_call (ok__law_names T) (hr.mono (by decide)) (by rfl) T.g__law_names T.F__law_names.kp T.B__law_names .nil pass0 (pa_cons (pev 1) pa_nil)))
        (pss_cons (ps_set (i := 3) sc__law_is_told.nd rfl (by first | exact Or.inl rfl | exact Or.inr rfl) (pe_call (ok__law_columns T) (hr.mono (by decide)) (by rfl) T.g__law_columns T.F__law_columns.kp T.B__law_columns .nil pass0 (pa_cons (pev 1) (pa_cons (pev 2) pa_nil))))
        (pss_cons (ps_set (i := 4) sc__law_is_told.nd rfl (by first | exact Or.inl rfl | exact Or.inr rfl) (pe_lst (pa_cons (pe_prop (pev 0) T.o_Question.cl T.P_Question_groups (ok_Question_groups T) (hr.mono (by decide)) T.B_Question_groups .nil pass0 rfl) (pa_cons (pe_prop (pev 0) T.o_Question.cl T.P_Question_names (ok_Question_names T) (hr.mono (by decide)) T.B_Question_names .nil pass0 rfl) (pa_cons (pe_prop (pev 0) T.o_Question.cl T.P_Question_columns (ok_Question_columns T) (hr.mono (by decide)) T.B_Question_columns .nil pass0 rfl) (pa_cons (pe_prop (pev 0) T.o_Question.cl T.P_Question_lines (ok_Question_lines T) (hr.mono (by decide)) T.B_Question_lines .nil pass0 rfl) (pa_cons (pe_callTy (caListO (E := E0) T.M_Question___iter__ (ok_Question___iter__ T) (hr.mono (by decide)) T.B_Question___iter__ T.M_Question___len__ (ok_Question___len__ T) (hr.mono (by decide)) T.B_Question___len__ rfl) (by rfl) T.b_list (by decide +kernel) (pa_cons (pev 0) pa_nil)) (pa_cons (pe_callB (caLenO T.M_Question___len__ (ok_Question___len__ T) (hr.mono (by decide)) T.B_Question___len__ pass0) (by rfl) T.b_len (by decide +kernel) (pa_cons (pev 0) pa_nil)) pa_nil))))))))
        (pss_cons (ps_set (i := 5) sc__law_is_told.nd rfl (by first | exact Or.inl rfl | exact Or.inr rfl) (pe_call (ok__law_lines T) (hr.mono (by decide)) (by rfl) T.g__law_lines T.F__law_lines.kp T.B__law_lines .nil pass0 (pa_cons (pev 1) pa_nil)))
        (pss_cons (psIf (pt_cmpR (opNe (hu64 hr)) (pe_callB (caReprB hg (hu70 hr)) (by rfl) T.b_repr (by decide +kernel) (pa_cons (pev 4) pa_nil)) (pe_callB (caReprB hg (hu70 hr)) (by rfl) T.b_repr (by decide +kernel) (pa_cons (pe_lst (pa_cons (pe_callTy call_tuple_of (by rfl) T.b_tuple (by decide +kernel) (pa_cons (pe_dget (hu1 (hu64 hr)) (pev 1) pe_str (fun _ _ => rfl)) pa_nil)) (pa_cons (pe_callTy call_tuple_of (by rfl) T.b_tuple (by decide +kernel) (pa_cons (pev 2) pa_nil)) (pa_cons (pe_callTy call_tuple_of (by rfl) T.b_tuple (by decide +kernel) (pa_cons (pev 3) pa_nil)) (pa_cons (pe_callTy call_tuple_of (by rfl) T.b_tuple (by decide +kernel) (pa_cons (pev 5) pa_nil)) (pa_cons (pev 5) (pa_cons (pe_callB caLen (by rfl) T.b_len (by decide +kernel) (pa_cons (pev 2) pa_nil)) pa_nil))))))) pa_nil)) (nomark _)) (pss_one (ps_ret pe_bl)) pss_nil)
        (pss_cons (psIf (pt_cmpR (opNe (hu64 hr)) (pe_callB (caReprB hg (hu70 hr)) (by rfl) T.b_repr (by decide +kernel) (pa_cons (LiI.pe_listItems rfl (pe_prop (pev 0) T.o_Question.cl T.P_Question_tables (ok_Question_tables T) (hr.mono (by decide)) T.B_Question_tables .nil pass0 rfl) (by rfl) T.b_list (by decide +kernel)) pa_nil)) (pe_callB (caReprB hg (hu70 hr)) (by rfl) T.b_repr (by decide +kernel) (pa_cons (pe_lc (own := [("_law_name", 9)]) (g := (gName 9)) (tt := tYes) (te := (tTup (tCons (uV 9) (tCons (tCB (rTupOf K) (tCons (tDGet (tDGet (uV 1) (tC (.str "tables"))) (uV 9)) tNil)) tNil)))) rfl sc__law_is_told.nd (pi_list (pev 2)) (blkOk_by (own := [("_law_name", 9)]) (N := ["_law_question", "_law_plain_here", "_law_names_here", "_law_columns_here", "_law_told", "_law_lines_here", "_law_column", "_law_words", "_law_odd", "_law_name", "_law_size", "_law_one"]) (sc := defScope s__law_is_told) (by decide +kernel)) (fun _ _ _ _ _ => pg_name (i := 9) sc__law_is_told.nd rfl (by first | exact Or.inl rfl | exact Or.inr rfl)) (fun _ _ _ _ _ => pts_nil) (fun _ _ _ _ _ => (pe_tup (pa_cons (pev 9) (pa_cons (pe_callTy caTupOf (by rfl) T.b_tuple (by decide +kernel) (pa_cons (pe_dget (hu1 (hu64 hr)) (pe_dget (hu1 (hu64 hr)) (pev 1) pe_str (fun _ _ => rfl)) (pev 9) (fun _ _ => rfl)) pa_nil)) pa_nil))))) pa_nil)) (nomark _)) (pss_one (ps_ret pe_bl)) pss_nil)
        (pss_cons (psIf (pt_cmpR (opNe (hu64 hr)) (pe_lc (own := [("_law_name", 9), ("_law_size", 10)]) (g := (gTup K 2 (gCons (gName 9) (gCons (gName 10) gNil)))) (tt := tYes) (te := (tTup (tCons (uV 9) (tCons (tProp T.c_Ratio (sp_Ratio_pair K T.c_Ratio) [] E0 (uV 10)) tNil)))) rfl sc__law_is_told.nd (pi_items (pe_frz (pe_prop (pev 0) T.o_Question.cl T.P_Question_sizes (ok_Question_sizes T) (hr.mono (by decide)) T.B_Question_sizes .nil pass0 rfl))) (blkOk_by (own := [("_law_name", 9), ("_law_size", 10)]) (N := ["_law_question", "_law_plain_here", "_law_names_here", "_law_columns_here", "_law_told", "_law_lines_here", "_law_column", "_law_words", "_law_odd", "_law_name", "_law_size", "_law_one"]) (sc := defScope s__law_is_told) (by decide +kernel)) (fun _ _ _ _ _ => pg_tup rfl (pgs_cons (pg_name (i := 9) sc__law_is_told.nd rfl (by first | exact Or.inl rfl | exact Or.inr rfl)) (pgs_cons (pg_name (i := 10) sc__law_is_told.nd rfl (by first | exact Or.inl rfl | exact Or.inr rfl)) pgs_nil))) (fun _ _ _ _ _ => pts_nil) (fun _ _ _ _ _ => (pe_tup (pa_cons (pev 9) (pa_cons (pe_prop (pev 10) T.o_Ratio.cl T.P_Ratio_pair (ok_Ratio_pair T) (hr.mono (by decide)) T.B_Ratio_pair .nil pass0 rfl) pa_nil))))) (pe_lc (own := [("_law_name", 9)]) (g := (gName 9)) (tt := tYes) (te := (tTup (tCons (uV 9) (tCons (tDGet (tDGet (uV 1) (tC (.str "sizes"))) (uV 9)) tNil)))) rfl sc__law_is_told.nd (pi_list (pev 2)) (blkOk_by (own := [("_law_name", 9)]) (N := ["_law_question", "_law_plain_here", "_law_names_here", "_law_columns_here", "_law_told", "_law_lines_here", "_law_column", "_law_words", "_law_odd", "_law_name", "_law_size", "_law_one"]) (sc := defScope s__law_is_told) (by decide +kernel)) (fun _ _ _ _ _ => pg_name (i := 9) sc__law_is_told.nd rfl (by first | exact Or.inl rfl | exact Or.inr rfl)) (fun _ _ _ _ _ => pts_nil) (fun _ _ _ _ _ => (pe_tup (pa_cons (pev 9) (pa_cons (pe_dget (hu1 (hu64 hr)) (pe_dget (hu1 (hu64 hr)) (pev 1) pe_str (fun _ _ => rfl)) (pev 9) (fun _ _ => rfl)) pa_nil))))) (nomark _)) (pss_one (ps_ret pe_bl)) pss_nil)
        (pss_cons (ps_for PassesOwn.never rfl (pi_list (pev 3)) (pg_name (i := 6) sc__law_is_told.nd rfl (by first | exact Or.inl rfl | exact Or.inr rfl))
        (pss_one (psIf (pt_cmpR (opNe (hu64 hr)) (pe_meth (pev 0) T.o_Question.cl T.M_Question_tables_with (ok_Question_tables_with T) (hr.mono (by decide)) T.B_Question_tables_with .nil pass0 (pa_cons (pev 6) pa_nil)) (pe_callTy call_tuple_of (by rfl) T.b_tuple (by decide +kernel) (pa_cons (pe_lc (own := [("_law_name", 9)]) (g := (gName 9)) (tt := (tTest (tOp (rIn K false) (uV 6) (tDGet (tDGet (uV 1) (tC (.str "tables"))) (uV 9))))) (te := (uV 9)) rfl sc__law_is_told.nd (pi_list (pev 2)) (blkOk_by (own := [("_law_name", 9)]) (N := ["_law_question", "_law_plain_here", "_law_names_here", "_law_columns_here", "_law_told", "_law_lines_here", "_law_column", "_law_words", "_law_odd", "_law_name", "_law_size", "_law_one"]) (sc := defScope s__law_is_told) (by decide +kernel)) (fun _ _ _ _ _ => pg_name (i := 9) sc__law_is_told.nd rfl (by first | exact Or.inl rfl | exact Or.inr rfl)) (fun _ _ _ _ _ => (pts_one (pt_cmpR op_in_seq (pev 6) (pe_dget (hu1 (hu64 hr)) (pe_dget (hu1 (hu64 hr)) (pev 1) pe_str (fun _ _ => rfl)) (pev 9) (fun _ _ => rfl)) rfl))) (fun _ _ _ _ _ => (pev 9))) pa_nil)) (nomark _)) (pss_one (ps_ret pe_bl)) pss_nil)))
        (pss_cons (ps_set (i := 7) sc__law_is_told.nd rfl (by first | exact Or.inl rfl | exact Or.inr rfl) (pe_lst (pa_cons pe_str (pa_cons (pe_callTy caStr (by rfl) T.b_str (by decide +kernel) (pa_cons (pe_callB caLen (by rfl) T.b_len (by decide +kernel) (pa_cons (pev 2) pa_nil)) pa_nil)) (pa_cons pe_str (pa_cons (pe_callTy caStr (by rfl) T.b_str (by decide +kernel) (pa_cons (pe_callB caLen (by rfl) T.b_len (by decide +kernel) (pa_cons (pev 3) pa_nil)) pa_nil)) (pa_cons pe_str pa_nil)))))))
        (pss_cons (ps_set (i := 7) sc__law_is_told.nd rfl (by first | exact Or.inl rfl | exact Or.inr rfl) (pe_op opAdd (pev 7) (pe_lst (pa_cons (pe_callTy caStr (by rfl) T.b_str (by decide +kernel) (pa_cons (pe_callB caLen (by rfl) T.b_len (by decide +kernel) (pa_cons (pe_dget (hu1 (hu64 hr)) (pev 1) pe_str (fun _ _ => rfl)) pa_nil)) pa_nil)) (pa_cons pe_str pa_nil)))))
        (pss_cons (ps_set (i := 8) sc__law_is_told.nd rfl (by first | exact Or.inl rfl | exact Or.inr rfl) (pe_lst (pa_cons pe_non (pa_cons pe_int (pa_cons pe_str (pa_cons (pe_tup pa_nil) (pa_cons pe_str (pa_cons (pe_tup (pa_cons (pe_ix ixU (pev 2) pe_int (fun _ _ => rfl)) pa_nil)) (pa_cons (pe_lst (pa_cons (pe_ix ixU (pev 2) pe_int (fun _ _ => rfl)) pa_nil)) (pa_cons (pe_op opAdd (pe_ix ixU (pev 2) pe_int (fun _ _ => rfl)) pe_str) (pa_cons pe_bl (pa_cons (pev 0) pa_nil))))))))))))
        (pss_cons (psIf (PW.pt (pwOr (pt_cmpR (opNe (hu64 hr)) (pe_callTy (caStrO T.M_Question___str__ (ok_Question___str__ T) (hr.mono (by decide)) T.B_Question___str__ pass0) (by rfl) T.b_str (by decide +kernel) (pa_cons (pev 0) pa_nil)) (pe_bm PySem.F.plainAttrs_str PySem.F.slot_str_join PySem.F.type_str_join mt_join pe_str (pa_cons (pev 7) pa_nil)) (nomark _)) (pw_or1 (pt_cmpR (opNe (hu64 hr)) (pe_lc (own := [("_law_one", 11)]) (g := (gName 11)) (tt := (tTest (tOp (uInO false T.c_Question (sp_Question___contains__ K T.c_Question T.c_Ratio) E0) (uV 11) (uV 0)))) (te := (uV 11)) rfl sc__law_is_told.nd (pi_list (pev 8)) (blkOk_by (own := [("_law_one", 11)]) (N := ["_law_question", "_law_plain_here", "_law_names_here", "_law_columns_here", "_law_told", "_law_lines_here", "_law_column", "_law_words", "_law_odd", "_law_name", "_law_size", "_law_one"]) (sc := defScope s__law_is_told) (by decide +kernel)) (fun _ _ _ _ _ => pg_name (i := 11) sc__law_is_told.nd rfl (by first | exact Or.inl rfl | exact Or.inr rfl)) (fun _ _ _ _ _ => (pts_one (pt_cmpR (opInO T.M_Question___contains__ (ok_Question___contains__ T) (hr.mono (by decide)) T.B_Question___contains__ pass0) (pev 11) (pev 0) rfl))) (fun _ _ _ _ _ => (pev 11))) (pe_lst pa_nil) (nomark _))))) (pss_one (ps_ret pe_bl)) pss_nil)
        (pss_one (ps_ret (pe_cmpR (opEq (hu64 hr)) (pe_lc (own := [("_law_name", 9)]) (g := (gName 9)) (tt := (tTest (tOp (uInO true T.c_Question (sp_Question___contains__ K T.c_Question T.c_Ratio) E0) (uV 9) (uV 0)))) (te := (uV 9)) rfl sc__law_is_told.nd (pi_list (pev 2)) (blkOk_by (own := [("_law_name", 9)]) (N := ["_law_question", "_law_plain_here", "_law_names_here", "_law_columns_here", "_law_told", "_law_lines_here", "_law_column", "_law_words", "_law_odd", "_law_name", "_law_size", "_law_one"]) (sc := defScope s__law_is_told) (by decide +kernel)) (fun _ _ _ _ _ => pg_name (i := 9) sc__law_is_told.nd rfl (by first | exact Or.inl rfl | exact Or.inr rfl)) (fun _ _ _ _ _ => (pts_one (pt_cmpR (opNotInO T.M_Question___contains__ (ok_Question___contains__ T) (hr.mono (by decide)) T.B_Question___contains__ pass0) (pev 9) (pev 0) rfl))) (fun _ _ _ _ _ => (pev 9))) (pe_lst pa_nil) (nomark _)))))))))))))))), ?_⟩
    conv => whnf
    have few := okp.t.few
    have lts : (srtT ts).length = ts.length := (srtT_perm okp.t.nd).length_eq
    obtain ⟨dx, d, q, e, c, l, kvs, kz, ha, _⟩ := id qo
    refine ⟨P, ts, gs, zs, rfl, pl0, by omega, fun H1 N g1 hN eN => ?_⟩
    conv => whnf
    refine ⟨P, N, srt (names ts), ts, gs, zs, rfl, pl0.up g1, okp.t.wt, eN, srt_perm _, fun H2 C g2 hC eC => ?_⟩
    conv => whnf
    have g12 := g1.trans g2
    refine ⟨a, dx, _, rfl, g12 _ _ ha, a, _, _, _, rfl, qo.up g12, fun pg epg => ?_⟩
    conv => whnf
    refine ⟨a, dx, _, rfl, g12 _ _ ha, a, _, _, _, rfl, qo.up g12, fun H3 pn g3 hpn epn => ?_⟩
    conv => whnf
    have g13 := g12.trans g3
    have qo3 := qo.up g13
    refine ⟨a, dx, _, rfl, g13 _ _ ha, a, _, _, _, rfl, qo3, fun pc epc => ?_⟩
    conv => whnf
    refine ⟨a, dx, _, rfl, g13 _ _ ha, a, _, _, _, rfl, qo3, fun pl epl => ?_⟩
    conv => whnf
    refine ⟨a, dx, _, rfl, g13 _ _ ha, fun S hS => ?_⟩
    have gS := Gr.rfl'.up (o := .lst []) hS
    refine ⟨a, _, _, _, rfl, qo3.up gS, fun it t hit et => ?_⟩
    have git := gS.up (o := ItT t it) hit
    have get_ := (Gr.rfl'.up (o := ItT t it) hit) _ _ et
    refine ⟨it, t, rfl, hit, rfl, ?_⟩
    refine ⟨a, _, _, _, rfl, qo3.up git, ?_⟩
    refine ⟨_, rfl, by rw [lts]; omega, rfl, _, SqT.of get_, ?_⟩
    conv => whnf
    obtain ⟨LN, hLN⟩ : ∃ x, x = qLines (srtT ts) gs (srtZ (names ts) zs) := ⟨_, rfl⟩
    rw [← hLN] at epl ⊢
    have g4 := Gr.rfl'.up (o := .lst (LN.map V.str)) hS
    have eS := upd_same (H := H3) (a := S) (o := .lst (LN.map V.str))
    generalize upd H3 S (.lst (LN.map V.str)) = H4 at g4 eS ⊢
    have g14 := g13.trans g4
    refine ⟨a, dx, _, rfl, g14 _ _ ha, ?_⟩
    refine ⟨a, _, _, _, rfl, qo.up g14, ?_⟩
    refine ⟨_, rfl, by rw [lts]; omega, ?_⟩
    rw [lts]
    conv => whnf
    refine ⟨small_ok (by simp), fun W hW => ?_⟩
    have g5 := Gr.rfl'.up (o := .lst [.ref pg, .ref pn, .ref pc, .ref pl, .ref S, .int (ts.length : Int)]) hW
    have eW := upd_same (H := H4) (a := W) (o := .lst [.ref pg, .ref pn, .ref pc, .ref pl, .ref S, .int (ts.length : Int)])
    generalize upd H4 W (.lst [.ref pg, .ref pn, .ref pc, .ref pl, .ref S, .int (ts.length : Int)]) = H5 at g5 eW ⊢
    have g15 := g14.trans g5
    conv => whnf
    refine ⟨P, ts, gs, zs, rfl, pl0.up g15, okp.t, okp.g, okp.z, okp.nz, fun H6 p6 g6 hp6 ep6 => ?_⟩
    rw [← hLN] at ep6
    have g16 := g15.trans g6
    conv => whnf
    have QQ := qo.qq
    have TXg : TxD 8 8 gs := ⟨fun z hz => (okp.g.nm z hz).asc, fun z hz => (okp.g.nm z hz).len, okp.g.few⟩
    have nmN : ∀ z ∈ srt (names ts), Nm z := fun z hz => names_nm okp.t z ((srt_perm _).mem_iff.mp hz)
    have lnS : (srt (names ts)).length ≤ 6 := by rw [srt_len, show (names ts).length = ts.length from List.length_map _]; exact few.2
    have TXn : TxD 8 8 (srt (names ts)) := ⟨fun z hz => (nmN z hz).asc, fun z hz => (nmN z hz).len, by omega⟩
    have nmC : ∀ z ∈ colsOf ts, Nm z := fun z hz => by obtain ⟨t, ht, h⟩ := cols_mem.mp hz; exact (okp.t.cols t ht).2.2 z h
    have TXc : TxD 8 8 (colsOf ts) := ⟨fun z hz => (nmC z hz).asc, fun z hz => (nmC z hz).len, okp.t.all⟩
    have TXl : TxD 300 13 LN := by rw [hLN]; exact ⟨QQ.asc, lines_len QQ.t QQ.g QQ.z, lines_few QQ.t QQ.nz⟩
    obtain ⟨six1, six2, six3⟩ := sixD_ok (n := ts.length) TXg TXn TXc TXl few.2
    rw [srtT_names] at epn
    rw [show colsOf (srtT ts) = colsOf ts from cols_perm (srtT_perm okp.t.nd)] at epc
    have g36 : Gr H3 H6 := (g4.trans g5).trans g6
    have g26 : Gr H2 H6 := g3.trans g36
    refine ⟨sixD gs (srt (names ts)) (colsOf ts) LN ts.length, .lst (SqL.of (g6 _ _ eW)) (.cons (.tup (SqT.of (g26 _ _ epg)) (dp_txs _)) (.cons (.tup (SqT.of (g36 _ _ epn)) (dp_txs _)) (.cons (.tup (SqT.of (g36 _ _ epc)) (dp_txs _)) (.cons (.tup (SqT.of (g36 _ _ epl)) (dp_txs _)) (.cons (.lst (SqL.of (g6 _ _ (g5 _ _ eS))) (dp_txs _)) (.cons (.int _) .nil)))))), six1, six2, six3, ?_⟩
    conv => whnf
    obtain ⟨D, G, Z, kt, kzz, kp, hP, ⟨kpt, kpg, kps⟩, hD, hkt, hG, hZ, hkz, nPD, nPS, nDS⟩ := id (pl0.up g16)
    refine ⟨P, .ref G, rfl, .inl ⟨kp, .inr "groups", .inl hP, rfl, kpg.symm⟩, ?_⟩
    conv => whnf
    refine ⟨G, _, rfl, .inl ⟨SqL.of hG, fun t1 ht1 => ?_⟩⟩
    have q1 := Gr.rfl'.up (o := .tup (gs.map V.str)) ht1
    have et1 := upd_same (H := H6) (a := t1) (o := .tup (gs.map V.str))
    generalize upd H6 t1 (.tup (gs.map V.str)) = J1 at q1 et1 ⊢
    conv => whnf
    have eN6 : H6 N = some (.lst ((srt (names ts)).map V.str)) := g26 _ _ (g2 _ _ eN)
    have eC6 : H6 C = some (.lst ((colsOf ts).map V.str)) := g26 _ _ eC
    refine ⟨N, _, rfl, .inl ⟨SqL.of (q1 _ _ eN6), fun t2 ht2 => ?_⟩⟩
    have q2 := Gr.rfl'.up (o := .tup ((srt (names ts)).map V.str)) ht2
    have et2 := upd_same (H := J1) (a := t2) (o := .tup ((srt (names ts)).map V.str))
    generalize upd J1 t2 (.tup ((srt (names ts)).map V.str)) = J2 at q2 et2 ⊢
    conv => whnf
    refine ⟨C, _, rfl, .inl ⟨SqL.of (q2 _ _ (q1 _ _ eC6)), fun t3 ht3 => ?_⟩⟩
    have q3 := Gr.rfl'.up (o := .tup ((colsOf ts).map V.str)) ht3
    have et3 := upd_same (H := J2) (a := t3) (o := .tup ((colsOf ts).map V.str))
    generalize upd J2 t3 (.tup ((colsOf ts).map V.str)) = J3 at q3 et3 ⊢
    conv => whnf
    have q13 := (q1.trans q2).trans q3
    refine ⟨p6, _, rfl, .inl ⟨SqL.of (q13 _ _ ep6), fun t4 ht4 => ?_⟩⟩
    have q4 := Gr.rfl'.up (o := .tup (LN.map V.str)) ht4
    have et4 := upd_same (H := J3) (a := t4) (o := .tup (LN.map V.str))
    generalize upd J3 t4 (.tup (LN.map V.str)) = J4 at q4 et4 ⊢
    conv => whnf
    have q14 := q13.trans q4
    refine ⟨_, .inl (SqL.of (q14 _ _ eN6)), ?_⟩
    rw [List.length_map, srt_len, show (names ts).length = ts.length from List.length_map _]
    conv => whnf
    refine ⟨small_ok (by simp), fun W2 hW2 => ?_⟩
    have q5 := Gr.rfl'.up (o := .lst [.ref t1, .ref t2, .ref t3, .ref t4, .ref p6, .int (ts.length : Int)]) hW2
    have eW2 := upd_same (H := J4) (a := W2) (o := .lst [.ref t1, .ref t2, .ref t3, .ref t4, .ref p6, .int (ts.length : Int)])
    generalize upd J4 W2 (.lst [.ref t1, .ref t2, .ref t3, .ref t4, .ref p6, .int (ts.length : Int)]) = J5 at q5 eW2 ⊢
    conv => whnf
    have q45 := q4.trans q5
    have q35 := q3.trans q45
    have q25 := q2.trans q35
    have q15 := q14.trans q5
    refine ⟨sixD gs (srt (names ts)) (colsOf ts) LN ts.length, .lst (SqL.of eW2) (.cons (.tup (SqT.of (q25 _ _ et1)) (dp_txs _)) (.cons (.tup (SqT.of (q35 _ _ et2)) (dp_txs _)) (.cons (.tup (SqT.of (q45 _ _ et3)) (dp_txs _)) (.cons (.tup (SqT.of (q5 _ _ et4)) (dp_txs _)) (.cons (.lst (SqL.of (q15 _ _ ep6)) (dp_txs _)) (.cons (.int _) .nil)))))), six1, six2, six3, ?_⟩
    conv => whnf
    refine ⟨_, rfl, ?_⟩
    rw [decide_eq_true rfl]
    refine brF ?_
    conv => whnf
    have g65 : Gr H6 J5 := q15
    have gJ5 := g16.trans q15
    clear eW eW2 et1 et2 et3 et4 q1 q2 q3 q4 q5 q13 q14 q15 q25 q35 q45 epg epn epc epl eS g36 six1 six2 six3
    refine ⟨a, dx, _, rfl, gJ5 _ _ ha, a, _, _, _, rfl, qo.up gJ5, fun J6 dt k1 q6 hdt edt dd1 => ?_⟩
    conv => whnf
    obtain ⟨pr1, pr2, pr3⟩ := pairsD_ok QQ.t
    refine ⟨dt, k1, rfl, edt, fun J7 V2 ps2 q7 hV2 hps2 nV2 eV2 pp2 => ?_⟩
    conv => whnf
    have g7 : Gr J6 J7 := fun b o e => q7 b o e
    refine ⟨.list (pairsD (srtT ts)), .lst (SqL.of eV2) (dp_pairs pp2 (dd1.mono fun v b r => TupS.up r g7)), pr1, pr2, pr3, ?_⟩
    conv => whnf
    have gJ7 := (gJ5.trans q6).trans g7
    have eN7 : J7 N = some (.lst ((srt (names ts)).map V.str)) := g7 _ _ (q6 _ _ (g65 _ _ eN6))
    have pl7 := pl0.up gJ7
    refine ⟨N, rfl, ⟨_, SqL.of eN7⟩, fun B hB => ?_⟩
    clear hP hD hkt hG hZ hkz
    obtain ⟨D, G, Z, kt, kzz, kp, hP, ⟨kpt, kpg, kps⟩, hD, hkt, hG, hZ, hkz, nPD, nPS, nDS⟩ := id pl7
    have ltS : (srtT ts).length = (srt (names ts)).length := byName_len
    refine lc_prs (R := TupS) (walk_list (xs := (srt (names ts)).map V.str)) sta_TupS (srtT ts) hB (by rw [List.length_map]; exact ltS) (by rw [List.length_map]; omega) (fun _ g => SqL.of (g _ _ eN7)) (fun i x Hm H' t Qe E3 hi g y ht hq => ?_) (fun J8 ps3 kv3 g8 eB8 pp3 dd3 => ?_)
    · obtain ⟨rfl, hx⟩ := y
      have hx2 : (srt (names ts))[i]? = some t.1 := byName_get ht
      rw [List.getElem?_map, hx2] at hx
      cases hx
      have tm := (srtT_perm okp.t.nd).mem_iff.mp (List.mem_of_getElem? ht)
      obtain ⟨v, hv, b, rfl, hb⟩ := hkt.get (lk_at okp.t.nd tm)
      conv => whnf
      refine ⟨rfl, ?_⟩
      conv => whnf
      refine ⟨P, .ref D, rfl, .inl ⟨kp, .inr "tables", .inl (g _ _ hP), rfl, kpt.symm⟩, ?_⟩
      conv => whnf
      refine ⟨D, .ref b, rfl, .inl ⟨kt, .inr t.1, .inl (g _ _ hD), rfl, hv.symm⟩, ?_⟩
      conv => whnf
      refine ⟨b, _, rfl, .inl ⟨SqL.of (g _ _ hb), fun l hl => ?_⟩⟩
      have gl := Gr.rfl'.up (o := .tup (t.2.map V.str)) hl
      have el := upd_same (H := H') (a := l) (o := .tup (t.2.map V.str))
      generalize upd H' l (.tup (t.2.map V.str)) = H4 at gl el ⊢
      conv => whnf
      refine ⟨small_ok (by simp), fun q hq' => ?_⟩
      have gq := Gr.rfl'.up (o := .tup [.str t.1, .ref l]) hq'
      exact hq _ q (.ref l) (gl.trans gq) upd_same ⟨l, rfl, gq _ _ el⟩
    conv => whnf
    refine ⟨.list (pairsD (srtT ts)), .lst (SqL.of eB8) (dp_pairs pp3 dd3), pr1, pr2, pr3, ?_⟩
    refine ⟨_, rfl, ?_⟩
    rw [decide_eq_true rfl]
    refine brF ?_
    conv => whnf
    have gJ8 := gJ7.trans g8
    have eN8 := g8 _ _ eN7
    clear eV2 pp2 hps2 nV2 hV2 dd1 edt hdt pr1 pr2 pr3
    refine ⟨a, dx, _, rfl, gJ8 _ _ ha, a, _, _, _, rfl, qo.up gJ8, fun J9 ds k2 g9 hds eds dd2 => ?_⟩
    conv => whnf
    refine ⟨ds, k2, rfl, eds, fun od => ?_⟩
    conv => whnf
    have gds : Gr J8 (upd J9 ds (.frz od (.dK k2))) := fun b o e => by
      rw [upd_ne fun z => by rw [z, hds] at e; cases e]
      exact g9 _ _ e
    have ltZ : (srtZ (names ts) zs).length = k2.length := dd2.1.symm
    have few2 : k2.length ≤ 6 := by rw [dd2.1, show (srtZ (names ts) zs).length = (srt (names ts)).length from byName_len]; exact lnS
    have dd2z : DRel (RatS T.c_Ratio) (upd J9 ds (.frz od (.dK k2))) k2 (srtZ (names ts) zs) := dd2.mono fun v b r => RatS.off r eds (fun _ _ _ z => by cases z)
    refine ⟨ds, od, k2, rfl, upd_same, fun B2 hB2 => ?_⟩
    have efz := upd_same (H := J9) (a := ds) (o := .frz od (.dK k2))
    generalize upd J9 ds (.frz od (.dK k2)) = J10 at gds dd2z hB2 efz ⊢
    refine lc_prs (R := PQ) walk_items sta_PQ (srtZ (names ts) zs) hB2 ltZ (by omega) (fun _ g => g _ _ efz) (fun i x Hm H' t Qe E3 hi g y ht hq => ?_) (fun J11 ps4 kv4 g11 eB11 pp4 dd4 => ?_)
    · obtain ⟨T', y1, y2, rfl, hT, rfl, hy1, hy2⟩ := y
      simp only [Option.map_eq_some_iff] at hy1 hy2
      obtain ⟨kv, hkv, rfl⟩ := hy1
      obtain ⟨kv', hkv', rfl⟩ := hy2
      obtain rfl : kv = kv' := Option.some.inj (hkv.symm.trans hkv')
      obtain ⟨z, hzi, ek, rz⟩ := dd2z.at hkv
      obtain rfl : z = t := Option.some.inj (hzi.symm.trans ht)
      have gT := g.up (o := .tup [kV kv.1, kv.2]) hT
      have gT1 := Gr.rfl'.up (H := Hm) (o := .tup [kV kv.1, kv.2]) hT
      have rz2 := rz.up gT
      have eT := upd_same (H := Hm) (a := T') (o := .tup [kV kv.1, kv.2])
      rw [ek] at gT gT1 rz2 eT ⊢
      generalize upd Hm T' (.tup [kV (.inr z.1), kv.2]) = Hn at gT gT1 rz2 eT ⊢
      obtain ⟨a2, dx2, ea, ha2⟩ := id rz2
      conv => whnf
      refine ⟨T', _, rfl, SqT.of eT, rfl, ?_⟩
      conv => whnf
      refine ⟨_, _, rfl, ?_⟩
      conv => whnf
      refine ⟨_, _, rfl, ?_⟩
      conv => whnf
      refine ⟨rfl, ?_⟩
      conv => whnf
      refine ⟨rfl, ?_⟩
      conv => whnf
      refine ⟨a2, dx2, _, ea, ha2, .ref a2, _, _, rfl, ⟨a2, dx2, rfl, ha2⟩, fun x2 H3 g3 hx2 ex2 => ?_⟩
      conv => whnf
      refine ⟨small_ok (by simp), fun q hq' => ?_⟩
      have gq := Gr.rfl'.up (o := .tup [.str z.1, .ref x2]) hq'
      exact hq _ q (.ref x2) ((gT1.trans g3).trans gq) upd_same ⟨x2, rfl, gq _ _ ex2⟩
    conv => whnf
    have g811 : Gr J8 J11 := gds.trans g11
    have gJ11 := gJ8.trans g811
    have eN11 := g811 _ _ eN8
    have pl11 := pl0.up gJ11
    refine ⟨N, rfl, ⟨_, SqL.of eN11⟩, fun B3 hB3 => ?_⟩
    clear hP hD hkt hG hZ hkz
    obtain ⟨D, G, Z, kt, kzz, kp, hP, ⟨kpt, kpg, kps⟩, hD, hkt, hG, hZ, hkz, nPD, nPS, nDS⟩ := id pl11
    have lzS : (srtZ (names ts) zs).length = (srt (names ts)).length := byName_len
    refine lc_prs (R := PQ) (walk_list (xs := (srt (names ts)).map V.str)) sta_PQ (srtZ (names ts) zs) hB3 (by rw [List.length_map]; exact lzS) (by rw [List.length_map]; omega) (fun _ g => SqL.of (g _ _ eN11)) (fun i x Hm H' t Qe E3 hi g y ht hq => ?_) (fun J12 ps5 kv5 g12 eB12 pp5 dd5 => ?_)
    · obtain ⟨rfl, hx⟩ := y
      have hx2 : (srt (names ts))[i]? = some t.1 := byName_get ht
      rw [List.getElem?_map, hx2] at hx
      cases hx
      have tm := okp.permZ.mem_iff.mp (List.mem_of_getElem? ht)
      obtain ⟨v, hv, b, rfl, hb⟩ := hkz.get (lk_at okp.ndz tm)
      conv => whnf
      refine ⟨rfl, ?_⟩
      conv => whnf
      refine ⟨P, .ref Z, rfl, .inl ⟨kp, .inr "sizes", .inl (g _ _ hP), rfl, kps.symm⟩, ?_⟩
      conv => whnf
      refine ⟨Z, .ref b, rfl, .inl ⟨kzz, .inr t.1, .inl (g _ _ hZ), rfl, hv.symm⟩, ?_⟩
      conv => whnf
      refine ⟨small_ok (by simp), fun q hq' => ?_⟩
      have gq := Gr.rfl'.up (o := .tup [.str t.1, .ref b]) hq'
      exact hq _ q (.ref b) gq upd_same ⟨b, rfl, gq _ _ (g _ _ hb)⟩
    conv => whnf
    have dpz : Deep 3 (.list (sizesD (srtZ (names ts) zs))) := sizesD_deep fun z hz => by
      have h : z.1 ∈ names (srtZ (names ts) zs) := List.mem_map_of_mem hz
      rw [srtZ_names] at h
      exact (nmN z.1 h).asc
    refine ⟨.list (sizesD (srtZ (names ts) zs)), .list (sizesD (srtZ (names ts) zs)), .lst (SqL.of (g12 _ _ eB11)) (dp_sizes (pp4.mono fun p kv e => g12 _ _ e) (dd4.mono fun v b r => PQ.up r g12)), .lst (SqL.of eB12) (dp_sizes pp5 dd5), dpz.shaped (by decide), dpz.shaped (by decide), ?_⟩
    rw [SeqAt.eqv_refl _ dpz.1]
    refine ⟨_, rfl, ?_⟩
    refine brF ?_
    conv => whnf
    have g1112 : Gr J11 J12 := g12
    have gJ12 := gJ11.trans g12
    have eN12 := g12 _ _ eN11
    have eC12 : J12 C = some (.lst ((colsOf ts).map V.str)) := g12 _ _ (g811 _ _ (g8 _ _ (g7 _ _ (q6 _ _ (g65 _ _ eC6)))))
    have pl12 := pl0.up gJ12
    have qo12 := qo.up gJ12
    have ha12 := gJ12 _ _ ha
    clear hP hD hkt hG hZ hkz dd4 dd5 pp4 pp5 eB11 eB12 dpz efz dd2z dd2 gds
    obtain ⟨D, G, Z, kt, kzz, kp, hP, ⟨kpt, kpg, kps⟩, hD, hkt, hG, hZ, hkz, nPD, nPS, nDS⟩ := id pl12
    refine ⟨C, rfl, ⟨_, SqL.of eC12⟩, ?_⟩
    refine for_it (walk_list (xs := (colsOf ts).map V.str)) (fun i σ Hm => Gr J12 Hm ∧ ∃ (x6 : Option V), σ = [some (.ref a), some (.ref P), some (.ref N), some (.ref C), some (.ref W), some (.ref p6), x6, none, none, none, none, none]) ⟨Gr.rfl', _, rfl⟩ (fun _ _ _ _ L => SqL.of (L.1 _ _ eC12)) ?_ ?_
    · rintro i x σ Hm Hn hi ⟨gm, x6, rfl⟩ ⟨rfl, hx⟩
      rw [List.getElem?_map] at hx
      obtain ⟨z, hz, rfl⟩ := Option.map_eq_some_iff.mp hx
      have zc := List.mem_of_getElem? hz
      conv => whnf
      refine ⟨a, dx, _, rfl, gm _ _ ha12, rfl, ?_⟩
      conv => whnf
      refine ⟨a, z, _, _, _, rfl, qo12.up gm, by rw [cols_perm (srtT_perm okp.t.nd)]; exact zc, fun Ha pa ga hpa epa => ?_⟩
      conv => whnf
      have gma := gm.trans ga
      refine ⟨N, rfl, ⟨_, SqL.of (gma _ _ eN12)⟩, fun B4 hB4 => ?_⟩
      refine lc_it (walk_list (xs := (srt (names ts)).map V.str)) (fun j Hq => Gr Ha Hq ∧ Hq B4 = some (.lst ((withCol ((srtT ts).take j) z).map V.str))) ⟨Gr.rfl'.up hB4, upd_same⟩ (fun _ _ _ Lq => SqL.of (Lq.1 _ _ (gma _ _ eN12))) ?_ ?_
      · rintro j y Hq Hq' hj ⟨gq, eq⟩ ⟨rfl, hy⟩
        rw [List.getElem?_map] at hy
        obtain ⟨nm, hnm, rfl⟩ := Option.map_eq_some_iff.mp hy
        rw [List.length_map] at hj
        obtain ⟨t, ht⟩ : ∃ t, (srtT ts)[j]? = some t := ⟨_, List.getElem?_eq_getElem (by rw [ltS]; exact hj)⟩
        have ent : t.1 = nm := by have := byName_get ht; rw [hnm] at this; exact (Option.some.inj this).symm
        have tm := (srtT_perm okp.t.nd).mem_iff.mp (List.mem_of_getElem? ht)
        obtain ⟨v, hv, b, rfl, hb⟩ := hkt.get (lk_at okp.t.nd tm)
        rw [ent] at hv
        have gaq := gma.trans gq
        conv => whnf
        refine ⟨rfl, ?_⟩
        conv => whnf
        refine ⟨P, .ref D, rfl, .inl ⟨kp, .inr "tables", .inl (gaq _ _ hP), rfl, kpt.symm⟩, ?_⟩
        conv => whnf
        refine ⟨D, .ref b, rfl, .inl ⟨kt, .inr nm, .inl (gaq _ _ hD), rfl, hv.symm⟩, ?_⟩
        conv => whnf
        have ew : withCol ((srtT ts).take (j + 1)) z = withCol ((srtT ts).take j) z ++ if z ∈ t.2 then [t.1] else [] := by
          unfold withCol
          rw [List.take_add_one, ht, List.filter_append, List.map_append]
          congr 1
          by_cases h : z ∈ t.2
          · rw [if_pos h]; simp [h]
          · rw [if_neg h]; simp [h]
        have lw : (withCol ((srtT ts).take j) z).length ≤ j := by
          unfold withCol
          rw [List.length_map]
          exact Nat.le_trans (List.length_filter_le _ _) (by rw [List.length_take]; exact Nat.min_le_left _ _)
        refine ⟨b, _, rfl, .inl (SqL.of (gaq _ _ hb)), rfl, L2.flat_strs _, ?_⟩
        rw [show (if false = true then !inV (V.str z) (t.2.map V.str) else inV (V.str z) (t.2.map V.str)) = decide (z ∈ t.2) by rw [if_neg (by decide), inV_str]]
        refine ⟨_, rfl, ?_⟩
        by_cases h : z ∈ t.2
        · rw [if_pos h] at ew
          rw [if_pos (decide_eq_true h)]
          refine ⟨_, eq, small_lt (by rw [List.length_map]; omega), Gr.app hB4 gq, ?_⟩
          rw [upd_same, ew, List.map_append, ent]
          rfl
        · rw [if_neg h] at ew
          rw [if_neg (by rw [decide_eq_false h]; decide)]
          exact ⟨gq, by rw [ew, List.append_nil]; exact eq⟩
      rintro Hq ⟨gq, eq⟩
      rw [List.take_of_length_le (by rw [List.length_map]; omega)] at eq
      conv => whnf
      refine ⟨B4, _, rfl, .inl ⟨SqL.of eq, fun l hl => ?_⟩⟩
      have gl := Gr.rfl'.up (o := .tup ((withCol (srtT ts) z).map V.str)) hl
      have el := upd_same (H := Hq) (a := l) (o := .tup ((withCol (srtT ts) z).map V.str))
      generalize upd Hq l (.tup ((withCol (srtT ts) z).map V.str)) = Hr at gl el ⊢
      conv => whnf
      have wc : ∀ y ∈ withCol (srtT ts) z, Asc y := fun y hy => by
        obtain ⟨t, ht, rfl⟩ := List.mem_map.mp hy
        exact (okp.t.nm t ((srtT_perm okp.t.nd).mem_iff.mp (List.mem_filter.mp ht).1)).asc
      refine ⟨.tuple (txs (withCol (srtT ts) z)), .tuple (txs (withCol (srtT ts) z)), .tup (SqT.of (gl _ _ (gq _ _ epa))) (dp_txs _), .tup (SqT.of el) (dp_txs _), (deep_tup (deep_txs wc)).shaped (by decide), (deep_tup (deep_txs wc)).shaped (by decide), ?_⟩
      rw [eqv_tups, decide_eq_true rfl]
      refine ⟨_, rfl, ?_⟩
      refine brF ?_
      conv => whnf
      exact ⟨(gma.trans gq).trans gl, _, rfl⟩
    · rintro σ Hm ⟨gm, x6, rfl⟩
      conv => whnf
      refine ⟨_, (.inl (SqL.of (gm _ _ eN12))), ?_⟩
      conv => whnf
      refine ⟨(by rw [Int.natAbs_natCast, List.length_map]; exact Nat.lt_of_le_of_lt (log_of_le (k := 10) (by have h1 := okp.t.all; have h2 := okp.g.few; omega)) (by decide)), ?_⟩
      conv => whnf
      refine ⟨_, (.inl (SqL.of (gm _ _ eC12))), ?_⟩
      conv => whnf
      refine ⟨(by rw [Int.natAbs_natCast, List.length_map]; exact Nat.lt_of_le_of_lt (log_of_le (k := 10) (by have h1 := okp.t.all; have h2 := okp.g.few; omega)) (by decide)), ?_⟩
      conv => whnf
      refine ⟨(small_ok (by simp)), ?_⟩
      intro p1113 f1114
      have g1115 := Gr.rfl'.up (o := HO.lst [V.str ("question with"), V.str (Str.ofString (toString (↑(List.map V.str (srt (names ts))).length : Int))), V.str ("tables,"), V.str (Str.ofString (toString (↑(List.map V.str (colsOf ts)).length : Int))), V.str ("columns,")]) f1114
      have e1115 := upd_same (H := Hm) (a := p1113) (o := HO.lst [V.str ("question with"), V.str (Str.ofString (toString (↑(List.map V.str (srt (names ts))).length : Int))), V.str ("tables,"), V.str (Str.ofString (toString (↑(List.map V.str (colsOf ts)).length : Int))), V.str ("columns,")])
      generalize upd Hm p1113 (HO.lst [V.str ("question with"), V.str (Str.ofString (toString (↑(List.map V.str (srt (names ts))).length : Int))), V.str ("tables,"), V.str (Str.ofString (toString (↑(List.map V.str (colsOf ts)).length : Int))), V.str ("columns,")]) = J1115 at g1115 e1115 ⊢
      conv => whnf
      refine ⟨_, _, rfl, (.inl ⟨_, .inr ("groups"), .inl (g1115 _ _ (gm _ _ hP)), rfl, kpg.symm⟩), ?_⟩
      conv => whnf
      refine ⟨_, (.inl (SqL.of (g1115 _ _ (gm _ _ hG)))), ?_⟩
      conv => whnf
      refine ⟨(by rw [Int.natAbs_natCast, List.length_map]; exact Nat.lt_of_le_of_lt (log_of_le (k := 10) (by have h1 := okp.t.all; have h2 := okp.g.few; omega)) (by decide)), ?_⟩
      conv => whnf
      refine ⟨(small_ok (by simp)), ?_⟩
      intro p812 f813
      have g814 := Gr.rfl'.up (o := HO.lst [V.str (Str.ofString (toString (↑(List.map V.str gs).length : Int))), V.str ("groups")]) f813
      have e814 := upd_same (H := J1115) (a := p812) (o := HO.lst [V.str (Str.ofString (toString (↑(List.map V.str gs).length : Int))), V.str ("groups")])
      generalize upd J1115 p812 (HO.lst [V.str (Str.ofString (toString (↑(List.map V.str gs).length : Int))), V.str ("groups")]) = J814 at g814 e814 ⊢
      conv => whnf
      refine .inl ?_
      conv => whnf
      refine ⟨_, _, _, _, rfl, rfl, (g814 _ _ e1115), e814, (small_ok (by simp)), ?_⟩
      intro p815 f816
      have g817 := Gr.rfl'.up (o := HO.lst ([V.str ("question with"), V.str (Str.ofString (toString (↑(List.map V.str (srt (names ts))).length : Int))), V.str ("tables,"), V.str (Str.ofString (toString (↑(List.map V.str (colsOf ts)).length : Int))), V.str ("columns,")] ++ [V.str (Str.ofString (toString (↑(List.map V.str gs).length : Int))), V.str ("groups")])) f816
      have e817 := upd_same (H := J814) (a := p815) (o := HO.lst ([V.str ("question with"), V.str (Str.ofString (toString (↑(List.map V.str (srt (names ts))).length : Int))), V.str ("tables,"), V.str (Str.ofString (toString (↑(List.map V.str (colsOf ts)).length : Int))), V.str ("columns,")] ++ [V.str (Str.ofString (toString (↑(List.map V.str gs).length : Int))), V.str ("groups")]))
      generalize upd J814 p815 (HO.lst ([V.str ("question with"), V.str (Str.ofString (toString (↑(List.map V.str (srt (names ts))).length : Int))), V.str ("tables,"), V.str (Str.ofString (toString (↑(List.map V.str (colsOf ts)).length : Int))), V.str ("columns,")] ++ [V.str (Str.ofString (toString (↑(List.map V.str gs).length : Int))), V.str ("groups")])) = J817 at g817 e817 ⊢
      conv => whnf
      refine ⟨(by decide), ?_⟩
      intro p818 f819
      have g820 := Gr.rfl'.up (o := HO.tup []) f819
      have e820 := upd_same (H := J817) (a := p818) (o := HO.tup [])
      generalize upd J817 p818 (HO.tup []) = J820 at g820 e820 ⊢
      conv => whnf
      have lpos : 0 < (srt (names ts)).length := by rw [srt_len, show (names ts).length = ts.length from List.length_map _]; omega
      obtain ⟨n0, hn0⟩ : ∃ n0, (srt (names ts))[0]? = some n0 := ⟨_, List.getElem?_eq_getElem lpos⟩
      have at0 : atI ((srt (names ts)).map V.str) 0 = some (.str n0) := atI_nat (j := 0) (by rw [List.getElem?_map, hn0]; rfl)
      have nm0 := nmN n0 (List.mem_of_getElem? hn0)
      have ln0 : n0.length ≤ 8 := nm0.len
      have ln1 : n0.length + (Str.ofString " ").length ≤ sizeLine := small_ok (by have : (Str.ofString " ").length = 1 := rfl; omega)
      conv => whnf
      refine ⟨_, _, (.inl (SqL.of (g820 _ _ (g817 _ _ (g814 _ _ (g1115 _ _ (gm _ _ eN12))))))), at0, ?_⟩
      conv => whnf
      refine ⟨(small_ok (by simp)), ?_⟩
      intro p821 f822
      have g823 := Gr.rfl'.up (o := HO.tup [V.str n0]) f822
      have e823 := upd_same (H := J820) (a := p821) (o := HO.tup [V.str n0])
      generalize upd J820 p821 (HO.tup [V.str n0]) = J823 at g823 e823 ⊢
      conv => whnf
      refine ⟨_, _, (.inl (SqL.of (g823 _ _ (g820 _ _ (g817 _ _ (g814 _ _ (g1115 _ _ (gm _ _ eN12)))))))), at0, ?_⟩
      conv => whnf
      refine ⟨(small_ok (by simp)), ?_⟩
      intro p824 f825
      have g826 := Gr.rfl'.up (o := HO.lst [V.str n0]) f825
      have e826 := upd_same (H := J823) (a := p824) (o := HO.lst [V.str n0])
      generalize upd J823 p824 (HO.lst [V.str n0]) = J826 at g826 e826 ⊢
      conv => whnf
      refine ⟨_, _, (.inl (SqL.of (g826 _ _ (g823 _ _ (g820 _ _ (g817 _ _ (g814 _ _ (g1115 _ _ (gm _ _ eN12))))))))), at0, ?_⟩
      conv => whnf
      refine ⟨ln1, ?_⟩
      conv => whnf
      refine ⟨(small_ok (by simp)), ?_⟩
      intro p827 f828
      have g829 := Gr.rfl'.up (o := HO.lst [V.non, V.int 0, V.str (""), V.ref p818, V.str ("nobody"), V.ref p821, V.ref p824, V.str (n0 ++ " "), V.bl true, V.ref a]) f828
      have e829 := upd_same (H := J826) (a := p827) (o := HO.lst [V.non, V.int 0, V.str (""), V.ref p818, V.str ("nobody"), V.ref p821, V.ref p824, V.str (n0 ++ " "), V.bl true, V.ref a])
      generalize upd J826 p827 (HO.lst [V.non, V.int 0, V.str (""), V.ref p818, V.str ("nobody"), V.ref p821, V.ref p824, V.str (n0 ++ " "), V.bl true, V.ref a]) = J829 at g829 e829 ⊢
      conv => whnf
      refine ⟨_, _, (g829 _ _ (g826 _ _ (g823 _ _ (g820 _ _ (g817 _ _ (g814 _ _ (g1115 _ _ (gm _ _ ha12)))))))), ?_⟩
      conv => whnf
      refine ⟨_, _, _, _, rfl, (U.QO.up qo12 (((((((gm.trans g1115).trans g814).trans g817).trans g820).trans g823).trans g826).trans g829)), ⟨_, rfl⟩, ?_⟩
      conv => whnf
      refine ⟨rfl, ?_⟩
      conv => whnf
      have eW7 := g829 _ _ (g826 _ _ (g823 _ _ (g820 _ _ e817)))
      simp only [List.length_map, srt_len] at eW7
      rw [show (names ts).length = ts.length from List.length_map _] at eW7
      refine ⟨_, p815, ["question with", Str.ofString (toString (ts.length : Int)), "tables,", Str.ofString (toString ((colsOf ts).length : Int)), "columns,", Str.ofString (toString (gs.length : Int)), "groups"], rfl, rfl, .inl (SqL.of eW7), ?_, ?_⟩
      · have l1 := num_short (n := (ts.length : Int)) (by rw [Int.natAbs_natCast]; exact Nat.lt_of_le_of_lt few.2 (by decide))
        have l2 := num_short (n := ((colsOf ts).length : Int)) (by rw [Int.natAbs_natCast]; exact Nat.lt_of_le_of_lt okp.t.all (by decide))
        have l3 := num_short (n := (gs.length : Int)) (by rw [Int.natAbs_natCast]; exact Nat.lt_of_le_of_lt okp.g.few (by decide))
        show 13 + ((Str.ofString (toString (ts.length : Int))).length + (7 + ((Str.ofString (toString ((colsOf ts).length : Int))).length + (8 + ((Str.ofString (toString (gs.length : Int))).length + (6 + 0)))))) + 7 * 1 ≤ 16777216
        omega
      rw [words_join, lts, cols_perm (srtT_perm okp.t.nd)]
      conv => whnf
      refine ⟨_, rfl, ?_⟩
      conv => whnf
      refine brN (by rw [decide_eq_true rfl]; rfl) ?_
      conv => whnf
      refine ⟨_, rfl, ⟨_, (SqL.of e829)⟩, ?_⟩
      conv => whnf
      intro p830 f831
      have nb : ("nobody" : Str) ∉ names (srtT ts) := fun h => by
        rw [srtT_names] at h
        have h2 : ("nobody" : Str) ∉ namesC := by decide
        exact h2 (inC _ ((srt_perm _).mem_iff.mp h))
      have oddOk : ∀ x ∈ [V.non, V.int 0, V.str "", V.ref p818, V.str "nobody", V.ref p821, V.ref p824, V.str (n0 ++ " "), V.bl true, V.ref a], (∃ S, KdO K J829 x S) ∧ (∀ z, x = .str z → z.length ≤ 1000) ∧ hasNm (srtT ts) x = false := by
        intro x hx
        simp only [List.mem_cons, List.not_mem_nil, or_false] at hx
        rcases hx with rfl | rfl | rfl | rfl | rfl | rfl | rfl | rfl | rfl | rfl
        · exact ⟨⟨_, .inl .non⟩, fun z e => (by cases e), hasNm_not rfl⟩
        · exact ⟨⟨_, .inl (.int _)⟩, fun z e => (by cases e), hasNm_not rfl⟩
        · exact ⟨⟨_, .inl (.str _)⟩, fun z e => (by cases e; decide), hasNm_not (by decide)⟩
        · exact ⟨⟨_, .inl (.tup (g829 _ _ (g826 _ _ (g823 _ _ e820))))⟩, fun z e => (by cases e), hasNm_not rfl⟩
        · exact ⟨⟨_, .inl (.str _)⟩, fun z e => (by cases e; decide), hasNm_out nb⟩
        · exact ⟨⟨_, .inl (.tup (g829 _ _ (g826 _ _ e823)))⟩, fun z e => (by cases e), hasNm_not rfl⟩
        · exact ⟨⟨_, .inl (.lst (g829 _ _ e826))⟩, fun z e => (by cases e), hasNm_not rfl⟩
        · exact ⟨⟨_, .inl (.str _)⟩, fun z e => (by cases e; rw [app_len]; have : (" " : Str).length = 1 := rfl; omega), hasNm_not (isNameV_sp _)⟩
        · exact ⟨⟨_, .inl (.bl _)⟩, fun z e => (by cases e), hasNm_not rfl⟩
        · exact ⟨⟨_, .inr ⟨rfl, a, _, _, _, rfl, g829 _ _ (g826 _ _ (g823 _ _ (g820 _ _ (g817 _ _ (g814 _ _ (g1115 _ _ (gm _ _ ha12))))))), T.o_Question, T.nstr_Question⟩⟩, fun z e => (by cases e), hasNm_not rfl⟩
      have qoJ := qo12.up (((((((gm.trans g1115).trans g814).trans g817).trans g820).trans g823).trans g826).trans g829)
      have haJ := (((((((gm.trans g1115).trans g814).trans g817).trans g820).trans g823).trans g826).trans g829) _ _ ha12
      refine lc_it (walk_list (xs := [V.non, V.int 0, V.str "", V.ref p818, V.str "nobody", V.ref p821, V.ref p824, V.str (n0 ++ " "), V.bl true, V.ref a])) (fun _ Hq => Gr J829 Hq ∧ Hq p830 = some (.lst [])) ⟨Gr.rfl'.up f831, upd_same⟩ (fun _ _ _ Lq => SqL.of (Lq.1 _ _ e829)) ?_ ?_
      · rintro j x Hq Hq' hj ⟨gq, eq⟩ ⟨rfl, hx⟩
        obtain ⟨⟨S, kd⟩, ln, hn⟩ := oddOk x (List.mem_of_getElem? hx)
        conv => whnf
        refine ⟨rfl, ?_⟩
        conv => whnf
        refine ⟨_, _, _, rfl, (gq _ _ haJ), ?_⟩
        conv => whnf
        refine ⟨_, _, _, _, _, _, rfl, (U.QO.up qoJ gq), (U.KdO.up kd gq), ln, ?_⟩
        intro J832 g833
        refine ⟨_, rfl, _, rfl, ?_⟩
        rw [hn, if_neg (by decide)]
        exact ⟨gq.trans g833, g833 _ _ eq⟩
      rintro Hq ⟨gq, eq⟩
      conv => whnf
      refine ⟨(by decide), ?_⟩
      intro p832 f833
      have g834 := Gr.rfl'.up (o := HO.lst []) f833
      have e834 := upd_same (H := Hq) (a := p832) (o := HO.lst [])
      generalize upd Hq p832 (HO.lst []) = J834 at g834 e834 ⊢
      conv => whnf
      refine ⟨_, _, (.lst (SqL.of (g834 _ _ eq)) .nil), (.lst (SqL.of e834) .nil), rfl, rfl, _, rfl, ?_⟩
      conv => whnf
      refine brF ?_
      conv => whnf
      refine ⟨_, rfl, ⟨_, (SqL.of (g834 _ _ (gq _ _ (g829 _ _ (g826 _ _ (g823 _ _ (g820 _ _ (g817 _ _ (g814 _ _ (g1115 _ _ (gm _ _ eN12)))))))))))⟩, ?_⟩
      conv => whnf
      intro p835 f836
      have gJe := (((((((gm.trans g1115).trans g814).trans g817).trans g820).trans g823).trans g826).trans g829).trans (Gr.trans gq g834)
      have qoE := qo12.up gJe
      have eNE := gJe _ _ eN12
      have haE := gJe _ _ ha12
      refine lc_it (walk_list (xs := (srt (names ts)).map V.str)) (fun _ Hr => Gr J834 Hr ∧ Hr p835 = some (.lst [])) ⟨Gr.rfl'.up f836, upd_same⟩ (fun _ _ _ Lq => SqL.of (Lq.1 _ _ eNE)) ?_ ?_
      · rintro j x Hr Hr' hj ⟨gr, er⟩ ⟨rfl, hx⟩
        rw [List.getElem?_map] at hx
        obtain ⟨nm, hnm, rfl⟩ := Option.map_eq_some_iff.mp hx
        have nmm := nmN nm (List.mem_of_getElem? hnm)
        have hn : hasNm (srtT ts) (.str nm) = true := by
          unfold hasNm
          rw [show isNameV (.str nm) = true from nmm, Bool.true_and]
          exact decide_eq_true (by rw [srtT_names]; exact List.mem_of_getElem? hnm)
        conv => whnf
        refine ⟨rfl, ?_⟩
        conv => whnf
        refine ⟨_, _, _, rfl, (gr _ _ haE), ?_⟩
        conv => whnf
        refine ⟨_, _, _, _, _, _, rfl, (U.QO.up qoE gr), .inl (.str _), fun z e => (by cases e; have := nmm.len; omega), ?_⟩
        intro J838 g838
        refine ⟨_, rfl, _, rfl, ?_⟩
        rw [hn, if_pos rfl]
        show Gr J834 J838 ∧ J838 p835 = some (.lst [])
        exact ⟨gr.trans g838, g838 _ _ er⟩
      rintro Hr ⟨gr, er⟩
      conv => whnf
      refine ⟨(by decide), ?_⟩
      intro p837 f838
      have g839 := Gr.rfl'.up (o := HO.lst []) f838
      have e839 := upd_same (H := Hr) (a := p837) (o := HO.lst [])
      generalize upd Hr p837 (HO.lst []) = J839 at g839 e839 ⊢
      conv => whnf
      refine ⟨_, _, (.lst (SqL.of (g839 _ _ er)) .nil), (.lst (SqL.of e839) .nil), rfl, rfl, ?_⟩
      conv => whnf
      exact k _ (((gJ12.trans gJe).trans gr).trans g839)
def sp__law_copy (K : PySem.W.Frag) : Sp := fun vs H Q _ => ∃ (P : Addr) (ts : List (Str × List Str)) (gs : List Str) (zs : List (Str × (Nat × Nat))), vs = [.ref P] ∧ PlainQ H P ts gs zs ∧ OKP ts gs zs ∧
  ∀ (H' : Hp) (F D G S : Addr), Gr H H' → PlainN H H' F D G S ts gs zs → Q (.ref F) H'
theorem ok__law_copy (T : Txt K mg) : FnOk P w K mg base CX0 1 T.a__law_copy T.d__law_copy ["_law_plain_here"] (sp__law_copy K) := by
  refine T.F__law_copy.ok sc__law_copy (fun vs H Q E h => ?_) (fun cdv A outer s H vs Q E hr h => ?_)
  · obtain ⟨P, ts, gs, zs, rfl, _⟩ := h; rfl
  · obtain ⟨P, ts, gs, zs, rfl, ⟨D, G, S, kt, kz, kp, hP, ⟨kpt, kpg, kps⟩, hD, hkt, hG, hS, hkz, nPD, nPS, nDS⟩, okp, k⟩ := h
    refine ⟨_, (pss_cons (ps_set (i := 1) sc__law_copy.nd rfl (by first | exact Or.inl rfl | exact Or.inr rfl) (pe_callTy (call_dictP rfl) (by rfl) T.b_dict (by decide +kernel) (pa_cons (pe_lock (pe_lc (own := [("_law_name", 2)]) (g := (gName 2)) (tt := tYes) (te := (tTup (tCons (uV 2) (tCons (tCB (rListOf K) (tCons (tDGet (tDGet (uV 0) (tC (.str "tables"))) (uV 2)) tNil)) tNil)))) rfl sc__law_copy.nd (pi_keys (pe_dget (hu1 (hu64 hr)) (pev 0) pe_str (fun _ _ => rfl))) (blkOk_by (own := [("_law_name", 2)]) (N := ["_law_plain_here", "_law_tables", "_law_name"]) (sc := defScope s__law_copy) (by decide +kernel)) (fun _ _ _ _ _ => pg_name (i := 2) sc__law_copy.nd rfl (by first | exact Or.inl rfl | exact Or.inr rfl)) (fun _ _ _ _ _ => pts_nil) (fun _ _ _ _ _ => (pe_tup (pa_cons (pev 2) (pa_cons (pe_callTy caListOf (by rfl) T.b_list (by decide +kernel) (pa_cons (pe_dget (hu1 (hu64 hr)) (pe_dget (hu1 (hu64 hr)) (pev 0) pe_str (fun _ _ => rfl)) (pev 2) (fun _ _ => rfl)) pa_nil)) pa_nil)))))) pa_nil)))
        (pss_one (ps_ret (pe_disp (pps_cons pe_str (pev 1) (pps_cons pe_str (pe_callTy call_list_of (by rfl) T.b_list (by decide +kernel) (pa_cons (pe_dget (hu1 (hu64 hr)) (pev 0) pe_str (fun _ _ => rfl)) pa_nil)) (pps_cons pe_str (pe_callTy (call_dictP rfl) (by rfl) T.b_dict (by decide +kernel) (pa_cons (LiI.pe_listItems rfl (pe_dget (hu1 (hu64 hr)) (pev 0) pe_str (fun _ _ => rfl)) (by rfl) T.b_list (by decide +kernel)) pa_nil)) pps_nil))) (by rfl) (by rfl) (fun z => by cases z) (by decide))))), ?_⟩
    have ok := okp.t
    have few := ok.few
    have lk1 := hkt.1
    conv => whnf
    refine ⟨D, _, hD, trivial, fun od => ?_⟩
    conv => whnf
    have hP1 : (upd H D (.frz od (.dK kt))) P = some (.dK kp) := by rw [upd_ne nPD]; exact hP
    have hkt1 : DRel LstS (upd H D (.frz od (.dK kt))) kt ts := hkt.mono fun v b r => LstS.off r hD (fun _ z => by cases z)
    refine ⟨P, .ref D, rfl, .inl ⟨kp, .inr "tables", .inl hP1, rfl, kpt.symm⟩, D, od, rfl, .inl ⟨kt, upd_same, fun B hB => ?_⟩⟩
    refine lc_prsKL (R := LstN B) walk_keys staD_lst lstN_offd ts hD hB hkt.1.symm (by omega) (fun _ g => g _ _ upd_same) (fun i x Hm H' t Q E3 hi g ⟨L, eL⟩ y ht hq => ?_) (fun H1 ps kvs g1 hBn e1 pp1 dd1 => ?_)
    · obtain ⟨rfl, k', v', hkv, rfl⟩ := y
      obtain ⟨t', ht', e1, _⟩ := hkt.at hkv
      obtain rfl : t = t' := Option.some.inj (ht.symm.trans ht')
      have e1 : k' = .inr t.1 := e1
      subst e1
      obtain ⟨v, hv, b, rfl, hb⟩ := (hkt1.mono fun v b r => LstS.up r g).get (lk_at ok.nd (List.mem_of_getElem? ht))
      conv => whnf
      refine ⟨rfl, ?_⟩
      conv => whnf
      refine ⟨P, .ref D, rfl, .inl ⟨kp, .inr "tables", .inl (g _ _ hP1), rfl, kpt.symm⟩, ?_⟩
      conv => whnf
      refine ⟨D, .ref b, rfl, .inl ⟨kt, .inr t.1, .inr ⟨od, g _ _ upd_same⟩, rfl, hv.symm⟩, ?_⟩
      conv => whnf
      refine ⟨b, _, rfl, .inl (SqL.of hb), fun l hl => ?_⟩
      conv => whnf
      refine ⟨small_ok (by simp), fun q hq' => ?_⟩
      conv => whnf
      have gl := (Gr.rfl'.up (o := .lst (t.2.map V.str)) hl).up (o := .tup [kV (.inr t.1), .ref l]) hq'
      have nlB : l ≠ B := fun z => by rw [z, eL] at hl; cases hl
      have nlq : l ≠ q := fun z => by rw [← z, upd_same] at hq'; cases hq'
      exact hq _ q (.ref l) gl upd_same ⟨l, rfl, nlB, by rw [upd_ne nlq, upd_same]⟩
    conv => whnf
    refine ⟨B, ps, kvs, rfl, SqL.of e1, pp1.mono fun p kv e => SqT.of e, fun D2 hD2 => ?_⟩
    rw [merge_nil dd1 ok.nd]
    have g2 := g1.up (o := .dK kvs) hD2
    have e2 := upd_same (H := H1) (a := D2) (o := .dK kvs)
    have d2 : DRel LstS (upd H1 D2 (.dK kvs)) kvs ts := dd1.mono fun v b r => LstS.up r.lst (Gr.rfl'.up (o := .dK kvs) hD2)
    have hD2n : H D2 = none := g1.free' hD2
    generalize upd H1 D2 (.dK kvs) = H2 at g2 e2 d2 ⊢
    conv => whnf
    intro F hF
    have hFn : H F = none := g2.free' hF
    have g3 := g2.up (o := .dK []) hF
    have eF := upd_same (H := H2) (a := F) (o := .dK [])
    have nFD : F ≠ D2 := fun z => by rw [z, e2] at hF; cases hF
    have e3 := Gr.rfl'.up (o := .dK []) hF _ _ e2
    have d3 := d2.mono fun v b r => LstS.up r (Gr.rfl'.up (o := .dK []) hF)
    generalize upd H2 F (.dK []) = H3 at g3 eF e3 d3 ⊢
    conv => whnf
    refine ⟨P, .ref G, rfl, .inl ⟨kp, .inr "groups", .inl (g3 _ _ hP), rfl, kpg.symm⟩, ?_⟩
    conv => whnf
    refine ⟨G, _, rfl, .inl (SqL.of (g3 _ _ hG)), fun G2 hG2 => ?_⟩
    have g4 := g3.up (o := .lst (gs.map V.str)) hG2
    have eG2 := upd_same (H := H3) (a := G2) (o := .lst (gs.map V.str))
    have eF4 := Gr.rfl'.up (o := .lst (gs.map V.str)) hG2 _ _ eF
    have e4 := Gr.rfl'.up (o := .lst (gs.map V.str)) hG2 _ _ e3
    have d4 := d3.mono fun v b r => LstS.up r (Gr.rfl'.up (o := .lst (gs.map V.str)) hG2)
    generalize upd H3 G2 (.lst (gs.map V.str)) = H4 at g4 eG2 eF4 e4 d4 ⊢
    conv => whnf
    refine ⟨P, .ref S, rfl, .inl ⟨kp, .inr "sizes", .inl (g4 _ _ hP), rfl, kps.symm⟩, ?_⟩
    conv => whnf
    refine ⟨S, kz, rfl, g4 _ _ hS, fun H5 p5 ts5 g5 hp5 hts5 np5 ep5 pp5 => ?_⟩
    conv => whnf
    refine ⟨p5, ts5, kz, rfl, SqL.of ep5, pp5.mono fun p kv e => SqT.of e, fun S2 hS2 => ?_⟩
    have ndz : (names zs).Nodup := by rw [okp.nz]; exact ok.nd
    have g5 : Gr H4 H5 := g5
    have G5 := g4.trans g5
    have z5 : DRel PQ H5 kz zs := hkz.mono fun v b r => PQ.up r G5
    rw [merge_nil z5 ndz]
    have hS2n : H S2 = none := G5.free' hS2
    have g6 := G5.up (o := .dK kz) hS2
    have gs6 := g5.up (o := .dK kz) hS2
    have eS2 := upd_same (H := H5) (a := S2) (o := .dK kz)
    have z6 := z5.mono fun v b r => PQ.up r (Gr.rfl'.up (o := .dK kz) hS2)
    have eF6 := gs6 _ _ eF4
    have e6 := gs6 _ _ e4
    have eG6 := gs6 _ _ eG2
    have d6 := d4.mono fun v b r => LstS.up r gs6
    have nFS : F ≠ S2 := fun z => by rw [← z, g5 _ _ eF4] at hS2; cases hS2
    have nDS' : D2 ≠ S2 := fun z => by rw [← z, g5 _ _ e4] at hS2; cases hS2
    generalize upd H5 S2 (.dK kz) = H6 at g6 eS2 z6 eF6 e6 eG6 d6 ⊢
    conv => whnf
    refine ⟨eF6, plk D2 G2 S2, rfl, by show 3 ≤ 15; decide, ?_⟩
    rw [show mergeK [] (plk D2 G2 S2) = plk D2 G2 S2 from merge_nil (R := fun _ _ _ => True) (H := H) (ts := [("tables", ()), ("groups", ()), ("sizes", ())]) (.add rfl trivial (.add rfl trivial (.add rfl trivial .nil))) (by decide)]
    refine k _ F D2 G2 S2 (Gr.app hFn g6) ⟨kvs, kz, upd_same, by rw [upd_ne nFD.symm]; exact e6, d6.mono fun v b r => LstS.off r eF6 (fun _ z => by cases z), ?_, by rw [upd_ne nFS.symm]; exact eS2, z6.mono fun v b r => PQ.off r eF6 (fun _ z => by cases z), ⟨nFD, nFS, nDS'⟩, hFn, hD2n, hS2n⟩
    rw [upd_ne fun z => by rw [z, eF6] at eG6; cases eG6]
    exact eG6
def sp__law_pick (K : PySem.W.Frag) : Sp := fun vs H Q _ => ∃ (d : Addr) (n : Nat) (o : HO) (x : V) (L : List V), vs = [.ref d, x] ∧ H d = some o ∧ Dice n o ∧ n ≤ 1000000 ∧ PickOf K H d x L ∧ 0 < L.length ∧ L.length ≤ 100000 ∧
  ∀ (H' : Hp) (r : V) (o' : HO), (∀ b u, H b = some u → b ≠ d → H' b = some u) → H' d = some o' → Dice (n + 1) o' → r ∈ L → Q r H'
theorem ok__law_pick (T : Txt K mg) : FnOk P w K mg base CX0 2 T.a__law_pick T.d__law_pick ["_law_dice_here", "_law_items"] (sp__law_pick K) := by
  refine T.F__law_pick.ok sc__law_pick (fun vs H Q E h => ?_) (fun cdv A outer s H vs Q E hr h => ?_)
  · obtain ⟨d, n, o, x, L, rfl, _⟩ := h; rfl
  · obtain ⟨d, n, o, x, L, rfl, hd, D, hn, hp, l0, l1, k⟩ := h
    refine ⟨_, (pss_one (ps_ret (pe_ix ixU (pev 1) (pe_call (ok__law_roll T) (hr.mono (by decide)) (by rfl) T.g__law_roll T.F__law_roll.kp T.B__law_roll .nil pass0 (pa_cons (pev 0) (pa_cons (pe_callB caLen (by rfl) T.b_len (by decide +kernel) (pa_cons (pev 1) pa_nil)) pa_nil))) (fun _ _ => rfl)))), ?_⟩
    rcases hp with ⟨z, rfl, hz, rfl⟩ | ⟨p, rfl, ne, hp⟩
    · have el : z.length = z.cps.toList.length := by simp [Str.length]
      rw [List.length_map] at l0 l1
      conv => whnf
      refine ⟨small_ok (by omega), ?_⟩
      conv => whnf
      refine ⟨d, n, _, o, rfl, hd, D, hn, by omega, Int.lt_of_le_of_lt (show ((z.length : Nat) : Int) ≤ 100000 by omega) (by decide), fun H1 r o1 f1 g1 D1 r0 r1 => ?_⟩
      conv => whnf
      obtain ⟨c, hc, ec⟩ := atI_lt (xs := z.cps.toList) r0 (by omega)
      exact ⟨small_ok (by omega), c, ec, k _ _ _ f1 g1 D1 (List.mem_map.mpr ⟨c, hc, rfl⟩)⟩
    · conv => whnf
      refine ⟨L, hp, ?_⟩
      conv => whnf
      refine ⟨d, n, _, o, rfl, hd, D, hn, by omega, Int.lt_of_le_of_lt (show ((L.length : Nat) : Int) ≤ 100000 by omega) (by decide), fun H1 r o1 f1 g1 D1 r0 r1 => ?_⟩
      conv => whnf
      obtain ⟨v, hv, ev⟩ := atI_lt (xs := L) r0 r1
      exact ⟨L, v, hp.elim (fun q => .inl (sqlKeep f1 ne q)) (fun q => .inr (sqtKeep f1 ne q)), ev, k _ _ _ f1 g1 D1 hv⟩
theorem plainN_new {H0 H : Hp} {F D G S : Addr} {ts : List (Str × List Str)} {gs : List Str} {zs : List (Str × (Nat × Nat))} (h : PlainN H0 H F D G S ts gs zs) : H0 F = none := by
  obtain ⟨_, _, _, _, _, _, _, _, _, h, _⟩ := h
  exact h
theorem plainN_putG {H0 H : Hp} {F D G S q : Addr} {ts : List (Str × List Str)} {gs gs' : List Str} {zs : List (Str × (Nat × Nat))} (h : PlainN H0 H F D G S ts gs zs) (hq : H q = some (.lst (gs'.map V.str))) : PlainN H0 (upd H F (.dK (plk D q S))) F D q S ts gs' zs := by
  obtain ⟨kt, kz, hF, hD, dt, hG, hS, dz, ⟨n1, n2, n3⟩, r⟩ := h
  have nq : q ≠ F := fun z => by rw [z, hF] at hq; cases hq
  exact ⟨kt, kz, upd_same, by rw [upd_ne n1.symm]; exact hD, dt.mono fun v b r => LstS.off r hF (fun _ z => by cases z), by rw [upd_ne nq]; exact hq, by rw [upd_ne n2.symm]; exact hS, dz.mono fun v b r => PQ.off r hF (fun _ z => by cases z), ⟨n1, n2, n3⟩, r⟩
theorem okp_groups {ts : List (Str × List Str)} {gs gs' : List Str} {zs : List (Str × (Nat × Nat))} (o : OKP ts gs zs) (s : gs'.Sublist (colsOf ts)) : OKP ts gs' zs := by
  have u : Up (colsOf ts) := dist_up _
  have h : ∀ z ∈ gs', z ∈ colsOf ts := fun z hz => s.subset hz
  exact ⟨o.t, ⟨List.Pairwise.sublist s u, fun z hz => by obtain ⟨t, ht, k⟩ := cols_mem.mp (h z hz); exact (o.t.cols t ht).2.2 z k, h, Nat.le_trans s.length_le o.t.all⟩, o.z, o.nz, o.low⟩
theorem okz_put {ns : List Str} {zs : List (Str × (Nat × Nat))} {x : Str} {r : Nat × Nat} (oz : OKZ ns zs) (hx : x ∈ names zs) (hn : x ∈ ns) (hb : 1 ≤ r.2 ∧ r.2 ≤ 60 ∧ r.1 ≤ 9 * r.2) : OKZ ns (putA zs x r) := by
  have e : putA zs x r = zs.map (fun t => if t.1 = x then (t.1, r) else t) := by unfold putA; rw [if_pos (any_name.mpr hx)]
  rw [e]
  refine ⟨by rw [List.length_map]; exact oz.few, fun z hz => ?_, fun z hz => ?_⟩
  · obtain ⟨y, hy, rfl⟩ := List.mem_map.mp hz
    have := oz.has y hy
    split <;> exact this
  · obtain ⟨y, hy, rfl⟩ := List.mem_map.mp hz
    split
    · exact hb
    · exact oz.let_ y hy
theorem wp_size {ts : List (Str × List Str)} {gs : List Str} {zs : List (Str × (Nat × Nat))} {x : Str} {r : Nat × Nat} (o : OKP ts gs zs) (hx : x ∈ names ts) (hb : 1 ≤ r.2 ∧ r.2 ≤ 60 ∧ r.1 ≤ 9 * r.2) (hl : Nat.gcd r.1 r.2 = 1) : WP ts gs (putA zs x r) := by
  have hz : x ∈ names zs := by rw [o.nz]; exact hx
  refine ⟨o.t.wt, o.g.wg, okz_put o.z hz hx hb, by rw [putA_names_in hz, o.nz], fun z hz' => ?_⟩
  have e : putA zs x r = zs.map (fun t => if t.1 = x then (t.1, r) else t) := by unfold putA; rw [if_pos (any_name.mpr hz)]
  rw [e] at hz'
  obtain ⟨y, hy, rfl⟩ := List.mem_map.mp hz'
  split
  · exact hl
  · exact o.low y hy
def threeP : List (Nat × Nat) := [(1, 1), (2, 1), (1, 2)]
theorem threeP_ok : ∀ r ∈ threeP, (1 ≤ r.2 ∧ r.2 ≤ 60 ∧ r.1 ≤ 9 * r.2) ∧ Nat.gcd r.1 r.2 = 1 := by decide +kernel
def threeC : List Str := ["a", "c", "zz"]
theorem threeC_nm : ∀ z ∈ threeC, Nm z := by
  have h : threeC.all nmB = true := by decide +kernel
  exact fun z hz => List.all_eq_true.mp h z hz
theorem okp_size {ts : List (Str × List Str)} {gs : List Str} {zs : List (Str × (Nat × Nat))} {x : Str} {r : Nat × Nat} (o : OKP ts gs zs) (hx : x ∈ names ts) (hb : 1 ≤ r.2 ∧ r.2 ≤ 60 ∧ r.1 ≤ 9 * r.2) (hl : Nat.gcd r.1 r.2 = 1) : OKP ts gs (putA zs x r) :=
  have w := wp_size o hx hb hl
  ⟨o.t, o.g, w.z, w.nz, w.low⟩
theorem okp_more {ts : List (Str × List Str)} {gs cs : List Str} {zs : List (Str × (Nat × Nat))} {x z : Str} (o : OKP ts gs zs) (hx : lk ts x = some cs) (l3 : cs.length ≤ 3) (l7 : (colsOf ts).length ≤ 7) (nz : Nm z) : OKP (putA ts x (dist (cs ++ [z]))) gs zs := by
  have hm := lk_mem hx
  have hn : x ∈ names ts := List.mem_map_of_mem hm
  have nms : names (putA ts x (dist (cs ++ [z]))) = names ts := putA_names_in hn
  have e : putA ts x (dist (cs ++ [z])) = ts.map (fun t => if t.1 = x then (t.1, dist (cs ++ [z])) else t) := by unfold putA; rw [if_pos (any_name.mpr hn)]
  obtain ⟨c0, cu, cn⟩ := o.t.cols _ hm
  have up : Up (dist (cs ++ [z])) := dist_up _
  have nm : ∀ y ∈ dist (cs ++ [z]), Nm y := fun y hy => by
    rcases List.mem_append.mp ((dist_mem _ _).mp hy) with h | h
    · exact cn y h
    · obtain rfl := List.mem_singleton.mp h
      exact nz
  have zin : z ∈ dist (cs ++ [z]) := (dist_mem _ _).mpr (List.mem_append_right _ (List.mem_singleton_self z))
  have ln : 1 ≤ (dist (cs ++ [z])).length ∧ (dist (cs ++ [z])).length ≤ 6 := by
    have h := sub_len up.nodup fun y hy => (dist_mem _ _).mp hy
    rw [List.length_append] at h
    have h : (dist (cs ++ [z])).length ≤ cs.length + 1 := h
    have h2 := List.length_pos_of_mem zin
    omega
  have cols : ∀ t ∈ putA ts x (dist (cs ++ [z])), (1 ≤ t.2.length ∧ t.2.length ≤ 6) ∧ Up t.2 ∧ ∀ y ∈ t.2, Nm y := fun t ht => by
    rw [e] at ht
    obtain ⟨u, hu, rfl⟩ := List.mem_map.mp ht
    split
    · exact ⟨ln, up, nm⟩
    · exact o.t.cols u hu
  have sub : ∀ y ∈ colsOf ts, y ∈ colsOf (putA ts x (dist (cs ++ [z]))) := fun y hy => by
    obtain ⟨t, ht, hy⟩ := cols_mem.mp hy
    refine cols_mem.mpr ?_
    rw [e]
    by_cases h : t.1 = x
    · refine ⟨_, List.mem_map_of_mem ht, ?_⟩
      rw [if_pos h]
      have : some t.2 = some cs := by rw [← lk_at o.t.nd ht, h, hx]
      rw [Option.some.inj this] at hy
      exact (dist_mem _ _).mpr (List.mem_append_left _ hy)
    · exact ⟨_, List.mem_map_of_mem ht, by rw [if_neg h]; exact hy⟩
  have all : (colsOf (putA ts x (dist (cs ++ [z])))).length ≤ 8 := by
    have h := sub_len (show (colsOf (putA ts x (dist (cs ++ [z])))).Nodup from (dist_up _).nodup) (ys := z :: colsOf ts) fun y hy => by
      obtain ⟨t, ht, hy⟩ := cols_mem.mp hy
      rw [e] at ht
      obtain ⟨u, hu, rfl⟩ := List.mem_map.mp ht
      split at hy
      · rcases List.mem_append.mp ((dist_mem _ _).mp hy) with h | h
        · exact List.mem_cons_of_mem _ (cols_mem.mpr ⟨_, hm, h⟩)
        · obtain rfl := List.mem_singleton.mp h
          exact List.mem_cons_self
      · exact List.mem_cons_of_mem _ (cols_mem.mpr ⟨u, hu, hy⟩)
    rw [List.length_cons] at h
    omega
  have lt : (putA ts x (dist (cs ++ [z]))).length = ts.length := by rw [e, List.length_map]
  refine ⟨⟨by rw [lt]; exact o.t.few, by rw [nms]; exact o.t.nd, fun t ht => ?_, cols, all⟩, ⟨o.g.up, o.g.nm, fun y hy => sub y (o.g.has y hy), o.g.few⟩, ⟨o.z.few, fun y hy => by rw [nms]; exact o.z.has y hy, o.z.let_⟩, by rw [nms]; exact o.nz, o.low⟩
  rw [e] at ht
  obtain ⟨u, hu, rfl⟩ := List.mem_map.mp ht
  split
  · exact o.t.nm u hu
  · exact o.t.nm u hu
def sp__law_other (K : PySem.W.Frag) : Sp := fun vs H Q _ => ∃ (d P : Addr) (n : Nat) (o : HO) (ts : List (Str × List Str)) (gs : List Str) (zs : List (Str × (Nat × Nat))), vs = [.ref d, .ref P] ∧ H d = some o ∧ Dice n o ∧ n ≤ 800000 ∧ PlainQ H P ts gs zs ∧ OKP ts gs zs ∧ (∀ t ∈ ts, t.2.length ≤ 3) ∧ (colsOf ts).length ≤ 7 ∧
  ∀ (H' : Hp) (F : Addr) (o' : HO) (ts' : List (Str × List Str)) (gs' : List Str) (zs' : List (Str × (Nat × Nat))), Kp d H H' → H' d = some o' → Dice (n + 30) o' → PlainQ H' F ts' gs' zs' → OKP ts' gs' zs' → names ts' = names ts → Q (.ref F) H'
theorem ok__law_other (T : Txt K mg) : FnOk P w K mg base CX0 3 T.a__law_other T.d__law_other ["_law_dice_here", "_law_plain_here"] (sp__law_other K) := by
  refine T.F__law_other.ok sc__law_other (fun vs H Q E h => ?_) (fun cdv A outer s H vs Q E hr h => ?_)
  · obtain ⟨d, P, n, o, ts, gs, zs, rfl, _⟩ := h; rfl
  · obtain ⟨d, P, n, o, ts, gs, zs, rfl, hd, D0, hn, hp, okp, l3, l7, k⟩ := h
    refine ⟨_, (pss_cons (ps_par3 (i := 2) (j := 3) (l := 4) (by rfl) sc__law_other.nd rfl rfl rfl (by decide) (by decide) (by decide) rfl rfl rfl (pa_cons (pe_call (ok__law_copy T) (hr.mono (by decide)) (by rfl) T.g__law_copy T.F__law_copy.kp T.B__law_copy .nil pass0 (pa_cons (pev 1) pa_nil)) (pa_cons (pe_call (ok__law_roll T) (hr.mono (by decide)) (by rfl) T.g__law_roll T.F__law_roll.kp T.B__law_roll .nil pass0 (pa_cons (pev 0) (pa_cons pe_int pa_nil))) (pa_cons (pe_call (ok__law_names T) (hr.mono (by decide)) (by rfl) T.g__law_names T.F__law_names.kp T.B__law_names .nil pass0 (pa_cons (pev 1) pa_nil)) pa_nil))) (by rfl))
        (pss_cons (ps_set (i := 5) sc__law_other.nd rfl (by first | exact Or.inl rfl | exact Or.inr rfl) (pe_call (ok__law_pick T) (hr.mono (by decide)) (by rfl) T.g__law_pick T.F__law_pick.kp T.B__law_pick .nil pass0 (pa_cons (pev 0) (pa_cons (pev 4) pa_nil))))
        (pss_cons (psIf (pt_cmpR (opEq (hu64 hr)) (pev 3) pe_int (nomark _)) (pss_one (ps_asg (pe_lc (own := [("_law_column", 6)]) (g := (gName 6)) (tt := (tTest (tOp (uEq K) (tCall (sp__law_roll K) [] E0 (tCons (uV 0) (tCons (tC (.int 2)) tNil))) (tC (.int 0))))) (te := (uV 6)) rfl sc__law_other.nd (pi_list (pe_call (ok__law_columns T) (hr.mono (by decide)) (by rfl) T.g__law_columns T.F__law_columns.kp T.B__law_columns .nil pass0 (pa_cons (pev 1) (pa_cons (pev 4) pa_nil)))) (blkOk_by (own := [("_law_column", 6)]) (N := ["_law_dice_here", "_law_plain_here", "_law_found", "_law_way", "_law_names_here", "_law_name", "_law_column"]) (sc := defScope s__law_other) (by decide +kernel)) (fun _ _ _ _ _ => pg_name (i := 6) sc__law_other.nd rfl (by first | exact Or.inl rfl | exact Or.inr rfl)) (fun _ _ _ _ _ => (pts_one (pt_cmpR (opEq (hu64 hr)) (pe_call (ok__law_roll T) (hr.mono (by decide)) (by rfl) T.g__law_roll T.F__law_roll.kp T.B__law_roll .nil pass0 (pa_cons (pev 0) (pa_cons pe_int pa_nil))) pe_int (nomark _)))) (fun _ _ _ _ _ => (pev 6))) (pg_sub (pev 2) pe_str (set_dict (hu1 (hu64 hr)))))) (pss_one (psIf (pt_cmpR (opEq (hu64 hr)) (pev 3) pe_int (nomark _)) (pss_one (ps_asg (pe_call (ok__law_pick T) (hr.mono (by decide)) (by rfl) T.g__law_pick T.F__law_pick.kp T.B__law_pick .nil pass0 (pa_cons (pev 0) (pa_cons (pe_lst (pa_cons (pe_tup (pa_cons pe_int (pa_cons pe_int pa_nil))) (pa_cons (pe_tup (pa_cons pe_int (pa_cons pe_int pa_nil))) (pa_cons (pe_tup (pa_cons pe_int (pa_cons pe_int pa_nil))) pa_nil)))) pa_nil))) (pg_sub (pe_dget (hu1 (hu64 hr)) (pev 2) pe_str (fun _ _ => rfl)) (pev 5) (set_dict (hu1 (hu64 hr)))))) (pss_one (psIf (pt_cmpR (opEq (hu64 hr)) (pev 3) pe_int (nomark _)) (pss_one (ps_asg (pe_callB (cr_sortX rfl) (by rfl) T.b_sorted (by decide +kernel) (pa_cons (pe_callTy (cr_setL rfl) (by rfl) T.b_set (by decide +kernel) (pa_cons (pe_op opAdd (pe_dget (hu1 (hu64 hr)) (pe_dget (hu1 (hu64 hr)) (pev 2) pe_str (fun _ _ => rfl)) (pev 5) (fun _ _ => rfl)) (pe_lst (pa_cons (pe_call (ok__law_pick T) (hr.mono (by decide)) (by rfl) T.g__law_pick T.F__law_pick.kp T.B__law_pick .nil pass0 (pa_cons (pev 0) (pa_cons (pe_lst (pa_cons pe_str (pa_cons pe_str (pa_cons pe_str pa_nil)))) pa_nil))) pa_nil))) pa_nil)) pa_nil)) (pg_sub (pe_dget (hu1 (hu64 hr)) (pev 2) pe_str (fun _ _ => rfl)) (pev 5) (set_dict (hu1 (hu64 hr)))))) pss_nil)))))
        (pss_one (ps_ret (pev 2)))))), ?_⟩
    have few := okp.t.few
    have npd : ∀ {b : Addr} {kv : List (Key × V)}, H b = some (.dK kv) → b ≠ d := fun {b kv} e z => by
      obtain ⟨_, _, _, e2, _⟩ := id D0
      rw [z, hd, e2] at e
      cases e
    conv => whnf
    refine ⟨P, ts, gs, zs, rfl, hp, okp, fun H1 F D G S g1 hN1 => ?_⟩
    conv => whnf
    have hd1 := g1 _ _ hd
    refine ⟨d, n, 4, o, rfl, hd1, D0, by omega, by decide, by decide, fun H2 wr o2 f2 e2 D2 w0 w1 => ?_⟩
    have X2 : Gx d H H2 := fun b u eb nb => f2 b u (g1 _ _ eb) nb
    have hN2 := hN1.kp hd1 D0 (Kp.dice f2)
    have hp2 := hp.kp hd D0 X2.kp
    conv => whnf
    refine ⟨P, ts, gs, zs, rfl, hp2, by omega, fun H3 N g3 hN3 eN => ?_⟩
    conv => whnf
    have e3 := g3 _ _ e2
    have nNd : N ≠ d := fun z => by rw [z, e2] at hN3; cases hN3
    refine ⟨_, _, _, rfl, ?_⟩
    conv => whnf
    have X3 : Gx d H H3 := X2.gr g3
    have hN3' := hN2.up g3
    have few := okp.t.few
    have lnS : (srt (names ts)).length ≤ 6 := by rw [srt_len, show (names ts).length = ts.length from List.length_map _]; exact few.2
    have lnP : 0 < (srt (names ts)).length := by rw [srt_len, show (names ts).length = ts.length from List.length_map _]; exact few.1
    refine ⟨d, _, o2, .ref N, _, rfl, e3, D2, by omega, .inr ⟨N, rfl, nNd, .inl (SqL.of eN)⟩, by rw [List.length_map]; exact lnP, by rw [List.length_map]; omega, fun H5 nv o5 f5 e5 D5 nin => ?_⟩
    obtain ⟨nm, hnm, rfl⟩ := List.mem_map.mp nin
    have nin2 : nm ∈ names ts := (srt_perm _).mem_iff.mp hnm
    have k35 : Kp d H3 H5 := Kp.dice f5
    have kp5 : Kp d H H5 := X3.kp.trans k35
    have hN5 := hN3'.kp e3 D2 k35
    have eN5 := f5 _ _ eN nNd
    have hp5 := hp.kp hd D0 kp5
    conv => whnf
    refine ⟨_, rfl, ?_⟩
    refine brD (fun h0 => ?_) (fun h0 => ?_)
    · conv => whnf
      refine ⟨P, N, srt (names ts), ts, gs, zs, rfl, hp5, okp.t.wt, eN5, srt_perm _, fun H6 C g6 hC eC => ?_⟩
      have e6 := g6 _ _ e5
      have nCd : C ≠ d := fun z => by rw [z, e5] at hC; cases hC
      conv => whnf
      refine ⟨C, rfl, ⟨_, SqL.of eC⟩, fun B hB => ?_⟩
      have nBd : B ≠ d := fun z => by rw [z, e6] at hB; cases hB
      refine lc_it (walk_list (xs := (colsOf ts).map V.str)) (fun i Hm => Gx d H6 Hm ∧ ∃ (o' : HO) (ys : List Str), Hm d = some o' ∧ Dice (n + 6 + i) o' ∧ Hm B = some (.lst (ys.map V.str)) ∧ ys.Sublist ((colsOf ts).take i)) ⟨(Gr.rfl'.up hB).gx, o5, [], by rw [upd_ne nBd.symm]; exact e6, Dice.up D5 (by omega), upd_same, List.nil_sublist _⟩ (fun _ _ _ L => SqL.of (L.1 _ _ eC nCd)) ?_ ?_
      · rintro i x Hm H' hi ⟨X, o1, ys, e1, D1, eB, sub⟩ ⟨rfl, hx⟩
        rw [List.getElem?_map] at hx
        obtain ⟨z, hz, rfl⟩ := Option.map_eq_some_iff.mp hx
        rw [List.length_map] at hi
        have ly : ys.length ≤ i := Nat.le_trans sub.length_le (by rw [List.length_take]; exact Nat.min_le_left _ _)
        have et : (colsOf ts).take (i + 1) = (colsOf ts).take i ++ [z] := by rw [List.take_add_one, hz]; rfl
        conv => whnf
        refine ⟨rfl, ?_⟩
        conv => whnf
        refine ⟨d, _, 2, o1, rfl, e1, D1, by omega, by decide, by decide, fun H2' r o2' f2' e2' D2' r0 r1 => ?_⟩
        refine ⟨_, rfl, ?_⟩
        have eB2 := f2' _ _ eB nBd
        have X2' : Gx d H6 H2' := fun b u eb nb => f2' b u (X b u eb nb) nb
        cases hr0 : decide (V.int r = V.int 0) with
        | true =>
          refine ⟨_, eB2, small_lt (by rw [List.length_map]; omega), X2'.app hB, o2', ys ++ [z], by rw [upd_ne nBd.symm]; exact e2', Dice.up D2' (by omega), by rw [upd_same, List.map_append]; rfl, ?_⟩
          rw [et]
          exact sub.append (List.Sublist.refl _)
        | false =>
          refine ⟨X2', o2', ys, e2', Dice.up D2' (by omega), eB2, ?_⟩
          rw [et]
          exact sub.trans (List.sublist_append_left _ _)
      rintro Hm ⟨X, o1, ys, e1, D1, eB, sub⟩
      rw [List.length_map] at D1 sub
      rw [List.take_length] at sub
      have k5m : Kp d H5 Hm := (Kp.of g6).trans X.kp
      have hNm := hN5.kp e5 D5 k5m
      have kpm := kp5.trans k5m
      have lC : (colsOf ts).length ≤ 8 := okp.t.all
      conv => whnf
      obtain ⟨kt, kz, hF, _⟩ := id hNm
      have nFd : F ≠ d := fun z => by obtain ⟨_, _, _, e, _⟩ := id D1; rw [z, e1, e] at hF; cases hF
      refine ⟨F, _, rfl, .inl ⟨plk D G S, .inr "groups", hF, rfl, small_lt (by show 3 ≤ 1000000; decide), rfl⟩, ?_⟩
      rw [show putK (plk D G S) (.inr "groups") (.ref B) = plk D B S from rfl]
      have hN14 := plainN_putG hNm eB
      have kp14 : Kp d H (upd Hm F (.dK (plk D B S))) := kpm.app (plainN_new hNm)
      have e14 : (upd Hm F (.dK (plk D B S))) d = some o1 := by rw [upd_ne nFd.symm]; exact e1
      generalize upd Hm F (.dK (plk D B S)) = H14 at hN14 kp14 e14 ⊢
      conv => whnf
      exact k H14 F o1 ts ys zs kp14 e14 (Dice.up D1 (by omega)) hN14.q (okp_groups okp sub) rfl
    conv => whnf
    refine ⟨_, rfl, ?_⟩
    refine brD (fun h1 => ?_) (fun h1 => ?_)
    · conv => whnf
      refine ⟨small_ok (by simp), fun t0 p0 => ?_⟩
      have g0 := Gr.rfl'.up (o := .tup [.int 1, .int 1]) p0
      have e_0 := upd_same (H := H5) (a := t0) (o := .tup [.int 1, .int 1])
      have n_0 := (ne_of_none e5 p0).symm
      have ez0 := g0 _ _ e5
      generalize upd H5 t0 (.tup [.int 1, .int 1]) = Hb0 at g0 e_0 ez0 ⊢
      conv => whnf
      refine ⟨small_ok (by simp), fun t1 p1 => ?_⟩
      have gp1 := Gr.rfl'.up (o := .tup [.int 2, .int 1]) p1
      have e_1 := upd_same (H := Hb0) (a := t1) (o := .tup [.int 2, .int 1])
      have n_1 := (ne_of_none ez0 p1).symm
      have ez1 := gp1 _ _ ez0
      generalize upd Hb0 t1 (.tup [.int 2, .int 1]) = Hb1 at gp1 e_1 ez1 ⊢
      conv => whnf
      refine ⟨small_ok (by simp), fun t2 p2 => ?_⟩
      have g2 := Gr.rfl'.up (o := .tup [.int 1, .int 2]) p2
      have e_2 := upd_same (H := Hb1) (a := t2) (o := .tup [.int 1, .int 2])
      have n_2 := (ne_of_none ez1 p2).symm
      have ez2 := g2 _ _ ez1
      generalize upd Hb1 t2 (.tup [.int 1, .int 2]) = Hb2 at g2 e_2 ez2 ⊢
      conv => whnf
      refine ⟨small_ok (by simp), fun l ppl => ?_⟩
      have gl := Gr.rfl'.up (o := .lst [.ref t0, .ref t1, .ref t2]) ppl
      have el := upd_same (H := Hb2) (a := l) (o := .lst [.ref t0, .ref t1, .ref t2])
      have nl := (ne_of_none ez2 ppl).symm
      have ezl := gl _ _ ez2
      generalize upd Hb2 l (.lst [.ref t0, .ref t1, .ref t2]) = Hl at gl el ezl ⊢
      have Gt := ((g0.trans gp1).trans g2).trans gl
      have f0 := gl _ _ (g2 _ _ (gp1 _ _ e_0))
      have f1 := gl _ _ (g2 _ _ e_1)
      have f2' := gl _ _ e_2
      conv => whnf
      refine ⟨d, _, o5, .ref l, [.ref t0, .ref t1, .ref t2], rfl, ezl, D5, by omega, .inr ⟨l, rfl, nl, .inl (SqL.of el)⟩, (by show 0 < 3; decide), (by show 3 ≤ 100000; decide), fun H9 r o9 fr2 e9 D9 rin => ?_⟩
      have rq : ∃ c, c ∈ threeP ∧ PQ Hl r c := by
        simp only [List.mem_cons, List.not_mem_nil, or_false] at rin
        rcases rin with rfl | rfl | rfl
        · exact ⟨(1, 1), by decide, t0, rfl, f0⟩
        · exact ⟨(2, 1), by decide, t1, rfl, f1⟩
        · exact ⟨(1, 2), by decide, t2, rfl, f2'⟩
      obtain ⟨c, cin, rc⟩ := rq
      obtain ⟨cb, cg⟩ := threeP_ok c cin
      have rc9 := rc.kp ezl D5 (Kp.dice fr2)
      have kp59 : Kp d H5 H9 := (Kp.of Gt).trans (Kp.dice fr2)
      have hN9 := hN5.kp e5 D5 kp59
      have kp9 := kp5.trans kp59
      clear f0 f1 f2' e_0 e_1 e_2 rin
      obtain ⟨kt, kz, hF, hD, dt, hG, hS, dz, ⟨n1, n2', n3⟩, hF0, hD0, hS0⟩ := hN9
      have nSd : S ≠ d := fun z => by obtain ⟨_, _, _, e, _⟩ := id D9; rw [z, e9, e] at hS; cases hS
      have nGS : G ≠ S := fun z => by rw [z, hS] at hG; cases hG
      have ldz := dz.1
      have lzf := okp.z.few
      conv => whnf
      refine ⟨F, .ref S, rfl, .inl ⟨plk D G S, .inr "sizes", .inl hF, rfl, plk_s.symm⟩, ?_⟩
      conv => whnf
      refine ⟨S, _, rfl, .inl ⟨kz, .inr nm, hS, rfl, small_lt (by omega), rfl⟩, ?_⟩
      conv => whnf
      have hQ10 : PlainQ (upd H9 S (.dK (putK kz (.inr nm) r))) F ts gs (putA zs nm c) :=
        ⟨D, G, S, kt, putK kz (.inr nm) r, _, by rw [upd_ne n2']; exact hF, ⟨plk_t, plk_g, plk_s⟩, by rw [upd_ne n3]; exact hD, dt.mono fun v b r => LstS.off r hS (fun _ z => by cases z), by rw [upd_ne nGS]; exact hG, upd_same, (dz.put (x := nm) rc9).mono fun v b r => PQ.off r hS (fun _ z => by cases z), n1, n2', n3⟩
      have e10 : (upd H9 S (.dK (putK kz (.inr nm) r))) d = some o9 := by rw [upd_ne nSd.symm]; exact e9
      exact k _ F o9 ts gs _ (kp9.app hS0) e10 (Dice.up D9 (by omega)) hQ10 (okp_size okp nin2 cb cg) rfl
    conv => whnf
    refine ⟨_, rfl, ?_⟩
    refine brD (fun h2 => ?_) (fun h2 => ?_)
    · conv => whnf
      obtain ⟨kt, kz, hF, hD, dt, _⟩ := id hN5
      obtain ⟨cs, hcs⟩ := lk_some nin2
      obtain ⟨v, hv, b, rfl, hb⟩ := dt.get hcs
      have lcs : cs.length ≤ 3 := l3 _ (lk_mem hcs)
      refine ⟨F, .ref D, rfl, .inl ⟨plk D G S, .inr "tables", .inl hF, rfl, plk_t.symm⟩, ?_⟩
      conv => whnf
      refine ⟨D, .ref b, rfl, .inl ⟨kt, .inr nm, .inl hD, rfl, hv.symm⟩, ?_⟩
      conv => whnf
      refine ⟨small_ok (by simp), fun l hl => ?_⟩
      have g6 := Gr.rfl'.up (o := .lst [.str "a", .str "c", .str "zz"]) hl
      have el := upd_same (H := H5) (a := l) (o := .lst [.str "a", .str "c", .str "zz"])
      have nl := (ne_of_none e5 hl).symm
      have e6 := g6 _ _ e5
      generalize upd H5 l (.lst [.str "a", .str "c", .str "zz"]) = H6 at g6 el e6 ⊢
      have el : H6 l = some (.lst (threeC.map V.str)) := el
      conv => whnf
      refine ⟨d, _, o5, .ref l, _, rfl, e6, D5, by omega, .inr ⟨l, rfl, nl, .inl (SqL.of el)⟩, (by show 0 < 3; decide), (by show 3 ≤ 100000; decide), fun H7 r o7 f7 e7 D7 rin => ?_⟩
      obtain ⟨z, hz, rfl⟩ := List.mem_map.mp rin
      have nbd : b ≠ d := fun z => by obtain ⟨_, _, _, e, _⟩ := id D5; rw [z, e5] at hb; exact strs_no_dice D5 cs (Option.some.inj hb)
      have hb7 := f7 _ _ (g6 _ _ hb) nbd
      conv => whnf
      refine ⟨small_ok (by simp), fun l2 hl2 => ?_⟩
      have g8 := Gr.rfl'.up (o := .lst [.str z]) hl2
      have el2 := upd_same (H := H7) (a := l2) (o := .lst [.str z])
      have nl2 := (ne_of_none e7 hl2).symm
      have e8 := g8 _ _ e7
      generalize upd H7 l2 (.lst [.str z]) = H8 at g8 el2 e8 ⊢
      have el2 : H8 l2 = some (.lst (([z] : List Str).map V.str)) := el2
      conv => whnf
      refine .inl ⟨b, l2, _, _, rfl, rfl, g8 _ _ hb7, el2, small_ok (by rw [List.length_map, List.length_map]; show cs.length + 1 ≤ _; omega), fun q hq2 => ?_⟩
      have g9 := Gr.rfl'.up (o := .lst (cs.map V.str ++ ([z] : List Str).map V.str)) hq2
      have eq := upd_same (H := H8) (a := q) (o := .lst (cs.map V.str ++ ([z] : List Str).map V.str))
      have nq := (ne_of_none e8 hq2).symm
      have e9 := g9 _ _ e8
      generalize upd H8 q (.lst (cs.map V.str ++ ([z] : List Str).map V.str)) = H9 at g9 eq e9 ⊢
      rw [← List.map_append] at eq
      conv => whnf
      refine ⟨q, _, rfl, SqL.of eq, by rw [List.length_append]; show cs.length + 1 ≤ _; omega, fun sx hsx => ?_⟩
      conv => whnf
      have g10 := Gr.rfl'.up (o := SetXO w sx (adds [] (cs ++ [z]))) hsx
      refine ⟨sx, _, rfl, upd_same, ?_, fun ys s2 pmy hs hs2 => ?_⟩
      · have h := adds_len (cs ++ [z]) []
        rw [List.length_append] at h
        have h : (adds [] (cs ++ [z])).length ≤ 0 + (cs.length + 1) := h
        omega
      obtain rfl : ys = dist (cs ++ [z]) := sorted_srt pmy hs
      have g11 := g10.up (o := .lst ((dist (cs ++ [z])).map V.str)) hs2
      have es2 := upd_same (H := upd H9 sx (SetXO w sx (adds [] (cs ++ [z])))) (a := s2) (o := .lst ((dist (cs ++ [z])).map V.str))
      have fs2 : H9 s2 = none := g10.free' hs2
      have e11 := g11 _ _ e9
      have k711 : Kp d H7 (upd (upd H9 sx (SetXO w sx (adds [] (cs ++ [z])))) s2 (.lst ((dist (cs ++ [z])).map V.str))) := Kp.of ((g8.trans g9).trans g11)
      have k511 : Kp d H5 (upd (upd H9 sx (SetXO w sx (adds [] (cs ++ [z])))) s2 (.lst ((dist (cs ++ [z])).map V.str))) := ((Kp.of g6).trans (Kp.dice f7)).trans k711
      have hN11 := hN5.kp e5 D5 k511
      have kp11 := kp5.trans k511
      clear hF hD dt hv hb hb7
      obtain ⟨kt2, kz, hF, hD, dt, hG, hS, dz, ⟨n1, n2', n3⟩, hF0, hD0, hS0⟩ := hN11
      have ldt := dt.1
      conv => whnf
      refine ⟨F, .ref D, rfl, .inl ⟨plk D G S, .inr "tables", .inl hF, rfl, plk_t.symm⟩, ?_⟩
      conv => whnf
      refine ⟨D, _, rfl, .inl ⟨kt2, .inr nm, hD, rfl, small_lt (by omega), rfl⟩, ?_⟩
      have nDd : D ≠ d := fun h => by obtain ⟨_, _, _, e, _⟩ := id D7; have h2 := hD; rw [h, e11, e] at h2; cases h2
      have ns2D : s2 ≠ D := fun e => by have h := hD; rw [← e, es2] at h; cases h
      have nGD : G ≠ D := fun e => by have h := hG; rw [e, hD] at h; cases h
      have hQ12 : PlainQ (upd (upd (upd H9 sx (SetXO w sx (adds [] (cs ++ [z])))) s2 (.lst ((dist (cs ++ [z])).map V.str))) D (.dK (putK kt2 (.inr nm) (.ref s2)))) F (putA ts nm (dist (cs ++ [z]))) gs zs :=
        ⟨D, G, S, putK kt2 (.inr nm) (.ref s2), kz, _, by rw [upd_ne n1]; exact hF, ⟨plk_t, plk_g, plk_s⟩, upd_same, (dt.put (x := nm) (⟨s2, rfl, es2⟩ : LstS (upd (upd H9 sx (SetXO w sx (adds [] (cs ++ [z])))) s2 (.lst ((dist (cs ++ [z])).map V.str))) (.ref s2) (dist (cs ++ [z])))).mono fun v b q => LstS.off q hD (fun _ z => by cases z), by rw [upd_ne nGD]; exact hG, by rw [upd_ne n3.symm]; exact hS, dz.mono fun v b q => PQ.off q hD (fun _ z => by cases z), n1, n2', n3⟩
      have e12 : (upd (upd (upd H9 sx (SetXO w sx (adds [] (cs ++ [z])))) s2 (.lst ((dist (cs ++ [z])).map V.str))) D (.dK (putK kt2 (.inr nm) (.ref s2)))) d = some o7 := by rw [upd_ne nDd.symm]; exact e11
      exact k _ F o7 _ gs zs (kp11.app hD0) e12 (Dice.up D7 (by omega)) hQ12 (okp_more okp hcs lcs l7 (threeC_nm z hz)) (putA_names_in nin2)
    conv => whnf
    exact k H5 F o5 ts gs zs kp5 e5 (Dice.up D5 (by omega)) hN5.q okp rfl
def sp__law_made (K : PySem.W.Frag) (C R : Addr) : Sp := fun vs H Q _ => ∃ (P : Addr) (ts : List (Str × List Str)) (gs : List Str) (zs : List (Str × (Nat × Nat))), vs = [.ref P] ∧ PlainQ H P ts gs zs ∧ OKT ts ∧ OKG ts gs ∧ OKZ (names ts) zs ∧ (names zs).Nodup ∧ (∀ z ∈ zs, Nat.gcd z.2.1 z.2.2 = 1) ∧
  ∀ (H' : Hp) (a : Addr), Gr H H' → H a = none → QO C R H' a (srtT ts) gs (srtZ (names ts) zs) → Q (.ref a) H'
theorem ok__law_made (T : Txt K mg) : FnOk P w K mg base CX0 8 T.a__law_made T.d__law_made ["_law_plain_here"] (sp__law_made K T.c_Question T.c_Ratio) := by
  refine T.F__law_made.ok sc__law_made (fun vs H Q E h => ?_) (fun cdv A outer s H vs Q E hr h => ?_)
  · obtain ⟨P, ts, gs, zs, rfl, _⟩ := h; rfl
  · obtain ⟨P, ts, gs, zs, rfl, ⟨D, G, S, kt, kz, kp, hP, ⟨kpt, kpg, kps⟩, hD, hkt, hG, hS, hkz, nPD, nPS, nDS⟩, ok, og, oz, ndz, low, k⟩ := h
    refine ⟨_, (pss_cons (ps_set (i := 1) sc__law_made.nd rfl (by first | exact Or.inl rfl | exact Or.inr rfl) (pe_callTy (call_dictP rfl) (by rfl) T.b_dict (by decide +kernel) (pa_cons (pe_lock (pe_lc (own := [("_law_name", 3)]) (g := (gName 3)) (tt := tYes) (te := (tTup (tCons (uV 3) (tCons (tCB (rTupOf K) (tCons (tDGet (tDGet (uV 0) (tC (.str "tables"))) (uV 3)) tNil)) tNil)))) rfl sc__law_made.nd (pi_keys (pe_dget (hu1 (hu64 hr)) (pev 0) pe_str (fun _ _ => rfl))) (blkOk_by (own := [("_law_name", 3)]) (N := ["_law_plain_here", "_law_tables", "_law_some", "_law_name", "_law_pair"]) (sc := defScope s__law_made) (by decide +kernel)) (fun _ _ _ _ _ => pg_name (i := 3) sc__law_made.nd rfl (by first | exact Or.inl rfl | exact Or.inr rfl)) (fun _ _ _ _ _ => pts_nil) (fun _ _ _ _ _ => (pe_tup (pa_cons (pev 3) (pa_cons (pe_callTy caTupOf (by rfl) T.b_tuple (by decide +kernel) (pa_cons (pe_dget (hu1 (hu64 hr)) (pe_dget (hu1 (hu64 hr)) (pev 0) pe_str (fun _ _ => rfl)) (pev 3) (fun _ _ => rfl)) pa_nil)) pa_nil)))))) pa_nil)))
        (pss_cons (ps_set (i := 2) sc__law_made.nd rfl (by first | exact Or.inl rfl | exact Or.inr rfl) (pe_callTy (call_dictP rfl) (by rfl) T.b_dict (by decide +kernel) (pa_cons (pe_lock (pe_lc (own := [("_law_name", 3), ("_law_pair", 4)]) (g := (gTup K 2 (gCons (gName 3) (gCons (gName 4) gNil)))) (tt := tYes) (te := (tTup (tCons (uV 3) (tCons (tMake T.c_Ratio (sp_Ratio___init__ K T.c_Ratio) [] E0 (tCons (tOp (uIx K) (uV 4) (tC (.int 0))) (tCons (tOp (uIx K) (uV 4) (tC (.int 1))) tNil))) tNil)))) rfl sc__law_made.nd (pi_items (pe_dget (hu1 (hu64 hr)) (pev 0) pe_str (fun _ _ => rfl))) (blkOk_by (own := [("_law_name", 3), ("_law_pair", 4)]) (N := ["_law_plain_here", "_law_tables", "_law_some", "_law_name", "_law_pair"]) (sc := defScope s__law_made) (by decide +kernel)) (fun _ _ _ _ _ => pg_tup rfl (pgs_cons (pg_name (i := 3) sc__law_made.nd rfl (by first | exact Or.inl rfl | exact Or.inr rfl)) (pgs_cons (pg_name (i := 4) sc__law_made.nd rfl (by first | exact Or.inl rfl | exact Or.inr rfl)) pgs_nil))) (fun _ _ _ _ _ => pts_nil) (fun _ _ _ _ _ => (pe_tup (pa_cons (pev 3) (pa_cons (pe_make T.K_Ratio (ok_Ratio___init__ T) (hr.mono (by decide)) (by rfl) T.g_Ratio T.B_Ratio___init__ .nil pass0 (pa_cons (pe_ix ixU (pev 4) pe_int (fun _ _ => rfl)) (pa_cons (pe_ix ixU (pev 4) pe_int (fun _ _ => rfl)) pa_nil))) pa_nil)))))) pa_nil)))
        (pss_one (ps_ret (pe_makeK (n := 2) T.K_Question (ok_Question___init__ T) (hr.mono (by decide)) (by rfl) T.g_Question T.KB_Question___init__ pass0 (pa_cons (pev 1) (pa_cons (pe_callTy call_tuple_of (by rfl) T.b_tuple (by decide +kernel) (pa_cons (pe_dget (hu1 (hu64 hr)) (pev 0) pe_str (fun _ _ => rfl)) pa_nil)) pa_nil)) (pk_cons (pev 2) pk_nil)))))), ?_⟩
    conv => whnf
    refine ⟨D, _, hD, trivial, fun od => ?_⟩
    conv => whnf
    have hP1 : (upd H D (.frz od (.dK kt))) P = some (.dK kp) := by rw [upd_ne nPD]; exact hP
    have hkt1 : DRel LstS (upd H D (.frz od (.dK kt))) kt ts := hkt.mono fun v b r => LstS.off r hD (fun _ z => by cases z)
    have lk1 := hkt.1
    have few := ok.few
    refine ⟨P, .ref D, rfl, .inl ⟨kp, .inr "tables", .inl hP1, rfl, kpt.symm⟩, D, od, rfl, .inl ⟨kt, upd_same, fun B hB => ?_⟩⟩
    refine lc_it walk_keys (fun i Hm => Gr (upd H D (.frz od (.dK kt))) Hm ∧ ∃ (ps : List Addr) (kvs : List (Key × V)), Hm B = some (.lst (ps.map V.ref)) ∧ PySem.Paired (fun p kv => Hm p = some (.tup [kV kv.1, kv.2])) ps kvs ∧ DRel TupS Hm kvs (ts.take i))
      ⟨Gr.rfl'.up hB, [], [], upd_same, .nil, .nil⟩ (fun _ _ _ L => L.1 _ _ upd_same) ?_ ?_
    · rintro i x Hm Hn hi ⟨g2, ps, kvs, e2, pp, dd⟩ ⟨rfl, k', v', hkv, rfl⟩
      obtain ⟨t, ht, e1, _⟩ := hkt.at hkv
      have e1 : k' = .inr t.1 := e1
      subst e1
      have lp : ps.length ≤ i := by rw [pp.length, dd.1, List.length_take]; exact Nat.min_le_left _ _
      obtain ⟨v, hv, b, rfl, hb⟩ := (hkt1.mono fun v b r => LstS.up r g2).get (lk_at ok.nd (List.mem_of_getElem? ht))
      conv => whnf
      refine ⟨rfl, ?_⟩
      conv => whnf
      refine ⟨P, .ref D, rfl, .inl ⟨kp, .inr "tables", .inl (g2 _ _ hP1), rfl, kpt.symm⟩, ?_⟩
      conv => whnf
      refine ⟨D, .ref b, rfl, .inl ⟨kt, .inr t.1, .inr ⟨od, g2 _ _ upd_same⟩, rfl, hv.symm⟩, ?_⟩
      conv => whnf
      refine ⟨b, _, rfl, .inl ⟨SqL.of hb, fun a ha => ?_⟩⟩
      conv => whnf
      refine ⟨small_ok (by simp), fun q hq => ?_⟩
      conv => whnf
      have ga := Gr.rfl'.up (o := .tup (t.2.map V.str)) ha
      have gb := Gr.rfl'.up (o := .tup [kV (.inr t.1), .ref a]) hq
      have eb := upd_same (H := upd Hn a (.tup (t.2.map V.str))) (a := q) (o := .tup [kV (.inr t.1), .ref a])
      have ea := gb _ _ (upd_same (H := Hn) (a := a) (o := .tup (t.2.map V.str)))
      have g3 := (g2.trans ga).trans gb
      have e3 := gb _ _ (ga _ _ e2)
      have pp3 := pp.mono fun p kv e => gb _ _ (ga _ _ e)
      have dd3 := dd.mono fun v b r => TupS.up (TupS.up r ga) gb
      generalize upd (upd Hn a (.tup (t.2.map V.str))) q (.tup [kV (.inr t.1), .ref a]) = H3 at eb ea g3 e3 pp3 dd3 ⊢
      refine ⟨_, e3, small_lt (by rw [List.length_map]; omega), Gr.app hB g3, ps ++ [q], kvs ++ [(.inr t.1, .ref a)], by rw [upd_same, List.map_append]; rfl, ?_, ?_⟩
      · refine PySem.Paired.snoc (pp3.mono fun p kv e => ?_) ?_
        · rw [upd_ne fun z => by rw [z, e3] at e; cases e]
          exact e
        · rw [upd_ne fun z => by rw [z, e3] at eb; cases eb]
          exact eb
      · rw [List.take_add_one, ht]
        exact (dd3.mono fun v b r => TupS.off r e3 (fun _ z => by cases z)).snoc (TupS.off (⟨a, rfl, ea⟩ : TupS H3 (.ref a) t.2) e3 (fun _ z => by cases z))
    rintro Hm ⟨g2, ps, kvs, e2, pp, dd⟩
    rw [List.take_of_length_le (by rw [lk1]; exact Nat.le_refl _)] at dd
    refine ⟨g2 _ _ upd_same, ?_⟩
    have G2 : Gr H (upd Hm D (.dK kt)) := Gr.unlock hD g2
    have nBD : B ≠ D := fun z => by rw [z, upd_same] at hB; cases hB
    have eD := g2 _ _ (upd_same (H := H) (a := D) (o := .frz od (.dK kt)))
    have e3 : (upd Hm D (.dK kt)) B = some (.lst (ps.map V.ref)) := by rw [upd_ne nBD]; exact e2
    have pp3 : PySem.Paired (fun p kv => (upd Hm D (.dK kt)) p = some (.tup [kV kv.1, kv.2])) ps kvs := pp.mono fun p kv e => by rw [upd_ne fun z => by rw [z, eD] at e; cases e]; exact e
    have dd3 : DRel TupS (upd Hm D (.dK kt)) kvs ts := dd.mono fun v b r => TupS.off r eD (fun _ z => by cases z)
    generalize upd Hm D (.dK kt) = H2 at G2 e3 pp3 dd3 ⊢
    conv => whnf
    refine ⟨B, ps, kvs, rfl, SqL.of e3, pp3.mono fun p kv e => SqT.of e, fun T1 hT1 => ?_⟩
    rw [merge_nil dd3 ok.nd]
    have G4 := G2.up (o := .dK kvs) hT1
    have eT1 := upd_same (H := H2) (a := T1) (o := .dK kvs)
    have dT1 := dd3.mono fun v b r => TupS.up r (Gr.rfl'.up (o := .dK kvs) hT1)
    have hT1n : H T1 = none := G2.free' hT1
    generalize upd H2 T1 (.dK kvs) = H4 at G4 eT1 dT1 ⊢
    conv => whnf
    have hS4 := G4 _ _ hS
    refine ⟨S, _, hS4, trivial, fun os => ?_⟩
    conv => whnf
    have hP4 : (upd H4 S (.frz os (.dK kz))) P = some (.dK kp) := by rw [upd_ne nPS]; exact G4 _ _ hP
    have hkz4 : DRel PQ (upd H4 S (.frz os (.dK kz))) kz zs := hkz.mono fun v b r => PQ.off (PQ.up r G4) hS4 (fun _ z => by cases z)
    have lz := hkz.1
    have fz := oz.few
    refine ⟨P, .ref S, rfl, .inl ⟨kp, .inr "sizes", .inl hP4, rfl, kps.symm⟩, S, os, kz, rfl, upd_same, fun B2 hB2 => ?_⟩
    refine lc_it walk_items (fun i Hm => Gr (upd H4 S (.frz os (.dK kz))) Hm ∧ ∃ (ps : List Addr) (kvs : List (Key × V)), Hm B2 = some (.lst (ps.map V.ref)) ∧ PySem.Paired (fun p kv => Hm p = some (.tup [kV kv.1, kv.2])) ps kvs ∧ DRel (RatS T.c_Ratio) Hm kvs (zs.take i))
      ⟨Gr.rfl'.up hB2, [], [], upd_same, .nil, .nil⟩ (fun _ _ _ L => L.1 _ _ upd_same) ?_ ?_
    · rintro i x Hm Hn hi ⟨g5, ps, kvs, e2, pp, dd⟩ ⟨T', y1, y2, rfl, hT, rfl, hy1, hy2⟩
      simp only [Option.map_eq_some_iff] at hy1 hy2
      obtain ⟨kv, hkv, rfl⟩ := hy1
      obtain ⟨kv', hkv', rfl⟩ := hy2
      obtain rfl : kv = kv' := Option.some.inj (hkv.symm.trans hkv')
      obtain ⟨z, hzi, ek, rz⟩ := (hkz4.mono fun v b r => PQ.up r g5).at hkv
      have zm := List.mem_of_getElem? hzi
      obtain ⟨l1, l2, l3⟩ := oz.let_ z zm
      have lp : ps.length ≤ i := by rw [pp.length, dd.1, List.length_take]; exact Nat.min_le_left _ _
      obtain ⟨pa, epa, hpa⟩ := rz
      rw [ek, epa]
      have gT := Gr.rfl'.up (o := .tup [kV (.inr z.1), .ref pa]) hT
      have eT := upd_same (H := Hm) (a := T') (o := .tup [kV (.inr z.1), .ref pa])
      have e3 := gT _ _ e2
      have hpa3 := gT _ _ hpa
      have g6 := g5.trans gT
      have pp3 := pp.mono fun p kv e => gT _ _ e
      have dd3 := dd.mono fun v b r => RatS.up r gT
      generalize upd Hm T' (.tup [kV (.inr z.1), .ref pa]) = Hn at eT e3 hpa3 g6 pp3 dd3 ⊢
      conv => whnf
      refine ⟨T', _, rfl, SqT.of eT, rfl, ?_⟩
      conv => whnf
      refine ⟨_, _, rfl, ?_⟩
      conv => whnf
      refine ⟨_, _, rfl, ?_⟩
      conv => whnf
      refine ⟨rfl, ?_⟩
      conv => whnf
      refine ⟨rfl, ?_⟩
      conv => whnf
      refine ⟨_, _, .inr (SqT.of hpa3), rfl, ?_⟩
      conv => whnf
      refine ⟨_, _, .inr (SqT.of hpa3), rfl, ?_⟩
      conv => whnf
      intro x dx hx hdx ne
      refine make_R (R := fun H2 => _) hx hdx ne (by omega) (by omega) fun H5 g7 i2 => ?_
      rw [gcd_one (low z zm), Int.ediv_one, Int.ediv_one] at i2
      have e5 := g7 _ _ e3
      have pp5 := pp3.mono fun p kv e => g7 _ _ e
      have dd5 := dd3.mono fun v b r => RatS.up r g7
      have g8 := g6.trans g7
      refine ⟨small_ok (by simp), fun q hq => ?_⟩
      conv => whnf
      have gq := Gr.rfl'.up (o := .tup [kV (.inr z.1), .ref x]) hq
      have eq := upd_same (H := H5) (a := q) (o := .tup [kV (.inr z.1), .ref x])
      have e6 := gq _ _ e5
      have pp6 := pp5.mono fun p kv e => gq _ _ e
      have dd6 := dd5.mono fun v b r => RatS.up r gq
      have i6 := i2.up gq
      have g9 := g8.trans gq
      generalize upd H5 q (.tup [kV (.inr z.1), .ref x]) = H6 at gq eq e6 pp6 dd6 i6 g9 ⊢
      refine ⟨_, e6, small_lt (by rw [List.length_map]; omega), Gr.app hB2 g9, ps ++ [q], kvs ++ [(.inr z.1, .ref x)], by rw [upd_same, List.map_append]; rfl, ?_, ?_⟩
      · refine PySem.Paired.snoc (pp6.mono fun p kv e => ?_) ?_
        · rw [upd_ne fun z => by rw [z, e6] at e; cases e]
          exact e
        · rw [upd_ne fun z => by rw [z, e6] at eq; cases eq]
          exact eq
      · rw [List.take_add_one, hzi]
        exact (dd6.mono fun v b r => RatS.off r e6 (fun _ _ _ z => by cases z)).snoc (RatS.off (i6 : RatS T.c_Ratio H6 (.ref x) z.2) e6 (fun _ _ _ z => by cases z))
    rintro Hm ⟨g5, ps2, kv2, e5, pp5, dd5⟩
    rw [List.take_of_length_le (by rw [lz]; exact Nat.le_refl _)] at dd5
    refine ⟨g5 _ _ upd_same, ?_⟩
    have G5 : Gr H4 (upd Hm S (.dK kz)) := Gr.unlock hS4 g5
    have nBS : B2 ≠ S := fun z => by rw [z, upd_same] at hB2; cases hB2
    have eS := g5 _ _ (upd_same (H := H4) (a := S) (o := .frz os (.dK kz)))
    have e6 : (upd Hm S (.dK kz)) B2 = some (.lst (ps2.map V.ref)) := by rw [upd_ne nBS]; exact e5
    have pp6 : PySem.Paired (fun p kv => (upd Hm S (.dK kz)) p = some (.tup [kV kv.1, kv.2])) ps2 kv2 := pp5.mono fun p kv e => by rw [upd_ne fun z => by rw [z, eS] at e; cases e]; exact e
    have dd6 : DRel (RatS T.c_Ratio) (upd Hm S (.dK kz)) kv2 zs := dd5.mono fun v b r => RatS.off r eS (fun _ _ _ z => by cases z)
    generalize upd Hm S (.dK kz) = H6 at G5 e6 pp6 dd6 ⊢
    conv => whnf
    refine ⟨B2, ps2, kv2, rfl, SqL.of e6, pp6.mono fun p kv e => SqT.of e, fun T2 hT2 => ?_⟩
    rw [merge_nil dd6 ndz]
    have gt2 := Gr.rfl'.up (o := .dK kv2) hT2
    have eT2 := upd_same (H := H6) (a := T2) (o := .dK kv2)
    have dT2 := dd6.mono fun v b r => RatS.up r gt2
    have G7 := (G4.trans G5).trans gt2
    have eT17 := gt2 _ _ (G5 _ _ eT1)
    have dT17 := (dT1.mono fun v b r => TupS.up r G5).mono fun v b r => TupS.up r gt2
    have n12 : T2 ≠ T1 := fun z => by rw [z, G5 _ _ eT1] at hT2; cases hT2
    generalize upd H6 T2 (.dK kv2) = H7 at G7 eT2 dT2 eT17 dT17 ⊢
    conv => whnf
    refine ⟨P, .ref G, rfl, .inl ⟨kp, .inr "groups", .inl (G7 _ _ hP), rfl, kpg.symm⟩, ?_⟩
    conv => whnf
    refine ⟨G, _, rfl, .inl ⟨SqL.of (G7 _ _ hG), fun g hg => ?_⟩⟩
    conv => whnf
    have gg := Gr.rfl'.up (o := .tup (gs.map V.str)) hg
    have eg := upd_same (H := H7) (a := g) (o := .tup (gs.map V.str))
    have G8 := G7.trans gg
    have eT18 := gg _ _ eT17
    have eT28 := gg _ _ eT2
    have dT18 := dT17.mono fun v b r => TupS.up r gg
    have dT28 := dT2.mono fun v b r => RatS.up r gg
    generalize upd H7 g (.tup (gs.map V.str)) = H8 at eg G8 eT18 eT28 dT18 dT28 ⊢
    refine ⟨rfl, rfl, fun x dy hx hdy ne' => ?_⟩
    have gx : Gr H8 (upd (upd H8 dy (.own x)) x (.ins T.c_Question dy [])) := (Gr.rfl'.up hdy).up (by rw [upd_ne ne'.symm]; exact hx)
    refine ⟨x, dy, T1, g, .ref T2, kvs, ts, gs, zs, rfl, upd_same, gx _ _ eT18, dT18.mono fun v b r => r.up gx, ok, gx _ _ eg, og, .inr ⟨T2, kv2, rfl, n12, gx _ _ eT28, dT28.mono fun v b r => RatS.up r gx⟩, oz, fun H9 X9 Q9 _ => ⟨rfl, ?_⟩⟩
    refine k H9 x (fun b u eb => X9 b u (gx _ _ (G8 _ _ eb)) fun z => ?_) (G8.free' hx) Q9
    rw [z] at eb
    have := G8 _ _ eb
    rw [hx] at this
    cases this
def sp_Ratio___eq__ (K : PySem.W.Frag) (C : Addr) : Sp := fun vs H Q _ => ∃ (v w : V) (p q p' q' : Int), vs = [v, w] ∧ IsR C H v p q ∧ IsR C H w p' q' ∧ Q (.bl (decide (p = p' ∧ q = q'))) H
theorem own_eq {K : PySem.W.Frag} {C a b : Addr} {H : Hp} {Q : VK} {E : XK} {N D N' D' : Int} {k m : Nat} (h : RV C H (.ref a) N D k) (h' : RV C H (.ref b) N' D' m) (e : N * D' = N' * D) (q : Q (.bl true) H) : sp_Ratio___eq__ K C [.ref a, .ref b] H Q E := by
  obtain ⟨p, r, i, v, s⟩ := h
  obtain ⟨p', r', i', v', s'⟩ := h'
  refine ⟨_, _, p, r, p', r', rfl, i, i', ?_⟩
  rw [decide_eq_true (v.inj v' e)]
  exact q
theorem own_ne {K : PySem.W.Frag} {C a b : Addr} {H : Hp} {R : VK} {E : XK} {N D N' D' : Int} {k m : Nat} (h : RV C H (.ref a) N D k) (h' : RV C H (.ref b) N' D' m) (e : N * D' = N' * D) (q : R (.bl true) H) :
    ∃ dx fs, H a = some (.ins C dx fs) ∧ Snd K C H (.ref b) ∧ sp_Ratio___eq__ K C [.ref a, .ref b] H R E := by
  obtain ⟨p, r, i, v, s⟩ := id h
  obtain ⟨p', r', i', v', s'⟩ := id h'
  obtain ⟨_, dx, z, e1⟩ := id i
  cases z
  obtain ⟨_, dy, z, e2⟩ := id i'
  cases z
  exact ⟨dx, _, e1, .inl ⟨b, dy, _, rfl, e2⟩, own_eq h h' e q⟩
theorem own_eq2 {K : PySem.W.Frag} {C a b : Addr} {H : Hp} {Q : VK} {E : XK} {N D N' D' : Int} {k m : Nat} (h : RV C H (.ref a) N D k) (h' : RV C H (.ref b) N' D' m) (e : N * D' = N' * D) (q : Q (.bl true) H) :
    ∃ dx dy fs gs, H a = some (.ins C dx fs) ∧ H b = some (.ins C dy gs) ∧ sp_Ratio___eq__ K C [.ref a, .ref b] H Q E := by
  obtain ⟨p, r, i, v, s⟩ := id h
  obtain ⟨p', r', i', v', s'⟩ := id h'
  obtain ⟨_, dx, z, e1⟩ := id i
  cases z
  obtain ⟨_, dy, z, e2⟩ := id i'
  cases z
  exact ⟨dx, dy, _, _, e1, e2, own_eq h h' e q⟩
theorem ok_Ratio___eq__ (T : Txt K mg) : FnOk P w K mg base CX0 1 T.a_Ratio___eq__ T.d_Ratio___eq__ ["self", "other"] (sp_Ratio___eq__ K T.c_Ratio) := by
  refine T.F_Ratio___eq__.ok sc_Ratio___eq__ (fun vs H Q E h => ?_) (fun cdv A outer s H vs Q E hr h => ?_)
  · obtain ⟨v, w, p, q, p', q', rfl, _⟩ := h; rfl
  · obtain ⟨v, w, p, q, p', q', rfl, ⟨a, dx, rfl, ha⟩, ⟨b, dy, rfl, hb⟩, k⟩ := h
    refine ⟨_, (pss_one (ps_ret (peAnd (pe_callB call_isi (by rfl) T.b_isinstance (by decide +kernel) (pa_cons (pev 1) (pa_cons (pe_glob (v := .ref T.c_Ratio) (by rfl) T.g_Ratio rfl) pa_nil))) (peAnd (pe_cmpR (opEq (hu64 hr)) (pe_fld (pev 0) rfl) (pe_fld (pev 1) rfl) (nomark _)) (pe_one (pe_cmpR (opEq (hu64 hr)) (pe_fld (pev 0) rfl) (pe_fld (pev 1) rfl) (nomark _))))))), ?_⟩
    conv => whnf
    refine ⟨_, _, _, _, _, rfl, .own _, T.o_Ratio.ty hb, own_self, ?_⟩
    conv => whnf
    refine brT ?_
    conv => whnf
    refine ⟨a, T.c_Ratio, dx, _, _, rfl, ha, T.o_Ratio.cl, T.f_Ratio__top, rf_lt _ _, ?_⟩
    conv => whnf
    refine ⟨b, T.c_Ratio, dy, _, _, rfl, hb, T.o_Ratio.cl, T.f_Ratio__top, rf_lt _ _, ?_⟩
    conv => whnf
    refine br2 (fun h => ?_) (fun h => ?_)
    · have h1 : p = p' := V.int.inj (of_decide_eq_true h)
      conv => whnf
      refine ⟨a, T.c_Ratio, dx, _, _, rfl, ha, T.o_Ratio.cl, T.f_Ratio__bottom, rf_lb _ _, ?_⟩
      conv => whnf
      refine ⟨b, T.c_Ratio, dy, _, _, rfl, hb, T.o_Ratio.cl, T.f_Ratio__bottom, rf_lb _ _, ?_⟩
      conv => whnf
      rw [show decide (p = p' ∧ q = q') = decide (V.int q = V.int q') from decide_eq_decide.mpr ⟨fun z => by rw [z.2], fun z => ⟨h1, V.int.inj z⟩⟩] at k
      exact k
    · have h1 : ¬ p = p' := fun z => of_decide_eq_false h (by rw [z])
      rw [decide_eq_false (fun z => h1 z.1)] at k
      exact k
def sp_Question___eq__ (K : PySem.W.Frag) (C R : Addr) : Sp := fun vs H Q _ => ∃ (a : Addr) (w : V) (ts : List (Str × List Str)) (gs : List Str) (zs : List (Str × (Nat × Nat))), vs = [.ref a, w] ∧ QO C R H a ts gs zs ∧
  ((∃ (b : Addr) (ts' : List (Str × List Str)) (gs' : List Str) (zs' : List (Str × (Nat × Nat))), w = .ref b ∧ QO C R H b ts' gs' zs' ∧ ∀ H', Gr H H' → Q (.bl (decide (ts = ts' ∧ gs = gs' ∧ zs = zs'))) H') ∨ ∃ S : String, Kd K H w S ∧ Q (.bl false) H)
theorem ratS_eq {K : PySem.W.Frag} {R : Addr} {E : XK} : ∀ x y e H, DRatS R x y e H → ∃ a b dx dy fs gs, x = .ref a ∧ y = .ref b ∧ H a = some (.ins R dx fs) ∧ H b = some (.ins R dy gs) ∧ (a = b → e = true) ∧ ∀ Q : VK, (∀ H', Gr H H' → Q (.bl e) H') → sp_Ratio___eq__ K R [.ref a, .ref b] H Q E := by
  rintro x y e H ⟨r, t, h1, h2, rfl⟩
  obtain ⟨a, dx, rfl, ha⟩ := id h1
  obtain ⟨b, dy, rfl, hb⟩ := id h2
  have eq : decide ((r.1 : Int) = t.1 ∧ (r.2 : Int) = t.2) = decide (r = t) := decide_eq_decide.mpr ⟨fun ⟨z1, z2⟩ => Prod.ext (by omega) (by omega), fun z => by rw [z]; exact ⟨rfl, rfl⟩⟩
  refine ⟨a, b, dx, dy, _, _, rfl, rfl, ha, hb, fun z => ?_, fun Q q => ⟨_, _, _, _, _, _, rfl, h1, h2, ?_⟩⟩
  · subst z
    rw [ha] at hb
    have e := congrArg (fun o => match o with | some (HO.ins _ _ [(_, V.int a), (_, V.int b)]) => (a, b) | _ => (0, 0)) hb
    have e1 : (r.1 : Int) = t.1 := congrArg Prod.fst e
    have e2 : (r.2 : Int) = t.2 := congrArg Prod.snd e
    exact decide_eq_true (Prod.ext (by omega) (by omega))
  · rw [eq]
    exact q H Gr.rfl'
theorem ok_Question___eq__ (T : Txt K mg) : FnOk P w K mg base CX0 4 T.a_Question___eq__ T.d_Question___eq__ ["self", "other"] (sp_Question___eq__ K T.c_Question T.c_Ratio) := by
  refine T.F_Question___eq__.ok sc_Question___eq__ (fun vs H Q E h => ?_) (fun cdv A outer s H vs Q E hr h => ?_)
  · obtain ⟨a, w, ts, gs, zs, rfl, _⟩ := h; rfl
  · obtain ⟨a, w, ts, gs, zs, rfl, hq, k⟩ := h
    obtain ⟨dx, d, g, e, c, l, kvs, kz, ha, hd, hk, hg, he, hz, hc, hl, ns, nz, ok, og, oz⟩ := id hq
    refine ⟨_, (pss_one (ps_ret (peAnd (pe_callB call_isi (by rfl) T.b_isinstance (by decide +kernel) (pa_cons (pev 1) (pa_cons (pe_glob (v := .ref T.c_Question) (by rfl) T.g_Question rfl) pa_nil))) (peAnd (pe_cmpR (op_eqB mon_tupS eqB_tupS (hr.mono (by decide))) (pe_fld (pev 0) rfl) (pe_fld (pev 1) rfl) rfl) (peAnd (pe_cmpR (opEq (hu64 hr)) (pe_fld (pev 0) rfl) (pe_fld (pev 1) rfl) (nomark _)) (pe_one (pe_cmpR (op_eqB mon_ratS (eqB_ins T.M_Ratio___eq__ (ok_Ratio___eq__ T) T.B_Ratio___eq__ pass0 ratS_eq) (hr.mono (by decide))) (pe_fld (pev 0) rfl) (pe_fld (pev 1) rfl) rfl))))))), ?_⟩
    rcases k with ⟨b, ts', gs', zs', rfl, hq', k⟩ | ⟨S, hw, k⟩
    case' inr =>
      conv => whnf
      refine ⟨_, _, _, _, _, rfl, .own _, hw.1, T.o_Question.no hw.2, ?_⟩
      conv => whnf
      refine brF ?_
      exact k
    obtain ⟨dx', d', g', e', c', l', kvs', kz', ha', hd', hk', hg', he', hz', hc', hl', ns', nz', ok', og', oz'⟩ := id hq'
    conv => whnf
    refine ⟨_, _, _, _, _, rfl, .own _, T.o_Question.ty ha', own_self, ?_⟩
    conv => whnf
    refine brT ?_
    conv => whnf
    refine ⟨a, T.c_Question, dx, _, .ref d, rfl, ha, T.o_Question.cl, T.f_Question__tables, rfl, ?_⟩
    conv => whnf
    refine ⟨b, T.c_Question, dx', _, .ref d', rfl, ha', T.o_Question.cl, T.f_Question__tables, rfl, ?_⟩
    refine eqB_dicts hk hk' ok.nd ok'.nd ns ns' hd hd' (fun H' v w r t f r1 r2 => ?_) fun H1 g1 => ?_
    · obtain ⟨p, ep, hp⟩ := r1
      obtain ⟨q, eq, hq⟩ := r2
      exact ⟨r, t, ⟨p, ep, f _ _ hp (fun z => by rw [z, hd] at hp; cases hp) fun z => by rw [z, hd'] at hp; cases hp⟩, ⟨q, eq, f _ _ hq (fun z => by rw [z, hd] at hq; cases hq) fun z => by rw [z, hd'] at hq; cases hq⟩, rfl⟩
    refine br2 (fun h => ?_) (fun h => ?_)
    case' refine_2 =>
      have e : decide (ts = ts' ∧ gs = gs' ∧ zs = zs') = false := decide_eq_false fun z => of_decide_eq_false h z.1
      rw [e] at k
      exact k H1 g1
    have e1 := of_decide_eq_true h
    conv => whnf
    refine ⟨a, T.c_Question, dx, _, .ref g, rfl, g1 _ _ ha, T.o_Question.cl, T.f_Question__groups, rfl, ?_⟩
    conv => whnf
    refine ⟨b, T.c_Question, dx', _, .ref g', rfl, g1 _ _ ha', T.o_Question.cl, T.f_Question__groups, rfl, ?_⟩
    conv => whnf
    refine ⟨.tuple (txs gs), .tuple (txs gs'), .tup (SqT.of (g1 _ _ hg)) (dp_txs gs), .tup (SqT.of (g1 _ _ hg')) (dp_txs gs'), shaped_tup fun z hz => (og.nm z hz).asc, shaped_tup fun z hz => (og'.nm z hz).asc, ?_⟩
    rw [eqv_tups]
    refine br2 (fun h => ?_) (fun h => ?_)
    case' refine_2 =>
      have e : decide (ts = ts' ∧ gs = gs' ∧ zs = zs') = false := decide_eq_false fun z => of_decide_eq_false h z.2.1
      rw [e] at k
      exact k H1 g1
    have e2 := of_decide_eq_true h
    conv => whnf
    refine ⟨a, T.c_Question, dx, _, .ref e, rfl, g1 _ _ ha, T.o_Question.cl, T.f_Question__sizes, rfl, ?_⟩
    conv => whnf
    refine ⟨b, T.c_Question, dx', _, .ref e', rfl, g1 _ _ ha', T.o_Question.cl, T.f_Question__sizes, rfl, ?_⟩
    refine eqB_dicts (hz.mono fun v b r => RatS.up r g1) (hz'.mono fun v b r => RatS.up r g1) (by rw [nz]; exact ok.nd) (by rw [nz']; exact ok'.nd) (by rw [nz]; exact ns) (by rw [nz']; exact ns') (g1 _ _ he) (g1 _ _ he') (fun H' v w r t f r1 r2 => ?_) fun H2 g2 => ?_
    · obtain ⟨p, dp, ep, hp⟩ := r1
      obtain ⟨q, dq, eq, hq⟩ := r2
      exact ⟨r, t, ⟨p, dp, ep, f _ _ hp (fun z => by rw [z, g1 _ _ he] at hp; cases hp) fun z => by rw [z, g1 _ _ he'] at hp; cases hp⟩, ⟨q, dq, eq, f _ _ hq (fun z => by rw [z, g1 _ _ he] at hq; cases hq) fun z => by rw [z, g1 _ _ he'] at hq; cases hq⟩, rfl⟩
    conv => whnf
    rw [show decide (ts = ts' ∧ gs = gs' ∧ zs = zs') = decide (zs = zs') from decide_eq_decide.mpr ⟨fun z => z.2.2, fun z => ⟨e1, e2, z⟩⟩] at k
    exact k H2 (g1.trans g2)
/-- the sizes that are given, of the names behind -/
def Zok (ys : List Str) (zs zs' : List (Str × (Nat × Nat))) : Prop := (∀ x, (lk zs' x).getD (1, 1) = if x ∈ ys then (lk zs x).getD (1, 1) else (1, 1)) ∧ (∀ z ∈ zs', z.1 ∈ ys ∧ lk zs z.1 = some z.2) ∧ zs'.length ≤ ys.length
theorem lk_snoc {β : Type} {ts : List (Str × β)} {x y : Str} {b : β} (h : x ∉ names ts) : lk (ts ++ [(x, b)]) y = if x = y then some b else lk ts y := by
  rw [← putA_new h, lk_put]
theorem Zok.nil (zs : List (Str × (Nat × Nat))) : Zok [] zs [] := ⟨fun x => by rw [if_neg List.not_mem_nil]; rfl, fun z hz => (nomatch hz), Nat.le_refl _⟩
theorem Zok.out {ys : List Str} {zs zs' : List (Str × (Nat × Nat))} (h : Zok ys zs zs') {x : Str} (n : x ∉ ys) : x ∉ names zs' := fun z => by
  obtain ⟨t, ht, e⟩ := List.mem_map.mp z
  exact n (by rw [← e]; exact (h.2.1 t ht).1)
theorem Zok.add {ys : List Str} {zs zs' : List (Str × (Nat × Nat))} {x : Str} {r : Nat × Nat} (h : Zok ys zs zs') (n : x ∉ ys) (e : lk zs x = some r) : Zok (ys ++ [x]) zs (zs' ++ [(x, r)]) := by
  refine ⟨fun y => ?_, fun z hz => ?_, by rw [List.length_append, List.length_append]; have := h.2.2; simp only [List.length_singleton]; omega⟩
  · rw [lk_snoc (h.out n)]
    by_cases q : x = y
    · subst q; rw [if_pos rfl, if_pos (List.mem_append_right _ List.mem_cons_self), e]
    · rw [if_neg q, h.1]
      have : (y ∈ ys ++ [x]) ↔ y ∈ ys := by
        rw [List.mem_append, List.mem_singleton]
        exact ⟨fun z => z.elim id fun w => absurd w.symm q, .inl⟩
      simp only [this]
  · rcases List.mem_append.mp hz with hz | hz
    · exact ⟨List.mem_append_left _ (h.2.1 z hz).1, (h.2.1 z hz).2⟩
    · obtain rfl := List.mem_singleton.mp hz
      exact ⟨List.mem_append_right _ List.mem_cons_self, e⟩
theorem Zok.skip {ys : List Str} {zs zs' : List (Str × (Nat × Nat))} {x : Str} (h : Zok ys zs zs') (n : x ∉ ys) (e : (lk zs x).getD (1, 1) = (1, 1)) : Zok (ys ++ [x]) zs zs' := by
  refine ⟨fun y => ?_, fun z hz => ⟨List.mem_append_left _ (h.2.1 z hz).1, (h.2.1 z hz).2⟩, by rw [List.length_append]; have := h.2.2; omega⟩
  rw [h.1]
  by_cases q : x = y
  · subst q; rw [if_neg n, if_pos (List.mem_append_right _ List.mem_cons_self), e]
  · have : (y ∈ ys ++ [x]) ↔ y ∈ ys := by
      rw [List.mem_append, List.mem_singleton]
      exact ⟨fun z => z.elim id fun w => absurd w.symm q, .inl⟩
    simp only [this]
theorem pq_one (r : Nat × Nat) : (!PyData.eqv (.tuple [.int (r.1 : Int), .int (r.2 : Int)]) (.tuple [.int 1, .int 1])) = decide (r ≠ (1, 1)) := by
  rw [show PyData.eqv (.tuple [.int (r.1 : Int), .int (r.2 : Int)]) (.tuple [.int 1, .int 1]) = _ from eqv_pd _ _ _ _, ← decide_not]
  exact decide_eq_decide.mpr (not_congr ⟨fun q => Prod.ext (by have := q.1; omega) (by have := q.2; omega), fun q => ⟨by rw [q]; rfl, by rw [q]; rfl⟩⟩)
theorem gcd3 {p q : Nat} (h : Nat.gcd p q = 1) : gcdI ((p : Int) * 3) ((q : Int) * 3) = 3 := by
  unfold gcdI
  rw [Int.natAbs_mul, Int.natAbs_mul, Int.natAbs_natCast, Int.natAbs_natCast, show (3 : Int).natAbs = 3 from rfl, Nat.gcd_mul_right, h]
  rfl
def sp__law_right (K : PySem.W.Frag) (C R : Addr) : Sp := fun vs H Q _ => ∃ (d P : Addr) (n : Nat) (o : HO) (ts : List (Str × List Str)) (gs : List Str) (zs : List (Str × (Nat × Nat))), vs = [.ref d, .ref P] ∧ H d = some o ∧ Dice n o ∧ n ≤ 700000 ∧ PlainQ H P ts gs zs ∧ OKP ts gs zs ∧ Lil 4 5 ts ∧
  ∀ (H' : Hp) (o' : HO), Kp d H H' → H' d = some o' → Dice (n + 100) o' → Q (.bl true) H'
theorem ok__law_right (T : Txt K mg) : FnG P w K mg base CX0 9 T.a__law_right T.d__law_right ["_law_dice_here", "_law_plain_here"] (sp__law_right K T.c_Question T.c_Ratio) := by
  refine okG T.F__law_right sc__law_right (fun vs H Q E h => ?_) (fun cdv A outer s H vs Q E hg hr h => ?_)
  · obtain ⟨d, P, n, o, ts, gs, zs, rfl, _⟩ := h; rfl
  · obtain ⟨d, P, n, o, ts, gs, zs, rfl, hd, D0, hn, pl0, okp, lil, k⟩ := h
    refine ⟨_, PSs.nox (pss_cons (ps_par3 (i := 2) (j := 3) (l := 4) (by rfl) sc__law_right.nd rfl rfl rfl (by decide) (by decide) (by decide) rfl rfl rfl (pa_cons (pe_call (ok__law_mixed T) (hr.mono (by decide)) (by rfl) T.g__law_mixed T.F__law_mixed.kp T.B__law_mixed .nil pass0 (pa_cons (pev 0) (pa_cons (pe_call (ok__law_names T) (hr.mono (by decide)) (by rfl) T.g__law_names T.F__law_names.kp T.B__law_names .nil pass0 (pa_cons (pev 1) pa_nil)) pa_nil))) (pa_cons pe_dnewK (pa_cons pe_dnewK pa_nil))) (by rfl))
        (pss_cons (ps_for PassesOwn.never rfl (pi_list (pev 2)) (pg_name (i := 5) sc__law_right.nd rfl (by first | exact Or.inl rfl | exact Or.inr rfl))
        (pss_cons (ps_asg (pe_callTy caTupOf (by rfl) T.b_tuple (by decide +kernel) (pa_cons (pe_dget (hu1 (hu64 hr)) (pe_dget (hu1 (hu64 hr)) (pev 1) pe_str (fun _ _ => rfl)) (pev 5) (fun _ _ => rfl)) pa_nil)) (pg_sub (pev 3) (pev 5) (set_dict (hu1 (hu64 hr)))))
        (pss_one (psIf (PW.pt (pwOr (pt_cmpR (opNe (hu64 hr)) (pe_dget (hu1 (hu64 hr)) (pe_dget (hu1 (hu64 hr)) (pev 1) pe_str (fun _ _ => rfl)) (pev 5) (fun _ _ => rfl)) (pe_tup (pa_cons pe_int (pa_cons pe_int pa_nil))) (nomark _)) (pw_or1 (pt_cmpR (opEq (hu64 hr)) (pe_call (ok__law_roll T) (hr.mono (by decide)) (by rfl) T.g__law_roll T.F__law_roll.kp T.B__law_roll .nil pass0 (pa_cons (pev 0) (pa_cons pe_int pa_nil))) pe_int (nomark _))))) (pss_one (ps_asg (pe_make T.K_Ratio (ok_Ratio___init__ T) (hr.mono (by decide)) (by rfl) T.g_Ratio T.B_Ratio___init__ .nil pass0 (pa_cons (pe_op opMulT (pe_ix ixU (pe_dget (hu1 (hu64 hr)) (pe_dget (hu1 (hu64 hr)) (pev 1) pe_str (fun _ _ => rfl)) (pev 5) (fun _ _ => rfl)) pe_int (fun _ _ => rfl)) pe_int) (pa_cons (pe_op opMulT (pe_ix ixU (pe_dget (hu1 (hu64 hr)) (pe_dget (hu1 (hu64 hr)) (pev 1) pe_str (fun _ _ => rfl)) (pev 5) (fun _ _ => rfl)) pe_int (fun _ _ => rfl)) pe_int) pa_nil))) (pg_sub (pev 4) (pev 5) (set_dict (hu1 (hu64 hr)))))) pss_nil))))
        (pss_cons (ps_set (i := 6) sc__law_right.nd rfl (by first | exact Or.inl rfl | exact Or.inr rfl) (pe_makeK (n := 2) T.K_Question (ok_Question___init__ T) (hr.mono (by decide)) (by rfl) T.g_Question T.KB_Question___init__ pass0 (pa_cons (pev 3) (pa_cons (pe_callTy call_tuple_of (by rfl) T.b_tuple (by decide +kernel) (pa_cons (pe_dget (hu1 (hu64 hr)) (pev 1) pe_str (fun _ _ => rfl)) pa_nil)) pa_nil)) (pk_cons (pev 4) pk_nil)))
        (pss_cons (ps_asg (pe_tup (pa_cons (pe_tup (pa_cons pe_str pa_nil)) (pa_cons (pe_make T.K_Ratio (ok_Ratio___init__ T) (hr.mono (by decide)) (by rfl) T.g_Ratio T.B_Ratio___init__ .nil pass0 (pa_cons pe_int (pa_cons pe_int pa_nil))) pa_nil))) (pg_tup rfl (pgs_cons (pg_sub (pev 3) pe_str (set_dict (hu1 (hu64 hr)))) (pgs_cons (pg_sub (pev 4) pe_str (set_dict (hu1 (hu64 hr)))) pgs_nil))))
        (pss_cons (ps_par (i := 7) (j := 8) (by rfl) sc__law_right.nd rfl rfl (by decide) rfl rfl (pa_cons (pe_prop (pev 6) T.o_Question.cl T.P_Question_tables (ok_Question_tables T) (hr.mono (by decide)) T.B_Question_tables .nil pass0 rfl) (pa_cons (pe_prop (pev 6) T.o_Question.cl T.P_Question_sizes (ok_Question_sizes T) (hr.mono (by decide)) T.B_Question_sizes .nil pass0 rfl) pa_nil)) (by rfl))
        (pss_cons (ps_asg (pe_tup (pa_cons (pe_tup (pa_cons pe_str pa_nil)) (pa_cons (pe_make T.K_Ratio (ok_Ratio___init__ T) (hr.mono (by decide)) (by rfl) T.g_Ratio T.B_Ratio___init__ .nil pass0 (pa_cons pe_int (pa_cons pe_int pa_nil))) pa_nil))) (pg_tup rfl (pgs_cons (pg_sub (pev 7) pe_str (set_dict (hu1 (hu64 hr)))) (pgs_cons (pg_sub (pev 8) pe_str (set_dict (hu1 (hu64 hr)))) pgs_nil))))
        (pss_cons (psIf (pt_not (ptV (peG (ok__law_is_told T) hg (hr.mono (by decide)) (by rfl) T.g__law_is_told T.F__law_is_told.kp T.B__law_is_told .nil pass0 (pa_cons (pev 6) (pa_cons (pev 1) pa_nil))))) (pss_one (ps_ret pe_bl)) pss_nil)
        (pss_cons (ps_set (i := 9) sc__law_right.nd rfl (by first | exact Or.inl rfl | exact Or.inr rfl) (pe_call (ok__law_other T) (hr.mono (by decide)) (by rfl) T.g__law_other T.F__law_other.kp T.B__law_other .nil pass0 (pa_cons (pev 0) (pa_cons (pev 1) pa_nil))))
        (pss_cons (ps_par (i := 10) (j := 11) (by rfl) sc__law_right.nd rfl rfl (by decide) rfl rfl (pa_cons (pe_call (ok__law_made T) (hr.mono (by decide)) (by rfl) T.g__law_made T.F__law_made.kp T.B__law_made .nil pass0 (pa_cons (pev 9) pa_nil)) (pa_cons (pe_cmpR (opEq (hu64 hr)) (pe_call (ok__law_lines T) (hr.mono (by decide)) (by rfl) T.g__law_lines T.F__law_lines.kp T.B__law_lines .nil pass0 (pa_cons (pev 9) pa_nil)) (pe_call (ok__law_lines T) (hr.mono (by decide)) (by rfl) T.g__law_lines T.F__law_lines.kp T.B__law_lines .nil pass0 (pa_cons (pev 1) pa_nil)) (nomark _)) pa_nil)) (by rfl))
        (pss_cons (psIf (PW.pt (pwOr (pt_not (ptV (peG (ok__law_is_told T) hg (hr.mono (by decide)) (by rfl) T.g__law_is_told T.F__law_is_told.kp T.B__law_is_told .nil pass0 (pa_cons (pev 10) (pa_cons (pev 9) pa_nil))))) (pwOr (pt_cmpR (opNe (hu64 hr)) (pe_cmpR (opCmp rfl rfl T.M_Question___eq__ (ok_Question___eq__ T) (hr.mono (by decide)) T.B_Question___eq__ pass0) (pev 6) (pev 10) (nomark _)) (pev 11) (nomark _)) (pw_or1 (pt_cmpR (opEq (hu64 hr)) (pe_cmpR (opNeX T.o_Question T.n_Question T.M_Question___eq__ (ok_Question___eq__ T) (hr.mono (by decide)) T.B_Question___eq__ pass0) (pev 10) (pev 6) (nomark _)) (pev 11) (nomark _)))))) (pss_one (ps_ret pe_bl)) pss_nil)
        (pss_one (ps_ret (peAnd (pe_cmpR (opNeX T.o_Question T.n_Question T.M_Question___eq__ (ok_Question___eq__ T) (hr.mono (by decide)) T.B_Question___eq__ pass0) (pev 6) (pe_prop (pev 6) T.o_Question.cl T.P_Question_lines (ok_Question_lines T) (hr.mono (by decide)) T.B_Question_lines .nil pass0 rfl) (nomark _)) (peAnd (pe_not (pe_cmpR (opCmpX rfl rfl T.M_Question___eq__ (ok_Question___eq__ T) (hr.mono (by decide)) T.B_Question___eq__ pass0) (pev 6) pe_non (nomark _))) (pe_one (pe_cmpR (opCmp rfl rfl T.M_Question___eq__ (ok_Question___eq__ T) (hr.mono (by decide)) T.B_Question___eq__ pass0) (pev 6) (pe_call (ok__law_made T) (hr.mono (by decide)) (by rfl) T.g__law_made T.F__law_made.kp T.B__law_made .nil pass0 (pa_cons (pev 1) pa_nil)) (nomark _))))))))))))))))), ?_⟩
    have few := okp.t.few
    have lnS : (srt (names ts)).length ≤ 6 := by rw [srt_len, show (names ts).length = ts.length from List.length_map _]; exact few.2
    conv => whnf
    refine ⟨_, _, _, _, rfl, pl0, (by omega), ?_⟩
    intro J1 p2 g3 f4 e5
    conv => whnf
    refine ⟨_, _, _, _, _, rfl, (g3 _ _ hd), D0, (by omega), (U.ne_fresh f4 hd), (SqL.of e5), (by simp only [List.length_map]; omega), ?_⟩
    intro J6 p7 o8 x9 g10 e11 D12 h13 e14 h15
    conv => whnf
    intro p16 f17
    have g18 := Gr.rfl'.up (o := HO.dK []) f17
    have e18 := upd_same (H := J6) (a := p16) (o := HO.dK [])
    generalize upd J6 p16 (HO.dK []) = J18 at g18 e18 ⊢
    conv => whnf
    intro p19 f20
    have g21 := Gr.rfl'.up (o := HO.dK []) f20
    have e21 := upd_same (H := J18) (a := p19) (o := HO.dK [])
    generalize upd J18 p19 (HO.dK []) = J21 at g21 e21 ⊢
    conv => whnf
    refine ⟨_, _, _, rfl, ?_⟩
    conv => whnf
    refine ⟨_, rfl, ⟨_, (SqL.of (g21 _ _ (g18 _ _ e14)))⟩, ?_⟩
    conv => whnf
    obtain ⟨ms, rfl, pm⟩ := perm_strs h15
    have pl6 : PlainQ J6 P ts gs zs := (pl0.up g3).kp (g3 _ _ hd) D0 (Kp.dice g10)
    have f16 : J6 p16 = none := f17
    have f19 : J6 p19 = none := g18.free' f20
    have ndm : ms.Nodup := pm.nodup_iff.mpr (srt_nodup okp.t.nd)
    have lm : ms.length ≤ 6 := by rw [pm.length_eq]; exact lnS
    have nTZ : p16 ≠ p19 := ne_of_none e18 f20
    have nTd : p16 ≠ d := U.ne_fresh f17 e11
    have nZd : p19 ≠ d := U.ne_fresh f19 e11
    obtain ⟨D, G, S, ktt, kzz, kp, hP, ⟨kpt, kpg, kps⟩, hD, hkt, hG, hS, hkz, nPD, nPS, nDS⟩ := id pl6
    refine for_it (walk_list (xs := ms.map V.str)) (fun i σ Hm => (∃ x5, σ = [some (.ref d), some (.ref P), some (.ref p7), some (.ref p16), some (.ref p19), x5, none, none, none, none, none, none]) ∧ Gx d J6 Hm ∧ ∃ (o' : HO) (kt kz : List (Key × V)) (zs' : List (Str × (Nat × Nat))), Hm d = some o' ∧ Dice (n + 16 + i) o' ∧ Hm p16 = some (.dK kt) ∧ DRel TupS Hm kt (byName (ms.take i) [] ts) ∧ Hm p19 = some (.dK kz) ∧ DRel (RatS T.c_Ratio) Hm kz zs' ∧ Zok (ms.take i) zs zs')
      ⟨⟨_, rfl⟩, (g18.trans g21).gx, o8, [], [], [], g21 _ _ (g18 _ _ e11), D12, g21 _ _ e18, .nil, e21, .nil, Zok.nil _⟩ (fun _ _ _ _ L => SqL.of (L.2.1 _ _ e14 h13)) ?_ ?_
    · rintro i x σ Hm H' hi ⟨⟨x5, rfl⟩, X, o', kt, kz, zs', ed, Di, eT, dT, eZ, dZ, zok⟩ ⟨rfl, hx⟩
      rw [List.getElem?_map] at hx
      rw [List.length_map] at hi
      obtain ⟨z, hz, rfl⟩ := Option.map_eq_some_iff.mp hx
      have zn : z ∈ names ts := (srt_perm _).mem_iff.mp (pm.mem_iff.mp (List.mem_of_getElem? hz))
      obtain ⟨cs, hcs⟩ := lk_some zn
      obtain ⟨v, hv, b, rfl, hb⟩ := hkt.get hcs
      obtain ⟨r, hr⟩ := lk_some (ts := zs) (x := z) (by rw [okp.nz]; exact zn)
      obtain ⟨w, hw, c, rfl, hc⟩ := hkz.get hr
      obtain ⟨l1, l2, l3⟩ : 1 ≤ r.2 ∧ r.2 ≤ 60 ∧ r.1 ≤ 9 * r.2 := okp.z.let_ _ (lk_mem hr)
      have low1 : Nat.gcd r.1 r.2 = 1 := okp.low _ (lk_mem hr)
      conv => whnf
      refine ⟨_, _, rfl, (.inl ⟨_, .inr ("tables"), .inl (U.gx_at X e11 D12 hP rfl), rfl, kpt.symm⟩), ?_⟩
      conv => whnf
      refine ⟨_, _, rfl, (.inl ⟨_, .inr (z), .inl (U.gx_at X e11 D12 hD rfl), rfl, hv.symm⟩), ?_⟩
      conv => whnf
      refine ⟨_, _, rfl, .inl ⟨(SqL.of (U.gx_at X e11 D12 hb (U.nod_strs _))), ?_⟩⟩
      intro p22 f23
      have g24 := Gr.rfl'.up (o := HO.tup (List.map V.str cs)) f23
      have e24 := upd_same (H := H') (a := p22) (o := HO.tup (List.map V.str cs))
      generalize upd H' p22 (HO.tup (List.map V.str cs)) = J24 at g24 e24 ⊢
      conv => whnf
      refine ⟨_, _, rfl, (.inl ⟨_, .inr (z), (g24 _ _ eT), rfl, small_lt (by have h0 := dT.1; rw [byName_len, List.length_take] at h0; omega), rfl⟩), ?_⟩
      have x25 := U.Gx.wrote J24 p16 (HO.dK (putK kt (Sum.inr z) (V.ref p22)))
      have e25 := upd_same (H := J24) (a := p16) (o := HO.dK (putK kt (Sum.inr z) (V.ref p22)))
      generalize upd J24 p16 (HO.dK (putK kt (Sum.inr z) (V.ref p22))) = J25 at x25 e25 ⊢
      conv => whnf
      refine ⟨_, _, rfl, (.inl ⟨_, .inr ("sizes"), .inl (x25 _ _ (g24 _ _ (U.gx_at X e11 D12 hP rfl)) (U.ne_fresh f16 hP).symm), rfl, kps.symm⟩), ?_⟩
      conv => whnf
      refine ⟨_, _, rfl, (.inl ⟨_, .inr (z), .inl (x25 _ _ (g24 _ _ (U.gx_at X e11 D12 hS rfl)) (U.ne_fresh f16 hS).symm), rfl, hw.symm⟩), ?_⟩
      conv => whnf
      refine ⟨(by decide), ?_⟩
      intro p26 f27
      have g28 := Gr.rfl'.up (o := HO.tup [V.int 1, V.int 1]) f27
      have e28 := upd_same (H := J25) (a := p26) (o := HO.tup [V.int 1, V.int 1])
      generalize upd J25 p26 (HO.tup [V.int 1, V.int 1]) = J28 at g28 e28 ⊢
      conv => whnf
      refine ⟨_, _, (.tup (SqT.of (g28 _ _ (x25 _ _ (g24 _ _ (U.gx_at X e11 D12 hc rfl)) (U.ne_fresh f16 hc).symm))) (.cons (.int _) (.cons (.int _) .nil))), (.tup (SqT.of e28) (.cons (.int _) (.cons (.int _) .nil))), rfl, rfl, _, rfl, ?_⟩
      conv => whnf
      rw [pq_one]
      have zi : z ∉ ms.take i := by
        intro q
        obtain ⟨j, hj, ej⟩ := List.getElem_of_mem q
        obtain ⟨hi2, ei⟩ := List.getElem?_eq_some_iff.mp hz
        rw [List.length_take] at hj
        rw [List.getElem_take] at ej
        exact List.pairwise_iff_getElem.mp ndm j i (by omega) hi2 (by omega) (ej.trans ei.symm)
      have et : ms.take (i + 1) = ms.take i ++ [z] := by rw [List.take_add_one, hz]; rfl
      have dT5 : DRel TupS J25 (putK kt (.inr z) (.ref p22)) (byName (ms.take (i + 1)) [] ts) := by
        have h := (dT.mono fun _ _ r => U.TupS.up r g24).put (x := z) (⟨p22, rfl, e24⟩ : TupS J24 (.ref p22) cs)
        rw [putA_new (by rw [byName_names]; exact zi)] at h
        rw [et]
        unfold byName at h ⊢
        rw [List.map_append, List.map_cons, hcs]
        exact h.mono fun _ _ r => U.TupS.gxk r (g24 _ _ eT) x25
      refine brD (fun h1 => ?_) (fun h1 => ?_)
      case' refine_1 =>
        obtain ⟨Jn, hJ⟩ : ∃ Jn, Jn = J28 := ⟨_, rfl⟩
        rw [← hJ]
        have gn : ∀ b u, J28 b = some u → b ≠ d → Jn b = some u := by rw [hJ]; exact fun _ _ e _ => e
        obtain ⟨on, en, Dn⟩ : ∃ on, Jn d = some on ∧ Dice (n + 16 + (i + 1)) on := ⟨o', by rw [hJ]; exact g28 _ _ (x25 _ _ (g24 _ _ ed) nTd.symm), Dice.up Di (by omega)⟩
        clear hJ
        conv => whnf
        refine brT ?_
      case' refine_2 =>
        conv => whnf
        refine ⟨_, _, _, _, rfl, (g28 _ _ (x25 _ _ (g24 _ _ ed) nTd.symm)), Di, (by omega), (by decide), (by decide), ?_⟩
        intro Jn x30 on gn en Dn0 h35 h36
        conv => whnf
        refine ⟨_, rfl, ?_⟩
        conv => whnf
        have Dn : Dice (n + 16 + (i + 1)) on := Dn0
        clear Dn0
        refine brD (fun h2 => ?_) (fun h2 => ?_)
        rotate_left
        · have zok2 : Zok (ms.take (i + 1)) zs zs' := by rw [et]; exact zok.skip zi (by rw [hr]; exact Classical.not_not.mp h1)
          conv => whnf
          refine ⟨⟨_, rfl⟩, (U.Gx.gx (U.Gx.gr (U.Gx.gn (U.Gx.gr (U.Gx.gx (U.Gx.refl _ _) X) g24) f16 x25) g28) gn), _, _, _, _, en, Dn, (U.gx_at gn (g28 _ _ (x25 _ _ (g24 _ _ ed) nTd.symm)) Di (g28 _ _ e25) rfl), (dT5.mono fun _ _ r => (U.TupS.gxi (U.TupS.up r g28) (g28 _ _ (x25 _ _ (g24 _ _ ed) nTd.symm)) Di gn)), (U.gx_at gn (g28 _ _ (x25 _ _ (g24 _ _ ed) nTd.symm)) Di (g28 _ _ (x25 _ _ (g24 _ _ eZ) nTZ.symm)) rfl), (dZ.mono fun _ _ r => (U.RatS.gxi (U.RatS.up (U.RatS.gxk (U.RatS.up r g24) (g24 _ _ eT) x25) g28) (g28 _ _ (x25 _ _ (g24 _ _ ed) nTd.symm)) Di gn)), zok2⟩
      all_goals
        conv => whnf
        refine ⟨_, _, rfl, (.inl ⟨_, .inr ("sizes"), .inl (U.gx_at gn (g28 _ _ (x25 _ _ (g24 _ _ ed) nTd.symm)) Di (g28 _ _ (x25 _ _ (g24 _ _ (U.gx_at X e11 D12 hP rfl)) (U.ne_fresh f16 hP).symm)) rfl), rfl, kps.symm⟩), ?_⟩
        conv => whnf
        refine ⟨_, _, rfl, (.inl ⟨_, .inr (z), .inl (U.gx_at gn (g28 _ _ (x25 _ _ (g24 _ _ ed) nTd.symm)) Di (g28 _ _ (x25 _ _ (g24 _ _ (U.gx_at X e11 D12 hS rfl)) (U.ne_fresh f16 hS).symm)) rfl), rfl, hw.symm⟩), ?_⟩
        conv => whnf
        refine ⟨_, _, (.inr (SqT.of (U.gx_at gn (g28 _ _ (x25 _ _ (g24 _ _ ed) nTd.symm)) Di (g28 _ _ (x25 _ _ (g24 _ _ (U.gx_at X e11 D12 hc rfl)) (U.ne_objs (g24 _ _ (U.gx_at X e11 D12 hc rfl)) (g24 _ _ eT) (fun z => by cases z)))) rfl))), rfl, ?_⟩
        conv => whnf
        refine ⟨(mulW 20 20 (by omega) (by omega)), ?_⟩
        conv => whnf
        refine ⟨_, _, rfl, (.inl ⟨_, .inr ("sizes"), .inl (U.gx_at gn (g28 _ _ (x25 _ _ (g24 _ _ ed) nTd.symm)) Di (g28 _ _ (x25 _ _ (g24 _ _ (U.gx_at X e11 D12 hP rfl)) (U.ne_fresh f16 hP).symm)) rfl), rfl, kps.symm⟩), ?_⟩
        conv => whnf
        refine ⟨_, _, rfl, (.inl ⟨_, .inr (z), .inl (U.gx_at gn (g28 _ _ (x25 _ _ (g24 _ _ ed) nTd.symm)) Di (g28 _ _ (x25 _ _ (g24 _ _ (U.gx_at X e11 D12 hS rfl)) (U.ne_fresh f16 hS).symm)) rfl), rfl, hw.symm⟩), ?_⟩
        conv => whnf
        refine ⟨_, _, (.inr (SqT.of (U.gx_at gn (g28 _ _ (x25 _ _ (g24 _ _ ed) nTd.symm)) Di (g28 _ _ (x25 _ _ (g24 _ _ (U.gx_at X e11 D12 hc rfl)) (U.ne_objs (g24 _ _ (U.gx_at X e11 D12 hc rfl)) (g24 _ _ eT) (fun z => by cases z)))) rfl))), rfl, ?_⟩
        conv => whnf
        refine ⟨(mulW 20 20 (by omega) (by omega)), ?_⟩
        conv => whnf
        intro p29 p30 f31 f32 h33
        have g34 := U.make_gr f31 f32 h33 (C := T.c_Ratio)
        have e34 := upd_same (H := upd Jn p30 (HO.own p29)) (a := p29) (o := HO.ins T.c_Ratio p30 [])
        generalize upd (upd Jn p30 (HO.own p29)) p29 (HO.ins T.c_Ratio p30 []) = J34 at g34 e34 ⊢
        conv => whnf
        refine ⟨_, _, _, _, rfl, e34, (by omega), (by omega), ?_⟩
        intro J35 g36 e37
        refine ⟨rfl, ?_⟩
        conv => whnf
        refine ⟨_, _, rfl, (.inl ⟨_, .inr (z), (g36 _ _ (g34 _ _ (U.gx_at gn (g28 _ _ (x25 _ _ (g24 _ _ ed) nTd.symm)) Di (g28 _ _ (x25 _ _ (g24 _ _ eZ) nTZ.symm)) rfl)) (U.ne_objs (g34 _ _ (U.gx_at gn (g28 _ _ (x25 _ _ (g24 _ _ ed) nTd.symm)) Di (g28 _ _ (x25 _ _ (g24 _ _ eZ) nTZ.symm)) rfl)) e34 (fun z => by cases z))), rfl, small_lt (by have h0 := dZ.1; have h1 := zok.2.2; rw [List.length_take] at h1; omega), rfl⟩), ?_⟩
        have x38 := U.Gx.wrote J35 p19 (HO.dK (putK kz (Sum.inr z) (V.ref p29)))
        have e38 := upd_same (H := J35) (a := p19) (o := HO.dK (putK kz (Sum.inr z) (V.ref p29)))
        generalize upd J35 p19 (HO.dK (putK kz (Sum.inr z) (V.ref p29))) = J38 at x38 e38 ⊢
        conv => whnf
        have zok2 : Zok (ms.take (i + 1)) zs (zs' ++ [(z, r)]) := by rw [et]; exact zok.add zi hr
        have rz : RatS T.c_Ratio J35 (.ref p29) r := ⟨p29, p30, rfl, by
          rw [gcd3 low1, Int.mul_ediv_cancel _ (by decide), Int.mul_ediv_cancel _ (by decide)] at e37
          exact e37⟩
        have dZ35 : DRel (RatS T.c_Ratio) J35 kz zs' := by
          exact (dZ.mono fun _ _ r => (U.RatS.up (U.RatS.gxi (U.RatS.up (U.RatS.gxk (U.RatS.up r g24) (g24 _ _ eT) x25) g28) (g28 _ _ (x25 _ _ (g24 _ _ ed) nTd.symm)) Di gn) (U.Gr.gn g34 f31 g36)))
        have eZ35 : J35 p19 = some (.dK kz) := by
          exact (g36 _ _ (g34 _ _ (U.gx_at gn (g28 _ _ (x25 _ _ (g24 _ _ ed) nTd.symm)) Di (g28 _ _ (x25 _ _ (g24 _ _ eZ) nTZ.symm)) rfl)) (U.ne_objs (g34 _ _ (U.gx_at gn (g28 _ _ (x25 _ _ (g24 _ _ ed) nTd.symm)) Di (g28 _ _ (x25 _ _ (g24 _ _ eZ) nTZ.symm)) rfl)) e34 (fun z => by cases z)))
        have dZ38 : DRel (RatS T.c_Ratio) J38 (putK kz (.inr z) (.ref p29)) (zs' ++ [(z, r)]) := by
          have h := (dZ35.put (x := z) rz).mono fun v b q => RatS.gxk q eZ35 x38
          rw [putA_new (zok.out zi)] at h
          exact h
        conv => whnf
        refine ⟨⟨_, rfl⟩, (U.Gx.gn (U.Gx.gr (U.Gx.gx (U.Gx.gr (U.Gx.gn (U.Gx.gr (U.Gx.gx (U.Gx.refl _ _) X) g24) f16 x25) g28) gn) (U.Gr.gn g34 f31 g36)) f19 x38), _, _, _, _, (x38 _ _ (g36 _ _ (g34 _ _ en) (U.ne_fresh f31 en).symm) nZd.symm), Dn, (x38 _ _ (g36 _ _ (g34 _ _ (U.gx_at gn (g28 _ _ (x25 _ _ (g24 _ _ ed) nTd.symm)) Di (g28 _ _ e25) rfl)) (U.ne_objs (g34 _ _ (U.gx_at gn (g28 _ _ (x25 _ _ (g24 _ _ ed) nTd.symm)) Di (g28 _ _ e25) rfl)) e34 (fun z => by cases z))) nTZ), (dT5.mono fun _ _ r => (U.TupS.gxk (U.TupS.up (U.TupS.gxi (U.TupS.up r g28) (g28 _ _ (x25 _ _ (g24 _ _ ed) nTd.symm)) Di gn) (U.Gr.gn g34 f31 g36)) eZ35 x38)), e38, dZ38, zok2⟩
    rintro σ Hm ⟨⟨x5, rfl⟩, X, o', kt, kz, zs', ed, Di, eT, dT, eZ, dZ, zok⟩
    rw [List.length_map] at Di
    rw [List.take_of_length_le (by rw [List.length_map]; exact Nat.le_refl _)] at dT zok
    have pmT : ms.Perm (names ts) := pm.trans (srt_perm _)
    have permT : (byName ms [] ts).Perm ts := byName_perm okp.t.nd pmT
    have nmR : names (byName ms [] ts) = ms := byName_names _ _ _
    have okT := okp.t.perm permT
    have okG := okp.g.perm permT
    have okZ : OKZ (names (byName ms [] ts)) zs' := by
      rw [nmR]
      exact ⟨by have := zok.2.2; omega, fun z hz => (zok.2.1 z hz).1, fun z hz => okp.z.let_ _ (lk_mem (zok.2.1 z hz).2)⟩
    have qT : srtT (byName ms [] ts) = srtT ts := srtT_congr (by rw [nmR]; exact ndm) permT
    have qZ : srtZ (names (byName ms [] ts)) zs' = srtZ (names ts) zs := by
      rw [nmR]
      refine srtZ_ext pmT fun x => ?_
      rw [zok.1]
      by_cases h : x ∈ ms
      · rw [if_pos h]
      · rw [if_neg h, lk_none.mpr (by rw [okp.nz]; exact fun q => h (pmT.mem_iff.mpr q))]
        rfl
    conv => whnf
    refine ⟨_, _, rfl, (.inl ⟨_, .inr ("groups"), .inl (U.gx_at X e11 D12 hP rfl), rfl, kpg.symm⟩), ?_⟩
    conv => whnf
    refine ⟨_, _, rfl, .inl ⟨(SqL.of (U.gx_at X e11 D12 hG (U.nod_strs _))), ?_⟩⟩
    intro p22 f23
    have g24 := Gr.rfl'.up (o := HO.tup (List.map V.str gs)) f23
    have e24 := upd_same (H := Hm) (a := p22) (o := HO.tup (List.map V.str gs))
    generalize upd Hm p22 (HO.tup (List.map V.str gs)) = J24 at g24 e24 ⊢
    conv => whnf
    refine ⟨rfl, rfl, ?_⟩
    intro p25 p26 f27 f28 h29
    have g30 := U.make_gr f27 f28 h29 (C := T.c_Question)
    have e30 := upd_same (H := upd J24 p26 (HO.own p25)) (a := p25) (o := HO.ins T.c_Question p26 [])
    generalize upd (upd J24 p26 (HO.own p25)) p25 (HO.ins T.c_Question p26 []) = J30 at g30 e30 ⊢
    conv => whnf
    refine ⟨_, _, _, _, _, _, _, _, _, rfl, e30, (g30 _ _ (g24 _ _ eT)), (dT.mono fun _ _ r => (U.TupS.up (U.TupS.up r g24) g30)), okT, (g30 _ _ e24), okG, (.inr ⟨_, ⟨_, ⟨rfl, ⟨nTZ.symm, ⟨(g30 _ _ (g24 _ _ eZ)), (dZ.mono fun _ _ r => (U.RatS.up (U.RatS.up r g24) g30))⟩⟩⟩⟩⟩), okZ, ?_⟩
    intro J31 g32 q33 h34
    refine ⟨rfl, ?_⟩
    conv => whnf
    refine ⟨(by decide), ?_⟩
    intro p35 f36
    have g37 := Gr.rfl'.up (o := HO.tup [V.str ("a")]) f36
    have e37 := upd_same (H := J31) (a := p35) (o := HO.tup [V.str ("a")])
    generalize upd J31 p35 (HO.tup [V.str ("a")]) = J37 at g37 e37 ⊢
    conv => whnf
    intro p38 p39 f40 f41 h42
    have g43 := U.make_gr f40 f41 h42 (C := T.c_Ratio)
    have e43 := upd_same (H := upd J37 p39 (HO.own p38)) (a := p38) (o := HO.ins T.c_Ratio p39 [])
    generalize upd (upd J37 p39 (HO.own p38)) p38 (HO.ins T.c_Ratio p39 []) = J43 at g43 e43 ⊢
    conv => whnf
    refine ⟨_, _, _, _, rfl, e43, ⟨(by decide), (by decide)⟩, ⟨(by decide), (by decide)⟩, ?_⟩
    intro J44 g45 e46
    refine ⟨rfl, ?_⟩
    conv => whnf
    refine ⟨(small_ok (by simp)), ?_⟩
    intro p47 f48
    have g49 := Gr.rfl'.up (o := HO.tup [V.ref p35, V.ref p38]) f48
    have e49 := upd_same (H := J44) (a := p47) (o := HO.tup [V.ref p35, V.ref p38])
    generalize upd J44 p47 (HO.tup [V.ref p35, V.ref p38]) = J49 at g49 e49 ⊢
    conv => whnf
    refine ⟨_, _, rfl, (SqT.of e49), rfl, ?_⟩
    conv => whnf
    refine ⟨_, _, rfl, ?_⟩
    conv => whnf
    refine ⟨_, _, rfl, (.inl ⟨_, .inr ("later"), (g49 _ _ (g45 _ _ (g43 _ _ (g37 _ _ (g32 _ _ (g30 _ _ (g24 _ _ eT)) (U.ne_objs (g30 _ _ (g24 _ _ eT)) e30 (fun z => by cases z))))) (U.ne_objs (g43 _ _ (g37 _ _ (g32 _ _ (g30 _ _ (g24 _ _ eT)) (U.ne_objs (g30 _ _ (g24 _ _ eT)) e30 (fun z => by cases z))))) e43 (fun z => by cases z)))), rfl, small_lt (by have h0 := dT.1; rw [byName_len] at h0; omega), rfl⟩), ?_⟩
    have x50 := U.Gx.wrote J49 p16 (HO.dK (putK kt (Sum.inr ("later")) (V.ref p35)))
    have e50 := upd_same (H := J49) (a := p16) (o := HO.dK (putK kt (Sum.inr ("later")) (V.ref p35)))
    generalize upd J49 p16 (HO.dK (putK kt (Sum.inr ("later")) (V.ref p35))) = J50 at x50 e50 ⊢
    conv => whnf
    refine ⟨_, _, rfl, ?_⟩
    conv => whnf
    refine ⟨_, _, rfl, (.inl ⟨_, .inr ("later"), (x50 _ _ (g49 _ _ (g45 _ _ (g43 _ _ (g37 _ _ (g32 _ _ (g30 _ _ (g24 _ _ eZ)) (U.ne_objs (g30 _ _ (g24 _ _ eZ)) e30 (fun z => by cases z))))) (U.ne_objs (g43 _ _ (g37 _ _ (g32 _ _ (g30 _ _ (g24 _ _ eZ)) (U.ne_objs (g30 _ _ (g24 _ _ eZ)) e30 (fun z => by cases z))))) e43 (fun z => by cases z)))) nTZ.symm), rfl, small_lt (by have h0 := dZ.1; have h1 := zok.2.2; omega), rfl⟩), ?_⟩
    have x51 := U.Gx.wrote J50 p19 (HO.dK (putK kz (Sum.inr ("later")) (V.ref p38)))
    have e51 := upd_same (H := J50) (a := p19) (o := HO.dK (putK kz (Sum.inr ("later")) (V.ref p38)))
    generalize upd J50 p19 (HO.dK (putK kz (Sum.inr ("later")) (V.ref p38))) = J51 at x51 e51 ⊢
    conv => whnf
    refine ⟨rfl, ?_⟩
    conv => whnf
    rw [qT, qZ] at q33
    have e30T : J30 p16 = some (.dK kt) := by
      exact (g30 _ _ (g24 _ _ eT))
    have e30Z : J30 p19 = some (.dK kz) := by
      exact (g30 _ _ (g24 _ _ eZ))
    have q49 : QO T.c_Question T.c_Ratio J49 p25 (srtT ts) gs (srtZ (names ts) zs) := by
      exact (U.QO.up (U.QO.up (U.QO.up q33 g37) (U.Gr.gn g43 f40 g45)) g49)
    have g319 : Gr J31 J49 := by
      exact (U.Gr.trans (U.Gr.trans g37 (U.Gr.gn g43 f40 g45)) g49)
    have o49 := h34.up g319
    have e49T : J49 p16 = some (.dK kt) := by
      exact (g319 _ _ (g32 _ _ e30T (U.ne_objs e30T e30 (fun z => by cases z))))
    have q50 := q49.gxd o49 e30T e49T x50
    have o50 := o49.gxk e49T x50
    have e50Z : J50 p19 = some (.dK kz) := by
      exact (x50 _ _ (g319 _ _ (g32 _ _ e30Z (U.ne_objs e30Z e30 (fun z => by cases z)))) nTZ.symm)
    have q51 := q50.gxd o50 e30Z e50Z x51
    have X51 : Gx d J6 J51 := by
      exact (U.Gx.gn (U.Gx.gn (U.Gx.gr (U.Gx.gr (U.Gx.gr (U.Gx.gx (U.Gx.refl _ _) X) g24) (U.Gr.gn g30 f27 g32)) g319) f16 x50) f19 x51)
    have pl51 : PlainQ J51 P ts gs zs := pl6.kp e11 D12 X51.kp
    obtain ⟨dxq, dq, gq, eq_, cq, lq, kvq, kzq, haq, _⟩ := id q51
    conv => whnf
    refine ⟨_, _, _, rfl, haq, ?_⟩
    conv => whnf
    refine ⟨_, _, _, _, rfl, q51, ?_⟩
    intro J320 p321 x322 g323 f324 e325 d326
    conv => whnf
    refine ⟨_, _, _, rfl, (g323 _ _ haq), ?_⟩
    conv => whnf
    refine ⟨_, _, _, _, rfl, (U.QO.up q51 g323), ?_⟩
    intro J327 p328 x329 g330 f331 e332 d333
    conv => whnf
    refine ⟨_, _, rfl, ?_⟩
    conv => whnf
    refine ⟨(by decide), ?_⟩
    intro p334 f335
    have g336 := Gr.rfl'.up (o := HO.tup [V.str ("a")]) f335
    have e336 := upd_same (H := J327) (a := p334) (o := HO.tup [V.str ("a")])
    generalize upd J327 p334 (HO.tup [V.str ("a")]) = J336 at g336 e336 ⊢
    conv => whnf
    intro p337 p338 f339 f340 h341
    have g342 := U.make_gr f339 f340 h341 (C := T.c_Ratio)
    have e342 := upd_same (H := upd J336 p338 (HO.own p337)) (a := p337) (o := HO.ins T.c_Ratio p338 [])
    generalize upd (upd J336 p338 (HO.own p337)) p337 (HO.ins T.c_Ratio p338 []) = J342 at g342 e342 ⊢
    conv => whnf
    refine ⟨_, _, _, _, rfl, e342, ⟨(by decide), (by decide)⟩, ⟨(by decide), (by decide)⟩, ?_⟩
    intro J343 g344 e345
    refine ⟨rfl, ?_⟩
    conv => whnf
    refine ⟨(small_ok (by simp)), ?_⟩
    intro p346 f347
    have g348 := Gr.rfl'.up (o := HO.tup [V.ref p334, V.ref p337]) f347
    have e348 := upd_same (H := J343) (a := p346) (o := HO.tup [V.ref p334, V.ref p337])
    generalize upd J343 p346 (HO.tup [V.ref p334, V.ref p337]) = J348 at g348 e348 ⊢
    conv => whnf
    refine ⟨_, _, rfl, (SqT.of e348), rfl, ?_⟩
    conv => whnf
    refine ⟨_, _, rfl, ?_⟩
    conv => whnf
    refine ⟨_, _, rfl, (.inl ⟨_, .inr ("later"), (g348 _ _ (g344 _ _ (g342 _ _ (g336 _ _ (g330 _ _ e325))) (U.ne_objs (g342 _ _ (g336 _ _ (g330 _ _ e325))) e342 (fun z => by cases z)))), rfl, small_lt (by have h0 := d326.1; rw [show (srtT ts).length = (srt (names ts)).length from byName_len] at h0; omega), rfl⟩), ?_⟩
    have x349 := U.Gx.wrote J348 p321 (HO.dK (putK x322 (Sum.inr ("later")) (V.ref p334)))
    have e349 := upd_same (H := J348) (a := p321) (o := HO.dK (putK x322 (Sum.inr ("later")) (V.ref p334)))
    generalize upd J348 p321 (HO.dK (putK x322 (Sum.inr ("later")) (V.ref p334))) = J349 at x349 e349 ⊢
    conv => whnf
    refine ⟨_, _, rfl, ?_⟩
    conv => whnf
    refine ⟨_, _, rfl, (.inl ⟨_, .inr ("later"), (x349 _ _ (g348 _ _ (g344 _ _ (g342 _ _ (g336 _ _ e332)) (U.ne_objs (g342 _ _ (g336 _ _ e332)) e342 (fun z => by cases z)))) (U.ne_fresh f331 e325)), rfl, small_lt (by have h0 := d333.1; rw [show (srtZ (names ts) zs).length = (srt (names ts)).length from byName_len] at h0; omega), rfl⟩), ?_⟩
    have x350 := U.Gx.wrote J349 p328 (HO.dK (putK x329 (Sum.inr ("later")) (V.ref p337)))
    have e350 := upd_same (H := J349) (a := p328) (o := HO.dK (putK x329 (Sum.inr ("later")) (V.ref p337)))
    generalize upd J349 p328 (HO.dK (putK x329 (Sum.inr ("later")) (V.ref p337))) = J350 at x350 e350 ⊢
    conv => whnf
    refine ⟨rfl, ?_⟩
    conv => whnf
    have inC := lil.1.2
    conv => whnf
    refine ⟨_, _, _, _, _, rfl, (U.QO.up q51 (U.Gr.gn (U.Gr.gn (U.Gr.trans (U.Gr.trans (U.Gr.trans (U.Gr.trans g323 g330) g336) (U.Gr.gn g342 f339 g344)) g348) f324 x349) (U.Gr.free' g323 f331) x350)), (U.PlainQ.up pl51 (U.Gr.gn (U.Gr.gn (U.Gr.trans (U.Gr.trans (U.Gr.trans (U.Gr.trans g323 g330) g336) (U.Gr.gn g342 f339 g344)) g348) f324 x349) (U.Gr.free' g323 f331) x350)), okp, inC, ?_⟩
    intro J351 g352
    conv => whnf
    refine brF ?_
    conv => whnf
    refine ⟨_, _, _, _, _, _, _, rfl, (g352 _ _ (x350 _ _ (x349 _ _ (g348 _ _ (g344 _ _ (g342 _ _ (g336 _ _ (g330 _ _ (g323 _ _ (x51 _ _ (x50 _ _ (g319 _ _ (g32 _ _ (g30 _ _ (g24 _ _ ed)) (U.ne_fresh f27 (g24 _ _ ed)).symm)) nTd.symm) nZd.symm))))) (U.ne_fresh f339 (g336 _ _ (g330 _ _ (g323 _ _ (x51 _ _ (x50 _ _ (g319 _ _ (g32 _ _ (g30 _ _ (g24 _ _ ed)) (U.ne_fresh f27 (g24 _ _ ed)).symm)) nTd.symm) nZd.symm))))).symm)) (U.ne_fresh f324 (x51 _ _ (x50 _ _ (g319 _ _ (g32 _ _ (g30 _ _ (g24 _ _ ed)) (U.ne_fresh f27 (g24 _ _ ed)).symm)) nTd.symm) nZd.symm)).symm) (U.ne_fresh f331 (g323 _ _ (x51 _ _ (x50 _ _ (g319 _ _ (g32 _ _ (g30 _ _ (g24 _ _ ed)) (U.ne_fresh f27 (g24 _ _ ed)).symm)) nTd.symm) nZd.symm))).symm)), Di, (by omega), (U.PlainQ.up (U.PlainQ.up pl51 (U.Gr.gn (U.Gr.gn (U.Gr.trans (U.Gr.trans (U.Gr.trans (U.Gr.trans g323 g330) g336) (U.Gr.gn g342 f339 g344)) g348) f324 x349) (U.Gr.free' g323 f331) x350)) g352), okp, lil.2.1, (by have := lil.2.2.1; omega), ?_⟩
    intro J353 p354 o355 x356 x357 x358 g359 e360 D361 h362 h363 h364
    obtain ⟨okt', okg', okz', nz', low'⟩ := id h363
    obtain ⟨okt, okg, okz, nz, low⟩ := id okp
    have ndz' := h363.ndz
    have ndz := okp.ndz
    have inC' : ∀ z ∈ names x356, z ∈ namesC := by rw [h364]; exact inC
    conv => whnf
    refine ⟨_, _, _, _, rfl, h362, okt', okg', okz', ndz', low', ?_⟩
    intro J365 p366 g367 f368 q369
    conv => whnf
    refine ⟨_, _, _, _, rfl, (U.PlainQ.up h362 g367), okt', okg', okz', nz', ?_⟩
    intro J370 p371 g372 f373 e374
    conv => whnf
    refine ⟨_, _, _, _, rfl, (U.PlainQ.up (U.PlainQ.up (U.PlainQ.kpi (U.PlainQ.up (U.PlainQ.up pl51 (U.Gr.gn (U.Gr.gn (U.Gr.trans (U.Gr.trans (U.Gr.trans (U.Gr.trans g323 g330) g336) (U.Gr.gn g342 f339 g344)) g348) f324 x349) (U.Gr.free' g323 f331) x350)) g352) (g352 _ _ (x350 _ _ (x349 _ _ (g348 _ _ (g344 _ _ (g342 _ _ (g336 _ _ (g330 _ _ (g323 _ _ (x51 _ _ (x50 _ _ (g319 _ _ (g32 _ _ (g30 _ _ (g24 _ _ ed)) (U.ne_fresh f27 (g24 _ _ ed)).symm)) nTd.symm) nZd.symm))))) (U.ne_fresh f339 (g336 _ _ (g330 _ _ (g323 _ _ (x51 _ _ (x50 _ _ (g319 _ _ (g32 _ _ (g30 _ _ (g24 _ _ ed)) (U.ne_fresh f27 (g24 _ _ ed)).symm)) nTd.symm) nZd.symm))))).symm)) (U.ne_fresh f324 (x51 _ _ (x50 _ _ (g319 _ _ (g32 _ _ (g30 _ _ (g24 _ _ ed)) (U.ne_fresh f27 (g24 _ _ ed)).symm)) nTd.symm) nZd.symm)).symm) (U.ne_fresh f331 (g323 _ _ (x51 _ _ (x50 _ _ (g319 _ _ (g32 _ _ (g30 _ _ (g24 _ _ ed)) (U.ne_fresh f27 (g24 _ _ ed)).symm)) nTd.symm) nZd.symm))).symm)) Di g359) g367) g372), okt, okg, okz, nz, ?_⟩
    intro J375 p376 g377 f378 e379
    conv => whnf
    have qA := q51.qq
    have qB := q369.qq
    have eqL : decide (qLines (srtT x356) x357 (srtZ (names x356) x358) = qLines (srtT ts) gs (srtZ (names ts) zs)) = decide (srtT ts = srtT x356 ∧ gs = x357 ∧ srtZ (names ts) zs = srtZ (names x356) x358) :=
      decide_eq_decide.mpr ⟨fun e => qLines_inj qA qB e.symm, fun ⟨a, b, c⟩ => by rw [a, b, c]⟩
    have eqR : decide (srtT x356 = srtT ts ∧ x357 = gs ∧ srtZ (names x356) x358 = srtZ (names ts) zs) = decide (srtT ts = srtT x356 ∧ gs = x357 ∧ srtZ (names ts) zs = srtZ (names x356) x358) :=
      decide_eq_decide.mpr ⟨fun ⟨a, b, c⟩ => ⟨a.symm, b.symm, c.symm⟩, fun ⟨a, b, c⟩ => ⟨a.symm, b.symm, c.symm⟩⟩
    refine ⟨_, _, .lst (SqL.of (g377 _ _ e374)) (dp_txs _), .lst (SqL.of e379) (dp_txs _), shaped_txs qB.asc, shaped_txs qA.asc, ?_⟩
    rw [eqv_lsts, eqL]
    have q375 : QO T.c_Question T.c_Ratio J375 p25 (srtT ts) gs (srtZ (names ts) zs) := by
      exact (U.QO.up (U.QO.up (U.QO.up (U.QO.kpi (U.QO.up (U.QO.up q51 (U.Gr.gn (U.Gr.gn (U.Gr.trans (U.Gr.trans (U.Gr.trans (U.Gr.trans g323 g330) g336) (U.Gr.gn g342 f339 g344)) g348) f324 x349) (U.Gr.free' g323 f331) x350)) g352) (g352 _ _ (x350 _ _ (x349 _ _ (g348 _ _ (g344 _ _ (g342 _ _ (g336 _ _ (g330 _ _ (g323 _ _ (x51 _ _ (x50 _ _ (g319 _ _ (g32 _ _ (g30 _ _ (g24 _ _ ed)) (U.ne_fresh f27 (g24 _ _ ed)).symm)) nTd.symm) nZd.symm))))) (U.ne_fresh f339 (g336 _ _ (g330 _ _ (g323 _ _ (x51 _ _ (x50 _ _ (g319 _ _ (g32 _ _ (g30 _ _ (g24 _ _ ed)) (U.ne_fresh f27 (g24 _ _ ed)).symm)) nTd.symm) nZd.symm))))).symm)) (U.ne_fresh f324 (x51 _ _ (x50 _ _ (g319 _ _ (g32 _ _ (g30 _ _ (g24 _ _ ed)) (U.ne_fresh f27 (g24 _ _ ed)).symm)) nTd.symm) nZd.symm)).symm) (U.ne_fresh f331 (g323 _ _ (x51 _ _ (x50 _ _ (g319 _ _ (g32 _ _ (g30 _ _ (g24 _ _ ed)) (U.ne_fresh f27 (g24 _ _ ed)).symm)) nTd.symm) nZd.symm))).symm)) Di g359) g367) g372) g377)
    have n375 : QO T.c_Question T.c_Ratio J375 p366 (srtT x356) x357 (srtZ (names x356) x358) := by
      exact (U.QO.up (U.QO.up q369 g372) g377)
    obtain ⟨dx5, d5, g5, e5', c5, l5, kv5, kz5, ha5, _⟩ := id q375
    obtain ⟨dx6, d6, g6, e6, c6, l6, kv6, kz6, ha6, _⟩ := id n375
    conv => whnf
    refine ⟨_, _, rfl, ?_⟩
    conv => whnf
    refine ⟨_, _, _, _, _, rfl, n375, (U.PlainQ.up (U.PlainQ.up (U.PlainQ.up h362 g367) g372) g377), h363, inC', ?_⟩
    intro J380 g381
    conv => whnf
    refine brF ?_
    conv => whnf
    refine ⟨_, _, _, _, (g381 _ _ ha5), (g381 _ _ ha6), ?_⟩
    conv => whnf
    refine ⟨_, _, _, _, _, rfl, (U.QO.up q375 g381), .inl ⟨_, _, _, _, rfl, (U.QO.up n375 g381), ?_⟩⟩
    intro J382 g383
    conv => whnf
    refine ⟨_, rfl, ?_⟩
    conv => whnf
    refine brN (by rw [decide_eq_true rfl]; rfl) ?_
    conv => whnf
    refine ⟨_, _, (g383 _ _ (g381 _ _ ha6)), (.inl ⟨_, _, _, rfl, g383 _ _ (g381 _ _ ha5)⟩), ?_⟩
    conv => whnf
    refine ⟨_, _, _, _, _, rfl, (U.QO.up (U.QO.up n375 g381) g383), .inl ⟨_, _, _, _, rfl, (U.QO.up (U.QO.up q375 g381) g383), ?_⟩⟩
    intro J384 g385
    refine ⟨_, rfl, ?_⟩
    conv => whnf
    refine ⟨_, rfl, ?_⟩
    conv => whnf
    rw [eqR]
    refine brN ?_ ?_
    · cases decide (srtT ts = srtT x356 ∧ gs = x357 ∧ srtZ (names ts) zs = srtZ (names x356) x358) <;> rfl
    conv => whnf
    refine ⟨_, _, _, rfl, (g385 _ _ (g383 _ _ (g381 _ _ ha5))), ?_⟩
    conv => whnf
    refine ⟨_, _, _, _, rfl, (U.QO.up (U.QO.up (U.QO.up q375 g381) g383) g385), ?_⟩
    intro p386 e387
    conv => whnf
    refine ⟨_, _, (g385 _ _ (g383 _ _ (g381 _ _ ha5))), (.inr ⟨_, .tup e387⟩), ?_⟩
    conv => whnf
    refine ⟨_, _, _, _, _, rfl, (U.QO.up (U.QO.up (U.QO.up q375 g381) g383) g385), .inr ⟨_, (.tup e387), _, rfl, ?_⟩⟩
    conv => whnf
    refine brT ?_
    conv => whnf
    refine ⟨_, _, (g385 _ _ (g383 _ _ (g381 _ _ ha5))), (.inr ⟨_, .non⟩), ?_⟩
    conv => whnf
    refine ⟨_, _, _, _, _, rfl, (U.QO.up (U.QO.up (U.QO.up q375 g381) g383) g385), .inr ⟨_, .non, _, rfl, ?_⟩⟩
    conv => whnf
    refine brT ?_
    conv => whnf
    refine ⟨_, _, _, _, rfl, (U.PlainQ.up (U.PlainQ.up (U.PlainQ.up (U.PlainQ.up (U.PlainQ.up (U.PlainQ.up (U.PlainQ.kpi (U.PlainQ.up (U.PlainQ.up pl51 (U.Gr.gn (U.Gr.gn (U.Gr.trans (U.Gr.trans (U.Gr.trans (U.Gr.trans g323 g330) g336) (U.Gr.gn g342 f339 g344)) g348) f324 x349) (U.Gr.free' g323 f331) x350)) g352) (g352 _ _ (x350 _ _ (x349 _ _ (g348 _ _ (g344 _ _ (g342 _ _ (g336 _ _ (g330 _ _ (g323 _ _ (x51 _ _ (x50 _ _ (g319 _ _ (g32 _ _ (g30 _ _ (g24 _ _ ed)) (U.ne_fresh f27 (g24 _ _ ed)).symm)) nTd.symm) nZd.symm))))) (U.ne_fresh f339 (g336 _ _ (g330 _ _ (g323 _ _ (x51 _ _ (x50 _ _ (g319 _ _ (g32 _ _ (g30 _ _ (g24 _ _ ed)) (U.ne_fresh f27 (g24 _ _ ed)).symm)) nTd.symm) nZd.symm))))).symm)) (U.ne_fresh f324 (x51 _ _ (x50 _ _ (g319 _ _ (g32 _ _ (g30 _ _ (g24 _ _ ed)) (U.ne_fresh f27 (g24 _ _ ed)).symm)) nTd.symm) nZd.symm)).symm) (U.ne_fresh f331 (g323 _ _ (x51 _ _ (x50 _ _ (g319 _ _ (g32 _ _ (g30 _ _ (g24 _ _ ed)) (U.ne_fresh f27 (g24 _ _ ed)).symm)) nTd.symm) nZd.symm))).symm)) Di g359) g367) g372) g377) g381) g383) g385), okt, okg, okz, ndz, low, ?_⟩
    intro J388 p389 g390 f391 q392
    conv => whnf
    obtain ⟨dx7, d7, g7, e7, c7, l7, kv7, kz7, ha7, _⟩ := id q392
    refine ⟨_, _, _, _, (g390 _ _ (g385 _ _ (g383 _ _ (g381 _ _ ha5)))), ha7, ?_⟩
    conv => whnf
    refine ⟨_, _, _, _, _, rfl, (U.QO.up (U.QO.up (U.QO.up (U.QO.up q375 g381) g383) g385) g390), .inl ⟨_, _, _, _, rfl, q392, ?_⟩⟩
    intro J393 g394
    conv => whnf
    rw [decide_eq_true (show srtT ts = srtT ts ∧ gs = gs ∧ srtZ (names ts) zs = srtZ (names ts) zs from ⟨rfl, rfl, rfl⟩)]
    have Dlast : Dice (n + 100) o355 := Dice.up D361 (by omega)
    conv => whnf
    exact k _ _ (U.Kp.gr (U.Kp.gr (U.Kp.gr (U.Kp.gr (U.Kp.gr (U.Kp.gr (U.Kp.gr (U.Kp.gr (U.Kp.trans (U.Kp.gr (U.Kp.gr (U.Kp.gx (U.Kp.gx (U.Kp.gr (U.Kp.refl _ _) g3) g10) X51) (U.Gr.gn (U.Gr.gn (U.Gr.trans (U.Gr.trans (U.Gr.trans (U.Gr.trans g323 g330) g336) (U.Gr.gn g342 f339 g344)) g348) f324 x349) (U.Gr.free' g323 f331) x350)) g352) g359) g367) g372) g377) g381) g383) g385) g390) g394) (g394 _ _ (g390 _ _ (g385 _ _ (g383 _ _ (g381 _ _ (g377 _ _ (g372 _ _ (g367 _ _ e360)))))))) Dlast
def sp__law_plain (K : PySem.W.Frag) : Sp := fun vs H Q _ => ∃ (D G : Addr) (kt : List (Key × V)) (ts : List (Str × List Str)) (gs : List Str), vs = [.ref D, .ref G] ∧ H D = some (.dK kt) ∧ DRel LstS H kt ts ∧ (names ts).Nodup ∧ ts.length ≤ 6 ∧ H G = some (.lst (gs.map V.str)) ∧
  ∀ (H' : Hp) (P S : Addr) (kz : List (Key × V)), Gr H H' → H P = none → H S = none → P ≠ S → H' P = some (.dK (plk D G S)) → H' S = some (.dK kz) → DRel PQ H' kz (ts.map fun t => (t.1, (1, 1))) → Q (.ref P) H'
theorem ok__law_plain (T : Txt K mg) : FnOk P w K mg base CX0 1 T.a__law_plain T.d__law_plain ["_law_tables", "_law_groups"] (sp__law_plain K) := by
  refine T.F__law_plain.ok sc__law_plain (fun vs H Q E h => ?_) (fun cdv A outer s H vs Q E hr h => ?_)
  · obtain ⟨D, G, kt, ts, gs, rfl, _⟩ := h; rfl
  · obtain ⟨D, G, kt, ts, gs, rfl, hd, hk, nd, few, hg, k⟩ := h
    refine ⟨_, (pss_one (ps_ret (pe_disp (pps_cons pe_str (pev 0) (pps_cons pe_str (pev 1) (pps_cons pe_str (pe_callTy (call_dictP rfl) (by rfl) T.b_dict (by decide +kernel) (pa_cons (pe_lock (pe_lc (own := [("_law_name", 2)]) (g := (gName 2)) (tt := tYes) (te := (tTup (tCons (uV 2) (tCons (tTup (tCons (tC (.int 1)) (tCons (tC (.int 1)) tNil))) tNil)))) rfl sc__law_plain.nd (pi_keys (pev 0)) (blkOk_by (own := [("_law_name", 2)]) (N := ["_law_tables", "_law_groups", "_law_name"]) (sc := defScope s__law_plain) (by decide +kernel)) (fun _ _ _ _ _ => pg_name (i := 2) sc__law_plain.nd rfl (by first | exact Or.inl rfl | exact Or.inr rfl)) (fun _ _ _ _ _ => pts_nil) (fun _ _ _ _ _ => (pe_tup (pa_cons (pev 2) (pa_cons (pe_tup (pa_cons pe_int (pa_cons pe_int pa_nil))) pa_nil)))))) pa_nil)) pps_nil))) (by rfl) (by rfl) (fun z => by cases z) (by decide)))), ?_⟩
    conv => whnf
    intro P hP
    conv => whnf
    have nPD : P ≠ D := fun z => by rw [z, hd] at hP; cases hP
    have g1 := Gr.rfl'.up (o := .dK []) hP
    have eP := upd_same (H := H) (a := P) (o := .dK [])
    generalize upd H P (.dK []) = H1 at g1 eP ⊢
    have hd1 := g1 _ _ hd
    refine ⟨D, _, hd1, trivial, fun od => ?_⟩
    conv => whnf
    refine ⟨D, od, rfl, .inl ⟨kt, upd_same, fun B hB => ?_⟩⟩
    have lk1 := hk.1
    refine lc_it walk_keys (fun i Hm => Gr (upd H1 D (.frz od (.dK kt))) Hm ∧ ∃ (ps : List Addr) (kvs : List (Key × V)), Hm B = some (.lst (ps.map V.ref)) ∧ PySem.Paired (fun p kv => Hm p = some (.tup [kV kv.1, kv.2])) ps kvs ∧ DRel PQ Hm kvs ((ts.take i).map fun t => (t.1, (1, 1))))
      ⟨Gr.rfl'.up hB, [], [], upd_same, .nil, .nil⟩ (fun _ _ _ L => L.1 _ _ upd_same) ?_ ?_
    · rintro i x Hm Hn hi ⟨g2, ps, kvs, e2, pp, dd⟩ ⟨rfl, k', v', hkv, rfl⟩
      obtain ⟨t, ht, e1, _⟩ := hk.at hkv
      have e1 : k' = .inr t.1 := e1
      subst e1
      have lp : ps.length ≤ i := by rw [pp.length, dd.1, List.length_map, List.length_take]; exact Nat.min_le_left _ _
      conv => whnf
      refine ⟨rfl, ?_⟩
      conv => whnf
      refine ⟨small_ok (by simp), fun a ha => ?_⟩
      conv => whnf
      refine ⟨small_ok (by simp), fun b hb => ?_⟩
      conv => whnf
      have ga := Gr.rfl'.up (o := .tup [.int 1, .int 1]) ha
      have gb := Gr.rfl'.up (o := .tup [kV (.inr t.1), .ref a]) hb
      have eb := upd_same (H := upd Hn a (.tup [.int 1, .int 1])) (a := b) (o := .tup [kV (.inr t.1), .ref a])
      have ea := gb _ _ (upd_same (H := Hn) (a := a) (o := .tup [.int 1, .int 1]))
      have g3 := (g2.trans ga).trans gb
      have e3 := gb _ _ (ga _ _ e2)
      have pp3 := pp.mono fun p kv e => gb _ _ (ga _ _ e)
      have dd3 := dd.mono fun v b r => PQ.up (PQ.up r ga) gb
      generalize upd (upd Hn a (.tup [.int 1, .int 1])) b (.tup [kV (.inr t.1), .ref a]) = H3 at eb ea g3 e3 pp3 dd3 ⊢
      refine ⟨_, e3, small_lt (by rw [List.length_map]; omega), Gr.app hB g3, ps ++ [b], kvs ++ [(.inr t.1, .ref a)], by rw [upd_same, List.map_append]; rfl, ?_, ?_⟩
      · refine PySem.Paired.snoc (pp3.mono fun p kv e => ?_) ?_
        · rw [upd_ne fun z => by rw [z, e3] at e; cases e]
          exact e
        · rw [upd_ne fun z => by rw [z, e3] at eb; cases eb]
          exact eb
      · rw [List.take_add_one, ht, List.map_append]
        exact (dd3.mono fun v b r => PQ.off r e3 (fun _ z => by cases z)).snoc (PQ.off ⟨a, rfl, ea⟩ e3 (fun _ z => by cases z))
    rintro Hm ⟨g2, ps, kvs, e2, pp, dd⟩
    rw [List.take_of_length_le (by rw [lk1]; exact Nat.le_refl _)] at dd
    refine ⟨g2 _ _ upd_same, ?_⟩
    have G2 : Gr H1 (upd Hm D (.dK kt)) := Gr.unlock hd1 g2
    have nBD : B ≠ D := fun z => by rw [z, upd_same] at hB; cases hB
    have eD := g2 _ _ (upd_same (H := H1) (a := D) (o := .frz od (.dK kt)))
    have e3 : (upd Hm D (.dK kt)) B = some (.lst (ps.map V.ref)) := by rw [upd_ne nBD]; exact e2
    have pp3 : PySem.Paired (fun p kv => (upd Hm D (.dK kt)) p = some (.tup [kV kv.1, kv.2])) ps kvs := pp.mono fun p kv e => by rw [upd_ne fun z => by rw [z, eD] at e; cases e]; exact e
    have dd3 : DRel PQ (upd Hm D (.dK kt)) kvs (ts.map fun t => (t.1, (1, 1))) := dd.mono fun v b r => PQ.off r eD (fun _ z => by cases z)
    generalize upd Hm D (.dK kt) = H2 at G2 e3 pp3 dd3 ⊢
    have nn : names (ts.map fun t => (t.1, ((1 : Nat), (1 : Nat)))) = names ts := by unfold names; rw [List.map_map]; rfl
    conv => whnf
    refine ⟨B, ps, kvs, rfl, SqL.of e3, pp3.mono fun p kv e => SqT.of e, fun S hS => ?_⟩
    rw [merge_nil dd3 (by rw [nn]; exact nd)]
    conv => whnf
    have eP2 := G2 _ _ eP
    have nPS : P ≠ S := fun z => by rw [← z, eP2] at hS; cases hS
    have gS := G2.up (o := .dK kvs) hS
    have dd4 := dd3.mono fun v b r => PQ.up r (Gr.rfl'.up (o := .dK kvs) hS)
    refine ⟨by rw [upd_ne nPS]; exact eP2, plk D G S, rfl, by show 3 ≤ 15; decide, ?_⟩
    rw [show mergeK [] (plk D G S) = plk D G S from merge_nil (R := fun _ _ _ => True) (H := H) (ts := [("tables", ()), ("groups", ()), ("sizes", ())]) (.add rfl trivial (.add rfl trivial (.add rfl trivial .nil))) (by decide)]
    have hSn : H S = none := (g1.trans G2).free' hS
    refine k _ P S kvs (Gr.app hP (g1.trans gS)) hP hSn nPS upd_same (by rw [upd_ne nPS.symm, upd_same]) (dd4.mono fun v b r => PQ.off r (by rw [upd_ne nPS]; exact eP2) (fun _ z => by cases z))
def sp__law_written (K : PySem.W.Frag) : Sp := fun vs H Q _ => ∃ (n : Nat), vs = [.int (n : Int)] ∧ n < 8 ∧ ∀ (H' : Hp) (P : Addr) (ts : List (Str × List Str)) (gs : List Str) (zs : List (Str × (Nat × Nat))), Gr H H' → H P = none → PlainQ H' P ts gs zs → OKP ts gs zs ∧ Lil 4 4 ts → Q (.ref P) H'
theorem plain_end {K : PySem.W.Frag} {ts : List (Str × List Str)} {gs us : List Str} {H H2 : Hp} {R : VK} {D G : Addr} {kt : List (Key × V)} (ok : okB ts gs us = true) (sm : lilB ts us = true) (G2 : Gr H H2) (eD2 : H2 D = some (.dK kt)) (rD2 : DRel LstS H2 kt ts) (eG : H2 G = some (.lst (gs.map V.str)))
    (h : ∀ (H' : Hp) (P : Addr) (ts : List (Str × List Str)) (gs : List Str) (zs : List (Str × (Nat × Nat))), Gr H H' → H P = none → PlainQ H' P ts gs zs → OKP ts gs zs ∧ Lil 4 4 ts → R (.ref P) H') : sp__law_plain K [.ref D, .ref G] H2 R E0 := by
  obtain ⟨okt, okg⟩ := okB_ok ok
  have few := okt.few
  refine ⟨D, G, kt, ts, gs, rfl, eD2, rD2, okt.nd, few.2, eG, fun H3 P S kz g3 hP hS nPS eP eS rS => ?_⟩
  have nPD : P ≠ D := fun z => by rw [z, eD2] at hP; cases hP
  have nDS : D ≠ S := fun z => by rw [← z, eD2] at hS; cases hS
  exact h H3 P ts gs (ones ts) (G2.trans g3) (G2.free' hP) ⟨D, G, S, kt, kz, _, eP, ⟨plk_t, plk_g, plk_s⟩, g3 _ _ eD2, rD2.mono fun v b r => LstS.up r g3, g3 _ _ eG, eS, rS, nPD, nPS, nDS⟩ ⟨okp_ones okt okg, lil_of ok sm⟩
/-- one of them -/
theorem written_read {K : PySem.W.Frag} {ts : List (Str × List Str)} {gs us : List Str} {σ : L2.St} {H : Hp} {R : VK} (ok : okB ts gs us = true) (sm : lilB ts us = true)
    (h : ∀ (H' : Hp) (P : Addr) (ts : List (Str × List Str)) (gs : List Str) (zs : List (Str × (Nat × Nat))), Gr H H' → H P = none → PlainQ H' P ts gs zs → OKP ts gs zs ∧ Lil 4 4 ts → R (.ref P) H') :
    tCall (sp__law_plain K) [] E0 (tCons (tDisp (dispT ts)) (tCons (tLst (tl gs)) tNil)) σ H R := by
  obtain ⟨okt, okg⟩ := okB_ok ok
  have few := okt.few
  show tDisp (dispT ts) σ H fun x H1 => tCons (tLst (tl gs)) tNil σ H1 fun xs H2 => sp__law_plain K ((x :: xs) ++ []) H2 R E0
  refine disp_read (fun t ht => by have := (okt.cols t ht).1.2; omega) (by omega) okt.nd fun H1 D kt g1 hD eD rD => ?_
  have gf := okg.few
  show tl gs σ H1 fun xs H2 => xs.length ≤ sizeLine ∧ ∀ p, H2 p = none → sp__law_plain K ([.ref D, .ref p] ++ []) (upd H2 p (.lst xs)) R E0
  refine tl_read gs ⟨by rw [List.length_map]; exact small_ok (by omega), fun G hG => ?_⟩
  have g2 := Gr.rfl'.up (o := .lst (gs.map V.str)) hG
  have eG := upd_same (H := H1) (a := G) (o := .lst (gs.map V.str))
  have eD2 := g2 _ _ eD
  have rD2 := rD.mono fun v b r => LstS.up r g2
  have G2 := g1.trans g2
  exact plain_end ok sm G2 eD2 rD2 eG h
theorem ok__law_written (T : Txt K mg) : FnOk P w K mg base CX0 2 T.a__law_written T.d__law_written ["_law_way"] (sp__law_written K) := by
  refine T.F__law_written.ok sc__law_written (fun vs H Q E h => ?_) (fun cdv A outer s H vs Q E hr h => ?_)
  · obtain ⟨n, rfl, _⟩ := h; rfl
  · obtain ⟨n, rfl, hn, k⟩ := h
    refine ⟨_, (pss_cons (psIf (pt_cmpR (opEq (hu64 hr)) (pev 0) pe_int (nomark _)) (pss_one (ps_ret (pe_call (ok__law_plain T) (hr.mono (by decide)) (by rfl) T.g__law_plain T.F__law_plain.kp T.B__law_plain .nil pass0 (pa_cons (pe_disp (pps_cons pe_str (pe_lst (pa_cons pe_str (pa_cons pe_str pa_nil))) (pps_cons pe_str (pe_lst (pa_cons pe_str (pa_cons pe_str pa_nil))) (pps_cons pe_str (pe_lst (pa_cons pe_str (pa_cons pe_str pa_nil))) pps_nil))) (by rfl) (by rfl) (fun z => by cases z) (by decide)) (pa_cons (pe_lst pa_nil) pa_nil))))) pss_nil)
        (pss_cons (psIf (pt_cmpR (opEq (hu64 hr)) (pev 0) pe_int (nomark _)) (pss_one (ps_ret (pe_call (ok__law_plain T) (hr.mono (by decide)) (by rfl) T.g__law_plain T.F__law_plain.kp T.B__law_plain .nil pass0 (pa_cons (pe_disp (pps_cons pe_str (pe_lst (pa_cons pe_str (pa_cons pe_str pa_nil))) (pps_cons pe_str (pe_lst (pa_cons pe_str (pa_cons pe_str pa_nil))) (pps_cons pe_str (pe_lst (pa_cons pe_str pa_nil)) pps_nil))) (by rfl) (by rfl) (fun z => by cases z) (by decide)) (pa_cons (pe_lst (pa_cons pe_str pa_nil)) pa_nil))))) pss_nil)
        (pss_cons (psIf (pt_cmpR (opEq (hu64 hr)) (pev 0) pe_int (nomark _)) (pss_one (ps_ret (pe_call (ok__law_plain T) (hr.mono (by decide)) (by rfl) T.g__law_plain T.F__law_plain.kp T.B__law_plain .nil pass0 (pa_cons (pe_disp (pps_cons pe_str (pe_lst (pa_cons pe_str (pa_cons pe_str pa_nil))) (pps_cons pe_str (pe_lst (pa_cons pe_str (pa_cons pe_str pa_nil))) (pps_cons pe_str (pe_lst (pa_cons pe_str (pa_cons pe_str pa_nil))) pps_nil))) (by rfl) (by rfl) (fun z => by cases z) (by decide)) (pa_cons (pe_lst pa_nil) pa_nil))))) pss_nil)
        (pss_cons (psIf (pt_cmpR (opEq (hu64 hr)) (pev 0) pe_int (nomark _)) (pss_cons (ps_set (i := 1) sc__law_written.nd rfl (by first | exact Or.inl rfl | exact Or.inr rfl) (pe_disp (pps_cons pe_str (pe_lst (pa_cons pe_str (pa_cons pe_str pa_nil))) (pps_cons pe_str (pe_lst (pa_cons pe_str (pa_cons pe_str pa_nil))) (pps_cons pe_str (pe_lst (pa_cons pe_str (pa_cons pe_str pa_nil))) (pps_cons pe_str (pe_lst (pa_cons pe_str pa_nil)) pps_nil)))) (by rfl) (by rfl) (fun z => by cases z) (by decide)))
        (pss_one (ps_ret (pe_call (ok__law_plain T) (hr.mono (by decide)) (by rfl) T.g__law_plain T.F__law_plain.kp T.B__law_plain .nil pass0 (pa_cons (pev 1) (pa_cons (pe_lst (pa_cons pe_str (pa_cons pe_str (pa_cons pe_str pa_nil)))) pa_nil)))))) pss_nil)
        (pss_cons (psIf (pt_cmpR (opEq (hu64 hr)) (pev 0) pe_int (nomark _)) (pss_one (ps_ret (pe_call (ok__law_plain T) (hr.mono (by decide)) (by rfl) T.g__law_plain T.F__law_plain.kp T.B__law_plain .nil pass0 (pa_cons (pe_disp (pps_cons pe_str (pe_lst (pa_cons pe_str (pa_cons pe_str pa_nil))) (pps_cons pe_str (pe_lst (pa_cons pe_str (pa_cons pe_str pa_nil))) (pps_cons pe_str (pe_lst (pa_cons pe_str pa_nil)) (pps_cons pe_str (pe_lst (pa_cons pe_str (pa_cons pe_str pa_nil))) pps_nil)))) (by rfl) (by rfl) (fun z => by cases z) (by decide)) (pa_cons (pe_lst pa_nil) pa_nil))))) pss_nil)
        (pss_cons (psIf (pt_cmpR (opEq (hu64 hr)) (pev 0) pe_int (nomark _)) (pss_one (ps_ret (pe_call (ok__law_plain T) (hr.mono (by decide)) (by rfl) T.g__law_plain T.F__law_plain.kp T.B__law_plain .nil pass0 (pa_cons (pe_disp (pps_cons pe_str (pe_lst (pa_cons pe_str (pa_cons pe_str (pa_cons pe_str pa_nil)))) (pps_cons pe_str (pe_lst (pa_cons pe_str (pa_cons pe_str pa_nil))) (pps_cons pe_str (pe_lst (pa_cons pe_str (pa_cons pe_str pa_nil))) (pps_cons pe_str (pe_lst (pa_cons pe_str (pa_cons pe_str (pa_cons pe_str pa_nil)))) pps_nil)))) (by rfl) (by rfl) (fun z => by cases z) (by decide)) (pa_cons (pe_lst (pa_cons pe_str pa_nil)) pa_nil))))) pss_nil)
        (pss_cons (psIf (pt_cmpR (opEq (hu64 hr)) (pev 0) pe_int (nomark _)) (pss_one (ps_ret (pe_call (ok__law_plain T) (hr.mono (by decide)) (by rfl) T.g__law_plain T.F__law_plain.kp T.B__law_plain .nil pass0 (pa_cons (pe_disp (pps_cons pe_str (pe_lst (pa_cons pe_str (pa_cons pe_str (pa_cons pe_str pa_nil)))) pps_nil) (by rfl) (by rfl) (fun z => by cases z) (by decide)) (pa_cons (pe_lst (pa_cons pe_str pa_nil)) pa_nil))))) pss_nil)
        (pss_one (ps_ret (pe_call (ok__law_plain T) (hr.mono (by decide)) (by rfl) T.g__law_plain T.F__law_plain.kp T.B__law_plain .nil pass0 (pa_cons (pe_disp (pps_cons pe_str (pe_lst (pa_cons pe_str (pa_cons pe_str pa_nil))) (pps_cons pe_str (pe_lst (pa_cons pe_str pa_nil)) (pps_cons pe_str (pe_lst (pa_cons pe_str (pa_cons pe_str pa_nil))) pps_nil))) (by rfl) (by rfl) (fun z => by cases z) (by decide)) (pa_cons (pe_lst (pa_cons pe_str (pa_cons pe_str pa_nil))) pa_nil)))))))))))), ?_⟩
    conv => whnf
    refine ⟨_, rfl, ?_⟩
    refine brD (fun h0 => ?_) (fun h0 => ?_)
    · exact written_read (ts := [("r", ["a", "b"]), ("s", ["b", "c"]), ("t", ["a", "c"])]) (gs := []) (us := ["a", "b", "c"]) (by decide +kernel) (by decide +kernel) k
    conv => whnf
    refine ⟨_, rfl, ?_⟩
    refine brD (fun h1 => ?_) (fun h1 => ?_)
    · exact written_read (ts := [("r", ["a", "b"]), ("s", ["a", "c"]), ("u", ["a"])]) (gs := ["a"]) (us := ["a", "b", "c"]) (by decide +kernel) (by decide +kernel) k
    conv => whnf
    refine ⟨_, rfl, ?_⟩
    refine brD (fun h2 => ?_) (fun h2 => ?_)
    · exact written_read (ts := [("r", ["a", "b"]), ("s", ["b", "c"]), ("t", ["c", "d"])]) (gs := []) (us := ["a", "b", "c", "d"]) (by decide +kernel) (by decide +kernel) k
    conv => whnf
    refine ⟨_, rfl, ?_⟩
    refine brD (fun h3 => ?_) (fun h3 => ?_)
    · conv => whnf
      intro D hD
      refine pairs_read [("r", ["a", "b"]), ("s", ["b", "c"]), ("t", ["a", "c"]), ("u", ["d"])] (by decide) fun H1 kt g1 rD => ?_
      have e0 := g1 _ _ (upd_same (H := H) (a := D) (o := .dK []))
      refine ⟨e0, kt, rfl, by rw [rD.1]; decide, ?_⟩
      rw [merge_nil rD (by decide +kernel)]
      have g2 := Gr.app (o := .dK kt) hD ((Gr.rfl'.up (o := .dK []) hD).trans g1)
      have eD := upd_same (H := H1) (a := D) (o := .dK kt)
      have rD2 := rD.mono fun v b q => LstS.off q e0 (o := .dK kt) (fun _ z => by cases z)
      generalize upd H1 D (.dK kt) = H2 at g2 eD rD2 ⊢
      conv => whnf
      refine ⟨small_ok (by simp), fun G hG => ?_⟩
      have g3 := Gr.rfl'.up (o := .lst [.str "a", .str "b", .str "c"]) hG
      have eG := upd_same (H := H2) (a := G) (o := .lst [.str "a", .str "b", .str "c"])
      exact plain_end (K := K) (ts := [("r", ["a", "b"]), ("s", ["b", "c"]), ("t", ["a", "c"]), ("u", ["d"])]) (gs := ["a", "b", "c"]) (us := ["a", "b", "c", "d"]) (by decide +kernel) (by decide +kernel) (g2.trans g3) (g3 _ _ eD) (rD2.mono fun v b r => LstS.up r g3) eG k
    conv => whnf
    refine ⟨_, rfl, ?_⟩
    refine brD (fun h4 => ?_) (fun h4 => ?_)
    · exact written_read (ts := [("r", ["a", "x"]), ("s", ["a", "y"]), ("t", ["a"]), ("u", ["x", "y"])]) (gs := []) (us := ["a", "x", "y"]) (by decide +kernel) (by decide +kernel) k
    conv => whnf
    refine ⟨_, rfl, ?_⟩
    refine brD (fun h5 => ?_) (fun h5 => ?_)
    · exact written_read (ts := [("r", ["a", "b", "c"]), ("s", ["a", "b"]), ("t", ["a", "d"]), ("u", ["a", "b", "c"])]) (gs := ["a"]) (us := ["a", "b", "c", "d"]) (by decide +kernel) (by decide +kernel) k
    conv => whnf
    refine ⟨_, rfl, ?_⟩
    refine brD (fun h6 => ?_) (fun h6 => ?_)
    · exact written_read (ts := [("only", ["a", "b", "c"])]) (gs := ["b"]) (us := ["a", "b", "c"]) (by decide +kernel) (by decide +kernel) k
    exact written_read (ts := [("r", ["a", "b"]), ("s", ["c"]), ("t", ["c", "d"])]) (gs := ["b", "d"]) (us := ["a", "b", "c", "d"]) (by decide +kernel) (by decide +kernel) k
def sp__law_drawn (K : PySem.W.Frag) : Sp := fun vs H Q _ => ∃ (d : Addr) (n : Nat) (o : HO) (m w : Nat), vs = [.ref d, .int (m : Int), .int (w : Int)] ∧ H d = some o ∧ Dice n o ∧ n ≤ 500000 ∧ 1 ≤ m ∧ m ≤ 6 ∧ 1 ≤ w ∧ w ≤ 6 ∧
  ∀ (H' : Hp) (P : Addr) (o' : HO) (ts : List (Str × List Str)) (gs : List Str) (zs : List (Str × (Nat × Nat))), Gx d H H' → H' d = some o' → Dice (n + 200) o' → H P = none → PlainQ H' P ts gs zs → OKP ts gs zs ∧ Lil m w ts → Q (.ref P) H'
theorem ok__law_drawn (T : Txt K mg) : FnOk P w K mg base CX0 3 T.a__law_drawn T.d__law_drawn ["_law_dice_here", "_law_many", "_law_width"] (sp__law_drawn K) := by
  refine T.F__law_drawn.ok sc__law_drawn (fun vs H Q E h => ?_) (fun cdv A outer s H vs Q E hr h => ?_)
  · obtain ⟨d, n, o, m, w, rfl, _⟩ := h; rfl
  · obtain ⟨d, n, o, m, w', rfl, hd, D0, hn, m1, m2, w1, w2, k⟩ := h
    refine ⟨_, (pss_cons (ps_set (i := 3) sc__law_drawn.nd rfl (by first | exact Or.inl rfl | exact Or.inr rfl) (pe_callB cr_sortedS (by rfl) T.b_sorted (by decide +kernel) (pa_cons (pe_slice sl_list (pe_call (ok__law_mixed T) (hr.mono (by decide)) (by rfl) T.g__law_mixed T.F__law_mixed.kp T.B__law_mixed .nil pass0 (pa_cons (pev 0) (pa_cons (pe_lst (pa_cons pe_str (pa_cons pe_str (pa_cons pe_str (pa_cons pe_str (pa_cons pe_str (pa_cons pe_str (pa_cons pe_str pa_nil)))))))) pa_nil))) po_none (po_some (pe_op opAdd pe_int (pe_call (ok__law_roll T) (hr.mono (by decide)) (by rfl) T.g__law_roll T.F__law_roll.kp T.B__law_roll .nil pass0 (pa_cons (pev 0) (pa_cons (pev 1) pa_nil)))))) pa_nil)))
        (pss_cons (ps_par (i := 4) (j := 5) (by rfl) sc__law_drawn.nd rfl rfl (by decide) rfl rfl (pa_cons (pe_slice sl_list (pe_lst (pa_cons pe_str (pa_cons pe_str (pa_cons pe_str (pa_cons pe_str (pa_cons pe_str (pa_cons pe_str pa_nil))))))) po_none (po_some (pe_op opAdd pe_int (pe_call (ok__law_roll T) (hr.mono (by decide)) (by rfl) T.g__law_roll T.F__law_roll.kp T.B__law_roll .nil pass0 (pa_cons (pev 0) (pa_cons (pev 2) pa_nil)))))) (pa_cons pe_dnewK pa_nil)) (by rfl))
        (pss_cons (ps_for PassesOwn.never rfl (pi_list (pev 3)) (pg_name (i := 6) sc__law_drawn.nd rfl (by first | exact Or.inl rfl | exact Or.inr rfl))
        (pss_one (ps_asg (pe_callB cr_sortedS (by rfl) T.b_sorted (by decide +kernel) (pa_cons (pe_slice sl_list (pe_call (ok__law_mixed T) (hr.mono (by decide)) (by rfl) T.g__law_mixed T.F__law_mixed.kp T.B__law_mixed .nil pass0 (pa_cons (pev 0) (pa_cons (pev 4) pa_nil))) po_none (po_some (pe_op opAdd pe_int (pe_call (ok__law_roll T) (hr.mono (by decide)) (by rfl) T.g__law_roll T.F__law_roll.kp T.B__law_roll .nil pass0 (pa_cons (pev 0) (pa_cons (pe_callB (caMin rfl) (by rfl) T.b_min (by decide +kernel) (pa_cons pe_int (pa_cons (pe_callB caLen (by rfl) T.b_len (by decide +kernel) (pa_cons (pev 4) pa_nil)) pa_nil))) pa_nil)))))) pa_nil)) (pg_sub (pev 5) (pev 6) (set_dict (hu1 (hu64 hr)))))))
        (pss_cons (ps_set (i := 7) sc__law_drawn.nd rfl (by first | exact Or.inl rfl | exact Or.inr rfl) (pe_call (ok__law_plain T) (hr.mono (by decide)) (by rfl) T.g__law_plain T.F__law_plain.kp T.B__law_plain .nil pass0 (pa_cons (pev 5) (pa_cons (pe_lst pa_nil) pa_nil))))
        (pss_cons (ps_asg (pe_lc (own := [("_law_column", 8)]) (g := (gName 8)) (tt := (tTest (tOp (uEq K) (tCall (sp__law_roll K) [] E0 (tCons (uV 0) (tCons (tC (.int 4)) tNil))) (tC (.int 0))))) (te := (uV 8)) rfl sc__law_drawn.nd (pi_list (pe_call (ok__law_columns T) (hr.mono (by decide)) (by rfl) T.g__law_columns T.F__law_columns.kp T.B__law_columns .nil pass0 (pa_cons (pev 7) (pa_cons (pev 3) pa_nil)))) (blkOk_by (own := [("_law_column", 8)]) (N := ["_law_dice_here", "_law_many", "_law_width", "_law_names_here", "_law_pool", "_law_tables", "_law_name", "_law_found", "_law_column"]) (sc := defScope s__law_drawn) (by decide +kernel)) (fun _ _ _ _ _ => pg_name (i := 8) sc__law_drawn.nd rfl (by first | exact Or.inl rfl | exact Or.inr rfl)) (fun _ _ _ _ _ => (pts_one (pt_cmpR (opEq (hu64 hr)) (pe_call (ok__law_roll T) (hr.mono (by decide)) (by rfl) T.g__law_roll T.F__law_roll.kp T.B__law_roll .nil pass0 (pa_cons (pev 0) (pa_cons pe_int pa_nil))) pe_int (nomark _)))) (fun _ _ _ _ _ => (pev 8))) (pg_sub (pev 7) pe_str (set_dict (hu1 (hu64 hr)))))
        (pss_cons (psIf (pt_cmpR (opEq (hu64 hr)) (pe_call (ok__law_roll T) (hr.mono (by decide)) (by rfl) T.g__law_roll T.F__law_roll.kp T.B__law_roll .nil pass0 (pa_cons (pev 0) (pa_cons pe_int pa_nil))) pe_int (nomark _)) (pss_one (ps_for PassesOwn.never rfl (pi_list (pev 3)) (pg_name (i := 6) sc__law_drawn.nd rfl (by first | exact Or.inl rfl | exact Or.inr rfl))
        (pss_one (ps_asg (pe_call (ok__law_pick T) (hr.mono (by decide)) (by rfl) T.g__law_pick T.F__law_pick.kp T.B__law_pick .nil pass0 (pa_cons (pev 0) (pa_cons (pe_lst (pa_cons (pe_tup (pa_cons pe_int (pa_cons pe_int pa_nil))) (pa_cons (pe_tup (pa_cons pe_int (pa_cons pe_int pa_nil))) (pa_cons (pe_tup (pa_cons pe_int (pa_cons pe_int pa_nil))) (pa_cons (pe_tup (pa_cons pe_int (pa_cons pe_int pa_nil))) (pa_cons (pe_tup (pa_cons pe_int (pa_cons pe_int pa_nil))) (pa_cons (pe_tup (pa_cons pe_int (pa_cons pe_int pa_nil))) pa_nil))))))) pa_nil))) (pg_sub (pe_dget (hu1 (hu64 hr)) (pev 7) pe_str (fun _ _ => rfl)) (pev 6) (set_dict (hu1 (hu64 hr)))))))) pss_nil)
        (pss_one (ps_ret (pev 7))))))))), ?_⟩
    conv => whnf
    refine ⟨small_ok (by simp), fun p hp => ?_⟩
    have npd : p ≠ d := fun z => by rw [z, hd] at hp; cases hp
    conv => whnf
    refine ⟨d, n, o, p, seven.map V.str, rfl, by rw [upd_ne npd.symm]; exact hd, D0, by omega, npd, SqL.of upd_same, by decide, fun H1 r o1 L f1 e1 D1 nrd er pm => ?_⟩
    obtain ⟨L, rfl, pmL⟩ := perm_strs pm
    conv => whnf
    refine ⟨d, n + 16, (m : Int), o1, rfl, e1, D1, by omega, by omega, Int.lt_of_le_of_lt (show (m : Int) ≤ 6 by omega) (by decide), fun H2 q o2 f2 e2 D2 q0 q1 => ?_⟩
    obtain ⟨q, rfl⟩ := Int.eq_ofNat_of_zero_le q0
    conv => whnf
    refine ⟨1 + (q : Int), rfl, ?_⟩
    refine ⟨r, _, rfl, SqL.of (f2 _ _ er nrd), fun p2 hp2 => ?_⟩
    rw [show (1 + (q : Int)) = ((q + 1 : Nat) : Int) by omega, cut_take, ← List.map_take]
    obtain ⟨nUp, nIn, nLen⟩ := some_of (k := q + 1) pmL seven_nd
    have nLen : (srt (L.take (q + 1))).length = q + 1 := by rw [nLen]; show min (q + 1) 7 = q + 1; omega
    have g2 := Gr.rfl'.up (o := .lst ((L.take (q + 1)).map V.str)) hp2
    conv => whnf
    refine ⟨p2, _, rfl, SqL.of upd_same, by rw [List.length_take]; omega, fun ys N pmy hs hN => ?_⟩
    obtain rfl : ys = srt (L.take (q + 1)) := sorted_srt pmy hs
    have X0 : Gx d H (upd H p (.lst (seven.map V.str))) := Gr.gx (Gr.rfl'.up hp)
    have X2 : Gx d H H2 := fun b u eb nb => f2 b u (f1 b u (X0 b u eb nb) nb) nb
    have g3 := g2.up (o := .lst ((srt (L.take (q + 1))).map V.str)) hN
    have eN := upd_same (H := upd H2 p2 (.lst ((L.take (q + 1)).map V.str))) (a := N) (o := .lst ((srt (L.take (q + 1))).map V.str))
    have X3 := X2.gr g3
    have e3 := g3 _ _ e2
    have nNd : N ≠ d := fun z => by rw [z, g2 _ _ e2] at hN; cases hN
    generalize upd (upd H2 p2 (.lst ((L.take (q + 1)).map V.str))) N (.lst ((srt (L.take (q + 1))).map V.str)) = H3 at X3 e3 eN ⊢
    generalize srt (L.take (q + 1)) = ns at nUp nIn nLen eN ⊢
    clear g2 g3
    conv => whnf
    refine ⟨small_ok (by simp), fun c hc => ?_⟩
    have ncd : c ≠ d := fun z => by rw [z, e3] at hc; cases hc
    have gc := Gr.rfl'.up (o := .lst (six.map V.str)) hc
    conv => whnf
    refine ⟨d, n + 17, (w' : Int), o2, rfl, gc _ _ e3, D2, by omega, by omega, Int.lt_of_le_of_lt (show (w' : Int) ≤ 6 by omega) (by decide), fun H4 u o3 f4 e4 D4 u0 u1 => ?_⟩
    obtain ⟨u, rfl⟩ := Int.eq_ofNat_of_zero_le u0
    conv => whnf
    refine ⟨1 + (u : Int), rfl, c, _, rfl, SqL.of (f4 _ _ (upd_same (H := H3) (a := c) (o := .lst (six.map V.str))) ncd), fun pl hpl => ?_⟩
    rw [show (1 + (u : Int)) = ((u + 1 : Nat) : Int) by omega, cut_take, ← List.map_take]
    have X4 : Gx d H H4 := fun b v eb nb => f4 b v (gc _ _ (X3 b v eb nb)) nb
    have eN4 := f4 _ _ (gc _ _ eN) nNd
    have gp := Gr.rfl'.up (o := .lst ((six.take (u + 1)).map V.str)) hpl
    have npl : pl ≠ d := fun z => by rw [z, e4] at hpl; cases hpl
    conv => whnf
    intro T hT
    have gT := gp.up (o := .dK []) hT
    have epl := Gr.rfl'.up (o := .dK []) hT _ _ (upd_same (H := H4) (a := pl) (o := .lst ((six.take (u + 1)).map V.str)))
    have eT := upd_same (H := upd H4 pl (.lst ((six.take (u + 1)).map V.str))) (a := T) (o := .dK [])
    have X5 := X4.gr gT
    have e5 := gT _ _ e4
    have eN5 := gT _ _ eN4
    have nTd : T ≠ d := fun z => by rw [z, gp _ _ e4] at hT; cases hT
    have hTH : H T = none := X4.fresh (gp.free' hT) nTd
    generalize upd (upd H4 pl (.lst ((six.take (u + 1)).map V.str))) T (.dK []) = H5 at X5 e5 eN5 epl eT ⊢
    have pool_nd : (six.take (u + 1)).Nodup := (List.take_sublist _ _).nodup six_nd
    have pool_len : (six.take (u + 1)).length ≤ 6 ∧ 1 ≤ (six.take (u + 1)).length ∧ (six.take (u + 1)).length ≤ w' := by rw [List.length_take]; show min (u + 1) 6 ≤ 6 ∧ 1 ≤ min (u + 1) 6 ∧ min (u + 1) 6 ≤ w'; omega
    have pool_in : ∀ z ∈ six.take (u + 1), z ∈ six := fun z hz => List.mem_of_mem_take hz
    generalize six.take (u + 1) = pool at epl pool_nd pool_len pool_in
    clear gp gT hpl hT f4 gc hc
    conv => whnf
    refine ⟨_, _, rfl, ?_⟩
    conv => whnf
    refine ⟨N, rfl, ⟨_, SqL.of eN5⟩, ?_⟩
    have nNT : N ≠ T := fun z => by rw [z, eT] at eN5; cases eN5
    have nplT : pl ≠ T := fun z => by rw [z, eT] at epl; cases epl
    refine for_it (walk_list (xs := ns.map V.str)) (fun i σ Hm => (∃ x y z, σ = [some (.ref d), some (.int (m : Int)), some (.int (w' : Int)), some (.ref N), some (.ref pl), some (.ref T), x, y, z]) ∧ (∀ b v, H5 b = some v → b ≠ d → b ≠ T → Hm b = some v) ∧
      ∃ (o' : HO) (kvs : List (Key × V)) (ts : List (Str × List Str)), Hm d = some o' ∧ Dice (n + 18 + 20 * i) o' ∧ Hm T = some (.dK kvs) ∧ DRel LstS Hm kvs ts ∧ names ts = ns.take i ∧ ∀ t ∈ ts, (1 ≤ t.2.length ∧ t.2.length ≤ 3) ∧ Up t.2 ∧ ∀ z ∈ t.2, z ∈ pool)
      ⟨⟨_, _, _, rfl⟩, fun b v e _ _ => e, o3, [], [], e5, Dice.up D4 (by omega), eT, .nil, by rw [List.take_zero]; rfl, fun t ht => by cases ht⟩ (fun _ _ _ _ L => SqL.of (L.2.1 _ _ eN5 nNd nNT)) ?_ ?_
    · rintro i x σ Ha Hb hi ⟨⟨x0, x1, x2, rfl⟩, fr, oi, kvs, ts, ed, Di, eTi, rr, nn, vv⟩ ⟨rfl, hx⟩
      rw [List.getElem?_map] at hx
      obtain ⟨nm, hnm, rfl⟩ := Option.map_eq_some_iff.mp hx
      rw [List.length_map] at hi
      have epl' := fr _ _ epl npl nplT
      conv => whnf
      refine ⟨d, _, oi, pl, pool.map V.str, rfl, ed, Di, by omega, npl, SqL.of epl', by rw [List.length_map]; omega, fun H1 r o1 L f1 e1 D1 nrd er pm => ?_⟩
      obtain ⟨L, rfl, pmL⟩ := perm_strs pm
      conv => whnf
      refine ⟨_, .inl (SqL.of (f1 _ _ epl' npl)), ?_⟩
      conv => whnf
      have mn : ∃ k : Nat, min (3 : Int) ((pool.map V.str).length : Nat) = (k : Int) ∧ 1 ≤ k ∧ k ≤ 3 := ⟨min 3 pool.length, by rw [List.length_map]; omega, by omega, by omega⟩
      obtain ⟨k3, hk3, k31, k33⟩ := mn
      rw [hk3]
      conv => whnf
      refine ⟨d, _, (k3 : Int), o1, rfl, e1, D1, by omega, by omega, Int.lt_of_le_of_lt (show (k3 : Int) ≤ 3 by omega) (by decide), fun H2 v o4 f2 e2 D2' v0 v1 => ?_⟩
      obtain ⟨v, rfl⟩ := Int.eq_ofNat_of_zero_le v0
      conv => whnf
      refine ⟨1 + (v : Int), rfl, r, _, rfl, SqL.of (f2 _ _ er nrd), fun s1 hs1 => ?_⟩
      rw [show (1 + (v : Int)) = ((v + 1 : Nat) : Int) by omega, cut_take, ← List.map_take]
      obtain ⟨cUp, cIn, cLen⟩ := some_of (k := v + 1) pmL pool_nd
      conv => whnf
      have gs1 := Gr.rfl'.up (o := .lst ((L.take (v + 1)).map V.str)) hs1
      refine ⟨s1, _, rfl, SqL.of upd_same, by rw [List.length_take]; omega, fun ys s2 pmy hs hs2 => ?_⟩
      obtain rfl : ys = srt (L.take (v + 1)) := sorted_srt pmy hs
      have gs2 := gs1.up (o := .lst ((srt (L.take (v + 1))).map V.str)) hs2
      have es2 := upd_same (H := upd H2 s1 (.lst ((L.take (v + 1)).map V.str))) (a := s2) (o := .lst ((srt (L.take (v + 1))).map V.str))
      have F : ∀ b u, Hb b = some u → b ≠ d → (upd (upd H2 s1 (.lst ((L.take (v + 1)).map V.str))) s2 (.lst ((srt (L.take (v + 1))).map V.str))) b = some u := fun b u eb nb => gs2 _ _ (f2 _ _ (f1 _ _ eb nb) nb)
      have ed2 := gs2 _ _ e2
      generalize upd (upd H2 s1 (.lst ((L.take (v + 1)).map V.str))) s2 (.lst ((srt (L.take (v + 1))).map V.str)) = Hc at es2 F ed2 ⊢
      generalize srt (L.take (v + 1)) = cs at cUp cIn cLen es2 ⊢
      have eT2 := F _ _ eTi nTd
      conv => whnf
      have lts : ts.length ≤ i := by
        have h := congrArg List.length nn
        rw [show (names ts).length = ts.length from List.length_map _, List.length_take] at h
        omega
      refine ⟨T, _, rfl, .inl ⟨kvs, .inr nm, eT2, rfl, small_lt (by rw [rr.1]; omega), rfl⟩, ?_⟩
      have rr2 : DRel LstS Hc kvs ts := rr.mono fun v b q => q.keep ed Di F
      have new : nm ∉ names ts := by
        rw [nn]
        intro z
        obtain ⟨j, hj, ej⟩ := List.getElem_of_mem z
        obtain ⟨hi2, ei⟩ := List.getElem?_eq_some_iff.mp hnm
        rw [List.length_take] at hj
        rw [List.getElem_take] at ej
        exact List.pairwise_iff_getElem.mp nUp.nodup j i (by omega) hi2 (by omega) (ej.trans ei.symm)
      have rr3 : DRel LstS (upd Hc T (.dK (putK kvs (.inr nm) (.ref s2)))) (putK kvs (.inr nm) (.ref s2)) (ts ++ [(nm, cs)]) := by
        have h := (rr2.put (x := nm) (⟨s2, rfl, es2⟩ : LstS Hc (.ref s2) cs)).mono (H' := upd Hc T (.dK (putK kvs (.inr nm) (.ref s2)))) fun v b q => LstS.off q eT2 (fun _ z => by cases z)
        rw [putA_new new] at h
        exact h
      refine ⟨⟨_, _, _, rfl⟩, fun b u eb nb nT => by rw [upd_ne nT]; exact F _ _ (fr b u eb nb nT) nb, o4, _, ts ++ [(nm, cs)], by rw [upd_ne nTd.symm]; exact ed2, Dice.up D2' (by omega), upd_same, rr3, ?_, fun t ht => ?_⟩
      · rw [List.take_add_one, hnm]
        show (ts ++ [(nm, cs)]).map (·.1) = _
        rw [List.map_append, show ts.map (·.1) = ns.take i from nn]
        rfl
      · rcases List.mem_append.mp ht with ht | ht
        · exact vv t ht
        · obtain rfl := List.mem_singleton.mp ht
          exact ⟨by show 1 ≤ cs.length ∧ cs.length ≤ 3; rw [cLen]; omega, cUp, cIn⟩
    rintro σ Ha ⟨⟨x0, x1, x2, rfl⟩, fr, oi, kt, ts, ed, Di, eTi, rr, nn, vv⟩
    rw [List.length_map] at Di
    rw [List.take_of_length_le (by rw [List.length_map]; exact Nat.le_refl _)] at nn
    have X6 : Gx d H Ha := fun b v eb nb => fr b v (X5 b v eb nb) nb fun z => by rw [z, hTH] at eb; cases eb
    have eN6 := fr _ _ eN5 nNd nNT
    clear fr
    have tl : ts.length = q + 1 := by rw [← nLen, ← nn]; exact (List.length_map _).symm
    have okt : OKT ts := by
      refine ⟨by omega, by rw [nn]; exact nUp.nodup, fun t ht => seven_nm _ (nIn _ (by rw [← nn]; exact List.mem_map_of_mem ht)), fun t ht => ?_, ?_⟩
      · obtain ⟨a1, a2, a3⟩ := vv t ht
        exact ⟨by omega, a2, fun z hz => six_nm _ (pool_in _ (a3 z hz))⟩
      · refine Nat.le_trans (sub_len (dist_up _).nodup fun z hz => ?_) (Nat.le_trans pool_len.1 (by decide))
        obtain ⟨t, ht, hz⟩ := cols_mem.mp hz
        exact (vv t ht).2.2 z hz
    have h7 : ∀ z ∈ seven, z ∈ namesC := by decide
    have sm : Lil m w' ts := ⟨⟨by omega, fun z hz => h7 z (nIn z (by rw [← nn]; exact hz))⟩, fun t ht => (vv t ht).1.2, Nat.le_trans (sub_len (dist_up _).nodup fun z hz => by
        obtain ⟨t, ht, hz⟩ := cols_mem.mp hz
        exact (vv t ht).2.2 z hz) (by omega), fun z hz => by
        obtain ⟨t, ht, hz⟩ := cols_mem.mp hz
        have six_c : ∀ z ∈ six, z ∈ colsC := by decide
        exact six_c z (pool_in z ((vv t ht).2.2 z hz))⟩
    conv => whnf
    refine ⟨small_ok (by simp), fun g0 hg0 => ?_⟩
    have gg := Gr.rfl'.up (o := .lst []) hg0
    have eg0 := upd_same (H := Ha) (a := g0) (o := .lst [])
    have X7 := X6.gr gg
    have ed7 := gg _ _ ed
    have eN7 := gg _ _ eN6
    have eT7 := gg _ _ eTi
    have rr7 := rr.mono fun v b r => LstS.up r gg
    have ng0d : g0 ≠ d := fun z => by rw [z, ed] at hg0; cases hg0
    generalize upd Ha g0 (.lst []) = H7 at eg0 X7 ed7 eN7 eT7 rr7 ⊢
    conv => whnf
    refine ⟨T, g0, kt, ts, [], rfl, eT7, rr7, okt.nd, okt.few.2, eg0, fun H8 P S kz g8 hP hS nPS eP eS rS => ?_⟩
    have X8 := X7.gr g8
    have ed8 := g8 _ _ ed7
    have eN8 := g8 _ _ eN7
    have eT8 := g8 _ _ eT7
    have rr8 := rr7.mono fun v b r => LstS.up r g8
    have eg8 := g8 _ _ eg0
    have nPT : P ≠ T := fun z => by rw [z, eT7] at hP; cases hP
    have nTS : T ≠ S := fun z => by rw [← z, eT7] at hS; cases hS
    have nPd : P ≠ d := fun z => by rw [z, ed7] at hP; cases hP
    have nSd : S ≠ d := fun z => by rw [z, ed7] at hS; cases hS
    have hPH : H P = none := X7.fresh hP nPd
    have hSH : H S = none := X7.fresh hS nSd
    have hQ : PlainQ H8 P ts [] (ones ts) := ⟨T, g0, S, kt, kz, _, eP, ⟨plk_t, plk_g, plk_s⟩, eT8, rr8, eg8, eS, rS, nPT, nPS, nTS⟩
    conv => whnf
    refine ⟨P, N, ns, ts, [], ones ts, rfl, hQ, okt.wt, eN8, by rw [nn], fun H9 cl g9 hcl ecl => ?_⟩
    have X9 := X8.gr g9
    have ed9 := g9 _ _ ed8
    conv => whnf
    have ncd2 : cl ≠ d := fun z => by rw [z, ed8] at hcl; cases hcl
    have c8 := okt.all
    refine ⟨cl, rfl, ⟨_, SqL.of ecl⟩, fun B hB => ?_⟩
    have nBd : B ≠ d := fun z => by rw [z, ed9] at hB; cases hB
    have nl6 : ns.length ≤ 6 := by omega
    refine lc_it (walk_list (xs := (colsOf ts).map V.str)) (fun i Hm => Gx d H9 Hm ∧ ∃ (o' : HO) (gs : List Str), Hm d = some o' ∧ Dice (n + 140 + i) o' ∧ Hm B = some (.lst (gs.map V.str)) ∧ gs.Sublist ((colsOf ts).take i))
      ⟨(Gr.rfl'.up hB).gx, oi, [], by rw [upd_ne nBd.symm]; exact ed9, Dice.up Di (by omega), upd_same, List.nil_sublist _⟩ (fun _ _ _ L => SqL.of (L.1 _ _ ecl ncd2)) ?_ ?_
    · rintro i x Hm Hn hi ⟨g10, oj, gs, ej, Dj, eB, sub⟩ ⟨rfl, hx⟩
      rw [List.getElem?_map] at hx
      obtain ⟨z, hz, rfl⟩ := Option.map_eq_some_iff.mp hx
      rw [List.length_map] at hi
      have gl : gs.length ≤ i := by
        have := sub.length_le
        rw [List.length_take] at this
        omega
      conv => whnf
      refine ⟨rfl, ?_⟩
      conv => whnf
      refine ⟨d, _, 4, oj, rfl, ej, Dj, by omega, by decide, by decide, fun H1 r o1 f1 e1 D1 r0 r1 => ?_⟩
      conv => whnf
      have eB1 := f1 _ _ eB nBd
      have G1 : Gx d H9 H1 := fun b u eb nb => f1 b u (g10 b u eb nb) nb
      refine ⟨_, rfl, ?_⟩
      by_cases h : V.int r = V.int 0
      · rw [decide_eq_true h]
        conv => whnf
        refine ⟨_, eB1, small_lt (by rw [List.length_map]; omega), ?_, o1, gs ++ [z], by rw [upd_ne nBd.symm]; exact e1, D1, by rw [upd_same, List.map_append]; rfl, ?_⟩
        · exact fun b u eb nb => by rw [upd_ne fun q => by rw [q, hB] at eb; cases eb]; exact G1 b u eb nb
        · rw [List.take_add_one, hz]
          exact sub.append (List.Sublist.refl _)
      · rw [decide_eq_false h]
        refine ⟨G1, o1, gs, e1, D1, eB1, sub.trans ?_⟩
        rw [List.take_add_one]
        exact List.sublist_append_left _ _
    rintro Hm ⟨g10, oj, gs, ej, Dj, eB, sub⟩
    rw [List.length_map] at Dj
    have sub := sub.trans (List.take_sublist _ _)
    conv => whnf
    have eP9 := g9 _ _ eP
    have ePm := g10 _ _ eP9 nPd
    have nNP : N ≠ P := fun z => by have h := g9 _ _ eN8; rw [z, eP9] at h; cases h
    have nBP : B ≠ P := fun z => by rw [z, eP9] at hB; cases hB
    refine ⟨P, _, rfl, .inl ⟨plk T g0 S, .inr "groups", ePm, rfl, by show 3 < sizeLine; exact small_lt (by omega), rfl⟩, ?_⟩
    rw [show putK (plk T g0 S) (.inr "groups") (V.ref B) = plk T B S from rfl]
    have rr9 := (rr8.mono fun v b r => LstS.up r g9).mono fun v b r => r.keep (H' := Hm) ed9 Di g10
    have rS9 := (rS.mono fun v b r => PQ.up r g9).mono fun v b r => PQ.keep (H' := Hm) r ed9 Di g10
    have okg : OKG ts gs := by
      refine ⟨(dist_up _).sublist sub, fun z hz => ?_, fun z hz => sub.subset hz, Nat.le_trans sub.length_le c8⟩
      obtain ⟨t, ht, hz⟩ := cols_mem.mp (sub.subset hz)
      exact six_nm _ (pool_in _ ((vv t ht).2.2 z hz))
    have Xp : Gx d H (upd Hm P (.dK (plk T B S))) := fun b u eb nb => by
      rw [upd_ne fun z => by rw [z, hPH] at eb; cases eb]
      exact g10 b u (X9 b u eb nb) nb
    have edp : (upd Hm P (.dK (plk T B S))) d = some oj := by rw [upd_ne nPd.symm]; exact ej
    have eTp : (upd Hm P (.dK (plk T B S))) T = some (.dK kt) := by rw [upd_ne nPT.symm]; exact g10 _ _ (g9 _ _ eT8) nTd
    have eSp : (upd Hm P (.dK (plk T B S))) S = some (.dK kz) := by rw [upd_ne nPS.symm]; exact g10 _ _ (g9 _ _ eS) nSd
    have eBp : (upd Hm P (.dK (plk T B S))) B = some (.lst (gs.map V.str)) := by rw [upd_ne nBP]; exact eB
    have eNp : (upd Hm P (.dK (plk T B S))) N = some (.lst (ns.map V.str)) := by rw [upd_ne nNP]; exact g10 _ _ (g9 _ _ eN8) nNd
    have rTp : DRel LstS (upd Hm P (.dK (plk T B S))) kt ts := rr9.mono fun v b r => LstS.off r ePm (fun _ z => by cases z)
    have rSp : DRel PQ (upd Hm P (.dK (plk T B S))) kz (ones ts) := rS9.mono fun v b r => PQ.off r ePm (fun _ z => by cases z)
    have ePp := upd_same (H := Hm) (a := P) (o := .dK (plk T B S))
    generalize upd Hm P (.dK (plk T B S)) = Hp at Xp edp eTp eSp eBp eNp rTp rSp ePp ⊢
    conv => whnf
    refine ⟨d, _, 4, oj, rfl, edp, Dj, by omega, by decide, by decide, fun H1 r o1 f1 e1 D1 r0 r1 => ?_⟩
    conv => whnf
    have Xq : Gx d H H1 := fun b u eb nb => f1 b u (Xp b u eb nb) nb
    have eTq := f1 _ _ eTp nTd
    have eSq := f1 _ _ eSp nSd
    have eBq := f1 _ _ eBp nBd
    have eNq := f1 _ _ eNp nNd
    have ePq := f1 _ _ ePp nPd
    have rTq := rTp.mono fun v b r => LstS.keep (H' := H1) r edp Dj f1
    have rSq := rSp.mono fun v b r => PQ.keep (H' := H1) r edp Dj f1
    refine ⟨_, rfl, ?_⟩
    refine brD (fun h => ?_) (fun h => ?_)
    case' refine_2 =>
      exact k H1 P o1 ts gs (ones ts) Xq e1 (Dice.up D1 (by omega)) hPH ⟨T, B, S, kt, kz, _, ePq, ⟨plk_t, plk_g, plk_s⟩, eTq, rTq, eBq, eSq, rSq, nPT, nPS, nTS⟩ ⟨okp_six okt okg (ones_names ts) (ones_six ts), sm⟩
    conv => whnf
    refine ⟨N, rfl, ⟨_, SqL.of eNq⟩, ?_⟩
    have nNS : N ≠ S := fun z => by rw [z, eSq] at eNq; cases eNq
    have nBS : B ≠ S := fun z => by rw [z, eSq] at eBq; cases eBq
    refine for_it (walk_list (xs := ns.map V.str)) (fun i σ Hm => (∃ y z, σ = [some (.ref d), some (.int (m : Int)), some (.int (w' : Int)), some (.ref N), some (.ref pl), some (.ref T), y, some (.ref P), z]) ∧ (∀ b v, H1 b = some v → b ≠ d → b ≠ S → Hm b = some v) ∧
      ∃ (o' : HO) (kq : List (Key × V)) (zs : List (Str × (Nat × Nat))), Hm d = some o' ∧ Dice (n + 150 + i) o' ∧ Hm S = some (.dK kq) ∧ DRel PQ Hm kq zs ∧ names zs = names ts ∧ ∀ z ∈ zs, z.2 ∈ sixP)
      ⟨⟨_, _, rfl⟩, fun b v e _ _ => e, o1, kz, ones ts, e1, Dice.up D1 (by omega), eSq, rSq, ones_names ts, ones_six ts⟩ (fun _ _ _ _ L => SqL.of (L.2.1 _ _ eNq nNd nNS)) ?_ ?_
    case' refine_2 =>
      rintro σ Hz ⟨⟨y0, y1, rfl⟩, fr, oz, kq, zs, ez, Dz, eSz, rz, nz, iz⟩
      rw [List.length_map] at Dz
      have Fq : ∀ b u, H b = some u → b ≠ d → Hz b = some u := fun b u eb nb => fr b u (Xq b u eb nb) nb fun z => by rw [z, hSH] at eb; cases eb
      have rTz : DRel LstS Hz kt ts := rTq.mono fun v b r => by
        obtain ⟨a, e, kk⟩ := id r
        exact ⟨a, e, fr _ _ kk (fun z => by rw [z, e1] at kk; exact strs_no_dice D1 _ (Option.some.inj kk)) fun z => by rw [z, eSq] at kk; cases kk⟩
      conv => whnf
      exact k Hz P oz ts gs zs Fq ez (Dice.up Dz (by omega)) hPH ⟨T, B, S, kt, kq, _, fr _ _ ePq nPd nPS, ⟨plk_t, plk_g, plk_s⟩, fr _ _ eTq nTd nTS, rTz, fr _ _ eBq nBd nBS, eSz, rz, nPT, nPS, nTS⟩ ⟨okp_six okt okg nz iz, sm⟩
    rintro i x σ Ha Hb hi ⟨⟨y0, y1, rfl⟩, fr, oz, kq, zs, ez, Dz, eSz, rz, nz, iz⟩ ⟨rfl, hx⟩
    rw [List.getElem?_map] at hx
    obtain ⟨nm, hnm, rfl⟩ := Option.map_eq_some_iff.mp hx
    rw [List.length_map] at hi
    conv => whnf
    refine ⟨small_ok (by simp), fun t0 p0 => ?_⟩
    have g0 := Gr.rfl'.up (o := .tup [.int 1, .int 1]) p0
    have e_0 := upd_same (H := Hb) (a := t0) (o := .tup [.int 1, .int 1])
    have n_0 := (ne_of_none ez p0).symm
    have ez0 := g0 _ _ ez
    generalize upd Hb t0 (.tup [.int 1, .int 1]) = Hb0 at g0 e_0 ez0 ⊢
    conv => whnf
    refine ⟨small_ok (by simp), fun t1 p1 => ?_⟩
    have g1 := Gr.rfl'.up (o := .tup [.int 1, .int 2]) p1
    have e_1 := upd_same (H := Hb0) (a := t1) (o := .tup [.int 1, .int 2])
    have n_1 := (ne_of_none ez0 p1).symm
    have ez1 := g1 _ _ ez0
    generalize upd Hb0 t1 (.tup [.int 1, .int 2]) = Hb1 at g1 e_1 ez1 ⊢
    conv => whnf
    refine ⟨small_ok (by simp), fun t2 p2 => ?_⟩
    have g2 := Gr.rfl'.up (o := .tup [.int 2, .int 1]) p2
    have e_2 := upd_same (H := Hb1) (a := t2) (o := .tup [.int 2, .int 1])
    have n_2 := (ne_of_none ez1 p2).symm
    have ez2 := g2 _ _ ez1
    generalize upd Hb1 t2 (.tup [.int 2, .int 1]) = Hb2 at g2 e_2 ez2 ⊢
    conv => whnf
    refine ⟨small_ok (by simp), fun t3 p3 => ?_⟩
    have g3 := Gr.rfl'.up (o := .tup [.int 0, .int 1]) p3
    have e_3 := upd_same (H := Hb2) (a := t3) (o := .tup [.int 0, .int 1])
    have n_3 := (ne_of_none ez2 p3).symm
    have ez3 := g3 _ _ ez2
    generalize upd Hb2 t3 (.tup [.int 0, .int 1]) = Hb3 at g3 e_3 ez3 ⊢
    conv => whnf
    refine ⟨small_ok (by simp), fun t4 p4 => ?_⟩
    have g4 := Gr.rfl'.up (o := .tup [.int 3, .int 2]) p4
    have e_4 := upd_same (H := Hb3) (a := t4) (o := .tup [.int 3, .int 2])
    have n_4 := (ne_of_none ez3 p4).symm
    have ez4 := g4 _ _ ez3
    generalize upd Hb3 t4 (.tup [.int 3, .int 2]) = Hb4 at g4 e_4 ez4 ⊢
    conv => whnf
    refine ⟨small_ok (by simp), fun t5 p5 => ?_⟩
    have g5 := Gr.rfl'.up (o := .tup [.int 1, .int 3]) p5
    have e_5 := upd_same (H := Hb4) (a := t5) (o := .tup [.int 1, .int 3])
    have n_5 := (ne_of_none ez4 p5).symm
    have ez5 := g5 _ _ ez4
    generalize upd Hb4 t5 (.tup [.int 1, .int 3]) = Hb5 at g5 e_5 ez5 ⊢
    conv => whnf
    refine ⟨small_ok (by simp), fun l ppl => ?_⟩
    have gl := Gr.rfl'.up (o := .lst [.ref t0, .ref t1, .ref t2, .ref t3, .ref t4, .ref t5]) ppl
    have el := upd_same (H := Hb5) (a := l) (o := .lst [.ref t0, .ref t1, .ref t2, .ref t3, .ref t4, .ref t5])
    have nl := (ne_of_none ez5 ppl).symm
    have ezl := gl _ _ ez5
    generalize upd Hb5 l (.lst [.ref t0, .ref t1, .ref t2, .ref t3, .ref t4, .ref t5]) = Hl at gl el ezl ⊢
    have G := (((((g0.trans g1).trans g2).trans g3).trans g4).trans g5).trans gl
    have f0 := gl _ _ (g5 _ _ (g4 _ _ (g3 _ _ (g2 _ _ (g1 _ _ e_0)))))
    have f1' := gl _ _ (g5 _ _ (g4 _ _ (g3 _ _ (g2 _ _ e_1))))
    have f2' := gl _ _ (g5 _ _ (g4 _ _ (g3 _ _ e_2)))
    have f3' := gl _ _ (g5 _ _ (g4 _ _ e_3))
    have f4' := gl _ _ (g5 _ _ e_4)
    have f5' := gl _ _ e_5
    conv => whnf
    refine ⟨d, _, oz, .ref l, [.ref t0, .ref t1, .ref t2, .ref t3, .ref t4, .ref t5], rfl, ezl, Dz, by omega, .inr ⟨l, rfl, nl, .inl (SqL.of el)⟩, (by show 0 < 6; decide), (by show 6 ≤ 100000; decide), fun Hr r or fr2 er Dr rin => ?_⟩
    have rq : ∃ c, c ∈ sixP ∧ PQ Hl r c := by
      simp only [List.mem_cons, List.not_mem_nil, or_false] at rin
      rcases rin with rfl | rfl | rfl | rfl | rfl | rfl
      · exact ⟨(1, 1), by decide, t0, rfl, f0⟩
      · exact ⟨(1, 2), by decide, t1, rfl, f1'⟩
      · exact ⟨(2, 1), by decide, t2, rfl, f2'⟩
      · exact ⟨(0, 1), by decide, t3, rfl, f3'⟩
      · exact ⟨(3, 2), by decide, t4, rfl, f4'⟩
      · exact ⟨(1, 3), by decide, t5, rfl, f5'⟩
    obtain ⟨c6, c6in, rc⟩ := rq
    have rc2 := PQ.keep (H' := Hr) rc ezl Dz fr2
    have FF : ∀ b u, Hb b = some u → b ≠ d → Hr b = some u := fun b u eb nb => fr2 _ _ (G _ _ eb) nb
    have eP2 := FF _ _ (fr _ _ ePq nPd nPS) nPd
    have eS2 := FF _ _ eSz nSd
    have rz2 := rz.mono fun v b q => PQ.keep (H' := Hr) q ez Dz FF
    have nin : nm ∈ names zs := by rw [nz, nn]; exact List.mem_of_getElem? hnm
    have lz : zs.length = ts.length := by
      have q := congrArg List.length nz
      simp only [names, List.length_map] at q
      exact q
    conv => whnf
    refine ⟨P, .ref S, rfl, .inl ⟨plk T B S, .inr "sizes", .inl eP2, rfl, plk_s.symm⟩, ?_⟩
    conv => whnf
    refine ⟨S, _, rfl, .inl ⟨kq, .inr nm, eS2, rfl, small_lt (by rw [rz.1]; omega), rfl⟩, ?_⟩
    refine ⟨⟨_, _, rfl⟩, fun b v eb nb nS => by rw [upd_ne nS]; exact FF _ _ (fr b v eb nb nS) nb, or, _, putA zs nm c6, by rw [upd_ne nSd.symm]; exact er, Dr, upd_same, (rz2.put (x := nm) rc2).mono fun v b q => PQ.off q eS2 (fun _ z => by cases z), by rw [putA_names_in nin, nz], fun z hz => ?_⟩
    unfold putA at hz
    rw [if_pos (any_name.mpr nin)] at hz
    obtain ⟨y, hy, rfl⟩ := List.mem_map.mp hz
    split
    · exact c6in
    · exact iz y hy
def sp__law_any (K : PySem.W.Frag) : Sp := fun vs H Q _ => ∃ (d : Addr) (n : Nat) (o : HO) (m w : Nat), vs = [.ref d, .int (m : Int), .int (w : Int)] ∧ H d = some o ∧ Dice n o ∧ n ≤ 400000 ∧ 1 ≤ m ∧ m ≤ 6 ∧ 1 ≤ w ∧ w ≤ 6 ∧
  ∀ (H' : Hp) (P : Addr) (o' : HO) (ts : List (Str × List Str)) (gs : List Str) (zs : List (Str × (Nat × Nat))), Gx d H H' → H' d = some o' → Dice (n + 300) o' → H P = none → PlainQ H' P ts gs zs → OKP ts gs zs ∧ Lil m w ts → Q (.ref P) H'
theorem ok__law_any (T : Txt K mg) : FnOk P w K mg base CX0 4 T.a__law_any T.d__law_any ["_law_dice_here", "_law_many", "_law_width"] (sp__law_any K) := by
  refine T.F__law_any.ok sc__law_any (fun vs H Q E h => ?_) (fun cdv A outer s H vs Q E hr h => ?_)
  · obtain ⟨d, n, o, m, w, rfl, _⟩ := h; rfl
  · obtain ⟨d, n, o, m, w, rfl, hd, D0, hn, m1, m2, w1, w2, k⟩ := h
    refine ⟨_, (pss_one (ps_ret (peIf (pt_cmpR (opEq (hu64 hr)) (pe_call (ok__law_roll T) (hr.mono (by decide)) (by rfl) T.g__law_roll T.F__law_roll.kp T.B__law_roll .nil pass0 (pa_cons (pev 0) (pa_cons pe_int pa_nil))) pe_int (nomark _)) (pe_call (ok__law_written T) (hr.mono (by decide)) (by rfl) T.g__law_written T.F__law_written.kp T.B__law_written .nil pass0 (pa_cons (pe_call (ok__law_roll T) (hr.mono (by decide)) (by rfl) T.g__law_roll T.F__law_roll.kp T.B__law_roll .nil pass0 (pa_cons (pev 0) (pa_cons pe_int pa_nil))) pa_nil)) (pe_call (ok__law_drawn T) (hr.mono (by decide)) (by rfl) T.g__law_drawn T.F__law_drawn.kp T.B__law_drawn .nil pass0 (pa_cons (pev 0) (pa_cons (pev 1) (pa_cons (pev 2) pa_nil))))))), ?_⟩
    conv => whnf
    refine ⟨d, n, 3, o, rfl, hd, D0, by omega, by decide, by decide, fun H1 r o1 f1 e1 D1 r0 r1 => ?_⟩
    conv => whnf
    refine ⟨_, rfl, ?_⟩
    refine brD (fun h => ?_) (fun h => ?_)
    · conv => whnf
      refine ⟨d, n + 1, 8, o1, rfl, e1, D1, by omega, by decide, by decide, fun H2 q o2 f2 e2 D2 q0 q1 => ?_⟩
      conv => whnf
      obtain ⟨j, rfl⟩ := Int.eq_ofNat_of_zero_le q0
      refine ⟨j, rfl, by omega, fun H3 P ts gs zs g3 hP hQ ⟨ok, sm⟩ => ?_⟩
      have X2 : Gx d H H2 := fun b u eb nb => f2 b u (f1 b u eb nb) nb
      have hPd : P ≠ d := fun z => by rw [z, e2] at hP; cases hP
      refine k H3 P o2 ts gs zs (X2.gr g3) (g3 _ _ e2) (Dice.up D2 (by omega)) ?_ hQ ⟨ok, sm.mono⟩
      cases e : H P with
      | none => rfl
      | some u => rw [X2 P u e hPd] at hP; cases hP
    · conv => whnf
      refine ⟨d, n + 1, o1, m, w, rfl, e1, D1, by omega, m1, m2, w1, w2, fun H3 P o3 ts gs zs X3 e3 D3 hP hQ ok => ?_⟩
      have hPd : P ≠ d := fun z => by rw [z, e1] at hP; cases hP
      refine k H3 P o3 ts gs zs (fun b u eb nb => X3 b u (f1 b u eb nb) nb) e3 (Dice.up D3 (by omega)) ?_ hQ ok
      cases e : H P with
      | none => rfl
      | some u => rw [f1 P u e hPd] at hP; cases hP
def sp_law (K : PySem.W.Frag) : Sp := fun vs H Q _ => ∃ (a : Addr) (ns : List Int), vs = [.ref a] ∧ SqL K H a (ns.map V.int) ∧ ns.length ≤ 63 ∧ ∀ H', Q (.bl true) H'
theorem enter (K : PySem.W.Frag) (H : Hp) (a : Addr) (ns : List Int) (h1 : ns.length ≤ 63) (h2 : ∀ z ∈ ns, Builtin.Int.intBits z ≤ 1048576) (h3 : SqL K H a (ns.map V.int)) : sp_law K [.ref a] H (fun v _ => v = .bl true) fun _ _ _ => False := ⟨a, ns, rfl, h3, h1, fun _ => rfl⟩
theorem ok_law (T : Txt K mg) : FnG P w K mg base CX0 10 T.a_law T.d_law ["_law_script"] (sp_law K) := by
  refine okG T.F_law sc_law (fun vs H Q E h => ?_) (fun cdv A outer s H vs Q E hg hr h => ?_)
  · obtain ⟨a, ns, rfl, _⟩ := h; rfl
  · obtain ⟨a, ns, rfl, hS, hn, k⟩ := h
    refine ⟨_, PSs.nox (pss_cons (ps_for PassesOwn.never rfl (pi_range1 (by rfl) T.b_range (pa_cons (pe_callB (caMax rfl) (by rfl) T.b_max (by decide +kernel) (pa_cons pe_int (pa_cons (pe_callB (caMin rfl) (by rfl) T.b_min (by decide +kernel) (pa_cons pe_int (pa_cons (pe_callB caLen (by rfl) T.b_len (by decide +kernel) (pa_cons (pev 0) pa_nil)) pa_nil))) pa_nil))) pa_nil)) (pg_name (i := 1) sc_law.nd rfl (by first | exact Or.inl rfl | exact Or.inr rfl))
        (pss_cons (ps_set (i := 2) sc_law.nd rfl (by first | exact Or.inl rfl | exact Or.inr rfl) (pe_call (ok__law_dice T) (hr.mono (by decide)) (by rfl) T.g__law_dice T.F__law_dice.kp T.B__law_dice .nil pass0 (pa_cons (pev 0) (pa_cons (pev 1) pa_nil))))
        (pss_one (ps_for PassesOwn.never rfl (pi_range1 (by rfl) T.b_range (pa_cons pe_int pa_nil)) (pg_name (i := 3) sc_law.nd rfl (by first | exact Or.inl rfl | exact Or.inr rfl))
        (pss_one (psIf (pt_not (ptV (peG (ok__law_right T) hg (hr.mono (by decide)) (by rfl) T.g__law_right T.F__law_right.kp T.B__law_right .nil pass0 (pa_cons (pev 2) (pa_cons (pe_call (ok__law_any T) (hr.mono (by decide)) (by rfl) T.g__law_any T.F__law_any.kp T.B__law_any .nil pass0 (pa_cons (pev 2) (pa_cons pe_int (pa_cons pe_int pa_nil)))) pa_nil))))) (pss_one (ps_ret pe_bl)) pss_nil))))))
        (pss_cons (ps_set (i := 4) sc_law.nd rfl (by first | exact Or.inl rfl | exact Or.inr rfl) (pe_make T.K_Question (ok_Question___init__ T) (hr.mono (by decide)) (by rfl) T.g_Question (T.DB_Question___init__).choose_spec.2 (T.DB_Question___init__).choose_spec.1 pass0 (pa_cons (pe_disp (pps_cons pe_str (pe_tup (pa_cons pe_str pa_nil)) pps_nil) (by rfl) (by rfl) (fun z => by cases z) (by decide)) (pa_cons (pe_tup pa_nil) pa_nil))))
        (pss_one (ps_ret (peAnd (pe_cmpR (opEq (hu64 hr)) (pe_lst (pa_cons (pe_glob (v := .int 6) (by rfl) T.v_MAX_TABLES ⟨_, rfl⟩) (pa_cons (pe_glob (v := .int 8) (by rfl) T.v_MAX_COLUMNS ⟨_, rfl⟩) (pa_cons (pe_glob (v := .int 9) (by rfl) T.v_MAX_SIZE ⟨_, rfl⟩) pa_nil)))) (pe_lst (pa_cons pe_int (pa_cons pe_int (pa_cons pe_int pa_nil)))) (nomark _)) (pe_one (pe_cmpR (opEq (hu64 hr)) (pe_prop (pe_dget (hu1 (hu64 hr)) (pe_prop (pev 4) T.o_Question.cl T.P_Question_sizes (ok_Question_sizes T) (hr.mono (by decide)) T.B_Question_sizes .nil pass0 rfl) pe_str (fun _ _ => rfl)) T.o_Ratio.cl T.P_Ratio_pair (ok_Ratio_pair T) (hr.mono (by decide)) T.B_Ratio_pair .nil pass0 rfl) (pe_tup (pa_cons pe_int (pa_cons pe_int pa_nil))) (nomark _)))))))), ?_⟩
    conv => whnf
    refine ⟨_, .inl hS, ?_⟩
    conv => whnf
    rw [List.length_map]
    refine ⟨_, rfl, by omega, by omega, for_range (lo := 0) (n := (max 1 (min 5 (ns.length : Int))).toNat) (fun i σ H' => (∃ v1 v2 v3, σ = [some (.ref a), v1, v2, v3, none]) ∧ LamX.ExtN H H')
      ⟨⟨none, none, none, rfl⟩, LamX.ExtN.refl _⟩ ?_ ?_⟩
    · rintro i σ H1 hi ⟨⟨v1, v2, v3, rfl⟩, s1⟩
      conv => whnf
      refine ⟨a, ns, i, by rw [Int.zero_add]; rfl, sql_ext hS s1, by omega, fun H2 p o s2 p0 p1 D0 => ?_⟩
      conv => whnf
      refine ⟨_, rfl, by decide, by decide, for_range (lo := 0) (n := 3) (fun j σ H' => (∃ v3, σ = [some (.ref a), some (.int (0 + (i : Nat))), some (.ref p), v3, none]) ∧ LamX.ExtN H1 H' ∧ ∃ o', H' p = some o' ∧ Dice (1000 * j) o')
        ⟨⟨v3, rfl⟩, LamX.ExtN.of s2, o, p1, D0⟩ ?_ ?_⟩
      · rintro j σ H3 hj ⟨⟨v3, rfl⟩, s3, o3, p3, D3⟩
        conv => whnf
        refine ⟨_, _, _, _, _, rfl, p3, D3, (by omega), (by decide), (by decide), (by decide), (by decide), ?_⟩
        intro J4 p5 o6 x7 x8 x9 g10 e11 D12 f13 h14 h15
        obtain ⟨h16, h17⟩ := h15
        conv => whnf
        refine ⟨_, _, _, _, _, _, _, rfl, e11, D12, (by omega), h14, h16, h17, ?_⟩
        intro J18 o19 g20 e21 D22
        conv => whnf
        refine brF ?_
        conv => whnf
        refine ⟨⟨_, rfl⟩, (U.ext_kn (U.ext_gn (LamX.ExtN.trans (LamX.ExtN.refl _) s3) p0 g10) p0 g20), _, e21, (U.Dice.up D22 (by omega))⟩
      · rintro σ H3 ⟨⟨v3, rfl⟩, s3, _⟩
        conv => whnf
        exact ⟨⟨_, _, _, rfl⟩, s1.trans s3⟩
    · rintro σ H1 ⟨⟨v1, v2, v3, rfl⟩, s1⟩
      conv => whnf
      intro p4 f5
      have g6 := Gr.rfl'.up (o := HO.dK []) f5
      have e6 := upd_same (H := H1) (a := p4) (o := HO.dK [])
      generalize upd H1 p4 (HO.dK []) = J6 at g6 e6 ⊢
      conv => whnf
      refine ⟨(by decide), ?_⟩
      intro p7 f8
      have g9 := Gr.rfl'.up (o := HO.tup [V.str ("a")]) f8
      have e9 := upd_same (H := J6) (a := p7) (o := HO.tup [V.str ("a")])
      generalize upd J6 p7 (HO.tup [V.str ("a")]) = J9 at g9 e9 ⊢
      conv => whnf
      refine ⟨g9 _ _ e6, [(.inr "r", .ref p7)], rfl, (by show 1 ≤ 15; decide), ?_⟩
      conv => whnf
      refine ⟨(by decide), ?_⟩
      have x10 := U.Gx.wrote J9 p4 (HO.dK (mergeK [] [(Sum.inr ("r"), V.ref p7)]))
      have e10 := upd_same (H := J9) (a := p4) (o := HO.dK (mergeK [] [(Sum.inr ("r"), V.ref p7)]))
      generalize upd J9 p4 (HO.dK (mergeK [] [(Sum.inr ("r"), V.ref p7)])) = J10 at x10 e10 ⊢
      conv => whnf
      intro p11 f12
      have g13 := Gr.rfl'.up (o := HO.tup []) f12
      have e13 := upd_same (H := J10) (a := p11) (o := HO.tup [])
      generalize upd J10 p11 (HO.tup []) = J13 at g13 e13 ⊢
      conv => whnf
      intro p14 p15 f16 f17 h18
      have g19 := U.make_gr f16 f17 h18 (C := T.c_Question)
      have e19 := upd_same (H := upd J13 p15 (HO.own p14)) (a := p14) (o := HO.ins T.c_Question p15 [])
      generalize upd (upd J13 p15 (HO.own p14)) p14 (HO.ins T.c_Question p15 []) = J19 at g19 e19 ⊢
      conv => whnf
      have bare := okB_ok (ts := [("r", ["a"])]) (gs := []) (us := ["a"]) (by decide +kernel)
      have e10b : J10 p4 = some (.dK [(.inr "r", .ref p7)]) := e10
      have e9b : J9 p7 = some (.tup ((["a"] : List Str).map V.str)) := e9
      have d9 : DRel TupS J9 [(.inr "r", .ref p7)] [("r", ["a"])] := .add rfl ⟨p7, rfl, e9b⟩ .nil
      have e13b : J13 p11 = some (.tup (([] : List Str).map V.str)) := e13
      have okz : OKZ (names [(("r" : Str), (["a"] : List Str))]) [] := ⟨by decide, fun z hz => (nomatch hz), fun z hz => (nomatch hz)⟩
      have d19 : DRel TupS J19 [(.inr "r", .ref p7)] [("r", ["a"])] := by
        exact (d9.mono fun _ _ r => (U.TupS.up (U.TupS.up (U.TupS.gxk r (g9 _ _ e6) x10) g13) g19))
      refine ⟨p14, p15, p4, p11, .non, _, _, _, [], rfl, e19, g19 _ _ (g13 _ _ e10b), d19, bare.1, g19 _ _ e13b, bare.2, .inl ⟨rfl, rfl⟩, okz, ?_⟩
      intro J20 g21 q22 h23
      refine ⟨rfl, ?_⟩
      conv => whnf
      refine ⟨(by decide), ?_⟩
      intro p24 f25
      have g26 := Gr.rfl'.up (o := HO.lst [V.int 6, V.int 8, V.int 9]) f25
      have e26 := upd_same (H := J20) (a := p24) (o := HO.lst [V.int 6, V.int 8, V.int 9])
      generalize upd J20 p24 (HO.lst [V.int 6, V.int 8, V.int 9]) = J26 at g26 e26 ⊢
      conv => whnf
      refine ⟨(by decide), ?_⟩
      intro p27 f28
      have g29 := Gr.rfl'.up (o := HO.lst [V.int 6, V.int 8, V.int 9]) f28
      have e29 := upd_same (H := J26) (a := p27) (o := HO.lst [V.int 6, V.int 8, V.int 9])
      generalize upd J26 p27 (HO.lst [V.int 6, V.int 8, V.int 9]) = J29 at g29 e29 ⊢
      conv => whnf
      refine ⟨_, _, (.lst (SqL.of (g29 _ _ e26)) (.cons (.int _) (.cons (.int _) (.cons (.int _) .nil)))), (.lst (SqL.of e29) (.cons (.int _) (.cons (.int _) (.cons (.int _) .nil)))), rfl, rfl, ?_⟩
      conv => whnf
      refine brT ?_
      conv => whnf
      obtain ⟨dxq, dq, gq, eq_, cq, lq, kvq, kzq, haq, _⟩ := id q22
      refine ⟨_, _, _, rfl, (g29 _ _ (g26 _ _ haq)), ?_⟩
      conv => whnf
      refine ⟨_, _, _, _, rfl, (U.QO.up (U.QO.up q22 g26) g29), ?_⟩
      intro J30 p31 x32 g33 f34 e35 d36
      conv => whnf
      obtain ⟨vr, hvr, ar, dr, rfl, har⟩ := d36.get (x := "r") (b := ((1 : Nat), (1 : Nat))) (by decide +kernel)
      refine ⟨_, _, rfl, (.inl ⟨_, .inr ("r"), .inl e35, rfl, hvr.symm⟩), _, _, _, rfl, har, ?_⟩
      conv => whnf
      refine ⟨_, _, _, rfl, ⟨_, ⟨_, ⟨rfl, har⟩⟩⟩, ?_⟩
      intro p37 J38 g39 f40 e41
      conv => whnf
      refine ⟨(by decide), ?_⟩
      intro p42 f43
      have g44 := Gr.rfl'.up (o := HO.tup [V.int 1, V.int 1]) f43
      have e44 := upd_same (H := J38) (a := p42) (o := HO.tup [V.int 1, V.int 1])
      generalize upd J38 p42 (HO.tup [V.int 1, V.int 1]) = J44 at g44 e44 ⊢
      conv => whnf
      refine ⟨_, _, (.tup (SqT.of (g44 _ _ e41)) (.cons (.int _) (.cons (.int _) .nil))), (.tup (SqT.of e44) (.cons (.int _) (.cons (.int _) .nil))), rfl, rfl, ?_⟩
      conv => whnf
      exact k _
end
open PySem.W in
theorem all_mk {P : Program} {w : World} {K : Frag} {h : Heap} {mg : Str → Option Value} {fa : Addr} (X : K.In h) (G : h.Ns mainGlobals mg) (hfa : mg "law" = some (.ref fa))
    {q_Question : Addr} (aq_Question : nsIn K mainGlobals "Question" = some (some (.ref q_Question)))
    (pg_Question : plainGet K q_Question Str.empty = true)
    (hd_Question : hasDictIn K q_Question = true)
    (po_Question : plainOver K q_Question = true)
    (sa_Question : findIn K (.ref q_Question) "__setattr__" = some (some (.builtin "object.__setattr__")))
    (sf_Question : selfFirst K q_Question = true)
    (ha_Question : findIn K (.ref q_Question) "__class__" = some (some (.builtin "object.__class__")))
    (hn_Question : specialIn K (.builtin "object.__class__") "__get__" = some (some (.builtin "getset_descriptor.__get__")))
    (htk_Question : takesIn K (.builtin "object.__class__") = some true)
    (hm_Question : mroIn K q_Question (.type "object") = some true)
    (tyC_Question : typeIn K (.ref q_Question) = some (.type "type"))
    (nn_Question : findIn K (.ref q_Question) "__ne__" = some (some (.builtin "object.__ne__")))
    (nf_Question__tables : findIn K (.ref q_Question) "_tables" = some none)
    (nf_Question__groups : findIn K (.ref q_Question) "_groups" = some none)
    (nf_Question__sizes : findIn K (.ref q_Question) "_sizes" = some none)
    (nf_Question__columns : findIn K (.ref q_Question) "_columns" = some none)
    (nf_Question__lines : findIn K (.ref q_Question) "_lines" = some none)
    {q_Ratio : Addr} (aq_Ratio : nsIn K mainGlobals "Ratio" = some (some (.ref q_Ratio)))
    (pg_Ratio : plainGet K q_Ratio Str.empty = true)
    (hd_Ratio : hasDictIn K q_Ratio = true)
    (po_Ratio : plainOver K q_Ratio = true)
    (sa_Ratio : findIn K (.ref q_Ratio) "__setattr__" = some (some (.builtin "object.__setattr__")))
    (sf_Ratio : selfFirst K q_Ratio = true)
    (ha_Ratio : findIn K (.ref q_Ratio) "__class__" = some (some (.builtin "object.__class__")))
    (hn_Ratio : specialIn K (.builtin "object.__class__") "__get__" = some (some (.builtin "getset_descriptor.__get__")))
    (htk_Ratio : takesIn K (.builtin "object.__class__") = some true)
    (hm_Ratio : mroIn K q_Ratio (.type "object") = some true)
    (tyC_Ratio : typeIn K (.ref q_Ratio) = some (.type "type"))
    (nf_Ratio__top : findIn K (.ref q_Ratio) "_top" = some none)
    (nf_Ratio__bottom : findIn K (.ref q_Ratio) "_bottom" = some none)
    (xf_fmt_Ratio : PySem.W.findIn K (.ref q_Ratio) "__format__" = some (some (.builtin "object.__format__")))
    (xf_mro_Ratio : PySem.W.mroIn K q_Ratio (.type "object") = some true)
    (xf_nstr_Question : PySem.W.subIn K (.ref q_Question) (.type "str") = some false)
    {f1 : Addr} {od1 an1 : Option Addr} {sl1 : Array (Option Value)} {oc1 kV1 dc1 pm1 cd1 ct1 : Value} (a1 : nsIn K mainGlobals "_law_dice" = some (some (.ref f1)))
    (l1 : K.lookup f1 = some ⟨oc1, od1, .func (fnOf "_law_dice" "_law_dice" (defArgs s__law_dice) (defBody s__law_dice) (defScope s__law_dice) .none kV1 dc1 pm1 an1 cd1 ct1), sl1⟩) (c1 : codeIn K cd1 "_law_dice" = true) (k1 : keepIn K (.ref f1) = true)
    {f2 : Addr} {od2 an2 : Option Addr} {sl2 : Array (Option Value)} {oc2 kV2 dc2 pm2 cd2 ct2 : Value} (a2 : nsIn K mainGlobals "_law_roll" = some (some (.ref f2)))
    (l2 : K.lookup f2 = some ⟨oc2, od2, .func (fnOf "_law_roll" "_law_roll" (defArgs s__law_roll) (defBody s__law_roll) (defScope s__law_roll) .none kV2 dc2 pm2 an2 cd2 ct2), sl2⟩) (c2 : codeIn K cd2 "_law_roll" = true) (k2 : keepIn K (.ref f2) = true)
    {f3 : Addr} {od3 an3 : Option Addr} {sl3 : Array (Option Value)} {oc3 kV3 dc3 pm3 cd3 ct3 : Value} (a3 : nsIn K mainGlobals "_law_mixed" = some (some (.ref f3)))
    (l3 : K.lookup f3 = some ⟨oc3, od3, .func (fnOf "_law_mixed" "_law_mixed" (defArgs s__law_mixed) (defBody s__law_mixed) (defScope s__law_mixed) .none kV3 dc3 pm3 an3 cd3 ct3), sl3⟩) (c3 : codeIn K cd3 "_law_mixed" = true) (k3 : keepIn K (.ref f3) = true)
    {f4 : Addr} {od4 an4 : Option Addr} {sl4 : Array (Option Value)} {oc4 kV4 dc4 pm4 cd4 ct4 : Value} (a4 : nsIn K mainGlobals "_law_names" = some (some (.ref f4)))
    (l4 : K.lookup f4 = some ⟨oc4, od4, .func (fnOf "_law_names" "_law_names" (defArgs s__law_names) (defBody s__law_names) (defScope s__law_names) .none kV4 dc4 pm4 an4 cd4 ct4), sl4⟩) (c4 : codeIn K cd4 "_law_names" = true) (k4 : keepIn K (.ref f4) = true)
    {f5 : Addr} {od5 an5 : Option Addr} {sl5 : Array (Option Value)} {oc5 kV5 dc5 pm5 cd5 ct5 : Value} (a5 : nsIn K mainGlobals "is_integer" = some (some (.ref f5)))
    (l5 : K.lookup f5 = some ⟨oc5, od5, .func (fnOf "is_integer" "is_integer" (defArgs s_is_integer) (defBody s_is_integer) (defScope s_is_integer) .none kV5 dc5 pm5 an5 cd5 ct5), sl5⟩) (c5 : codeIn K cd5 "is_integer" = true) (k5 : keepIn K (.ref f5) = true)
    {f6 : Addr} (a6 : findIn K (.ref q_Ratio) "__init__" = some (some (.ref f6))) (i6 : isFn K (.ref f6) = true)
    {od6 an6 : Option Addr} {sl6 : Array (Option Value)} {oc6 kV6 dc6 pm6 cd6 ct6 : Value} (l6 : K.lookup f6 = some ⟨oc6, od6, .func (fnOf "__init__" "Ratio.__init__" (defArgs s_Ratio___init__) (defBody s_Ratio___init__) (defScope s_Ratio___init__) .none kV6 dc6 pm6 an6 cd6 ct6), sl6⟩) (c6 : codeIn K cd6 "Ratio.__init__" = true) (k6 : keepIn K (.ref f6) = true)
    (mk_Ratio : makesIn K q_Ratio = true) (kc_Ratio : keepIn K (.ref q_Ratio) = true)
    {f7 : Addr} {od7 an7 : Option Addr} {sl7 : Array (Option Value)} {oc7 kV7 dc7 pm7 cd7 ct7 : Value} (a7 : nsIn K mainGlobals "is_name" = some (some (.ref f7)))
    (l7 : K.lookup f7 = some ⟨oc7, od7, .func (fnOf "is_name" "is_name" (defArgs s_is_name) (defBody s_is_name) (defScope s_is_name) .none kV7 dc7 pm7 an7 cd7 ct7), sl7⟩) (c7 : codeIn K cd7 "is_name" = true) (k7 : keepIn K (.ref f7) = true)
    {f8 : Addr} {od8 an8 : Option Addr} {sl8 : Array (Option Value)} {oc8 kV8 dc8 pm8 cd8 ct8 : Value} (a8 : nsIn K mainGlobals "is_ascending_names" = some (some (.ref f8)))
    (l8 : K.lookup f8 = some ⟨oc8, od8, .func (fnOf "is_ascending_names" "is_ascending_names" (defArgs s_is_ascending_names) (defBody s_is_ascending_names) (defScope s_is_ascending_names) .none kV8 dc8 pm8 an8 cd8 ct8), sl8⟩) (c8 : codeIn K cd8 "is_ascending_names" = true) (k8 : keepIn K (.ref f8) = true)
    {f9 : Addr} {od9 an9 : Option Addr} {sl9 : Array (Option Value)} {oc9 kV9 dc9 pm9 cd9 ct9 : Value} (a9 : nsIn K mainGlobals "_columns_of" = some (some (.ref f9)))
    (l9 : K.lookup f9 = some ⟨oc9, od9, .func (fnOf "_columns_of" "_columns_of" (defArgs s__columns_of) (defBody s__columns_of) (defScope s__columns_of) .none kV9 dc9 pm9 an9 cd9 ct9), sl9⟩) (c9 : codeIn K cd9 "_columns_of" = true) (k9 : keepIn K (.ref f9) = true)
    {f10 : Addr} {od10 an10 : Option Addr} {sl10 : Array (Option Value)} {oc10 kV10 dc10 pm10 cd10 ct10 : Value} (a10 : nsIn K mainGlobals "_is_tables" = some (some (.ref f10)))
    (l10 : K.lookup f10 = some ⟨oc10, od10, .func (fnOf "_is_tables" "_is_tables" (defArgs s__is_tables) (defBody s__is_tables) (defScope s__is_tables) .none kV10 dc10 pm10 an10 cd10 ct10), sl10⟩) (c10 : codeIn K cd10 "_is_tables" = true) (k10 : keepIn K (.ref f10) = true)
    {f11 : Addr} {od11 an11 : Option Addr} {sl11 : Array (Option Value)} {oc11 kV11 dc11 pm11 cd11 ct11 : Value} (a11 : nsIn K mainGlobals "_is_groups" = some (some (.ref f11)))
    (l11 : K.lookup f11 = some ⟨oc11, od11, .func (fnOf "_is_groups" "_is_groups" (defArgs s__is_groups) (defBody s__is_groups) (defScope s__is_groups) .none kV11 dc11 pm11 an11 cd11 ct11), sl11⟩) (c11 : codeIn K cd11 "_is_groups" = true) (k11 : keepIn K (.ref f11) = true)
    {f12 u12 : Addr} {rest12 : List Value} (pa12 : findIn K (.ref q_Ratio) "bottom" = some (some (.ref u12))) (pb12 : specialIn K (.ref u12) "__get__" = some (some (.builtin "property.__get__"))) (pc12 : takesIn K (.ref u12) = some true) (pd12 : recIn K u12 "property" = some (.ref f12 :: rest12))
    {od12 an12 : Option Addr} {sl12 : Array (Option Value)} {oc12 kV12 dc12 pm12 cd12 ct12 : Value} (l12 : K.lookup f12 = some ⟨oc12, od12, .func (fnOf "bottom" "Ratio.bottom" (defArgs s_Ratio_bottom) (defBody s_Ratio_bottom) (defScope s_Ratio_bottom) .none kV12 dc12 pm12 an12 cd12 ct12), sl12⟩) (c12 : codeIn K cd12 "Ratio.bottom" = true) (k12 : keepIn K (.ref f12) = true)
    {f13 u13 : Addr} {rest13 : List Value} (pa13 : findIn K (.ref q_Ratio) "top" = some (some (.ref u13))) (pb13 : specialIn K (.ref u13) "__get__" = some (some (.builtin "property.__get__"))) (pc13 : takesIn K (.ref u13) = some true) (pd13 : recIn K u13 "property" = some (.ref f13 :: rest13))
    {od13 an13 : Option Addr} {sl13 : Array (Option Value)} {oc13 kV13 dc13 pm13 cd13 ct13 : Value} (l13 : K.lookup f13 = some ⟨oc13, od13, .func (fnOf "top" "Ratio.top" (defArgs s_Ratio_top) (defBody s_Ratio_top) (defScope s_Ratio_top) .none kV13 dc13 pm13 an13 cd13 ct13), sl13⟩) (c13 : codeIn K cd13 "Ratio.top" = true) (k13 : keepIn K (.ref f13) = true)
    {f14 : Addr} {od14 an14 : Option Addr} {sl14 : Array (Option Value)} {oc14 kV14 dc14 pm14 cd14 ct14 : Value} (a14 : nsIn K mainGlobals "_is_size" = some (some (.ref f14)))
    (l14 : K.lookup f14 = some ⟨oc14, od14, .func (fnOf "_is_size" "_is_size" (defArgs s__is_size) (defBody s__is_size) (defScope s__is_size) .none kV14 dc14 pm14 an14 cd14 ct14), sl14⟩) (c14 : codeIn K cd14 "_is_size" = true) (k14 : keepIn K (.ref f14) = true)
    {f15 : Addr} {od15 an15 : Option Addr} {sl15 : Array (Option Value)} {oc15 kV15 dc15 pm15 cd15 ct15 : Value} (a15 : nsIn K mainGlobals "_is_sizes" = some (some (.ref f15)))
    (l15 : K.lookup f15 = some ⟨oc15, od15, .func (fnOf "_is_sizes" "_is_sizes" (defArgs s__is_sizes) (defBody s__is_sizes) (defScope s__is_sizes) .none kV15 dc15 pm15 an15 cd15 ct15), sl15⟩) (c15 : codeIn K cd15 "_is_sizes" = true) (k15 : keepIn K (.ref f15) = true)
    {f16 : Addr} {od16 an16 : Option Addr} {sl16 : Array (Option Value)} {oc16 kV16 dc16 pm16 cd16 ct16 : Value} (a16 : nsIn K mainGlobals "written" = some (some (.ref f16)))
    (l16 : K.lookup f16 = some ⟨oc16, od16, .func (fnOf "written" "written" (defArgs s_written) (defBody s_written) (defScope s_written) .none kV16 dc16 pm16 an16 cd16 ct16), sl16⟩) (c16 : codeIn K cd16 "written" = true) (k16 : keepIn K (.ref f16) = true)
    {f17 : Addr} (a17 : findIn K (.ref q_Ratio) "__str__" = some (some (.ref f17))) (i17 : isFn K (.ref f17) = true)
    {od17 an17 : Option Addr} {sl17 : Array (Option Value)} {oc17 kV17 dc17 pm17 cd17 ct17 : Value} (l17 : K.lookup f17 = some ⟨oc17, od17, .func (fnOf "__str__" "Ratio.__str__" (defArgs s_Ratio___str__) (defBody s_Ratio___str__) (defScope s_Ratio___str__) .none kV17 dc17 pm17 an17 cd17 ct17), sl17⟩) (c17 : codeIn K cd17 "Ratio.__str__" = true) (k17 : keepIn K (.ref f17) = true)
    {f18 u18 : Addr} {rest18 : List Value} (pa18 : findIn K (.ref q_Ratio) "pair" = some (some (.ref u18))) (pb18 : specialIn K (.ref u18) "__get__" = some (some (.builtin "property.__get__"))) (pc18 : takesIn K (.ref u18) = some true) (pd18 : recIn K u18 "property" = some (.ref f18 :: rest18))
    {od18 an18 : Option Addr} {sl18 : Array (Option Value)} {oc18 kV18 dc18 pm18 cd18 ct18 : Value} (l18 : K.lookup f18 = some ⟨oc18, od18, .func (fnOf "pair" "Ratio.pair" (defArgs s_Ratio_pair) (defBody s_Ratio_pair) (defScope s_Ratio_pair) .none kV18 dc18 pm18 an18 cd18 ct18), sl18⟩) (c18 : codeIn K cd18 "Ratio.pair" = true) (k18 : keepIn K (.ref f18) = true)
    {f19 : Addr} {od19 an19 : Option Addr} {sl19 : Array (Option Value)} {oc19 kV19 dc19 pm19 cd19 ct19 : Value} (a19 : nsIn K mainGlobals "_lines_of" = some (some (.ref f19)))
    (l19 : K.lookup f19 = some ⟨oc19, od19, .func (fnOf "_lines_of" "_lines_of" (defArgs s__lines_of) (defBody s__lines_of) (defScope s__lines_of) .none kV19 dc19 pm19 an19 cd19 ct19), sl19⟩) (c19 : codeIn K cd19 "_lines_of" = true) (k19 : keepIn K (.ref f19) = true)
    {f20 : Addr} (a20 : findIn K (.ref q_Question) "__init__" = some (some (.ref f20))) (i20 : isFn K (.ref f20) = true)
    {DD20 : Addr} {od20 an20 : Option Addr} {sl20 : Array (Option Value)} {oc20 dc20 pm20 cd20 ct20 : Value} (l20 : K.lookup f20 = some ⟨oc20, od20, .func (fnOf "__init__" "Question.__init__" (defArgs s_Question___init__) (defBody s_Question___init__) (defScope s_Question___init__) .none (.ref DD20) dc20 pm20 an20 cd20 ct20), sl20⟩) (c20 : codeIn K cd20 "Question.__init__" = true) (k20 : keepIn K (.ref f20) = true) (kw20_sizes : nsIn K DD20 "sizes" = some (some .none))
    (mk_Question : makesIn K q_Question = true) (kc_Question : keepIn K (.ref q_Question) = true)
    {f21 u21 : Addr} {rest21 : List Value} (pa21 : findIn K (.ref q_Question) "tables" = some (some (.ref u21))) (pb21 : specialIn K (.ref u21) "__get__" = some (some (.builtin "property.__get__"))) (pc21 : takesIn K (.ref u21) = some true) (pd21 : recIn K u21 "property" = some (.ref f21 :: rest21))
    {od21 an21 : Option Addr} {sl21 : Array (Option Value)} {oc21 kV21 dc21 pm21 cd21 ct21 : Value} (l21 : K.lookup f21 = some ⟨oc21, od21, .func (fnOf "tables" "Question.tables" (defArgs s_Question_tables) (defBody s_Question_tables) (defScope s_Question_tables) .none kV21 dc21 pm21 an21 cd21 ct21), sl21⟩) (c21 : codeIn K cd21 "Question.tables" = true) (k21 : keepIn K (.ref f21) = true)
    {f22 u22 : Addr} {rest22 : List Value} (pa22 : findIn K (.ref q_Question) "sizes" = some (some (.ref u22))) (pb22 : specialIn K (.ref u22) "__get__" = some (some (.builtin "property.__get__"))) (pc22 : takesIn K (.ref u22) = some true) (pd22 : recIn K u22 "property" = some (.ref f22 :: rest22))
    {od22 an22 : Option Addr} {sl22 : Array (Option Value)} {oc22 kV22 dc22 pm22 cd22 ct22 : Value} (l22 : K.lookup f22 = some ⟨oc22, od22, .func (fnOf "sizes" "Question.sizes" (defArgs s_Question_sizes) (defBody s_Question_sizes) (defScope s_Question_sizes) .none kV22 dc22 pm22 an22 cd22 ct22), sl22⟩) (c22 : codeIn K cd22 "Question.sizes" = true) (k22 : keepIn K (.ref f22) = true)
    {f23 : Addr} (a23 : findIn K (.ref q_Question) "__len__" = some (some (.ref f23))) (i23 : isFn K (.ref f23) = true)
    {od23 an23 : Option Addr} {sl23 : Array (Option Value)} {oc23 kV23 dc23 pm23 cd23 ct23 : Value} (l23 : K.lookup f23 = some ⟨oc23, od23, .func (fnOf "__len__" "Question.__len__" (defArgs s_Question___len__) (defBody s_Question___len__) (defScope s_Question___len__) .none kV23 dc23 pm23 an23 cd23 ct23), sl23⟩) (c23 : codeIn K cd23 "Question.__len__" = true) (k23 : keepIn K (.ref f23) = true)
    {f24 : Addr} {od24 an24 : Option Addr} {sl24 : Array (Option Value)} {oc24 kV24 dc24 pm24 cd24 ct24 : Value} (a24 : nsIn K mainGlobals "_law_columns" = some (some (.ref f24)))
    (l24 : K.lookup f24 = some ⟨oc24, od24, .func (fnOf "_law_columns" "_law_columns" (defArgs s__law_columns) (defBody s__law_columns) (defScope s__law_columns) .none kV24 dc24 pm24 an24 cd24 ct24), sl24⟩) (c24 : codeIn K cd24 "_law_columns" = true) (k24 : keepIn K (.ref f24) = true)
    {f25 u25 : Addr} {rest25 : List Value} (pa25 : findIn K (.ref q_Question) "groups" = some (some (.ref u25))) (pb25 : specialIn K (.ref u25) "__get__" = some (some (.builtin "property.__get__"))) (pc25 : takesIn K (.ref u25) = some true) (pd25 : recIn K u25 "property" = some (.ref f25 :: rest25))
    {od25 an25 : Option Addr} {sl25 : Array (Option Value)} {oc25 kV25 dc25 pm25 cd25 ct25 : Value} (l25 : K.lookup f25 = some ⟨oc25, od25, .func (fnOf "groups" "Question.groups" (defArgs s_Question_groups) (defBody s_Question_groups) (defScope s_Question_groups) .none kV25 dc25 pm25 an25 cd25 ct25), sl25⟩) (c25 : codeIn K cd25 "Question.groups" = true) (k25 : keepIn K (.ref f25) = true)
    {f26 u26 : Addr} {rest26 : List Value} (pa26 : findIn K (.ref q_Question) "names" = some (some (.ref u26))) (pb26 : specialIn K (.ref u26) "__get__" = some (some (.builtin "property.__get__"))) (pc26 : takesIn K (.ref u26) = some true) (pd26 : recIn K u26 "property" = some (.ref f26 :: rest26))
    {od26 an26 : Option Addr} {sl26 : Array (Option Value)} {oc26 kV26 dc26 pm26 cd26 ct26 : Value} (l26 : K.lookup f26 = some ⟨oc26, od26, .func (fnOf "names" "Question.names" (defArgs s_Question_names) (defBody s_Question_names) (defScope s_Question_names) .none kV26 dc26 pm26 an26 cd26 ct26), sl26⟩) (c26 : codeIn K cd26 "Question.names" = true) (k26 : keepIn K (.ref f26) = true)
    {f27 u27 : Addr} {rest27 : List Value} (pa27 : findIn K (.ref q_Question) "columns" = some (some (.ref u27))) (pb27 : specialIn K (.ref u27) "__get__" = some (some (.builtin "property.__get__"))) (pc27 : takesIn K (.ref u27) = some true) (pd27 : recIn K u27 "property" = some (.ref f27 :: rest27))
    {od27 an27 : Option Addr} {sl27 : Array (Option Value)} {oc27 kV27 dc27 pm27 cd27 ct27 : Value} (l27 : K.lookup f27 = some ⟨oc27, od27, .func (fnOf "columns" "Question.columns" (defArgs s_Question_columns) (defBody s_Question_columns) (defScope s_Question_columns) .none kV27 dc27 pm27 an27 cd27 ct27), sl27⟩) (c27 : codeIn K cd27 "Question.columns" = true) (k27 : keepIn K (.ref f27) = true)
    {f28 u28 : Addr} {rest28 : List Value} (pa28 : findIn K (.ref q_Question) "lines" = some (some (.ref u28))) (pb28 : specialIn K (.ref u28) "__get__" = some (some (.builtin "property.__get__"))) (pc28 : takesIn K (.ref u28) = some true) (pd28 : recIn K u28 "property" = some (.ref f28 :: rest28))
    {od28 an28 : Option Addr} {sl28 : Array (Option Value)} {oc28 kV28 dc28 pm28 cd28 ct28 : Value} (l28 : K.lookup f28 = some ⟨oc28, od28, .func (fnOf "lines" "Question.lines" (defArgs s_Question_lines) (defBody s_Question_lines) (defScope s_Question_lines) .none kV28 dc28 pm28 an28 cd28 ct28), sl28⟩) (c28 : codeIn K cd28 "Question.lines" = true) (k28 : keepIn K (.ref f28) = true)
    {f29 : Addr} (a29 : findIn K (.ref q_Question) "__iter__" = some (some (.ref f29))) (i29 : isFn K (.ref f29) = true)
    {od29 an29 : Option Addr} {sl29 : Array (Option Value)} {oc29 kV29 dc29 pm29 cd29 ct29 : Value} (l29 : K.lookup f29 = some ⟨oc29, od29, .func (fnOf "__iter__" "Question.__iter__" (defArgs s_Question___iter__) (defBody s_Question___iter__) (defScope s_Question___iter__) .none kV29 dc29 pm29 an29 cd29 ct29), sl29⟩) (c29 : codeIn K cd29 "Question.__iter__" = true) (k29 : keepIn K (.ref f29) = true)
    {f30 : Addr} {od30 an30 : Option Addr} {sl30 : Array (Option Value)} {oc30 kV30 dc30 pm30 cd30 ct30 : Value} (a30 : nsIn K mainGlobals "_law_ratio_text" = some (some (.ref f30)))
    (l30 : K.lookup f30 = some ⟨oc30, od30, .func (fnOf "_law_ratio_text" "_law_ratio_text" (defArgs s__law_ratio_text) (defBody s__law_ratio_text) (defScope s__law_ratio_text) .none kV30 dc30 pm30 an30 cd30 ct30), sl30⟩) (c30 : codeIn K cd30 "_law_ratio_text" = true) (k30 : keepIn K (.ref f30) = true)
    {f31 : Addr} {od31 an31 : Option Addr} {sl31 : Array (Option Value)} {oc31 kV31 dc31 pm31 cd31 ct31 : Value} (a31 : nsIn K mainGlobals "_law_lines" = some (some (.ref f31)))
    (l31 : K.lookup f31 = some ⟨oc31, od31, .func (fnOf "_law_lines" "_law_lines" (defArgs s__law_lines) (defBody s__law_lines) (defScope s__law_lines) .none kV31 dc31 pm31 an31 cd31 ct31), sl31⟩) (c31 : codeIn K cd31 "_law_lines" = true) (k31 : keepIn K (.ref f31) = true)
    {f32 : Addr} (a32 : findIn K (.ref q_Question) "tables_with" = some (some (.ref f32))) (i32 : isFn K (.ref f32) = true)
    {od32 an32 : Option Addr} {sl32 : Array (Option Value)} {oc32 kV32 dc32 pm32 cd32 ct32 : Value} (l32 : K.lookup f32 = some ⟨oc32, od32, .func (fnOf "tables_with" "Question.tables_with" (defArgs s_Question_tables_with) (defBody s_Question_tables_with) (defScope s_Question_tables_with) .none kV32 dc32 pm32 an32 cd32 ct32), sl32⟩) (c32 : codeIn K cd32 "Question.tables_with" = true) (k32 : keepIn K (.ref f32) = true)
    {f33 : Addr} (a33 : findIn K (.ref q_Question) "__str__" = some (some (.ref f33))) (i33 : isFn K (.ref f33) = true)
    {od33 an33 : Option Addr} {sl33 : Array (Option Value)} {oc33 kV33 dc33 pm33 cd33 ct33 : Value} (l33 : K.lookup f33 = some ⟨oc33, od33, .func (fnOf "__str__" "Question.__str__" (defArgs s_Question___str__) (defBody s_Question___str__) (defScope s_Question___str__) .none kV33 dc33 pm33 an33 cd33 ct33), sl33⟩) (c33 : codeIn K cd33 "Question.__str__" = true) (k33 : keepIn K (.ref f33) = true)
    {f34 : Addr} (a34 : findIn K (.ref q_Question) "__contains__" = some (some (.ref f34))) (i34 : isFn K (.ref f34) = true)
    {od34 an34 : Option Addr} {sl34 : Array (Option Value)} {oc34 kV34 dc34 pm34 cd34 ct34 : Value} (l34 : K.lookup f34 = some ⟨oc34, od34, .func (fnOf "__contains__" "Question.__contains__" (defArgs s_Question___contains__) (defBody s_Question___contains__) (defScope s_Question___contains__) .none kV34 dc34 pm34 an34 cd34 ct34), sl34⟩) (c34 : codeIn K cd34 "Question.__contains__" = true) (k34 : keepIn K (.ref f34) = true)
    {f35 : Addr} {od35 an35 : Option Addr} {sl35 : Array (Option Value)} {oc35 kV35 dc35 pm35 cd35 ct35 : Value} (a35 : nsIn K mainGlobals "_law_is_told" = some (some (.ref f35)))
    (l35 : K.lookup f35 = some ⟨oc35, od35, .func (fnOf "_law_is_told" "_law_is_told" (defArgs s__law_is_told) (defBody s__law_is_told) (defScope s__law_is_told) .none kV35 dc35 pm35 an35 cd35 ct35), sl35⟩) (c35 : codeIn K cd35 "_law_is_told" = true) (k35 : keepIn K (.ref f35) = true)
    {f36 : Addr} {od36 an36 : Option Addr} {sl36 : Array (Option Value)} {oc36 kV36 dc36 pm36 cd36 ct36 : Value} (a36 : nsIn K mainGlobals "_law_copy" = some (some (.ref f36)))
    (l36 : K.lookup f36 = some ⟨oc36, od36, .func (fnOf "_law_copy" "_law_copy" (defArgs s__law_copy) (defBody s__law_copy) (defScope s__law_copy) .none kV36 dc36 pm36 an36 cd36 ct36), sl36⟩) (c36 : codeIn K cd36 "_law_copy" = true) (k36 : keepIn K (.ref f36) = true)
    {f37 : Addr} {od37 an37 : Option Addr} {sl37 : Array (Option Value)} {oc37 kV37 dc37 pm37 cd37 ct37 : Value} (a37 : nsIn K mainGlobals "_law_pick" = some (some (.ref f37)))
    (l37 : K.lookup f37 = some ⟨oc37, od37, .func (fnOf "_law_pick" "_law_pick" (defArgs s__law_pick) (defBody s__law_pick) (defScope s__law_pick) .none kV37 dc37 pm37 an37 cd37 ct37), sl37⟩) (c37 : codeIn K cd37 "_law_pick" = true) (k37 : keepIn K (.ref f37) = true)
    {f38 : Addr} {od38 an38 : Option Addr} {sl38 : Array (Option Value)} {oc38 kV38 dc38 pm38 cd38 ct38 : Value} (a38 : nsIn K mainGlobals "_law_other" = some (some (.ref f38)))
    (l38 : K.lookup f38 = some ⟨oc38, od38, .func (fnOf "_law_other" "_law_other" (defArgs s__law_other) (defBody s__law_other) (defScope s__law_other) .none kV38 dc38 pm38 an38 cd38 ct38), sl38⟩) (c38 : codeIn K cd38 "_law_other" = true) (k38 : keepIn K (.ref f38) = true)
    {f39 : Addr} {od39 an39 : Option Addr} {sl39 : Array (Option Value)} {oc39 kV39 dc39 pm39 cd39 ct39 : Value} (a39 : nsIn K mainGlobals "_law_made" = some (some (.ref f39)))
    (l39 : K.lookup f39 = some ⟨oc39, od39, .func (fnOf "_law_made" "_law_made" (defArgs s__law_made) (defBody s__law_made) (defScope s__law_made) .none kV39 dc39 pm39 an39 cd39 ct39), sl39⟩) (c39 : codeIn K cd39 "_law_made" = true) (k39 : keepIn K (.ref f39) = true)
    {f40 : Addr} (a40 : findIn K (.ref q_Ratio) "__eq__" = some (some (.ref f40))) (i40 : isFn K (.ref f40) = true)
    {od40 an40 : Option Addr} {sl40 : Array (Option Value)} {oc40 kV40 dc40 pm40 cd40 ct40 : Value} (l40 : K.lookup f40 = some ⟨oc40, od40, .func (fnOf "__eq__" "Ratio.__eq__" (defArgs s_Ratio___eq__) (defBody s_Ratio___eq__) (defScope s_Ratio___eq__) .none kV40 dc40 pm40 an40 cd40 ct40), sl40⟩) (c40 : codeIn K cd40 "Ratio.__eq__" = true) (k40 : keepIn K (.ref f40) = true)
    {f41 : Addr} (a41 : findIn K (.ref q_Question) "__eq__" = some (some (.ref f41))) (i41 : isFn K (.ref f41) = true)
    {od41 an41 : Option Addr} {sl41 : Array (Option Value)} {oc41 kV41 dc41 pm41 cd41 ct41 : Value} (l41 : K.lookup f41 = some ⟨oc41, od41, .func (fnOf "__eq__" "Question.__eq__" (defArgs s_Question___eq__) (defBody s_Question___eq__) (defScope s_Question___eq__) .none kV41 dc41 pm41 an41 cd41 ct41), sl41⟩) (c41 : codeIn K cd41 "Question.__eq__" = true) (k41 : keepIn K (.ref f41) = true)
    {f42 : Addr} {od42 an42 : Option Addr} {sl42 : Array (Option Value)} {oc42 kV42 dc42 pm42 cd42 ct42 : Value} (a42 : nsIn K mainGlobals "_law_right" = some (some (.ref f42)))
    (l42 : K.lookup f42 = some ⟨oc42, od42, .func (fnOf "_law_right" "_law_right" (defArgs s__law_right) (defBody s__law_right) (defScope s__law_right) .none kV42 dc42 pm42 an42 cd42 ct42), sl42⟩) (c42 : codeIn K cd42 "_law_right" = true) (k42 : keepIn K (.ref f42) = true)
    {f43 : Addr} {od43 an43 : Option Addr} {sl43 : Array (Option Value)} {oc43 kV43 dc43 pm43 cd43 ct43 : Value} (a43 : nsIn K mainGlobals "_law_plain" = some (some (.ref f43)))
    (l43 : K.lookup f43 = some ⟨oc43, od43, .func (fnOf "_law_plain" "_law_plain" (defArgs s__law_plain) (defBody s__law_plain) (defScope s__law_plain) .none kV43 dc43 pm43 an43 cd43 ct43), sl43⟩) (c43 : codeIn K cd43 "_law_plain" = true) (k43 : keepIn K (.ref f43) = true)
    {f44 : Addr} {od44 an44 : Option Addr} {sl44 : Array (Option Value)} {oc44 kV44 dc44 pm44 cd44 ct44 : Value} (a44 : nsIn K mainGlobals "_law_written" = some (some (.ref f44)))
    (l44 : K.lookup f44 = some ⟨oc44, od44, .func (fnOf "_law_written" "_law_written" (defArgs s__law_written) (defBody s__law_written) (defScope s__law_written) .none kV44 dc44 pm44 an44 cd44 ct44), sl44⟩) (c44 : codeIn K cd44 "_law_written" = true) (k44 : keepIn K (.ref f44) = true)
    {f45 : Addr} {od45 an45 : Option Addr} {sl45 : Array (Option Value)} {oc45 kV45 dc45 pm45 cd45 ct45 : Value} (a45 : nsIn K mainGlobals "_law_drawn" = some (some (.ref f45)))
    (l45 : K.lookup f45 = some ⟨oc45, od45, .func (fnOf "_law_drawn" "_law_drawn" (defArgs s__law_drawn) (defBody s__law_drawn) (defScope s__law_drawn) .none kV45 dc45 pm45 an45 cd45 ct45), sl45⟩) (c45 : codeIn K cd45 "_law_drawn" = true) (k45 : keepIn K (.ref f45) = true)
    {f46 : Addr} {od46 an46 : Option Addr} {sl46 : Array (Option Value)} {oc46 kV46 dc46 pm46 cd46 ct46 : Value} (a46 : nsIn K mainGlobals "_law_any" = some (some (.ref f46)))
    (l46 : K.lookup f46 = some ⟨oc46, od46, .func (fnOf "_law_any" "_law_any" (defArgs s__law_any) (defBody s__law_any) (defScope s__law_any) .none kV46 dc46 pm46 an46 cd46 ct46), sl46⟩) (c46 : codeIn K cd46 "_law_any" = true) (k46 : keepIn K (.ref f46) = true)
    {f47 : Addr} {od47 an47 : Option Addr} {sl47 : Array (Option Value)} {oc47 kV47 dc47 pm47 cd47 ct47 : Value} (a47 : nsIn K mainGlobals "law" = some (some (.ref f47)))
    (l47 : K.lookup f47 = some ⟨oc47, od47, .func (fnOf "law" "law" (defArgs s_law) (defBody s_law) (defScope s_law) .none kV47 dc47 pm47 an47 cd47 ct47), sl47⟩) (c47 : codeIn K cd47 "law" = true) (k47 : keepIn K (.ref f47) = true)
    (z_abs : nsIn K mainGlobals "abs" = some none)
    (z_all : nsIn K mainGlobals "all" = some none)
    (z_bool : nsIn K mainGlobals "bool" = some none)
    (z_dict : nsIn K mainGlobals "dict" = some none)
    (z_int : nsIn K mainGlobals "int" = some none)
    (z_isinstance : nsIn K mainGlobals "isinstance" = some none)
    (z_iter : nsIn K mainGlobals "iter" = some none)
    (z_len : nsIn K mainGlobals "len" = some none)
    (z_list : nsIn K mainGlobals "list" = some none)
    (z_max : nsIn K mainGlobals "max" = some none)
    (z_min : nsIn K mainGlobals "min" = some none)
    (z_range : nsIn K mainGlobals "range" = some none)
    (z_repr : nsIn K mainGlobals "repr" = some none)
    (z_set : nsIn K mainGlobals "set" = some none)
    (z_sorted : nsIn K mainGlobals "sorted" = some none)
    (z_str : nsIn K mainGlobals "str" = some none)
    (z_tuple : nsIn K mainGlobals "tuple" = some none)
    (z_zip : nsIn K mainGlobals "zip" = some none)
    (im_gcd : nsIn K mainGlobals "gcd" = some (some (.builtin "math.gcd")))
    {t_BEYOND : Tok} (w_BEYOND : nsIn K mainGlobals "BEYOND" = some (some (.int 1000000000000000000000000000000000000000000000000000000000000 t_BEYOND)))
    {t_LETTERS : Tok} (w_LETTERS : nsIn K mainGlobals "LETTERS" = some (some (.str "abcdefghijklmnopqrstuvwxyz" t_LETTERS)))
    {t_MAX_COLUMNS : Tok} (w_MAX_COLUMNS : nsIn K mainGlobals "MAX_COLUMNS" = some (some (.int 8 t_MAX_COLUMNS)))
    {t_MAX_LETTERS : Tok} (w_MAX_LETTERS : nsIn K mainGlobals "MAX_LETTERS" = some (some (.int 8 t_MAX_LETTERS)))
    {t_MAX_SIZE : Tok} (w_MAX_SIZE : nsIn K mainGlobals "MAX_SIZE" = some (some (.int 9 t_MAX_SIZE)))
    {t_MAX_SIZE_BOTTOM : Tok} (w_MAX_SIZE_BOTTOM : nsIn K mainGlobals "MAX_SIZE_BOTTOM" = some (some (.int 60 t_MAX_SIZE_BOTTOM)))
    {t_MAX_TABLES : Tok} (w_MAX_TABLES : nsIn K mainGlobals "MAX_TABLES" = some (some (.int 6 t_MAX_TABLES)))
    {t_MAX_TABLE_COLUMNS : Tok} (w_MAX_TABLE_COLUMNS : nsIn K mainGlobals "MAX_TABLE_COLUMNS" = some (some (.int 6 t_MAX_TABLE_COLUMNS))) :
    ∃ fd : FuncData, (∀ (s : Shared) (v : Value), BindsTo s fd ⟨[v], []⟩ [("_law_script", v)]) ∧ ∀ base : Heap, K.In base → base.Ns mainGlobals mg → FnG P w K mg base CX0 10 fa fd ["_law_script"] (sp_law K) := by
  have e := hfa.symm.trans (mg_of X G a47)
  cases e
  let T : Txt K mg := {
    c_Question := q_Question,
    g_Question := mg_of X G aq_Question,
    o_Question := ⟨⟨pg_Question, hd_Question, po_Question, sa_Question⟩, sf_Question, ha_Question, hn_Question, htk_Question, hm_Question, tyC_Question⟩,
    n_Question := nn_Question,
    f_Question__tables := nf_Question__tables,
    f_Question__groups := nf_Question__groups,
    f_Question__sizes := nf_Question__sizes,
    f_Question__columns := nf_Question__columns,
    f_Question__lines := nf_Question__lines,
    c_Ratio := q_Ratio,
    g_Ratio := mg_of X G aq_Ratio,
    o_Ratio := ⟨⟨pg_Ratio, hd_Ratio, po_Ratio, sa_Ratio⟩, sf_Ratio, ha_Ratio, hn_Ratio, htk_Ratio, hm_Ratio, tyC_Ratio⟩,
    f_Ratio__top := nf_Ratio__top,
    f_Ratio__bottom := nf_Ratio__bottom,
    fmt_Ratio := xf_fmt_Ratio,
    mro_Ratio := xf_mro_Ratio,
    nstr_Question := xf_nstr_Question,
    a__law_dice := f1,
    d__law_dice := _,
    g__law_dice := mg_of X G a1,
    F__law_dice := fun_mk (st := s__law_dice) l1 c1 k1,
    B__law_dice := (fun_mk (st := s__law_dice) l1 c1 k1).binds (ps := ["_law_script", "_law_spot"]) (fun _ _ _ _ _ _ us hl => match us, hl with | [_, _], _ => rfl),
    a__law_roll := f2,
    d__law_roll := _,
    g__law_roll := mg_of X G a2,
    F__law_roll := fun_mk (st := s__law_roll) l2 c2 k2,
    B__law_roll := (fun_mk (st := s__law_roll) l2 c2 k2).binds (ps := ["_law_dice_here", "_law_total"]) (fun _ _ _ _ _ _ us hl => match us, hl with | [_, _], _ => rfl),
    a__law_mixed := f3,
    d__law_mixed := _,
    g__law_mixed := mg_of X G a3,
    F__law_mixed := fun_mk (st := s__law_mixed) l3 c3 k3,
    B__law_mixed := (fun_mk (st := s__law_mixed) l3 c3 k3).binds (ps := ["_law_dice_here", "_law_items"]) (fun _ _ _ _ _ _ us hl => match us, hl with | [_, _], _ => rfl),
    a__law_names := f4,
    d__law_names := _,
    g__law_names := mg_of X G a4,
    F__law_names := fun_mk (st := s__law_names) l4 c4 k4,
    B__law_names := (fun_mk (st := s__law_names) l4 c4 k4).binds (ps := ["_law_plain_here"]) (fun _ _ _ _ _ _ us hl => match us, hl with | [_], _ => rfl),
    a_is_integer := f5,
    d_is_integer := _,
    g_is_integer := mg_of X G a5,
    F_is_integer := fun_mk (st := s_is_integer) l5 c5 k5,
    B_is_integer := (fun_mk (st := s_is_integer) l5 c5 k5).binds (ps := ["value"]) (fun _ _ _ _ _ _ us hl => match us, hl with | [_], _ => rfl),
    a_Ratio___init__ := f6,
    d_Ratio___init__ := _,
    F_Ratio___init__ := fun_mk (st := s_Ratio___init__) l6 c6 k6,
    B_Ratio___init__ := (fun_mk (st := s_Ratio___init__) l6 c6 k6).binds (ps := ["self", "top", "bottom"]) (fun _ _ _ _ _ _ us hl => match us, hl with | [_, _, _], _ => rfl),
    K_Ratio := ⟨mk_Ratio, a6, i6, kc_Ratio⟩,
    a_is_name := f7,
    d_is_name := _,
    g_is_name := mg_of X G a7,
    F_is_name := fun_mk (st := s_is_name) l7 c7 k7,
    B_is_name := (fun_mk (st := s_is_name) l7 c7 k7).binds (ps := ["value"]) (fun _ _ _ _ _ _ us hl => match us, hl with | [_], _ => rfl),
    a_is_ascending_names := f8,
    d_is_ascending_names := _,
    g_is_ascending_names := mg_of X G a8,
    F_is_ascending_names := fun_mk (st := s_is_ascending_names) l8 c8 k8,
    B_is_ascending_names := (fun_mk (st := s_is_ascending_names) l8 c8 k8).binds (ps := ["value"]) (fun _ _ _ _ _ _ us hl => match us, hl with | [_], _ => rfl),
    a__columns_of := f9,
    d__columns_of := _,
    g__columns_of := mg_of X G a9,
    F__columns_of := fun_mk (st := s__columns_of) l9 c9 k9,
    B__columns_of := (fun_mk (st := s__columns_of) l9 c9 k9).binds (ps := ["tables"]) (fun _ _ _ _ _ _ us hl => match us, hl with | [_], _ => rfl),
    a__is_tables := f10,
    d__is_tables := _,
    g__is_tables := mg_of X G a10,
    F__is_tables := fun_mk (st := s__is_tables) l10 c10 k10,
    B__is_tables := (fun_mk (st := s__is_tables) l10 c10 k10).binds (ps := ["value"]) (fun _ _ _ _ _ _ us hl => match us, hl with | [_], _ => rfl),
    a__is_groups := f11,
    d__is_groups := _,
    g__is_groups := mg_of X G a11,
    F__is_groups := fun_mk (st := s__is_groups) l11 c11 k11,
    B__is_groups := (fun_mk (st := s__is_groups) l11 c11 k11).binds (ps := ["value", "tables"]) (fun _ _ _ _ _ _ us hl => match us, hl with | [_, _], _ => rfl),
    a_Ratio_bottom := f12,
    d_Ratio_bottom := _,
    F_Ratio_bottom := fun_mk (st := s_Ratio_bottom) l12 c12 k12,
    B_Ratio_bottom := (fun_mk (st := s_Ratio_bottom) l12 c12 k12).binds (ps := ["self"]) (fun _ _ _ _ _ _ us hl => match us, hl with | [_], _ => rfl),
    p_Ratio_bottom := u12,
    P_Ratio_bottom := ⟨pa12, pb12, pc12, ⟨_, pd12⟩⟩,
    a_Ratio_top := f13,
    d_Ratio_top := _,
    F_Ratio_top := fun_mk (st := s_Ratio_top) l13 c13 k13,
    B_Ratio_top := (fun_mk (st := s_Ratio_top) l13 c13 k13).binds (ps := ["self"]) (fun _ _ _ _ _ _ us hl => match us, hl with | [_], _ => rfl),
    p_Ratio_top := u13,
    P_Ratio_top := ⟨pa13, pb13, pc13, ⟨_, pd13⟩⟩,
    a__is_size := f14,
    d__is_size := _,
    g__is_size := mg_of X G a14,
    F__is_size := fun_mk (st := s__is_size) l14 c14 k14,
    B__is_size := (fun_mk (st := s__is_size) l14 c14 k14).binds (ps := ["value"]) (fun _ _ _ _ _ _ us hl => match us, hl with | [_], _ => rfl),
    a__is_sizes := f15,
    d__is_sizes := _,
    g__is_sizes := mg_of X G a15,
    F__is_sizes := fun_mk (st := s__is_sizes) l15 c15 k15,
    B__is_sizes := (fun_mk (st := s__is_sizes) l15 c15 k15).binds (ps := ["value", "tables"]) (fun _ _ _ _ _ _ us hl => match us, hl with | [_, _], _ => rfl),
    a_written := f16,
    d_written := _,
    g_written := mg_of X G a16,
    F_written := fun_mk (st := s_written) l16 c16 k16,
    B_written := (fun_mk (st := s_written) l16 c16 k16).binds (ps := ["number"]) (fun _ _ _ _ _ _ us hl => match us, hl with | [_], _ => rfl),
    a_Ratio___str__ := f17,
    d_Ratio___str__ := _,
    F_Ratio___str__ := fun_mk (st := s_Ratio___str__) l17 c17 k17,
    B_Ratio___str__ := (fun_mk (st := s_Ratio___str__) l17 c17 k17).binds (ps := ["self"]) (fun _ _ _ _ _ _ us hl => match us, hl with | [_], _ => rfl),
    M_Ratio___str__ := ⟨a17, i17, k17⟩,
    a_Ratio_pair := f18,
    d_Ratio_pair := _,
    F_Ratio_pair := fun_mk (st := s_Ratio_pair) l18 c18 k18,
    B_Ratio_pair := (fun_mk (st := s_Ratio_pair) l18 c18 k18).binds (ps := ["self"]) (fun _ _ _ _ _ _ us hl => match us, hl with | [_], _ => rfl),
    p_Ratio_pair := u18,
    P_Ratio_pair := ⟨pa18, pb18, pc18, ⟨_, pd18⟩⟩,
    a__lines_of := f19,
    d__lines_of := _,
    g__lines_of := mg_of X G a19,
    F__lines_of := fun_mk (st := s__lines_of) l19 c19 k19,
    B__lines_of := (fun_mk (st := s__lines_of) l19 c19 k19).binds (ps := ["tables", "groups", "sizes"]) (fun _ _ _ _ _ _ us hl => match us, hl with | [_, _, _], _ => rfl),
    a_Question___init__ := f20,
    d_Question___init__ := _,
    F_Question___init__ := fun_mk (st := s_Question___init__) l20 c20 k20,
    KB_Question___init__ := kb_of (fun_mk (st := s_Question___init__) l20 c20 k20) (fun _ _ _ _ _ _ us ws hl hw => match us, ws, hl, hw with | [_, _, _], [_], _, _ => rfl),
    DB_Question___init__ := FunD.binds0 (kws := [("sizes", V.non)]) ⟨⟨_, _, _, _, _, _, _, _, _, _, rfl, l20, c20, .inl ⟨rfl, rfl⟩, .inr ⟨_, rfl, fun q hq => by cases List.mem_singleton.mp hq; exact ⟨_, kw20_sizes, rfl⟩⟩⟩, k20⟩ 3 (by decide) rfl (fun _ _ _ _ _ _ us ks hl hk => match us, ks, hl, hk with | [_, _, _], [_], _, _ => ⟨_, _, _, _, _, _, rfl, rfl, rfl⟩),
    K_Question := ⟨mk_Question, a20, i20, kc_Question⟩,
    a_Question_tables := f21,
    d_Question_tables := _,
    F_Question_tables := fun_mk (st := s_Question_tables) l21 c21 k21,
    B_Question_tables := (fun_mk (st := s_Question_tables) l21 c21 k21).binds (ps := ["self"]) (fun _ _ _ _ _ _ us hl => match us, hl with | [_], _ => rfl),
    p_Question_tables := u21,
    P_Question_tables := ⟨pa21, pb21, pc21, ⟨_, pd21⟩⟩,
    a_Question_sizes := f22,
    d_Question_sizes := _,
    F_Question_sizes := fun_mk (st := s_Question_sizes) l22 c22 k22,
    B_Question_sizes := (fun_mk (st := s_Question_sizes) l22 c22 k22).binds (ps := ["self"]) (fun _ _ _ _ _ _ us hl => match us, hl with | [_], _ => rfl),
    p_Question_sizes := u22,
    P_Question_sizes := ⟨pa22, pb22, pc22, ⟨_, pd22⟩⟩,
    a_Question___len__ := f23,
    d_Question___len__ := _,
    F_Question___len__ := fun_mk (st := s_Question___len__) l23 c23 k23,
    B_Question___len__ := (fun_mk (st := s_Question___len__) l23 c23 k23).binds (ps := ["self"]) (fun _ _ _ _ _ _ us hl => match us, hl with | [_], _ => rfl),
    M_Question___len__ := ⟨a23, i23, k23⟩,
    a__law_columns := f24,
    d__law_columns := _,
    g__law_columns := mg_of X G a24,
    F__law_columns := fun_mk (st := s__law_columns) l24 c24 k24,
    B__law_columns := (fun_mk (st := s__law_columns) l24 c24 k24).binds (ps := ["_law_plain_here", "_law_names_here"]) (fun _ _ _ _ _ _ us hl => match us, hl with | [_, _], _ => rfl),
    a_Question_groups := f25,
    d_Question_groups := _,
    F_Question_groups := fun_mk (st := s_Question_groups) l25 c25 k25,
    B_Question_groups := (fun_mk (st := s_Question_groups) l25 c25 k25).binds (ps := ["self"]) (fun _ _ _ _ _ _ us hl => match us, hl with | [_], _ => rfl),
    p_Question_groups := u25,
    P_Question_groups := ⟨pa25, pb25, pc25, ⟨_, pd25⟩⟩,
    a_Question_names := f26,
    d_Question_names := _,
    F_Question_names := fun_mk (st := s_Question_names) l26 c26 k26,
    B_Question_names := (fun_mk (st := s_Question_names) l26 c26 k26).binds (ps := ["self"]) (fun _ _ _ _ _ _ us hl => match us, hl with | [_], _ => rfl),
    p_Question_names := u26,
    P_Question_names := ⟨pa26, pb26, pc26, ⟨_, pd26⟩⟩,
    a_Question_columns := f27,
    d_Question_columns := _,
    F_Question_columns := fun_mk (st := s_Question_columns) l27 c27 k27,
    B_Question_columns := (fun_mk (st := s_Question_columns) l27 c27 k27).binds (ps := ["self"]) (fun _ _ _ _ _ _ us hl => match us, hl with | [_], _ => rfl),
    p_Question_columns := u27,
    P_Question_columns := ⟨pa27, pb27, pc27, ⟨_, pd27⟩⟩,
    a_Question_lines := f28,
    d_Question_lines := _,
    F_Question_lines := fun_mk (st := s_Question_lines) l28 c28 k28,
    B_Question_lines := (fun_mk (st := s_Question_lines) l28 c28 k28).binds (ps := ["self"]) (fun _ _ _ _ _ _ us hl => match us, hl with | [_], _ => rfl),
    p_Question_lines := u28,
    P_Question_lines := ⟨pa28, pb28, pc28, ⟨_, pd28⟩⟩,
    a_Question___iter__ := f29,
    d_Question___iter__ := _,
    F_Question___iter__ := fun_mk (st := s_Question___iter__) l29 c29 k29,
    B_Question___iter__ := (fun_mk (st := s_Question___iter__) l29 c29 k29).binds (ps := ["self"]) (fun _ _ _ _ _ _ us hl => match us, hl with | [_], _ => rfl),
    M_Question___iter__ := ⟨a29, i29, k29⟩,
    a__law_ratio_text := f30,
    d__law_ratio_text := _,
    g__law_ratio_text := mg_of X G a30,
    F__law_ratio_text := fun_mk (st := s__law_ratio_text) l30 c30 k30,
    B__law_ratio_text := (fun_mk (st := s__law_ratio_text) l30 c30 k30).binds (ps := ["_law_pair"]) (fun _ _ _ _ _ _ us hl => match us, hl with | [_], _ => rfl),
    a__law_lines := f31,
    d__law_lines := _,
    g__law_lines := mg_of X G a31,
    F__law_lines := fun_mk (st := s__law_lines) l31 c31 k31,
    B__law_lines := (fun_mk (st := s__law_lines) l31 c31 k31).binds (ps := ["_law_plain_here"]) (fun _ _ _ _ _ _ us hl => match us, hl with | [_], _ => rfl),
    a_Question_tables_with := f32,
    d_Question_tables_with := _,
    F_Question_tables_with := fun_mk (st := s_Question_tables_with) l32 c32 k32,
    B_Question_tables_with := (fun_mk (st := s_Question_tables_with) l32 c32 k32).binds (ps := ["self", "column"]) (fun _ _ _ _ _ _ us hl => match us, hl with | [_, _], _ => rfl),
    M_Question_tables_with := ⟨a32, i32, k32⟩,
    a_Question___str__ := f33,
    d_Question___str__ := _,
    F_Question___str__ := fun_mk (st := s_Question___str__) l33 c33 k33,
    B_Question___str__ := (fun_mk (st := s_Question___str__) l33 c33 k33).binds (ps := ["self"]) (fun _ _ _ _ _ _ us hl => match us, hl with | [_], _ => rfl),
    M_Question___str__ := ⟨a33, i33, k33⟩,
    a_Question___contains__ := f34,
    d_Question___contains__ := _,
    F_Question___contains__ := fun_mk (st := s_Question___contains__) l34 c34 k34,
    B_Question___contains__ := (fun_mk (st := s_Question___contains__) l34 c34 k34).binds (ps := ["self", "value"]) (fun _ _ _ _ _ _ us hl => match us, hl with | [_, _], _ => rfl),
    M_Question___contains__ := ⟨a34, i34, k34⟩,
    a__law_is_told := f35,
    d__law_is_told := _,
    g__law_is_told := mg_of X G a35,
    F__law_is_told := fun_mk (st := s__law_is_told) l35 c35 k35,
    B__law_is_told := (fun_mk (st := s__law_is_told) l35 c35 k35).binds (ps := ["_law_question", "_law_plain_here"]) (fun _ _ _ _ _ _ us hl => match us, hl with | [_, _], _ => rfl),
    a__law_copy := f36,
    d__law_copy := _,
    g__law_copy := mg_of X G a36,
    F__law_copy := fun_mk (st := s__law_copy) l36 c36 k36,
    B__law_copy := (fun_mk (st := s__law_copy) l36 c36 k36).binds (ps := ["_law_plain_here"]) (fun _ _ _ _ _ _ us hl => match us, hl with | [_], _ => rfl),
    a__law_pick := f37,
    d__law_pick := _,
    g__law_pick := mg_of X G a37,
    F__law_pick := fun_mk (st := s__law_pick) l37 c37 k37,
    B__law_pick := (fun_mk (st := s__law_pick) l37 c37 k37).binds (ps := ["_law_dice_here", "_law_items"]) (fun _ _ _ _ _ _ us hl => match us, hl with | [_, _], _ => rfl),
    a__law_other := f38,
    d__law_other := _,
    g__law_other := mg_of X G a38,
    F__law_other := fun_mk (st := s__law_other) l38 c38 k38,
    B__law_other := (fun_mk (st := s__law_other) l38 c38 k38).binds (ps := ["_law_dice_here", "_law_plain_here"]) (fun _ _ _ _ _ _ us hl => match us, hl with | [_, _], _ => rfl),
    a__law_made := f39,
    d__law_made := _,
    g__law_made := mg_of X G a39,
    F__law_made := fun_mk (st := s__law_made) l39 c39 k39,
    B__law_made := (fun_mk (st := s__law_made) l39 c39 k39).binds (ps := ["_law_plain_here"]) (fun _ _ _ _ _ _ us hl => match us, hl with | [_], _ => rfl),
    a_Ratio___eq__ := f40,
    d_Ratio___eq__ := _,
    F_Ratio___eq__ := fun_mk (st := s_Ratio___eq__) l40 c40 k40,
    B_Ratio___eq__ := (fun_mk (st := s_Ratio___eq__) l40 c40 k40).binds (ps := ["self", "other"]) (fun _ _ _ _ _ _ us hl => match us, hl with | [_, _], _ => rfl),
    M_Ratio___eq__ := ⟨a40, i40, k40⟩,
    a_Question___eq__ := f41,
    d_Question___eq__ := _,
    F_Question___eq__ := fun_mk (st := s_Question___eq__) l41 c41 k41,
    B_Question___eq__ := (fun_mk (st := s_Question___eq__) l41 c41 k41).binds (ps := ["self", "other"]) (fun _ _ _ _ _ _ us hl => match us, hl with | [_, _], _ => rfl),
    M_Question___eq__ := ⟨a41, i41, k41⟩,
    a__law_right := f42,
    d__law_right := _,
    g__law_right := mg_of X G a42,
    F__law_right := fun_mk (st := s__law_right) l42 c42 k42,
    B__law_right := (fun_mk (st := s__law_right) l42 c42 k42).binds (ps := ["_law_dice_here", "_law_plain_here"]) (fun _ _ _ _ _ _ us hl => match us, hl with | [_, _], _ => rfl),
    a__law_plain := f43,
    d__law_plain := _,
    g__law_plain := mg_of X G a43,
    F__law_plain := fun_mk (st := s__law_plain) l43 c43 k43,
    B__law_plain := (fun_mk (st := s__law_plain) l43 c43 k43).binds (ps := ["_law_tables", "_law_groups"]) (fun _ _ _ _ _ _ us hl => match us, hl with | [_, _], _ => rfl),
    a__law_written := f44,
    d__law_written := _,
    g__law_written := mg_of X G a44,
    F__law_written := fun_mk (st := s__law_written) l44 c44 k44,
    B__law_written := (fun_mk (st := s__law_written) l44 c44 k44).binds (ps := ["_law_way"]) (fun _ _ _ _ _ _ us hl => match us, hl with | [_], _ => rfl),
    a__law_drawn := f45,
    d__law_drawn := _,
    g__law_drawn := mg_of X G a45,
    F__law_drawn := fun_mk (st := s__law_drawn) l45 c45 k45,
    B__law_drawn := (fun_mk (st := s__law_drawn) l45 c45 k45).binds (ps := ["_law_dice_here", "_law_many", "_law_width"]) (fun _ _ _ _ _ _ us hl => match us, hl with | [_, _, _], _ => rfl),
    a__law_any := f46,
    d__law_any := _,
    g__law_any := mg_of X G a46,
    F__law_any := fun_mk (st := s__law_any) l46 c46 k46,
    B__law_any := (fun_mk (st := s__law_any) l46 c46 k46).binds (ps := ["_law_dice_here", "_law_many", "_law_width"]) (fun _ _ _ _ _ _ us hl => match us, hl with | [_, _, _], _ => rfl),
    a_law := fa,
    d_law := _,
    g_law := mg_of X G a47,
    F_law := fun_mk (st := s_law) l47 c47 k47,
    B_law := (fun_mk (st := s_law) l47 c47 k47).binds (ps := ["_law_script"]) (fun _ _ _ _ _ _ us hl => match us, hl with | [_], _ => rfl),
    b_abs := mg_none_of X G z_abs,
    b_all := mg_none_of X G z_all,
    b_bool := mg_none_of X G z_bool,
    b_dict := mg_none_of X G z_dict,
    b_int := mg_none_of X G z_int,
    b_isinstance := mg_none_of X G z_isinstance,
    b_iter := mg_none_of X G z_iter,
    b_len := mg_none_of X G z_len,
    b_list := mg_none_of X G z_list,
    b_max := mg_none_of X G z_max,
    b_min := mg_none_of X G z_min,
    b_range := mg_none_of X G z_range,
    b_repr := mg_none_of X G z_repr,
    b_set := mg_none_of X G z_set,
    b_sorted := mg_none_of X G z_sorted,
    b_str := mg_none_of X G z_str,
    b_tuple := mg_none_of X G z_tuple,
    b_zip := mg_none_of X G z_zip,
    i_gcd := mg_of X G im_gcd,
    t_BEYOND := t_BEYOND,
    v_BEYOND := mg_of X G w_BEYOND,
    t_LETTERS := t_LETTERS,
    v_LETTERS := mg_of X G w_LETTERS,
    t_MAX_COLUMNS := t_MAX_COLUMNS,
    v_MAX_COLUMNS := mg_of X G w_MAX_COLUMNS,
    t_MAX_LETTERS := t_MAX_LETTERS,
    v_MAX_LETTERS := mg_of X G w_MAX_LETTERS,
    t_MAX_SIZE := t_MAX_SIZE,
    v_MAX_SIZE := mg_of X G w_MAX_SIZE,
    t_MAX_SIZE_BOTTOM := t_MAX_SIZE_BOTTOM,
    v_MAX_SIZE_BOTTOM := mg_of X G w_MAX_SIZE_BOTTOM,
    t_MAX_TABLES := t_MAX_TABLES,
    v_MAX_TABLES := mg_of X G w_MAX_TABLES,
    t_MAX_TABLE_COLUMNS := t_MAX_TABLE_COLUMNS,
    v_MAX_TABLE_COLUMNS := mg_of X G w_MAX_TABLE_COLUMNS }
  exact ⟨_, fun s v => .of_eq rfl, fun base _ _ => ok_law T⟩
end Law
open PySem PySem.W PyProof.Rows
set_option maxRecDepth 100000 in
set_option maxHeartbeats 0 in
theorem PySem.Challenge.cw_touchrows_k07_questions_told_holds : PySem.Challenge.rw_touchrows_k07_questions_told.Holds := by
  w_on; o_law; k_head; (case hw => w_witness2)
  k_fill
  refine U.walkG (l := PySem.Challenge.rw_touchrows_k07_questions_told) (n := 63) (k := 10) (x := "_law_script") (sp := Law.sp_law) rfl (by decide) rfl ⟨rfl, by decide, by decide⟩ (fun w h Y => kIn_of Y) ?F (fun K H a ns h1 h2 _ h3 => Law.enter K H a ns h1 h2 h3)
  case F =>
    intro w mg fa h KX G hmg
    refine' Law.all_mk KX G hmg ?aq_Question ?pg_Question ?hd_Question ?po_Question ?sa_Question ?sf_Question ?ha_Question ?hn_Question ?htk_Question ?hm_Question ?tyC_Question ?nn_Question ?nf_Question__tables ?nf_Question__groups ?nf_Question__sizes ?nf_Question__columns ?nf_Question__lines ?aq_Ratio ?pg_Ratio ?hd_Ratio ?po_Ratio ?sa_Ratio ?sf_Ratio ?ha_Ratio ?hn_Ratio ?htk_Ratio ?hm_Ratio ?tyC_Ratio ?nf_Ratio__top ?nf_Ratio__bottom ?xf_fmt_Ratio ?xf_mro_Ratio ?xf_nstr_Question ?a1 ?l1 ?c1 ?k1 ?a2 ?l2 ?c2 ?k2 ?a3 ?l3 ?c3 ?k3 ?a4 ?l4 ?c4 ?k4 ?a5 ?l5 ?c5 ?k5 ?a6 ?i6 ?l6 ?c6 ?k6 ?mk_Ratio ?kc_Ratio ?a7 ?l7 ?c7 ?k7 ?a8 ?l8 ?c8 ?k8 ?a9 ?l9 ?c9 ?k9 ?a10 ?l10 ?c10 ?k10 ?a11 ?l11 ?c11 ?k11 ?pa12 ?pb12 ?pc12 ?pd12 ?l12 ?c12 ?k12 ?pa13 ?pb13 ?pc13 ?pd13 ?l13 ?c13 ?k13 ?a14 ?l14 ?c14 ?k14 ?a15 ?l15 ?c15 ?k15 ?a16 ?l16 ?c16 ?k16 ?a17 ?i17 ?l17 ?c17 ?k17 ?pa18 ?pb18 ?pc18 ?pd18 ?l18 ?c18 ?k18 ?a19 ?l19 ?c19 ?k19 ?a20 ?i20 ?l20 ?c20 ?k20 ?kw20_sizes ?mk_Question ?kc_Question ?pa21 ?pb21 ?pc21 ?pd21 ?l21 ?c21 ?k21 ?pa22 ?pb22 ?pc22 ?pd22 ?l22 ?c22 ?k22 ?a23 ?i23 ?l23 ?c23 ?k23 ?a24 ?l24 ?c24 ?k24 ?pa25 ?pb25 ?pc25 ?pd25 ?l25 ?c25 ?k25 ?pa26 ?pb26 ?pc26 ?pd26 ?l26 ?c26 ?k26 ?pa27 ?pb27 ?pc27 ?pd27 ?l27 ?c27 ?k27 ?pa28 ?pb28 ?pc28 ?pd28 ?l28 ?c28 ?k28 ?a29 ?i29 ?l29 ?c29 ?k29 ?a30 ?l30 ?c30 ?k30 ?a31 ?l31 ?c31 ?k31 ?a32 ?i32 ?l32 ?c32 ?k32 ?a33 ?i33 ?l33 ?c33 ?k33 ?a34 ?i34 ?l34 ?c34 ?k34 ?a35 ?l35 ?c35 ?k35 ?a36 ?l36 ?c36 ?k36 ?a37 ?l37 ?c37 ?k37 ?a38 ?l38 ?c38 ?k38 ?a39 ?l39 ?c39 ?k39 ?a40 ?i40 ?l40 ?c40 ?k40 ?a41 ?i41 ?l41 ?c41 ?k41 ?a42 ?l42 ?c42 ?k42 ?a43 ?l43 ?c43 ?k43 ?a44 ?l44 ?c44 ?k44 ?a45 ?l45 ?c45 ?k45 ?a46 ?l46 ?c46 ?k46 ?a47 ?l47 ?c47 ?k47 ?z_abs ?z_all ?z_bool ?z_dict ?z_int ?z_isinstance ?z_iter ?z_len ?z_list ?z_max ?z_min ?z_range ?z_repr ?z_set ?z_sorted ?z_str ?z_tuple ?z_zip ?im_gcd ?w_BEYOND ?w_LETTERS ?w_MAX_COLUMNS ?w_MAX_LETTERS ?w_MAX_SIZE ?w_MAX_SIZE_BOTTOM ?w_MAX_TABLES ?w_MAX_TABLE_COLUMNS
    (case aq_Question => k_is); (case pg_Question => k_is); (case hd_Question => k_is); (case po_Question => k_is); (case sa_Question => k_is); (case sf_Question => k_is); (case ha_Question => k_is); (case hn_Question => k_is); (case htk_Question => k_is); (case hm_Question => k_is); (case tyC_Question => k_is); (case nn_Question => k_is); (case nf_Question__tables => k_is); (case nf_Question__groups => k_is); (case nf_Question__sizes => k_is); (case nf_Question__columns => k_is); (case nf_Question__lines => k_is); (case aq_Ratio => k_is); (case pg_Ratio => k_is); (case hd_Ratio => k_is); (case po_Ratio => k_is); (case sa_Ratio => k_is); (case sf_Ratio => k_is); (case ha_Ratio => k_is); (case hn_Ratio => k_is); (case htk_Ratio => k_is); (case hm_Ratio => k_is); (case tyC_Ratio => k_is); (case nf_Ratio__top => k_is); (case nf_Ratio__bottom => k_is); (case xf_fmt_Ratio => k_is); (case xf_mro_Ratio => k_is); (case xf_nstr_Question => k_is); (case a1 => k_is); (case l1 => k_is); (case c1 => k_is); (case k1 => k_is); (case a2 => k_is); (case l2 => k_is); (case c2 => k_is); (case k2 => k_is); (case a3 => k_is); (case l3 => k_is); (case c3 => k_is); (case k3 => k_is); (case a4 => k_is); (case l4 => k_is); (case c4 => k_is); (case k4 => k_is); (case a5 => k_is); (case l5 => k_is); (case c5 => k_is); (case k5 => k_is); (case a6 => k_is); (case i6 => k_is); (case l6 => k_is); (case c6 => k_is); (case k6 => k_is); (case mk_Ratio => k_is); (case kc_Ratio => k_is); (case a7 => k_is); (case l7 => k_is); (case c7 => k_is); (case k7 => k_is); (case a8 => k_is); (case l8 => k_is); (case c8 => k_is); (case k8 => k_is); (case a9 => k_is); (case l9 => k_is); (case c9 => k_is); (case k9 => k_is); (case a10 => k_is); (case l10 => k_is); (case c10 => k_is); (case k10 => k_is); (case a11 => k_is); (case l11 => k_is); (case c11 => k_is); (case k11 => k_is); (case pa12 => k_is); (case pb12 => k_is); (case pc12 => k_is); (case pd12 => k_is); (case l12 => k_is); (case c12 => k_is); (case k12 => k_is); (case pa13 => k_is); (case pb13 => k_is); (case pc13 => k_is); (case pd13 => k_is); (case l13 => k_is); (case c13 => k_is); (case k13 => k_is); (case a14 => k_is); (case l14 => k_is); (case c14 => k_is); (case k14 => k_is); (case a15 => k_is); (case l15 => k_is); (case c15 => k_is); (case k15 => k_is); (case a16 => k_is); (case l16 => k_is); (case c16 => k_is); (case k16 => k_is); (case a17 => k_is); (case i17 => k_is); (case l17 => k_is); (case c17 => k_is); (case k17 => k_is); (case pa18 => k_is); (case pb18 => k_is); (case pc18 => k_is); (case pd18 => k_is); (case l18 => k_is); (case c18 => k_is); (case k18 => k_is); (case a19 => k_is); (case l19 => k_is); (case c19 => k_is); (case k19 => k_is); (case a20 => k_is); (case i20 => k_is); (case l20 => k_is); (case c20 => k_is); (case k20 => k_is); (case kw20_sizes => k_is); (case mk_Question => k_is); (case kc_Question => k_is); (case pa21 => k_is); (case pb21 => k_is); (case pc21 => k_is); (case pd21 => k_is); (case l21 => k_is); (case c21 => k_is); (case k21 => k_is); (case pa22 => k_is); (case pb22 => k_is); (case pc22 => k_is); (case pd22 => k_is); (case l22 => k_is); (case c22 => k_is); (case k22 => k_is); (case a23 => k_is); (case i23 => k_is); (case l23 => k_is); (case c23 => k_is); (case k23 => k_is); (case a24 => k_is); (case l24 => k_is); (case c24 => k_is); (case k24 => k_is); (case pa25 => k_is); (case pb25 => k_is); (case pc25 => k_is); (case pd25 => k_is); (case l25 => k_is); (case c25 => k_is); (case k25 => k_is); (case pa26 => k_is); (case pb26 => k_is); (case pc26 => k_is); (case pd26 => k_is); (case l26 => k_is); (case c26 => k_is); (case k26 => k_is); (case pa27 => k_is); (case pb27 => k_is); (case pc27 => k_is); (case pd27 => k_is); (case l27 => k_is); (case c27 => k_is); (case k27 => k_is); (case pa28 => k_is); (case pb28 => k_is); (case pc28 => k_is); (case pd28 => k_is); (case l28 => k_is); (case c28 => k_is); (case k28 => k_is); (case a29 => k_is); (case i29 => k_is); (case l29 => k_is); (case c29 => k_is); (case k29 => k_is); (case a30 => k_is); (case l30 => k_is); (case c30 => k_is); (case k30 => k_is); (case a31 => k_is); (case l31 => k_is); (case c31 => k_is); (case k31 => k_is); (case a32 => k_is); (case i32 => k_is); (case l32 => k_is); (case c32 => k_is); (case k32 => k_is); (case a33 => k_is); (case i33 => k_is); (case l33 => k_is); (case c33 => k_is); (case k33 => k_is); (case a34 => k_is); (case i34 => k_is); (case l34 => k_is); (case c34 => k_is); (case k34 => k_is); (case a35 => k_is); (case l35 => k_is); (case c35 => k_is); (case k35 => k_is); (case a36 => k_is); (case l36 => k_is); (case c36 => k_is); (case k36 => k_is); (case a37 => k_is); (case l37 => k_is); (case c37 => k_is); (case k37 => k_is); (case a38 => k_is); (case l38 => k_is); (case c38 => k_is); (case k38 => k_is); (case a39 => k_is); (case l39 => k_is); (case c39 => k_is); (case k39 => k_is); (case a40 => k_is); (case i40 => k_is); (case l40 => k_is); (case c40 => k_is); (case k40 => k_is); (case a41 => k_is); (case i41 => k_is); (case l41 => k_is); (case c41 => k_is); (case k41 => k_is); (case a42 => k_is); (case l42 => k_is); (case c42 => k_is); (case k42 => k_is); (case a43 => k_is); (case l43 => k_is); (case c43 => k_is); (case k43 => k_is); (case a44 => k_is); (case l44 => k_is); (case c44 => k_is); (case k44 => k_is); (case a45 => k_is); (case l45 => k_is); (case c45 => k_is); (case k45 => k_is); (case a46 => k_is); (case l46 => k_is); (case c46 => k_is); (case k46 => k_is); (case a47 => k_is); (case l47 => k_is); (case c47 => k_is); (case k47 => k_is); (case z_abs => k_is); (case z_all => k_is); (case z_bool => k_is); (case z_dict => k_is); (case z_int => k_is); (case z_isinstance => k_is); (case z_iter => k_is); (case z_len => k_is); (case z_list => k_is); (case z_max => k_is); (case z_min => k_is); (case z_range => k_is); (case z_repr => k_is); (case z_set => k_is); (case z_sorted => k_is); (case z_str => k_is); (case z_tuple => k_is); (case z_zip => k_is); (case im_gcd => k_is); (case w_BEYOND => k_is); (case w_LETTERS => k_is); (case w_MAX_COLUMNS => k_is); (case w_MAX_LETTERS => k_is); (case w_MAX_SIZE => k_is); (case w_MAX_SIZE_BOTTOM => k_is); (case w_MAX_TABLES => k_is); (case w_MAX_TABLE_COLUMNS => k_is)
