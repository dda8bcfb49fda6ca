import PyProof.Rows.All
import Wide.All
import OpenK.AllK
import Wide.FinOn
import HandS.ForMost
import HandS.Wide
import HandS.Steps
import HandS.StrMore
import HandS.TupAny
import HandS.Style
import HandS.Flow
import HandS.IsInst
import HandS.RaiseMore
import HandS.Gcd
import HandS.EndBits
import HandS.Walk
import PyProof.Rows.StrCut
import KE.KIntText
import HandS.OwnEq
import HandS.Property
import HandS.FStr
import KE.KOpsOwn
import KE.KCallOwn
import HandS.Deep
import PyProof.ReprLen
import HandS.NoneIn
import HandS.ClsMeth
import PyProof.StrLawsRepr
import KE.IntTextLaws
import KE.IntTextText
import HandS.Text
import HandS.Exc
import HandS.ExcOwn
import HandS.WordsExc
import HandS.TryMany
import HandS.Lambda
import HandS.EndTab
import KE.KNestM
import PyProof.NeKinds
import PyProof.Rows.StrIntSpec
import PyProof.FString3
import HandS.WideBits
import HandS.DictComp
import HandS.Zip
import KE.KMathGC
import HandS.ListItems
import HandS.Small
import HandS.Sort
import HandS.Iter
import KE.KDictList
import PySem.Challenge.RW_touchrows_k39_whole_bounds_are_roots
set_option Elab.async false
set_option linter.all false
set_option maxRecDepth 100000
set_option maxHeartbeats 4000000
/-! U: readings that compute by matching on the values, and a ledger of the objects that a def knows. -/
namespace U
open PySem PySem.Spec PyProof.Rows L2

section mono
variable {X : Cx}
theorem peM {e : Expr} {t t' : TE} (h : PE X e t) (m : ∀ σ H Q, t' σ H Q → t σ H Q) : PE X e t' := ⟨fun pins s σ H Q I q => h.run pins s σ H Q I (m σ H Q q)⟩
theorem ptM {e : Expr} {t t' : TT} (h : PT X e t) (m : ∀ σ H Q, t' σ H Q → t σ H Q) : PT X e t' := ⟨fun pins s σ H Q I q => h.run pins s σ H Q I (m σ H Q q)⟩
theorem pwM {e : Expr} {t t' : TT} (h : PW X e t) (m : ∀ σ H Q, t' σ H Q → t σ H Q) : PW X e t' := ⟨fun wh pins s σ H Q I q => h.run wh pins s σ H Q I (m σ H Q q)⟩
theorem psM {e : Stmt} {t t' : TS} (h : PS X e t) (m : ∀ D σ H, t' D σ H → t D σ H) : PS X e t' := ⟨fun pins s σ H D I q => h.run pins s σ H D I (m D σ H q)⟩
theorem opM {f : Value → Value → Sem Value} {r r' : R2} (h : OpR X f r) (m : ∀ x y H Q, r' x y H Q → r x y H Q) : OpR X f r' := fun pins s σ H x y v u Q I rx ry q => h pins s σ H x y v u Q I rx ry (m x y H Q q)
theorem caM {f : Value} {r r' : List V → Hp → VK → Prop} (h : CallR X f r) (m : ∀ xs H Q, r' xs H Q → r xs H Q) : CallR X f r' := fun pins s σ H xs us Q I r q => h pins s σ H xs us Q I r (m xs H Q q)
end mono

/-- a way of two: by the answer -/
@[irreducible] def br (c : Bool) (A B : Prop) : Prop := if c = true then A else B
theorem brT {A B : Prop} (h : A) : br true A B := by unfold br; exact h
theorem brF {A B : Prop} (h : B) : br false A B := by unfold br; rw [if_neg Bool.false_ne_true]; exact h
theorem brY {c : Bool} {A B : Prop} (e : c = true) (h : A) : br c A B := by subst e; exact brT h
theorem brN {c : Bool} {A B : Prop} (e : c = false) (h : B) : br c A B := by subst e; exact brF h
theorem br2 {c : Bool} {A B : Prop} (h1 : c = true → A) (h2 : c = false → B) : br c A B := by
  cases c with
  | true => exact brT (h1 rfl)
  | false => exact brF (h2 rfl)
theorem brD {p : Prop} [Decidable p] {A B : Prop} (h1 : p → A) (h2 : ¬ p → B) : br (decide p) A B := br2 (fun e => h1 (of_decide_eq_true e)) (fun e => h2 (of_decide_eq_false e))
theorem br_if {c : Bool} {A B : Prop} (h : br c A B) : if c = true then A else B := by unfold br at h; exact h

/-! ### names, choices -/
def uV (i : Nat) : TE := fun σ H Q => match σ[i]? with | some (some v) => Q v H | _ => False
section
variable {X : Cx} {pos : Pos}
theorem pev (i : Nat) {x : Str} {pos : Pos} (hN : X.N[i]? = some x := by rfl) (hv : Vis X.env.scope x := by first | exact Or.inl rfl | exact Or.inr (Or.inl rfl) | exact Or.inr (Or.inr rfl)) (hd : (x == ("__debug__" : Str)) = false := by decide)
    (hcd : (x == ("__classdict__" : Str)) = false := by decide) : PE X (.Name x pos) (uV i) := peM (pv i hN hv hd hcd) fun σ H Q h => by
  unfold uV at h
  split at h
  · exact ⟨_, by assumption, h⟩
  · exact h.elim
def uIf (t : TT) (ta tb : TE) : TE := fun σ H Q => t σ H fun c H1 => br c (ta σ H1 Q) (tb σ H1 Q)
def uIfS (c : TT) (t u : TS) : TS := fun D σ H => c σ H fun b H1 => br b (t D σ H1) (u D σ H1)
def uAnd (t u : TT) : TT := fun σ H Q => t σ H fun c H1 => br c (u σ H1 Q) (Q false H1)
def uOr (t u : TT) : TT := fun σ H Q => t σ H fun c H1 => br c (Q true H1) (u σ H1 Q)
/-- monotone readings of tests -/
structure MT (t : TT) : Prop where
  m : ∀ σ H Q Q', (∀ b H1, Q b H1 → Q' b H1) → t σ H Q → t σ H Q'
end
section
variable {X : Cx} {pos : Pos} {a b c : Expr} {ta tb te : TE} {tc td : TT} {t u : TS} {rest : List Expr} {xs ys : List Stmt}
theorem psIf (hc : PT X c tc) (ha : PSs X xs t) (hb : PSs X ys u) : PS X (.If c xs ys pos) (uIfS tc t u) := ⟨fun p s z H D I h => wpAny_If (thn (hc.run p s z H _ I h) fun k s1 ⟨H1, I1, q⟩ => by
  cases k with
  | true => exact ha.run p s1 z H1 D I1 (by unfold br at q; exact q)
  | false => exact hb.run p s1 z H1 D I1 (by unfold br at q; exact q))⟩
theorem peIf (hc : PT X c tc) (ha : PE X a ta) (hb : PE X b tb) : PE X (.IfExp c a b pos) (uIf tc ta tb) := ⟨fun p s z H Q I h => wpAny_IfExp (thn (hc.run p s z H _ I h) fun k s1 ⟨H1, I1, q⟩ => by
  cases k with
  | true => exact ha.run p s1 z H1 Q I1 (by unfold br at q; exact q)
  | false => exact hb.run p s1 z H1 Q I1 (by unfold br at q; exact q))⟩
theorem pwAnd (ha : PT X a tc) (hb : PW X (.BoolOp .And (b :: rest) pos) td) : PW X (.BoolOp .And (a :: b :: rest) pos) (uAnd tc td) := ⟨fun wh p s z H Q I h => isTrue_and (thn (ha.run p s z H _ I h) fun k s1 ⟨H1, I1, q⟩ => by
  cases k with
  | true => exact hb.run wh p s1 z H1 Q I1 (by unfold br at q; exact q)
  | false => exact ⟨H1, I1, by unfold br at q; exact q⟩)⟩
theorem pwOr (ha : PT X a tc) (hb : PW X (.BoolOp .Or (b :: rest) pos) td) : PW X (.BoolOp .Or (a :: b :: rest) pos) (uOr tc td) := ⟨fun wh p s z H Q I h => isTrue_or (thn (ha.run p s z H _ I h) fun k s1 ⟨H1, I1, q⟩ => by
  cases k with
  | true => exact ⟨H1, I1, by unfold br at q; exact q⟩
  | false => exact hb.run wh p s1 z H1 Q I1 (by unfold br at q; exact q))⟩
/-- and, or, not as values, the members bools -/
def uAndV (ta tb : TE) : TE := fun σ H Q => ta σ H fun x H1 => match x with | .bl k => br k (tb σ H1 Q) (Q (.bl false) H1) | _ => False
def uOrV (ta tb : TE) : TE := fun σ H Q => ta σ H fun x H1 => match x with | .bl k => br k (Q (.bl true) H1) (tb σ H1 Q) | _ => False
def uNotV (ta : TE) : TE := fun σ H Q => ta σ H fun x H1 => match x with | .bl k => Q (.bl (!k)) H1 | _ => False
theorem peAnd (ha : PE X a ta) (hb : PE X (.BoolOp .And (b :: rest) pos) tb) : PE X (.BoolOp .And (a :: b :: rest) pos) (uAndV ta tb) := ⟨fun p s z H Q I h => BoolOp_and (thn (ha.run p s z H _ I h) fun v s1 ⟨x, H1, I1, r1, q⟩ => by
  cases x with
  | bl k =>
    cases r1
    refine wpAny_truthy_bool ?_
    cases k with
    | true => exact hb.run p s1 z H1 Q I1 (by simp only [br] at q; exact q)
    | false => exact ⟨.bl false, H1, I1, rfl, by simp only [br] at q; exact q⟩
  | _ => exact (show False from q).elim)⟩
theorem peOr (ha : PE X a ta) (hb : PE X (.BoolOp .Or (b :: rest) pos) tb) : PE X (.BoolOp .Or (a :: b :: rest) pos) (uOrV ta tb) := ⟨fun p s z H Q I h => BoolOp_or (thn (ha.run p s z H _ I h) fun v s1 ⟨x, H1, I1, r1, q⟩ => by
  cases x with
  | bl k =>
    cases r1
    refine wpAny_truthy_bool ?_
    cases k with
    | true => exact ⟨.bl true, H1, I1, rfl, by simp only [br] at q; exact q⟩
    | false => exact hb.run p s1 z H1 Q I1 (by simp only [br] at q; exact q)
  | _ => exact (show False from q).elim)⟩
/-- a value's truth -/
def uTru (K : PySem.W.Frag) (x : V) (H : Hp) (Q : Bool → Hp → Prop) : Prop := match x with
  | .bl k => Q k H
  | .int i => Q (decide (i ≠ 0)) H
  | .non => Q false H
  | .str y => y.length ≤ sizeLine ∧ Q (decide (y.length ≠ 0)) H
  | .ref p => ∃ k, TruV K (.ref p) H k ∧ Q k H
  | _ => False
def uTrue (K : PySem.W.Frag) (ta : TE) : TT := fun σ H Q => ta σ H fun x H1 => uTru K x H1 Q
theorem ptV (ha : PE X a ta) (he : ∀ whole, isTrue a X.env whole = (do let v ← whole; standAt a.pos; holding [v] (truthy v)) := by intro _; rfl) : PT X a (uTrue X.K ta) := by
  refine ⟨fun p s z H Q I h => isTrue_plain (thn (ha.run p s z H _ I h) fun v s1 ⟨x, H1, I1, r1, q⟩ => ?_) (he _)⟩
  refine tru_ok p s1 z H1 x v Q I1 r1 ?_
  cases x with
  | non => exact ⟨false, rfl, q⟩
  | bl k => exact ⟨k, rfl, q⟩
  | int i =>
    refine ⟨_, rfl, ?_⟩
    have e : decide (i ≠ 0) = (i != 0) := by by_cases h0 : i = 0 <;> simp [h0]
    have q' : Q (decide (i ≠ 0)) H1 := q
    rw [e] at q'
    exact q'
  | str y =>
    obtain ⟨q1, q2⟩ := (show y.length ≤ sizeLine ∧ Q (decide (y.length ≠ 0)) H1 from q)
    refine ⟨_, ⟨q1, rfl⟩, ?_⟩
    have e : decide (y.length ≠ 0) = ((y.length : Int) != 0) := by by_cases h0 : y.length = 0 <;> simp [h0]
    rw [e] at q2
    exact q2
  | ref r => exact q
  | byt _ => exact (show False from q).elim
  | flt _ => exact (show False from q).elim
  | ty _ => exact (show False from q).elim
end

/-! ### operators by matching -/
section
variable {X : Cx}
def uAdd (K : PySem.W.Frag) : R2 := fun x y H Q => match x, y with
  | .int i, .int j => Q (.int (i + j)) H
  | .str i, .str j => i.length + j.length ≤ sizeLine ∧ Q (.str (i ++ j)) H
  | .ref a, .ref b => rCat (.ref a) (.ref b) H Q ∨ rCatA K (.ref a) (.ref b) H Q
  | _, _ => False
theorem opAdd : OpR X (binaryOp .Add) (uAdd X.K) := fun p s z H x y v u Q I rx ry h => by
  unfold uAdd at h
  split at h
  · exact op_add p s z H _ _ v u Q I rx ry ⟨_, _, rfl, rfl, h⟩
  · exact op_add_str p s z H _ _ v u Q I rx ry ⟨_, _, rfl, rfl, h.1, h.2⟩
  · rcases h with h | h
    · exact op_cat p s z H _ _ v u Q I rx ry h
    · exact op_catA p s z H _ _ v u Q I rx ry h
  · exact h.elim
def uSub : R2 := fun x y H Q => match x, y with | .int i, .int j => Q (.int (i - j)) H | _, _ => False
theorem opSub : OpR X (binaryOp .Sub) uSub := fun p s z H x y v u Q I rx ry h => by
  unfold uSub at h
  split at h
  · exact op_sub p s z H _ _ v u Q I rx ry ⟨_, _, rfl, rfl, h⟩
  · exact h.elim
/-- the sizes of a product's factors -/
def FitM (i j : Int) : Prop := i.natAbs < 2 ^ 400000 ∧ j.natAbs < 2 ^ 400000
def uMul : R2 := fun x y H Q => match x, y with
  | .int i, .int j => CMulW i j ∧ Q (.int (i * j)) H
  | .ref a, .int j => rRep (.ref a) (.int j) H Q
  | _, _ => False
theorem opMul : OpR X (binaryOp .Mult) uMul := fun p s z H x y v u Q I rx ry h => by
  unfold uMul at h
  split at h
  · exact op_mulW p s z H _ _ v u Q I rx ry ⟨_, _, rfl, rfl, h.1, h.2⟩
  · exact op_rep p s z H _ _ v u Q I rx ry h
  · exact h.elim
def uDiv : R2 := fun x y H Q => match x, y with | .int i, .int j => CDivW i j ∧ Q (.int (i / j)) H | _, _ => False
theorem opDiv : OpR X (binaryOp .FloorDiv) uDiv := fun p s z H x y v u Q I rx ry h => by
  unfold uDiv at h
  split at h
  · exact op_fdivW p s z H _ _ v u Q I rx ry ⟨_, _, rfl, rfl, h.1, h.2⟩
  · exact h.elim
def uMod : R2 := fun x y H Q => match x, y with | .int i, .int j => 0 < j ∧ Q (.int (i % j)) H | _, _ => False
theorem opMod : OpR X (binaryOp .Mod) uMod := fun p s z H x y v u Q I rx ry h => by
  unfold uMod at h
  split at h
  · exact op_mod p s z H _ _ v u Q I rx ry ⟨_, _, rfl, rfl, h.1, h.2⟩
  · exact h.elim
def uPow : R2 := fun x y H Q => match x, y with | .int i, .int j => CPow i j ∧ Q (.int (i ^ j.toNat)) H | _, _ => False
theorem opPow : OpR X (binaryOp .Pow) uPow := fun p s z H x y v u Q I rx ry h => by
  unfold uPow at h
  split at h
  · exact op_pow p s z H _ _ v u Q I rx ry ⟨_, _, rfl, rfl, h.1, h.2⟩
  · exact h.elim
def uNeg : V → Hp → VK → Prop := fun x H Q => match x with | .int i => Q (.int (-i)) H | _ => False
theorem unNeg : UnR X (unaryOp .USub) uNeg := fun p s z H x v Q I rx h => by
  unfold uNeg at h
  split at h
  · exact un_neg p s z H _ v Q I rx ⟨_, rfl, h⟩
  · exact h.elim

/-! ### comparisons -/
def uEq (K : PySem.W.Frag) : R2 := fun x y H Q => match scal x y with
  | true => Q (.bl (decide (x = y))) H
  | false => rEqD K x y H Q
theorem opEq (hu : X.A.units + 64 < cLine) : OpR X (compareOp .Eq) (uEq X.K) := fun p s z H x y v u Q I rx ry h => by
  unfold uEq at h
  split at h
  · exact op_eq p s z H _ _ v u Q I rx ry ⟨by assumption, h⟩
  · exact op_eqD hu p s z H _ _ v u Q I rx ry h
def uNe (K : PySem.W.Frag) : R2 := fun x y H Q => match scal x y with
  | true => Q (.bl (!decide (x = y))) H
  | false => rNeD K x y H Q
theorem opNe (hu : X.A.units + 64 < cLine) : OpR X (compareOp .NotEq) (uNe X.K) := fun p s z H x y v u Q I rx ry h => by
  unfold uNe at h
  split at h
  · exact op_ne p s z H _ _ v u Q I rx ry ⟨by assumption, h⟩
  · exact op_neD hu p s z H _ _ v u Q I rx ry h
def uLt : R2 := fun x y H Q => match x, y with
  | .int i, .int j => Q (.bl (decide (i < j))) H
  | .str i, .str j => Q (.bl (decide (i.cps.toList < j.cps.toList))) H
  | _, _ => False
theorem opLt : OpR X (compareOp .Lt) uLt := fun p s z H x y v u Q I rx ry h => by
  unfold uLt at h
  split at h
  · exact op_lt p s z H _ _ v u Q I rx ry ⟨_, _, rfl, rfl, h⟩
  · exact op_lt_str p s z H _ _ v u Q I rx ry ⟨_, _, rfl, rfl, h⟩
  · exact h.elim
def uLe : R2 := fun x y H Q => match x, y with | .int i, .int j => Q (.bl (decide (i ≤ j))) H | _, _ => False
theorem opLe : OpR X (compareOp .LtE) uLe := fun p s z H x y v u Q I rx ry h => by
  unfold uLe at h
  split at h
  · exact op_le p s z H _ _ v u Q I rx ry ⟨_, _, rfl, rfl, h⟩
  · exact h.elim
def uGt : R2 := fun x y H Q => match x, y with | .int i, .int j => Q (.bl (decide (j < i))) H | _, _ => False
theorem opGt : OpR X (compareOp .Gt) uGt := fun p s z H x y v u Q I rx ry h => by
  unfold uGt at h
  split at h
  · exact op_gt p s z H _ _ v u Q I rx ry ⟨_, _, rfl, rfl, h⟩
  · exact h.elim
def uGe : R2 := fun x y H Q => match x, y with | .int i, .int j => Q (.bl (decide (j ≤ i))) H | _, _ => False
theorem opGe : OpR X (compareOp .GtE) uGe := fun p s z H x y v u Q I rx ry h => by
  unfold uGe at h
  split at h
  · exact op_ge p s z H _ _ v u Q I rx ry ⟨_, _, rfl, rfl, h⟩
  · exact h.elim
/-- a sign in a text -/
def uInS : R2 := fun x y H Q => match x, y with
  | .str c, .str z => ∃ n, c = ⟨#[n]⟩ ∧ Q (.bl (decide (n ∈ z.cps.toList))) H
  | _, _ => False
theorem opInS : OpR X (compareOp .In) uInS := fun p s z H x y v u Q I rx ry h => by
  unfold uInS at h
  split at h
  · obtain ⟨n, e, h⟩ := h
    subst e
    exact op_in_sign p s z H _ _ v u Q I rx ry ⟨_, _, rfl, rfl, h⟩
  · exact h.elim
def uNotInS : R2 := fun x y H Q => match x, y with
  | .str c, .str z => ∃ n, c = ⟨#[n]⟩ ∧ Q (.bl (!decide (n ∈ z.cps.toList))) H
  | _, _ => False
theorem opNotInS : OpR X (compareOp .NotIn) uNotInS := fun p s z H x y v u Q I rx ry h => by
  unfold uNotInS at h
  split at h
  · obtain ⟨n, e, h⟩ := h
    subst e
    exact op_notIn_sign p s z H _ _ v u Q I rx ry ⟨_, _, rfl, rfl, h⟩
  · exact h.elim
end
/-- a chain of two comparisons -/
def uChain (r r' : R2) (ta tb tc : TE) : TE := fun σ H Q => ta σ H fun x H1 => tb σ H1 fun y H2 => r x y H2 fun z H3 => match z with
  | .bl k => br k (tc σ H3 fun w H4 => r' y w H4 Q) (Q (.bl false) H3)
  | _ => False
end U

namespace U
open PySem PySem.Spec PyProof.Rows L2
theorem foldl_arr (x : Array Nat) : ∀ (n : Nat) (a : Array Nat), ((List.replicate n x).foldl (· ++ ·) a).toList = a.toList ++ (List.replicate n x.toList).flatten
  | 0, a => by simp
  | n + 1, a => by
    rw [List.replicate_succ, List.foldl_cons, foldl_arr x n, List.replicate_succ, List.flatten_cons]
    simp
theorem flat_nil : ∀ k : Nat, (List.replicate k ([] : List Nat)).flatten = []
  | 0 => rfl
  | k + 1 => by rw [List.replicate_succ, List.flatten_cons, flat_nil k]; rfl
theorem mul_list (x : Str) (n : Int) (h0 : 0 ≤ n) : (Txt.mul x n).cps.toList = (List.replicate n.toNat x.cps.toList).flatten := by
  unfold Txt.mul
  split
  · rw [show n.toNat = 0 by omega]; rfl
  · split
    · rename_i h1 h2
      rw [Bool.or_eq_true] at h2
      rcases h2 with h2 | h2
      · obtain rfl : n = 1 := by simpa using h2
        simp
      · have h3 : x.cps.toList.length = 0 := by simpa [Str.length] using h2
        rw [List.eq_nil_of_length_eq_zero h3, flat_nil]
    · rw [foldl_arr]; rfl
theorem mul_ok {x : Str} {n : Int} (h0 : 0 ≤ n) (h1 : n ≤ 1000000) (h : x.length * n.toNat ≤ 1000000) : MulOk x n := by
  refine ⟨?_, fun h2 _ => ?_, fun _ _ => ?_⟩
  · rw [decide_eq_false (show ¬ n < -(2 ^ 63 : Int) by omega), decide_eq_false (show ¬ n ≥ (2 ^ 63 : Int) by omega)]; rfl
  · intro z
    have hx : x.length ≤ 1000000 := Nat.le_trans (by
      have h5 := Nat.mul_le_mul_left x.length (show 1 ≤ n.toNat by omega)
      omega) h
    have h3 : (2 ^ 63 - 1 : Int) / n ≥ 1000000 := (Int.le_ediv_iff_mul_le (by omega)).mpr (by omega)
    omega
  · unfold Builtin.Str.tooLong
    have := sizeLine_eq
    simp
    omega
section
variable {X : Cx}
/-- a product, also of a text -/
def uMulT : R2 := fun x y H Q => match x, y with
  | .str i, .int j => (0 ≤ j ∧ j ≤ 1000000 ∧ i.length * j.toNat ≤ 1000000) ∧ Q (.str (Txt.mul i j)) H
  | _, _ => uMul x y H Q
theorem opMulT : OpR X (binaryOp .Mult) uMulT := fun p s z H x y v u Q I rx ry h => by
  unfold uMulT at h
  split at h
  · obtain ⟨⟨h0, h1, h2⟩, q⟩ := h
    obtain ⟨t, rfl⟩ := rx
    obtain ⟨t', rfl⟩ := ry
    exact SB.mul (mul_ok h0 h1 h2) fun t' k => ⟨.str _, H, I.tok k, ⟨_, rfl⟩, q⟩
  · exact opMul p s z H _ _ v u Q I rx ry h

/-! ### calls of built-ins -/
def uLen (K : PySem.W.Frag) : List V → Hp → VK → Prop := fun vs H Q => match vs with
  | [.str y] => y.length ≤ sizeLine ∧ Q (.int y.length) H
  | [.ref p] => ∃ xs, (SqL K H p xs ∨ SqT K H p xs) ∧ Q (.int xs.length) H
  | _ => False
theorem caLen : CallR X (.builtin "len") (uLen X.K) := fun p s z H xs us Q I r h => by
  unfold uLen at h
  split at h
  · exact call_len_str p s z H _ us Q I r ⟨_, rfl, h.1, h.2⟩
  · obtain ⟨ys, h1, h2⟩ := h
    exact call_len_seq p s z H _ us Q I r ⟨_, ys, rfl, h1, h2⟩
  · exact h.elim
def uMax (vs : List V) (H : Hp) (Q : VK) : Prop := match vs with | [.int i, .int j] => Q (.int (max i j)) H | _ => False
theorem caMax (hc : X.calm = true) : CallR X (.builtin "max") uMax := fun p s z H xs us Q I r h => by
  unfold uMax at h
  split at h
  · refine call_max2 hc p s z H _ us Q I r ⟨_, _, rfl, ?_⟩
    rename_i i j
    have e : (if j > i then j else i) = max i j := by omega
    rw [e]; exact h
  · exact h.elim
def uMin (vs : List V) (H : Hp) (Q : VK) : Prop := match vs with | [.int i, .int j] => Q (.int (min i j)) H | _ => False
theorem caMin (hc : X.calm = true) : CallR X (.builtin "min") uMin := fun p s z H xs us Q I r h => by
  unfold uMin at h
  split at h
  · refine call_min2 hc p s z H _ us Q I r ⟨_, _, rfl, ?_⟩
    rename_i i j
    have e : (if j < i then j else i) = min i j := by omega
    rw [e]; exact h
  · exact h.elim
def uAbs (vs : List V) (H : Hp) (Q : VK) : Prop := match vs with | [.int i] => Q (.int i.natAbs) H | _ => False
theorem caAbs : CallR X (.builtin "abs") uAbs := fun p s z H xs us Q I r h => by
  unfold uAbs at h
  split at h
  · refine call_abs p s z H _ us Q I r ⟨_, rfl, ?_⟩
    rename_i i
    have e : (if i < 0 then -i else i) = (i.natAbs : Int) := by omega
    rw [e]; exact h
  · exact h.elim
def uInt (vs : List V) (H : Hp) (Q : VK) : Prop := match vs with | [.int i] => Q (.int i) H | [.bl k] => Q (.int (if k then 1 else 0)) H | _ => False
theorem caInt : CallR X (.type "int") uInt := fun p s z H xs us Q I r h => by
  unfold uInt at h
  split at h
  · exact call_int1 p s z H _ us Q I r (.inl ⟨_, rfl, h⟩)
  · exact call_int1 p s z H _ us Q I r (.inr ⟨_, rfl, h⟩)
  · exact h.elim
def uStr (vs : List V) (H : Hp) (Q : VK) : Prop := match vs with | [.int i] => i.natAbs.log2 < 1920 ∧ Q (.str (toString i)) H | [.str a] => Q (.str a) H | _ => False
theorem caStr : CallR X (.type "str") uStr := fun p s z H xs us Q I r h => by
  unfold uStr at h
  split at h
  · exact call_str_int p s z H _ us Q I r ⟨_, rfl, h.1, h.2⟩
  · exact SkE.call_str_str p s z H _ us Q I r ⟨_, rfl, h⟩
  · exact h.elim
/-- repr of data at any depth: a list or a tuple -/
def uRepr (K : PySem.W.Frag) (vs : List V) (H : Hp) (Q : VK) : Prop := match vs with
  | [.ref a] => ∃ d, Dp K H (.ref a) d ∧ d.showable = true ∧ SeqAt.shaped d = true ∧ d.shown.length ≤ sizeLine ∧ Q (.str d.shown) H
  | _ => False
theorem caRepr (hg : X.A.guards = some []) (hu : X.A.units + 70 < cLine) : CallR X (.builtin "repr") (uRepr X.K) := fun p s z H xs us Q I r h => by
  unfold uRepr at h
  split at h
  · obtain ⟨d, hd, h1, h2, h3, q⟩ := h
    obtain ⟨u, rfl, ru⟩ := L2.vals1 r
    cases (show u = Value.ref _ from ru)
    obtain ⟨as, rd⟩ := Dp.reads I d _ _ hd rfl
    have hdep := SeqAt.depth_of_shaped h2
    refine repr_of_reads' rd h1 (PyData.noDict_hsm (PyData.hasDict_of_canLay d (SeqAt.canLay_of_shaped h2))) hg (by omega) (fun _ _ e => e) (fun h' u tk k => ?_) h3
    exact ⟨.str d.shown, H, I.kept (t' := tk) k, ⟨_, rfl⟩, q⟩
  · exact h.elim
/-- an item by its place -/
def uIx (K : PySem.W.Frag) : R2 := fun x y H Q => match x, y with
  | .str z, .int i => z.length ≤ sizeLine ∧ ∃ c, atI z.cps.toList i = some c ∧ Q (.str ⟨#[c]⟩) H
  | .ref p, .int i => ∃ xs v, (SqL K H p xs ∨ SqT K H p xs) ∧ atI xs i = some v ∧ Q v H
  | _, _ => False
theorem ixU : IxR X (uIx X.K) := fun va sl p s z H x y v u Q I rx ry h hs => by
  unfold uIx at h
  split at h
  · obtain ⟨h1, c, h2, q⟩ := h
    exact ix_str va sl p s z H _ _ v u Q I rx ry ⟨_, _, c, rfl, rfl, h1, h2, q⟩ hs
  · obtain ⟨xs, w, h1 | h1, h2, q⟩ := h
    · exact ix_list va sl p s z H _ _ v u Q I rx ry ⟨_, xs, _, w, rfl, rfl, h1, h2, q⟩ hs
    · exact ix_tup va sl p s z H _ _ v u Q I rx ry ⟨_, xs, _, w, rfl, rfl, h1, h2, q⟩ hs
  · exact h.elim
end

/-! ### the ledger: what a def knows of the heap -/
/-- H0 the heap at the start, D what may change of it; F what stands still, M what may still change, each by its address -/
structure At (H0 : Hp) (D : List Addr) (F M : List (Addr × HO)) (H : Hp) : Prop where
  fr : ∀ a o, H0 a = some o → a ∉ D → H a = some o
  fa : ∀ p ∈ F, H p.1 = some p.2
  mu : ∀ p ∈ M, H p.1 = some p.2
  mf : ∀ p ∈ M, p.1 ∈ D ∨ H0 p.1 = none
  df : ∀ p ∈ M, ∀ q ∈ F, p.1 ≠ q.1
  nd : (M.map (·.1)).Nodup
section
variable {H0 H H' : Hp} {D : List Addr} {F M : List (Addr × HO)} {a p : Addr} {o u : HO}
theorem At.start (H : Hp) : At H [] [] [] H := ⟨fun _ _ h _ => h, fun _ h => absurd h List.not_mem_nil, fun _ h => absurd h List.not_mem_nil, fun _ h => absurd h List.not_mem_nil, fun _ h => absurd h List.not_mem_nil, List.nodup_nil⟩
/-- the dice alone may change -/
theorem At.start1 (h : H a = some o) : At H [a] [] [(a, o)] H := ⟨fun _ _ e _ => e, fun _ h => absurd h List.not_mem_nil, fun p hp => by
  obtain rfl := List.mem_singleton.mp hp
  exact h, fun p hp => .inl (by obtain rfl := List.mem_singleton.mp hp; exact List.mem_singleton.mpr rfl), fun _ _ _ h => absurd h List.not_mem_nil, by simp⟩
theorem At.get (L : At H0 D F M H) (h : (a, o) ∈ F) : H a = some o := L.fa _ h
theorem At.getM (L : At H0 D F M H) (h : (a, o) ∈ M) : H a = some o := L.mu _ h
/-- what is known of an object that doesn't change -/
theorem At.know (L : At H0 D F M H) (h : H a = some o) (hM : a ∉ M.map (·.1)) : At H0 D ((a, o) :: F) M H := ⟨L.fr, fun p hp => by
  rcases List.mem_cons.mp hp with rfl | hp
  · exact h
  · exact L.fa p hp, L.mu, L.mf, fun p hp q hq e => by
  rcases List.mem_cons.mp hq with rfl | hq
  · exact hM (List.mem_map.mpr ⟨p, hp, e⟩)
  · exact L.df p hp q hq e, L.nd⟩
theorem At.new (L : At H0 D F M H) (h : H p = none) : At H0 D ((p, o) :: F) M (upd H p o) := ⟨fun b u e n => by
  have q := L.fr b u e n
  rw [upd_ne (ne_of_none q h)]; exact q, fun q hq => by
  rcases List.mem_cons.mp hq with rfl | hq
  · exact upd_same
  · rw [upd_ne (ne_of_none (L.fa q hq) h)]; exact L.fa q hq, fun q hq => by
  rw [upd_ne (ne_of_none (L.mu q hq) h)]; exact L.mu q hq, L.mf, fun q hq r hr e => by
  rcases List.mem_cons.mp hr with rfl | hr
  · have e2 := L.mu q hq
    rw [show q.1 = p from e, h] at e2
    cases e2
  · exact L.df q hq r hr e, L.nd⟩
theorem At.no0 (L : At H0 D F M H) (hD : ∀ d ∈ D, ∃ u, H d = some u) (h : H p = none) : H0 p = none := by
  cases e : H0 p with
  | none => rfl
  | some u =>
    by_cases hp : p ∈ D
    · obtain ⟨w, e2⟩ := hD p hp
      rw [h] at e2; cases e2
    · rw [L.fr p u e hp] at h; cases h
theorem At.newM (L : At H0 D F M H) (hD : ∀ d ∈ D, ∃ u, H d = some u) (h : H p = none) : At H0 D F ((p, o) :: M) (upd H p o) := ⟨(L.new (o := o) h).fr, fun q hq => (L.new (o := o) h).fa q (List.mem_cons_of_mem _ hq), fun q hq => by
  rcases List.mem_cons.mp hq with rfl | hq
  · exact upd_same
  · exact (L.new (o := o) h).mu q hq, fun q hq => by
  rcases List.mem_cons.mp hq with rfl | hq
  · exact .inr (L.no0 hD h)
  · exact L.mf q hq, fun q hq r hr e => by
  rcases List.mem_cons.mp hq with rfl | hq
  · have e2 := L.fa r hr
    rw [← show p = r.1 from e, h] at e2; cases e2
  · exact L.df q hq r hr e, by
  rw [List.map_cons]
  refine List.nodup_cons.mpr ⟨fun z => ?_, L.nd⟩
  obtain ⟨q, hq, e⟩ := List.mem_map.mp z
  have e2 := L.mu q hq
  rw [show q.1 = p from e, h] at e2; cases e2⟩
/-- the first of M changes -/
theorem At.set (L : At H0 D F ((a, o) :: M) H) (h1 : ∀ b u, H b = some u → b ≠ a → H' b = some u) (h2 : H' a = some u) : At H0 D F ((a, u) :: M) H' := ⟨fun b w e n => h1 b w (L.fr b w e n) (fun z => by
  subst z
  rcases L.mf _ (List.mem_cons_self ..) with z | z
  · exact n z
  · rw [e] at z; cases z), fun q hq => h1 _ _ (L.fa q hq) (fun z => L.df _ (List.mem_cons_self ..) q hq z.symm), fun q hq => by
  rcases List.mem_cons.mp hq with rfl | hq
  · exact h2
  · refine h1 _ _ (L.mu q (List.mem_cons_of_mem _ hq)) fun z => ?_
    have := L.nd
    rw [List.map_cons] at this
    exact (List.nodup_cons.mp this).1 (List.mem_map.mpr ⟨q, hq, z⟩), fun q hq => by
  rcases List.mem_cons.mp hq with rfl | hq
  · exact L.mf (a, o) (List.mem_cons_self ..)
  · exact L.mf q (List.mem_cons_of_mem _ hq), fun q hq r hr => by
  rcases List.mem_cons.mp hq with rfl | hq
  · exact L.df (a, o) (List.mem_cons_self ..) r hr
  · exact L.df q (List.mem_cons_of_mem _ hq) r hr, by have := L.nd; rw [List.map_cons] at this ⊢; exact this⟩
theorem At.upd (L : At H0 D F ((a, o) :: M) H) : At H0 D F ((a, u) :: M) (L2.upd H a u) := L.set (fun b w e n => by rw [upd_ne n]; exact e) upd_same
theorem memSwap {α : Type} {x q r : α} {l : List α} (h : x ∈ r :: q :: l) : x ∈ q :: r :: l := by
  rcases List.mem_cons.mp h with rfl | h
  · exact .tail _ (.head _)
  · rcases List.mem_cons.mp h with rfl | h
    · exact .head _
    · exact .tail _ (.tail _ h)
/-- M in another order -/
theorem At.swap {q r : Addr × HO} (L : At H0 D F (q :: r :: M) H) : At H0 D F (r :: q :: M) H := ⟨L.fr, L.fa, fun x hx => L.mu x (memSwap hx), fun x hx => L.mf x (memSwap hx), fun x hx => L.df x (memSwap hx), by
  have := L.nd
  simp only [List.map_cons, List.nodup_cons, List.mem_cons, not_or] at this ⊢
  exact ⟨⟨fun z => this.1.1 z.symm, this.2.1⟩, this.1.2, this.2.2⟩⟩
/-- the first of M stands still from here on -/
theorem At.still (L : At H0 D F ((a, o) :: M) H) : At H0 D ((a, o) :: F) M H := ⟨L.fr, fun q hq => by
  rcases List.mem_cons.mp hq with rfl | hq
  · exact L.mu _ (List.mem_cons_self ..)
  · exact L.fa q hq, fun q hq => L.mu q (List.mem_cons_of_mem _ hq), fun q hq => L.mf q (List.mem_cons_of_mem _ hq), fun q hq r hr e => by
  rcases List.mem_cons.mp hr with rfl | hr
  · have := L.nd
    rw [List.map_cons] at this
    exact (List.nodup_cons.mp this).1 (List.mem_map.mpr ⟨q, hq, e⟩)
  · exact L.df q (List.mem_cons_of_mem _ hq) r hr e, by have := L.nd; rw [List.map_cons] at this; exact (List.nodup_cons.mp this).2⟩
/-- behind what only adds -/
theorem At.same (L : At H0 D F M H) (h : ∀ b u, H b = some u → H' b = some u) : At H0 D F M H' := ⟨fun b w e n => h _ _ (L.fr b w e n), fun q hq => h _ _ (L.fa q hq), fun q hq => h _ _ (L.mu q hq), L.mf, L.df, L.nd⟩
/-- forget -/
theorem At.less {F' : List (Addr × HO)} (L : At H0 D F M H) (h : ∀ p ∈ F', p ∈ F) : At H0 D F' M H := ⟨L.fr, fun q hq => L.fa q (h q hq), L.mu, L.mf, fun q hq r hr => L.df q hq r (h r hr), L.nd⟩
end
end U

/-! U3: promises of defs that are called where no repr is under way (repr of a list asks for that). -/
namespace U
open PySem PySem.Spec PyProof.Rows L2
/-- a def's promise, wherever no repr is under way -/
structure FnG (P : Program) (w : World) (K : PySem.W.Frag) (mg : Str → Option Value) (base : Heap) (CX : CXT) (k : Nat) (f : Addr) (fd : FuncData) (ps : List Str) (sp : Sp) : Prop where
  len : ∀ vs H Q E, sp vs H Q E → vs.length = ps.length
  run : ∀ (A : Around) (outer : List Env) (s : Shared) (H : Hp) (args : Args) (us : List Value) (vs : List V) (Q : VK) (E : XK), A.guards = some [] → Room k A → Env0 P w K mg base A outer s H → BindsTo s fd args (ps.zip us) → Vals vs us →
    sp vs H Q E → codeAny (model P w) A (.call (.ref f) args) (CR CX outer P w H s Q E) s
section
variable {P : Program} {w : World} {K : PySem.W.Frag} {mg : Str → Option Value} {base : Heap} {CX : CXT} {k j : Nat} {f : Addr} {fd : FuncData} {ps N : List Str} {sp : Sp} {st : Stmt} {nm qual : Str}
theorem FnG.of (F : FnOk P w K mg base CX k f fd ps sp) : FnG P w K mg base CX k f fd ps sp := ⟨F.len, fun A o s H ar us vs Q E _ => F.run A o s H ar us vs Q E⟩
theorem FnG.mono (F : FnG P w K mg base CX j f fd ps sp) (h : j ≤ k) : FnG P w K mg base CX k f fd ps sp := ⟨F.len, fun A o s H ar us vs Q E g r => F.run A o s H ar us vs Q E g (r.mono h)⟩
/-- a def by its body, where no repr is under way -/
theorem okG (F : Fun K nm qual st f fd) (S : FnScope N ps (defScope st)) (len : ∀ vs H Q E, sp vs H Q E → vs.length = ps.length)
    (body : ∀ (cdv : Value) (A : Around) (outer : List Env) (s : Shared) (H : Hp) (vs : List V) (Q : VK) (E : XK), A.guards = some [] → Room k (A.deeper (envOfC qual (defScope st) s.heap.objs.size f cdv)) → sp vs H Q E →
      ∃ t, PSs (cxOf CX P w K mg base N qual (defScope st) f cdv A outer s H E) (defBody st) t ∧ t { nx := fun _ H' => Q .non H', rt := Q } (start N vs) H) : FnG P w K mg base CX (k + 1) f fd ps sp := by
  obtain ⟨oc, od, kV, doc, pm, an, cdv, ct, osl, rfl, lk, hcd⟩ := F.ex
  refine ⟨len, fun A outer s H args us vs Q E hg hr e0 hb r hsp => ?_⟩
  have kin : K.In s.heap := e0.mod.kin.keeps fun b o z => (e0.bs b o z).1
  have nol : s.heap.NoLimit := e0.mod.nolimit.keeps fun b o z => (e0.bs b o z).1
  refine codeAny_call_function hr.depth (kin _ _ lk) rfl S.co S.gen rfl (PySem.W.codeRec_of kin hcd) (hb _ _ _ _ ?_)
  refine wpAny_newFunctionEnv_cells S.kind (fun ⟨n, v⟩ hy => (S.par n (List.of_mem_zip hy).1).elim .inl fun q => .inr ⟨q, PySem.W.cellsFrom_some _ _ _ (.inl q)⟩) fun env he s1 x => ?_
  subst he
  refine ⟨nol.keeps x.toInCall.keep, codeAny_func ?_⟩
  obtain ⟨t, ht, hq⟩ := body cdv A outer s H vs Q E hg (hr.deeper _) hsp
  have I0 := inv_start (CX := CX) (E := E) S hr.hd e0 (len _ _ _ _ hsp) r x
  refine wpAny_mono (ht.run [] s1 _ H _ I0 hq) (fun fl s' hs => ?_) fun e s' hs => hs
  cases fl with
  | ret u => exact let ⟨v, _, H', J, rv, q⟩ := hs; ⟨v, H', J.os, J.bare, J.base, J.hok, rv, q⟩
  | next => exact let ⟨_, H', J, q⟩ := hs; ⟨V.non, H', J.os, J.bare, J.base, J.hok, rfl, q⟩
  | brk => exact let ⟨_, _, _, q⟩ := hs; False.elim q
  | cont => exact let ⟨_, _, _, q⟩ := hs; False.elim q
end
section
variable {X : Cx} {CX : CXT} {k : Nat} {f : Addr} {fd : FuncData} {ps : List Str} {sp : Sp} {dvs : List V} {ds : List Value} {E : XK} {x : Str} {p pos : Pos} {e : Expr} {es : List Expr} {t : TA}
theorem runG {pins : List (Addr × Obj)} {σ : L2.St} {H : Hp} {s : Shared} {Q : VK} {us : List Value} {vs : List V} (F : FnG X.prog X.w X.K X.mg X.base CX k f fd ps sp) (hg : X.A.guards = some []) (hr : Room k X.A) (hb : Binds X.K fd ps ds) (hd : Vals dvs ds) (hx : Passes CX X E)
    (I : Inv X pins σ H s) (r : Vals vs us) (h : sp (vs ++ dvs) H Q E) : wpAny (model X.prog X.w) X.A (call (.ref f) us) (EP X pins σ Q) X.xe s := by
  have r2 : Vals (vs ++ dvs) (us ++ ds) := r.append hd
  refine wpAny_call (codeAny_mono (F.run X.A X.stack s H ⟨us, []⟩ (us ++ ds) (vs ++ dvs) Q E hg hr I.env0 (hb s us I.kIn (by rw [← r2.length]; exact F.len _ _ _ _ h)) r2 h) fun r s' hq => ?_)
  match r, hq with
  | .error e, hq => exact hx pins σ H s e s' I hq
  | .ok (.ret u), hq => exact I.after hq
  | .ok .next, hq => exact False.elim hq
  | .ok .brk, hq => exact False.elim hq
  | .ok .cont, hq => exact False.elim hq
theorem peG (F : FnG X.prog X.w X.K X.mg X.base CX k f fd ps sp) (hg : X.A.guards = some []) (hr : Room k X.A) (hn : Gl X x) (hm : X.mg x = some (.ref f)) (hk : PySem.W.keepIn X.K (.ref f) = true) (hb : Binds X.K fd ps ds) (hd : Vals dvs ds) (hx : Passes CX X E)
    (ha : PA X (e :: es) t) (hdb : (x == ("__debug__" : Str)) = false := by decide) (he : starEach (e :: es) X.env = (false, eval e X.env) :: starEach es X.env := by rfl) (hpl : (backTo pos (starEach es X.env)).any (·.1) = false := by rfl) :
    PE X (.Call (.Name x p) (e :: es) [] pos) (tCall sp dvs E t) := ⟨fun pins s σ H Q I h => wpAny_Call_Name_kw (ld_glob I hn hm (PySem.W.callWith_K (h₀ := X.base) I.ok.mod.kin hk
      (thn (ha.run pos pins s σ H _ I h) fun us s1 ⟨vs, H1, I1, r, q⟩ => ⟨I1.kIn, runG F hg hr hb hd hx I1 r q⟩) he hpl) hdb)⟩
end
/-! ### the law's own call -/
section
open PySem.W
theorem scriptH {P : Program} {w : World} {K : Frag} {s : Shared} {a : Addr} {vs : List Value} {ns : List Int} (KX : K.In s.heap) (ha : s.heap.get? a = some { cls := .type "list", data := .seq vs.toArray }) (hi : IntsAre vs ns) (hl : ns.length ≤ sizeLine) :
    ∃ H : Hp, Only H ∧ SqL K H a (ns.map V.int) ∧ HOk P w H s.heap ∧ (∀ b, H b ≠ none → b = a) ∧ (H a ≠ none → K.lookup a = none) := by
  have rv := vals_ints hi
  have lv : vs.length = ns.length := hi.length
  cases e : K.lookup a with
  | some o =>
    obtain rfl : o = _ := Option.some.inj ((KX a o e).symm.trans ha)
    exact ⟨fun _ => none, fun _ => .inl rfl, .inr ⟨_, vs.toArray, _, e, rfl, rfl, rfl, by rw [List.size_toArray, lv]; exact hl, by simpa using rv⟩, fun b u z => absurd (show (none : Option HO) = some u from z) (fun q => nomatch q), fun b z => absurd rfl z, fun z => absurd rfl z⟩
  | none =>
    refine ⟨fun b => if b = a then some (.frz { cls := .type "list", data := .seq vs.toArray } (.lst (ns.map V.int))) else none, fun b => ?_, .inl (.inr ⟨_, if_pos rfl⟩), fun b u z => ?_, fun b z => ?_, fun _ => rfl⟩
    · by_cases h : b = a
      · exact .inr ⟨_, _, if_pos h⟩
      · exact .inl (if_neg h)
    · by_cases h : b = a
      · subst h
        obtain rfl := Option.some.inj ((if_pos rfl).symm.trans z)
        exact ⟨ha, by rw [List.length_map]; exact hl, vs, _, rv, ha⟩
      · exact nomatch (if_neg h).symm.trans z
    · by_cases h : b = a
      · exact h
      · exact absurd (if_neg h) z
theorem lawG {P : Program} {w : World} {K : Frag} {mg mb : Str → Option Value} {CX : CXT} {k : Nat} {fa a : Addr} {fd : FuncData} {x : Str} {sp : Sp} {s : Shared} {vs : List Value} {ns : List Int}
    (KX : K.In s.heap) (hns : s.heap.Ns mainGlobals mg) (hb : s.heap.Ns builtinsNs mb) (hbb : ∀ y : Str, y ≠ "__name__" → mb y = bootBuiltins y) (hlim : s.heap.NoLimit) (hgn : s.gens = #[])
    (ha : s.heap.get? a = some { cls := .type "list", data := .seq vs.toArray }) (hi : IntsAre vs ns) (hl : ns.length ≤ sizeLine) (hr : Room k callerA)
    (F : ∀ base : Heap, K.In base → base.Ns mainGlobals mg → FnG P w K mg base CX k fa fd [x] sp) (hbind : ∀ (s : Shared) (u : Value), BindsTo s fd ⟨[u], []⟩ [(x, u)])
    (hsp : ∀ H : Hp, Only H → SqL K H a (ns.map V.int) → sp [.ref a] H (fun v _ => v = .bl true) fun _ _ _ => False) (hCX : ∀ H e s', CX [] H s (fun _ _ _ => False) e s' → False) :
    codeAny (model P w) callerA (.call (.ref fa) ⟨[.ref a], []⟩) (fun r s' => r = .ok (.ret (.bool true)) ∧ OldK s.heap s'.heap ∧ s'.os = s.os ∧ AllBare s'.gens) s := by
  obtain ⟨H, hO, hS, hok, hA, hK⟩ := scriptH (P := P) (w := w) KX ha hi hl
  have keep : ∀ {b : Addr} {o : Obj}, s.heap.get? b = some o → H b = none → (hidT s.heap H).get? b = some o := fun e n => hidT_get e n
  have free : ∀ {b : Addr}, b ≠ a → H b = none := fun {b} h => Classical.byContradiction fun z => h (hA b z)
  have kIn : K.In (hidT s.heap H) := fun b o e => keep (KX b o e) (Classical.byContradiction fun z => by
    obtain rfl := hA b z
    rw [hK z] at e; cases e)
  have nsIn : ∀ {b : Addr} {m : Str → Option Value}, s.heap.Ns b m → (hidT s.heap H).Ns b m := fun {b m} ⟨o, es, ep, e, d, r⟩ => ⟨o, es, ep, keep e (free fun z => by
    subst z
    rw [ha] at e; cases e; cases d), d, r⟩
  have M : Mod K mg (hidT s.heap H) := ⟨kIn, nsIn hns, ⟨mb, nsIn hb, hbb⟩, let ⟨mc, h1, h2⟩ := hlim; ⟨mc, nsIn h1, h2⟩⟩
  refine codeAny_mono ((F _ kIn (nsIn hns)).run callerA [] s H ⟨[.ref a], []⟩ [.ref a] [.ref a] _ _ rfl hr ⟨rfl, M, fun b o e => of_hidT e, Nat.le_of_eq (hidT_size _ _), trivial, fun b z => absurd (show b ∈ ([] : List Addr) from z) List.not_mem_nil, hok, .of_eq hgn⟩ (hbind s (.ref a)) (.cons rfl .nil) (hsp H hO hS)) fun r s' h => ?_
  match r, h with
  | .error e, h => exact (hCX H e s' h).elim
  | .ok .next, h => exact False.elim h
  | .ok .brk, h => exact False.elim h
  | .ok .cont, h => exact False.elim h
  | .ok (.ret u), ⟨v, H', os, bare, un, hok', r', q⟩ =>
    obtain rfl : v = .bl true := q
    obtain rfl : u = Value.bool true := r'
    refine ⟨rfl, OldK.of_keep fun b o e => ?_, os, bare⟩
    cases q : H b with
    | none => exact un.keep b o e q (fun z => absurd (show b ∈ ([] : List Addr) from z) List.not_mem_nil) List.not_mem_nil
    | some u =>
      rcases hO b with z | ⟨ob, xs, z⟩
      · rw [q] at z; cases z
      · have e1 := (hok b _ z).1
        have e2 := (hok' b _ (un.frzs b ob _ z)).1
        rw [e] at e1; cases e1
        exact e2
theorem walkG {l : OpenLaw} {n k : Nat} {q : Program} {loose : List Str} {XP : (Str → Option Value) → Heap → Prop} {YP : World → Heap → Prop} {d : DefRec} {K : Params → Frag} {sp : Frag → Sp} {x : Str}
    (hn : l.most = some n) (hn2 : n ≤ sizeLine) (hdf : d.params.defaults = []) (hr : Room k callerA) (hY : ∀ (w : World) (h : Heap), YP w h → (K w.params).In h)
    (F : ∀ (w : World) (mg : Str → Option Value) (fa : Addr) (h : Heap), (K w.params).In h → h.Ns mainGlobals mg → mg d.name = some (.ref fa) →
      ∃ fd : FuncData, (∀ (s : Shared) (u : Value), BindsTo s fd ⟨[u], []⟩ [(x, u)]) ∧ ∀ base : Heap, (K w.params).In base → base.Ns mainGlobals mg → FnG l.prog w (K w.params) mg base CX0 k fa fd [x] (sp (K w.params)))
    (hsp : ∀ (K : Frag) (H : Hp) (a : Addr) (ns : List Int), ns.length ≤ n → (∀ z ∈ ns, Builtin.Int.intBits z ≤ 1048576) → Only H → SqL K H a (ns.map V.int) → sp K [.ref a] H (fun v _ => v = .bl true) fun _ _ _ => False) :
    WalkO q loose XP YP l.row.toRowW d [] (fun f vs => PySem.call f vs) :=
  Att.attach_callB hn hdf fun w _ s mg mb fa o pm cd doc a vs ns G Y ho hd hcd hmg hobj hints hlen hbits hg =>
    let ⟨fd, hb, hF⟩ := F w mg fa _ (hY w _ Y) G.T.g hmg
    lawG (hY w _ Y) G.T.g G.T.b G.T.builtins G.T.nolimit hg hobj hints (Nat.le_trans hlen hn2) hr hF hb (fun H hO hS => hsp _ H a ns hlen hbits hO hS) fun _ _ _ z => z
end
end U

namespace U
open PySem PySem.Spec PyProof.Rows L2
theorem hu64 {k : Nat} {A : Around} (h : Room k A) : A.units + 64 < cLine := h.units
theorem hu70 {k : Nat} {A : Around} (h : Room k A) : A.units + 70 < cLine := by have := h.un; omega
section
variable {X : Cx}
theorem caAll (hc : X.calm = true) : CallR X (.builtin "all") (rAll X.K) := cr_all hc
/-- a slice of a text or a list -/
def uSl (K : PySem.W.Frag) : V → Option Int → Option Int → Hp → VK → Prop := fun x lo hi H Q => match x with
  | .str z => z.length ≤ sizeLine ∧ Q (.str (Txt.slice z lo hi)) H
  | _ => rSlL K x lo hi H Q
end
theorem walkO {l : PySem.W.OpenLaw} {n k : Nat} {q : Program} {loose : List Str} {XP : (Str → Option Value) → Heap → Prop} {YP : World → Heap → Prop} {d : DefRec} {K : Params → PySem.W.Frag} {sp : PySem.W.Frag → Sp} {x : Str}
    (hn : l.most = some n) (hn2 : n ≤ sizeLine) (hdf : d.params.defaults = []) (hr : Room k callerA) (hY : ∀ (w : World) (h : Heap), YP w h → (K w.params).In h)
    (F : ∀ (w : World) (mg : Str → Option Value) (fa : Addr) (h : Heap), (K w.params).In h → h.Ns mainGlobals mg → mg d.name = some (.ref fa) →
      ∃ fd : FuncData, (∀ (s : Shared) (u : Value), BindsTo s fd ⟨[u], []⟩ [(x, u)]) ∧ ∀ base : Heap, (K w.params).In base → base.Ns mainGlobals mg → FnOk l.prog w (K w.params) mg base CX0 k fa fd [x] (sp (K w.params)))
    (hsp : ∀ (K : PySem.W.Frag) (H : Hp) (a : Addr) (ns : List Int), ns.length ≤ n → (∀ z ∈ ns, Builtin.Int.intBits z ≤ 1048576) → Only H → SqL K H a (ns.map V.int) → sp K [.ref a] H (fun v _ => v = .bl true) fun _ _ _ => False) :
    PySem.W.WalkO q loose XP YP l.row.toRowW d [] (fun f vs => PySem.call f vs) :=
  walkG hn hn2 hdf hr hY (fun w mg fa h a b c => let ⟨fd, h1, h2⟩ := F w mg fa h a b c; ⟨fd, h1, fun base e g => .of (h2 base e g)⟩) hsp
/-- what a dice list holds: the rest of a great cell, a seed, how often it was rolled -/
def Dice (n : Nat) (o : HO) : Prop := ∃ a b c : Int, o = .lst [.int a, .int b, .int c] ∧ (0 ≤ a ∧ a < 2 ^ 500) ∧ (0 ≤ b ∧ b < 2 ^ 80) ∧ (0 ≤ c ∧ c ≤ n)
theorem Dice.up {n m : Nat} {o : HO} (h : Dice n o) (l : n ≤ m) : Dice m o := by
  obtain ⟨a, b, c, e, h1, h2, h3⟩ := h
  exact ⟨a, b, c, e, h1, h2, by omega⟩
theorem mulW {i j : Int} (a b : Nat) (ha : i.natAbs < 2 ^ a) (hb : j.natAbs < 2 ^ b) (h0 : 0 < a := by decide) (h1 : 0 < b := by decide) (h : a + b ≤ 1000000 := by decide) : CMulW i j := wide_mul ha hb h0 h1 h
theorem divW {i j : Int} (b : Nat) (h : 0 < j) (hb : j.natAbs < 2 ^ b) (h0 : 0 < b := by decide) (h9 : b ≤ 9000 := by decide) : CDivW i j := wide_div h hb h0 h9
theorem abs_lt {i : Int} {n : Nat} (h0 : 0 ≤ i) (h : i < 2 ^ n) : i.natAbs < 2 ^ n := by
  have e : ((i.natAbs : Nat) : Int) = i := by omega
  have : ((i.natAbs : Nat) : Int) < ((2 ^ n : Nat) : Int) := by rw [e]; push_cast; exact h
  exact Int.ofNat_lt.mp this
end U
namespace U
open PySem PySem.Spec PyProof.Rows L2
section
variable {K : PySem.W.Frag} {H H' : Hp} {p d : Addr} {xs : List V}
theorem rdKeep {u : HO} (h : ∀ b u, H b = some u → b ≠ d → H' b = some u) (ne : p ≠ d) (r : Rd H p u) : Rd H' p u := r.elim (fun e => .inl (h _ _ e ne)) fun ⟨o, e⟩ => .inr ⟨o, h _ _ e ne⟩
theorem sqlKeep (h : ∀ b u, H b = some u → b ≠ d → H' b = some u) (ne : p ≠ d) (r : SqL K H p xs) : SqL K H' p xs := r.elim (fun e => .inl (rdKeep h ne e)) .inr
theorem sqtKeep (h : ∀ b u, H b = some u → b ≠ d → H' b = some u) (ne : p ≠ d) (r : SqT K H p xs) : SqT K H' p xs := r.elim (fun e => .inl (rdKeep h ne e)) .inr
theorem sqlSame (h : ∀ b u, H b = some u → H' b = some u) (r : SqL K H p xs) : SqL K H' p xs := r.elim (fun e => .inl (e.elim (fun e => .inl (h _ _ e)) fun ⟨o, e⟩ => .inr ⟨o, h _ _ e⟩)) .inr
theorem sqtSame (h : ∀ b u, H b = some u → H' b = some u) (r : SqT K H p xs) : SqT K H' p xs := r.elim (fun e => .inl (e.elim (fun e => .inl (h _ _ e)) fun ⟨o, e⟩ => .inr ⟨o, h _ _ e⟩)) .inr
theorem atI_lt {α : Type} {xs : List α} {i : Int} (h0 : 0 ≤ i) (h : i < xs.length) : ∃ v, v ∈ xs ∧ atI xs i = some v := by
  obtain ⟨j, rfl⟩ := Int.eq_ofNat_of_zero_le h0
  have hj : j < xs.length := by omega
  exact ⟨xs[j], List.getElem_mem hj, atI_nat (by simp [hj])⟩
/-- what is picked from: a text's signs, or the items of a list or tuple -/
def PickOf (K : PySem.W.Frag) (H : Hp) (d : Addr) (x : V) (L : List V) : Prop :=
  (∃ z, x = .str z ∧ z.length ≤ 100000 ∧ L = z.cps.toList.map fun c => V.str ⟨#[c]⟩) ∨ ∃ p, x = .ref p ∧ p ≠ d ∧ (SqL K H p L ∨ SqT K H p L)
theorem small_ok {n : Nat} (h : n ≤ 1000000) : n ≤ sizeLine := by have := sizeLine_eq; omega
theorem small_lt {n : Nat} (h : n ≤ 1000000) : n < sizeLine := by have := sizeLine_eq; omega
end
end U
namespace U
open PySem PySem.Spec PyProof.Rows L2
def kinds : List String := ["NoneType", "bool", "int", "str", "list", "tuple", "dict"]
/-- a value of a built-in kind -/
def Kd (K : PySem.W.Frag) (H : Hp) (v : V) (T : String) : Prop := TyX K H v (.type T) ∧ T ∈ kinds
theorem kd_int {T : String} (h : T ∈ kinds) : kitB T "int" = some (T == "int" || T == "bool") := by
  have e : (kinds.all fun T => decide (kitB T "int" = some (T == "int" || T == "bool"))) = true := by decide +kernel
  exact of_decide_eq_true (List.all_eq_true.mp e T h)
theorem kd_bool {T : String} (h : T ∈ kinds) : kitB T "bool" = some (T == "bool") := by
  have e : (kinds.all fun T => decide (kitB T "bool" = some (T == "bool"))) = true := by decide +kernel
  exact of_decide_eq_true (List.all_eq_true.mp e T h)
theorem kd_str {T : String} (h : T ∈ kinds) : kitB T "str" = some (T == "str") := by
  have e : (kinds.all fun T => decide (kitB T "str" = some (T == "str"))) = true := by decide +kernel
  exact of_decide_eq_true (List.all_eq_true.mp e T h)
theorem kd_tuple {T : String} (h : T ∈ kinds) : kitB T "tuple" = some (T == "tuple") := by
  have e : (kinds.all fun T => decide (kitB T "tuple" = some (T == "tuple"))) = true := by decide +kernel
  exact of_decide_eq_true (List.all_eq_true.mp e T h)
theorem kd_dict {T : String} (h : T ∈ kinds) : kitB T "dict" = some (T == "dict") := by
  have e : (kinds.all fun T => decide (kitB T "dict" = some (T == "dict"))) = true := by decide +kernel
  exact of_decide_eq_true (List.all_eq_true.mp e T h)
section
variable {K : PySem.W.Frag} {H : Hp} {v : V} {T : String}
theorem ty_of {t : Value} (h : TyX K H v t) : (t = .type "int" → ∃ i, v = .int i) ∧ (t = .type "bool" → ∃ i, v = .bl i) ∧ (t = .type "str" → ∃ i, v = .str i) := by
  cases h with
  | base b => cases b <;> simp
  | _ => simp
theorem ty_to {t : Value} (h : TyX K H v t) : (∀ i, v = .int i → t = .type "int") ∧ (∀ i, v = .bl i → t = .type "bool") ∧ (∀ i, v = .str i → t = .type "str") := by
  cases h with
  | base b => cases b <;> simp
  | _ => simp
theorem Kd.isInt (h : Kd K H v "int") : ∃ i, v = .int i := (ty_of h.1).1 rfl
theorem Kd.isBool (h : Kd K H v "bool") : ∃ i, v = .bl i := (ty_of h.1).2.1 rfl
theorem Kd.isStr (h : Kd K H v "str") : ∃ i, v = .str i := (ty_of h.1).2.2 rfl
theorem Kd.ofInt {i : Int} (h : Kd K H (.int i) T) : T = "int" := Value.type.inj ((ty_to h.1).1 i rfl)
theorem Kd.ofBool {i : Bool} (h : Kd K H (.bl i) T) : T = "bool" := Value.type.inj ((ty_to h.1).2.1 i rfl)
theorem Kd.ofStr {i : Str} (h : Kd K H (.str i) T) : T = "str" := Value.type.inj ((ty_to h.1).2.2 i rfl)
theorem Kd.int (i : Int) : Kd K H (.int i) "int" := ⟨.base (.int i), by decide⟩
theorem Kd.str (i : Str) : Kd K H (.str i) "str" := ⟨.base (.str i), by decide⟩
theorem Kd.bl (i : Bool) : Kd K H (.bl i) "bool" := ⟨.base (.bl i), by decide⟩
theorem Kd.non : Kd K H .non "NoneType" := ⟨.base .non, by decide⟩
theorem Kd.lst {a : Addr} {xs : List V} (h : H a = some (.lst xs)) : Kd K H (.ref a) "list" := ⟨.base (.lst h), by decide⟩
theorem Kd.tup {a : Addr} {xs : List V} (h : H a = some (.tup xs)) : Kd K H (.ref a) "tuple" := ⟨.base (.tup h), by decide⟩
theorem Kd.dK {a : Addr} {xs : List (Key × V)} (h : H a = some (.dK xs)) : Kd K H (.ref a) "dict" := ⟨.base (.dK h), by decide⟩
end
end U

namespace U
open PySem PySem.Spec PyProof.Rows L2
/-! ### texts as lists of signs -/
def stripL (p : Nat → Bool) (l : List Nat) : List Nat := (((l.dropWhile p).reverse.dropWhile p)).reverse
theorem drop_tw {α : Type} (p : α → Bool) (l : List α) : l.drop (l.takeWhile p).length = l.dropWhile p := by
  have h := List.takeWhile_append_dropWhile (p := p) (l := l)
  conv => lhs; rw [← h]
  rw [h]
  have e : (l.takeWhile p ++ l.dropWhile p).drop (l.takeWhile p).length = l.dropWhile p := List.drop_left
  rw [h] at e
  exact e
theorem take_tw {α : Type} (p : α → Bool) (m : List α) : m.take (m.length - (m.reverse.takeWhile p).length) = (m.reverse.dropWhile p).reverse := by
  have h := drop_tw p m.reverse
  rw [← h, List.drop_reverse, List.reverse_reverse]
theorem strip_list (p : Nat → Bool) (x : Str) : (Txt.stripBy p true true x).cps.toList = stripL p x.cps.toList := by
  rw [stripBy_eq, StrLaws.strSub_toList]
  have e1 : stripLo p true x = (x.cps.toList.takeWhile p).length := rfl
  have e2 : ∀ lo, stripHi p true x lo = x.length - ((x.cps.toList.drop lo).reverse.takeWhile p).length := fun _ => rfl
  rw [e2, e1, drop_tw]
  have el : x.length = x.cps.toList.length := by simp [Str.length]
  have hd : (x.cps.toList.dropWhile p).length = x.cps.toList.length - (x.cps.toList.takeWhile p).length := by rw [← drop_tw, List.length_drop]
  unfold stripL
  rw [← take_tw, hd, el]
  congr 1
  omega
theorem dw_nil {α : Type} {p : α → Bool} : ∀ {l : List α}, l.dropWhile p = [] ↔ ∀ c ∈ l, p c = true
  | [] => by simp
  | a :: l => by
    rw [List.dropWhile_cons]
    by_cases h : p a = true
    · rw [if_pos h, dw_nil]
      simp [h]
    · rw [if_neg h]
      simp [h]
theorem stripL_nil {p : Nat → Bool} {l : List Nat} : stripL p l = [] ↔ ∀ c ∈ l, p c = true := by
  unfold stripL
  rw [List.reverse_eq_nil_iff, dw_nil]
  constructor
  · intro h c hc
    by_cases hp : p c = true
    · exact hp
    · have hm : c ∈ l.dropWhile p := by
        have e := List.takeWhile_append_dropWhile (p := p) (l := l)
        rw [← e] at hc
        rcases List.mem_append.mp hc with z | z
        · exact absurd (List.all_eq_true.mp List.all_takeWhile c z) hp
        · exact z
      exact h c (List.mem_reverse.mpr hm)
  · intro h c hc
    exact h c ((List.dropWhile_sublist p).subset (List.mem_reverse.mp hc))
theorem stripL_keep {p : Nat → Bool} {l : List Nat} (h : ∀ c ∈ l, p c = false) : stripL p l = l := by
  have e : ∀ m : List Nat, (∀ c ∈ m, p c = false) → m.dropWhile p = m := fun m hm => by
    cases m with
    | nil => rfl
    | cons a m => rw [List.dropWhile_cons, if_neg (by rw [hm a (List.mem_cons_self ..)]; decide)]
  unfold stripL
  rw [e l h, e _ (fun c hc => h c (List.mem_reverse.mp hc)), List.reverse_reverse]
theorem str_nil {x : Str} : x = Str.ofString "" ↔ x.cps.toList = [] := by
  constructor
  · intro h; rw [h]; rfl
  · intro h
    have : x.cps = #[] := by
      apply Array.ext'
      rw [h]
    cases x
    simp only at this
    rw [this]; rfl
/-! ### digits -/
theorem digits_are (m : Nat) : ∀ c ∈ (Nat.toDigits 10 m).map Char.toNat, 48 ≤ c ∧ c ≤ 57 := by
  intro c hc
  obtain ⟨ch, hch, e⟩ := List.mem_map.mp hc
  have r := PyProof.Rows.digit_range (Nat.isDigit_of_mem_toDigits (by decide) (by decide) hch)
  rw [← e]
  exact r
theorem num_list (n : Int) : (Str.ofString (toString n)).cps.toList = (if n < 0 then [45] else []) ++ (Nat.toDigits 10 n.natAbs).map Char.toNat := by
  cases n with
  | ofNat m =>
    rw [if_neg (by simp)]
    exact PySem.W.KIN.signs_num m
  | negSucc m =>
    rw [if_pos (by omega)]
    have e : toString (Int.negSucc m) = "-" ++ toString ((m + 1 : Nat) : Int) := rfl
    rw [e]
    have h2 := PySem.W.KIN.signs_num (m + 1)
    rw [PyProof.Rows.signs_ofString] at h2 ⊢
    rw [String.toList_append, List.map_append, h2]
    rfl
/-- the length of an integer's text without its sign -/
theorem let_len (n : Int) : (Txt.stripChars (Str.ofString (toString n)) (Str.ofString "-")).length < 61 ↔ n.natAbs < 10 ^ 60 := by
  have el : ∀ x : Str, x.length = x.cps.toList.length := fun x => by simp [Str.length]
  rw [el]
  unfold Txt.stripChars
  rw [strip_list, num_list]
  have hp : ∀ c, (Str.ofString "-").cps.contains c = decide (c = 45) := fun c => by
    show (#[45] : Array Nat).contains c = _
    simp [eq_comm]
  have hk : stripL (fun c => (Str.ofString "-").cps.contains c) ((if n < 0 then [45] else []) ++ (Nat.toDigits 10 n.natAbs).map Char.toNat) = (Nat.toDigits 10 n.natAbs).map Char.toNat := by
    have hd : ∀ c ∈ (Nat.toDigits 10 n.natAbs).map Char.toNat, (Str.ofString "-").cps.contains c = false := fun c hc => by
      have := digits_are _ c hc
      rw [hp]
      exact decide_eq_false (by omega)
    by_cases h : n < 0
    · rw [if_pos h]
      have e : stripL (fun c => (Str.ofString "-").cps.contains c) ([45] ++ (Nat.toDigits 10 n.natAbs).map Char.toNat) = stripL (fun c => (Str.ofString "-").cps.contains c) ((Nat.toDigits 10 n.natAbs).map Char.toNat) := by
        unfold stripL
        rw [List.singleton_append, List.dropWhile_cons, if_pos (by rw [hp]; rfl)]
      rw [e, stripL_keep hd]
    · rw [if_neg h, List.nil_append, stripL_keep hd]
  have hk' : stripL (Str.ofString "-").cps.contains ((if n < 0 then [45] else []) ++ (Nat.toDigits 10 n.natAbs).map Char.toNat) = _ := hk
  rw [hk', List.length_map]
  have := Nat.length_toDigits_le_iff (b := 10) (n := n.natAbs) (k := 60) (by decide) (by decide)
  omega
theorem num_fits {n : Int} (h : n.natAbs < 2 ^ 1900) : n.natAbs.log2 < 1920 := Nat.lt_of_lt_of_le (PySem.Flt.log2_lt_of (by decide) h) (by decide)
theorem num_len {n : Int} (h : n.natAbs < 2 ^ 1900) : (Str.ofString (toString n)).length ≤ sizeLine := int_text_fits (num_fits h)
end U
namespace U
open PySem PySem.Spec PyProof.Rows L2
section
variable {H0 H H' : Hp} {D : List Addr} {F M M' : List (Addr × HO)}
theorem At.lessM (L : At H0 D F M H) (h : List.Sublist M' M) : At H0 D F M' H := ⟨L.fr, L.fa, fun q hq => L.mu q (h.subset hq), fun q hq => L.mf q (h.subset hq), fun q hq => L.df q (h.subset hq), L.nd.sublist (h.map _)⟩
/-- the second of M changes -/
theorem At.set2 {a b : Addr} {o u v : HO} (L : At H0 D F ((b, v) :: (a, o) :: M) H) (h1 : ∀ c w, H c = some w → c ≠ a → H' c = some w) (h2 : H' a = some u) : At H0 D F ((b, v) :: (a, u) :: M) H' := (L.swap.set h1 h2).swap
end
theorem mul_len (x : Str) (n : Int) (h0 : 0 ≤ n) : (Txt.mul x n).length = n.toNat * x.length := by
  have el : ∀ y : Str, y.length = y.cps.toList.length := fun y => by simp [Str.length]
  rw [el, mul_list x n h0, List.length_flatten, List.map_replicate, List.sum_replicate_nat, el]
end U
namespace U
open PySem PySem.Spec PyProof.Rows L2
theorem At.fresh {H H' : Hp} {p : Addr} {o : HO} (s : ∀ b u, H b = some u → H' b = some u) (h : H p = none) (h' : H' p = some o) : At H [] [] [(p, o)] H' := ⟨fun b u e _ => s b u e, fun _ z => absurd z List.not_mem_nil, fun q hq => by
  obtain rfl := List.mem_singleton.mp hq
  exact h', fun q hq => by
  obtain rfl := List.mem_singleton.mp hq
  exact .inr h, fun _ _ _ z => absurd z List.not_mem_nil, by simp⟩
theorem no_dead {H' : Hp} : ∀ e ∈ ([] : List Addr), ∃ u, H' e = some u := fun _ h => absurd h List.not_mem_nil
theorem At.all {H H' : Hp} {F M : List (Addr × HO)} (L : At H [] F M H') : ∀ b u, H b = some u → H' b = some u := fun b u e => L.fr b u e List.not_mem_nil
end U

/-! U6: own classes: operators, comparisons, str, isinstance. -/
namespace U
open PySem PySem.Spec PyProof.Rows L2
/-- a heap that has grown -/
abbrev Gr (H H' : Hp) : Prop := ∀ b u, H b = some u → H' b = some u
theorem Gr.rfl' {H : Hp} : Gr H H := fun _ _ e => e
theorem Gr.up {H H' : Hp} {p : Addr} {o : HO} (g : Gr H H') (h : H' p = none) : Gr H (upd H' p o) := fun b u e => by rw [upd_ne (ne_of_none (g b u e) h)]; exact g b u e
theorem Gr.trans {H H1 H2 : Hp} (a : Gr H H1) (b : Gr H1 H2) : Gr H H2 := fun c o e => b c o (a c o e)
/-- what is asked of an own class whose instances have a dict -/
structure OwnC (K : PySem.W.Frag) (C : Addr) : Prop where
  cl : Cls K C
  sf : PySem.W.selfFirst K C = true
  ha : PySem.W.findIn K (.ref C) "__class__" = some (some (.builtin "object.__class__"))
  hn : PySem.W.specialIn K (.builtin "object.__class__") "__get__" = some (some (.builtin "getset_descriptor.__get__"))
  htk : PySem.W.takesIn K (.builtin "object.__class__") = some true
  hm : PySem.W.mroIn K C (.type "object") = some true
  tyC : PySem.W.typeIn K (.ref C) = some (.type "type")
theorem mro_no (C : Addr) {T : String} (h : T ∈ kinds) : (PySem.fastBuiltinMro T).map (·.contains (.ref C)) = some false := by
  unfold kinds at h
  simp only [List.mem_cons, List.not_mem_nil, or_false] at h
  rcases h with rfl | rfl | rfl | rfl | rfl | rfl | rfl <;> rfl
section
variable {K : PySem.W.Frag} {C a dx : Addr} {fs : List (Str × V)} {H : Hp} {Q : VK} {v : V} {T : String}
theorem OwnC.ty (o : OwnC K C) (e : H a = some (.ins C dx fs)) : TyX K H (.ref a) (.ref C) := .base (.ins e o.cl o.ha o.hn o.htk o.hm)
theorem OwnC.isi (o : OwnC K C) (e : H a = some (.ins C dx fs)) (q : Q (.bl true) H) : rIsi K [.ref a, .ref C] H Q := ⟨_, _, .ref C, .ref C, true, rfl, .own C, o.ty e, by unfold PySem.W.kitOne; rw [if_pos (beq_self_eq_true _)], q⟩
theorem OwnC.no (o : OwnC K C) (h : T ∈ kinds) : PySem.W.kitOne K (.type T) (.ref C) = some false := by
  have hc : (PySem.W.clsIn K C).isSome = true := by
    obtain ⟨cd, hc, _⟩ := PySem.W.any_some o.cl.hd
    rw [hc]
    rfl
  unfold PySem.W.kitOne
  rw [if_neg (by intro z; cases z)]
  show (if ((PySem.W.clsIn K C).isSome && PySem.W.typeIn K (.ref C) == some (.type "type")) = true then PySem.W.subIn K (.type T) (.ref C) else none) = _
  rw [if_pos (by rw [hc, o.tyC]; rfl)]
  exact mro_no C h
theorem OwnC.isn (o : OwnC K C) (k : Kd K H v T) (q : Q (.bl false) H) : rIsi K [v, .ref C] H Q := ⟨_, _, .type T, .ref C, false, rfl, .own C, k.1, o.no k.2, q⟩
end
/-- two instances of C handed to an own method -/
def uOwn (C : Addr) (sp : Sp) (E : XK) : R2 := fun x y H Q => match x, y with
  | .ref a, .ref b => ∃ dx dy fs gs, H a = some (.ins C dx fs) ∧ H b = some (.ins C dy gs) ∧ sp [.ref a, .ref b] H Q E
  | _, _ => False
def uOwn1 (C : Addr) (sp : Sp) (E : XK) : V → Hp → VK → Prop := fun x H Q => match x with
  | .ref a => ∃ dx fs, H a = some (.ins C dx fs) ∧ sp [.ref a] H Q E
  | _ => False
section
variable {X : Cx} {CX : CXT} {n : Nat} {C f : Addr} {fd : FuncData} {ps : List Str} {sp : Sp} {E : XK} {nm : Str}
theorem run_here {A : Around} {pins : List (Addr × Obj)} {σ : L2.St} {H : Hp} {s : Shared} {Q : VK} {us : List Value} {vs : List V} (F : FnOk X.prog X.w X.K X.mg X.base CX n f fd ps sp) (hr : Room n A) (hfr : A.frames = X.A.frames) (hb : Binds X.K fd ps [])
    (hx : Passes CX X E) (I : Inv X pins σ H s) (r : Vals vs us) (h : sp vs H Q E) : wpAny (model X.prog X.w) A (call (.ref f) us) (EP X pins σ Q) X.xe s := by
  have e0 : Env0 X.prog X.w X.K X.mg X.base A X.stack s H := by
    have e := I.env0
    exact ⟨by rw [hfr]; exact e.frames, e.mod, e.bs, e.bsz, e.funs, e.frf, e.hok, e.bare⟩
  have hl := F.len _ _ _ _ h
  have hb' := hb s us I.kIn (by rw [List.append_nil, ← r.length]; exact hl)
  rw [List.append_nil] at hb'
  refine wpAny_call (codeAny_mono (F.run A X.stack s H ⟨us, []⟩ us vs Q E hr e0 hb' r h) fun r s' hq => ?_)
  cases r with
  | error e => exact hx pins σ H s e s' I hq
  | ok fl =>
    cases fl with
    | ret u => exact I.after hq
    | next => exact False.elim hq
    | brk => exact False.elim hq
    | cont => exact False.elim hq
theorem no_ni {pins : List (Addr × Obj)} {σ : L2.St} {Q : VK} {v : Value} {s' : Shared} (h : EP X pins σ Q v s') : PySem.W.CmpBack (EP X pins σ Q) v s' := by
  obtain ⟨x, H', I, r, q⟩ := h
  cases v with
  | notImplemented => cases x <;> first | (cases r; done) | (obtain ⟨_, r⟩ := r; cases r)
  | _ => exact ⟨x, H', I, r, q⟩
/-- x op y by x's own method -/
theorem opBin {op : Operator} (he : PySem.dunder op.info.2 = nm) (o : OwnC X.K C) (m : Meth X.K C nm f) (F : FnOk X.prog X.w X.K X.mg X.base CX n f fd ps sp) (hr : Room n X.A) (hb : Binds X.K fd ps []) (hx : Passes CX X E) : OpR X (binaryOp op) (uOwn C sp E) := by
  intro pins s σ H x y v u Q I rx ry h
  unfold uOwn at h
  split at h
  · rename_i a b
    obtain ⟨dx, dy, fs, gs, ha, hb', hs⟩ := h
    cases rx; cases ry
    obtain ⟨mA, J, _⟩ := ins_get I.hok ha
    obtain ⟨mB, J', _⟩ := ins_get I.hok hb'
    obtain ⟨od, J, _⟩ := J.look
    obtain ⟨od', J', _⟩ := J'.look
    obtain ⟨m', hF⟩ := I.fr
    refine PySem.W.binop_K (op := op) hF I.ok.mod.kin J J'.type o.sf (by rw [he]; exact m.at_) m.fn ?_
    exact wpAny_mono (run_here F hr rfl hb hx I (show Vals [V.ref a, V.ref b] [Value.ref a, Value.ref b] from .cons rfl (.cons rfl .nil)) hs) (fun _ _ q => no_ni q) fun _ _ z => z
  · exact h.elim
/-- x op y, a comparison, by x's own method -/
theorem opCmp {op : CmpOp} (he : (PySem.cmpInfo op).2.1 = nm) (hop : compareOp op = richCompare op) (m : Meth X.K C nm f) (F : FnOk X.prog X.w X.K X.mg X.base CX n f fd ps sp) (hr : Room n X.A) (hb : Binds X.K fd ps []) (hx : Passes CX X E) : OpR X (compareOp op) (uOwn C sp E) := by
  intro pins s σ H x y v u Q I rx ry h
  unfold uOwn at h
  split at h
  · rename_i a b
    obtain ⟨dx, dy, fs, gs, ha, hb', hs⟩ := h
    cases rx; cases ry
    obtain ⟨mA, J, _⟩ := ins_get I.hok ha
    obtain ⟨mB, J', _⟩ := ins_get I.hok hb'
    obtain ⟨od, J, _⟩ := J.look
    obtain ⟨od', J', _⟩ := J'.look
    obtain ⟨m', hF⟩ := I.fr
    rw [hop]
    refine PySem.W.cmp_K (op := op) (tb := .ref C) hr.units0 hF I.ok.mod.kin J J'.type (by simp [PySem.W.notFirst]) (by rw [he]; exact m.at_) m.fn ?_
    exact wpAny_mono (run_here F hr rfl hb hx I (show Vals [V.ref a, V.ref b] [Value.ref a, Value.ref b] from .cons rfl (.cons rfl .nil)) hs) (fun _ _ q => no_ni q) fun _ _ z => z
  · exact h.elim
/-- -x by x's own method -/
theorem unOwn (m : Meth X.K C "__neg__" f) (F : FnOk X.prog X.w X.K X.mg X.base CX n f fd ps sp) (hr : Room n X.A) (hb : Binds X.K fd ps []) (hx : Passes CX X E) : UnR X (unaryOp .USub) (uOwn1 C sp E) := by
  intro pins s σ H x v Q I rx h
  unfold uOwn1 at h
  split at h
  · rename_i a
    obtain ⟨dx, fs, ha, hs⟩ := h
    cases rx
    obtain ⟨mA, J, _⟩ := ins_get I.hok ha
    obtain ⟨od, J, _⟩ := J.look
    obtain ⟨m', hF⟩ := I.fr
    refine PySem.W.ksp_neg hF I.ok.mod.kin J m.at_ m.fn ?_
    exact run_here F hr rfl hb hx I (show Vals [V.ref a] [Value.ref a] from .cons rfl .nil) hs
  · exact h.elim
/-- str(x) by x's own method -/
def uStrO (C : Addr) (sp : Sp) (E : XK) : List V → Hp → VK → Prop := fun vs H Q => match vs with
  | [.ref a] => ∃ dx fs, H a = some (.ins C dx fs) ∧ sp [.ref a] H (fun v H' => (∃ y, v = .str y) ∧ Q v H') E
  | _ => False
theorem caStrO (m : Meth X.K C "__str__" f) (F : FnOk X.prog X.w X.K X.mg X.base CX n f fd ps sp) (hr : Room (n + 2) X.A) (hb : Binds X.K fd ps []) (hx : Passes CX X E) : CallR X (.type "str") (uStrO C sp E) := by
  intro pins s σ H xs us Q I r h
  unfold uStrO at h
  split at h
  · rename_i a
    obtain ⟨dx, fs, ha, hs⟩ := h
    obtain ⟨u, rfl, ru⟩ := vals1 r
    cases (show u = Value.ref a from ru)
    obtain ⟨mA, J, _⟩ := ins_get I.hok ha
    obtain ⟨od, J, _⟩ := J.look
    have hr2 : Room n X.A.in1.in1 := Room.in1 (Room.in1 hr)
    refine PySem.W.kso_call hr2.units0 I.kIn J m.at_ m.fn ?_
    refine wpAny_mono (run_here F hr2 rfl hb hx I (show Vals [V.ref a] [Value.ref a] from .cons rfl .nil) hs) (fun v s' q => ?_) fun _ _ z => z
    obtain ⟨x, H', I', rv, ⟨y, rfl⟩, q⟩ := q
    obtain ⟨t, rfl⟩ := (show ∃ t, v = Value.str y t from rv)
    exact ⟨.str y, H', I', ⟨t, rfl⟩, q⟩
  · exact h.elim
end
end U

/-! U7: repr of a bool, fractions. -/
namespace U
open PySem PySem.Spec PyProof.Rows L2
section
variable {X : Cx}
def bstr (k : Bool) : Str := if k then "True" else "False"
theorem bstr_inj {a b : Bool} (h : bstr a = bstr b) : a = b := by revert h; cases a <;> cases b <;> decide
def uReprB (K : PySem.W.Frag) (vs : List V) (H : Hp) (Q : VK) : Prop := match vs with
  | [.bl k] => Q (.str (bstr k)) H
  | _ => uRepr K vs H Q
theorem caReprB (hg : X.A.guards = some []) (hu : X.A.units + 70 < cLine) : CallR X (.builtin "repr") (uReprB X.K) := fun p s z H xs us Q I r h => by
  unfold uReprB at h
  split at h
  · rename_i k
    obtain ⟨u, rfl, ru⟩ := L2.vals1 r
    cases (show u = Value.bool k from ru)
    refine PySem.P.repr_of_bool ?_
    exact ⟨.str (bstr k), H, I.tok _, ⟨_, rfl⟩, h⟩
  · exact caRepr hg hu p s z H _ us Q I r h
end
/-! ### fractions -/
/-- equal fractions compare alike -/
theorem fr_lt {p q N D p' q' N' D' : Int} (h : p * D = N * q) (h' : p' * D' = N' * q') (hq : 0 < q) (hD : 0 < D) (hq' : 0 < q') (hD' : 0 < D') : p * q' < p' * q ↔ N * D' < N' * D := by
  have key : (p' * q - p * q') * (D * D') = (N' * D - N * D') * (q * q') := by grind
  have e1 : 0 < D * D' := Int.mul_pos hD hD'
  have e2 : 0 < q * q' := Int.mul_pos hq hq'
  constructor
  · intro z
    have : 0 < (p' * q - p * q') * (D * D') := Int.mul_pos (by omega) e1
    rw [key] at this
    have := Int.pos_of_mul_pos_left this e2
    omega
  · intro z
    have : 0 < (N' * D - N * D') * (q * q') := Int.mul_pos (by omega) e2
    rw [← key] at this
    have := Int.pos_of_mul_pos_left this e1
    omega
def gcdI (a b : Int) : Int := ((Nat.gcd a.natAbs b.natAbs : Nat) : Int)
theorem gcdI_pos {a b : Int} (h : 0 < b) : 0 < gcdI a b := by
  have : 0 < Nat.gcd a.natAbs b.natAbs := Nat.gcd_pos_of_pos_right _ (by omega)
  exact Int.natCast_pos.mpr this
theorem gcdI_dl (a b : Int) : gcdI a b ∣ a := by
  have := Nat.gcd_dvd_left a.natAbs b.natAbs
  exact Int.dvd_natAbs.mp (Int.natCast_dvd_natCast.mpr this)
theorem gcdI_dr (a b : Int) : gcdI a b ∣ b := by
  have := Nat.gcd_dvd_right a.natAbs b.natAbs
  exact Int.dvd_natAbs.mp (Int.natCast_dvd_natCast.mpr this)
theorem gcdI_le {a b : Int} (h : 0 < b) : gcdI a b ≤ b := Int.le_of_dvd h (gcdI_dr a b)
/-- a fraction in lowest terms -/
structure Low (p q : Int) : Prop where
  pos : 0 < q
  one : Nat.gcd p.natAbs q.natAbs = 1
theorem ediv_of {a g x : Int} (h : 0 < g) (e : a = g * x) : a / g = x := by rw [e]; exact Int.mul_ediv_cancel_left x (by omega)
/-- what is left of a fraction by its greatest common divisor -/
theorem low_of {a b : Int} (h : 0 < b) : Low (a / gcdI a b) (b / gcdI a b) ∧ (a / gcdI a b) * b = a * (b / gcdI a b) ∧ (a / gcdI a b).natAbs ≤ a.natAbs ∧ b / gcdI a b ≤ b := by
  have g := gcdI_pos (a := a) h
  obtain ⟨x, hx⟩ := gcdI_dl a b
  obtain ⟨y, hy⟩ := gcdI_dr a b
  have ex : a / gcdI a b = x := ediv_of g hx
  have ey : b / gcdI a b = y := ediv_of g hy
  have ge : gcdI a b = ((Nat.gcd a.natAbs b.natAbs : Nat) : Int) := rfl
  rw [ex, ey]
  generalize hG : gcdI a b = G at *
  have y0 : 0 < y := by
    rw [hy] at h
    exact Int.pos_of_mul_pos_right h g
  have n1 : a.natAbs = G.natAbs * x.natAbs := by rw [hx, Int.natAbs_mul]
  have n2 : b.natAbs = G.natAbs * y.natAbs := by rw [hy, Int.natAbs_mul]
  refine ⟨⟨y0, ?_⟩, by rw [hx, hy]; grind, ?_, ?_⟩
  · have e : G.natAbs = Nat.gcd a.natAbs b.natAbs := by omega
    rw [n1, n2, Nat.gcd_mul_left] at e
    have hp : 0 < G.natAbs := by omega
    have := Nat.eq_of_mul_eq_mul_left hp (show G.natAbs * Nat.gcd x.natAbs y.natAbs = G.natAbs * 1 by omega)
    exact this
  · rw [n1]
    exact Nat.le_mul_of_pos_left _ (by omega)
  · have : y * 1 ≤ y * G := Int.mul_le_mul_of_nonneg_left (by omega) (by omega)
    rw [hy]
    have e2 : G * y = y * G := Int.mul_comm _ _
    omega
/-- two fractions in lowest terms are equal exactly if top and bottom are -/
theorem Low.inj {p q p' q' : Int} (h : Low p q) (h' : Low p' q') (e : p * q' = p' * q) : p = p' ∧ q = q' := by
  have hq := h.pos
  have hq' := h'.pos
  have n : p.natAbs * q'.natAbs = p'.natAbs * q.natAbs := by rw [← Int.natAbs_mul, ← Int.natAbs_mul, e]
  have d1 : q.natAbs ∣ q'.natAbs := by
    refine Nat.Coprime.dvd_of_dvd_mul_left (Nat.coprime_comm.mp h.one) ?_
    exact ⟨p'.natAbs, by rw [n]; exact Nat.mul_comm _ _⟩
  have d2 : q'.natAbs ∣ q.natAbs := by
    refine Nat.Coprime.dvd_of_dvd_mul_left (Nat.coprime_comm.mp h'.one) ?_
    exact ⟨p.natAbs, by rw [← n]; exact Nat.mul_comm _ _⟩
  have e3 := Nat.dvd_antisymm d1 d2
  have e4 : q = q' := by omega
  subst e4
  exact ⟨Int.eq_of_mul_eq_mul_right (by omega) e, rfl⟩
/-- a fraction in lowest terms stays as it is -/
theorem Low.same {p q : Int} (h : Low p q) : p / gcdI p q = p ∧ q / gcdI p q = q := by
  have : gcdI p q = 1 := by unfold gcdI; rw [h.one]; rfl
  rw [this]
  exact ⟨Int.ediv_one p, Int.ediv_one q⟩
/-- less, of fractions with positive bottoms, goes on -/
theorem fr_trans {p q p' q' p'' q'' : Int} (h : 0 < q) (h' : 0 < q') (h'' : 0 < q'') (a : p * q' < p' * q) (b : p' * q'' < p'' * q') : p * q'' < p'' * q := by
  have e1 : 0 < (p' * q - p * q') * q'' := Int.mul_pos (by omega) h''
  have e2 : 0 < (p'' * q' - p' * q'') * q := Int.mul_pos (by omega) h
  have e3 : (p'' * q - p * q'') * q' = (p' * q - p * q') * q'' + (p'' * q' - p' * q'') * q := by grind
  have : 0 < (p'' * q - p * q'') * q' := by omega
  have := Int.pos_of_mul_pos_left this h'
  omega
end U

/-! U8: ratios as they stand in the heap. -/
namespace U
open PySem PySem.Spec PyProof.Rows L2
def rf (p q : Int) : List (Str × V) := [("_top", .int p), ("_bottom", .int q)]
theorem tb_ : ¬ (("_top" : Str) = "_bottom") := by decide +kernel
theorem bt_ : ¬ (("_bottom" : Str) = "_top") := by decide +kernel
theorem rf_mk (p q : Int) : putF "_bottom" (.int q) (putF "_top" (.int p) []) = rf p q := by
  show (if ("_top" : Str) = "_bottom" then [(("_top" : Str), V.int q)] else (("_top" : Str), V.int p) :: putF "_bottom" (V.int q) []) = _
  rw [if_neg tb_]
  rfl
theorem rf_top (p q t : Int) : putF "_top" (.int t) (rf p q) = rf t q := by
  show (if ("_top" : Str) = "_top" then (("_top" : Str), V.int t) :: [(("_bottom" : Str), V.int q)] else _) = _
  rw [if_pos rfl]
  rfl
theorem rf_bot (p q t : Int) : putF "_bottom" (.int t) (rf p q) = rf p t := by
  show (if ("_top" : Str) = "_bottom" then _ else (("_top" : Str), V.int p) :: (if ("_bottom" : Str) = "_bottom" then [(("_bottom" : Str), V.int t)] else _)) = _
  rw [if_neg tb_, if_pos rfl]
  rfl
theorem rf_lt (p q : Int) : (rf p q).lookup ("_top" : Str) = some (.int p) := by
  unfold rf
  rw [List.lookup_cons_self]
theorem rf_lb (p q : Int) : (rf p q).lookup ("_bottom" : Str) = some (.int q) := by
  unfold rf
  rw [List.lookup_cons, show (("_bottom" : Str) == "_top") = false by decide +kernel]
  simp only [List.lookup_cons_self]
theorem rf_no (p q : Int) {m : Str} (h1 : (m == "_top") = false) (h2 : (m == "_bottom") = false) : (rf p q).lookup m = none := by
  unfold rf
  rw [List.lookup_cons, h1]
  simp only
  rw [List.lookup_cons, h2]
  rfl
theorem own_self {K : PySem.W.Frag} {C : Addr} : PySem.W.kitOne K (.ref C) (.ref C) = some true := by unfold PySem.W.kitOne; rw [if_pos (beq_self_eq_true _)]
/-- v is a ratio with this top and bottom -/
def IsR (C : Addr) (H : Hp) (v : V) (p q : Int) : Prop := ∃ a dx, v = .ref a ∧ H a = some (.ins C dx (rf p q))
theorem IsR.up {C : Addr} {H H' : Hp} {v : V} {p q : Int} (r : IsR C H v p q) (g : Gr H H') : IsR C H' v p q := let ⟨a, dx, e, h⟩ := r; ⟨a, dx, e, g _ _ h⟩
theorem mul_lt {a b : Int} (m n : Nat) (ha : a.natAbs < 2 ^ m) (hb : b.natAbs < 2 ^ n) : (a * b).natAbs < 2 ^ (m + n) := by
  rw [Int.natAbs_mul, Nat.pow_add]
  exact Nat.mul_lt_mul'' ha hb
theorem pos_abs {q : Int} (h : 0 < q) : ((q.natAbs : Nat) : Int) = q := by omega
/-- v is a new tuple of two integers -/
def TupAt (H : Hp) (v : V) (p q : Int) : Prop := ∃ x, v = .ref x ∧ H x = some (.tup [.int p, .int q])
theorem TupAt.up {H H' : Hp} {v : V} {p q : Int} (r : TupAt H v p q) (g : Gr H H') : TupAt H' v p q := let ⟨a, e, h⟩ := r; ⟨a, e, g _ _ h⟩
theorem TupAt.keep {H H' : Hp} {v : V} {p q : Int} {d : Addr} {l : List V} (r : TupAt H v p q) (s : ∀ b u, H b = some u → b ≠ d → H' b = some u) (hd : H d = some (.lst l)) : TupAt H' v p q := let ⟨a, e, h⟩ := r; ⟨a, e, s _ _ h (fun z => by rw [z, hd] at h; cases h)⟩
theorem IsR.keep {C : Addr} {H H' : Hp} {v : V} {p q : Int} {d : Addr} {l : List V} (r : IsR C H v p q) (s : ∀ b u, H b = some u → b ≠ d → H' b = some u) (hd : H d = some (.lst l)) : IsR C H' v p q := let ⟨a, dx, e, h⟩ := r; ⟨a, dx, e, s _ _ h (fun z => by rw [z, hd] at h; cases h)⟩
def pd (p q : Int) : PyData := .tuple [.int p, .int q]
def pds (l : List (Int × Int)) : List PyData := l.map fun z => pd z.1 z.2
theorem shaped_pd (p q : Int) : SeqAt.shaped (pd p q) = true := rfl
theorem lay_pds : ∀ l, PyData.canLayAll0 (pds l) = true
  | [] => rfl
  | (p, q) :: r => by
    show (PyData.canLay0 (pd p q) && PyData.canLayAll0 (pds r)) = true
    rw [lay_pds r]
    rfl
theorem depth_pds : ∀ l, PyData.depthAll (pds l) ≤ 1
  | [] => by decide
  | (p, q) :: r => by
    show max (PyData.depth (pd p q)) (PyData.depthAll (pds r)) ≤ 1
    have := depth_pds r
    have e : PyData.depth (pd p q) = 1 := rfl
    omega
theorem shaped_pds (l : List (Int × Int)) : SeqAt.shaped (.list (pds l)) = true := by
  show (PyData.canLayAll0 (pds l) && decide (PyData.depthAll (pds l) + 1 ≤ 64)) = true
  rw [lay_pds, decide_eq_true (by have := depth_pds l; omega)]
  rfl
theorem eqv_pd (p q r s : Int) : PyData.eqv (pd p q) (pd r s) = decide (p = r ∧ q = s) := by
  show (p == r && (q == s && true)) = _
  rw [Bool.and_true, Bool.eq_iff_iff]
  simp
theorem in_pds {p q : Int} {l : List (Int × Int)} (h : (p, q) ∈ l) : ((pds l).any fun z => PyData.eqv z (pd p q)) = true := by
  rw [List.any_eq_true]
  exact ⟨pd p q, List.mem_map.mpr ⟨(p, q), h, rfl⟩, by rw [eqv_pd]; simp⟩
theorem TupAt.dp {K : PySem.W.Frag} {H : Hp} {v : V} {p q : Int} (h : TupAt H v p q) : Dp K H v (pd p q) := by
  obtain ⟨x, rfl, e⟩ := h
  exact .tup (SqT.of e) (.cons (.int _) (.cons (.int _) .nil))
theorem dp_pairs {K : PySem.W.Frag} {H : Hp} : ∀ {xs : List V}, (∀ v ∈ xs, ∃ p q, TupAt H v p q) → ∃ l : List (Int × Int), DpAll K H xs (pds l) ∧ ∀ v ∈ xs, ∀ p q, TupAt H v p q → (p, q) ∈ l
  | [], _ => ⟨[], .nil, fun _ h => absurd h List.not_mem_nil⟩
  | v :: r, h => by
    obtain ⟨l, hl, hm⟩ := dp_pairs (K := K) (xs := r) fun w hw => h w (List.mem_cons_of_mem _ hw)
    obtain ⟨p, q, t⟩ := h v (List.mem_cons_self ..)
    refine ⟨(p, q) :: l, .cons t.dp hl, fun w hw p' q' t' => ?_⟩
    rcases List.mem_cons.mp hw with rfl | hw
    · obtain ⟨x, rfl, e⟩ := t
      obtain ⟨y, z, e'⟩ := t'
      cases z
      rw [e] at e'
      cases e'
      exact List.mem_cons_self ..
    · exact List.mem_cons_of_mem _ (hm w hw p' q' t')
theorem hu65 {k : Nat} {A : Around} (h : Room k A) : A.units + 65 < cLine := by have := h.un; omega
end U

/-! U9: own == and != with any second operand, an own truth value. -/
namespace NeW
open PySem PySem.Spec PySem.Calls PyProof.Rows PySem.W Builtin
section
variable {prog : Program} {w : World} {A : Around} {E : Value → Shared → Prop} {s : Shared} {K : Frag} {x C f L : Addr} {h₀ : Heap} {m : Str → Option Value} {ox : Obj} {od : Option Obj} {b tb : Value}
theorem ifBound_B {M : Model} {args : List Value} {name : Str} {id : String} {Q : Option Value → Shared → Prop} (X : K.In s.heap) (I : InstAt s.heap x ox C od) (hs : findIn K (.ref C) name = some (some (.builtin id)))
    (hb : ∀ self, bindSpecial (.builtin id) self = pure (.builtin id, [self])) (h : wpAny M A (call (.builtin id) (.ref x :: args)) (fun v => Q (some v)) E s) : wpAny M A (callSpecialIfBound? (.ref x) name args) Q E s := by
  simp only [callSpecialIfBound?, bindSpecialIfBound?]
  refine wpAny_holding (wpAny_bind (wpAny_bind (wpAny_bind (I.type.here ((looks_findIn X hs).here ?_)))))
  refine wpAny_bind (wpAny_askSetting (wpAny_ite ?_))
  have fin : wpAny M A (call (.builtin id) ([.ref x] ++ args) >>= fun v => pure (some v)) Q E s := wpAny_bind (wpAny_mono h (fun v s' h' => wpAny_pure h') fun _ _ h' => h')
  split
  · exact wpAny_bind ((Looks.of_pure (hb _)).here (wpAny_pure (by exact fin)))
  · exact wpAny_tryCatch (wpAny_bind ((Looks.of_pure (hb _)).here (wpAny_pure (by exact fin))))
theorem one_ne {Q : Value → Shared → Prop} (hu : A.in1.units < cLine) (X : K.In s.heap) (I : InstAt s.heap x ox C od) (hn : findIn K (.ref C) "__ne__" = some (some (.builtin "object.__ne__"))) (hm : mroIn K C (.type "object") = some true)
    (hs : findIn K (.ref C) "__eq__" = some (some (.ref f))) (hf : isFn K (.ref f) = true)
    (h : wpAny (model prog w) A.in1 (call (.ref f) [.ref x, b]) (fun v s' => ∃ k, v = .bool k ∧ Q (.bool (!k)) s') E s) : wpAny (model prog w) A (tryCompare (.ref x) "__ne__" b) (fun r s' => ∃ v, r = some v ∧ Q v s') E s := by
  unfold tryCompare
  refine wpAny_bind (ifBound_B X I hn PySem.F.slot_object_ne.bind ?_)
  refine wpAny_call (codeAny_call_builtin PySem.F.slot_object_ne.plain PySem.F.cmpEntry_ne (PySem.W.check_slot (i := "object.__ne__") (owner := "object") (n := "__ne__") PySem.F.cmpKind_ne PySem.F.cmpSplit_ne (I.type.andThen (looks_mroIn X hm)) (PySem.F.cmpArgs_ne _ _) ?_))
  unfold Builtin.«object.__ne__»
  refine wpAny_bind (m := slotArgs "__ne__" 1 _) (wpAny_pure ?_)
  refine wpAny_bind (m := cRoomFor _ _) (wpAny_cRoomFor hu ?_)
  refine wpAny_bind (m := callSpecialIfBound? (.ref x) (Str.ofString "__eq__") _) (ifBound_K X I hs hf (wpAny_mono h (fun r s' hr => ?_) fun _ _ y => y))
  obtain ⟨k, rfl, q⟩ := hr
  refine wpAny_bind (m := truthy (.bool k)) (wpAny_truthy_bool ?_)
  first
    | exact wpAny_pure ⟨_, rfl, q⟩
    | exact wpAny_pure (wpAny_pure ⟨_, rfl, q⟩)
theorem ne_K {Q : Value → Shared → Prop} (hu : A.in1.units < cLine) (hu0 : A.units < cLine) (X : K.In s.heap) (I : InstAt s.heap x ox C od) (hb : Looks (model prog w) s.heap (typeOf b) tb) (hnf : notFirst K C tb = true) (hn : findIn K (.ref C) "__ne__" = some (some (.builtin "object.__ne__"))) (hm : mroIn K C (.type "object") = some true)
    (hs : findIn K (.ref C) "__eq__" = some (some (.ref f))) (hf : isFn K (.ref f) = true)
    (h : wpAny (model prog w) A.in1 (call (.ref f) [.ref x, b]) (fun v s' => ∃ k, v = .bool k ∧ Q (.bool (!k)) s') E s) : wpAny (model prog w) A (richCompare .NotEq (.ref x) b) Q E s := by
  have one := one_ne hu X I hn hm hs hf h
  unfold richCompare
  simp only [oneThing_ref]
  refine wpAny_holding (wpAny_bind (wpAny_cRoomFor hu0 ?_))
  rw [PySem.cmpInfo_NotEq]
  dsimp only
  refine wpAny_bind (I.type.here (wpAny_bind (hb.here ?_)))
  split
  · rename_i q
    have e : subIn K tb (.ref C) = some false := by
      rcases Bool.or_eq_true_iff.mp hnf with e | e
      · rw [beq_iff_eq.mp e] at q; simp at q
      · exact beq_iff_eq.mp e
    refine wpAny_bind ((looks_subIn X e).here ?_)
    simp only [Bool.false_eq_true, if_false]
    refine wpAny_bind (wpAny_mono one (fun r s' z => ?_) fun _ _ e => e)
    obtain ⟨v, rfl, hq⟩ := z
    exact wpAny_pure hq
  · refine wpAny_bind (wpAny_pure ?_)
    simp only [Bool.false_eq_true, if_false]
    refine wpAny_bind (wpAny_mono one (fun r s' z => ?_) fun _ _ e => e)
    obtain ⟨v, rfl, hq⟩ := z
    exact wpAny_pure hq
end
end NeW
namespace U
open PySem PySem.Spec PyProof.Rows L2
/-- what is asked of a class without an own != -/
def NoNe (K : PySem.W.Frag) (C : Addr) : Prop := PySem.W.findIn K (.ref C) "__ne__" = some (some (.builtin "object.__ne__"))
/-- the second operand of an own comparison: an instance of the class, or a value of a built-in kind -/
def Snd (K : PySem.W.Frag) (C : Addr) (H : Hp) (y : V) : Prop := (∃ b dx fs, y = .ref b ∧ H b = some (.ins C dx fs)) ∨ ∃ S, Kd K H y S
/-- an instance of C and any second operand handed to an own method -/
def uOwnX (K : PySem.W.Frag) (C : Addr) (sp : Sp) (E : XK) : R2 := fun x y H Q => match x with
  | .ref a => ∃ dx fs, H a = some (.ins C dx fs) ∧ Snd K C H y ∧ sp [.ref a, y] H Q E
  | _ => False
section
variable {X : Cx} {CX : CXT} {n : Nat} {C f : Addr} {fd : FuncData} {ps : List Str} {sp : Sp} {E : XK} {nm : Str}
theorem not_first {K : PySem.W.Frag} {T : String} (h : T ∈ kinds) : PySem.W.notFirst K C (.type T) = true := by
  unfold PySem.W.notFirst
  have : PySem.W.subIn K (.type T) (.ref C) = some false := mro_no C h
  rw [this]
  simp
theorem snd_ty {pins : List (Addr × Obj)} {σ : L2.St} {H : Hp} {s : Shared} {y : V} {u : Value} (I : Inv X pins σ H s) (ry : L2.RelV y u) (h : Snd X.K C H y) : ∃ tb, PySem.W.Looks (model X.prog X.w) s.heap (typeOf u) tb ∧ PySem.W.notFirst X.K C tb = true := by
  rcases h with ⟨b, dx, fs, rfl, hb⟩ | ⟨S, hk⟩
  · cases ry
    obtain ⟨mB, J', _⟩ := ins_get I.hok hb
    obtain ⟨od', J', _⟩ := J'.look
    exact ⟨_, J'.type, by simp [PySem.W.notFirst]⟩
  · obtain ⟨P, Z, hp, _⟩ := kit_of I ry hk.1
    exact ⟨_, Z.ty _ _ I.kIn hp, not_first hk.2⟩
theorem opCmpX {op : CmpOp} (he : (PySem.cmpInfo op).2.1 = nm) (hop : compareOp op = richCompare op) (m : Meth X.K C nm f) (F : FnOk X.prog X.w X.K X.mg X.base CX n f fd ps sp) (hr : Room n X.A) (hb : Binds X.K fd ps []) (hx : Passes CX X E) : OpR X (compareOp op) (uOwnX X.K C sp E) := by
  intro pins s σ H x y v u Q I rx ry h
  unfold uOwnX at h
  split at h
  · rename_i a
    obtain ⟨dx, fs, ha, hy, hs⟩ := h
    cases rx
    obtain ⟨mA, J, _⟩ := ins_get I.hok ha
    obtain ⟨od, J, _⟩ := J.look
    obtain ⟨m', hF⟩ := I.fr
    obtain ⟨tb, lt, hnf⟩ := snd_ty I ry hy
    rw [hop]
    refine PySem.W.cmp_K (op := op) (tb := tb) hr.units0 hF I.ok.mod.kin J lt hnf (by rw [he]; exact m.at_) m.fn ?_
    exact wpAny_mono (run_here F hr rfl hb hx I (show Vals [V.ref a, y] [Value.ref a, u] from .cons rfl (.cons ry .nil)) hs) (fun _ _ q => no_ni q) fun _ _ z => z
  · exact h.elim
/-- x != y by x's own == -/
def uOwnN (K : PySem.W.Frag) (C : Addr) (sp : Sp) (E : XK) : R2 := fun x y H Q => match x with
  | .ref a => ∃ dx fs, H a = some (.ins C dx fs) ∧ Snd K C H y ∧ sp [.ref a, y] H (fun v H' => ∃ k, v = .bl k ∧ Q (.bl (!k)) H') E
  | _ => False
theorem opNeX (o : OwnC X.K C) (ne : NoNe X.K C) (m : Meth X.K C "__eq__" f) (F : FnOk X.prog X.w X.K X.mg X.base CX n f fd ps sp) (hr : Room (n + 1) X.A) (hb : Binds X.K fd ps []) (hx : Passes CX X E) : OpR X (compareOp .NotEq) (uOwnN X.K C sp E) := by
  intro pins s σ H x y v u Q I rx ry h
  unfold uOwnN at h
  split at h
  · rename_i a
    obtain ⟨dx, fs, ha, hy, hs⟩ := h
    cases rx
    obtain ⟨mA, J, _⟩ := ins_get I.hok ha
    obtain ⟨od, J, _⟩ := J.look
    obtain ⟨tb, lt, hnf⟩ := snd_ty I ry hy
    show wpAny (model X.prog X.w) X.A (richCompare .NotEq (.ref a) u) (EP X pins σ Q) X.xe s
    refine NeW.ne_K hr.in1.units0 hr.units0 I.kIn J lt hnf ne o.hm m.at_ m.fn ?_
    refine wpAny_mono (run_here F hr.in1 rfl hb hx I (show Vals [V.ref a, y] [Value.ref a, u] from .cons rfl (.cons ry .nil)) hs) (fun r s' q => ?_) fun _ _ z => z
    obtain ⟨z, H', I', rz, k, rfl, q⟩ := q
    cases rz
    exact ⟨k, rfl, .bl (!k), H', I', rfl, q⟩
  · exact h.elim
/-- a truth value by an own method -/
def uTruO (C : Addr) (sp : Sp) (E : XK) (ta : TE) : TT := fun σ H Q => ta σ H fun x H1 => ∃ a dx fs, x = .ref a ∧ H1 a = some (.ins C dx fs) ∧ sp [.ref a] H1 (fun v H2 => ∃ k, v = .bl k ∧ Q k H2) E
theorem ptO {a : Expr} {ta : TE} (m : Meth X.K C "__bool__" f) (F : FnOk X.prog X.w X.K X.mg X.base CX n f fd ps sp) (hr : Room n X.A) (hb : Binds X.K fd ps []) (hx : Passes CX X E) (ha : PE X a ta)
    (he : ∀ whole, isTrue a X.env whole = (do let v ← whole; standAt a.pos; holding [v] (truthy v)) := by intro _; rfl) : PT X a (uTruO C sp E ta) := by
  refine ⟨fun p s z H Q I h => isTrue_plain (thn (ha.run p s z H _ I h) fun v s1 ⟨x, H1, I1, r1, q⟩ => ?_) (he _)⟩
  obtain ⟨b, dx, fs, rfl, hb', hs⟩ := q
  cases r1
  obtain ⟨mA, J, _⟩ := ins_get I1.hok hb'
  obtain ⟨od, J, _⟩ := J.look
  obtain ⟨m', hF⟩ := I1.fr
  refine PySem.W.truthy_K hF I1.ok.mod.kin J m.at_ m.fn ?_
  refine wpAny_mono (run_here F hr rfl hb hx I1 (show Vals [V.ref b] [Value.ref b] from .cons rfl .nil) hs) (fun r s' q => ?_) fun _ _ z => z
  obtain ⟨y, H', I', ry, k, rfl, q⟩ := q
  cases ry
  exact ⟨H', I', q⟩
end
end U

/-! U10: fractions by value, texts of pairs. -/
namespace U
open PySem PySem.Spec PyProof.Rows L2
def uBool (vs : List V) (H : Hp) (Q : VK) : Prop := match vs with | [.int i] => Q (.bl (decide (i ≠ 0))) H | [.bl k] => Q (.bl k) H | _ => False
theorem caBool {X : Cx} : CallR X (.type "bool") uBool := fun p s z H xs us Q I r h => by
  unfold uBool at h
  split at h
  · rename_i i
    refine call_bool1 p s z H _ us Q I r (.inl ⟨i, rfl, ?_⟩)
    have e : decide (i ≠ 0) = (i != 0) := by by_cases h0 : i = 0 <;> simp [h0]
    rw [← e]
    exact h
  · exact call_bool1 p s z H _ us Q I r (.inr ⟨_, rfl, h⟩)
  · exact h.elim
/-- p / q is N / D in lowest terms -/
structure Val (p q N D : Int) : Prop where
  low : Low p q
  dp : 0 < D
  eq : p * D = N * q
theorem Val.of {N D : Int} (h : 0 < D) : Val (N / gcdI N D) (D / gcdI N D) N D := ⟨(low_of h).1, h, (low_of h).2.1⟩
theorem Val.self {p q : Int} (h : Low p q) : Val p q p q := ⟨h, h.pos, rfl⟩
/-- another fraction of the same value -/
theorem Val.to {p q N D N' D' : Int} (v : Val p q N D) (h : 0 < D') (e : N * D' = N' * D) : Val p q N' D' := ⟨v.low, h, by
  have hD := v.dp
  have e1 := v.eq
  refine Int.eq_of_mul_eq_mul_right (show D ≠ 0 by omega) ?_
  grind⟩
theorem Val.inj {p q p' q' N D N' D' : Int} (v : Val p q N D) (v' : Val p' q' N' D') (e : N * D' = N' * D) : p = p' ∧ q = q' := by
  refine v.low.inj v'.low ?_
  have v2 := v.to v'.dp e
  have h := v'.dp
  have e1 := v2.eq
  have e2 := v'.eq
  refine Int.eq_of_mul_eq_mul_right (show D' ≠ 0 by omega) ?_
  grind
section
variable {p q p' q' N D N' D' : Int}
theorem Val.add (v : Val p q N D) (v' : Val p' q' N' D') : Val ((p * q' + p' * q) / gcdI (p * q' + p' * q) (q * q')) (q * q' / gcdI (p * q' + p' * q) (q * q')) (N * D' + N' * D) (D * D') :=
  (Val.of (Int.mul_pos v.low.pos v'.low.pos)).to (Int.mul_pos v.dp v'.dp) (by have := v.eq; have := v'.eq; grind)
theorem Val.sub (v : Val p q N D) (v' : Val p' q' N' D') : Val ((p * q' - p' * q) / gcdI (p * q' - p' * q) (q * q')) (q * q' / gcdI (p * q' - p' * q) (q * q')) (N * D' - N' * D) (D * D') :=
  (Val.of (Int.mul_pos v.low.pos v'.low.pos)).to (Int.mul_pos v.dp v'.dp) (by have := v.eq; have := v'.eq; grind)
theorem Val.mul (v : Val p q N D) (v' : Val p' q' N' D') : Val ((p * p') / gcdI (p * p') (q * q')) (q * q' / gcdI (p * p') (q * q')) (N * N') (D * D') :=
  (Val.of (Int.mul_pos v.low.pos v'.low.pos)).to (Int.mul_pos v.dp v'.dp) (by have := v.eq; have := v'.eq; grind)
theorem Val.neg (v : Val p q N D) : Val (-p / gcdI (-p) q) (q / gcdI (-p) q) (-N) D :=
  (Val.of v.low.pos).to v.dp (by have := v.eq; grind)
end
/-- both numbers have at most k bits -/
def Sm (k : Nat) (p q : Int) : Prop := p.natAbs < 2 ^ k ∧ q.natAbs < 2 ^ k
theorem pow_le {a b : Nat} (h : a ≤ b) : 2 ^ a ≤ 2 ^ b := Nat.pow_le_pow_right (by decide) h
theorem Sm.up {k m : Nat} {p q : Int} (s : Sm k p q) (h : k ≤ m) : Sm m p q := ⟨Nat.lt_of_lt_of_le s.1 (pow_le h), Nat.lt_of_lt_of_le s.2 (pow_le h)⟩
theorem Sm.low {k : Nat} {N D : Int} (h : 0 < D) (s : Sm k N D) : Sm k (N / gcdI N D) (D / gcdI N D) := by
  obtain ⟨lo, _, e1, e2⟩ := low_of (a := N) h
  have := lo.pos
  exact ⟨Nat.lt_of_le_of_lt e1 s.1, Nat.lt_of_le_of_lt (by omega) s.2⟩
section
variable {p q p' q' : Int} {k m : Nat}
theorem Sm.addN (s : Sm k p q) (s' : Sm m p' q') : Sm (k + m + 1) (p * q' + p' * q) (q * q') := by
  have h1 := mul_lt k m s.1 s'.2
  have h2 := mul_lt m k s'.1 s.2
  have h3 := mul_lt k m s.2 s'.2
  rw [Nat.add_comm m k] at h2
  have e : 2 ^ (k + m + 1) = 2 ^ (k + m) * 2 := Nat.pow_succ ..
  refine ⟨?_, ?_⟩ <;> rw [e] <;> omega
theorem Sm.subN (s : Sm k p q) (s' : Sm m p' q') : Sm (k + m + 1) (p * q' - p' * q) (q * q') := by
  have h1 := mul_lt k m s.1 s'.2
  have h2 := mul_lt m k s'.1 s.2
  have h3 := mul_lt k m s.2 s'.2
  rw [Nat.add_comm m k] at h2
  have e : 2 ^ (k + m + 1) = 2 ^ (k + m) * 2 := Nat.pow_succ ..
  refine ⟨?_, ?_⟩ <;> rw [e] <;> omega
theorem Sm.mulN (s : Sm k p q) (s' : Sm m p' q') : Sm (k + m + 1) (p * p') (q * q') := by
  have h1 := mul_lt k m s.1 s'.1
  have h3 := mul_lt k m s.2 s'.2
  have e : 2 ^ (k + m + 1) = 2 ^ (k + m) * 2 := Nat.pow_succ ..
  refine ⟨?_, ?_⟩ <;> rw [e] <;> omega
end
/-- a ratio of the value N / D, of at most k bits -/
def RV (C : Addr) (H : Hp) (v : V) (N D : Int) (k : Nat) : Prop := ∃ p q, IsR C H v p q ∧ Val p q N D ∧ Sm k p q
theorem RV.up {C : Addr} {H H' : Hp} {v : V} {N D : Int} {k : Nat} (r : RV C H v N D k) (g : Gr H H') : RV C H' v N D k := let ⟨p, q, i, z⟩ := r; ⟨p, q, i.up g, z⟩
/-! ### the text of pairs -/
theorem num_short' {n : Int} {k : Nat} (hk : 0 < k) (h : n.natAbs < 10 ^ k) : (Str.ofString (toString n)).length ≤ k + 1 := by
  have el : (Str.ofString (toString n)).length = (Str.ofString (toString n)).cps.toList.length := by simp [Str.length]
  rw [el, num_list, List.length_append, List.length_map]
  have := (Nat.length_toDigits_le_iff (b := 10) (n := n.natAbs) (k := k) (by decide) hk).mpr h
  have h2 : (if n < 0 then [45] else ([] : List Nat)).length ≤ 1 := by by_cases q : n < 0 <;> simp [q]
  omega
def Few (k : Nat) (l : List (Int × Int)) : Prop := ∀ z ∈ l, z.1.natAbs < 10 ^ k ∧ z.2.natAbs < 10 ^ k
theorem pd_len {p q : Int} {k : Nat} (hk : 0 < k) (h1 : p.natAbs < 10 ^ k) (h2 : q.natAbs < 10 ^ k) : (pd p q).shown.length ≤ 2 * k + 9 := by
  have a := num_short' hk h1
  have b := num_short' hk h2
  have c := tupleText_len_le [Str.ofString (toString p), Str.ofString (toString q)]
  show (tupleText [Str.ofString (toString p), Str.ofString (toString q)]).length ≤ _
  simp only [List.map_cons, List.map_nil, List.sum_cons, List.sum_nil, List.length_cons, List.length_nil] at c
  omega
theorem pds_sum {k : Nat} (hk : 0 < k) : ∀ (l : List (Int × Int)), Few k l → ((PyData.shownAll (pds l)).map (·.length)).sum ≤ l.length * (2 * k + 9) ∧ (PyData.shownAll (pds l)).length = l.length
  | [], _ => ⟨by simp [pds, PyData.shownAll], by simp [pds, PyData.shownAll]⟩
  | (p, q) :: r, h => by
    obtain ⟨h1, h2⟩ := pds_sum hk r fun z hz => h z (List.mem_cons_of_mem _ hz)
    have h0 := h (p, q) (List.mem_cons_self ..)
    have e : PyData.shownAll (pds ((p, q) :: r)) = (pd p q).shown :: PyData.shownAll (pds r) := rfl
    rw [e]
    have hpl : (pd p q).shown.length ≤ 2 * k + 9 := pd_len hk h0.1 h0.2
    simp only [List.map_cons, List.sum_cons, List.length_cons]
    refine ⟨?_, by omega⟩
    rw [Nat.succ_mul]
    omega
theorem pds_len {k : Nat} {l : List (Int × Int)} (hk : 0 < k) (h : Few k l) : (PyData.list (pds l)).shown.length ≤ l.length * (2 * k + 11) + 3 := by
  obtain ⟨h1, h2⟩ := pds_sum hk l h
  have c := listText_len_le (PyData.shownAll (pds l))
  show (listText (PyData.shownAll (pds l))).length ≤ _
  rw [h2] at c
  have : l.length * (2 * k + 11) = l.length * (2 * k + 9) + l.length * 2 := by rw [← Nat.mul_add]
  omega
theorem pd_show {p q : Int} (h1 : p.natAbs.log2 < 1920) (h2 : q.natAbs.log2 < 1920) : (pd p q).showable = true := by
  show (decide _ && (decide _ && true)) = true
  rw [decide_eq_true h1, decide_eq_true h2]
  rfl
theorem pds_show : ∀ {l : List (Int × Int)}, (∀ z ∈ l, z.1.natAbs.log2 < 1920 ∧ z.2.natAbs.log2 < 1920) → PyData.showableAll (pds l) = true
  | [], _ => rfl
  | (p, q) :: r, h => by
    have h0 := h (p, q) (List.mem_cons_self ..)
    have h1 := pds_show fun z hz => h z (List.mem_cons_of_mem _ hz)
    show ((pd p q).showable && PyData.showableAll (pds r)) = true
    rw [pd_show h0.1 h0.2, h1]
    rfl
section
variable {H H' : Hp} {F M M' : List (Addr × HO)} {d : Addr} {o : HO} {D : List Addr}
theorem At.keep1 (L : At H [d] F M H') : ∀ b u, H b = some u → b ≠ d → H' b = some u := fun b u e n => L.fr b u e (by simpa using n)
theorem one_dead (h : H d = some o) : ∀ e ∈ [d], ∃ u, H e = some u := fun e he => by
  obtain rfl := List.mem_singleton.mp he
  exact ⟨o, h⟩
theorem At.perm (L : At H D F M H') (p : M.Perm M') : At H D F M' H' := ⟨L.fr, L.fa, fun x hx => L.mu x (p.mem_iff.mpr hx), fun x hx => L.mf x (p.mem_iff.mpr hx), fun x hx => L.df x (p.mem_iff.mpr hx), (p.map _).nodup_iff.mp L.nd⟩
theorem rot3 {α : Type} {x y z : α} : [x, y, z].Perm [z, x, y] := ((List.Perm.swap z y []).cons x).trans (List.Perm.swap z x [y])
end
/-- a sum of fractions, step by step -/
def stepF (z : Int × Int) (y : Int × Int) : Int × Int := (z.1 * y.2 + y.1 * z.2, z.2 * y.2)
def sumF (l : List (Int × Int)) : Int × Int := l.foldl stepF (0, 1)
theorem sumF_take {l : List (Int × Int)} {i : Nat} {y : Int × Int} (h : l[i]? = some y) : sumF (l.take (i + 1)) = stepF (sumF (l.take i)) y := by
  unfold sumF
  rw [List.take_add_one, h, List.foldl_append]
  rfl
theorem idx_of {α β : Type} {P : α → β → Prop} : ∀ {xs : List α} {ls : List β}, PySem.Paired P xs ls → ∀ (i : Nat) (x : α) (z : β), xs[i]? = some x → ls[i]? = some z → P x z
  | _, _, .nil, i, x, z, h, _ => by simp at h
  | _, _, .cons h _, 0, x, z, h1, h2 => by
    obtain rfl := Option.some.inj h1
    obtain rfl := Option.some.inj h2
    exact h
  | _, _, .cons _ r, i + 1, x, z, h1, h2 => idx_of r i x z h1 h2
theorem str_ext {x y : Str} (h : x.cps.toList = y.cps.toList) : x = y := by
  cases x; cases y
  simp only at h
  rw [Array.ext' h]
theorem app_list (x y : Str) : (x ++ y).cps.toList = x.cps.toList ++ y.cps.toList := by rw [PySem.Str.cps_append, Array.toList_append]
theorem app_len (x y : Str) : (x ++ y).length = x.length + y.length := by
  show (x ++ y).cps.size = x.cps.size + y.cps.size
  rw [PySem.Str.cps_append, Array.size_append]
theorem e_app (x : Str) : Str.empty ++ x = x := str_ext (by rw [app_list]; rfl)
theorem abs_num (n : Int) : (Str.ofString (toString ((n.natAbs : Nat) : Int))).cps.toList = (Nat.toDigits 10 n.natAbs).map Char.toNat := by
  rw [num_list, if_neg (by omega)]
  rfl
theorem abs_neg {n : Int} (h : n < 0) : Str.ofString "-" ++ Str.ofString (toString ((n.natAbs : Nat) : Int)) = Str.ofString (toString n) := str_ext (by
  rw [app_list, abs_num, num_list, if_pos h]
  rfl)
theorem abs_pos {n : Int} (h : ¬ n < 0) : Str.ofString "" ++ Str.ofString (toString ((n.natAbs : Nat) : Int)) = Str.ofString (toString n) := str_ext (by
  rw [app_list, abs_num, num_list, if_neg h]
  rfl)
theorem join1 (x : Str) : Txt.join (Str.ofString "") [x] = x := by
  exact str_ext (by unfold Txt.join Builtin.Str.glued; simp)
theorem num_short {n : Int} (h : n.natAbs < 10 ^ 60) : (Str.ofString (toString n)).length ≤ 100 := by
  have el : (Str.ofString (toString n)).length = (Str.ofString (toString n)).cps.toList.length := by simp [Str.length]
  rw [el, num_list, List.length_append, List.length_map]
  have := (Nat.length_toDigits_le_iff (b := 10) (n := n.natAbs) (k := 60) (by decide) (by decide)).mpr h
  have h2 : (if n < 0 then [45] else ([] : List Nat)).length ≤ 1 := by by_cases q : n < 0 <;> simp [q]
  omega
def rtext (p q : Int) : Str := if q = 1 then Str.ofString (toString p) else Str.ofString (toString p) ++ Str.ofString "/" ++ Str.ofString (toString q)
end U
namespace NeW
open PySem PySem.Spec PySem.Calls PyProof.Rows PySem.W Builtin Builtin.Str
section
variable {prog : Program} {w : World} {A : Around} {E : Value → Shared → Prop} {s : Shared} {K : Frag} {x C f : Addr} {ox : Obj} {od : Option Obj}
theorem bool_own {L : Addr} {h₀ : Heap} {m : Str → Option Value} {Q : Value → Shared → Prop} (X : Fr h₀ L s.heap m) (X₀ : K.In h₀) (I : InstAt s.heap x ox C od) (hs : findIn K (.ref C) "__bool__" = some (some (.ref f))) (hf : isFn K (.ref f) = true)
    (h : wpAny (model prog w) A.in1.in1 (call (.ref f) [.ref x]) (PySem.W.BoolBack fun b s' => Q (.bool b) s') E s) : wpAny (model prog w) A (call (.type "bool") [.ref x]) Q E s := by
  refine callType_codes (T := "bool") (Bi := Builtin.«object.__init__») (Q₁ := fun r s₁ => ∃ b, r = .bool b ∧ Q r s₁) PySem.F.called_bool (PySem.F.typeCall_bool_1 _) PySem.F.entry_object_init ?_ ?_
  · refine codeAny_of_tree ?_
    show wpAny _ A.in1.in1 (do checkBuiltinCall "bool.__new__" ⟨[.type "bool", .ref x], []⟩; again (.builtin "bool.__new__" ⟨[.type "bool", .ref x], []⟩)) _ _ s
    refine wpAny_bind (wpAny_of_eq (PySem.F.newCall_bool_1 _) (wpAny_pure ⟨plainId_quiet (by decide +kernel) _, codeAny_builtin PySem.F.entry_bool_new ?_⟩))
    rw [Around.under_plainId (by decide +kernel) _]
    unfold Builtin.«bool.__new__»
    refine wpAny_bind (wpAny_pure ?_)
    refine wpAny_bind (wpAny_of_eq PySem.F.conv_sub_bool ?_)
    refine wpAny_bind (m := someArgs "bool" 0 1 _) (wpAny_pure ?_)
    refine wpAny_bind (m := truthy (.ref x)) (truthy_K X X₀ I hs hf (wpAny_mono h (fun r s₁ hr => ?_) fun _ _ y => y))
    cases r <;> first | exact hr.elim | exact wpAny_pure ⟨_, rfl, hr⟩
  · rintro obj s₁ ⟨b, rfl, hq⟩
    exact ⟨PySem.typeIs_bool _ _, PySem.F.args_object_init_2 _ _, object_init_meets PySem.F.called_bool.init.lookup PySem.F.called_bool.made (by decide) prog w A.in1 _ s₁ ⟨PySem.typeIs_bool _ _, rfl, hq⟩⟩
end
end NeW
namespace U
open PySem PySem.Spec PyProof.Rows L2
section
variable {X : Cx} {CX : CXT} {n : Nat} {C f : Addr} {fd : FuncData} {ps : List Str} {sp : Sp} {E : XK}
/-- bool(x) by x's own method -/
def uBoolO (C : Addr) (sp : Sp) (E : XK) : List V → Hp → VK → Prop := fun vs H Q => match vs with
  | [.ref a] => ∃ dx fs, H a = some (.ins C dx fs) ∧ sp [.ref a] H (fun v H' => (∃ y, v = .bl y) ∧ Q v H') E
  | _ => False
theorem caBoolO (m : Meth X.K C "__bool__" f) (F : FnOk X.prog X.w X.K X.mg X.base CX n f fd ps sp) (hr : Room (n + 2) X.A) (hb : Binds X.K fd ps []) (hx : Passes CX X E) : CallR X (.type "bool") (uBoolO C sp E) := by
  intro pins s σ H xs us Q I r h
  unfold uBoolO at h
  split at h
  · rename_i a
    obtain ⟨dx, fs, ha, hs⟩ := h
    obtain ⟨u, rfl, ru⟩ := vals1 r
    cases (show u = Value.ref a from ru)
    obtain ⟨mA, J, _⟩ := ins_get I.hok ha
    obtain ⟨od, J, _⟩ := J.look
    obtain ⟨m', hF⟩ := I.fr
    have hr2 : Room n X.A.in1.in1 := Room.in1 (Room.in1 hr)
    refine NeW.bool_own hF I.ok.mod.kin J m.at_ m.fn ?_
    refine wpAny_mono (run_here F hr2 rfl hb hx I (show Vals [V.ref a] [Value.ref a] from .cons rfl .nil) hs) (fun v s' q => ?_) fun _ _ z => z
    obtain ⟨x, H', I', rv, ⟨y, rfl⟩, q⟩ := q
    obtain rfl := (show v = Value.bool y from rv)
    exact ⟨.bl y, H', I', rfl, q⟩
  · exact h.elim
end
end U

/-! U12: texts of integers, read. -/
namespace U
open PySem PySem.Spec PyProof.Rows L2
open NumText
theorem len_list (x : Str) : x.length = x.cps.toList.length := by simp [Str.length]
theorem minus_len : (Str.ofString "-").length = 1 := by decide
theorem minus_cps : (Str.ofString "-").cps = #[45] := by decide
theorem sub_at0 (x : Str) : Builtin.Str.subAt x (Str.ofString "-") 0 = (match x.cps.toList with | c :: _ => decide (c = 45) | [] => false) := by
  unfold Builtin.Str.subAt
  rw [minus_len, minus_cps]
  rcases e : x.cps.toList with _ | ⟨c, r⟩
  · have : x.cps = #[] := by apply Array.ext'; rw [e]
    rw [this]
    rfl
  · have e2 : (x.cps.extract 0 (0 + 1)).toList = [c] := by
      rw [Array.toList_extract, List.extract_eq_take_drop, e]
      rfl
    have e3 : x.cps.extract 0 (0 + 1) = #[c] := by apply Array.ext'; rw [e2]
    rw [e3]
    by_cases h : c = 45
    · subst h; rfl
    · show (#[c] == #[45]) = decide (c = 45)
      rw [decide_eq_false h]
      simp [h]
/-- what stands behind a sign - -/
def behind : List Nat → List Nat
  | 45 :: r => r
  | l => l
theorem startswith_minus (x : Str) : Txt.startswith x (Str.ofString "-") = (match x.cps.toList with | c :: _ => decide (c = 45) | [] => false) := by
  unfold Txt.startswith
  rw [sub_at0, minus_len, len_list]
  rcases x.cps.toList with _ | ⟨c, r⟩
  · rfl
  · simp
theorem removeprefix_minus (x : Str) : (Txt.removeprefix x (Str.ofString "-")).cps.toList = behind x.cps.toList := by
  unfold Txt.removeprefix
  rw [sub_at0, minus_len]
  rcases e : x.cps.toList with _ | ⟨c, r⟩
  · exact e
  · by_cases h : c = 45
    · subst h
      simp only [decide_true, if_true]
      have hl : x.length = r.length + 1 := by rw [len_list, e]; rfl
      show (if (x.length - 1 == x.length) = true then x else Builtin.Str.strSub x 1 x.length).cps.toList = r
      rw [if_neg (by rw [hl]; simp), StrLaws.strSub_toList, e, hl]
      simp
    · simp only [h, decide_false, Bool.false_eq_true, if_false]
      show x.cps.toList = behind (c :: r)
      rw [e]
      unfold behind
      split
      · rename_i heq; cases heq; exact absurd rfl h
      · rfl
theorem ascii_digit : ∀ c : Nat, c < 128 → Unicode.isDigit c = decide (48 ≤ c ∧ c ≤ 57) := by decide +kernel
/-- nothing but figures -/
def Figs (l : List Nat) : Prop := (∀ c ∈ l, 48 ≤ c ∧ c ≤ 57) ∧ l ≠ []
theorem isascii_iff (x : Str) : Txt.isascii x = true ↔ ∀ c ∈ x.cps.toList, c < 128 := by
  unfold Txt.isascii
  rw [Array.all_eq_true_iff_forall_mem]
  simp
theorem isdigit_iff (x : Str) (h : ∀ c ∈ x.cps.toList, c < 128) : Txt.isdigit x = true ↔ Figs x.cps.toList := by
  unfold Txt.isdigit Figs
  rw [Bool.and_eq_true, Array.all_eq_true_iff_forall_mem, decide_eq_true_iff]
  rw [len_list]
  constructor
  · rintro ⟨h1, h2⟩
    refine ⟨fun c hc => ?_, fun e => by rw [e] at h1; exact absurd h1 (by decide)⟩
    have := h2 c (Array.mem_toList_iff.mp hc)
    rw [ascii_digit c (h c hc)] at this
    exact of_decide_eq_true this
  · rintro ⟨h1, h2⟩
    refine ⟨List.length_pos_iff.mpr h2, fun c hc => ?_⟩
    have hc' := Array.mem_toList_iff.mpr hc
    rw [ascii_digit c (h c hc')]
    exact decide_eq_true (h1 c hc')
/-- the text of an integer: its figures behind the sign -/
theorem num_figs (n : Int) : Figs (behind (Str.ofString (toString n)).cps.toList) ∧ behind (Str.ofString (toString n)).cps.toList = (Nat.toDigits 10 n.natAbs).map Char.toNat := by
  have e : behind (Str.ofString (toString n)).cps.toList = (Nat.toDigits 10 n.natAbs).map Char.toNat := by
    rw [num_list]
    by_cases h : n < 0
    · rw [if_pos h]
      rfl
    · rw [if_neg h, List.nil_append]
      unfold behind
      split
      · rename_i r heq
        have := digits_are n.natAbs 45 (by rw [heq]; exact List.mem_cons_self ..)
        omega
      · rfl
  refine ⟨?_, e⟩
  rw [e]
  refine ⟨digits_are _, fun z => ?_⟩
  have z2 := List.map_eq_nil_iff.mp z
  exact absurd z2 (Nat.toDigits_ne_nil)
theorem foldl_lt : ∀ (l : List Nat) (a : Nat), (∀ c ∈ l, 48 ≤ c ∧ c ≤ 57) → l.foldl (fun acc c => acc * 10 + (c - 48)) a < (a + 1) * 10 ^ l.length
  | [], a, _ => by simp
  | c :: r, a, h => by
    have h1 := foldl_lt r (a * 10 + (c - 48)) fun d hd => h d (List.mem_cons_of_mem _ hd)
    have h2 := h c (List.mem_cons_self ..)
    rw [List.foldl_cons, List.length_cons, Nat.pow_succ]
    refine Nat.lt_of_lt_of_le h1 ?_
    have h3 : (a * 10 + (c - 48) + 1) * 10 ^ r.length ≤ ((a + 1) * 10) * 10 ^ r.length := Nat.mul_le_mul_right _ (by omega)
    have h4 : ((a + 1) * 10) * 10 ^ r.length = (a + 1) * (10 ^ r.length * 10) := by rw [Nat.mul_assoc, Nat.mul_comm 10]
    omega
theorem digitsVal_lt {l : List Nat} (h : ∀ c ∈ l, 48 ≤ c ∧ c ≤ 57) : digitsVal l < 10 ^ l.length := by
  have := foldl_lt l 0 h
  simpa [digitsVal] using this
/-- what int reads behind a sign - of figures -/
theorem int_of_figs {x : Str} (h : Figs (behind x.cps.toList)) (hl : (behind x.cps.toList).length ≤ 60) : ∃ m : Int, intText? x = some m ∧ m.natAbs < 10 ^ 60 := by
  have up : ∀ l : List Nat, (∀ c ∈ l, 48 ≤ c ∧ c ≤ 57) → l.length ≤ 60 → digitsVal l < 10 ^ 60 := fun l h1 h2 =>
    Nat.lt_of_lt_of_le (digitsVal_lt h1) (Nat.pow_le_pow_right (by decide) h2)
  have hx : x.length = x.cps.toList.length := by simp [Str.length]
  rcases e : x.cps.toList with _ | ⟨c, r⟩
  · rw [e] at h; exact absurd rfl h.2
  · by_cases h45 : c = 45
    · subst h45
      rw [e] at h hl
      refine ⟨_, intText_neg e h.1 h.2 (by rw [hx, e]; show r.length + 1 ≤ _; have : r.length ≤ 60 := hl; omega), ?_⟩
      rw [Int.natAbs_neg, Int.natAbs_natCast]
      exact up r h.1 hl
    · have eb : behind (c :: r) = c :: r := by
        unfold behind
        split
        · rename_i heq; cases heq; exact absurd rfl h45
        · rfl
      rw [e, eb] at h hl
      refine ⟨_, intText_digits (by rw [e]; exact h.1) (by rw [e]; exact h.2) (by rw [hx, e]; omega), ?_⟩
      rw [Int.natAbs_natCast, e]
      exact up _ h.1 hl
/-- int behind str -/
theorem intText_num {n : Int} (h : n.natAbs < 10 ^ 60) : intText? (Str.ofString (toString n)) = some n := by
  have hl : ((Nat.toDigits 10 n.natAbs).map Char.toNat).length ≤ 60 := by
    rw [List.length_map]
    exact (Nat.length_toDigits_le_iff (b := 10) (n := n.natAbs) (k := 60) (by decide) (by decide)).mpr h
  have hne : ((Nat.toDigits 10 n.natAbs).map Char.toNat) ≠ [] := fun z => Nat.toDigits_ne_nil (List.map_eq_nil_iff.mp z)
  have hx : ∀ x : Str, x.length = x.cps.toList.length := fun x => by simp [Str.length]
  have e := num_list n
  by_cases h0 : n < 0
  · rw [if_pos h0] at e
    have e' : (Str.ofString (toString n)).cps.toList = 45 :: (Nat.toDigits 10 n.natAbs).map Char.toNat := e
    rw [intText_neg e' (digits_are _) hne (by rw [hx, e]; simp only [List.length_append, List.length_cons, List.length_nil]; omega), PySem.W.KIN.val_back]
    congr 1
    omega
  · rw [if_neg h0, List.nil_append] at e
    rw [intText_digits (by rw [e]; exact digits_are _) (by rw [e]; exact hne) (by rw [hx, e]; omega), e, PySem.W.KIN.val_back]
    congr 1
    omega
/-- a text cut at its first sign / -/
theorem cut_slash (x : Str) : (47 ∉ x.cps.toList ∧ Txt.partition x (Str.ofString "/") = (x, Str.empty, Str.empty)) ∨
    (∃ a b : Str, 47 ∉ a.cps.toList ∧ x = a ++ Str.ofString "/" ++ b ∧ Txt.partition x (Str.ofString "/") = (a, Str.ofString "/", b)) := by
  have ey : TL.tl (Str.ofString "/") = 47 :: [] := by decide
  by_cases h : 47 ∈ x.cps.toList
  · obtain ⟨s, t, e, hs⟩ := List.append_of_mem h |> fun ⟨s, t, e⟩ => (show ∃ s t, x.cps.toList = s ++ 47 :: t ∧ 47 ∉ s from by
      clear e
      generalize x.cps.toList = l at h
      induction l with
      | nil => cases h
      | cons c r ih =>
        by_cases hc : c = 47
        · subst hc; exact ⟨[], r, rfl, by simp⟩
        · rcases List.mem_cons.mp h with z | z
          · exact absurd z.symm hc
          · obtain ⟨s, t, e, hs⟩ := ih z
            exact ⟨c :: s, t, by rw [e]; rfl, fun z => by rcases List.mem_cons.mp z with z | z; exact hc z.symm; exact hs z⟩)
    have ex : x = (⟨s.toArray⟩ : Str) ++ Str.ofString "/" ++ (⟨t.toArray⟩ : Str) := str_ext (by
      rw [app_list, app_list, e, show (Str.ofString "/").cps.toList = [47] by decide]
      simp)
    refine .inr ⟨⟨s.toArray⟩, ⟨t.toArray⟩, hs, ex, ?_⟩
    rw [ex]
    exact TL.partition_app ey hs
  · exact .inl ⟨h, TL.partition_none ey h⟩
theorem num_inj {m n : Int} (h1 : m.natAbs < 10 ^ 60) (h2 : n.natAbs < 10 ^ 60) (h : Str.ofString (toString m) = Str.ofString (toString n)) : m = n := by
  have e := intText_num h1
  rw [h, intText_num h2] at e
  exact (Option.some.inj e).symm
theorem num_no47 (n : Int) : 47 ∉ (Str.ofString (toString n)).cps.toList := fun h => by
  rw [num_list] at h
  rcases List.mem_append.mp h with h | h
  · by_cases q : n < 0
    · rw [if_pos q] at h; simp at h
    · rw [if_neg q] at h; cases h
  · have := digits_are n.natAbs 47 h
    omega
theorem cut_eq {a b c d : Str} (ha : 47 ∉ a.cps.toList) (hc : 47 ∉ c.cps.toList) (h : a ++ Str.ofString "/" ++ b = c ++ Str.ofString "/" ++ d) : a = c ∧ b = d := by
  have ey : TL.tl (Str.ofString "/") = 47 :: [] := by decide
  have h1 := TL.partition_app (b := b) ey ha
  rw [h, TL.partition_app ey hc] at h1
  exact ⟨(congrArg (·.1) h1).symm, (congrArg (·.2.2) h1).symm⟩
theorem cut_no {a b x : Str} (hx : 47 ∉ x.cps.toList) : x ≠ a ++ Str.ofString "/" ++ b := fun h => hx (by
  rw [h, app_list, app_list]
  exact List.mem_append_left _ (List.mem_append_right _ (by decide)))
/-- what int_in tells of a text: the number of which it is the text -/
def IsNum (x : Str) (n : Int) : Prop := n.natAbs < 10 ^ 60 ∧ x = Str.ofString (toString n)
theorem num_figs' {n : Int} (h : n.natAbs < 10 ^ 60) : Txt.isascii (Txt.removeprefix (Str.ofString (toString n)) (Str.ofString "-")) = true ∧ Txt.isdigit (Txt.removeprefix (Str.ofString (toString n)) (Str.ofString "-")) = true ∧ (Txt.removeprefix (Str.ofString (toString n)) (Str.ofString "-")).length ≤ 60 := by
  have e := removeprefix_minus (Str.ofString (toString n))
  obtain ⟨f, g⟩ := num_figs n
  have ha : Txt.isascii (Txt.removeprefix (Str.ofString (toString n)) (Str.ofString "-")) = true := (isascii_iff _).mpr (by
    rw [e]; intro c hc; have := f.1 c hc; omega)
  refine ⟨ha, (isdigit_iff _ ((isascii_iff _).mp ha)).mpr (by rw [e]; exact f), ?_⟩
  rw [len_list, e, g, List.length_map]
  exact (Nat.length_toDigits_le_iff (b := 10) (n := n.natAbs) (k := 60) (by decide) (by decide)).mpr h
section
variable {X : Cx}
/-- int, also of a text -/
def uIntT (vs : List V) (H : Hp) (Q : VK) : Prop := match vs with | [.str a] => ∃ n, intText? a = some n ∧ a.length ≤ 640 ∧ Q (.int n) H | _ => uInt vs H Q
theorem caIntT : CallR X (.type "int") uIntT := fun p s z H xs us Q I r h => by
  unfold uIntT at h
  split at h
  · obtain ⟨n, h1, h2, q⟩ := h
    exact call_int_str p s z H _ us Q I r ⟨_, n, rfl, h1, h2, q⟩
  · exact caInt p s z H _ us Q I r h
end
end U

/-! U13: exceptions that are caught by their classes, lambdas handed to a def, defs whose code object is known. -/
namespace U
open PySem PySem.Spec PyProof.Rows L2 LamX
/-- a def of the text whose code object is known -/
structure FunC (K : PySem.W.Frag) (nm qual : Str) (st : Stmt) (f : Addr) (fd : FuncData) (c : Addr) : Prop where
  ex : ∃ (oc : Value) (od : Option Addr) (kV doc pm : Value) (an : Option Addr) (ct : Value) (osl : Array (Option Value)), fd = PySem.W.fnOf nm qual (defArgs st) (defBody st) (defScope st) .none kV doc pm an (.ref c) ct ∧ K.lookup f = some ⟨oc, od, .func fd, osl⟩ ∧ PySem.W.codeIn K (.ref c) qual = true
section
variable {P : Program} {w : World} {K : PySem.W.Frag} {mg : Str → Option Value} {base : Heap} {CX : CXT} {k : Nat} {f c : Addr} {fd : FuncData} {ps N : List Str} {sp : Sp} {st : Stmt} {nm qual : Str}
theorem okC (F : FunC K nm qual st f fd c) (S : FnScope N ps (defScope st)) (len : ∀ vs H Q E, sp vs H Q E → vs.length = ps.length)
    (body : ∀ (A : Around) (outer : List Env) (s : Shared) (H : Hp) (vs : List V) (Q : VK) (E : XK), Room k (A.deeper (envOfC qual (defScope st) s.heap.objs.size f (.ref c))) → sp vs H Q E →
      ∃ t, PSs (cxOf CX P w K mg base N qual (defScope st) f (.ref c) A outer s H E).nox (defBody st) t ∧ t { nx := fun _ H' => Q .non H', rt := Q } (start N vs) H) : FnOk P w K mg base CX (k + 1) f fd ps sp := by
  obtain ⟨oc, od, kV, doc, pm, an, ct, osl, rfl, lk, hcd⟩ := F.ex
  exact ⟨len, fun A outer s H args us vs Q E hr e0 hb r h => run_ofS lk hcd S hr e0 hb r (len _ _ _ _ h) fun hr' => let ⟨t, ht, hq⟩ := body A outer s H vs Q E hr' h; ⟨t, ht.nox, hq⟩⟩
end
section
variable {X : Cx}
/-- x(lambda: body), x a def of the text -/
theorem peLam {T : List (Addr × Str)} {TT : (XK → Hp → VK → Prop) → Hp → VK → Prop} {x a : Str} {g c P : Addr} {k : Nat} {st : Stmt} {fd : FuncData} {Ng : List Str} {params : Arguments} {body : Expr} {scope : Scope} {t : XK → TE} {p lpos pos : Pos}
    (F : Fun X.K x x st g fd) (hm : X.mg x = some (.ref g)) (hb : Binds X.K fd [a] []) (Sg : FnScope Ng [a] (defScope st))
    (hG : ∀ cdg : Value, GivesTo X Ng x (defScope st) g cdg (defBody st) a (X.env.qual ++ "<lambda>") TT)
    (TB : TabB X.base X.mg c P) (hcode : X.env.code = .ref c) (hmT : (P, X.env.qual ++ "<lambda>") ∈ T) (hu : ∀ q ∈ T, q.1 = P → q.2 = X.env.qual ++ "<lambda>") (hr : Room (k + 2) X.A)
    (hbody : ∀ (A : Around) (outer : List Env) (s : Shared) (H : Hp) (E : XK) (f c' : Addr), Room k (A.deeper (lamEnv X scope s.heap.objs.size f c')) → PE (lamCx X A outer s H E scope f c') body (t E))
    (hg : Gl X x := by rfl) (hN : Ng[0]? = some a := by rfl) (hva : Vis (defScope st) a := by first | exact Or.inl rfl | exact Or.inr (Or.inl rfl)) (L : LamS X.env.scope scope := by exact LamX.lamS_by (by decide +kernel)) (hdef : defaultsOf params X.env = ([], []) := by rfl)
    (hbind : ∀ (q : Str) (cl : List (Str × Addr)) (pm cv ctv : Value), bindArgs (PySem.W.kla_fn "<lambda>" q params body scope cl pm cv ctv) ⟨[], []⟩ = pure [] := by (intros; rfl))
    (hdb : (x == ("__debug__" : Str)) = false := by decide) (hd : (a == ("__debug__" : Str)) = false := by decide) (hcd : (a == ("__classdict__" : Str)) = false := by decide) :
    PE X (.Call (.Name x p) [.Lambda params body scope lpos] [] pos) (tLam T TT t) := by
  have hk := F.kp
  obtain ⟨oc, od, kV, doc, pm, an, cdv, ct, osl, rfl, lk, hcg⟩ := F.ex
  exact pe_lamcall hg hm hk lk hcg hb Sg hN hva (hG cdv) TB hcode hmT hu hr L hdef hbind hbody hdb hd hcd
/-- what is made of a lambda: try: return a().pair, and two clauses, each with a text -/
def TTpair (K : PySem.W.Frag) (C : Addr) (sp : Sp) (C1 C2 : Addr) (w1 w2 : Str) : (XK → Hp → VK → Prop) → Hp → VK → Prop := fun tl H Q =>
  tl (fun cls _ H' => ∃ b, PySem.W.exmOne K cls (.ref C1) = some b ∧ (b = true → Q (.str w1) H') ∧ (b = false → ∃ b', PySem.W.exmOne K cls (.ref C2) = some b' ∧ (b' = true → Q (.str w2) H') ∧ (b' = false → False))) H
    fun x H1 => ∃ b dx fs, x = .ref b ∧ H1 b = some (.ins C dx fs) ∧ sp [.ref b] H1 Q E0
theorem told_pair {Ng : List Str} {x a e1 e2 q w1 w2 f : Str} {sg : Scope} {g C C1 C2 pa ga : Addr} {fdp : FuncData} {psp : List Str} {sp : Sp} {cdg : Value} {i j k : Nat} {p1 p2 p3 p4 p5 p6 p7 p8 p9 pb pc pd pe : Pos}
    (c : Cls X.K C) (hp : PropOf X.K C f pa ga) (F : FnOk X.prog X.w X.K X.mg X.base CX0 k ga fdp psp sp) (hr : Room (k + 2) X.A) (hb : Binds X.K fdp psp [])
    (g1 : sg.names.lookup e1 = some .globalImplicit) (m1 : X.mg e1 = some (.ref C1)) (g2 : sg.names.lookup e2 = some .globalImplicit) (m2 : X.mg e2 = some (.ref C2)) (d1 : (e1 == ("__debug__" : Str)) = false) (d2 : (e2 == ("__debug__" : Str)) = false)
    (hab : ∀ env : Env, attributeBase (.Call (.Name a p1) [] [] p2) f env (eval (.Call (.Name a p1) [] [] p2) env) = eval (.Call (.Name a p1) [] [] p2) env)
    (h0 : ∀ z : Addr, (L2.start Ng [V.ref z])[0]? = some (some (V.ref z))) :
    GivesTo X Ng x sg g cdg [.Try [.Return (some (.Attribute (.Call (.Name a p1) [] [] p2) f p9)) p3] [.ExceptHandler (some (.Name e1 p4)) none [.Return (some (.Constant (.str w1) i p5)) p6] p7, .ExceptHandler (some (.Name e2 pb)) none [.Return (some (.Constant (.str w2) j pc)) pd] pe] [] [] p8] a q (TTpair X.K C sp C1 C2 w1 w2) := by
  intro fl c' s H Q tl act hc h
  let Z : Cx := (cxOf C8.CX0 X.prog X.w X.K X.mg X.base Ng x sg g cdg X.A X.stack s H C8.E0).nox
  have n1 : Names Z e1 (.ref C1) := ⟨g1, d1, .inl m1⟩
  have n2 : Names Z e2 (.ref C2) := ⟨g2, d2, .inl m2⟩
  have hz : Room (k + 1) Z.A := hr.deeper _
  have T0 : Takes Z (fun _ _ _ _ => False) := takes_none5
  have suites : HdsOk Z [.ExceptHandler (some (.Name e1 p4)) none [.Return (some (.Constant (.str w1) i p5)) p6] p7, .ExceptHandler (some (.Name e2 pb)) none [.Return (some (.Constant (.str w2) j pc)) pd] pe]
      [(.ref C1, fun _ _ _ => tRet (tC (.str w1))), (.ref C2, fun _ _ _ => tRet (tC (.str w2)))] :=
    .cons n1 (fun _ _ _ _ _ _ _ => pss_one (ps_ret pe_str)) (.cons n2 (fun _ _ _ _ _ _ _ => pss_one (ps_ret pe_str)) .nil)
  refine ⟨_, pss_one (ps_try_many (X := Z) (tb := fun W D σ H => ∃ Ech : XK, (∀ cls d σ' H', Ech cls d H' → W cls d σ' H') ∧ σ[0]? = some (some (.ref fl)) ∧ H c' = some (CodeO c' q) ∧ tl Ech H fun y H1 => ∃ b dx fs, y = .ref b ∧ H1 b = some (.ins C dx fs) ∧ sp [.ref b] H1 D.rt E0)
    rfl rfl T0 (fun W pn xe tk _ => ?_) suites), ?_⟩
  · refine ⟨fun pins s' σ H' D I h' => ?_⟩
    obtain ⟨Ech, hW, h1, h2, h3⟩ := h'
    have act1 := act W pn xe Ech p1 p2 tk hW
    have whole := pss_one (ps_ret (pos := p3) (pe_prop (f := f) (pos := p9) act1 c hp F hz hb .nil pass0 (hab _)))
    exact whole.run pins s' σ H' D I ⟨h1, h2, h3⟩
  · refine ⟨_, fun cls d σ' H' hh => ?_, h0 fl, hc, h⟩
    obtain ⟨b, e, y1, y2⟩ := hh
    refine ⟨b, e, fun z _ _ => y1 z, fun z => ?_⟩
    obtain ⟨b', e', z1, z2⟩ := y2 z
    exact ⟨b', e', fun z _ _ => z1 z, fun z => z2 z⟩
end
/-- does a clause that names B take an error of the class A? -/
theorem exm_of {K : PySem.W.Frag} {A B : Addr} {b : Bool} (h1 : PySem.W.subIn K (.ref B) (.type "BaseException") = some true) (h2 : PySem.W.isClsIn K B = true) (h3 : PySem.W.typeIn K (.ref B) = some (.type "type")) (h4 : PySem.W.subIn K (.ref A) (.ref B) = some b) : PySem.W.exmOne K (.ref A) (.ref B) = some b := by
  have h2' : (PySem.W.clsIn K B).isSome = true := h2
  unfold PySem.W.exmOne
  rw [h1, if_pos (beq_self_eq_true _)]
  show (if ((PySem.W.clsIn K B).isSome && PySem.W.typeIn K (.ref B) == some (.type "type")) = true then _ else _) = _
  rw [h2', h3, if_pos (by rfl)]
  exact h4
theorem look_none {l : PySem.W.Frag} {a : Addr} (h : a ∉ l.map (·.1)) : l.lookup a = none := by
  induction l with
  | nil => rfl
  | cons p r ih =>
    obtain ⟨b, o⟩ := p
    rw [List.map_cons, List.mem_cons, not_or] at h
    rw [List.lookup_cons, show (a == b) = false from beq_eq_false_iff_ne.mpr h.1]
    exact ih h.2
open PySem.W in
/-- the end of a law whose defs make lambdas -/
theorem walkT {l : OpenLaw} {n k : Nat} {q : Program} {loose : List Str} {XP : (Str → Option Value) → Heap → Prop} {d : DefRec} {K : Params → Frag} {as ts : List Addr} {e : ∀ P, as = (K P).map (·.1)} {x : Str}
    (hn : l.most = some n) (hn2 : n ≤ sizeLine) (hdf : d.params.defaults = []) (hr : Room k callerA)
    (F : ∀ (w : World) (mg : Str → Option Value) (fa : Addr) (h : Heap), (K w.params).In h → h.Ns mainGlobals mg → mg d.name = some (.ref fa) →
      ∃ (fd : FuncData) (cs : List (Addr × Addr)) (sp : Sp), (∀ p ∈ cs, p.2 ∈ ts ∧ p.2 ∉ as) ∧ (∀ p ∈ cs, codeHdIn (K w.params) p.1 p.2 = true) ∧ (∀ (s : Shared) (u : Value), BindsTo s fd ⟨[u], []⟩ [(x, u)]) ∧
        (∀ (H : Hp) (a : Addr) (ns : List Int), ns.length ≤ n → (∀ z ∈ ns, Builtin.Int.intBits z ≤ 1048576) → (∀ p ∈ cs, H p.2 = some (.tbl #[])) → SqL (K w.params) H a (ns.map V.int) → sp [.ref a] H (fun v _ => v = .bl true) fun _ _ _ => False) ∧
        ∀ base : Heap, (K w.params).In base → base.Ns mainGlobals mg → (∀ p ∈ cs, TabB base mg p.1 p.2) → FnOk l.prog w (K w.params) mg base CX0 k fa fd [x] sp) :
    WalkO q loose XP (kmHook K as e ts).says l.row.toRowW d [] (fun f vs => PySem.call f vs) := by
  refine walk_ofTs (n := n) (k := k) (x := x) (CX := fun _ => CX0) hn hn2 hdf hr (fun w h Y => km_in_of Y) (fun w mg fa h Y KX G hm => ?_) (fun _ _ _ _ _ z => z)
  obtain ⟨fd, cs, sp, h1, h2, h3, h4, h5⟩ := F w mg fa h KX G hm
  refine ⟨fd, cs, sp, fun p hp => km_tabs_of Y p.2 (h1 p hp).1, fun p hp => look_none ?_, fun p hp => codeHd_of_K KX (h2 p hp), h3, h4, h5⟩
  rw [← e w.params]
  exact (h1 p hp).2
theorem kit_blt {K : PySem.W.Frag} {D : Addr} {T : String} {b : Bool} (hm : PySem.W.kitMeta T = true) (h : PySem.W.subIn K (.ref D) (.type T) = some b) : PySem.W.kitOne K (.ref D) (.type T) = some b := by
  unfold PySem.W.kitOne
  rw [if_neg (by intro z; cases z)]
  show (if PySem.W.kitMeta T = true then PySem.W.subIn K (.ref D) (.type T) else none) = _
  rw [if_pos hm]
  exact h
/-- a value of a built-in kind, or a ratio -/
def Ob (K : PySem.W.Frag) (C : Addr) (H : Hp) (v : V) : Prop := (∃ S, Kd K H v S) ∨ ∃ p q, IsR C H v p q
section
variable {K : PySem.W.Frag} {C : Addr} {H H' : Hp} {v : V} {S : String}
theorem tyx_up {t : Value} (h : TyX K H v t) (g : Gr H H') : TyX K H' v t := by
  cases h with
  | base b =>
    refine .base ?_
    cases b with
    | non => exact .non
    | bl x => exact .bl x
    | int x => exact .int x
    | str x => exact .str x
    | flt x => exact .flt x
    | lst e => exact .lst (g _ _ e)
    | frz e => exact .frz (g _ _ e)
    | tup e => exact .tup (g _ _ e)
    | dK e => exact .dK (g _ _ e)
    | dT e => exact .dT (g _ _ e)
    | ins e c1 c2 c3 c4 c5 => exact .ins (g _ _ e) c1 c2 c3 c4 c5
  | byt b => exact .byt b
  | set e => exact .set (g _ _ e)
  | kList e c => exact .kList e c
  | kTuple e c => exact .kTuple e c
  | kDict e c => exact .kDict e c
  | fTuple e => exact .fTuple (g _ _ e)
  | fDict e => exact .fDict (g _ _ e)
theorem Kd.up (h : Kd K H v S) (g : Gr H H') : Kd K H' v S := ⟨tyx_up h.1 g, h.2⟩
theorem Ob.up (h : Ob K C H v) (g : Gr H H') : Ob K C H' v := by
  rcases h with ⟨S, h⟩ | ⟨p, q, h⟩
  · exact .inl ⟨S, h.up g⟩
  · exact .inr ⟨p, q, h.up g⟩
end
end U

/-! U14: which texts are those of integers and of ratios. -/
namespace U
open PySem PySem.Spec PyProof.Rows L2
open NumText
theorem cut_from (z : Str) (k : Nat) : (cutS z (some (k : Int)) none).cps.toList = z.cps.toList.drop k := by
  have hl : z.length = z.cps.toList.length := by simp [Str.length]
  unfold cutS HT.sIx
  simp only [hl]
  rw [if_neg (by omega)]
  by_cases h : k ≤ z.cps.toList.length
  · rw [show min (k : Int).toNat z.cps.toList.length = k by omega]
    rw [List.take_of_length_le (by rw [List.length_drop]; omega)]
  · rw [show min (k : Int).toNat z.cps.toList.length = z.cps.toList.length by omega]
    rw [List.drop_eq_nil_of_le (Nat.le_refl _), List.drop_eq_nil_of_le (by omega)]
    simp
theorem cut_to (z : Str) (k : Nat) : (cutS z none (some (k : Int))).cps.toList = z.cps.toList.take k := by
  have hl : z.length = z.cps.toList.length := by simp [Str.length]
  unfold cutS HT.sIx
  simp only [hl]
  rw [if_neg (by omega)]
  by_cases h : k ≤ z.cps.toList.length
  · rw [show min (k : Int).toNat z.cps.toList.length = k by omega]
    simp
  · rw [show min (k : Int).toNat z.cps.toList.length = z.cps.toList.length by omega]
    have e1 : z.cps.toList.take k = z.cps.toList := List.take_of_length_le (by omega)
    rw [e1, List.drop_zero, Nat.sub_zero, List.take_length]
theorem canon (l : List Nat) : (∀ c ∈ l, 48 ≤ c ∧ c ≤ 57) → l ≠ [] → l.head? ≠ some 48 → TL.numL (digitsVal l) = l := by
  induction h : l.length generalizing l with
  | zero => intro _ n _; exact absurd (List.length_eq_zero_iff.mp h) n
  | succ k ih =>
    intro hd hn hh
    obtain ⟨r, c, rfl⟩ : ∃ r c, l = r ++ [c] := ⟨l.dropLast, l.getLast hn, (List.dropLast_concat_getLast hn).symm⟩
    have hc := hd c (by simp)
    have ed : digitsVal (r ++ [c]) = digitsVal r * 10 + (c - 48) := by
      unfold digitsVal
      rw [List.foldl_append]
      rfl
    rw [ed]
    by_cases e : r = []
    · subst e
      have e0 : digitsVal [] = 0 := rfl
      rw [e0, TL.numL_lt (by omega), show 48 + (0 * 10 + (c - 48)) = c by omega]
      rfl
    · have hr : r.head? ≠ some 48 := by
        intro z
        apply hh
        rw [List.head?_append, z]
        rfl
      have ih := ih r (by simp at h; exact h) (fun d hdm => hd d (by simp [hdm])) e hr
      have h1 : digitsVal r ≠ 0 := by
        intro z
        rw [z, TL.numL_lt (by decide)] at ih
        rw [← ih] at hr
        exact hr rfl
      rw [TL.numL_step (by omega), show (digitsVal r * 10 + (c - 48)) / 10 = digitsVal r by omega, ih, show 48 + (digitsVal r * 10 + (c - 48)) % 10 = c by omega]
theorem numL_head (n : Nat) : n ≠ 0 → (TL.numL n).head? ≠ some 48 := by
  induction n using Nat.strongRecOn with
  | _ n ih =>
    intro h0
    by_cases h : n < 10
    · rw [TL.numL_lt h]
      intro z
      have := Option.some.inj z
      omega
    · rw [TL.numL_step (by omega)]
      have := ih (n / 10) (by omega) (by omega)
      intro z
      apply this
      rw [List.head?_append] at z
      rcases e : TL.numL (n / 10) with _ | ⟨c, r⟩
      · exact absurd e (TL.numL_ne _)
      · rw [e] at z
        exact z
/-- the text of an integer of at most sixty figures -/
def numB (x : Str) : Prop := Figs (behind x.cps.toList) ∧ (behind x.cps.toList).length ≤ 60 ∧ ((behind x.cps.toList = [48] ∧ x.cps.toList = [48]) ∨ (behind x.cps.toList).head? ≠ some 48)
theorem numB_iff (x : Str) : numB x ↔ ∃ n, IsNum x n := by
  constructor
  · rintro ⟨⟨f1, f2⟩, f3, f4⟩
    have up : digitsVal (behind x.cps.toList) < 10 ^ 60 := Nat.lt_of_lt_of_le (digitsVal_lt f1) (Nat.pow_le_pow_right (by decide) f3)
    rcases e : x.cps.toList with _ | ⟨c, r⟩
    · rw [e] at f2; exact absurd rfl f2
    · by_cases h45 : c = 45
      · subst h45
        rw [e] at f1 f2 f3 f4 up
        have hh : r.head? ≠ some 48 := by
          rcases f4 with ⟨_, z⟩ | z
          · cases z
          · exact z
        have ec := canon r f1 f2 hh
        have h1 : digitsVal r ≠ 0 := fun z => by
          rw [z, TL.numL_lt (by decide)] at ec
          rw [← ec] at hh
          exact hh rfl
        refine ⟨-(digitsVal r : Int), by rw [Int.natAbs_neg, Int.natAbs_natCast]; exact up, str_ext ?_⟩
        rw [e, num_list, if_pos (by omega), Int.natAbs_neg, Int.natAbs_natCast]
        show 45 :: r = [45] ++ TL.numL (digitsVal r)
        rw [ec]
        rfl
      · have eb : behind (c :: r) = c :: r := by
          unfold behind
          split
          · rename_i heq; cases heq; exact absurd rfl h45
          · rfl
        rw [e, eb] at f1 f2 f3 f4 up
        refine ⟨(digitsVal (c :: r) : Int), by rw [Int.natAbs_natCast]; exact up, str_ext ?_⟩
        rw [e, num_list, if_neg (by omega), Int.natAbs_natCast, List.nil_append]
        show c :: r = TL.numL (digitsVal (c :: r))
        rcases f4 with ⟨z, _⟩ | z
        · rw [z]; decide
        · exact (canon _ f1 f2 z).symm
  · rintro ⟨n, h1, rfl⟩
    obtain ⟨f, g⟩ := num_figs n
    refine ⟨f, ?_, ?_⟩
    · rw [g, List.length_map]
      exact (Nat.length_toDigits_le_iff (b := 10) (n := n.natAbs) (k := 60) (by decide) (by decide)).mpr h1
    · by_cases h0 : n = 0
      · subst h0; exact .inl ⟨by decide, by decide⟩
      · right
        rw [g]
        exact numL_head _ (by omega)
/-- a text of plain signs -/
def Asc (x : Str) : Prop := ∀ c ∈ x.cps.toList, c < 128
theorem Asc.app {x y : Str} (h : Asc x) (k : Asc y) : Asc (x ++ y) := fun c hc => by
  rw [app_list] at hc
  rcases List.mem_append.mp hc with z | z
  · exact h c z
  · exact k c z
theorem Asc.sub {x y : Str} (h : Asc x) (k : ∀ c ∈ y.cps.toList, c ∈ x.cps.toList) : Asc y := fun c hc => h c (k c hc)
def txs (l : List Str) : List PyData := l.map PyData.str
theorem dp_txs {K : PySem.W.Frag} {H : Hp} : ∀ l : List Str, DpAll K H (l.map V.str) (txs l)
  | [] => .nil
  | _ :: r => .cons (.str _) (dp_txs r)
theorem lay_txs : ∀ l : List Str, (∀ z ∈ l, Asc z) → PyData.canLayAll0 (txs l) = true ∧ PyData.depthAll (txs l) ≤ 1
  | [], _ => ⟨rfl, by decide⟩
  | x :: r, h => by
    obtain ⟨a, b⟩ := lay_txs r fun z hz => h z (List.mem_cons_of_mem _ hz)
    have hx : PyData.canLay0 (.str x) = true := by
      show x.cps.all (· < 0x110000) = true
      rw [Array.all_eq_true_iff_forall_mem]
      intro c hc
      have := h x (List.mem_cons_self ..) c (Array.mem_toList_iff.mpr hc)
      exact decide_eq_true (by omega)
    refine ⟨?_, ?_⟩
    · show (PyData.canLay0 (.str x) && PyData.canLayAll0 (txs r)) = true
      rw [hx, a]
      rfl
    · show max (PyData.depth (.str x)) (PyData.depthAll (txs r)) ≤ 1
      have e : PyData.depth (.str x) = 0 := rfl
      omega
theorem shaped_txs {l : List Str} (h : ∀ z ∈ l, Asc z) : SeqAt.shaped (.list (txs l)) = true := by
  obtain ⟨a, b⟩ := lay_txs l h
  show (PyData.canLayAll0 (txs l) && decide (PyData.depthAll (txs l) + 1 ≤ 64)) = true
  rw [a, decide_eq_true (by omega)]
  rfl
theorem eqv_txs_nil (l : List Str) : PyData.eqv (.list (txs l)) (.list []) = decide (l = []) := by
  cases l with
  | nil => rfl
  | cons x r => rw [decide_eq_false (by simp)]; rfl
theorem cut_all : ∀ (n : Nat) (x : Str), x.length ≤ n → ∃ parts : List Str, parts ≠ [] ∧ (∀ z ∈ parts, 47 ∉ z.cps.toList ∧ (∀ c ∈ z.cps.toList, c ∈ x.cps.toList) ∧ z.length ≤ x.length) ∧ Txt.join (Str.ofString "/") parts = x
  | n, x, h => by
    have e47 : (Str.ofString "/").cps.toList = [47] := by decide
    have l47 : (Str.ofString "/").length = 1 := by decide
    rcases cut_slash x with ⟨hs, _⟩ | ⟨a, b, hs, ex, _⟩
    · refine ⟨[x], by simp, fun z hz => ?_, ?_⟩
      · obtain rfl := List.mem_singleton.mp hz
        exact ⟨hs, fun c hc => hc, Nat.le_refl _⟩
      · rw [TL.join_eq]; rfl
    · have hx : x.length = a.length + 1 + b.length := by rw [ex, app_len, app_len, l47]
      match n, h with
      | 0, h => omega
      | m + 1, h =>
        obtain ⟨ps, p1, p2, p3⟩ := cut_all m b (by omega)
        have sub : ∀ c, (c ∈ a.cps.toList ∨ c ∈ b.cps.toList) → c ∈ x.cps.toList := fun c hc => by
          rw [ex, app_list, app_list]
          rcases hc with hc | hc
          · exact List.mem_append_left _ (List.mem_append_left _ hc)
          · exact List.mem_append_right _ hc
        refine ⟨a :: ps, by simp, fun z hz => ?_, ?_⟩
        · rcases List.mem_cons.mp hz with rfl | hz
          · exact ⟨hs, fun c hc => sub c (.inl hc), by omega⟩
          · obtain ⟨z1, z2, z3⟩ := p2 z hz
            exact ⟨z1, fun c hc => sub c (.inr (z2 c hc)), by omega⟩
        · rw [TL.join_eq] at p3 ⊢
          cases ps with
          | nil => exact absurd rfl p1
          | cons z r =>
            show a ++ Str.ofString "/" ++ Str.join (Str.ofString "/") (z :: r) = x
            rw [p3, ex]
/-- a text split at its signs / -/
theorem split_slash (x : Str) : ∃ parts : List Str, Txt.split x (Str.ofString "/") = parts ∧ parts.length ≤ x.length + 2 ∧ (∀ z ∈ parts, (∀ c ∈ z.cps.toList, c ∈ x.cps.toList) ∧ z.length ≤ x.length) ∧
    ((parts = [x] ∧ 47 ∉ x.cps.toList) ∨ (∃ a b, parts = [a, b] ∧ x = a ++ Str.ofString "/" ++ b ∧ 47 ∉ a.cps.toList ∧ 47 ∉ b.cps.toList) ∨ (2 < parts.length ∧ ∃ a b, x = a ++ Str.ofString "/" ++ b ∧ 47 ∉ a.cps.toList ∧ 47 ∈ b.cps.toList)) := by
  obtain ⟨ps, p1, p2, p3⟩ := cut_all x.length x (Nat.le_refl _)
  have ey : TL.tl (Str.ofString "/") = 47 :: [] := by decide
  have e47 : (Str.ofString "/").cps.toList = [47] := by decide
  have sp := TL.split_join ey (by decide +kernel) p1 fun z hz => (p2 z hz).1
  rw [p3] at sp
  refine ⟨ps, sp, by rw [← sp]; exact PyProof.Rows.split_le _ _, fun z hz => (p2 z hz).2, ?_⟩
  rw [TL.join_eq] at p3
  match ps, p1, p2, p3 with
  | [], h, _, _ => exact absurd rfl h
  | [a], _, h2, h3 =>
    have h3' : a = x := h3
    subst h3'
    exact .inl ⟨rfl, (h2 a (List.mem_cons_self ..)).1⟩
  | [a, b], _, h2, h3 =>
    have h3' : a ++ Str.ofString "/" ++ b = x := h3
    exact .inr (.inl ⟨a, b, rfl, h3'.symm, (h2 a (by simp)).1, (h2 b (by simp)).1⟩)
  | a :: b :: c :: r, _, h2, h3 =>
    have h3' : a ++ Str.ofString "/" ++ (b ++ Str.ofString "/" ++ Str.join (Str.ofString "/") (c :: r)) = x := h3
    refine .inr (.inr ⟨by simp only [List.length_cons]; omega, a, _, h3'.symm, (h2 a (by simp)).1, ?_⟩)
    rw [app_list, app_list, e47]
    exact List.mem_append_left _ (List.mem_append_right _ (List.mem_cons_self ..))
/-- x is the text of the ratio p / q of at most sixty figures -/
def IsRat (x : Str) (p q : Int) : Prop := Low p q ∧ p.natAbs < 10 ^ 60 ∧ q.natAbs < 10 ^ 60 ∧ x = rtext p q
theorem rat_slash {p q : Int} {a b : Str} (ha : 47 ∉ a.cps.toList) (h : a ++ Str.ofString "/" ++ b = rtext p q) : q ≠ 1 ∧ a = Str.ofString (toString p) ∧ b = Str.ofString (toString q) := by
  unfold rtext at h
  by_cases e : q = 1
  · rw [if_pos e] at h
    exact absurd h.symm (cut_no (num_no47 p))
  · rw [if_neg e] at h
    exact ⟨e, cut_eq ha (num_no47 p) h⟩
theorem rat_plain {p q : Int} {x : Str} (hx : 47 ∉ x.cps.toList) (h : x = rtext p q) : q = 1 ∧ x = Str.ofString (toString p) := by
  unfold rtext at h
  by_cases e : q = 1
  · rw [if_pos e] at h; exact ⟨e, h⟩
  · rw [if_neg e] at h
    exact absurd h (cut_no hx)
theorem ratA {x : Str} {p q : Int} (hs : 47 ∉ x.cps.toList) (h : IsRat x p q) : q = 1 ∧ IsNum x p := by
  obtain ⟨e1, e2⟩ := rat_plain hs h.2.2.2
  exact ⟨e1, h.2.1, e2⟩
theorem ratB {x a b : Str} {p q : Int} (hs : 47 ∉ a.cps.toList) (ex : x = a ++ Str.ofString "/" ++ b) (h : IsRat x p q) : q ≠ 1 ∧ IsNum a p ∧ IsNum b q := by
  obtain ⟨e0, e1, e2⟩ := rat_slash hs (ex.symm.trans h.2.2.2)
  exact ⟨e0, ⟨h.2.1, e1⟩, ⟨h.2.2.1, e2⟩⟩
theorem num_uniq {x : Str} {m n : Int} (h1 : IsNum x m) (h2 : IsNum x n) : m = n := num_inj h1.1 h2.1 (h1.2.symm.trans h2.2)
theorem rat_inj {x : Str} {p q p' q' : Int} (h1 : IsRat x p q) (h2 : IsRat x p' q') : p = p' ∧ q = q' := by
  rcases cut_slash x with ⟨hs, _⟩ | ⟨a, b, hs, ex, _⟩
  · obtain ⟨a1, a2⟩ := ratA hs h1
    obtain ⟨b1, b2⟩ := ratA hs h2
    exact ⟨num_uniq a2 b2, by rw [a1, b1]⟩
  · obtain ⟨_, a1, a2⟩ := ratB hs ex h1
    obtain ⟨_, b1, b2⟩ := ratB hs ex h2
    exact ⟨num_uniq a1 b1, num_uniq a2 b2⟩
theorem low_self {p q : Int} (h : Low p q) : p / gcdI p q = p ∧ q / gcdI p q = q := (Val.of h.pos).inj (Val.self h) rfl
theorem slash_len : (Str.ofString "/").length = 1 := by decide
theorem empty_len : Str.empty.length = 0 := by decide
theorem nt {p : Prop} [Decidable p] (h : (!decide p) = true) : ¬ p := by simpa using h
theorem nf {p : Prop} [Decidable p] (h : (!decide p) = false) : p := by simpa using h
theorem low_one (n : Int) : Low n 1 := by
  have h0 := gcdI_pos (a := n) (b := 1) (by decide)
  have h1 := gcdI_le (a := n) (b := 1) (by decide)
  have e : gcdI n 1 = 1 := by omega
  have := (low_of (a := n) (b := 1) (by decide)).1
  rw [e] at this
  simpa using this
end U

/-! U15: a list, a tuple or a dict beside a text: they differ. -/
namespace U
open PySem PySem.Spec PyProof.Rows L2 PySem.SeqAt
open AutoSeq1 (wpAny_loadPart')
theorem dict_other (l : Addr) (z : Str) (k : Tok) (dd : Option Addr) (es : Array DictEntry) (ep : Nat) (sl : Array (Option Value)) :
    Meets (Builtin.«dict.__ne__» ⟨[.ref l, .str z k], []⟩)
      (fun _ R s => s.heap.get? l = some { cls := .type "dict", dict := dd, data := .dict es ep, slots := sl } ∧ R (.ok (.ret .notImplemented)) s) :=
  .of_wp fun prog w A R s h => by
    obtain ⟨hp, g, d, tk, os⟩ := s
    obtain ⟨hl, h⟩ := h
    have f1 := F.sub_str_dict
    wp_walk using wpAny_loadPart' hl, wpAny_load hl
    exact ⟨_, rfl, h⟩
theorem str_other (l : Addr) (z : Str) (k : Tok) (dd : Option Addr) (es : Array DictEntry) (ep : Nat) (sl : Array (Option Value)) :
    Meets (Builtin.«str.__ne__» ⟨[.str z k, .ref l], []⟩)
      (fun _ R s => s.heap.get? l = some { cls := .type "dict", dict := dd, data := .dict es ep, slots := sl } ∧ R (.ok (.ret .notImplemented)) s) :=
  .of_wp fun prog w A R s h => by
    obtain ⟨hp, g, d, tk, os⟩ := s
    obtain ⟨hl, h⟩ := h
    wp_walk using wpAny_loadPart' hl, wpAny_load hl
    exact ⟨_, rfl, h⟩
section
variable {X : Cx}
/-- x != a text, x a list, a tuple or a dict -/
def uNeS : R2 := fun x y H Q => ∃ (a : Addr) (z : Str), x = .ref a ∧ y = .str z ∧ ((∃ xs, H a = some (.lst xs)) ∨ (∃ xs, H a = some (.tup xs)) ∨ ∃ kvs, H a = some (.dK kvs)) ∧ Q (.bl true) H
theorem opNeS (hu : X.A.units + 64 < cLine) : OpR X (compareOp .NotEq) uNeS := fun p s σ H x y v u Q I rx ry h => by
  obtain ⟨a, z, rfl, rfl, hk, q⟩ := h
  obtain rfl : v = Value.ref a := rx
  obtain ⟨k, rfl⟩ : ∃ k, u = Value.str z k := ry
  have room : X.A.units < cLine := by omega
  have fin : EP X p σ Q (.bool true) s := ⟨.bl true, H, I, rfl, q⟩
  rcases hk with ⟨xs, e⟩ | ⟨xs, e⟩ | ⟨kvs, e⟩
  · obtain ⟨its, _, hl, _⟩ := I.list (SqL.of e)
    exact RcNeAt.list_str z k hl.isList room X.prog X.w X.xe _ fin
  · obtain ⟨its, _, hl, _⟩ := I.tuple (SqT.of e)
    exact RcNeAt.tuple_str z k hl room X.prog X.w X.xe _ fin
  · obtain ⟨_, _, vs, _, D⟩ := (show ObjOk X.prog X.w H s.heap a (.dK kvs) from I.hok a _ e)
    obtain ⟨o, es, ep, ho, ⟨c1, c2, c3⟩, hd, _⟩ := D
    obtain ⟨cls, dd, data, sl⟩ := o
    simp only at c1 c2 c3 hd
    subst c1 c2 c3 hd
    show wpAny _ _ (richCompare .NotEq (.ref a) (.str z k)) _ _ s
    refine rc_ne_decline_or (k := false) (Ta := "dict") (Tb := "str") ⟨_, ho, rfl⟩ (typeIs_str s z k) (by decide) F.sub_str_dict F.slot_dict_ne F.slot_str_ne_refl ?_ ?_ ?_ (.inr room) fin
    · intro R hR
      exact call_meets F.slot_dict_ne ⟨_, ho, rfl⟩ F.entry_dict_ne (F.args_dict_ne_2 _ _) (dict_other a z k _ es ep _) ⟨ho, hR⟩
    · intro R hR
      exact call_meets F.slot_str_ne_refl (typeIs_str s z k) F.entry_str_ne (F.args_str_ne_2 _ _) (str_other a z k _ es ep _) ⟨ho, hR⟩
    · intro R hR
      exact wpAny_of_eq (rfl : isSame (.ref a) (.str z k) = pure false) hR
/-- a value of any kind beside a text -/
@[irreducible] def uNeT (K : PySem.W.Frag) : R2 := fun x y H Q => match scal x y with | true => Q (.bl (!decide (x = y))) H | false => uNeS x y H Q
theorem opNeT (hu : X.A.units + 64 < cLine) : OpR X (compareOp .NotEq) (uNeT X.K) := fun p s z H x y v u Q I rx ry h => by
  unfold uNeT at h
  split at h
  · exact op_ne p s z H _ _ v u Q I rx ry ⟨by assumption, h⟩
  · exact opNeS hu p s z H _ _ v u Q I rx ry h
theorem neT_str {K : PySem.W.Frag} {a b : Str} {H : Hp} {R : VK} (k : R (.bl (!decide (V.str a = V.str b))) H) : uNeT K (.str a) (.str b) H R := by
  unfold uNeT
  exact k
theorem neT_flat {K : PySem.W.Frag} {v : V} {b : Str} {H : Hp} {R : VK} (h : scal v (.str b) = true) (k : R (.bl (!decide (v = V.str b))) H) : uNeT K v (.str b) H R := by
  unfold uNeT
  rw [h]
  exact k
theorem neT_ref {K : PySem.W.Frag} {a : Addr} {b : Str} {H : Hp} {R : VK} (h : (∃ xs, H a = some (.lst xs)) ∨ (∃ xs, H a = some (.tup xs)) ∨ ∃ kvs, H a = some (.dK kvs)) (k : R (.bl true) H) : uNeT K (.ref a) (.str b) H R := by
  unfold uNeT
  exact ⟨a, b, rfl, rfl, h, k⟩
end
/-- all but the tables and the object at d stay -/
def Kp (d : Addr) (H H' : Hp) : Prop := ∀ b u, H b = some u → (∀ ps, u ≠ .tbl ps) → b ≠ d → H' b = some u
section
variable {K : PySem.W.Frag} {C d : Addr} {H H' H2 : Hp} {v : V} {S : String} {p q : Int} {n : Nat} {o : HO}
theorem Kp.refl (d : Addr) (H : Hp) : Kp d H H := fun _ _ e _ _ => e
theorem Kp.trans (a : Kp d H H') (b : Kp d H' H2) : Kp d H H2 := fun c u e t n => b c u (a c u e t n) t n
theorem Kp.of (g : Gr H H') : Kp d H H' := fun b u e _ _ => g b u e
theorem Kp.dice (f : ∀ b u, H b = some u → b ≠ d → H' b = some u) : Kp d H H' := fun b u e _ n => f b u e n
theorem Kp.ext (f : LamX.ExtN H H') : Kp d H H' := fun b u e t _ => f b u e t
theorem dice_ne (hd : H d = some o) (D : Dice n o) {b : Addr} {C dx : Addr} {fs : List (Str × V)} (e : H b = some (.ins C dx fs)) : b ≠ d := fun z => by
  obtain ⟨a1, a2, a3, rfl, _⟩ := D
  rw [z, hd] at e
  cases e
theorem tup_ne (hd : H d = some o) (D : Dice n o) {b : Addr} {xs : List V} (e : H b = some (.tup xs)) : b ≠ d := fun z => by
  obtain ⟨a1, a2, a3, rfl, _⟩ := D
  rw [z, hd] at e
  cases e
theorem IsR.kp (r : IsR C H v p q) (k : Kp d H H') (hd : H d = some o) (D : Dice n o) : IsR C H' v p q := by
  obtain ⟨a, dx, e, h⟩ := r
  exact ⟨a, dx, e, k _ _ h (fun ps z => by cases z) (dice_ne hd D h)⟩
theorem tyx_kp {t : Value} (h : TyX K H v t) (k : Kp d H H') (ne : v ≠ .ref d) : TyX K H' v t := by
  have go : ∀ {a : Addr} {u : HO}, v = .ref a → H a = some u → (∀ ps, u ≠ .tbl ps) → H' a = some u := fun {a u} ev e t => k a u e t fun z => ne (by rw [ev, z])
  cases h with
  | base b =>
    refine .base ?_
    cases b with
    | non => exact .non
    | bl x => exact .bl x
    | int x => exact .int x
    | str x => exact .str x
    | flt x => exact .flt x
    | lst e => exact .lst (go rfl e (fun _ z => by cases z))
    | frz e => exact .frz (go rfl e (fun _ z => by cases z))
    | tup e => exact .tup (go rfl e (fun _ z => by cases z))
    | dK e => exact .dK (go rfl e (fun _ z => by cases z))
    | dT e => exact .dT (go rfl e (fun _ z => by cases z))
    | ins e c1 c2 c3 c4 c5 => exact .ins (go rfl e (fun _ z => by cases z)) c1 c2 c3 c4 c5
  | byt b => exact .byt b
  | set e => exact .set (go rfl e (fun _ z => by cases z))
  | kList e c => exact .kList e c
  | kTuple e c => exact .kTuple e c
  | kDict e c => exact .kDict e c
  | fTuple e => exact .fTuple (go rfl e (fun _ z => by cases z))
  | fDict e => exact .fDict (go rfl e (fun _ z => by cases z))
theorem Kd.kp (h : Kd K H v S) (k : Kp d H H') (ne : v ≠ .ref d) : Kd K H' v S := ⟨tyx_kp h.1 k ne, h.2⟩
theorem Ob.kp (h : Ob K C H v) (k : Kp d H H') (ne : v ≠ .ref d) (hd : H d = some o) (D : Dice n o) : Ob K C H' v := by
  rcases h with ⟨S, h⟩ | ⟨p, q, h⟩
  · exact .inl ⟨S, h.kp k ne⟩
  · exact .inr ⟨p, q, h.kp k hd D⟩
theorem tabs_dice {T : List (Addr × Str)} (t : LamX.Tabs T H) (f : ∀ b u, H b = some u → b ≠ d → H' b = some u) (hd : H d = some o) (D : Dice n o) : LamX.Tabs T H' := fun p hp => by
  obtain ⟨ps, h1, h2, h3⟩ := t p hp
  have ne : p.1 ≠ d := fun z => by
    obtain ⟨a1, a2, a3, rfl, _⟩ := D
    rw [z, hd] at h1
    cases h1
  refine ⟨ps, f _ _ h1 ne, h2, fun pos cv hc => ?_⟩
  obtain ⟨c, e1, e2⟩ := h3 pos cv hc
  refine ⟨c, e1, f _ _ e2 fun z => ?_⟩
  obtain ⟨a1, a2, a3, rfl, _⟩ := D
  rw [z, hd] at e2
  have e3 := Option.some.inj e2
  unfold LamX.CodeO at e3
  cases e3
end
/-- on the way: what stood at A stands, the dice d, a list at l that grows, and the tables -/
structure Way (T : List (Addr × Str)) (d l : Addr) (o : HO) (A : Hp) (H : Hp) (L : List V) : Prop where
  kp : Kp d A H
  dd : H d = some o
  tb : LamX.Tabs T H
  ll : H l = some (.lst L)
section
variable {T : List (Addr × Str)} {d l : Addr} {o : HO} {A H H' : Hp} {L : List V} {n : Nat}
theorem dice_no_tbl (D : Dice n o) : ∀ ps, o ≠ .tbl ps := fun ps z => by
  obtain ⟨_, _, _, rfl, _⟩ := D
  cases z
theorem Way.lam (s : Way T d l o A H L) (D : Dice n o) (x : LamX.ExtN H H') (t : LamX.Tabs T H') : Way T d l o A H' L := ⟨s.kp.trans (Kp.ext x), x _ _ s.dd (dice_no_tbl D), t, x _ _ s.ll (fun _ z => by cases z)⟩
theorem Way.gr (s : Way T d l o A H L) (g : Gr H H') : Way T d l o A H' L := ⟨s.kp.trans (Kp.of g), g _ _ s.dd, s.tb.ext g, g _ _ s.ll⟩
theorem tabs_set {M L' : List V} (t : LamX.Tabs T H) (e : H l = some (.lst M)) : LamX.Tabs T (upd H l (.lst L')) := fun p hp => by
  obtain ⟨ps, h1, h2, h3⟩ := t p hp
  have n1 : p.1 ≠ l := fun z => by rw [z, e] at h1; cases h1
  refine ⟨ps, by rw [upd_ne n1]; exact h1, h2, fun pos cv hc => ?_⟩
  obtain ⟨c, e1, e2⟩ := h3 pos cv hc
  refine ⟨c, e1, ?_⟩
  have n2 : c ≠ l := fun z => by
    rw [z, e] at e2
    have e3 := Option.some.inj e2
    unfold LamX.CodeO at e3
    cases e3
  rw [upd_ne n2]
  exact e2
theorem Way.set (s : Way T d l o A H L) (h : A l = none) (n : l ≠ d) (L' : List V) : Way T d l o A (upd H l (.lst L')) L' := by
  refine ⟨fun b u e t nb => ?_, ?_, tabs_set s.tb s.ll, upd_same⟩
  · rw [upd_ne (ne_of_none e h)]
    exact s.kp b u e t nb
  · rw [upd_ne (fun z => n z.symm)]
    exact s.dd
theorem Way.app (s : Way T d l o A H L) (h : A l = none) (n : l ≠ d) (y : V) : Way T d l o A (upd H l (.lst (L ++ [y]))) (L ++ [y]) := s.set h n _
/-- one more object is known to stand -/
theorem Way.more (s : Way T d l o A H L) (h : A l = none) {t : Addr} {u : HO} (ht : H t = some u) (nt : ∀ ps, u ≠ .tbl ps) (nl : t ≠ l) : ∃ A' : Hp, A' l = none ∧ A' t = some u ∧ Kp d A A' ∧ Way T d l o A' H L := by
  refine ⟨fun b => if b = t then some u else A b, ?_, if_pos rfl, fun b w e tb nb => ?_, ⟨fun b w e tb nb => ?_, s.dd, s.tb, s.ll⟩⟩
  · show (if l = t then _ else _) = _
    rw [if_neg (fun z => nl z.symm)]
    exact h
  · show (if b = t then _ else _) = _
    by_cases hb : b = t
    · rw [if_pos hb, ← ht, ← hb]
      exact s.kp b w e tb nb
    · rw [if_neg hb]
      exact e
  · by_cases hb : b = t
    · have e' : some u = some w := (if_pos hb).symm.trans e
      rw [hb, ht, e']
    · exact s.kp b w ((if_neg hb).symm.trans e) tb nb
theorem Way.start (g : Gr A H) (hd : A d = some o) (t : LamX.Tabs T A) (e : H l = some (.lst L)) : Way T d l o A H L := ⟨Kp.of g, g _ _ hd, t.ext g, e⟩
end
theorem asc_num (n : Int) : Asc (Str.ofString (toString n)) := fun c hc => by
  rw [num_list] at hc
  rcases List.mem_append.mp hc with h | h
  · by_cases q : n < 0
    · rw [if_pos q] at h
      obtain rfl := List.mem_singleton.mp h
      decide
    · rw [if_neg q] at h; cases h
  · have := digits_are _ c h
    omega
theorem asc_rtext (p q : Int) : Asc (rtext p q) := by
  unfold rtext
  split
  · exact asc_num p
  · refine ((asc_num p).app ?_).app (asc_num q)
    intro c hc
    rw [show (Str.ofString "/").cps.toList = [47] by decide] at hc
    obtain rfl := List.mem_singleton.mp hc
    decide
theorem len_rtext {p q : Int} (hp : p.natAbs < 10 ^ 60) (hq : q.natAbs < 10 ^ 60) : (rtext p q).length ≤ 201 := by
  have h1 := num_short hp
  have h2 := num_short hq
  unfold rtext
  split
  · omega
  · rw [app_len, app_len, slash_len]
    omega
theorem sql_ext {K : PySem.W.Frag} {H H' : Hp} {a : Addr} {xs : List V} (h : SqL K H a xs) (x : LamX.ExtN H H') : SqL K H' a xs := by
  rcases h with (h | ⟨o, h⟩) | h
  · exact .inl (.inl (x _ _ h (fun _ z => by cases z)))
  · exact .inl (.inr ⟨o, x _ _ h (fun _ z => by cases z)⟩)
  · exact .inr h
instance (l : List Nat) : Decidable (Figs l) := by unfold Figs; infer_instance
instance (x : Str) : Decidable (numB x) := by unfold numB; infer_instance
theorem rat_no1 {x : Str} (h : 47 ∉ x.cps.toList) (n : ¬ numB x) (p q : Int) : ¬ IsRat x p q := fun hr => n ((numB_iff _).mpr ⟨_, (ratA h hr).2⟩)
theorem rat_no2 {x a b : Str} (e : x = a ++ Str.ofString "/" ++ b) (h : 47 ∉ a.cps.toList) (n : ¬ numB a ∨ ¬ numB b) (p q : Int) : ¬ IsRat x p q := fun hr => by
  obtain ⟨_, h1, h2⟩ := ratB h e hr
  rcases n with n | n
  · exact n ((numB_iff _).mpr ⟨_, h1⟩)
  · exact n ((numB_iff _).mpr ⟨_, h2⟩)
theorem rat_no3 {x : Str} {n m : Int} (e : x = Str.ofString (toString n) ++ Str.ofString "/" ++ Str.ofString (toString m)) (hn : n.natAbs < 10 ^ 60) (hm : m.natAbs < 10 ^ 60) (no : m = 1 ∨ m ≤ 0 ∨ Nat.gcd n.natAbs m.natAbs ≠ 1) (p q : Int) : ¬ IsRat x p q := fun hr => by
  obtain ⟨h0, h1, h2⟩ := ratB (num_no47 n) e hr
  obtain rfl := num_uniq h1 ⟨hn, rfl⟩
  obtain rfl := num_uniq h2 ⟨hm, rfl⟩
  have := hr.1.pos
  rcases no with z | z | z
  · exact h0 z
  · omega
  · exact z hr.1.one
end U

/-! U16: binary texts, least common multiples. -/
namespace U
open PySem PySem.Spec PyProof.Rows L2 PySem.Builtin PySem.Builtin.Str PySem.Builtin.Int PySem.Builtin.Float
/-- the binary text of a number -/
def biT (n : Nat) : Str := ⟨((Nat.toDigits 2 n).map Char.toNat).toArray⟩
def specB : FormatSpec := { align := 62, type := some 98 }
theorem parse_b : parseFormatSpec (Str.ofString "b").cps.toList "int" 62 = .ok specB := by rfl
section
variable {prog : Program} {w : World} {A : Around} {E : Value → Shared → Prop} {s : Shared}
theorem field_b {n : Nat} {k : Tok} {Q : Value → Shared → Prop} (hl : (biT n).length ≤ 1000000) (h : Q (.str (biT n) (s.toks + 1)) { s with toks := s.toks + 1 + 1 }) : wpAny (model prog w) A (formatField (.int (n : Int) k) (Str.ofString "b")) Q E s := by
  have big : (biT n).length ≤ sizeLine := small_ok hl
  show wpAny _ _ (holding [.int (n : Int) k] (pyFormat (.int (n : Int) k) (Str.ofString "b"))) Q E s
  refine wpAny_holding ?_
  unfold pyFormat
  refine wpAny_bind (wpAny_mkStr ?_ (by decide))
  refine wpAny_bind (m := callSpecial? (.int (n : Int) k) (Str.ofString "__format__") [.str (Str.ofString "b") s.toks])
    (wpAny_callSpecial?_slot (name := Str.ofString "__format__") (typeIs_int _ (n : Int) k) F.slot_int_format ?_)
  refine wpAny_call (codeAny_call_builtin F.slot_int_format.plain F.entry_int_format (F.slot_int_format.check _ _ _ _ _ _ _ _ (typeIs_int _ (n : Int) k) (F.args_int_format_2 _ _) ?_))
  unfold Builtin.«int.__format__»
  simp only [selfAndOne, noKeywords, intOfSelf, asInt?, asStr?, List.isEmpty_nil, if_true, pure_bind, bind_pure, bind_assoc, Bool.false_eq_true, if_false, show (Value.str (Str.ofString "b") s.toks == Value.none) = false from rfl, show ((Str.ofString "b").length == 0) = false from rfl]
  refine wpAny_bind (wpAny_typeNameOf (T := "str") (typeIs_str _ _ _) (by decide) fun _ => ?_)
  rw [if_neg (by decide)]
  refine wpAny_bind (wpAny_typeNameOfCut_int ?_)
  simp only [parse_b]
  rw [if_pos (by decide)]
  suffices hh : ∀ y : Str, y = biT n → wpAny (model prog w) A.in1 (retStr y) _ _ _ from hh _ (by
    refine str_ext ?_
    have ne : (Nat.toDigits 2 n).map Char.toNat ≠ [] := fun z => Nat.toDigits_ne_nil (List.map_eq_nil_iff.mp z)
    rw [show decide ((n : Int) < 0) = false from decide_eq_false (by omega), show ((n : Int)).natAbs = n from Int.natAbs_natCast n]
    have eD : (biT n).cps.toList = (Nat.toDigits 2 n).map Char.toNat := by unfold biT; simp
    rw [eD]
    change (_ : Str).cps.toList = _
    generalize hD : (Nat.toDigits 2 n).map Char.toNat = D at ne ⊢
    cases D with
    | nil => exact absurd rfl ne
    | cons c r =>
      have e1 := hD
      change List.map (fun z : Char => (if (specB.type.getD (if ((Str.ofString "b").cps.back? == some 0) = true then 0 else 100) == 88) = true then z.toUpper else z).toNat) (Nat.toDigits 2 n) = c :: r at e1
      rw [e1]
      have p0 : ∀ m : Nat, ((-1 : Int) - 0 - (m : Int)).toNat = 0 := fun m => by omega
      show List.replicate (((-1 : Int) - 0 - ((List.replicate (0 - (c :: r).length) 48 ++ c :: r).length : Int)).toNat) 32 ++ [] ++ [] ++ [] ++ (List.replicate (0 - (c :: r).length) 48 ++ c :: r) ++ [] ++ [] = c :: r
      rw [p0, show 0 - (c :: r).length = 0 by omega]
      simp)
  intro y ey
  subst ey
  unfold retStr
  refine wpAny_bind (wpAny_mkStr (wpAny_pure ?_) big)
  dsimp only
  refine wpAny_bind (wpAny_isInstance (typeIs_str _ _ _) isSubtype_str_str (wpAny_pure ?_))
  exact h
end
section
variable {X : Cx}
/-- f"{e:b}" of a natural number -/
def tFmtB (te : TE) : TE := fun σ H Q => te σ H fun x H1 => ∃ n : Nat, x = .int (n : Int) ∧ (biT n).length ≤ 1000000 ∧ Q (.str (biT n)) H1
theorem pe_fmtB {e : Expr} {te : TE} {j p1 p2 p3} (he : PE X e te) : PE X (.FormattedValue e (-1) (some (.JoinedStr [.Constant (.str (Str.ofString "b")) j p1] p2)) p3) (tFmtB te) := by
  refine ⟨fun pins s σ H Q I h => ?_⟩
  refine wpAny_FormattedValue_spec (thn (he.run pins s σ H _ I h) fun v s1 hv => ?_)
  obtain ⟨x, H1, I1, r1, n, rfl, hl, q⟩ := hv
  obtain ⟨k, rfl⟩ := r1
  refine thn ((pe_joined1 (X := X) (pe_str (x := Str.ofString "b"))).run pins s1 σ H1 (fun y H2 => y = .str (Str.ofString "b") ∧ H2 = H1) I1 ⟨rfl, rfl⟩) fun r s2 hr => ?_
  obtain ⟨y, H2, I2, r2, rfl, rfl⟩ := hr
  obtain ⟨t, rfl⟩ := r2
  exact ⟨_, t, rfl, field_b hl ⟨.str (biT n), H2, I2.tok _, ⟨_, rfl⟩, q⟩⟩
end
/-- base raised by binary figures -/
def sqm (b : Nat) (cs : List Nat) : Nat := cs.foldl (fun r c => if c = 49 then r * r * b else r * r) 1
theorem sqm_snoc (b : Nat) (cs : List Nat) (c : Nat) : sqm b (cs ++ [c]) = if c = 49 then sqm b cs * sqm b cs * b else sqm b cs * sqm b cs := by
  unfold sqm; rw [List.foldl_append]; rfl
/-- the number of binary figures -/
def vl2 (cs : List Nat) : Nat := cs.foldl (fun r c => if c = 49 then 2 * r + 1 else 2 * r) 0
theorem vl2_snoc (cs : List Nat) (c : Nat) : vl2 (cs ++ [c]) = if c = 49 then 2 * vl2 cs + 1 else 2 * vl2 cs := by
  unfold vl2; rw [List.foldl_append]; rfl
theorem snoc_ind {P : List Nat → Prop} (h0 : P []) (h : ∀ xs c, P xs → P (xs ++ [c])) (xs : List Nat) : P xs := by
  have : ∀ l : List Nat, P l.reverse := fun l => by
    induction l with
    | nil => exact h0
    | cons a l ih => rw [List.reverse_cons]; exact h _ _ ih
  rw [← xs.reverse_reverse]
  exact this _
theorem vl2_le (xs : List Nat) : ∀ ys, vl2 xs ≤ vl2 (xs ++ ys) := by
  intro ys
  refine snoc_ind (P := fun ys => vl2 xs ≤ vl2 (xs ++ ys)) (by simp) (fun ys c ih => ?_) ys
  rw [← List.append_assoc, vl2_snoc]
  split <;> omega
theorem vl2_take (xs : List Nat) (i : Nat) : vl2 (xs.take i) ≤ vl2 xs := by
  have h := vl2_le (xs.take i) (xs.drop i)
  rwa [List.take_append_drop] at h
theorem sqm_pow (b : Nat) (cs : List Nat) : sqm b cs = b ^ vl2 cs := by
  refine snoc_ind (P := fun cs => sqm b cs = b ^ vl2 cs) rfl (fun ys c ih => ?_) cs
  rw [sqm_snoc, vl2_snoc, ih]
  split
  · rw [Nat.pow_succ, Nat.two_mul, Nat.pow_add]
  · rw [Nat.two_mul, Nat.pow_add]
theorem vl2_bin : ∀ n : Nat, vl2 ((Nat.toDigits 2 n).map Char.toNat) = n := by
  intro n
  induction n using Nat.strongRecOn with
  | ind n ih =>
    by_cases h : n < 2
    · have : n = 0 ∨ n = 1 := by omega
      rcases this with rfl | rfl <;> simp [vl2, Nat.toDigits, Nat.toDigitsCore, Nat.digitChar]
    · rw [Nat.toDigits_of_base_le (by decide) (by omega), List.map_append, List.map_cons, List.map_nil, vl2_snoc, ih (n / 2) (by omega)]
      have hm : n % 2 = 0 ∨ n % 2 = 1 := by omega
      rcases hm with h0 | h0 <;> rw [h0] <;> simp [Nat.digitChar] <;> omega
theorem sqm_bin (b n : Nat) : sqm b ((Nat.toDigits 2 n).map Char.toNat) = b ^ n := by rw [sqm_pow, vl2_bin]
theorem log_pow {b k v : Nat} (h : b ≤ 2 ^ k) : (b ^ v).log2 ≤ k * v := by
  have h1 : b ^ v ≤ 2 ^ (k * v) := by rw [Nat.pow_mul]; exact Nat.pow_le_pow_left h v
  by_cases h0 : b ^ v = 0
  · rw [h0]; simp
  · have := (Nat.log2_lt h0 (k := k * v + 1)).mpr (Nat.lt_of_le_of_lt h1 (Nat.pow_lt_pow_right (by decide) (by omega)))
    omega
theorem log_le {a k : Nat} (h : a < 2 ^ (k + 1)) : a.log2 ≤ k := by
  by_cases h0 : a = 0
  · rw [h0]; simp
  · have := (Nat.log2_lt h0).mpr h
    omega
theorem biT_len (n : Nat) (k : Nat) (h : n < 2 ^ k) (hk : 0 < k) : (biT n).length ≤ k := by
  have e : (biT n).length = (Nat.toDigits 2 n).length := by simp [biT, Str.length]
  rw [e]
  exact (Nat.length_toDigits_le_iff (by decide) hk).mpr h
end U

/-! U17: zips of tuples; loops that only grow the heap; weights. -/
namespace U
open PySem PySem.Spec PyProof.Rows L2
section
variable {K : PySem.W.Frag} {a b : Addr} {xs ys : List V}
theorem walk_zipT {n : Nat} (hn : n = min xs.length ys.length) : Walk (RZ.ItzT K a b) n (fun H => SqT K H a xs ∧ SqT K H b ys) (YPair (fun i => xs[i]?) (fun i => ys[i]?)) := by
  subst hn
  refine ⟨fun i _ hi q => ?_, fun _ q => ⟨xs, ys, q.1, q.2, by omega⟩, fun i H v H' _ q y => ?_⟩
  · have h1 : i < xs.length := by omega
    have h2 : i < ys.length := by omega
    exact ⟨xs, ys, xs[i], ys[i], q.1, q.2, by simp [h1], by simp [h2]⟩
  · obtain ⟨T, x, z, h1, h2, h3, h4, h5⟩ := y
    exact ⟨T, x, z, h1, h2, h3, h4 xs q.1, h5 ys q.2⟩
/-- a new list of xs that grows -/
theorem Gr.app {H Hm : Hp} {D : Addr} {o : HO} (hD : H D = none) (g : Gr H Hm) : Gr H (upd Hm D o) := fun b u eb => by rw [upd_ne (ne_of_none eb hD)]; exact g b u eb
theorem all_true (n : Nat) : (List.replicate n true).all id = true := by
  rw [List.all_eq_true]
  intro b hb
  rw [List.eq_of_mem_replicate hb]
  rfl
/-- a weight with its name, as a pair -/
def PairW (H : Hp) (v : V) (w : Str × Nat × Nat) : Prop := ∃ r p, v = .ref r ∧ H r = some (.tup [.str w.1, .ref p]) ∧ H p = some (.tup [.int (w.2.1 : Int), .int (w.2.2 : Int)])
theorem PairW.up {H H' : Hp} {v : V} {w : Str × Nat × Nat} (h : PairW H v w) (g : Gr H H') : PairW H' v w := by
  obtain ⟨r, p, e, h1, h2⟩ := h
  exact ⟨r, p, e, g _ _ h1, g _ _ h2⟩
/-- the items as they stand -/
def WtL (H : Hp) (xs : List V) (ws : List (Str × Nat × Nat)) : Prop := xs.length = ws.length ∧ ∀ (i : Nat) (x : V) (w : Str × Nat × Nat), xs[i]? = some x → ws[i]? = some w → PairW H x w
theorem WtL.up {H H' : Hp} {xs : List V} {ws : List (Str × Nat × Nat)} (h : WtL H xs ws) (g : Gr H H') : WtL H' xs ws := ⟨h.1, fun i x w a b => (h.2 i x w a b).up g⟩
theorem WtL.at {H : Hp} {xs : List V} {ws : List (Str × Nat × Nat)} {i : Nat} {x : V} (h : WtL H xs ws) (hx : xs[i]? = some x) : ∃ w, ws[i]? = some w ∧ PairW H x w := by
  have hi := (List.getElem?_eq_some_iff.mp hx).1
  have hi2 : i < ws.length := by rw [← h.1]; exact hi
  exact ⟨ws[i], by simp [hi2], h.2 i x ws[i] hx (by simp [hi2])⟩
theorem take_snoc {α β : Type} {ws : List α} {i : Nat} {w : α} (f : α → β) (h : ws[i]? = some w) : (ws.take (i + 1)).map f = (ws.take i).map f ++ [f w] := by
  rw [List.take_add_one, h, List.map_append]
  rfl
end
section
variable {X : Cx} {e : Expr} {te : TE} {p apos cpos pos : Pos}
theorem vals_of : ∀ {xs : List V} {us : List Value}, xs.length = us.length → (∀ (j : Nat) (x : V) (u : Value), xs[j]? = some x → us[j]? = some u → RelV x u) → Vals xs us
  | [], [], _, _ => .nil
  | [], _ :: _, h, _ => by cases h
  | _ :: _, [], h, _ => by cases h
  | x :: xs, u :: us, h, q => .cons (q 0 x u rfl rfl) (vals_of (Nat.succ.inj h) fun j y v a b => q (j + 1) y v a b)
/-- list(e.values()) -/
def tListVals (te : TE) : TE := fun σ H Q => te σ H fun x H1 => ∃ (d : Addr) (kvs : List (Key × V)), x = .ref d ∧ H1 d = some (.dK kvs) ∧ ∀ l, H1 l = none → Q (.ref l) (upd H1 l (.lst (kvs.map Prod.snd)))
theorem pe_listVals (hc : X.calm = true) (he : PE X e te) (hg : Gl X "list") (hm : X.mg "list" = none) (hv : bootBuiltins "list" = some (.type "list")) (hbase : attributeBase e "values" X.env (eval e X.env) = eval e X.env := by rfl) (hline : (apos.endLine == cpos.line) = true := by rfl)
    (hs : starEach [.Call (.Attribute e "values" apos) [] [] cpos] X.env = (false, eval (.Call (.Attribute e "values" apos) [] [] cpos) X.env) :: starEach [] X.env := by rfl) :
    PE X (.Call (.Name "list" p) [.Call (.Attribute e "values" apos) [] [] cpos] [] pos) (tListVals te) := by
  refine ⟨fun pins s σ H Q I hq => ?_⟩
  refine wpAny_Call_Name_kw (ld_blt I hg hm hv ?_)
  refine PyProof.Rows.callWith_type1 ?_ hs rfl
  rw [hs]
  show wpAny _ _ (spliced ((false, eval (.Call (.Attribute e "values" apos) [] [] cpos) X.env) :: backTo pos (starEach [] X.env))) _ _ s
  refine Calls.spliced_cons ?_
  refine wpAny_Call_method (T := "dict") (id := "dict.values") hbase rfl hline F.plainAttrs_dict F.slot_dict_values F.type_dict_values (thn (he.run pins s σ H _ I hq) fun u s1 ⟨x, H1, I1, rx, d, kvs, ex, hd, q⟩ => ?_)
  subst ex
  obtain rfl : u = Value.ref d := rx
  obtain ⟨hz, hs0, vs, kv, hdo⟩ := I1.hok d _ hd
  obtain ⟨ep, hat⟩ := hdo.dictAt
  have lk : kvs.length = vs.length := Paired.length kv
  have I2 : Inv X pins σ H1 { s1 with heap := s1.heap.push { cls := .type "dict_values", data := .fields #[.ref d] } } := I1.kept (t' := s1.toks) fun b ob q => Heap.get?_push_of_some _ q
  refine ⟨hdo.typeIs, hdo.mapOf.noDict, ?_⟩
  show wpAny _ _ (callWith cpos (.builtin "dict.values") [.ref d] [] []) _ X.xe s1
  refine method_meetsIn F.slot_dict_values F.entry_dict_values rfl (PySem.evalArgs_none ⟨rfl, hdo.typeIs, F.args_dict_values_1 _, _, meets_dict_values (mixKind X.prog X.w) d hs0, ⟨vs, hdo⟩, ?_⟩)
  refine Calls.spliced_nil ?_
  refine PySem.W.kdl_call (PySem.W.kdl_values (knd := mixKind X.prog X.w) (kvs := vs) (ep := ep) (d := d)) (I1.ok.hd hc) ⟨⟨_, Heap.get?_push_size _ rfl, rfl, rfl⟩, hat.push _⟩ (by omega) fun h' tk acc c hk hS hacc => ?_
  have hv2 : Vals (kvs.map Prod.snd) acc.toList := by
    refine vals_of ((List.length_map _).trans (lk.trans (hacc.1.symm.trans Array.length_toList.symm))) fun j x u hx hu => ?_
    obtain ⟨k, hk2⟩ := hacc.2 j u (by rw [← Array.getElem?_toList]; exact hu)
    obtain ⟨y, hy, ry⟩ := KV.at' kv hk2
    rw [List.getElem?_map, hy] at hx
    cases hx
    exact ry
  exact ⟨.ref _, _, I2.laid (t' := tk) hk (Nat.le_refl _) (show ObjOk X.prog X.w _ h' _ (.lst (kvs.map Prod.snd)) from ⟨by rw [List.length_map]; omega, acc.toList, c, hv2, by rw [Array.toArray_toList]; exact hS⟩), rfl, q _ (I2.hok.fresh (Nat.le_refl _))⟩
end
/-- weights that are let, up to 1 -/
structure OKW (ws : List (Str × Nat × Nat)) : Prop where
  few : ws.length ≤ 1000
  up : ∀ (i : Nat) (x y : Str × Nat × Nat), ws[i]? = some x → ws[i + 1]? = some y → x.1.cps.toList < y.1.cps.toList
  ne : ∀ (i j : Nat) (x y : Str × Nat × Nat), i < j → ws[i]? = some x → ws[j]? = some y → x.1 ≠ y.1
  nums : ∀ w ∈ ws, (1 ≤ w.2.1 ∧ w.2.1 ≤ 1000) ∧ (1 ≤ w.2.2 ∧ w.2.2 ≤ 1000) ∧ Nat.gcd w.2.1 w.2.2 = 1
/-- the dict of weights: the ratios by their names -/
def RatK (C : Addr) (H : Hp) (kvs : List (Key × V)) (ws : List (Str × Nat × Nat)) : Prop :=
  kvs.length = ws.length ∧ ∀ (i : Nat) (k : Key × V) (w : Str × Nat × Nat), kvs[i]? = some k → ws[i]? = some w → k.1 = .inr w.1 ∧ IsR C H k.2 (w.2.1 : Int) (w.2.2 : Int)
theorem RatK.up {C : Addr} {H H' : Hp} {kvs : List (Key × V)} {ws : List (Str × Nat × Nat)} (h : RatK C H kvs ws) (g : Gr H H') : RatK C H' kvs ws := ⟨h.1, fun i k w a b => ⟨(h.2 i k w a b).1, (h.2 i k w a b).2.up g⟩⟩
theorem RatK.nil {C : Addr} {H : Hp} : RatK C H [] [] := ⟨rfl, fun i k w a _ => by simp at a⟩
theorem snoc_at {α : Type} {xs : List α} {x y : α} {i : Nat} (h : (xs ++ [x])[i]? = some y) : xs[i]? = some y ∨ (i = xs.length ∧ y = x) := by
  rcases Nat.lt_trichotomy i xs.length with hi | hi | hi
  · left; rwa [List.getElem?_append_left hi] at h
  · right; subst hi; simp at h; exact ⟨rfl, h.symm⟩
  · rw [List.getElem?_append_right (by omega)] at h
    rw [List.getElem?_eq_none (by simp; omega)] at h
    cases h
theorem RatK.snoc {C : Addr} {H : Hp} {kvs : List (Key × V)} {ws : List (Str × Nat × Nat)} {w : Str × Nat × Nat} {v : V} (h : RatK C H kvs ws) (hw : IsR C H v (w.2.1 : Int) (w.2.2 : Int)) : RatK C H (kvs ++ [(.inr w.1, v)]) (ws ++ [w]) := by
  refine ⟨by simp [h.1], fun i k u hk hu => ?_⟩
  rcases snoc_at hk with a | ⟨a, rfl⟩
  · have hi := (List.getElem?_eq_some_iff.mp a).1
    rw [List.getElem?_append_left (by rw [← h.1]; exact hi)] at hu
    exact h.2 i k u a hu
  · rw [a, h.1] at hu
    simp at hu
    subst hu
    exact ⟨rfl, hw⟩
theorem putK_new {kvs : List (Key × V)} {k : Key} {v : V} (h : ∀ p ∈ kvs, p.1 ≠ k) : putK kvs k v = kvs ++ [(k, v)] := by
  unfold putK
  rw [if_neg]
  intro e
  obtain ⟨p, hp, e2⟩ := List.any_eq_true.mp e
  exact h p hp (of_decide_eq_true e2)
theorem gcd_one {t b : Nat} (h : Nat.gcd t b = 1) : gcdI (t : Int) (b : Int) = 1 := by
  unfold gcdI
  rw [Int.natAbs_natCast, Int.natAbs_natCast, h]
  rfl
theorem IsR.off {C : Addr} {H : Hp} {v : V} {p q : Int} {D : Addr} {l : List (Key × V)} {o : HO} (r : IsR C H v p q) (hd : H D = some (.dK l)) : IsR C (upd H D o) v p q := by
  obtain ⟨a, dx, e, h⟩ := r
  exact ⟨a, dx, e, by rw [upd_ne (fun z => by rw [z, hd] at h; cases h)]; exact h⟩
theorem RatK.off {C : Addr} {H : Hp} {kvs l : List (Key × V)} {ws : List (Str × Nat × Nat)} {D : Addr} {o : HO} (h : RatK C H kvs ws) (hd : H D = some (.dK l)) : RatK C (upd H D o) kvs ws :=
  ⟨h.1, fun i k w a b => ⟨(h.2 i k w a b).1, (h.2 i k w a b).2.off hd⟩⟩
/-- the least common multiple of the bottoms -/
def lcmW (ws : List (Str × Nat × Nat)) : Nat := ws.foldl (fun r w => Nat.lcm r w.2.2) 1
theorem lcmW_snoc (ws : List (Str × Nat × Nat)) (w : Str × Nat × Nat) : lcmW (ws ++ [w]) = Nat.lcm (lcmW ws) w.2.2 := by
  unfold lcmW; rw [List.foldl_append]; rfl
theorem lcm_fold_dvd (ws : List (Str × Nat × Nat)) : ∀ a : Nat, a ∣ ws.foldl (fun r w => Nat.lcm r w.2.2) a := by
  induction ws with
  | nil => intro a; exact Nat.dvd_refl a
  | cons w ws ih => intro a; exact Nat.dvd_trans (Nat.dvd_lcm_left a w.2.2) (ih _)
theorem lcmW_take (ws : List (Str × Nat × Nat)) (i : Nat) : lcmW (ws.take i) ∣ lcmW ws := by
  have e : lcmW ws = (ws.drop i).foldl (fun r w => Nat.lcm r w.2.2) (lcmW (ws.take i)) := by
    unfold lcmW
    rw [← List.foldl_append, List.take_append_drop]
  rw [e]
  exact lcm_fold_dvd _ _
theorem lcmW_pos {ws : List (Str × Nat × Nat)} (h : ∀ w ∈ ws, 1 ≤ w.2.2) : 0 < lcmW ws := by
  unfold lcmW
  suffices ∀ a : Nat, 0 < a → 0 < ws.foldl (fun r w => Nat.lcm r w.2.2) a from this 1 (by decide)
  induction ws with
  | nil => intro a h; exact h
  | cons w ws ih => intro a ha; exact ih (fun u hu => h u (List.mem_cons_of_mem _ hu)) _ (Nat.lcm_pos ha (h w List.mem_cons_self))
theorem lcmW_le {ws : List (Str × Nat × Nat)} (h : ∀ w ∈ ws, 1 ≤ w.2.2) (i : Nat) : lcmW (ws.take i) ≤ lcmW ws := Nat.le_of_dvd (lcmW_pos h) (lcmW_take ws i)
theorem lcmW_dvd {ws : List (Str × Nat × Nat)} {w : Str × Nat × Nat} (h : w ∈ ws) : w.2.2 ∣ lcmW ws := by
  obtain ⟨i, hi, e⟩ := List.getElem_of_mem h
  have h1 := lcmW_take ws (i + 1)
  rw [List.take_add_one, show ws[i]? = some w by rw [← e]; simp [hi], show (some w).toList = [w] from rfl, lcmW_snoc] at h1
  exact Nat.dvd_trans (Nat.dvd_lcm_right _ _) h1
section
variable {X : Cx}
def rLcm : List V → Hp → VK → Prop := fun vs H Q => ∃ a b : Int, vs = [.int a, .int b] ∧ a.natAbs < 2 ^ 64 ∧ b.natAbs < 2 ^ 64 ∧ Q (.int ((Nat.lcm a.natAbs b.natAbs : Nat) : Int)) H
theorem cr_lcm : CallR X (.builtin "math.lcm") rLcm := by
  intro pins s σ H vs us Q I r h
  obtain ⟨a, b, rfl, h1, h2, q⟩ := h
  obtain ⟨t, u, rfl⟩ := Vals.int2 r
  exact PySem.W.mc_lcm h1 h2 fun _ => ⟨.int _, H, I.tok _, ⟨_, rfl⟩, q⟩
end
theorem Gr.unlock {H Hm : Hp} {d : Addr} {o p : HO} (hd : H d = some o) (g : Gr (upd H d p) Hm) : Gr H (upd Hm d o) := fun b u e => by
  by_cases h : b = d
  · subst h; rw [upd_same]; rw [hd] at e; exact e
  · rw [upd_ne h]; exact g b u (by rw [upd_ne h]; exact e)
theorem any_false (n : Nat) : (List.replicate n false).any id = false := by
  rw [List.any_eq_false]
  intro b hb
  rw [List.eq_of_mem_replicate hb]
  decide
theorem hu1 {u : Nat} (h : u + 64 < cLine) : u + 1 < cLine := by omega
/-- the dict of counts -/
def ck (cs : List (Str × Nat)) : List (Key × V) := cs.map fun c => (.inr c.1, .int (c.2 : Int))
/-- the count of a name -/
def cnt (cs : List (Str × Nat)) (z : Str) : Option Nat := (cs.find? fun c => decide (c.1 = z)).map (·.2)
theorem ck_val (cs : List (Str × Nat)) (z : Str) : valV (ck cs) (.inr z) = (cnt cs z).map fun (n : Nat) => V.int (n : Int) := by
  unfold valV ck cnt
  induction cs with
  | nil => rfl
  | cons c cs ih =>
    rw [List.map_cons, List.find?_cons, List.find?_cons]
    by_cases h : c.1 = z
    · simp [h]
    · simp only [show ¬ (Sum.inr c.1 : Key) = .inr z from fun e => h (Sum.inr.inj e), h, decide_false]
      exact ih
def cntD (cs : List (Str × Nat)) (z : Str) : Nat := (cnt cs z).getD 0
theorem cntD_le {cs : List (Str × Nat)} {m : Nat} (h : ∀ c ∈ cs, c.2 ≤ m) (z : Str) : cntD cs z ≤ m := by
  unfold cntD cnt
  cases e : cs.find? fun c => decide (c.1 = z) with
  | none => exact Nat.zero_le _
  | some c => exact h c (List.mem_of_find?_eq_some e)
/-- the product of the counts, raised by the weights times L -/
def prodW (cs : List (Str × Nat)) (L : Nat) (ws : List (Str × Nat × Nat)) : Nat := ws.foldl (fun p w => p * cntD cs w.1 ^ (w.2.1 * (L / w.2.2))) 1
theorem prodW_snoc (cs : List (Str × Nat)) (L : Nat) (ws : List (Str × Nat × Nat)) (w : Str × Nat × Nat) : prodW cs L (ws ++ [w]) = prodW cs L ws * cntD cs w.1 ^ (w.2.1 * (L / w.2.2)) := by
  unfold prodW; rw [List.foldl_append]; rfl
theorem exp_le {L t b : Nat} (h : t ≤ b) : t * (L / b) ≤ L := Nat.le_trans (Nat.mul_le_mul_right _ h) (Nat.mul_div_le L b)
theorem fac_le {cs : List (Str × Nat)} (h : ∀ c ∈ cs, c.2 ≤ 2000) {L : Nat} (hL : L ≤ 24) {w : Str × Nat × Nat} (hw : w.2.1 ≤ w.2.2) : cntD cs w.1 ^ (w.2.1 * (L / w.2.2)) ≤ 2 ^ 264 := by
  have h1 : cntD cs w.1 ≤ 2 ^ 11 := Nat.le_trans (cntD_le h _) (by decide)
  have h2 := exp_le (L := L) hw
  calc cntD cs w.1 ^ (w.2.1 * (L / w.2.2)) ≤ (2 ^ 11) ^ (w.2.1 * (L / w.2.2)) := Nat.pow_le_pow_left h1 _
    _ ≤ (2 ^ 11) ^ 24 := Nat.pow_le_pow_right (by decide) (by omega)
    _ = 2 ^ 264 := by rw [← Nat.pow_mul]
theorem prodW_take {cs : List (Str × Nat)} (h : ∀ c ∈ cs, c.2 ≤ 2000) {L : Nat} (hL : L ≤ 24) {ws : List (Str × Nat × Nat)} (hw : ∀ w ∈ ws, w.2.1 ≤ w.2.2) (i : Nat) : prodW cs L (ws.take i) ≤ 2 ^ (264 * i) := by
  induction i with
  | zero => simp [prodW]
  | succ i ih =>
    by_cases hi : i < ws.length
    · rw [List.take_add_one, show ws[i]? = some ws[i] by simp [hi], show (some ws[i]).toList = [ws[i]] from rfl, prodW_snoc, show 264 * (i + 1) = 264 * i + 264 by omega, Nat.pow_add]
      exact Nat.mul_le_mul ih (fac_le h hL (hw _ (List.getElem_mem hi)))
    · rw [List.take_of_length_le (by omega)]
      rw [List.take_of_length_le (by omega)] at ih
      exact Nat.le_trans ih (Nat.pow_le_pow_right (by decide) (by omega))
theorem log_of_le {a k : Nat} (h : a ≤ 2 ^ k) : a.log2 ≤ k := log_le (Nat.lt_of_le_of_lt h (Nat.pow_lt_pow_right (by decide) (by omega)))
/-- the least multiplier is that of the least common multiple -/
theorem least_mul {f b j : Nat} (hf : 0 < f) (hb : 0 < b) (hn : ∀ m, 1 ≤ m → m ≤ j → ¬ b ∣ f * m) (h : b ∣ f * (j + 1)) : f * (j + 1) = Nat.lcm f b := by
  have d1 : Nat.lcm f b ∣ f * (j + 1) := Nat.lcm_dvd (Nat.dvd_mul_right f (j + 1)) h
  have l1 : Nat.lcm f b ≤ f * (j + 1) := Nat.le_of_dvd (Nat.mul_pos hf (by omega)) d1
  obtain ⟨q, hq⟩ := Nat.dvd_lcm_left f b
  have p0 := Nat.lcm_pos hf hb
  have hq0 : 1 ≤ q := by
    rcases Nat.eq_zero_or_pos q with h0 | h0
    · rw [h0, Nat.mul_zero] at hq; omega
    · exact h0
  have hq1 : j + 1 ≤ q := by
    refine Nat.lt_of_not_le fun z => hn q hq0 z ?_
    rw [← hq]; exact Nat.dvd_lcm_right f b
  have l2 : f * (j + 1) ≤ f * q := Nat.mul_le_mul_left f hq1
  omega
theorem has_mul {f b : Nat} (hf : 0 < f) (hb : 0 < b) (h : Nat.lcm f b ≤ 24) : ¬ ∀ m, 1 ≤ m → m ≤ 24 → ¬ b ∣ f * m := fun hn => by
  obtain ⟨q, hq⟩ := Nat.dvd_lcm_left f b
  have p0 := Nat.lcm_pos hf hb
  have hq0 : 1 ≤ q := by
    rcases Nat.eq_zero_or_pos q with h0 | h0
    · rw [h0, Nat.mul_zero] at hq; omega
    · exact h0
  have : q ≤ f * q := Nat.le_mul_of_pos_left q hf
  refine hn q hq0 (by omega) ?_
  rw [← hq]; exact Nat.dvd_lcm_right f b
theorem div_mul_iff (x b : Nat) : (((x : Int) / (b : Int)) * (b : Int) = (x : Int)) ↔ b ∣ x := by
  rw [← Int.natCast_ediv, ← Int.natCast_mul]
  refine ⟨fun h => ⟨x / b, ?_⟩, fun h => ?_⟩
  · have := Int.ofNat.inj h
    rw [Nat.mul_comm]; exact this.symm
  · rw [Nat.div_mul_cancel h]
/-- weights and counts that make a bound -/
structure BndW (H : Hp) (a d : Addr) (ws : List (Str × Nat × Nat)) (cs : List (Str × Nat)) : Prop where
  wts : ∃ xs, H a = some (.tup xs) ∧ WtL H xs ws
  ok : OKW ws
  one : ∀ w ∈ ws, w.2.1 ≤ w.2.2
  few : ws.length ≤ 5
  low : lcmW ws ≤ 24
  cts : H d = some (.dK (ck cs))
  few' : cs.length ≤ 1000
  lim : ∀ c ∈ cs, c.2 ≤ 2000
  has : ∀ w ∈ ws, (cnt cs w.1).isSome = true
end U

/-! U18: drawn weights. -/
namespace U
open PySem PySem.Spec PyProof.Rows L2
def names8 : List Str := ["g", "h", "i", "j", "k", "r", "s", "t"]
def goodP (p : Nat × Nat) : Prop := p ∈ [(1, 1), (1, 2), (1, 3), (2, 3), (1, 4), (3, 4), (5, 6), (1, 24)]
theorem goodP_num {p : Nat × Nat} (h : goodP p) : 1 ≤ p.1 ∧ p.1 ≤ p.2 ∧ p.2 ≤ 24 ∧ Nat.gcd p.1 p.2 = 1 ∧ p.2 ∣ 24 := by
  have e : ([(1, 1), (1, 2), (1, 3), (2, 3), (1, 4), (3, 4), (5, 6), (1, 24)] : List (Nat × Nat)).all (fun p => decide (1 ≤ p.1 ∧ p.1 ≤ p.2 ∧ p.2 ≤ 24 ∧ Nat.gcd p.1 p.2 = 1 ∧ p.2 ∣ 24)) = true := by decide +kernel
  exact of_decide_eq_true (List.all_eq_true.mp e p h)
theorem names8_up : names8.Pairwise fun x y => x.cps.toList < y.cps.toList := by decide +kernel
theorem lcm_24 {ws : List (Str × Nat × Nat)} (h : ∀ w ∈ ws, w.2.2 ∣ 24) : lcmW ws ∣ 24 := by
  unfold lcmW
  suffices ∀ a : Nat, a ∣ 24 → ws.foldl (fun r w => Nat.lcm r w.2.2) a ∣ 24 from this 1 (by decide)
  induction ws with
  | nil => intro a h; exact h
  | cons w ws ih => intro a ha; exact ih (fun u hu => h u (List.mem_cons_of_mem _ hu)) _ (Nat.lcm_dvd ha (h w List.mem_cons_self))
/-- drawn weights: some of the names, in their order -/
structure DrW (ws : List (Str × Nat × Nat)) : Prop where
  sub : (ws.map (·.1)).Sublist names8
  good : ∀ w ∈ ws, goodP w.2
  few : ws.length ≤ 5
theorem DrW.pw {ws : List (Str × Nat × Nat)} (h : DrW ws) : ws.Pairwise fun x y => x.1.cps.toList < y.1.cps.toList :=
  (List.pairwise_map (f := fun w : Str × Nat × Nat => w.1) (R := fun x y : Str => x.cps.toList < y.cps.toList)).mp (List.Pairwise.sublist h.sub names8_up)
theorem DrW.ok {ws : List (Str × Nat × Nat)} (h : DrW ws) : OKW ws := by
  have pw := List.pairwise_iff_getElem.mp h.pw
  have lt : ∀ (i j : Nat) (x y : Str × Nat × Nat), i < j → ws[i]? = some x → ws[j]? = some y → x.1.cps.toList < y.1.cps.toList := fun i j x y hij hx hy => by
    obtain ⟨hi, rfl⟩ := List.getElem?_eq_some_iff.mp hx
    obtain ⟨hj, rfl⟩ := List.getElem?_eq_some_iff.mp hy
    exact pw i j hi hj hij
  refine ⟨by have := h.few; omega, fun i x y hx hy => lt i (i + 1) x y (by omega) hx hy, fun i j x y hij hx hy e => ?_, fun w hw => ?_⟩
  · have := lt i j x y hij hx hy
    rw [e] at this
    exact List.lt_irrefl _ this
  · have := goodP_num (h.good w hw)
    exact ⟨⟨this.1, by omega⟩, ⟨by omega, by omega⟩, this.2.2.2.1⟩
theorem DrW.one {ws : List (Str × Nat × Nat)} (h : DrW ws) : ∀ w ∈ ws, w.2.1 ≤ w.2.2 := fun w hw => (goodP_num (h.good w hw)).2.1
theorem DrW.low {ws : List (Str × Nat × Nat)} (h : DrW ws) : lcmW ws ≤ 24 := Nat.le_of_dvd (by decide) (lcm_24 fun w hw => (goodP_num (h.good w hw)).2.2.2.2)
theorem DrW.mem {ws : List (Str × Nat × Nat)} (h : DrW ws) : ∀ w ∈ ws, w.1 ∈ names8 := fun w hw => h.sub.subset (List.mem_map.mpr ⟨w, hw, rfl⟩)
/-- roots are one -/
theorem root_one {r s L P : Nat} (h1 : r ^ L ≤ P) (h2 : P < (r + 1) ^ L) (h3 : s ^ L ≤ P) (h4 : P < (s + 1) ^ L) : r = s := by
  have a : r < s + 1 := Nat.lt_of_not_le fun z => absurd (Nat.lt_of_lt_of_le h4 (Nat.pow_le_pow_left z L)) (by omega)
  have b : s < r + 1 := Nat.lt_of_not_le fun z => absurd (Nat.lt_of_lt_of_le h2 (Nat.pow_le_pow_left z L)) (by omega)
  omega
theorem root_up {r s L P P' : Nat} (h1 : r ^ L ≤ P) (h : P ≤ P') (h4 : P' < (s + 1) ^ L) : r ≤ s := by
  have a : r < s + 1 := Nat.lt_of_not_le fun z => absurd (Nat.lt_of_lt_of_le h4 (Nat.pow_le_pow_left z L)) (by omega)
  omega
theorem prodW_up {cs cs' : List (Str × Nat)} {L : Nat} (ws : List (Str × Nat × Nat)) (h : ∀ w ∈ ws, cntD cs w.1 ≤ cntD cs' w.1) : prodW cs L ws ≤ prodW cs' L ws := by
  unfold prodW
  suffices ∀ a b : Nat, a ≤ b → ws.foldl (fun p w => p * cntD cs w.1 ^ (w.2.1 * (L / w.2.2))) a ≤ ws.foldl (fun p w => p * cntD cs' w.1 ^ (w.2.1 * (L / w.2.2))) b from this 1 1 (Nat.le_refl _)
  induction ws with
  | nil => intro a b h; exact h
  | cons w ws ih => intro a b hab; exact ih (fun u hu => h u (List.mem_cons_of_mem _ hu)) _ _ (Nat.mul_le_mul hab (Nat.pow_le_pow_left (h w List.mem_cons_self) _))
/-- a pair of the pools -/
def PairAt (H : Hp) (t : V) : Prop := ∃ (a b : Nat), goodP (a, b) ∧ ∃ x, t = .ref x ∧ H x = some (.tup [.int (a : Int), .int (b : Int)])
theorem PairAt.up {H H' : Hp} {t : V} (h : PairAt H t) (g : Gr H H') : PairAt H' t := let ⟨a, b, c, x, e, z⟩ := h; ⟨a, b, c, x, e, g _ _ z⟩
theorem PairAt.keep {H H' : Hp} {t : V} {d : Addr} {l : List V} (h : PairAt H t) (s : ∀ b u, H b = some u → b ≠ d → H' b = some u) (hd : H d = some (.lst l)) : PairAt H' t :=
  let ⟨a, b, c, x, e, z⟩ := h; ⟨a, b, c, x, e, s _ _ z fun q => by rw [q, hd] at z; cases z⟩
def PoolAt (H : Hp) (d : Addr) (v : V) : Prop := ∃ (a : Addr) (ts : List V), v = .ref a ∧ a ≠ d ∧ H a = some (.lst ts) ∧ 0 < ts.length ∧ ts.length ≤ 10 ∧ ∀ t ∈ ts, PairAt H t
theorem PoolAt.up {H H' : Hp} {d : Addr} {v : V} (h : PoolAt H d v) (g : Gr H H') : PoolAt H' d v := let ⟨a, ts, e, n, z, l, m, q⟩ := h; ⟨a, ts, e, n, g _ _ z, l, m, fun t ht => (q t ht).up g⟩
theorem pools_2 {H : Hp} {x y : V} (h1 : PairAt H x) (h2 : PairAt H y) : ∀ t ∈ [x, y], PairAt H t := fun t ht => by
  simp only [List.mem_cons, List.not_mem_nil, or_false] at ht
  rcases ht with rfl | rfl <;> assumption
theorem pools_3 {H : Hp} {x y z : V} (h1 : PairAt H x) (h2 : PairAt H y) (h3 : PairAt H z) : ∀ t ∈ [x, y, z], PairAt H t := fun t ht => by
  simp only [List.mem_cons, List.not_mem_nil, or_false] at ht
  rcases ht with rfl | rfl | rfl <;> assumption
theorem rep_one (x : V) (k : Nat) (h : k ≤ 1) : (List.replicate k [x]).flatten.length ≤ 1 ∧ ∀ t ∈ (List.replicate k [x]).flatten, t = x := by
  rcases Nat.lt_or_ge k 1 with h0 | h0
  · obtain rfl : k = 0 := by omega
    simp
  · obtain rfl : k = 1 := by omega
    simp
theorem PairW.keep {H H' : Hp} {v : V} {w : Str × Nat × Nat} {d : Addr} {l : List V} (h : PairW H v w) (s : ∀ b u, H b = some u → b ≠ d → H' b = some u) (hd : H d = some (.lst l)) : PairW H' v w := by
  obtain ⟨r, p, e, h1, h2⟩ := h
  exact ⟨r, p, e, s _ _ h1 (fun q => by rw [q, hd] at h1; cases h1), s _ _ h2 (fun q => by rw [q, hd] at h2; cases h2)⟩
theorem WtL.keep {H H' : Hp} {xs : List V} {ws : List (Str × Nat × Nat)} {d : Addr} {l : List V} (h : WtL H xs ws) (s : ∀ b u, H b = some u → b ≠ d → H' b = some u) (hd : H d = some (.lst l)) : WtL H' xs ws :=
  ⟨h.1, fun i x w a b => (h.2 i x w a b).keep s hd⟩
theorem WtL.snoc {H : Hp} {xs : List V} {ws : List (Str × Nat × Nat)} {x : V} {w : Str × Nat × Nat} (h : WtL H xs ws) (hx : PairW H x w) : WtL H (xs ++ [x]) (ws ++ [w]) := by
  refine ⟨by simp [h.1], fun i k u hk hu => ?_⟩
  rcases snoc_at hk with a | ⟨a, rfl⟩
  · have hi := (List.getElem?_eq_some_iff.mp a).1
    rw [List.getElem?_append_left (by rw [← h.1]; exact hi)] at hu
    exact h.2 i k u a hu
  · rw [a, h.1] at hu
    simp at hu
    subst hu
    exact hx
def names5 : List Str := ["g", "h", "i", "j", "k"]
/-- the weights as they are drawn -/
structure LpW (d : Addr) (B Hm : Hp) (n i : Nat) (wa : Addr) (ws : List (Str × Nat × Nat)) : Prop where
  keep : ∀ b u, B b = some u → b ≠ d → Hm b = some u
  dice : ∃ o, Hm d = some o ∧ Dice (n + 2 * i) o
  wts : ∃ xs, Hm wa = some (.tup xs) ∧ WtL Hm xs ws
  sub : (ws.map (·.1)).Sublist (names5.take i)
  good : ∀ w ∈ ws, goodP w.2
theorem LpW.draw {d : Addr} {B Hm : Hp} {n : Nat} {wa : Addr} {ws : List (Str × Nat × Nat)} (h : LpW d B Hm n 5 wa ws) : DrW ws := by
  have h5 : names5.take 5 = names5 := rfl
  have sb := h.sub
  rw [h5] at sb
  refine ⟨sb.trans (by decide +kernel), h.good, ?_⟩
  have := sb.length_le
  rw [List.length_map] at this
  exact this
/-- the counts as they are drawn -/
structure LpC (d pd : Addr) (B Hm : Hp) (n i : Nat) (cs : List (Str × Nat)) : Prop where
  keep : ∀ b u, B b = some u → b ≠ d → Hm b = some u
  dice : ∃ o, Hm d = some o ∧ Dice (n + 3 * i) o
  dct : Hm pd = some (.dK (ck cs))
  nms : cs.map (·.1) = names5.take i
  lim : ∀ c ∈ cs, c.2 ≤ 2000
theorem names5_nd : names5.Nodup := by decide +kernel
theorem put_ck {cs : List (Str × Nat)} {z : Str} {m : Nat} (h : z ∉ cs.map (·.1)) : putK (ck cs) (.inr z) (.int (m : Int)) = ck (cs ++ [(z, m)]) := by
  rw [putK_new]
  · unfold ck; rw [List.map_append]; rfl
  · intro p hp e
    obtain ⟨c, hc, rfl⟩ := List.mem_map.mp hp
    exact h (List.mem_map.mpr ⟨c, hc, Sum.inr.inj e⟩)
theorem names5_not {i : Nat} {z : Str} (h : names5[i]? = some z) : z ∉ names5.take i := fun hm => by
  obtain ⟨j, hj, e⟩ := List.getElem_of_mem hm
  rw [List.length_take] at hj
  rw [List.getElem_take] at e
  obtain ⟨hi, e2⟩ := List.getElem?_eq_some_iff.mp h
  have := (List.getElem_inj (h₀ := by omega) (h₁ := hi) names5_nd).mp (e.trans e2.symm)
  omega
theorem cnt_has {cs : List (Str × Nat)} {z : Str} (h : z ∈ cs.map (·.1)) : (cnt cs z).isSome = true := by
  obtain ⟨c, hc, e⟩ := List.mem_map.mp h
  unfold cnt
  rw [Option.isSome_map, List.find?_isSome]
  exact ⟨c, hc, by simpa using e⟩
theorem merge_ck : ∀ (more acc : List (Str × Nat)), ((acc ++ more).map (·.1)).Nodup → mergeK (ck acc) (ck more) = ck (acc ++ more)
  | [], acc, _ => by simp [ck, mergeK]
  | c :: more, acc, h => by
    have e : acc ++ c :: more = (acc ++ [c]) ++ more := by simp
    have hn : c.1 ∉ acc.map (·.1) := fun hm => by
      rw [List.map_append, List.map_cons] at h
      exact (List.nodup_append.mp h).2.2 _ hm _ List.mem_cons_self rfl
    show mergeK (putK (ck acc) (.inr c.1) (.int (c.2 : Int))) (ck more) = _
    rw [put_ck hn, merge_ck more (acc ++ [c]) (by rw [← e]; exact h), e]
theorem cntD_up {cs cs' : List (Str × Nat)} (h : Paired (fun c c' => c.1 = c'.1 ∧ c.2 ≤ c'.2) cs cs') (z : Str) : cntD cs z ≤ cntD cs' z := by
  unfold cntD cnt
  induction h with
  | nil => exact Nat.le_refl _
  | @cons c c' cs cs' hc ht ih =>
    rw [List.find?_cons, List.find?_cons, ← hc.1]
    by_cases e : c.1 = z
    · simp [e]; exact hc.2
    · simp only [e, decide_false]; exact ih
theorem BndW.up {H H' : Hp} {a d : Addr} {ws : List (Str × Nat × Nat)} {cs : List (Str × Nat)} (h : BndW H a d ws cs) (g : Gr H H') : BndW H' a d ws cs :=
  ⟨let ⟨xs, h1, h2⟩ := h.wts; ⟨xs, g _ _ h1, h2.up g⟩, h.ok, h.one, h.few, h.low, g _ _ h.cts, h.few', h.lim, h.has⟩
theorem cnt_at : ∀ {cs : List (Str × Nat)} {i : Nat} {c : Str × Nat}, (cs.map (·.1)).Nodup → cs[i]? = some c → cnt cs c.1 = some c.2
  | [], i, c, _, h => by simp at h
  | b :: cs, 0, c, _, h => by
    simp at h
    subst h
    simp [cnt]
  | b :: cs, i + 1, c, hn, h => by
    have h' : cs[i]? = some c := by simpa using h
    have hn' := List.nodup_cons.mp hn
    have ne : ¬ b.1 = c.1 := fun e => hn'.1 (by show b.1 ∈ _; rw [e]; exact List.mem_map.mpr ⟨c, List.mem_of_getElem? h', rfl⟩)
    have ih := cnt_at hn'.2 h'
    unfold cnt at ih ⊢
    rw [List.find?_cons]
    simp only [ne, decide_false]
    exact ih
/-- the greater counts as they are made -/
structure LpM (d D : Addr) (B Hm : Hp) (n i : Nat) (cs cs' : List (Str × Nat)) (ps : List Addr) : Prop where
  keep : ∀ b u, B b = some u → b ≠ d → Hm b = some u
  dice : ∃ o, Hm d = some o ∧ Dice (n + i) o
  lst : Hm D = some (.lst (ps.map V.ref))
  par : Paired (fun c c' => c.1 = c'.1 ∧ c.2 ≤ c'.2) (cs.take i) cs'
  lim : ∀ c ∈ cs', c.2 ≤ 2000
  tup : Paired (fun (p : Addr) (kv : Key × V) => Hm p = some (.tup [kV kv.1, kv.2])) ps (ck cs')
theorem paired_up {α β : Type} {F G : α → β → Prop} {xs : List α} {ys : List β} (h : Paired F xs ys) (hf : ∀ x y, F x y → G x y) : Paired G xs ys := by
  induction h with
  | nil => exact .nil
  | cons a t ih => exact .cons (hf _ _ a) ih
theorem paired_fst {cs cs' : List (Str × Nat)} (h : Paired (fun c c' => c.1 = c'.1 ∧ c.2 ≤ c'.2) cs cs') : cs.map (·.1) = cs'.map (·.1) := by
  induction h with
  | nil => rfl
  | cons a t ih => rw [List.map_cons, List.map_cons, a.1, ih]
theorem drw_nil : DrW [] := ⟨List.nil_sublist _, fun w h => by simp at h, by decide⟩
theorem wtl_nil {H : Hp} : WtL H [] [] := ⟨rfl, fun i x w a b => by simp at a⟩
theorem bnd_lit {H : Hp} {a d : Addr} {ws : List (Str × Nat × Nat)} {cs : List (Str × Nat)} {xs : List V} (ha : H a = some (.tup xs)) (hw : WtL H xs ws) (hd : H d = some (.dK (ck cs))) (w : DrW ws) (few : cs.length ≤ 1000) (lim : ∀ c ∈ cs, c.2 ≤ 2000) (has : ∀ w ∈ ws, (cnt cs w.1).isSome = true) : BndW H a d ws cs :=
  ⟨⟨xs, ha, hw⟩, w.ok, w.one, w.few, w.low, hd, few, lim, has⟩
instance {p : Nat × Nat} : Decidable (goodP p) := by unfold goodP; exact inferInstance
end U

namespace Law
open PySem PySem.Spec PyProof.Rows L2 U
/-! ### the text by places -/
def top (i : Nat) : Stmt := PySem.Challenge.pw_touchrows_k39_whole_bounds_are_roots.main.body.getD i (.Pass ⟨0, 0, 0, 0⟩)
abbrev s__law_dice : Stmt := top 36
abbrev s__law_roll : Stmt := top 37
abbrev s__law_pick : Stmt := top 38
abbrev s_is_name : Stmt := top 12
abbrev s_is_ascending_names : Stmt := top 13
abbrev s_is_integer : Stmt := top 10
abbrev s__is_weight : Stmt := top 27
abbrev s_is_weights : Stmt := top 26
abbrev s_Ratio_bottom : Stmt := inClass (top 22) 3
abbrev s_Ratio_top : Stmt := inClass (top 22) 2
abbrev s_Ratio_is_less : Stmt := inClass (top 22) 10
abbrev s_Ratio___init__ : Stmt := inClass (top 22) 0
abbrev s_common_bottom : Stmt := top 29
abbrev s__is_small : Stmt := top 33
abbrev s_ratios_of : Stmt := top 28
abbrev s_is_count : Stmt := top 11
abbrev s__is_counts : Stmt := top 34
abbrev s_power : Stmt := top 3
abbrev s_root : Stmt := top 4
abbrev s_bound : Stmt := top 32
abbrev s__law_common : Stmt := top 40
abbrev s__law_times : Stmt := top 39
abbrev s__law_is_root : Stmt := top 41
abbrev s__law_right : Stmt := top 42
abbrev s_law : Stmt := top 43
theorem sc__law_dice : FnScope ["_law_script", "_law_spot", "_law_cell", "_law_great", "_law_left"] ["_law_script", "_law_spot"] (defScope s__law_dice) := ⟨rfl, rfl, rfl, by decide +kernel, rfl, by decide +kernel, by decide +kernel⟩
theorem sc__law_roll : FnScope ["_law_dice_here", "_law_total", "_law_found", "_law_one", "_law_two"] ["_law_dice_here", "_law_total"] (defScope s__law_roll) := ⟨rfl, rfl, rfl, by decide +kernel, rfl, by decide +kernel, by decide +kernel⟩
theorem sc__law_pick : FnScope ["_law_dice_here", "_law_items"] ["_law_dice_here", "_law_items"] (defScope s__law_pick) := ⟨rfl, rfl, rfl, by decide +kernel, rfl, by decide +kernel, by decide +kernel⟩
theorem sc_is_name : FnScope ["value", "letter"] ["value"] (defScope s_is_name) := ⟨rfl, rfl, rfl, by decide +kernel, rfl, by decide +kernel, by decide +kernel⟩
theorem sc_is_ascending_names : FnScope ["value", "name", "low", "high"] ["value"] (defScope s_is_ascending_names) := ⟨rfl, rfl, rfl, by decide +kernel, rfl, by decide +kernel, by decide +kernel⟩
theorem sc_is_integer : FnScope ["value"] ["value"] (defScope s_is_integer) := ⟨rfl, rfl, rfl, by decide +kernel, rfl, by decide +kernel, by decide +kernel⟩
theorem sc__is_weight : FnScope ["value", "one"] ["value"] (defScope s__is_weight) := ⟨rfl, rfl, rfl, by decide +kernel, rfl, by decide +kernel, by decide +kernel⟩
theorem sc_is_weights : FnScope ["value", "one"] ["value"] (defScope s_is_weights) := ⟨rfl, rfl, rfl, by decide +kernel, rfl, by decide +kernel, by decide +kernel⟩
theorem sc_Ratio_bottom : FnScope ["self"] ["self"] (defScope s_Ratio_bottom) := ⟨rfl, rfl, rfl, by decide +kernel, rfl, by decide +kernel, by decide +kernel⟩
theorem sc_Ratio_top : FnScope ["self"] ["self"] (defScope s_Ratio_top) := ⟨rfl, rfl, rfl, by decide +kernel, rfl, by decide +kernel, by decide +kernel⟩
theorem sc_Ratio_is_less : FnScope ["self", "value"] ["self", "value"] (defScope s_Ratio_is_less) := ⟨rfl, rfl, rfl, by decide +kernel, rfl, by decide +kernel, by decide +kernel⟩
theorem sc_Ratio___init__ : FnScope ["self", "top", "bottom", "common"] ["self", "top", "bottom"] (defScope s_Ratio___init__) := ⟨rfl, rfl, rfl, by decide +kernel, rfl, by decide +kernel, by decide +kernel⟩
theorem sc_common_bottom : FnScope ["ratios", "common", "ratio"] ["ratios"] (defScope s_common_bottom) := ⟨rfl, rfl, rfl, by decide +kernel, rfl, by decide +kernel, by decide +kernel⟩
theorem sc__is_small : FnScope ["ratios", "ratio"] ["ratios"] (defScope s__is_small) := ⟨rfl, rfl, rfl, by decide +kernel, rfl, by decide +kernel, by decide +kernel⟩
theorem sc_ratios_of : FnScope ["weights", "name", "pair"] ["weights"] (defScope s_ratios_of) := ⟨rfl, rfl, rfl, by decide +kernel, rfl, by decide +kernel, by decide +kernel⟩
theorem sc_is_count : FnScope ["value"] ["value"] (defScope s_is_count) := ⟨rfl, rfl, rfl, by decide +kernel, rfl, by decide +kernel, by decide +kernel⟩
theorem sc__is_counts : FnScope ["value", "weights", "name", "_", "one"] ["value", "weights"] (defScope s__is_counts) := ⟨rfl, rfl, rfl, by decide +kernel, rfl, by decide +kernel, by decide +kernel⟩
theorem sc_power : FnScope ["base", "exponent", "result", "figure"] ["base", "exponent"] (defScope s_power) := ⟨rfl, rfl, rfl, by decide +kernel, rfl, by decide +kernel, by decide +kernel⟩
theorem sc_root : FnScope ["number", "exponent", "low", "high", "middle"] ["number", "exponent"] (defScope s_root) := ⟨rfl, rfl, rfl, by decide +kernel, rfl, by decide +kernel, by decide +kernel⟩
theorem sc_bound : FnScope ["weights", "counts", "ratios", "common", "product", "name", "ratio"] ["weights", "counts"] (defScope s_bound) := ⟨rfl, rfl, rfl, by decide +kernel, rfl, by decide +kernel, by decide +kernel⟩
theorem sc__law_common : FnScope ["_law_weights", "_law_found", "_law_name", "_law_pair", "_law_more"] ["_law_weights"] (defScope s__law_common) := ⟨rfl, rfl, rfl, by decide +kernel, rfl, by decide +kernel, by decide +kernel⟩
theorem sc__law_times : FnScope ["_law_number", "_law_many", "_law_found", "_law_turn"] ["_law_number", "_law_many"] (defScope s__law_times) := ⟨rfl, rfl, rfl, by decide +kernel, rfl, by decide +kernel, by decide +kernel⟩
theorem sc__law_is_root : FnScope ["_law_told", "_law_weights", "_law_counts", "_law_bottom", "_law_product", "_law_name", "_law_pair"] ["_law_told", "_law_weights", "_law_counts"] (defScope s__law_is_root) := ⟨rfl, rfl, rfl, by decide +kernel, rfl, by decide +kernel, by decide +kernel⟩
theorem sc__law_right : FnScope ["_law_dice_here", "_law_names", "_law_weights", "_law_pools", "_law_pool", "_law_name", "_law_counts", "_law_told", "_law_more"] ["_law_dice_here"] (defScope s__law_right) := ⟨rfl, rfl, rfl, by decide +kernel, rfl, by decide +kernel, by decide +kernel⟩
theorem sc_law : FnScope ["_law_script", "_law_spot", "_law_dice_here", "_law_turn", "_law_half", "_law_third", "_law_told"] ["_law_script"] (defScope s_law) := ⟨rfl, rfl, rfl, by decide +kernel, rfl, by decide +kernel, by decide +kernel⟩
/-- what the top leaves -/
structure Txt (K : PySem.W.Frag) (mg : Str → Option Value) where
  c_Ratio : Addr
  g_Ratio : mg "Ratio" = some (.ref c_Ratio)
  o_Ratio : OwnC K c_Ratio
  f_Ratio__bottom : NoAttr K c_Ratio "_bottom"
  f_Ratio__top : NoAttr K c_Ratio "_top"
  a__law_dice : Addr
  d__law_dice : FuncData
  g__law_dice : mg "_law_dice" = some (.ref a__law_dice)
  F__law_dice : Fun K "_law_dice" "_law_dice" s__law_dice a__law_dice d__law_dice
  B__law_dice : Binds K d__law_dice ["_law_script", "_law_spot"] []
  a__law_roll : Addr
  d__law_roll : FuncData
  g__law_roll : mg "_law_roll" = some (.ref a__law_roll)
  F__law_roll : Fun K "_law_roll" "_law_roll" s__law_roll a__law_roll d__law_roll
  B__law_roll : Binds K d__law_roll ["_law_dice_here", "_law_total"] []
  a__law_pick : Addr
  d__law_pick : FuncData
  g__law_pick : mg "_law_pick" = some (.ref a__law_pick)
  F__law_pick : Fun K "_law_pick" "_law_pick" s__law_pick a__law_pick d__law_pick
  B__law_pick : Binds K d__law_pick ["_law_dice_here", "_law_items"] []
  a_is_name : Addr
  d_is_name : FuncData
  g_is_name : mg "is_name" = some (.ref a_is_name)
  F_is_name : Fun K "is_name" "is_name" s_is_name a_is_name d_is_name
  B_is_name : Binds K d_is_name ["value"] []
  a_is_ascending_names : Addr
  d_is_ascending_names : FuncData
  g_is_ascending_names : mg "is_ascending_names" = some (.ref a_is_ascending_names)
  F_is_ascending_names : Fun K "is_ascending_names" "is_ascending_names" s_is_ascending_names a_is_ascending_names d_is_ascending_names
  B_is_ascending_names : Binds K d_is_ascending_names ["value"] []
  a_is_integer : Addr
  d_is_integer : FuncData
  g_is_integer : mg "is_integer" = some (.ref a_is_integer)
  F_is_integer : Fun K "is_integer" "is_integer" s_is_integer a_is_integer d_is_integer
  B_is_integer : Binds K d_is_integer ["value"] []
  a__is_weight : Addr
  d__is_weight : FuncData
  g__is_weight : mg "_is_weight" = some (.ref a__is_weight)
  F__is_weight : Fun K "_is_weight" "_is_weight" s__is_weight a__is_weight d__is_weight
  B__is_weight : Binds K d__is_weight ["value"] []
  a_is_weights : Addr
  d_is_weights : FuncData
  g_is_weights : mg "is_weights" = some (.ref a_is_weights)
  F_is_weights : Fun K "is_weights" "is_weights" s_is_weights a_is_weights d_is_weights
  B_is_weights : Binds K d_is_weights ["value"] []
  a_Ratio_bottom : Addr
  d_Ratio_bottom : FuncData
  F_Ratio_bottom : Fun K "bottom" "Ratio.bottom" s_Ratio_bottom a_Ratio_bottom d_Ratio_bottom
  B_Ratio_bottom : Binds K d_Ratio_bottom ["self"] []
  p_Ratio_bottom : Addr
  P_Ratio_bottom : PropOf K c_Ratio "bottom" p_Ratio_bottom a_Ratio_bottom
  a_Ratio_top : Addr
  d_Ratio_top : FuncData
  F_Ratio_top : Fun K "top" "Ratio.top" s_Ratio_top a_Ratio_top d_Ratio_top
  B_Ratio_top : Binds K d_Ratio_top ["self"] []
  p_Ratio_top : Addr
  P_Ratio_top : PropOf K c_Ratio "top" p_Ratio_top a_Ratio_top
  a_Ratio_is_less : Addr
  d_Ratio_is_less : FuncData
  F_Ratio_is_less : Fun K "is_less" "Ratio.is_less" s_Ratio_is_less a_Ratio_is_less d_Ratio_is_less
  B_Ratio_is_less : Binds K d_Ratio_is_less ["self", "value"] []
  M_Ratio_is_less : Meth K c_Ratio "is_less" a_Ratio_is_less
  a_Ratio___init__ : Addr
  d_Ratio___init__ : FuncData
  F_Ratio___init__ : Fun K "__init__" "Ratio.__init__" s_Ratio___init__ a_Ratio___init__ d_Ratio___init__
  B_Ratio___init__ : Binds K d_Ratio___init__ ["self", "top", "bottom"] []
  K_Ratio : Mk K c_Ratio a_Ratio___init__
  a_common_bottom : Addr
  d_common_bottom : FuncData
  g_common_bottom : mg "common_bottom" = some (.ref a_common_bottom)
  F_common_bottom : Fun K "common_bottom" "common_bottom" s_common_bottom a_common_bottom d_common_bottom
  B_common_bottom : Binds K d_common_bottom ["ratios"] []
  a__is_small : Addr
  d__is_small : FuncData
  g__is_small : mg "_is_small" = some (.ref a__is_small)
  F__is_small : Fun K "_is_small" "_is_small" s__is_small a__is_small d__is_small
  B__is_small : Binds K d__is_small ["ratios"] []
  a_ratios_of : Addr
  d_ratios_of : FuncData
  g_ratios_of : mg "ratios_of" = some (.ref a_ratios_of)
  F_ratios_of : Fun K "ratios_of" "ratios_of" s_ratios_of a_ratios_of d_ratios_of
  B_ratios_of : Binds K d_ratios_of ["weights"] []
  a_is_count : Addr
  d_is_count : FuncData
  g_is_count : mg "is_count" = some (.ref a_is_count)
  F_is_count : Fun K "is_count" "is_count" s_is_count a_is_count d_is_count
  B_is_count : Binds K d_is_count ["value"] []
  a__is_counts : Addr
  d__is_counts : FuncData
  g__is_counts : mg "_is_counts" = some (.ref a__is_counts)
  F__is_counts : Fun K "_is_counts" "_is_counts" s__is_counts a__is_counts d__is_counts
  B__is_counts : Binds K d__is_counts ["value", "weights"] []
  a_power : Addr
  d_power : FuncData
  g_power : mg "power" = some (.ref a_power)
  F_power : Fun K "power" "power" s_power a_power d_power
  B_power : Binds K d_power ["base", "exponent"] []
  a_root : Addr
  d_root : FuncData
  g_root : mg "root" = some (.ref a_root)
  F_root : Fun K "root" "root" s_root a_root d_root
  B_root : Binds K d_root ["number", "exponent"] []
  a_bound : Addr
  d_bound : FuncData
  g_bound : mg "bound" = some (.ref a_bound)
  F_bound : Fun K "bound" "bound" s_bound a_bound d_bound
  B_bound : Binds K d_bound ["weights", "counts"] []
  a__law_common : Addr
  d__law_common : FuncData
  g__law_common : mg "_law_common" = some (.ref a__law_common)
  F__law_common : Fun K "_law_common" "_law_common" s__law_common a__law_common d__law_common
  B__law_common : Binds K d__law_common ["_law_weights"] []
  a__law_times : Addr
  d__law_times : FuncData
  g__law_times : mg "_law_times" = some (.ref a__law_times)
  F__law_times : Fun K "_law_times" "_law_times" s__law_times a__law_times d__law_times
  B__law_times : Binds K d__law_times ["_law_number", "_law_many"] []
  a__law_is_root : Addr
  d__law_is_root : FuncData
  g__law_is_root : mg "_law_is_root" = some (.ref a__law_is_root)
  F__law_is_root : Fun K "_law_is_root" "_law_is_root" s__law_is_root a__law_is_root d__law_is_root
  B__law_is_root : Binds K d__law_is_root ["_law_told", "_law_weights", "_law_counts"] []
  a__law_right : Addr
  d__law_right : FuncData
  g__law_right : mg "_law_right" = some (.ref a__law_right)
  F__law_right : Fun K "_law_right" "_law_right" s__law_right a__law_right d__law_right
  B__law_right : Binds K d__law_right ["_law_dice_here"] []
  a_law : Addr
  d_law : FuncData
  g_law : mg "law" = some (.ref a_law)
  F_law : Fun K "law" "law" s_law a_law d_law
  B_law : Binds K d_law ["_law_script"] []
  b_abs : mg "abs" = none
  b_all : mg "all" = none
  b_any : mg "any" = none
  b_bool : mg "bool" = none
  b_dict : mg "dict" = none
  b_int : mg "int" = none
  b_isinstance : mg "isinstance" = none
  b_len : mg "len" = none
  b_list : mg "list" = none
  b_max : mg "max" = none
  b_min : mg "min" = none
  b_range : mg "range" = none
  b_str : mg "str" = none
  b_tuple : mg "tuple" = none
  b_zip : mg "zip" = none
  i_gcd : mg "gcd" = some (.builtin "math.gcd")
  i_lcm : mg "lcm" = some (.builtin "math.lcm")
  t_BEYOND : Tok
  v_BEYOND : mg "BEYOND" = some (.int 1000000000000000000000000000000000000000000000000000000000000 t_BEYOND)
  t_LETTERS : Tok
  v_LETTERS : mg "LETTERS" = some (.str "abcdefghijklmnopqrstuvwxyz" t_LETTERS)
  t_MAX_COMMON_BOTTOM : Tok
  v_MAX_COMMON_BOTTOM : mg "MAX_COMMON_BOTTOM" = some (.int 24 t_MAX_COMMON_BOTTOM)
  t_MAX_LETTERS : Tok
  v_MAX_LETTERS : mg "MAX_LETTERS" = some (.int 8 t_MAX_LETTERS)
  t_MAX_ROWS : Tok
  v_MAX_ROWS : mg "MAX_ROWS" = some (.int 2000 t_MAX_ROWS)
section
variable {P : Program} {w : World} {K : PySem.W.Frag} {mg : Str → Option Value} {base : Heap}
def sp__law_dice (K : PySem.W.Frag) : Sp := fun vs H Q _ => ∃ (a : Addr) (ns : List Int) (i : Nat), vs = [.ref a, .int i] ∧ SqL K H a (ns.map V.int) ∧ i ≤ 100 ∧
  ∀ (H' : Hp) (p : Addr) (o : HO), (∀ b u, H b = some u → H' b = some u) → H p = none → H' p = some o → Dice 0 o → Q (.ref p) H'
theorem dice_fits {c : Int} {i : Nat} (hi : i ≤ 100) (k : Int) (hk : 0 ≤ k ∧ k ≤ 1) : Dice 0 (.lst [.int (max 0 ((c.natAbs : Int) - 10 ^ Int.toNat 17) % (10 ^ Int.toNat 60 * 10 ^ Int.toNat 60)), .int ((c.natAbs : Int) % 10 ^ Int.toNat 58 % 2147483563 * 41 + 709 * i + 17 * k + 3), .int 0]) := by
  have h1 := Int.emod_nonneg (max 0 ((c.natAbs : Int) - 10 ^ Int.toNat 17)) (show (10 ^ Int.toNat 60 * 10 ^ Int.toNat 60 : Int) ≠ 0 by decide)
  have h2 := Int.emod_lt_of_pos (max 0 ((c.natAbs : Int) - 10 ^ Int.toNat 17)) (show (0 : Int) < 10 ^ Int.toNat 60 * 10 ^ Int.toNat 60 by decide)
  have h3 := Int.emod_nonneg ((c.natAbs : Int) % 10 ^ Int.toNat 58) (show (2147483563 : Int) ≠ 0 by decide)
  have h4 := Int.emod_lt_of_pos ((c.natAbs : Int) % 10 ^ Int.toNat 58) (show (0 : Int) < 2147483563 by decide)
  exact ⟨_, _, _, rfl, ⟨h1, Int.lt_trans h2 (by decide +kernel)⟩, ⟨by omega, Int.lt_of_le_of_lt (show _ ≤ (100000000000 : Int) by omega) (by decide)⟩, by decide, by decide⟩
theorem ok__law_dice (T : Txt K mg) : FnOk P w K mg base CX0 1 T.a__law_dice T.d__law_dice ["_law_script", "_law_spot"] (sp__law_dice K) := by
  refine T.F__law_dice.ok sc__law_dice (fun vs H Q E h => ?_) (fun cdv A outer s H vs Q E hr h => ?_)
  · obtain ⟨a, ns, i, rfl, _⟩ := h; rfl
  · obtain ⟨a, ns, i, rfl, hS, hi, k⟩ := h
    refine ⟨_, (pss_cons (ps_set (i := 2) sc__law_dice.nd rfl (by first | exact Or.inl rfl | exact Or.inr rfl) (peIf (pt_cmpR opLt (pev 1) (pe_callB caLen (by rfl) T.b_len (by decide +kernel) (pa_cons (pev 0) pa_nil)) (nomark _)) (pe_callTy caIntT (by rfl) T.b_int (by decide +kernel) (pa_cons (pe_ix ixU (pev 0) (pev 1) (fun _ _ => rfl)) pa_nil)) (pe_op opAdd (pe_op opMulT pe_int (pev 1)) pe_int)))
        (pss_cons (ps_set (i := 3) sc__law_dice.nd rfl (by first | exact Or.inl rfl | exact Or.inr rfl) (pe_op opMod (pe_callB caAbs (by rfl) T.b_abs (by decide +kernel) (pa_cons (pev 2) pa_nil)) (pe_op opPow pe_int pe_int)))
        (pss_cons (ps_set (i := 4) sc__law_dice.nd rfl (by first | exact Or.inl rfl | exact Or.inr rfl) (pe_callB (caMax rfl) (by rfl) T.b_max (by decide +kernel) (pa_cons pe_int (pa_cons (pe_op opSub (pe_callB caAbs (by rfl) T.b_abs (by decide +kernel) (pa_cons (pev 2) pa_nil)) (pe_op opPow pe_int pe_int)) pa_nil))))
        (pss_one (ps_ret (pe_lst (pa_cons (pe_op opMod (pev 4) (pe_op opMulT (pe_op opPow pe_int pe_int) (pe_op opPow pe_int pe_int))) (pa_cons (pe_op opAdd (pe_op opAdd (pe_op opAdd (pe_op opMulT (pe_op opMod (pev 3) pe_int) pe_int) (pe_op opMulT pe_int (pev 1))) (pe_op opMulT pe_int (pe_callTy caIntT (by rfl) T.b_int (by decide +kernel) (pa_cons (pe_cmpR opLt (pev 2) pe_int (nomark _)) pa_nil)))) pe_int) (pa_cons pe_int pa_nil))))))))), ?_⟩
    conv => whnf
    refine ⟨_, .inl hS, ?_⟩
    conv => whnf
    refine ⟨_, rfl, ?_⟩
    refine brD (fun ha => ?x) (fun ha => ?y)
    case' x =>
      conv => whnf
      obtain ⟨v, hv, ev⟩ := atI_lt (xs := ns.map V.int) (i := i) (by omega) ha
      obtain ⟨c, hc, rfl⟩ := List.mem_map.mp hv
      refine ⟨_, _, .inl hS, ev, ?_⟩
      clear ev hv hc
      conv => whnf
    case' y =>
      conv => whnf
      refine ⟨mulW 20 20 (by decide) (U.abs_lt (by omega) (by omega)), ?_⟩
      conv => whnf
      generalize 59 * (i : Int) + 13 = c
    all_goals
      refine ⟨⟨by decide, by decide, by decide⟩, ?_⟩
      conv => whnf
      refine ⟨by decide, ?_⟩
      conv => whnf
      refine ⟨⟨by decide, by decide, by decide⟩, ?_⟩
      conv => whnf
      refine ⟨⟨by decide, by decide, by decide⟩, ?_⟩
      conv => whnf
      refine ⟨⟨by decide, by decide, by decide⟩, ?_⟩
      conv => whnf
      refine ⟨mulW 250 250 (by decide) (by decide), ?_⟩
      conv => whnf
      refine ⟨by decide, ?_⟩
      conv => whnf
      refine ⟨by decide, ?_⟩
      conv => whnf
      have h3 := Int.emod_nonneg ((c.natAbs : Int) % 10 ^ Int.toNat 58) (show (2147483563 : Int) ≠ 0 by decide)
      have h4 := Int.emod_lt_of_pos ((c.natAbs : Int) % 10 ^ Int.toNat 58) (show (0 : Int) < 2147483563 by decide)
      refine ⟨mulW 64 64 (U.abs_lt h3 (by omega)) (by decide), ?_⟩
      conv => whnf
      refine ⟨mulW 64 64 (by decide) (U.abs_lt (by omega) (by omega)), ?_⟩
      conv => whnf
      refine ⟨mulW 64 64 (by decide) (by split <;> decide), ?_⟩
      conv => whnf
      refine ⟨small_ok (by simp), fun p hp => ?_⟩
      exact k _ p _ (fun b u e => by rw [upd_ne (ne_of_none e hp)]; exact e) hp upd_same (dice_fits hi _ (by split <;> decide))
def sp__law_roll (K : PySem.W.Frag) : Sp := fun vs H Q _ => ∃ (d : Addr) (n : Nat) (t : Int) (o : HO), vs = [.ref d, .int t] ∧ H d = some o ∧ Dice n o ∧ n ≤ 1000000 ∧ 1 ≤ t ∧ t < 2 ^ 5000 ∧
  ∀ (H' : Hp) (r : Int) (o' : HO), (∀ b u, H b = some u → b ≠ d → H' b = some u) → H' d = some o' → Dice (n + 1) o' → 0 ≤ r → r < t → Q (.int r) H'
theorem ok__law_roll (T : Txt K mg) : FnOk P w K mg base CX0 1 T.a__law_roll T.d__law_roll ["_law_dice_here", "_law_total"] (sp__law_roll K) := by
  refine T.F__law_roll.ok sc__law_roll (fun vs H Q E h => ?_) (fun cdv A outer s H vs Q E hr h => ?_)
  · obtain ⟨d, n, t, o, rfl, _⟩ := h; rfl
  · obtain ⟨d, n, t, o, rfl, hd, ⟨a, b, c, rfl, ⟨a0, a1⟩, ⟨b0, b1⟩, ⟨c0, c1⟩⟩, hn, t1, t2, k⟩ := h
    refine ⟨_, (pss_cons (psIf (pt_cmpR opGt (pe_ix ixU (pev 0) pe_int (fun _ _ => rfl)) pe_int (nomark _)) (pss_cons (ps_set (i := 2) sc__law_roll.nd rfl (by first | exact Or.inl rfl | exact Or.inr rfl) (pe_op opMod (pe_callTy caIntT (by rfl) T.b_int (by decide +kernel) (pa_cons (pe_ix ixU (pev 0) pe_int (fun _ _ => rfl)) pa_nil)) (pev 1)))
        (pss_cons (ps_asg (pe_op opDiv (pe_ix ixU (pev 0) pe_int (fun _ _ => rfl)) (pev 1)) (pg_sub (pev 0) pe_int set_list))
        (pss_one (ps_ret (pev 2))))) pss_nil)
        (pss_cons (ps_asg (pe_op opAdd (pe_ix ixU (pev 0) pe_int (fun _ _ => rfl)) pe_int) (pg_sub (pev 0) pe_int set_list))
        (pss_cons (ps_set (i := 3) sc__law_roll.nd rfl (by first | exact Or.inl rfl | exact Or.inr rfl) (pe_op opMod (pe_callTy caIntT (by rfl) T.b_int (by decide +kernel) (pa_cons (pe_op opAdd (pe_ix ixU (pev 0) pe_int (fun _ _ => rfl)) (pe_op opMulT pe_int (pe_ix ixU (pev 0) pe_int (fun _ _ => rfl)))) pa_nil)) pe_int))
        (pss_cons (ps_set (i := 4) sc__law_roll.nd rfl (by first | exact Or.inl rfl | exact Or.inr rfl) (pe_op opAdd (pe_op opMulT (pe_op opMod (pe_callTy caIntT (by rfl) T.b_int (by decide +kernel) (pa_cons (pe_op opAdd (pe_op opMulT (pev 3) (pev 3)) (pe_op opMulT pe_int (pe_ix ixU (pev 0) pe_int (fun _ _ => rfl)))) pa_nil)) pe_int) pe_int) (pev 3)))
        (pss_one (ps_ret (pe_op opMod (pe_callTy caIntT (by rfl) T.b_int (by decide +kernel) (pa_cons (pe_op opDiv (pev 4) pe_int) pa_nil)) (pev 1)))))))), ?_⟩
    conv => whnf
    refine ⟨_, _, .inl (SqL.of hd), rfl, ?_⟩
    conv => whnf
    refine ⟨_, rfl, ?_⟩
    refine brD (fun ha => ?_) (fun ha => ?_)
    · conv => whnf
      refine ⟨_, _, .inl (SqL.of hd), rfl, ?_⟩
      conv => whnf
      refine ⟨by omega, ?_⟩
      conv => whnf
      refine ⟨_, _, .inl (SqL.of hd), rfl, ?_⟩
      conv => whnf
      refine ⟨divW 5000 (by omega) (U.abs_lt (by omega) t2), ?_⟩
      conv => whnf
      refine ⟨_, _, _, _, rfl, rfl, hd, rfl, ?_⟩
      conv => whnf
      refine k _ _ _ (fun b u e n => by rw [upd_ne n]; exact e) upd_same ⟨a / t, b, c, rfl, ⟨Int.ediv_nonneg a0 (by omega), ?_⟩, ⟨b0, b1⟩, c0, by omega⟩ (Int.emod_nonneg _ (by omega)) (Int.emod_lt_of_pos _ (by omega))
      exact Int.lt_of_le_of_lt (Int.ediv_le_self _ a0) a1
    · conv => whnf
      refine ⟨_, _, .inl (SqL.of hd), rfl, ?_⟩
      conv => whnf
      refine ⟨_, _, _, _, rfl, rfl, hd, rfl, ?_⟩
      conv => whnf
      refine ⟨_, _, .inl (SqL.of upd_same), rfl, ?_⟩
      conv => whnf
      refine ⟨_, _, .inl (SqL.of upd_same), rfl, ?_⟩
      conv => whnf
      refine ⟨mulW 20 300 (by decide) (U.abs_lt (by omega) (by omega)), ?_⟩
      conv => whnf
      refine ⟨by decide, ?_⟩
      conv => whnf
      have hm := Int.emod_lt_of_pos (b + 8111 * (c + 1)) (show (0 : Int) < 2305843009213693723 by decide)
      have hm0 := Int.emod_nonneg (b + 8111 * (c + 1)) (show (2305843009213693723 : Int) ≠ 0 by decide)
      generalize (b + 8111 * (c + 1)) % 2305843009213693723 = x at hm hm0 ⊢
      refine ⟨mulW 64 64 (U.abs_lt hm0 (by omega)) (U.abs_lt hm0 (by omega)), ?_⟩
      conv => whnf
      refine ⟨_, _, .inl (SqL.of upd_same), rfl, ?_⟩
      conv => whnf
      refine ⟨mulW 20 300 (by decide) (U.abs_lt (by omega) (by omega)), ?_⟩
      conv => whnf
      refine ⟨by decide, ?_⟩
      conv => whnf
      have hy := Int.emod_lt_of_pos (x * x + 71 * (c + 1)) (show (0 : Int) < 2305843009213693669 by decide)
      have hy0 := Int.emod_nonneg (x * x + 71 * (c + 1)) (show (2305843009213693669 : Int) ≠ 0 by decide)
      generalize (x * x + 71 * (c + 1)) % 2305843009213693669 = y at hy hy0 ⊢
      refine ⟨mulW 64 64 (U.abs_lt hy0 (by omega)) (by decide), ?_⟩
      conv => whnf
      refine ⟨divW 20 (by decide) (by decide), ?_⟩
      conv => whnf
      refine ⟨by omega, ?_⟩
      conv => whnf
      exact k _ _ _ (fun b u e n => by rw [upd_ne n]; exact e) upd_same ⟨a, b, c + 1, rfl, ⟨a0, a1⟩, ⟨b0, b1⟩, by omega, by omega⟩ (Int.emod_nonneg _ (by omega)) (Int.emod_lt_of_pos _ (by omega))
def sp__law_pick (K : PySem.W.Frag) : Sp := fun vs H Q _ => ∃ (d : Addr) (n : Nat) (o : HO) (x : V) (L : List V), vs = [.ref d, x] ∧ H d = some o ∧ Dice n o ∧ n ≤ 1000000 ∧ PickOf K H d x L ∧ 0 < L.length ∧ L.length ≤ 100000 ∧
  ∀ (H' : Hp) (r : V) (o' : HO), (∀ b u, H b = some u → b ≠ d → H' b = some u) → H' d = some o' → Dice (n + 1) o' → r ∈ L → Q r H'
theorem ok__law_pick (T : Txt K mg) : FnOk P w K mg base CX0 2 T.a__law_pick T.d__law_pick ["_law_dice_here", "_law_items"] (sp__law_pick K) := by
  refine T.F__law_pick.ok sc__law_pick (fun vs H Q E h => ?_) (fun cdv A outer s H vs Q E hr h => ?_)
  · obtain ⟨d, n, o, x, L, rfl, _⟩ := h; rfl
  · obtain ⟨d, n, o, x, L, rfl, hd, D, hn, hp, l0, l1, k⟩ := h
    refine ⟨_, (pss_one (ps_ret (pe_ix ixU (pev 1) (pe_call (ok__law_roll T) (hr.mono (by decide)) (by rfl) T.g__law_roll T.F__law_roll.kp T.B__law_roll .nil pass0 (pa_cons (pev 0) (pa_cons (pe_callB caLen (by rfl) T.b_len (by decide +kernel) (pa_cons (pev 1) pa_nil)) pa_nil))) (fun _ _ => rfl)))), ?_⟩
    rcases hp with ⟨z, rfl, hz, rfl⟩ | ⟨p, rfl, ne, hp⟩
    · have el : z.length = z.cps.toList.length := by simp [Str.length]
      rw [List.length_map] at l0 l1
      conv => whnf
      refine ⟨small_ok (by omega), ?_⟩
      conv => whnf
      refine ⟨d, n, _, o, rfl, hd, D, hn, by omega, Int.lt_of_le_of_lt (show ((z.length : Nat) : Int) ≤ 100000 by omega) (by decide), fun H1 r o1 f1 g1 D1 r0 r1 => ?_⟩
      conv => whnf
      obtain ⟨c, hc, ec⟩ := atI_lt (xs := z.cps.toList) r0 (by omega)
      exact ⟨small_ok (by omega), c, ec, k _ _ _ f1 g1 D1 (List.mem_map.mpr ⟨c, hc, rfl⟩)⟩
    · conv => whnf
      refine ⟨L, hp, ?_⟩
      conv => whnf
      refine ⟨d, n, _, o, rfl, hd, D, hn, by omega, Int.lt_of_le_of_lt (show ((L.length : Nat) : Int) ≤ 100000 by omega) (by decide), fun H1 r o1 f1 g1 D1 r0 r1 => ?_⟩
      conv => whnf
      obtain ⟨v, hv, ev⟩ := atI_lt (xs := L) r0 r1
      exact ⟨L, v, hp.elim (fun q => .inl (sqlKeep f1 ne q)) (fun q => .inr (sqtKeep f1 ne q)), ev, k _ _ _ f1 g1 D1 hv⟩
def letters : List Nat := ("abcdefghijklmnopqrstuvwxyz" : Str).cps.toList
/-- a name -/
def isNameV : V → Bool
  | .str z => decide (1 ≤ z.length) && decide (z.length ≤ 8) && z.cps.toList.all fun c => decide (c ∈ letters)
  | _ => false
def sp_is_name (K : PySem.W.Frag) : Sp := fun vs H Q _ => ∃ (v : V) (T : String), vs = [v] ∧ Kd K H v T ∧ (∀ z, v = .str z → z.length ≤ 100000) ∧ ∀ H', (∀ b u, H b = some u → H' b = some u) → Q (.bl (isNameV v)) H'
theorem isNameV_not {K : PySem.W.Frag} {H : Hp} {v : V} {T : String} (h : Kd K H v T) (n : T ≠ "str") : isNameV v = false := by
  cases v with
  | str i => exact absurd h.ofStr n
  | _ => rfl
theorem ok_is_name (T : Txt K mg) : FnOk P w K mg base CX0 1 T.a_is_name T.d_is_name ["value"] (sp_is_name K) := by
  refine T.F_is_name.ok sc_is_name (fun vs H Q E h => ?_) (fun cdv A outer s H vs Q E hr h => ?_)
  · obtain ⟨v, T, rfl, _⟩ := h; rfl
  · obtain ⟨v, S, rfl, hk, hz, k⟩ := h
    refine ⟨_, (pss_cons (psIf (PW.pt (pwOr (pt_not (ptV (pe_callB call_isi (by rfl) T.b_isinstance (by decide +kernel) (pa_cons (pev 0) (pa_cons (pe_bltn (v := .ty "str") (by rfl) T.b_str (by decide +kernel) rfl) pa_nil))))) (pw_or1 (pt_not (pt_chain opLe opLe pe_int (pe_callB caLen (by rfl) T.b_len (by decide +kernel) (pa_cons (pev 0) pa_nil)) (pe_glob (v := .int 8) (by rfl) T.v_MAX_LETTERS ⟨_, rfl⟩)))))) (pss_one (ps_ret pe_bl)) pss_nil)
        (pss_one (ps_ret (pe_callB (caAll rfl) (by rfl) T.b_all (by decide +kernel) (pa_cons (pe_lc (own := [("letter", 1)]) (g := (gName 1)) (tt := tYes) (te := (tOp uInS (uV 1) (tC (.str "abcdefghijklmnopqrstuvwxyz")))) rfl sc_is_name.nd (pi_str (pev 0)) (blkOk_by (own := [("letter", 1)]) (N := ["value", "letter"]) (sc := defScope s_is_name) (by decide +kernel)) (fun _ _ _ _ _ => pg_name (i := 1) sc_is_name.nd rfl (by first | exact Or.inl rfl | exact Or.inr rfl)) (fun _ _ _ _ _ => pts_nil) (fun _ _ _ _ _ => (pe_cmpR opInS (pev 1) (pe_glob (v := .str "abcdefghijklmnopqrstuvwxyz") (by rfl) T.v_LETTERS ⟨_, rfl⟩) rfl))) pa_nil))))), ?_⟩
    conv => whnf
    refine ⟨_, _, _, _, _, rfl, .ty _, hk.1, kit_ty (kd_str hk.2), ?_⟩
    conv => whnf
    by_cases h1 : S = "str"
    · subst h1
      obtain ⟨z, rfl⟩ := hk.isStr
      have hz := hz z rfl
      refine brF ?_
      conv => whnf
      refine ⟨small_ok (by omega), ?_⟩
      conv => whnf
      refine ⟨_, rfl, ?_⟩
      have el : z.length = z.cps.toList.length := by simp [Str.length]
      refine ite2 (fun h => ?_) (fun h => ?_)
      · conv => whnf
        refine ⟨_, rfl, ?_⟩
        refine br2 (fun h8 => ?_) (fun h8 => ?_)
        · conv => whnf
          have h8' : ¬ ((z.length : Int) ≤ 8) := by simpa using h8
          have e : isNameV (.str z) = false := by
            show (_ && decide (z.length ≤ 8) && _) = false
            rw [decide_eq_false (show ¬ z.length ≤ 8 by omega)]; simp
          have k := k H (fun _ _ e => e)
          rw [e] at k
          exact k
        · conv => whnf
          have h8' : (z.length : Int) ≤ 8 := by simpa using h8
          have h' : 1 ≤ (z.length : Int) := by simpa using h
          refine ⟨z, rfl, fun D hD => lc_it walk_str (fun i H' => H' = upd H D (.lst ((z.cps.toList.take i).map fun c => V.bl (decide (c ∈ letters))))) (by rfl) (fun _ _ _ _ => trivial) ?_ ?_⟩
          · rintro i x H1 H2 hi rfl ⟨rfl, c, hc, rfl⟩
            conv => whnf
            refine ⟨rfl, ?_⟩
            conv => whnf
            refine ⟨c, rfl, ?_⟩
            conv => whnf
            have hl : i < z.cps.toList.length := by simpa using hi
            have e : z.cps.toList.take (i + 1) = z.cps.toList.take i ++ [c] := by
              rw [List.take_add_one]
              simp [hc]
            refine ⟨_, upd_same, small_lt (by simp only [List.length_map, List.length_take]; omega), ?_⟩
            rw [e, List.map_append, upd_upd]
            rfl
          · rintro H1 rfl
            conv => whnf
            refine ⟨D, z.cps.toList.map fun c => decide (c ∈ letters), rfl, SqL.of ?_, ?_⟩
            · have e : z.cps.toList.take z.cps.size = z.cps.toList := by rw [List.take_of_length_le (by simp)]
              rw [e, List.map_map]
              exact upd_same
            · have e : isNameV (.str z) = (z.cps.toList.map fun c => decide (c ∈ letters)).all id := by
                show (decide _ && decide (z.length ≤ 8) && _) = _
                rw [decide_eq_true (show 1 ≤ z.length by omega), decide_eq_true (show z.length ≤ 8 by omega), List.all_map]
                rfl
              rw [← e]
              exact k _ fun b u q => by rw [upd_ne (ne_of_none q hD)]; exact q
      · conv => whnf
        refine ⟨_, rfl, ?_⟩
        refine brT ?_
        conv => whnf
        have h' : ¬ (1 ≤ (z.length : Int)) := by simpa using h
        have e : isNameV (.str z) = false := by
          show (decide _ && _ && _) = false
          rw [decide_eq_false (show ¬ 1 ≤ z.length by omega)]; simp
        have k := k H (fun _ _ e => e)
        rw [e] at k
        exact k
    · refine brY (by simp [h1]) ?_
      conv => whnf
      refine brT ?_
      conv => whnf
      have k := k H (fun _ _ e => e)
      rw [isNameV_not hk h1] at k
      exact k
def ltS (a b : Str) : Bool := decide (a.cps.toList < b.cps.toList)
def sp_is_ascending_names (K : PySem.W.Frag) : Sp := fun vs H Q _ => ∃ (a : Addr) (zs : List Str), vs = [.ref a] ∧ H a = some (.tup (zs.map V.str)) ∧ zs.length ≤ 1000 ∧ (∀ z ∈ zs, z.length ≤ 8 ∧ isNameV (.str z) = true) ∧ (∀ i x y, zs[i]? = some x → zs[i + 1]? = some y → x.cps.toList < y.cps.toList) ∧ ∀ H' : Hp, Gr H H' → Q (.bl true) H'
theorem ok_is_ascending_names (T : Txt K mg) : FnOk P w K mg base CX0 2 T.a_is_ascending_names T.d_is_ascending_names ["value"] (sp_is_ascending_names K) := by
  refine T.F_is_ascending_names.ok sc_is_ascending_names (fun vs H Q E h => ?_) (fun cdv A outer s H vs Q E hr h => ?_)
  · obtain ⟨a, zs, rfl, _⟩ := h; rfl
  · obtain ⟨a, zs, rfl, ha, hl, hz, hlt, k⟩ := h
    refine ⟨_, (pss_cons (psIf (PW.pt (pwOr (pt_not (ptV (pe_callB call_isi (by rfl) T.b_isinstance (by decide +kernel) (pa_cons (pev 0) (pa_cons (pe_bltn (v := .ty "tuple") (by rfl) T.b_tuple (by decide +kernel) rfl) pa_nil))))) (pw_or1 (pt_not (ptV (pe_callB (caAll rfl) (by rfl) T.b_all (by decide +kernel) (pa_cons (pe_lc (own := [("name", 1)]) (g := (gName 1)) (tt := tYes) (te := (tCall (sp_is_name K) [] E0 (tCons (uV 1) tNil))) rfl sc_is_ascending_names.nd (pi_tup (pev 0)) (blkOk_by (own := [("name", 1)]) (N := ["value", "name", "low", "high"]) (sc := defScope s_is_ascending_names) (by decide +kernel)) (fun _ _ _ _ _ => pg_name (i := 1) sc_is_ascending_names.nd rfl (by first | exact Or.inl rfl | exact Or.inr rfl)) (fun _ _ _ _ _ => pts_nil) (fun _ _ _ _ _ => (pe_call (ok_is_name T) (hr.mono (by decide)) (by rfl) T.g_is_name T.F_is_name.kp T.B_is_name .nil pass0 (pa_cons (pev 1) pa_nil)))) pa_nil))))))) (pss_one (ps_ret pe_bl)) pss_nil)
        (pss_one (ps_ret (pe_callB (caAll rfl) (by rfl) T.b_all (by decide +kernel) (pa_cons (pe_lc (own := [("low", 2), ("high", 3)]) (g := (gTup K 2 (gCons (gName 2) (gCons (gName 3) gNil)))) (tt := tYes) (te := (tOp uLt (uV 2) (uV 3))) rfl sc_is_ascending_names.nd (RZ.pi_zipA (by rfl) T.b_zip (pa_cons (pev 0) (pa_cons (pe_slice sl_tupA (pev 0) (po_some pe_int) po_none) pa_nil))) (blkOk_by (own := [("low", 2), ("high", 3)]) (N := ["value", "name", "low", "high"]) (sc := defScope s_is_ascending_names) (by decide +kernel)) (fun _ _ _ _ _ => pg_tup rfl (pgs_cons (pg_name (i := 2) sc_is_ascending_names.nd rfl (by first | exact Or.inl rfl | exact Or.inr rfl)) (pgs_cons (pg_name (i := 3) sc_is_ascending_names.nd rfl (by first | exact Or.inl rfl | exact Or.inr rfl)) pgs_nil))) (fun _ _ _ _ _ => pts_nil) (fun _ _ _ _ _ => (pe_cmpR opLt (pev 2) (pev 3) (nomark _)))) pa_nil))))), ?_⟩
    have ka : Kd K H (.ref a) "tuple" := Kd.tup ha
    conv => whnf
    refine ⟨_, _, _, _, _, rfl, .ty _, ka.1, kit_ty (kd_tuple ka.2), ?_⟩
    conv => whnf
    refine brF ?_
    conv => whnf
    refine ⟨a, rfl, ⟨_, SqT.of ha⟩, fun D hD => ?_⟩
    refine lc_tup (xs := zs.map V.str) (fun i Hm => Gr H Hm ∧ Hm D = some (.lst ((List.replicate i true).map V.bl))) ⟨Gr.rfl'.up hD, upd_same⟩ (fun _ _ _ L => SqT.of (L.1 _ _ ha)) ?_ ?_
    · rintro j x Hm hx' ⟨g, e⟩
      have hj := (List.getElem?_eq_some_iff.mp hx').1
      obtain ⟨z, hz1, rfl⟩ := List.mem_map.mp (List.mem_of_getElem? hx')
      conv => whnf
      refine ⟨rfl, ?_⟩
      conv => whnf
      refine ⟨_, "str", rfl, Kd.str _, fun z' e' => by cases e'; have := (hz z hz1).1; omega, fun Hn gn => ?_⟩
      rw [(hz z hz1).2]
      conv => whnf
      refine ⟨_, gn _ _ e, small_lt (by rw [List.length_map, List.length_replicate]; rw [List.length_map] at hj; omega), ?_⟩
      refine ⟨Gr.app hD (g.trans gn), ?_⟩
      rw [upd_same, List.replicate_succ', List.map_append]
      rfl
    · rintro Hm ⟨g, e⟩
      conv => whnf
      refine ⟨D, _, rfl, SqL.of e, ?_⟩
      rw [all_true]
      conv => whnf
      refine brF ?_
      conv => whnf
      refine ⟨_, rfl, ?_⟩
      conv => whnf
      refine ⟨a, _, rfl, SqT.of (g _ _ ha), fun hw => ?x, fun hw p hp => ?y⟩
      case' x =>
        have hb : SqT K Hm a ((zs.drop 1).map V.str) := by
          have h0 : zs = [] := by
            have h1 := hw.1
            rw [show ((1 : Int)) = ((1 : Nat) : Int) from rfl, HT.sIx_nat, List.length_map] at h1
            exact List.eq_nil_of_length_eq_zero (by omega)
          subst h0
          exact SqT.of (g _ _ ha)
        have gn : Gr H Hm := g
      case' y =>
        have hb : SqT K (upd Hm p (.tup (cutV (zs.map V.str) (some 1) none))) p ((zs.drop 1).map V.str) := by
          refine SqT.of ?_
          rw [upd_same]
          have e1 : HT.sIx (zs.map V.str).length 0 (some 1) = min 1 zs.length := by rw [show ((1 : Int)) = ((1 : Nat) : Int) from rfl, HT.sIx_nat, List.length_map]
          have e2 : cutV (zs.map V.str) (some 1) none = (zs.drop 1).map V.str := by
            unfold cutV
            rw [e1, HT.sIx_none, List.map_drop, List.take_of_length_le (by rw [List.length_drop]; omega)]
            by_cases h : zs = []
            · subst h; rfl
            · have : 0 < zs.length := List.length_pos_iff.mpr h
              rw [show min 1 zs.length = 1 by omega]
          rw [e2]
        have gn : Gr H (upd Hm p (.tup (cutV (zs.map V.str) (some 1) none))) := g.up hp
      all_goals
        conv => whnf
        refine ⟨a, _, _, _, rfl, .inr ⟨SqT.of (gn _ _ ha), hb, fun D' hD' => ?_⟩⟩
        refine lc_it (walk_zipT rfl) (fun i Hk => Gr _ Hk ∧ Hk D' = some (.lst ((List.replicate i true).map V.bl))) ⟨Gr.rfl'.up hD', upd_same⟩ (fun _ Hk _ L => ⟨sqtSame L.1 (SqT.of (gn _ _ ha)), sqtSame L.1 hb⟩) ?_ ?_
        · rintro j x Hk H2 hj ⟨g2, e2⟩ ⟨T', x', y', rfl, hT, rfl, hx', hy'⟩
          simp only [List.getElem?_map] at hx' hy'
          obtain ⟨z1, h1, rfl⟩ := Option.map_eq_some_iff.mp hx'
          obtain ⟨z2, h2, rfl⟩ := Option.map_eq_some_iff.mp hy'
          have hz2 : zs[j + 1]? = some z2 := by rw [List.getElem?_drop, Nat.add_comm] at h2; exact h2
          have hj1 := (List.getElem?_eq_some_iff.mp hz2).1
          conv => whnf
          refine ⟨T', _, rfl, SqT.of upd_same, rfl, ?_⟩
          conv => whnf
          refine ⟨_, _, rfl, ?_⟩
          conv => whnf
          refine ⟨_, _, rfl, ?_⟩
          conv => whnf
          refine ⟨rfl, ?_⟩
          conv => whnf
          refine ⟨rfl, ?_⟩
          conv => whnf
          rw [decide_eq_true (hlt j z1 z2 h1 hz2)]
          refine ⟨_, (Gr.rfl'.up hT) _ _ e2, small_lt (by rw [List.length_map, List.length_replicate]; omega), ?_⟩
          refine ⟨Gr.app hD' (g2.trans (Gr.rfl'.up hT)), ?_⟩
          rw [upd_same, List.replicate_succ', List.map_append]
          rfl
        · rintro Hk ⟨g2, e2⟩
          conv => whnf
          refine ⟨D', _, rfl, SqL.of e2, ?_⟩
          rw [all_true]
          exact k _ (gn.trans g2)
/-- an integer that is let -/
def isIntV : V → Bool
  | .int i => decide (-(10 ^ 60) < i) && decide (i < 10 ^ 60)
  | _ => false
def sp_is_integer (K : PySem.W.Frag) : Sp := fun vs H Q _ => ∃ (v : V) (T : String), vs = [v] ∧ Kd K H v T ∧ Q (.bl (isIntV v)) H
theorem isIntV_not {K : PySem.W.Frag} {H : Hp} {v : V} {T : String} (h : Kd K H v T) (n : T ≠ "int") : isIntV v = false := by
  cases v with
  | int i => exact absurd h.ofInt n
  | _ => rfl
theorem ok_is_integer (T : Txt K mg) : FnOk P w K mg base CX0 1 T.a_is_integer T.d_is_integer ["value"] (sp_is_integer K) := by
  refine T.F_is_integer.ok sc_is_integer (fun vs H Q E h => ?_) (fun cdv A outer s H vs Q E hr h => ?_)
  · obtain ⟨v, S, rfl, _⟩ := h; rfl
  · obtain ⟨v, S, rfl, hk, k⟩ := h
    refine ⟨_, (pss_cons (psIf (PW.pt (pwOr (pt_not (ptV (pe_callB call_isi (by rfl) T.b_isinstance (by decide +kernel) (pa_cons (pev 0) (pa_cons (pe_bltn (v := .ty "int") (by rfl) T.b_int (by decide +kernel) rfl) pa_nil))))) (pw_or1 (ptV (pe_callB call_isi (by rfl) T.b_isinstance (by decide +kernel) (pa_cons (pev 0) (pa_cons (pe_bltn (v := .ty "bool") (by rfl) T.b_bool (by decide +kernel) rfl) pa_nil))))))) (pss_one (ps_ret pe_bl)) pss_nil)
        (pss_one (ps_ret (pe_chain opLt opLt (pe_un unNeg (pe_glob (v := .int 1000000000000000000000000000000000000000000000000000000000000) (by rfl) T.v_BEYOND ⟨_, rfl⟩)) (pev 0) (pe_glob (v := .int 1000000000000000000000000000000000000000000000000000000000000) (by rfl) T.v_BEYOND ⟨_, rfl⟩))))), ?_⟩
    conv => whnf
    refine ⟨_, _, _, _, _, rfl, .ty _, hk.1, kit_ty (kd_int hk.2), ?_⟩
    conv => whnf
    by_cases h1 : S = "int"
    · subst h1
      obtain ⟨i, rfl⟩ := hk.isInt
      refine brF ?_
      conv => whnf
      refine ⟨_, _, _, _, _, rfl, .ty _, hk.1, kit_ty (kd_bool hk.2), ?_⟩
      conv => whnf
      refine brF ?_
      conv => whnf
      refine ⟨_, rfl, ?_⟩
      refine ite2 (fun h => ?_) (fun h => ?_)
      · conv => whnf
        have e : isIntV (.int i) = decide (i < 1000000000000000000000000000000000000000000000000000000000000) := by
          show (decide _ && decide _) = _
          rw [show decide (-(10 ^ 60 : Int) < i) = true from h]; rfl
        rw [e] at k
        exact k
      · conv => whnf
        have e : isIntV (.int i) = false := by
          show (decide _ && decide _) = _
          rw [show decide (-(10 ^ 60 : Int) < i) = false from Bool.eq_false_iff.mpr h]; rfl
        rw [e] at k
        exact k
    · by_cases h2 : S = "bool"
      · subst h2
        refine brF ?_
        conv => whnf
        refine ⟨_, _, _, _, _, rfl, .ty _, hk.1, kit_ty (kd_bool hk.2), ?_⟩
        conv => whnf
        refine brT ?_
        conv => whnf
        rw [isIntV_not hk h1] at k
        exact k
      · refine brY (by simp [h1, h2]) ?_
        conv => whnf
        refine brT ?_
        conv => whnf
        rw [isIntV_not hk h1] at k
        exact k
def sp__is_weight (K : PySem.W.Frag) : Sp := fun vs H Q _ => ∃ (a : Addr) (t b : Nat), vs = [.ref a] ∧ H a = some (.tup [.int (t : Int), .int (b : Int)]) ∧ 1 ≤ t ∧ t ≤ 1000 ∧ 1 ≤ b ∧ b ≤ 1000 ∧ Nat.gcd t b = 1 ∧ ∀ H' : Hp, Gr H H' → Q (.bl true) H'
theorem int_of {p : Int} (h : -(10 ^ 60) < p ∧ p < 10 ^ 60) : isIntV (.int p) = true := by
  show (decide (-(10 ^ 60) < p) && decide (p < 10 ^ 60)) = true
  simp only [Bool.and_eq_true, decide_eq_true_iff]
  exact h
theorem int_small {n : Nat} (h : n ≤ 1000000) : isIntV (.int (n : Int)) = true :=
  int_of ⟨Int.lt_of_lt_of_le (b := 0) (by decide) (Int.natCast_nonneg n), Int.lt_of_le_of_lt (b := ((1000000 : Nat) : Int)) (Int.ofNat_le.mpr h) (by decide)⟩
theorem ok__is_weight (T : Txt K mg) : FnOk P w K mg base CX0 2 T.a__is_weight T.d__is_weight ["value"] (sp__is_weight K) := by
  refine T.F__is_weight.ok sc__is_weight (fun vs H Q E h => ?_) (fun cdv A outer s H vs Q E hr h => ?_)
  · obtain ⟨a, t, b, rfl, _⟩ := h; rfl
  · obtain ⟨a, t, b, rfl, ha, ht, ht2, hb, hb2, hg, k⟩ := h
    refine ⟨_, (pss_cons (psIf (PW.pt (pwOr (pt_not (ptV (pe_callB call_isi (by rfl) T.b_isinstance (by decide +kernel) (pa_cons (pev 0) (pa_cons (pe_bltn (v := .ty "tuple") (by rfl) T.b_tuple (by decide +kernel) rfl) pa_nil))))) (pwOr (pt_cmpR (opNe (hu64 hr)) (pe_callB caLen (by rfl) T.b_len (by decide +kernel) (pa_cons (pev 0) pa_nil)) pe_int (nomark _)) (pw_or1 (pt_not (ptV (pe_callB (caAll rfl) (by rfl) T.b_all (by decide +kernel) (pa_cons (pe_lc (own := [("one", 1)]) (g := (gName 1)) (tt := tYes) (te := (uAndV (tCall (sp_is_integer K) [] E0 (tCons (uV 1) tNil)) (tOp uGe (uV 1) (tC (.int 1))))) rfl sc__is_weight.nd (pi_tup (pev 0)) (blkOk_by (own := [("one", 1)]) (N := ["value", "one"]) (sc := defScope s__is_weight) (by decide +kernel)) (fun _ _ _ _ _ => pg_name (i := 1) sc__is_weight.nd rfl (by first | exact Or.inl rfl | exact Or.inr rfl)) (fun _ _ _ _ _ => pts_nil) (fun _ _ _ _ _ => (peAnd (pe_call (ok_is_integer T) (hr.mono (by decide)) (by rfl) T.g_is_integer T.F_is_integer.kp T.B_is_integer .nil pass0 (pa_cons (pev 1) pa_nil)) (pe_one (pe_cmpR opGe (pev 1) pe_int (nomark _)))))) pa_nil)))))))) (pss_one (ps_ret pe_bl)) pss_nil)
        (pss_one (ps_ret (pe_cmpR (opEq (hu64 hr)) (pe_callBfun cr_gcd (by rfl) T.i_gcd (pa_cons (pe_ix ixU (pev 0) pe_int (fun _ _ => rfl)) (pa_cons (pe_ix ixU (pev 0) pe_int (fun _ _ => rfl)) pa_nil))) pe_int (nomark _))))), ?_⟩
    have ka : Kd K H (.ref a) "tuple" := Kd.tup ha
    conv => whnf
    refine ⟨_, _, _, _, _, rfl, .ty _, ka.1, kit_ty (kd_tuple ka.2), ?_⟩
    conv => whnf
    refine brF ?_
    conv => whnf
    refine ⟨_, .inr (SqT.of ha), ?_⟩
    conv => whnf
    refine ⟨_, rfl, ?_⟩
    refine brF ?_
    conv => whnf
    refine ⟨a, rfl, ⟨_, SqT.of ha⟩, fun D hD => ?_⟩
    refine lc_tup (xs := [.int (t : Int), .int (b : Int)]) (fun i Hm => Gr H Hm ∧ Hm D = some (.lst ((List.replicate i true).map V.bl))) ⟨Gr.rfl'.up hD, upd_same⟩ (fun _ _ _ L => SqT.of (L.1 _ _ ha)) ?_ ?_
    · rintro j x Hm hx' ⟨g, e⟩
      have hj := (List.getElem?_eq_some_iff.mp hx').1
      have hx2 : ∃ n : Nat, x = .int (n : Int) ∧ 1 ≤ n ∧ n ≤ 1000 := by
        have hm := List.mem_of_getElem? hx'
        simp only [List.mem_cons, List.not_mem_nil, or_false] at hm
        rcases hm with rfl | rfl
        · exact ⟨t, rfl, ht, ht2⟩
        · exact ⟨b, rfl, hb, hb2⟩
      obtain ⟨n, rfl, hn1, hn2⟩ := hx2
      conv => whnf
      refine ⟨rfl, ?_⟩
      conv => whnf
      refine ⟨_, "int", rfl, Kd.int _, ?_⟩
      rw [int_small (show n ≤ 1000000 by omega)]
      refine brT ?_
      conv => whnf
      rw [decide_eq_true (show (n : Int) ≥ 1 by omega)]
      refine ⟨_, e, small_lt (by rw [List.length_map, List.length_replicate]; simp at hj; omega), ?_⟩
      refine ⟨Gr.app hD g, ?_⟩
      rw [upd_same, List.replicate_succ', List.map_append]
      rfl
    · rintro Hm ⟨g, e⟩
      conv => whnf
      refine ⟨D, _, rfl, SqL.of e, ?_⟩
      rw [all_true]
      refine brF ?_
      conv => whnf
      have hm := SqT.of (K := K) (g _ _ ha)
      refine ⟨_, _, .inr hm, rfl, ?_⟩
      conv => whnf
      refine ⟨_, _, .inr hm, rfl, ?_⟩
      conv => whnf
      refine ⟨_, _, rfl, ?_⟩
      conv => whnf
      rw [decide_eq_true (show V.int ((Nat.gcd ((t : Int)).natAbs ((b : Int)).natAbs : Nat) : Int) = V.int 1 by rw [Int.natAbs_natCast, Int.natAbs_natCast, hg]; rfl)]
      exact k _ g
def NmW (ws : List (Str × Nat × Nat)) : Prop := ∀ w ∈ ws, w.1.length ≤ 8 ∧ isNameV (.str w.1) = true
def sp_is_weights (K : PySem.W.Frag) : Sp := fun vs H Q _ => ∃ (a : Addr) (xs : List V) (ws : List (Str × Nat × Nat)), vs = [.ref a] ∧ H a = some (.tup xs) ∧ WtL H xs ws ∧ OKW ws ∧ NmW ws ∧ ∀ H' : Hp, Gr H H' → Q (.bl true) H'
theorem ok_is_weights (T : Txt K mg) : FnOk P w K mg base CX0 3 T.a_is_weights T.d_is_weights ["value"] (sp_is_weights K) := by
  refine T.F_is_weights.ok sc_is_weights (fun vs H Q E h => ?_) (fun cdv A outer s H vs Q E hr h => ?_)
  · obtain ⟨a, xs, ws, rfl, _⟩ := h; rfl
  · obtain ⟨a, xs, ws, rfl, ha, hw, ok, nm, k⟩ := h
    refine ⟨_, (pss_cons (psIf (PW.pt (pwOr (pt_not (ptV (pe_callB call_isi (by rfl) T.b_isinstance (by decide +kernel) (pa_cons (pev 0) (pa_cons (pe_bltn (v := .ty "tuple") (by rfl) T.b_tuple (by decide +kernel) rfl) pa_nil))))) (pw_or1 (pt_not (ptV (pe_callB (caAll rfl) (by rfl) T.b_all (by decide +kernel) (pa_cons (pe_lc (own := [("one", 1)]) (g := (gName 1)) (tt := tYes) (te := (uAndV (tCB (rIsi K) (tCons (uV 1) (tCons (tC (.ty "tuple")) tNil))) (tOp (uEq K) (tCB (uLen K) (tCons (uV 1) tNil)) (tC (.int 2))))) rfl sc_is_weights.nd (pi_tup (pev 0)) (blkOk_by (own := [("one", 1)]) (N := ["value", "one"]) (sc := defScope s_is_weights) (by decide +kernel)) (fun _ _ _ _ _ => pg_name (i := 1) sc_is_weights.nd rfl (by first | exact Or.inl rfl | exact Or.inr rfl)) (fun _ _ _ _ _ => pts_nil) (fun _ _ _ _ _ => (peAnd (pe_callB call_isi (by rfl) T.b_isinstance (by decide +kernel) (pa_cons (pev 1) (pa_cons (pe_bltn (v := .ty "tuple") (by rfl) T.b_tuple (by decide +kernel) rfl) pa_nil))) (pe_one (pe_cmpR (opEq (hu64 hr)) (pe_callB caLen (by rfl) T.b_len (by decide +kernel) (pa_cons (pev 1) pa_nil)) pe_int (nomark _)))))) pa_nil))))))) (pss_one (ps_ret pe_bl)) pss_nil)
        (pss_one (ps_ret (peAnd (pe_call (ok_is_ascending_names T) (hr.mono (by decide)) (by rfl) T.g_is_ascending_names T.F_is_ascending_names.kp T.B_is_ascending_names .nil pass0 (pa_cons (pe_callTy call_tuple_of (by rfl) T.b_tuple (by decide +kernel) (pa_cons (pe_lc (own := [("one", 1)]) (g := (gName 1)) (tt := tYes) (te := (tOp (uIx K) (uV 1) (tC (.int 0)))) rfl sc_is_weights.nd (pi_tup (pev 0)) (blkOk_by (own := [("one", 1)]) (N := ["value", "one"]) (sc := defScope s_is_weights) (by decide +kernel)) (fun _ _ _ _ _ => pg_name (i := 1) sc_is_weights.nd rfl (by first | exact Or.inl rfl | exact Or.inr rfl)) (fun _ _ _ _ _ => pts_nil) (fun _ _ _ _ _ => (pe_ix ixU (pev 1) pe_int (fun _ _ => rfl)))) pa_nil)) pa_nil)) (pe_one (pe_callB (caAll rfl) (by rfl) T.b_all (by decide +kernel) (pa_cons (pe_lc (own := [("one", 1)]) (g := (gName 1)) (tt := tYes) (te := (tCall (sp__is_weight K) [] E0 (tCons (tOp (uIx K) (uV 1) (tC (.int 1))) tNil))) rfl sc_is_weights.nd (pi_tup (pev 0)) (blkOk_by (own := [("one", 1)]) (N := ["value", "one"]) (sc := defScope s_is_weights) (by decide +kernel)) (fun _ _ _ _ _ => pg_name (i := 1) sc_is_weights.nd rfl (by first | exact Or.inl rfl | exact Or.inr rfl)) (fun _ _ _ _ _ => pts_nil) (fun _ _ _ _ _ => (pe_call (ok__is_weight T) (hr.mono (by decide)) (by rfl) T.g__is_weight T.F__is_weight.kp T.B__is_weight .nil pass0 (pa_cons (pe_ix ixU (pev 1) pe_int (fun _ _ => rfl)) pa_nil)))) pa_nil))))))), ?_⟩
    have ka : Kd K H (.ref a) "tuple" := Kd.tup ha
    have hl : xs.length ≤ 1000 := by rw [hw.1]; exact ok.few
    conv => whnf
    refine ⟨_, _, _, _, _, rfl, .ty _, ka.1, kit_ty (kd_tuple ka.2), ?_⟩
    conv => whnf
    refine brF ?_
    conv => whnf
    refine ⟨a, rfl, ⟨_, SqT.of ha⟩, fun D hD => ?_⟩
    refine lc_tup (xs := xs) (fun i Hm => Gr H Hm ∧ Hm D = some (.lst ((List.replicate i true).map V.bl))) ⟨Gr.rfl'.up hD, upd_same⟩ (fun _ _ _ L => SqT.of (L.1 _ _ ha)) ?_ ?_
    · rintro j x Hm hx' ⟨g, e⟩
      have hj := (List.getElem?_eq_some_iff.mp hx').1
      obtain ⟨w, hw1, hw2⟩ := (hw.up g).at hx'
      obtain ⟨r, p, rfl, hr1, hp1⟩ := hw2
      have kr : Kd K Hm (.ref r) "tuple" := Kd.tup hr1
      conv => whnf
      refine ⟨rfl, ?_⟩
      conv => whnf
      refine ⟨_, _, _, _, _, rfl, .ty _, kr.1, kit_ty (kd_tuple kr.2), ?_⟩
      conv => whnf
      refine brT ?_
      conv => whnf
      refine ⟨_, .inr (SqT.of hr1), ?_⟩
      conv => whnf
      refine ⟨_, e, small_lt (by rw [List.length_map, List.length_replicate]; omega), ?_⟩
      refine ⟨Gr.app hD g, ?_⟩
      rw [upd_same, List.replicate_succ', List.map_append]
      rfl
    · rintro Hm ⟨g, e⟩
      conv => whnf
      refine ⟨D, _, rfl, SqL.of e, ?_⟩
      rw [all_true]
      refine brF ?_
      conv => whnf
      refine ⟨a, rfl, ⟨_, SqT.of (g _ _ ha)⟩, fun D2 hD2 => ?_⟩
      refine lc_tup (xs := xs) (fun i H2 => Gr Hm H2 ∧ H2 D2 = some (.lst ((ws.take i).map fun w => V.str w.1))) ⟨Gr.rfl'.up hD2, upd_same⟩ (fun _ _ _ L => SqT.of (L.1 _ _ (g _ _ ha))) ?_ ?_
      · rintro j x H2 hx' ⟨g2, e2⟩
        have hj := (List.getElem?_eq_some_iff.mp hx').1
        obtain ⟨w, hw1, hw2⟩ := (hw.up (g.trans g2)).at hx'
        obtain ⟨r, p, rfl, hr1, hp1⟩ := hw2
        conv => whnf
        refine ⟨rfl, ?_⟩
        conv => whnf
        refine ⟨_, _, .inr (SqT.of hr1), rfl, ?_⟩
        conv => whnf
        refine ⟨_, e2, small_lt (by rw [List.length_map, List.length_take]; omega), Gr.app hD2 g2, ?_⟩
        rw [upd_same, take_snoc (fun w => V.str w.1) hw1]
      · rintro H2 ⟨g2, e2⟩
        rw [List.take_of_length_le (by rw [hw.1]; omega)] at e2
        conv => whnf
        refine ⟨D2, _, rfl, .inl ⟨SqL.of e2, fun p hp => ?_⟩⟩
        conv => whnf
        refine ⟨p, ws.map (·.1), rfl, by rw [upd_same, List.map_map]; rfl, by rw [List.length_map]; exact ok.few, ?_, ?_, fun H3 g3 => ?_⟩
        · intro z hz
          obtain ⟨w, h1, rfl⟩ := List.mem_map.mp hz
          exact nm w h1
        · intro i x y hx hy
          rw [List.getElem?_map] at hx hy
          obtain ⟨w1, h1, rfl⟩ := Option.map_eq_some_iff.mp hx
          obtain ⟨w2, h2, rfl⟩ := Option.map_eq_some_iff.mp hy
          exact ok.up i w1 w2 h1 h2
        refine brT ?_
        conv => whnf
        have G3 : Gr H H3 := (g.trans g2).trans ((Gr.rfl'.up hp).trans g3)
        refine ⟨a, rfl, ⟨_, SqT.of (G3 _ _ ha)⟩, fun D3 hD3 => ?_⟩
        refine lc_tup (xs := xs) (fun i Hm => Gr H3 Hm ∧ Hm D3 = some (.lst ((List.replicate i true).map V.bl))) ⟨Gr.rfl'.up hD3, upd_same⟩ (fun _ _ _ L => SqT.of (L.1 _ _ (G3 _ _ ha))) ?_ ?_
        · rintro j x H4 hx' ⟨g4, e4⟩
          have hj := (List.getElem?_eq_some_iff.mp hx').1
          obtain ⟨w, hw1, hw2⟩ := (hw.up (G3.trans g4)).at hx'
          obtain ⟨r, p, rfl, hr1, hp1⟩ := hw2
          have hn := ok.nums w (List.mem_of_getElem? hw1)
          conv => whnf
          refine ⟨rfl, ?_⟩
          conv => whnf
          refine ⟨_, _, .inr (SqT.of hr1), rfl, ?_⟩
          conv => whnf
          refine ⟨p, w.2.1, w.2.2, rfl, hp1, hn.1.1, hn.1.2, hn.2.1.1, hn.2.1.2, hn.2.2, fun H5 g5 => ?_⟩
          refine ⟨_, g5 _ _ e4, small_lt (by rw [List.length_map, List.length_replicate]; omega), Gr.app hD3 (g4.trans g5), ?_⟩
          rw [upd_same, List.replicate_succ', List.map_append]
          rfl
        · rintro H4 ⟨g4, e4⟩
          conv => whnf
          refine ⟨D3, _, rfl, SqL.of e4, ?_⟩
          rw [all_true]
          exact k _ (G3.trans g4)
def sp_Ratio_bottom (K : PySem.W.Frag) (C : Addr) : Sp := fun vs H Q _ => ∃ (v : V) (p q : Int), vs = [v] ∧ IsR C H v p q ∧ Q (.int q) H
theorem ok_Ratio_bottom (T : Txt K mg) : FnOk P w K mg base CX0 1 T.a_Ratio_bottom T.d_Ratio_bottom ["self"] (sp_Ratio_bottom K T.c_Ratio) := by
  refine T.F_Ratio_bottom.ok sc_Ratio_bottom (fun vs H Q E h => ?_) (fun cdv A outer s H vs Q E hr h => ?_)
  · obtain ⟨v, p, q, rfl, _⟩ := h; rfl
  · obtain ⟨v, p, q, rfl, ⟨a, dx, rfl, ha⟩, k⟩ := h
    refine ⟨_, (pss_one (ps_ret (pe_fld (pev 0) rfl))), ?_⟩
    conv => whnf
    exact ⟨a, T.c_Ratio, dx, _, _, rfl, ha, T.o_Ratio.cl, T.f_Ratio__bottom, rf_lb _ _, k⟩
def sp_Ratio_top (K : PySem.W.Frag) (C : Addr) : Sp := fun vs H Q _ => ∃ (v : V) (p q : Int), vs = [v] ∧ IsR C H v p q ∧ Q (.int p) H
theorem ok_Ratio_top (T : Txt K mg) : FnOk P w K mg base CX0 1 T.a_Ratio_top T.d_Ratio_top ["self"] (sp_Ratio_top K T.c_Ratio) := by
  refine T.F_Ratio_top.ok sc_Ratio_top (fun vs H Q E h => ?_) (fun cdv A outer s H vs Q E hr h => ?_)
  · obtain ⟨v, p, q, rfl, _⟩ := h; rfl
  · obtain ⟨v, p, q, rfl, ⟨a, dx, rfl, ha⟩, k⟩ := h
    refine ⟨_, (pss_one (ps_ret (pe_fld (pev 0) rfl))), ?_⟩
    conv => whnf
    exact ⟨a, T.c_Ratio, dx, _, _, rfl, ha, T.o_Ratio.cl, T.f_Ratio__top, rf_lt _ _, k⟩
def sp_Ratio_is_less (K : PySem.W.Frag) (C : Addr) : Sp := fun vs H Q _ => ∃ (v w : V) (p q : Int), vs = [v, w] ∧ IsR C H v p q ∧ (p.natAbs < 2 ^ 2000 ∧ q.natAbs < 2 ^ 2000) ∧
  ((∃ p' q' : Int, IsR C H w p' q' ∧ (p'.natAbs < 2 ^ 2000 ∧ q'.natAbs < 2 ^ 2000) ∧ Q (.bl (decide (p * q' < p' * q))) H) ∨ ∃ S, Kd K H w S ∧ Q (.bl false) H)
theorem ok_Ratio_is_less (T : Txt K mg) : FnOk P w K mg base CX0 3 T.a_Ratio_is_less T.d_Ratio_is_less ["self", "value"] (sp_Ratio_is_less K T.c_Ratio) := by
  refine T.F_Ratio_is_less.ok sc_Ratio_is_less (fun vs H Q E h => ?_) (fun cdv A outer s H vs Q E hr h => ?_)
  · obtain ⟨v, w, p, q, rfl, _⟩ := h; rfl
  · obtain ⟨v, w, p, q, rfl, ⟨a, dx, rfl, ha⟩, ⟨b1, b2⟩, h⟩ := h
    refine ⟨_, (pss_one (ps_ret (peAnd (pe_callB call_isi (by rfl) T.b_isinstance (by decide +kernel) (pa_cons (pev 1) (pa_cons (pe_glob (v := .ref T.c_Ratio) (by rfl) T.g_Ratio rfl) pa_nil))) (pe_one (pe_cmpR opLt (pe_op opMulT (pe_fld (pev 0) rfl) (pe_prop (pev 1) T.o_Ratio.cl T.P_Ratio_bottom (ok_Ratio_bottom T) (hr.mono (by decide)) T.B_Ratio_bottom .nil pass0 rfl)) (pe_op opMulT (pe_prop (pev 1) T.o_Ratio.cl T.P_Ratio_top (ok_Ratio_top T) (hr.mono (by decide)) T.B_Ratio_top .nil pass0 rfl) (pe_fld (pev 0) rfl)) (nomark _)))))), ?_⟩
    rcases h with ⟨p', q', ⟨b, dy, rfl, hb⟩, ⟨b3, b4⟩, k⟩ | ⟨S, hk, k⟩
    · conv => whnf
      refine ⟨_, _, _, _, _, rfl, .own _, T.o_Ratio.ty hb, own_self, ?_⟩
      conv => whnf
      refine brT ?_
      conv => whnf
      refine ⟨a, T.c_Ratio, dx, _, _, rfl, ha, T.o_Ratio.cl, T.f_Ratio__top, rf_lt _ _, ?_⟩
      conv => whnf
      refine ⟨b, dy, _, rfl, hb, _, p', q', rfl, ⟨b, dy, rfl, hb⟩, ?_⟩
      conv => whnf
      refine ⟨mulW 2000 2000 b1 b4, ?_⟩
      conv => whnf
      refine ⟨b, dy, _, rfl, hb, _, p', q', rfl, ⟨b, dy, rfl, hb⟩, ?_⟩
      conv => whnf
      refine ⟨a, T.c_Ratio, dx, _, _, rfl, ha, T.o_Ratio.cl, T.f_Ratio__bottom, rf_lb _ _, ?_⟩
      conv => whnf
      refine ⟨mulW 2000 2000 b3 b2, ?_⟩
      conv => whnf
      exact k
    · conv => whnf
      refine ⟨_, _, _, _, _, rfl, .own _, hk.1, T.o_Ratio.no hk.2, ?_⟩
      conv => whnf
      refine brF ?_
      exact k
def sp_Ratio___init__ (K : PySem.W.Frag) (C : Addr) : Sp := fun vs H Q _ => ∃ (a dx : Addr) (p q : Int), vs = [.ref a, .int p, .int q] ∧ H a = some (.ins C dx []) ∧ (-(10 ^ 60) < p ∧ p < 10 ^ 60) ∧ (0 < q ∧ q < 10 ^ 60) ∧
  ∀ H' : Hp, (∀ b u, H b = some u → b ≠ a → H' b = some u) → H' a = some (.ins C dx (rf (p / gcdI p q) (q / gcdI p q))) → Q .non H'
theorem make_R {K : PySem.W.Frag} {C : Addr} {H : Hp} {p q : Int} {R : Hp → Prop} {E : XK} {x dx : Addr} (hx : H x = none) (hd : H dx = none) (ne : dx ≠ x) (hp : -(10 ^ 60) < p ∧ p < 10 ^ 60) (hq : 0 < q ∧ q < 10 ^ 60) (k : ∀ H' : Hp, Gr H H' → IsR C H' (.ref x) (p / gcdI p q) (q / gcdI p q) → R H') :
    sp_Ratio___init__ K C (.ref x :: ([.int p, .int q] ++ [])) (upd (upd H dx (.own x)) x (.ins C dx [])) (fun v H2 => v = .non ∧ R H2) E :=
  ⟨x, dx, p, q, rfl, upd_same, hp, hq, fun H' s e => ⟨rfl, k _ (fun b u eb => s b u (by rw [upd_ne (ne_of_none eb hx), upd_ne (ne_of_none eb hd)]; exact eb) (ne_of_none eb hx)) ⟨x, dx, rfl, e⟩⟩⟩
theorem ok_Ratio___init__ (T : Txt K mg) : FnOk P w K mg base CX0 2 T.a_Ratio___init__ T.d_Ratio___init__ ["self", "top", "bottom"] (sp_Ratio___init__ K T.c_Ratio) := by
  refine T.F_Ratio___init__.ok sc_Ratio___init__ (fun vs H Q E h => ?_) (fun cdv A outer s H vs Q E hr h => ?_)
  · obtain ⟨a, dx, p, q, rfl, _⟩ := h; rfl
  · obtain ⟨a, dx, p, q, rfl, ha, ⟨p0, p1⟩, ⟨q0, q1⟩, k⟩ := h
    refine ⟨_, (pss_cons (psIf (PW.pt (pwOr (pt_not (ptV (pe_call (ok_is_integer T) (hr.mono (by decide)) (by rfl) T.g_is_integer T.F_is_integer.kp T.B_is_integer .nil pass0 (pa_cons (pev 1) pa_nil)))) (pwOr (pt_not (ptV (pe_call (ok_is_integer T) (hr.mono (by decide)) (by rfl) T.g_is_integer T.F_is_integer.kp T.B_is_integer .nil pass0 (pa_cons (pev 2) pa_nil)))) (pw_or1 (pt_cmpR opLt (pev 2) pe_int (nomark _)))))) (pss_one ps_never) pss_nil)
        (pss_cons (ps_set (i := 3) sc_Ratio___init__.nd rfl (by first | exact Or.inl rfl | exact Or.inr rfl) (pe_callBfun cr_gcd (by rfl) T.i_gcd (pa_cons (pev 1) (pa_cons (pev 2) pa_nil))))
        (pss_cons (ps_fld (pev 0) (pe_op opDiv (pev 1) (pev 3)) rfl)
        (pss_one (ps_fld (pev 0) (pe_op opDiv (pev 2) (pev 3)) rfl))))), ?_⟩
    have g0 := gcdI_pos (a := p) q0
    have g1 := gcdI_le (a := p) q0
    have gb : (gcdI p q).natAbs < 2 ^ 200 := U.abs_lt (by omega) (by omega)
    have ip : isIntV (.int p) = true := by
      show (decide (-(10 ^ 60) < p) && decide (p < 10 ^ 60)) = true
      simp only [Bool.and_eq_true, decide_eq_true_iff]; exact ⟨p0, p1⟩
    have iq : isIntV (.int q) = true := by
      show (decide (-(10 ^ 60) < q) && decide (q < 10 ^ 60)) = true
      simp only [Bool.and_eq_true, decide_eq_true_iff]; exact ⟨by omega, q1⟩
    conv => whnf
    refine ⟨_, _, rfl, Kd.int p, ?_⟩
    rw [ip]
    conv => whnf
    refine brF ?_
    conv => whnf
    refine ⟨_, _, rfl, Kd.int q, ?_⟩
    rw [iq]
    conv => whnf
    refine brF ?_
    conv => whnf
    refine ⟨_, rfl, ?_⟩
    refine brN (decide_eq_false (by omega)) ?_
    conv => whnf
    refine ⟨_, _, rfl, ?_⟩
    conv => whnf
    refine ⟨divW 200 g0 gb, ?_⟩
    conv => whnf
    refine ⟨a, T.c_Ratio, dx, _, rfl, ha, T.o_Ratio.cl, T.f_Ratio__top, by decide, ?_⟩
    conv => whnf
    refine ⟨divW 200 g0 gb, ?_⟩
    conv => whnf
    refine ⟨a, T.c_Ratio, dx, _, rfl, upd_same, T.o_Ratio.cl, T.f_Ratio__bottom, (by show 1 < 1000; decide), ?_⟩
    conv => whnf
    refine k _ (fun b u e n => by rw [upd_ne n, upd_ne n]; exact e) ?_
    rw [upd_same]
    exact congrArg (fun l => some (HO.ins T.c_Ratio dx l)) (rf_mk _ _)
def sp_common_bottom (K : PySem.W.Frag) (C : Addr) : Sp := fun vs H Q _ => ∃ (a : Addr) (us : List V) (ws : List (Str × Nat × Nat)), vs = [.ref a] ∧ H a = some (.lst us) ∧ us.length = ws.length ∧ (∀ (i : Nat) (u : V) (w : Str × Nat × Nat), us[i]? = some u → ws[i]? = some w → IsR C H u (w.2.1 : Int) (w.2.2 : Int)) ∧
  (∀ w ∈ ws, 1 ≤ w.2.2 ∧ w.2.2 ≤ 1000) ∧ lcmW ws ≤ 1000 ∧ Q (.int (lcmW ws : Int)) H
theorem ok_common_bottom (T : Txt K mg) : FnOk P w K mg base CX0 3 T.a_common_bottom T.d_common_bottom ["ratios"] (sp_common_bottom K T.c_Ratio) := by
  refine T.F_common_bottom.ok sc_common_bottom (fun vs H Q E h => ?_) (fun cdv A outer s H vs Q E hr h => ?_)
  · obtain ⟨a, us, ws, rfl, _⟩ := h; rfl
  · obtain ⟨a, us, ws, rfl, ha, hl, hrs, hb, hc, k⟩ := h
    refine ⟨_, (pss_cons (ps_set (i := 1) sc_common_bottom.nd rfl (by first | exact Or.inl rfl | exact Or.inr rfl) pe_int)
        (pss_cons (ps_for PassesOwn.never rfl (pi_list (pev 0)) (pg_name (i := 2) sc_common_bottom.nd rfl (by first | exact Or.inl rfl | exact Or.inr rfl))
        (pss_one (ps_set (i := 1) sc_common_bottom.nd rfl (by first | exact Or.inl rfl | exact Or.inr rfl) (pe_callBfun cr_lcm (by rfl) T.i_lcm (pa_cons (pev 1) (pa_cons (pe_prop (pev 2) T.o_Ratio.cl T.P_Ratio_bottom (ok_Ratio_bottom T) (hr.mono (by decide)) T.B_Ratio_bottom .nil pass0 rfl) pa_nil))))))
        (pss_one (ps_ret (pev 1))))), ?_⟩
    conv => whnf
    refine ⟨a, rfl, ⟨_, SqL.of ha⟩, ?_⟩
    refine for_list (xs := us) (fun i σ H' => H' = H ∧ ∃ x, σ = [some (.ref a), some (.int (lcmW (ws.take i) : Int)), x]) ⟨rfl, _, rfl⟩ (fun _ _ _ _ L => SqL.of (by rw [L.1]; exact ha)) ?_ ?_
    · rintro i x σ H' hx ⟨rfl, y, rfl⟩
      have hi := (List.getElem?_eq_some_iff.mp hx).1
      have hi2 : i < ws.length := by omega
      have hw : ws[i]? = some ws[i] := by simp [hi2]
      have hri := hrs i x ws[i] hx hw
      have hbi := hb ws[i] (List.getElem_mem hi2)
      have hle := lcmW_le (fun w h => (hb w h).1) i
      conv => whnf
      obtain ⟨ad, dx, rfl, had⟩ := id hri
      refine ⟨ad, dx, _, rfl, had, _, _, _, rfl, hri, ?_⟩
      conv => whnf
      refine ⟨_, _, rfl, by rw [Int.natAbs_natCast]; omega, by rw [Int.natAbs_natCast]; omega, ?_⟩
      rw [Int.natAbs_natCast, Int.natAbs_natCast]
      refine ⟨rfl, some (.ref ad), ?_⟩
      rw [List.take_add_one, hw, show (some ws[i]).toList = [ws[i]] from rfl, lcmW_snoc]
      rfl
    · rintro σ H' ⟨rfl, x, rfl⟩
      rw [List.take_of_length_le (by omega)]
      conv => whnf
      exact k
def sp__is_small (K : PySem.W.Frag) (C : Addr) : Sp := fun vs H Q _ => ∃ (d : Addr) (kvs : List (Key × V)) (ws : List (Str × Nat × Nat)), vs = [.ref d] ∧ H d = some (.dK kvs) ∧ RatK C H kvs ws ∧ OKW ws ∧ (∀ w ∈ ws, w.2.1 ≤ w.2.2) ∧ lcmW ws ≤ 24 ∧ ∀ H' : Hp, Gr H H' → Q (.bl true) H'
theorem ok__is_small (T : Txt K mg) : FnOk P w K mg base CX0 4 T.a__is_small T.d__is_small ["ratios"] (sp__is_small K T.c_Ratio) := by
  refine T.F__is_small.ok sc__is_small (fun vs H Q E h => ?_) (fun cdv A outer s H vs Q E hr h => ?_)
  · obtain ⟨d, kvs, ws, rfl, _⟩ := h; rfl
  · obtain ⟨d, kvs, ws, rfl, hd, hk, ok, hle, hc, k⟩ := h
    refine ⟨_, (pss_cons (psIf (ptV (pe_callB (cr_any rfl) (by rfl) T.b_any (by decide +kernel) (pa_cons (pe_lock (pe_lc (own := [("ratio", 1)]) (g := (gName 1)) (tt := tYes) (te := (tMeth T.c_Ratio "is_less" (sp_Ratio_is_less K T.c_Ratio) [] E0 (tMake T.c_Ratio (sp_Ratio___init__ K T.c_Ratio) [] E0 (tCons (tC (.int 1)) (tCons (tC (.int 1)) tNil))) (tCons (uV 1) tNil))) rfl sc__is_small.nd (pi_values (pev 0)) (blkOk_by (own := [("ratio", 1)]) (N := ["ratios", "ratio"]) (sc := defScope s__is_small) (by decide +kernel)) (fun _ _ _ _ _ => pg_name (i := 1) sc__is_small.nd rfl (by first | exact Or.inl rfl | exact Or.inr rfl)) (fun _ _ _ _ _ => pts_nil) (fun _ _ _ _ _ => (pe_meth (pe_make T.K_Ratio (ok_Ratio___init__ T) (hr.mono (by decide)) (by rfl) T.g_Ratio T.B_Ratio___init__ .nil pass0 (pa_cons pe_int (pa_cons pe_int pa_nil))) T.o_Ratio.cl T.M_Ratio_is_less (ok_Ratio_is_less T) (hr.mono (by decide)) T.B_Ratio_is_less .nil pass0 (pa_cons (pev 1) pa_nil))))) pa_nil))) (pss_one (ps_ret pe_bl)) pss_nil)
        (pss_one (ps_ret (pe_cmpR opLe (pe_call (ok_common_bottom T) (hr.mono (by decide)) (by rfl) T.g_common_bottom T.F_common_bottom.kp T.B_common_bottom .nil pass0 (pa_cons (pe_listVals rfl (pev 0) (by rfl) T.b_list (by decide +kernel)) pa_nil)) (pe_glob (v := .int 24) (by rfl) T.v_MAX_COMMON_BOTTOM ⟨_, rfl⟩) (nomark _))))), ?_⟩
    have hfew : kvs.length ≤ 1000 := by rw [hk.1]; exact ok.few
    conv => whnf
    refine ⟨d, .dK kvs, hd, trivial, fun od => ?_⟩
    conv => whnf
    refine ⟨d, od, kvs, rfl, upd_same, fun D hD => ?_⟩
    have hk1 : RatK T.c_Ratio (upd H d (.frz od (.dK kvs))) kvs ws := hk.off hd
    refine lc_it walk_values (fun i Hm => Gr (upd H d (.frz od (.dK kvs))) Hm ∧ Hm D = some (.lst ((List.replicate i false).map V.bl))) ⟨Gr.rfl'.up hD, upd_same⟩ (fun _ _ _ L => L.1 _ _ upd_same) ?_ ?_
    · rintro j x Hm Hn hj ⟨g, e⟩ ⟨rfl, key, hx⟩
      have hj2 : j < ws.length := by rw [← hk.1]; exact hj
      have hw : ws[j]? = some ws[j] := by simp [hj2]
      have hri := ((hk1.up g).2 j _ _ hx hw).2
      have hn := ok.nums ws[j] (List.getElem_mem hj2)
      have hn2 := hle ws[j] (List.getElem_mem hj2)
      conv => whnf
      refine ⟨rfl, ?_⟩
      conv => whnf
      intro x' dx hx' hdx ne
      refine make_R (R := fun H2 => _) hx' hdx ne (by decide) (by decide) fun H2 g2 i2 => ?_
      conv => whnf
      rw [show gcdI 1 1 = 1 from gcd_one (t := 1) (b := 1) rfl] at i2
      obtain ⟨a1, dx1, e1, h1⟩ := id i2
      have hri2 := hri.up g2
      refine ⟨a1, dx1, _, e1, h1, rf_no _ _ (by decide) (by decide), ?_⟩
      conv => whnf
      refine ⟨_, _, 1, 1, rfl, i2, ⟨Nat.one_lt_two_pow (by decide), Nat.one_lt_two_pow (by decide)⟩, .inl ⟨_, _, hri2, ⟨?_, ?_⟩, ?_⟩⟩
      · rw [Int.natAbs_natCast]; exact Nat.lt_of_le_of_lt hn.1.2 (Nat.lt_of_lt_of_le (show 1000 < 2 ^ 10 by decide) (Nat.pow_le_pow_right (by decide) (by decide)))
      · rw [Int.natAbs_natCast]; exact Nat.lt_of_le_of_lt hn.2.1.2 (Nat.lt_of_lt_of_le (show 1000 < 2 ^ 10 by decide) (Nat.pow_le_pow_right (by decide) (by decide)))
      rw [decide_eq_false (by omega)]
      refine ⟨_, g2 _ _ e, small_lt (by rw [List.length_map, List.length_replicate]; omega), Gr.app hD (g.trans g2), ?_⟩
      rw [upd_same, List.replicate_succ', List.map_append]
      rfl
    · rintro Hm ⟨g, e⟩
      refine ⟨g _ _ upd_same, ?_⟩
      conv => whnf
      have nD : D ≠ d := fun z => by rw [z, upd_same] at hD; cases hD
      have G := Gr.unlock hd g
      refine ⟨D, _, rfl, SqL.of (by rw [upd_ne nD]; exact e), ?_⟩
      rw [any_false]
      refine brF ?_
      conv => whnf
      refine ⟨d, kvs, rfl, upd_same, fun l hl => ?_⟩
      conv => whnf
      have G2 := G.up (o := .lst (kvs.map Prod.snd)) hl
      refine ⟨l, _, ws, rfl, upd_same, by rw [List.length_map]; exact hk.1, fun i u w hu hw => ?_, fun w h => (ok.nums w h).2.1, by omega, ?_⟩
      · rw [List.getElem?_map] at hu
        obtain ⟨kv, hkv, rfl⟩ := Option.map_eq_some_iff.mp hu
        exact ((hk.up G2).2 i kv w hkv hw).2
      conv => whnf
      rw [decide_eq_true (show (lcmW ws : Int) ≤ 24 by omega)]
      exact k _ G2
def sp_ratios_of (K : PySem.W.Frag) (C : Addr) : Sp := fun vs H Q _ => ∃ (a : Addr) (xs : List V) (ws : List (Str × Nat × Nat)), vs = [.ref a] ∧ H a = some (.tup xs) ∧ WtL H xs ws ∧ OKW ws ∧ ∀ (H' : Hp) (D : Addr) (kvs : List (Key × V)), Gr H H' → H D = none → H' D = some (.dK kvs) → RatK C H' kvs ws → Q (.ref D) H'
theorem ok_ratios_of (T : Txt K mg) : FnOk P w K mg base CX0 4 T.a_ratios_of T.d_ratios_of ["weights"] (sp_ratios_of K T.c_Ratio) := by
  refine T.F_ratios_of.ok sc_ratios_of (fun vs H Q E h => ?_) (fun cdv A outer s H vs Q E hr h => ?_)
  · obtain ⟨a, xs, ws, rfl, _⟩ := h; rfl
  · obtain ⟨a, xs, ws, rfl, ha, hw, ok, k⟩ := h
    refine ⟨_, (pss_one (ps_ret (pe_dc (own := [("name", 1), ("pair", 2)]) (g := (gTup K 2 (gCons (gName 1) (gCons (gName 2) gNil)))) (tt := tYes) (tk := (uV 1)) (tv := (tMake T.c_Ratio (sp_Ratio___init__ K T.c_Ratio) [] E0 (tCons (tOp (uIx K) (uV 2) (tC (.int 0))) (tCons (tOp (uIx K) (uV 2) (tC (.int 1))) tNil)))) rfl sc_ratios_of.nd (pi_tup (pev 0)) (blkOk_by (own := [("name", 1), ("pair", 2)]) (N := ["weights", "name", "pair"]) (sc := defScope s_ratios_of) (by decide +kernel)) (fun _ _ _ _ _ => pg_tup rfl (pgs_cons (pg_name (i := 1) sc_ratios_of.nd rfl (by first | exact Or.inl rfl | exact Or.inr rfl)) (pgs_cons (pg_name (i := 2) sc_ratios_of.nd rfl (by first | exact Or.inl rfl | exact Or.inr rfl)) pgs_nil))) (fun _ _ _ _ _ => pts_nil) (fun _ _ _ _ _ => (pev 1)) (fun _ _ _ _ _ => (pe_make T.K_Ratio (ok_Ratio___init__ T) (hr.mono (by decide)) (by rfl) T.g_Ratio T.B_Ratio___init__ .nil pass0 (pa_cons (pe_ix ixU (pev 2) pe_int (fun _ _ => rfl)) (pa_cons (pe_ix ixU (pev 2) pe_int (fun _ _ => rfl)) pa_nil))))))), ?_⟩
    have hl : xs.length ≤ 1000 := by rw [hw.1]; exact ok.few
    conv => whnf
    refine ⟨a, rfl, ⟨_, SqT.of ha⟩, fun D hD => ?_⟩
    refine dc_tup (xs := xs) (fun i Hm => Gr H Hm ∧ ∃ kvs, Hm D = some (.dK kvs) ∧ RatK T.c_Ratio Hm kvs (ws.take i)) ⟨Gr.rfl'.up hD, [], upd_same, RatK.nil⟩ (fun _ _ _ L => SqT.of (L.1 _ _ ha)) ?_ ?_
    · rintro j x Hm hx' ⟨g, kvs, e, hr⟩
      have hj := (List.getElem?_eq_some_iff.mp hx').1
      obtain ⟨w, hw1, hw2⟩ := (hw.up g).at hx'
      obtain ⟨r, p, rfl, hr1, hp1⟩ := hw2
      have hn := ok.nums w (List.mem_of_getElem? hw1)
      conv => whnf
      refine ⟨r, _, rfl, SqT.of hr1, rfl, ?_⟩
      conv => whnf
      refine ⟨_, _, rfl, ?_⟩
      conv => whnf
      refine ⟨_, _, rfl, ?_⟩
      conv => whnf
      refine ⟨rfl, ?_⟩
      conv => whnf
      refine ⟨rfl, ?_⟩
      conv => whnf
      refine ⟨_, _, .inr (SqT.of hp1), rfl, ?_⟩
      conv => whnf
      refine ⟨_, _, .inr (SqT.of hp1), rfl, ?_⟩
      conv => whnf
      intro x dx hx hdx ne
      refine make_R (R := fun H2 => _) hx hdx ne (by omega) (by omega) fun H2 g2 i2 => ?_
      rw [gcd_one hn.2.2, Int.ediv_one, Int.ediv_one] at i2
      have hj2 : j < ws.length := by rw [← hw.1]; exact hj
      have hr2 := hr.up g2
      have e2 := g2 _ _ e
      have lk : kvs.length = j := by rw [hr.1, List.length_take]; omega
      have new : ∀ p ∈ kvs, p.1 ≠ .inr w.1 := fun p hp z => by
        obtain ⟨i, hi, ei⟩ := List.getElem_of_mem hp
        have hi2 : i < ws.length := by omega
        have h1 := (hr.2 i p ws[i] (by rw [← ei]; simp) (by rw [List.getElem?_take]; simp [hi2]; omega)).1
        rw [z] at h1
        exact ok.ne i j ws[i] w (by omega) (by simp [hi2]) hw1 (Sum.inr.inj h1).symm
      refine ⟨kvs, .inr w.1, rfl, e2, small_lt (by omega), Gr.app hD (g.trans g2), _, upd_same, ?_⟩
      rw [putK_new new, List.take_add_one, hw1]
      exact (hr2.snoc i2).off e2
    · rintro Hm ⟨g, kvs, e, hr⟩
      rw [List.take_of_length_le (by rw [hw.1]; omega)] at hr
      exact k _ _ _ g hD e hr
def isCountV : V → Bool
  | .int i => isIntV (.int i) && decide (0 ≤ i)
  | _ => false
def sp_is_count (K : PySem.W.Frag) : Sp := fun vs H Q _ => ∃ (v : V) (T : String), vs = [v] ∧ Kd K H v T ∧ Q (.bl (isCountV v)) H
theorem ok_is_count (T : Txt K mg) : FnOk P w K mg base CX0 2 T.a_is_count T.d_is_count ["value"] (sp_is_count K) := by
  refine T.F_is_count.ok sc_is_count (fun vs H Q E h => ?_) (fun cdv A outer s H vs Q E hr h => ?_)
  · obtain ⟨v, T, rfl, _⟩ := h; rfl
  · obtain ⟨v, S, rfl, hk, k⟩ := h
    refine ⟨_, (pss_one (ps_ret (peAnd (pe_call (ok_is_integer T) (hr.mono (by decide)) (by rfl) T.g_is_integer T.F_is_integer.kp T.B_is_integer .nil pass0 (pa_cons (pev 0) pa_nil)) (pe_one (pe_cmpR opGe (pev 0) pe_int (nomark _)))))), ?_⟩
    conv => whnf
    refine ⟨v, S, rfl, hk, ?_⟩
    conv => whnf
    refine br2 (fun h => ?_) (fun h => ?_)
    · cases v with
      | int i =>
        conv => whnf
        have e : isCountV (.int i) = decide (0 ≤ i) := by show (isIntV _ && _) = _; rw [h]; rfl
        rw [e] at k
        exact k
      | _ => cases h
    · have e : isCountV v = false := by
        cases v with
        | int i => show (isIntV _ && _) = _; rw [h]; rfl
        | _ => rfl
      rw [e] at k
      exact k
def sp__is_counts (K : PySem.W.Frag) : Sp := fun vs H Q _ => ∃ (d a : Addr) (cs : List (Str × Nat)) (xs : List V) (ws : List (Str × Nat × Nat)), vs = [.ref d, .ref a] ∧ H d = some (.dK (ck cs)) ∧ H a = some (.tup xs) ∧ WtL H xs ws ∧ ws.length ≤ 1000 ∧ cs.length ≤ 1000 ∧ (∀ c ∈ cs, c.2 ≤ 2000) ∧ (∀ w ∈ ws, (cnt cs w.1).isSome = true) ∧ ∀ H' : Hp, Gr H H' → Q (.bl true) H'
theorem int_of' {p : Int} (h : -(10 ^ 60) < p ∧ p < 10 ^ 60) : isIntV (.int p) = true := by
  show (decide (-(10 ^ 60) < p) && decide (p < 10 ^ 60)) = true
  simp only [Bool.and_eq_true, decide_eq_true_iff]
  exact h
theorem count_of {p : Int} (h : -(10 ^ 60) < p ∧ p < 10 ^ 60) (h0 : 0 ≤ p) : isCountV (.int p) = true := by
  show (isIntV (.int p) && decide (0 ≤ p)) = true
  rw [int_of' h, decide_eq_true h0]
  rfl
theorem count_small {n : Nat} (h : n ≤ 1000000) : isCountV (.int (n : Int)) = true :=
  count_of ⟨Int.lt_of_lt_of_le (b := 0) (by decide) (Int.natCast_nonneg n), Int.lt_of_le_of_lt (b := ((1000000 : Nat) : Int)) (Int.ofNat_le.mpr h) (by decide)⟩ (Int.natCast_nonneg n)
theorem ok__is_counts (T : Txt K mg) : FnOk P w K mg base CX0 3 T.a__is_counts T.d__is_counts ["value", "weights"] (sp__is_counts K) := by
  refine T.F__is_counts.ok sc__is_counts (fun vs H Q E h => ?_) (fun cdv A outer s H vs Q E hr h => ?_)
  · obtain ⟨d, a, cs, xs, ws, rfl, _⟩ := h; rfl
  · obtain ⟨d, a, cs, xs, ws, rfl, hd, ha, hw, hl, hl2, hc, hs, k⟩ := h
    refine ⟨_, (pss_cons (psIf (PW.pt (pwOr (pt_not (ptV (pe_callB call_isi (by rfl) T.b_isinstance (by decide +kernel) (pa_cons (pev 0) (pa_cons (pe_bltn (v := .ty "dict") (by rfl) T.b_dict (by decide +kernel) rfl) pa_nil))))) (pw_or1 (pt_not (ptV (pe_callB (caAll rfl) (by rfl) T.b_all (by decide +kernel) (pa_cons (pe_lc (own := [("name", 2), ("_", 3)]) (g := (gTup K 2 (gCons (gName 2) (gCons (gName 3) gNil)))) (tt := tYes) (te := (tDIn (uV 2) (uV 0))) rfl sc__is_counts.nd (pi_tup (pev 1)) (blkOk_by (own := [("name", 2), ("_", 3)]) (N := ["value", "weights", "name", "_", "one"]) (sc := defScope s__is_counts) (by decide +kernel)) (fun _ _ _ _ _ => pg_tup rfl (pgs_cons (pg_name (i := 2) sc__is_counts.nd rfl (by first | exact Or.inl rfl | exact Or.inr rfl)) (pgs_cons (pg_name (i := 3) sc__is_counts.nd rfl (by first | exact Or.inl rfl | exact Or.inr rfl)) pgs_nil))) (fun _ _ _ _ _ => pts_nil) (fun _ _ _ _ _ => (pe_cmp (pc_din (hu1 (hu64 hr)) (pev 2) (pev 0))))) pa_nil))))))) (pss_one (ps_ret pe_bl)) pss_nil)
        (pss_one (ps_ret (pe_callB (caAll rfl) (by rfl) T.b_all (by decide +kernel) (pa_cons (pe_lock (pe_lc (own := [("one", 4)]) (g := (gName 4)) (tt := tYes) (te := (uAndV (tCall (sp_is_count K) [] E0 (tCons (uV 4) tNil)) (tOp uLe (uV 4) (tC (.int 2000))))) rfl sc__is_counts.nd (pi_values (pev 0)) (blkOk_by (own := [("one", 4)]) (N := ["value", "weights", "name", "_", "one"]) (sc := defScope s__is_counts) (by decide +kernel)) (fun _ _ _ _ _ => pg_name (i := 4) sc__is_counts.nd rfl (by first | exact Or.inl rfl | exact Or.inr rfl)) (fun _ _ _ _ _ => pts_nil) (fun _ _ _ _ _ => (peAnd (pe_call (ok_is_count T) (hr.mono (by decide)) (by rfl) T.g_is_count T.F_is_count.kp T.B_is_count .nil pass0 (pa_cons (pev 4) pa_nil)) (pe_one (pe_cmpR opLe (pev 4) (pe_glob (v := .int 2000) (by rfl) T.v_MAX_ROWS ⟨_, rfl⟩) (nomark _))))))) pa_nil))))), ?_⟩
    have kd : Kd K H (.ref d) "dict" := Kd.dK hd
    have hlx : xs.length ≤ 1000 := by rw [hw.1]; exact hl
    conv => whnf
    refine ⟨_, _, _, _, _, rfl, .ty _, kd.1, kit_ty (kd_dict kd.2), ?_⟩
    conv => whnf
    refine brF ?_
    conv => whnf
    refine ⟨a, rfl, ⟨_, SqT.of ha⟩, fun D hD => ?_⟩
    refine lc_tup (xs := xs) (fun i Hm => Gr H Hm ∧ Hm D = some (.lst ((List.replicate i true).map V.bl))) ⟨Gr.rfl'.up hD, upd_same⟩ (fun _ _ _ L => SqT.of (L.1 _ _ ha)) ?_ ?_
    · rintro j x Hm hx' ⟨g, e⟩
      have hj := (List.getElem?_eq_some_iff.mp hx').1
      obtain ⟨w, hw1, hw2⟩ := (hw.up g).at hx'
      obtain ⟨r, p, rfl, hr1, hp1⟩ := hw2
      have hsw := hs w (List.mem_of_getElem? hw1)
      conv => whnf
      refine ⟨r, _, rfl, SqT.of hr1, rfl, ?_⟩
      conv => whnf
      refine ⟨_, _, rfl, ?_⟩
      conv => whnf
      refine ⟨_, _, rfl, ?_⟩
      conv => whnf
      refine ⟨rfl, ?_⟩
      conv => whnf
      refine ⟨rfl, ?_⟩
      conv => whnf
      refine ⟨d, _, rfl, DGet.k (k := .inr w.1) (g _ _ hd), ?_⟩
      rw [ck_val, show (((cnt cs w.1).map fun (n : Nat) => V.int (n : Int)).isSome) = true by rw [Option.isSome_map]; exact hsw]
      refine ⟨_, e, small_lt (by rw [List.length_map, List.length_replicate]; omega), Gr.app hD g, ?_⟩
      rw [upd_same, List.replicate_succ', List.map_append]
      rfl
    · rintro Hm ⟨g, e⟩
      conv => whnf
      refine ⟨D, _, rfl, SqL.of e, ?_⟩
      rw [all_true]
      conv => whnf
      refine brF ?_
      conv => whnf
      have hd2 := g _ _ hd
      refine ⟨d, _, hd2, trivial, fun od => ?_⟩
      conv => whnf
      refine ⟨d, od, _, rfl, upd_same, fun D2 hD2 => ?_⟩
      refine lc_it walk_values (fun i H2 => Gr (upd Hm d (.frz od (.dK (ck cs)))) H2 ∧ H2 D2 = some (.lst ((List.replicate i true).map V.bl))) ⟨Gr.rfl'.up hD2, upd_same⟩ (fun _ _ _ L => L.1 _ _ upd_same) ?_ ?_
      · rintro j x H2 H3 hj ⟨g2, e2⟩ ⟨rfl, key, hx⟩
        have hj2 : j < cs.length := by simpa [ck] using hj
        have hx2 : x = .int ((cs[j].2 : Nat) : Int) := by
          simp [ck, hj2] at hx
          exact hx.2.symm
        subst hx2
        have hcj := hc cs[j] (List.getElem_mem hj2)
        generalize cs[j].2 = n at hcj
        conv => whnf
        refine ⟨rfl, ?_⟩
        conv => whnf
        refine ⟨_, "int", rfl, Kd.int _, ?_⟩
        rw [count_small (show n ≤ 1000000 by omega)]
        refine brT ?_
        conv => whnf
        rw [decide_eq_true (show (n : Int) ≤ 2000 by omega)]
        refine ⟨_, e2, small_lt (by rw [List.length_map, List.length_replicate]; omega), Gr.app hD2 g2, ?_⟩
        rw [upd_same, List.replicate_succ', List.map_append]
        rfl
      · rintro H2 ⟨g2, e2⟩
        have nD : D2 ≠ d := fun z => by rw [z, upd_same] at hD2; cases hD2
        refine ⟨g2 _ _ upd_same, ?_⟩
        conv => whnf
        refine ⟨D2, _, rfl, SqL.of (by rw [upd_ne nD]; exact e2), ?_⟩
        rw [all_true]
        exact k _ (g.trans (Gr.unlock hd2 g2))
def sp_power (K : PySem.W.Frag) : Sp := fun vs H Q _ => ∃ (b n k : Nat), vs = [.int (b : Int), .int (n : Int)] ∧ n < 2 ^ 64 ∧ b ≤ 2 ^ k ∧ k * n ≤ 100000 ∧ k ≤ 100000 ∧ Q (.int ((b ^ n : Nat) : Int)) H
theorem txt49 (c : Nat) : (V.str ⟨#[c]⟩ = V.str "1") ↔ c = 49 := by
  refine ⟨fun h => ?_, fun h => by subst h; rfl⟩
  have e2 := congrArg (fun z : V => match z with | .str z => z.cps.toList | _ => []) h
  simpa [show ("1" : Str).cps.toList = [49] from rfl] using e2
theorem ok_power (T : Txt K mg) : FnOk P w K mg base CX0 1 T.a_power T.d_power ["base", "exponent"] (sp_power K) := by
  refine T.F_power.ok sc_power (fun vs H Q E h => ?_) (fun cdv A outer s H vs Q E hr h => ?_)
  · obtain ⟨b, n, m, rfl, _⟩ := h; rfl
  · obtain ⟨b, n, m, rfl, hn, hb, hm, hm1, k⟩ := h
    refine ⟨_, (pss_cons (ps_set (i := 2) sc_power.nd rfl (by first | exact Or.inl rfl | exact Or.inr rfl) pe_int)
        (pss_cons (ps_for PassesOwn.never rfl (pi_str (pe_joined1 (pe_fmtB (pev 1)))) (pg_name (i := 3) sc_power.nd rfl (by first | exact Or.inl rfl | exact Or.inr rfl))
        (pss_cons (ps_set (i := 2) sc_power.nd rfl (by first | exact Or.inl rfl | exact Or.inr rfl) (pe_op opMulT (pev 2) (pev 2)))
        (pss_one (psIf (pt_cmpR (opEq (hu64 hr)) (pev 3) pe_str (nomark _)) (pss_one (ps_set (i := 2) sc_power.nd rfl (by first | exact Or.inl rfl | exact Or.inr rfl) (pe_op opMulT (pev 2) (pev 0)))) pss_nil))))
        (pss_one (ps_ret (pev 2))))), ?_⟩
    have hl : (biT n).length ≤ 64 := biT_len n 64 hn (by decide)
    conv => whnf
    refine ⟨n, rfl, by omega, ?_⟩
    conv => whnf
    refine ⟨_, rfl, for_it walk_str (fun i σ H' => ∃ x, σ = [some (.int (b : Int)), some (.int (n : Int)), some (.int ((sqm b ((biT n).cps.toList.take i) : Nat) : Int)), x] ∧ H' = H) ⟨_, rfl, rfl⟩ (fun _ _ _ _ _ => trivial) ?_ ?_⟩
    · rintro i y σ H1 H2 hi ⟨x, rfl, rfl⟩ ⟨rfl, c, hc, rfl⟩
      have hl : i < (biT n).cps.toList.length := by simpa using hi
      have e : (biT n).cps.toList.take (i + 1) = (biT n).cps.toList.take i ++ [c] := by
        rw [List.take_add_one]
        simp [hc]
      have e2 := sqm_snoc b ((biT n).cps.toList.take i) c
      rw [← e] at e2
      conv => whnf
      conv => whnf
      have ed : (biT n).cps.toList = (Nat.toDigits 2 n).map Char.toNat := by simp [biT]
      have hv : vl2 ((biT n).cps.toList.take i) ≤ n := by
        have h1 := vl2_take (biT n).cps.toList i
        rw [ed, vl2_bin] at h1
        rw [ed]; exact h1
      have hl1 : (sqm b ((biT n).cps.toList.take i)).log2 ≤ 100000 := by
        rw [sqm_pow]
        exact Nat.le_trans (log_pow hb) (Nat.le_trans (Nat.mul_le_mul_left m hv) hm)
      have hl2 : (sqm b ((biT n).cps.toList.take i) * sqm b ((biT n).cps.toList.take i)).log2 ≤ 200000 := by
        rw [sqm_pow, ← Nat.pow_add, ← Nat.two_mul]
        refine Nat.le_trans (log_pow hb) ?_
        have h3 := Nat.le_trans (Nat.mul_le_mul_left m hv) hm
        rw [Nat.mul_left_comm]; omega
      have hl3 : b.log2 ≤ 100000 := by
        have h4 := log_pow (v := 1) hb
        rw [Nat.pow_one] at h4
        omega
      refine ⟨by unfold CMulW; rw [Int.natAbs_natCast]; omega, ?_⟩
      conv => whnf
      refine ⟨_, rfl, ?_⟩
      refine brD (fun h => ?_) (fun h => ?_)
      · rw [if_pos ((txt49 c).mp h)] at e2
        conv => whnf
        refine ⟨by unfold CMulW; rw [← Int.natCast_mul, Int.natAbs_natCast, Int.natAbs_natCast]; omega, some (.str ⟨#[c]⟩), ?_, rfl⟩
        rw [e2]
        rfl
      · rw [if_neg fun z => h ((txt49 c).mpr z)] at e2
        conv => whnf
        refine ⟨some (.str ⟨#[c]⟩), ?_, rfl⟩
        rw [e2]
        rfl
    · rintro σ H1 ⟨x, rfl, rfl⟩
      conv => whnf
      have e : (biT n).cps.toList.take (biT n).cps.size = (Nat.toDigits 2 n).map Char.toNat := by
        rw [List.take_of_length_le (by simp)]
        simp [biT]
      rw [e, sqm_bin]
      exact k
def sp_root (K : PySem.W.Frag) : Sp := fun vs H Q _ => ∃ (n e k : Nat), vs = [.int (n : Int), .int (e : Int)] ∧ 1 ≤ e ∧ e ≤ 24 ∧ n < 2 ^ k ∧ k ≤ 3000 ∧ ∀ r : Nat, r ^ e ≤ n → n < (r + 1) ^ e → Q (.int (r : Int)) H
theorem bits_up (n : Nat) : n < 2 ^ (Builtin.Int.intBits (n : Int)) := by
  unfold Builtin.Int.intBits
  split
  · rename_i h
    have : n = 0 := by simpa using h
    subst this; decide
  · rename_i h
    have h0 : n ≠ 0 := fun z => h (by simp [z])
    rw [Int.natAbs_natCast]
    exact (Nat.log2_lt h0).mp (by omega)
theorem ok_root (T : Txt K mg) : FnOk P w K mg base CX0 2 T.a_root T.d_root ["number", "exponent"] (sp_root K) := by
  refine T.F_root.ok sc_root (fun vs H Q E h => ?_) (fun cdv A outer s H vs Q E hr h => ?_)
  · obtain ⟨n, e, k, rfl, _⟩ := h; rfl
  · obtain ⟨n, e, m, rfl, he, he2, hn, hm, k⟩ := h
    refine ⟨_, (pss_cons (ps_par (i := 2) (j := 3) (by rfl) sc_root.nd rfl rfl (by decide) rfl rfl (pa_cons pe_int (pa_cons (pe_call (ok_power T) (hr.mono (by decide)) (by rfl) T.g_power T.F_power.kp T.B_power .nil pass0 (pa_cons pe_int (pa_cons (pe_op opAdd (pe_op opDiv (pe_bits (pev 0)) (pev 1)) pe_int) pa_nil))) pa_nil)) (by rfl))
        (pss_cons (ps_while PassesOwn.never (pt_cmpR opGt (pe_op opSub (pev 3) (pev 2)) pe_int (nomark _)) (pss_cons (ps_set (i := 4) sc_root.nd rfl (by first | exact Or.inl rfl | exact Or.inr rfl) (pe_op opDiv (pe_op opAdd (pev 2) (pev 3)) pe_int))
        (pss_one (psIf (pt_cmpR opLe (pe_call (ok_power T) (hr.mono (by decide)) (by rfl) T.g_power T.F_power.kp T.B_power .nil pass0 (pa_cons (pev 4) (pa_cons (pev 1) pa_nil))) (pev 0) (nomark _)) (pss_one (ps_set (i := 2) sc_root.nd rfl (by first | exact Or.inl rfl | exact Or.inr rfl) (pev 4))) (pss_one (ps_set (i := 3) sc_root.nd rfl (by first | exact Or.inl rfl | exact Or.inr rfl) (pev 4)))))))
        (pss_one (ps_ret (pev 2))))), ?_⟩
    have hb1 := bits_up n
    have hb2 : Builtin.Int.intBits (n : Int) ≤ m := PyProof.Rows.intBits_le (by simpa using hn)
    generalize hB : Builtin.Int.intBits (n : Int) = B at hb1 hb2
    have ed : ((B : Int) / (e : Int) + 1) = ((B / e + 1 : Nat) : Int) := by rw [Int.natCast_add, Int.natCast_ediv]; rfl
    have hq : B / e ≤ B := Nat.div_le_self B e
    have hq2 : B < e * (B / e + 1) := by
      have h1 := Nat.div_add_mod B e
      have h2 := Nat.mod_lt B (show e > 0 by omega)
      rw [Nat.mul_add]; omega
    have hup : n < (2 ^ (B / e + 1)) ^ e := by
      rw [← Nat.pow_mul, Nat.mul_comm]
      exact Nat.lt_of_lt_of_le hb1 (Nat.pow_le_pow_right (by decide) (Nat.le_of_lt hq2))
    have hq3 : B / e + 1 ≤ 3001 := by omega
    generalize B / e + 1 = q at ed hup hq3
    conv => whnf
    refine ⟨_, rfl, ?_⟩
    rw [hB]
    conv => whnf
    refine ⟨⟨by omega, by rw [Int.natAbs_natCast]; exact Nat.lt_of_le_of_lt (log_le (k := 4) (by omega)) (by omega)⟩, ?_⟩
    conv => whnf
    refine ⟨2, q, 1, by rw [ed]; rfl, by omega, Nat.le_refl _, by omega, by omega, ?_⟩
    conv => whnf
    refine ⟨_, _, rfl, ?_⟩
    conv => whnf
    generalize hZ : 2 ^ q = Z at hup
    have hZ2 : Z ≤ 2 ^ 3001 := by rw [← hZ]; exact Nat.pow_le_pow_right (by decide) hq3
    have hZ0 : 0 < Z := by rw [← hZ]; exact Nat.two_pow_pos q
    clear hZ
    refine ⟨fun m σ H' => H' = H ∧ ∃ (lo hi : Nat) (x : Option V), σ = [some (.int (n : Int)), some (.int (e : Int)), some (.int (lo : Int)), some (.int (hi : Int)), x] ∧ m = hi - lo ∧ lo < hi ∧ lo ^ e ≤ n ∧ n < hi ^ e ∧ hi ≤ 2 ^ 3001, ⟨Z, rfl, 0, Z, _, rfl, rfl, hZ0, by rw [Nat.zero_pow (by omega)]; exact Nat.zero_le _, hup, hZ2⟩, ?_⟩
    rintro c σ H' ⟨rfl, lo, hi, x, rfl, rfl, hlt, h1, h2, h3⟩
    conv => whnf
    refine ⟨_, rfl, ?_⟩
    refine ite2 (fun g => ?_) (fun g => ?_)
    · have g' := of_decide_eq_true g
      have hd : ((lo : Int) + (hi : Int)) / 2 = (((lo + hi) / 2 : Nat) : Int) := by omega
      have hm1 : lo < (lo + hi) / 2 := by omega
      have hm2 : (lo + hi) / 2 < hi := by omega
      refine ⟨_, fun _ _ h => h, ?_⟩
      conv => whnf
      refine ⟨⟨by decide, by decide⟩, ?_⟩
      conv => whnf
      rw [hd]
      generalize (lo + hi) / 2 = md at hm1 hm2 ⊢
      refine ⟨md, e, 3001, rfl, by omega, by omega, by omega, by omega, ?_⟩
      conv => whnf
      refine ⟨_, rfl, ?_⟩
      refine brD (fun q => ?_) (fun q => ?_)
      · conv => whnf
        refine ⟨hi - md, by omega, rfl, md, hi, _, rfl, rfl, hm2, Int.ofNat_le.mp q, h2, h3⟩
      · conv => whnf
        refine ⟨md - lo, by omega, rfl, lo, md, _, rfl, rfl, hm1, h1, ?_, by omega⟩
        exact Nat.lt_of_not_le fun z => q (Int.ofNat_le.mpr z)
    · have g' : ¬ ((hi : Int) - (lo : Int) > 1) := fun z => g (decide_eq_true z)
      have he3 : hi = lo + 1 := by omega
      subst he3
      conv => whnf
      exact k lo h1 h2
def sp_bound (K : PySem.W.Frag) (C : Addr) : Sp := fun vs H Q _ => ∃ (a d : Addr) (ws : List (Str × Nat × Nat)) (cs : List (Str × Nat)), vs = [.ref a, .ref d] ∧ BndW H a d ws cs ∧ NmW ws ∧
  ∀ (H' : Hp) (r : Nat), Gr H H' → r ^ lcmW ws ≤ prodW cs (lcmW ws) ws → prodW cs (lcmW ws) ws < (r + 1) ^ lcmW ws → Q (.int (r : Int)) H'
theorem ok_bound (T : Txt K mg) : FnOk P w K mg base CX0 5 T.a_bound T.d_bound ["weights", "counts"] (sp_bound K T.c_Ratio) := by
  refine T.F_bound.ok sc_bound (fun vs H Q E h => ?_) (fun cdv A outer s H vs Q E hr h => ?_)
  · obtain ⟨a, d, ws, cs, rfl, _⟩ := h; rfl
  · obtain ⟨a, d, ws, cs, rfl, ⟨⟨xs, ha, hw⟩, ok, one, few, low, hd, few', lim, has⟩, nm, k⟩ := h
    refine ⟨_, (pss_cons (psIf (PW.pt (pwOr (pt_not (ptV (pe_call (ok_is_weights T) (hr.mono (by decide)) (by rfl) T.g_is_weights T.F_is_weights.kp T.B_is_weights .nil pass0 (pa_cons (pev 0) pa_nil)))) (pw_or1 (pt_not (ptV (pe_call (ok__is_small T) (hr.mono (by decide)) (by rfl) T.g__is_small T.F__is_small.kp T.B__is_small .nil pass0 (pa_cons (pe_call (ok_ratios_of T) (hr.mono (by decide)) (by rfl) T.g_ratios_of T.F_ratios_of.kp T.B_ratios_of .nil pass0 (pa_cons (pev 0) pa_nil)) pa_nil))))))) (pss_one ps_never) pss_nil)
        (pss_cons (psIf (pt_not (ptV (pe_call (ok__is_counts T) (hr.mono (by decide)) (by rfl) T.g__is_counts T.F__is_counts.kp T.B__is_counts .nil pass0 (pa_cons (pev 1) (pa_cons (pev 0) pa_nil))))) (pss_one ps_never) pss_nil)
        (pss_cons (ps_set (i := 2) sc_bound.nd rfl (by first | exact Or.inl rfl | exact Or.inr rfl) (pe_call (ok_ratios_of T) (hr.mono (by decide)) (by rfl) T.g_ratios_of T.F_ratios_of.kp T.B_ratios_of .nil pass0 (pa_cons (pev 0) pa_nil)))
        (pss_cons (ps_set (i := 3) sc_bound.nd rfl (by first | exact Or.inl rfl | exact Or.inr rfl) (pe_call (ok_common_bottom T) (hr.mono (by decide)) (by rfl) T.g_common_bottom T.F_common_bottom.kp T.B_common_bottom .nil pass0 (pa_cons (pe_listVals rfl (pev 2) (by rfl) T.b_list (by decide +kernel)) pa_nil)))
        (pss_cons (ps_set (i := 4) sc_bound.nd rfl (by first | exact Or.inl rfl | exact Or.inr rfl) pe_int)
        (pss_cons (ps_lock (ps_for PassesOwn.never rfl (pi_items (pev 2)) (pg_tup rfl (pgs_cons (pg_name (i := 5) sc_bound.nd rfl (by first | exact Or.inl rfl | exact Or.inr rfl)) (pgs_cons (pg_name (i := 6) sc_bound.nd rfl (by first | exact Or.inl rfl | exact Or.inr rfl)) pgs_nil)))
        (pss_one (ps_set (i := 4) sc_bound.nd rfl (by first | exact Or.inl rfl | exact Or.inr rfl) (pe_op opMulT (pev 4) (pe_call (ok_power T) (hr.mono (by decide)) (by rfl) T.g_power T.F_power.kp T.B_power .nil pass0 (pa_cons (pe_dget (hu1 (hu64 hr)) (pev 1) (pev 5) (fun _ _ => rfl)) (pa_cons (pe_op opMulT (pe_prop (pev 6) T.o_Ratio.cl T.P_Ratio_top (ok_Ratio_top T) (hr.mono (by decide)) T.B_Ratio_top .nil pass0 rfl) (pe_op opDiv (pev 3) (pe_prop (pev 6) T.o_Ratio.cl T.P_Ratio_bottom (ok_Ratio_bottom T) (hr.mono (by decide)) T.B_Ratio_bottom .nil pass0 rfl))) pa_nil))))))))
        (pss_one (ps_ret (pe_call (ok_root T) (hr.mono (by decide)) (by rfl) T.g_root T.F_root.kp T.B_root .nil pass0 (pa_cons (pev 4) (pa_cons (pev 3) pa_nil))))))))))), ?_⟩
    conv => whnf
    refine ⟨a, xs, ws, rfl, ha, hw, ok, nm, fun H1 g1 => ?_⟩
    conv => whnf
    refine brF ?_
    conv => whnf
    refine ⟨a, xs, ws, rfl, g1 _ _ ha, hw.up g1, ok, fun H2 D1 kvs1 g2 n1 e1 r1 => ?_⟩
    conv => whnf
    refine ⟨D1, kvs1, ws, rfl, e1, r1, ok, one, low, fun H3 g3 => ?_⟩
    conv => whnf
    refine brF ?_
    conv => whnf
    have G3 := (g1.trans g2).trans g3
    refine ⟨d, a, cs, xs, ws, rfl, G3 _ _ hd, G3 _ _ ha, hw.up G3, by omega, few', lim, has, fun H4 g4 => ?_⟩
    conv => whnf
    refine brF ?_
    conv => whnf
    have G4 := G3.trans g4
    refine ⟨a, xs, ws, rfl, G4 _ _ ha, hw.up G4, ok, fun H5 D kvs g5 nD eD rD => ?_⟩
    conv => whnf
    refine ⟨D, kvs, rfl, eD, fun l hl => ?_⟩
    conv => whnf
    have G6 := Gr.rfl'.up (o := .lst (kvs.map Prod.snd)) hl
    have rD6 := rD.up G6
    refine ⟨l, _, ws, rfl, upd_same, by rw [List.length_map]; exact rD.1, fun i u w hu hw => ?_, fun w h => (ok.nums w h).2.1, by omega, ?_⟩
    · rw [List.getElem?_map] at hu
      obtain ⟨kv, hkv, rfl⟩ := Option.map_eq_some_iff.mp hu
      exact (rD6.2 i kv w hkv hw).2
    conv => whnf
    have GA := ((G4.trans g5).trans G6)
    have eD6 := G6 _ _ eD
    have ne : d ≠ D := fun z => by have := G4 _ _ hd; rw [z, nD] at this; cases this
    generalize upd H5 l (.lst (kvs.map Prod.snd)) = H6 at G6 rD6 GA eD6 ⊢
    refine ⟨D, _, eD6, trivial, fun od => ?_⟩
    conv => whnf
    refine ⟨D, od, kvs, rfl, upd_same, ?_⟩
    have hd6 : (upd H6 D (.frz od (.dK kvs))) d = some (.dK (ck cs)) := by rw [upd_ne ne]; exact GA _ _ hd
    have rD7 : RatK T.c_Ratio (upd H6 D (.frz od (.dK kvs))) kvs ws := rD6.off eD6
    have hpos := lcmW_pos fun w h => (ok.nums w h).2.1.1
    refine for_it walk_items (fun i σ Hm => Gr (upd H6 D (.frz od (.dK kvs))) Hm ∧ ∃ x y, σ = [some (.ref a), some (.ref d), some (.ref D), some (.int (lcmW ws : Int)), some (.int (prodW cs (lcmW ws) (ws.take i) : Int)), x, y]) ⟨Gr.rfl', _, _, rfl⟩ (fun _ _ _ _ L => L.1 _ _ upd_same) ?_ ?_
    · rintro i x σ Hm Hn hi ⟨g, x1, x2, rfl⟩ ⟨T', y1, y2, rfl, hT, rfl, hy1, hy2⟩
      simp only [Option.map_eq_some_iff] at hy1 hy2
      obtain ⟨kv, hkv, rfl⟩ := hy1
      obtain ⟨kv', hkv', rfl⟩ := hy2
      obtain rfl : kv = kv' := Option.some.inj (hkv.symm.trans hkv')
      have hi2 : i < ws.length := by rw [← rD.1]; exact hi
      have hwi : ws[i]? = some ws[i] := by simp [hi2]
      have gT := g.up (o := .tup [kV kv.1, kv.2]) hT
      obtain ⟨ek, hri⟩ := (rD7.up gT).2 i kv ws[i] hkv hwi
      have hmem := List.getElem_mem hi2
      have hone := one _ hmem
      have hnum := ok.nums _ hmem
      have hhas := has _ hmem
      obtain ⟨ad, dx, er, had⟩ := id hri
      conv => whnf
      refine ⟨T', _, rfl, SqT.of upd_same, rfl, ?_⟩
      conv => whnf
      refine ⟨_, _, rfl, ?_⟩
      conv => whnf
      refine ⟨_, _, rfl, ?_⟩
      conv => whnf
      refine ⟨rfl, ?_⟩
      have hdm := gT _ _ hd6
      generalize upd Hm T' (.tup [kV kv.1, kv.2]) = Hn at gT hri had hdm ⊢
      obtain ⟨n, hn⟩ := Option.isSome_iff_exists.mp hhas
      have ecn : cntD cs ws[i].1 = n := by unfold cntD; rw [hn]; rfl
      have hfac := fac_le lim low hone
      have hprod := prodW_take lim low one i
      have hexp := exp_le (L := lcmW ws) hone
      have hsn : prodW cs (lcmW ws) (ws.take (i + 1)) = prodW cs (lcmW ws) (ws.take i) * cntD cs ws[i].1 ^ (ws[i].2.1 * (lcmW ws / ws[i].2.2)) := by
        rw [List.take_add_one, hwi, show (some ws[i]).toList = [ws[i]] from rfl, prodW_snoc]
      have hdv : ((lcmW ws : Int) / (ws[i].2.2 : Int)) = ((lcmW ws / ws[i].2.2 : Nat) : Int) := (Int.natCast_ediv _ _).symm
      have hcn : cntD cs ws[i].1 ≤ 2 ^ 11 := Nat.le_trans (cntD_le lim _) (by decide)
      conv => whnf
      refine ⟨d, .int (n : Int), rfl, ?_, ?_⟩
      · have h1 := DGet.k (k := .inr ws[i].1) hdm
        rw [ck_val, hn] at h1
        rw [ek]
        exact h1
      conv => whnf
      refine ⟨ad, dx, _, er, had, _, _, _, rfl, ⟨ad, dx, rfl, had⟩, ?_⟩
      conv => whnf
      refine ⟨ad, dx, _, er, had, _, _, _, rfl, ⟨ad, dx, rfl, had⟩, ?_⟩
      conv => whnf
      refine ⟨⟨by omega, by rw [Int.natAbs_natCast]; exact Nat.lt_of_le_of_lt (log_of_le (k := 10) (by omega)) (by decide)⟩, ?_⟩
      rw [hdv]
      conv => whnf
      refine ⟨by unfold CMulW; rw [Int.natAbs_natCast, Int.natAbs_natCast]; exact Nat.lt_of_le_of_lt (Nat.add_le_add (log_of_le (k := 10) (by omega)) (log_of_le (k := 10) (Nat.le_trans (Nat.div_le_self _ _) (by omega)))) (by decide), ?_⟩
      conv => whnf
      refine ⟨n, ws[i].2.1 * (lcmW ws / ws[i].2.2), 11, by rw [Int.natCast_mul]; rfl, by omega, by rw [← ecn]; exact hcn, by omega, by decide, ?_⟩
      rw [← ecn]
      conv => whnf
      refine ⟨by unfold CMulW; rw [Int.natAbs_natCast, Int.natAbs_natCast]; exact Nat.lt_of_le_of_lt (Nat.add_le_add (log_of_le (Nat.le_trans hprod (Nat.pow_le_pow_right (by decide) (show 264 * i ≤ 2000 by omega)))) (log_of_le hfac)) (by decide), ?_⟩
      conv => whnf
      refine ⟨gT, some (.str ws[i].1), some kv.2, ?_⟩
      rw [hsn, ek, Int.natCast_mul]
      rfl
    · rintro σ Hm ⟨g, x1, x2, rfl⟩
      rw [rD.1, List.take_of_length_le (Nat.le_refl _)]
      refine ⟨g _ _ upd_same, ?_⟩
      conv => whnf
      have hp := prodW_take lim low one ws.length
      rw [List.take_of_length_le (Nat.le_refl _)] at hp
      refine ⟨prodW cs (lcmW ws) ws, lcmW ws, 1321, rfl, hpos, low, Nat.lt_of_le_of_lt hp (Nat.pow_lt_pow_right (by decide) (by omega)), by decide, fun r h1 h2 => ?_⟩
      exact k _ r (GA.trans (Gr.unlock eD6 g)) h1 h2
def sp__law_common (K : PySem.W.Frag) : Sp := fun vs H Q _ => ∃ (a : Addr) (xs : List V) (ws : List (Str × Nat × Nat)), vs = [.ref a] ∧ H a = some (.tup xs) ∧ WtL H xs ws ∧ (∀ w ∈ ws, 1 ≤ w.2.2 ∧ w.2.2 ≤ 1000) ∧ lcmW ws ≤ 24 ∧ Q (.int (lcmW ws : Int)) H
theorem ok__law_common (T : Txt K mg) : FnOk P w K mg base CX0 1 T.a__law_common T.d__law_common ["_law_weights"] (sp__law_common K) := by
  refine T.F__law_common.ok sc__law_common (fun vs H Q E h => ?_) (fun cdv A outer s H vs Q E hr h => ?_)
  · obtain ⟨a, xs, ws, rfl, _⟩ := h; rfl
  · obtain ⟨a, xs, ws, rfl, ha, hw, hb, hc, k⟩ := h
    refine ⟨_, (pss_cons (ps_set (i := 1) sc__law_common.nd rfl (by first | exact Or.inl rfl | exact Or.inr rfl) pe_int)
        (pss_cons (ps_for PassesOwn.never rfl (pi_tup (pev 0)) (pg_tup rfl (pgs_cons (pg_name (i := 2) sc__law_common.nd rfl (by first | exact Or.inl rfl | exact Or.inr rfl)) (pgs_cons (pg_name (i := 3) sc__law_common.nd rfl (by first | exact Or.inl rfl | exact Or.inr rfl)) pgs_nil)))
        (pss_one (ps_for PassesOwn.never rfl (pi_range2 (by rfl) T.b_range (pa_cons pe_int (pa_cons pe_int pa_nil))) (pg_name (i := 4) sc__law_common.nd rfl (by first | exact Or.inl rfl | exact Or.inr rfl))
        (pss_one (psIf (pt_cmpR (opEq (hu64 hr)) (pe_op opMulT (pe_op opDiv (pe_op opMulT (pev 1) (pev 4)) (pe_ix ixU (pev 3) pe_int (fun _ _ => rfl))) (pe_ix ixU (pev 3) pe_int (fun _ _ => rfl))) (pe_op opMulT (pev 1) (pev 4)) (nomark _)) (pss_cons (ps_set (i := 1) sc__law_common.nd rfl (by first | exact Or.inl rfl | exact Or.inr rfl) (pe_op opMulT (pev 1) (pev 4)))
        (pss_one ps_break)) pss_nil)))))
        (pss_one (ps_ret (pev 1))))), ?_⟩
    conv => whnf
    refine ⟨a, rfl, ⟨_, SqT.of ha⟩, ?_⟩
    refine for_it (walk_tup (xs := xs)) (fun i σ H' => H' = H ∧ ∃ x y z, σ = [some (.ref a), some (.int (lcmW (ws.take i) : Int)), x, y, z]) ⟨rfl, _, _, _, rfl⟩ (fun _ _ _ _ L => SqT.of (by rw [L.1]; exact ha)) ?_ ?_
    · rintro i x σ H1 H2 hi ⟨rfl, x1, x2, x3, rfl⟩ ⟨rfl, hx⟩
      have hi2 : i < ws.length := by rw [← hw.1]; exact hi
      have hwi : ws[i]? = some ws[i] := by simp [hi2]
      obtain ⟨r, p, rfl, hr1, hp1⟩ := hw.2 i x ws[i] hx hwi
      have hbi := hb ws[i] (List.getElem_mem hi2)
      have hle := lcmW_le (fun w h => (hb w h).1) i
      have hle2 := lcmW_le (fun w h => (hb w h).1) (i + 1)
      have hp0 := lcmW_pos (ws := ws.take i) fun w h => (hb w (List.mem_of_mem_take h)).1
      rw [List.take_add_one, hwi, show (some ws[i]).toList = [ws[i]] from rfl, lcmW_snoc] at hle2
      generalize hf : lcmW (ws.take i) = f at hle hle2 hp0
      conv => whnf
      refine ⟨r, _, rfl, SqT.of hr1, rfl, ?_⟩
      conv => whnf
      refine ⟨_, _, rfl, ?_⟩
      conv => whnf
      refine ⟨_, _, rfl, ?_⟩
      conv => whnf
      refine ⟨rfl, ?_⟩
      conv => whnf
      have hx64 : ∀ m : Nat, m ≤ 24 → (f * m).log2 ≤ 100 := fun m hm => by
        have h1 : f * m ≤ 24 * 24 := Nat.mul_le_mul (by omega) hm
        exact log_of_le (Nat.le_trans h1 (Nat.le_trans (by decide) (Nat.pow_le_pow_right (n := 2) (i := 10) (by decide) (by decide))))
      refine ⟨1, 25, rfl, by decide, for_range (lo := 1) (n := 24) (fun j σ H' => H' = H2 ∧ ∃ z, σ = [some (.ref a), some (.int (f : Int)), some (.str ws[i].1), some (.ref p), z] ∧ ∀ m, 1 ≤ m → m ≤ j → ¬ ws[i].2.2 ∣ f * m) ⟨rfl, _, rfl, fun m h1 h2 => by omega⟩ ?_ ?_⟩
      · rintro j σ H' hj ⟨rfl, z, rfl, hno⟩
        have e1 : (f : Int) * (1 + (j : Int)) = ((f * (j + 1) : Nat) : Int) := by rw [Int.natCast_mul]; congr 1; omega
        have hmx := hx64 (j + 1) (by omega)
        have cm1 : CMulW (f : Int) (1 + (j : Int)) := by
          rw [show (1 + (j : Int)) = ((j + 1 : Nat) : Int) by omega]
          unfold CMulW
          rw [Int.natAbs_natCast, Int.natAbs_natCast]
          exact Nat.lt_of_le_of_lt (Nat.add_le_add (log_of_le (k := 10) (by omega)) (log_of_le (k := 10) (by omega))) (by decide)
        have cd : CDivW ((f * (j + 1) : Nat) : Int) (ws[i].2.2 : Int) := ⟨by omega, by rw [Int.natAbs_natCast]; exact Nat.lt_of_le_of_lt (log_of_le (k := 10) (by omega)) (by decide)⟩
        have cm2 : CMulW (((f * (j + 1) : Nat) : Int) / (ws[i].2.2 : Int)) (ws[i].2.2 : Int) := by
          rw [← Int.natCast_ediv]
          unfold CMulW
          rw [Int.natAbs_natCast, Int.natAbs_natCast]
          have h1 : f * (j + 1) ≤ 24 * 24 := Nat.mul_le_mul (by omega) (by omega)
          exact Nat.lt_of_le_of_lt (Nat.add_le_add (log_of_le (k := 10) (Nat.le_trans (Nat.div_le_self _ _) (by omega))) (log_of_le (k := 10) (by omega))) (by decide)
        conv => whnf
        refine ⟨cm1, ?_⟩
        rw [e1]
        conv => whnf
        refine ⟨_, _, .inr (SqT.of hp1), rfl, ?_⟩
        conv => whnf
        refine ⟨cd, ?_⟩
        conv => whnf
        refine ⟨_, _, .inr (SqT.of hp1), rfl, ?_⟩
        conv => whnf
        refine ⟨cm2, ?_⟩
        conv => whnf
        refine ⟨cm1, ?_⟩
        rw [e1]
        conv => whnf
        refine ⟨_, rfl, ?_⟩
        refine brD (fun h => ?_) (fun h => ?_)
        · have hdv : ws[i].2.2 ∣ f * (j + 1) := (div_mul_iff _ _).mp (V.int.inj h)
          conv => whnf
          refine ⟨cm1, ?_⟩
          rw [e1, least_mul hp0 (by omega) hno hdv]
          conv => whnf
          refine ⟨rfl, some (.str ws[i].1), some (.ref p), some (.int (1 + (j : Int))), ?_⟩
          rw [List.take_add_one, hwi, show (some ws[i]).toList = [ws[i]] from rfl, lcmW_snoc, hf]
          rfl
        · conv => whnf
          refine ⟨rfl, some (.int (1 + (j : Int))), rfl, fun m h1 h2 => ?_⟩
          by_cases hm : m = j + 1
          · subst hm
            exact fun hd => h (congrArg V.int ((div_mul_iff _ _).mpr hd))
          · exact hno m h1 (by omega)
      · rintro σ H' ⟨rfl, z, rfl, hno⟩
        exact absurd hno (has_mul hp0 (by omega) (by omega))
    · rintro σ H' ⟨rfl, x, y, z, rfl⟩
      rw [List.take_of_length_le (by rw [hw.1]; exact Nat.le_refl _)]
      conv => whnf
      exact k
def sp__law_times (K : PySem.W.Frag) : Sp := fun vs H Q _ => ∃ (b n k : Nat), vs = [.int (b : Int), .int (n : Int)] ∧ n ≤ 1000 ∧ b ≤ 2 ^ k ∧ k ≤ 2000 ∧ k * n ≤ 100000 ∧ Q (.int ((b ^ n : Nat) : Int)) H
theorem ok__law_times (T : Txt K mg) : FnOk P w K mg base CX0 1 T.a__law_times T.d__law_times ["_law_number", "_law_many"] (sp__law_times K) := by
  refine T.F__law_times.ok sc__law_times (fun vs H Q E h => ?_) (fun cdv A outer s H vs Q E hr h => ?_)
  · obtain ⟨b, n, m, rfl, _⟩ := h; rfl
  · obtain ⟨b, n, m, rfl, hn, hb, hm, hmn, k⟩ := h
    refine ⟨_, (pss_cons (ps_set (i := 2) sc__law_times.nd rfl (by first | exact Or.inl rfl | exact Or.inr rfl) pe_int)
        (pss_cons (ps_for PassesOwn.never rfl (pi_range1 (by rfl) T.b_range (pa_cons (pev 1) pa_nil)) (pg_name (i := 3) sc__law_times.nd rfl (by first | exact Or.inl rfl | exact Or.inr rfl))
        (pss_one (ps_set (i := 2) sc__law_times.nd rfl (by first | exact Or.inl rfl | exact Or.inr rfl) (pe_op opMulT (pev 2) (pev 0)))))
        (pss_one (ps_ret (pev 2))))), ?_⟩
    conv => whnf
    refine ⟨n, by rfl, by omega, by omega, ?_⟩
    show ∃ W : Nat → Nat → L2.St → Hp → Prop, _
    refine for_range (lo := 0) (n := n) (fun i σ H' => H' = H ∧ ∃ x, σ = [some (.int (b : Int)), some (.int (n : Int)), some (.int ((b ^ i : Nat) : Int)), x]) ⟨rfl, _, rfl⟩ ?_ ?_
    · rintro i σ H' hi ⟨rfl, x, rfl⟩
      conv => whnf
      have h1 : (b ^ i).log2 ≤ 100000 := Nat.le_trans (log_pow hb) (Nat.le_trans (Nat.mul_le_mul_left m (Nat.le_of_lt hi)) hmn)
      have h2 : b.log2 ≤ 2000 := Nat.le_trans (log_of_le hb) hm
      refine ⟨by unfold CMulW; rw [Int.natAbs_natCast, Int.natAbs_natCast]; omega, ?_⟩
      conv => whnf
      refine ⟨rfl, some (.int (0 + (i : Int))), ?_⟩
      rw [Nat.pow_succ, Int.natCast_mul]
      rfl
    · rintro σ H' ⟨rfl, x, rfl⟩
      conv => whnf
      exact k
theorem root_le {r L P : Nat} (hL : 1 ≤ L) (h : r ^ L ≤ P) : r ≤ P := by
  by_cases h0 : r = 0
  · omega
  · exact Nat.le_trans (by
      calc r = r ^ 1 := (Nat.pow_one r).symm
        _ ≤ r ^ L := Nat.pow_le_pow_right (by omega) hL) h
def sp__law_is_root (K : PySem.W.Frag) : Sp := fun vs H Q _ => ∃ (r : Nat) (a d : Addr) (ws : List (Str × Nat × Nat)) (cs : List (Str × Nat)), vs = [.int (r : Int), .ref a, .ref d] ∧ BndW H a d ws cs ∧
  r ^ lcmW ws ≤ prodW cs (lcmW ws) ws ∧ prodW cs (lcmW ws) ws < (r + 1) ^ lcmW ws ∧ Q (.bl true) H
theorem ok__law_is_root (T : Txt K mg) : FnOk P w K mg base CX0 2 T.a__law_is_root T.d__law_is_root ["_law_told", "_law_weights", "_law_counts"] (sp__law_is_root K) := by
  refine T.F__law_is_root.ok sc__law_is_root (fun vs H Q E h => ?_) (fun cdv A outer s H vs Q E hr h => ?_)
  · obtain ⟨r, a, d, ws, cs, rfl, _⟩ := h; rfl
  · obtain ⟨r, a, d, ws, cs, rfl, ⟨⟨xs, ha, hw⟩, ok, one, few, low, hd, few', lim, has⟩, h1, h2, k⟩ := h
    refine ⟨_, (pss_cons (ps_par (i := 3) (j := 4) (by rfl) sc__law_is_root.nd rfl rfl (by decide) rfl rfl (pa_cons (pe_call (ok__law_common T) (hr.mono (by decide)) (by rfl) T.g__law_common T.F__law_common.kp T.B__law_common .nil pass0 (pa_cons (pev 1) pa_nil)) (pa_cons pe_int pa_nil)) (by rfl))
        (pss_cons (ps_for PassesOwn.never rfl (pi_tup (pev 1)) (pg_tup rfl (pgs_cons (pg_name (i := 5) sc__law_is_root.nd rfl (by first | exact Or.inl rfl | exact Or.inr rfl)) (pgs_cons (pg_name (i := 6) sc__law_is_root.nd rfl (by first | exact Or.inl rfl | exact Or.inr rfl)) pgs_nil)))
        (pss_one (ps_set (i := 4) sc__law_is_root.nd rfl (by first | exact Or.inl rfl | exact Or.inr rfl) (pe_op opMulT (pev 4) (pe_call (ok__law_times T) (hr.mono (by decide)) (by rfl) T.g__law_times T.F__law_times.kp T.B__law_times .nil pass0 (pa_cons (pe_dget (hu1 (hu64 hr)) (pev 2) (pev 5) (fun _ _ => rfl)) (pa_cons (pe_op opMulT (pe_ix ixU (pev 6) pe_int (fun _ _ => rfl)) (pe_op opDiv (pev 3) (pe_ix ixU (pev 6) pe_int (fun _ _ => rfl)))) pa_nil)))))))
        (pss_one (ps_ret (pe_chain opLe opLt (pe_call (ok__law_times T) (hr.mono (by decide)) (by rfl) T.g__law_times T.F__law_times.kp T.B__law_times .nil pass0 (pa_cons (pev 0) (pa_cons (pev 3) pa_nil))) (pev 4) (pe_call (ok__law_times T) (hr.mono (by decide)) (by rfl) T.g__law_times T.F__law_times.kp T.B__law_times .nil pass0 (pa_cons (pe_op opAdd (pev 0) pe_int) (pa_cons (pev 3) pa_nil)))))))), ?_⟩
    have hpos := lcmW_pos fun w h => (ok.nums w h).2.1.1
    conv => whnf
    refine ⟨a, xs, ws, rfl, ha, hw, fun w h => (ok.nums w h).2.1, low, ?_⟩
    conv => whnf
    refine ⟨_, _, rfl, ?_⟩
    conv => whnf
    refine ⟨a, rfl, ⟨_, SqT.of ha⟩, ?_⟩
    refine for_it (walk_tup (xs := xs)) (fun i σ H' => H' = H ∧ ∃ x y, σ = [some (.int (r : Int)), some (.ref a), some (.ref d), some (.int (lcmW ws : Int)), some (.int (prodW cs (lcmW ws) (ws.take i) : Int)), x, y]) ⟨rfl, _, _, rfl⟩ (fun _ _ _ _ L => SqT.of (by rw [L.1]; exact ha)) ?_ ?_
    · rintro i x σ H1 H2 hi ⟨rfl, x1, x2, rfl⟩ ⟨rfl, hx⟩
      have hi2 : i < ws.length := by rw [← hw.1]; exact hi
      have hwi : ws[i]? = some ws[i] := by simp [hi2]
      obtain ⟨q, p, rfl, hr1, hp1⟩ := hw.2 i x ws[i] hx hwi
      have hmem := List.getElem_mem hi2
      have hone := one _ hmem
      have hnum := ok.nums _ hmem
      have hhas := has _ hmem
      obtain ⟨n, hn⟩ := Option.isSome_iff_exists.mp hhas
      have ecn : cntD cs ws[i].1 = n := by unfold cntD; rw [hn]; rfl
      have hfac := fac_le lim low hone
      have hprod := prodW_take lim low one i
      have hexp := exp_le (L := lcmW ws) hone
      have hsn : prodW cs (lcmW ws) (ws.take (i + 1)) = prodW cs (lcmW ws) (ws.take i) * cntD cs ws[i].1 ^ (ws[i].2.1 * (lcmW ws / ws[i].2.2)) := by
        rw [List.take_add_one, hwi, show (some ws[i]).toList = [ws[i]] from rfl, prodW_snoc]
      have hdv : ((lcmW ws : Int) / (ws[i].2.2 : Int)) = ((lcmW ws / ws[i].2.2 : Nat) : Int) := (Int.natCast_ediv _ _).symm
      have hcn : cntD cs ws[i].1 ≤ 2 ^ 11 := Nat.le_trans (cntD_le lim _) (by decide)
      conv => whnf
      refine ⟨q, _, rfl, SqT.of hr1, rfl, ?_⟩
      conv => whnf
      refine ⟨_, _, rfl, ?_⟩
      conv => whnf
      refine ⟨_, _, rfl, ?_⟩
      conv => whnf
      refine ⟨rfl, ?_⟩
      conv => whnf
      refine ⟨d, .int (n : Int), rfl, ?_, ?_⟩
      · have h1 := DGet.k (k := .inr ws[i].1) hd
        rw [ck_val, hn] at h1
        exact h1
      conv => whnf
      refine ⟨_, _, .inr (SqT.of hp1), rfl, ?_⟩
      conv => whnf
      refine ⟨_, _, .inr (SqT.of hp1), rfl, ?_⟩
      conv => whnf
      refine ⟨⟨by omega, by rw [Int.natAbs_natCast]; exact Nat.lt_of_le_of_lt (log_of_le (k := 10) (by omega)) (by decide)⟩, ?_⟩
      rw [hdv]
      conv => whnf
      refine ⟨by unfold CMulW; rw [Int.natAbs_natCast, Int.natAbs_natCast]; exact Nat.lt_of_le_of_lt (Nat.add_le_add (log_of_le (k := 10) (by omega)) (log_of_le (k := 10) (Nat.le_trans (Nat.div_le_self _ _) (by omega)))) (by decide), ?_⟩
      conv => whnf
      refine ⟨n, ws[i].2.1 * (lcmW ws / ws[i].2.2), 11, by rw [Int.natCast_mul]; rfl, by omega, by rw [← ecn]; exact hcn, by decide, by omega, ?_⟩
      rw [← ecn]
      conv => whnf
      refine ⟨by unfold CMulW; rw [Int.natAbs_natCast, Int.natAbs_natCast]; exact Nat.lt_of_le_of_lt (Nat.add_le_add (log_of_le (Nat.le_trans hprod (Nat.pow_le_pow_right (by decide) (show 264 * i ≤ 2000 by omega)))) (log_of_le hfac)) (by decide), ?_⟩
      conv => whnf
      refine ⟨rfl, some (.str ws[i].1), some (.ref p), ?_⟩
      rw [hsn, Int.natCast_mul]
      rfl
    · rintro σ Hm ⟨rfl, x1, x2, rfl⟩
      rw [hw.1, List.take_of_length_le (Nat.le_refl _)]
      have hp := prodW_take lim low one ws.length
      rw [List.take_of_length_le (Nat.le_refl _)] at hp
      have hr := Nat.le_trans (root_le hpos h1) (Nat.le_trans hp (Nat.pow_le_pow_right (by decide) (show 264 * ws.length ≤ 1320 by omega)))
      have hr1 : r + 1 ≤ 2 ^ 1321 := by rw [Nat.pow_succ]; have := Nat.two_pow_pos 1320; omega
      generalize hP : prodW cs (lcmW ws) ws = P at h1 h2
      generalize hL : lcmW ws = L at h1 h2 hpos low
      conv => whnf
      refine ⟨r, L, 1320, rfl, by omega, hr, by decide, by omega, ?_⟩
      conv => whnf
      refine ⟨_, rfl, ?_⟩
      refine ite2 (fun _ => ?_) (fun q => absurd (decide_eq_true (Int.ofNat_le.mpr h1)) q)
      conv => whnf
      refine ⟨r + 1, L, 1321, rfl, by omega, hr1, by decide, by omega, ?_⟩
      conv => whnf
      rw [decide_eq_true (Int.ofNat_lt.mpr h2)]
      exact k
theorem nm8 : ∀ z ∈ names8, z.length ≤ 8 ∧ isNameV (.str z) = true := fun z hz => by
  have e : names8.all (fun z => decide (z.length ≤ 8) && isNameV (.str z)) = true := by decide +kernel
  have := List.all_eq_true.mp e z hz
  simp only [Bool.and_eq_true, decide_eq_true_iff] at this
  exact this
def sp__law_right (K : PySem.W.Frag) (C : Addr) : Sp := fun vs H Q _ => ∃ (d : Addr) (n : Nat) (o : HO), vs = [.ref d] ∧ H d = some o ∧ Dice n o ∧ n ≤ 500000 ∧
  ∀ (H' : Hp) (o' : HO), (∀ b u, H b = some u → b ≠ d → H' b = some u) → H' d = some o' → Dice (n + 50) o' → Q (.bl true) H'
theorem ok__law_right (T : Txt K mg) : FnOk P w K mg base CX0 6 T.a__law_right T.d__law_right ["_law_dice_here"] (sp__law_right K T.c_Ratio) := by
  refine T.F__law_right.ok sc__law_right (fun vs H Q E h => ?_) (fun cdv A outer s H vs Q E hr h => ?_)
  · obtain ⟨d, n, o, rfl, _⟩ := h; rfl
  · obtain ⟨d, n, o, rfl, hd, D, hn, k⟩ := h
    refine ⟨_, (pss_cons (ps_par (i := 1) (j := 2) (by rfl) sc__law_right.nd rfl rfl (by decide) rfl rfl (pa_cons (pe_lst (pa_cons pe_str (pa_cons pe_str (pa_cons pe_str (pa_cons pe_str (pa_cons pe_str pa_nil)))))) (pa_cons (pe_tup pa_nil) pa_nil)) (by rfl))
        (pss_cons (ps_set (i := 3) sc__law_right.nd rfl (by first | exact Or.inl rfl | exact Or.inr rfl) (pe_lst (pa_cons (pe_lst (pa_cons (pe_tup (pa_cons pe_int (pa_cons pe_int pa_nil))) (pa_cons (pe_tup (pa_cons pe_int (pa_cons pe_int pa_nil))) pa_nil))) (pa_cons (pe_lst (pa_cons (pe_tup (pa_cons pe_int (pa_cons pe_int pa_nil))) (pa_cons (pe_tup (pa_cons pe_int (pa_cons pe_int pa_nil))) (pa_cons (pe_tup (pa_cons pe_int (pa_cons pe_int pa_nil))) pa_nil)))) (pa_cons (pe_lst (pa_cons (pe_tup (pa_cons pe_int (pa_cons pe_int pa_nil))) (pa_cons (pe_tup (pa_cons pe_int (pa_cons pe_int pa_nil))) (pa_cons (pe_tup (pa_cons pe_int (pa_cons pe_int pa_nil))) pa_nil)))) (pa_cons (pe_lst (pa_cons (pe_tup (pa_cons pe_int (pa_cons pe_int pa_nil))) (pa_cons (pe_tup (pa_cons pe_int (pa_cons pe_int pa_nil))) (pa_cons (pe_tup (pa_cons pe_int (pa_cons pe_int pa_nil))) pa_nil)))) pa_nil))))))
        (pss_cons (ps_set (i := 4) sc__law_right.nd rfl (by first | exact Or.inl rfl | exact Or.inr rfl) (pe_call (ok__law_pick T) (hr.mono (by decide)) (by rfl) T.g__law_pick T.F__law_pick.kp T.B__law_pick .nil pass0 (pa_cons (pev 0) (pa_cons (pev 3) pa_nil))))
        (pss_cons (ps_set (i := 4) sc__law_right.nd rfl (by first | exact Or.inl rfl | exact Or.inr rfl) (pe_op opAdd (pev 4) (pe_op opMulT (pe_lst (pa_cons (pe_tup (pa_cons pe_int (pa_cons pe_int pa_nil))) pa_nil)) (pe_callTy caIntT (by rfl) T.b_int (by decide +kernel) (pa_cons (pe_cmpR (opEq (hu64 hr)) (pe_call (ok__law_roll T) (hr.mono (by decide)) (by rfl) T.g__law_roll T.F__law_roll.kp T.B__law_roll .nil pass0 (pa_cons (pev 0) (pa_cons pe_int pa_nil))) pe_int (nomark _)) pa_nil)))))
        (pss_cons (ps_for PassesOwn.never rfl (pi_list (pev 1)) (pg_name (i := 5) sc__law_right.nd rfl (by first | exact Or.inl rfl | exact Or.inr rfl))
        (pss_one (psIf (pt_cmpR opGt (pe_call (ok__law_roll T) (hr.mono (by decide)) (by rfl) T.g__law_roll T.F__law_roll.kp T.B__law_roll .nil pass0 (pa_cons (pev 0) (pa_cons pe_int pa_nil))) pe_int (nomark _)) (pss_one (ps_set (i := 2) sc__law_right.nd rfl (by first | exact Or.inl rfl | exact Or.inr rfl) (pe_op opAdd (pev 2) (pe_tup (pa_cons (pe_tup (pa_cons (pev 5) (pa_cons (pe_call (ok__law_pick T) (hr.mono (by decide)) (by rfl) T.g__law_pick T.F__law_pick.kp T.B__law_pick .nil pass0 (pa_cons (pev 0) (pa_cons (pev 4) pa_nil))) pa_nil))) pa_nil))))) pss_nil)))
        (pss_cons (ps_set (i := 6) sc__law_right.nd rfl (by first | exact Or.inl rfl | exact Or.inr rfl) pe_dnewK)
        (pss_cons (ps_for PassesOwn.never rfl (pi_list (pev 1)) (pg_name (i := 5) sc__law_right.nd rfl (by first | exact Or.inl rfl | exact Or.inr rfl))
        (pss_one (ps_asg (pe_call (ok__law_pick T) (hr.mono (by decide)) (by rfl) T.g__law_pick T.F__law_pick.kp T.B__law_pick .nil pass0 (pa_cons (pev 0) (pa_cons (pe_lst (pa_cons pe_int (pa_cons pe_int (pa_cons pe_int (pa_cons pe_int (pa_cons pe_int (pa_cons (pe_call (ok__law_roll T) (hr.mono (by decide)) (by rfl) T.g__law_roll T.F__law_roll.kp T.B__law_roll .nil pass0 (pa_cons (pev 0) (pa_cons pe_int pa_nil))) (pa_cons (pe_call (ok__law_roll T) (hr.mono (by decide)) (by rfl) T.g__law_roll T.F__law_roll.kp T.B__law_roll .nil pass0 (pa_cons (pev 0) (pa_cons pe_int pa_nil))) pa_nil)))))))) pa_nil))) (pg_sub (pev 6) (pev 5) (set_dict (hu1 (hu64 hr)))))))
        (pss_cons (ps_set (i := 7) sc__law_right.nd rfl (by first | exact Or.inl rfl | exact Or.inr rfl) (pe_call (ok_bound T) (hr.mono (by decide)) (by rfl) T.g_bound T.F_bound.kp T.B_bound .nil pass0 (pa_cons (pev 2) (pa_cons (pev 6) pa_nil))))
        (pss_cons (psIf (PW.pt (pwOr (pt_not (ptV (pe_callB call_isi (by rfl) T.b_isinstance (by decide +kernel) (pa_cons (pev 7) (pa_cons (pe_bltn (v := .ty "int") (by rfl) T.b_int (by decide +kernel) rfl) pa_nil))))) (pw_or1 (pt_not (ptV (pe_call (ok__law_is_root T) (hr.mono (by decide)) (by rfl) T.g__law_is_root T.F__law_is_root.kp T.B__law_is_root .nil pass0 (pa_cons (pev 7) (pa_cons (pev 2) (pa_cons (pev 6) pa_nil))))))))) (pss_one (ps_ret pe_bl)) pss_nil)
        (pss_cons (ps_set (i := 8) sc__law_right.nd rfl (by first | exact Or.inl rfl | exact Or.inr rfl) (pe_callTy (call_dictP rfl) (by rfl) T.b_dict (by decide +kernel) (pa_cons (pe_lc (own := [("_law_name", 5)]) (g := (gName 5)) (tt := tYes) (te := (tTup (tCons (uV 5) (tCons (tCB uMin (tCons (tC (.int 2000)) (tCons (tOp (uAdd K) (tDGet (uV 6) (uV 5)) (tCall (sp__law_roll K) [] E0 (tCons (uV 0) (tCons (tC (.int 9)) tNil)))) tNil))) tNil)))) rfl sc__law_right.nd (pi_list (pev 1)) (blkOk_by (own := [("_law_name", 5)]) (N := ["_law_dice_here", "_law_names", "_law_weights", "_law_pools", "_law_pool", "_law_name", "_law_counts", "_law_told", "_law_more"]) (sc := defScope s__law_right) (by decide +kernel)) (fun _ _ _ _ _ => pg_name (i := 5) sc__law_right.nd rfl (by first | exact Or.inl rfl | exact Or.inr rfl)) (fun _ _ _ _ _ => pts_nil) (fun _ _ _ _ _ => (pe_tup (pa_cons (pev 5) (pa_cons (pe_callB (caMin rfl) (by rfl) T.b_min (by decide +kernel) (pa_cons pe_int (pa_cons (pe_op opAdd (pe_dget (hu1 (hu64 hr)) (pev 6) (pev 5) (fun _ _ => rfl)) (pe_call (ok__law_roll T) (hr.mono (by decide)) (by rfl) T.g__law_roll T.F__law_roll.kp T.B__law_roll .nil pass0 (pa_cons (pev 0) (pa_cons pe_int pa_nil)))) pa_nil))) pa_nil))))) pa_nil)))
        (pss_one (ps_ret (peAnd (pe_cmpR opGe (pe_call (ok_bound T) (hr.mono (by decide)) (by rfl) T.g_bound T.F_bound.kp T.B_bound .nil pass0 (pa_cons (pev 2) (pa_cons (pev 8) pa_nil))) (pev 7) (nomark _)) (pe_one (pe_cmpR (opEq (hu64 hr)) (pe_call (ok_bound T) (hr.mono (by decide)) (by rfl) T.g_bound T.F_bound.kp T.B_bound .nil pass0 (pa_cons (pe_tup pa_nil) (pa_cons (pev 6) pa_nil))) pe_int (nomark _)))))))))))))))), ?_⟩
    conv => whnf
    refine ⟨small_ok (by simp), fun p0 hp0 => ?_⟩
    have ga0 := Gr.rfl'.up (o := .lst [.str "g", .str "h", .str "i", .str "j", .str "k"]) hp0
    have ea0 := upd_same (H := H) (a := p0) (o := .lst [.str "g", .str "h", .str "i", .str "j", .str "k"])
    have na0 := (ne_of_none hd hp0).symm
    have hd0 := ga0 _ _ hd
    generalize upd H p0 (.lst [.str "g", .str "h", .str "i", .str "j", .str "k"]) = A0 at ga0 ea0 hd0 ⊢
    conv => whnf
    refine ⟨small_ok (by simp), fun p1 hp1 => ?_⟩
    have ga1 := Gr.rfl'.up (o := .tup []) hp1
    have ea1 := upd_same (H := A0) (a := p1) (o := .tup [])
    have na1 := (ne_of_none hd0 hp1).symm
    have hd1 := ga1 _ _ hd0
    generalize upd A0 p1 (.tup []) = A1 at ga1 ea1 hd1 ⊢
    conv => whnf
    refine ⟨_, _, rfl, ?_⟩
    conv => whnf
    refine ⟨small_ok (by simp), fun p2 hp2 => ?_⟩
    have ga2 := Gr.rfl'.up (o := .tup [.int 1, .int 1]) hp2
    have ea2 := upd_same (H := A1) (a := p2) (o := .tup [.int 1, .int 1])
    have na2 := (ne_of_none hd1 hp2).symm
    have hd2 := ga2 _ _ hd1
    generalize upd A1 p2 (.tup [.int 1, .int 1]) = A2 at ga2 ea2 hd2 ⊢
    conv => whnf
    refine ⟨small_ok (by simp), fun p3 hp3 => ?_⟩
    have ga3 := Gr.rfl'.up (o := .tup [.int 1, .int 2]) hp3
    have ea3 := upd_same (H := A2) (a := p3) (o := .tup [.int 1, .int 2])
    have na3 := (ne_of_none hd2 hp3).symm
    have hd3 := ga3 _ _ hd2
    generalize upd A2 p3 (.tup [.int 1, .int 2]) = A3 at ga3 ea3 hd3 ⊢
    conv => whnf
    refine ⟨small_ok (by simp), fun p4 hp4 => ?_⟩
    have ga4 := Gr.rfl'.up (o := .lst [.ref p2, .ref p3]) hp4
    have ea4 := upd_same (H := A3) (a := p4) (o := .lst [.ref p2, .ref p3])
    have na4 := (ne_of_none hd3 hp4).symm
    have hd4 := ga4 _ _ hd3
    generalize upd A3 p4 (.lst [.ref p2, .ref p3]) = A4 at ga4 ea4 hd4 ⊢
    conv => whnf
    refine ⟨small_ok (by simp), fun p5 hp5 => ?_⟩
    have ga5 := Gr.rfl'.up (o := .tup [.int 1, .int 3]) hp5
    have ea5 := upd_same (H := A4) (a := p5) (o := .tup [.int 1, .int 3])
    have na5 := (ne_of_none hd4 hp5).symm
    have hd5 := ga5 _ _ hd4
    generalize upd A4 p5 (.tup [.int 1, .int 3]) = A5 at ga5 ea5 hd5 ⊢
    conv => whnf
    refine ⟨small_ok (by simp), fun p6 hp6 => ?_⟩
    have ga6 := Gr.rfl'.up (o := .tup [.int 2, .int 3]) hp6
    have ea6 := upd_same (H := A5) (a := p6) (o := .tup [.int 2, .int 3])
    have na6 := (ne_of_none hd5 hp6).symm
    have hd6 := ga6 _ _ hd5
    generalize upd A5 p6 (.tup [.int 2, .int 3]) = A6 at ga6 ea6 hd6 ⊢
    conv => whnf
    refine ⟨small_ok (by simp), fun p7 hp7 => ?_⟩
    have ga7 := Gr.rfl'.up (o := .tup [.int 1, .int 1]) hp7
    have ea7 := upd_same (H := A6) (a := p7) (o := .tup [.int 1, .int 1])
    have na7 := (ne_of_none hd6 hp7).symm
    have hd7 := ga7 _ _ hd6
    generalize upd A6 p7 (.tup [.int 1, .int 1]) = A7 at ga7 ea7 hd7 ⊢
    conv => whnf
    refine ⟨small_ok (by simp), fun p8 hp8 => ?_⟩
    have ga8 := Gr.rfl'.up (o := .lst [.ref p5, .ref p6, .ref p7]) hp8
    have ea8 := upd_same (H := A7) (a := p8) (o := .lst [.ref p5, .ref p6, .ref p7])
    have na8 := (ne_of_none hd7 hp8).symm
    have hd8 := ga8 _ _ hd7
    generalize upd A7 p8 (.lst [.ref p5, .ref p6, .ref p7]) = A8 at ga8 ea8 hd8 ⊢
    conv => whnf
    refine ⟨small_ok (by simp), fun p9 hp9 => ?_⟩
    have ga9 := Gr.rfl'.up (o := .tup [.int 1, .int 4]) hp9
    have ea9 := upd_same (H := A8) (a := p9) (o := .tup [.int 1, .int 4])
    have na9 := (ne_of_none hd8 hp9).symm
    have hd9 := ga9 _ _ hd8
    generalize upd A8 p9 (.tup [.int 1, .int 4]) = A9 at ga9 ea9 hd9 ⊢
    conv => whnf
    refine ⟨small_ok (by simp), fun p10 hp10 => ?_⟩
    have ga10 := Gr.rfl'.up (o := .tup [.int 3, .int 4]) hp10
    have ea10 := upd_same (H := A9) (a := p10) (o := .tup [.int 3, .int 4])
    have na10 := (ne_of_none hd9 hp10).symm
    have hd10 := ga10 _ _ hd9
    generalize upd A9 p10 (.tup [.int 3, .int 4]) = A10 at ga10 ea10 hd10 ⊢
    conv => whnf
    refine ⟨small_ok (by simp), fun p11 hp11 => ?_⟩
    have ga11 := Gr.rfl'.up (o := .tup [.int 1, .int 2]) hp11
    have ea11 := upd_same (H := A10) (a := p11) (o := .tup [.int 1, .int 2])
    have na11 := (ne_of_none hd10 hp11).symm
    have hd11 := ga11 _ _ hd10
    generalize upd A10 p11 (.tup [.int 1, .int 2]) = A11 at ga11 ea11 hd11 ⊢
    conv => whnf
    refine ⟨small_ok (by simp), fun p12 hp12 => ?_⟩
    have ga12 := Gr.rfl'.up (o := .lst [.ref p9, .ref p10, .ref p11]) hp12
    have ea12 := upd_same (H := A11) (a := p12) (o := .lst [.ref p9, .ref p10, .ref p11])
    have na12 := (ne_of_none hd11 hp12).symm
    have hd12 := ga12 _ _ hd11
    generalize upd A11 p12 (.lst [.ref p9, .ref p10, .ref p11]) = A12 at ga12 ea12 hd12 ⊢
    conv => whnf
    refine ⟨small_ok (by simp), fun p13 hp13 => ?_⟩
    have ga13 := Gr.rfl'.up (o := .tup [.int 1, .int 2]) hp13
    have ea13 := upd_same (H := A12) (a := p13) (o := .tup [.int 1, .int 2])
    have na13 := (ne_of_none hd12 hp13).symm
    have hd13 := ga13 _ _ hd12
    generalize upd A12 p13 (.tup [.int 1, .int 2]) = A13 at ga13 ea13 hd13 ⊢
    conv => whnf
    refine ⟨small_ok (by simp), fun p14 hp14 => ?_⟩
    have ga14 := Gr.rfl'.up (o := .tup [.int 1, .int 3]) hp14
    have ea14 := upd_same (H := A13) (a := p14) (o := .tup [.int 1, .int 3])
    have na14 := (ne_of_none hd13 hp14).symm
    have hd14 := ga14 _ _ hd13
    generalize upd A13 p14 (.tup [.int 1, .int 3]) = A14 at ga14 ea14 hd14 ⊢
    conv => whnf
    refine ⟨small_ok (by simp), fun p15 hp15 => ?_⟩
    have ga15 := Gr.rfl'.up (o := .tup [.int 5, .int 6]) hp15
    have ea15 := upd_same (H := A14) (a := p15) (o := .tup [.int 5, .int 6])
    have na15 := (ne_of_none hd14 hp15).symm
    have hd15 := ga15 _ _ hd14
    generalize upd A14 p15 (.tup [.int 5, .int 6]) = A15 at ga15 ea15 hd15 ⊢
    conv => whnf
    refine ⟨small_ok (by simp), fun p16 hp16 => ?_⟩
    have ga16 := Gr.rfl'.up (o := .lst [.ref p13, .ref p14, .ref p15]) hp16
    have ea16 := upd_same (H := A15) (a := p16) (o := .lst [.ref p13, .ref p14, .ref p15])
    have na16 := (ne_of_none hd15 hp16).symm
    have hd16 := ga16 _ _ hd15
    generalize upd A15 p16 (.lst [.ref p13, .ref p14, .ref p15]) = A16 at ga16 ea16 hd16 ⊢
    conv => whnf
    refine ⟨small_ok (by simp), fun p17 hp17 => ?_⟩
    have ga17 := Gr.rfl'.up (o := .lst [.ref p4, .ref p8, .ref p12, .ref p16]) hp17
    have ea17 := upd_same (H := A16) (a := p17) (o := .lst [.ref p4, .ref p8, .ref p12, .ref p16])
    have na17 := (ne_of_none hd16 hp17).symm
    have hd17 := ga17 _ _ hd16
    generalize upd A16 p17 (.lst [.ref p4, .ref p8, .ref p12, .ref p16]) = A17 at ga17 ea17 hd17 ⊢
    have gz17 : Gr A17 A17 := Gr.rfl'
    have gz16 : Gr A16 A17 := ga17.trans gz17
    have gz15 : Gr A15 A17 := ga16.trans gz16
    have gz14 : Gr A14 A17 := ga15.trans gz15
    have gz13 : Gr A13 A17 := ga14.trans gz14
    have gz12 : Gr A12 A17 := ga13.trans gz13
    have gz11 : Gr A11 A17 := ga12.trans gz12
    have gz10 : Gr A10 A17 := ga11.trans gz11
    have gz9 : Gr A9 A17 := ga10.trans gz10
    have gz8 : Gr A8 A17 := ga9.trans gz9
    have gz7 : Gr A7 A17 := ga8.trans gz8
    have gz6 : Gr A6 A17 := ga7.trans gz7
    have gz5 : Gr A5 A17 := ga6.trans gz6
    have gz4 : Gr A4 A17 := ga5.trans gz5
    have gz3 : Gr A3 A17 := ga4.trans gz4
    have gz2 : Gr A2 A17 := ga3.trans gz3
    have gz1 : Gr A1 A17 := ga2.trans gz2
    have gz0 : Gr A0 A17 := ga1.trans gz1
    have fa0 := gz0 _ _ ea0
    have fa1 := gz1 _ _ ea1
    have fa2 := gz2 _ _ ea2
    have fa3 := gz3 _ _ ea3
    have fa4 := gz4 _ _ ea4
    have fa5 := gz5 _ _ ea5
    have fa6 := gz6 _ _ ea6
    have fa7 := gz7 _ _ ea7
    have fa8 := gz8 _ _ ea8
    have fa9 := gz9 _ _ ea9
    have fa10 := gz10 _ _ ea10
    have fa11 := gz11 _ _ ea11
    have fa12 := gz12 _ _ ea12
    have fa13 := gz13 _ _ ea13
    have fa14 := gz14 _ _ ea14
    have fa15 := gz15 _ _ ea15
    have fa16 := gz16 _ _ ea16
    have fa17 := ea17
    have gAll : Gr H A17 := ga0.trans gz0
    have pool4 : PoolAt A17 d (.ref p4) := ⟨p4, _, rfl, na4, fa4, by simp, by simp, pools_2 ⟨1, 1, by decide, p2, rfl, fa2⟩ ⟨1, 2, by decide, p3, rfl, fa3⟩⟩
    have pool8 : PoolAt A17 d (.ref p8) := ⟨p8, _, rfl, na8, fa8, by simp, by simp, pools_3 ⟨1, 3, by decide, p5, rfl, fa5⟩ ⟨2, 3, by decide, p6, rfl, fa6⟩ ⟨1, 1, by decide, p7, rfl, fa7⟩⟩
    have pool12 : PoolAt A17 d (.ref p12) := ⟨p12, _, rfl, na12, fa12, by simp, by simp, pools_3 ⟨1, 4, by decide, p9, rfl, fa9⟩ ⟨3, 4, by decide, p10, rfl, fa10⟩ ⟨1, 2, by decide, p11, rfl, fa11⟩⟩
    have pool16 : PoolAt A17 d (.ref p16) := ⟨p16, _, rfl, na16, fa16, by simp, by simp, pools_3 ⟨1, 2, by decide, p13, rfl, fa13⟩ ⟨1, 3, by decide, p14, rfl, fa14⟩ ⟨5, 6, by decide, p15, rfl, fa15⟩⟩
    clear ea0 ea1 ea2 ea3 ea4 ea5 ea6 ea7 ea8 ea9 ea10 ea11 ea12 ea13 ea14 ea15 ea16
    generalize A17 = A17' at *
    have poolsAll : ∀ v ∈ [V.ref p4, V.ref p8, V.ref p12, V.ref p16], PoolAt A17' d v := fun v hv => by
      simp only [List.mem_cons, List.not_mem_nil, or_false] at hv
      rcases hv with rfl | rfl | rfl | rfl <;> assumption
    have nOut := na17
    clear pool4 pool8 pool12 pool16 fa2 fa3 fa4 fa5 fa6 fa7 fa8 fa9 fa10 fa11 fa12 fa13 fa14 fa15 fa16 gz0 gz1 gz2 gz3 gz4 gz5 gz6 gz7 gz8 gz9 gz10 gz11 gz12 gz13 gz14 gz15 gz16 gz17 ea17
    conv => whnf
    refine ⟨d, n, o, _, _, rfl, hd17, D, by omega, .inr ⟨p17, rfl, na17, .inl (SqL.of fa17)⟩, by simp, by simp, fun B0 r0 o0 s0 hB0 D0 m0 => ?_⟩
    conv => whnf
    clear ga0 ga1 ga2 ga3 ga4 ga5 ga6 ga7 ga8 ga9 ga10 ga11 ga12 ga13 ga14 ga15 ga16 hd0 hd1 hd2 hd3 hd4 hd5 hd6 hd7 hd8 hd9 hd10 hd11 hd12 hd13 hd14 hd15 hd16 hp1 hp2 hp3 hp4 hp5 hp6 hp7 hp8 hp9 hp10 hp11 hp12 hp13 hp14 hp15 hp16
    have keep0 : ∀ b u, H b = some u → b ≠ d → B0 b = some u := fun b u e z => s0 b u (gAll _ _ e) z
    have f0 := s0 _ _ fa0 na0
    have f1 := s0 _ _ fa1 na1
    obtain ⟨pl, ts, rfl, npl, hts, hts0, hts1, hpairs⟩ := poolsAll r0 m0
    obtain ⟨oa, ob, oc, ho, _⟩ := id D
    have hts := s0 _ _ hts npl
    have hpairs : ∀ t ∈ ts, PairAt B0 t := fun t ht => (hpairs t ht).keep s0 (by rw [hd17, ho])
    clear poolsAll fa0 fa1 fa17 s0 gAll ga17 hp17 hd17
    conv => whnf
    refine ⟨small_ok (by simp), fun q1 hq1 => ?_⟩
    have gb1 := Gr.rfl'.up (o := .tup [.int 1, .int 24]) hq1
    have eb1 := upd_same (H := B0) (a := q1) (o := .tup [.int 1, .int 24])
    have nb1 := (ne_of_none hB0 hq1).symm
    have hB1 := gb1 _ _ hB0
    generalize upd B0 q1 (.tup [.int 1, .int 24]) = B1 at gb1 eb1 hB1 ⊢
    conv => whnf
    refine ⟨small_ok (by simp), fun q2 hq2 => ?_⟩
    have gb2 := Gr.rfl'.up (o := .lst [.ref q1]) hq2
    have eb2 := upd_same (H := B1) (a := q2) (o := .lst [.ref q1])
    have nb2 := (ne_of_none hB1 hq2).symm
    have hB2 := gb2 _ _ hB1
    generalize upd B1 q2 (.lst [.ref q1]) = B2 at gb2 eb2 hB2 ⊢
    have gB := gb1.trans gb2
    conv => whnf
    refine ⟨d, n + 1, 6, o0, rfl, hB2, D0, by omega, by decide, by decide, fun B3 r3 o3 s3 hB3 D3 l3 u3 => ?_⟩
    refine ⟨q2, _, [.ref q1], rfl, rfl, s3 _ _ eb2 nb2, by split <;> decide, by split <;> decide, small_ok (by split <;> simp), fun q3 hq3 => ?_⟩
    have hk1 : (if decide (V.int r3 = V.int 0) = true then (1 : Int) else 0).toNat ≤ 1 := by split <;> decide
    generalize (if decide (V.int r3 = V.int 0) = true then (1 : Int) else 0).toNat = kk at hk1 ⊢
    obtain ⟨hm1, hm2⟩ := rep_one (.ref q1) kk hk1
    generalize (List.replicate kk [V.ref q1]).flatten = ms at hm1 hm2 ⊢
    have gb4 := Gr.rfl'.up (o := .lst ms) hq3
    have eb4 := upd_same (H := B3) (a := q3) (o := .lst ms)
    have nb4 := (ne_of_none hB3 hq3).symm
    have hB4 := gb4 _ _ hB3
    generalize upd B3 q3 (.lst ms) = B4 at gb4 eb4 hB4 ⊢
    obtain ⟨o0a, o0b, o0c, ho0, _⟩ := id D0
    have hts4 := gb4 _ _ (s3 _ _ (gB _ _ hts) npl)
    have hpr4 : ∀ t ∈ ts ++ ms, PairAt B4 t := fun t ht => by
      rcases List.mem_append.mp ht with h | h
      · exact (((hpairs t h).up gB).keep s3 (by rw [hB2, ho0])).up gb4
      · rw [hm2 t h]
        exact ⟨1, 24, by decide, q1, rfl, gb4 _ _ (s3 _ _ (gb2 _ _ eb1) nb1)⟩
    conv => whnf
    refine .inl ⟨pl, q3, ts, ms, rfl, rfl, hts4, eb4, small_ok (by omega), fun q4 hq4 => ?_⟩
    have gb5 := Gr.rfl'.up (o := .lst (ts ++ ms)) hq4
    have eb5 := upd_same (H := B4) (a := q4) (o := .lst (ts ++ ms))
    have nb5 := (ne_of_none hB4 hq4).symm
    have hB5 := gb5 _ _ hB4
    generalize upd B4 q4 (.lst (ts ++ ms)) = B5 at gb5 eb5 hB5 ⊢
    have hpr5 : ∀ t ∈ ts ++ ms, PairAt B5 t := fun t ht => (hpr4 t ht).up gb5
    have hlen5 : 0 < (ts ++ ms).length ∧ (ts ++ ms).length ≤ 20 := by rw [List.length_append]; omega
    have keep5 : ∀ b u, B0 b = some u → b ≠ d → B5 b = some u := fun b u e z => gb5 _ _ (gb4 _ _ (s3 _ _ (gB _ _ e) z))
    have f05 := keep5 _ _ f0 na0
    have f15 := keep5 _ _ f1 na1
    have keepH : ∀ b u, H b = some u → b ≠ d → B5 b = some u := fun b u e z => keep5 b u (keep0 b u e z) z
    generalize ts ++ ms = pool at eb5 hpr5 hlen5
    clear hpr4 hts4 eb4 hm1 hm2 hpairs hts keep0 keep5 f0 f1 s3 gB eb1 eb2
    have nm5 : B5 p0 = some (.lst (names5.map V.str)) := f05
    conv => whnf
    refine ⟨p0, rfl, ⟨_, SqL.of nm5⟩, ?_⟩
    refine for_list (xs := names5.map V.str) (fun i σ Hm => ∃ (wa : Addr) (ws : List (Str × Nat × Nat)) (x5 : Option V), σ = [some (.ref d), some (.ref p0), some (.ref wa), some (.ref p17), some (.ref q4), x5, none, none, none] ∧ LpW d B5 Hm (n + 2) i wa ws) ⟨p1, [], _, rfl, ⟨fun b u e _ => e, ⟨o3, hB5, D3⟩, ⟨[], f15, rfl, fun i x w a b => by simp at b⟩, List.Sublist.refl _, fun w h => by simp at h⟩⟩ (fun i σ Hm hi ⟨wa, ws, x5, _, L⟩ => SqL.of (L.keep _ _ nm5 na0)) ?_ ?_
    · rintro i x σ Hm hx ⟨wa, ws, x5, rfl, L⟩
      have hi : i < 5 := (List.getElem?_eq_some_iff.mp hx).1
      rw [List.getElem?_map] at hx
      obtain ⟨z, hz, rfl⟩ := Option.map_eq_some_iff.mp hx
      obtain ⟨oi, hoi, Di⟩ := L.dice
      conv => whnf
      refine ⟨d, _, 3, oi, rfl, hoi, Di, by omega, by decide, by decide, fun C1 rr oj sj hC1 Dj lj uj => ?_⟩
      conv => whnf
      refine ⟨_, rfl, ?_⟩
      have L1 : ∀ b u, B5 b = some u → b ≠ d → C1 b = some u := fun b u e y => sj b u (L.keep b u e y) y
      obtain ⟨_, _, _, hoi', _⟩ := id Di
      obtain ⟨xs, hwa, hw⟩ := L.wts
      have nwa : wa ≠ d := fun q => by rw [q, hoi, hoi'] at hwa; cases hwa
      have hw1 := hw.keep sj (by rw [hoi, hoi'])
      have hwa1 := sj _ _ hwa nwa
      have etake : names5.take (i + 1) = names5.take i ++ [z] := by rw [List.take_add_one, hz]; rfl
      refine brD (fun h => ?_) (fun h => ?_)
      · conv => whnf
        refine ⟨d, _, oj, _, pool, rfl, hC1, Dj, by omega, .inr ⟨q4, rfl, nb5, .inl (SqL.of (L1 _ _ eb5 nb5))⟩, hlen5.1, by omega, fun C2 r ok sk hC2 Dk hr' => ?_⟩
        obtain ⟨_, _, _, hoj', _⟩ := id Dj
        have L2 : ∀ b u, B5 b = some u → b ≠ d → C2 b = some u := fun b u e y => sk b u (L1 b u e y) y
        obtain ⟨ta, tb, gp, rx, rfl, hrx⟩ := hpr5 r hr'
        have nrx : rx ≠ d := fun q => by rw [q, hB5] at hrx; obtain ⟨_, _, _, e3, _⟩ := id D3; rw [e3] at hrx; cases hrx
        have hrx2 := L2 _ _ hrx nrx
        have hw2 := hw1.keep sk (by rw [hC1, hoj'])
        have hwa2 := sk _ _ hwa1 nwa
        conv => whnf
        refine ⟨small_ok (by simp), fun t1 ht1 => ?_⟩
        have gc3 := Gr.rfl'.up (o := .tup [.str z, .ref rx]) ht1
        have ec3 := upd_same (H := C2) (a := t1) (o := .tup [.str z, .ref rx])
        have nc3 := (ne_of_none hC2 ht1).symm
        have hC3 := gc3 _ _ hC2
        generalize upd C2 t1 (.tup [.str z, .ref rx]) = C3 at gc3 ec3 hC3 ⊢
        conv => whnf
        refine ⟨small_ok (by simp), fun t2 ht2 => ?_⟩
        have gc4 := Gr.rfl'.up (o := .tup [.ref t1]) ht2
        have ec4 := upd_same (H := C3) (a := t2) (o := .tup [.ref t1])
        have nc4 := (ne_of_none hC3 ht2).symm
        have hC4 := gc4 _ _ hC3
        generalize upd C3 t2 (.tup [.ref t1]) = C4 at gc4 ec4 hC4 ⊢
        have gC := gc3.trans gc4
        have hws4 : WtL C4 (xs ++ [.ref t1]) (ws ++ [(z, ta, tb)]) := (hw2.up gC).snoc ⟨t1, rx, rfl, gc4 _ _ ec3, gC _ _ hrx2⟩
        have hsub : ((ws ++ [(z, ta, tb)]).map (·.1)).Sublist (names5.take (i + 1)) := by
          rw [etake, List.map_append]
          exact L.sub.append (List.Sublist.refl _)
        have hgood : ∀ w ∈ ws ++ [(z, ta, tb)], goodP w.2 := fun w hw => by
          rcases List.mem_append.mp hw with h | h
          · exact L.good w h
          · rw [List.mem_singleton.mp h]; exact gp
        have L4 : ∀ b u, B5 b = some u → b ≠ d → C4 b = some u := fun b u e y => gC _ _ (L2 b u e y)
        have Dk' : Dice (n + 2 + 2 * (i + 1)) ok := Dk.up (by omega)
        have hlx : xs.length ≤ 5 := by
          rw [hw.1]
          have := L.sub.length_le
          rw [List.length_map, List.length_take] at this
          omega
        conv => whnf
        refine .inr ⟨wa, t2, xs, [.ref t1], rfl, rfl, SqT.of (gC _ _ hwa2), SqT.of ec4, small_ok (by simp; omega), fun e0 => ?_, fun _ e1 => (nomatch e1), fun _ _ t3 ht3 => ?_⟩
        · subst e0
          conv => whnf
          exact ⟨t2, ws ++ [(z, ta, tb)], _, rfl, L4, ⟨ok, hC4, Dk'⟩, ⟨_, ec4, hws4⟩, hsub, hgood⟩
        · conv => whnf
          have g5 := Gr.rfl'.up (o := .tup (xs ++ [.ref t1])) ht3
          exact ⟨t3, ws ++ [(z, ta, tb)], _, rfl, fun b u e y => g5 _ _ (L4 b u e y), ⟨ok, g5 _ _ hC4, Dk'⟩, ⟨_, upd_same, hws4.up g5⟩, hsub, hgood⟩
      · conv => whnf
        refine ⟨wa, ws, _, rfl, L1, ⟨oj, hC1, Dj.up (by omega)⟩, ⟨xs, hwa1, hw1⟩, ?_, L.good⟩
        rw [etake]
        exact L.sub.trans (List.sublist_append_left _ _)
    · rintro σ Hm ⟨wa, ws, x5, rfl, L⟩
      have dw := L.draw
      obtain ⟨oh, hoh, Dh⟩ := L.dice
      obtain ⟨xs, hwa, hw⟩ := L.wts
      have nmh := L.keep _ _ nm5 na0
      have LH : ∀ b u, H b = some u → b ≠ d → Hm b = some u := fun b u e y => L.keep _ _ (keepH b u e y) y
      have hsub := L.sub
      clear L f05 f15 hpr5 eb5
      conv => whnf
      intro pd hpd
      have gn := Gr.rfl'.up (o := .dK []) hpd
      have en := upd_same (H := Hm) (a := pd) (o := .dK [])
      have npd := (ne_of_none hoh hpd).symm
      have hoh2 := gn _ _ hoh
      generalize upd Hm pd (.dK []) = Hn at gn en hoh2 ⊢
      have LN : ∀ b u, Hm b = some u → b ≠ d → Hn b = some u := fun b u e _ => gn _ _ e
      have nmn := gn _ _ nmh
      conv => whnf
      refine ⟨p0, rfl, ⟨_, SqL.of nmn⟩, ?_⟩
      refine for_list (xs := names5.map V.str) (fun i σ Hc => ∃ (cs : List (Str × Nat)) (x5 : Option V), σ = [some (.ref d), some (.ref p0), some (.ref wa), some (.ref p17), some (.ref q4), x5, some (.ref pd), none, none] ∧ LpC d pd Hm Hc (n + 12) i cs) ⟨[], _, rfl, LN, ⟨oh, hoh2, Dh⟩, en, rfl, fun c h => by simp at h⟩ (fun i σ Hc hi ⟨cs, x5, _, L⟩ => SqL.of (L.keep _ _ nmh na0)) ?_ ?_
      · rintro i x σ Hc hx ⟨cs, x5, rfl, L⟩
        have hi : i < 5 := (List.getElem?_eq_some_iff.mp hx).1
        rw [List.getElem?_map] at hx
        obtain ⟨z, hz, rfl⟩ := Option.map_eq_some_iff.mp hx
        obtain ⟨oi, hoi, Di⟩ := L.dice
        conv => whnf
        refine ⟨d, _, 2001, oi, rfl, hoi, Di, by omega, by decide, by decide, fun C1 r1 oj sj hC1 Dj l1 u1 => ?_⟩
        conv => whnf
        refine ⟨d, _, 30, oj, rfl, hC1, Dj, by omega, by decide, by decide, fun C2 r2 ok sk hC2 Dk l2 u2 => ?_⟩
        conv => whnf
        refine ⟨small_ok (by simp), fun pk hpk => ?_⟩
        have gc3 := Gr.rfl'.up (o := .lst [.int 0, .int 1, .int 2, .int 5, .int 2000, .int r1, .int r2]) hpk
        have ec3 := upd_same (H := C2) (a := pk) (o := .lst [.int 0, .int 1, .int 2, .int 5, .int 2000, .int r1, .int r2])
        have nc3 := (ne_of_none hC2 hpk).symm
        have hC3 := gc3 _ _ hC2
        generalize upd C2 pk (.lst [.int 0, .int 1, .int 2, .int 5, .int 2000, .int r1, .int r2]) = C3 at gc3 ec3 hC3 ⊢
        conv => whnf
        refine ⟨d, _, ok, _, _, rfl, hC3, Dk, by omega, .inr ⟨pk, rfl, nc3, .inl (SqL.of ec3)⟩, by simp, by simp, fun C4 r om sm hC4 Dm hr' => ?_⟩
        have hm : ∃ m : Nat, r = .int (m : Int) ∧ m ≤ 2000 := by
          simp only [List.mem_cons, List.not_mem_nil, or_false] at hr'
          rcases hr' with rfl | rfl | rfl | rfl | rfl | rfl | rfl
          · exact ⟨0, rfl, by decide⟩
          · exact ⟨1, rfl, by decide⟩
          · exact ⟨2, rfl, by decide⟩
          · exact ⟨5, rfl, by decide⟩
          · exact ⟨2000, rfl, by decide⟩
          · exact ⟨r1.toNat, by rw [Int.toNat_of_nonneg l1], by omega⟩
          · exact ⟨r2.toNat, by rw [Int.toNat_of_nonneg l2], by omega⟩
        obtain ⟨m, rfl, hm⟩ := hm
        have kp : ∀ b u, Hc b = some u → b ≠ d → C4 b = some u := fun b u e y => sm _ _ (gc3 _ _ (sk _ _ (sj _ _ e y) y)) y
        have hdc := kp _ _ L.dct npd
        have hnot : z ∉ cs.map (·.1) := by rw [L.nms]; exact names5_not hz
        have hlc : cs.length ≤ 5 := by
          have := congrArg List.length L.nms
          rw [List.length_map, List.length_take] at this
          omega
        conv => whnf
        refine ⟨pd, _, rfl, DPut.k (k := .inr z) hdc (small_lt (by unfold ck; rw [List.length_map]; omega)), ?_⟩
        rw [put_ck hnot]
        conv => whnf
        refine ⟨cs ++ [(z, m)], some (.str z), rfl, fun b u e y => ?_, ⟨om, ?_, Dm.up (by omega)⟩, upd_same, ?_, ?_⟩
        · have hb : b ≠ pd := fun q => by rw [q, hpd] at e; cases e
          rw [upd_ne hb]
          exact kp _ _ (L.keep _ _ e y) y
        · rw [upd_ne (Ne.symm npd)]; exact hC4
        · rw [List.map_append, L.nms, List.take_add_one, hz]; rfl
        · intro c hc
          rcases List.mem_append.mp hc with h | h
          · exact L.lim c h
          · rw [List.mem_singleton.mp h]; exact hm
      · rintro σ Hc ⟨cs, x5, rfl, L⟩
        have hnms : cs.map (·.1) = names5 := L.nms
        have hhas : ∀ w ∈ ws, (cnt cs w.1).isSome = true := fun w hw => cnt_has (by rw [hnms]; exact hsub.subset (List.mem_map.mpr ⟨w, hw, rfl⟩))
        have hlc : cs.length = 5 := by
          have := congrArg List.length hnms
          rw [List.length_map] at this
          exact this
        obtain ⟨oc, hoc, Dc⟩ := L.dice
        obtain ⟨_, _, _, hoh', _⟩ := id Dh
        have nwa : wa ≠ d := fun q => by rw [q, hoh, hoh'] at hwa; cases hwa
        have hwc := L.keep _ _ hwa nwa
        have hwl := hw.keep L.keep (by rw [hoh, hoh'])
        have bnd : BndW Hc wa pd ws cs := ⟨⟨xs, hwc, hwl⟩, dw.ok, dw.one, dw.few, dw.low, L.dct, by omega, L.lim, hhas⟩
        have nmw : NmW ws := fun w hw => nm8 _ (dw.mem w hw)
        conv => whnf
        refine ⟨wa, pd, ws, cs, rfl, bnd, nmw, fun E1 r g1 h1 h2 => ?_⟩
        have bnd1 := bnd.up g1
        conv => whnf
        refine ⟨_, _, _, _, _, rfl, .ty _, (Kd.int (r : Int)).1, kit_ty (kd_int (Kd.int (K := K) (H := E1) (r : Int)).2), ?_⟩
        conv => whnf
        refine brF ?_
        conv => whnf
        refine ⟨r, wa, pd, ws, cs, rfl, bnd1, h1, h2, ?_⟩
        conv => whnf
        refine brF ?_
        have nmE := g1 _ _ (L.keep _ _ nmh na0)
        have hdE := g1 _ _ hoc
        have hnd : (cs.map (·.1)).Nodup := by rw [hnms]; exact names5_nd
        conv => whnf
        refine ⟨p0, rfl, ⟨_, SqL.of nmE⟩, fun D hD => ?_⟩
        have nD : D ≠ d := fun q => by rw [q, hdE] at hD; cases hD
        refine lc_list (xs := names5.map V.str) (fun i Hm => ∃ (cs' : List (Str × Nat)) (ps : List Addr), LpM d D E1 Hm (n + 27) i cs cs' ps) ⟨[], [], fun b u e _ => (Gr.rfl'.up hD) _ _ e, ⟨oc, (Gr.rfl'.up hD) _ _ hdE, Dc⟩, upd_same, .nil, fun c h => by simp at h, .nil⟩ (fun i Hm hi ⟨cs', ps, M⟩ => SqL.of (M.keep _ _ nmE na0)) ?_ ?_
        · rintro i x Hm hx ⟨cs', ps, M⟩
          have hi : i < 5 := (List.getElem?_eq_some_iff.mp hx).1
          rw [List.getElem?_map] at hx
          obtain ⟨z, hz, rfl⟩ := Option.map_eq_some_iff.mp hx
          have hci : cs[i]? = some cs[i] := by simp [hlc, hi]
          have hz2 : cs[i].1 = z := by
            have h3 : (cs.map (·.1))[i]? = some z := by rw [hnms]; exact hz
            rw [List.getElem?_map, hci] at h3
            exact Option.some.inj h3
          have hcn := cnt_at hnd hci
          rw [hz2] at hcn
          have hlim := L.lim _ (List.getElem_mem (show i < cs.length by omega))
          generalize hci' : cs[i] = ci at hci hz2 hcn hlim
          obtain ⟨oi, hoi, Di⟩ := M.dice
          have hdct := M.keep _ _ (g1 _ _ L.dct) npd
          conv => whnf
          refine ⟨rfl, ?_⟩
          conv => whnf
          refine ⟨pd, .int (ci.2 : Int), rfl, ?_, ?_⟩
          · have h3 := DGet.k (k := .inr z) hdct
            rw [ck_val, hcn] at h3
            exact h3
          conv => whnf
          refine ⟨d, _, 9, oi, rfl, hoi, Di, by omega, by decide, by decide, fun C1 rr oj sj hC1 Dj lj uj => ?_⟩
          obtain ⟨_, _, _, hoi', _⟩ := id Di
          have emn : min (2000 : Int) ((ci.2 : Int) + rr) = ((min 2000 (ci.2 + rr.toNat) : Nat) : Int) := by omega
          conv => whnf
          rw [emn]
          have hm1 : min 2000 (ci.2 + rr.toNat) ≤ 2000 := by omega
          have hm2 : ci.2 ≤ min 2000 (ci.2 + rr.toNat) := by omega
          generalize min 2000 (ci.2 + rr.toNat) = m at hm1 hm2 ⊢
          refine ⟨small_ok (by simp), fun tp htp => ?_⟩
          have gt := Gr.rfl'.up (o := .tup [.str z, .int (m : Int)]) htp
          have hlD := gt _ _ (sj _ _ M.lst nD)
          have nt : tp ≠ D := fun q => by rw [q, sj _ _ M.lst nD] at htp; cases htp
          have nt2 : tp ≠ d := fun q => by rw [q, hC1] at htp; cases htp
          have lps : ps.length ≤ 5 := by
            have h5 := Paired.length M.tup
            have h6 := congrArg List.length (paired_fst M.par)
            simp only [List.length_map, List.length_take, ck] at h5 h6
            omega
          have kp : ∀ (b : Addr) (u : HO), Hm b = some u → b ≠ d → b ≠ D → (upd (upd C1 tp (.tup [.str z, .int (m : Int)])) D (.lst (ps.map V.ref ++ [.ref tp]))) b = some u := fun b u e y yD => by
            rw [upd_ne yD]; exact gt _ _ (sj _ _ e y)
          refine ⟨_, hlD, small_lt (by rw [List.length_map]; omega), cs' ++ [(z, m)], ps ++ [tp], fun b u e y => kp b u (M.keep b u e y) y (fun q => by rw [q, hD] at e; cases e), ⟨oj, by rw [upd_ne (Ne.symm nD)]; exact gt _ _ hC1, Dj.up (by omega)⟩, by rw [upd_same, List.map_append]; rfl, ?_, ?_, ?_⟩
          · rw [List.take_add_one, hci]
            exact Paired.snoc M.par ⟨hz2, hm2⟩
          · intro c hc
            rcases List.mem_append.mp hc with h | h
            · exact M.lim c h
            · rw [List.mem_singleton.mp h]; exact hm1
          · unfold ck
            rw [List.map_append]
            refine Paired.snoc (paired_up M.tup fun p kv e => kp p _ e (fun q => by rw [q, hoi, hoi'] at e; cases e) (fun q => by rw [q, M.lst] at e; cases e)) ?_
            rw [upd_ne nt, upd_same]
            rfl
        · rintro Hm ⟨cs', ps, M⟩
          have hcs5 : cs.take (names5.map V.str).length = cs := List.take_of_length_le (by rw [hlc]; decide)
          have par := M.par
          rw [hcs5] at par
          have hn' : cs'.map (·.1) = names5 := by rw [← paired_fst par]; exact hnms
          have hlc' : cs'.length = 5 := by
            have := congrArg List.length hn'
            rw [List.length_map] at this
            exact this
          have emg : mergeK [] (ck cs') = ck cs' := merge_ck cs' [] (by rw [List.nil_append, hn']; exact names5_nd)
          obtain ⟨om, hom, Dm⟩ := M.dice
          obtain ⟨_, _, _, hoc', _⟩ := id Dc
          obtain ⟨xs1, hxa, hxw⟩ := bnd1.wts
          conv => whnf
          refine ⟨D, ps, ck cs', rfl, SqL.of M.lst, paired_up M.tup fun p kv e => SqT.of e, fun pm hpm => ?_⟩
          rw [emg]
          have gm := Gr.rfl'.up (o := .dK (ck cs')) hpm
          have bnd2 : BndW (upd Hm pm (.dK (ck cs'))) wa pm ws cs' := ⟨⟨xs1, gm _ _ (M.keep _ _ hxa nwa), (hxw.keep M.keep (by rw [hdE, hoc'])).up gm⟩, dw.ok, dw.one, dw.few, dw.low, upd_same, by omega, M.lim, fun w hw => cnt_has (by rw [hn', ← hnms, hnms]; exact hsub.subset (List.mem_map.mpr ⟨w, hw, rfl⟩))⟩
          have hpdm := gm _ _ (M.keep _ _ bnd1.cts npd)
          have hodm := gm _ _ hom
          have Hkeep : ∀ b u, H b = some u → b ≠ d → (upd Hm pm (.dK (ck cs'))) b = some u := fun b u e y => gm _ _ (M.keep _ _ (g1 _ _ (L.keep _ _ (LH b u e y) y)) y)
          generalize upd Hm pm (.dK (ck cs')) = Hx at bnd2 hpdm hodm Hkeep ⊢
          conv => whnf
          refine ⟨wa, pm, ws, cs', rfl, bnd2, nmw, fun F1 r' gF k1 k2 => ?_⟩
          have hrr : r ≤ r' := root_up h1 (prodW_up ws fun w hw => cntD_up par w.1) k2
          conv => whnf
          rw [decide_eq_true (show ((r' : Int) ≥ (r : Int)) by omega)]
          refine brT ?_
          conv => whnf
          refine ⟨small_ok (by simp), fun t0 ht0 => ?_⟩
          have g0 := Gr.rfl'.up (o := .tup []) ht0
          conv => whnf
          refine ⟨t0, pd, [], cs, rfl, ⟨⟨[], upd_same, rfl, fun i x w a b => by simp at a⟩, drw_nil.ok, drw_nil.one, drw_nil.few, drw_nil.low, g0 _ _ (gF _ _ hpdm), by omega, L.lim, fun w h => by simp at h⟩, fun w h => by simp at h, fun F2 r2 g2 m1 m2 => ?_⟩
          have er : r2 = 1 := root_one m1 m2 (s := 1) (by show 1 ^ 1 ≤ 1; decide) (by show 1 < (1 + 1) ^ 1; decide)
          subst er
          conv => whnf
          exact k F2 om (fun b u e y => g2 _ _ (g0 _ _ (gF _ _ (Hkeep b u e y)))) (g2 _ _ (g0 _ _ (gF _ _ hodm))) (Dm.up (by show n + 27 + 5 ≤ n + 50; omega))
def sp_law (K : PySem.W.Frag) : Sp := fun vs H Q _ => ∃ (a : Addr) (ns : List Int), vs = [.ref a] ∧ SqL K H a (ns.map V.int) ∧ ns.length ≤ 63 ∧ ∀ H', Q (.bl true) H'
theorem enter (K : PySem.W.Frag) (H : Hp) (a : Addr) (ns : List Int) (h1 : ns.length ≤ 63) (h2 : ∀ z ∈ ns, Builtin.Int.intBits z ≤ 1048576) (h3 : SqL K H a (ns.map V.int)) : sp_law K [.ref a] H (fun v _ => v = .bl true) fun _ _ _ => False := ⟨a, ns, rfl, h3, h1, fun _ => rfl⟩
theorem ok_law (T : Txt K mg) : FnOk P w K mg base CX0 7 T.a_law T.d_law ["_law_script"] (sp_law K) := by
  refine T.F_law.ok sc_law (fun vs H Q E h => ?_) (fun cdv A outer s H vs Q E hr h => ?_)
  · obtain ⟨a, ns, rfl, _⟩ := h; rfl
  · obtain ⟨a, ns, rfl, hS, hn, k⟩ := h
    refine ⟨_, (pss_cons (ps_for PassesOwn.never rfl (pi_range1 (by rfl) T.b_range (pa_cons (pe_callB (caMax rfl) (by rfl) T.b_max (by decide +kernel) (pa_cons pe_int (pa_cons (pe_callB (caMin rfl) (by rfl) T.b_min (by decide +kernel) (pa_cons pe_int (pa_cons (pe_callB caLen (by rfl) T.b_len (by decide +kernel) (pa_cons (pev 0) pa_nil)) pa_nil))) pa_nil))) pa_nil)) (pg_name (i := 1) sc_law.nd rfl (by first | exact Or.inl rfl | exact Or.inr rfl))
        (pss_cons (ps_set (i := 2) sc_law.nd rfl (by first | exact Or.inl rfl | exact Or.inr rfl) (pe_call (ok__law_dice T) (hr.mono (by decide)) (by rfl) T.g__law_dice T.F__law_dice.kp T.B__law_dice .nil pass0 (pa_cons (pev 0) (pa_cons (pev 1) pa_nil))))
        (pss_one (ps_for PassesOwn.never rfl (pi_range1 (by rfl) T.b_range (pa_cons pe_int pa_nil)) (pg_name (i := 3) sc_law.nd rfl (by first | exact Or.inl rfl | exact Or.inr rfl))
        (pss_one (psIf (pt_not (ptV (pe_call (ok__law_right T) (hr.mono (by decide)) (by rfl) T.g__law_right T.F__law_right.kp T.B__law_right .nil pass0 (pa_cons (pev 2) pa_nil)))) (pss_one (ps_ret pe_bl)) pss_nil))))))
        (pss_cons (ps_asg (pe_tup (pa_cons (pe_tup (pa_cons pe_int (pa_cons pe_int pa_nil))) (pa_cons (pe_tup (pa_cons pe_int (pa_cons pe_int pa_nil))) pa_nil))) (pg_tup rfl (pgs_cons (pg_name (i := 4) sc_law.nd rfl (by first | exact Or.inl rfl | exact Or.inr rfl)) (pgs_cons (pg_name (i := 5) sc_law.nd rfl (by first | exact Or.inl rfl | exact Or.inr rfl)) pgs_nil))))
        (pss_cons (ps_set (i := 6) sc_law.nd rfl (by first | exact Or.inl rfl | exact Or.inr rfl) (pe_lst (pa_cons (pe_call (ok_bound T) (hr.mono (by decide)) (by rfl) T.g_bound T.F_bound.kp T.B_bound .nil pass0 (pa_cons (pe_tup (pa_cons (pe_tup (pa_cons pe_str (pa_cons (pev 4) pa_nil))) (pa_cons (pe_tup (pa_cons pe_str (pa_cons (pev 4) pa_nil))) pa_nil))) (pa_cons (pe_disp (pps_cons pe_str pe_int (pps_cons pe_str pe_int pps_nil)) (by rfl) (by rfl) (fun z => by cases z) (by decide)) pa_nil))) (pa_cons (pe_call (ok_bound T) (hr.mono (by decide)) (by rfl) T.g_bound T.F_bound.kp T.B_bound .nil pass0 (pa_cons (pe_tup (pa_cons (pe_tup (pa_cons pe_str (pa_cons (pev 4) pa_nil))) (pa_cons (pe_tup (pa_cons pe_str (pa_cons (pev 4) pa_nil))) pa_nil))) (pa_cons (pe_disp (pps_cons pe_str pe_int (pps_cons pe_str pe_int pps_nil)) (by rfl) (by rfl) (fun z => by cases z) (by decide)) pa_nil))) pa_nil))))
        (pss_cons (ps_set (i := 6) sc_law.nd rfl (by first | exact Or.inl rfl | exact Or.inr rfl) (pe_op opAdd (pev 6) (pe_lst (pa_cons (pe_call (ok_bound T) (hr.mono (by decide)) (by rfl) T.g_bound T.F_bound.kp T.B_bound .nil pass0 (pa_cons (pe_tup (pa_cons (pe_tup (pa_cons pe_str (pa_cons (pev 5) pa_nil))) (pa_cons (pe_tup (pa_cons pe_str (pa_cons (pe_tup (pa_cons pe_int (pa_cons pe_int pa_nil))) pa_nil))) pa_nil))) (pa_cons (pe_disp (pps_cons pe_str pe_int (pps_cons pe_str pe_int pps_nil)) (by rfl) (by rfl) (fun z => by cases z) (by decide)) pa_nil))) (pa_cons (pe_call (ok_bound T) (hr.mono (by decide)) (by rfl) T.g_bound T.F_bound.kp T.B_bound .nil pass0 (pa_cons (pe_tup (pa_cons (pe_tup (pa_cons pe_str (pa_cons (pe_tup (pa_cons pe_int (pa_cons pe_int pa_nil))) pa_nil))) pa_nil)) (pa_cons (pe_disp (pps_cons pe_str pe_int (pps_cons pe_str pe_int pps_nil)) (by rfl) (by rfl) (fun z => by cases z) (by decide)) pa_nil))) pa_nil)))))
        (pss_cons (ps_set (i := 6) sc_law.nd rfl (by first | exact Or.inl rfl | exact Or.inr rfl) (pe_op opAdd (pev 6) (pe_lst (pa_cons (pe_call (ok_bound T) (hr.mono (by decide)) (by rfl) T.g_bound T.F_bound.kp T.B_bound .nil pass0 (pa_cons (pe_tup (pa_cons (pe_tup (pa_cons pe_str (pa_cons (pev 4) pa_nil))) pa_nil)) (pa_cons (pe_disp (pps_cons pe_str pe_int pps_nil) (by rfl) (by rfl) (fun z => by cases z) (by decide)) pa_nil))) (pa_cons (pe_call (ok_bound T) (hr.mono (by decide)) (by rfl) T.g_bound T.F_bound.kp T.B_bound .nil pass0 (pa_cons (pe_tup pa_nil) (pa_cons pe_dnewK pa_nil))) pa_nil)))))
        (pss_cons (ps_expr (pe_bm PySem.F.plainAttrs_list PySem.F.slot_list_append PySem.F.type_list_append mt_append (pev 6) (pa_cons (pe_call (ok_bound T) (hr.mono (by decide)) (by rfl) T.g_bound T.F_bound.kp T.B_bound .nil pass0 (pa_cons (pe_tup (pa_cons (pe_tup (pa_cons pe_str (pa_cons (pev 4) pa_nil))) (pa_cons (pe_tup (pa_cons pe_str (pa_cons (pev 4) pa_nil))) (pa_cons (pe_tup (pa_cons pe_str (pa_cons (pev 4) pa_nil))) pa_nil)))) (pa_cons (pe_disp (pps_cons pe_str pe_int (pps_cons pe_str pe_int (pps_cons pe_str pe_int pps_nil))) (by rfl) (by rfl) (fun z => by cases z) (by decide)) pa_nil))) pa_nil)))
        (pss_one (ps_ret (pe_cmpR (opEq (hu64 hr)) (pev 6) (pe_lst (pa_cons pe_int (pa_cons pe_int (pa_cons pe_int (pa_cons pe_int (pa_cons pe_int (pa_cons pe_int (pa_cons pe_int pa_nil)))))))) (nomark _)))))))))), ?_⟩
    conv => whnf
    refine ⟨_, .inl hS, ?_⟩
    conv => whnf
    rw [List.length_map]
    refine ⟨_, rfl, by omega, by omega, for_range (lo := 0) (n := (max 1 (min 4 (ns.length : Int))).toNat) (fun i σ H' => (∃ v1 v2 v3, σ = [some (.ref a), v1, v2, v3, none, none, none]) ∧ Gr H H')
      ⟨⟨none, none, none, rfl⟩, fun _ _ e => e⟩ ?_ ?_⟩
    · rintro i σ H1 hi ⟨⟨v1, v2, v3, rfl⟩, s1⟩
      conv => whnf
      refine ⟨a, ns, i, by rw [Int.zero_add]; rfl, sqlSame s1 hS, by omega, fun H2 p o s2 p0 p1 D0 => ?_⟩
      conv => whnf
      refine ⟨_, rfl, by decide, by decide, for_range (lo := 0) (n := 8) (fun j σ H' => (∃ v3, σ = [some (.ref a), some (.int (0 + (i : Nat))), some (.ref p), v3, none, none, none]) ∧ Gr H1 H' ∧ ∃ o', H' p = some o' ∧ Dice (50 * j) o')
        ⟨⟨v3, rfl⟩, s2, o, p1, D0⟩ ?_ ?_⟩
      · rintro j σ H3 hj ⟨⟨v3, rfl⟩, s3, o3, p3, D3⟩
        conv => whnf
        refine ⟨p, _, o3, rfl, p3, D3, by omega, fun H4 o4 f4 g4 D4 => ?_⟩
        conv => whnf
        refine brF ?_
        exact ⟨⟨_, rfl⟩, fun b u e => f4 b u (s3 b u e) (fun z => by subst z; rw [p0] at e; cases e), o4, g4, D4.up (by omega)⟩
      · rintro σ H3 ⟨⟨v3, rfl⟩, s3, _⟩
        exact ⟨⟨_, _, _, rfl⟩, fun b u e => s3 b u (s1 b u e)⟩
    · rintro σ H1 ⟨⟨v1, v2, v3, rfl⟩, s1⟩
      conv => whnf
      refine ⟨small_ok (by simp), fun ph hph => ?_⟩
      have g1 := Gr.rfl'.up (o := .tup [.int 1, .int 2]) hph
      have e1 := upd_same (H := H1) (a := ph) (o := .tup [.int 1, .int 2])
      generalize upd H1 ph (.tup [.int 1, .int 2]) = H2 at g1 e1 ⊢
      conv => whnf
      refine ⟨small_ok (by simp), fun pt hpt => ?_⟩
      have g2 := Gr.rfl'.up (o := .tup [.int 1, .int 3]) hpt
      have e2 := upd_same (H := H2) (a := pt) (o := .tup [.int 1, .int 3])
      generalize upd H2 pt (.tup [.int 1, .int 3]) = H3 at g2 e2 ⊢
      conv => whnf
      refine ⟨small_ok (by simp), fun pp hpp => ?_⟩
      have g3 := Gr.rfl'.up (o := .tup [.ref ph, .ref pt]) hpp
      have e3 := upd_same (H := H3) (a := pp) (o := .tup [.ref ph, .ref pt])
      generalize upd H3 pp (.tup [.ref ph, .ref pt]) = H4 at g3 e3 ⊢
      conv => whnf
      refine ⟨pp, _, rfl, SqT.of e3, rfl, ?_⟩
      conv => whnf
      refine ⟨_, _, rfl, ?_⟩
      conv => whnf
      refine ⟨_, _, rfl, ?_⟩
      conv => whnf
      refine ⟨rfl, ?_⟩
      have half := g3 _ _ (g2 _ _ e1)
      have third := g3 _ _ e2
      clear e1 e2 e3 g1 g2 g3 s1
      conv => whnf
      refine ⟨small_ok (by simp), fun q1_0 hq1_0 => ?_⟩
      have g5 := Gr.rfl'.up (H := H4) (o := .tup [.str "r", .ref ph]) hq1_0
      have eq1_0 := upd_same (H := H4) (a := q1_0) (o := .tup [.str "r", .ref ph])
      generalize upd H4 q1_0 (.tup [.str "r", .ref ph]) = H5 at g5 eq1_0 ⊢
      replace half := g5 _ _ half
      replace third := g5 _ _ third
      conv => whnf
      refine ⟨small_ok (by simp), fun q1_1 hq1_1 => ?_⟩
      have g6 := Gr.rfl'.up (H := H5) (o := .tup [.str "s", .ref ph]) hq1_1
      have eq1_1 := upd_same (H := H5) (a := q1_1) (o := .tup [.str "s", .ref ph])
      generalize upd H5 q1_1 (.tup [.str "s", .ref ph]) = H6 at g6 eq1_1 ⊢
      replace half := g6 _ _ half
      replace third := g6 _ _ third
      replace eq1_0 := g6 _ _ eq1_0
      conv => whnf
      refine ⟨small_ok (by simp), fun t1 ht1 => ?_⟩
      have g7 := Gr.rfl'.up (H := H6) (o := .tup [.ref q1_0, .ref q1_1]) ht1
      have et1 := upd_same (H := H6) (a := t1) (o := .tup [.ref q1_0, .ref q1_1])
      generalize upd H6 t1 (.tup [.ref q1_0, .ref q1_1]) = H7 at g7 et1 ⊢
      replace half := g7 _ _ half
      replace third := g7 _ _ third
      replace eq1_0 := g7 _ _ eq1_0
      replace eq1_1 := g7 _ _ eq1_1
      conv => whnf
      intro d1 hd1
      conv => whnf
      refine ⟨upd_same, [(.inr "r", .int 5), (.inr "s", .int 7)], rfl, by decide, ?_⟩
      rw [upd_upd, show mergeK [] [(.inr "r", .int 5), (.inr "s", .int 7)] = ck [("r", 5), ("s", 7)] from merge_ck [("r", 5), ("s", 7)] [] (by decide +kernel)]
      have g8 := Gr.rfl'.up (H := H7) (o := .dK (ck [("r", 5), ("s", 7)])) hd1
      have ed1 := upd_same (H := H7) (a := d1) (o := .dK (ck [("r", 5), ("s", 7)]))
      generalize upd H7 d1 (.dK (ck [("r", 5), ("s", 7)])) = H8 at g8 ed1 ⊢
      replace half := g8 _ _ half
      replace third := g8 _ _ third
      replace eq1_0 := g8 _ _ eq1_0
      replace eq1_1 := g8 _ _ eq1_1
      replace et1 := g8 _ _ et1
      have dw1 : DrW [("r", 1, 2), ("s", 1, 2)] := ⟨by decide +kernel, by decide +kernel, by decide⟩
      have bd1 : BndW H8 t1 d1 [("r", 1, 2), ("s", 1, 2)] [("r", 5), ("s", 7)] := bnd_lit et1 ((wtl_nil.snoc (w := ("r", 1, 2)) ⟨q1_0, ph, rfl, eq1_0, half⟩).snoc (w := ("s", 1, 2)) ⟨q1_1, ph, rfl, eq1_1, half⟩) ed1 dw1 (by decide) (by decide +kernel) (by decide +kernel)
      conv => whnf
      refine ⟨t1, d1, _, _, rfl, bd1, fun w hw => nm8 _ (dw1.mem w hw), fun H9 r1 g9 u1 v1 => ?_⟩
      obtain rfl : r1 = 5 := root_one u1 v1 (by decide +kernel) (by decide +kernel)
      clear u1 v1 bd1 dw1
      replace half := g9 _ _ half
      replace third := g9 _ _ third
      conv => whnf
      refine ⟨small_ok (by simp), fun q2_0 hq2_0 => ?_⟩
      have g10 := Gr.rfl'.up (H := H9) (o := .tup [.str "r", .ref ph]) hq2_0
      have eq2_0 := upd_same (H := H9) (a := q2_0) (o := .tup [.str "r", .ref ph])
      generalize upd H9 q2_0 (.tup [.str "r", .ref ph]) = H10 at g10 eq2_0 ⊢
      replace half := g10 _ _ half
      replace third := g10 _ _ third
      conv => whnf
      refine ⟨small_ok (by simp), fun q2_1 hq2_1 => ?_⟩
      have g11 := Gr.rfl'.up (H := H10) (o := .tup [.str "s", .ref ph]) hq2_1
      have eq2_1 := upd_same (H := H10) (a := q2_1) (o := .tup [.str "s", .ref ph])
      generalize upd H10 q2_1 (.tup [.str "s", .ref ph]) = H11 at g11 eq2_1 ⊢
      replace half := g11 _ _ half
      replace third := g11 _ _ third
      replace eq2_0 := g11 _ _ eq2_0
      conv => whnf
      refine ⟨small_ok (by simp), fun t2 ht2 => ?_⟩
      have g12 := Gr.rfl'.up (H := H11) (o := .tup [.ref q2_0, .ref q2_1]) ht2
      have et2 := upd_same (H := H11) (a := t2) (o := .tup [.ref q2_0, .ref q2_1])
      generalize upd H11 t2 (.tup [.ref q2_0, .ref q2_1]) = H12 at g12 et2 ⊢
      replace half := g12 _ _ half
      replace third := g12 _ _ third
      replace eq2_0 := g12 _ _ eq2_0
      replace eq2_1 := g12 _ _ eq2_1
      conv => whnf
      intro d2 hd2
      conv => whnf
      refine ⟨upd_same, [(.inr "r", .int 9), (.inr "s", .int 9)], rfl, by decide, ?_⟩
      rw [upd_upd, show mergeK [] [(.inr "r", .int 9), (.inr "s", .int 9)] = ck [("r", 9), ("s", 9)] from merge_ck [("r", 9), ("s", 9)] [] (by decide +kernel)]
      have g13 := Gr.rfl'.up (H := H12) (o := .dK (ck [("r", 9), ("s", 9)])) hd2
      have ed2 := upd_same (H := H12) (a := d2) (o := .dK (ck [("r", 9), ("s", 9)]))
      generalize upd H12 d2 (.dK (ck [("r", 9), ("s", 9)])) = H13 at g13 ed2 ⊢
      replace half := g13 _ _ half
      replace third := g13 _ _ third
      replace eq2_0 := g13 _ _ eq2_0
      replace eq2_1 := g13 _ _ eq2_1
      replace et2 := g13 _ _ et2
      have dw2 : DrW [("r", 1, 2), ("s", 1, 2)] := ⟨by decide +kernel, by decide +kernel, by decide⟩
      have bd2 : BndW H13 t2 d2 [("r", 1, 2), ("s", 1, 2)] [("r", 9), ("s", 9)] := bnd_lit et2 ((wtl_nil.snoc (w := ("r", 1, 2)) ⟨q2_0, ph, rfl, eq2_0, half⟩).snoc (w := ("s", 1, 2)) ⟨q2_1, ph, rfl, eq2_1, half⟩) ed2 dw2 (by decide) (by decide +kernel) (by decide +kernel)
      conv => whnf
      refine ⟨t2, d2, _, _, rfl, bd2, fun w hw => nm8 _ (dw2.mem w hw), fun H14 r2 g14 u2 v2 => ?_⟩
      obtain rfl : r2 = 9 := root_one u2 v2 (by decide +kernel) (by decide +kernel)
      clear u2 v2 bd2 dw2
      replace half := g14 _ _ half
      replace third := g14 _ _ third
      conv => whnf
      refine ⟨small_ok (by simp), fun l1 hl1 => ?_⟩
      have g15 := Gr.rfl'.up (H := H14) (o := .lst [.int ((5 : Nat) : Int), .int ((9 : Nat) : Int)]) hl1
      have el1 := upd_same (H := H14) (a := l1) (o := .lst [.int ((5 : Nat) : Int), .int ((9 : Nat) : Int)])
      generalize upd H14 l1 (.lst [.int ((5 : Nat) : Int), .int ((9 : Nat) : Int)]) = H15 at g15 el1 ⊢
      replace half := g15 _ _ half
      replace third := g15 _ _ third
      conv => whnf
      refine ⟨small_ok (by simp), fun q3_0 hq3_0 => ?_⟩
      have g16 := Gr.rfl'.up (H := H15) (o := .tup [.str "r", .ref pt]) hq3_0
      have eq3_0 := upd_same (H := H15) (a := q3_0) (o := .tup [.str "r", .ref pt])
      generalize upd H15 q3_0 (.tup [.str "r", .ref pt]) = H16 at g16 eq3_0 ⊢
      replace half := g16 _ _ half
      replace third := g16 _ _ third
      replace el1 := g16 _ _ el1
      conv => whnf
      refine ⟨small_ok (by simp), fun n3_1 hn3_1 => ?_⟩
      have g17 := Gr.rfl'.up (H := H16) (o := .tup [.int 2, .int 3]) hn3_1
      have en3_1 := upd_same (H := H16) (a := n3_1) (o := .tup [.int 2, .int 3])
      generalize upd H16 n3_1 (.tup [.int 2, .int 3]) = H17 at g17 en3_1 ⊢
      replace half := g17 _ _ half
      replace third := g17 _ _ third
      replace el1 := g17 _ _ el1
      replace eq3_0 := g17 _ _ eq3_0
      conv => whnf
      refine ⟨small_ok (by simp), fun q3_1 hq3_1 => ?_⟩
      have g18 := Gr.rfl'.up (H := H17) (o := .tup [.str "s", .ref n3_1]) hq3_1
      have eq3_1 := upd_same (H := H17) (a := q3_1) (o := .tup [.str "s", .ref n3_1])
      generalize upd H17 q3_1 (.tup [.str "s", .ref n3_1]) = H18 at g18 eq3_1 ⊢
      replace half := g18 _ _ half
      replace third := g18 _ _ third
      replace el1 := g18 _ _ el1
      replace eq3_0 := g18 _ _ eq3_0
      replace en3_1 := g18 _ _ en3_1
      conv => whnf
      refine ⟨small_ok (by simp), fun t3 ht3 => ?_⟩
      have g19 := Gr.rfl'.up (H := H18) (o := .tup [.ref q3_0, .ref q3_1]) ht3
      have et3 := upd_same (H := H18) (a := t3) (o := .tup [.ref q3_0, .ref q3_1])
      generalize upd H18 t3 (.tup [.ref q3_0, .ref q3_1]) = H19 at g19 et3 ⊢
      replace half := g19 _ _ half
      replace third := g19 _ _ third
      replace el1 := g19 _ _ el1
      replace eq3_0 := g19 _ _ eq3_0
      replace en3_1 := g19 _ _ en3_1
      replace eq3_1 := g19 _ _ eq3_1
      conv => whnf
      intro d3 hd3
      conv => whnf
      refine ⟨upd_same, [(.inr "r", .int 8), (.inr "s", .int 8)], rfl, by decide, ?_⟩
      rw [upd_upd, show mergeK [] [(.inr "r", .int 8), (.inr "s", .int 8)] = ck [("r", 8), ("s", 8)] from merge_ck [("r", 8), ("s", 8)] [] (by decide +kernel)]
      have g20 := Gr.rfl'.up (H := H19) (o := .dK (ck [("r", 8), ("s", 8)])) hd3
      have ed3 := upd_same (H := H19) (a := d3) (o := .dK (ck [("r", 8), ("s", 8)]))
      generalize upd H19 d3 (.dK (ck [("r", 8), ("s", 8)])) = H20 at g20 ed3 ⊢
      replace half := g20 _ _ half
      replace third := g20 _ _ third
      replace el1 := g20 _ _ el1
      replace eq3_0 := g20 _ _ eq3_0
      replace en3_1 := g20 _ _ en3_1
      replace eq3_1 := g20 _ _ eq3_1
      replace et3 := g20 _ _ et3
      have dw3 : DrW [("r", 1, 3), ("s", 2, 3)] := ⟨by decide +kernel, by decide +kernel, by decide⟩
      have bd3 : BndW H20 t3 d3 [("r", 1, 3), ("s", 2, 3)] [("r", 8), ("s", 8)] := bnd_lit et3 ((wtl_nil.snoc (w := ("r", 1, 3)) ⟨q3_0, pt, rfl, eq3_0, third⟩).snoc (w := ("s", 2, 3)) ⟨q3_1, n3_1, rfl, eq3_1, en3_1⟩) ed3 dw3 (by decide) (by decide +kernel) (by decide +kernel)
      conv => whnf
      refine ⟨t3, d3, _, _, rfl, bd3, fun w hw => nm8 _ (dw3.mem w hw), fun H21 r3 g21 u3 v3 => ?_⟩
      obtain rfl : r3 = 8 := root_one u3 v3 (by decide +kernel) (by decide +kernel)
      clear u3 v3 bd3 dw3
      replace half := g21 _ _ half
      replace third := g21 _ _ third
      replace el1 := g21 _ _ el1
      conv => whnf
      refine ⟨small_ok (by simp), fun n4_0 hn4_0 => ?_⟩
      have g22 := Gr.rfl'.up (H := H21) (o := .tup [.int 1, .int 1]) hn4_0
      have en4_0 := upd_same (H := H21) (a := n4_0) (o := .tup [.int 1, .int 1])
      generalize upd H21 n4_0 (.tup [.int 1, .int 1]) = H22 at g22 en4_0 ⊢
      replace half := g22 _ _ half
      replace third := g22 _ _ third
      replace el1 := g22 _ _ el1
      conv => whnf
      refine ⟨small_ok (by simp), fun q4_0 hq4_0 => ?_⟩
      have g23 := Gr.rfl'.up (H := H22) (o := .tup [.str "r", .ref n4_0]) hq4_0
      have eq4_0 := upd_same (H := H22) (a := q4_0) (o := .tup [.str "r", .ref n4_0])
      generalize upd H22 q4_0 (.tup [.str "r", .ref n4_0]) = H23 at g23 eq4_0 ⊢
      replace half := g23 _ _ half
      replace third := g23 _ _ third
      replace el1 := g23 _ _ el1
      replace en4_0 := g23 _ _ en4_0
      conv => whnf
      refine ⟨small_ok (by simp), fun t4 ht4 => ?_⟩
      have g24 := Gr.rfl'.up (H := H23) (o := .tup [.ref q4_0]) ht4
      have et4 := upd_same (H := H23) (a := t4) (o := .tup [.ref q4_0])
      generalize upd H23 t4 (.tup [.ref q4_0]) = H24 at g24 et4 ⊢
      replace half := g24 _ _ half
      replace third := g24 _ _ third
      replace el1 := g24 _ _ el1
      replace en4_0 := g24 _ _ en4_0
      replace eq4_0 := g24 _ _ eq4_0
      conv => whnf
      intro d4 hd4
      conv => whnf
      refine ⟨upd_same, [(.inr "r", .int 0), (.inr "s", .int 5)], rfl, by decide, ?_⟩
      rw [upd_upd, show mergeK [] [(.inr "r", .int 0), (.inr "s", .int 5)] = ck [("r", 0), ("s", 5)] from merge_ck [("r", 0), ("s", 5)] [] (by decide +kernel)]
      have g25 := Gr.rfl'.up (H := H24) (o := .dK (ck [("r", 0), ("s", 5)])) hd4
      have ed4 := upd_same (H := H24) (a := d4) (o := .dK (ck [("r", 0), ("s", 5)]))
      generalize upd H24 d4 (.dK (ck [("r", 0), ("s", 5)])) = H25 at g25 ed4 ⊢
      replace half := g25 _ _ half
      replace third := g25 _ _ third
      replace el1 := g25 _ _ el1
      replace en4_0 := g25 _ _ en4_0
      replace eq4_0 := g25 _ _ eq4_0
      replace et4 := g25 _ _ et4
      have dw4 : DrW [("r", 1, 1)] := ⟨by decide +kernel, by decide +kernel, by decide⟩
      have bd4 : BndW H25 t4 d4 [("r", 1, 1)] [("r", 0), ("s", 5)] := bnd_lit et4 (wtl_nil.snoc (w := ("r", 1, 1)) ⟨q4_0, n4_0, rfl, eq4_0, en4_0⟩) ed4 dw4 (by decide) (by decide +kernel) (by decide +kernel)
      conv => whnf
      refine ⟨t4, d4, _, _, rfl, bd4, fun w hw => nm8 _ (dw4.mem w hw), fun H26 r4 g26 u4 v4 => ?_⟩
      obtain rfl : r4 = 0 := root_one u4 v4 (by decide +kernel) (by decide +kernel)
      clear u4 v4 bd4 dw4
      replace half := g26 _ _ half
      replace third := g26 _ _ third
      replace el1 := g26 _ _ el1
      conv => whnf
      refine ⟨small_ok (by simp), fun l2 hl2 => ?_⟩
      have g27 := Gr.rfl'.up (H := H26) (o := .lst [.int ((8 : Nat) : Int), .int ((0 : Nat) : Int)]) hl2
      have el2 := upd_same (H := H26) (a := l2) (o := .lst [.int ((8 : Nat) : Int), .int ((0 : Nat) : Int)])
      generalize upd H26 l2 (.lst [.int ((8 : Nat) : Int), .int ((0 : Nat) : Int)]) = H27 at g27 el2 ⊢
      replace half := g27 _ _ half
      replace third := g27 _ _ third
      replace el1 := g27 _ _ el1
      conv => whnf
      refine .inl ⟨l1, l2, _, _, rfl, rfl, el1, el2, small_ok (by simp), fun m1 hm1 => ?_⟩
      rw [show ([.int ((5 : Nat) : Int), .int ((9 : Nat) : Int)] ++ [.int ((8 : Nat) : Int), .int ((0 : Nat) : Int)] : List V) = [.int ((5 : Nat) : Int), .int ((9 : Nat) : Int), .int ((8 : Nat) : Int), .int ((0 : Nat) : Int)] from rfl]
      have g28 := Gr.rfl'.up (H := H27) (o := .lst [.int ((5 : Nat) : Int), .int ((9 : Nat) : Int), .int ((8 : Nat) : Int), .int ((0 : Nat) : Int)]) hm1
      have em1 := upd_same (H := H27) (a := m1) (o := .lst [.int ((5 : Nat) : Int), .int ((9 : Nat) : Int), .int ((8 : Nat) : Int), .int ((0 : Nat) : Int)])
      generalize upd H27 m1 (.lst [.int ((5 : Nat) : Int), .int ((9 : Nat) : Int), .int ((8 : Nat) : Int), .int ((0 : Nat) : Int)]) = H28 at g28 em1 ⊢
      replace half := g28 _ _ half
      replace third := g28 _ _ third
      replace el1 := g28 _ _ el1
      replace el2 := g28 _ _ el2
      conv => whnf
      refine ⟨small_ok (by simp), fun q5_0 hq5_0 => ?_⟩
      have g29 := Gr.rfl'.up (H := H28) (o := .tup [.str "r", .ref ph]) hq5_0
      have eq5_0 := upd_same (H := H28) (a := q5_0) (o := .tup [.str "r", .ref ph])
      generalize upd H28 q5_0 (.tup [.str "r", .ref ph]) = H29 at g29 eq5_0 ⊢
      replace half := g29 _ _ half
      replace third := g29 _ _ third
      replace el1 := g29 _ _ el1
      replace el2 := g29 _ _ el2
      replace em1 := g29 _ _ em1
      conv => whnf
      refine ⟨small_ok (by simp), fun t5 ht5 => ?_⟩
      have g30 := Gr.rfl'.up (H := H29) (o := .tup [.ref q5_0]) ht5
      have et5 := upd_same (H := H29) (a := t5) (o := .tup [.ref q5_0])
      generalize upd H29 t5 (.tup [.ref q5_0]) = H30 at g30 et5 ⊢
      replace half := g30 _ _ half
      replace third := g30 _ _ third
      replace el1 := g30 _ _ el1
      replace el2 := g30 _ _ el2
      replace em1 := g30 _ _ em1
      replace eq5_0 := g30 _ _ eq5_0
      conv => whnf
      intro d5 hd5
      conv => whnf
      refine ⟨upd_same, [(.inr "r", .int 0)], rfl, by decide, ?_⟩
      rw [upd_upd, show mergeK [] [(.inr "r", .int 0)] = ck [("r", 0)] from merge_ck [("r", 0)] [] (by decide +kernel)]
      have g31 := Gr.rfl'.up (H := H30) (o := .dK (ck [("r", 0)])) hd5
      have ed5 := upd_same (H := H30) (a := d5) (o := .dK (ck [("r", 0)]))
      generalize upd H30 d5 (.dK (ck [("r", 0)])) = H31 at g31 ed5 ⊢
      replace half := g31 _ _ half
      replace third := g31 _ _ third
      replace el1 := g31 _ _ el1
      replace el2 := g31 _ _ el2
      replace em1 := g31 _ _ em1
      replace eq5_0 := g31 _ _ eq5_0
      replace et5 := g31 _ _ et5
      have dw5 : DrW [("r", 1, 2)] := ⟨by decide +kernel, by decide +kernel, by decide⟩
      have bd5 : BndW H31 t5 d5 [("r", 1, 2)] [("r", 0)] := bnd_lit et5 (wtl_nil.snoc (w := ("r", 1, 2)) ⟨q5_0, ph, rfl, eq5_0, half⟩) ed5 dw5 (by decide) (by decide +kernel) (by decide +kernel)
      conv => whnf
      refine ⟨t5, d5, _, _, rfl, bd5, fun w hw => nm8 _ (dw5.mem w hw), fun H32 r5 g32 u5 v5 => ?_⟩
      obtain rfl : r5 = 0 := root_one u5 v5 (by decide +kernel) (by decide +kernel)
      clear u5 v5 bd5 dw5
      replace half := g32 _ _ half
      replace third := g32 _ _ third
      replace el1 := g32 _ _ el1
      replace el2 := g32 _ _ el2
      replace em1 := g32 _ _ em1
      conv => whnf
      refine ⟨small_ok (by simp), fun t6 ht6 => ?_⟩
      have g33 := Gr.rfl'.up (H := H32) (o := .tup []) ht6
      have et6 := upd_same (H := H32) (a := t6) (o := .tup [])
      generalize upd H32 t6 (.tup []) = H33 at g33 et6 ⊢
      replace half := g33 _ _ half
      replace third := g33 _ _ third
      replace el1 := g33 _ _ el1
      replace el2 := g33 _ _ el2
      replace em1 := g33 _ _ em1
      conv => whnf
      intro d6 hd6
      rw [show HO.dK [] = HO.dK (ck []) from rfl]
      have g34 := Gr.rfl'.up (H := H33) (o := .dK (ck [])) hd6
      have ed6 := upd_same (H := H33) (a := d6) (o := .dK (ck []))
      generalize upd H33 d6 (.dK (ck [])) = H34 at g34 ed6 ⊢
      replace half := g34 _ _ half
      replace third := g34 _ _ third
      replace el1 := g34 _ _ el1
      replace el2 := g34 _ _ el2
      replace em1 := g34 _ _ em1
      replace et6 := g34 _ _ et6
      have dw6 : DrW [] := ⟨by decide +kernel, by decide +kernel, by decide⟩
      have bd6 : BndW H34 t6 d6 [] [] := bnd_lit et6 wtl_nil ed6 dw6 (by decide) (by decide +kernel) (by decide +kernel)
      conv => whnf
      refine ⟨t6, d6, _, _, rfl, bd6, fun w hw => nm8 _ (dw6.mem w hw), fun H35 r6 g35 u6 v6 => ?_⟩
      obtain rfl : r6 = 1 := root_one u6 v6 (by decide +kernel) (by decide +kernel)
      clear u6 v6 bd6 dw6
      replace half := g35 _ _ half
      replace third := g35 _ _ third
      replace el1 := g35 _ _ el1
      replace el2 := g35 _ _ el2
      replace em1 := g35 _ _ em1
      conv => whnf
      refine ⟨small_ok (by simp), fun l3 hl3 => ?_⟩
      have g36 := Gr.rfl'.up (H := H35) (o := .lst [.int ((0 : Nat) : Int), .int ((1 : Nat) : Int)]) hl3
      have el3 := upd_same (H := H35) (a := l3) (o := .lst [.int ((0 : Nat) : Int), .int ((1 : Nat) : Int)])
      generalize upd H35 l3 (.lst [.int ((0 : Nat) : Int), .int ((1 : Nat) : Int)]) = H36 at g36 el3 ⊢
      replace half := g36 _ _ half
      replace third := g36 _ _ third
      replace el1 := g36 _ _ el1
      replace el2 := g36 _ _ el2
      replace em1 := g36 _ _ em1
      conv => whnf
      refine .inl ⟨m1, l3, _, _, rfl, rfl, em1, el3, small_ok (by simp), fun m2 hm2 => ?_⟩
      rw [show ([.int ((5 : Nat) : Int), .int ((9 : Nat) : Int), .int ((8 : Nat) : Int), .int ((0 : Nat) : Int)] ++ [.int ((0 : Nat) : Int), .int ((1 : Nat) : Int)] : List V) = [.int ((5 : Nat) : Int), .int ((9 : Nat) : Int), .int ((8 : Nat) : Int), .int ((0 : Nat) : Int), .int ((0 : Nat) : Int), .int ((1 : Nat) : Int)] from rfl]
      have g37 := Gr.rfl'.up (H := H36) (o := .lst [.int ((5 : Nat) : Int), .int ((9 : Nat) : Int), .int ((8 : Nat) : Int), .int ((0 : Nat) : Int), .int ((0 : Nat) : Int), .int ((1 : Nat) : Int)]) hm2
      have em2 := upd_same (H := H36) (a := m2) (o := .lst [.int ((5 : Nat) : Int), .int ((9 : Nat) : Int), .int ((8 : Nat) : Int), .int ((0 : Nat) : Int), .int ((0 : Nat) : Int), .int ((1 : Nat) : Int)])
      generalize upd H36 m2 (.lst [.int ((5 : Nat) : Int), .int ((9 : Nat) : Int), .int ((8 : Nat) : Int), .int ((0 : Nat) : Int), .int ((0 : Nat) : Int), .int ((1 : Nat) : Int)]) = H37 at g37 em2 ⊢
      replace half := g37 _ _ half
      replace third := g37 _ _ third
      replace el1 := g37 _ _ el1
      replace el2 := g37 _ _ el2
      replace em1 := g37 _ _ em1
      replace el3 := g37 _ _ el3
      conv => whnf
      refine ⟨.inl ⟨rfl, _, SqL.of em2⟩, ?_⟩
      conv => whnf
      refine ⟨small_ok (by simp), fun q7_0 hq7_0 => ?_⟩
      have g38 := Gr.rfl'.up (H := H37) (o := .tup [.str "r", .ref ph]) hq7_0
      have eq7_0 := upd_same (H := H37) (a := q7_0) (o := .tup [.str "r", .ref ph])
      generalize upd H37 q7_0 (.tup [.str "r", .ref ph]) = H38 at g38 eq7_0 ⊢
      replace half := g38 _ _ half
      replace third := g38 _ _ third
      replace el1 := g38 _ _ el1
      replace el2 := g38 _ _ el2
      replace em1 := g38 _ _ em1
      replace el3 := g38 _ _ el3
      replace em2 := g38 _ _ em2
      conv => whnf
      refine ⟨small_ok (by simp), fun q7_1 hq7_1 => ?_⟩
      have g39 := Gr.rfl'.up (H := H38) (o := .tup [.str "s", .ref ph]) hq7_1
      have eq7_1 := upd_same (H := H38) (a := q7_1) (o := .tup [.str "s", .ref ph])
      generalize upd H38 q7_1 (.tup [.str "s", .ref ph]) = H39 at g39 eq7_1 ⊢
      replace half := g39 _ _ half
      replace third := g39 _ _ third
      replace el1 := g39 _ _ el1
      replace el2 := g39 _ _ el2
      replace em1 := g39 _ _ em1
      replace el3 := g39 _ _ el3
      replace em2 := g39 _ _ em2
      replace eq7_0 := g39 _ _ eq7_0
      conv => whnf
      refine ⟨small_ok (by simp), fun q7_2 hq7_2 => ?_⟩
      have g40 := Gr.rfl'.up (H := H39) (o := .tup [.str "t", .ref ph]) hq7_2
      have eq7_2 := upd_same (H := H39) (a := q7_2) (o := .tup [.str "t", .ref ph])
      generalize upd H39 q7_2 (.tup [.str "t", .ref ph]) = H40 at g40 eq7_2 ⊢
      replace half := g40 _ _ half
      replace third := g40 _ _ third
      replace el1 := g40 _ _ el1
      replace el2 := g40 _ _ el2
      replace em1 := g40 _ _ em1
      replace el3 := g40 _ _ el3
      replace em2 := g40 _ _ em2
      replace eq7_0 := g40 _ _ eq7_0
      replace eq7_1 := g40 _ _ eq7_1
      conv => whnf
      refine ⟨small_ok (by simp), fun t7 ht7 => ?_⟩
      have g41 := Gr.rfl'.up (H := H40) (o := .tup [.ref q7_0, .ref q7_1, .ref q7_2]) ht7
      have et7 := upd_same (H := H40) (a := t7) (o := .tup [.ref q7_0, .ref q7_1, .ref q7_2])
      generalize upd H40 t7 (.tup [.ref q7_0, .ref q7_1, .ref q7_2]) = H41 at g41 et7 ⊢
      replace half := g41 _ _ half
      replace third := g41 _ _ third
      replace el1 := g41 _ _ el1
      replace el2 := g41 _ _ el2
      replace em1 := g41 _ _ em1
      replace el3 := g41 _ _ el3
      replace em2 := g41 _ _ em2
      replace eq7_0 := g41 _ _ eq7_0
      replace eq7_1 := g41 _ _ eq7_1
      replace eq7_2 := g41 _ _ eq7_2
      conv => whnf
      intro d7 hd7
      conv => whnf
      refine ⟨upd_same, [(.inr "r", .int 4), (.inr "s", .int 4), (.inr "t", .int 4)], rfl, by decide, ?_⟩
      rw [upd_upd, show mergeK [] [(.inr "r", .int 4), (.inr "s", .int 4), (.inr "t", .int 4)] = ck [("r", 4), ("s", 4), ("t", 4)] from merge_ck [("r", 4), ("s", 4), ("t", 4)] [] (by decide +kernel)]
      have g42 := Gr.rfl'.up (H := H41) (o := .dK (ck [("r", 4), ("s", 4), ("t", 4)])) hd7
      have ed7 := upd_same (H := H41) (a := d7) (o := .dK (ck [("r", 4), ("s", 4), ("t", 4)]))
      generalize upd H41 d7 (.dK (ck [("r", 4), ("s", 4), ("t", 4)])) = H42 at g42 ed7 ⊢
      replace half := g42 _ _ half
      replace third := g42 _ _ third
      replace el1 := g42 _ _ el1
      replace el2 := g42 _ _ el2
      replace em1 := g42 _ _ em1
      replace el3 := g42 _ _ el3
      replace em2 := g42 _ _ em2
      replace eq7_0 := g42 _ _ eq7_0
      replace eq7_1 := g42 _ _ eq7_1
      replace eq7_2 := g42 _ _ eq7_2
      replace et7 := g42 _ _ et7
      have dw7 : DrW [("r", 1, 2), ("s", 1, 2), ("t", 1, 2)] := ⟨by decide +kernel, by decide +kernel, by decide⟩
      have bd7 : BndW H42 t7 d7 [("r", 1, 2), ("s", 1, 2), ("t", 1, 2)] [("r", 4), ("s", 4), ("t", 4)] := bnd_lit et7 (((wtl_nil.snoc (w := ("r", 1, 2)) ⟨q7_0, ph, rfl, eq7_0, half⟩).snoc (w := ("s", 1, 2)) ⟨q7_1, ph, rfl, eq7_1, half⟩).snoc (w := ("t", 1, 2)) ⟨q7_2, ph, rfl, eq7_2, half⟩) ed7 dw7 (by decide) (by decide +kernel) (by decide +kernel)
      conv => whnf
      refine ⟨t7, d7, _, _, rfl, bd7, fun w hw => nm8 _ (dw7.mem w hw), fun H43 r7 g43 u7 v7 => ?_⟩
      obtain rfl : r7 = 8 := root_one u7 v7 (by decide +kernel) (by decide +kernel)
      clear u7 v7 bd7 dw7
      replace half := g43 _ _ half
      replace third := g43 _ _ third
      replace el1 := g43 _ _ el1
      replace el2 := g43 _ _ el2
      replace em1 := g43 _ _ em1
      replace el3 := g43 _ _ el3
      replace em2 := g43 _ _ em2
      conv => whnf
      refine ⟨m2, _, _, rfl, rfl, em2, small_lt (by simp), ?_⟩
      have ef := upd_same (H := H43) (a := m2) (o := .lst [.int ((5 : Nat) : Int), .int ((9 : Nat) : Int), .int ((8 : Nat) : Int), .int ((0 : Nat) : Int), .int ((0 : Nat) : Int), .int ((1 : Nat) : Int), .int ((8 : Nat) : Int)])
      rw [show ([.int ((5 : Nat) : Int), .int ((9 : Nat) : Int), .int ((8 : Nat) : Int), .int ((0 : Nat) : Int), .int ((0 : Nat) : Int), .int ((1 : Nat) : Int)] ++ [.int ((8 : Nat) : Int)] : List V) = [.int ((5 : Nat) : Int), .int ((9 : Nat) : Int), .int ((8 : Nat) : Int), .int ((0 : Nat) : Int), .int ((0 : Nat) : Int), .int ((1 : Nat) : Int), .int ((8 : Nat) : Int)] from rfl]
      generalize upd H43 m2 (.lst [.int ((5 : Nat) : Int), .int ((9 : Nat) : Int), .int ((8 : Nat) : Int), .int ((0 : Nat) : Int), .int ((0 : Nat) : Int), .int ((1 : Nat) : Int), .int ((8 : Nat) : Int)]) = H44 at ef ⊢
      conv => whnf
      refine ⟨small_ok (by simp), fun le hle => ?_⟩
      have g45 := Gr.rfl'.up (H := H44) (o := .lst [.int 5, .int 9, .int 8, .int 0, .int 0, .int 1, .int 8]) hle
      have ele := upd_same (H := H44) (a := le) (o := .lst [.int 5, .int 9, .int 8, .int 0, .int 0, .int 1, .int 8])
      generalize upd H44 le (.lst [.int 5, .int 9, .int 8, .int 0, .int 0, .int 1, .int 8]) = H45 at g45 ele ⊢
      replace ef := g45 _ _ ef
      conv => whnf
      refine ⟨(.list [.int 5, .int 9, .int 8, .int 0, .int 0, .int 1, .int 8]), (.list [.int 5, .int 9, .int 8, .int 0, .int 0, .int 1, .int 8]), .lst (SqL.of ef) (.cons (.int _) (.cons (.int _) (.cons (.int _) (.cons (.int _) (.cons (.int _) (.cons (.int _) (.cons (.int _) .nil))))))), .lst (SqL.of ele) (.cons (.int _) (.cons (.int _) (.cons (.int _) (.cons (.int _) (.cons (.int _) (.cons (.int _) (.cons (.int _) .nil))))))), by decide +kernel, by decide +kernel, ?_⟩
      rw [show PyData.eqv (.list [.int 5, .int 9, .int 8, .int 0, .int 0, .int 1, .int 8]) (.list [.int 5, .int 9, .int 8, .int 0, .int 0, .int 1, .int 8]) = true by decide +kernel]
      exact k _
end
open PySem.W in
theorem all_mk {P : Program} {w : World} {K : Frag} {h : Heap} {mg : Str → Option Value} {fa : Addr} (X : K.In h) (G : h.Ns mainGlobals mg) (hfa : mg "law" = some (.ref fa))
    {q_Ratio : Addr} (aq_Ratio : nsIn K mainGlobals "Ratio" = some (some (.ref q_Ratio)))
    (pg_Ratio : plainGet K q_Ratio Str.empty = true)
    (hd_Ratio : hasDictIn K q_Ratio = true)
    (po_Ratio : plainOver K q_Ratio = true)
    (sa_Ratio : findIn K (.ref q_Ratio) "__setattr__" = some (some (.builtin "object.__setattr__")))
    (sf_Ratio : selfFirst K q_Ratio = true)
    (ha_Ratio : findIn K (.ref q_Ratio) "__class__" = some (some (.builtin "object.__class__")))
    (hn_Ratio : specialIn K (.builtin "object.__class__") "__get__" = some (some (.builtin "getset_descriptor.__get__")))
    (htk_Ratio : takesIn K (.builtin "object.__class__") = some true)
    (hm_Ratio : mroIn K q_Ratio (.type "object") = some true)
    (tyC_Ratio : typeIn K (.ref q_Ratio) = some (.type "type"))
    (nf_Ratio__bottom : findIn K (.ref q_Ratio) "_bottom" = some none)
    (nf_Ratio__top : findIn K (.ref q_Ratio) "_top" = some none)
    {f1 : Addr} {od1 an1 : Option Addr} {sl1 : Array (Option Value)} {oc1 kV1 dc1 pm1 cd1 ct1 : Value} (a1 : nsIn K mainGlobals "_law_dice" = some (some (.ref f1)))
    (l1 : K.lookup f1 = some ⟨oc1, od1, .func (fnOf "_law_dice" "_law_dice" (defArgs s__law_dice) (defBody s__law_dice) (defScope s__law_dice) .none kV1 dc1 pm1 an1 cd1 ct1), sl1⟩) (c1 : codeIn K cd1 "_law_dice" = true) (k1 : keepIn K (.ref f1) = true)
    {f2 : Addr} {od2 an2 : Option Addr} {sl2 : Array (Option Value)} {oc2 kV2 dc2 pm2 cd2 ct2 : Value} (a2 : nsIn K mainGlobals "_law_roll" = some (some (.ref f2)))
    (l2 : K.lookup f2 = some ⟨oc2, od2, .func (fnOf "_law_roll" "_law_roll" (defArgs s__law_roll) (defBody s__law_roll) (defScope s__law_roll) .none kV2 dc2 pm2 an2 cd2 ct2), sl2⟩) (c2 : codeIn K cd2 "_law_roll" = true) (k2 : keepIn K (.ref f2) = true)
    {f3 : Addr} {od3 an3 : Option Addr} {sl3 : Array (Option Value)} {oc3 kV3 dc3 pm3 cd3 ct3 : Value} (a3 : nsIn K mainGlobals "_law_pick" = some (some (.ref f3)))
    (l3 : K.lookup f3 = some ⟨oc3, od3, .func (fnOf "_law_pick" "_law_pick" (defArgs s__law_pick) (defBody s__law_pick) (defScope s__law_pick) .none kV3 dc3 pm3 an3 cd3 ct3), sl3⟩) (c3 : codeIn K cd3 "_law_pick" = true) (k3 : keepIn K (.ref f3) = true)
    {f4 : Addr} {od4 an4 : Option Addr} {sl4 : Array (Option Value)} {oc4 kV4 dc4 pm4 cd4 ct4 : Value} (a4 : nsIn K mainGlobals "is_name" = some (some (.ref f4)))
    (l4 : K.lookup f4 = some ⟨oc4, od4, .func (fnOf "is_name" "is_name" (defArgs s_is_name) (defBody s_is_name) (defScope s_is_name) .none kV4 dc4 pm4 an4 cd4 ct4), sl4⟩) (c4 : codeIn K cd4 "is_name" = true) (k4 : keepIn K (.ref f4) = true)
    {f5 : Addr} {od5 an5 : Option Addr} {sl5 : Array (Option Value)} {oc5 kV5 dc5 pm5 cd5 ct5 : Value} (a5 : nsIn K mainGlobals "is_ascending_names" = some (some (.ref f5)))
    (l5 : K.lookup f5 = some ⟨oc5, od5, .func (fnOf "is_ascending_names" "is_ascending_names" (defArgs s_is_ascending_names) (defBody s_is_ascending_names) (defScope s_is_ascending_names) .none kV5 dc5 pm5 an5 cd5 ct5), sl5⟩) (c5 : codeIn K cd5 "is_ascending_names" = true) (k5 : keepIn K (.ref f5) = true)
    {f6 : Addr} {od6 an6 : Option Addr} {sl6 : Array (Option Value)} {oc6 kV6 dc6 pm6 cd6 ct6 : Value} (a6 : nsIn K mainGlobals "is_integer" = some (some (.ref f6)))
    (l6 : K.lookup f6 = some ⟨oc6, od6, .func (fnOf "is_integer" "is_integer" (defArgs s_is_integer) (defBody s_is_integer) (defScope s_is_integer) .none kV6 dc6 pm6 an6 cd6 ct6), sl6⟩) (c6 : codeIn K cd6 "is_integer" = true) (k6 : keepIn K (.ref f6) = true)
    {f7 : Addr} {od7 an7 : Option Addr} {sl7 : Array (Option Value)} {oc7 kV7 dc7 pm7 cd7 ct7 : Value} (a7 : nsIn K mainGlobals "_is_weight" = some (some (.ref f7)))
    (l7 : K.lookup f7 = some ⟨oc7, od7, .func (fnOf "_is_weight" "_is_weight" (defArgs s__is_weight) (defBody s__is_weight) (defScope s__is_weight) .none kV7 dc7 pm7 an7 cd7 ct7), sl7⟩) (c7 : codeIn K cd7 "_is_weight" = true) (k7 : keepIn K (.ref f7) = true)
    {f8 : Addr} {od8 an8 : Option Addr} {sl8 : Array (Option Value)} {oc8 kV8 dc8 pm8 cd8 ct8 : Value} (a8 : nsIn K mainGlobals "is_weights" = some (some (.ref f8)))
    (l8 : K.lookup f8 = some ⟨oc8, od8, .func (fnOf "is_weights" "is_weights" (defArgs s_is_weights) (defBody s_is_weights) (defScope s_is_weights) .none kV8 dc8 pm8 an8 cd8 ct8), sl8⟩) (c8 : codeIn K cd8 "is_weights" = true) (k8 : keepIn K (.ref f8) = true)
    {f9 u9 : Addr} {rest9 : List Value} (pa9 : findIn K (.ref q_Ratio) "bottom" = some (some (.ref u9))) (pb9 : specialIn K (.ref u9) "__get__" = some (some (.builtin "property.__get__"))) (pc9 : takesIn K (.ref u9) = some true) (pd9 : recIn K u9 "property" = some (.ref f9 :: rest9))
    {od9 an9 : Option Addr} {sl9 : Array (Option Value)} {oc9 kV9 dc9 pm9 cd9 ct9 : Value} (l9 : K.lookup f9 = some ⟨oc9, od9, .func (fnOf "bottom" "Ratio.bottom" (defArgs s_Ratio_bottom) (defBody s_Ratio_bottom) (defScope s_Ratio_bottom) .none kV9 dc9 pm9 an9 cd9 ct9), sl9⟩) (c9 : codeIn K cd9 "Ratio.bottom" = true) (k9 : keepIn K (.ref f9) = true)
    {f10 u10 : Addr} {rest10 : List Value} (pa10 : findIn K (.ref q_Ratio) "top" = some (some (.ref u10))) (pb10 : specialIn K (.ref u10) "__get__" = some (some (.builtin "property.__get__"))) (pc10 : takesIn K (.ref u10) = some true) (pd10 : recIn K u10 "property" = some (.ref f10 :: rest10))
    {od10 an10 : Option Addr} {sl10 : Array (Option Value)} {oc10 kV10 dc10 pm10 cd10 ct10 : Value} (l10 : K.lookup f10 = some ⟨oc10, od10, .func (fnOf "top" "Ratio.top" (defArgs s_Ratio_top) (defBody s_Ratio_top) (defScope s_Ratio_top) .none kV10 dc10 pm10 an10 cd10 ct10), sl10⟩) (c10 : codeIn K cd10 "Ratio.top" = true) (k10 : keepIn K (.ref f10) = true)
    {f11 : Addr} (a11 : findIn K (.ref q_Ratio) "is_less" = some (some (.ref f11))) (i11 : isFn K (.ref f11) = true)
    {od11 an11 : Option Addr} {sl11 : Array (Option Value)} {oc11 kV11 dc11 pm11 cd11 ct11 : Value} (l11 : K.lookup f11 = some ⟨oc11, od11, .func (fnOf "is_less" "Ratio.is_less" (defArgs s_Ratio_is_less) (defBody s_Ratio_is_less) (defScope s_Ratio_is_less) .none kV11 dc11 pm11 an11 cd11 ct11), sl11⟩) (c11 : codeIn K cd11 "Ratio.is_less" = true) (k11 : keepIn K (.ref f11) = true)
    {f12 : Addr} (a12 : findIn K (.ref q_Ratio) "__init__" = some (some (.ref f12))) (i12 : isFn K (.ref f12) = true)
    {od12 an12 : Option Addr} {sl12 : Array (Option Value)} {oc12 kV12 dc12 pm12 cd12 ct12 : Value} (l12 : K.lookup f12 = some ⟨oc12, od12, .func (fnOf "__init__" "Ratio.__init__" (defArgs s_Ratio___init__) (defBody s_Ratio___init__) (defScope s_Ratio___init__) .none kV12 dc12 pm12 an12 cd12 ct12), sl12⟩) (c12 : codeIn K cd12 "Ratio.__init__" = true) (k12 : keepIn K (.ref f12) = true)
    (mk_Ratio : makesIn K q_Ratio = true) (kc_Ratio : keepIn K (.ref q_Ratio) = true)
    {f13 : Addr} {od13 an13 : Option Addr} {sl13 : Array (Option Value)} {oc13 kV13 dc13 pm13 cd13 ct13 : Value} (a13 : nsIn K mainGlobals "common_bottom" = some (some (.ref f13)))
    (l13 : K.lookup f13 = some ⟨oc13, od13, .func (fnOf "common_bottom" "common_bottom" (defArgs s_common_bottom) (defBody s_common_bottom) (defScope s_common_bottom) .none kV13 dc13 pm13 an13 cd13 ct13), sl13⟩) (c13 : codeIn K cd13 "common_bottom" = true) (k13 : keepIn K (.ref f13) = true)
    {f14 : Addr} {od14 an14 : Option Addr} {sl14 : Array (Option Value)} {oc14 kV14 dc14 pm14 cd14 ct14 : Value} (a14 : nsIn K mainGlobals "_is_small" = some (some (.ref f14)))
    (l14 : K.lookup f14 = some ⟨oc14, od14, .func (fnOf "_is_small" "_is_small" (defArgs s__is_small) (defBody s__is_small) (defScope s__is_small) .none kV14 dc14 pm14 an14 cd14 ct14), sl14⟩) (c14 : codeIn K cd14 "_is_small" = true) (k14 : keepIn K (.ref f14) = true)
    {f15 : Addr} {od15 an15 : Option Addr} {sl15 : Array (Option Value)} {oc15 kV15 dc15 pm15 cd15 ct15 : Value} (a15 : nsIn K mainGlobals "ratios_of" = some (some (.ref f15)))
    (l15 : K.lookup f15 = some ⟨oc15, od15, .func (fnOf "ratios_of" "ratios_of" (defArgs s_ratios_of) (defBody s_ratios_of) (defScope s_ratios_of) .none kV15 dc15 pm15 an15 cd15 ct15), sl15⟩) (c15 : codeIn K cd15 "ratios_of" = true) (k15 : keepIn K (.ref f15) = true)
    {f16 : Addr} {od16 an16 : Option Addr} {sl16 : Array (Option Value)} {oc16 kV16 dc16 pm16 cd16 ct16 : Value} (a16 : nsIn K mainGlobals "is_count" = some (some (.ref f16)))
    (l16 : K.lookup f16 = some ⟨oc16, od16, .func (fnOf "is_count" "is_count" (defArgs s_is_count) (defBody s_is_count) (defScope s_is_count) .none kV16 dc16 pm16 an16 cd16 ct16), sl16⟩) (c16 : codeIn K cd16 "is_count" = true) (k16 : keepIn K (.ref f16) = true)
    {f17 : Addr} {od17 an17 : Option Addr} {sl17 : Array (Option Value)} {oc17 kV17 dc17 pm17 cd17 ct17 : Value} (a17 : nsIn K mainGlobals "_is_counts" = some (some (.ref f17)))
    (l17 : K.lookup f17 = some ⟨oc17, od17, .func (fnOf "_is_counts" "_is_counts" (defArgs s__is_counts) (defBody s__is_counts) (defScope s__is_counts) .none kV17 dc17 pm17 an17 cd17 ct17), sl17⟩) (c17 : codeIn K cd17 "_is_counts" = true) (k17 : keepIn K (.ref f17) = true)
    {f18 : Addr} {od18 an18 : Option Addr} {sl18 : Array (Option Value)} {oc18 kV18 dc18 pm18 cd18 ct18 : Value} (a18 : nsIn K mainGlobals "power" = some (some (.ref f18)))
    (l18 : K.lookup f18 = some ⟨oc18, od18, .func (fnOf "power" "power" (defArgs s_power) (defBody s_power) (defScope s_power) .none kV18 dc18 pm18 an18 cd18 ct18), sl18⟩) (c18 : codeIn K cd18 "power" = true) (k18 : keepIn K (.ref f18) = true)
    {f19 : Addr} {od19 an19 : Option Addr} {sl19 : Array (Option Value)} {oc19 kV19 dc19 pm19 cd19 ct19 : Value} (a19 : nsIn K mainGlobals "root" = some (some (.ref f19)))
    (l19 : K.lookup f19 = some ⟨oc19, od19, .func (fnOf "root" "root" (defArgs s_root) (defBody s_root) (defScope s_root) .none kV19 dc19 pm19 an19 cd19 ct19), sl19⟩) (c19 : codeIn K cd19 "root" = true) (k19 : keepIn K (.ref f19) = true)
    {f20 : Addr} {od20 an20 : Option Addr} {sl20 : Array (Option Value)} {oc20 kV20 dc20 pm20 cd20 ct20 : Value} (a20 : nsIn K mainGlobals "bound" = some (some (.ref f20)))
    (l20 : K.lookup f20 = some ⟨oc20, od20, .func (fnOf "bound" "bound" (defArgs s_bound) (defBody s_bound) (defScope s_bound) .none kV20 dc20 pm20 an20 cd20 ct20), sl20⟩) (c20 : codeIn K cd20 "bound" = true) (k20 : keepIn K (.ref f20) = true)
    {f21 : Addr} {od21 an21 : Option Addr} {sl21 : Array (Option Value)} {oc21 kV21 dc21 pm21 cd21 ct21 : Value} (a21 : nsIn K mainGlobals "_law_common" = some (some (.ref f21)))
    (l21 : K.lookup f21 = some ⟨oc21, od21, .func (fnOf "_law_common" "_law_common" (defArgs s__law_common) (defBody s__law_common) (defScope s__law_common) .none kV21 dc21 pm21 an21 cd21 ct21), sl21⟩) (c21 : codeIn K cd21 "_law_common" = true) (k21 : keepIn K (.ref f21) = true)
    {f22 : Addr} {od22 an22 : Option Addr} {sl22 : Array (Option Value)} {oc22 kV22 dc22 pm22 cd22 ct22 : Value} (a22 : nsIn K mainGlobals "_law_times" = some (some (.ref f22)))
    (l22 : K.lookup f22 = some ⟨oc22, od22, .func (fnOf "_law_times" "_law_times" (defArgs s__law_times) (defBody s__law_times) (defScope s__law_times) .none kV22 dc22 pm22 an22 cd22 ct22), sl22⟩) (c22 : codeIn K cd22 "_law_times" = true) (k22 : keepIn K (.ref f22) = true)
    {f23 : Addr} {od23 an23 : Option Addr} {sl23 : Array (Option Value)} {oc23 kV23 dc23 pm23 cd23 ct23 : Value} (a23 : nsIn K mainGlobals "_law_is_root" = some (some (.ref f23)))
    (l23 : K.lookup f23 = some ⟨oc23, od23, .func (fnOf "_law_is_root" "_law_is_root" (defArgs s__law_is_root) (defBody s__law_is_root) (defScope s__law_is_root) .none kV23 dc23 pm23 an23 cd23 ct23), sl23⟩) (c23 : codeIn K cd23 "_law_is_root" = true) (k23 : keepIn K (.ref f23) = true)
    {f24 : Addr} {od24 an24 : Option Addr} {sl24 : Array (Option Value)} {oc24 kV24 dc24 pm24 cd24 ct24 : Value} (a24 : nsIn K mainGlobals "_law_right" = some (some (.ref f24)))
    (l24 : K.lookup f24 = some ⟨oc24, od24, .func (fnOf "_law_right" "_law_right" (defArgs s__law_right) (defBody s__law_right) (defScope s__law_right) .none kV24 dc24 pm24 an24 cd24 ct24), sl24⟩) (c24 : codeIn K cd24 "_law_right" = true) (k24 : keepIn K (.ref f24) = true)
    {f25 : Addr} {od25 an25 : Option Addr} {sl25 : Array (Option Value)} {oc25 kV25 dc25 pm25 cd25 ct25 : Value} (a25 : nsIn K mainGlobals "law" = some (some (.ref f25)))
    (l25 : K.lookup f25 = some ⟨oc25, od25, .func (fnOf "law" "law" (defArgs s_law) (defBody s_law) (defScope s_law) .none kV25 dc25 pm25 an25 cd25 ct25), sl25⟩) (c25 : codeIn K cd25 "law" = true) (k25 : keepIn K (.ref f25) = true)
    (z_abs : nsIn K mainGlobals "abs" = some none)
    (z_all : nsIn K mainGlobals "all" = some none)
    (z_any : nsIn K mainGlobals "any" = some none)
    (z_bool : nsIn K mainGlobals "bool" = some none)
    (z_dict : nsIn K mainGlobals "dict" = some none)
    (z_int : nsIn K mainGlobals "int" = some none)
    (z_isinstance : nsIn K mainGlobals "isinstance" = some none)
    (z_len : nsIn K mainGlobals "len" = some none)
    (z_list : nsIn K mainGlobals "list" = some none)
    (z_max : nsIn K mainGlobals "max" = some none)
    (z_min : nsIn K mainGlobals "min" = some none)
    (z_range : nsIn K mainGlobals "range" = some none)
    (z_str : nsIn K mainGlobals "str" = some none)
    (z_tuple : nsIn K mainGlobals "tuple" = some none)
    (z_zip : nsIn K mainGlobals "zip" = some none)
    (im_gcd : nsIn K mainGlobals "gcd" = some (some (.builtin "math.gcd")))
    (im_lcm : nsIn K mainGlobals "lcm" = some (some (.builtin "math.lcm")))
    {t_BEYOND : Tok} (w_BEYOND : nsIn K mainGlobals "BEYOND" = some (some (.int 1000000000000000000000000000000000000000000000000000000000000 t_BEYOND)))
    {t_LETTERS : Tok} (w_LETTERS : nsIn K mainGlobals "LETTERS" = some (some (.str "abcdefghijklmnopqrstuvwxyz" t_LETTERS)))
    {t_MAX_COMMON_BOTTOM : Tok} (w_MAX_COMMON_BOTTOM : nsIn K mainGlobals "MAX_COMMON_BOTTOM" = some (some (.int 24 t_MAX_COMMON_BOTTOM)))
    {t_MAX_LETTERS : Tok} (w_MAX_LETTERS : nsIn K mainGlobals "MAX_LETTERS" = some (some (.int 8 t_MAX_LETTERS)))
    {t_MAX_ROWS : Tok} (w_MAX_ROWS : nsIn K mainGlobals "MAX_ROWS" = some (some (.int 2000 t_MAX_ROWS))) :
    ∃ fd : FuncData, (∀ (s : Shared) (v : Value), BindsTo s fd ⟨[v], []⟩ [("_law_script", v)]) ∧ ∀ base : Heap, K.In base → base.Ns mainGlobals mg → FnOk P w K mg base CX0 7 fa fd ["_law_script"] (sp_law K) := by
  have e := hfa.symm.trans (mg_of X G a25)
  cases e
  let T : Txt K mg := {
    c_Ratio := q_Ratio,
    g_Ratio := mg_of X G aq_Ratio,
    o_Ratio := ⟨⟨pg_Ratio, hd_Ratio, po_Ratio, sa_Ratio⟩, sf_Ratio, ha_Ratio, hn_Ratio, htk_Ratio, hm_Ratio, tyC_Ratio⟩,
    f_Ratio__bottom := nf_Ratio__bottom,
    f_Ratio__top := nf_Ratio__top,
    a__law_dice := f1,
    d__law_dice := _,
    g__law_dice := mg_of X G a1,
    F__law_dice := fun_mk (st := s__law_dice) l1 c1 k1,
    B__law_dice := (fun_mk (st := s__law_dice) l1 c1 k1).binds (ps := ["_law_script", "_law_spot"]) (fun _ _ _ _ _ _ us hl => match us, hl with | [_, _], _ => rfl),
    a__law_roll := f2,
    d__law_roll := _,
    g__law_roll := mg_of X G a2,
    F__law_roll := fun_mk (st := s__law_roll) l2 c2 k2,
    B__law_roll := (fun_mk (st := s__law_roll) l2 c2 k2).binds (ps := ["_law_dice_here", "_law_total"]) (fun _ _ _ _ _ _ us hl => match us, hl with | [_, _], _ => rfl),
    a__law_pick := f3,
    d__law_pick := _,
    g__law_pick := mg_of X G a3,
    F__law_pick := fun_mk (st := s__law_pick) l3 c3 k3,
    B__law_pick := (fun_mk (st := s__law_pick) l3 c3 k3).binds (ps := ["_law_dice_here", "_law_items"]) (fun _ _ _ _ _ _ us hl => match us, hl with | [_, _], _ => rfl),
    a_is_name := f4,
    d_is_name := _,
    g_is_name := mg_of X G a4,
    F_is_name := fun_mk (st := s_is_name) l4 c4 k4,
    B_is_name := (fun_mk (st := s_is_name) l4 c4 k4).binds (ps := ["value"]) (fun _ _ _ _ _ _ us hl => match us, hl with | [_], _ => rfl),
    a_is_ascending_names := f5,
    d_is_ascending_names := _,
    g_is_ascending_names := mg_of X G a5,
    F_is_ascending_names := fun_mk (st := s_is_ascending_names) l5 c5 k5,
    B_is_ascending_names := (fun_mk (st := s_is_ascending_names) l5 c5 k5).binds (ps := ["value"]) (fun _ _ _ _ _ _ us hl => match us, hl with | [_], _ => rfl),
    a_is_integer := f6,
    d_is_integer := _,
    g_is_integer := mg_of X G a6,
    F_is_integer := fun_mk (st := s_is_integer) l6 c6 k6,
    B_is_integer := (fun_mk (st := s_is_integer) l6 c6 k6).binds (ps := ["value"]) (fun _ _ _ _ _ _ us hl => match us, hl with | [_], _ => rfl),
    a__is_weight := f7,
    d__is_weight := _,
    g__is_weight := mg_of X G a7,
    F__is_weight := fun_mk (st := s__is_weight) l7 c7 k7,
    B__is_weight := (fun_mk (st := s__is_weight) l7 c7 k7).binds (ps := ["value"]) (fun _ _ _ _ _ _ us hl => match us, hl with | [_], _ => rfl),
    a_is_weights := f8,
    d_is_weights := _,
    g_is_weights := mg_of X G a8,
    F_is_weights := fun_mk (st := s_is_weights) l8 c8 k8,
    B_is_weights := (fun_mk (st := s_is_weights) l8 c8 k8).binds (ps := ["value"]) (fun _ _ _ _ _ _ us hl => match us, hl with | [_], _ => rfl),
    a_Ratio_bottom := f9,
    d_Ratio_bottom := _,
    F_Ratio_bottom := fun_mk (st := s_Ratio_bottom) l9 c9 k9,
    B_Ratio_bottom := (fun_mk (st := s_Ratio_bottom) l9 c9 k9).binds (ps := ["self"]) (fun _ _ _ _ _ _ us hl => match us, hl with | [_], _ => rfl),
    p_Ratio_bottom := u9,
    P_Ratio_bottom := ⟨pa9, pb9, pc9, ⟨_, pd9⟩⟩,
    a_Ratio_top := f10,
    d_Ratio_top := _,
    F_Ratio_top := fun_mk (st := s_Ratio_top) l10 c10 k10,
    B_Ratio_top := (fun_mk (st := s_Ratio_top) l10 c10 k10).binds (ps := ["self"]) (fun _ _ _ _ _ _ us hl => match us, hl with | [_], _ => rfl),
    p_Ratio_top := u10,
    P_Ratio_top := ⟨pa10, pb10, pc10, ⟨_, pd10⟩⟩,
    a_Ratio_is_less := f11,
    d_Ratio_is_less := _,
    F_Ratio_is_less := fun_mk (st := s_Ratio_is_less) l11 c11 k11,
    B_Ratio_is_less := (fun_mk (st := s_Ratio_is_less) l11 c11 k11).binds (ps := ["self", "value"]) (fun _ _ _ _ _ _ us hl => match us, hl with | [_, _], _ => rfl),
    M_Ratio_is_less := ⟨a11, i11, k11⟩,
    a_Ratio___init__ := f12,
    d_Ratio___init__ := _,
    F_Ratio___init__ := fun_mk (st := s_Ratio___init__) l12 c12 k12,
    B_Ratio___init__ := (fun_mk (st := s_Ratio___init__) l12 c12 k12).binds (ps := ["self", "top", "bottom"]) (fun _ _ _ _ _ _ us hl => match us, hl with | [_, _, _], _ => rfl),
    K_Ratio := ⟨mk_Ratio, a12, i12, kc_Ratio⟩,
    a_common_bottom := f13,
    d_common_bottom := _,
    g_common_bottom := mg_of X G a13,
    F_common_bottom := fun_mk (st := s_common_bottom) l13 c13 k13,
    B_common_bottom := (fun_mk (st := s_common_bottom) l13 c13 k13).binds (ps := ["ratios"]) (fun _ _ _ _ _ _ us hl => match us, hl with | [_], _ => rfl),
    a__is_small := f14,
    d__is_small := _,
    g__is_small := mg_of X G a14,
    F__is_small := fun_mk (st := s__is_small) l14 c14 k14,
    B__is_small := (fun_mk (st := s__is_small) l14 c14 k14).binds (ps := ["ratios"]) (fun _ _ _ _ _ _ us hl => match us, hl with | [_], _ => rfl),
    a_ratios_of := f15,
    d_ratios_of := _,
    g_ratios_of := mg_of X G a15,
    F_ratios_of := fun_mk (st := s_ratios_of) l15 c15 k15,
    B_ratios_of := (fun_mk (st := s_ratios_of) l15 c15 k15).binds (ps := ["weights"]) (fun _ _ _ _ _ _ us hl => match us, hl with | [_], _ => rfl),
    a_is_count := f16,
    d_is_count := _,
    g_is_count := mg_of X G a16,
    F_is_count := fun_mk (st := s_is_count) l16 c16 k16,
    B_is_count := (fun_mk (st := s_is_count) l16 c16 k16).binds (ps := ["value"]) (fun _ _ _ _ _ _ us hl => match us, hl with | [_], _ => rfl),
    a__is_counts := f17,
    d__is_counts := _,
    g__is_counts := mg_of X G a17,
    F__is_counts := fun_mk (st := s__is_counts) l17 c17 k17,
    B__is_counts := (fun_mk (st := s__is_counts) l17 c17 k17).binds (ps := ["value", "weights"]) (fun _ _ _ _ _ _ us hl => match us, hl with | [_, _], _ => rfl),
    a_power := f18,
    d_power := _,
    g_power := mg_of X G a18,
    F_power := fun_mk (st := s_power) l18 c18 k18,
    B_power := (fun_mk (st := s_power) l18 c18 k18).binds (ps := ["base", "exponent"]) (fun _ _ _ _ _ _ us hl => match us, hl with | [_, _], _ => rfl),
    a_root := f19,
    d_root := _,
    g_root := mg_of X G a19,
    F_root := fun_mk (st := s_root) l19 c19 k19,
    B_root := (fun_mk (st := s_root) l19 c19 k19).binds (ps := ["number", "exponent"]) (fun _ _ _ _ _ _ us hl => match us, hl with | [_, _], _ => rfl),
    a_bound := f20,
    d_bound := _,
    g_bound := mg_of X G a20,
    F_bound := fun_mk (st := s_bound) l20 c20 k20,
    B_bound := (fun_mk (st := s_bound) l20 c20 k20).binds (ps := ["weights", "counts"]) (fun _ _ _ _ _ _ us hl => match us, hl with | [_, _], _ => rfl),
    a__law_common := f21,
    d__law_common := _,
    g__law_common := mg_of X G a21,
    F__law_common := fun_mk (st := s__law_common) l21 c21 k21,
    B__law_common := (fun_mk (st := s__law_common) l21 c21 k21).binds (ps := ["_law_weights"]) (fun _ _ _ _ _ _ us hl => match us, hl with | [_], _ => rfl),
    a__law_times := f22,
    d__law_times := _,
    g__law_times := mg_of X G a22,
    F__law_times := fun_mk (st := s__law_times) l22 c22 k22,
    B__law_times := (fun_mk (st := s__law_times) l22 c22 k22).binds (ps := ["_law_number", "_law_many"]) (fun _ _ _ _ _ _ us hl => match us, hl with | [_, _], _ => rfl),
    a__law_is_root := f23,
    d__law_is_root := _,
    g__law_is_root := mg_of X G a23,
    F__law_is_root := fun_mk (st := s__law_is_root) l23 c23 k23,
    B__law_is_root := (fun_mk (st := s__law_is_root) l23 c23 k23).binds (ps := ["_law_told", "_law_weights", "_law_counts"]) (fun _ _ _ _ _ _ us hl => match us, hl with | [_, _, _], _ => rfl),
    a__law_right := f24,
    d__law_right := _,
    g__law_right := mg_of X G a24,
    F__law_right := fun_mk (st := s__law_right) l24 c24 k24,
    B__law_right := (fun_mk (st := s__law_right) l24 c24 k24).binds (ps := ["_law_dice_here"]) (fun _ _ _ _ _ _ us hl => match us, hl with | [_], _ => rfl),
    a_law := fa,
    d_law := _,
    g_law := mg_of X G a25,
    F_law := fun_mk (st := s_law) l25 c25 k25,
    B_law := (fun_mk (st := s_law) l25 c25 k25).binds (ps := ["_law_script"]) (fun _ _ _ _ _ _ us hl => match us, hl with | [_], _ => rfl),
    b_abs := mg_none_of X G z_abs,
    b_all := mg_none_of X G z_all,
    b_any := mg_none_of X G z_any,
    b_bool := mg_none_of X G z_bool,
    b_dict := mg_none_of X G z_dict,
    b_int := mg_none_of X G z_int,
    b_isinstance := mg_none_of X G z_isinstance,
    b_len := mg_none_of X G z_len,
    b_list := mg_none_of X G z_list,
    b_max := mg_none_of X G z_max,
    b_min := mg_none_of X G z_min,
    b_range := mg_none_of X G z_range,
    b_str := mg_none_of X G z_str,
    b_tuple := mg_none_of X G z_tuple,
    b_zip := mg_none_of X G z_zip,
    i_gcd := mg_of X G im_gcd,
    i_lcm := mg_of X G im_lcm,
    t_BEYOND := t_BEYOND,
    v_BEYOND := mg_of X G w_BEYOND,
    t_LETTERS := t_LETTERS,
    v_LETTERS := mg_of X G w_LETTERS,
    t_MAX_COMMON_BOTTOM := t_MAX_COMMON_BOTTOM,
    v_MAX_COMMON_BOTTOM := mg_of X G w_MAX_COMMON_BOTTOM,
    t_MAX_LETTERS := t_MAX_LETTERS,
    v_MAX_LETTERS := mg_of X G w_MAX_LETTERS,
    t_MAX_ROWS := t_MAX_ROWS,
    v_MAX_ROWS := mg_of X G w_MAX_ROWS }
  exact ⟨_, fun s v => .of_eq rfl, fun base _ _ => ok_law T⟩
end Law
open PySem PySem.W PyProof.Rows
set_option maxRecDepth 100000 in
set_option maxHeartbeats 0 in
theorem PySem.Challenge.cw_touchrows_k39_whole_bounds_are_roots_holds : PySem.Challenge.rw_touchrows_k39_whole_bounds_are_roots.Holds := by
  w_on; o_law; k_head; (case hw => w_witness2)
  k_fill
  refine U.walkO (l := PySem.Challenge.rw_touchrows_k39_whole_bounds_are_roots) (n := 63) (k := 7) (x := "_law_script") (sp := Law.sp_law) rfl (by decide) rfl ⟨rfl, by decide, by decide⟩ (fun w h Y => kIn_of Y) ?F (fun K H a ns h1 h2 _ h3 => Law.enter K H a ns h1 h2 h3)
  case F =>
    intro w mg fa h KX G hmg
    refine' Law.all_mk KX G hmg ?aq_Ratio ?pg_Ratio ?hd_Ratio ?po_Ratio ?sa_Ratio ?sf_Ratio ?ha_Ratio ?hn_Ratio ?htk_Ratio ?hm_Ratio ?tyC_Ratio ?nf_Ratio__bottom ?nf_Ratio__top ?a1 ?l1 ?c1 ?k1 ?a2 ?l2 ?c2 ?k2 ?a3 ?l3 ?c3 ?k3 ?a4 ?l4 ?c4 ?k4 ?a5 ?l5 ?c5 ?k5 ?a6 ?l6 ?c6 ?k6 ?a7 ?l7 ?c7 ?k7 ?a8 ?l8 ?c8 ?k8 ?pa9 ?pb9 ?pc9 ?pd9 ?l9 ?c9 ?k9 ?pa10 ?pb10 ?pc10 ?pd10 ?l10 ?c10 ?k10 ?a11 ?i11 ?l11 ?c11 ?k11 ?a12 ?i12 ?l12 ?c12 ?k12 ?mk_Ratio ?kc_Ratio ?a13 ?l13 ?c13 ?k13 ?a14 ?l14 ?c14 ?k14 ?a15 ?l15 ?c15 ?k15 ?a16 ?l16 ?c16 ?k16 ?a17 ?l17 ?c17 ?k17 ?a18 ?l18 ?c18 ?k18 ?a19 ?l19 ?c19 ?k19 ?a20 ?l20 ?c20 ?k20 ?a21 ?l21 ?c21 ?k21 ?a22 ?l22 ?c22 ?k22 ?a23 ?l23 ?c23 ?k23 ?a24 ?l24 ?c24 ?k24 ?a25 ?l25 ?c25 ?k25 ?z_abs ?z_all ?z_any ?z_bool ?z_dict ?z_int ?z_isinstance ?z_len ?z_list ?z_max ?z_min ?z_range ?z_str ?z_tuple ?z_zip ?im_gcd ?im_lcm ?w_BEYOND ?w_LETTERS ?w_MAX_COMMON_BOTTOM ?w_MAX_LETTERS ?w_MAX_ROWS
    (case aq_Ratio => k_is); (case pg_Ratio => k_is); (case hd_Ratio => k_is); (case po_Ratio => k_is); (case sa_Ratio => k_is); (case sf_Ratio => k_is); (case ha_Ratio => k_is); (case hn_Ratio => k_is); (case htk_Ratio => k_is); (case hm_Ratio => k_is); (case tyC_Ratio => k_is); (case nf_Ratio__bottom => k_is); (case nf_Ratio__top => k_is); (case a1 => k_is); (case l1 => k_is); (case c1 => k_is); (case k1 => k_is); (case a2 => k_is); (case l2 => k_is); (case c2 => k_is); (case k2 => k_is); (case a3 => k_is); (case l3 => k_is); (case c3 => k_is); (case k3 => k_is); (case a4 => k_is); (case l4 => k_is); (case c4 => k_is); (case k4 => k_is); (case a5 => k_is); (case l5 => k_is); (case c5 => k_is); (case k5 => k_is); (case a6 => k_is); (case l6 => k_is); (case c6 => k_is); (case k6 => k_is); (case a7 => k_is); (case l7 => k_is); (case c7 => k_is); (case k7 => k_is); (case a8 => k_is); (case l8 => k_is); (case c8 => k_is); (case k8 => k_is); (case pa9 => k_is); (case pb9 => k_is); (case pc9 => k_is); (case pd9 => k_is); (case l9 => k_is); (case c9 => k_is); (case k9 => k_is); (case pa10 => k_is); (case pb10 => k_is); (case pc10 => k_is); (case pd10 => k_is); (case l10 => k_is); (case c10 => k_is); (case k10 => k_is); (case a11 => k_is); (case i11 => k_is); (case l11 => k_is); (case c11 => k_is); (case k11 => k_is); (case a12 => k_is); (case i12 => k_is); (case l12 => k_is); (case c12 => k_is); (case k12 => k_is); (case mk_Ratio => k_is); (case kc_Ratio => k_is); (case a13 => k_is); (case l13 => k_is); (case c13 => k_is); (case k13 => k_is); (case a14 => k_is); (case l14 => k_is); (case c14 => k_is); (case k14 => k_is); (case a15 => k_is); (case l15 => k_is); (case c15 => k_is); (case k15 => k_is); (case a16 => k_is); (case l16 => k_is); (case c16 => k_is); (case k16 => k_is); (case a17 => k_is); (case l17 => k_is); (case c17 => k_is); (case k17 => k_is); (case a18 => k_is); (case l18 => k_is); (case c18 => k_is); (case k18 => k_is); (case a19 => k_is); (case l19 => k_is); (case c19 => k_is); (case k19 => k_is); (case a20 => k_is); (case l20 => k_is); (case c20 => k_is); (case k20 => k_is); (case a21 => k_is); (case l21 => k_is); (case c21 => k_is); (case k21 => k_is); (case a22 => k_is); (case l22 => k_is); (case c22 => k_is); (case k22 => k_is); (case a23 => k_is); (case l23 => k_is); (case c23 => k_is); (case k23 => k_is); (case a24 => k_is); (case l24 => k_is); (case c24 => k_is); (case k24 => k_is); (case a25 => k_is); (case l25 => k_is); (case c25 => k_is); (case k25 => k_is); (case z_abs => k_is); (case z_all => k_is); (case z_any => k_is); (case z_bool => k_is); (case z_dict => k_is); (case z_int => k_is); (case z_isinstance => k_is); (case z_len => k_is); (case z_list => k_is); (case z_max => k_is); (case z_min => k_is); (case z_range => k_is); (case z_str => k_is); (case z_tuple => k_is); (case z_zip => k_is); (case im_gcd => k_is); (case im_lcm => k_is); (case w_BEYOND => k_is); (case w_LETTERS => k_is); (case w_MAX_COMMON_BOTTOM => k_is); (case w_MAX_LETTERS => k_is); (case w_MAX_ROWS => k_is)
