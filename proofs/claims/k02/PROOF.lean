import PyProof.Rows.All
import Wide.All
import OpenK.AllK
import Wide.FinOn
import HandS.ForMost
import HandS.Codes
import HandS.Deep
import HandS.Wide
import HandS.TupAny
import HandS.CallRecv
import HandS.IsInst
import HandS.Flow
import HandS.Conv
import HandS.More
import HandS.HeadEnd
import HandS.HeadHook2
import PyProof.P3In
import HandS.FStr
import HandS.Head0
import HandS.Head1
import HandS.Head2
import HandS.Defaults
import HandS.MakeKwOnly
import HandS.Style
import HandS.Iter
import HandS.Zip
import PySem.Challenge.RW_manypanes_k02_styles
set_option Elab.async false
set_option linter.all false
set_option maxRecDepth 100000
set_option autoImplicit false
set_option maxHeartbeats 4000000
set_option maxRecDepth 100000
set_option autoImplicit false
set_option maxHeartbeats 4000000
namespace PB
open PySem PySem.Spec PyProof.Rows L2
open C8 (Cal Mak Met pe_c pe_mk pe_mt pe_mt0 tCut pss_cut)
/-! ### rules joined: the way is picked by the values -/
def orR (r r' : R2) : R2 := fun x y H Q => r x y H Q ∨ r' x y H Q
theorem or_op {X : Cx} {f : Value → Value → Sem Value} {r r' : R2} (h : OpR X f r) (h' : OpR X f r') : OpR X f (orR r r') := by
  intro pins s σ H x y v u Q I rx ry q
  rcases q with q | q
  · exact h pins s σ H x y v u Q I rx ry q
  · exact h' pins s σ H x y v u Q I rx ry q
abbrev rAddI : R2 := rI0 fun i j => .int (i + j)
abbrev rSubI : R2 := rI0 fun i j => .int (i - j)
abbrev rMulI : R2 := rI CMulW fun i j => .int (i * j)
abbrev rDivI : R2 := rI CDivW fun i j => .int (i / j)
abbrev rModI : R2 := rI (fun _ j => 0 < j) fun i j => .int (i % j)
/-! ### readings by match: they run by simp where the values are known -/
def mVar (i : Nat) : TE := fun σ H Q => match σ[i]? with
  | some (some v) => Q v H
  | _ => False
def mAdd (K : PySem.W.Frag) : R2 := fun x y H Q => match x, y with
  | .int i, .int j => Q (.int (i + j)) H
  | .ref a, .ref b => rCat (.ref a) (.ref b) H Q ∨ rCatA K (.ref a) (.ref b) H Q
  | _, _ => False
def mSub : R2 := fun x y H Q => match x, y with
  | .int i, .int j => Q (.int (i - j)) H
  | _, _ => False
def mMul : R2 := fun x y H Q => match x, y with
  | .int i, .int j => CMulW i j ∧ Q (.int (i * j)) H
  | .ref a, .int j => rRep (.ref a) (.int j) H Q
  | _, _ => False
def mDiv : R2 := fun x y H Q => match x, y with
  | .int i, .int j => CDivW i j ∧ Q (.int (i / j)) H
  | _, _ => False
def mMod : R2 := fun x y H Q => match x, y with
  | .int i, .int j => 0 < j ∧ Q (.int (i % j)) H
  | _, _ => False
def mPow : R2 := fun x y H Q => match x, y with
  | .int i, .int j => CPow i j ∧ Q (.int (i ^ j.toNat)) H
  | _, _ => False
def mNeg : V → Hp → VK → Prop := fun x H Q => match x with
  | .int i => Q (.int (-i)) H
  | _ => False
def mLt : R2 := fun x y H Q => match x, y with
  | .int i, .int j => Q (.bl (decide (i < j))) H
  | _, _ => False
def mLe : R2 := fun x y H Q => match x, y with
  | .int i, .int j => Q (.bl (decide (i ≤ j))) H
  | _, _ => False
def mGt : R2 := fun x y H Q => match x, y with
  | .int i, .int j => Q (.bl (decide (j < i))) H
  | _, _ => False
def mGe : R2 := fun x y H Q => match x, y with
  | .int i, .int j => Q (.bl (decide (j ≤ i))) H
  | _, _ => False
def mEq (K : PySem.W.Frag) : R2 := fun x y H Q => match x, y with
  | .int i, .int j => Q (.bl (decide (i = j))) H
  | .bl i, .bl j => Q (.bl (decide (i = j))) H
  | .str i, .str j => Q (.bl (decide (i = j))) H
  | .ref a, .ref b => rEqD K (.ref a) (.ref b) H Q
  | x, y => rEq x y H Q ∨ rEqD K x y H Q
def mNe (K : PySem.W.Frag) : R2 := fun x y H Q => match x, y with
  | .int i, .int j => Q (.bl (!decide (i = j))) H
  | .bl i, .bl j => Q (.bl (!decide (i = j))) H
  | .str i, .str j => Q (.bl (!decide (i = j))) H
  | .ref a, .ref b => rNeD K (.ref a) (.ref b) H Q
  | x, y => rNe x y H Q ∨ rNeD K x y H Q
/-- in a tuple of data -/
def rInT (K : PySem.W.Frag) (neg : Bool) : R2 := fun x y H Q => ∃ d ds, Dp K H x d ∧ Dp K H y (.tuple ds) ∧ SeqAt.shaped d = true ∧ SeqAt.shaped (.tuple ds) = true ∧ Q (.bl (if neg then !(ds.any fun z => PyData.eqv z d) else ds.any fun z => PyData.eqv z d)) H
def mIn (K : PySem.W.Frag) : R2 := fun x y H Q => rIn K false x y H Q ∨ rInD K x y H Q ∨ rInT K false x y H Q
def mNotIn (K : PySem.W.Frag) : R2 := fun x y H Q => rIn K true x y H Q ∨ rNotInD K x y H Q ∨ rInT K true x y H Q
def mIsN : R2 := fun x y H Q => match y with
  | .non => Q (.bl (decide (x = .non))) H
  | _ => False
def mNotN : R2 := fun x y H Q => match y with
  | .non => Q (.bl (!decide (x = .non))) H
  | _ => False
def mIx (K : PySem.W.Frag) : R2 := fun x y H Q => match x, y with
  | .ref p, .int i => ∃ xs v, (SqL K H p xs ∨ SqT K H p xs) ∧ atI xs i = some v ∧ Q v H
  | _, _ => False
def kTest (Q : Bool → Hp → Prop) : VK := fun x H' => match x with
  | .bl k => Q k H'
  | _ => False
def mTest (t : TE) : TT := fun σ H Q => t σ H (kTest Q)
def mChain (r r' : R2) (ta tb tc : TE) : TE := fun σ H Q => ta σ H fun x H1 => tb σ H1 fun y H2 => r x y H2 fun z H3 => match z with
  | .bl k => if k = true then tc σ H3 fun u H4 => r' y u H4 Q else Q (.bl false) H3
  | _ => False
def kTru (K : PySem.W.Frag) (Q : Bool → Hp → Prop) : VK := fun x H' => match x with
  | .bl k => Q k H'
  | .int i => Q (!decide (i = 0)) H'
  | .non => Q false H'
  | .ref a => ∃ k, TruV K (.ref a) H' k ∧ Q k H'
  | _ => False
def mTru (K : PySem.W.Frag) (ta : TE) : TT := fun σ H Q => ta σ H (kTru K Q)
def mAndV (ta tb : TE) : TE := fun σ H Q => ta σ H fun x H1 => match x with
  | .bl k => if k = true then tb σ H1 Q else Q (.bl false) H1
  | _ => False
def mOrV (ta tb : TE) : TE := fun σ H Q => ta σ H fun x H1 => match x with
  | .bl k => if k = true then Q (.bl true) H1 else tb σ H1 Q
  | _ => False
def mNotV (ta : TE) : TE := fun σ H Q => ta σ H fun x H1 => match x with
  | .bl k => Q (.bl (!k)) H1
  | _ => False
abbrev R1 := List V → Hp → VK → Prop
def mAbs : R1 := fun xs H Q => match xs with
  | [.int i] => Q (.int (if i < 0 then -i else i)) H
  | _ => False
def mMax2 : R1 := fun xs H Q => match xs with
  | [.int i, .int j] => Q (.int (max i j)) H
  | _ => False
def mMin2 : R1 := fun xs H Q => match xs with
  | [.int i, .int j] => Q (.int (min i j)) H
  | _ => False
def mInt : R1 := fun xs H Q => match xs with
  | [.int i] => Q (.int i) H
  | [.bl k] => Q (.int (if k then 1 else 0)) H
  | _ => False
def mBool : R1 := fun xs H Q => match xs with
  | [.int i] => Q (.bl (!decide (i = 0))) H
  | [.bl k] => Q (.bl k) H
  | _ => False
def mStr : R1 := fun xs H Q => match xs with
  | [.int i] => i.natAbs.log2 < 1920 ∧ Q (.str (toString i)) H
  | _ => False
def mOrd : R1 := fun xs H Q => match xs with
  | [.str x] => x.length = 1 ∧ Q (.int (x.cps.getD 0 0 : Nat)) H
  | _ => False
def mLen (K : PySem.W.Frag) : R1 := fun xs H Q => match xs with
  | [.ref p] => ∃ ys, (SqL K H p ys ∨ SqT K H p ys) ∧ Q (.int ys.length) H
  | _ => False
def mList (K : PySem.W.Frag) : R1 := fun xs H Q => match xs with
  | [.ref p] => ∃ ys, (SqL K H p ys ∨ SqT K H p ys) ∧ ∀ l, H l = none → Q (.ref l) (upd H l (.lst ys))
  | _ => False
def mTup (K : PySem.W.Frag) : R1 := fun xs H Q => match xs with
  | [.ref p] => ∃ ys, (SqL K H p ys ∧ ∀ l, H l = none → Q (.ref l) (upd H l (.tup ys))) ∨ (SqT K H p ys ∧ Q (.ref p) H)
  | _ => False
def mSl (K : PySem.W.Frag) : V → Option Int → Option Int → Hp → VK → Prop := fun x lo hi H Q => rSlL K x lo hi H Q ∨ rSlA K x lo hi H Q
def mFld (K : PySem.W.Frag) (ta : TE) (f : Str) : TE := fun σ H Q => ta σ H fun x H1 => match x with
  | .ref a => (match H1 a with
    | some (.ins C _ fs) => (match fs.lookup f with
      | some v => (Cls K C ∧ NoAttr K C f) ∧ Q v H1
      | none => False)
    | _ => False)
  | _ => False
def mSFld (K : PySem.W.Frag) (ta tv : TE) (f : Str) : TS := fun D σ H => tv σ H fun y H1 => ta σ H1 fun x H2 => match x with
  | .ref a => (match H2 a with
    | some (.ins C dx fs) => (Cls K C ∧ NoAttr K C f ∧ fs.length < 1000) ∧ D.nx σ (upd H2 a (.ins C dx (putF f y fs)))
    | _ => False)
  | _ => False
def mFldAug (K : PySem.W.Frag) (ta tv : TE) (g : Int → Int → Int) (f : Str) : TS := fun D σ H => ta σ H fun x H1 => match x with
  | .ref a => (match H1 a with
    | some (.ins C _ fs) => (match fs.lookup f with
      | some (.int i) => (Cls K C ∧ NoAttr K C f) ∧ tv σ H1 fun y H2 => (match y with
        | .int j => (match H2 a with
          | some (.ins C' dx' fs') => (C' = C ∧ fs'.length < 1000) ∧ D.nx σ (upd H2 a (.ins C dx' (putF f (.int (g i j)) fs')))
          | _ => False)
        | _ => False)
      | _ => False)
    | _ => False)
  | _ => False
def mAug (i : Nat) (te : TE) (g : Int → Int → Int) : TS := fun D σ H => match σ[i]? with
  | some (some (.int x)) => te σ H fun y H1 => (match y with
    | .int z => D.nx (σ.set i (some (.int (g x z)))) H1
    | _ => False)
  | _ => False
def mDGet (td ty : TE) : TE := fun σ H Q => td σ H fun x H1 => ty σ H1 fun y H2 => match x, y with
  | .ref a, .str s => (match H2 a with
    | some (.dK kvs) => (match valV kvs (.inr s) with
      | some v => Q v H2
      | none => False)
    | _ => False)
  | _, _ => False
def mDPut (td ty tv : TE) : TS := fun D σ H => tv σ H fun v H1 => td σ H1 fun x H2 => ty σ H2 fun y H3 => match x, y with
  | .ref a, .str s => (match H3 a with
    | some (.dK kvs) => kvs.length < sizeLine ∧ D.nx σ (upd H3 a (.dK (putK kvs (.inr s) v)))
    | _ => False)
  | _, _ => False
def mMeth (C : Addr) (m : Str) (sp : Sp) (ta : TE) (t : TA) : TE := fun σ H Q => ta σ H fun x H1 => match x with
  | .ref a => (match H1 a with
    | some (.ins D _ fs) => (D = C ∧ fs.lookup m = none) ∧ t σ H1 fun vs H2 => sp (.ref a :: vs) H2 Q E0
    | _ => False)
  | _ => False
def mCall (sp : Sp) (t : TA) : TE := fun σ H Q => t σ H fun vs H1 => sp vs H1 Q E0
def mMake (C : Addr) (sp : Sp) (t : TA) : TE := fun σ H Q => t σ H fun vs H1 => ∀ x dx, H1 x = none → H1 dx = none → dx ≠ x →
  sp (.ref x :: vs) (upd (upd H1 dx (.own x)) x (.ins C dx [])) (fun v H2 => v = .non ∧ Q (.ref x) H2) E0
def mTup0 (t : TA) : TE := fun σ H Q => t σ H fun xs H1 => xs.length ≤ sizeLine ∧ ∀ p, H1 p = none → Q (.ref p) (upd H1 p (.tup xs))
def mAppend : V → List V → Hp → VK → Prop := fun x vs H Q => match x, vs with
  | .ref l, [y] => (match H l with
    | some (.lst xs) => xs.length < sizeLine ∧ Q .non (upd H l (.lst (xs ++ [y])))
    | _ => False)
  | _, _ => False
/-- a list's method; the receiver is a list that stands in H -/
def mLM (r : V → List V → Hp → VK → Prop) (to : TE) (t : TA) : TE := fun σ H Q => to σ H fun x H1 => match x with
  | .ref l => (match H1 l with
    | some (.lst _) => t σ H1 fun xs H2 => r (.ref l) xs H2 Q
    | _ => False)
  | _ => False
def mSet : TSet := fun o i v H Q => match o, i with
  | .ref p, .int k => (match H p with
    | some (.lst xs) => (match ixN xs.length k with
      | some j => Q (upd H p (.lst (xs.set j v)))
      | none => False)
    | _ => False)
  | _, _ => False
def mPart (t : TE) : TO := fun σ H Q => t σ H fun x H1 => match x with
  | .int i => Q (some i) H1
  | _ => False
abbrev rInsert : V → List V → Hp → VK → Prop := fun x vs H Q => ∃ (l : Addr) (xs : List V) (i : Int) (y : V), x = .ref l ∧ vs = [.int i, y] ∧ H l = some (.lst xs) ∧ xs.length < sizeLine ∧ 0 ≤ i ∧ i < 2 ^ 63 ∧
  Q .non (upd H l (.lst (xs.take i.toNat ++ [y] ++ xs.drop i.toNat)))
theorem hu64 {A : Around} {k : Nat} (hr : Room k A) : A.units + 64 < cLine := by have := hr.un; omega
theorem hu65 {A : Around} {k : Nat} (hr : Room k A) : A.units + 65 < cLine := by have := hr.un; omega
section
variable {X : Cx}
theorem PE_imp {e : Expr} {t t' : TE} (h : PE X e t) (i : ∀ σ H Q, t' σ H Q → t σ H Q) : PE X e t' := ⟨fun pins s σ H Q I q => h.run pins s σ H Q I (i _ _ _ q)⟩
theorem PT_imp {e : Expr} {t t' : TT} (h : PT X e t) (i : ∀ σ H Q, t' σ H Q → t σ H Q) : PT X e t' := ⟨fun pins s σ H Q I q => h.run pins s σ H Q I (i _ _ _ q)⟩
theorem PA_imp {es : List Expr} {t t' : TA} (h : PA X es t) (i : ∀ σ H Q, t' σ H Q → t σ H Q) : PA X es t' := ⟨fun pos pins s σ H Q I q => h.run pos pins s σ H Q I (i _ _ _ q)⟩
theorem PS_imp {e : Stmt} {t t' : TS} (h : PS X e t) (i : ∀ D σ H, t' D σ H → t D σ H) : PS X e t' := ⟨fun pins s σ H D I q => h.run pins s σ H D I (i _ _ _ q)⟩
theorem op_imp {f : Value → Value → Sem Value} {r r' : R2} (h : OpR X f r) (i : ∀ x y H Q, r' x y H Q → r x y H Q) : OpR X f r' := fun pins s σ H x y v u Q I rx ry q => h pins s σ H x y v u Q I rx ry (i _ _ _ _ q)
theorem call_imp {f : Value} {r r' : R1} (h : CallR X f r) (i : ∀ x H Q, r' x H Q → r x H Q) : CallR X f r' := fun pins s σ H xs us Q I rx q => h pins s σ H xs us Q I rx (i _ _ _ q)
theorem ix_imp {r r' : R2} (h : IxR X r) (i : ∀ x y H Q, r' x y H Q → r x y H Q) : IxR X r' := fun a b pins s σ H x y v u Q I rx ry q hs => h a b pins s σ H x y v u Q I rx ry (i _ _ _ _ q) hs
theorem un_imp {f : Value → Sem Value} {r r' : V → Hp → VK → Prop} (h : UnR X f r) (i : ∀ x H Q, r' x H Q → r x H Q) : UnR X f r' := fun pins s σ H x v Q I rx q => h pins s σ H x v Q I rx (i _ _ _ q)
theorem mt_imp {id : String} {r r' : V → List V → Hp → VK → Prop} (h : MtR X id r) (i : ∀ x vs H Q, r' x vs H Q → r x vs H Q) : MtR X id r' := fun pins s σ H x xs v us Q I rx rs q => h pins s σ H x xs v us Q I rx rs (i _ _ _ _ q)
theorem op_mAdd : OpR X (binaryOp .Add) (mAdd X.K) := op_imp (or_op op_add (or_op op_cat op_catA)) fun x y H Q h => by
  cases x <;> cases y <;> first | exact h.elim | exact .inl ⟨_, _, rfl, rfl, h⟩ | exact .inr h
theorem op_mSub : OpR X (binaryOp .Sub) mSub := op_imp op_sub fun x y H Q h => by
  cases x <;> cases y <;> first | exact h.elim | exact ⟨_, _, rfl, rfl, h⟩
theorem op_mMul : OpR X (binaryOp .Mult) mMul := op_imp (or_op op_mulW op_rep) fun x y H Q h => by
  cases x <;> cases y <;> first | exact h.elim | exact .inl ⟨_, _, rfl, rfl, h.1, h.2⟩ | exact .inr h
theorem op_mDiv : OpR X (binaryOp .FloorDiv) mDiv := op_imp op_fdivW fun x y H Q h => by
  cases x <;> cases y <;> first | exact h.elim | exact ⟨_, _, rfl, rfl, h.1, h.2⟩
theorem op_mMod : OpR X (binaryOp .Mod) mMod := op_imp op_mod fun x y H Q h => by
  cases x <;> cases y <;> first | exact h.elim | exact ⟨_, _, rfl, rfl, h.1, h.2⟩
theorem op_mPow : OpR X (binaryOp .Pow) mPow := op_imp op_pow fun x y H Q h => by
  cases x <;> cases y <;> first | exact h.elim | exact ⟨_, _, rfl, rfl, h.1, h.2⟩
theorem un_mNeg : UnR X (unaryOp .USub) mNeg := un_imp un_neg fun x H Q h => by
  cases x <;> first | exact h.elim | exact ⟨_, rfl, h⟩
theorem op_mLt : OpR X (compareOp .Lt) mLt := op_imp op_lt fun x y H Q h => by
  cases x <;> cases y <;> first | exact h.elim | exact ⟨_, _, rfl, rfl, h⟩
theorem op_mLe : OpR X (compareOp .LtE) mLe := op_imp op_le fun x y H Q h => by
  cases x <;> cases y <;> first | exact h.elim | exact ⟨_, _, rfl, rfl, h⟩
theorem op_mGt : OpR X (compareOp .Gt) mGt := op_imp op_gt fun x y H Q h => by
  cases x <;> cases y <;> first | exact h.elim | exact ⟨_, _, rfl, rfl, h⟩
theorem op_mGe : OpR X (compareOp .GtE) mGe := op_imp op_ge fun x y H Q h => by
  cases x <;> cases y <;> first | exact h.elim | exact ⟨_, _, rfl, rfl, h⟩
theorem dInt {i j : Int} : decide (V.int i = V.int j) = decide (i = j) := by simp
theorem dBl {i j : Bool} : decide (V.bl i = V.bl j) = decide (i = j) := by simp
theorem dStr {i j : Str} : decide (V.str i = V.str j) = decide (i = j) := by simp
theorem op_mEq (hu : X.A.units + 64 < cLine) : OpR X (compareOp .Eq) (mEq X.K) := op_imp (or_op op_eq (op_eqD hu)) fun x y H Q h => by
  cases x <;> cases y <;> first | exact h | exact .inl ⟨rfl, by rw [dInt]; exact h⟩ | exact .inl ⟨rfl, by rw [dBl]; exact h⟩ | exact .inl ⟨rfl, by rw [dStr]; exact h⟩ | exact .inr h
theorem op_mNe (hu : X.A.units + 64 < cLine) : OpR X (compareOp .NotEq) (mNe X.K) := op_imp (or_op op_ne (op_neD hu)) fun x y H Q h => by
  cases x <;> cases y <;> first | exact h | exact .inl ⟨rfl, by rw [dInt]; exact h⟩ | exact .inl ⟨rfl, by rw [dBl]; exact h⟩ | exact .inl ⟨rfl, by rw [dStr]; exact h⟩ | exact .inr h
theorem op_inT (hu : X.A.units + 65 < cLine) : OpR X (compareOp .In) (rInT X.K false) := by
  intro pins s σ H x y v u Q I rx ry h
  obtain ⟨d, ds, hd, he, sd, se, q⟩ := h
  obtain ⟨as, r1⟩ := Dp.reads I d x v hd rx
  obtain ⟨bs, r2⟩ := Dp.reads I (.tuple ds) y u he ry
  exact SeqAt.in_tuple_reads r2 r1 (SeqAt.canLay_of_shaped se) (SeqAt.canLay_of_shaped sd) (room_in_shaped sd hu) ⟨.bl _, H, I, rfl, q⟩
theorem op_notInT (hu : X.A.units + 65 < cLine) : OpR X (compareOp .NotIn) (rInT X.K true) := by
  intro pins s σ H x y v u Q I rx ry h
  obtain ⟨d, ds, hd, he, sd, se, q⟩ := h
  obtain ⟨as, r1⟩ := Dp.reads I d x v hd rx
  obtain ⟨bs, r2⟩ := Dp.reads I (.tuple ds) y u he ry
  exact SeqAt.notIn_tuple_reads r2 r1 (SeqAt.canLay_of_shaped se) (SeqAt.canLay_of_shaped sd) (room_in_shaped sd hu) ⟨.bl _, H, I, rfl, q⟩
theorem op_mIn (hu : X.A.units + 65 < cLine) : OpR X (compareOp .In) (mIn X.K) := or_op op_in_seq (or_op (op_inD hu) (op_inT hu))
theorem op_mNotIn (hu : X.A.units + 65 < cLine) : OpR X (compareOp .NotIn) (mNotIn X.K) := or_op op_notIn_seq (or_op (op_notInD hu) (op_notInT hu))
theorem op_mIsN : OpR X (compareOp .Is) mIsN := op_imp op_isN fun x y H Q h => by
  cases y <;> first | exact h.elim | exact ⟨rfl, h⟩
theorem op_mNotN : OpR X (compareOp .IsNot) mNotN := op_imp op_notN fun x y H Q h => by
  cases y <;> first | exact h.elim | exact ⟨rfl, h⟩
theorem ix_m : IxR X (mIx X.K) := ix_imp ix_seq fun x y H Q h => by
  cases x <;> cases y <;> try exact h.elim
  obtain ⟨xs, v, h1 | h1, h2, h3⟩ := h
  · exact .inl ⟨_, xs, _, v, rfl, rfl, h1, h2, h3⟩
  · exact .inr (.inl ⟨_, xs, _, v, rfl, rfl, h1, h2, h3⟩)
theorem call_mAbs : CallR X (.builtin "abs") mAbs := call_imp call_abs fun xs H Q h => by
  unfold mAbs at h; split at h
  · exact ⟨_, rfl, h⟩
  · exact h.elim
theorem call_mMax2 (hc : X.calm = true) : CallR X (.builtin "max") mMax2 := call_imp (call_max2 hc) fun xs H Q h => by
  unfold mMax2 at h; split at h
  · rename_i i j
    have e : max i j = if j > i then j else i := by rw [Int.max_def]; split <;> split <;> omega
    rw [e] at h
    exact ⟨_, _, rfl, h⟩
  · exact h.elim
theorem call_mMin2 (hc : X.calm = true) : CallR X (.builtin "min") mMin2 := call_imp (call_min2 hc) fun xs H Q h => by
  unfold mMin2 at h; split at h
  · rename_i i j
    have e : min i j = if j < i then j else i := by rw [Int.min_def]; split <;> split <;> omega
    rw [e] at h
    exact ⟨_, _, rfl, h⟩
  · exact h.elim
theorem call_mInt : CallR X (.type "int") mInt := call_imp call_int1 fun xs H Q h => by
  unfold mInt at h; split at h
  · exact .inl ⟨_, rfl, h⟩
  · exact .inr ⟨_, rfl, h⟩
  · exact h.elim
theorem call_mBool : CallR X (.type "bool") mBool := call_imp call_bool1 fun xs H Q h => by
  unfold mBool at h; split at h
  · rename_i i
    have e : (i != 0) = !decide (i = 0) := by simp [bne]; rfl
    exact .inl ⟨_, rfl, by rw [e]; exact h⟩
  · exact .inr ⟨_, rfl, h⟩
  · exact h.elim
theorem call_mStr : CallR X (.type "str") mStr := call_imp call_str_int fun xs H Q h => by
  unfold mStr at h; split at h
  · exact ⟨_, rfl, h⟩
  · exact h.elim
theorem call_mOrd : CallR X (.builtin "ord") mOrd := call_imp call_ord fun xs H Q h => by
  unfold mOrd at h; split at h
  · exact ⟨_, rfl, h⟩
  · exact h.elim
theorem call_mLen : CallR X (.builtin "len") (mLen X.K) := call_imp call_len_seq fun xs H Q h => by
  unfold mLen at h; split at h
  · obtain ⟨ys, h1, h2⟩ := h
    exact ⟨_, ys, rfl, h1, h2⟩
  · exact h.elim
theorem call_mList : CallR X (.type "list") (mList X.K) := call_imp call_list_of fun xs H Q h => by
  unfold mList at h; split at h
  · obtain ⟨ys, h1, h2⟩ := h
    exact ⟨_, ys, rfl, h1, h2⟩
  · exact h.elim
theorem call_mTup : CallR X (.type "tuple") (mTup X.K) := call_imp call_tuple_of fun xs H Q h => by
  unfold mTup at h; split at h
  · obtain ⟨ys, h1⟩ := h
    exact ⟨_, ys, rfl, h1⟩
  · exact h.elim
theorem sl_m : SlR X (mSl X.K) := sl_list.or sl_tupA
theorem mt_mAppend : MtR X "list.append" mAppend := mt_imp mt_append fun x vs H Q h => by
  unfold mAppend at h; split at h
  · split at h
    · rename_i e
      exact ⟨_, _, _, rfl, rfl, e, h.1, h.2⟩
    · exact h.elim
  · exact h.elim
theorem mt_insert' : MtR X "list.insert" rInsert := mt_insert
variable {e a b c o value : Expr} {es : List Expr} {ta tb tc tv : TE} {t : TA} {pos pos' apos cpos tpos : Pos} {x f m : Str}
theorem pe_v (i : Nat) (hN : X.N[i]? = some x := by rfl) (hv : Vis X.env.scope x := by first | exact Or.inl rfl | exact Or.inr (Or.inl rfl) | exact Or.inr (Or.inr rfl)) (hd : (x == ("__debug__" : Str)) = false := by decide)
    (hcd : (x == ("__classdict__" : Str)) = false := by decide) : PE X (.Name x pos) (mVar i) := PE_imp (pv i hN hv hd hcd) fun σ H Q h => by
  unfold mVar at h; split at h
  · rename_i v e; exact ⟨v, e, h⟩
  · exact h.elim
theorem pe_gint {i : Int} (hg : Gl X x) (hm : ∃ t, X.mg x = some (.int i t)) (hd : (x == ("__debug__" : Str)) = false := by decide) : PE X (.Name x pos) (tC (.int i)) := by
  obtain ⟨t, hm⟩ := hm
  exact pe_glob hg hm ⟨t, rfl⟩ hd
theorem pt_m {op : CmpOp} {r : R2} (ho : OpR X (compareOp op) r) (ha : PE X a ta) (hb : PE X b tb) (hm : behindInMarks op b = false) : PT X (.Compare a [op] [b] pos) (mTest (tOp r ta tb)) := by
  refine ⟨fun pins s σ H Q I h => ?_⟩
  refine wpAny_isTrue_Compare1 (thn (ha.run pins s σ H _ I h) fun v s1 ⟨x, H1, I1, r1, q1⟩ => thn (hb.run pins s1 σ H1 _ I1 q1) fun u s2 ⟨y, H2, I2, r2, q2⟩ =>
    thn (ho pins s2 σ H2 x y v u _ I2 r1 r2 q2) fun c s3 ⟨z, H3, I3, r3, q3⟩ => ?_) hm
  cases z with
  | bl k =>
    cases r3
    exact wpAny_truthy_bool ⟨H3, I3, q3⟩
  | _ => exact q3.elim
theorem pe_mch {op op' : CmpOp} {r r' : R2} (ho : OpR X (compareOp op) r) (ho' : OpR X (compareOp op') r') (ha : PE X a ta) (hb : PE X b tb) (hc : PE X c tc)
    (hm : lastMarks [op, op'] [b, c] = false := by with_unfolding_all rfl) : PE X (.Compare a [op, op'] [b, c] pos) (mChain r r' ta tb tc) := by
  refine ⟨fun pins s σ H Q I h => ?_⟩
  refine Compare_chain (thn (ha.run pins s σ H _ I h) fun v s1 ⟨x, H1, I1, r1, q1⟩ => chain_link (thn (hb.run pins s1 σ H1 _ I1 q1) fun u s2 ⟨y, H2, I2, r2, q2⟩ =>
    thn (ho pins s2 σ H2 x y v u _ I2 r1 r2 q2) fun d s3 ⟨z, H3, I3, r3, q3⟩ => ?_)) hm
  cases z with
  | bl k =>
    cases r3
    refine wpAny_truthy_bool ?_
    cases k with
    | false => exact ite_ff ⟨.bl false, H3, I3, rfl, q3⟩
    | true => exact ite_tt (chain_last (thn (hc.run pins s3 σ H3 _ I3 q3) fun w' s4 ⟨z', H4, I4, r4, q4⟩ => ho' pins s4 σ H4 y z' u w' Q I4 r2 r4 q4))
  | _ => exact q3.elim
theorem pt_mch {op op' : CmpOp} {r r' : R2} (ho : OpR X (compareOp op) r) (ho' : OpR X (compareOp op') r') (ha : PE X a ta) (hb : PE X b tb) (hc : PE X c tc)
    (hm : lastMarks [op, op'] [b, c] = false := by with_unfolding_all rfl) : PT X (.Compare a [op, op'] [b, c] pos) (mTest (mChain r r' ta tb tc)) := by
  refine ⟨fun pins s σ H Q I h => ?_⟩
  refine isTrue_chain (thn (ha.run pins s σ H _ I h) fun v s1 ⟨x, H1, I1, r1, q1⟩ => test_link (thn (hb.run pins s1 σ H1 _ I1 q1) fun u s2 ⟨y, H2, I2, r2, q2⟩ =>
    thn (ho pins s2 σ H2 x y v u _ I2 r1 r2 q2) fun d s3 ⟨z, H3, I3, r3, q3⟩ => ?_)) hm
  cases z with
  | bl k =>
    cases r3
    refine wpAny_truthy_bool ?_
    cases k with
    | false => exact ite_ff ⟨H3, I3, q3⟩
    | true =>
      refine ite_tt (test_last (thn (hc.run pins s3 σ H3 _ I3 q3) fun w' s4 ⟨z', H4, I4, r4, q4⟩ => thn (ho' pins s4 σ H4 y z' u w' _ I4 r2 r4 q4) fun d' s5 ⟨z2, H5, I5, r5, q5⟩ => ?_))
      cases z2 with
      | bl k2 =>
        cases r5
        exact wpAny_truthy_bool ⟨H5, I5, q5⟩
      | _ => exact q5.elim
  | _ => exact q3.elim
theorem pt_tru (ha : PE X a ta) (he : ∀ whole, isTrue a X.env whole = (do let v ← whole; standAt a.pos; holding [v] (truthy v)) := by intro _; rfl) : PT X a (mTru X.K ta) := by
  refine ⟨fun pins s σ H Q I h => ?_⟩
  refine isTrue_plain (thn (ha.run pins s σ H _ I h) fun v s1 ⟨x, H1, I1, r1, q1⟩ => ?_) (he _)
  refine tru_ok pins s1 σ H1 x v Q I1 r1 ?_
  cases x with
  | bl k => exact ⟨k, rfl, q1⟩
  | int i =>
    have e : (i != 0) = !decide (i = 0) := by simp [bne]; rfl
    exact ⟨_, rfl, e ▸ q1⟩
  | non => exact ⟨_, rfl, q1⟩
  | ref p => exact q1
  | _ => exact q1.elim
theorem pe_mand {rest : List Expr} (ha : PE X a ta) (hb : PE X (.BoolOp .And (b :: rest) pos) tb) : PE X (.BoolOp .And (a :: b :: rest) pos) (mAndV ta tb) := by
  refine ⟨fun pins s σ H Q I h => ?_⟩
  refine BoolOp_and (thn (ha.run pins s σ H _ I h) fun v s1 ⟨x, H1, I1, r1, q1⟩ => ?_)
  cases x with
  | bl k =>
    cases r1
    refine wpAny_truthy_bool ?_
    cases k with
    | true => exact hb.run pins s1 σ H1 Q I1 q1
    | false => exact ⟨.bl false, H1, I1, rfl, q1⟩
  | _ => exact q1.elim
theorem pe_mor {rest : List Expr} (ha : PE X a ta) (hb : PE X (.BoolOp .Or (b :: rest) pos) tb) : PE X (.BoolOp .Or (a :: b :: rest) pos) (mOrV ta tb) := by
  refine ⟨fun pins s σ H Q I h => ?_⟩
  refine BoolOp_or (thn (ha.run pins s σ H _ I h) fun v s1 ⟨x, H1, I1, r1, q1⟩ => ?_)
  cases x with
  | bl k =>
    cases r1
    refine wpAny_truthy_bool ?_
    cases k with
    | true => exact ⟨.bl true, H1, I1, rfl, q1⟩
    | false => exact hb.run pins s1 σ H1 Q I1 q1
  | _ => exact q1.elim
theorem pe_mfld (ha : PE X a ta) (hb : attributeBase a f X.env (eval a X.env) = eval a X.env) : PE X (.Attribute a f pos) (mFld X.K ta f) := by
  refine ⟨fun pins s σ H Q I h => ?_⟩
  refine attr_of hb (thn (ha.run pins s σ H _ I h) fun u s1 ⟨x, H1, I1, rx, q⟩ => ?_)
  cases x with
  | ref p =>
    obtain rfl : u = Value.ref p := rx
    simp only at q
    split at q
    · rename_i C dx fs ea
      split at q
      · rename_i v l
        exact getattr_ok I1 ea q.1.1 q.1.2 l fun u' s2 I2 ru => ⟨v, H1, I2, ru, q.2⟩
      · exact q.elim
    · exact q.elim
  | _ => exact q.elim
theorem ps_mfld (ha : PE X o ta) (hv : PE X value tv) (hs : swapsWith value (some (.Attribute o f pos')) pos.line X.env = pure false) : PS X (.Assign [.Attribute o f pos'] value pos) (mSFld X.K ta tv f) := by
  refine ⟨fun pins s σ H D I h => ?_⟩
  refine plainObj_wpAny_Assign_Attribute (thn (hv.run pins s σ H _ I h) fun u s1 ⟨y, H1, I1, ry, q⟩ => thn (ha.run pins s1 σ H1 _ I1 q) fun ov s2 ⟨x, H2, I2, rx, q2⟩ => ?_) hs
  cases x with
  | ref p =>
    obtain rfl : ov = Value.ref p := rx
    simp only at q2
    split at q2
    · rename_i C dx fs ea
      exact setattr_ok I2 ea q2.1.1 q2.1.2.1 q2.1.2.2 ry fun s3 I3 => ⟨σ, _, I3, q2.2⟩
    · exact q2.elim
  | _ => exact q2.elim
theorem in_g {op : Operator} {g : Int → Int → Int} (h : InOp X op (fun x y H Q => ∃ i j, x = .int i ∧ y = .int j ∧ Q (.int (g i j)) H)) (ha : PE X o ta) (hv : PE X value tv) : PS X (.AugAssign (.Attribute o f tpos) op value pos) (mFldAug X.K ta tv g f) := by
  refine ⟨fun pins s σ H D I h' => ?_⟩
  refine wpAny_AugAssign_AttributeAny (thn (ha.run pins s σ H _ I h') fun ov s1 ⟨x, H1, I1, rx, q⟩ => ?_)
  cases x with
  | ref p =>
    obtain rfl : ov = Value.ref p := rx
    simp only at q
    split at q
    · rename_i C dx fs ea
      split at q
      · rename_i i l
        refine getattr_ok I1 ea q.1.1 q.1.2 l fun u s2 I2 ru => thn (hv.run pins s2 σ H1 _ I2 q.2) fun w3 s3 ⟨y, H2, I3, ry, q3⟩ => ?_
        cases y with
        | int j =>
          simp only at q3
          split at q3
          · rename_i C' dx' fs' ea'
            obtain ⟨⟨rfl, l'⟩, q4⟩ := q3
            exact thn (h pins s3 σ H2 _ _ u w3 (fun z H3 => z = .int (g i j) ∧ H3 = H2) I3 ru ry ⟨i, j, rfl, rfl, rfl, rfl⟩) fun w4 s4 ⟨z, H3, I4, rz, e1, e2⟩ => by
              subst e1 e2
              exact setattr_ok I4 ea' q.1.1 q.1.2 l' rz fun s5 I5 => ⟨σ, _, I5, q4⟩
          · exact q3.elim
        | _ => exact q3.elim
      · exact q.elim
    · exact q.elim
  | _ => exact q.elim
theorem ps_maugF_add (ha : PE X o ta) (hv : PE X value tv) : PS X (.AugAssign (.Attribute o f tpos) .Add value pos) (mFldAug X.K ta tv (fun i j => i + j) f) := in_g in_add ha hv
theorem ps_maugF_sub (ha : PE X o ta) (hv : PE X value tv) : PS X (.AugAssign (.Attribute o f tpos) .Sub value pos) (mFldAug X.K ta tv (fun i j => i - j) f) := in_g in_sub ha hv
theorem ps_maug {i : Nat} {op : Operator} {g : Int → Int → Int} (hN : X.N.Nodup) (hi : X.N[i]? = some x) (hx : Loc X.env.scope x) (he : PE X value tv) (ho : PIp X op (ipI g)) (hf : X.fn x = true ∨ X.env.scope.names.lookup x = some .local := by first | exact .inl rfl | exact .inr rfl | assumption) :
    PS X (.AugAssign (.Name x pos') op value pos) (mAug i tv g) := by
  refine ⟨fun pins s σ H D I h => ?_⟩
  unfold mAug at h
  split at h
  · rename_i v e1
    obtain ⟨m, hn, hl⟩ := I.loc
    have vis : Vis X.env.scope x := by rcases hx with k | k; exact .inl k; exact .inr (.inl k)
    obtain ⟨u, r, l⟩ := hl i x (.int v) hi e1 vis
    refine wpAny_AugAssign_Name ?_
    have go : wpAny (model X.prog X.w) X.A (eval value X.env) (fun w s₂ => wpAny (model X.prog X.w) X.A (inplaceOp op u w) (fun r s₃ => wpAny (model X.prog X.w) X.A (storeName X.env x r) (fun _ => SP X pins D .next) X.xe s₃) X.xe s₂) X.xe s := by
      refine thn (he.run pins s σ H _ I h) fun w s1 ⟨y, H1, I1, r1, q1⟩ => ?_
      cases y with
      | int z =>
        refine thn (ho pins s1 σ H1 (.int v) (.int z) u w (fun y H2 => y = .int (g v z) ∧ H2 = H1) I1 r r1 ⟨_, _, rfl, rfl, rfl, rfl⟩) fun z' s2 ⟨zv, H2, I2, r2, e2, e3⟩ => ?_
        subst e2 e3
        exact store_ok I2 hN hi hx r2 (fun s3 I3 => ⟨_, H2, I3, q1⟩) hf
      | _ => exact q1.elim
    rcases l with ⟨hk, hm⟩ | ⟨hk, c, hc, hcell⟩
    · exact wpAny_loadName_local I.ok.kind hk hn hm go
    · rcases hk with hk | hk
      · exact wpAny_loadName_cell I.ok.kind hk hc hcell go
      · rcases hx with k | k
        · have : X.env.scope.names.lookup x = some .free := hk
          rw [k] at this; cases this
        · have : X.env.scope.names.lookup x = some .free := hk
          rw [k] at this; cases this
  · exact h.elim
theorem pe_mdget (hu : X.A.units + 1 < cLine) (ho : PE X o ta) (hi : PE X e tb) (hs : NoSl e) : PE X (.Subscript o e pos) (mDGet ta tb) := by
  refine ⟨fun pins s σ H Q I h => ?_⟩
  refine subD_of PySem.F.slot_dict_getitem.lookup hs (thn (ho.run pins s σ H _ I h) fun u s1 ⟨x, H1, I1, rx, q1⟩ => thn (hi.run pins s1 σ H1 _ I1 q1) fun iv s2 ⟨y, H2, I2, ry, q2⟩ => ?_)
  cases x with
  | ref p =>
    obtain rfl : u = Value.ref p := rx
    cases y with
    | str z =>
      simp only at q2
      split at q2
      · rename_i kvs ea
        split at q2
        · rename_i v l
          have g : DGet H2 p (.str z) (some v) := by rw [← l]; exact DGet.k (k := Sum.inr z) ea
          exact ⟨dict_typeIs I2 g, d_getItem hu I2 g ry fun w' s3 I3 rw' => ⟨v, H2, I3, rw', q2⟩⟩
        · exact q2.elim
      · exact q2.elim
    | _ => exact q2.elim
  | _ => exact q2.elim
theorem ps_mdput (hu : X.A.units + 1 < cLine) (ho : PE X o ta) (hi : PE X e tb) (hv : PE X value tv) (hs : swapsWith value (some (.Subscript o e pos')) pos.line X.env = pure false) :
    PS X (.Assign [.Subscript o e pos'] value pos) (mDPut ta tb tv) := by
  refine ⟨fun pins s σ H D I h => ?_⟩
  refine wpAny_Assign_Subscript (thn (hv.run pins s σ H _ I h) fun r s1 ⟨v, H1, I1, rv, q1⟩ => thn (ho.run pins s1 σ H1 _ I1 q1) fun u s2 ⟨x, H2, I2, rx, q2⟩ => thn (hi.run pins s2 σ H2 _ I2 q2) fun iv s3 ⟨y, H3, I3, ry, q3⟩ => ?_) hs
  cases x with
  | ref p =>
    obtain rfl : u = Value.ref p := rx
    cases y with
    | str z =>
      simp only at q3
      split at q3
      · rename_i kvs ea
        exact d_setItem hu I3 (DPut.k (k := Sum.inr z) ea q3.1) ry rv fun s4 I4 => ⟨σ, _, I4, q3.2⟩
      · exact q3.elim
    | _ => exact q3.elim
  | _ => exact q3.elim
theorem pe_mmt {C : Addr} {sp : Sp} {j k : Nat} {pl : Sem Bool} (c : Met X.prog X.w X.K X.mg X.base k C m sp []) (hr : Room j X.A) (hk : k ≤ j) (he : PE X o ta) (ha : PA X (e :: es) t)
    (hst : starEach (e :: es) X.env = (false, eval e X.env) :: starEach es X.env := by rfl) (hpl : (backTo pos (starEach es X.env)).any (·.1) = false := by rfl)
    (ht : eval (.Call (.Attribute o m apos) (e :: es) [] pos) X.env = (do
      let ov ← eval o X.env
      standAt apos.atName
      let (f, first) ← holding [ov] (getMethod ov m pl)
      callWith pos f first (backTo pos (starEach (e :: es) X.env)) (backToKw pos (keywordEach [] X.env))) := by rfl) :
    PE X (.Call (.Attribute o m apos) (e :: es) [] pos) (mMeth C m sp ta t) := by
  obtain ⟨g, fd, ps, ds, hc, hm, F, b, d⟩ := c.ex
  refine ⟨fun pins s σ H Q I h => ?_⟩
  refine PySem.W.methodCall_KW (pl := pl) (thn (he.run pins s σ H _ I h) fun u s1 ⟨x, H1, I1, rx, q⟩ => ?_) ht
  cases x with
  | ref p =>
    obtain rfl : u = Value.ref p := rx
    simp only at q
    split at q
    · rename_i C' dx fs ea
      obtain ⟨⟨rfl, l⟩, q⟩ := q
      refine getmeth_ok I1 ea hc hm l ?_
      refine PySem.W.callWith_K (first := [.ref p]) (h₀ := X.base) I.ok.mod.kin hm.kp (thn (ha.run pos pins s1 σ H1 _ I1 q) fun us s2 ⟨vs, H2, I2, r, q2⟩ => ⟨I2.kIn, ?_⟩) hst hpl
      refine run_fn (E := L2.E0) (us := .ref p :: us) (vs := .ref p :: vs) F (hr.mono hk) b d pass0 I2 (.cons rfl r) ?_
      rw [List.append_nil]
      exact q2
    · exact q.elim
  | _ => exact q.elim
theorem pe_mmt0 {C : Addr} {sp : Sp} {j k : Nat} {pl : Sem Bool} (c : Met X.prog X.w X.K X.mg X.base k C m sp []) (hr : Room j X.A) (hk : k ≤ j) (he : PE X o ta)
    (ht : eval (.Call (.Attribute o m apos) [] [] pos) X.env = (do
      let ov ← eval o X.env
      standAt apos.atName
      let (f, first) ← holding [ov] (getMethod ov m pl)
      callWith pos f first (backTo pos (starEach [] X.env)) (backToKw pos (keywordEach [] X.env))) := by rfl) :
    PE X (.Call (.Attribute o m apos) [] [] pos) (mMeth C m sp ta tNil) := by
  obtain ⟨g, fd, ps, ds, hc, hm, F, b, d⟩ := c.ex
  refine ⟨fun pins s σ H Q I h => ?_⟩
  refine PySem.W.methodCall_KW (pl := pl) (thn (he.run pins s σ H _ I h) fun u s1 ⟨x, H1, I1, rx, q⟩ => ?_) ht
  cases x with
  | ref p =>
    obtain rfl : u = Value.ref p := rx
    simp only at q
    split at q
    · rename_i C' dx fs ea
      obtain ⟨⟨rfl, l⟩, q⟩ := q
      refine getmeth_ok I1 ea hc hm l ?_
      refine PySem.W.callWith_K0 (first := [.ref p]) I1.kIn hm.kp (run_fn (E := L2.E0) (us := [.ref p]) (vs := [.ref p]) F (hr.mono hk) b d pass0 I1 (.cons rfl .nil) ?_)
      exact q
    · exact q.elim
  | _ => exact q.elim
theorem pe_mc {sp : Sp} {j k : Nat} (c : Cal X.prog X.w X.K X.mg X.base k x sp []) (hr : Room j X.A) (hk : k ≤ j) (hg : Gl X x) (ha : PA X (e :: es) t)
    (hdb : (x == ("__debug__" : Str)) = false := by decide) (he : starEach (e :: es) X.env = (false, eval e X.env) :: starEach es X.env := by rfl) (hpl : (backTo pos (starEach es X.env)).any (·.1) = false := by rfl) :
    PE X (.Call (.Name x pos') (e :: es) [] pos) (mCall sp t) := by
  obtain ⟨f, fd, ps, ds, F, hm, kp, b, d⟩ := c.ex
  refine ⟨fun pins s σ H Q I h => ?_⟩
  refine wpAny_Call_Name_kw (ld_glob I hg hm ?_ hdb)
  refine PySem.W.callWith_K (first := []) (h₀ := X.base) I.ok.mod.kin kp (thn (ha.run pos pins s σ H _ I h) fun us s2 ⟨vs, H2, I2, r, q2⟩ => ⟨I2.kIn, ?_⟩) he hpl
  refine run_fn (E := L2.E0) F (hr.mono hk) b d pass0 I2 r ?_
  rw [List.append_nil]
  exact q2
theorem pe_mc0 {sp : Sp} {j k : Nat} (c : Cal X.prog X.w X.K X.mg X.base k x sp []) (hr : Room j X.A) (hk : k ≤ j) (hg : Gl X x) (hdb : (x == ("__debug__" : Str)) = false := by decide) :
    PE X (.Call (.Name x pos') [] [] pos) (mCall sp tNil) := by
  obtain ⟨f, fd, ps, ds, F, hm, kp, b, d⟩ := c.ex
  exact pe_call0 F (hr.mono hk) hg hm kp b d pass0 hdb
theorem pe_mmk {C : Addr} {sp : Sp} {j k : Nat} (c : Mak X.prog X.w X.K X.mg X.base k x C sp []) (hr : Room j X.A) (hk : k + 1 ≤ j) (hg : Gl X x) (ha : PA X (e :: es) t)
    (hdb : (x == ("__debug__" : Str)) = false := by decide) (he : starEach (e :: es) X.env = (false, eval e X.env) :: starEach es X.env := by rfl) (hpl : (backTo pos (starEach es X.env)).any (·.1) = false := by rfl) :
    PE X (.Call (.Name x pos') (e :: es) [] pos) (mMake C sp t) := by
  obtain ⟨f, fd, ps, ds, M, F, hm, b, d⟩ := c.ex
  refine ⟨fun pins s σ H Q I h => ?_⟩
  refine wpAny_Call_Name_kw (ld_glob I hg hm ?_ hdb)
  refine PySem.W.callWith_K (first := []) (h₀ := X.base) I.ok.mod.kin M.kp (thn (ha.run pos pins s σ H _ I h) fun us s1 ⟨vs, H1, I1, r, q⟩ => ⟨I1.kIn, ?_⟩) he hpl
  refine run_make (E := L2.E0) M F (hr.mono hk) b d pass0 I1 r ?_
  rw [List.append_nil]
  exact q
theorem pe_mmk0 {C : Addr} {sp : Sp} {j k : Nat} (c : Mak X.prog X.w X.K X.mg X.base k x C sp []) (hr : Room j X.A) (hk : k + 1 ≤ j) (hg : Gl X x) (hdb : (x == ("__debug__" : Str)) = false := by decide) :
    PE X (.Call (.Name x pos') [] [] pos) (mMake C sp tNil) := by
  obtain ⟨f, fd, ps, ds, M, F, hm, b, d⟩ := c.ex
  exact pe_make0 M F (hr.mono hk) hg hm b d pass0 hdb
theorem pe_mlm {id : String} {name : Str} {r : V → List V → Hp → VK → Prop} (slot : Slot "list" name id) (hty : typeOf (.builtin id) = pure (.type "method_descriptor")) (hm : MtR X id r) (ho : PE X o ta) (ha : PA X (e :: es) t)
    (hbase : attributeBase o name X.env (eval o X.env) = eval o X.env := by rfl)
    (hfew : ((backTo cpos (starEach (e :: es) X.env)).all (fun x => !x.1) && (backToKw cpos (keywordEach [] X.env)).all (fun x => x.1.isSome)
      && decide ((e :: es).length + ([] : List Keyword).length + (if ([] : List Keyword).isEmpty then 0 else 1) < 30)) = true := by rfl)
    (hline : (apos.endLine == cpos.line) = true := by rfl) (hs : starEach (e :: es) X.env = (false, eval e X.env) :: starEach es X.env := by rfl) (hplain : (backTo cpos (starEach es X.env)).any (·.1) = false := by rfl) :
    PE X (.Call (.Attribute o name apos) (e :: es) [] cpos) (mLM r ta t) := by
  refine ⟨fun pins s σ H Q I h => ?_⟩
  refine wpAny_Call_method_late hbase hfew hline rfl (thn (ho.run pins s σ H _ I h) fun v s1 ⟨x, H1, I1, r1, q1⟩ => ?_)
  cases x with
  | ref p =>
    simp only at q1
    split at q1
    · rename_i xs ea
      obtain ⟨h1, h2⟩ := tyV_is (T := "list") I1 r1 (Or.inl ⟨rfl, _, SqL.of ea⟩)
      refine ⟨"list", id, PySem.F.plainAttrs_list, slot, hty, h1, h2, ?_⟩
      have hA := ha.run cpos pins s1 σ H1 _ I1 q1
      rw [hs] at hA ⊢
      refine Calls.callWith_builtin (by show (false || (backTo cpos (starEach es X.env)).any (·.1)) = false; rw [hplain] <;> rfl) (Calls.evalArgs_plain ?_)
      exact thn hA fun us s2 ⟨vs, H2, I2, r2, q2⟩ => hm pins s2 σ H2 (.ref p) vs v us Q I2 r1 r2 q2
    · exact q1.elim
  | _ => exact q1.elim
theorem pe_mlm0 {id : String} {name : Str} {r : V → List V → Hp → VK → Prop} (slot : Slot "list" name id) (hty : typeOf (.builtin id) = pure (.type "method_descriptor")) (hm : MtR X id r) (ho : PE X o ta)
    (hbase : attributeBase o name X.env (eval o X.env) = eval o X.env := by rfl) (hline : (apos.endLine == cpos.line) = true := by rfl) : PE X (.Call (.Attribute o name apos) [] [] cpos) (mLM r ta tNil) := by
  refine ⟨fun pins s σ H Q I h => ?_⟩
  refine wpAny_Call_method0_late hbase hline (thn (ho.run pins s σ H _ I h) fun v s1 ⟨x, H1, I1, r1, q1⟩ => ?_)
  cases x with
  | ref p =>
    simp only at q1
    split at q1
    · rename_i xs ea
      obtain ⟨h1, h2⟩ := tyV_is (T := "list") I1 r1 (Or.inl ⟨rfl, _, SqL.of ea⟩)
      exact ⟨"list", id, PySem.F.plainAttrs_list, slot, hty, h1, h2, Calls.callWith_builtin rfl (PySem.evalArgs_none (hm pins s1 σ H1 (.ref p) [] v [] Q I1 r1 .nil q1))⟩
    · exact q1.elim
  | _ => exact q1.elim
theorem set_m : PSet X mSet := by
  intro pins s σ H o i v ov iv u Q I ro ri rv h
  refine set_list pins s σ H o i v ov iv u Q I ro ri rv ?_
  unfold mSet at h
  split at h
  · split at h
    · rename_i e1
      split at h
      · rename_i e2
        exact ⟨_, _, _, _, rfl, rfl, e1, e2, h⟩
      · exact h.elim
    · exact h.elim
  · exact h.elim
theorem po_m (h : PE X e ta) : PO X (some e) (mPart ta) := by
  refine ⟨fun pins s σ H Q I hw => ?_⟩
  rw [evalPart_some]
  refine thn (h.run pins s σ H _ I hw) fun u s1 ⟨x, H1, I1, r1, q1⟩ => ?_
  cases x with
  | int i =>
    obtain ⟨t, rfl⟩ := r1
    exact ⟨some i, H1, I1, .int _ _, q1⟩
  | _ => exact q1.elim
end
section
variable {X : Cx} {a : Expr} {ta : TE} {pos : Pos}
theorem pe_mnot (ha : PE X a ta) : PE X (.UnaryOp .Not a pos) (mNotV ta) := by
  refine ⟨fun pins s σ H Q I h => ?_⟩
  refine UnaryOp_ (thn (ha.run pins s σ H _ I h) fun v s1 ⟨x, H1, I1, r1, q1⟩ => ?_)
  cases x with
  | bl c =>
    cases r1
    exact not_of (wpAny_truthy_bool ⟨.bl (!c), H1, I1, rfl, q1⟩)
  | _ => exact q1.elim
end
/-! ### defs by the head's facts -/
section
variable {P : Program} {w : World} {K : PySem.W.Frag} {mg : Str → Option Value} {base : Heap}
abbrev FnP (K : PySem.W.Frag) (x qual : Str) (st : Stmt) (f : Addr) (fd : FuncData) : Prop := FunD K x qual (defArgs st) (defBody st) (defScope st) [] [] f fd
abbrev Body (P : Program) (w : World) (K : PySem.W.Frag) (mg : Str → Option Value) (base : Heap) (k : Nat) (N : List Str) (qual : Str) (st : Stmt) (t : TS) : Prop :=
  ∀ (f : Addr) (cdv : Value) (A : Around) (outer : List Env) (s : Shared) (H : Hp) (E : XK), Room k (A.deeper (envOfC qual (defScope st) s.heap.objs.size f cdv)) →
    PSs (cxOf CX0 P w K mg base N qual (defScope st) f cdv A outer s H E).nox (defBody st) t
abbrev Pure (N : List Str) (sp : Sp) (t : TS) : Prop := ∀ (vs : List V) (H : Hp) (Q : VK) (E : XK), sp vs H Q E → t { nx := fun _ H' => Q .non H', rt := Q } (start N vs) H
abbrev Len (n : Nat) (sp : Sp) : Prop := ∀ vs H Q E, sp vs H Q E → vs.length = n
theorem fn_ok {x qual : Str} {st : Stmt} {f : Addr} {fd : FuncData} {N ps : List Str} {k : Nat} {sp : Sp} {t : TS} (F : FnP K x qual st f fd) (S : FnScope N ps (defScope st)) (len : Len ps.length sp)
    (b : Body P w K mg base k N qual st t) (p : Pure N sp t) : FnOk P w K mg base CX0 (k + 1) f fd ps sp :=
  F.ok S len fun cdv A outer s H vs Q E hr h => ⟨t, (b f cdv A outer s H E hr).nox, p vs H Q E h⟩
abbrev BindOk (x qual : Str) (st : Stmt) (ps : List Str) : Prop := ∀ (kV doc pm : Value) (an : Option Addr) (cdv ct : Value) (us : List Value), us.length = ps.length →
  bindArgs (PySem.W.fnOf x qual (defArgs st) (defBody st) (defScope st) .none kV doc pm an cdv ct) ⟨us, []⟩ = pure (ps.zip us)
theorem cal_ok {x : Str} {st : Stmt} {N ps : List Str} {k : Nat} {sp : Sp} {t : TS} (F : ∃ fd, FnP K x x st (He.ga K x) fd) (g : mg x = some (.ref (He.ga K x))) (S : FnScope N ps (defScope st)) (len : Len ps.length sp)
    (hb : BindOk x x st ps) (b : Body P w K mg base k N x st t) (p : Pure N sp t) : Cal P w K mg base (k + 1) x sp [] := by
  obtain ⟨fd, F⟩ := F
  exact ⟨_, fd, ps, [], fn_ok F S len b p, g, F.kp, F.bindsN hb, .nil⟩
theorem met_ok {x m qual : Str} {st : Stmt} {N ps : List Str} {k : Nat} {sp : Sp} {t : TS} (F : ∃ fd, FnP K m qual st (He.ma K (He.ga K x) m) fd) (c : Cls K (He.ga K x)) (me : Meth K (He.ga K x) m (He.ma K (He.ga K x) m))
    (S : FnScope N ps (defScope st)) (len : Len ps.length sp) (hb : BindOk m qual st ps) (b : Body P w K mg base k N qual st t) (p : Pure N sp t) : Met P w K mg base (k + 1) (He.ga K x) m sp [] := by
  obtain ⟨fd, F⟩ := F
  exact ⟨_, fd, ps, [], c, me, fn_ok F S len b p, F.bindsN hb, .nil⟩
theorem mak_ok {x qual : Str} {st : Stmt} {N ps : List Str} {k : Nat} {sp : Sp} {t : TS} (F : ∃ fd, FnP K "__init__" qual st (He.ma K (He.ga K x) "__init__") fd) (g : mg x = some (.ref (He.ga K x))) (M : Mk K (He.ga K x) (He.ma K (He.ga K x) "__init__"))
    (S : FnScope N ps (defScope st)) (len : Len ps.length sp) (hb : BindOk "__init__" qual st ps) (b : Body P w K mg base k N qual st t) (p : Pure N sp t) : Mak P w K mg base (k + 1) x (He.ga K x) sp [] := by
  obtain ⟨fd, F⟩ := F
  exact ⟨_, fd, ps, [], M, fn_ok F S len b p, g, F.bindsN hb, .nil⟩
end
end PB

set_option maxRecDepth 100000
set_option autoImplicit false
set_option maxHeartbeats 4000000
namespace PB
open PySem PySem.Spec PyProof.Rows L2
open C8 (tCut)
/-! ### what runs without a change of the heap -/
def pE (te : TE) (σ : L2.St) (H : Hp) (v : V) : Prop := ∀ Q : VK, Q v H → te σ H Q
def pT (tt : TT) (σ : L2.St) (H : Hp) (b : Bool) : Prop := ∀ Q : Bool → Hp → Prop, Q b H → tt σ H Q
def pA (ta : TA) (σ : L2.St) (H : Hp) (vs : List V) : Prop := ∀ Q : List V → Hp → Prop, Q vs H → ta σ H Q
def pR (r : R2) (x y : V) (H : Hp) (z : V) : Prop := ∀ Q : VK, Q z H → r x y H Q
def pC (r : R1) (xs : List V) (H : Hp) (z : V) : Prop := ∀ Q : VK, Q z H → r xs H Q
section
variable {K : PySem.W.Frag} {σ : L2.St} {H : Hp} {ta tb tc te : TE} {t u : TT} {x y z v : V} {r r' : R2} {i j : Int} {b c : Bool} {D : Ends} {s1 s2 : TS} {tl : TA} {vs : List V}
theorem p_var {i : Nat} (h : σ[i]? = some (some v)) : pE (mVar i) σ H v := fun Q q => by unfold mVar; rw [h]; exact q
theorem p_c : pE (tC v) σ H v := fun Q q => q
theorem p_op (ha : pE ta σ H x) (hb : pE tb σ H y) (hr : pR r x y H z) : pE (tOp r ta tb) σ H z := fun Q q => ha _ (hb _ (hr Q q))
theorem p_neg (ha : pE ta σ H (.int i)) : pE (tUn mNeg ta) σ H (.int (-i)) := fun Q q => ha _ q
theorem p_add : pR (mAdd K) (.int i) (.int j) H (.int (i + j)) := fun _ q => q
theorem p_sub : pR mSub (.int i) (.int j) H (.int (i - j)) := fun _ q => q
theorem p_mul (h : CMulW i j) : pR mMul (.int i) (.int j) H (.int (i * j)) := fun _ q => ⟨h, q⟩
theorem p_div (h : CDivW i j) : pR mDiv (.int i) (.int j) H (.int (i / j)) := fun _ q => ⟨h, q⟩
theorem p_mod (h : 0 < j) : pR mMod (.int i) (.int j) H (.int (i % j)) := fun _ q => ⟨h, q⟩
theorem p_lt : pR mLt (.int i) (.int j) H (.bl (decide (i < j))) := fun _ q => q
theorem p_le : pR mLe (.int i) (.int j) H (.bl (decide (i ≤ j))) := fun _ q => q
theorem p_gt : pR mGt (.int i) (.int j) H (.bl (decide (j < i))) := fun _ q => q
theorem p_ge : pR mGe (.int i) (.int j) H (.bl (decide (j ≤ i))) := fun _ q => q
theorem p_eqI : pR (mEq K) (.int i) (.int j) H (.bl (decide (i = j))) := fun _ q => q
theorem p_eqB : pR (mEq K) (.bl b) (.bl c) H (.bl (decide (b = c))) := fun _ q => q
theorem p_eqS {i j : Str} : pR (mEq K) (.str i) (.str j) H (.bl (decide (i = j))) := fun _ q => q
theorem p_eqD {a b : Addr} {d e : PyData} (hd : Dp K H (.ref a) d) (he : Dp K H (.ref b) e) (sd : SeqAt.shaped d = true) (se : SeqAt.shaped e = true) : pR (mEq K) (.ref a) (.ref b) H (.bl (PyData.eqv d e)) := fun _ q => ⟨d, e, hd, he, sd, se, q⟩
theorem p_neI : pR (mNe K) (.int i) (.int j) H (.bl (!decide (i = j))) := fun _ q => q
theorem p_neB : pR (mNe K) (.bl b) (.bl c) H (.bl (!decide (b = c))) := fun _ q => q
theorem p_neS {i j : Str} : pR (mNe K) (.str i) (.str j) H (.bl (!decide (i = j))) := fun _ q => q
theorem p_neD {a b : Addr} {d e : PyData} (hd : Dp K H (.ref a) d) (he : Dp K H (.ref b) e) (sd : SeqAt.shaped d = true) (se : SeqAt.shaped e = true) : pR (mNe K) (.ref a) (.ref b) H (.bl (!PyData.eqv d e)) := fun _ q => ⟨d, e, hd, he, sd, se, q⟩
theorem p_isN : pR mIsN x .non H (.bl (decide (x = .non))) := fun _ q => q
theorem p_notN : pR mNotN x .non H (.bl (!decide (x = .non))) := fun _ q => q
theorem p_ixL {p : Addr} {xs : List V} (h : SqL K H p xs) (e : atI xs i = some v) : pR (mIx K) (.ref p) (.int i) H v := fun _ q => ⟨xs, v, .inl h, e, q⟩
theorem p_ixT {p : Addr} {xs : List V} (h : SqT K H p xs) (e : atI xs i = some v) : pR (mIx K) (.ref p) (.int i) H v := fun _ q => ⟨xs, v, .inr h, e, q⟩
theorem p_ixH {p : Addr} {xs : List V} (h : H p = some (.lst xs)) (e : atI xs i = some v) : pR (mIx K) (.ref p) (.int i) H v := fun _ q => ⟨xs, v, .inl (SqL.of h), e, q⟩
theorem p_ixU {p : Addr} {xs : List V} (h : H p = some (.tup xs)) (e : atI xs i = some v) : pR (mIx K) (.ref p) (.int i) H v := fun _ q => ⟨xs, v, .inr (SqT.of h), e, q⟩
theorem p_chain {b c : Bool} (ha : pE ta σ H x) (hb : pE tb σ H y) (hr : pR r x y H (.bl b)) (hc : pE tc σ H z) (hr' : pR r' y z H (.bl c)) : pE (mChain r r' ta tb tc) σ H (.bl (b && c)) := fun Q q => by
  refine ha _ (hb _ (hr _ ?_))
  cases b with
  | true => exact hc _ (hr' _ q)
  | false => exact q
theorem p_andV (ha : pE ta σ H (.bl b)) (hb : b = true → pE tb σ H (.bl c)) : pE (mAndV ta tb) σ H (.bl (b && c)) := fun Q q => by
  refine ha _ ?_
  cases b with
  | true => exact hb rfl _ q
  | false => exact q
theorem p_orV (ha : pE ta σ H (.bl b)) (hb : b = false → pE tb σ H (.bl c)) : pE (mOrV ta tb) σ H (.bl (b || c)) := fun Q q => by
  refine ha _ ?_
  cases b with
  | true => exact q
  | false => exact hb rfl _ q
theorem p_fld {a C dx : Addr} {fs : List (Str × V)} {f : Str} (ha : pE ta σ H (.ref a)) (hH : H a = some (.ins C dx fs)) (hl : fs.lookup f = some v) (hc : Cls K C) (hn : NoAttr K C f) : pE (mFld K ta f) σ H v := fun Q q => by
  refine ha _ ?_
  show (match H a with | some (.ins C _ fs) => (match fs.lookup f with | some v => (Cls K C ∧ NoAttr K C f) ∧ Q v H | none => False) | _ => False)
  rw [hH]
  show (match fs.lookup f with | some v => (Cls K C ∧ NoAttr K C f) ∧ Q v H | none => False)
  rw [hl]
  exact ⟨⟨hc, hn⟩, q⟩
theorem p_dget {a : Addr} {kvs : List (Key × V)} {f : Str} (ha : pE ta σ H (.ref a)) (hb : pE tb σ H (.str f)) (hH : H a = some (.dK kvs)) (hl : valV kvs (.inr f) = some v) : pE (mDGet ta tb) σ H v := fun Q q => by
  refine ha _ (hb _ ?_)
  show (match H a with | some (.dK kvs) => (match valV kvs (.inr f) with | some v => Q v H | none => False) | _ => False)
  rw [hH]
  show (match valV kvs (.inr f) with | some v => Q v H | none => False)
  rw [hl]
  exact q
theorem p_if (hc : pT t σ H b) (h1 : b = true → pE ta σ H v) (h2 : b = false → pE tb σ H v) : pE (tIf t ta tb) σ H v := fun Q q => by
  refine hc _ ?_
  cases b with
  | true => exact h1 rfl Q q
  | false => exact h2 rfl Q q
theorem p_cb {r : R1} (ha : pA tl σ H vs) (hr : pC r vs H z) : pE (tCB r tl) σ H z := fun Q q => ha _ (hr Q q)
theorem p_nil : pA tNil σ H [] := fun Q q => q
theorem p_cons (ha : pE te σ H x) (hr : pA tl σ H vs) : pA (tCons te tl) σ H (x :: vs) := fun Q q => ha _ (hr _ q)
theorem p_abs : pC mAbs [.int i] H (.int (if i < 0 then -i else i)) := fun _ q => q
theorem p_max : pC mMax2 [.int i, .int j] H (.int (max i j)) := fun _ q => q
theorem p_min : pC mMin2 [.int i, .int j] H (.int (min i j)) := fun _ q => q
theorem p_intI : pC mInt [.int i] H (.int i) := fun _ q => q
theorem p_intB : pC mInt [.bl b] H (.int (if b then 1 else 0)) := fun _ q => q
theorem p_boolB : pC mBool [.bl b] H (.bl b) := fun _ q => q
theorem p_boolI : pC mBool [.int i] H (.bl (!decide (i = 0))) := fun _ q => q
theorem p_lenH {p : Addr} {xs : List V} (h : H p = some (.lst xs)) : pC (mLen K) [.ref p] H (.int (xs.length : Int)) := fun _ q => ⟨xs, .inl (SqL.of h), q⟩
theorem p_lenL {p : Addr} {xs : List V} (h : SqL K H p xs) : pC (mLen K) [.ref p] H (.int (xs.length : Int)) := fun _ q => ⟨xs, .inl h, q⟩
theorem p_lenT {p : Addr} {xs : List V} (h : SqT K H p xs) : pC (mLen K) [.ref p] H (.int (xs.length : Int)) := fun _ q => ⟨xs, .inr h, q⟩
theorem p_test (h : pE te σ H (.bl b)) : pT (mTest te) σ H b := fun Q q => h _ q
theorem p_truB (h : pE te σ H (.bl b)) : pT (mTru K te) σ H b := fun Q q => h _ q
theorem p_truI (h : pE te σ H (.int i)) : pT (mTru K te) σ H (!decide (i = 0)) := fun Q q => h _ q
theorem p_truN (h : pE te σ H .non) : pT (mTru K te) σ H false := fun Q q => h _ q
theorem p_and (ha : pT t σ H b) (hb : b = true → pT u σ H c) : pT (tAnd t u) σ H (b && c) := fun Q q => by
  refine ha _ ?_
  cases b with
  | true => exact hb rfl _ q
  | false => exact q
theorem p_or (ha : pT t σ H b) (hb : b = false → pT u σ H c) : pT (tOr t u) σ H (b || c) := fun Q q => by
  refine ha _ ?_
  cases b with
  | true => exact q
  | false => exact hb rfl _ q
theorem p_not (ha : pT t σ H b) : pT (tNot t) σ H (!b) := fun Q q => ha _ q
/-! ### a new object: the heap behind it is any that knows it and all that was known -/
def Ext (H H' : Hp) : Prop := ∀ a o, H a = some o → H' a = some o
theorem Ext.refl (H : Hp) : Ext H H := fun _ _ h => h
theorem Ext.trans {H H1 H2 : Hp} (a : Ext H H1) (b : Ext H1 H2) : Ext H H2 := fun x o h => b x o (a x o h)
theorem Ext.new {H : Hp} {p : Addr} {o : HO} (h : H p = none) : Ext H (upd H p o) := fun a u e => by rw [upd_ne (ne_of_none e h)]; exact e
def NewAt (H : Hp) (o : HO) (Q : VK) : Prop := ∀ p H', H p = none → H' p = some o → Ext H H' → Q (.ref p) H'
theorem NewAt.up {H : Hp} {o : HO} {Q : VK} (h : NewAt H o Q) : ∀ p, H p = none → Q (.ref p) (upd H p o) := fun p hp => h p _ hp upd_same (Ext.new hp)
theorem ext_get {H H' : Hp} {a : Addr} {o : HO} (e : Ext H H') (h : H a = some o) : H' a = some o := e a o h
theorem ext_l {K : PySem.W.Frag} {H H' : Hp} {a : Addr} {xs : List V} (e : Ext H H') (h : SqL K H a xs) : SqL K H' a xs := by
  rcases h with (h | ⟨o, h⟩) | h
  · exact .inl (.inl (e _ _ h))
  · exact .inl (.inr ⟨o, e _ _ h⟩)
  · exact .inr h
theorem ext_t {K : PySem.W.Frag} {H H' : Hp} {a : Addr} {xs : List V} (e : Ext H H') (h : SqT K H a xs) : SqT K H' a xs := by
  rcases h with (h | ⟨o, h⟩) | h
  · exact .inl (.inl (e _ _ h))
  · exact .inl (.inr ⟨o, e _ _ h⟩)
  · exact .inr h
/-! ### statements -/
theorem w_seq (h : s1 { D with nx := s2 D } σ H) : tSeq s1 s2 D σ H := h
theorem w_cut (h : s1 { D with nx := s2 D } σ H) : tCut s1 s2 D σ H := ⟨s2 D, h, fun _ _ h => h⟩
theorem w_mid (M : L2.St → Hp → Prop) (h : s1 { D with nx := M } σ H) (k : ∀ σ' H', M σ' H' → s2 D σ' H') : tCut s1 s2 D σ H := ⟨M, h, k⟩
theorem w_if (hc : pT t σ H b) (h1 : b = true → s1 D σ H) (h2 : b = false → s2 D σ H) : tIfS t s1 s2 D σ H := by
  refine hc _ ?_
  cases b with
  | true => exact h1 rfl
  | false => exact h2 rfl
theorem w_next (h : D.nx σ H) : tNext D σ H := h
theorem w_ret (h : pE te σ H v) (q : D.rt v H) : tRet te D σ H := h _ q
theorem w_retN (q : D.rt .non H) : tRetN D σ H := q
theorem w_asg {i : Nat} (h : pE te σ H v) (q : D.nx (σ.set i (some v)) H) : tAsg te (gName i) D σ H := h _ q
theorem w_asgC {i : Nat} {sp : Sp} (h : pA tl σ H vs) (q : sp vs H (fun v H' => D.nx (σ.set i (some v)) H') E0) : tAsg (mCall sp tl) (gName i) D σ H := h _ q
theorem w_retC {sp : Sp} (h : pA tl σ H vs) (q : sp vs H D.rt E0) : tRet (mCall sp tl) D σ H := h _ q
theorem w_dropC {sp : Sp} (h : pA tl σ H vs) (q : sp vs H (fun _ H' => D.nx σ H') E0) : tDrop (mCall sp tl) D σ H := h _ q
theorem w_ifC {sp : Sp} (h : pA tl σ H vs) (q : sp vs H (kTru K fun b H1 => if b = true then s1 D σ H1 else s2 D σ H1) E0) : tIfS (mTru K (mCall sp tl)) s1 s2 D σ H := h _ q
theorem p_truL {p : Addr} {xs : List V} (h : pE te σ H (.ref p)) (hx : H p = some (.lst xs)) : pT (mTru K te) σ H (!xs.isEmpty) := fun Q q => h _ ⟨_, .inl ⟨xs, SqL.of hx, rfl⟩, q⟩
theorem m_meth {C a dx : Addr} {fs : List (Str × V)} {m : Str} {sp : Sp} {Q : VK} (ha : pE ta σ H (.ref a)) (hH : H a = some (.ins C dx fs)) (hm : fs.lookup m = none) (h : pA tl σ H vs) (q : sp (.ref a :: vs) H Q E0) : mMeth C m sp ta tl σ H Q := by
  refine ha _ ?_
  show (match H a with | some (.ins D _ fs) => (D = C ∧ fs.lookup m = none) ∧ tl σ H fun vs H2 => sp (.ref a :: vs) H2 Q E0 | _ => False)
  rw [hH]
  exact ⟨⟨rfl, hm⟩, h _ q⟩
theorem w_sfld {C a dx : Addr} {fs : List (Str × V)} {f : Str} (hv : pE te σ H v) (ha : pE ta σ H (.ref a)) (hH : H a = some (.ins C dx fs)) (hc : Cls K C) (hn : NoAttr K C f) (hl : fs.length < 1000) (q : D.nx σ (upd H a (.ins C dx (putF f v fs)))) : mSFld K ta te f D σ H := by
  refine hv _ (ha _ ?_)
  show (match H a with | some (.ins C dx fs) => (Cls K C ∧ NoAttr K C f ∧ fs.length < 1000) ∧ D.nx σ (upd H a (.ins C dx (putF f v fs))) | _ => False)
  rw [hH]
  exact ⟨⟨hc, hn, hl⟩, q⟩
theorem w_fldaug {C a dx : Addr} {fs : List (Str × V)} {f : Str} {g : Int → Int → Int} (ha : pE ta σ H (.ref a)) (hH : H a = some (.ins C dx fs)) (hf : fs.lookup f = some (.int i)) (hv : pE te σ H (.int j)) (hc : Cls K C) (hn : NoAttr K C f) (hl : fs.length < 1000)
    (q : D.nx σ (upd H a (.ins C dx (putF f (.int (g i j)) fs)))) : mFldAug K ta te g f D σ H := by
  refine ha _ ?_
  simp only [hH, hf]
  refine ⟨⟨hc, hn⟩, hv _ ?_⟩
  simp only [hH]
  exact ⟨⟨trivial, hl⟩, q⟩
theorem w_aug {n : Nat} {g : Int → Int → Int} (h : σ[n]? = some (some (.int i))) (hv : pE te σ H (.int j)) (q : D.nx (σ.set n (some (.int (g i j)))) H) : mAug n te g D σ H := by
  unfold mAug
  simp only [h]
  exact hv _ q
theorem w_dput {a : Addr} {kvs : List (Key × V)} {f : Str} (hv : pE te σ H v) (ha : pE ta σ H (.ref a)) (hb : pE tb σ H (.str f)) (hH : H a = some (.dK kvs)) (hl : kvs.length < sizeLine) (q : D.nx σ (upd H a (.dK (putK kvs (.inr f) v)))) : mDPut ta tb te D σ H := by
  refine hv _ (ha _ (hb _ ?_))
  simp only [hH]
  exact ⟨hl, q⟩
theorem w_append {l : Addr} {xs : List V} (ha : pE ta σ H (.ref l)) (hH : H l = some (.lst xs)) (hv : pE te σ H v) (hl : xs.length < sizeLine) (q : D.nx σ (upd H l (.lst (xs ++ [v])))) : tDrop (mLM mAppend ta (tCons te tNil)) D σ H := by
  refine ha _ ?_
  simp only [hH]
  refine hv _ ?_
  show mAppend (.ref l) [v] H (fun _ H1 => D.nx σ H1)
  unfold mAppend
  simp only [hH]
  exact ⟨hl, q⟩
/-- a new tuple, a new list of values -/
theorem m_tup {Q : VK} (h : pA tl σ H vs) (hl : vs.length ≤ sizeLine) (q : NewAt H (.tup vs) Q) : tTup tl σ H Q := h _ ⟨hl, q.up⟩
theorem m_lst {Q : VK} (h : pA tl σ H vs) (hl : vs.length ≤ sizeLine) (q : NewAt H (.lst vs) Q) : tLst tl σ H Q := h _ ⟨hl, q.up⟩
theorem CMulW_of {i j : Int} (h : i.natAbs < 2 ^ 64) (h' : j.natAbs < 2 ^ 64) : CMulW i j := wide_mul h h' (by decide) (by decide) (by decide)
end
end PB

set_option maxRecDepth 100000
set_option autoImplicit false
set_option maxHeartbeats 4000000
namespace PB
open PySem PySem.Spec PyProof.Rows L2
open C8 (tCut Met Cal Mak)
/-! ### attributes and text keys by places: names and values as two lists -/
def setN : List V → Nat → V → List V
  | [], 0, v => [v]
  | [], _ + 1, _ => []
  | _ :: r, 0, v => v :: r
  | x :: r, i + 1, v => x :: setN r i v
theorem setN_length_le {vals : List V} {i : Nat} {v : V} : (setN vals i v).length ≤ vals.length + 1 := by
  induction vals generalizing i with
  | nil => cases i <;> simp [setN]
  | cons x r ih => cases i with
    | zero => simp [setN]
    | succ i => simp [setN]; exact ih
theorem lookup_z {f : Str} {v : V} : ∀ {names : List Str} {vals : List V} {i : Nat}, names.Nodup → names[i]? = some f → vals[i]? = some v → (names.zip vals).lookup f = some v
  | [], _, _, _, h, _ => by simp at h
  | _ :: _, [], _, _, _, h => by simp at h
  | n :: ns, x :: xs, 0, _, h, h' => by
    have e : n = f := by simpa using h
    have e' : x = v := by simpa using h'
    subst e e'
    simp [List.zip_cons_cons, List.lookup]
  | n :: ns, x :: xs, i + 1, nd, h, h' => by
    have h1 : ns[i]? = some f := by simpa using h
    have h2 : xs[i]? = some v := by simpa using h'
    have m : f ∈ ns := List.mem_of_getElem? h1
    have ne : ¬ f = n := fun e => (List.nodup_cons.mp nd).1 (e ▸ m)
    have hb : (f == n) = false := by simp [ne]
    rw [List.zip_cons_cons]
    simp only [List.lookup, hb]
    exact lookup_z (List.nodup_cons.mp nd).2 h1 h2
theorem lookup_none {m : Str} : ∀ {names : List Str} {vals : List V}, m ∉ names → (names.zip vals).lookup m = none
  | [], _, _ => by simp
  | _ :: _, [], _ => by simp
  | n :: ns, x :: xs, h => by
    have ne : ¬ m = n := fun e => h (e ▸ List.mem_cons_self ..)
    have hb : (m == n) = false := by simp [ne]
    rw [List.zip_cons_cons]
    simp only [List.lookup, hb]
    exact lookup_none fun q => h (List.mem_cons_of_mem _ q)
theorem put_z {f : Str} {v : V} : ∀ {names : List Str} {vals : List V} {i : Nat}, names.Nodup → names[i]? = some f → i ≤ vals.length → putF f v (names.zip vals) = names.zip (setN vals i v)
  | [], _, _, _, h, _ => by simp at h
  | n :: ns, [], 0, _, h, _ => by
    have e : n = f := by simpa using h
    subst e
    simp [putF, setN]
  | _ :: _, [], _ + 1, _, _, h => by simp at h
  | n :: ns, x :: xs, 0, _, h, _ => by
    have e : n = f := by simpa using h
    subst e
    simp [putF, setN, List.zip_cons_cons]
  | n :: ns, x :: xs, i + 1, nd, h, h' => by
    have h1 : ns[i]? = some f := by simpa using h
    have m : f ∈ ns := List.mem_of_getElem? h1
    have ne : ¬ n = f := fun e => (List.nodup_cons.mp nd).1 (e ▸ m)
    rw [List.zip_cons_cons]
    show (if n = f then _ else (n, x) :: putF f v (ns.zip xs)) = (n :: ns).zip (x :: setN xs i v)
    rw [if_neg ne, put_z (List.nodup_cons.mp nd).2 h1 (by simpa using h'), List.zip_cons_cons]
def dz (names : List Str) (vals : List V) : List (Key × V) := (names.zip vals).map fun p => (.inr p.1, p.2)
theorem dz_nil {names : List Str} : dz names [] = [] := by cases names <;> rfl
theorem dz_cons {n : Str} {ns : List Str} {x : V} {xs : List V} : dz (n :: ns) (x :: xs) = (.inr n, x) :: dz ns xs := rfl
theorem dz_len {names : List Str} {vals : List V} : (dz names vals).length ≤ names.length := by simp [dz]; omega
theorem valV_z {f : Str} {v : V} : ∀ {names : List Str} {vals : List V} {i : Nat}, names.Nodup → names[i]? = some f → vals[i]? = some v → valV (dz names vals) (.inr f) = some v
  | [], _, _, _, h, _ => by simp at h
  | _ :: _, [], _, _, _, h => by simp at h
  | n :: ns, x :: xs, 0, _, h, h' => by
    have e : n = f := by simpa using h
    have e' : x = v := by simpa using h'
    subst e e'
    rw [dz_cons]
    exact valV_pos rfl
  | n :: ns, x :: xs, i + 1, nd, h, h' => by
    have h1 : ns[i]? = some f := by simpa using h
    have h2 : xs[i]? = some v := by simpa using h'
    have m : f ∈ ns := List.mem_of_getElem? h1
    have ne : ¬ n = f := fun e => (List.nodup_cons.mp nd).1 (e ▸ m)
    rw [dz_cons, valV_neg (fun e => ne (Sum.inr.inj e))]
    exact valV_z (List.nodup_cons.mp nd).2 h1 h2
theorem putK_cons_ne {n f : Str} {x v : V} {r : List (Key × V)} (h : ¬ n = f) : putK ((.inr n, x) :: r) (.inr f : Key) v = (.inr n, x) :: putK r (.inr f) v := by
  have e : ¬ ((.inr n : Key) = .inr f) := fun e => h (Sum.inr.inj e)
  unfold putK
  simp only [List.any_cons, decide_eq_false e, Bool.false_or, List.map_cons, if_neg e]
  split
  · rfl
  · rfl
theorem putK_cons_eq {n : Str} {x v : V} {r : List (Key × V)} (h : ∀ p ∈ r, p.1 ≠ .inr n) : putK ((.inr n, x) :: r) (.inr n : Key) v = (.inr n, v) :: r := by
  unfold putK
  simp only [List.any_cons, decide_true, Bool.true_or, if_true, List.map_cons]
  congr 1
  refine (List.map_congr_left fun p hp => ?_).trans (List.map_id _)
  simp [if_neg (h p hp)]
theorem putK_z {f : Str} {v : V} : ∀ {names : List Str} {vals : List V} {i : Nat}, names.Nodup → names[i]? = some f → i ≤ vals.length → putK (dz names vals) (.inr f) v = dz names (setN vals i v)
  | [], _, _, _, h, _ => by simp at h
  | n :: ns, [], 0, _, h, _ => by
    have e : n = f := by simpa using h
    subst e
    rw [dz_nil]
    simp [putK, setN, dz]
  | _ :: _, [], _ + 1, _, _, h => by simp at h
  | n :: ns, x :: xs, 0, nd, h, _ => by
    have e : n = f := by simpa using h
    subst e
    rw [dz_cons]
    refine putK_cons_eq fun p hp q => ?_
    simp only [dz, List.mem_map] at hp
    obtain ⟨z, hz, rfl⟩ := hp
    have := (List.of_mem_zip hz).1
    have e2 : z.1 = n := Sum.inr.inj q
    exact (List.nodup_cons.mp nd).1 (e2 ▸ this)
  | n :: ns, x :: xs, i + 1, nd, h, h' => by
    have h1 : ns[i]? = some f := by simpa using h
    have m : f ∈ ns := List.mem_of_getElem? h1
    have ne : ¬ n = f := fun e => (List.nodup_cons.mp nd).1 (e ▸ m)
    rw [dz_cons, putK_cons_ne ne, putK_z (List.nodup_cons.mp nd).2 h1 (by simpa using h')]
    rfl
/-! ### readings -/
def oFld (C : Addr) (names : List Str) (i : Nat) (ta : TE) : TE := fun σ H Q => ta σ H fun x H1 => ∃ a dx vals v, x = .ref a ∧ H1 a = some (.ins C dx (names.zip vals)) ∧ vals[i]? = some v ∧ Q v H1
def oSet (C : Addr) (names : List Str) (i : Nat) (ta tv : TE) : TS := fun D σ H => tv σ H fun y H1 => ta σ H1 fun x H2 => ∃ a dx vals, x = .ref a ∧ H2 a = some (.ins C dx (names.zip vals)) ∧ i ≤ vals.length ∧
  D.nx σ (upd H2 a (.ins C dx (names.zip (setN vals i y))))
def oAug (C : Addr) (names : List Str) (i : Nat) (ta tv : TE) (g : Int → Int → Int) : TS := fun D σ H => ta σ H fun x H1 => ∃ a dx vals n, x = .ref a ∧ H1 a = some (.ins C dx (names.zip vals)) ∧ vals[i]? = some (.int n) ∧
  tv σ H1 fun y H2 => ∃ m dx' vals', y = .int m ∧ H2 a = some (.ins C dx' (names.zip vals')) ∧ i ≤ vals'.length ∧ D.nx σ (upd H2 a (.ins C dx' (names.zip (setN vals' i (.int (g n m))))))
def oMeth (C : Addr) (names : List Str) (sp : Sp) (ta : TE) (t : TA) : TE := fun σ H Q => ta σ H fun x H1 => ∃ a dx vals, x = .ref a ∧ H1 a = some (.ins C dx (names.zip vals)) ∧ t σ H1 fun vs H2 => sp (.ref a :: vs) H2 Q E0
def dGet (names : List Str) (i : Nat) (ta : TE) : TE := fun σ H Q => ta σ H fun x H1 => ∃ a vals v, x = .ref a ∧ H1 a = some (.dK (dz names vals)) ∧ vals[i]? = some v ∧ Q v H1
def dSet (names : List Str) (i : Nat) (ta tv : TE) : TS := fun D σ H => tv σ H fun y H1 => ta σ H1 fun x H2 => ∃ a vals, x = .ref a ∧ H2 a = some (.dK (dz names vals)) ∧ i ≤ vals.length ∧
  D.nx σ (upd H2 a (.dK (dz names (setN vals i y))))
section
variable {X : Cx} {e a b c o value : Expr} {es : List Expr} {ta tb tc tv : TE} {t : TA} {pos pos' pos2 apos cpos tpos : Pos} {x f m : Str} {C : Addr} {names : List Str} {i : Nat}
theorem pe_ofld (cl : Cls X.K C) (na : NoAttr X.K C f) (nd : names.Nodup) (hi : names[i]? = some f) (ha : PE X a ta) (hb : attributeBase a f X.env (eval a X.env) = eval a X.env) : PE X (.Attribute a f pos) (oFld C names i ta) := by
  refine ⟨fun pins s σ H Q I h => ?_⟩
  refine attr_of hb (thn (ha.run pins s σ H _ I h) fun u s1 ⟨x, H1, I1, rx, p, dx, vals, v, e, ea, hv, q⟩ => ?_)
  subst e
  obtain rfl : u = Value.ref p := rx
  exact getattr_ok I1 ea cl na (lookup_z nd hi hv) fun u' s2 I2 ru => ⟨v, H1, I2, ru, q⟩
theorem ps_oset (cl : Cls X.K C) (na : NoAttr X.K C f) (nd : names.Nodup) (hi : names[i]? = some f) (hl : names.length < 1000) (ha : PE X o ta) (hv : PE X value tv) (hs : swapsWith value (some (.Attribute o f pos')) pos.line X.env = pure false) :
    PS X (.Assign [.Attribute o f pos'] value pos) (oSet C names i ta tv) := by
  refine ⟨fun pins s σ H D I h => ?_⟩
  refine plainObj_wpAny_Assign_Attribute (thn (hv.run pins s σ H _ I h) fun u s1 ⟨y, H1, I1, ry, q⟩ => thn (ha.run pins s1 σ H1 _ I1 q) fun ov s2 ⟨x, H2, I2, rx, p, dx, vals, e, ea, hle, q2⟩ => ?_) hs
  subst e
  obtain rfl : ov = Value.ref p := rx
  refine setattr_ok I2 ea cl na (by simp; omega) ry fun s3 I3 => ⟨σ, _, I3, ?_⟩
  rw [put_z nd hi hle]
  exact q2
theorem ps_oaug {op : Operator} {g : Int → Int → Int} (h : InOp X op (fun x y H Q => ∃ i j, x = .int i ∧ y = .int j ∧ Q (.int (g i j)) H)) (cl : Cls X.K C) (na : NoAttr X.K C f) (nd : names.Nodup) (hi : names[i]? = some f) (hl : names.length < 1000)
    (ha : PE X o ta) (hv : PE X value tv) : PS X (.AugAssign (.Attribute o f tpos) op value pos) (oAug C names i ta tv g) := by
  refine ⟨fun pins s σ H D I h' => ?_⟩
  refine wpAny_AugAssign_AttributeAny (thn (ha.run pins s σ H _ I h') fun ov s1 ⟨x, H1, I1, rx, p, dx, vals, n, e, ea, hn, q⟩ => ?_)
  subst e
  obtain rfl : ov = Value.ref p := rx
  refine getattr_ok I1 ea cl na (lookup_z nd hi hn) fun u s2 I2 ru => thn (hv.run pins s2 σ H1 _ I2 q) fun w3 s3 ⟨y, H2, I3, ry, k, dx', vals', e2, ea', hle, q3⟩ => ?_
  subst e2
  refine thn (h pins s3 σ H2 _ _ u w3 (fun z H3 => z = .int (g n k) ∧ H3 = H2) I3 ru ry ⟨_, _, rfl, rfl, rfl, rfl⟩) fun w4 s4 ⟨z, H3, I4, rz, e1, e2⟩ => ?_
  subst e1 e2
  refine setattr_ok I4 ea' cl na (by simp; omega) rz fun s5 I5 => ⟨σ, _, I5, ?_⟩
  rw [put_z nd hi hle]
  exact q3
theorem nest {α : Prop} (h : α) : α := h
theorem pe_omt {sp : Sp} {j k : Nat} {pl : Sem Bool} (c : Met X.prog X.w X.K X.mg X.base k C m sp []) (hr : Room j X.A) (hk : k ≤ j) (hno : m ∉ names) (he : PE X o ta) (ha : PA X (e :: es) t)
    (hst : starEach (e :: es) X.env = (false, eval e X.env) :: starEach es X.env := by rfl) (hpl : (backTo pos (starEach es X.env)).any (·.1) = false := by rfl)
    (ht : eval (.Call (.Attribute o m apos) (e :: es) [] pos) X.env = (do
      let ov ← eval o X.env
      standAt apos.atName
      let (f, first) ← holding [ov] (getMethod ov m pl)
      callWith pos f first (backTo pos (starEach (e :: es) X.env)) (backToKw pos (keywordEach [] X.env))) := by rfl) :
    PE X (.Call (.Attribute o m apos) (e :: es) [] pos) (oMeth C names sp ta t) := by
  obtain ⟨g, fd, ps, ds, hc, hm, F, b, d⟩ := c.ex
  refine ⟨fun pins s σ H Q I h => ?_⟩
  refine PySem.W.methodCall_KW (pl := pl) (thn (he.run pins s σ H _ I h) fun u s1 ⟨x, H1, I1, rx, p, dx, vals, ex, ea, q⟩ => ?_) ht
  subst ex
  obtain rfl : u = Value.ref p := rx
  refine getmeth_ok I1 ea hc hm (lookup_none hno) ?_
  refine PySem.W.callWith_K (first := [.ref p]) (h₀ := X.base) I.ok.mod.kin hm.kp (thn (ha.run pos pins s1 σ H1 _ I1 q) fun us s2 ⟨vs, H2, I2, r, q2⟩ => ⟨I2.kIn, ?_⟩) hst hpl
  refine run_fn (E := L2.E0) (us := .ref p :: us) (vs := .ref p :: vs) F (hr.mono hk) b d pass0 I2 (.cons rfl r) ?_
  rw [List.append_nil]
  exact q2
theorem pe_omt0 {sp : Sp} {j k : Nat} {pl : Sem Bool} (c : Met X.prog X.w X.K X.mg X.base k C m sp []) (hr : Room j X.A) (hk : k ≤ j) (hno : m ∉ names) (he : PE X o ta)
    (ht : eval (.Call (.Attribute o m apos) [] [] pos) X.env = (do
      let ov ← eval o X.env
      standAt apos.atName
      let (f, first) ← holding [ov] (getMethod ov m pl)
      callWith pos f first (backTo pos (starEach [] X.env)) (backToKw pos (keywordEach [] X.env))) := by rfl) :
    PE X (.Call (.Attribute o m apos) [] [] pos) (oMeth C names sp ta tNil) := by
  obtain ⟨g, fd, ps, ds, hc, hm, F, b, d⟩ := c.ex
  refine ⟨fun pins s σ H Q I h => ?_⟩
  refine PySem.W.methodCall_KW (pl := pl) (thn (he.run pins s σ H _ I h) fun u s1 ⟨x, H1, I1, rx, p, dx, vals, ex, ea, q⟩ => ?_) ht
  subst ex
  obtain rfl : u = Value.ref p := rx
  refine getmeth_ok I1 ea hc hm (lookup_none hno) ?_
  refine PySem.W.callWith_K0 (first := [.ref p]) I1.kIn hm.kp (run_fn (E := L2.E0) (us := [.ref p]) (vs := [.ref p]) F (hr.mono hk) b d pass0 I1 (.cons rfl .nil) ?_)
  exact q
theorem pe_dgetz (hu : X.A.units + 1 < cLine) (nd : names.Nodup) (hi : names[i]? = some x) (ho : PE X o ta) (hs : NoSl (.Constant (.str x) 0 pos2)) : PE X (.Subscript o (.Constant (.str x) 0 pos2) pos) (dGet names i ta) := by
  refine ⟨fun pins s σ H Q I h => ?_⟩
  refine subD_of PySem.F.slot_dict_getitem.lookup hs (thn (ho.run pins s σ H _ I h) fun u s1 ⟨z, H1, I1, rx, p, vals, v, e, ea, hv, q⟩ => thn ((pe_str (X := X) (x := x)).run pins s1 σ H1 (fun y H2 => y = .str x ∧ H2 = H1) I1 ⟨rfl, rfl⟩) fun iv s2 ⟨y, H2, I2, ry, e2, e3⟩ => ?_)
  subst e e2 e3
  obtain rfl : u = Value.ref p := rx
  have g : DGet H2 p (.str x) (some v) := by rw [← valV_z nd hi hv]; exact DGet.k (k := Sum.inr x) ea
  exact ⟨dict_typeIs I2 g, d_getItem hu I2 g ry fun w' s3 I3 rw' => ⟨v, H2, I3, rw', q⟩⟩
theorem ps_dsetz (hu : X.A.units + 1 < cLine) (nd : names.Nodup) (hi : names[i]? = some x) (hl : names.length < sizeLine) (ho : PE X o ta) (hv : PE X value tv)
    (hs : swapsWith value (some (.Subscript o (.Constant (.str x) 0 pos2) pos')) pos.line X.env = pure false) : PS X (.Assign [.Subscript o (.Constant (.str x) 0 pos2) pos'] value pos) (dSet names i ta tv) := by
  refine ⟨fun pins s σ H D I h => ?_⟩
  refine wpAny_Assign_Subscript (thn (hv.run pins s σ H _ I h) fun r s1 ⟨v, H1, I1, rv, q1⟩ => thn (ho.run pins s1 σ H1 _ I1 q1) fun u s2 ⟨z, H2, I2, rx, p, vals, e, ea, hle, q⟩ =>
    thn ((pe_str (X := X) (x := x)).run pins s2 σ H2 (fun y H3 => y = .str x ∧ H3 = H2) I2 ⟨rfl, rfl⟩) fun iv s3 ⟨y, H3, I3, ry, e2, e3⟩ => ?_) hs
  subst e e2 e3
  obtain rfl : u = Value.ref p := rx
  refine d_setItem hu I3 (DPut.k (k := Sum.inr x) ea (Nat.lt_of_le_of_lt dz_len hl)) ry rv fun s4 I4 => ⟨σ, _, I4, ?_⟩
  rw [putK_z nd hi hle]
  exact q
end
/-! ### their use -/
section
variable {K : PySem.W.Frag} {σ : L2.St} {H : Hp} {ta tb tc te : TE} {x y z v : V} {D : Ends} {tl : TA} {vs : List V} {C p dx : Addr} {names : List Str} {vals : List V} {i : Nat}
theorem p_ofld (ha : pE ta σ H (.ref p)) (hH : H p = some (.ins C dx (names.zip vals))) (hv : vals[i]? = some v) : pE (oFld C names i ta) σ H v := fun Q q => ha _ ⟨p, dx, vals, v, rfl, hH, hv, q⟩
theorem w_oset (hv : pE te σ H v) (ha : pE ta σ H (.ref p)) (hH : H p = some (.ins C dx (names.zip vals))) (hi : i ≤ vals.length) (q : D.nx σ (upd H p (.ins C dx (names.zip (setN vals i v))))) : oSet C names i ta te D σ H :=
  hv _ (ha _ ⟨p, dx, vals, rfl, hH, hi, q⟩)
/-- the object was stored last -/
theorem w_oset2 {H0 : Hp} (hv : pE te σ (upd H0 p (.ins C dx (names.zip vals))) v) (ha : pE ta σ (upd H0 p (.ins C dx (names.zip vals))) (.ref p)) (hi : i ≤ vals.length) (q : D.nx σ (upd H0 p (.ins C dx (names.zip (setN vals i v))))) :
    oSet C names i ta te D σ (upd H0 p (.ins C dx (names.zip vals))) := hv _ (ha _ ⟨p, dx, vals, rfl, upd_same, hi, by rw [upd_upd]; exact q⟩)
theorem w_oaug {g : Int → Int → Int} {n m : Int} (ha : pE ta σ H (.ref p)) (hH : H p = some (.ins C dx (names.zip vals))) (hn : vals[i]? = some (.int n)) (hv : pE te σ H (.int m)) (q : D.nx σ (upd H p (.ins C dx (names.zip (setN vals i (.int (g n m))))))) : oAug C names i ta te g D σ H :=
  ha _ ⟨p, dx, vals, n, rfl, hH, hn, hv _ ⟨m, dx, vals, rfl, hH, Nat.le_of_lt (List.getElem?_eq_some_iff.mp hn).1, q⟩⟩
theorem w_oaug2 {H0 : Hp} {g : Int → Int → Int} {n m : Int} (ha : pE ta σ (upd H0 p (.ins C dx (names.zip vals))) (.ref p)) (hn : vals[i]? = some (.int n)) (hv : pE te σ (upd H0 p (.ins C dx (names.zip vals))) (.int m))
    (q : D.nx σ (upd H0 p (.ins C dx (names.zip (setN vals i (.int (g n m))))))) : oAug C names i ta te g D σ (upd H0 p (.ins C dx (names.zip vals))) :=
  ha _ ⟨p, dx, vals, n, rfl, upd_same, hn, hv _ ⟨m, dx, vals, rfl, upd_same, Nat.le_of_lt (List.getElem?_eq_some_iff.mp hn).1, by rw [upd_upd]; exact q⟩⟩
theorem m_ometh {sp : Sp} {Q : VK} (ha : pE ta σ H (.ref p)) (hH : H p = some (.ins C dx (names.zip vals))) (h : pA tl σ H vs) (q : sp (.ref p :: vs) H Q E0) : oMeth C names sp ta tl σ H Q := ha _ ⟨p, dx, vals, rfl, hH, h _ q⟩
theorem p_dgetz (ha : pE ta σ H (.ref p)) (hH : H p = some (.dK (dz names vals))) (hv : vals[i]? = some v) : pE (dGet names i ta) σ H v := fun Q q => ha _ ⟨p, vals, v, rfl, hH, hv, q⟩
theorem w_dset (hv : pE te σ H v) (ha : pE ta σ H (.ref p)) (hH : H p = some (.dK (dz names vals))) (hi : i ≤ vals.length) (q : D.nx σ (upd H p (.dK (dz names (setN vals i v))))) : dSet names i ta te D σ H :=
  hv _ (ha _ ⟨p, vals, rfl, hH, hi, q⟩)
theorem w_dset2 {H0 : Hp} (hv : pE te σ (upd H0 p (.dK (dz names vals))) v) (ha : pE ta σ (upd H0 p (.dK (dz names vals))) (.ref p)) (hi : i ≤ vals.length) (q : D.nx σ (upd H0 p (.dK (dz names (setN vals i v))))) :
    dSet names i ta te D σ (upd H0 p (.dK (dz names vals))) := hv _ (ha _ ⟨p, vals, rfl, upd_same, hi, by rw [upd_upd]; exact q⟩)
theorem w_retM {C' : Addr} {sp : Sp} (ha : pE ta σ H (.ref p)) (hH : H p = some (.ins C' dx (names.zip vals))) (h : pA tl σ H vs) (q : sp (.ref p :: vs) H D.rt E0) : tRet (oMeth C' names sp ta tl) D σ H := m_ometh ha hH h q
theorem w_asgM {C' : Addr} {sp : Sp} {n : Nat} (ha : pE ta σ H (.ref p)) (hH : H p = some (.ins C' dx (names.zip vals))) (h : pA tl σ H vs) (q : sp (.ref p :: vs) H (fun v H' => D.nx (σ.set n (some v)) H') E0) : tAsg (oMeth C' names sp ta tl) (gName n) D σ H := m_ometh ha hH h q
theorem w_dropM {C' : Addr} {sp : Sp} (ha : pE ta σ H (.ref p)) (hH : H p = some (.ins C' dx (names.zip vals))) (h : pA tl σ H vs) (q : sp (.ref p :: vs) H (fun _ H' => D.nx σ H') E0) : tDrop (oMeth C' names sp ta tl) D σ H := m_ometh ha hH h q
theorem w_retT (h : pA tl σ H vs) (hl : vs.length ≤ sizeLine) (q : NewAt H (.tup vs) D.rt) : tRet (tTup tl) D σ H := m_tup h hl q
theorem w_retL (h : pA tl σ H vs) (hl : vs.length ≤ sizeLine) (q : NewAt H (.lst vs) D.rt) : tRet (tLst tl) D σ H := m_lst h hl q
theorem w_asgL {n : Nat} (h : pA tl σ H vs) (hl : vs.length ≤ sizeLine) (q : NewAt H (.lst vs) fun v H1 => D.nx (σ.set n (some v)) H1) : tAsg (tLst tl) (gName n) D σ H := m_lst h hl q
theorem w_asgT {n : Nat} (h : pA tl σ H vs) (hl : vs.length ≤ sizeLine) (q : NewAt H (.tup vs) fun v H1 => D.nx (σ.set n (some v)) H1) : tAsg (tTup tl) (gName n) D σ H := m_tup h hl q
theorem get_ne {H : Hp} {a b : Addr} {o : HO} {r : Option HO} (h : b ≠ a) (q : H b = r) : upd H a o b = r := by rw [upd_ne h]; exact q
end
end PB
namespace PB
open PySem PySem.Spec PyProof.Rows L2
theorem sz_lt {n : Nat} (h : n < 10000000) : n < sizeLine := Nat.lt_of_lt_of_le h (by decide)
theorem szle {n : Nat} (h : Nat.ble n 1000 = true) : n ≤ sizeLine := Nat.le_trans (Nat.le_of_ble_eq_true h) (by decide)
def pSp (sp : Sp) (vs : List V) (H : Hp) (v : V) : Prop := ∀ Q : VK, Q v H → sp vs H Q E0
theorem p_call {sp : Sp} {tl : TA} {σ : L2.St} {H : Hp} {vs : List V} {v : V} (ha : pA tl σ H vs) (h : pSp sp vs H v) : pE (mCall sp tl) σ H v := fun Q q => ha _ (h Q q)
end PB

namespace PB
open PySem PySem.Spec PyProof.Rows L2
open C8 (tCut)
/-! ### what makes objects on its way: from the left, with what follows -/
section
variable {K : PySem.W.Frag} {σ : L2.St} {H : Hp} {ta tb tc te : TE} {t u : TT} {x y z v : V} {r r' : R2} {i j : Int} {b c : Bool} {D : Ends} {s1 s2 : TS} {tl : TA} {vs : List V} {Q : VK} {QA : List V → Hp → Prop} {QT : Bool → Hp → Prop} {C p dx : Addr} {names : List Str} {vals xs ys : List V}
theorem k_pure (h : pE te σ H v) (q : Q v H) : te σ H Q := h _ q
theorem k_pureA (h : pA tl σ H vs) (q : QA vs H) : tl σ H QA := h _ q
theorem k_pureT (h : pT t σ H b) (q : QT b H) : t σ H QT := h _ q
theorem k_op (h : ta σ H fun x H1 => tb σ H1 fun y H2 => r x y H2 Q) : tOp r ta tb σ H Q := h
theorem k_cb {r : R1} (h : tl σ H fun vs H1 => r vs H1 Q) : tCB r tl σ H Q := h
theorem k_nil (h : QA [] H) : tNil σ H QA := h
theorem k_consP (h : pE te σ H x) (q : tl σ H fun xs H2 => QA (x :: xs) H2) : tCons te tl σ H QA := h _ q
theorem k_cons (h : te σ H fun x H1 => tl σ H1 fun xs H2 => QA (x :: xs) H2) : tCons te tl σ H QA := h
theorem k_tupP (h : pA tl σ H vs) (hl : vs.length ≤ sizeLine) (q : NewAt H (.tup vs) Q) : tTup tl σ H Q := h _ ⟨hl, q.up⟩
def kNewT (Q : VK) : List V → Hp → Prop := fun vs H1 => vs.length ≤ sizeLine ∧ ∀ p, H1 p = none → Q (.ref p) (upd H1 p (.tup vs))
def kNewL (Q : VK) : List V → Hp → Prop := fun vs H1 => vs.length ≤ sizeLine ∧ ∀ p, H1 p = none → Q (.ref p) (upd H1 p (.lst vs))
theorem k_newT (hl : vs.length ≤ sizeLine) (q : NewAt H (.tup vs) Q) : kNewT Q vs H := ⟨hl, q.up⟩
theorem k_newL (hl : vs.length ≤ sizeLine) (q : NewAt H (.lst vs) Q) : kNewL Q vs H := ⟨hl, q.up⟩
theorem k_tup (h : tl σ H (kNewT Q)) : tTup tl σ H Q := h
theorem k_lstP (h : pA tl σ H vs) (hl : vs.length ≤ sizeLine) (q : NewAt H (.lst vs) Q) : tLst tl σ H Q := h _ ⟨hl, q.up⟩
theorem k_lst (h : tl σ H (kNewL Q)) : tLst tl σ H Q := h
theorem k_call {sp : Sp} (h : pA tl σ H vs) (q : sp vs H Q E0) : mCall sp tl σ H Q := h _ q
theorem k_callK {sp : Sp} (h : tl σ H fun vs H1 => sp vs H1 Q E0) : mCall sp tl σ H Q := h
theorem k_meth {sp : Sp} (ha : pE ta σ H (.ref p)) (hH : H p = some (.ins C dx (names.zip vals))) (h : pA tl σ H vs) (q : sp (.ref p :: vs) H Q E0) : oMeth C names sp ta tl σ H Q := m_ometh ha hH h q
theorem k_tupleOf (hx : H p = some (.lst xs)) (q : NewAt H (.tup xs) Q) : mTup K [.ref p] H Q := ⟨xs, .inl ⟨SqL.of hx, q.up⟩⟩
theorem k_listOf (hx : H p = some (.lst xs)) (q : NewAt H (.lst xs) Q) : mList K [.ref p] H Q := ⟨xs, .inl (SqL.of hx), q.up⟩
theorem k_listOfL (hx : SqL K H p xs) (q : NewAt H (.lst xs) Q) : mList K [.ref p] H Q := ⟨xs, .inl hx, q.up⟩
theorem k_cat {a b : Addr} (hx : H a = some (.lst xs)) (hy : H b = some (.lst ys)) (hl : xs.length + ys.length ≤ sizeLine) (q : NewAt H (.lst (xs ++ ys)) Q) : mAdd K (.ref a) (.ref b) H Q := .inl ⟨a, b, xs, ys, rfl, rfl, hx, hy, hl, q.up⟩
theorem k_slP {hi lo : TO} (h : pE te σ H v) (q : lo σ H fun l H2 => hi σ H2 fun u H3 => mSl K v l u H3 Q) : tSl (mSl K) te lo hi σ H Q := h _ q
theorem k_part {R : Option Int → Hp → Prop} (h : pE te σ H (.int i)) (q : R (some i) H) : mPart te σ H R := h _ q
theorem k_noPart {R : Option Int → Hp → Prop} (q : R none H) : tNoPart σ H R := q
theorem k_slL {a : Addr} {lo hi : Option Int} (hx : H a = some (.lst xs)) (q : NewAt H (.lst (cutV xs lo hi)) Q) : mSl K (.ref a) lo hi H Q := .inl ⟨a, xs, rfl, SqL.of hx, q.up⟩
theorem k_slLs {a : Addr} {lo hi : Option Int} (hx : SqL K H a xs) (q : NewAt H (.lst (cutV xs lo hi)) Q) : mSl K (.ref a) lo hi H Q := .inl ⟨a, xs, rfl, hx, q.up⟩
theorem w_asgK {n : Nat} (h : te σ H fun v H1 => D.nx (σ.set n (some v)) H1) : tAsg te (gName n) D σ H := h
theorem w_retK (h : te σ H D.rt) : tRet te D σ H := h
theorem w_dropK (h : te σ H fun _ H1 => D.nx σ H1) : tDrop te D σ H := h
theorem w_osetK {n : Nat} (h : te σ H fun v H1 => oSet C names n ta (tC v) D σ H1) : oSet C names n ta te D σ H := h
theorem w_dsetK {n : Nat} (h : te σ H fun v H1 => dSet names n ta (tC v) D σ H1) : dSet names n ta te D σ H := h
theorem w_appendT {l : Addr} (ha : pE ta σ H (.ref l)) (hH : H l = some (.lst xs)) (hv : pA tl σ H vs) (hs : vs.length ≤ sizeLine) (hl : xs.length < sizeLine) (q : NewAt H (.tup vs) fun v H1 => D.nx σ (upd H1 l (.lst (xs ++ [v])))) : tDrop (mLM mAppend ta (tCons (tTup tl) tNil)) D σ H := by
  refine ha _ ?_
  simp only [hH]
  refine hv _ ⟨hs, fun p hp => ?_⟩
  show mAppend (.ref l) [.ref p] (upd H p (.tup vs)) (fun _ H1 => D.nx σ H1)
  unfold mAppend
  simp only [upd_ne (ne_of_none hH hp), hH]
  exact ⟨hl, q.up p hp⟩
theorem k_testK {t : TE} (h : t σ H (kTest QT)) : mTest t σ H QT := h
theorem k_kTest (h : QT b H) : kTest QT (.bl b) H := h
theorem k_kTru (h : QT b H) : kTru K QT (.bl b) H := h
theorem k_kTruI (h : QT (!decide (i = 0)) H) : kTru K QT (.int i) H := h
theorem k_kTruN (h : QT false H) : kTru K QT .non H := h
def kIf (s1 s2 : TS) (D : Ends) (σ : L2.St) : Bool → Hp → Prop := fun b H1 => if b = true then s1 D σ H1 else s2 D σ H1
theorem w_ifK (h : t σ H (kIf s1 s2 D σ)) : tIfS t s1 s2 D σ H := h
theorem k_kIf (h1 : b = true → s1 D σ H) (h2 : b = false → s2 D σ H) : kIf s1 s2 D σ b H := by
  unfold kIf
  cases b with
  | true => exact h1 rfl
  | false => exact h2 rfl
theorem inV_ints {i : Int} : ∀ ns : List Int, inV (.int i) (ns.map V.int) = decide (i ∈ ns)
  | [] => by simp [inV]
  | n :: ns => by
    have ih := inV_ints (i := i) ns
    simp only [inV, List.map_cons, List.any_cons] at ih ⊢
    rw [ih]
    have e : eqV (.int n) (.int i) = decide (i = n) := by
      show (n == i) = decide (i = n)
      by_cases h : i = n
      · subst h; simp
      · have h' : ¬ n = i := fun z => h z.symm
        simp [h, h']
    rw [e]
    simp [List.mem_cons, Bool.decide_or]
theorem flat_ints : ∀ ns : List Int, (ns.map V.int).all flatV = true
  | [] => rfl
  | n :: ns => by simp [flatV]
def intsL : List V → List Int
  | [] => []
  | .int i :: r => i :: intsL r
  | _ :: r => 0 :: intsL r
theorem intsL_map : ∀ ns : List Int, intsL (ns.map V.int) = ns
  | [] => rfl
  | n :: ns => congrArg (n :: ·) (intsL_map ns)
theorem k_inU (hx : H p = some (.tup xs)) (e : (intsL xs).map V.int = xs) (q : Q (.bl (decide (i ∈ intsL xs))) H) : mIn K (.int i) (.ref p) H Q := .inl ⟨p, _, rfl, .inr (SqT.of hx), rfl, e ▸ flat_ints _, by rw [← e, inV_ints]; exact q⟩
theorem k_inL (hx : H p = some (.lst xs)) (e : (intsL xs).map V.int = xs) (q : Q (.bl (decide (i ∈ intsL xs))) H) : mIn K (.int i) (.ref p) H Q := .inl ⟨p, _, rfl, .inl (SqL.of hx), rfl, e ▸ flat_ints _, by rw [← e, inV_ints]; exact q⟩
theorem k_notInL (hx : H p = some (.lst xs)) (e : (intsL xs).map V.int = xs) (q : Q (.bl (!decide (i ∈ intsL xs))) H) : mNotIn K (.int i) (.ref p) H Q := .inl ⟨p, _, rfl, .inl (SqL.of hx), rfl, e ▸ flat_ints _, by rw [← e, inV_ints]; exact q⟩
theorem p_inL {ns : List Int} (hx : H p = some (.lst (ns.map V.int))) : pR (mIn K) (.int i) (.ref p) H (.bl (decide (i ∈ ns))) := fun _ q => k_inL hx (by rw [intsL_map]) (by rw [intsL_map]; exact q)
theorem p_notInL {ns : List Int} (hx : H p = some (.lst (ns.map V.int))) : pR (mNotIn K) (.int i) (.ref p) H (.bl (!decide (i ∈ ns))) := fun _ q => k_notInL hx (by rw [intsL_map]) (by rw [intsL_map]; exact q)
theorem k_truK {t : TE} (h : t σ H (kTru K QT)) : mTru K t σ H QT := h
end
end PB
namespace PB
open PySem PySem.Spec PyProof.Rows L2
theorem ne_fresh {H : Hp} {a b : Addr} {o : HO} (h' : H b = none) (h : H a = some o) : a ≠ b := ne_of_none h h'
end PB

set_option maxRecDepth 100000
set_option autoImplicit false
set_option maxHeartbeats 4000000
namespace PB
open PySem PySem.Spec PyProof.Rows L2
theorem sz_le {n : Nat} (h : n ≤ 10000000) : n ≤ sizeLine := Nat.le_trans h (by decide)
/-! ### slices by places that are not negative -/
theorem sIx_some {n d : Nat} {i : Int} (h : 0 ≤ i) : HT.sIx n d (some i) = min i.toNat n := by
  show (if i < 0 then (i + (n : Int)).toNat else min i.toNat n) = min i.toNat n
  rw [if_neg (by omega)]
theorem cut_all {xs : List V} : cutV xs none none = xs := by
  unfold cutV
  simp [HT.sIx_none]
theorem cut_to {xs : List V} {i : Int} (h : 0 ≤ i) : cutV xs none (some i) = xs.take i.toNat := by
  unfold cutV
  rw [HT.sIx_none, sIx_some h, List.drop_zero, Nat.sub_zero, List.take_eq_take_iff]
  omega
theorem cut_from {xs : List V} {i : Int} (h : 0 ≤ i) : cutV xs (some i) none = xs.drop i.toNat := by
  unfold cutV
  rw [HT.sIx_none, sIx_some h]
  by_cases c : i.toNat ≤ xs.length
  · rw [Nat.min_eq_left c, List.take_of_length_le (by rw [List.length_drop]; omega)]
  · have e : min i.toNat xs.length = xs.length := by omega
    rw [e, List.drop_length, List.drop_eq_nil_of_le (by omega)]
    simp
theorem cut_mid {xs : List V} {i j : Int} (h : 0 ≤ i) (h' : 0 ≤ j) : cutV xs (some i) (some j) = (xs.drop i.toNat).take (j.toNat - i.toNat) := by
  unfold cutV
  rw [sIx_some h, sIx_some h']
  by_cases c : i.toNat ≤ xs.length
  · rw [Nat.min_eq_left c, List.take_eq_take_iff, List.length_drop]
    omega
  · have e : min i.toNat xs.length = xs.length := by omega
    rw [e, List.drop_length, List.drop_eq_nil_of_le (by omega)]
    simp
/-! ### or, and with a part that makes objects -/
section
variable {K : PySem.W.Frag} {σ : L2.St} {H : Hp} {ta tb tc te tl : TE} {t u tt : TT} {b c : Bool} {QT : Bool → Hp → Prop} {Q : VK} {g : TG} {vs : List Nat} {D : Ends} {tb' : TS}
theorem k_orP (ha : pT t σ H b) (h1 : b = true → QT true H) (h2 : b = false → u σ H QT) : tOr t u σ H QT := by
  refine ha _ ?_
  cases b with
  | true => exact h1 rfl
  | false => exact h2 rfl
theorem k_andP (ha : pT t σ H b) (h1 : b = true → u σ H QT) (h2 : b = false → QT false H) : tAnd t u σ H QT := by
  refine ha _ ?_
  cases b with
  | true => exact h1 rfl
  | false => exact h2 rfl
theorem k_not (h : t σ H fun k H1 => QT (!k) H1) : tNot t σ H QT := h
/-! ### comprehensions over a list, whose test and element only look -/
def kLc (K : PySem.W.Frag) (g : TG) (tt : TT) (te : TE) (vs : List Nat) (σ : L2.St) (Q : VK) : VK := fun x H1 => ∃ a, x = .ref a ∧ (∃ xs, SqL K H1 a xs) ∧ ∀ D, H1 D = none → ∃ W : Nat → Nat → Hp → Prop, (∃ m, W 0 m (upd H1 D (.lst []))) ∧ ∀ i m H, W i m H →
  ((Itl K a).stop i H ∧ Q (.ref D) H) ∨ ((Itl K a).go i H ∧ ∃ Nx : Hp → Prop, (∀ H', Nx H' → ∃ m', m' < m ∧ W (i + 1) m' H') ∧ ∀ x H', (Itl K a).yld i H x H' → g x (wipe σ vs) H' fun σ2 H2 => wipe σ2 vs = wipe σ vs ∧ tt σ2 H2 fun b H3 =>
    if b = true then te σ2 H3 fun y H4 => ∃ acc, H4 D = some (.lst acc) ∧ acc.length < sizeLine ∧ Nx (upd H4 D (.lst (acc ++ [y]))) else Nx H3)
theorem k_lc (h : tl σ H (kLc K g tt te vs σ Q)) : tLc (iList K tl) g tt te vs σ H Q := h
/-- test b x, element f x: of the item alone -/
theorem k_lcP {a : Addr} {xs : List V} {i : Nat} (p : V → Bool) (f : V → V) (hx : SqL K H a xs) (hl : xs.length ≤ sizeLine) (hw : ∀ x, wipe ((wipe σ vs).set i (some x)) vs = wipe σ vs)
    (ht : ∀ x ∈ xs, ∀ D acc, H D = none → pT tt ((wipe σ vs).set i (some x)) (upd H D (.lst acc)) (p x))
    (he : ∀ x ∈ xs, p x = true → ∀ D acc, H D = none → pE te ((wipe σ vs).set i (some x)) (upd H D (.lst acc)) (f x))
    (q : NewAt H (.lst ((xs.filter p).map f)) Q) : kLc K (gName i) tt te vs σ Q (.ref a) H := by
  refine ⟨a, rfl, ⟨xs, hx⟩, fun D hD => ?_⟩
  have keep : ∀ acc, SqL K (upd H D (.lst acc)) a xs := fun acc => by
    rcases hx with (h | ⟨o, h⟩) | h
    · exact .inl (.inl (by rw [upd_ne (ne_of_none h hD)]; exact h))
    · exact .inl (.inr ⟨o, by rw [upd_ne (ne_of_none h hD)]; exact h⟩)
    · exact .inr h
  refine lc_list (K := K) (a := a) (xs := xs) (fun n H' => H' = upd H D (.lst (((xs.take n).filter p).map f))) (by simp) (fun n H' _ e => by rw [e]; exact keep _) ?_ ?_
  · intro n x H' hn e
    subst e
    have hm : x ∈ xs := List.mem_of_getElem? hn
    have ht' : xs.take (n + 1) = xs.take n ++ [x] := by rw [List.take_add_one, hn]; rfl
    refine ⟨hw x, ht x hm D _ hD _ ?_⟩
    cases hp : p x with
    | false =>
      rw [if_neg (by simp), ht', List.filter_append]
      simp [hp]
    | true =>
      rw [if_pos rfl]
      refine he x hm hp D _ hD _ ⟨_, upd_same, ?_, ?_⟩
      · rw [List.length_map]
        have h1 : ((xs.take n).filter p).length ≤ (xs.take n).length := List.length_filter_le ..
        have h2 : n < xs.length := (List.getElem?_eq_some_iff.mp hn).1
        rw [List.length_take] at h1
        omega
      · rw [upd_upd, ht', List.filter_append, List.map_append]
        simp [hp]
  · intro H' e
    subst e
    rw [List.take_length]
    exact q.up D hD
/-- over a text -/
theorem k_lcS {x : Str} {i : Nat} (hx : pE tl σ H (.str x)) (f : Nat → V) (hl : x.cps.toList.length ≤ sizeLine) (hw : ∀ v, wipe ((wipe σ vs).set i (some v)) vs = wipe σ vs)
    (he : ∀ c ∈ x.cps.toList, ∀ D acc, H D = none → pE te ((wipe σ vs).set i (some (.str ⟨#[c]⟩))) (upd H D (.lst acc)) (f c))
    (q : NewAt H (.lst (x.cps.toList.map f)) Q) : tLc (iStr tl) (gName i) tYes te vs σ H Q := by
  refine hx _ ⟨x, rfl, fun D hD => ?_⟩
  refine ⟨fun n m H' => m = x.cps.toList.length - n ∧ n ≤ x.cps.toList.length ∧ H' = upd H D (.lst ((x.cps.toList.take n).map f)), ⟨_, rfl, Nat.zero_le _, rfl⟩, ?_⟩
  rintro n m H' ⟨rfl, hn, rfl⟩
  by_cases hlt : n < x.cps.toList.length
  · refine .inr ⟨by rw [Array.length_toList] at hlt; exact hlt, fun H2 => H2 = upd H D (.lst ((x.cps.toList.take (n + 1)).map f)), fun H2 e => ⟨_, ?_, rfl, hlt, e⟩, ?_⟩
    · omega
    · rintro v H2 ⟨rfl, c, hc, rfl⟩
      rw [← Array.getElem?_toList] at hc
      refine ⟨hw _, (show pT tYes _ _ true from fun _ q => q) _ ?_⟩
      rw [if_pos rfl]
      refine he c (List.mem_of_getElem? hc) D _ hD _ ⟨_, upd_same, ?_, ?_⟩
      · rw [List.length_map, List.length_take]; omega
      · rw [upd_upd, List.take_add_one, hc, List.map_append]; rfl
  · refine .inl ⟨by rw [Array.length_toList] at hlt; exact Nat.le_of_not_lt hlt, ?_⟩
    rw [List.take_of_length_le (by omega)]
    exact q.up D hD
/-- over a range -/
def kLcR (g : TG) (tt : TT) (te : TE) (vs : List Nat) (σ : L2.St) (Q : VK) (lo : Int) (n : Nat) (H1 : Hp) : Prop := ∀ D, H1 D = none → ∃ W : Nat → Nat → Hp → Prop, (∃ m, W 0 m (upd H1 D (.lst []))) ∧ ∀ i m H, W i m H →
  ((Itr lo n).stop i H ∧ Q (.ref D) H) ∨ ((Itr lo n).go i H ∧ ∃ Nx : Hp → Prop, (∀ H', Nx H' → ∃ m', m' < m ∧ W (i + 1) m' H') ∧ ∀ x H', (Itr lo n).yld i H x H' → g x (wipe σ vs) H' fun σ2 H2 => wipe σ2 vs = wipe σ vs ∧ tt σ2 H2 fun b H3 =>
    if b = true then te σ2 H3 fun y H4 => ∃ acc, H4 D = some (.lst acc) ∧ acc.length < sizeLine ∧ Nx (upd H4 D (.lst (acc ++ [y]))) else Nx H3)
theorem k_lcR1 {tl : TA} {j : Int} (h : pA tl σ H [.int j]) (b0 : -(2 ^ 62) ≤ j) (b1 : j < 2 ^ 62) (q : kLcR g tt te vs σ Q 0 j.toNat H) : tLc (iRng1 tl) g tt te vs σ H Q := h _ ⟨j, rfl, b0, b1, q⟩
theorem k_lcR2 {tl : TA} {i j : Int} (h : pA tl σ H [.int i, .int j]) (b0 : -(2 ^ 62) ≤ i ∧ i < 2 ^ 62 ∧ -(2 ^ 62) ≤ j ∧ j < 2 ^ 62) (q : kLcR g tt te vs σ Q i (j - i).toNat H) : tLc (iRng2 tl) g tt te vs σ H Q := h _ ⟨i, j, rfl, b0, q⟩
theorem k_lcRP {lo : Int} {n i : Nat} (p : Int → Bool) (f : Int → V) (hl : n ≤ sizeLine) (hw : ∀ x, wipe ((wipe σ vs).set i (some x)) vs = wipe σ vs)
    (ht : ∀ k : Nat, k < n → ∀ D acc, H D = none → pT tt ((wipe σ vs).set i (some (.int (lo + k)))) (upd H D (.lst acc)) (p (lo + k)))
    (he : ∀ k : Nat, k < n → p (lo + k) = true → ∀ D acc, H D = none → pE te ((wipe σ vs).set i (some (.int (lo + k)))) (upd H D (.lst acc)) (f (lo + k)))
    (q : NewAt H (.lst ((((List.range n).map fun k : Nat => lo + (k : Int)).filter p).map f)) Q) : kLcR (gName i) tt te vs σ Q lo n H := by
  intro D hD
  refine lc_range (lo := lo) (n := n) (fun m H' => H' = upd H D (.lst ((((List.range m).map fun k : Nat => lo + (k : Int)).filter p).map f))) (by simp) ?_ ?_
  · intro k H' hk e
    subst e
    refine ⟨hw _, ht k hk D _ hD _ ?_⟩
    cases hp : p (lo + k) with
    | false =>
      rw [if_neg (by simp), List.range_succ, List.map_append, List.filter_append]
      simp [hp]
    | true =>
      rw [if_pos rfl]
      refine he k hk hp D _ hD _ ⟨_, upd_same, ?_, ?_⟩
      · rw [List.length_map]
        have h1 : (((List.range k).map fun k : Nat => lo + (k : Int)).filter p).length ≤ ((List.range k).map fun k : Nat => lo + (k : Int)).length := List.length_filter_le ..
        rw [List.length_map, List.length_range] at h1
        omega
      · rw [upd_upd, List.range_succ, List.map_append, List.filter_append, List.map_append]
        simp [hp]
  · intro H' e
    subst e
    exact q.up D hD
theorem p_yes : pT tYes σ H true := fun _ q => q
/-! ### loops -/
theorem w_forL {a : Addr} {xs : List V} (ha : pE tl σ H (.ref a)) (hx : SqL K H a xs) (Pv : Nat → L2.St → Hp → Prop) (h0 : Pv 0 σ H) (hl : ∀ i σ H, i ≤ xs.length → Pv i σ H → SqL K H a xs)
    (hs : ∀ i x σ H, xs[i]? = some x → Pv i σ H → g x σ H fun σ2 H2 => tb' { D with nx := Pv (i + 1), ct := Pv (i + 1), bk := D.nx } σ2 H2) (hd : ∀ σ H, Pv xs.length σ H → D.nx σ H) : tFor (iList K tl) g tb' D σ H :=
  ha _ ⟨a, rfl, ⟨xs, hx⟩, for_list Pv h0 hl hs hd⟩
theorem w_forT {a : Addr} {xs : List V} (ha : pE tl σ H (.ref a)) (hx : SqT K H a xs) (Pv : Nat → L2.St → Hp → Prop) (h0 : Pv 0 σ H) (hl : ∀ i σ H, i ≤ xs.length → Pv i σ H → SqT K H a xs)
    (hs : ∀ i x σ H, xs[i]? = some x → Pv i σ H → g x σ H fun σ2 H2 => tb' { D with nx := Pv (i + 1), ct := Pv (i + 1), bk := D.nx } σ2 H2) (hd : ∀ σ H, Pv xs.length σ H → D.nx σ H) : tFor (iTup K tl) g tb' D σ H :=
  ha _ ⟨a, rfl, ⟨xs, hx⟩, for_tup Pv h0 hl hs hd⟩
theorem w_forR1 {tl : TA} {j : Int} (h : pA tl σ H [.int j]) (b0 : -(2 ^ 62) ≤ j) (b1 : j < 2 ^ 62) (Pv : Nat → L2.St → Hp → Prop) (h0 : Pv 0 σ H)
    (hs : ∀ i σ H, i < j.toNat → Pv i σ H → g (.int (0 + i)) σ H fun σ2 H2 => tb' { D with nx := Pv (i + 1), ct := Pv (i + 1), bk := D.nx } σ2 H2) (hd : ∀ σ H, Pv j.toNat σ H → D.nx σ H) : tFor (iRng1 tl) g tb' D σ H :=
  h _ ⟨j, rfl, b0, b1, for_range Pv h0 hs hd⟩
theorem w_forR2 {tl : TA} {i j : Int} (h : pA tl σ H [.int i, .int j]) (b : -(2 ^ 62) ≤ i ∧ i < 2 ^ 62 ∧ -(2 ^ 62) ≤ j ∧ j < 2 ^ 62) (Pv : Nat → L2.St → Hp → Prop) (h0 : Pv 0 σ H)
    (hs : ∀ k σ H, k < (j - i).toNat → Pv k σ H → g (.int (i + k)) σ H fun σ2 H2 => tb' { D with nx := Pv (k + 1), ct := Pv (k + 1), bk := D.nx } σ2 H2) (hd : ∀ σ H, Pv (j - i).toNat σ H → D.nx σ H) : tFor (iRng2 tl) g tb' D σ H :=
  h _ ⟨i, j, rfl, b, for_range Pv h0 hs hd⟩
theorem g_name {i : Nat} {v : V} {R : L2.St → Hp → Prop} (h : R (σ.set i (some v)) H) : gName i v σ H R := h
theorem g_pair {i j : Nat} {a : Addr} {x y : V} {R : L2.St → Hp → Prop} (hx : SqT K H a [x, y]) (h : R ((σ.set i (some x)).set j (some y)) H) : gTup K 2 (gCons (gName i) (gCons (gName j) gNil)) (.ref a) σ H R :=
  ⟨a, [x, y], rfl, hx, rfl, x, [y], rfl, y, [], rfl, rfl, h⟩
/-! ### more of what follows -/
def kOr (u : TT) (σ : L2.St) (QT : Bool → Hp → Prop) : Bool → Hp → Prop := fun b H1 => if b = true then QT true H1 else u σ H1 QT
def kAnd (u : TT) (σ : L2.St) (QT : Bool → Hp → Prop) : Bool → Hp → Prop := fun b H1 => if b = true then u σ H1 QT else QT false H1
def kNot (QT : Bool → Hp → Prop) : Bool → Hp → Prop := fun b H1 => QT (!b) H1
theorem k_or (h : t σ H (kOr u σ QT)) : tOr t u σ H QT := h
theorem k_and (h : t σ H (kAnd u σ QT)) : tAnd t u σ H QT := h
theorem k_notK (h : t σ H (kNot QT)) : tNot t σ H QT := h
theorem k_kOr (h1 : b = true → QT true H) (h2 : b = false → u σ H QT) : kOr u σ QT b H := by
  unfold kOr
  cases b with
  | true => exact h1 rfl
  | false => exact h2 rfl
theorem k_kAnd (h1 : b = true → u σ H QT) (h2 : b = false → QT false H) : kAnd u σ QT b H := by
  unfold kAnd
  cases b with
  | true => exact h1 rfl
  | false => exact h2 rfl
theorem k_kNot (h : QT (!b) H) : kNot QT b H := h
def kM (C : Addr) (names : List Str) (sp : Sp) (tl : TA) (σ : L2.St) (Q : VK) : VK := fun x H1 => ∃ a dx vals, x = .ref a ∧ H1 a = some (.ins C dx (names.zip vals)) ∧ tl σ H1 fun vs H2 => sp (.ref a :: vs) H2 Q E0
theorem k_methK {C : Addr} {names : List Str} {sp : Sp} {tl : TA} (h : ta σ H (kM C names sp tl σ Q)) : oMeth C names sp ta tl σ H Q := h
theorem k_kM {C p dx : Addr} {names : List Str} {vals : List V} {sp : Sp} {tl : TA} {us : List V} (hH : H p = some (.ins C dx (names.zip vals))) (h : pA tl σ H us) (q : sp (.ref p :: us) H Q E0) : kM C names sp tl σ Q (.ref p) H := ⟨p, dx, vals, rfl, hH, h _ q⟩
theorem k_make {C : Addr} {sp : Sp} {tl : TA} {us : List V} (h : pA tl σ H us) (q : ∀ x dx H', H x = none → H' x = some (.ins C dx []) → Ext H H' → sp (.ref x :: us) H' (fun v H2 => v = .non ∧ Q (.ref x) H2) E0) : mMake C sp tl σ H Q :=
  h _ fun x dx nx nd ne => q x dx _ nx upd_same fun a o e => by rw [upd_ne (ne_of_none e nx), upd_ne (ne_of_none e nd)]; exact e
theorem k_eqD {a a' : Addr} {d e : PyData} (hd : Dp K H (.ref a) d) (he : Dp K H (.ref a') e) (sd : SeqAt.shaped d = true) (se : SeqAt.shaped e = true) (q : Q (.bl (PyData.eqv d e)) H) : mEq K (.ref a) (.ref a') H Q := ⟨d, e, hd, he, sd, se, q⟩
theorem k_neD {a a' : Addr} {d e : PyData} (hd : Dp K H (.ref a) d) (he : Dp K H (.ref a') e) (sd : SeqAt.shaped d = true) (se : SeqAt.shaped e = true) (q : Q (.bl (!PyData.eqv d e)) H) : mNe K (.ref a) (.ref a') H Q := ⟨d, e, hd, he, sd, se, q⟩
theorem k_all {a : Addr} {bs : List Bool} (hx : H a = some (.lst (bs.map V.bl))) (q : Q (.bl (bs.all id)) H) : rAll K [.ref a] H Q := ⟨a, bs, rfl, SqL.of hx, q⟩
theorem k_any {a : Addr} {bs : List Bool} (hx : H a = some (.lst (bs.map V.bl))) (q : Q (.bl (bs.any id)) H) : rAny K [.ref a] H Q := ⟨a, bs, rfl, SqL.of hx, q⟩
theorem kit_is (K : PySem.W.Frag) {m n : String} {b : Bool} (h : ∀ K, PySem.W.kitOne K (.type m) (.type n) = some b) : PySem.W.kitOne K (.type m) (.type n) = some b := h K
theorem p_isInt {i : Int} : pC (rIsi K) [.int i, .ty "int"] H (.bl true) := fun _ q => ⟨_, _, _, _, true, rfl, .ty _, .base (.int i), kit_ty (by decide +kernel), q⟩
theorem p_isIntB {i : Int} : pC (rIsi K) [.int i, .ty "bool"] H (.bl false) := fun _ q => ⟨_, _, _, _, false, rfl, .ty _, .base (.int i), kit_ty (by decide +kernel), q⟩
theorem p_isLst {a : Addr} {xs : List V} (h : H a = some (.lst xs)) : pC (rIsi K) [.ref a, .ty "list"] H (.bl true) := fun _ q => ⟨_, _, _, _, true, rfl, .ty _, .base (.lst h), kit_ty (by decide +kernel), q⟩
theorem p_isTup {a : Addr} {xs : List V} (h : H a = some (.tup xs)) : pC (rIsi K) [.ref a, .ty "tuple"] H (.bl true) := fun _ q => ⟨_, _, _, _, true, rfl, .ty _, .base (.tup h), kit_ty (by decide +kernel), q⟩
theorem p_notV {te : TE} (h : pE te σ H (.bl b)) : pE (mNotV te) σ H (.bl (!b)) := fun _ q => h _ q
theorem at_ints {ns : List Int} {k : Int} (h0 : 0 ≤ k) (h1 : k < (ns.length : Int)) : atI (ns.map V.int) k = some (.int (ns.getD k.toNat 0)) := by
  obtain ⟨j, rfl⟩ : ∃ j : Nat, k = (j : Int) := ⟨k.toNat, by omega⟩
  have hj : j < ns.length := by omega
  refine atI_nat ?_
  rw [Int.toNat_natCast, List.getElem?_map, List.getD_eq_getElem?_getD, List.getElem?_eq_getElem hj]
  rfl
theorem p_ixIL {p : Addr} {ns : List Int} {k : Int} (h : SqL K H p (ns.map V.int)) (h0 : 0 ≤ k) (h1 : k < (ns.length : Int)) : pR (mIx K) (.ref p) (.int k) H (.int (ns.getD k.toNat 0)) := fun _ q => ⟨_, _, .inl h, at_ints h0 h1, q⟩
theorem p_ixIH {p : Addr} {ns : List Int} {k : Int} (h : H p = some (.lst (ns.map V.int))) (h0 : 0 ≤ k) (h1 : k < (ns.length : Int)) : pR (mIx K) (.ref p) (.int k) H (.int (ns.getD k.toNat 0)) := fun _ q => ⟨_, _, .inl (SqL.of h), at_ints h0 h1, q⟩
theorem p_ixIU {p : Addr} {ns : List Int} {k : Int} (h : H p = some (.tup (ns.map V.int))) (h0 : 0 ≤ k) (h1 : k < (ns.length : Int)) : pR (mIx K) (.ref p) (.int k) H (.int (ns.getD k.toNat 0)) := fun _ q => ⟨_, _, .inr (SqT.of h), at_ints h0 h1, q⟩
end
end PB

set_option maxRecDepth 100000
set_option autoImplicit false
set_option maxHeartbeats 4000000
namespace PB
open PySem PySem.Spec PyProof.Rows L2
/-! ### data of the written part -/
mutual
def isD (K : PySem.W.Frag) : PyData → Value → Bool
  | .none, .none => true
  | .bool a, .bool b => a == b
  | .int i, .int j _ => decide (i = j)
  | .str x, .str y _ => decide (x = y)
  | .tuple ds, .ref a => (match K.lookup a with
    | some ⟨.type c, _, .seq its _, _⟩ => decide (c = "tuple") && (decide (its.size ≤ sizeLine) && isDs K ds its.toList)
    | _ => false)
  | .list ds, .ref a => (match K.lookup a with
    | some ⟨.type c, none, .seq its _, _⟩ => decide (c = "list") && (decide (its.size ≤ sizeLine) && isDs K ds its.toList)
    | _ => false)
  | _, _ => false
def isDs (K : PySem.W.Frag) : List PyData → List Value → Bool
  | [], [] => true
  | d :: ds, u :: us => isD K d u && isDs K ds us
  | _, _ => false
end
mutual
theorem isD_ok {K : PySem.W.Frag} : ∀ (d : PyData) (u : Value), isD K d u = true → ∃ v, RelV v u ∧ ∀ H, Dp K H v d
  | .none, u, h => by
    cases u with
    | none => exact ⟨.non, rfl, fun _ => .non⟩
    | _ => simp [isD] at h
  | .bool a, u, h => by
    cases u with
    | bool b =>
      unfold isD at h
      have e : a = b := by simpa using h
      subst e
      exact ⟨.bl a, rfl, fun _ => .bl a⟩
    | _ => simp [isD] at h
  | .int i, u, h => by
    cases u with
    | int j t =>
      unfold isD at h
      have e : i = j := of_decide_eq_true h
      subst e
      exact ⟨.int i, ⟨t, rfl⟩, fun _ => .int i⟩
    | _ => simp [isD] at h
  | .str x, u, h => by
    cases u with
    | str y t =>
      unfold isD at h
      have e : x = y := of_decide_eq_true h
      subst e
      exact ⟨.str x, ⟨t, rfl⟩, fun _ => .str x⟩
    | _ => simp [isD] at h
  | .tuple ds, u, h => by
    cases u with
    | ref a =>
      unfold isD at h
      split at h
      · rename_i c od its n sl e
        obtain ⟨h1, h2⟩ := He.ba h
        obtain ⟨h3, h4⟩ := He.ba h2
        obtain ⟨vs, r, k⟩ := isDs_ok ds its.toList h4
        exact ⟨.ref a, rfl, fun H => .tup (.inr ⟨_, its, n, e, congrArg Value.type (of_decide_eq_true h1), rfl, of_decide_eq_true h3, r⟩) (k H)⟩
      · cases h
    | _ => simp [isD] at h
  | .list ds, u, h => by
    cases u with
    | ref a =>
      unfold isD at h
      split at h
      · rename_i c its n sl e
        obtain ⟨h1, h2⟩ := He.ba h
        obtain ⟨h3, h4⟩ := He.ba h2
        obtain ⟨vs, r, k⟩ := isDs_ok ds its.toList h4
        exact ⟨.ref a, rfl, fun H => .lst (.inr ⟨_, its, n, e, congrArg Value.type (of_decide_eq_true h1), rfl, rfl, of_decide_eq_true h3, r⟩) (k H)⟩
      · cases h
    | _ => simp [isD] at h
  | .dict _, u, h => by cases u <;> simp [isD] at h
theorem isDs_ok {K : PySem.W.Frag} : ∀ (ds : List PyData) (us : List Value), isDs K ds us = true → ∃ vs, Vals vs us ∧ ∀ H, DpAll K H vs ds
  | [], [], _ => ⟨[], .nil, fun _ => .nil⟩
  | d :: ds, u :: us, h => by
    unfold isDs at h
    obtain ⟨h1, h2⟩ := He.ba h
    obtain ⟨v, r, k⟩ := isD_ok d u h1
    obtain ⟨vs, rs, ks⟩ := isDs_ok ds us h2
    exact ⟨v :: vs, .cons r rs, fun H => .cons (k H) (ks H)⟩
  | [], _ :: _, h => by simp [isDs] at h
  | _ :: _, [], h => by simp [isDs] at h
end
theorem datG_ok {K : PySem.W.Frag} {x : Str} {d : PyData} (h : isD K d (.ref (He.ga K x)) = true) (H : Hp) : Dp K H (.ref (He.ga K x)) d := by
  obtain ⟨v, r, k⟩ := isD_ok d _ h
  cases v with
  | ref a =>
    have e : a = He.ga K x := (Value.ref.inj (show Value.ref (He.ga K x) = Value.ref a from r)).symm
    rw [← e]
    exact k H
  | _ => revert r; intro r; first | (obtain ⟨t, r⟩ := r; cases r) | (cases r)
/-! ### the head's hook: the defs, the facts, one more Bool -/
abbrev AlP : Type := He.AlD × Bool
def obsP (n : Nat) (fa : List He.Fa) (fn : List He.DefD) (ex : PySem.W.Frag → Bool) (g : Addr → Option Obj) : AlP := (He.obsDG n fa fn g, ex (He.frG g (He.asD g n)))
def hookP (n : Nat) (fa : List He.Fa) (fn : List He.DefD) (ex : PySem.W.Frag → Bool) : PySem.W.Hook where
  α := AlP
  obs := fun s => obsP n fa fn ex s.heap.get?
  val := fun _ => (He.valD fn, true)
  says := fun _ h => ∃ K : PySem.W.Frag, K.In h ∧ He.SaysD fa fn K ∧ ex K = true
  of := fun _ _ e => ⟨_, He.frG_in, congrArg (fun z : AlP => z.1) e, congrArg (fun z : AlP => z.2) e⟩
  keeps := fun _ _ _ ⟨K, hK, c⟩ k => ⟨K, PySem.W.Frag.In.keeps hK k, c⟩
theorem obsP_eq {n : Nat} {fa : List He.Fa} {fn : List He.DefD} {ex : PySem.W.Frag → Bool} {g : Addr → Option Obj} {s : Shared} (h : ∀ a, g a = s.heap.get? a) : obsP n fa fn ex g = (hookP n fa fn ex).obs s := by
  have e : g = s.heap.get? := funext h
  rw [e] <;> rfl
end PB

set_option maxRecDepth 100000
set_option autoImplicit false
set_option maxHeartbeats 4000000
namespace PB
open PySem PySem.Spec PyProof.Rows L2
/-! ### bits -/
def mBor : R2 := fun x y H Q => match x, y with
  | .int i, .int j => Q (.int (Builtin.bitOr i j)) H
  | _, _ => False
def mBand : R2 := fun x y H Q => match x, y with
  | .int i, .int j => Q (.int (Builtin.bitAnd i j)) H
  | _, _ => False
theorem op_mBor {X : Cx} : OpR X (binaryOp .BitOr) mBor := op_imp op_or fun x y H Q h => by
  cases x <;> cases y <;> first | exact h.elim | exact ⟨_, _, rfl, rfl, h⟩
theorem op_mBand {X : Cx} : OpR X (binaryOp .BitAnd) mBand := op_imp op_and fun x y H Q h => by
  cases x <;> cases y <;> first | exact h.elim | exact ⟨_, _, rfl, rfl, h⟩
theorem p_bor {H : Hp} {i j : Int} : pR mBor (.int i) (.int j) H (.int (Builtin.bitOr i j)) := fun _ q => q
theorem p_band {H : Hp} {i j : Int} : pR mBand (.int i) (.int j) H (.int (Builtin.bitAnd i j)) := fun _ q => q
/-! ### a written dict: numbers to numbers -/
def entI : List (Int × Int) → List DictEntry → Bool
  | [], [] => true
  | p :: ps, e :: es => (match e.key, e.val with
    | .int i _, .int j _ => decide (i = p.1) && (decide (j = p.2) && decide (e.hash = hashInt p.1))
    | _, _ => false) && entI ps es
  | _, _ => false
def isDI (K : PySem.W.Frag) (kvs : List (Int × Int)) (a : Addr) : Bool := match K.lookup a with
  | some ⟨.type c, none, .dict es _, sl⟩ => decide (c = "dict") && (sl.isEmpty && (decide ((a == sysModules) = false) && entI kvs es.toList))
  | _ => false
structure KDi (K : PySem.W.Frag) (a : Addr) (kvs : List (Int × Int)) : Prop where
  ex : ∃ es n, K.lookup a = some ⟨.type "dict", none, .dict es n, #[]⟩ ∧ entI kvs es.toList = true ∧ (a == sysModules) = false
theorem isDI_ok {K : PySem.W.Frag} {kvs : List (Int × Int)} {a : Addr} (h : isDI K kvs a = true) : KDi K a kvs := by
  unfold isDI at h
  split at h
  · rename_i c es n sl e
    obtain ⟨h1, h2⟩ := He.ba h
    obtain ⟨h3, h4⟩ := He.ba h2
    obtain ⟨h5, h6⟩ := He.ba h4
    have e1 : c = "dict" := of_decide_eq_true h1
    have e2 : sl = #[] := Array.isEmpty_iff.mp h3
    subst e1 e2
    exact ⟨es, n, e, h6, of_decide_eq_true h5⟩
  · cases h
def luI : List (Int × Int) → Int → Option Int
  | [], _ => none
  | p :: ps, k => if p.1 = k then some p.2 else luI ps k
theorem entI_keys : ∀ {kvs : List (Int × Int)} {es : List DictEntry}, entI kvs es = true → ∀ e ∈ es, ∃ k : Int, Value.isInt k e.key = true ∧ e.hash = hashInt k
  | [], [], _, e, m => by cases m
  | p :: ps, d :: ds, h, e, m => by
    unfold entI at h
    obtain ⟨h1, h2⟩ := He.ba h
    rcases List.mem_cons.mp m with rfl | m
    · split at h1
      · rename_i i t j u e1 e2
        obtain ⟨h3, h4⟩ := He.ba h1
        obtain ⟨h5, h6⟩ := He.ba h4
        refine ⟨p.1, ?_, of_decide_eq_true h6⟩
        rw [e1, of_decide_eq_true h3]
        unfold Value.isInt
        simp
      · cases h1
    · exact entI_keys h2 e m
  | [], _ :: _, h, _, _ => by simp [entI] at h
  | _ :: _, [], h, _, _ => by simp [entI] at h
theorem entI_find {k : Int} : ∀ {kvs : List (Int × Int)} {es : List DictEntry}, entI kvs es = true → (match luI kvs k with
    | some j => ∃ t, (es.find? fun e => Value.isInt k e.key).map (·.val) = some (.int j t)
    | none => (es.find? fun e => Value.isInt k e.key).map (·.val) = none)
  | [], [], _ => rfl
  | p :: ps, d :: ds, h => by
    unfold entI at h
    obtain ⟨h1, h2⟩ := He.ba h
    split at h1
    · rename_i i t j u e1 e2
      obtain ⟨h3, h4⟩ := He.ba h1
      obtain ⟨h5, h6⟩ := He.ba h4
      have a1 : i = p.1 := of_decide_eq_true h3
      have a2 : j = p.2 := of_decide_eq_true h5
      unfold luI
      by_cases c : p.1 = k
      · rw [if_pos c]
        refine ⟨u, ?_⟩
        have z : Value.isInt k d.key = true := by rw [e1, a1, c]; unfold Value.isInt; simp
        rw [List.find?_cons_of_pos (p := fun e : DictEntry => Value.isInt k e.key) z]
        rw [Option.map_some, e2, a2]
      · rw [if_neg c]
        have z : ¬ Value.isInt k d.key = true := by
          rw [e1, a1]
          unfold Value.isInt
          simpa using c
        rw [List.find?_cons_of_neg (p := fun e : DictEntry => Value.isInt k e.key) z]
        exact entI_find h2
    · cases h1
  | [], _ :: _, h => by simp [entI] at h
  | _ :: _, [], h => by simp [entI] at h
theorem mapOf_KI {prog : Program} {w : World} {K : PySem.W.Frag} {h : Heap} {a : Addr} {es : Array DictEntry} {n : Nat} {kvs : List (Int × Int)} (X : K.In h) (hl : K.lookup a = some ⟨.type "dict", none, .dict es n, #[]⟩) (hk : entI kvs es.toList = true) :
    h.MapOf (PySem.intKind prog w) a (fun k => findBy Value.isInt es k) :=
  ⟨_, es, n, X _ _ hl, ⟨rfl, rfl, rfl⟩, rfl, fun e he => entI_keys hk e (Array.mem_toList_iff.mpr he), fun _ => rfl⟩
theorem findBy_I {es : Array DictEntry} {k : Int} : findBy Value.isInt es k = (es.toList.find? fun e => Value.isInt k e.key).map (·.val) := by
  unfold findBy
  rw [← Array.find?_toList]
def rIxDI (K : PySem.W.Frag) : R2 := fun x y H Q => ∃ p i kvs j, x = .ref p ∧ y = .int i ∧ KDi K p kvs ∧ luI kvs i = some j ∧ Q (.int j) H
def rInDI (K : PySem.W.Frag) : R2 := fun x y H Q => ∃ p i kvs, x = .int i ∧ y = .ref p ∧ KDi K p kvs ∧ Q (.bl (luI kvs i).isSome) H
theorem ix_kdi {X : Cx} : IxR X (rIxDI X.K) := by
  intro value slice pins s σ H x y v u Q I rx ry h hs
  obtain ⟨p, i, kvs, j, rfl, rfl, ⟨es, n, hl, hk, _⟩, lu, q⟩ := h
  obtain rfl : v = Value.ref p := rx
  obtain ⟨t, rfl⟩ := (show ∃ t, u = Value.int i t from ry)
  have hm := mapOf_KI (prog := X.prog) (w := X.w) I.kIn hl hk
  have ef := entI_find (k := i) hk
  rw [lu] at ef
  obtain ⟨t', ef⟩ := ef
  have hkey : (PySem.intKind X.prog X.w).is i (.int i t) = true := by show (i == i) = true; simp
  exact tail_any hm.typeIs slot_dict_getitem.lookup (wpAny_getItem_of hkey hm (findBy_I.trans ef) ⟨.int j, H, I.tok _, ⟨t', rfl⟩, q⟩) hs
theorem op_inDI {X : Cx} : OpR X (compareOp .In) (rInDI X.K) := by
  intro pins s σ H x y v u Q I rx ry h
  obtain ⟨p, i, kvs, rfl, rfl, ⟨es, n, hl, hk, hd⟩, q⟩ := h
  obtain rfl : u = Value.ref p := ry
  obtain ⟨t, rfl⟩ := (show ∃ t, v = Value.int i t from rx)
  have hm := mapOf_KI (prog := X.prog) (w := X.w) I.kIn hl hk
  have hkey : (PySem.intKind X.prog X.w).is i (.int i t) = true := by show (i == i) = true; simp
  refine wpAny_in_of hkey hd hm ?_
  have e : (findBy Value.isInt es i).isSome = (luI kvs i).isSome := by
    rw [findBy_I]
    have ef := entI_find (k := i) hk
    cases c : luI kvs i with
    | none => rw [c] at ef; rw [ef]; rfl
    | some j => rw [c] at ef; obtain ⟨t', ef⟩ := ef; rw [ef]; rfl
  refine ⟨.bl _, H, I.tok _, ?_, q⟩
  rw [e]
  rfl
theorem p_ixDI {K : PySem.W.Frag} {H : Hp} {p : Addr} {i j : Int} {kvs : List (Int × Int)} (h : KDi K p kvs) (e : luI kvs i = some j) : pR (rIxDI K) (.ref p) (.int i) H (.int j) := fun _ q => ⟨p, i, kvs, j, rfl, rfl, h, e, q⟩
theorem p_inDI {K : PySem.W.Frag} {H : Hp} {p : Addr} {i : Int} {kvs : List (Int × Int)} (h : KDi K p kvs) : pR (rInDI K) (.int i) (.ref p) H (.bl (luI kvs i).isSome) := fun _ q => ⟨p, i, kvs, rfl, rfl, h, q⟩
theorem p_lenU {K : PySem.W.Frag} {H : Hp} {p : Addr} {xs : List V} (h : H p = some (.tup xs)) : pC (mLen K) [.ref p] H (.int (xs.length : Int)) := fun _ q => ⟨xs, .inr (SqT.of h), q⟩
theorem w_break {D : Ends} {σ : L2.St} {H : Hp} (h : D.bk σ H) : tBreak D σ H := h
theorem w_cont {D : Ends} {σ : L2.St} {H : Hp} (h : D.ct σ H) : tCont D σ H := h
/-! ### while, a tuple taken apart -/
theorem w_while {c : TT} {tb : TS} {D : Ends} {σ : L2.St} {H : Hp} (W : Nat → L2.St → Hp → Prop) (m0 : Nat) (h0 : W m0 σ H)
    (hs : ∀ m σ H, W m σ H → ∃ b, pT c σ H b ∧ (b = true → tb { D with nx := fun σ' H' => ∃ m', m' < m ∧ W m' σ' H', ct := fun σ' H' => ∃ m', m' < m ∧ W m' σ' H', bk := D.nx } σ H) ∧ (b = false → D.nx σ H)) : tWhile c tb D σ H :=
  ⟨W, ⟨m0, h0⟩, fun m σ H w => by
    obtain ⟨b, hc, h1, h2⟩ := hs m σ H w
    refine hc _ ?_
    cases b with
    | true =>
      rw [if_pos rfl]
      exact ⟨_, fun _ _ z => z, h1 rfl⟩
    | false =>
      rw [if_neg (by decide)]
      exact h2 rfl⟩
theorem g_three {K : PySem.W.Frag} {i j k : Nat} {a : Addr} {x y z : V} {σ : L2.St} {H : Hp} {R : L2.St → Hp → Prop} (hx : SqT K H a [x, y, z]) (h : R (((σ.set i (some x)).set j (some y)).set k (some z)) H) : gTup K 3 (gCons (gName i) (gCons (gName j) (gCons (gName k) gNil))) (.ref a) σ H R :=
  ⟨a, [x, y, z], rfl, hx, rfl, x, [y, z], rfl, y, [z], rfl, z, [], rfl, rfl, h⟩
section
variable {K : PySem.W.Frag} {σ : L2.St} {H : Hp} {tl te : TE} {tt : TT} {Q : VK} {vs : List Nat}
/-- a comprehension over a tuple: test and element only look -/
theorem k_lcTP {a : Addr} {xs : List V} {i : Nat} (p : V → Bool) (f : V → V) (ha : pE tl σ H (.ref a)) (hx : SqT K H a xs) (hl : xs.length ≤ sizeLine) (hw : ∀ x, wipe ((wipe σ vs).set i (some x)) vs = wipe σ vs)
    (ht : ∀ x ∈ xs, ∀ D acc, H D = none → pT tt ((wipe σ vs).set i (some x)) (upd H D (.lst acc)) (p x))
    (he : ∀ x ∈ xs, p x = true → ∀ D acc, H D = none → pE te ((wipe σ vs).set i (some x)) (upd H D (.lst acc)) (f x))
    (q : NewAt H (.lst ((xs.filter p).map f)) Q) : tLc (iTup K tl) (gName i) tt te vs σ H Q := by
  refine ha _ ⟨a, rfl, ⟨xs, hx⟩, fun D hD => ?_⟩
  have keep : ∀ acc, SqT K (upd H D (.lst acc)) a xs := fun acc => ext_t (Ext.new hD) hx
  refine lc_tup (K := K) (a := a) (xs := xs) (fun n H' => H' = upd H D (.lst (((xs.take n).filter p).map f))) (by simp) (fun n H' _ e => by rw [e]; exact keep _) ?_ ?_
  · intro n x H' hn e
    subst e
    have hm : x ∈ xs := List.mem_of_getElem? hn
    have ht' : xs.take (n + 1) = xs.take n ++ [x] := by rw [List.take_add_one, hn]; rfl
    refine ⟨hw x, ht x hm D _ hD _ ?_⟩
    cases hp : p x with
    | false =>
      rw [if_neg (by simp), ht', List.filter_append]
      simp [hp]
    | true =>
      rw [if_pos rfl]
      refine he x hm hp D _ hD _ ⟨_, upd_same, ?_, ?_⟩
      · rw [List.length_map]
        have h1 : ((xs.take n).filter p).length ≤ (xs.take n).length := List.length_filter_le ..
        have h2 : n < xs.length := (List.getElem?_eq_some_iff.mp hn).1
        rw [List.length_take] at h1
        omega
      · rw [upd_upd, ht', List.filter_append, List.map_append]
        simp [hp]
  · intro H' e
    subst e
    rw [List.take_length]
    exact q.up D hD
/-- a comprehension whose element may make objects, without a test: over a list; what is asked of an element -/
def kEl (D : Addr) (P : Addr → Nat → List V → Hp → Prop) (i : Nat) : VK := fun y H4 => ∃ acc, H4 D = some (.lst acc) ∧ acc.length < sizeLine ∧ ∃ acc', acc'.length = i + 1 ∧ (upd H4 D (.lst (acc ++ [y]))) D = some (.lst acc') ∧ P D (i + 1) acc' (upd H4 D (.lst (acc ++ [y])))
theorem kEl_mk {D : Addr} {P : Addr → Nat → List V → Hp → Prop} {i : Nat} {y : V} {H4 : Hp} {acc : List V} (h : H4 D = some (.lst acc)) (l : acc.length = i) (z : i < sizeLine) (p : P D (i + 1) (acc ++ [y]) (upd H4 D (.lst (acc ++ [y])))) : kEl D P i y H4 :=
  ⟨acc, h, by omega, acc ++ [y], by simp [l], upd_same, p⟩
theorem k_lcG {a : Addr} {xs : List V} {j : Nat} (hx : SqL K H a xs) (hl : xs.length ≤ sizeLine) (hw : ∀ x, wipe ((wipe σ vs).set j (some x)) vs = wipe σ vs) (P : Addr → Nat → List V → Hp → Prop)
    (h0 : ∀ D, H D = none → P D 0 [] (upd H D (.lst [])))
    (hk : ∀ D i acc H', H D = none → P D i acc H' → SqL K H' a xs)
    (hs : ∀ D i x acc H', H D = none → xs[i]? = some x → acc.length = i → H' D = some (.lst acc) → P D i acc H' → te ((wipe σ vs).set j (some x)) H' (kEl D P i))
    (q : ∀ D acc H', H D = none → H' D = some (.lst acc) → acc.length = xs.length → P D xs.length acc H' → Q (.ref D) H') : kLc K (gName j) tYes te vs σ Q (.ref a) H := by
  refine ⟨a, rfl, ⟨xs, hx⟩, fun D hD => ?_⟩
  refine ⟨fun i m H' => m = xs.length - i ∧ i ≤ xs.length ∧ ∃ acc, acc.length = i ∧ H' D = some (.lst acc) ∧ P D i acc H', ⟨_, rfl, Nat.zero_le _, [], rfl, upd_same, h0 D hD⟩, ?_⟩
  rintro i m H' ⟨rfl, hi, acc, al, hD', p⟩
  by_cases c : i < xs.length
  · refine .inr ⟨⟨xs, xs[i], hk D i acc H' hD p, by simp [c]⟩, fun H2 => ∃ acc', acc'.length = i + 1 ∧ H2 D = some (.lst acc') ∧ P D (i + 1) acc' H2, ?_, ?_⟩
    · rintro H2 ⟨acc', z1, z2, z3⟩
      exact ⟨xs.length - (i + 1), by omega, rfl, by omega, acc', z1, z2, z3⟩
    · rintro x H2 ⟨rfl, hy⟩
      have e := hy xs (hk D i acc H2 hD p)
      refine ⟨hw x, (show pT tYes _ _ true from fun _ q => q) _ ?_⟩
      rw [if_pos rfl]
      exact hs D i x acc H2 hD e al hD' p
  · have e : i = xs.length := by omega
    subst e
    exact .inl ⟨⟨xs, hk D _ acc H' hD p, Nat.le_refl _⟩, q D acc H' hD hD' al p⟩
/-- the same over a range -/
theorem k_lcRG {lo : Int} {n j : Nat} (hl : n ≤ sizeLine) (hw : ∀ x, wipe ((wipe σ vs).set j (some x)) vs = wipe σ vs) (P : Addr → Nat → List V → Hp → Prop)
    (h0 : ∀ D, H D = none → P D 0 [] (upd H D (.lst [])))
    (hs : ∀ D i acc H', H D = none → i < n → acc.length = i → H' D = some (.lst acc) → P D i acc H' → te ((wipe σ vs).set j (some (.int (lo + i)))) H' (kEl D P i))
    (q : ∀ D acc H', H D = none → H' D = some (.lst acc) → acc.length = n → P D n acc H' → Q (.ref D) H') : kLcR (gName j) tYes te vs σ Q lo n H := by
  intro D hD
  refine ⟨fun i m H' => m = n - i ∧ i ≤ n ∧ ∃ acc, acc.length = i ∧ H' D = some (.lst acc) ∧ P D i acc H', ⟨_, rfl, Nat.zero_le _, [], rfl, upd_same, h0 D hD⟩, ?_⟩
  rintro i m H' ⟨rfl, hi, acc, al, hD', p⟩
  by_cases c : i < n
  · refine .inr ⟨c, fun H2 => ∃ acc', acc'.length = i + 1 ∧ H2 D = some (.lst acc') ∧ P D (i + 1) acc' H2, ?_, ?_⟩
    · rintro H2 ⟨acc', z1, z2, z3⟩
      exact ⟨n - (i + 1), by omega, rfl, by omega, acc', z1, z2, z3⟩
    · rintro x H2 ⟨rfl, rfl⟩
      refine ⟨hw _, (show pT tYes _ _ true from fun _ q => q) _ ?_⟩
      rw [if_pos rfl]
      exact hs D i acc H2 hD c al hD' p
  · have e : i = n := by omega
    subst e
    exact .inl ⟨Nat.le_refl _, q D acc H' hD hD' al p⟩
end
end PB

set_option maxRecDepth 100000
set_option autoImplicit false
set_option maxHeartbeats 4000000
namespace PB
open PySem PySem.Spec PyProof.Rows L2
open C8 (Met)
/-! ### == by an own __eq__, isinstance of an own class, is of bools, zip -/
structure OwnC (K : PySem.W.Frag) (C : Addr) : Prop where
  a : PySem.W.findIn K (.ref C) "__class__" = some (some (.builtin "object.__class__"))
  b : PySem.W.specialIn K (.builtin "object.__class__") "__get__" = some (some (.builtin "getset_descriptor.__get__"))
  c : PySem.W.takesIn K (.builtin "object.__class__") = some true
  d : PySem.W.mroIn K C (.type "object") = some true
  e : PySem.W.kitOne K (.ref C) (.ref C) = some true
  f : PySem.W.kitOne K (.type "int") (.ref C) = some false
  g : PySem.W.kitOne K (.type "list") (.ref C) = some false
  h : PySem.W.notFirst K C (.type "int") = true
  i : PySem.W.notFirst K C (.type "list") = true
  j : PySem.W.notFirst K C (.ref C) = true
  k : Cls K C
inductive RightOf (K : PySem.W.Frag) (C : Addr) (H : Hp) : V → Value → Prop where
  | own {b dx : Addr} {fs : List (Str × V)} (e : H b = some (.ins C dx fs)) : RightOf K C H (.ref b) (.ref C)
  | int (i : Int) : RightOf K C H (.int i) (.type "int")
  | lst {a : Addr} {xs : List V} (e : H a = some (.lst xs)) : RightOf K C H (.ref a) (.type "list")
def rOwn (K : PySem.W.Frag) (C : Addr) (sp : Sp) : R2 := fun x y H Q => ∃ a dx fs T, x = .ref a ∧ H a = some (.ins C dx fs) ∧ RightOf K C H y T ∧ PySem.W.notFirst K C T = true ∧ sp [.ref a, y] H (fun v H' => (∃ b, v = .bl b) ∧ Q v H') E0
theorem op_own {X : Cx} {C : Addr} {sp : Sp} {j k : Nat} (c : Met X.prog X.w X.K X.mg X.base k C "__eq__" sp []) (hr : Room j X.A) (hk : k ≤ j) : OpR X (compareOp .Eq) (rOwn X.K C sp) := by
  intro pins s σ H x y v u Q I rx ry h
  obtain ⟨a, dx, fs, T, rfl, ha, hy, hn, q⟩ := h
  obtain rfl : v = Value.ref a := rx
  obtain ⟨g, fd, ps, ds, hc, hm, F, b, d⟩ := c.ex
  obtain ⟨mA, J, _⟩ := ins_get I.hok ha
  obtain ⟨od, J, _⟩ := J.look
  obtain ⟨m, hF⟩ := I.fr
  have hT : PySem.W.Looks (model X.prog X.w) s.heap (typeOf u) T := by
    cases hy with
    | @own b dy gs e =>
      obtain rfl : u = Value.ref b := ry
      obtain ⟨mB, J', _⟩ := ins_get I.hok e
      obtain ⟨od', J', _⟩ := J'.look
      exact J'.type
    | int i =>
      obtain ⟨t, rfl⟩ := (show ∃ t, u = Value.int i t from ry)
      exact PySem.W.Looks.of_pure rfl
    | @lst b xs e =>
      obtain rfl : u = Value.ref b := ry
      obtain ⟨_, _, n, _, h1⟩ := (show ObjOk X.prog X.w H s.heap b (.lst xs) from I.hok b _ e)
      exact (PySem.W.Looks.ld h1).andThen .now
  show wpAny (model X.prog X.w) X.A (richCompare .Eq (.ref a) u) (EP X pins σ Q) X.xe s
  refine PySem.W.cmp_K (op := .Eq) (tb := T) hr.units0 hF I.ok.mod.kin J hT hn hm.at_ hm.fn ?_
  have r := run_fn (E := L2.E0) (us := [.ref a, u]) (vs := [.ref a, y]) F (hr.mono hk) b d pass0 I (.cons rfl (.cons ry .nil)) q
  refine wpAny_mono r (fun w s' z => ?_) fun _ _ e => e
  obtain ⟨v', H', I', rv, ⟨bb, rfl⟩, q'⟩ := z
  obtain rfl : w = Value.bool bb := rv
  exact ⟨.bl bb, H', I', rfl, q'⟩
def ownOk (K : PySem.W.Frag) (C : Addr) : Bool :=
  He.eqO (PySem.W.findIn K (.ref C) "__class__") (some (some (.builtin "object.__class__"))) && (He.eqO (PySem.W.specialIn K (.builtin "object.__class__") "__get__") (some (some (.builtin "getset_descriptor.__get__"))) &&
  (decide (PySem.W.takesIn K (.builtin "object.__class__") = some true) && (decide (PySem.W.mroIn K C (.type "object") = some true) && (decide (PySem.W.kitOne K (.ref C) (.ref C) = some true) &&
  (decide (PySem.W.kitOne K (.type "int") (.ref C) = some false) && (decide (PySem.W.kitOne K (.type "list") (.ref C) = some false) && (PySem.W.notFirst K C (.type "int") && (PySem.W.notFirst K C (.type "list") && PySem.W.notFirst K C (.ref C)))))))))
theorem ownOk_ok {K : PySem.W.Frag} {C : Addr} (h : ownOk K C = true) (k : Cls K C) : OwnC K C := by
  obtain ⟨h1, h⟩ := He.ba h
  obtain ⟨h2, h⟩ := He.ba h
  obtain ⟨h3, h⟩ := He.ba h
  obtain ⟨h4, h⟩ := He.ba h
  obtain ⟨h5, h⟩ := He.ba h
  obtain ⟨h6, h⟩ := He.ba h
  obtain ⟨h7, h⟩ := He.ba h
  obtain ⟨h8, h⟩ := He.ba h
  obtain ⟨h9, h10⟩ := He.ba h
  exact ⟨He.eqO_ok h1, He.eqO_ok h2, of_decide_eq_true h3, of_decide_eq_true h4, of_decide_eq_true h5, of_decide_eq_true h6, of_decide_eq_true h7, h8, h9, h10, k⟩
section
variable {K : PySem.W.Frag} {σ : L2.St} {H : Hp} {C b dx : Addr} {fs : List (Str × V)} {xs : List V} {i : Int} {Q : VK}
theorem p_isOwn (o : OwnC K C) (e : H b = some (.ins C dx fs)) : pC (rIsi K) [.ref b, .ref C] H (.bl true) := fun _ q => ⟨_, _, _, _, true, rfl, .own C, .base (.ins e o.k o.a o.b o.c o.d), o.e, q⟩
theorem p_isOwnI (o : OwnC K C) : pC (rIsi K) [.int i, .ref C] H (.bl false) := fun _ q => ⟨_, _, _, _, false, rfl, .own C, .base (.int i), o.f, q⟩
theorem p_isOwnL (o : OwnC K C) (e : H b = some (.lst xs)) : pC (rIsi K) [.ref b, .ref C] H (.bl false) := fun _ q => ⟨_, _, _, _, false, rfl, .own C, .base (.lst e), o.g, q⟩
theorem k_own {a dy : Addr} {gs : List (Str × V)} {sp : Sp} (o : OwnC K C) (ha : H a = some (.ins C dx fs)) (hb : H b = some (.ins C dy gs)) (q : sp [.ref a, .ref b] H (fun v H' => (∃ k, v = .bl k) ∧ Q v H') E0) : rOwn K C sp (.ref a) (.ref b) H Q := ⟨a, dx, fs, _, rfl, ha, .own hb, o.j, q⟩
theorem k_ownI {a : Addr} {sp : Sp} (o : OwnC K C) (ha : H a = some (.ins C dx fs)) (q : sp [.ref a, .int i] H (fun v H' => (∃ k, v = .bl k) ∧ Q v H') E0) : rOwn K C sp (.ref a) (.int i) H Q := ⟨a, dx, fs, _, rfl, ha, .int i, o.h, q⟩
theorem k_ownL {a : Addr} {sp : Sp} (o : OwnC K C) (ha : H a = some (.ins C dx fs)) (hb : H b = some (.lst xs)) (q : sp [.ref a, .ref b] H (fun v H' => (∃ k, v = .bl k) ∧ Q v H') E0) : rOwn K C sp (.ref a) (.ref b) H Q := ⟨a, dx, fs, _, rfl, ha, .lst hb, o.i, q⟩
def mIsB : R2 := fun x y H Q => match x, y with
  | .bl a, .bl b => Q (.bl (decide (a = b))) H
  | _, _ => False
def mNotB : R2 := fun x y H Q => match x, y with
  | .bl a, .bl b => Q (.bl (!decide (a = b))) H
  | _, _ => False
theorem op_mIsB {X : Cx} : OpR X (compareOp .Is) mIsB := op_imp op_isBl fun x y H Q h => by
  cases x <;> cases y <;> first | exact h.elim | exact ⟨_, _, rfl, rfl, h⟩
theorem op_mNotB {X : Cx} : OpR X (compareOp .IsNot) mNotB := op_imp op_notBl fun x y H Q h => by
  cases x <;> cases y <;> first | exact h.elim | exact ⟨_, _, rfl, rfl, h⟩
theorem p_isB {x y : Bool} : pR mIsB (.bl x) (.bl y) H (.bl (decide (x = y))) := fun _ q => q
theorem p_notB {x y : Bool} : pR mNotB (.bl x) (.bl y) H (.bl (!decide (x = y))) := fun _ q => q
def kAug (n : Nat) (g : Int → Int → Int) (D : Ends) (σ : L2.St) (x : Int) : VK := fun y H1 => match y with
  | .int z => D.nx (σ.set n (some (.int (g x z)))) H1
  | _ => False
theorem w_augK {n : Nat} {g : Int → Int → Int} {x : Int} {te : TE} {D : Ends} (h : σ[n]? = some (some (.int x))) (q : te σ H (kAug n g D σ x)) : mAug n te g D σ H := by
  unfold mAug
  simp only [h]
  exact q
theorem k_kAug {n : Nat} {g : Int → Int → Int} {x z : Int} {D : Ends} (h : D.nx (σ.set n (some (.int (g x z)))) H) : kAug n g D σ x (.int z) H := h
end
end PB

set_option maxRecDepth 100000
set_option autoImplicit false
set_option maxHeartbeats 4000000
namespace PB
open PySem PySem.Spec PyProof.Rows L2
/-! ### a slice stored, its end given or not -/
theorem sb_to {i j n : Nat} (h1 : i ≤ j) (h2 : j ≤ n) : sliceBounds (some (i : Int)) (some (j : Int)) none n = ((i : Int), (j : Int), 1) := by
  simp only [sliceBounds, Option.getD_none, show ¬ ((i : Int) < 0) by omega, show ¬ ((j : Int) < 0) by omega, if_false, show (1 : Int) > 0 by decide, if_true, Prod.mk.injEq, and_true]
  omega
theorem sb_open {i n : Nat} (h1 : i ≤ n) : sliceBounds (some (i : Int)) none none n = ((i : Int), (n : Int), 1) := by
  simp only [sliceBounds, Option.getD_none, show ¬ ((i : Int) < 0) by omega, if_false, show (1 : Int) > 0 by decide, if_true, Prod.mk.injEq, and_true]
  omega
theorem sb_upto {j n : Nat} (h2 : j ≤ n) : sliceBounds none (some (j : Int)) none n = (0, (j : Int), 1) := by
  show ((0 : Int), (if (1 : Int) > 0 then max 0 (min (if (j : Int) < 0 then (j : Int) + n else (j : Int)) n) else _), (1 : Int)) = _
  rw [if_pos (by decide), if_neg (by omega), show max 0 (min (j : Int) n) = j by omega]
section
variable {prog : Program} {w : World} {A : Around} {E : Value → Shared → Prop} {s : Shared}
theorem setSl {l b sl : Addr} {items new : Array Value} {n n2 : Nat} {vl vu : Value} {lo hi : Option Int} {i j : Nat} {Q : Unit → Shared → Prop} (e : s.heap.get? l = some { cls := .type "list", data := .seq items n })
    (e2 : s.heap.get? b = some { cls := .type "list", data := .seq new n2 }) (hne : l ≠ b) (hs : s.heap.IsSliceOf sl vl vu .none) (pl : IsPart vl lo) (pu : IsPart vu hi) (hb : sliceBounds lo hi none items.size = ((i : Int), (j : Int), 1)) (hij : i ≤ j)
    (hz : items.size + new.size ≤ sizeLine) (h : Q () { s with heap := s.heap.update l (Obj.mapSeq fun xs => xs.extract 0 i ++ new ++ xs.extract j xs.size) }) : wpAny (model prog w) A (setItem (.ref l) (.ref sl) (.ref b)) Q E s := by
  have tl : s.TypeIs (.ref l) "list" := (PySem.IsL.isList e).typeIs
  have tb : s.TypeIs (.ref b) "list" := (PySem.IsL.isList e2).typeIs
  obtain ⟨o, ho, hc, hd⟩ := id hs
  have ts : s.TypeIs (.ref sl) "slice" := ⟨o, ho, hc⟩
  have same : Builtin.List.listSameRef (.ref l) (.ref b) = false := beq_eq_false_iff_ne.mpr hne
  have zf : ((fun xs : Array Value => xs.extract 0 i ++ new ++ xs.extract j xs.size) items).size ≤ sizeLine + 1 := by
    simp only [Array.size_append, Array.size_extract]; omega
  unfold setItem; (try with_reducible refine wpAny_holding ?_); (first | refine wpAny_bind (wpAny_pure ?_) | skip)
  refine wpAny_bind (wpAny_sequenceKey tl (by decide) (wpAny_bind (wpAny_callSpecial?_slot (name := Str.ofString "__setitem__") tl slot_list_setitem (wpAny_call_entry slot_list_setitem tl entry_list_setitem ?_ (args_list_setitem _ _ _)))))
  show wpAny _ _ (Builtin.List.listSubscript? (.ref sl) >>= _) _ _ s
  refine wpAny_bind ?_; unfold Builtin.List.listSubscript?
  refine wpAny_bind (wpAny_specialOf ts slice_no_index ?_); simp only [Option.isNone_none, if_true]
  refine wpAny_pure (?_ : wpAny _ _ (typeOf (.ref sl) >>= _) _ _ s)
  refine wpAny_bind (wpAny_typeOf ts ?_); (first | rw [if_neg (by decide)] | refine PySem.W.KFB.if_not (by decide) ?_)
  rw [listSliceParts_eq]; refine wpAny_bind (wpAny_bind (wpAny_field ho hd (x := .none) rfl (wpAny_bind (wpAny_listPart .none ?_))))
  rw [if_neg (show ¬ ((rawPart none == rawInt 0) = true) from Bool.false_ne_true)]
  refine wpAny_bind (wpAny_field ho hd (x := vl) rfl (wpAny_bind (wpAny_listPart pl (wpAny_bind (wpAny_field ho hd (x := vu) rfl (wpAny_bind (wpAny_listPart pu (wpAny_pure ?_))))))))
  (first | simp only [same, Bool.false_eq_true, if_false] | refine PySem.W.KFB.if_not same ?_ | (dsimp only; rw [if_neg (by rw [same]; exact Bool.false_ne_true)]))
  refine wpAny_bind (m := Builtin.List.listAllItems (.ref b) "must assign iterable to extended slice") ?_; unfold Builtin.List.listAllItems
  refine wpAny_bind (wpAny_typeOf tb ?_); (first | refine PySem.W.KFB.if_so (by decide) ?_ | rw [if_pos (by decide)] | simp only [beq_self_eq_true, Bool.true_or, if_true])
  unfold Builtin.List.listItems; refine wpAny_bind (wpAny_seqItems e2 rfl (wpAny_pure (wpAny_bind (wpAny_bind (wpAny_seqItems e rfl (wpAny_pure ?_))))))
  refine wpAny_bind (wpAny_of_eq ((sliceIndices_raw lo hi none items.size (by simp)).trans (congrArg (pure : Int × Int × Int → Sem (Int × Int × Int)) hb)) ?_)
  show wpAny _ _ (if ((1 : Int) == 1) = true then _ else _) _ _ s
  rw [if_pos (by decide)]; refine wpAny_bind (wpAny_rule ?_)
  (first | simp only [notLongL hz, Bool.false_eq_true, if_false] | refine PySem.W.KFB.if_not (notLongL hz) ?_); (first | refine wpAny_bind (wpAny_pure ?_) | skip)
  show wpAny _ _ (updateSeq l (fun xs => xs.extract 0 ((i : Int)).toNat ++ new ++ xs.extract (max (i : Int) (j : Int)).toNat xs.size) >>= _) _ _ s
  rw [show (max (i : Int) (j : Int)).toNat = j by omega, Int.toNat_natCast]
  refine wpAny_bind (wpAny_updateSeq (hz := Nat.le_trans (Nat.le_add_right _ _) hz) (_hz' := zf) e rfl (wpAny_bind (wpAny_letGo ?_)))
  (first | exact wpAny_bind (wpAny_pure (wpAny_pure ⟨.none, rfl, wpAny_pure h⟩)) | exact wpAny_pure ⟨.none, rfl, wpAny_pure h⟩)
end
def mSetSl (ta : TE) (tl th : TO) (tv : TE) : TS := fun D σ H => tv σ H fun v H1 => ta σ H1 fun x H2 => tl σ H2 fun lo H3 => th σ H3 fun hi H4 => ∃ (l b : Addr) (xs ys : List V) (i j : Nat), x = .ref l ∧ v = .ref b ∧ H4 l = some (.lst xs) ∧ H4 b = some (.lst ys) ∧ l ≠ b ∧
  sliceBounds lo hi none xs.length = ((i : Int), (j : Int), 1) ∧ i ≤ j ∧ xs.length + ys.length ≤ sizeLine ∧ D.nx σ (upd H4 l (.lst (xs.take i ++ ys ++ xs.drop j)))
theorem ps_setsl {X : Cx} {o value : Expr} {lo hi : Option Expr} {ta tv : TE} {tl th : TO} {sp tp pos : Pos} (ho : PE X o ta) (hl : PO X lo tl) (hh : PO X hi th) (hv : PE X value tv)
    (hs : swapsWith value (some (.Subscript o (.Slice lo hi none sp) tp)) pos.line X.env = pure false) : PS X (.Assign [.Subscript o (.Slice lo hi none sp) tp] value pos) (mSetSl ta tl th tv) := by
  refine ⟨fun pins s σ H D I h => ?_⟩
  refine wpAny_Assign_Subscript (thn (hv.run pins s σ H _ I h) fun r s1 ⟨v, H1, I1, rv, q1⟩ => thn (ho.run pins s1 σ H1 _ I1 q1) fun u s2 ⟨x, H2, I2, rx, q2⟩ => ?_) hs
  refine wpAny_Slice (thn (hl.run pins s2 σ H2 _ I2 q2) fun vl s3 ⟨l', H3, I3, pl, q3⟩ => thn (hh.run pins s3 σ H3 _ I3 q3) fun vu s4 ⟨u', H4, I4, pu, q4⟩ => ?_)
  rw [evalPart_none]
  obtain ⟨l, b, xs, ys, i, j, rfl, rfl, hH, hB, hne, hb, hij, hz, q⟩ := q4
  obtain rfl : u = Value.ref l := rx
  obtain rfl : r = Value.ref b := rv
  refine wpAny_pure (?_ : wpAny (model X.prog X.w) X.A (setItem (.ref l) (.ref s4.heap.objs.size) (.ref b)) _ X.xe { s4 with heap := s4.heap.push { cls := .type "slice", data := .fields #[vl, vu, .none] } })
  have I5 : Inv X pins σ H4 { s4 with heap := s4.heap.push { cls := .type "slice", data := .fields #[vl, vu, .none] } } := I4.kept (t' := s4.toks) fun b ob q => Heap.get?_push_of_some _ q
  obtain ⟨z, its, n, ri, hi1, e⟩ := I5.lstM hH
  obtain ⟨z2, its2, n2, ri2, hi2, e2⟩ := I5.lstM hB
  refine setSl (i := i) (j := j) e e2 hne (Heap.IsSliceOf.new ..) pl pu (by rw [List.size_toArray, ← hi1]; exact hb) hij (by rw [List.size_toArray, List.size_toArray]; omega) ?_
  refine ⟨σ, _, I5.lset (its' := its.take i ++ its2 ++ its.drop j) (t' := s4.toks) hH e (splice_eq its its2 i j) (Vals.append (Vals.append (ri.take _) ri2) (ri.drop _)) ?_, q⟩
  rw [List.length_append, List.length_append, List.length_take, List.length_drop]
  omega
end PB

set_option maxRecDepth 100000
set_option autoImplicit false
set_option maxHeartbeats 4000000
namespace PB
open PySem PySem.Spec PyProof.Rows L2
/-! ### the first items of a list deleted -/
section
variable {prog : Program} {w : World} {A : Around} {E : Value → Shared → Prop} {s : Shared}
theorem cutIdx (j : Nat) : ∀ (xs : List Value) (k : Nat), (xs.zipIdx k).filterMap (fun p => if (decide ((0 : Int) ≤ (p.2 : Int)) && decide ((p.2 : Int) < (j : Int)) && ((p.2 : Int) - 0) % 1 == 0) = true then none else some p.1) = xs.drop (j - k)
  | [], k => by simp
  | x :: xs, k => by
    rw [List.zipIdx_cons, List.filterMap_cons, cutIdx j xs (k + 1)]
    by_cases c : k < j
    · have e : (decide ((0 : Int) ≤ (k : Int)) && decide ((k : Int) < (j : Int)) && ((k : Int) - 0) % 1 == 0) = true := by
        rw [decide_eq_true (show (0 : Int) ≤ k by omega), decide_eq_true (show (k : Int) < j by omega), show ((k : Int) - 0) % 1 = 0 by omega]; rfl
      simp only [e, if_true]
      rw [show j - k = (j - (k + 1)) + 1 by omega, List.drop_succ_cons]
    · have e : (decide ((0 : Int) ≤ (k : Int)) && decide ((k : Int) < (j : Int)) && ((k : Int) - 0) % 1 == 0) = false := by
        rw [decide_eq_false (show ¬ (k : Int) < j by omega)]; simp
      simp only [e, Bool.false_eq_true, if_false]
      rw [show j - (k + 1) = 0 by omega, show j - k = 0 by omega, List.drop_zero, List.drop_zero]
def dropF (start stop step : Int) : Value × Nat → Option Value := fun (x, k) => if (if step > 0 then decide (start ≤ (k : Int)) && decide ((k : Int) < stop) && ((k : Int) - start) % step == 0 else decide (stop < (k : Int)) && decide ((k : Int) ≤ start) && (start - (k : Int)) % (-step) == 0) = true then none else some x
theorem delSl {l sl : Addr} {items : Array Value} {n : Nat} {vl vu : Value} {lo hi : Option Int} {j : Nat} {Q : Unit → Shared → Prop} (e : s.heap.get? l = some { cls := .type "list", data := .seq items n })
    (hs : s.heap.IsSliceOf sl vl vu .none) (pl : IsPart vl lo) (pu : IsPart vu hi) (hb : sliceBounds lo hi none items.size = (0, (j : Int), 1)) (hz : items.size ≤ sizeLine)
    (h : Q () { s with heap := s.heap.update l (Obj.mapSeq fun xs => (xs.toList.drop j).toArray) }) : wpAny (model prog w) A (delItem (.ref l) (.ref sl)) Q E s := by
  have tl : s.TypeIs (.ref l) "list" := (PySem.IsL.isList e).typeIs
  obtain ⟨o, ho, hc, hd⟩ := id hs
  have ts : s.TypeIs (.ref sl) "slice" := ⟨o, ho, hc⟩
  refine wpAny_delItem_slot tl (by decide) F.slot_list_delitem (wpAny_call_entry F.slot_list_delitem tl F.entry_list_delitem ?_ (F.args_list_delitem_2 _ _))
  show wpAny _ _ (Builtin.List.listSubscript? (.ref sl) >>= _) _ _ s
  refine wpAny_bind ?_; unfold Builtin.List.listSubscript?
  refine wpAny_bind (wpAny_specialOf ts slice_no_index ?_); simp only [Option.isNone_none, if_true]
  refine wpAny_pure (?_ : wpAny _ _ (typeOf (.ref sl) >>= _) _ _ s)
  refine wpAny_bind (wpAny_typeOf ts ?_); (first | rw [if_neg (by decide)] | refine PySem.W.KFB.if_not (by decide) ?_)
  rw [listSliceParts_eq]; refine wpAny_bind (wpAny_bind (wpAny_field ho hd (x := .none) rfl (wpAny_bind (wpAny_listPart .none ?_))))
  rw [if_neg (show ¬ ((rawPart none == rawInt 0) = true) from Bool.false_ne_true)]
  refine wpAny_bind (wpAny_field ho hd (x := vl) rfl (wpAny_bind (wpAny_listPart pl (wpAny_bind (wpAny_field ho hd (x := vu) rfl (wpAny_bind (wpAny_listPart pu (wpAny_pure ?_))))))))
  unfold Builtin.List.listItems; refine wpAny_bind (wpAny_bind (wpAny_seqItems e rfl (wpAny_pure ?_)))
  refine wpAny_bind (wpAny_of_eq ((sliceIndices_raw lo hi none items.size (by simp)).trans (congrArg (pure : Int × Int × Int → Sem (Int × Int × Int)) hb)) ?_)
  refine wpAny_bind (wpAny_rule ?_)
  show wpAny _ _ (updateSeq l (fun xs => (xs.toList.zipIdx.filterMap (dropF (0 : Int) (j : Int) 1)).toArray) >>= _) _ _ s
  have ef : (fun xs : Array Value => (xs.toList.zipIdx.filterMap (dropF (0 : Int) (j : Int) 1)).toArray) = fun xs => (xs.toList.drop j).toArray := funext fun xs => by
    rw [show dropF (0 : Int) (j : Int) 1 = fun p => if (decide ((0 : Int) ≤ (p.2 : Int)) && decide ((p.2 : Int) < (j : Int)) && ((p.2 : Int) - 0) % 1 == 0) = true then none else some p.1 from funext fun ⟨x, k⟩ => rfl]
    rw [cutIdx j xs.toList 0]; rfl
  rw [ef]
  have zf : ((fun xs : Array Value => (xs.toList.drop j).toArray) items).size ≤ sizeLine + 1 := by
    simp only [List.size_toArray, List.length_drop, Array.length_toList]; omega
  refine wpAny_bind (wpAny_updateSeq (hz := hz) (_hz' := zf) e rfl (wpAny_bind (wpAny_letGo ?_)))
  exact wpAny_pure ⟨.none, rfl, h⟩
end
def mDelSl (ta : TE) (tl th : TO) : TS := fun D σ H => ta σ H fun x H1 => tl σ H1 fun lo H2 => th σ H2 fun hi H3 => ∃ (l : Addr) (xs : List V) (j : Nat), x = .ref l ∧ H3 l = some (.lst xs) ∧ sliceBounds lo hi none xs.length = (0, (j : Int), 1) ∧ D.nx σ (upd H3 l (.lst (xs.drop j)))
/-- a written tuple as it lies -/
structure KTx (K : PySem.W.Frag) (a : Addr) (zs : List V) : Prop where
  ex : ∃ (its : Array Value) (n : Nat), K.lookup a = some ⟨.type "tuple", none, .seq its n, #[]⟩ ∧ Vals zs its.toList ∧ its.size ≤ 1000
def isTx (K : PySem.W.Frag) (ns : List Int) (a : Addr) : Bool := match K.lookup a with
  | some ⟨.type c, none, .seq its _, sl⟩ => decide (c = "tuple") && (sl.isEmpty && (decide (its.size ≤ 1000) && isDs K (ns.map PyData.int) its.toList))
  | _ => false
theorem isTx_ok {K : PySem.W.Frag} {ns : List Int} {a : Addr} (h : isTx K ns a = true) : KTx K a (ns.map V.int) := by
  unfold isTx at h
  split at h
  · rename_i c its n sl e
    obtain ⟨h1, h2⟩ := He.ba h
    obtain ⟨h3, h4⟩ := He.ba h2
    obtain ⟨h5, h6⟩ := He.ba h4
    have e1 : c = "tuple" := of_decide_eq_true h1
    have e2 : sl = #[] := Array.isEmpty_iff.mp h3
    subst e1 e2
    refine ⟨its, n, e, ?_, of_decide_eq_true h5⟩
    have : ∀ (ns : List Int) (us : List Value), isDs K (ns.map PyData.int) us = true → Vals (ns.map V.int) us := by
      intro ns
      induction ns with
      | nil => intro us h; cases us with
        | nil => exact .nil
        | cons _ _ => simp [isDs] at h
      | cons n ns ih => intro us h; cases us with
        | nil => simp [isDs] at h
        | cons u us =>
          rw [List.map_cons] at h
          unfold isDs at h
          obtain ⟨k1, k2⟩ := He.ba h
          cases u with
          | int i t => unfold isD at k1; exact .cons ⟨t, by rw [of_decide_eq_true k1]⟩ (ih us k2)
          | _ => simp [isD] at k1
    exact this ns _ h6
  · cases h
def rExt (K : PySem.W.Frag) : V → List V → Hp → VK → Prop := fun x vs H Q => ∃ l b xs zs, x = .ref l ∧ vs = [.ref b] ∧ H l = some (.lst xs) ∧ (H b = some (.lst zs) ∨ KTx K b zs) ∧ xs.length + zs.length ≤ sizeLine ∧ Q .non (upd H l (.lst (xs ++ zs)))
theorem mt_ext {X : Cx} : MtR X "list.extend" (rExt X.K) := by
  intro pins s σ H x vs v us Q I rx rv h
  obtain ⟨l, b, xs, zs, rfl, rfl, hH, hB | hB, hz, q⟩ := h
  · exact mt_extend pins s σ H (.ref l) [.ref b] v us Q I rx rv ⟨l, b, xs, zs, rfl, rfl, hH, hB, hz, q⟩
  · obtain rfl : v = Value.ref l := rx
    obtain ⟨u, rfl, ru⟩ := rv.one
    obtain rfl : u = Value.ref b := ru
    obtain ⟨its2, n2, hl2, r2, z2⟩ := hB.ex
    obtain ⟨z, its, n, r, hl, e⟩ := I.lstM hH
    have ll := r2.length
    have sz : its.toArray.size + its2.size ≤ sizeLine := by rw [List.size_toArray, ← Array.length_toList]; omega
    have long : ¬ (!its.toArray.isEmpty && Builtin.List.listTooLong (its.toArray.size + its2.size)) = true := by rw [notLongL sz, Bool.and_false]; exact Bool.false_ne_true
    refine call_meets F.slot_list_extend ⟨_, e, rfl⟩ F.entry_list_extend (F.args_list_extend_2 _ _) (AutoSeq1.list_extend_list_tuple_0 l its.toArray n b its2 n2 long (by rw [List.size_toArray]; omega) (by omega)) ⟨e, I.kIn _ _ hl2, ?_⟩
    refine ⟨.non, _, I.lset (its' := its ++ its2.toList) hH e (by simp) (r.append r2) ?_, rfl, q⟩
    rw [List.length_append]; exact hz
theorem ps_delsl {X : Cx} {o : Expr} {lo hi : Option Expr} {ta : TE} {tl th : TO} {sp tp pos : Pos} (ho : PE X o ta) (hl : PO X lo tl) (hh : PO X hi th) : PS X (.Delete [.Subscript o (.Slice lo hi none sp) tp] pos) (mDelSl ta tl th) := by
  refine ⟨fun pins s σ H D I h => ?_⟩
  refine wpAny_Delete (wpAny_deleteEach_cons (wpAny_delete_Subscript (thn (ho.run pins s σ H _ I h) fun u s1 ⟨x, H1, I1, rx, q1⟩ => ?_)))
  refine wpAny_Slice (thn (hl.run pins s1 σ H1 _ I1 q1) fun vl s2 ⟨l', H2, I2, pl, q2⟩ => thn (hh.run pins s2 σ H2 _ I2 q2) fun vu s3 ⟨u', H3, I3, pu, q3⟩ => ?_)
  rw [evalPart_none]
  obtain ⟨l, xs, j, rfl, hH, hb, q⟩ := q3
  obtain rfl : u = Value.ref l := rx
  refine wpAny_pure (?_ : wpAny (model X.prog X.w) X.A (delItem (.ref l) (.ref s3.heap.objs.size)) _ X.xe { s3 with heap := s3.heap.push { cls := .type "slice", data := .fields #[vl, vu, .none] } })
  have I4 : Inv X pins σ H3 { s3 with heap := s3.heap.push { cls := .type "slice", data := .fields #[vl, vu, .none] } } := I3.kept (t' := s3.toks) fun b ob q => Heap.get?_push_of_some _ q
  obtain ⟨z, its, n, ri, hi1, e⟩ := I4.lstM hH
  refine delSl (j := j) e (Heap.IsSliceOf.new ..) pl pu (by rw [List.size_toArray, ← hi1]; exact hb) (by rw [List.size_toArray]; omega) ?_
  refine wpAny_deleteEach_nil ⟨σ, _, I4.lset (its' := its.drop j) (t' := s3.toks) hH e (by simp) (ri.drop _) ?_, q⟩
  rw [List.length_drop]
  omega
/-! ### an attribute as one of several targets -/
def gObj (C : Addr) (names : List Str) (i : Nat) (to : TE) : TG := fun v σ H Q => to σ H fun x H1 => ∃ p dx vals, x = .ref p ∧ H1 p = some (.ins C dx (names.zip vals)) ∧ i ≤ vals.length ∧ Q σ (upd H1 p (.ins C dx (names.zip (setN vals i v))))
theorem pg_obj {X : Cx} {C : Addr} {names : List Str} {i : Nat} {f : Str} {o : Expr} {to : TE} {pos : Pos} (cl : Cls X.K C) (na : NoAttr X.K C f) (nd : names.Nodup) (hi : names[i]? = some f) (hl : names.length < 1000) (ho : PE X o to)
    (ha : ∀ v, assign (.Attribute o f pos) X.env v = (do
      let ov ← holding [v] (eval o X.env); standAt pos.atName
      holding [v, ov] (setAttr ov f v); release [v, ov] []) := by intro _; rfl) : PG X (.Attribute o f pos) (gObj C names i to) := by
  refine ⟨fun pins s σ H v u Q I r h => ?_⟩
  rw [ha]
  refine wpAny_bind (wpAny_holding (thn (ho.run pins s σ H _ I h) fun ov s1 ⟨x, H1, I1, r1, p, dx, vals, ex, ea, hle, q1⟩ => ?_))
  subst ex
  obtain rfl : ov = Value.ref p := r1
  refine wpAny_bind (wpAny_standAt (wpAny_bind (wpAny_holding (setattr_ok I1 ea cl na (by simp; omega) r fun s3 I3 => ?_))))
  rw [put_z nd hi hle] at I3
  exact wpAny_release ⟨σ, _, I3, q1⟩
/-! ### texts put together: numbers and written signs -/
def mJoin (ts : List TE) : TE := fun σ H Q => tJs ts Str.empty σ H fun out H1 => Q (.str out) H1
end PB

set_option maxRecDepth 100000
set_option autoImplicit false
set_option maxHeartbeats 4000000
namespace PB
open PySem PySem.Spec PyProof.Rows L2
open C8 (Mak)
/-! ### C(e, .., k = v): a keyword-only parameter of __init__, given or by its default -/
structure MakK (P : Program) (w : World) (K : PySem.W.Frag) (mg : Str → Option Value) (base : Heap) (k : Nat) (x : Str) (C : Addr) (sp : Sp) (n : Nat) (ks : List Str) : Prop where
  ex : ∃ (f : Addr) (fd : FuncData) (ps : List Str), Mk K C f ∧ FnOk P w K mg base CX0 k f fd ps sp ∧ mg x = some (.ref C) ∧ KBn K fd ps (n + 1) ks (fun us ws => us ++ ws) (fun vs zs => vs ++ zs)
def mMakeK (C : Addr) (sp : Sp) (n m : Nat) (t tk : TA) : TE := fun σ H Q => t σ H fun vs H1 => tk σ H1 fun zs H2 => vs.length = n ∧ zs.length = m ∧ ∀ x dx, H2 x = none → H2 dx = none → dx ≠ x →
  sp (.ref x :: (vs ++ zs)) (upd (upd H2 dx (.own x)) x (.ins C dx [])) (fun v H3 => v = .non ∧ Q (.ref x) H3) E0
theorem pe_mmkK {X : Cx} {C : Addr} {sp : Sp} {j k n m : Nat} {x : Str} {ks : List Str} {e : Expr} {es : List Expr} {kws : List Keyword} {t tk : TA} {pos pos' : Pos} (c : MakK X.prog X.w X.K X.mg X.base k x C sp n ks) (hr : Room j X.A) (hk : k + 1 ≤ j) (hg : Gl X x) (ha : PA X (e :: es) t) (hkw : PK X kws tk)
    (hm' : ks.length = m := by rfl) (hks : (backToKw pos (keywordEach kws X.env)).filterMap (·.1) = ks := by rfl) (hall : (backToKw pos (keywordEach kws X.env)).all (·.1.isSome) = true := by rfl) (hdb : (x == ("__debug__" : Str)) = false := by decide)
    (he : starEach (e :: es) X.env = (false, eval e X.env) :: starEach es X.env := by rfl) (hpl : ((backTo pos (starEach (e :: es) X.env)).any (·.1) || (backToKw pos (keywordEach kws X.env)).any (·.1.isNone)) = false := by rfl) :
    PE X (.Call (.Name x pos') (e :: es) kws pos) (mMakeK C sp n m t tk) := by
  subst hm'
  obtain ⟨f, fd, ps, M, F, hm, b⟩ := c.ex
  exact pe_makeK (E := L2.E0) M F (hr.mono hk) hg hm b pass0 ha hkw hall hks hdb he hpl
theorem makK_ok {P : Program} {w : World} {K : PySem.W.Frag} {mg : Str → Option Value} {base : Heap} {x qual : Str} {st : Stmt} {N ps ks : List Str} {kws : List (Str × V)} {k n : Nat} {sp : Sp} {t : TS}
    (F : ∃ fd, FunD K "__init__" qual (defArgs st) (defBody st) (defScope st) [] kws (He.ma K (He.ga K x) "__init__") fd) (g : mg x = some (.ref (He.ga K x))) (M : Mk K (He.ga K x) (He.ma K (He.ga K x) "__init__")) (hk : kws ≠ [])
    (S : FnScope N ps (defScope st)) (len : Len ps.length sp) (hb : ∀ (D : Addr) (doc pm : Value) (an : Option Addr) (cdv ct : Value) (us ws : List Value), us.length = n + 1 → ws.length = ks.length →
      bindArgs (PySem.W.fnOf "__init__" qual (defArgs st) (defBody st) (defScope st) .none (.ref D) doc pm an cdv ct) ⟨us, ks.zip ws⟩ = pure (ps.zip (us ++ ws)))
    (b : Body P w K mg base k N qual st t) (p : Pure N sp t) : MakK P w K mg base (k + 1) x (He.ga K x) sp n ks := by
  obtain ⟨fd, F⟩ := F
  obtain ⟨mv, kb⟩ := F.kbinds0 (ps := ps) (n + 1) ks [] (fun vs mz zs => vs ++ zs) hk (fun q h => by cases h) (fun r1 _ r2 => r1.append r2) (fun D doc pm an cdv ct us mv ws l1 _ l3 => hb D doc pm an cdv ct us ws l1 l3)
  exact ⟨_, fd, ps, M, F.ok S len fun cdv A outer s H vs Q E hr h => ⟨t, (b _ cdv A outer s H E hr).nox, p vs H Q E h⟩, g, kb⟩
theorem makD_ok {P : Program} {w : World} {K : PySem.W.Frag} {mg : Str → Option Value} {base : Heap} {x qual : Str} {st : Stmt} {N ps : List Str} {kws : List (Str × V)} {k n : Nat} {sp : Sp} {t : TS}
    (F : ∃ fd, FunD K "__init__" qual (defArgs st) (defBody st) (defScope st) [] kws (He.ma K (He.ga K x) "__init__") fd) (g : mg x = some (.ref (He.ga K x))) (M : Mk K (He.ga K x) (He.ma K (He.ga K x) "__init__")) (hk : kws ≠ []) (hn : n + 1 + kws.length = ps.length)
    (S : FnScope N ps (defScope st)) (len : Len ps.length sp) (hb : ∀ (D : Addr) (doc pm : Value) (an : Option Addr) (cdv ct : Value) (us ks : List Value), us.length = n + 1 → ks.length = kws.length →
      KwChain D ((kws.map (·.1)).zip ks) (bindArgs (PySem.W.fnOf "__init__" qual (defArgs st) (defBody st) (defScope st) .none (.ref D) doc pm an cdv ct) ⟨us, []⟩) (ps.zip (us ++ ks)))
    (b : Body P w K mg base k N qual st t) (p : Pure N sp t) : Mak P w K mg base (k + 1) x (He.ga K x) sp (kws.map (·.2)) := by
  obtain ⟨fd, F⟩ := F
  obtain ⟨ds, rd, bd⟩ := F.binds0 (ps := ps) (n + 1) hk hn hb
  exact ⟨_, fd, ps, ds, M, F.ok S len fun cdv A outer s H vs Q E hr h => ⟨t, (b _ cdv A outer s H E hr).nox, p vs H Q E h⟩, g, bd, rd⟩
/-- with the defaults dvs behind -/
def mMakeD (C : Addr) (sp : Sp) (dvs : List V) (t : TA) : TE := fun σ H Q => t σ H fun vs H1 => ∀ x dx, H1 x = none → H1 dx = none → dx ≠ x →
  sp (.ref x :: vs ++ dvs) (upd (upd H1 dx (.own x)) x (.ins C dx [])) (fun v H2 => v = .non ∧ Q (.ref x) H2) E0
theorem pe_mmkD {X : Cx} {C : Addr} {sp : Sp} {j k : Nat} {x : Str} {dvs : List V} {e : Expr} {es : List Expr} {t : TA} {pos pos' : Pos} (c : Mak X.prog X.w X.K X.mg X.base k x C sp dvs) (hr : Room j X.A) (hk : k + 1 ≤ j) (hg : Gl X x) (ha : PA X (e :: es) t)
    (hdb : (x == ("__debug__" : Str)) = false := by decide) (he : starEach (e :: es) X.env = (false, eval e X.env) :: starEach es X.env := by rfl) (hpl : (backTo pos (starEach es X.env)).any (·.1) = false := by rfl) :
    PE X (.Call (.Name x pos') (e :: es) [] pos) (mMakeD C sp dvs t) := by
  obtain ⟨f, fd, ps, ds, M, F, hm, b, d⟩ := c.ex
  refine ⟨fun pins s σ H Q I h => ?_⟩
  refine wpAny_Call_Name_kw (ld_glob I hg hm ?_ hdb)
  refine PySem.W.callWith_K (first := []) (h₀ := X.base) I.ok.mod.kin M.kp (thn (ha.run pos pins s σ H _ I h) fun us s1 ⟨vs, H1, I1, r, q⟩ => ⟨I1.kIn, run_make (E := L2.E0) M F (hr.mono hk) b d pass0 I1 r q⟩) he hpl
end PB

local macro_rules | `(tactic| walk_at "ne") => `(tactic| first
  | assumption
  | (apply Ne.symm; assumption)
  | exact L2.ne_of (by assumption) (by assumption) (by intro z; cases z)
  | exact PB.ne_fresh (by assumption) (by assumption)
  | exact (PB.ne_fresh (by assumption) (by assumption)).symm
  | exact PB.ne_fresh (by assumption) (by walk_at "heap")
  | exact (PB.ne_fresh (by assumption) (by walk_at "heap")).symm)
local macro_rules | `(tactic| walk_at "heap") => `(tactic| first
  | assumption
  | exact L2.upd_same
  | (apply PB.get_ne; (· (walk_at "ne")); (· (walk_at "heap")))
  | exact PB.ext_get (by assumption) (by walk_at "heap"))
local macro_rules | `(tactic| walk_at "pR") => `(tactic| first
  | with_reducible exact PB.p_add
  | with_reducible exact PB.p_sub
  | with_reducible exact PB.p_eqI
  | with_reducible exact PB.p_neI
  | with_reducible exact PB.p_lt
  | with_reducible exact PB.p_le
  | with_reducible exact PB.p_gt
  | with_reducible exact PB.p_ge
  | with_reducible exact PB.p_eqB
  | with_reducible exact PB.p_neB
  | with_reducible exact PB.p_eqS
  | with_reducible exact PB.p_neS
  | with_reducible exact PB.p_isN
  | with_reducible exact PB.p_notN
  | with_reducible exact PB.p_bor
  | with_reducible exact PB.p_band
  | ((with_reducible apply PB.p_inDI); (· (assumption)))
  | ((with_reducible apply PB.p_ixDI); (· (assumption)); (· (assumption)))
  | ((with_reducible apply PB.p_mod); (· (first | omega | decide)))
  | ((with_reducible apply PB.p_div); (· (first | exact ⟨by omega, by decide +kernel⟩ | exact L2.wide_div (b := 64) (by omega) (by omega) (by decide) (by decide))))
  | ((with_reducible apply PB.p_mul); (· (first | assumption | exact PB.CMulW_of (by omega) (by omega))))
  | ((with_reducible apply PB.p_ixH); (· (walk_at "heap")); (· (first | rfl | assumption)))
  | ((with_reducible apply PB.p_ixU); (· (walk_at "heap")); (· (first | rfl | assumption)))
  | ((with_reducible apply PB.p_ixIU); (· (walk_at "heap")); (· (omega)); (· (first | omega | (simp only [List.length_map] at *; omega))))
  | ((with_reducible apply PB.p_ixIL); (· (assumption)); (· (omega)); (· (first | omega | (simp only [List.length_map] at *; omega))))
  | ((with_reducible apply PB.p_ixIH); (· (walk_at "heap")); (· (omega)); (· (first | omega | (simp only [List.length_map] at *; omega)))))
local macro_rules | `(tactic| walk_at "pC") => `(tactic| first
  | with_reducible exact PB.p_abs
  | with_reducible exact PB.p_max
  | with_reducible exact PB.p_min
  | with_reducible exact PB.p_intI
  | with_reducible exact PB.p_intB
  | with_reducible exact PB.p_boolB
  | with_reducible exact PB.p_boolI
  | ((with_reducible apply PB.p_lenH); (· (walk_at "heap")))
  | ((with_reducible apply PB.p_lenU); (· (walk_at "heap")))
  | ((with_reducible apply PB.p_lenL); (· (assumption)))
  | with_reducible exact PB.p_isInt
  | with_reducible exact PB.p_isIntB
  | ((with_reducible apply PB.p_isLst); (· (walk_at "heap")))
  | ((with_reducible apply PB.p_isTup); (· (walk_at "heap"))))
local macro_rules | `(tactic| walk_at "pA") => `(tactic| first
  | with_reducible exact PB.p_nil
  | ((with_reducible apply PB.p_cons); (· (walk_at "pE")); (· (walk_at "pA"))))
local macro_rules | `(tactic| walk_at "pE") => `(tactic| first
  | with_reducible exact PB.p_c
  | ((with_reducible apply PB.p_var); (· (exact rfl)))
  | ((with_reducible apply PB.p_op); (· (walk_at "pE")); (· (walk_at "pE")); (· (walk_at "pR")))
  | ((with_reducible apply PB.p_ofld); (· (walk_at "pE")); (· (walk_at "heap")); (· (exact rfl)))
  | ((with_reducible apply PB.p_dgetz); (· (walk_at "pE")); (· (walk_at "heap")); (· (exact rfl)))
  | ((with_reducible apply PB.p_chain); (· (walk_at "pE")); (· (walk_at "pE")); (· (walk_at "pR")); (· (walk_at "pE")); (· (walk_at "pR")))
  | ((with_reducible apply PB.p_cb); (· (walk_at "pA")); (· (walk_at "pC")))
  | ((with_reducible apply PB.p_neg); (· (walk_at "pE")))
  | ((with_reducible apply PB.p_notV); (· (walk_at "pE")))
  | ((with_reducible apply PB.p_andV); (· (walk_at "pE")); (· (intro _; walk_at "pE")))
  | ((with_reducible apply PB.p_orV); (· (walk_at "pE")); (· (intro _; walk_at "pE")))
  | ((with_reducible apply PB.p_call); (· (walk_at "pA")); (· (walk_at "pS"))))
local macro_rules | `(tactic| walk_at "pT") => `(tactic| first
  | with_reducible exact PB.p_yes
  | ((with_reducible apply PB.p_test); (· (walk_at "pE")))
  | ((with_reducible apply PB.p_and); (· (walk_at "pT")); (· (intro _; walk_at "pT")))
  | ((with_reducible apply PB.p_or); (· (walk_at "pT")); (· (intro _; walk_at "pT")))
  | ((with_reducible apply PB.p_not); (· (walk_at "pT")))
  | ((with_reducible apply PB.p_truB); (· (walk_at "pE")))
  | ((with_reducible apply PB.p_truI); (· (walk_at "pE")))
  | ((with_reducible apply PB.p_truL); (· (walk_at "pE")); (· (walk_at "heap"))))
local macro_rules | `(tactic| walk_at "cond") => `(tactic| (
  intro hcond
  try simp only [Bool.and_eq_true, Bool.or_eq_true, Bool.not_eq_true', Bool.not_eq_false', Bool.and_eq_false_iff, Bool.or_eq_false_iff, decide_eq_true_eq, decide_eq_false_iff_not, PB.intsL, List.mem_cons, List.not_mem_nil, or_false, Bool.not_not, Bool.false_eq_true, Bool.true_eq_false] at hcond) <;> try (exfalso; omega))
local macro_rules | `(tactic| walk_at "w") => `(tactic| first
  | ((with_reducible apply PB.w_seq))
  | ((with_reducible apply PB.w_cut))
  | ((with_reducible apply PB.w_if); (· (walk_at "pT")); all_goals walk_at "cond")
  | ((with_reducible apply PB.w_next))
  | ((with_reducible apply PB.w_ret); (· (walk_at "pE")))
  | ((with_reducible apply PB.w_retN))
  | ((with_reducible apply PB.w_asg); (· (walk_at "pE")))
  | ((with_reducible apply PB.w_oset2); (· (walk_at "pE")); (· (walk_at "pE")); (· (exact Nat.le_of_ble_eq_true rfl)))
  | ((with_reducible apply PB.w_oset); (· (walk_at "pE")); (· (walk_at "pE")); (· (walk_at "heap")); (· (exact Nat.le_of_ble_eq_true rfl)))
  | ((with_reducible apply PB.w_oaug2); (· (walk_at "pE")); (· (exact rfl)); (· (walk_at "pE")))
  | ((with_reducible apply PB.w_oaug); (· (walk_at "pE")); (· (walk_at "heap")); (· (exact rfl)); (· (walk_at "pE")))
  | ((with_reducible apply PB.w_aug); (· (exact rfl)); (· (walk_at "pE")))
  | ((with_reducible apply PB.w_dset2); (· (walk_at "pE")); (· (walk_at "pE")); (· (exact Nat.le_of_ble_eq_true rfl)))
  | ((with_reducible apply PB.w_dset); (· (walk_at "pE")); (· (walk_at "pE")); (· (walk_at "heap")); (· (exact Nat.le_of_ble_eq_true rfl)))
  | ((with_reducible apply PB.w_append); (· (walk_at "pE")); (· (walk_at "heap")); (· (walk_at "pE")); (· (first | assumption | (apply PB.sz_lt; omega))))
  | ((with_reducible apply PB.w_retT); (· (walk_at "pA")); (· (exact PB.szle rfl)))
  | ((with_reducible apply PB.w_retL); (· (walk_at "pA")); (· (exact PB.szle rfl)))
  | ((with_reducible apply PB.w_asgL); (· (walk_at "pA")); (· (exact PB.szle rfl)))
  | ((with_reducible apply PB.w_asgT); (· (walk_at "pA")); (· (exact PB.szle rfl)))
  | ((with_reducible apply PB.w_asgC); (· (walk_at "pA")))
  | ((with_reducible apply PB.w_retC); (· (walk_at "pA")))
  | ((with_reducible apply PB.w_dropC); (· (walk_at "pA")))
  | ((with_reducible apply PB.w_ifC); (· (walk_at "pA")))
  | ((with_reducible apply PB.w_appendT); (· (walk_at "pE")); (· (walk_at "heap")); (· (walk_at "pA")); (· (exact PB.szle rfl)); (· (first | assumption | (apply PB.sz_lt; omega))))
  | ((with_reducible apply PB.w_retM); (· (walk_at "pE")); (· (walk_at "heap")); (· (walk_at "pA")))
  | ((with_reducible apply PB.w_asgM); (· (walk_at "pE")); (· (walk_at "heap")); (· (walk_at "pA")))
  | ((with_reducible apply PB.w_dropM); (· (walk_at "pE")); (· (walk_at "heap")); (· (walk_at "pA")))
  | ((with_reducible apply PB.w_break))
  | ((with_reducible apply PB.w_cont))
  | ((with_reducible apply PB.w_asgK))
  | ((with_reducible apply PB.w_retK))
  | ((with_reducible apply PB.w_dropK))
  | ((with_reducible apply PB.w_osetK))
  | ((with_reducible apply PB.w_dsetK))
  | ((with_reducible apply PB.w_ifK))
  | ((with_reducible apply PB.k_kIf); all_goals walk_at "cond")
  | walk_at "k")
local macro_rules | `(tactic| walk_at "k") => `(tactic| first
  | ((with_reducible apply PB.k_tupP); (· (walk_at "pA")); (· (exact PB.szle rfl)))
  | ((with_reducible apply PB.k_lstP); (· (walk_at "pA")); (· (exact PB.szle rfl)))
  | ((with_reducible apply PB.k_call); (· (walk_at "pA")))
  | ((with_reducible apply PB.k_meth); (· (walk_at "pE")); (· (walk_at "heap")); (· (walk_at "pA")))
  | ((with_reducible apply PB.k_tup))
  | ((with_reducible apply PB.k_lst))
  | ((with_reducible apply PB.k_newT); (· (exact PB.szle rfl)))
  | ((with_reducible apply PB.k_newL); (· (exact PB.szle rfl)))
  | ((with_reducible apply PB.k_callK))
  | ((with_reducible apply PB.k_nil))
  | ((with_reducible apply PB.k_consP); (· (walk_at "pE")))
  | ((with_reducible apply PB.k_cons))
  | ((with_reducible apply PB.k_cb))
  | ((with_reducible apply PB.k_slP); (· (walk_at "pE")))
  | ((with_reducible apply PB.k_part); (· (walk_at "pE")))
  | ((with_reducible apply PB.k_noPart))
  | ((with_reducible apply PB.k_tupleOf); (· (walk_at "heap")))
  | ((with_reducible apply PB.k_listOf); (· (walk_at "heap")))
  | ((with_reducible apply PB.k_listOfL); (· (assumption)))
  | ((with_reducible apply PB.k_slL); (· (walk_at "heap")))
  | ((with_reducible apply PB.k_slLs); (· (assumption)))
  | ((with_reducible apply PB.k_cat); (· (walk_at "heap")); (· (walk_at "heap")); (· (first | exact PB.szle rfl | (apply PB.sz_le; simp only [List.length_map, List.length_append, List.length_cons, List.length_nil] at *; omega))))
  | ((with_reducible apply PB.k_inU); (· (walk_at "heap")); (· (exact rfl)))
  | ((with_reducible apply PB.k_inL); (· (walk_at "heap")); (· (exact rfl)))
  | ((with_reducible apply PB.k_notInL); (· (walk_at "heap")); (· (exact rfl)))
  | ((with_reducible apply PB.k_lc))
  | ((with_reducible apply PB.k_orP); (· (walk_at "pT")); all_goals walk_at "cond")
  | ((with_reducible apply PB.k_andP); (· (walk_at "pT")); all_goals walk_at "cond")
  | ((with_reducible apply PB.k_or))
  | ((with_reducible apply PB.k_and))
  | ((with_reducible apply PB.k_notK))
  | ((with_reducible apply PB.k_kOr); all_goals walk_at "cond")
  | ((with_reducible apply PB.k_kAnd); all_goals walk_at "cond")
  | ((with_reducible apply PB.k_kNot))
  | ((with_reducible apply PB.k_kM); (· (walk_at "heap")); (· (walk_at "pA")))
  | ((with_reducible apply PB.k_methK))
  | ((with_reducible apply PB.k_make); (· (walk_at "pA")))
  | ((with_reducible apply PB.k_testK))
  | ((with_reducible apply PB.k_kTest))
  | ((with_reducible apply PB.k_kTru))
  | ((with_reducible apply PB.k_kTruI))
  | ((with_reducible apply PB.k_kTruN))
  | ((with_reducible apply PB.k_truK))
  | ((with_reducible apply PB.k_op))
  | ((with_reducible apply PB.k_pure); (· (walk_at "pE"))))
local macro_rules | `(tactic| walk_at "ws") => `(tactic| repeat' walk_at "w")
local macro_rules | `(tactic| walk_at "len") => `(tactic| (
  intro vs H Q E h
  first
  | (obtain ⟨e, _⟩ := h; subst e; rfl)
  | (obtain ⟨_, e, _⟩ := h; subst e; rfl)
  | (obtain ⟨_, _, e, _⟩ := h; subst e; rfl)
  | (obtain ⟨_, _, _, e, _⟩ := h; subst e; rfl)
  | (obtain ⟨_, _, _, _, e, _⟩ := h; subst e; rfl)
  | (obtain ⟨_, _, _, _, _, e, _⟩ := h; subst e; rfl)
  | (obtain ⟨_, _, _, _, _, _, e, _⟩ := h; subst e; rfl)
  | (obtain ⟨_, _, _, _, _, _, _, e, _⟩ := h; subst e; rfl)
  | (obtain ⟨_, _, _, _, _, _, _, _, e, _⟩ := h; subst e; rfl)
  | (obtain ⟨_, _, _, _, _, _, _, _, _, e, _⟩ := h; subst e; rfl)
  | (obtain ⟨_, _, _, _, _, _, _, _, _, _, e, _⟩ := h; subst e; rfl)
  | (obtain ⟨_, _, _, _, _, _, _, _, _, _, _, e, _⟩ := h; subst e; rfl)))
namespace PG
open PySem PySem.Spec PyProof.Rows L2
open PB (setN)
/-! ### frames: what may change, what is new -/
def Fr (o o' : List Addr) (H H' : Hp) : Prop := (∀ a x, a ∉ o → H a = some x → H' a = some x) ∧ ∀ a, a ∈ o' → a ∈ o ∨ H a = none
theorem Fr.refl (o : List Addr) (H : Hp) : Fr o o H H := ⟨fun _ _ _ h => h, fun _ h => .inl h⟩
theorem Fr.trans {o o1 o2 : List Addr} {H H1 H2 : Hp} (a : Fr o o1 H H1) (b : Fr o1 o2 H1 H2) : Fr o o2 H H2 := by
  refine ⟨fun x y hx hy => b.1 x y (fun m => ?_) (a.1 x y hx hy), fun x m => ?_⟩
  · rcases a.2 x m with h | h
    · exact hx h
    · rw [hy] at h; cases h
  · rcases b.2 x m with h | h
    · exact a.2 x h
    · by_cases hx : x ∈ o
      · exact .inl hx
      · right
        cases e : H x with
        | none => rfl
        | some y => rw [a.1 x y hx e] at h; cases h
/-! ### data that never change: tuples of them, numbers, texts -/
mutual
def imm : PyData → Bool
  | .tuple ds => immAll ds
  | .list _ => false
  | .dict _ => false
  | _ => true
def immAll : List PyData → Bool
  | [] => true
  | d :: ds => imm d && immAll ds
end
/-- tuples stay -/
def Tst (H H' : Hp) : Prop := ∀ a xs, H a = some (.tup xs) → H' a = some (.tup xs)
theorem Tst.refl (H : Hp) : Tst H H := fun _ _ h => h
theorem Tst.trans {H H1 H2 : Hp} (a : Tst H H1) (b : Tst H1 H2) : Tst H H2 := fun x y h => b x y (a x y h)
/-! Dp, no tuple of it frozen -/
mutual
def Im (K : PySem.W.Frag) (H : Hp) : PyData → V → Prop
  | .tuple ds, v => ∃ a xs, v = .ref a ∧ H a = some (.tup xs) ∧ ImAll K H ds xs
  | .none, v => v = .non
  | .bool b, v => v = .bl b
  | .int i, v => v = .int i
  | .str x, v => v = .str x
  | .list _, _ => False
  | .dict _, _ => False
def ImAll (K : PySem.W.Frag) (H : Hp) : List PyData → List V → Prop
  | [], xs => xs = []
  | d :: ds, xs => ∃ v r, xs = v :: r ∧ Im K H d v ∧ ImAll K H ds r
end
mutual
theorem Im.mono {K : PySem.W.Frag} {H H' : Hp} (t : Tst H H') : ∀ (d : PyData) (v : V), Im K H d v → Im K H' d v
  | .tuple ds, v, h => by
    unfold Im at h ⊢
    obtain ⟨a, xs, rfl, h1, h2⟩ := h
    exact ⟨a, xs, rfl, t a xs h1, ImAll.mono t ds xs h2⟩
  | .none, v, h => by unfold Im at h ⊢; exact h
  | .bool b, v, h => by unfold Im at h ⊢; exact h
  | .int i, v, h => by unfold Im at h ⊢; exact h
  | .str x, v, h => by unfold Im at h ⊢; exact h
  | .list _, _, h => by unfold Im at h; exact h.elim
  | .dict _, _, h => by unfold Im at h; exact h.elim
theorem ImAll.mono {K : PySem.W.Frag} {H H' : Hp} (t : Tst H H') : ∀ (ds : List PyData) (xs : List V), ImAll K H ds xs → ImAll K H' ds xs
  | [], _, h => by unfold ImAll at h ⊢; exact h
  | d :: ds, xs, h => by
    unfold ImAll at h ⊢
    obtain ⟨v, r, rfl, h1, h2⟩ := h
    exact ⟨v, r, rfl, Im.mono t d v h1, ImAll.mono t ds r h2⟩
end
mutual
theorem Im.dp {K : PySem.W.Frag} {H : Hp} : ∀ (d : PyData) (v : V), Im K H d v → Dp K H v d
  | .tuple ds, v, h => by
    unfold Im at h
    obtain ⟨a, xs, rfl, h1, h2⟩ := h
    exact .tup (SqT.of h1) (ImAll.dp ds xs h2)
  | .none, v, h => by unfold Im at h; subst h; exact .non
  | .bool b, v, h => by unfold Im at h; subst h; exact .bl b
  | .int i, v, h => by unfold Im at h; subst h; exact .int i
  | .str x, v, h => by unfold Im at h; subst h; exact .str x
  | .list _, _, h => by unfold Im at h; exact h.elim
  | .dict _, _, h => by unfold Im at h; exact h.elim
theorem ImAll.dp {K : PySem.W.Frag} {H : Hp} : ∀ (ds : List PyData) (xs : List V), ImAll K H ds xs → DpAll K H xs ds
  | [], _, h => by unfold ImAll at h; subst h; exact .nil
  | d :: ds, xs, h => by
    unfold ImAll at h
    obtain ⟨v, r, rfl, h1, h2⟩ := h
    exact .cons (Im.dp d v h1) (ImAll.dp ds r h2)
end
theorem im_int {K : PySem.W.Frag} {H : Hp} {i : Int} : Im K H (.int i) (.int i) := by unfold Im; rfl
theorem im_str {K : PySem.W.Frag} {H : Hp} {x : Str} : Im K H (.str x) (.str x) := by unfold Im; rfl
theorem im_non {K : PySem.W.Frag} {H : Hp} : Im K H .none .non := by unfold Im; rfl
theorem im_nil {K : PySem.W.Frag} {H : Hp} : ImAll K H [] [] := by unfold ImAll; rfl
theorem im_cons {K : PySem.W.Frag} {H : Hp} {d : PyData} {ds : List PyData} {v : V} {r : List V} (h : Im K H d v) (t : ImAll K H ds r) : ImAll K H (d :: ds) (v :: r) := by unfold ImAll; exact ⟨v, r, rfl, h, t⟩
theorem im_tup {K : PySem.W.Frag} {H : Hp} {a : Addr} {xs : List V} {ds : List PyData} (h : H a = some (.tup xs)) (t : ImAll K H ds xs) : Im K H (.tuple ds) (.ref a) := by unfold Im; exact ⟨a, xs, rfl, h, t⟩
theorem im_ints {K : PySem.W.Frag} {H : Hp} : ∀ ns : List Int, ImAll K H (ns.map PyData.int) (ns.map V.int)
  | [] => im_nil
  | n :: ns => im_cons im_int (im_ints ns)
theorem ts_new {H : Hp} {p : Addr} {o : HO} (h : H p = none) : Tst H (upd H p o) := fun a xs e => by rw [upd_ne (ne_of_none e h)]; exact e
theorem ts_lst {H : Hp} {p : Addr} {o : HO} {ys : List V} (h : H p = some (.lst ys)) : Tst H (upd H p o) := fun a xs e => by rw [upd_ne (ne_of e h (by intro z; cases z))]; exact e
theorem ts_ins {H : Hp} {p C dx : Addr} {o : HO} {fs : List (Str × V)} (h : H p = some (.ins C dx fs)) : Tst H (upd H p o) := fun a xs e => by rw [upd_ne (ne_of e h (by intro z; cases z))]; exact e
theorem fr_upd {o o' : List Addr} {H H1 : Hp} {a : Addr} {x : HO} (f : Fr o o' H H1) (ha : a ∈ o') : Fr o o' H (upd H1 a x) := by
  refine ⟨fun c y hc hy => ?_, f.2⟩
  have ne : c ≠ a := fun e => by
    subst e
    rcases f.2 c ha with h | h
    · exact hc h
    · rw [hy] at h; cases h
  rw [upd_ne ne]
  exact f.1 c y hc hy
theorem fr_base {o o' : List Addr} {H : Hp} (h : ∀ a, a ∈ o' → a ∈ o ∨ H a = none) : Fr o o' H H := ⟨fun _ _ _ x => x, h⟩
theorem fr_new {o o' : List Addr} {H H1 : Hp} {a : Addr} {x : HO} (f : Fr o o' H H1) (ha : H1 a = none) : Fr o o' H (upd H1 a x) := by
  refine ⟨fun c y hc hy => ?_, f.2⟩
  have h := f.1 c y hc hy
  rw [upd_ne (ne_of_none h ha)]
  exact h
theorem fr_ext {o o' : List Addr} {H H1 H2 : Hp} (f : Fr o o' H H1) (e : PB.Ext H1 H2) : Fr o o' H H2 := ⟨fun c y hc hy => e c y (f.1 c y hc hy), f.2⟩
theorem own_new {o : List Addr} {H H1 : Hp} {l : Addr} (h : H1 l = none) (f : Fr o o H H1) : l ∈ o ∨ H l = none := by
  by_cases hx : l ∈ o
  · exact .inl hx
  · right
    cases e : H l with
    | none => rfl
    | some y => rw [f.1 l y hx e] at h; cases h
theorem all_nil {P : Addr → Prop} : ∀ a, a ∈ ([] : List Addr) → P a := fun _ h => by cases h
theorem all_cons {P : Addr → Prop} {b : Addr} {r : List Addr} (h : P b) (t : ∀ a, a ∈ r → P a) : ∀ a, a ∈ b :: r → P a := fun a m => by
  rcases List.mem_cons.mp m with e | e
  · exact e ▸ h
  · exact t a e
theorem ts_updL {H H1 : Hp} {a : Addr} {x : HO} {ys : List V} (t : Tst H H1) (h : H1 a = some (.lst ys)) : Tst H (upd H1 a x) := t.trans (ts_lst h)
theorem ts_updI {H H1 : Hp} {a C dx : Addr} {x : HO} {fs : List (Str × V)} (t : Tst H H1) (h : H1 a = some (.ins C dx fs)) : Tst H (upd H1 a x) := t.trans (ts_ins h)
theorem ts_updN {H H1 : Hp} {a : Addr} {x : HO} (t : Tst H H1) (h : H1 a = none) : Tst H (upd H1 a x) := t.trans (ts_new h)
theorem ts_updD {H H1 : Hp} {a : Addr} {x : HO} {kvs : List (Key × V)} (t : Tst H H1) (h : H1 a = some (.dK kvs)) : Tst H (upd H1 a x) := t.trans fun c xs e => by rw [upd_ne (ne_of e h (by intro z; cases z))]; exact e
local macro_rules | `(tactic| walk_at "mem") => `(tactic| first
  | exact List.mem_cons_self ..
  | (apply List.mem_cons_of_mem; walk_at "mem"))
theorem ts_ext {H H1 H2 : Hp} (t : Tst H H1) (e : PB.Ext H1 H2) : Tst H H2 := t.trans fun a xs h => e a _ h
local macro_rules | `(tactic| walk_at "fr") => `(tactic| first
  | exact Fr.refl _ _
  | (apply fr_upd; (· (walk_at "fr")); (· (walk_at "mem")))
  | (refine fr_ext ?_ (by assumption); walk_at "fr")
  | (apply fr_base; walk_at "all"))
local macro_rules | `(tactic| walk_at "all") => `(tactic| first
  | exact all_nil
  | (apply all_cons; (· (first | (left; walk_at "mem") | exact own_new (by assumption) (by walk_at "fr"))); (· (walk_at "all"))))
local macro_rules | `(tactic| walk_at "ts") => `(tactic| first
  | exact Tst.refl _
  | (apply ts_updL; (· (walk_at "ts")); (· (walk_at "heap")))
  | (apply ts_updI; (· (walk_at "ts")); (· (walk_at "heap")))
  | (apply ts_updD; (· (walk_at "ts")); (· (walk_at "heap")))
  | (refine ts_ext ?_ (by assumption); walk_at "ts"))

/-! ### data: their shape, == of numbers' tuples -/
def Sh (n : Nat) (d : PyData) : Prop := d.canLay0 = true ∧ d.depth ≤ n
def ShA (n : Nat) (ds : List PyData) : Prop := PyData.canLayAll0 ds = true ∧ PyData.depthAll ds ≤ n
theorem Sh.ok {n : Nat} {d : PyData} (h : Sh n d) (hn : n ≤ 64) : SeqAt.shaped d = true := by
  unfold SeqAt.shaped
  rw [h.1, Bool.true_and, decide_eq_true_eq]
  exact Nat.le_trans h.2 hn
theorem Sh.mono {n m : Nat} {d : PyData} (h : Sh n d) (hn : n ≤ m) : Sh m d := ⟨h.1, Nat.le_trans h.2 hn⟩
theorem sh_int {n : Nat} {i : Int} : Sh n (.int i) := ⟨by simp [PyData.canLay0], by simp [PyData.depth]⟩
theorem sh_none {n : Nat} : Sh n .none := ⟨by simp [PyData.canLay0], by simp [PyData.depth]⟩
theorem sh_bool {n : Nat} {b : Bool} : Sh n (.bool b) := ⟨by simp [PyData.canLay0], by simp [PyData.depth]⟩
theorem sh_str {n : Nat} {x : Str} (h : PyData.strOk x = true) : Sh n (.str x) := ⟨by simp [PyData.canLay0, h], by simp [PyData.depth]⟩
theorem sh_nil {n : Nat} : ShA n [] := ⟨by simp [PyData.canLayAll0], by simp [PyData.depthAll]⟩
theorem sh_cons {n : Nat} {d : PyData} {ds : List PyData} (h : Sh n d) (t : ShA n ds) : ShA n (d :: ds) :=
  ⟨by simp [PyData.canLayAll0, h.1, t.1], by have := h.2; have := t.2; simp only [PyData.depthAll]; omega⟩
theorem sh_all {n : Nat} : ∀ {ds : List PyData}, (∀ d ∈ ds, Sh n d) → ShA n ds
  | [], _ => sh_nil
  | d :: ds, h => sh_cons (h d (List.mem_cons_self ..)) (sh_all fun x hx => h x (List.mem_cons_of_mem _ hx))
theorem sh_tup {n : Nat} {ds : List PyData} (t : ShA n ds) : Sh (n + 1) (.tuple ds) := ⟨by simp [PyData.canLay0, t.1], by have := t.2; simp only [PyData.depth]; omega⟩
theorem sh_lst {n : Nat} {ds : List PyData} (t : ShA n ds) : Sh (n + 1) (.list ds) := ⟨by simp [PyData.canLay0, t.1], by have := t.2; simp only [PyData.depth]; omega⟩
theorem sh_ints {n : Nat} (ns : List Int) : ShA n (ns.map PyData.int) := sh_all fun d h => by
  obtain ⟨i, _, rfl⟩ := List.mem_map.mp h
  exact sh_int
theorem eqv_ints : ∀ xs ys : List Int, PyData.eqvAll (xs.map PyData.int) (ys.map PyData.int) = decide (xs = ys)
  | [], [] => by simp [PyData.eqvAll]
  | [], _ :: _ => by simp [PyData.eqvAll]
  | _ :: _, [] => by simp [PyData.eqvAll]
  | x :: xs, y :: ys => by
    simp only [List.map_cons, PyData.eqvAll, PyData.eqv, eqv_ints xs ys, List.cons.injEq, Bool.decide_and]
    congr 1
theorem eqv_tints (xs ys : List Int) : PyData.eqv (.tuple (xs.map PyData.int)) (.tuple (ys.map PyData.int)) = decide (xs = ys) := by rw [PyData.eqv, eqv_ints]
theorem eqv_lints (xs ys : List Int) : PyData.eqv (.list (xs.map PyData.int)) (.list (ys.map PyData.int)) = decide (xs = ys) := by rw [PyData.eqv, eqv_ints]

/-! ## what the laws share: cells, rows of drawn numbers, bytes -/
theorem fr_toExt {A : Addr} {H H1 H2 : Hp} (x : PB.Ext H H1) (n : H A = none) (f : Fr [A] [A] H1 H2) : PB.Ext H H2 := fun a o h => f.1 a o (fun m => by
  simp only [List.mem_cons, List.not_mem_nil, or_false] at m
  subst m; rw [n] at h; cases h) (x a o h)
/-- a list of ints, new; nothing else has changed -/
def newInts (H : Hp) (xs : List Int) (Q : VK) : Prop := PB.NewAt H (.lst (xs.map V.int)) Q
def sp_law_cell (K : PySem.W.Frag) : Sp := fun vs H Q _ => ∃ (a : Addr) (ns : List Int) (k : Int), vs = [.ref a, .int k] ∧ SqL K H a (ns.map V.int) ∧ 0 ≤ k ∧ Q (.int (ns.getD k.toNat 0)) H
def N_law_cell : List Str := ["script", "k"]
def t_law_cell (K : PySem.W.Frag) : TS := C8.tCut (tIfS (PB.mTest (tOp (PB.mLt) (PB.mVar 1) (tCB (PB.mLen K) (tCons (PB.mVar 0) (tNil))))) (tRet (tCB (PB.mInt) (tCons (tOp (PB.mIx K) (PB.mVar 0) (PB.mVar 1)) (tNil)))) (tNext)) (
  tRet (tC (.int 0)))

theorem len_law_cell {K : PySem.W.Frag} : PB.Len 2 (sp_law_cell K) := by walk_at "len"
theorem pure_law_cell (K : PySem.W.Frag) : PB.Pure N_law_cell (sp_law_cell K) (t_law_cell K) := by
  rintro vs H Q E ⟨a, ns, k, rfl, h, k0, q⟩
  show t_law_cell K _ [some (.ref a), some (.int k)] H
  unfold t_law_cell
  have el : (ns.map V.int).length = ns.length := List.length_map _
  walk_at "ws"
  · exact q
  · have e : ns.getD k.toNat 0 = 0 := by rw [List.getD_eq_getElem?_getD, List.getElem?_eq_none (by omega)]; rfl
    rw [e] at q
    exact q
def sp_law_row (K : PySem.W.Frag) : Sp := fun vs H Q _ => ∃ (c n b : Int), vs = [.int c, .int n, .int b] ∧ 0 ≤ n ∧ n ≤ 1000 ∧ 0 < b ∧ b < 4294967296 ∧ ∀ xs : List Int, (xs.length : Int) = n → (∀ x ∈ xs, 0 ≤ x ∧ x < b) → newInts H xs Q
def N_law_row : List Str := ["cell", "count", "bound", "rest", "mixed", "row", "k"]
def t_law_row (K : PySem.W.Frag) : TS := tSeq (tAsg (tCB (PB.mAbs) (tCons (tCB (PB.mInt) (tCons (PB.mVar 0) (tNil))) (tNil))) (gName 3)) (
  tSeq (tAsg (tOp (PB.mAdd K) (tOp (PB.mMod) (tCB (PB.mInt) (tCons (PB.mVar 0) (tNil))) (tC (.int 1000003))) (tC (.int 1))) (gName 4)) (
  tSeq (tAsg (tLst (tNil)) (gName 5)) (
  tSeq (tFor (iRng1 (tCons (PB.mVar 1) (tNil))) (gName 6) (tIfS (PB.mTest (tOp (PB.mGe) (PB.mVar 3) (PB.mVar 2))) (tSeq (tDrop (PB.mLM (PB.mAppend) (PB.mVar 5) (tCons (tOp (PB.mMod) (tCB (PB.mInt) (tCons (PB.mVar 3) (tNil))) (PB.mVar 2)) (tNil)))) (
  tAsg (tOp (PB.mDiv) (PB.mVar 3) (PB.mVar 2)) (gName 3))) (tSeq (tAsg (tOp (PB.mMod) (tCB (PB.mInt) (tCons (tOp (PB.mAdd K) (tOp (PB.mAdd K) (tOp (PB.mMul) (PB.mVar 4) (tC (.int 48271))) (tOp (PB.mMul) (tC (.int 11)) (PB.mVar 6))) (tC (.int 7))) (tNil))) (tC (.int 2147483647))) (gName 4)) (
  tDrop (PB.mLM (PB.mAppend) (PB.mVar 5) (tCons (tOp (PB.mMod) (tCB (PB.mInt) (tCons (tOp (PB.mDiv) (tOp (PB.mMul) (PB.mVar 4) (tC (.int 2862933555777941757))) (tC (.int 1024))) (tNil))) (PB.mVar 2)) (tNil))))))) (
  tRet (PB.mVar 5)))))

theorem len_law_row {K : PySem.W.Frag} : PB.Len 3 (sp_law_row K) := by walk_at "len"
theorem pure_law_row (K : PySem.W.Frag) : PB.Pure N_law_row (sp_law_row K) (t_law_row K) := by
  rintro vs H Q E ⟨c, n, b, rfl, n0, n1, b0, b1, q⟩
  show t_law_row K _ [some (.int c), some (.int n), some (.int b), none, none, none, none] H
  unfold t_law_row
  walk_at "ws"
  intro A H1 nA vA xA
  walk_at "w"
  refine PB.w_forR1 (j := n) (by walk_at "pA") (by omega) (by omega) (fun i σ H2 => ∃ (r m : Int) (x : Option V) (xs : List Int), σ = [some (.int c), some (.int n), some (.int b), some (.int r), some (.int m), some (.ref A), x] ∧
    0 ≤ r ∧ 0 ≤ m ∧ m < 4294967296 ∧ H2 A = some (.lst (xs.map V.int)) ∧ xs.length = i ∧ (∀ x ∈ xs, 0 ≤ x ∧ x < b) ∧ Fr [A] [A] H1 H2) ?_ ?_ ?_
  · refine ⟨_, _, none, [], rfl, ?_, ?_, ?_, vA, rfl, fun x hx => (by cases hx), Fr.refl _ _⟩
    · split <;> omega
    · omega
    · omega
  · rintro i σ H2 hi ⟨r, m, x, xs, rfl, r0, m0, m1, l2, xl, xb, f2⟩
    refine PB.g_name ?_
    have el : (xs.map V.int).length = xs.length := List.length_map _
    have mb : ∀ (y : Int), 0 ≤ y → y < b → ∀ x ∈ xs ++ [y], 0 ≤ x ∧ x < b := fun y h0 h1 z hz => by
      rcases List.mem_append.mp hz with h | h
      · exact xb z h
      · rw [List.mem_singleton] at h; subst h; exact ⟨h0, h1⟩
    walk_at "ws"
    · refine ⟨_, _, _, xs ++ [r % b], rfl, Int.ediv_nonneg r0 (by omega), m0, m1, ?_, by simp [xl], mb _ (Int.emod_nonneg _ (by omega)) (Int.emod_lt_of_pos _ b0), fr_upd f2 (by walk_at "mem")⟩
      rw [List.map_append]; exact upd_same
    · refine ⟨_, _, _, xs ++ [((m * 48271 + 11 * (0 + (i : Int)) + 7) % 2147483647 * 2862933555777941757 / 1024) % b], rfl, r0, Int.emod_nonneg _ (by decide), ?_, ?_, by simp [xl], mb _ (Int.emod_nonneg _ (by omega)) (Int.emod_lt_of_pos _ b0), fr_upd f2 (by walk_at "mem")⟩
      · exact Int.lt_trans (Int.emod_lt_of_pos _ (by decide)) (by decide)
      · rw [List.map_append]; exact upd_same
  · rintro σ H2 ⟨r, m, x, xs, rfl, r0, m0, m1, l2, xl, xb, f2⟩
    walk_at "ws"
    exact q xs (by omega) xb A H2 nA l2 (fr_toExt xA nA f2)

/-! ## styles: the program -/
theorem w_asgGK {te : TE} {g : TG} {D : Ends} {σ : L2.St} {H : Hp} (h : te σ H fun x H1 => g x σ H1 D.nx) : tAsg te g D σ H := h
theorem k_pR {r : R2} {x y v : V} {H : Hp} {Q : VK} (h : PB.pR r x y H v) (q : Q v H) : r x y H Q := h _ q
local macro_rules | `(tactic| walk_at "k") => `(tactic| first
  | ((with_reducible apply k_pR); (· (walk_at "pR")))
  | fail)
theorem none_of' {H H1 : Hp} (x : PB.Ext H H1) {a : Addr} (h : H1 a = none) : H a = none := by
  cases e : H a with
  | none => rfl
  | some y => rw [x a y e] at h; cases h
abbrev T3 := Int × Int × Int
abbrev vT3 (s : T3) : List V := [.int s.1, .int s.2.1, .int s.2.2]
abbrev SETL : List (Int × Int) := [(1, 1), (4, 2), (5, 4), (7, 8)]
abbrev CLRL : List (Int × Int) := [(22, 1), (24, 2), (25, 4), (27, 8)]
def shortC (n first bright old : Int) : Int :=
  if first ≤ n ∧ n ≤ first + 7 then n - first else if bright ≤ n ∧ n ≤ bright + 7 then n - bright + 8 else if n = first + 9 then -1 else old
def after (s : T3) (n : Int) : T3 :=
  if n = 0 then (-1, -1, 0)
  else match PB.luI SETL n with
  | some k => (s.1, s.2.1, Builtin.bitOr s.2.2 k)
  | none => match PB.luI CLRL n with
    | some k => (s.1, s.2.1, Builtin.bitAnd s.2.2 (15 - k))
    | none => (shortC n 30 90 s.1, shortC n 40 100 s.2.1, s.2.2)
def hasLong (ns : List Int) (i : Nat) : Bool := decide (i + 2 < ns.length) && (decide (ns.getD (i + 1) 0 = 5) && decide (ns.getD (i + 2) 0 ≤ 255))
def setLong (s : T3) (n c : Int) : T3 := if n = 38 then (c, s.2.1, s.2.2) else (s.1, c, s.2.2)
/-- the style behind the numbers from a place on -/
def styF (ns : List Int) : Nat → T3 → Nat → T3
  | 0, s, _ => s
  | f + 1, s, i => if i < ns.length then
      (if ns.getD i 0 = 38 ∨ ns.getD i 0 = 48 then (if hasLong ns i = true then styF ns f (setLong s (ns.getD i 0) (ns.getD (i + 2) 0)) (i + 3) else s)
       else styF ns f (after s (ns.getD i 0)) (i + 1))
    else s
theorem styF_more (ns : List Int) : ∀ (f : Nat) (s : T3) (i : Nat), ns.length ≤ f + i → styF ns (f + 1) s i = styF ns f s i
  | 0, s, i, h => by
    unfold styF
    rw [if_neg (by omega)]
  | f + 1, s, i, h => by
    unfold styF
    rw [styF_more ns f _ (i + 3) (by omega), styF_more ns f _ (i + 1) (by omega)]
def sty (ns : List Int) (s : T3) (i : Nat) : T3 := styF ns ns.length s i
theorem styF_any {ns : List Int} {s : T3} {i : Nat} : ∀ f, ns.length ≤ f + i → styF ns (f + i + i) s i = styF ns f s i := by
  intro f h
  have : ∀ k, styF ns (f + k) s i = styF ns f s i := by
    intro k
    induction k with
    | zero => rfl
    | succ k ih => rw [← ih, ← Nat.add_assoc]; exact styF_more ns (f + k) s i (by omega)
  rw [Nat.add_assoc]; exact this _
theorem styF_eq {ns : List Int} {s : T3} {i : Nat} : ∀ f k, ns.length ≤ f + i → styF ns (f + k) s i = styF ns f s i := by
  intro f k h
  induction k with
  | zero => rfl
  | succ k ih => rw [← ih, ← Nat.add_assoc]; exact styF_more ns (f + k) s i (by omega)
theorem sty_step (ns : List Int) (s : T3) (i : Nat) : sty ns s i = if i < ns.length then
      (if ns.getD i 0 = 38 ∨ ns.getD i 0 = 48 then (if hasLong ns i = true then sty ns (setLong s (ns.getD i 0) (ns.getD (i + 2) 0)) (i + 3) else s)
       else sty ns (after s (ns.getD i 0)) (i + 1))
    else s := by
  unfold sty
  rw [← styF_eq ns.length 1 (by omega)]
  show (if i < ns.length then _ else _) = _
  rfl
def sp_short_colour (K : PySem.W.Frag) : Sp := fun vs H Q _ => ∃ n f b o : Int, vs = [.int n, .int f, .int b, .int o] ∧ Q (.int (shortC n f b o)) H
def N_short_colour : List Str := ["number", "first", "bright", "old"]
def t_short_colour (K : PySem.W.Frag) : TS := C8.tCut (tIfS (PB.mTest (PB.mChain (PB.mLe) (PB.mLe) (PB.mVar 1) (PB.mVar 0) (tOp (PB.mAdd K) (PB.mVar 1) (tC (.int 7))))) (tRet (tOp (PB.mSub) (PB.mVar 0) (PB.mVar 1))) (tNext)) (
  C8.tCut (tIfS (PB.mTest (PB.mChain (PB.mLe) (PB.mLe) (PB.mVar 2) (PB.mVar 0) (tOp (PB.mAdd K) (PB.mVar 2) (tC (.int 7))))) (tRet (tOp (PB.mAdd K) (tOp (PB.mSub) (PB.mVar 0) (PB.mVar 2)) (tC (.int 8)))) (tNext)) (
  C8.tCut (tIfS (PB.mTest (tOp (PB.mEq K) (PB.mVar 0) (tOp (PB.mAdd K) (PB.mVar 1) (tC (.int 9))))) (tRet (tUn PB.mNeg (tC (.int 1)))) (tNext)) (
  tRet (PB.mVar 3))))

theorem len_short_colour {K : PySem.W.Frag} : PB.Len 4 (sp_short_colour K) := by walk_at "len"
theorem pure_short_colour (K : PySem.W.Frag) : PB.Pure N_short_colour (sp_short_colour K) (t_short_colour K) := by
  rintro vs H Q E ⟨n, f, b, o, rfl, q⟩
  show t_short_colour K _ [some (.int n), some (.int f), some (.int b), some (.int o)] H
  unfold t_short_colour
  walk_at "ws"
  · rw [show shortC n f b o = n - f from (by first | (simp only [shortC, *, or_false, false_or, or_true, true_or, and_true, true_and, and_false, false_and, not_true_eq_false, not_false_eq_true, if_true, if_false, gt_iff_lt, ge_iff_le, reduceCtorEq, Bool.true_eq_false, Bool.false_eq_true]; done) | (unfold shortC; (repeat' split) <;> first | rfl | (exfalso; omega) | (simp_all; done)))] at q; exact q
  · rw [show shortC n f b o = n - b + 8 from (by first | (simp only [shortC, *, or_false, false_or, or_true, true_or, and_true, true_and, and_false, false_and, not_true_eq_false, not_false_eq_true, if_true, if_false, gt_iff_lt, ge_iff_le, reduceCtorEq, Bool.true_eq_false, Bool.false_eq_true]; done) | (unfold shortC; (repeat' split) <;> first | rfl | (exfalso; omega) | (simp_all; done)))] at q; exact q
  · rw [show shortC n f b o = -1 from (by first | (simp only [shortC, *, or_false, false_or, or_true, true_or, and_true, true_and, and_false, false_and, not_true_eq_false, not_false_eq_true, if_true, if_false, gt_iff_lt, ge_iff_le, reduceCtorEq, Bool.true_eq_false, Bool.false_eq_true]; done) | (unfold shortC; (repeat' split) <;> first | rfl | (exfalso; omega) | (simp_all; done)))] at q; exact q
  · rw [show shortC n f b o = o from (by first | (simp only [shortC, *, or_false, false_or, or_true, true_or, and_true, true_and, and_false, false_and, not_true_eq_false, not_false_eq_true, if_true, if_false, gt_iff_lt, ge_iff_le, reduceCtorEq, Bool.true_eq_false, Bool.false_eq_true]; done) | (unfold shortC; (repeat' split) <;> first | rfl | (exfalso; omega) | (simp_all; done)))] at q; exact q
theorem pp_short_colour {K : PySem.W.Frag} {n f b o : Int} {H : Hp} : PB.pSp (sp_short_colour K) [.int n, .int f, .int b, .int o] H (.int (shortC n f b o)) := fun Q q => ⟨n, f, b, o, rfl, q⟩
local macro_rules | `(tactic| walk_at "pS") => `(tactic| with_reducible exact pp_short_colour)
def sp_has_long_colour (K : PySem.W.Frag) : Sp := fun vs H Q _ => ∃ (a : Addr) (ns : List Int) (i : Nat), vs = [.ref a, .int i] ∧ H a = some (.tup (ns.map V.int)) ∧ Q (.bl (hasLong ns i)) H
def N_has_long_colour : List Str := ["numbers", "at"]
def t_has_long_colour (K : PySem.W.Frag) : TS := C8.tCut (tIfS (PB.mTest (tOp (PB.mGe) (tOp (PB.mAdd K) (PB.mVar 1) (tC (.int 2))) (tCB (PB.mLen K) (tCons (PB.mVar 0) (tNil))))) (tRet (tC (.bl false))) (tNext)) (
  tRet (PB.mAndV (tOp (PB.mEq K) (tOp (PB.mIx K) (PB.mVar 0) (tOp (PB.mAdd K) (PB.mVar 1) (tC (.int 1)))) (tC (.int 5))) (tOp (PB.mLe) (tOp (PB.mIx K) (PB.mVar 0) (tOp (PB.mAdd K) (PB.mVar 1) (tC (.int 2)))) (tC (.int (255))))))

theorem len_has_long_colour {K : PySem.W.Frag} : PB.Len 2 (sp_has_long_colour K) := by walk_at "len"
theorem pure_has_long_colour (K : PySem.W.Frag) : PB.Pure N_has_long_colour (sp_has_long_colour K) (t_has_long_colour K) := by
  rintro vs H Q E ⟨a, ns, i, rfl, h, q⟩
  show t_has_long_colour K _ [some (.ref a), some (.int i)] H
  unfold t_has_long_colour
  have el : (ns.map V.int).length = ns.length := List.length_map _
  walk_at "ws"
  · rename_i hc
    rw [show hasLong ns i = false by unfold hasLong; rw [decide_eq_false (by omega)]; rfl] at q
    exact q
  · rename_i hc
    rw [show hasLong ns i = (decide (ns.getD ((i : Int) + 1).toNat 0 = 5) && decide (ns.getD ((i : Int) + 2).toNat 0 ≤ 255)) by
      unfold hasLong
      rw [decide_eq_true (show i + 2 < ns.length by omega), Bool.true_and]
      rfl] at q
    exact q
theorem pp_has_long {K : PySem.W.Frag} {a : Addr} {ns : List Int} {i : Nat} {H : Hp} (h : H a = some (.tup (ns.map V.int))) : PB.pSp (sp_has_long_colour K) [.ref a, .int i] H (.bl (hasLong ns i)) := fun Q q => ⟨a, ns, i, rfl, h, q⟩
local macro_rules | `(tactic| walk_at "pS") => `(tactic| first
  | with_reducible exact pp_short_colour
  | ((with_reducible apply pp_has_long); (· (walk_at "heap"))))
def sp_after_number (K : PySem.W.Frag) : Sp := fun vs H Q _ => ∃ (a : Addr) (s : T3) (n : Int), vs = [.ref a, .int n] ∧ SqT K H a (vT3 s) ∧ ∀ p H', PB.Ext H H' → SqT K H' p (vT3 (after s n)) → Q (.ref p) H'
def N_after_number : List Str := ["style", "number", "foreground", "background", "marks"]
def t_after_number (K : PySem.W.Frag) : TS := tSeq (tAsg (PB.mVar 0) (gTup K 3 (gCons (gName 2) (gCons (gName 3) (gCons (gName 4) (gNil)))))) (
  C8.tCut (tIfS (PB.mTest (tOp (PB.mEq K) (PB.mVar 1) (tC (.int 0)))) (tRet (tC (.ref (He.ga K "PLAIN")))) (tNext)) (
  C8.tCut (tIfS (PB.mTest (tOp (PB.rInDI K) (PB.mVar 1) (tC (.ref (He.ga K "SETTING"))))) (tRet (tTup (tCons (PB.mVar 2) (tCons (PB.mVar 3) (tCons (tOp (PB.mBor) (PB.mVar 4) (tOp (PB.rIxDI K) (tC (.ref (He.ga K "SETTING"))) (PB.mVar 1))) (tNil)))))) (tNext)) (
  C8.tCut (tIfS (PB.mTest (tOp (PB.rInDI K) (PB.mVar 1) (tC (.ref (He.ga K "CLEARING"))))) (tRet (tTup (tCons (PB.mVar 2) (tCons (PB.mVar 3) (tCons (tOp (PB.mBand) (PB.mVar 4) (tOp (PB.mSub) (tC (.int (15))) (tOp (PB.rIxDI K) (tC (.ref (He.ga K "CLEARING"))) (PB.mVar 1)))) (tNil)))))) (tNext)) (
  tSeq (tAsg (PB.mCall (sp_short_colour K) (tCons (PB.mVar 1) (tCons (tC (.int 30)) (tCons (tC (.int 90)) (tCons (PB.mVar 2) (tNil)))))) (gName 2)) (
  tSeq (tAsg (PB.mCall (sp_short_colour K) (tCons (PB.mVar 1) (tCons (tC (.int 40)) (tCons (tC (.int 100)) (tCons (PB.mVar 3) (tNil)))))) (gName 3)) (
  tRet (tTup (tCons (PB.mVar 2) (tCons (PB.mVar 3) (tCons (PB.mVar 4) (tNil)))))))))))

theorem len_after_number {K : PySem.W.Frag} : PB.Len 2 (sp_after_number K) := by walk_at "len"
theorem dp_t3 {K : PySem.W.Frag} {H : Hp} {a : Addr} {i j k : Int} (h : Dp K H (.ref a) (.tuple [.int i, .int j, .int k])) : SqT K H a [.int i, .int j, .int k] := by
  cases h with
  | tup h1 h2 =>
    cases h2 with
    | cons g1 h2 =>
      cases g1
      cases h2 with
      | cons g1 h2 =>
        cases g1
        cases h2 with
        | cons g1 h2 =>
          cases g1
          cases h2
          exact h1
theorem pure_after_number (K : PySem.W.Frag) (tP : ∀ H, Dp K H (.ref (He.ga K "PLAIN")) (.tuple [.int (-1), .int (-1), .int 0])) (tS : PB.KDi K (He.ga K "SETTING") SETL) (tC_ : PB.KDi K (He.ga K "CLEARING") CLRL) : PB.Pure N_after_number (sp_after_number K) (t_after_number K) := by
  rintro vs H Q E ⟨a, s, n, rfl, h, q⟩
  show t_after_number K _ [some (.ref a), some (.int n), none, none, none] H
  unfold t_after_number
  obtain ⟨f, b, m⟩ := s
  walk_at "w"
  refine w_asgGK (PB.k_pure (v := .ref a) (PB.p_var rfl) (PB.g_three (x := .int f) (y := .int b) (z := .int m) h ?_))
  walk_at "ws"
  · rename_i hc
    have e : after (f, b, m) n = (-1, -1, 0) := if_pos hc
    rw [e] at q
    exact q _ H (PB.Ext.refl H) (dp_t3 (tP H))
  · rename_i hc hk
    obtain ⟨k, hk⟩ := Option.isSome_iff_exists.mp hk
    refine PB.p_ixDI tS hk _ ?_
    walk_at "ws"
    intro p H1 np vp xp
    have e : after (f, b, m) n = (f, b, Builtin.bitOr m k) := by unfold after; rw [if_neg hc, hk]
    rw [e] at q
    exact q p H1 xp (SqT.of vp)
  · rename_i hc hk0 hk
    obtain ⟨k, hk⟩ := Option.isSome_iff_exists.mp hk
    refine PB.p_ixDI tC_ hk _ ?_
    walk_at "ws"
    intro p H1 np vp xp
    have e0 : PB.luI SETL n = none := Option.not_isSome_iff_eq_none.mp (by rw [hk0]; decide)
    have e : after (f, b, m) n = (f, b, Builtin.bitAnd m (15 - k)) := by unfold after; rw [if_neg hc, e0]; dsimp only; rw [hk]
    rw [e] at q
    exact q p H1 xp (SqT.of vp)
  · rename_i hc hk0 hk1
    intro p H1 np vp xp
    have e0 : PB.luI SETL n = none := Option.not_isSome_iff_eq_none.mp (by rw [hk0]; decide)
    have e1 : PB.luI CLRL n = none := Option.not_isSome_iff_eq_none.mp (by rw [hk1]; decide)
    have e : after (f, b, m) n = (shortC n 30 90 f, shortC n 40 100 b, m) := by unfold after; rw [if_neg hc, e0]; dsimp only; rw [e1]
    rw [e] at q
    exact q p H1 xp (SqT.of vp)
def sp_styled (K : PySem.W.Frag) : Sp := fun vs H Q _ => ∃ (a c : Addr) (s : T3) (ns : List Int), vs = [.ref a, .ref c] ∧ SqT K H a (vT3 s) ∧ H c = some (.tup (ns.map V.int)) ∧ PB.NewAt H (.tup (vT3 (sty ns s 0))) Q
def N_styled : List Str := ["style", "numbers", "foreground", "background", "marks", "at", "number"]
def t_styled (K : PySem.W.Frag) : TS := tSeq (tAsg (PB.mVar 0) (gTup K 3 (gCons (gName 2) (gCons (gName 3) (gCons (gName 4) (gNil)))))) (
  tSeq (tAsg (tC (.int 0)) (gName 5)) (
  C8.tCut (tWhile (PB.mTest (tOp (PB.mLt) (PB.mVar 5) (tCB (PB.mLen K) (tCons (PB.mVar 1) (tNil))))) (tSeq (tAsg (tOp (PB.mIx K) (PB.mVar 1) (PB.mVar 5)) (gName 6)) (
  tIfS (tOr (PB.mTest (tOp (PB.mEq K) (PB.mVar 6) (tC (.int (38))))) (PB.mTest (tOp (PB.mEq K) (PB.mVar 6) (tC (.int (48)))))) (C8.tCut (tIfS (tNot (PB.mTru K (PB.mCall (sp_has_long_colour K) (tCons (PB.mVar 1) (tCons (PB.mVar 5) (tNil)))))) (tBreak) (tNext)) (
  C8.tCut (tIfS (PB.mTest (tOp (PB.mEq K) (PB.mVar 6) (tC (.int (38))))) (tAsg (tOp (PB.mIx K) (PB.mVar 1) (tOp (PB.mAdd K) (PB.mVar 5) (tC (.int 2)))) (gName 2)) (tAsg (tOp (PB.mIx K) (PB.mVar 1) (tOp (PB.mAdd K) (PB.mVar 5) (tC (.int 2)))) (gName 3))) (
  PB.mAug 5 (tC (.int 3)) (fun i j => i + j)))) (tSeq (tAsg (PB.mCall (sp_after_number K) (tCons (tTup (tCons (PB.mVar 2) (tCons (PB.mVar 3) (tCons (PB.mVar 4) (tNil))))) (tCons (PB.mVar 6) (tNil)))) (gTup K 3 (gCons (gName 2) (gCons (gName 3) (gCons (gName 4) (gNil)))))) (
  PB.mAug 5 (tC (.int 1)) (fun i j => i + j)))))) (
  tRet (tTup (tCons (PB.mVar 2) (tCons (PB.mVar 3) (tCons (PB.mVar 4) (tNil))))))))

theorem len_styled {K : PySem.W.Frag} : PB.Len 2 (sp_styled K) := by walk_at "len"
theorem pure_styled (K : PySem.W.Frag) : PB.Pure N_styled (sp_styled K) (t_styled K) := by
  rintro vs H Q E ⟨a, c, ⟨f, b, m⟩, ns, rfl, h, hc, q⟩
  show t_styled K _ [some (.ref a), some (.ref c), none, none, none, none, none] H
  unfold t_styled
  walk_at "w"
  refine w_asgGK (PB.k_pure (v := .ref a) (PB.p_var rfl) (PB.g_three (x := .int f) (y := .int b) (z := .int m) h ?_))
  walk_at "w"
  walk_at "w"
  walk_at "w"
  dsimp only
  refine PB.w_while (fun z σ H1 => ∃ (s : T3) (i : Nat) (x : Option V), σ = [some (.ref a), some (.ref c), some (.int s.1), some (.int s.2.1), some (.int s.2.2), some (.int i), x] ∧ PB.Ext H H1 ∧ sty ns s i = sty ns (f, b, m) 0 ∧ z = ns.length - i) ns.length ⟨(f, b, m), 0, none, rfl, PB.Ext.refl H, rfl, rfl⟩ ?_
  rintro z σ H1 ⟨s, i, x, rfl, x1, es, rfl⟩
  have hc1 := x1 _ _ hc
  have el : (ns.map V.int).length = ns.length := List.length_map _
  refine ⟨_, by walk_at "pT", ?_, ?_⟩
  · intro hi
    simp only [decide_eq_true_eq] at hi
    have il : i < ns.length := by omega
    have st := sty_step ns s i
    rw [if_pos il] at st
    walk_at "ws"
    · rename_i hn hl
      rw [if_pos (by simpa using hn), if_neg (by rw [hl]; decide)] at st
      dsimp only
      walk_at "ws"
      intro p H2 np vp xp
      rw [← es, st] at q
      exact q p H2 (none_of' x1 np) vp (x1.trans xp)
    · rename_i hn hl h38
      rw [if_pos (by simpa using hn), if_pos hl] at st
      have l2 : i + 2 < ns.length := by
        unfold hasLong at hl
        rw [Bool.and_eq_true, decide_eq_true_eq] at hl
        exact hl.1
      refine PB.p_ixIU hc1 (by omega) (by omega) _ ?_
      walk_at "ws"
      have e3 : setLong s (ns.getD i 0) (ns.getD (i + 2) 0) = (ns.getD (i + 2) 0, s.2.1, s.2.2) := if_pos (by simpa using h38)
      rw [e3] at st
      refine ⟨_, ?_, _, i + 3, some (.int (ns.getD i 0)), rfl, x1, st.symm.trans es, rfl⟩
      omega
    · rename_i hn hl h38
      rw [if_pos (by simpa using hn), if_pos hl] at st
      have l2 : i + 2 < ns.length := by
        unfold hasLong at hl
        rw [Bool.and_eq_true, decide_eq_true_eq] at hl
        exact hl.1
      refine PB.p_ixIU hc1 (by omega) (by omega) _ ?_
      walk_at "ws"
      have e3 : setLong s (ns.getD i 0) (ns.getD (i + 2) 0) = (s.1, ns.getD (i + 2) 0, s.2.2) := if_neg (by simpa using h38)
      rw [e3] at st
      refine ⟨_, ?_, _, i + 3, some (.int (ns.getD i 0)), rfl, x1, st.symm.trans es, rfl⟩
      omega
    · rename_i hn
      rw [if_neg (by simpa using hn)] at st
      refine w_asgGK ?_
      walk_at "ws"
      intro p H2 np vp xp
      walk_at "ws"
      refine ⟨p, s, _, rfl, SqT.of vp, fun p3 H3 x3 v3 => ?_⟩
      refine PB.g_three v3 ?_
      walk_at "ws"
      refine ⟨_, ?_, _, i + 1, some (.int (ns.getD i 0)), rfl, x1.trans (xp.trans x3), st.symm.trans es, rfl⟩
      omega
  · intro hi
    simp only [decide_eq_false_iff_not] at hi
    walk_at "ws"
    intro p H2 np vp xp
    have e := sty_step ns s i
    rw [if_neg (by omega)] at e
    rw [← es, e] at q
    exact q p H2 (none_of' x1 np) vp (x1.trans xp)

/-! ## styles: the law -/
theorem w_setL {te to ti : TE} {D : Ends} {σ : L2.St} {H : Hp} {v : V} {p : Addr} {k : Int} {xs : List V} (hv : PB.pE te σ H v) (ho : PB.pE to σ H (.ref p)) (hi : PB.pE ti σ H (.int k)) (hH : H p = some (.lst xs)) (h0 : 0 ≤ k) (h1 : k < (xs.length : Int))
    (q : D.nx σ (upd H p (.lst (xs.set k.toNat v)))) : tAsg te (gSub to ti PB.mSet) D σ H := by
  refine hv _ (ho _ (hi _ ?_))
  show (match H p with | some (.lst xs) => (match ixN xs.length k with | some j => D.nx σ (upd H p (.lst (xs.set j v))) | none => False) | _ => False)
  have e : ixN xs.length k = some k.toNat := by unfold ixN; rw [if_pos h0, if_pos h1]
  simp only [hH, e]
  exact q
theorem w_setIdx {K : PySem.W.Frag} {te tx : TE} {tl : TA} {D : Ends} {σ : L2.St} {H : Hp} {v : V} {p : Addr} {i j : Nat} {x : Int} {ns : List Int} {xs : List V} (hv : PB.pE te σ H v) (hp : σ[i]? = some (some (.ref p))) (hl : PB.pA tl σ H (ns.map V.int)) (hx : ∀ H1, PB.Ext H H1 → PB.pE tx σ H1 (.int x))
    (hn : ns.length ≤ 1000) (hj : ns[j]? = some x) (hm : ∀ m y, m < j → ns[m]? = some y → y ≠ x) (hH : H p = some (.lst xs)) (h1 : j < xs.length) (q : ∀ H1, PB.Ext H H1 → D.nx σ (upd H1 p (.lst (xs.set j v)))) :
    tAsg te (gSub (PB.mVar i) (PB.mLM (rIndex K) (tLst tl) (tCons tx tNil)) PB.mSet) D σ H := by
  refine hv _ (PB.p_var hp _ (hl _ ⟨PB.sz_le (by rw [List.length_map]; omega), fun l hl0 => ?_⟩))
  have x1 : PB.Ext H (upd H l (.lst (ns.map V.int))) := PB.Ext.new hl0
  have vl : (upd H l (.lst (ns.map V.int))) l = some (.lst (ns.map V.int)) := upd_same
  generalize upd H l (.lst (ns.map V.int)) = H1 at x1 vl
  show (match H1 l with | some (.lst _) => _ | _ => False)
  rw [vl]
  refine hx H1 x1 _ ⟨l, ns.map V.int, .int x, j, .int x, rfl, rfl, SqL.of vl, rfl, PB.flat_ints ns, by rw [List.getElem?_map, hj]; rfl, by show (x == x) = true; simp, ?_, ?_⟩
  · intro m z' hmj e
    rw [List.getElem?_map] at e
    cases w : ns[m]? with
    | none => rw [w] at e; cases e
    | some y =>
      rw [w] at e
      cases e
      show (y == x) = false
      simpa using hm m y hmj w
  · show (match H1 p with | some (.lst xs) => (match ixN xs.length (j : Int) with | some j => D.nx σ (upd H1 p (.lst (xs.set j v))) | none => False) | _ => False)
    have e : ixN xs.length (j : Int) = some j := by unfold ixN; rw [if_pos (by omega), if_pos (by omega)]; simp
    simp only [x1 _ _ hH, e]
    exact q H1 x1
theorem up_ext' {H H1 : Hp} (x : PB.Ext H H1) {a : Addr} {y : HO} (n : H a = none) : PB.Ext H (upd H1 a y) := fun b z h => by
  rw [upd_ne (L2.ne_of_none h n)]
  exact x b z h
theorem after_mark {s : T3} {n k : Int} (h0 : n ≠ 0) (h : PB.luI SETL n = some k) : after s n = (s.1, s.2.1, Builtin.bitOr s.2.2 k) := by unfold after; rw [if_neg h0, h]
theorem after_clear {s : T3} {n k : Int} (h0 : n ≠ 0) (h1 : PB.luI SETL n = none) (h : PB.luI CLRL n = some k) : after s n = (s.1, s.2.1, Builtin.bitAnd s.2.2 (15 - k)) := by unfold after; rw [if_neg h0, h1]; dsimp only; rw [h]
theorem after_col {s : T3} {n : Int} (h0 : n ≠ 0) (h1 : ¬ (n = 1 ∨ n = 4 ∨ n = 5 ∨ n = 7)) (h2 : ¬ (n = 22 ∨ n = 24 ∨ n = 25 ∨ n = 27)) : after s n = (shortC n 30 90 s.1, shortC n 40 100 s.2.1, s.2.2) := by
  unfold after
  have e1 : PB.luI SETL n = none := by simp only [PB.luI]; rw [if_neg (by omega), if_neg (by omega), if_neg (by omega), if_neg (by omega)]
  have e2 : PB.luI CLRL n = none := by simp only [PB.luI]; rw [if_neg (by omega), if_neg (by omega), if_neg (by omega), if_neg (by omega)]
  rw [if_neg h0, e1]; dsimp only; rw [e2]
def bit (a : Bool) : Int := if a then 1 else 0
def mk4 (a b c d : Bool) : Int := bit a + 2 * bit b + 4 * bit c + 8 * bit d
theorem or1 (a b c d : Bool) : Builtin.bitOr (mk4 a b c d) 1 = mk4 true b c d := by cases a <;> cases b <;> cases c <;> cases d <;> decide +kernel
theorem or2 (a b c d : Bool) : Builtin.bitOr (mk4 a b c d) 2 = mk4 a true c d := by cases a <;> cases b <;> cases c <;> cases d <;> decide +kernel
theorem or4 (a b c d : Bool) : Builtin.bitOr (mk4 a b c d) 4 = mk4 a b true d := by cases a <;> cases b <;> cases c <;> cases d <;> decide +kernel
theorem or8 (a b c d : Bool) : Builtin.bitOr (mk4 a b c d) 8 = mk4 a b c true := by cases a <;> cases b <;> cases c <;> cases d <;> decide +kernel
theorem an1 (a b c d : Bool) : Builtin.bitAnd (mk4 a b c d) (15 - 1) = mk4 false b c d := by cases a <;> cases b <;> cases c <;> cases d <;> decide +kernel
theorem an2 (a b c d : Bool) : Builtin.bitAnd (mk4 a b c d) (15 - 2) = mk4 a false c d := by cases a <;> cases b <;> cases c <;> cases d <;> decide +kernel
theorem an4 (a b c d : Bool) : Builtin.bitAnd (mk4 a b c d) (15 - 4) = mk4 a b false d := by cases a <;> cases b <;> cases c <;> cases d <;> decide +kernel
theorem an8 (a b c d : Bool) : Builtin.bitAnd (mk4 a b c d) (15 - 8) = mk4 a b c false := by cases a <;> cases b <;> cases c <;> cases d <;> decide +kernel
theorem mk4_of {m : Int} (h0 : 0 ≤ m) (h1 : m < 16) : ∃ a b c d, m = mk4 a b c d ∧ m / 1 % 2 = bit a ∧ m / 2 % 2 = bit b ∧ m / 4 % 2 = bit c ∧ m / 8 % 2 = bit d := by
  refine ⟨decide (m / 1 % 2 = 1), decide (m / 2 % 2 = 1), decide (m / 4 % 2 = 1), decide (m / 8 % 2 = 1), ?_, ?_, ?_, ?_, ?_⟩
  all_goals
    rcases (show m = 0 ∨ m = 1 ∨ m = 2 ∨ m = 3 ∨ m = 4 ∨ m = 5 ∨ m = 6 ∨ m = 7 ∨ m = 8 ∨ m = 9 ∨ m = 10 ∨ m = 11 ∨ m = 12 ∨ m = 13 ∨ m = 14 ∨ m = 15 by omega) with rfl | rfl | rfl | rfl | rfl | rfl | rfl | rfl | rfl | rfl | rfl | rfl | rfl | rfl | rfl | rfl <;> decide +kernel
def sp_law_integer (K : PySem.W.Frag) : Sp := fun vs H Q _ => ∃ n : Int, vs = [.int n] ∧ Q (.bl true) H
def N_law_integer : List Str := ["value"]
def t_law_integer (K : PySem.W.Frag) : TS := tRet (PB.mAndV (tCB (rIsi K) (tCons (PB.mVar 0) (tCons (tC (.ty "int")) (tNil)))) (PB.mNotV (tCB (rIsi K) (tCons (PB.mVar 0) (tCons (tC (.ty "bool")) (tNil))))))

theorem len_law_integer {K : PySem.W.Frag} : PB.Len 1 (sp_law_integer K) := by walk_at "len"
theorem pure_law_integer (K : PySem.W.Frag) : PB.Pure N_law_integer (sp_law_integer K) (t_law_integer K) := by
  rintro vs H Q E ⟨n, rfl, q⟩
  show t_law_integer K _ [some (.int n)] H
  unfold t_law_integer
  walk_at "ws"
  exact q
theorem pp_law_integer {K : PySem.W.Frag} {n : Int} {H : Hp} : PB.pSp (sp_law_integer K) [.int n] H (.bl true) := fun Q q => ⟨n, rfl, q⟩
local macro_rules | `(tactic| walk_at "pS") => `(tactic| with_reducible exact pp_law_integer)
def sp_law_styled (K : PySem.W.Frag) : Sp := fun vs H Q _ => ∃ (a c : Addr) (s : T3) (ns : List Int), vs = [.ref a, .ref c] ∧ H a = some (.tup (vT3 s)) ∧ 0 ≤ s.2.2 ∧ s.2.2 < 16 ∧ H c = some (.tup (ns.map V.int)) ∧ ns.length ≤ 100 ∧ PB.NewAt H (.tup (vT3 (sty ns s 0))) Q
def N_law_styled : List Str := ["style", "numbers", "colours", "marks", "skip", "k", "x"]
def t_law_styled (K : PySem.W.Frag) : TS := tSeq (tAsg (tLst (tCons (tOp (PB.mIx K) (PB.mVar 0) (tC (.int 0))) (tCons (tOp (PB.mIx K) (PB.mVar 0) (tC (.int 1))) (tNil)))) (gName 2)) (
  tSeq (tAsg (tLst (tCons (tOp (PB.mMod) (tOp (PB.mDiv) (tOp (PB.mIx K) (PB.mVar 0) (tC (.int 2))) (tC (.int 1))) (tC (.int 2))) (tCons (tOp (PB.mMod) (tOp (PB.mDiv) (tOp (PB.mIx K) (PB.mVar 0) (tC (.int 2))) (tC (.int 2))) (tC (.int 2))) (tCons (tOp (PB.mMod) (tOp (PB.mDiv) (tOp (PB.mIx K) (PB.mVar 0) (tC (.int 2))) (tC (.int 4))) (tC (.int 2))) (tCons (tOp (PB.mMod) (tOp (PB.mDiv) (tOp (PB.mIx K) (PB.mVar 0) (tC (.int 2))) (tC (.int 8))) (tC (.int 2))) (tNil)))))) (gName 3)) (
  tSeq (tAsg (tC (.int 0)) (gName 4)) (
  C8.tCut (tFor (iRng1 (tCons (tCB (PB.mLen K) (tCons (PB.mVar 1) (tNil))) (tNil))) (gName 5) (tSeq (tAsg (tOp (PB.mIx K) (PB.mVar 1) (PB.mVar 5)) (gName 6)) (
  tIfS (PB.mTest (tOp (PB.mGt) (PB.mVar 4) (tC (.int 0)))) (tAsg (tOp (PB.mSub) (PB.mVar 4) (tC (.int 1))) (gName 4)) (tIfS (PB.mTest (tOp (PB.mIn K) (PB.mVar 6) (tLst (tCons (tC (.int 38)) (tCons (tC (.int 48)) (tNil)))))) (C8.tCut (tIfS (tOr (PB.mTest (tOp (PB.mGe) (tOp (PB.mAdd K) (PB.mVar 5) (tC (.int 2))) (tCB (PB.mLen K) (tCons (PB.mVar 1) (tNil))))) (tOr (PB.mTest (tOp (PB.mNe K) (tOp (PB.mIx K) (PB.mVar 1) (tOp (PB.mAdd K) (PB.mVar 5) (tC (.int 1)))) (tC (.int 5)))) (PB.mTest (tOp (PB.mGt) (tOp (PB.mIx K) (PB.mVar 1) (tOp (PB.mAdd K) (PB.mVar 5) (tC (.int 2)))) (tC (.int 255)))))) (tBreak) (tNext)) (
  tSeq (tAsg (tOp (PB.mIx K) (PB.mVar 1) (tOp (PB.mAdd K) (PB.mVar 5) (tC (.int 2)))) (gSub (PB.mVar 2) (tCB (PB.mInt) (tCons (tOp (PB.mEq K) (PB.mVar 6) (tC (.int 48))) (tNil))) PB.mSet)) (
  tAsg (tC (.int 2)) (gName 4)))) (tIfS (PB.mTest (tOp (PB.mEq K) (PB.mVar 6) (tC (.int 0)))) (tSeq (tAsg (tLst (tCons (tUn PB.mNeg (tC (.int 1))) (tCons (tUn PB.mNeg (tC (.int 1))) (tNil)))) (gName 2)) (
  tAsg (tLst (tCons (tC (.int 0)) (tCons (tC (.int 0)) (tCons (tC (.int 0)) (tCons (tC (.int 0)) (tNil)))))) (gName 3))) (tIfS (PB.mTest (tOp (PB.mIn K) (PB.mVar 6) (tLst (tCons (tC (.int 1)) (tCons (tC (.int 4)) (tCons (tC (.int 5)) (tCons (tC (.int 7)) (tNil)))))))) (tAsg (tC (.int 1)) (gSub (PB.mVar 3) (PB.mLM (rIndex K) (tLst (tCons (tC (.int 1)) (tCons (tC (.int 4)) (tCons (tC (.int 5)) (tCons (tC (.int 7)) (tNil)))))) (tCons (PB.mVar 6) (tNil))) PB.mSet)) (tIfS (PB.mTest (tOp (PB.mIn K) (PB.mVar 6) (tLst (tCons (tC (.int 22)) (tCons (tC (.int 24)) (tCons (tC (.int 25)) (tCons (tC (.int 27)) (tNil)))))))) (tAsg (tC (.int 0)) (gSub (PB.mVar 3) (PB.mLM (rIndex K) (tLst (tCons (tC (.int 22)) (tCons (tC (.int 24)) (tCons (tC (.int 25)) (tCons (tC (.int 27)) (tNil)))))) (tCons (PB.mVar 6) (tNil))) PB.mSet)) (tIfS (tOr (PB.mTest (PB.mChain (PB.mLe) (PB.mLt) (tC (.int 30)) (PB.mVar 6) (tC (.int 38)))) (PB.mTest (PB.mChain (PB.mLe) (PB.mLt) (tC (.int 40)) (PB.mVar 6) (tC (.int 48))))) (tAsg (tOp (PB.mMod) (tCB (PB.mInt) (tCons (PB.mVar 6) (tNil))) (tC (.int 10))) (gSub (PB.mVar 2) (tCB (PB.mInt) (tCons (tOp (PB.mGe) (PB.mVar 6) (tC (.int 40))) (tNil))) PB.mSet)) (tIfS (PB.mTest (tOp (PB.mIn K) (PB.mVar 6) (tLst (tCons (tC (.int 39)) (tCons (tC (.int 49)) (tNil)))))) (tAsg (tUn PB.mNeg (tC (.int 1))) (gSub (PB.mVar 2) (tCB (PB.mInt) (tCons (tOp (PB.mEq K) (PB.mVar 6) (tC (.int 49))) (tNil))) PB.mSet)) (tIfS (tOr (PB.mTest (PB.mChain (PB.mLe) (PB.mLt) (tC (.int 90)) (PB.mVar 6) (tC (.int 98)))) (PB.mTest (PB.mChain (PB.mLe) (PB.mLt) (tC (.int 100)) (PB.mVar 6) (tC (.int 108))))) (tAsg (tOp (PB.mAdd K) (tOp (PB.mMod) (tCB (PB.mInt) (tCons (PB.mVar 6) (tNil))) (tC (.int 10))) (tC (.int 8))) (gSub (PB.mVar 2) (tCB (PB.mInt) (tCons (tOp (PB.mGe) (PB.mVar 6) (tC (.int 100))) (tNil))) PB.mSet)) (tNext))))))))))) (
  tRet (tTup (tCons (tOp (PB.mIx K) (PB.mVar 2) (tC (.int 0))) (tCons (tOp (PB.mIx K) (PB.mVar 2) (tC (.int 1))) (tCons (tOp (PB.mAdd K) (tOp (PB.mAdd K) (tOp (PB.mAdd K) (tOp (PB.mIx K) (PB.mVar 3) (tC (.int 0))) (tOp (PB.mMul) (tC (.int 2)) (tOp (PB.mIx K) (PB.mVar 3) (tC (.int 1))))) (tOp (PB.mMul) (tC (.int 4)) (tOp (PB.mIx K) (PB.mVar 3) (tC (.int 2))))) (tOp (PB.mMul) (tC (.int 8)) (tOp (PB.mIx K) (PB.mVar 3) (tC (.int 3))))) (tNil)))))))))

theorem len_law_styled {K : PySem.W.Frag} : PB.Len 2 (sp_law_styled K) := by walk_at "len"
theorem pure_law_styled (K : PySem.W.Frag) : PB.Pure N_law_styled (sp_law_styled K) (t_law_styled K) := by
  rintro vs H Q E ⟨a, c, ⟨f, b, m⟩, ns, rfl, ha, m0, m1, hc, nl, q⟩
  show t_law_styled K _ [some (.ref a), some (.ref c), none, none, none, none, none] H
  unfold t_law_styled
  obtain ⟨d0, d1, d2, d3, me, e0, e1, e2, e3⟩ := mk4_of m0 m1
  have el : (ns.map V.int).length = ns.length := List.length_map _
  walk_at "ws"
  intro C H1 nC vC xC
  walk_at "ws"
  intro M H2 nM vM xM
  rw [show (f, b, m).2.2 = m from rfl, e0, e1, e2, e3] at vM
  walk_at "w"
  walk_at "w"
  dsimp only
  have q' : ∀ (s : T3) (H' : Hp), sty ns (f, b, m) 0 = s → PB.Ext H H' → PB.NewAt H' (.tup (vT3 s)) Q := fun s H' e x p H'' np vp xp => by rw [← e] at vp; exact q p H'' (none_of' x np) vp (x.trans xp)
  refine PB.w_mid (fun σ H' => ∃ (C M : Addr) (s : T3) (d0 d1 d2 d3 : Bool) (sk : Int) (x y : Option V), σ = [some (.ref a), some (.ref c), some (.ref C), some (.ref M), some (.int sk), x, y] ∧
    H' C = some (.lst [.int s.1, .int s.2.1]) ∧ H' M = some (.lst [.int (bit d0), .int (bit d1), .int (bit d2), .int (bit d3)]) ∧ s.2.2 = mk4 d0 d1 d2 d3 ∧ PB.Ext H H' ∧ sty ns (f, b, m) 0 = s) ?_ ?_
  · refine PB.w_forR1 (j := (ns.length : Int)) (by rw [← el]; walk_at "pA") (by omega) (by omega) (fun k σ H' => ∃ (C M : Addr) (s : T3) (d0 d1 d2 d3 : Bool) (sk : Nat) (x y : Option V), σ = [some (.ref a), some (.ref c), some (.ref C), some (.ref M), some (.int sk), x, y] ∧
    H' C = some (.lst [.int s.1, .int s.2.1]) ∧ H' M = some (.lst [.int (bit d0), .int (bit d1), .int (bit d2), .int (bit d3)]) ∧ C ≠ M ∧ s.2.2 = mk4 d0 d1 d2 d3 ∧ H C = none ∧ H M = none ∧ PB.Ext H H' ∧ sty ns (f, b, m) 0 = sty ns s (k + sk)) ?_ ?_ ?_
    · exact ⟨C, M, (f, b, m), d0, d1, d2, d3, 0, none, none, rfl, xM _ _ vC, vM, PB.ne_fresh nM vC, me, nC, none_of' xC nM, xC.trans xM, rfl⟩
    · clear nM vM xM nC vC xC me e0 e1 e2 e3
      rintro k σ H' hk ⟨C, M, s, d0, d1, d2, d3, sk, x, y, rfl, vC, vM, CM, me, nC, nM, xx, es⟩
      have kl : k < ns.length := by omega
      have hc' := xx _ _ hc
      have kk : (0 : Int) + (k : Int) = (k : Int) := by omega
      rw [kk]
      refine PB.g_name ?_
      walk_at "w"
      walk_at "w"
      rw [show ((k : Int)).toNat = k from rfl]
      generalize hx : ns.getD k 0 = X at *
      have st := sty_step ns s k
      rw [if_pos kl, hx] at st
      walk_at "w"
      · walk_at "ws"
        rename_i h0
        have h0' : 0 < sk := by omega
        refine ⟨C, M, s, d0, d1, d2, d3, sk - 1, some (.int k), some (.int X), ?_, vC, vM, CM, me, nC, nM, xx, ?_⟩
        · rw [show ((sk : Int) - 1) = ((sk - 1 : Nat) : Int) by omega]; rfl
        · rw [es]; congr 1; omega
      · rename_i h0
        have sk0 : sk = 0 := by omega
        subst sk0
        rw [Nat.add_zero] at es
        walk_at "ws"
        intro L1 H3 n1 v1 x1
        have vC3 := x1 _ _ vC
        have vM3 := x1 _ _ vM
        have hc3 := x1 _ _ hc'
        have xx3 := xx.trans x1
        refine PB.k_inL v1 rfl ?_
        clear v1 n1 x1 vC vM hc' xx
        walk_at "ws"
        · rename_i h38 h2 _
          rw [if_pos h38, if_neg (by unfold hasLong; rw [decide_eq_false (by omega)]; simp)] at st
          exact ⟨C, M, s, d0, d1, d2, d3, 0, some (.int k), some (.int X), rfl, vC3, vM3, me, xx3, es.trans st⟩
        · rename_i h38 h2 h5 _
          have h5' : ¬ ns.getD (k + 1) 0 = 5 := h5
          rw [if_pos h38, if_neg (by unfold hasLong; rw [decide_eq_false h5']; simp)] at st
          exact ⟨C, M, s, d0, d1, d2, d3, 0, some (.int k), some (.int X), rfl, vC3, vM3, me, xx3, es.trans st⟩
        · rename_i h38 h2 h5 h6
          have h6' : ¬ ns.getD (k + 2) 0 ≤ 255 := by
            have : ns.getD ((k : Int) + 2).toNat 0 = ns.getD (k + 2) 0 := rfl
            omega
          rw [if_pos h38, if_neg (by unfold hasLong; rw [decide_eq_false h6']; simp)] at st
          exact ⟨C, M, s, d0, d1, d2, d3, 0, some (.int k), some (.int X), rfl, vC3, vM3, me, xx3, es.trans st⟩
        · rename_i h38 h2 h5 h6
          have h5' : ns.getD (k + 1) 0 = 5 := h5
          have h6' : ns.getD (k + 2) 0 ≤ 255 := by
            have : ns.getD ((k : Int) + 2).toNat 0 = ns.getD (k + 2) 0 := rfl
            omega
          rw [if_pos h38, if_pos (by unfold hasLong; rw [decide_eq_true h5', decide_eq_true h6', decide_eq_true (show k + 2 < ns.length by omega)]; rfl)] at st
          rcases h38 with rfl | rfl
          · refine w_setL (k := 0) (xs := [.int s.1, .int s.2.1]) (by walk_at "pE") (PB.p_var rfl) (PB.p_cb (PB.p_cons (PB.p_op (PB.p_var rfl) PB.p_c PB.p_eqI) PB.p_nil) PB.p_intB) vC3 (by omega) (by simp) ?_
            walk_at "ws"
            refine ⟨C, M, setLong s 38 (ns.getD (k + 2) 0), d0, d1, d2, d3, 2, some (.int k), some (.int 38), rfl, ?_, ?_, CM, me, nC, nM, up_ext' xx3 nC, ?_⟩
            · rw [upd_same]; rfl
            · rw [upd_ne CM.symm]; exact vM3
            · rw [es, st]
          · refine w_setL (k := 1) (xs := [.int s.1, .int s.2.1]) (by walk_at "pE") (PB.p_var rfl) (PB.p_cb (PB.p_cons (PB.p_op (PB.p_var rfl) PB.p_c PB.p_eqI) PB.p_nil) PB.p_intB) vC3 (by omega) (by simp) ?_
            walk_at "ws"
            refine ⟨C, M, setLong s 48 (ns.getD (k + 2) 0), d0, d1, d2, d3, 2, some (.int k), some (.int 48), rfl, ?_, ?_, CM, me, nC, nM, up_ext' xx3 nC, ?_⟩
            · rw [upd_same]; rfl
            · rw [upd_ne CM.symm]; exact vM3
            · rw [es, st]
        · rename_i h38 h0
          rw [if_neg h38] at st
          subst h0
          intro C2 H4 nC2 vC2 xC2
          walk_at "ws"
          intro M2 H5 nM2 vM2 xM2
          exact ⟨C2, M2, (-1, -1, 0), false, false, false, false, 0, some (.int k), some (.int 0), rfl, xM2 _ _ vC2, vM2, PB.ne_fresh nM2 vC2, rfl, none_of' xx3 nC2, none_of' (xx3.trans xC2) nM2, (xx3.trans xC2).trans xM2, es.trans st⟩
        · rename_i h38 h0
          rw [if_neg h38] at st
          intro L2' H4 n2 v2 x2
          have vC4 := x2 _ _ vC3
          have vM4 := x2 _ _ vM3
          have xx4 := xx3.trans x2
          refine PB.k_inL v2 rfl ?_
          clear v2 n2 x2 vC3 vM3 hc3 xx3
          walk_at "ws"
          · rename_i hm
            rcases hm with rfl | rfl | rfl | rfl
            · refine w_setIdx (j := 0) (x := 1) (ns := [1, 4, 5, 7]) PB.p_c rfl (PB.p_cons PB.p_c (PB.p_cons PB.p_c (PB.p_cons PB.p_c (PB.p_cons PB.p_c PB.p_nil)))) (fun H1 _ => PB.p_var rfl) (by decide) rfl (by intro m y hmj e; omega) vM4 (by simp) fun H5 x5 => ?_
              have af := after_mark (s := s) (n := 1) (k := 1) (by decide) rfl
              rw [me, or1] at af
              rw [af] at st
              refine ⟨C, M, (s.1, s.2.1, mk4 true d1 d2 d3), true, d1, d2, d3, 0, some (.int k), some (.int 1), rfl, ?_, ?_, CM, rfl, nC, nM, up_ext' (xx4.trans x5) nM, es.trans st⟩
              · rw [upd_ne CM]; exact x5 _ _ vC4
              · rw [upd_same]; rfl
            · refine w_setIdx (j := 1) (x := 4) (ns := [1, 4, 5, 7]) PB.p_c rfl (PB.p_cons PB.p_c (PB.p_cons PB.p_c (PB.p_cons PB.p_c (PB.p_cons PB.p_c PB.p_nil)))) (fun H1 _ => PB.p_var rfl) (by decide) rfl (by intro m y hmj e; rcases (show m = 0 by omega) with rfl <;> (cases e; decide)) vM4 (by simp) fun H5 x5 => ?_
              have af := after_mark (s := s) (n := 4) (k := 2) (by decide) rfl
              rw [me, or2] at af
              rw [af] at st
              refine ⟨C, M, (s.1, s.2.1, mk4 d0 true d2 d3), d0, true, d2, d3, 0, some (.int k), some (.int 4), rfl, ?_, ?_, CM, rfl, nC, nM, up_ext' (xx4.trans x5) nM, es.trans st⟩
              · rw [upd_ne CM]; exact x5 _ _ vC4
              · rw [upd_same]; rfl
            · refine w_setIdx (j := 2) (x := 5) (ns := [1, 4, 5, 7]) PB.p_c rfl (PB.p_cons PB.p_c (PB.p_cons PB.p_c (PB.p_cons PB.p_c (PB.p_cons PB.p_c PB.p_nil)))) (fun H1 _ => PB.p_var rfl) (by decide) rfl (by intro m y hmj e; rcases (show m = 0 ∨ m = 1 by omega) with rfl | rfl <;> (cases e; decide)) vM4 (by simp) fun H5 x5 => ?_
              have af := after_mark (s := s) (n := 5) (k := 4) (by decide) rfl
              rw [me, or4] at af
              rw [af] at st
              refine ⟨C, M, (s.1, s.2.1, mk4 d0 d1 true d3), d0, d1, true, d3, 0, some (.int k), some (.int 5), rfl, ?_, ?_, CM, rfl, nC, nM, up_ext' (xx4.trans x5) nM, es.trans st⟩
              · rw [upd_ne CM]; exact x5 _ _ vC4
              · rw [upd_same]; rfl
            · refine w_setIdx (j := 3) (x := 7) (ns := [1, 4, 5, 7]) PB.p_c rfl (PB.p_cons PB.p_c (PB.p_cons PB.p_c (PB.p_cons PB.p_c (PB.p_cons PB.p_c PB.p_nil)))) (fun H1 _ => PB.p_var rfl) (by decide) rfl (by intro m y hmj e; rcases (show m = 0 ∨ m = 1 ∨ m = 2 by omega) with rfl | rfl | rfl <;> (cases e; decide)) vM4 (by simp) fun H5 x5 => ?_
              have af := after_mark (s := s) (n := 7) (k := 8) (by decide) rfl
              rw [me, or8] at af
              rw [af] at st
              refine ⟨C, M, (s.1, s.2.1, mk4 d0 d1 d2 true), d0, d1, d2, true, 0, some (.int k), some (.int 7), rfl, ?_, ?_, CM, rfl, nC, nM, up_ext' (xx4.trans x5) nM, es.trans st⟩
              · rw [upd_ne CM]; exact x5 _ _ vC4
              · rw [upd_same]; rfl
          · rename_i hm1
            intro L3' H5 n3 v3 x3
            have vC5 := x3 _ _ vC4
            have vM5 := x3 _ _ vM4
            have xx5 := xx4.trans x3
            refine PB.k_inL v3 rfl ?_
            clear v3 n3 x3 vC4 vM4 xx4
            walk_at "ws"
            · rename_i hm
              rcases hm with rfl | rfl | rfl | rfl
              · refine w_setIdx (j := 0) (x := 22) (ns := [22, 24, 25, 27]) PB.p_c rfl (PB.p_cons PB.p_c (PB.p_cons PB.p_c (PB.p_cons PB.p_c (PB.p_cons PB.p_c PB.p_nil)))) (fun H1 _ => PB.p_var rfl) (by decide) rfl (by intro m y hmj e; omega) vM5 (by simp) fun H5 x5 => ?_
                have af := after_clear (s := s) (n := 22) (k := 1) (by decide) rfl rfl
                rw [me, an1] at af
                rw [af] at st
                refine ⟨C, M, (s.1, s.2.1, mk4 false d1 d2 d3), false, d1, d2, d3, 0, some (.int k), some (.int 22), rfl, ?_, ?_, CM, rfl, nC, nM, up_ext' (xx5.trans x5) nM, es.trans st⟩
                · rw [upd_ne CM]; exact x5 _ _ vC5
                · rw [upd_same]; rfl
              · refine w_setIdx (j := 1) (x := 24) (ns := [22, 24, 25, 27]) PB.p_c rfl (PB.p_cons PB.p_c (PB.p_cons PB.p_c (PB.p_cons PB.p_c (PB.p_cons PB.p_c PB.p_nil)))) (fun H1 _ => PB.p_var rfl) (by decide) rfl (by intro m y hmj e; rcases (show m = 0 by omega) with rfl <;> (cases e; decide)) vM5 (by simp) fun H5 x5 => ?_
                have af := after_clear (s := s) (n := 24) (k := 2) (by decide) rfl rfl
                rw [me, an2] at af
                rw [af] at st
                refine ⟨C, M, (s.1, s.2.1, mk4 d0 false d2 d3), d0, false, d2, d3, 0, some (.int k), some (.int 24), rfl, ?_, ?_, CM, rfl, nC, nM, up_ext' (xx5.trans x5) nM, es.trans st⟩
                · rw [upd_ne CM]; exact x5 _ _ vC5
                · rw [upd_same]; rfl
              · refine w_setIdx (j := 2) (x := 25) (ns := [22, 24, 25, 27]) PB.p_c rfl (PB.p_cons PB.p_c (PB.p_cons PB.p_c (PB.p_cons PB.p_c (PB.p_cons PB.p_c PB.p_nil)))) (fun H1 _ => PB.p_var rfl) (by decide) rfl (by intro m y hmj e; rcases (show m = 0 ∨ m = 1 by omega) with rfl | rfl <;> (cases e; decide)) vM5 (by simp) fun H5 x5 => ?_
                have af := after_clear (s := s) (n := 25) (k := 4) (by decide) rfl rfl
                rw [me, an4] at af
                rw [af] at st
                refine ⟨C, M, (s.1, s.2.1, mk4 d0 d1 false d3), d0, d1, false, d3, 0, some (.int k), some (.int 25), rfl, ?_, ?_, CM, rfl, nC, nM, up_ext' (xx5.trans x5) nM, es.trans st⟩
                · rw [upd_ne CM]; exact x5 _ _ vC5
                · rw [upd_same]; rfl
              · refine w_setIdx (j := 3) (x := 27) (ns := [22, 24, 25, 27]) PB.p_c rfl (PB.p_cons PB.p_c (PB.p_cons PB.p_c (PB.p_cons PB.p_c (PB.p_cons PB.p_c PB.p_nil)))) (fun H1 _ => PB.p_var rfl) (by decide) rfl (by intro m y hmj e; rcases (show m = 0 ∨ m = 1 ∨ m = 2 by omega) with rfl | rfl | rfl <;> (cases e; decide)) vM5 (by simp) fun H5 x5 => ?_
                have af := after_clear (s := s) (n := 27) (k := 8) (by decide) rfl rfl
                rw [me, an8] at af
                rw [af] at st
                refine ⟨C, M, (s.1, s.2.1, mk4 d0 d1 d2 false), d0, d1, d2, false, 0, some (.int k), some (.int 27), rfl, ?_, ?_, CM, rfl, nC, nM, up_ext' (xx5.trans x5) nM, es.trans st⟩
                · rw [upd_ne CM]; exact x5 _ _ vC5
                · rw [upd_same]; rfl
            · rename_i hr
              rcases hr with hr | hr
              · have af := after_col (s := s) (n := X) (by omega) (by omega) (by omega)
                rw [show shortC X 30 90 s.1 = (X - 30) by unfold shortC; (repeat' split) <;> omega, show shortC X 40 100 s.2.1 = s.2.1 by unfold shortC; (repeat' split) <;> omega] at af
                rw [af] at st
                refine w_setL (v := .int (X - 30)) (k := 0) (xs := [.int s.1, .int s.2.1]) ?_ (PB.p_var rfl) ?_ vC5 (by omega) (by simp) ?_
                · have z : PB.pE (tOp PB.mMod (tCB PB.mInt (tCons (PB.mVar 6) tNil)) (tC (.int 10))) [some (.ref a), some (.ref c), some (.ref C), some (.ref M), some (.int ((0 : Nat) : Int)), some (.int k), some (.int X)] H5 (.int (X % 10)) := PB.p_op (PB.p_cb (PB.p_cons (PB.p_var rfl) PB.p_nil) PB.p_intI) PB.p_c (PB.p_mod (by decide)); rw [show X % 10 = X - 30 by omega] at z; exact z
                · have z : PB.pE (tCB PB.mInt (tCons (tOp PB.mGe (PB.mVar 6) (tC (.int 40))) tNil)) [some (.ref a), some (.ref c), some (.ref C), some (.ref M), some (.int ((0 : Nat) : Int)), some (.int k), some (.int X)] H5 (.int (if decide (40 ≤ X) then 1 else 0)) := PB.p_cb (PB.p_cons (PB.p_op (PB.p_var rfl) PB.p_c PB.p_ge) PB.p_nil) PB.p_intB; rw [if_neg (by simp; omega)] at z; exact z
                refine ⟨C, M, ((X - 30), s.2.1, s.2.2), d0, d1, d2, d3, 0, some (.int k), some (.int X), rfl, ?_, ?_, CM, me, nC, nM, up_ext' xx5 nC, es.trans st⟩
                · rw [upd_same]; rfl
                · rw [upd_ne CM.symm]; exact vM5
              · have af := after_col (s := s) (n := X) (by omega) (by omega) (by omega)
                rw [show shortC X 30 90 s.1 = s.1 by unfold shortC; (repeat' split) <;> omega, show shortC X 40 100 s.2.1 = (X - 40) by unfold shortC; (repeat' split) <;> omega] at af
                rw [af] at st
                refine w_setL (v := .int (X - 40)) (k := 1) (xs := [.int s.1, .int s.2.1]) ?_ (PB.p_var rfl) ?_ vC5 (by omega) (by simp) ?_
                · have z : PB.pE (tOp PB.mMod (tCB PB.mInt (tCons (PB.mVar 6) tNil)) (tC (.int 10))) [some (.ref a), some (.ref c), some (.ref C), some (.ref M), some (.int ((0 : Nat) : Int)), some (.int k), some (.int X)] H5 (.int (X % 10)) := PB.p_op (PB.p_cb (PB.p_cons (PB.p_var rfl) PB.p_nil) PB.p_intI) PB.p_c (PB.p_mod (by decide)); rw [show X % 10 = X - 40 by omega] at z; exact z
                · have z : PB.pE (tCB PB.mInt (tCons (tOp PB.mGe (PB.mVar 6) (tC (.int 40))) tNil)) [some (.ref a), some (.ref c), some (.ref C), some (.ref M), some (.int ((0 : Nat) : Int)), some (.int k), some (.int X)] H5 (.int (if decide (40 ≤ X) then 1 else 0)) := PB.p_cb (PB.p_cons (PB.p_op (PB.p_var rfl) PB.p_c PB.p_ge) PB.p_nil) PB.p_intB; rw [if_pos (by simp; omega)] at z; exact z
                refine ⟨C, M, (s.1, (X - 40), s.2.2), d0, d1, d2, d3, 0, some (.int k), some (.int X), rfl, ?_, ?_, CM, me, nC, nM, up_ext' xx5 nC, es.trans st⟩
                · rw [upd_same]; rfl
                · rw [upd_ne CM.symm]; exact vM5
            · rename_i hm2 hr
              intro L4' H6 n4 v4 x4
              have vC6 := x4 _ _ vC5
              have vM6 := x4 _ _ vM5
              have xx6 := xx5.trans x4
              refine PB.k_inL v4 rfl ?_
              clear v4 n4 x4 vC5 vM5 xx5
              walk_at "ws"
              · rename_i h9
                rcases h9 with h9 | h9
                · have af := after_col (s := s) (n := X) (by omega) (by omega) (by omega)
                  rw [show shortC X 30 90 s.1 = (-1) by unfold shortC; (repeat' split) <;> omega, show shortC X 40 100 s.2.1 = s.2.1 by unfold shortC; (repeat' split) <;> omega] at af
                  rw [af] at st
                  refine w_setL (v := .int (-1)) (k := 0) (xs := [.int s.1, .int s.2.1]) ?_ (PB.p_var rfl) ?_ vC6 (by omega) (by simp) ?_
                  · exact PB.p_neg PB.p_c
                  · have z : PB.pE (tCB PB.mInt (tCons (tOp (PB.mEq K) (PB.mVar 6) (tC (.int 49))) tNil)) [some (.ref a), some (.ref c), some (.ref C), some (.ref M), some (.int ((0 : Nat) : Int)), some (.int k), some (.int X)] H6 (.int (if decide (X = 49) then 1 else 0)) := PB.p_cb (PB.p_cons (PB.p_op (PB.p_var rfl) PB.p_c PB.p_eqI) PB.p_nil) PB.p_intB; rw [if_neg (by simp; omega)] at z; exact z
                  refine ⟨C, M, ((-1), s.2.1, s.2.2), d0, d1, d2, d3, 0, some (.int k), some (.int X), rfl, ?_, ?_, CM, me, nC, nM, up_ext' xx6 nC, es.trans st⟩
                  · rw [upd_same]; rfl
                  · rw [upd_ne CM.symm]; exact vM6
                · have af := after_col (s := s) (n := X) (by omega) (by omega) (by omega)
                  rw [show shortC X 30 90 s.1 = s.1 by unfold shortC; (repeat' split) <;> omega, show shortC X 40 100 s.2.1 = (-1) by unfold shortC; (repeat' split) <;> omega] at af
                  rw [af] at st
                  refine w_setL (v := .int (-1)) (k := 1) (xs := [.int s.1, .int s.2.1]) ?_ (PB.p_var rfl) ?_ vC6 (by omega) (by simp) ?_
                  · exact PB.p_neg PB.p_c
                  · have z : PB.pE (tCB PB.mInt (tCons (tOp (PB.mEq K) (PB.mVar 6) (tC (.int 49))) tNil)) [some (.ref a), some (.ref c), some (.ref C), some (.ref M), some (.int ((0 : Nat) : Int)), some (.int k), some (.int X)] H6 (.int (if decide (X = 49) then 1 else 0)) := PB.p_cb (PB.p_cons (PB.p_op (PB.p_var rfl) PB.p_c PB.p_eqI) PB.p_nil) PB.p_intB; rw [if_pos (by simp; omega)] at z; exact z
                  refine ⟨C, M, (s.1, (-1), s.2.2), d0, d1, d2, d3, 0, some (.int k), some (.int X), rfl, ?_, ?_, CM, me, nC, nM, up_ext' xx6 nC, es.trans st⟩
                  · rw [upd_same]; rfl
                  · rw [upd_ne CM.symm]; exact vM6
              · rename_i h9 hb
                rcases hb with hb | hb
                · have af := after_col (s := s) (n := X) (by omega) (by omega) (by omega)
                  rw [show shortC X 30 90 s.1 = (X - 90 + 8) by unfold shortC; (repeat' split) <;> omega, show shortC X 40 100 s.2.1 = s.2.1 by unfold shortC; (repeat' split) <;> omega] at af
                  rw [af] at st
                  refine w_setL (v := .int (X - 90 + 8)) (k := 0) (xs := [.int s.1, .int s.2.1]) ?_ (PB.p_var rfl) ?_ vC6 (by omega) (by simp) ?_
                  · have z : PB.pE (tOp (PB.mAdd K) (tOp PB.mMod (tCB PB.mInt (tCons (PB.mVar 6) tNil)) (tC (.int 10))) (tC (.int 8))) [some (.ref a), some (.ref c), some (.ref C), some (.ref M), some (.int ((0 : Nat) : Int)), some (.int k), some (.int X)] H6 (.int (X % 10 + 8)) := PB.p_op (PB.p_op (PB.p_cb (PB.p_cons (PB.p_var rfl) PB.p_nil) PB.p_intI) PB.p_c (PB.p_mod (by decide))) PB.p_c PB.p_add; rw [show X % 10 + 8 = X - 90 + 8 by omega] at z; exact z
                  · have z : PB.pE (tCB PB.mInt (tCons (tOp PB.mGe (PB.mVar 6) (tC (.int 100))) tNil)) [some (.ref a), some (.ref c), some (.ref C), some (.ref M), some (.int ((0 : Nat) : Int)), some (.int k), some (.int X)] H6 (.int (if decide (100 ≤ X) then 1 else 0)) := PB.p_cb (PB.p_cons (PB.p_op (PB.p_var rfl) PB.p_c PB.p_ge) PB.p_nil) PB.p_intB; rw [if_neg (by simp; omega)] at z; exact z
                  refine ⟨C, M, ((X - 90 + 8), s.2.1, s.2.2), d0, d1, d2, d3, 0, some (.int k), some (.int X), rfl, ?_, ?_, CM, me, nC, nM, up_ext' xx6 nC, es.trans st⟩
                  · rw [upd_same]; rfl
                  · rw [upd_ne CM.symm]; exact vM6
                · have af := after_col (s := s) (n := X) (by omega) (by omega) (by omega)
                  rw [show shortC X 30 90 s.1 = s.1 by unfold shortC; (repeat' split) <;> omega, show shortC X 40 100 s.2.1 = (X - 100 + 8) by unfold shortC; (repeat' split) <;> omega] at af
                  rw [af] at st
                  refine w_setL (v := .int (X - 100 + 8)) (k := 1) (xs := [.int s.1, .int s.2.1]) ?_ (PB.p_var rfl) ?_ vC6 (by omega) (by simp) ?_
                  · have z : PB.pE (tOp (PB.mAdd K) (tOp PB.mMod (tCB PB.mInt (tCons (PB.mVar 6) tNil)) (tC (.int 10))) (tC (.int 8))) [some (.ref a), some (.ref c), some (.ref C), some (.ref M), some (.int ((0 : Nat) : Int)), some (.int k), some (.int X)] H6 (.int (X % 10 + 8)) := PB.p_op (PB.p_op (PB.p_cb (PB.p_cons (PB.p_var rfl) PB.p_nil) PB.p_intI) PB.p_c (PB.p_mod (by decide))) PB.p_c PB.p_add; rw [show X % 10 + 8 = X - 100 + 8 by omega] at z; exact z
                  · have z : PB.pE (tCB PB.mInt (tCons (tOp PB.mGe (PB.mVar 6) (tC (.int 100))) tNil)) [some (.ref a), some (.ref c), some (.ref C), some (.ref M), some (.int ((0 : Nat) : Int)), some (.int k), some (.int X)] H6 (.int (if decide (100 ≤ X) then 1 else 0)) := PB.p_cb (PB.p_cons (PB.p_op (PB.p_var rfl) PB.p_c PB.p_ge) PB.p_nil) PB.p_intB; rw [if_pos (by simp; omega)] at z; exact z
                  refine ⟨C, M, (s.1, (X - 100 + 8), s.2.2), d0, d1, d2, d3, 0, some (.int k), some (.int X), rfl, ?_, ?_, CM, me, nC, nM, up_ext' xx6 nC, es.trans st⟩
                  · rw [upd_same]; rfl
                  · rw [upd_ne CM.symm]; exact vM6
              · rename_i h9 hb
                have af := after_col (s := s) (n := X) (by omega) (by omega) (by omega)
                rw [show shortC X 30 90 s.1 = s.1 by unfold shortC; (repeat' split) <;> omega, show shortC X 40 100 s.2.1 = s.2.1 by unfold shortC; (repeat' split) <;> omega] at af
                rw [af] at st
                exact ⟨C, M, s, d0, d1, d2, d3, 0, some (.int k), some (.int X), rfl, vC6, vM6, CM, me, nC, nM, xx6, es.trans st⟩
    · rintro σ H' ⟨C, M, s, d0, d1, d2, d3, sk, x, y, rfl, vC, vM, CM, me, nC, nM, xx, es⟩
      have st := sty_step ns s (((ns.length : Int)).toNat + sk)
      rw [if_neg (by omega)] at st
      exact ⟨C, M, s, d0, d1, d2, d3, sk, x, y, rfl, vC, vM, me, xx, es.trans st⟩
  · rintro σ H' ⟨C, M, s, d0, d1, d2, d3, sk, x, y, rfl, vC, vM, me, xx, es⟩
    have g0 : (0 : Int) ≤ bit d0 ∧ bit d0 ≤ 1 := by cases d0 <;> decide
    have g1 : (0 : Int) ≤ bit d1 ∧ bit d1 ≤ 1 := by cases d1 <;> decide
    have g2 : (0 : Int) ≤ bit d2 ∧ bit d2 ≤ 1 := by cases d2 <;> decide
    have g3 : (0 : Int) ≤ bit d3 ∧ bit d3 ≤ 1 := by cases d3 <;> decide
    walk_at "ws"
    intro p H'' np vp xp
    refine q' s H' es xx p H'' np ?_ xp
    rw [vp]
    show some (HO.tup [V.int s.1, V.int s.2.1, V.int (bit d0 + 2 * bit d1 + 4 * bit d2 + 8 * bit d3)]) = _
    rw [show bit d0 + 2 * bit d1 + 4 * bit d2 + 8 * bit d3 = s.2.2 from me.symm]

theorem k_appK' {ta te : TE} {σ : L2.St} {H : Hp} {l : Addr} {xs : List V} {Q : VK} (ha : PB.pE ta σ H (.ref l)) (hH : H l = some (.lst xs)) (h : te σ H fun v H1 => PB.mAppend (.ref l) [v] H1 Q) : PB.mLM PB.mAppend ta (tCons te tNil) σ H Q := by
  refine ha _ ?_
  show (match H l with | some (.lst _) => _ | _ => False)
  rw [hH]
  exact h
theorem k_app' {H : Hp} {l : Addr} {xs : List V} {v : V} {Q : VK} (hH : H l = some (.lst xs)) (hl : xs.length < sizeLine) (q : Q .non (upd H l (.lst (xs ++ [v])))) : PB.mAppend (.ref l) [v] H Q := by
  show (match H l with | some (.lst xs) => xs.length < sizeLine ∧ Q .non (upd H l (.lst (xs ++ [v]))) | _ => False)
  rw [hH]
  exact ⟨hl, q⟩
def kFor (K : PySem.W.Frag) (g : TG) (tb : TS) (D : Ends) (σ : L2.St) : VK := fun x H1 => tFor (iList K (tC x)) g tb D σ H1
theorem w_forLK {K : PySem.W.Frag} {tl : TE} {g : TG} {tb : TS} {D : Ends} {σ : L2.St} {H : Hp} (h : tl σ H (kFor K g tb D σ)) : tFor (iList K tl) g tb D σ H := h
theorem k_kFor {K : PySem.W.Frag} {x : V} {g : TG} {tb : TS} {D : Ends} {σ : L2.St} {H : Hp} (h : tFor (iList K (tC x)) g tb D σ H) : kFor K g tb D σ x H := h
abbrev knownL : List Int := [0, 1, 4, 5, 7, 22, 24, 25, 27, 30, 37, 38, 38, 39, 40, 47, 48, 48, 49, 90, 97, 100, 107]
abbrev fivesL : List Int := [5, 5, 5, 2]
def sp_law_numbers (K : PySem.W.Frag) : Sp := fun vs H Q _ => ∃ c m : Int, vs = [.int c, .int m] ∧ ∀ ns : List Int, ns.length ≤ 12 → PB.NewAt H (.tup (ns.map V.int)) Q
def N_law_numbers : List Str := ["cell", "more", "known", "numbers", "x", "first"]
def t_law_numbers (K : PySem.W.Frag) : TS := tSeq (tAsg (tLst (tCons (tC (.int 0)) (tCons (tC (.int 1)) (tCons (tC (.int 4)) (tCons (tC (.int 5)) (tCons (tC (.int 7)) (tCons (tC (.int 22)) (tCons (tC (.int 24)) (tCons (tC (.int 25)) (tCons (tC (.int 27)) (tCons (tC (.int 30)) (tCons (tC (.int 37)) (tCons (tC (.int 38)) (tCons (tC (.int 38)) (tCons (tC (.int 39)) (tCons (tC (.int 40)) (tCons (tC (.int 47)) (tCons (tC (.int 48)) (tCons (tC (.int 48)) (tCons (tC (.int 49)) (tCons (tC (.int 90)) (tCons (tC (.int 97)) (tCons (tC (.int 100)) (tCons (tC (.int 107)) (tNil))))))))))))))))))))))))) (gName 2)) (
  tSeq (tAsg (tLst (tNil)) (gName 3)) (
  tSeq (tFor (iList K (PB.mCall (sp_law_row K) (tCons (PB.mVar 0) (tCons (tOp (PB.mAdd K) (tC (.int 1)) (tOp (PB.mMod) (tCB (PB.mAbs) (tCons (tCB (PB.mInt) (tCons (PB.mVar 1) (tNil))) (tNil))) (tC (.int 7)))) (tCons (tC (.int 4194304)) (tNil)))))) (gName 4) (tSeq (tAsg (tOp (PB.mIx K) (PB.mVar 2) (tOp (PB.mMod) (PB.mVar 4) (tC (.int 23)))) (gName 5)) (
  C8.tCut (tIfS (PB.mTest (tOp (PB.mEq K) (tOp (PB.mMod) (tOp (PB.mDiv) (PB.mVar 4) (tC (.int 23))) (tC (.int 4))) (tC (.int 0)))) (tAsg (tCB (PB.mMax2) (tCons (tC (.int 0)) (tCons (tOp (PB.mSub) (tOp (PB.mAdd K) (PB.mVar 5) (tOp (PB.mMod) (tOp (PB.mDiv) (PB.mVar 4) (tC (.int 92))) (tC (.int 3)))) (tC (.int 1))) (tNil)))) (gName 5)) (tNext)) (
  tSeq (tDrop (PB.mLM (PB.mAppend) (PB.mVar 3) (tCons (PB.mVar 5) (tNil)))) (
  tIfS (tAnd (PB.mTest (tOp (PB.mIn K) (PB.mVar 5) (tLst (tCons (tC (.int 38)) (tCons (tC (.int 48)) (tNil)))))) (PB.mTest (tOp (PB.mGt) (tOp (PB.mMod) (tOp (PB.mDiv) (PB.mVar 4) (tC (.int 276))) (tC (.int 5))) (tC (.int 0))))) (tSeq (tDrop (PB.mLM (PB.mAppend) (PB.mVar 3) (tCons (tOp (PB.mIx K) (tLst (tCons (tC (.int 5)) (tCons (tC (.int 5)) (tCons (tC (.int 5)) (tCons (tC (.int 2)) (tNil)))))) (tOp (PB.mMod) (tOp (PB.mDiv) (PB.mVar 4) (tC (.int 1380))) (tC (.int 4)))) (tNil)))) (
  tIfS (PB.mTest (tOp (PB.mGt) (tOp (PB.mMod) (tOp (PB.mDiv) (PB.mVar 4) (tC (.int 5520))) (tC (.int 4))) (tC (.int 0)))) (tDrop (PB.mLM (PB.mAppend) (PB.mVar 3) (tCons (tOp (PB.mMod) (tOp (PB.mDiv) (PB.mVar 4) (tC (.int 22080))) (tC (.int 300))) (tNil)))) (tNext))) (tNext)))))) (
  tRet (tCB (PB.mTup K) (tCons (tSl (PB.mSl K) (PB.mVar 3) (tNoPart) (PB.mPart (tC (.int 12)))) (tNil))))))

theorem len_law_numbers {K : PySem.W.Frag} : PB.Len 2 (sp_law_numbers K) := by walk_at "len"
theorem pure_law_numbers (K : PySem.W.Frag) : PB.Pure N_law_numbers (sp_law_numbers K) (t_law_numbers K) := by
  rintro vs H Q E ⟨c, m, rfl, q⟩
  show t_law_numbers K _ [some (.int c), some (.int m), none, none, none, none] H
  unfold t_law_numbers
  walk_at "ws"
  intro A H1 nA vA xA
  have vA' : H1 A = some (.lst (knownL.map V.int)) := vA
  clear vA
  walk_at "ws"
  intro N H2 nN vN xN
  walk_at "w"
  refine w_forLK ?_
  walk_at "k"
  refine ⟨c, _, 4194304, rfl, by omega, by omega, by decide, by decide, fun xs xl xb D H3 nD vD xD => k_kFor ?_⟩
  have vA3 := xD _ _ (xN _ _ vA')
  have xl' : xs.length ≤ 7 := by omega
  have NA : N ≠ A := (L2.ne_of_none vA' nN).symm
  have nN0 := none_of' xA nN
  have x3 := xA.trans (xN.trans xD)
  have vN3 := xD _ _ vN
  refine PB.w_forL (a := D) (xs := xs.map V.int) PB.p_c (SqL.of vD) (fun i σ H4 => ∃ (ns : List Int) (x y : Option V), σ = [some (.int c), some (.int m), some (.ref A), some (.ref N), x, y] ∧ H4 N = some (.lst (ns.map V.int)) ∧ ns.length ≤ 3 * i ∧ Fr [N] [N] H3 H4) ?_ ?_ ?_ ?_
  · exact ⟨[], none, none, rfl, vN3, Nat.le_refl _, Fr.refl _ _⟩
  · rintro i σ H4 _ ⟨ns, x, y, rfl, v4, nl, f4⟩
    exact SqL.of (f4.1 D _ (by rw [List.mem_singleton]; exact (L2.ne_of_none vN nD).symm) vD)
  · rintro i v σ H4 hi ⟨ns, x, y, rfl, v4, nl, f4⟩
    obtain ⟨n, hn, rfl⟩ : ∃ n, xs[i]? = some n ∧ v = .int n := by
      rw [List.getElem?_map] at hi
      cases hx : xs[i]? with
      | none => rw [hx] at hi; cases hi
      | some n => rw [hx] at hi; exact ⟨n, rfl, (Option.some.inj hi).symm⟩
    have nb := xb n (List.mem_of_getElem? hn)
    have il : i < xs.length := (List.getElem?_eq_some_iff.mp hn).1
    have vA4 : H4 A = some (.lst (knownL.map V.int)) := f4.1 A _ (by rw [List.mem_singleton]; exact NA.symm) vA3
    have el : (ns.map V.int).length = ns.length := List.length_map _
    have k23 : n % 23 < (knownL.length : Int) := by
      have := Int.emod_lt_of_pos n (show (0 : Int) < 23 by decide)
      show n % 23 < 23
      omega
    have k0 := Int.emod_nonneg n (show (23 : Int) ≠ 0 by decide)
    clear vA3 vN3 vN vD nN vA' x3 xN xD xA nD
    refine PB.g_name ?_
    walk_at "w"
    refine PB.w_asg (PB.p_op (PB.p_var rfl) (PB.p_op (PB.p_var rfl) PB.p_c (PB.p_mod (by decide))) (PB.p_ixIH vA4 k0 k23)) ?_
    refine PB.w_mid (fun σ' H' => H' = H4 ∧ ∃ f : Int, σ' = [some (.int c), some (.int m), some (.ref A), some (.ref N), some (.int n), some (.int f)]) ?_ ?_
    · walk_at "ws"
      all_goals exact ⟨rfl, _, rfl⟩
    · rintro σ' H' ⟨rfl, f, rfl⟩
      walk_at "ws"
      intro L H5 nL vL xL
      refine PB.k_inL vL rfl ?_
      have v5 : H5 N = some (.lst (ns.map V.int ++ [.int f])) := xL _ _ upd_same
      have f5 : Fr [N] [N] H3 H5 := fr_ext (fr_upd f4 (by simp)) xL
      clear vL nL xL f4 v4
      refine PB.k_kTest (PB.k_kAnd (fun hf => ?_) (fun hf => ?_))
      · refine PB.k_testK (PB.k_pure (PB.p_op (PB.p_op (PB.p_op (PB.p_var rfl) PB.p_c (PB.p_div ⟨by omega, by decide +kernel⟩)) PB.p_c (PB.p_mod (by decide))) PB.p_c PB.p_gt) (PB.k_kTest (PB.k_kIf (fun hg => ?_) (fun hg => PB.w_next ?_))))
        · refine PB.w_seq (PB.w_dropK (k_appK' (PB.p_var rfl) v5 ?_))
          refine PB.k_op (PB.k_lstP (vs := [.int 5, .int 5, .int 5, .int 2]) (PB.p_cons PB.p_c (PB.p_cons PB.p_c (PB.p_cons PB.p_c (PB.p_cons PB.p_c PB.p_nil)))) (PB.szle rfl) ?_)
          intro M H6 nM vM xM
          have vM' : H6 M = some (.lst (fivesL.map V.int)) := vM
          have v6 := xM _ _ v5
          have f6 := fr_ext f5 xM
          have j0 := Int.emod_nonneg (n / 1380) (show (4 : Int) ≠ 0 by decide)
          have j1 : n / 1380 % 4 < (fivesL.length : Int) := by
            have := Int.emod_lt_of_pos (n / 1380) (show (0 : Int) < 4 by decide)
            show n / 1380 % 4 < 4
            omega
          refine PB.k_pure (PB.p_op (PB.p_op (PB.p_var rfl) PB.p_c (PB.p_div ⟨by omega, by decide +kernel⟩)) PB.p_c (PB.p_mod (by decide))) (PB.p_ixIH vM' j0 j1 _ ?_)
          clear vM xM nM v5 f5 vM'
          refine k_app' v6 (PB.sz_lt (by simp; omega)) ?_
          have v7 : ∀ w : V, (upd H6 N (.lst (ns.map V.int ++ [.int f] ++ [w]))) N = some (.lst (ns.map V.int ++ [.int f] ++ [w])) := fun w => upd_same
          have f7 : Fr [N] [N] H3 (upd H6 N (.lst (ns.map V.int ++ [.int f] ++ [.int (fivesL.getD (n / 1380 % 4).toNat 0)]))) := fr_upd f6 (by simp)
          dsimp only
          refine PB.w_if (b := decide (n / 5520 % 4 > 0)) (PB.p_test (PB.p_op (PB.p_op (PB.p_op (PB.p_var rfl) PB.p_c (PB.p_div ⟨by omega, by decide +kernel⟩)) PB.p_c (PB.p_mod (by decide))) PB.p_c PB.p_gt)) (fun _ => ?_) (fun _ => ?_)
          · refine PB.w_append (PB.p_var rfl) (v7 _) (PB.p_op (PB.p_op (PB.p_var rfl) PB.p_c (PB.p_div ⟨by omega, by decide +kernel⟩)) PB.p_c (PB.p_mod (by decide))) (PB.sz_lt (by simp; omega)) ?_
            exact ⟨ns ++ [f, fivesL.getD (n / 1380 % 4).toNat 0, n / 22080 % 300], some (.int n), some (.int f), rfl, by rw [upd_same]; simp, by simp; omega, fr_upd f7 (by simp)⟩
          · refine PB.w_next ?_
            exact ⟨ns ++ [f, fivesL.getD (n / 1380 % 4).toNat 0], some (.int n), some (.int f), rfl, by rw [v7]; simp, by simp; omega, f7⟩
        · exact ⟨ns ++ [f], some (.int n), some (.int f), rfl, by rw [v5]; simp, by simp; omega, f5⟩
      · refine PB.k_kIf (fun z => by cases z) fun _ => PB.w_next ?_
        exact ⟨ns ++ [f], some (.int n), some (.int f), rfl, by rw [v5]; simp, by simp; omega, f5⟩
  · rintro σ H4 ⟨ns, x, y, rfl, v4, nl, f4⟩
    rw [List.length_map] at nl
    walk_at "ws"
    intro M H5 nM vM xM
    walk_at "ws"
    intro T H6 nT vT xT
    have x5 := fr_toExt x3 nN0 f4
    refine q (ns.take 12) (by simp; omega) T H6 (none_of' (x5.trans xM) nT) ?_ ((x5.trans xM).trans xT)
    rw [vT, PB.cut_to (by decide), List.map_take]
    rfl

theorem after_ok {s : T3} {n : Int} (h : 0 ≤ s.2.2 ∧ s.2.2 < 16) : 0 ≤ (after s n).2.2 ∧ (after s n).2.2 < 16 := by
  obtain ⟨f, b, m⟩ := s
  obtain ⟨a0, a1, a2, a3, e, _⟩ := mk4_of h.1 h.2
  have e' : m = mk4 a0 a1 a2 a3 := e
  subst e'
  have bd : ∀ x y z w, 0 ≤ mk4 x y z w ∧ mk4 x y z w < 16 := by intro x y z w; cases x <;> cases y <;> cases z <;> cases w <;> decide
  unfold after
  split
  · decide
  · split
    · rename_i k hk
      have : k = 1 ∨ k = 2 ∨ k = 4 ∨ k = 8 := by
        simp only [PB.luI] at hk
        (repeat' split at hk) <;> first | cases hk | skip
        all_goals simp_all
      rcases this with rfl | rfl | rfl | rfl
      · show 0 ≤ Builtin.bitOr _ 1 ∧ _ < _; rw [or1]; exact bd ..
      · show 0 ≤ Builtin.bitOr _ 2 ∧ _ < _; rw [or2]; exact bd ..
      · show 0 ≤ Builtin.bitOr _ 4 ∧ _ < _; rw [or4]; exact bd ..
      · show 0 ≤ Builtin.bitOr _ 8 ∧ _ < _; rw [or8]; exact bd ..
    · split
      · rename_i k hk
        have : k = 1 ∨ k = 2 ∨ k = 4 ∨ k = 8 := by
          simp only [PB.luI] at hk
          (repeat' split at hk) <;> first | cases hk | skip
          all_goals simp_all
        rcases this with rfl | rfl | rfl | rfl
        · show 0 ≤ Builtin.bitAnd _ (15 - 1) ∧ _ < _; rw [an1]; exact bd ..
        · show 0 ≤ Builtin.bitAnd _ (15 - 2) ∧ _ < _; rw [an2]; exact bd ..
        · show 0 ≤ Builtin.bitAnd _ (15 - 4) ∧ _ < _; rw [an4]; exact bd ..
        · show 0 ≤ Builtin.bitAnd _ (15 - 8) ∧ _ < _; rw [an8]; exact bd ..
      · exact bd ..
theorem styF_ok (ns : List Int) : ∀ (f : Nat) (s : T3) (i : Nat), 0 ≤ s.2.2 ∧ s.2.2 < 16 → 0 ≤ (styF ns f s i).2.2 ∧ (styF ns f s i).2.2 < 16
  | 0, s, i, h => h
  | f + 1, s, i, h => by
    unfold styF
    split
    · split
      · split
        · refine styF_ok ns f _ _ ?_
          unfold setLong
          split <;> exact h
        · exact h
      · exact styF_ok ns f _ _ (after_ok h)
    · exact h
def sp_law (K : PySem.W.Frag) : Sp := fun vs H Q _ => ∃ (a : Addr) (ns : List Int), vs = [.ref a] ∧ SqL K H a (ns.map V.int) ∧ ns.length ≤ 63 ∧ ∀ H', Q (.bl true) H'
def N_law : List Str := ["script", "row", "style", "k", "numbers", "actual", "x"]
def t_law (K : PySem.W.Frag) : TS := tSeq (tAsg (PB.mCall (sp_law_row K) (tCons (PB.mCall (sp_law_cell K) (tCons (PB.mVar 0) (tCons (tC (.int 0)) (tNil)))) (tCons (tC (.int 3)) (tCons (tC (.int 1000003)) (tNil))))) (gName 1)) (
  tSeq (tAsg (tTup (tCons (tOp (PB.mSub) (tOp (PB.mMod) (tOp (PB.mIx K) (PB.mVar 1) (tC (.int 0))) (tC (.int 257))) (tC (.int 1))) (tCons (tOp (PB.mSub) (tOp (PB.mMod) (tOp (PB.mIx K) (PB.mVar 1) (tC (.int 1))) (tC (.int 257))) (tC (.int 1))) (tCons (tOp (PB.mMod) (tOp (PB.mIx K) (PB.mVar 1) (tC (.int 2))) (tC (.int 16))) (tNil))))) (gName 2)) (
  tSeq (tFor (iRng1 (tCons (tC (.int 8)) (tNil))) (gName 3) (tSeq (tAsg (PB.mCall (sp_law_numbers K) (tCons (PB.mCall (sp_law_cell K) (tCons (PB.mVar 0) (tCons (tOp (PB.mAdd K) (tC (.int 1)) (tOp (PB.mMul) (tC (.int 2)) (PB.mVar 3))) (tNil)))) (tCons (PB.mCall (sp_law_cell K) (tCons (PB.mVar 0) (tCons (tOp (PB.mAdd K) (tC (.int 2)) (tOp (PB.mMul) (tC (.int 2)) (PB.mVar 3))) (tNil)))) (tNil)))) (gName 4)) (
  tSeq (tAsg (PB.mCall (sp_styled K) (tCons (PB.mVar 2) (tCons (PB.mVar 4) (tNil)))) (gName 5)) (
  C8.tCut (tIfS (tOr (tNot (PB.mTru K (tCB (rIsi K) (tCons (PB.mVar 5) (tCons (tC (.ty "tuple")) (tNil)))))) (tOr (PB.mTest (tOp (PB.mNe K) (tCB (PB.mLen K) (tCons (PB.mVar 5) (tNil))) (tC (.int 3)))) (tNot (PB.mTru K (tCB (rAll K) (tCons (tLc (iTup K (PB.mVar 5)) (gName 6) (tYes) (PB.mCall (sp_law_integer K) (tCons (PB.mVar 6) (tNil))) [6]) (tNil))))))) (tRet (tC (.bl false))) (tNext)) (
  C8.tCut (tIfS (PB.mTest (tOp (PB.mNe K) (PB.mVar 5) (PB.mCall (sp_law_styled K) (tCons (PB.mVar 2) (tCons (PB.mVar 4) (tNil)))))) (tRet (tC (.bl false))) (tNext)) (
  tAsg (PB.mVar 5) (gName 2))))))) (
  tRet (tC (.bl true)))))

theorem len_law {K : PySem.W.Frag} : PB.Len 1 (sp_law K) := by walk_at "len"
theorem eqv_t3 {s : T3} : PyData.eqv (.tuple [.int s.1, .int s.2.1, .int s.2.2]) (.tuple [.int s.1, .int s.2.1, .int s.2.2]) = true := by
  have e := eqv_tints [s.1, s.2.1, s.2.2] [s.1, s.2.1, s.2.2]
  rw [decide_eq_true rfl] at e
  exact e
theorem pure_law (K : PySem.W.Frag) : PB.Pure N_law (sp_law K) (t_law K) := by
  rintro vs H Q E ⟨a, ns, rfl, hs, hl, q⟩
  show t_law K _ [some (.ref a), none, none, none, none, none, none] H
  unfold t_law
  walk_at "ws"
  refine ⟨a, ns, 0, rfl, hs, by decide, ?_⟩
  walk_at "ws"
  refine ⟨_, 3, 1000003, rfl, by decide, by decide, by decide, by decide, fun xs xl xb A H1 nA vA xA => ?_⟩
  obtain ⟨y0, y1, y2, rfl⟩ : ∃ y0 y1 y2, xs = [y0, y1, y2] := by
    match xs, xl with
    | [a, b, c], _ => exact ⟨a, b, c, rfl⟩
  have hs1 := PB.ext_l xA hs
  walk_at "ws"
  intro S H2 nS vS xS
  have hs2 := PB.ext_l xS hs1
  walk_at "w"
  have nS0 := none_of' xA nS
  have x2 := xA.trans xS
  have ok0 : 0 ≤ ((y0 % 257 - 1, y1 % 257 - 1, y2 % 16) : T3).2.2 ∧ ((y0 % 257 - 1, y1 % 257 - 1, y2 % 16) : T3).2.2 < 16 := ⟨Int.emod_nonneg _ (by decide), Int.emod_lt_of_pos _ (by decide)⟩
  have vS' : H2 S = some (.tup (vT3 (y0 % 257 - 1, y1 % 257 - 1, y2 % 16))) := vS
  generalize ((y0 % 257 - 1, y1 % 257 - 1, y2 % 16) : T3) = s0 at ok0 vS'
  clear vS vA xb xl nA
  refine PB.w_forR1 (j := 8) (PB.p_cons PB.p_c PB.p_nil) (by omega) (by omega) (fun i σ H3 => ∃ (S : Addr) (s : T3) (x y z w : Option V), σ = [some (.ref a), x, some (.ref S), y, z, w, none] ∧ H3 S = some (.tup (vT3 s)) ∧ (0 ≤ s.2.2 ∧ s.2.2 < 16) ∧ PB.Ext H2 H3) ?_ ?_ ?_
  · exact ⟨S, s0, _, _, _, _, rfl, vS', ok0, PB.Ext.refl _⟩
  · rintro i σ H3 hi ⟨S, s, x, y, z, w, rfl, vS, ok, x3⟩
    have hs3 := PB.ext_l x3 hs2
    refine PB.g_name ?_
    walk_at "ws"
    refine ⟨a, ns, _, rfl, hs3, by omega, ?_⟩
    walk_at "ws"
    refine ⟨a, ns, _, rfl, hs3, by omega, ?_⟩
    walk_at "ws"
    refine ⟨_, _, rfl, fun ms ml M H4 nM vM xM => ?_⟩
    have vS4 := xM _ _ vS
    walk_at "ws"
    refine ⟨S, M, s, ms, rfl, SqT.of vS4, vM, fun A H5 nA vA xA => ?_⟩
    have vS5 := xA _ _ vS4
    have vM5 := xA _ _ vM
    have okA : 0 ≤ (sty ms s 0).2.2 ∧ (sty ms s 0).2.2 < 16 := styF_ok _ _ _ _ ok
    have x5 := x3.trans (xM.trans xA)
    clear vS vS4 vM x3 xM xA nA nM hs3
    dsimp only
    refine PB.w_cut (PB.w_ifK (PB.k_orP (b := false) (PB.p_not (b := true) (PB.p_truB (PB.p_cb (PB.p_cons (PB.p_var rfl) (PB.p_cons PB.p_c PB.p_nil)) (PB.p_isTup vA)))) (fun z => by cases z) fun _ =>
      PB.k_orP (b := false) ?_ (fun z => by cases z) fun _ => PB.k_notK (PB.k_truK (PB.k_cb (PB.k_cons ?_)))))
    · have z : PB.pT (PB.mTest (tOp (PB.mNe K) (tCB (PB.mLen K) (tCons (PB.mVar 5) (tNil))) (tC (.int 3)))) [some (.ref a), x, some (.ref S), some (.int (0 + (i : Int))), some (.ref M), some (.ref A), none] H5 (!decide (((vT3 (sty ms s 0)).length : Int) = 3)) := PB.p_test (PB.p_op (PB.p_cb (PB.p_cons (PB.p_var rfl) PB.p_nil) (PB.p_lenU vA)) PB.p_c PB.p_neI)
      exact z
    refine PB.k_lcTP (fun _ => true) (fun _ => .bl true) (PB.p_var rfl) (SqT.of vA) (PB.szle rfl) (fun x => rfl) ?_ ?_ ?_
    · intro x hx D acc hD
      walk_at "pT"
    · intro x hx _ D acc hD
      obtain ⟨n, rfl⟩ : ∃ n : Int, x = .int n := by
        simp only [List.mem_cons, List.not_mem_nil, or_false] at hx
        rcases hx with h | h | h
        · exact ⟨_, h⟩
        · exact ⟨_, h⟩
        · exact ⟨_, h⟩
      exact PB.p_call (PB.p_cons (PB.p_var rfl) PB.p_nil) pp_law_integer
    · intro D H6 nD vD xD
      refine PB.k_nil (PB.k_all (bs := [true, true, true]) vD (PB.k_kTru ?_))
      have vS6 := xD _ _ vS5
      have vM6 := xD _ _ vM5
      have vA6 := xD _ _ vA
      have x6 := x5.trans xD
      clear vS5 vM5 vA x5 vD nD xD
      refine PB.k_kNot (PB.k_kIf (fun z => by cases z) fun _ => PB.w_next ?_)
      dsimp only
      refine PB.w_cut (PB.w_ifK (PB.k_testK (PB.k_op (PB.k_pure (v := .ref A) (PB.p_var rfl) (PB.k_call (PB.p_cons (PB.p_var rfl) (PB.p_cons (PB.p_var rfl) PB.p_nil)) ⟨S, M, s, ms, rfl, vS6, ok.1, ok.2, vM6, by omega, fun B H7 nB vB xB => ?_⟩)))))
      have vA7 := xB _ _ vA6
      refine PB.k_neD (d := .tuple [.int (sty ms s 0).1, .int (sty ms s 0).2.1, .int (sty ms s 0).2.2]) (e := .tuple [.int (sty ms s 0).1, .int (sty ms s 0).2.1, .int (sty ms s 0).2.2])
        (.tup (SqT.of vA7) (ImAll.dp _ _ (im_ints [_, _, _]))) (.tup (SqT.of vB) (ImAll.dp _ _ (im_ints [_, _, _]))) ((sh_tup (sh_ints (n := 0) [_, _, _])).ok (by decide)) ((sh_tup (sh_ints (n := 0) [_, _, _])).ok (by decide)) ?_
      rw [eqv_t3]
      refine PB.k_kTest (PB.k_kIf (fun z => by cases z) fun _ => PB.w_next ?_)
      walk_at "ws"
      exact ⟨A, sty ms s 0, _, _, _, _, rfl, vA7, okA, x6.trans xB⟩
  · rintro σ H3 ⟨S, s, x, y, z, w, rfl, vS, ok, x3⟩
    walk_at "ws"
    exact q H3

def top (i : Nat) : Stmt := PySem.Challenge.pw_manypanes_k02_styles.main.body.getD i (.Pass ⟨0, 0, 0, 0⟩)
abbrev s_law_cell : Stmt := top 13
abbrev s_law_row : Stmt := top 14
abbrev s_short_colour : Stmt := top 11
abbrev s_has_long_colour : Stmt := top 9
abbrev s_after_number : Stmt := top 10
abbrev s_styled : Stmt := top 8
abbrev s_law_integer : Stmt := top 15
abbrev s_law_styled : Stmt := top 17
abbrev s_law_numbers : Stmt := top 18
abbrev s_law : Stmt := top 19
def d_law_cell : He.DefD := ⟨("_law_cell", none), "_law_cell", "_law_cell", defArgs s_law_cell, defBody s_law_cell, defScope s_law_cell, [], []⟩
def d_law_row : He.DefD := ⟨("_law_row", none), "_law_row", "_law_row", defArgs s_law_row, defBody s_law_row, defScope s_law_row, [], []⟩
def d_short_colour : He.DefD := ⟨("short_colour", none), "short_colour", "short_colour", defArgs s_short_colour, defBody s_short_colour, defScope s_short_colour, [], []⟩
def d_has_long_colour : He.DefD := ⟨("has_long_colour", none), "has_long_colour", "has_long_colour", defArgs s_has_long_colour, defBody s_has_long_colour, defScope s_has_long_colour, [], []⟩
def d_after_number : He.DefD := ⟨("after_number", none), "after_number", "after_number", defArgs s_after_number, defBody s_after_number, defScope s_after_number, [], []⟩
def d_styled : He.DefD := ⟨("styled", none), "styled", "styled", defArgs s_styled, defBody s_styled, defScope s_styled, [], []⟩
def d_law_integer : He.DefD := ⟨("_law_integer", none), "_law_integer", "_law_integer", defArgs s_law_integer, defBody s_law_integer, defScope s_law_integer, [], []⟩
def d_law_styled : He.DefD := ⟨("_law_styled", none), "_law_styled", "_law_styled", defArgs s_law_styled, defBody s_law_styled, defScope s_law_styled, [], []⟩
def d_law_numbers : He.DefD := ⟨("_law_numbers", none), "_law_numbers", "_law_numbers", defArgs s_law_numbers, defBody s_law_numbers, defScope s_law_numbers, [], []⟩
def d_law : He.DefD := ⟨("law", none), "law", "law", defArgs s_law, defBody s_law, defScope s_law, [], []⟩
def fa : List He.Fa := [.free "len", .free "int", .free "abs", .free "range", .int "LARGEST_COLOUR" (255), .glo "PLAIN", .glo "SETTING", .glo "CLEARING", .int "ALL_MARKS" (15), .int "LONG_FOREGROUND" (38), .int "LONG_BACKGROUND" (48), .free "isinstance", .free "bool", .free "max", .free "tuple", .free "all", .glo "_law_cell", .glo "_law_row", .glo "short_colour", .glo "has_long_colour", .glo "after_number", .glo "styled", .glo "_law_integer", .glo "_law_styled", .glo "_law_numbers", .glo "law"]
def fn : List He.DefD := [d_law_cell, d_law_row, d_short_colour, d_has_long_colour, d_after_number, d_styled, d_law_integer, d_law_styled, d_law_numbers, d_law]
def dat_PLAIN : PyData := (.tuple [(.int (-1)), (.int (-1)), (.int (0))])
def ex (K : PySem.W.Frag) : Bool := PB.isD K dat_PLAIN (.ref (He.ga K "PLAIN")) && PB.isDI K [(1, 1), (4, 2), (5, 4), (7, 8)] (He.ga K "SETTING") && PB.isDI K [(22, 1), (24, 2), (25, 4), (27, 8)] (He.ga K "CLEARING")
structure Tx (K : PySem.W.Frag) (mg : Str → Option Value) : Prop where
  c : He.SaysD fa fn K
  x : ex K = true
  n : ∃ h : Heap, K.In h ∧ h.Ns mainGlobals mg
section
variable {P : Program} {w : World} {K : PySem.W.Frag} {mg : Str → Option Value} {base : Heap}
theorem Tx.free_len (T : Tx K mg) : mg "len" = none := by obtain ⟨h, X, G⟩ := T.n; exact He.free_ok X G (T.c.fact 0 (f := .free "len") rfl)
theorem Tx.free_int (T : Tx K mg) : mg "int" = none := by obtain ⟨h, X, G⟩ := T.n; exact He.free_ok X G (T.c.fact 1 (f := .free "int") rfl)
theorem Tx.free_abs (T : Tx K mg) : mg "abs" = none := by obtain ⟨h, X, G⟩ := T.n; exact He.free_ok X G (T.c.fact 2 (f := .free "abs") rfl)
theorem Tx.free_range (T : Tx K mg) : mg "range" = none := by obtain ⟨h, X, G⟩ := T.n; exact He.free_ok X G (T.c.fact 3 (f := .free "range") rfl)
theorem Tx.int_LARGEST_COLOUR (T : Tx K mg) : ∃ t, mg "LARGEST_COLOUR" = some (.int (255) t) := by obtain ⟨h, X, G⟩ := T.n; exact He.int_ok X G (T.c.fact 4 (f := .int "LARGEST_COLOUR" (255)) rfl)
theorem Tx.glo_PLAIN (T : Tx K mg) : mg "PLAIN" = some (.ref (He.ga K "PLAIN")) := by obtain ⟨h, X, G⟩ := T.n; exact He.glo_ok X G (T.c.fact 5 (f := .glo "PLAIN") rfl)
theorem Tx.glo_SETTING (T : Tx K mg) : mg "SETTING" = some (.ref (He.ga K "SETTING")) := by obtain ⟨h, X, G⟩ := T.n; exact He.glo_ok X G (T.c.fact 6 (f := .glo "SETTING") rfl)
theorem Tx.glo_CLEARING (T : Tx K mg) : mg "CLEARING" = some (.ref (He.ga K "CLEARING")) := by obtain ⟨h, X, G⟩ := T.n; exact He.glo_ok X G (T.c.fact 7 (f := .glo "CLEARING") rfl)
theorem Tx.int_ALL_MARKS (T : Tx K mg) : ∃ t, mg "ALL_MARKS" = some (.int (15) t) := by obtain ⟨h, X, G⟩ := T.n; exact He.int_ok X G (T.c.fact 8 (f := .int "ALL_MARKS" (15)) rfl)
theorem Tx.int_LONG_FOREGROUND (T : Tx K mg) : ∃ t, mg "LONG_FOREGROUND" = some (.int (38) t) := by obtain ⟨h, X, G⟩ := T.n; exact He.int_ok X G (T.c.fact 9 (f := .int "LONG_FOREGROUND" (38)) rfl)
theorem Tx.int_LONG_BACKGROUND (T : Tx K mg) : ∃ t, mg "LONG_BACKGROUND" = some (.int (48) t) := by obtain ⟨h, X, G⟩ := T.n; exact He.int_ok X G (T.c.fact 10 (f := .int "LONG_BACKGROUND" (48)) rfl)
theorem Tx.free_isinstance (T : Tx K mg) : mg "isinstance" = none := by obtain ⟨h, X, G⟩ := T.n; exact He.free_ok X G (T.c.fact 11 (f := .free "isinstance") rfl)
theorem Tx.free_bool (T : Tx K mg) : mg "bool" = none := by obtain ⟨h, X, G⟩ := T.n; exact He.free_ok X G (T.c.fact 12 (f := .free "bool") rfl)
theorem Tx.free_max (T : Tx K mg) : mg "max" = none := by obtain ⟨h, X, G⟩ := T.n; exact He.free_ok X G (T.c.fact 13 (f := .free "max") rfl)
theorem Tx.free_tuple (T : Tx K mg) : mg "tuple" = none := by obtain ⟨h, X, G⟩ := T.n; exact He.free_ok X G (T.c.fact 14 (f := .free "tuple") rfl)
theorem Tx.free_all (T : Tx K mg) : mg "all" = none := by obtain ⟨h, X, G⟩ := T.n; exact He.free_ok X G (T.c.fact 15 (f := .free "all") rfl)
theorem Tx.glo__law_cell (T : Tx K mg) : mg "_law_cell" = some (.ref (He.ga K "_law_cell")) := by obtain ⟨h, X, G⟩ := T.n; exact He.glo_ok X G (T.c.fact 16 (f := .glo "_law_cell") rfl)
theorem Tx.glo__law_row (T : Tx K mg) : mg "_law_row" = some (.ref (He.ga K "_law_row")) := by obtain ⟨h, X, G⟩ := T.n; exact He.glo_ok X G (T.c.fact 17 (f := .glo "_law_row") rfl)
theorem Tx.glo_short_colour (T : Tx K mg) : mg "short_colour" = some (.ref (He.ga K "short_colour")) := by obtain ⟨h, X, G⟩ := T.n; exact He.glo_ok X G (T.c.fact 18 (f := .glo "short_colour") rfl)
theorem Tx.glo_has_long_colour (T : Tx K mg) : mg "has_long_colour" = some (.ref (He.ga K "has_long_colour")) := by obtain ⟨h, X, G⟩ := T.n; exact He.glo_ok X G (T.c.fact 19 (f := .glo "has_long_colour") rfl)
theorem Tx.glo_after_number (T : Tx K mg) : mg "after_number" = some (.ref (He.ga K "after_number")) := by obtain ⟨h, X, G⟩ := T.n; exact He.glo_ok X G (T.c.fact 20 (f := .glo "after_number") rfl)
theorem Tx.glo_styled (T : Tx K mg) : mg "styled" = some (.ref (He.ga K "styled")) := by obtain ⟨h, X, G⟩ := T.n; exact He.glo_ok X G (T.c.fact 21 (f := .glo "styled") rfl)
theorem Tx.glo__law_integer (T : Tx K mg) : mg "_law_integer" = some (.ref (He.ga K "_law_integer")) := by obtain ⟨h, X, G⟩ := T.n; exact He.glo_ok X G (T.c.fact 22 (f := .glo "_law_integer") rfl)
theorem Tx.glo__law_styled (T : Tx K mg) : mg "_law_styled" = some (.ref (He.ga K "_law_styled")) := by obtain ⟨h, X, G⟩ := T.n; exact He.glo_ok X G (T.c.fact 23 (f := .glo "_law_styled") rfl)
theorem Tx.glo__law_numbers (T : Tx K mg) : mg "_law_numbers" = some (.ref (He.ga K "_law_numbers")) := by obtain ⟨h, X, G⟩ := T.n; exact He.glo_ok X G (T.c.fact 24 (f := .glo "_law_numbers") rfl)
theorem Tx.glo_law (T : Tx K mg) : mg "law" = some (.ref (He.ga K "law")) := by obtain ⟨h, X, G⟩ := T.n; exact He.glo_ok X G (T.c.fact 25 (f := .glo "law") rfl)
theorem Tx.tab_PLAIN (T : Tx K mg) : ∀ H, Dp K H (.ref (He.ga K "PLAIN")) dat_PLAIN := PB.datG_ok (He.ba (He.ba T.x).1).1
theorem Tx.tab_SETTING (T : Tx K mg) : PB.KDi K (He.ga K "SETTING") [(1, 1), (4, 2), (5, 4), (7, 8)] := PB.isDI_ok (He.ba (He.ba T.x).1).2
theorem Tx.tab_CLEARING (T : Tx K mg) : PB.KDi K (He.ga K "CLEARING") [(22, 1), (24, 2), (25, 4), (27, 8)] := PB.isDI_ok (He.ba T.x).2
theorem sc_law_cell : FnScope N_law_cell ["script", "k"] (defScope s_law_cell) := ⟨rfl, rfl, rfl, by decide +kernel, rfl, by decide +kernel, by decide +kernel⟩
theorem b_law_cell (T : Tx K mg) : PB.Body P w K mg base 0 N_law_cell "_law_cell" s_law_cell (t_law_cell K) := by
  intro f cdv A outer s H E hr
  exact C8.pss_cut (ps_if (PB.pt_m PB.op_mLt (PB.pe_v 1) (pe_callB PB.call_mLen rfl T.free_len (by decide +kernel) (pa_cons (PB.pe_v 0) (pa_nil))) (nomark _)) (pss_one (ps_ret (pe_callTy PB.call_mInt rfl T.free_int (by decide +kernel) (pa_cons (pe_ix PB.ix_m (PB.pe_v 0) (PB.pe_v 1) (fun _ _ => rfl)) (pa_nil))))) (pss_nil)) (
  pss_one (ps_ret (pe_int)))
theorem Tx.ok_law_cell (T : Tx K mg) : C8.Cal P w K mg base 1 "_law_cell" (sp_law_cell K) [] := PB.cal_ok (st := s_law_cell) (T.c.def_ 0 (d := d_law_cell) rfl) T.glo__law_cell sc_law_cell len_law_cell (fun _ _ _ _ _ _ us hl => match us, hl with | [_, _], _ => rfl) (b_law_cell T) (pure_law_cell K)
theorem sc_law_row : FnScope N_law_row ["cell", "count", "bound"] (defScope s_law_row) := ⟨rfl, rfl, rfl, by decide +kernel, rfl, by decide +kernel, by decide +kernel⟩
theorem b_law_row (T : Tx K mg) : PB.Body P w K mg base 0 N_law_row "_law_row" s_law_row (t_law_row K) := by
  intro f cdv A outer s H E hr
  exact pss_cons (ps_set (i := 3) sc_law_row.nd rfl (Or.inl rfl) (pe_callB PB.call_mAbs rfl T.free_abs (by decide +kernel) (pa_cons (pe_callTy PB.call_mInt rfl T.free_int (by decide +kernel) (pa_cons (PB.pe_v 0) (pa_nil))) (pa_nil)))) (
  pss_cons (ps_set (i := 4) sc_law_row.nd rfl (Or.inl rfl) (pe_op PB.op_mAdd (pe_op PB.op_mMod (pe_callTy PB.call_mInt rfl T.free_int (by decide +kernel) (pa_cons (PB.pe_v 0) (pa_nil))) (pe_int)) (pe_int))) (
  pss_cons (ps_set (i := 5) sc_law_row.nd rfl (Or.inl rfl) (pe_lst (pa_nil))) (
  pss_cons (ps_for PassesOwn.never rfl (pi_range1 rfl T.free_range (pa_cons (PB.pe_v 1) (pa_nil))) (pg_name (i := 6) sc_law_row.nd rfl (Or.inl rfl)) (pss_one (ps_if (PB.pt_m PB.op_mGe (PB.pe_v 3) (PB.pe_v 2) (nomark _)) (pss_cons (ps_expr (PB.pe_mlm PySem.F.slot_list_append PySem.F.type_list_append PB.mt_mAppend (PB.pe_v 5) (pa_cons (pe_op PB.op_mMod (pe_callTy PB.call_mInt rfl T.free_int (by decide +kernel) (pa_cons (PB.pe_v 3) (pa_nil))) (PB.pe_v 2)) (pa_nil)))) (
  pss_one (ps_set (i := 3) sc_law_row.nd rfl (Or.inl rfl) (pe_op PB.op_mDiv (PB.pe_v 3) (PB.pe_v 2))))) (pss_cons (ps_set (i := 4) sc_law_row.nd rfl (Or.inl rfl) (pe_op PB.op_mMod (pe_callTy PB.call_mInt rfl T.free_int (by decide +kernel) (pa_cons (pe_op PB.op_mAdd (pe_op PB.op_mAdd (pe_op PB.op_mMul (PB.pe_v 4) (pe_int)) (pe_op PB.op_mMul (pe_int) (PB.pe_v 6))) (pe_int)) (pa_nil))) (pe_int))) (
  pss_one (ps_expr (PB.pe_mlm PySem.F.slot_list_append PySem.F.type_list_append PB.mt_mAppend (PB.pe_v 5) (pa_cons (pe_op PB.op_mMod (pe_callTy PB.call_mInt rfl T.free_int (by decide +kernel) (pa_cons (pe_op PB.op_mDiv (pe_op PB.op_mMul (PB.pe_v 4) (pe_int)) (pe_int)) (pa_nil))) (PB.pe_v 2)) (pa_nil))))))))) (
  pss_one (ps_ret (PB.pe_v 5))))))
theorem Tx.ok_law_row (T : Tx K mg) : C8.Cal P w K mg base 1 "_law_row" (sp_law_row K) [] := PB.cal_ok (st := s_law_row) (T.c.def_ 1 (d := d_law_row) rfl) T.glo__law_row sc_law_row len_law_row (fun _ _ _ _ _ _ us hl => match us, hl with | [_, _, _], _ => rfl) (b_law_row T) (pure_law_row K)
theorem sc_short_colour : FnScope N_short_colour ["number", "first", "bright", "old"] (defScope s_short_colour) := ⟨rfl, rfl, rfl, by decide +kernel, rfl, by decide +kernel, by decide +kernel⟩
theorem b_short_colour (T : Tx K mg) : PB.Body P w K mg base 0 N_short_colour "short_colour" s_short_colour (t_short_colour K) := by
  intro f cdv A outer s H E hr
  exact C8.pss_cut (ps_if (PB.pt_mch PB.op_mLe PB.op_mLe (PB.pe_v 1) (PB.pe_v 0) (pe_op PB.op_mAdd (PB.pe_v 1) (pe_int))) (pss_one (ps_ret (pe_op PB.op_mSub (PB.pe_v 0) (PB.pe_v 1)))) (pss_nil)) (
  C8.pss_cut (ps_if (PB.pt_mch PB.op_mLe PB.op_mLe (PB.pe_v 2) (PB.pe_v 0) (pe_op PB.op_mAdd (PB.pe_v 2) (pe_int))) (pss_one (ps_ret (pe_op PB.op_mAdd (pe_op PB.op_mSub (PB.pe_v 0) (PB.pe_v 2)) (pe_int)))) (pss_nil)) (
  C8.pss_cut (ps_if (PB.pt_m (PB.op_mEq (PB.hu64 hr)) (PB.pe_v 0) (pe_op PB.op_mAdd (PB.pe_v 1) (pe_int)) (nomark _)) (pss_one (ps_ret (pe_un PB.un_mNeg (pe_int)))) (pss_nil)) (
  pss_one (ps_ret (PB.pe_v 3)))))
theorem Tx.ok_short_colour (T : Tx K mg) : C8.Cal P w K mg base 1 "short_colour" (sp_short_colour K) [] := PB.cal_ok (st := s_short_colour) (T.c.def_ 2 (d := d_short_colour) rfl) T.glo_short_colour sc_short_colour len_short_colour (fun _ _ _ _ _ _ us hl => match us, hl with | [_, _, _, _], _ => rfl) (b_short_colour T) (pure_short_colour K)
theorem sc_has_long_colour : FnScope N_has_long_colour ["numbers", "at"] (defScope s_has_long_colour) := ⟨rfl, rfl, rfl, by decide +kernel, rfl, by decide +kernel, by decide +kernel⟩
theorem b_has_long_colour (T : Tx K mg) : PB.Body P w K mg base 0 N_has_long_colour "has_long_colour" s_has_long_colour (t_has_long_colour K) := by
  intro f cdv A outer s H E hr
  exact C8.pss_cut (ps_if (PB.pt_m PB.op_mGe (pe_op PB.op_mAdd (PB.pe_v 1) (pe_int)) (pe_callB PB.call_mLen rfl T.free_len (by decide +kernel) (pa_cons (PB.pe_v 0) (pa_nil))) (nomark _)) (pss_one (ps_ret (pe_bl))) (pss_nil)) (
  pss_one (ps_ret (PB.pe_mand (pe_cmpR (PB.op_mEq (PB.hu64 hr)) (pe_ix PB.ix_m (PB.pe_v 0) (pe_op PB.op_mAdd (PB.pe_v 1) (pe_int)) (fun _ _ => rfl)) (pe_int) (nomark _)) (pe_one (pe_cmpR PB.op_mLe (pe_ix PB.ix_m (PB.pe_v 0) (pe_op PB.op_mAdd (PB.pe_v 1) (pe_int)) (fun _ _ => rfl)) (PB.pe_gint rfl T.int_LARGEST_COLOUR) (nomark _))))))
theorem Tx.ok_has_long_colour (T : Tx K mg) : C8.Cal P w K mg base 1 "has_long_colour" (sp_has_long_colour K) [] := PB.cal_ok (st := s_has_long_colour) (T.c.def_ 3 (d := d_has_long_colour) rfl) T.glo_has_long_colour sc_has_long_colour len_has_long_colour (fun _ _ _ _ _ _ us hl => match us, hl with | [_, _], _ => rfl) (b_has_long_colour T) (pure_has_long_colour K)
theorem sc_after_number : FnScope N_after_number ["style", "number"] (defScope s_after_number) := ⟨rfl, rfl, rfl, by decide +kernel, rfl, by decide +kernel, by decide +kernel⟩
theorem b_after_number (T : Tx K mg) : PB.Body P w K mg base 1 N_after_number "after_number" s_after_number (t_after_number K) := by
  intro f cdv A outer s H E hr
  exact pss_cons (ps_asg (PB.pe_v 0) (pg_tup (by rfl) (pgs_cons (pg_name (i := 2) sc_after_number.nd rfl (Or.inl rfl)) (pgs_cons (pg_name (i := 3) sc_after_number.nd rfl (Or.inl rfl)) (pgs_cons (pg_name (i := 4) sc_after_number.nd rfl (Or.inl rfl)) (pgs_nil)))))) (
  C8.pss_cut (ps_if (PB.pt_m (PB.op_mEq (PB.hu64 hr)) (PB.pe_v 1) (pe_int) (nomark _)) (pss_one (ps_ret (pe_glob rfl T.glo_PLAIN rfl))) (pss_nil)) (
  C8.pss_cut (ps_if (PB.pt_m PB.op_inDI (PB.pe_v 1) (pe_glob rfl T.glo_SETTING rfl) (by with_unfolding_all rfl)) (pss_one (ps_ret (pe_tup (pa_cons (PB.pe_v 2) (pa_cons (PB.pe_v 3) (pa_cons (pe_op PB.op_mBor (PB.pe_v 4) (pe_ix PB.ix_kdi (pe_glob rfl T.glo_SETTING rfl) (PB.pe_v 1) (fun _ _ => rfl))) (pa_nil))))))) (pss_nil)) (
  C8.pss_cut (ps_if (PB.pt_m PB.op_inDI (PB.pe_v 1) (pe_glob rfl T.glo_CLEARING rfl) (by with_unfolding_all rfl)) (pss_one (ps_ret (pe_tup (pa_cons (PB.pe_v 2) (pa_cons (PB.pe_v 3) (pa_cons (pe_op PB.op_mBand (PB.pe_v 4) (pe_op PB.op_mSub (PB.pe_gint rfl T.int_ALL_MARKS) (pe_ix PB.ix_kdi (pe_glob rfl T.glo_CLEARING rfl) (PB.pe_v 1) (fun _ _ => rfl)))) (pa_nil))))))) (pss_nil)) (
  pss_cons (ps_set (i := 2) sc_after_number.nd rfl (Or.inl rfl) (PB.pe_mc T.ok_short_colour hr (by decide) rfl (pa_cons (PB.pe_v 1) (pa_cons (pe_int) (pa_cons (pe_int) (pa_cons (PB.pe_v 2) (pa_nil))))))) (
  pss_cons (ps_set (i := 3) sc_after_number.nd rfl (Or.inl rfl) (PB.pe_mc T.ok_short_colour hr (by decide) rfl (pa_cons (PB.pe_v 1) (pa_cons (pe_int) (pa_cons (pe_int) (pa_cons (PB.pe_v 3) (pa_nil))))))) (
  pss_one (ps_ret (pe_tup (pa_cons (PB.pe_v 2) (pa_cons (PB.pe_v 3) (pa_cons (PB.pe_v 4) (pa_nil))))))))))))
theorem Tx.ok_after_number (T : Tx K mg) : C8.Cal P w K mg base 2 "after_number" (sp_after_number K) [] := PB.cal_ok (st := s_after_number) (T.c.def_ 4 (d := d_after_number) rfl) T.glo_after_number sc_after_number len_after_number (fun _ _ _ _ _ _ us hl => match us, hl with | [_, _], _ => rfl) (b_after_number T) (pure_after_number K T.tab_PLAIN T.tab_SETTING T.tab_CLEARING)
theorem sc_styled : FnScope N_styled ["style", "numbers"] (defScope s_styled) := ⟨rfl, rfl, rfl, by decide +kernel, rfl, by decide +kernel, by decide +kernel⟩
theorem b_styled (T : Tx K mg) : PB.Body P w K mg base 2 N_styled "styled" s_styled (t_styled K) := by
  intro f cdv A outer s H E hr
  exact pss_cons (ps_asg (PB.pe_v 0) (pg_tup (by rfl) (pgs_cons (pg_name (i := 2) sc_styled.nd rfl (Or.inl rfl)) (pgs_cons (pg_name (i := 3) sc_styled.nd rfl (Or.inl rfl)) (pgs_cons (pg_name (i := 4) sc_styled.nd rfl (Or.inl rfl)) (pgs_nil)))))) (
  pss_cons (ps_set (i := 5) sc_styled.nd rfl (Or.inl rfl) (pe_int)) (
  C8.pss_cut (ps_while PassesOwn.never (PB.pt_m PB.op_mLt (PB.pe_v 5) (pe_callB PB.call_mLen rfl T.free_len (by decide +kernel) (pa_cons (PB.pe_v 1) (pa_nil))) (nomark _)) (pss_cons (ps_set (i := 6) sc_styled.nd rfl (Or.inl rfl) (pe_ix PB.ix_m (PB.pe_v 1) (PB.pe_v 5) (fun _ _ => rfl))) (
  pss_one (ps_if (PW.pt (pw_or (PB.pt_m (PB.op_mEq (PB.hu64 hr)) (PB.pe_v 6) (PB.pe_gint rfl T.int_LONG_FOREGROUND) (nomark _)) (pw_or1 (PB.pt_m (PB.op_mEq (PB.hu64 hr)) (PB.pe_v 6) (PB.pe_gint rfl T.int_LONG_BACKGROUND) (nomark _))))) (C8.pss_cut (ps_if (pt_not (PB.pt_tru (PB.pe_mc T.ok_has_long_colour hr (by decide) rfl (pa_cons (PB.pe_v 1) (pa_cons (PB.pe_v 5) (pa_nil)))))) (pss_one (ps_break)) (pss_nil)) (
  C8.pss_cut (ps_if (PB.pt_m (PB.op_mEq (PB.hu64 hr)) (PB.pe_v 6) (PB.pe_gint rfl T.int_LONG_FOREGROUND) (nomark _)) (pss_one (ps_set (i := 2) sc_styled.nd rfl (Or.inl rfl) (pe_ix PB.ix_m (PB.pe_v 1) (pe_op PB.op_mAdd (PB.pe_v 5) (pe_int)) (fun _ _ => rfl)))) (pss_one (ps_set (i := 3) sc_styled.nd rfl (Or.inl rfl) (pe_ix PB.ix_m (PB.pe_v 1) (pe_op PB.op_mAdd (PB.pe_v 5) (pe_int)) (fun _ _ => rfl))))) (
  pss_one (PB.ps_maug (i := 5) sc_styled.nd rfl (Or.inl rfl) (pe_int) ip_add)))) (pss_cons (ps_asg (PB.pe_mc T.ok_after_number hr (by decide) rfl (pa_cons (pe_tup (pa_cons (PB.pe_v 2) (pa_cons (PB.pe_v 3) (pa_cons (PB.pe_v 4) (pa_nil))))) (pa_cons (PB.pe_v 6) (pa_nil)))) (pg_tup (by rfl) (pgs_cons (pg_name (i := 2) sc_styled.nd rfl (Or.inl rfl)) (pgs_cons (pg_name (i := 3) sc_styled.nd rfl (Or.inl rfl)) (pgs_cons (pg_name (i := 4) sc_styled.nd rfl (Or.inl rfl)) (pgs_nil)))))) (
  pss_one (PB.ps_maug (i := 5) sc_styled.nd rfl (Or.inl rfl) (pe_int) ip_add))))))) (
  pss_one (ps_ret (pe_tup (pa_cons (PB.pe_v 2) (pa_cons (PB.pe_v 3) (pa_cons (PB.pe_v 4) (pa_nil)))))))))
theorem Tx.ok_styled (T : Tx K mg) : C8.Cal P w K mg base 3 "styled" (sp_styled K) [] := PB.cal_ok (st := s_styled) (T.c.def_ 5 (d := d_styled) rfl) T.glo_styled sc_styled len_styled (fun _ _ _ _ _ _ us hl => match us, hl with | [_, _], _ => rfl) (b_styled T) (pure_styled K)
theorem sc_law_integer : FnScope N_law_integer ["value"] (defScope s_law_integer) := ⟨rfl, rfl, rfl, by decide +kernel, rfl, by decide +kernel, by decide +kernel⟩
theorem b_law_integer (T : Tx K mg) : PB.Body P w K mg base 0 N_law_integer "_law_integer" s_law_integer (t_law_integer K) := by
  intro f cdv A outer s H E hr
  exact pss_one (ps_ret (PB.pe_mand (pe_callB call_isi rfl T.free_isinstance (by decide +kernel) (pa_cons (PB.pe_v 0) (pa_cons (pe_bltn rfl T.free_int (by decide +kernel) rfl) (pa_nil)))) (pe_one (PB.pe_mnot (pe_callB call_isi rfl T.free_isinstance (by decide +kernel) (pa_cons (PB.pe_v 0) (pa_cons (pe_bltn rfl T.free_bool (by decide +kernel) rfl) (pa_nil))))))))
theorem Tx.ok_law_integer (T : Tx K mg) : C8.Cal P w K mg base 1 "_law_integer" (sp_law_integer K) [] := PB.cal_ok (st := s_law_integer) (T.c.def_ 6 (d := d_law_integer) rfl) T.glo__law_integer sc_law_integer len_law_integer (fun _ _ _ _ _ _ us hl => match us, hl with | [_], _ => rfl) (b_law_integer T) (pure_law_integer K)
theorem sc_law_styled : FnScope N_law_styled ["style", "numbers"] (defScope s_law_styled) := ⟨rfl, rfl, rfl, by decide +kernel, rfl, by decide +kernel, by decide +kernel⟩
theorem b_law_styled (T : Tx K mg) : PB.Body P w K mg base 0 N_law_styled "_law_styled" s_law_styled (t_law_styled K) := by
  intro f cdv A outer s H E hr
  exact pss_cons (ps_set (i := 2) sc_law_styled.nd rfl (Or.inl rfl) (pe_lst (pa_cons (pe_ix PB.ix_m (PB.pe_v 0) (pe_int) (fun _ _ => rfl)) (pa_cons (pe_ix PB.ix_m (PB.pe_v 0) (pe_int) (fun _ _ => rfl)) (pa_nil))))) (
  pss_cons (ps_set (i := 3) sc_law_styled.nd rfl (Or.inl rfl) (pe_lst (pa_cons (pe_op PB.op_mMod (pe_op PB.op_mDiv (pe_ix PB.ix_m (PB.pe_v 0) (pe_int) (fun _ _ => rfl)) (pe_int)) (pe_int)) (pa_cons (pe_op PB.op_mMod (pe_op PB.op_mDiv (pe_ix PB.ix_m (PB.pe_v 0) (pe_int) (fun _ _ => rfl)) (pe_int)) (pe_int)) (pa_cons (pe_op PB.op_mMod (pe_op PB.op_mDiv (pe_ix PB.ix_m (PB.pe_v 0) (pe_int) (fun _ _ => rfl)) (pe_int)) (pe_int)) (pa_cons (pe_op PB.op_mMod (pe_op PB.op_mDiv (pe_ix PB.ix_m (PB.pe_v 0) (pe_int) (fun _ _ => rfl)) (pe_int)) (pe_int)) (pa_nil))))))) (
  pss_cons (ps_set (i := 4) sc_law_styled.nd rfl (Or.inl rfl) (pe_int)) (
  C8.pss_cut (ps_for PassesOwn.never rfl (pi_range1 rfl T.free_range (pa_cons (pe_callB PB.call_mLen rfl T.free_len (by decide +kernel) (pa_cons (PB.pe_v 1) (pa_nil))) (pa_nil))) (pg_name (i := 5) sc_law_styled.nd rfl (Or.inl rfl)) (pss_cons (ps_set (i := 6) sc_law_styled.nd rfl (Or.inl rfl) (pe_ix PB.ix_m (PB.pe_v 1) (PB.pe_v 5) (fun _ _ => rfl))) (
  pss_one (ps_if (PB.pt_m PB.op_mGt (PB.pe_v 4) (pe_int) (nomark _)) (pss_one (ps_set (i := 4) sc_law_styled.nd rfl (Or.inl rfl) (pe_op PB.op_mSub (PB.pe_v 4) (pe_int)))) (pss_one (ps_if (PB.pt_m (PB.op_mIn (PB.hu65 hr)) (PB.pe_v 6) (pe_lst (pa_cons (pe_int) (pa_cons (pe_int) (pa_nil)))) (by with_unfolding_all rfl)) (C8.pss_cut (ps_if (PW.pt (pw_or (PB.pt_m PB.op_mGe (pe_op PB.op_mAdd (PB.pe_v 5) (pe_int)) (pe_callB PB.call_mLen rfl T.free_len (by decide +kernel) (pa_cons (PB.pe_v 1) (pa_nil))) (nomark _)) (pw_or (PB.pt_m (PB.op_mNe (PB.hu64 hr)) (pe_ix PB.ix_m (PB.pe_v 1) (pe_op PB.op_mAdd (PB.pe_v 5) (pe_int)) (fun _ _ => rfl)) (pe_int) (nomark _)) (pw_or1 (PB.pt_m PB.op_mGt (pe_ix PB.ix_m (PB.pe_v 1) (pe_op PB.op_mAdd (PB.pe_v 5) (pe_int)) (fun _ _ => rfl)) (pe_int) (nomark _)))))) (pss_one (ps_break)) (pss_nil)) (
  pss_cons (ps_asg (pe_ix PB.ix_m (PB.pe_v 1) (pe_op PB.op_mAdd (PB.pe_v 5) (pe_int)) (fun _ _ => rfl)) (pg_sub (PB.pe_v 2) (pe_callTy PB.call_mInt rfl T.free_int (by decide +kernel) (pa_cons (pe_cmpR (PB.op_mEq (PB.hu64 hr)) (PB.pe_v 6) (pe_int) (nomark _)) (pa_nil))) PB.set_m)) (
  pss_one (ps_set (i := 4) sc_law_styled.nd rfl (Or.inl rfl) (pe_int))))) (pss_one (ps_if (PB.pt_m (PB.op_mEq (PB.hu64 hr)) (PB.pe_v 6) (pe_int) (nomark _)) (pss_cons (ps_set (i := 2) sc_law_styled.nd rfl (Or.inl rfl) (pe_lst (pa_cons (pe_un PB.un_mNeg (pe_int)) (pa_cons (pe_un PB.un_mNeg (pe_int)) (pa_nil))))) (
  pss_one (ps_set (i := 3) sc_law_styled.nd rfl (Or.inl rfl) (pe_lst (pa_cons (pe_int) (pa_cons (pe_int) (pa_cons (pe_int) (pa_cons (pe_int) (pa_nil))))))))) (pss_one (ps_if (PB.pt_m (PB.op_mIn (PB.hu65 hr)) (PB.pe_v 6) (pe_lst (pa_cons (pe_int) (pa_cons (pe_int) (pa_cons (pe_int) (pa_cons (pe_int) (pa_nil)))))) (by with_unfolding_all rfl)) (pss_one (ps_asg (pe_int) (pg_sub (PB.pe_v 3) (PB.pe_mlm PySem.F.slot_list_index PySem.F.type_list_index mt_index (pe_lst (pa_cons (pe_int) (pa_cons (pe_int) (pa_cons (pe_int) (pa_cons (pe_int) (pa_nil)))))) (pa_cons (PB.pe_v 6) (pa_nil))) PB.set_m))) (pss_one (ps_if (PB.pt_m (PB.op_mIn (PB.hu65 hr)) (PB.pe_v 6) (pe_lst (pa_cons (pe_int) (pa_cons (pe_int) (pa_cons (pe_int) (pa_cons (pe_int) (pa_nil)))))) (by with_unfolding_all rfl)) (pss_one (ps_asg (pe_int) (pg_sub (PB.pe_v 3) (PB.pe_mlm PySem.F.slot_list_index PySem.F.type_list_index mt_index (pe_lst (pa_cons (pe_int) (pa_cons (pe_int) (pa_cons (pe_int) (pa_cons (pe_int) (pa_nil)))))) (pa_cons (PB.pe_v 6) (pa_nil))) PB.set_m))) (pss_one (ps_if (PW.pt (pw_or (PB.pt_mch PB.op_mLe PB.op_mLt (pe_int) (PB.pe_v 6) (pe_int)) (pw_or1 (PB.pt_mch PB.op_mLe PB.op_mLt (pe_int) (PB.pe_v 6) (pe_int))))) (pss_one (ps_asg (pe_op PB.op_mMod (pe_callTy PB.call_mInt rfl T.free_int (by decide +kernel) (pa_cons (PB.pe_v 6) (pa_nil))) (pe_int)) (pg_sub (PB.pe_v 2) (pe_callTy PB.call_mInt rfl T.free_int (by decide +kernel) (pa_cons (pe_cmpR PB.op_mGe (PB.pe_v 6) (pe_int) (nomark _)) (pa_nil))) PB.set_m))) (pss_one (ps_if (PB.pt_m (PB.op_mIn (PB.hu65 hr)) (PB.pe_v 6) (pe_lst (pa_cons (pe_int) (pa_cons (pe_int) (pa_nil)))) (by with_unfolding_all rfl)) (pss_one (ps_asg (pe_un PB.un_mNeg (pe_int)) (pg_sub (PB.pe_v 2) (pe_callTy PB.call_mInt rfl T.free_int (by decide +kernel) (pa_cons (pe_cmpR (PB.op_mEq (PB.hu64 hr)) (PB.pe_v 6) (pe_int) (nomark _)) (pa_nil))) PB.set_m))) (pss_one (ps_if (PW.pt (pw_or (PB.pt_mch PB.op_mLe PB.op_mLt (pe_int) (PB.pe_v 6) (pe_int)) (pw_or1 (PB.pt_mch PB.op_mLe PB.op_mLt (pe_int) (PB.pe_v 6) (pe_int))))) (pss_one (ps_asg (pe_op PB.op_mAdd (pe_op PB.op_mMod (pe_callTy PB.call_mInt rfl T.free_int (by decide +kernel) (pa_cons (PB.pe_v 6) (pa_nil))) (pe_int)) (pe_int)) (pg_sub (PB.pe_v 2) (pe_callTy PB.call_mInt rfl T.free_int (by decide +kernel) (pa_cons (pe_cmpR PB.op_mGe (PB.pe_v 6) (pe_int) (nomark _)) (pa_nil))) PB.set_m))) (pss_nil))))))))))))))))))) (
  pss_one (ps_ret (pe_tup (pa_cons (pe_ix PB.ix_m (PB.pe_v 2) (pe_int) (fun _ _ => rfl)) (pa_cons (pe_ix PB.ix_m (PB.pe_v 2) (pe_int) (fun _ _ => rfl)) (pa_cons (pe_op PB.op_mAdd (pe_op PB.op_mAdd (pe_op PB.op_mAdd (pe_ix PB.ix_m (PB.pe_v 3) (pe_int) (fun _ _ => rfl)) (pe_op PB.op_mMul (pe_int) (pe_ix PB.ix_m (PB.pe_v 3) (pe_int) (fun _ _ => rfl)))) (pe_op PB.op_mMul (pe_int) (pe_ix PB.ix_m (PB.pe_v 3) (pe_int) (fun _ _ => rfl)))) (pe_op PB.op_mMul (pe_int) (pe_ix PB.ix_m (PB.pe_v 3) (pe_int) (fun _ _ => rfl)))) (pa_nil))))))))))
theorem Tx.ok_law_styled (T : Tx K mg) : C8.Cal P w K mg base 1 "_law_styled" (sp_law_styled K) [] := PB.cal_ok (st := s_law_styled) (T.c.def_ 7 (d := d_law_styled) rfl) T.glo__law_styled sc_law_styled len_law_styled (fun _ _ _ _ _ _ us hl => match us, hl with | [_, _], _ => rfl) (b_law_styled T) (pure_law_styled K)
theorem sc_law_numbers : FnScope N_law_numbers ["cell", "more"] (defScope s_law_numbers) := ⟨rfl, rfl, rfl, by decide +kernel, rfl, by decide +kernel, by decide +kernel⟩
theorem b_law_numbers (T : Tx K mg) : PB.Body P w K mg base 1 N_law_numbers "_law_numbers" s_law_numbers (t_law_numbers K) := by
  intro f cdv A outer s H E hr
  exact pss_cons (ps_set (i := 2) sc_law_numbers.nd rfl (Or.inl rfl) (pe_lst (pa_cons (pe_int) (pa_cons (pe_int) (pa_cons (pe_int) (pa_cons (pe_int) (pa_cons (pe_int) (pa_cons (pe_int) (pa_cons (pe_int) (pa_cons (pe_int) (pa_cons (pe_int) (pa_cons (pe_int) (pa_cons (pe_int) (pa_cons (pe_int) (pa_cons (pe_int) (pa_cons (pe_int) (pa_cons (pe_int) (pa_cons (pe_int) (pa_cons (pe_int) (pa_cons (pe_int) (pa_cons (pe_int) (pa_cons (pe_int) (pa_cons (pe_int) (pa_cons (pe_int) (pa_cons (pe_int) (pa_nil)))))))))))))))))))))))))) (
  pss_cons (ps_set (i := 3) sc_law_numbers.nd rfl (Or.inl rfl) (pe_lst (pa_nil))) (
  pss_cons (ps_for PassesOwn.never rfl (pi_list (PB.pe_mc T.ok_law_row hr (by decide) rfl (pa_cons (PB.pe_v 0) (pa_cons (pe_op PB.op_mAdd (pe_int) (pe_op PB.op_mMod (pe_callB PB.call_mAbs rfl T.free_abs (by decide +kernel) (pa_cons (pe_callTy PB.call_mInt rfl T.free_int (by decide +kernel) (pa_cons (PB.pe_v 1) (pa_nil))) (pa_nil))) (pe_int))) (pa_cons (pe_int) (pa_nil)))))) (pg_name (i := 4) sc_law_numbers.nd rfl (Or.inl rfl)) (pss_cons (ps_set (i := 5) sc_law_numbers.nd rfl (Or.inl rfl) (pe_ix PB.ix_m (PB.pe_v 2) (pe_op PB.op_mMod (PB.pe_v 4) (pe_int)) (fun _ _ => rfl))) (
  C8.pss_cut (ps_if (PB.pt_m (PB.op_mEq (PB.hu64 hr)) (pe_op PB.op_mMod (pe_op PB.op_mDiv (PB.pe_v 4) (pe_int)) (pe_int)) (pe_int) (nomark _)) (pss_one (ps_set (i := 5) sc_law_numbers.nd rfl (Or.inl rfl) (pe_callB (PB.call_mMax2 rfl) rfl T.free_max (by decide +kernel) (pa_cons (pe_int) (pa_cons (pe_op PB.op_mSub (pe_op PB.op_mAdd (PB.pe_v 5) (pe_op PB.op_mMod (pe_op PB.op_mDiv (PB.pe_v 4) (pe_int)) (pe_int))) (pe_int)) (pa_nil)))))) (pss_nil)) (
  pss_cons (ps_expr (PB.pe_mlm PySem.F.slot_list_append PySem.F.type_list_append PB.mt_mAppend (PB.pe_v 3) (pa_cons (PB.pe_v 5) (pa_nil)))) (
  pss_one (ps_if (PW.pt (pw_and (PB.pt_m (PB.op_mIn (PB.hu65 hr)) (PB.pe_v 5) (pe_lst (pa_cons (pe_int) (pa_cons (pe_int) (pa_nil)))) (by with_unfolding_all rfl)) (pw_and1 (PB.pt_m PB.op_mGt (pe_op PB.op_mMod (pe_op PB.op_mDiv (PB.pe_v 4) (pe_int)) (pe_int)) (pe_int) (nomark _))))) (pss_cons (ps_expr (PB.pe_mlm PySem.F.slot_list_append PySem.F.type_list_append PB.mt_mAppend (PB.pe_v 3) (pa_cons (pe_ix PB.ix_m (pe_lst (pa_cons (pe_int) (pa_cons (pe_int) (pa_cons (pe_int) (pa_cons (pe_int) (pa_nil)))))) (pe_op PB.op_mMod (pe_op PB.op_mDiv (PB.pe_v 4) (pe_int)) (pe_int)) (fun _ _ => rfl)) (pa_nil)))) (
  pss_one (ps_if (PB.pt_m PB.op_mGt (pe_op PB.op_mMod (pe_op PB.op_mDiv (PB.pe_v 4) (pe_int)) (pe_int)) (pe_int) (nomark _)) (pss_one (ps_expr (PB.pe_mlm PySem.F.slot_list_append PySem.F.type_list_append PB.mt_mAppend (PB.pe_v 3) (pa_cons (pe_op PB.op_mMod (pe_op PB.op_mDiv (PB.pe_v 4) (pe_int)) (pe_int)) (pa_nil))))) (pss_nil)))) (pss_nil))))))) (
  pss_one (ps_ret (pe_callTy PB.call_mTup rfl T.free_tuple (by decide +kernel) (pa_cons (pe_slice PB.sl_m (PB.pe_v 3) (po_none) (PB.po_m (pe_int))) (pa_nil)))))))
theorem Tx.ok_law_numbers (T : Tx K mg) : C8.Cal P w K mg base 2 "_law_numbers" (sp_law_numbers K) [] := PB.cal_ok (st := s_law_numbers) (T.c.def_ 8 (d := d_law_numbers) rfl) T.glo__law_numbers sc_law_numbers len_law_numbers (fun _ _ _ _ _ _ us hl => match us, hl with | [_, _], _ => rfl) (b_law_numbers T) (pure_law_numbers K)
theorem sc_law : FnScope N_law ["script"] (defScope s_law) := ⟨rfl, rfl, rfl, by decide +kernel, rfl, by decide +kernel, by decide +kernel⟩
theorem b_law (T : Tx K mg) : PB.Body P w K mg base 3 N_law "law" s_law (t_law K) := by
  intro f cdv A outer s H E hr
  exact pss_cons (ps_set (i := 1) sc_law.nd rfl (Or.inl rfl) (PB.pe_mc T.ok_law_row hr (by decide) rfl (pa_cons (PB.pe_mc T.ok_law_cell hr (by decide) rfl (pa_cons (PB.pe_v 0) (pa_cons (pe_int) (pa_nil)))) (pa_cons (pe_int) (pa_cons (pe_int) (pa_nil)))))) (
  pss_cons (ps_set (i := 2) sc_law.nd rfl (Or.inl rfl) (pe_tup (pa_cons (pe_op PB.op_mSub (pe_op PB.op_mMod (pe_ix PB.ix_m (PB.pe_v 1) (pe_int) (fun _ _ => rfl)) (pe_int)) (pe_int)) (pa_cons (pe_op PB.op_mSub (pe_op PB.op_mMod (pe_ix PB.ix_m (PB.pe_v 1) (pe_int) (fun _ _ => rfl)) (pe_int)) (pe_int)) (pa_cons (pe_op PB.op_mMod (pe_ix PB.ix_m (PB.pe_v 1) (pe_int) (fun _ _ => rfl)) (pe_int)) (pa_nil)))))) (
  pss_cons (ps_for PassesOwn.never rfl (pi_range1 rfl T.free_range (pa_cons (pe_int) (pa_nil))) (pg_name (i := 3) sc_law.nd rfl (Or.inl rfl)) (pss_cons (ps_set (i := 4) sc_law.nd rfl (Or.inl rfl) (PB.pe_mc T.ok_law_numbers hr (by decide) rfl (pa_cons (PB.pe_mc T.ok_law_cell hr (by decide) rfl (pa_cons (PB.pe_v 0) (pa_cons (pe_op PB.op_mAdd (pe_int) (pe_op PB.op_mMul (pe_int) (PB.pe_v 3))) (pa_nil)))) (pa_cons (PB.pe_mc T.ok_law_cell hr (by decide) rfl (pa_cons (PB.pe_v 0) (pa_cons (pe_op PB.op_mAdd (pe_int) (pe_op PB.op_mMul (pe_int) (PB.pe_v 3))) (pa_nil)))) (pa_nil))))) (
  pss_cons (ps_set (i := 5) sc_law.nd rfl (Or.inl rfl) (PB.pe_mc T.ok_styled hr (by decide) rfl (pa_cons (PB.pe_v 2) (pa_cons (PB.pe_v 4) (pa_nil))))) (
  C8.pss_cut (ps_if (PW.pt (pw_or (pt_not (PB.pt_tru (pe_callB call_isi rfl T.free_isinstance (by decide +kernel) (pa_cons (PB.pe_v 5) (pa_cons (pe_bltn rfl T.free_tuple (by decide +kernel) rfl) (pa_nil)))))) (pw_or (PB.pt_m (PB.op_mNe (PB.hu64 hr)) (pe_callB PB.call_mLen rfl T.free_len (by decide +kernel) (pa_cons (PB.pe_v 5) (pa_nil))) (pe_int) (nomark _)) (pw_or1 (pt_not (PB.pt_tru (pe_callB (cr_all rfl) rfl T.free_all (by decide +kernel) (pa_cons (pe_lc (own := [("x", 6)]) rfl sc_law.nd (pi_tup (PB.pe_v 5)) (blkOk_by (own := [("x", 6)]) (N := N_law) (sc := defScope s_law) (by decide +kernel)) (fun _ _ _ _ _ => pg_name (i := 6) sc_law.nd rfl (Or.inl rfl)) (fun _ _ _ _ _ => pts_nil) (fun _ _ _ _ _ => PB.pe_mc T.ok_law_integer hr (by decide) rfl (pa_cons (PB.pe_v 6) (pa_nil)))) (pa_nil))))))))) (pss_one (ps_ret (pe_bl))) (pss_nil)) (
  C8.pss_cut (ps_if (PB.pt_m (PB.op_mNe (PB.hu64 hr)) (PB.pe_v 5) (PB.pe_mc T.ok_law_styled hr (by decide) rfl (pa_cons (PB.pe_v 2) (pa_cons (PB.pe_v 4) (pa_nil)))) (nomark _)) (pss_one (ps_ret (pe_bl))) (pss_nil)) (
  pss_one (ps_set (i := 2) sc_law.nd rfl (Or.inl rfl) (PB.pe_v 5)))))))) (
  pss_one (ps_ret (pe_bl)))))
theorem Tx.ok_law (T : Tx K mg) : C8.Cal P w K mg base 4 "law" (sp_law K) [] := PB.cal_ok (st := s_law) (T.c.def_ 9 (d := d_law) rfl) T.glo_law sc_law len_law (fun _ _ _ _ _ _ us hl => match us, hl with | [_], _ => rfl) (b_law T) (pure_law K)
end
def loose0 : List PySem.Str := ["PLAIN", "SETTING", "CLEARING", "ALL_MARKS", "LONG_FOREGROUND", "LONG_BACKGROUND", "LARGEST_COLOUR", "styled", "has_long_colour", "after_number", "short_colour", "_law_cell", "_law_row", "_law_integer", "_law_octets", "_law_styled", "_law_numbers"]
def loose : List PySem.Str := loose0
abbrev Rw : PySem.W.OpenRow := PySem.W.OpenLaw.row PySem.Challenge.rw_manypanes_k02_styles
abbrev hk : PySem.W.Hook := PB.hookP 6 fa fn ex
def ob (s : PySem.W.SharedT) : PB.AlP := PB.obsP 6 fa fn ex (HandSHeadRun.getT s)
theorem ob_is (s : PySem.W.SharedT) : ob s = hk.obs s.abs := PB.obsP_eq (HandSHeadRun.getT_eq s)
theorem runs (w : World) : HandSHeadRun.RunEq Rw (PySem.W.view Rw.prog [19]) hk ob 6000 loose w := by
  refine PySem.W.byRow2 "special-get-raises" (P := fun w => HandSHeadRun.RunEq Rw (PySem.W.view Rw.prog [19]) hk ob 6000 loose w) (fun w => ?_) (fun w => ?_) w
  . intro os
    kernel_rfl
  . intro os
    kernel_rfl
theorem last {P : Program} {w : World} {K : PySem.W.Frag} {h : Heap} {mg : Str → Option Value} {f : Addr} (X : K.In h) (G : h.Ns mainGlobals mg) (hfa : mg ("law" : Str) = some (.ref f)) (c : He.SaysD fa fn K) (x : ex K = true) :
    ∃ fd : FuncData, (∀ (s : Shared) (v : Value), BindsTo s fd ⟨[v], []⟩ [("script", v)]) ∧ ∀ base : Heap, K.In base → base.Ns mainGlobals mg → FnOk P w K mg base CX0 4 f fd ["script"] (sp_law K) := by
  have T : Tx K mg := ⟨c, x, h, X, G⟩
  obtain ⟨fd, F⟩ := c.def_ 9 (d := d_law) rfl
  have e := hfa.symm.trans T.glo_law
  cases e
  have b := FunD.bindsA (ps := ["script"]) F fun _ _ _ _ _ _ us hl => match us, hl with | [_], _ => rfl
  exact ⟨fd, fun s v => b s [v] rfl, fun base _ _ => PB.fn_ok F sc_law len_law (b_law T) (pure_law K)⟩
end PG
open PySem PySem.W PySem.Calls PyProof.Rows
set_option maxHeartbeats 0 in
theorem PySem.Challenge.cw_manypanes_k02_styles_holds : PySem.Challenge.rw_manypanes_k02_styles.Holds := by
  w_on; o_law
  refine HandSHeadRun.head_any (r := PG.Rw) (q := PySem.W.view PG.Rw.prog [19]) (H := PG.hk) (ob := PG.ob) (M := 6000) (loose := PG.loose) (d := HandSHeadRun.topDef PG.Rw.prog 19) (kwd := []) PG.ob_is
    (by kernel_rfl) (fun s => by kernel_rfl) PG.runs (by kernel_rfl) (by kernel_rfl) (by kernel_rfl) (by rfl) (by first | assumption | decide +kernel) (by decide +kernel) ⟨rfl, rfl, rfl, rfl, rfl, by decide +kernel⟩ ?hw ?hc
  case hw => w_witness2
  case hc =>
    refine L2.walk_ofE (l := PySem.Challenge.rw_manypanes_k02_styles) (n := 63) (k := 4) (x := "script") (CX := L2.CX0) rfl (by decide) (by kernel_rfl) ⟨rfl, by decide, by decide⟩ ?F (fun _ _ _ _ z => z)
    intro w mg fa h Y G hmg0
    obtain ⟨K, KX, c, x⟩ := Y
    have hmg : mg ("law" : PySem.Str) = some (.ref fa) := by
      have e : (HandSHeadRun.topDef PG.Rw.prog 19).name = ("law" : PySem.Str) := by kernel_rfl
      rw [← e]
      exact hmg0
    obtain ⟨fd, hb, hF⟩ := PG.last (P := (PySem.Challenge.rw_manypanes_k02_styles).prog) (w := w) KX G hmg c x
    exact ⟨K, fd, PG.sp_law K, KX, hb, fun H a ns hl _ hS => ⟨a, ns, rfl, hS, hl, fun _ => rfl⟩, hF⟩
namespace PG
end PG
