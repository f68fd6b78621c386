import PyProof.Rows.All
import Wide.All
import OpenK.AllK
import Wide.FinOn
import HandS.ForMost
import HandS.Codes
import HandS.Deep
import HandS.Wide
import HandS.TupAny
import HandS.CallRecv
import HandS.IsInst
import HandS.Flow
import HandS.Conv
import HandS.More
import HandS.HeadEnd
import HandS.HeadHook2
import PyProof.P3In
import HandS.FStr
import HandS.Head0
import HandS.Head1
import HandS.Head2
import HandS.Defaults
import HandS.MakeKwOnly
import HandS.Style
import HandS.Iter
import HandS.Zip
import PySem.Challenge.RW_manypanes_k16_pictures_and_their_differe
set_option Elab.async false
set_option linter.all false
set_option maxRecDepth 100000
set_option autoImplicit false
set_option maxHeartbeats 4000000
set_option maxRecDepth 100000
set_option autoImplicit false
set_option maxHeartbeats 4000000
namespace PB
open PySem PySem.Spec PyProof.Rows L2
open C8 (Cal Mak Met pe_c pe_mk pe_mt pe_mt0 tCut pss_cut)
/-! ### rules joined: the way is picked by the values -/
def orR (r r' : R2) : R2 := fun x y H Q => r x y H Q ∨ r' x y H Q
theorem or_op {X : Cx} {f : Value → Value → Sem Value} {r r' : R2} (h : OpR X f r) (h' : OpR X f r') : OpR X f (orR r r') := by
  intro pins s σ H x y v u Q I rx ry q
  rcases q with q | q
  · exact h pins s σ H x y v u Q I rx ry q
  · exact h' pins s σ H x y v u Q I rx ry q
abbrev rAddI : R2 := rI0 fun i j => .int (i + j)
abbrev rSubI : R2 := rI0 fun i j => .int (i - j)
abbrev rMulI : R2 := rI CMulW fun i j => .int (i * j)
abbrev rDivI : R2 := rI CDivW fun i j => .int (i / j)
abbrev rModI : R2 := rI (fun _ j => 0 < j) fun i j => .int (i % j)
/-! ### readings by match: they run by simp where the values are known -/
def mVar (i : Nat) : TE := fun σ H Q => match σ[i]? with
  | some (some v) => Q v H
  | _ => False
def mAdd (K : PySem.W.Frag) : R2 := fun x y H Q => match x, y with
  | .int i, .int j => Q (.int (i + j)) H
  | .ref a, .ref b => rCat (.ref a) (.ref b) H Q ∨ rCatA K (.ref a) (.ref b) H Q
  | _, _ => False
def mSub : R2 := fun x y H Q => match x, y with
  | .int i, .int j => Q (.int (i - j)) H
  | _, _ => False
def mMul : R2 := fun x y H Q => match x, y with
  | .int i, .int j => CMulW i j ∧ Q (.int (i * j)) H
  | .ref a, .int j => rRep (.ref a) (.int j) H Q
  | _, _ => False
def mDiv : R2 := fun x y H Q => match x, y with
  | .int i, .int j => CDivW i j ∧ Q (.int (i / j)) H
  | _, _ => False
def mMod : R2 := fun x y H Q => match x, y with
  | .int i, .int j => 0 < j ∧ Q (.int (i % j)) H
  | _, _ => False
def mPow : R2 := fun x y H Q => match x, y with
  | .int i, .int j => CPow i j ∧ Q (.int (i ^ j.toNat)) H
  | _, _ => False
def mNeg : V → Hp → VK → Prop := fun x H Q => match x with
  | .int i => Q (.int (-i)) H
  | _ => False
def mLt : R2 := fun x y H Q => match x, y with
  | .int i, .int j => Q (.bl (decide (i < j))) H
  | _, _ => False
def mLe : R2 := fun x y H Q => match x, y with
  | .int i, .int j => Q (.bl (decide (i ≤ j))) H
  | _, _ => False
def mGt : R2 := fun x y H Q => match x, y with
  | .int i, .int j => Q (.bl (decide (j < i))) H
  | _, _ => False
def mGe : R2 := fun x y H Q => match x, y with
  | .int i, .int j => Q (.bl (decide (j ≤ i))) H
  | _, _ => False
def mEq (K : PySem.W.Frag) : R2 := fun x y H Q => match x, y with
  | .int i, .int j => Q (.bl (decide (i = j))) H
  | .bl i, .bl j => Q (.bl (decide (i = j))) H
  | .str i, .str j => Q (.bl (decide (i = j))) H
  | .ref a, .ref b => rEqD K (.ref a) (.ref b) H Q
  | x, y => rEq x y H Q ∨ rEqD K x y H Q
def mNe (K : PySem.W.Frag) : R2 := fun x y H Q => match x, y with
  | .int i, .int j => Q (.bl (!decide (i = j))) H
  | .bl i, .bl j => Q (.bl (!decide (i = j))) H
  | .str i, .str j => Q (.bl (!decide (i = j))) H
  | .ref a, .ref b => rNeD K (.ref a) (.ref b) H Q
  | x, y => rNe x y H Q ∨ rNeD K x y H Q
/-- in a tuple of data -/
def rInT (K : PySem.W.Frag) (neg : Bool) : R2 := fun x y H Q => ∃ d ds, Dp K H x d ∧ Dp K H y (.tuple ds) ∧ SeqAt.shaped d = true ∧ SeqAt.shaped (.tuple ds) = true ∧ Q (.bl (if neg then !(ds.any fun z => PyData.eqv z d) else ds.any fun z => PyData.eqv z d)) H
def mIn (K : PySem.W.Frag) : R2 := fun x y H Q => rIn K false x y H Q ∨ rInD K x y H Q ∨ rInT K false x y H Q
def mNotIn (K : PySem.W.Frag) : R2 := fun x y H Q => rIn K true x y H Q ∨ rNotInD K x y H Q ∨ rInT K true x y H Q
def mIsN : R2 := fun x y H Q => match y with
  | .non => Q (.bl (decide (x = .non))) H
  | _ => False
def mNotN : R2 := fun x y H Q => match y with
  | .non => Q (.bl (!decide (x = .non))) H
  | _ => False
def mIx (K : PySem.W.Frag) : R2 := fun x y H Q => match x, y with
  | .ref p, .int i => ∃ xs v, (SqL K H p xs ∨ SqT K H p xs) ∧ atI xs i = some v ∧ Q v H
  | _, _ => False
def kTest (Q : Bool → Hp → Prop) : VK := fun x H' => match x with
  | .bl k => Q k H'
  | _ => False
def mTest (t : TE) : TT := fun σ H Q => t σ H (kTest Q)
def mChain (r r' : R2) (ta tb tc : TE) : TE := fun σ H Q => ta σ H fun x H1 => tb σ H1 fun y H2 => r x y H2 fun z H3 => match z with
  | .bl k => if k = true then tc σ H3 fun u H4 => r' y u H4 Q else Q (.bl false) H3
  | _ => False
def kTru (K : PySem.W.Frag) (Q : Bool → Hp → Prop) : VK := fun x H' => match x with
  | .bl k => Q k H'
  | .int i => Q (!decide (i = 0)) H'
  | .non => Q false H'
  | .ref a => ∃ k, TruV K (.ref a) H' k ∧ Q k H'
  | _ => False
def mTru (K : PySem.W.Frag) (ta : TE) : TT := fun σ H Q => ta σ H (kTru K Q)
def mAndV (ta tb : TE) : TE := fun σ H Q => ta σ H fun x H1 => match x with
  | .bl k => if k = true then tb σ H1 Q else Q (.bl false) H1
  | _ => False
def mOrV (ta tb : TE) : TE := fun σ H Q => ta σ H fun x H1 => match x with
  | .bl k => if k = true then Q (.bl true) H1 else tb σ H1 Q
  | _ => False
def mNotV (ta : TE) : TE := fun σ H Q => ta σ H fun x H1 => match x with
  | .bl k => Q (.bl (!k)) H1
  | _ => False
abbrev R1 := List V → Hp → VK → Prop
def mAbs : R1 := fun xs H Q => match xs with
  | [.int i] => Q (.int (if i < 0 then -i else i)) H
  | _ => False
def mMax2 : R1 := fun xs H Q => match xs with
  | [.int i, .int j] => Q (.int (max i j)) H
  | _ => False
def mMin2 : R1 := fun xs H Q => match xs with
  | [.int i, .int j] => Q (.int (min i j)) H
  | _ => False
def mInt : R1 := fun xs H Q => match xs with
  | [.int i] => Q (.int i) H
  | [.bl k] => Q (.int (if k then 1 else 0)) H
  | _ => False
def mBool : R1 := fun xs H Q => match xs with
  | [.int i] => Q (.bl (!decide (i = 0))) H
  | [.bl k] => Q (.bl k) H
  | _ => False
def mStr : R1 := fun xs H Q => match xs with
  | [.int i] => i.natAbs.log2 < 1920 ∧ Q (.str (toString i)) H
  | _ => False
def mOrd : R1 := fun xs H Q => match xs with
  | [.str x] => x.length = 1 ∧ Q (.int (x.cps.getD 0 0 : Nat)) H
  | _ => False
def mLen (K : PySem.W.Frag) : R1 := fun xs H Q => match xs with
  | [.ref p] => ∃ ys, (SqL K H p ys ∨ SqT K H p ys) ∧ Q (.int ys.length) H
  | _ => False
def mList (K : PySem.W.Frag) : R1 := fun xs H Q => match xs with
  | [.ref p] => ∃ ys, (SqL K H p ys ∨ SqT K H p ys) ∧ ∀ l, H l = none → Q (.ref l) (upd H l (.lst ys))
  | _ => False
def mTup (K : PySem.W.Frag) : R1 := fun xs H Q => match xs with
  | [.ref p] => ∃ ys, (SqL K H p ys ∧ ∀ l, H l = none → Q (.ref l) (upd H l (.tup ys))) ∨ (SqT K H p ys ∧ Q (.ref p) H)
  | _ => False
def mSl (K : PySem.W.Frag) : V → Option Int → Option Int → Hp → VK → Prop := fun x lo hi H Q => rSlL K x lo hi H Q ∨ rSlA K x lo hi H Q
def mFld (K : PySem.W.Frag) (ta : TE) (f : Str) : TE := fun σ H Q => ta σ H fun x H1 => match x with
  | .ref a => (match H1 a with
    | some (.ins C _ fs) => (match fs.lookup f with
      | some v => (Cls K C ∧ NoAttr K C f) ∧ Q v H1
      | none => False)
    | _ => False)
  | _ => False
def mSFld (K : PySem.W.Frag) (ta tv : TE) (f : Str) : TS := fun D σ H => tv σ H fun y H1 => ta σ H1 fun x H2 => match x with
  | .ref a => (match H2 a with
    | some (.ins C dx fs) => (Cls K C ∧ NoAttr K C f ∧ fs.length < 1000) ∧ D.nx σ (upd H2 a (.ins C dx (putF f y fs)))
    | _ => False)
  | _ => False
def mFldAug (K : PySem.W.Frag) (ta tv : TE) (g : Int → Int → Int) (f : Str) : TS := fun D σ H => ta σ H fun x H1 => match x with
  | .ref a => (match H1 a with
    | some (.ins C _ fs) => (match fs.lookup f with
      | some (.int i) => (Cls K C ∧ NoAttr K C f) ∧ tv σ H1 fun y H2 => (match y with
        | .int j => (match H2 a with
          | some (.ins C' dx' fs') => (C' = C ∧ fs'.length < 1000) ∧ D.nx σ (upd H2 a (.ins C dx' (putF f (.int (g i j)) fs')))
          | _ => False)
        | _ => False)
      | _ => False)
    | _ => False)
  | _ => False
def mAug (i : Nat) (te : TE) (g : Int → Int → Int) : TS := fun D σ H => match σ[i]? with
  | some (some (.int x)) => te σ H fun y H1 => (match y with
    | .int z => D.nx (σ.set i (some (.int (g x z)))) H1
    | _ => False)
  | _ => False
def mDGet (td ty : TE) : TE := fun σ H Q => td σ H fun x H1 => ty σ H1 fun y H2 => match x, y with
  | .ref a, .str s => (match H2 a with
    | some (.dK kvs) => (match valV kvs (.inr s) with
      | some v => Q v H2
      | none => False)
    | _ => False)
  | _, _ => False
def mDPut (td ty tv : TE) : TS := fun D σ H => tv σ H fun v H1 => td σ H1 fun x H2 => ty σ H2 fun y H3 => match x, y with
  | .ref a, .str s => (match H3 a with
    | some (.dK kvs) => kvs.length < sizeLine ∧ D.nx σ (upd H3 a (.dK (putK kvs (.inr s) v)))
    | _ => False)
  | _, _ => False
def mMeth (C : Addr) (m : Str) (sp : Sp) (ta : TE) (t : TA) : TE := fun σ H Q => ta σ H fun x H1 => match x with
  | .ref a => (match H1 a with
    | some (.ins D _ fs) => (D = C ∧ fs.lookup m = none) ∧ t σ H1 fun vs H2 => sp (.ref a :: vs) H2 Q E0
    | _ => False)
  | _ => False
def mCall (sp : Sp) (t : TA) : TE := fun σ H Q => t σ H fun vs H1 => sp vs H1 Q E0
def mMake (C : Addr) (sp : Sp) (t : TA) : TE := fun σ H Q => t σ H fun vs H1 => ∀ x dx, H1 x = none → H1 dx = none → dx ≠ x →
  sp (.ref x :: vs) (upd (upd H1 dx (.own x)) x (.ins C dx [])) (fun v H2 => v = .non ∧ Q (.ref x) H2) E0
def mTup0 (t : TA) : TE := fun σ H Q => t σ H fun xs H1 => xs.length ≤ sizeLine ∧ ∀ p, H1 p = none → Q (.ref p) (upd H1 p (.tup xs))
def mAppend : V → List V → Hp → VK → Prop := fun x vs H Q => match x, vs with
  | .ref l, [y] => (match H l with
    | some (.lst xs) => xs.length < sizeLine ∧ Q .non (upd H l (.lst (xs ++ [y])))
    | _ => False)
  | _, _ => False
/-- a list's method; the receiver is a list that stands in H -/
def mLM (r : V → List V → Hp → VK → Prop) (to : TE) (t : TA) : TE := fun σ H Q => to σ H fun x H1 => match x with
  | .ref l => (match H1 l with
    | some (.lst _) => t σ H1 fun xs H2 => r (.ref l) xs H2 Q
    | _ => False)
  | _ => False
def mSet : TSet := fun o i v H Q => match o, i with
  | .ref p, .int k => (match H p with
    | some (.lst xs) => (match ixN xs.length k with
      | some j => Q (upd H p (.lst (xs.set j v)))
      | none => False)
    | _ => False)
  | _, _ => False
def mPart (t : TE) : TO := fun σ H Q => t σ H fun x H1 => match x with
  | .int i => Q (some i) H1
  | _ => False
abbrev rInsert : V → List V → Hp → VK → Prop := fun x vs H Q => ∃ (l : Addr) (xs : List V) (i : Int) (y : V), x = .ref l ∧ vs = [.int i, y] ∧ H l = some (.lst xs) ∧ xs.length < sizeLine ∧ 0 ≤ i ∧ i < 2 ^ 63 ∧
  Q .non (upd H l (.lst (xs.take i.toNat ++ [y] ++ xs.drop i.toNat)))
theorem hu64 {A : Around} {k : Nat} (hr : Room k A) : A.units + 64 < cLine := by have := hr.un; omega
theorem hu65 {A : Around} {k : Nat} (hr : Room k A) : A.units + 65 < cLine := by have := hr.un; omega
section
variable {X : Cx}
theorem PE_imp {e : Expr} {t t' : TE} (h : PE X e t) (i : ∀ σ H Q, t' σ H Q → t σ H Q) : PE X e t' := ⟨fun pins s σ H Q I q => h.run pins s σ H Q I (i _ _ _ q)⟩
theorem PT_imp {e : Expr} {t t' : TT} (h : PT X e t) (i : ∀ σ H Q, t' σ H Q → t σ H Q) : PT X e t' := ⟨fun pins s σ H Q I q => h.run pins s σ H Q I (i _ _ _ q)⟩
theorem PA_imp {es : List Expr} {t t' : TA} (h : PA X es t) (i : ∀ σ H Q, t' σ H Q → t σ H Q) : PA X es t' := ⟨fun pos pins s σ H Q I q => h.run pos pins s σ H Q I (i _ _ _ q)⟩
theorem PS_imp {e : Stmt} {t t' : TS} (h : PS X e t) (i : ∀ D σ H, t' D σ H → t D σ H) : PS X e t' := ⟨fun pins s σ H D I q => h.run pins s σ H D I (i _ _ _ q)⟩
theorem op_imp {f : Value → Value → Sem Value} {r r' : R2} (h : OpR X f r) (i : ∀ x y H Q, r' x y H Q → r x y H Q) : OpR X f r' := fun pins s σ H x y v u Q I rx ry q => h pins s σ H x y v u Q I rx ry (i _ _ _ _ q)
theorem call_imp {f : Value} {r r' : R1} (h : CallR X f r) (i : ∀ x H Q, r' x H Q → r x H Q) : CallR X f r' := fun pins s σ H xs us Q I rx q => h pins s σ H xs us Q I rx (i _ _ _ q)
theorem ix_imp {r r' : R2} (h : IxR X r) (i : ∀ x y H Q, r' x y H Q → r x y H Q) : IxR X r' := fun a b pins s σ H x y v u Q I rx ry q hs => h a b pins s σ H x y v u Q I rx ry (i _ _ _ _ q) hs
theorem un_imp {f : Value → Sem Value} {r r' : V → Hp → VK → Prop} (h : UnR X f r) (i : ∀ x H Q, r' x H Q → r x H Q) : UnR X f r' := fun pins s σ H x v Q I rx q => h pins s σ H x v Q I rx (i _ _ _ q)
theorem mt_imp {id : String} {r r' : V → List V → Hp → VK → Prop} (h : MtR X id r) (i : ∀ x vs H Q, r' x vs H Q → r x vs H Q) : MtR X id r' := fun pins s σ H x xs v us Q I rx rs q => h pins s σ H x xs v us Q I rx rs (i _ _ _ _ q)
theorem op_mAdd : OpR X (binaryOp .Add) (mAdd X.K) := op_imp (or_op op_add (or_op op_cat op_catA)) fun x y H Q h => by
  cases x <;> cases y <;> first | exact h.elim | exact .inl ⟨_, _, rfl, rfl, h⟩ | exact .inr h
theorem op_mSub : OpR X (binaryOp .Sub) mSub := op_imp op_sub fun x y H Q h => by
  cases x <;> cases y <;> first | exact h.elim | exact ⟨_, _, rfl, rfl, h⟩
theorem op_mMul : OpR X (binaryOp .Mult) mMul := op_imp (or_op op_mulW op_rep) fun x y H Q h => by
  cases x <;> cases y <;> first | exact h.elim | exact .inl ⟨_, _, rfl, rfl, h.1, h.2⟩ | exact .inr h
theorem op_mDiv : OpR X (binaryOp .FloorDiv) mDiv := op_imp op_fdivW fun x y H Q h => by
  cases x <;> cases y <;> first | exact h.elim | exact ⟨_, _, rfl, rfl, h.1, h.2⟩
theorem op_mMod : OpR X (binaryOp .Mod) mMod := op_imp op_mod fun x y H Q h => by
  cases x <;> cases y <;> first | exact h.elim | exact ⟨_, _, rfl, rfl, h.1, h.2⟩
theorem op_mPow : OpR X (binaryOp .Pow) mPow := op_imp op_pow fun x y H Q h => by
  cases x <;> cases y <;> first | exact h.elim | exact ⟨_, _, rfl, rfl, h.1, h.2⟩
theorem un_mNeg : UnR X (unaryOp .USub) mNeg := un_imp un_neg fun x H Q h => by
  cases x <;> first | exact h.elim | exact ⟨_, rfl, h⟩
theorem op_mLt : OpR X (compareOp .Lt) mLt := op_imp op_lt fun x y H Q h => by
  cases x <;> cases y <;> first | exact h.elim | exact ⟨_, _, rfl, rfl, h⟩
theorem op_mLe : OpR X (compareOp .LtE) mLe := op_imp op_le fun x y H Q h => by
  cases x <;> cases y <;> first | exact h.elim | exact ⟨_, _, rfl, rfl, h⟩
theorem op_mGt : OpR X (compareOp .Gt) mGt := op_imp op_gt fun x y H Q h => by
  cases x <;> cases y <;> first | exact h.elim | exact ⟨_, _, rfl, rfl, h⟩
theorem op_mGe : OpR X (compareOp .GtE) mGe := op_imp op_ge fun x y H Q h => by
  cases x <;> cases y <;> first | exact h.elim | exact ⟨_, _, rfl, rfl, h⟩
theorem dInt {i j : Int} : decide (V.int i = V.int j) = decide (i = j) := by simp
theorem dBl {i j : Bool} : decide (V.bl i = V.bl j) = decide (i = j) := by simp
theorem dStr {i j : Str} : decide (V.str i = V.str j) = decide (i = j) := by simp
theorem op_mEq (hu : X.A.units + 64 < cLine) : OpR X (compareOp .Eq) (mEq X.K) := op_imp (or_op op_eq (op_eqD hu)) fun x y H Q h => by
  cases x <;> cases y <;> first | exact h | exact .inl ⟨rfl, by rw [dInt]; exact h⟩ | exact .inl ⟨rfl, by rw [dBl]; exact h⟩ | exact .inl ⟨rfl, by rw [dStr]; exact h⟩ | exact .inr h
theorem op_mNe (hu : X.A.units + 64 < cLine) : OpR X (compareOp .NotEq) (mNe X.K) := op_imp (or_op op_ne (op_neD hu)) fun x y H Q h => by
  cases x <;> cases y <;> first | exact h | exact .inl ⟨rfl, by rw [dInt]; exact h⟩ | exact .inl ⟨rfl, by rw [dBl]; exact h⟩ | exact .inl ⟨rfl, by rw [dStr]; exact h⟩ | exact .inr h
theorem op_inT (hu : X.A.units + 65 < cLine) : OpR X (compareOp .In) (rInT X.K false) := by
  intro pins s σ H x y v u Q I rx ry h
  obtain ⟨d, ds, hd, he, sd, se, q⟩ := h
  obtain ⟨as, r1⟩ := Dp.reads I d x v hd rx
  obtain ⟨bs, r2⟩ := Dp.reads I (.tuple ds) y u he ry
  exact SeqAt.in_tuple_reads r2 r1 (SeqAt.canLay_of_shaped se) (SeqAt.canLay_of_shaped sd) (room_in_shaped sd hu) ⟨.bl _, H, I, rfl, q⟩
theorem op_notInT (hu : X.A.units + 65 < cLine) : OpR X (compareOp .NotIn) (rInT X.K true) := by
  intro pins s σ H x y v u Q I rx ry h
  obtain ⟨d, ds, hd, he, sd, se, q⟩ := h
  obtain ⟨as, r1⟩ := Dp.reads I d x v hd rx
  obtain ⟨bs, r2⟩ := Dp.reads I (.tuple ds) y u he ry
  exact SeqAt.notIn_tuple_reads r2 r1 (SeqAt.canLay_of_shaped se) (SeqAt.canLay_of_shaped sd) (room_in_shaped sd hu) ⟨.bl _, H, I, rfl, q⟩
theorem op_mIn (hu : X.A.units + 65 < cLine) : OpR X (compareOp .In) (mIn X.K) := or_op op_in_seq (or_op (op_inD hu) (op_inT hu))
theorem op_mNotIn (hu : X.A.units + 65 < cLine) : OpR X (compareOp .NotIn) (mNotIn X.K) := or_op op_notIn_seq (or_op (op_notInD hu) (op_notInT hu))
theorem op_mIsN : OpR X (compareOp .Is) mIsN := op_imp op_isN fun x y H Q h => by
  cases y <;> first | exact h.elim | exact ⟨rfl, h⟩
theorem op_mNotN : OpR X (compareOp .IsNot) mNotN := op_imp op_notN fun x y H Q h => by
  cases y <;> first | exact h.elim | exact ⟨rfl, h⟩
theorem ix_m : IxR X (mIx X.K) := ix_imp ix_seq fun x y H Q h => by
  cases x <;> cases y <;> try exact h.elim
  obtain ⟨xs, v, h1 | h1, h2, h3⟩ := h
  · exact .inl ⟨_, xs, _, v, rfl, rfl, h1, h2, h3⟩
  · exact .inr (.inl ⟨_, xs, _, v, rfl, rfl, h1, h2, h3⟩)
theorem call_mAbs : CallR X (.builtin "abs") mAbs := call_imp call_abs fun xs H Q h => by
  unfold mAbs at h; split at h
  · exact ⟨_, rfl, h⟩
  · exact h.elim
theorem call_mMax2 (hc : X.calm = true) : CallR X (.builtin "max") mMax2 := call_imp (call_max2 hc) fun xs H Q h => by
  unfold mMax2 at h; split at h
  · rename_i i j
    have e : max i j = if j > i then j else i := by rw [Int.max_def]; split <;> split <;> omega
    rw [e] at h
    exact ⟨_, _, rfl, h⟩
  · exact h.elim
theorem call_mMin2 (hc : X.calm = true) : CallR X (.builtin "min") mMin2 := call_imp (call_min2 hc) fun xs H Q h => by
  unfold mMin2 at h; split at h
  · rename_i i j
    have e : min i j = if j < i then j else i := by rw [Int.min_def]; split <;> split <;> omega
    rw [e] at h
    exact ⟨_, _, rfl, h⟩
  · exact h.elim
theorem call_mInt : CallR X (.type "int") mInt := call_imp call_int1 fun xs H Q h => by
  unfold mInt at h; split at h
  · exact .inl ⟨_, rfl, h⟩
  · exact .inr ⟨_, rfl, h⟩
  · exact h.elim
theorem call_mBool : CallR X (.type "bool") mBool := call_imp call_bool1 fun xs H Q h => by
  unfold mBool at h; split at h
  · rename_i i
    have e : (i != 0) = !decide (i = 0) := by simp [bne]; rfl
    exact .inl ⟨_, rfl, by rw [e]; exact h⟩
  · exact .inr ⟨_, rfl, h⟩
  · exact h.elim
theorem call_mStr : CallR X (.type "str") mStr := call_imp call_str_int fun xs H Q h => by
  unfold mStr at h; split at h
  · exact ⟨_, rfl, h⟩
  · exact h.elim
theorem call_mOrd : CallR X (.builtin "ord") mOrd := call_imp call_ord fun xs H Q h => by
  unfold mOrd at h; split at h
  · exact ⟨_, rfl, h⟩
  · exact h.elim
theorem call_mLen : CallR X (.builtin "len") (mLen X.K) := call_imp call_len_seq fun xs H Q h => by
  unfold mLen at h; split at h
  · obtain ⟨ys, h1, h2⟩ := h
    exact ⟨_, ys, rfl, h1, h2⟩
  · exact h.elim
theorem call_mList : CallR X (.type "list") (mList X.K) := call_imp call_list_of fun xs H Q h => by
  unfold mList at h; split at h
  · obtain ⟨ys, h1, h2⟩ := h
    exact ⟨_, ys, rfl, h1, h2⟩
  · exact h.elim
theorem call_mTup : CallR X (.type "tuple") (mTup X.K) := call_imp call_tuple_of fun xs H Q h => by
  unfold mTup at h; split at h
  · obtain ⟨ys, h1⟩ := h
    exact ⟨_, ys, rfl, h1⟩
  · exact h.elim
theorem sl_m : SlR X (mSl X.K) := sl_list.or sl_tupA
theorem mt_mAppend : MtR X "list.append" mAppend := mt_imp mt_append fun x vs H Q h => by
  unfold mAppend at h; split at h
  · split at h
    · rename_i e
      exact ⟨_, _, _, rfl, rfl, e, h.1, h.2⟩
    · exact h.elim
  · exact h.elim
theorem mt_insert' : MtR X "list.insert" rInsert := mt_insert
variable {e a b c o value : Expr} {es : List Expr} {ta tb tc tv : TE} {t : TA} {pos pos' apos cpos tpos : Pos} {x f m : Str}
theorem pe_v (i : Nat) (hN : X.N[i]? = some x := by rfl) (hv : Vis X.env.scope x := by first | exact Or.inl rfl | exact Or.inr (Or.inl rfl) | exact Or.inr (Or.inr rfl)) (hd : (x == ("__debug__" : Str)) = false := by decide)
    (hcd : (x == ("__classdict__" : Str)) = false := by decide) : PE X (.Name x pos) (mVar i) := PE_imp (pv i hN hv hd hcd) fun σ H Q h => by
  unfold mVar at h; split at h
  · rename_i v e; exact ⟨v, e, h⟩
  · exact h.elim
theorem pe_gint {i : Int} (hg : Gl X x) (hm : ∃ t, X.mg x = some (.int i t)) (hd : (x == ("__debug__" : Str)) = false := by decide) : PE X (.Name x pos) (tC (.int i)) := by
  obtain ⟨t, hm⟩ := hm
  exact pe_glob hg hm ⟨t, rfl⟩ hd
theorem pt_m {op : CmpOp} {r : R2} (ho : OpR X (compareOp op) r) (ha : PE X a ta) (hb : PE X b tb) (hm : behindInMarks op b = false) : PT X (.Compare a [op] [b] pos) (mTest (tOp r ta tb)) := by
  refine ⟨fun pins s σ H Q I h => ?_⟩
  refine wpAny_isTrue_Compare1 (thn (ha.run pins s σ H _ I h) fun v s1 ⟨x, H1, I1, r1, q1⟩ => thn (hb.run pins s1 σ H1 _ I1 q1) fun u s2 ⟨y, H2, I2, r2, q2⟩ =>
    thn (ho pins s2 σ H2 x y v u _ I2 r1 r2 q2) fun c s3 ⟨z, H3, I3, r3, q3⟩ => ?_) hm
  cases z with
  | bl k =>
    cases r3
    exact wpAny_truthy_bool ⟨H3, I3, q3⟩
  | _ => exact q3.elim
theorem pe_mch {op op' : CmpOp} {r r' : R2} (ho : OpR X (compareOp op) r) (ho' : OpR X (compareOp op') r') (ha : PE X a ta) (hb : PE X b tb) (hc : PE X c tc)
    (hm : lastMarks [op, op'] [b, c] = false := by with_unfolding_all rfl) : PE X (.Compare a [op, op'] [b, c] pos) (mChain r r' ta tb tc) := by
  refine ⟨fun pins s σ H Q I h => ?_⟩
  refine Compare_chain (thn (ha.run pins s σ H _ I h) fun v s1 ⟨x, H1, I1, r1, q1⟩ => chain_link (thn (hb.run pins s1 σ H1 _ I1 q1) fun u s2 ⟨y, H2, I2, r2, q2⟩ =>
    thn (ho pins s2 σ H2 x y v u _ I2 r1 r2 q2) fun d s3 ⟨z, H3, I3, r3, q3⟩ => ?_)) hm
  cases z with
  | bl k =>
    cases r3
    refine wpAny_truthy_bool ?_
    cases k with
    | false => exact ite_ff ⟨.bl false, H3, I3, rfl, q3⟩
    | true => exact ite_tt (chain_last (thn (hc.run pins s3 σ H3 _ I3 q3) fun w' s4 ⟨z', H4, I4, r4, q4⟩ => ho' pins s4 σ H4 y z' u w' Q I4 r2 r4 q4))
  | _ => exact q3.elim
theorem pt_mch {op op' : CmpOp} {r r' : R2} (ho : OpR X (compareOp op) r) (ho' : OpR X (compareOp op') r') (ha : PE X a ta) (hb : PE X b tb) (hc : PE X c tc)
    (hm : lastMarks [op, op'] [b, c] = false := by with_unfolding_all rfl) : PT X (.Compare a [op, op'] [b, c] pos) (mTest (mChain r r' ta tb tc)) := by
  refine ⟨fun pins s σ H Q I h => ?_⟩
  refine isTrue_chain (thn (ha.run pins s σ H _ I h) fun v s1 ⟨x, H1, I1, r1, q1⟩ => test_link (thn (hb.run pins s1 σ H1 _ I1 q1) fun u s2 ⟨y, H2, I2, r2, q2⟩ =>
    thn (ho pins s2 σ H2 x y v u _ I2 r1 r2 q2) fun d s3 ⟨z, H3, I3, r3, q3⟩ => ?_)) hm
  cases z with
  | bl k =>
    cases r3
    refine wpAny_truthy_bool ?_
    cases k with
    | false => exact ite_ff ⟨H3, I3, q3⟩
    | true =>
      refine ite_tt (test_last (thn (hc.run pins s3 σ H3 _ I3 q3) fun w' s4 ⟨z', H4, I4, r4, q4⟩ => thn (ho' pins s4 σ H4 y z' u w' _ I4 r2 r4 q4) fun d' s5 ⟨z2, H5, I5, r5, q5⟩ => ?_))
      cases z2 with
      | bl k2 =>
        cases r5
        exact wpAny_truthy_bool ⟨H5, I5, q5⟩
      | _ => exact q5.elim
  | _ => exact q3.elim
theorem pt_tru (ha : PE X a ta) (he : ∀ whole, isTrue a X.env whole = (do let v ← whole; standAt a.pos; holding [v] (truthy v)) := by intro _; rfl) : PT X a (mTru X.K ta) := by
  refine ⟨fun pins s σ H Q I h => ?_⟩
  refine isTrue_plain (thn (ha.run pins s σ H _ I h) fun v s1 ⟨x, H1, I1, r1, q1⟩ => ?_) (he _)
  refine tru_ok pins s1 σ H1 x v Q I1 r1 ?_
  cases x with
  | bl k => exact ⟨k, rfl, q1⟩
  | int i =>
    have e : (i != 0) = !decide (i = 0) := by simp [bne]; rfl
    exact ⟨_, rfl, e ▸ q1⟩
  | non => exact ⟨_, rfl, q1⟩
  | ref p => exact q1
  | _ => exact q1.elim
theorem pe_mand {rest : List Expr} (ha : PE X a ta) (hb : PE X (.BoolOp .And (b :: rest) pos) tb) : PE X (.BoolOp .And (a :: b :: rest) pos) (mAndV ta tb) := by
  refine ⟨fun pins s σ H Q I h => ?_⟩
  refine BoolOp_and (thn (ha.run pins s σ H _ I h) fun v s1 ⟨x, H1, I1, r1, q1⟩ => ?_)
  cases x with
  | bl k =>
    cases r1
    refine wpAny_truthy_bool ?_
    cases k with
    | true => exact hb.run pins s1 σ H1 Q I1 q1
    | false => exact ⟨.bl false, H1, I1, rfl, q1⟩
  | _ => exact q1.elim
theorem pe_mor {rest : List Expr} (ha : PE X a ta) (hb : PE X (.BoolOp .Or (b :: rest) pos) tb) : PE X (.BoolOp .Or (a :: b :: rest) pos) (mOrV ta tb) := by
  refine ⟨fun pins s σ H Q I h => ?_⟩
  refine BoolOp_or (thn (ha.run pins s σ H _ I h) fun v s1 ⟨x, H1, I1, r1, q1⟩ => ?_)
  cases x with
  | bl k =>
    cases r1
    refine wpAny_truthy_bool ?_
    cases k with
    | true => exact ⟨.bl true, H1, I1, rfl, q1⟩
    | false => exact hb.run pins s1 σ H1 Q I1 q1
  | _ => exact q1.elim
theorem pe_mfld (ha : PE X a ta) (hb : attributeBase a f X.env (eval a X.env) = eval a X.env) : PE X (.Attribute a f pos) (mFld X.K ta f) := by
  refine ⟨fun pins s σ H Q I h => ?_⟩
  refine attr_of hb (thn (ha.run pins s σ H _ I h) fun u s1 ⟨x, H1, I1, rx, q⟩ => ?_)
  cases x with
  | ref p =>
    obtain rfl : u = Value.ref p := rx
    simp only at q
    split at q
    · rename_i C dx fs ea
      split at q
      · rename_i v l
        exact getattr_ok I1 ea q.1.1 q.1.2 l fun u' s2 I2 ru => ⟨v, H1, I2, ru, q.2⟩
      · exact q.elim
    · exact q.elim
  | _ => exact q.elim
theorem ps_mfld (ha : PE X o ta) (hv : PE X value tv) (hs : swapsWith value (some (.Attribute o f pos')) pos.line X.env = pure false) : PS X (.Assign [.Attribute o f pos'] value pos) (mSFld X.K ta tv f) := by
  refine ⟨fun pins s σ H D I h => ?_⟩
  refine plainObj_wpAny_Assign_Attribute (thn (hv.run pins s σ H _ I h) fun u s1 ⟨y, H1, I1, ry, q⟩ => thn (ha.run pins s1 σ H1 _ I1 q) fun ov s2 ⟨x, H2, I2, rx, q2⟩ => ?_) hs
  cases x with
  | ref p =>
    obtain rfl : ov = Value.ref p := rx
    simp only at q2
    split at q2
    · rename_i C dx fs ea
      exact setattr_ok I2 ea q2.1.1 q2.1.2.1 q2.1.2.2 ry fun s3 I3 => ⟨σ, _, I3, q2.2⟩
    · exact q2.elim
  | _ => exact q2.elim
theorem in_g {op : Operator} {g : Int → Int → Int} (h : InOp X op (fun x y H Q => ∃ i j, x = .int i ∧ y = .int j ∧ Q (.int (g i j)) H)) (ha : PE X o ta) (hv : PE X value tv) : PS X (.AugAssign (.Attribute o f tpos) op value pos) (mFldAug X.K ta tv g f) := by
  refine ⟨fun pins s σ H D I h' => ?_⟩
  refine wpAny_AugAssign_AttributeAny (thn (ha.run pins s σ H _ I h') fun ov s1 ⟨x, H1, I1, rx, q⟩ => ?_)
  cases x with
  | ref p =>
    obtain rfl : ov = Value.ref p := rx
    simp only at q
    split at q
    · rename_i C dx fs ea
      split at q
      · rename_i i l
        refine getattr_ok I1 ea q.1.1 q.1.2 l fun u s2 I2 ru => thn (hv.run pins s2 σ H1 _ I2 q.2) fun w3 s3 ⟨y, H2, I3, ry, q3⟩ => ?_
        cases y with
        | int j =>
          simp only at q3
          split at q3
          · rename_i C' dx' fs' ea'
            obtain ⟨⟨rfl, l'⟩, q4⟩ := q3
            exact thn (h pins s3 σ H2 _ _ u w3 (fun z H3 => z = .int (g i j) ∧ H3 = H2) I3 ru ry ⟨i, j, rfl, rfl, rfl, rfl⟩) fun w4 s4 ⟨z, H3, I4, rz, e1, e2⟩ => by
              subst e1 e2
              exact setattr_ok I4 ea' q.1.1 q.1.2 l' rz fun s5 I5 => ⟨σ, _, I5, q4⟩
          · exact q3.elim
        | _ => exact q3.elim
      · exact q.elim
    · exact q.elim
  | _ => exact q.elim
theorem ps_maugF_add (ha : PE X o ta) (hv : PE X value tv) : PS X (.AugAssign (.Attribute o f tpos) .Add value pos) (mFldAug X.K ta tv (fun i j => i + j) f) := in_g in_add ha hv
theorem ps_maugF_sub (ha : PE X o ta) (hv : PE X value tv) : PS X (.AugAssign (.Attribute o f tpos) .Sub value pos) (mFldAug X.K ta tv (fun i j => i - j) f) := in_g in_sub ha hv
theorem ps_maug {i : Nat} {op : Operator} {g : Int → Int → Int} (hN : X.N.Nodup) (hi : X.N[i]? = some x) (hx : Loc X.env.scope x) (he : PE X value tv) (ho : PIp X op (ipI g)) (hf : X.fn x = true ∨ X.env.scope.names.lookup x = some .local := by first | exact .inl rfl | exact .inr rfl | assumption) :
    PS X (.AugAssign (.Name x pos') op value pos) (mAug i tv g) := by
  refine ⟨fun pins s σ H D I h => ?_⟩
  unfold mAug at h
  split at h
  · rename_i v e1
    obtain ⟨m, hn, hl⟩ := I.loc
    have vis : Vis X.env.scope x := by rcases hx with k | k; exact .inl k; exact .inr (.inl k)
    obtain ⟨u, r, l⟩ := hl i x (.int v) hi e1 vis
    refine wpAny_AugAssign_Name ?_
    have go : wpAny (model X.prog X.w) X.A (eval value X.env) (fun w s₂ => wpAny (model X.prog X.w) X.A (inplaceOp op u w) (fun r s₃ => wpAny (model X.prog X.w) X.A (storeName X.env x r) (fun _ => SP X pins D .next) X.xe s₃) X.xe s₂) X.xe s := by
      refine thn (he.run pins s σ H _ I h) fun w s1 ⟨y, H1, I1, r1, q1⟩ => ?_
      cases y with
      | int z =>
        refine thn (ho pins s1 σ H1 (.int v) (.int z) u w (fun y H2 => y = .int (g v z) ∧ H2 = H1) I1 r r1 ⟨_, _, rfl, rfl, rfl, rfl⟩) fun z' s2 ⟨zv, H2, I2, r2, e2, e3⟩ => ?_
        subst e2 e3
        exact store_ok I2 hN hi hx r2 (fun s3 I3 => ⟨_, H2, I3, q1⟩) hf
      | _ => exact q1.elim
    rcases l with ⟨hk, hm⟩ | ⟨hk, c, hc, hcell⟩
    · exact wpAny_loadName_local I.ok.kind hk hn hm go
    · rcases hk with hk | hk
      · exact wpAny_loadName_cell I.ok.kind hk hc hcell go
      · rcases hx with k | k
        · have : X.env.scope.names.lookup x = some .free := hk
          rw [k] at this; cases this
        · have : X.env.scope.names.lookup x = some .free := hk
          rw [k] at this; cases this
  · exact h.elim
theorem pe_mdget (hu : X.A.units + 1 < cLine) (ho : PE X o ta) (hi : PE X e tb) (hs : NoSl e) : PE X (.Subscript o e pos) (mDGet ta tb) := by
  refine ⟨fun pins s σ H Q I h => ?_⟩
  refine subD_of PySem.F.slot_dict_getitem.lookup hs (thn (ho.run pins s σ H _ I h) fun u s1 ⟨x, H1, I1, rx, q1⟩ => thn (hi.run pins s1 σ H1 _ I1 q1) fun iv s2 ⟨y, H2, I2, ry, q2⟩ => ?_)
  cases x with
  | ref p =>
    obtain rfl : u = Value.ref p := rx
    cases y with
    | str z =>
      simp only at q2
      split at q2
      · rename_i kvs ea
        split at q2
        · rename_i v l
          have g : DGet H2 p (.str z) (some v) := by rw [← l]; exact DGet.k (k := Sum.inr z) ea
          exact ⟨dict_typeIs I2 g, d_getItem hu I2 g ry fun w' s3 I3 rw' => ⟨v, H2, I3, rw', q2⟩⟩
        · exact q2.elim
      · exact q2.elim
    | _ => exact q2.elim
  | _ => exact q2.elim
theorem ps_mdput (hu : X.A.units + 1 < cLine) (ho : PE X o ta) (hi : PE X e tb) (hv : PE X value tv) (hs : swapsWith value (some (.Subscript o e pos')) pos.line X.env = pure false) :
    PS X (.Assign [.Subscript o e pos'] value pos) (mDPut ta tb tv) := by
  refine ⟨fun pins s σ H D I h => ?_⟩
  refine wpAny_Assign_Subscript (thn (hv.run pins s σ H _ I h) fun r s1 ⟨v, H1, I1, rv, q1⟩ => thn (ho.run pins s1 σ H1 _ I1 q1) fun u s2 ⟨x, H2, I2, rx, q2⟩ => thn (hi.run pins s2 σ H2 _ I2 q2) fun iv s3 ⟨y, H3, I3, ry, q3⟩ => ?_) hs
  cases x with
  | ref p =>
    obtain rfl : u = Value.ref p := rx
    cases y with
    | str z =>
      simp only at q3
      split at q3
      · rename_i kvs ea
        exact d_setItem hu I3 (DPut.k (k := Sum.inr z) ea q3.1) ry rv fun s4 I4 => ⟨σ, _, I4, q3.2⟩
      · exact q3.elim
    | _ => exact q3.elim
  | _ => exact q3.elim
theorem pe_mmt {C : Addr} {sp : Sp} {j k : Nat} {pl : Sem Bool} (c : Met X.prog X.w X.K X.mg X.base k C m sp []) (hr : Room j X.A) (hk : k ≤ j) (he : PE X o ta) (ha : PA X (e :: es) t)
    (hst : starEach (e :: es) X.env = (false, eval e X.env) :: starEach es X.env := by rfl) (hpl : (backTo pos (starEach es X.env)).any (·.1) = false := by rfl)
    (ht : eval (.Call (.Attribute o m apos) (e :: es) [] pos) X.env = (do
      let ov ← eval o X.env
      standAt apos.atName
      let (f, first) ← holding [ov] (getMethod ov m pl)
      callWith pos f first (backTo pos (starEach (e :: es) X.env)) (backToKw pos (keywordEach [] X.env))) := by rfl) :
    PE X (.Call (.Attribute o m apos) (e :: es) [] pos) (mMeth C m sp ta t) := by
  obtain ⟨g, fd, ps, ds, hc, hm, F, b, d⟩ := c.ex
  refine ⟨fun pins s σ H Q I h => ?_⟩
  refine PySem.W.methodCall_KW (pl := pl) (thn (he.run pins s σ H _ I h) fun u s1 ⟨x, H1, I1, rx, q⟩ => ?_) ht
  cases x with
  | ref p =>
    obtain rfl : u = Value.ref p := rx
    simp only at q
    split at q
    · rename_i C' dx fs ea
      obtain ⟨⟨rfl, l⟩, q⟩ := q
      refine getmeth_ok I1 ea hc hm l ?_
      refine PySem.W.callWith_K (first := [.ref p]) (h₀ := X.base) I.ok.mod.kin hm.kp (thn (ha.run pos pins s1 σ H1 _ I1 q) fun us s2 ⟨vs, H2, I2, r, q2⟩ => ⟨I2.kIn, ?_⟩) hst hpl
      refine run_fn (E := L2.E0) (us := .ref p :: us) (vs := .ref p :: vs) F (hr.mono hk) b d pass0 I2 (.cons rfl r) ?_
      rw [List.append_nil]
      exact q2
    · exact q.elim
  | _ => exact q.elim
theorem pe_mmt0 {C : Addr} {sp : Sp} {j k : Nat} {pl : Sem Bool} (c : Met X.prog X.w X.K X.mg X.base k C m sp []) (hr : Room j X.A) (hk : k ≤ j) (he : PE X o ta)
    (ht : eval (.Call (.Attribute o m apos) [] [] pos) X.env = (do
      let ov ← eval o X.env
      standAt apos.atName
      let (f, first) ← holding [ov] (getMethod ov m pl)
      callWith pos f first (backTo pos (starEach [] X.env)) (backToKw pos (keywordEach [] X.env))) := by rfl) :
    PE X (.Call (.Attribute o m apos) [] [] pos) (mMeth C m sp ta tNil) := by
  obtain ⟨g, fd, ps, ds, hc, hm, F, b, d⟩ := c.ex
  refine ⟨fun pins s σ H Q I h => ?_⟩
  refine PySem.W.methodCall_KW (pl := pl) (thn (he.run pins s σ H _ I h) fun u s1 ⟨x, H1, I1, rx, q⟩ => ?_) ht
  cases x with
  | ref p =>
    obtain rfl : u = Value.ref p := rx
    simp only at q
    split at q
    · rename_i C' dx fs ea
      obtain ⟨⟨rfl, l⟩, q⟩ := q
      refine getmeth_ok I1 ea hc hm l ?_
      refine PySem.W.callWith_K0 (first := [.ref p]) I1.kIn hm.kp (run_fn (E := L2.E0) (us := [.ref p]) (vs := [.ref p]) F (hr.mono hk) b d pass0 I1 (.cons rfl .nil) ?_)
      exact q
    · exact q.elim
  | _ => exact q.elim
theorem pe_mc {sp : Sp} {j k : Nat} (c : Cal X.prog X.w X.K X.mg X.base k x sp []) (hr : Room j X.A) (hk : k ≤ j) (hg : Gl X x) (ha : PA X (e :: es) t)
    (hdb : (x == ("__debug__" : Str)) = false := by decide) (he : starEach (e :: es) X.env = (false, eval e X.env) :: starEach es X.env := by rfl) (hpl : (backTo pos (starEach es X.env)).any (·.1) = false := by rfl) :
    PE X (.Call (.Name x pos') (e :: es) [] pos) (mCall sp t) := by
  obtain ⟨f, fd, ps, ds, F, hm, kp, b, d⟩ := c.ex
  refine ⟨fun pins s σ H Q I h => ?_⟩
  refine wpAny_Call_Name_kw (ld_glob I hg hm ?_ hdb)
  refine PySem.W.callWith_K (first := []) (h₀ := X.base) I.ok.mod.kin kp (thn (ha.run pos pins s σ H _ I h) fun us s2 ⟨vs, H2, I2, r, q2⟩ => ⟨I2.kIn, ?_⟩) he hpl
  refine run_fn (E := L2.E0) F (hr.mono hk) b d pass0 I2 r ?_
  rw [List.append_nil]
  exact q2
theorem pe_mc0 {sp : Sp} {j k : Nat} (c : Cal X.prog X.w X.K X.mg X.base k x sp []) (hr : Room j X.A) (hk : k ≤ j) (hg : Gl X x) (hdb : (x == ("__debug__" : Str)) = false := by decide) :
    PE X (.Call (.Name x pos') [] [] pos) (mCall sp tNil) := by
  obtain ⟨f, fd, ps, ds, F, hm, kp, b, d⟩ := c.ex
  exact pe_call0 F (hr.mono hk) hg hm kp b d pass0 hdb
theorem pe_mmk {C : Addr} {sp : Sp} {j k : Nat} (c : Mak X.prog X.w X.K X.mg X.base k x C sp []) (hr : Room j X.A) (hk : k + 1 ≤ j) (hg : Gl X x) (ha : PA X (e :: es) t)
    (hdb : (x == ("__debug__" : Str)) = false := by decide) (he : starEach (e :: es) X.env = (false, eval e X.env) :: starEach es X.env := by rfl) (hpl : (backTo pos (starEach es X.env)).any (·.1) = false := by rfl) :
    PE X (.Call (.Name x pos') (e :: es) [] pos) (mMake C sp t) := by
  obtain ⟨f, fd, ps, ds, M, F, hm, b, d⟩ := c.ex
  refine ⟨fun pins s σ H Q I h => ?_⟩
  refine wpAny_Call_Name_kw (ld_glob I hg hm ?_ hdb)
  refine PySem.W.callWith_K (first := []) (h₀ := X.base) I.ok.mod.kin M.kp (thn (ha.run pos pins s σ H _ I h) fun us s1 ⟨vs, H1, I1, r, q⟩ => ⟨I1.kIn, ?_⟩) he hpl
  refine run_make (E := L2.E0) M F (hr.mono hk) b d pass0 I1 r ?_
  rw [List.append_nil]
  exact q
theorem pe_mmk0 {C : Addr} {sp : Sp} {j k : Nat} (c : Mak X.prog X.w X.K X.mg X.base k x C sp []) (hr : Room j X.A) (hk : k + 1 ≤ j) (hg : Gl X x) (hdb : (x == ("__debug__" : Str)) = false := by decide) :
    PE X (.Call (.Name x pos') [] [] pos) (mMake C sp tNil) := by
  obtain ⟨f, fd, ps, ds, M, F, hm, b, d⟩ := c.ex
  exact pe_make0 M F (hr.mono hk) hg hm b d pass0 hdb
theorem pe_mlm {id : String} {name : Str} {r : V → List V → Hp → VK → Prop} (slot : Slot "list" name id) (hty : typeOf (.builtin id) = pure (.type "method_descriptor")) (hm : MtR X id r) (ho : PE X o ta) (ha : PA X (e :: es) t)
    (hbase : attributeBase o name X.env (eval o X.env) = eval o X.env := by rfl)
    (hfew : ((backTo cpos (starEach (e :: es) X.env)).all (fun x => !x.1) && (backToKw cpos (keywordEach [] X.env)).all (fun x => x.1.isSome)
      && decide ((e :: es).length + ([] : List Keyword).length + (if ([] : List Keyword).isEmpty then 0 else 1) < 30)) = true := by rfl)
    (hline : (apos.endLine == cpos.line) = true := by rfl) (hs : starEach (e :: es) X.env = (false, eval e X.env) :: starEach es X.env := by rfl) (hplain : (backTo cpos (starEach es X.env)).any (·.1) = false := by rfl) :
    PE X (.Call (.Attribute o name apos) (e :: es) [] cpos) (mLM r ta t) := by
  refine ⟨fun pins s σ H Q I h => ?_⟩
  refine wpAny_Call_method_late hbase hfew hline rfl (thn (ho.run pins s σ H _ I h) fun v s1 ⟨x, H1, I1, r1, q1⟩ => ?_)
  cases x with
  | ref p =>
    simp only at q1
    split at q1
    · rename_i xs ea
      obtain ⟨h1, h2⟩ := tyV_is (T := "list") I1 r1 (Or.inl ⟨rfl, _, SqL.of ea⟩)
      refine ⟨"list", id, PySem.F.plainAttrs_list, slot, hty, h1, h2, ?_⟩
      have hA := ha.run cpos pins s1 σ H1 _ I1 q1
      rw [hs] at hA ⊢
      refine Calls.callWith_builtin (by show (false || (backTo cpos (starEach es X.env)).any (·.1)) = false; rw [hplain] <;> rfl) (Calls.evalArgs_plain ?_)
      exact thn hA fun us s2 ⟨vs, H2, I2, r2, q2⟩ => hm pins s2 σ H2 (.ref p) vs v us Q I2 r1 r2 q2
    · exact q1.elim
  | _ => exact q1.elim
theorem pe_mlm0 {id : String} {name : Str} {r : V → List V → Hp → VK → Prop} (slot : Slot "list" name id) (hty : typeOf (.builtin id) = pure (.type "method_descriptor")) (hm : MtR X id r) (ho : PE X o ta)
    (hbase : attributeBase o name X.env (eval o X.env) = eval o X.env := by rfl) (hline : (apos.endLine == cpos.line) = true := by rfl) : PE X (.Call (.Attribute o name apos) [] [] cpos) (mLM r ta tNil) := by
  refine ⟨fun pins s σ H Q I h => ?_⟩
  refine wpAny_Call_method0_late hbase hline (thn (ho.run pins s σ H _ I h) fun v s1 ⟨x, H1, I1, r1, q1⟩ => ?_)
  cases x with
  | ref p =>
    simp only at q1
    split at q1
    · rename_i xs ea
      obtain ⟨h1, h2⟩ := tyV_is (T := "list") I1 r1 (Or.inl ⟨rfl, _, SqL.of ea⟩)
      exact ⟨"list", id, PySem.F.plainAttrs_list, slot, hty, h1, h2, Calls.callWith_builtin rfl (PySem.evalArgs_none (hm pins s1 σ H1 (.ref p) [] v [] Q I1 r1 .nil q1))⟩
    · exact q1.elim
  | _ => exact q1.elim
theorem set_m : PSet X mSet := by
  intro pins s σ H o i v ov iv u Q I ro ri rv h
  refine set_list pins s σ H o i v ov iv u Q I ro ri rv ?_
  unfold mSet at h
  split at h
  · split at h
    · rename_i e1
      split at h
      · rename_i e2
        exact ⟨_, _, _, _, rfl, rfl, e1, e2, h⟩
      · exact h.elim
    · exact h.elim
  · exact h.elim
theorem po_m (h : PE X e ta) : PO X (some e) (mPart ta) := by
  refine ⟨fun pins s σ H Q I hw => ?_⟩
  rw [evalPart_some]
  refine thn (h.run pins s σ H _ I hw) fun u s1 ⟨x, H1, I1, r1, q1⟩ => ?_
  cases x with
  | int i =>
    obtain ⟨t, rfl⟩ := r1
    exact ⟨some i, H1, I1, .int _ _, q1⟩
  | _ => exact q1.elim
end
section
variable {X : Cx} {a : Expr} {ta : TE} {pos : Pos}
theorem pe_mnot (ha : PE X a ta) : PE X (.UnaryOp .Not a pos) (mNotV ta) := by
  refine ⟨fun pins s σ H Q I h => ?_⟩
  refine UnaryOp_ (thn (ha.run pins s σ H _ I h) fun v s1 ⟨x, H1, I1, r1, q1⟩ => ?_)
  cases x with
  | bl c =>
    cases r1
    exact not_of (wpAny_truthy_bool ⟨.bl (!c), H1, I1, rfl, q1⟩)
  | _ => exact q1.elim
end
/-! ### defs by the head's facts -/
section
variable {P : Program} {w : World} {K : PySem.W.Frag} {mg : Str → Option Value} {base : Heap}
abbrev FnP (K : PySem.W.Frag) (x qual : Str) (st : Stmt) (f : Addr) (fd : FuncData) : Prop := FunD K x qual (defArgs st) (defBody st) (defScope st) [] [] f fd
abbrev Body (P : Program) (w : World) (K : PySem.W.Frag) (mg : Str → Option Value) (base : Heap) (k : Nat) (N : List Str) (qual : Str) (st : Stmt) (t : TS) : Prop :=
  ∀ (f : Addr) (cdv : Value) (A : Around) (outer : List Env) (s : Shared) (H : Hp) (E : XK), Room k (A.deeper (envOfC qual (defScope st) s.heap.objs.size f cdv)) →
    PSs (cxOf CX0 P w K mg base N qual (defScope st) f cdv A outer s H E).nox (defBody st) t
abbrev Pure (N : List Str) (sp : Sp) (t : TS) : Prop := ∀ (vs : List V) (H : Hp) (Q : VK) (E : XK), sp vs H Q E → t { nx := fun _ H' => Q .non H', rt := Q } (start N vs) H
abbrev Len (n : Nat) (sp : Sp) : Prop := ∀ vs H Q E, sp vs H Q E → vs.length = n
theorem fn_ok {x qual : Str} {st : Stmt} {f : Addr} {fd : FuncData} {N ps : List Str} {k : Nat} {sp : Sp} {t : TS} (F : FnP K x qual st f fd) (S : FnScope N ps (defScope st)) (len : Len ps.length sp)
    (b : Body P w K mg base k N qual st t) (p : Pure N sp t) : FnOk P w K mg base CX0 (k + 1) f fd ps sp :=
  F.ok S len fun cdv A outer s H vs Q E hr h => ⟨t, (b f cdv A outer s H E hr).nox, p vs H Q E h⟩
abbrev BindOk (x qual : Str) (st : Stmt) (ps : List Str) : Prop := ∀ (kV doc pm : Value) (an : Option Addr) (cdv ct : Value) (us : List Value), us.length = ps.length →
  bindArgs (PySem.W.fnOf x qual (defArgs st) (defBody st) (defScope st) .none kV doc pm an cdv ct) ⟨us, []⟩ = pure (ps.zip us)
theorem cal_ok {x : Str} {st : Stmt} {N ps : List Str} {k : Nat} {sp : Sp} {t : TS} (F : ∃ fd, FnP K x x st (He.ga K x) fd) (g : mg x = some (.ref (He.ga K x))) (S : FnScope N ps (defScope st)) (len : Len ps.length sp)
    (hb : BindOk x x st ps) (b : Body P w K mg base k N x st t) (p : Pure N sp t) : Cal P w K mg base (k + 1) x sp [] := by
  obtain ⟨fd, F⟩ := F
  exact ⟨_, fd, ps, [], fn_ok F S len b p, g, F.kp, F.bindsN hb, .nil⟩
theorem met_ok {x m qual : Str} {st : Stmt} {N ps : List Str} {k : Nat} {sp : Sp} {t : TS} (F : ∃ fd, FnP K m qual st (He.ma K (He.ga K x) m) fd) (c : Cls K (He.ga K x)) (me : Meth K (He.ga K x) m (He.ma K (He.ga K x) m))
    (S : FnScope N ps (defScope st)) (len : Len ps.length sp) (hb : BindOk m qual st ps) (b : Body P w K mg base k N qual st t) (p : Pure N sp t) : Met P w K mg base (k + 1) (He.ga K x) m sp [] := by
  obtain ⟨fd, F⟩ := F
  exact ⟨_, fd, ps, [], c, me, fn_ok F S len b p, F.bindsN hb, .nil⟩
theorem mak_ok {x qual : Str} {st : Stmt} {N ps : List Str} {k : Nat} {sp : Sp} {t : TS} (F : ∃ fd, FnP K "__init__" qual st (He.ma K (He.ga K x) "__init__") fd) (g : mg x = some (.ref (He.ga K x))) (M : Mk K (He.ga K x) (He.ma K (He.ga K x) "__init__"))
    (S : FnScope N ps (defScope st)) (len : Len ps.length sp) (hb : BindOk "__init__" qual st ps) (b : Body P w K mg base k N qual st t) (p : Pure N sp t) : Mak P w K mg base (k + 1) x (He.ga K x) sp [] := by
  obtain ⟨fd, F⟩ := F
  exact ⟨_, fd, ps, [], M, fn_ok F S len b p, g, F.bindsN hb, .nil⟩
end
end PB

set_option maxRecDepth 100000
set_option autoImplicit false
set_option maxHeartbeats 4000000
namespace PB
open PySem PySem.Spec PyProof.Rows L2
open C8 (tCut)
/-! ### what runs without a change of the heap -/
def pE (te : TE) (σ : L2.St) (H : Hp) (v : V) : Prop := ∀ Q : VK, Q v H → te σ H Q
def pT (tt : TT) (σ : L2.St) (H : Hp) (b : Bool) : Prop := ∀ Q : Bool → Hp → Prop, Q b H → tt σ H Q
def pA (ta : TA) (σ : L2.St) (H : Hp) (vs : List V) : Prop := ∀ Q : List V → Hp → Prop, Q vs H → ta σ H Q
def pR (r : R2) (x y : V) (H : Hp) (z : V) : Prop := ∀ Q : VK, Q z H → r x y H Q
def pC (r : R1) (xs : List V) (H : Hp) (z : V) : Prop := ∀ Q : VK, Q z H → r xs H Q
section
variable {K : PySem.W.Frag} {σ : L2.St} {H : Hp} {ta tb tc te : TE} {t u : TT} {x y z v : V} {r r' : R2} {i j : Int} {b c : Bool} {D : Ends} {s1 s2 : TS} {tl : TA} {vs : List V}
theorem p_var {i : Nat} (h : σ[i]? = some (some v)) : pE (mVar i) σ H v := fun Q q => by unfold mVar; rw [h]; exact q
theorem p_c : pE (tC v) σ H v := fun Q q => q
theorem p_op (ha : pE ta σ H x) (hb : pE tb σ H y) (hr : pR r x y H z) : pE (tOp r ta tb) σ H z := fun Q q => ha _ (hb _ (hr Q q))
theorem p_neg (ha : pE ta σ H (.int i)) : pE (tUn mNeg ta) σ H (.int (-i)) := fun Q q => ha _ q
theorem p_add : pR (mAdd K) (.int i) (.int j) H (.int (i + j)) := fun _ q => q
theorem p_sub : pR mSub (.int i) (.int j) H (.int (i - j)) := fun _ q => q
theorem p_mul (h : CMulW i j) : pR mMul (.int i) (.int j) H (.int (i * j)) := fun _ q => ⟨h, q⟩
theorem p_div (h : CDivW i j) : pR mDiv (.int i) (.int j) H (.int (i / j)) := fun _ q => ⟨h, q⟩
theorem p_mod (h : 0 < j) : pR mMod (.int i) (.int j) H (.int (i % j)) := fun _ q => ⟨h, q⟩
theorem p_lt : pR mLt (.int i) (.int j) H (.bl (decide (i < j))) := fun _ q => q
theorem p_le : pR mLe (.int i) (.int j) H (.bl (decide (i ≤ j))) := fun _ q => q
theorem p_gt : pR mGt (.int i) (.int j) H (.bl (decide (j < i))) := fun _ q => q
theorem p_ge : pR mGe (.int i) (.int j) H (.bl (decide (j ≤ i))) := fun _ q => q
theorem p_eqI : pR (mEq K) (.int i) (.int j) H (.bl (decide (i = j))) := fun _ q => q
theorem p_eqB : pR (mEq K) (.bl b) (.bl c) H (.bl (decide (b = c))) := fun _ q => q
theorem p_eqS {i j : Str} : pR (mEq K) (.str i) (.str j) H (.bl (decide (i = j))) := fun _ q => q
theorem p_eqD {a b : Addr} {d e : PyData} (hd : Dp K H (.ref a) d) (he : Dp K H (.ref b) e) (sd : SeqAt.shaped d = true) (se : SeqAt.shaped e = true) : pR (mEq K) (.ref a) (.ref b) H (.bl (PyData.eqv d e)) := fun _ q => ⟨d, e, hd, he, sd, se, q⟩
theorem p_neI : pR (mNe K) (.int i) (.int j) H (.bl (!decide (i = j))) := fun _ q => q
theorem p_neB : pR (mNe K) (.bl b) (.bl c) H (.bl (!decide (b = c))) := fun _ q => q
theorem p_neS {i j : Str} : pR (mNe K) (.str i) (.str j) H (.bl (!decide (i = j))) := fun _ q => q
theorem p_neD {a b : Addr} {d e : PyData} (hd : Dp K H (.ref a) d) (he : Dp K H (.ref b) e) (sd : SeqAt.shaped d = true) (se : SeqAt.shaped e = true) : pR (mNe K) (.ref a) (.ref b) H (.bl (!PyData.eqv d e)) := fun _ q => ⟨d, e, hd, he, sd, se, q⟩
theorem p_isN : pR mIsN x .non H (.bl (decide (x = .non))) := fun _ q => q
theorem p_notN : pR mNotN x .non H (.bl (!decide (x = .non))) := fun _ q => q
theorem p_ixL {p : Addr} {xs : List V} (h : SqL K H p xs) (e : atI xs i = some v) : pR (mIx K) (.ref p) (.int i) H v := fun _ q => ⟨xs, v, .inl h, e, q⟩
theorem p_ixT {p : Addr} {xs : List V} (h : SqT K H p xs) (e : atI xs i = some v) : pR (mIx K) (.ref p) (.int i) H v := fun _ q => ⟨xs, v, .inr h, e, q⟩
theorem p_ixH {p : Addr} {xs : List V} (h : H p = some (.lst xs)) (e : atI xs i = some v) : pR (mIx K) (.ref p) (.int i) H v := fun _ q => ⟨xs, v, .inl (SqL.of h), e, q⟩
theorem p_ixU {p : Addr} {xs : List V} (h : H p = some (.tup xs)) (e : atI xs i = some v) : pR (mIx K) (.ref p) (.int i) H v := fun _ q => ⟨xs, v, .inr (SqT.of h), e, q⟩
theorem p_chain {b c : Bool} (ha : pE ta σ H x) (hb : pE tb σ H y) (hr : pR r x y H (.bl b)) (hc : pE tc σ H z) (hr' : pR r' y z H (.bl c)) : pE (mChain r r' ta tb tc) σ H (.bl (b && c)) := fun Q q => by
  refine ha _ (hb _ (hr _ ?_))
  cases b with
  | true => exact hc _ (hr' _ q)
  | false => exact q
theorem p_andV (ha : pE ta σ H (.bl b)) (hb : b = true → pE tb σ H (.bl c)) : pE (mAndV ta tb) σ H (.bl (b && c)) := fun Q q => by
  refine ha _ ?_
  cases b with
  | true => exact hb rfl _ q
  | false => exact q
theorem p_orV (ha : pE ta σ H (.bl b)) (hb : b = false → pE tb σ H (.bl c)) : pE (mOrV ta tb) σ H (.bl (b || c)) := fun Q q => by
  refine ha _ ?_
  cases b with
  | true => exact q
  | false => exact hb rfl _ q
theorem p_fld {a C dx : Addr} {fs : List (Str × V)} {f : Str} (ha : pE ta σ H (.ref a)) (hH : H a = some (.ins C dx fs)) (hl : fs.lookup f = some v) (hc : Cls K C) (hn : NoAttr K C f) : pE (mFld K ta f) σ H v := fun Q q => by
  refine ha _ ?_
  show (match H a with | some (.ins C _ fs) => (match fs.lookup f with | some v => (Cls K C ∧ NoAttr K C f) ∧ Q v H | none => False) | _ => False)
  rw [hH]
  show (match fs.lookup f with | some v => (Cls K C ∧ NoAttr K C f) ∧ Q v H | none => False)
  rw [hl]
  exact ⟨⟨hc, hn⟩, q⟩
theorem p_dget {a : Addr} {kvs : List (Key × V)} {f : Str} (ha : pE ta σ H (.ref a)) (hb : pE tb σ H (.str f)) (hH : H a = some (.dK kvs)) (hl : valV kvs (.inr f) = some v) : pE (mDGet ta tb) σ H v := fun Q q => by
  refine ha _ (hb _ ?_)
  show (match H a with | some (.dK kvs) => (match valV kvs (.inr f) with | some v => Q v H | none => False) | _ => False)
  rw [hH]
  show (match valV kvs (.inr f) with | some v => Q v H | none => False)
  rw [hl]
  exact q
theorem p_if (hc : pT t σ H b) (h1 : b = true → pE ta σ H v) (h2 : b = false → pE tb σ H v) : pE (tIf t ta tb) σ H v := fun Q q => by
  refine hc _ ?_
  cases b with
  | true => exact h1 rfl Q q
  | false => exact h2 rfl Q q
theorem p_cb {r : R1} (ha : pA tl σ H vs) (hr : pC r vs H z) : pE (tCB r tl) σ H z := fun Q q => ha _ (hr Q q)
theorem p_nil : pA tNil σ H [] := fun Q q => q
theorem p_cons (ha : pE te σ H x) (hr : pA tl σ H vs) : pA (tCons te tl) σ H (x :: vs) := fun Q q => ha _ (hr _ q)
theorem p_abs : pC mAbs [.int i] H (.int (if i < 0 then -i else i)) := fun _ q => q
theorem p_max : pC mMax2 [.int i, .int j] H (.int (max i j)) := fun _ q => q
theorem p_min : pC mMin2 [.int i, .int j] H (.int (min i j)) := fun _ q => q
theorem p_intI : pC mInt [.int i] H (.int i) := fun _ q => q
theorem p_intB : pC mInt [.bl b] H (.int (if b then 1 else 0)) := fun _ q => q
theorem p_boolB : pC mBool [.bl b] H (.bl b) := fun _ q => q
theorem p_boolI : pC mBool [.int i] H (.bl (!decide (i = 0))) := fun _ q => q
theorem p_lenH {p : Addr} {xs : List V} (h : H p = some (.lst xs)) : pC (mLen K) [.ref p] H (.int (xs.length : Int)) := fun _ q => ⟨xs, .inl (SqL.of h), q⟩
theorem p_lenL {p : Addr} {xs : List V} (h : SqL K H p xs) : pC (mLen K) [.ref p] H (.int (xs.length : Int)) := fun _ q => ⟨xs, .inl h, q⟩
theorem p_lenT {p : Addr} {xs : List V} (h : SqT K H p xs) : pC (mLen K) [.ref p] H (.int (xs.length : Int)) := fun _ q => ⟨xs, .inr h, q⟩
theorem p_test (h : pE te σ H (.bl b)) : pT (mTest te) σ H b := fun Q q => h _ q
theorem p_truB (h : pE te σ H (.bl b)) : pT (mTru K te) σ H b := fun Q q => h _ q
theorem p_truI (h : pE te σ H (.int i)) : pT (mTru K te) σ H (!decide (i = 0)) := fun Q q => h _ q
theorem p_truN (h : pE te σ H .non) : pT (mTru K te) σ H false := fun Q q => h _ q
theorem p_and (ha : pT t σ H b) (hb : b = true → pT u σ H c) : pT (tAnd t u) σ H (b && c) := fun Q q => by
  refine ha _ ?_
  cases b with
  | true => exact hb rfl _ q
  | false => exact q
theorem p_or (ha : pT t σ H b) (hb : b = false → pT u σ H c) : pT (tOr t u) σ H (b || c) := fun Q q => by
  refine ha _ ?_
  cases b with
  | true => exact q
  | false => exact hb rfl _ q
theorem p_not (ha : pT t σ H b) : pT (tNot t) σ H (!b) := fun Q q => ha _ q
/-! ### a new object: the heap behind it is any that knows it and all that was known -/
def Ext (H H' : Hp) : Prop := ∀ a o, H a = some o → H' a = some o
theorem Ext.refl (H : Hp) : Ext H H := fun _ _ h => h
theorem Ext.trans {H H1 H2 : Hp} (a : Ext H H1) (b : Ext H1 H2) : Ext H H2 := fun x o h => b x o (a x o h)
theorem Ext.new {H : Hp} {p : Addr} {o : HO} (h : H p = none) : Ext H (upd H p o) := fun a u e => by rw [upd_ne (ne_of_none e h)]; exact e
def NewAt (H : Hp) (o : HO) (Q : VK) : Prop := ∀ p H', H p = none → H' p = some o → Ext H H' → Q (.ref p) H'
theorem NewAt.up {H : Hp} {o : HO} {Q : VK} (h : NewAt H o Q) : ∀ p, H p = none → Q (.ref p) (upd H p o) := fun p hp => h p _ hp upd_same (Ext.new hp)
theorem ext_get {H H' : Hp} {a : Addr} {o : HO} (e : Ext H H') (h : H a = some o) : H' a = some o := e a o h
theorem ext_l {K : PySem.W.Frag} {H H' : Hp} {a : Addr} {xs : List V} (e : Ext H H') (h : SqL K H a xs) : SqL K H' a xs := by
  rcases h with (h | ⟨o, h⟩) | h
  · exact .inl (.inl (e _ _ h))
  · exact .inl (.inr ⟨o, e _ _ h⟩)
  · exact .inr h
theorem ext_t {K : PySem.W.Frag} {H H' : Hp} {a : Addr} {xs : List V} (e : Ext H H') (h : SqT K H a xs) : SqT K H' a xs := by
  rcases h with (h | ⟨o, h⟩) | h
  · exact .inl (.inl (e _ _ h))
  · exact .inl (.inr ⟨o, e _ _ h⟩)
  · exact .inr h
/-! ### statements -/
theorem w_seq (h : s1 { D with nx := s2 D } σ H) : tSeq s1 s2 D σ H := h
theorem w_cut (h : s1 { D with nx := s2 D } σ H) : tCut s1 s2 D σ H := ⟨s2 D, h, fun _ _ h => h⟩
theorem w_mid (M : L2.St → Hp → Prop) (h : s1 { D with nx := M } σ H) (k : ∀ σ' H', M σ' H' → s2 D σ' H') : tCut s1 s2 D σ H := ⟨M, h, k⟩
theorem w_if (hc : pT t σ H b) (h1 : b = true → s1 D σ H) (h2 : b = false → s2 D σ H) : tIfS t s1 s2 D σ H := by
  refine hc _ ?_
  cases b with
  | true => exact h1 rfl
  | false => exact h2 rfl
theorem w_next (h : D.nx σ H) : tNext D σ H := h
theorem w_ret (h : pE te σ H v) (q : D.rt v H) : tRet te D σ H := h _ q
theorem w_retN (q : D.rt .non H) : tRetN D σ H := q
theorem w_asg {i : Nat} (h : pE te σ H v) (q : D.nx (σ.set i (some v)) H) : tAsg te (gName i) D σ H := h _ q
theorem w_asgC {i : Nat} {sp : Sp} (h : pA tl σ H vs) (q : sp vs H (fun v H' => D.nx (σ.set i (some v)) H') E0) : tAsg (mCall sp tl) (gName i) D σ H := h _ q
theorem w_retC {sp : Sp} (h : pA tl σ H vs) (q : sp vs H D.rt E0) : tRet (mCall sp tl) D σ H := h _ q
theorem w_dropC {sp : Sp} (h : pA tl σ H vs) (q : sp vs H (fun _ H' => D.nx σ H') E0) : tDrop (mCall sp tl) D σ H := h _ q
theorem w_ifC {sp : Sp} (h : pA tl σ H vs) (q : sp vs H (kTru K fun b H1 => if b = true then s1 D σ H1 else s2 D σ H1) E0) : tIfS (mTru K (mCall sp tl)) s1 s2 D σ H := h _ q
theorem p_truL {p : Addr} {xs : List V} (h : pE te σ H (.ref p)) (hx : H p = some (.lst xs)) : pT (mTru K te) σ H (!xs.isEmpty) := fun Q q => h _ ⟨_, .inl ⟨xs, SqL.of hx, rfl⟩, q⟩
theorem m_meth {C a dx : Addr} {fs : List (Str × V)} {m : Str} {sp : Sp} {Q : VK} (ha : pE ta σ H (.ref a)) (hH : H a = some (.ins C dx fs)) (hm : fs.lookup m = none) (h : pA tl σ H vs) (q : sp (.ref a :: vs) H Q E0) : mMeth C m sp ta tl σ H Q := by
  refine ha _ ?_
  show (match H a with | some (.ins D _ fs) => (D = C ∧ fs.lookup m = none) ∧ tl σ H fun vs H2 => sp (.ref a :: vs) H2 Q E0 | _ => False)
  rw [hH]
  exact ⟨⟨rfl, hm⟩, h _ q⟩
theorem w_sfld {C a dx : Addr} {fs : List (Str × V)} {f : Str} (hv : pE te σ H v) (ha : pE ta σ H (.ref a)) (hH : H a = some (.ins C dx fs)) (hc : Cls K C) (hn : NoAttr K C f) (hl : fs.length < 1000) (q : D.nx σ (upd H a (.ins C dx (putF f v fs)))) : mSFld K ta te f D σ H := by
  refine hv _ (ha _ ?_)
  show (match H a with | some (.ins C dx fs) => (Cls K C ∧ NoAttr K C f ∧ fs.length < 1000) ∧ D.nx σ (upd H a (.ins C dx (putF f v fs))) | _ => False)
  rw [hH]
  exact ⟨⟨hc, hn, hl⟩, q⟩
theorem w_fldaug {C a dx : Addr} {fs : List (Str × V)} {f : Str} {g : Int → Int → Int} (ha : pE ta σ H (.ref a)) (hH : H a = some (.ins C dx fs)) (hf : fs.lookup f = some (.int i)) (hv : pE te σ H (.int j)) (hc : Cls K C) (hn : NoAttr K C f) (hl : fs.length < 1000)
    (q : D.nx σ (upd H a (.ins C dx (putF f (.int (g i j)) fs)))) : mFldAug K ta te g f D σ H := by
  refine ha _ ?_
  simp only [hH, hf]
  refine ⟨⟨hc, hn⟩, hv _ ?_⟩
  simp only [hH]
  exact ⟨⟨trivial, hl⟩, q⟩
theorem w_aug {n : Nat} {g : Int → Int → Int} (h : σ[n]? = some (some (.int i))) (hv : pE te σ H (.int j)) (q : D.nx (σ.set n (some (.int (g i j)))) H) : mAug n te g D σ H := by
  unfold mAug
  simp only [h]
  exact hv _ q
theorem w_dput {a : Addr} {kvs : List (Key × V)} {f : Str} (hv : pE te σ H v) (ha : pE ta σ H (.ref a)) (hb : pE tb σ H (.str f)) (hH : H a = some (.dK kvs)) (hl : kvs.length < sizeLine) (q : D.nx σ (upd H a (.dK (putK kvs (.inr f) v)))) : mDPut ta tb te D σ H := by
  refine hv _ (ha _ (hb _ ?_))
  simp only [hH]
  exact ⟨hl, q⟩
theorem w_append {l : Addr} {xs : List V} (ha : pE ta σ H (.ref l)) (hH : H l = some (.lst xs)) (hv : pE te σ H v) (hl : xs.length < sizeLine) (q : D.nx σ (upd H l (.lst (xs ++ [v])))) : tDrop (mLM mAppend ta (tCons te tNil)) D σ H := by
  refine ha _ ?_
  simp only [hH]
  refine hv _ ?_
  show mAppend (.ref l) [v] H (fun _ H1 => D.nx σ H1)
  unfold mAppend
  simp only [hH]
  exact ⟨hl, q⟩
/-- a new tuple, a new list of values -/
theorem m_tup {Q : VK} (h : pA tl σ H vs) (hl : vs.length ≤ sizeLine) (q : NewAt H (.tup vs) Q) : tTup tl σ H Q := h _ ⟨hl, q.up⟩
theorem m_lst {Q : VK} (h : pA tl σ H vs) (hl : vs.length ≤ sizeLine) (q : NewAt H (.lst vs) Q) : tLst tl σ H Q := h _ ⟨hl, q.up⟩
theorem CMulW_of {i j : Int} (h : i.natAbs < 2 ^ 64) (h' : j.natAbs < 2 ^ 64) : CMulW i j := wide_mul h h' (by decide) (by decide) (by decide)
end
end PB

set_option maxRecDepth 100000
set_option autoImplicit false
set_option maxHeartbeats 4000000
namespace PB
open PySem PySem.Spec PyProof.Rows L2
open C8 (tCut Met Cal Mak)
/-! ### attributes and text keys by places: names and values as two lists -/
def setN : List V → Nat → V → List V
  | [], 0, v => [v]
  | [], _ + 1, _ => []
  | _ :: r, 0, v => v :: r
  | x :: r, i + 1, v => x :: setN r i v
theorem setN_length_le {vals : List V} {i : Nat} {v : V} : (setN vals i v).length ≤ vals.length + 1 := by
  induction vals generalizing i with
  | nil => cases i <;> simp [setN]
  | cons x r ih => cases i with
    | zero => simp [setN]
    | succ i => simp [setN]; exact ih
theorem lookup_z {f : Str} {v : V} : ∀ {names : List Str} {vals : List V} {i : Nat}, names.Nodup → names[i]? = some f → vals[i]? = some v → (names.zip vals).lookup f = some v
  | [], _, _, _, h, _ => by simp at h
  | _ :: _, [], _, _, _, h => by simp at h
  | n :: ns, x :: xs, 0, _, h, h' => by
    have e : n = f := by simpa using h
    have e' : x = v := by simpa using h'
    subst e e'
    simp [List.zip_cons_cons, List.lookup]
  | n :: ns, x :: xs, i + 1, nd, h, h' => by
    have h1 : ns[i]? = some f := by simpa using h
    have h2 : xs[i]? = some v := by simpa using h'
    have m : f ∈ ns := List.mem_of_getElem? h1
    have ne : ¬ f = n := fun e => (List.nodup_cons.mp nd).1 (e ▸ m)
    have hb : (f == n) = false := by simp [ne]
    rw [List.zip_cons_cons]
    simp only [List.lookup, hb]
    exact lookup_z (List.nodup_cons.mp nd).2 h1 h2
theorem lookup_none {m : Str} : ∀ {names : List Str} {vals : List V}, m ∉ names → (names.zip vals).lookup m = none
  | [], _, _ => by simp
  | _ :: _, [], _ => by simp
  | n :: ns, x :: xs, h => by
    have ne : ¬ m = n := fun e => h (e ▸ List.mem_cons_self ..)
    have hb : (m == n) = false := by simp [ne]
    rw [List.zip_cons_cons]
    simp only [List.lookup, hb]
    exact lookup_none fun q => h (List.mem_cons_of_mem _ q)
theorem put_z {f : Str} {v : V} : ∀ {names : List Str} {vals : List V} {i : Nat}, names.Nodup → names[i]? = some f → i ≤ vals.length → putF f v (names.zip vals) = names.zip (setN vals i v)
  | [], _, _, _, h, _ => by simp at h
  | n :: ns, [], 0, _, h, _ => by
    have e : n = f := by simpa using h
    subst e
    simp [putF, setN]
  | _ :: _, [], _ + 1, _, _, h => by simp at h
  | n :: ns, x :: xs, 0, _, h, _ => by
    have e : n = f := by simpa using h
    subst e
    simp [putF, setN, List.zip_cons_cons]
  | n :: ns, x :: xs, i + 1, nd, h, h' => by
    have h1 : ns[i]? = some f := by simpa using h
    have m : f ∈ ns := List.mem_of_getElem? h1
    have ne : ¬ n = f := fun e => (List.nodup_cons.mp nd).1 (e ▸ m)
    rw [List.zip_cons_cons]
    show (if n = f then _ else (n, x) :: putF f v (ns.zip xs)) = (n :: ns).zip (x :: setN xs i v)
    rw [if_neg ne, put_z (List.nodup_cons.mp nd).2 h1 (by simpa using h'), List.zip_cons_cons]
def dz (names : List Str) (vals : List V) : List (Key × V) := (names.zip vals).map fun p => (.inr p.1, p.2)
theorem dz_nil {names : List Str} : dz names [] = [] := by cases names <;> rfl
theorem dz_cons {n : Str} {ns : List Str} {x : V} {xs : List V} : dz (n :: ns) (x :: xs) = (.inr n, x) :: dz ns xs := rfl
theorem dz_len {names : List Str} {vals : List V} : (dz names vals).length ≤ names.length := by simp [dz]; omega
theorem valV_z {f : Str} {v : V} : ∀ {names : List Str} {vals : List V} {i : Nat}, names.Nodup → names[i]? = some f → vals[i]? = some v → valV (dz names vals) (.inr f) = some v
  | [], _, _, _, h, _ => by simp at h
  | _ :: _, [], _, _, _, h => by simp at h
  | n :: ns, x :: xs, 0, _, h, h' => by
    have e : n = f := by simpa using h
    have e' : x = v := by simpa using h'
    subst e e'
    rw [dz_cons]
    exact valV_pos rfl
  | n :: ns, x :: xs, i + 1, nd, h, h' => by
    have h1 : ns[i]? = some f := by simpa using h
    have h2 : xs[i]? = some v := by simpa using h'
    have m : f ∈ ns := List.mem_of_getElem? h1
    have ne : ¬ n = f := fun e => (List.nodup_cons.mp nd).1 (e ▸ m)
    rw [dz_cons, valV_neg (fun e => ne (Sum.inr.inj e))]
    exact valV_z (List.nodup_cons.mp nd).2 h1 h2
theorem putK_cons_ne {n f : Str} {x v : V} {r : List (Key × V)} (h : ¬ n = f) : putK ((.inr n, x) :: r) (.inr f : Key) v = (.inr n, x) :: putK r (.inr f) v := by
  have e : ¬ ((.inr n : Key) = .inr f) := fun e => h (Sum.inr.inj e)
  unfold putK
  simp only [List.any_cons, decide_eq_false e, Bool.false_or, List.map_cons, if_neg e]
  split
  · rfl
  · rfl
theorem putK_cons_eq {n : Str} {x v : V} {r : List (Key × V)} (h : ∀ p ∈ r, p.1 ≠ .inr n) : putK ((.inr n, x) :: r) (.inr n : Key) v = (.inr n, v) :: r := by
  unfold putK
  simp only [List.any_cons, decide_true, Bool.true_or, if_true, List.map_cons]
  congr 1
  refine (List.map_congr_left fun p hp => ?_).trans (List.map_id _)
  simp [if_neg (h p hp)]
theorem putK_z {f : Str} {v : V} : ∀ {names : List Str} {vals : List V} {i : Nat}, names.Nodup → names[i]? = some f → i ≤ vals.length → putK (dz names vals) (.inr f) v = dz names (setN vals i v)
  | [], _, _, _, h, _ => by simp at h
  | n :: ns, [], 0, _, h, _ => by
    have e : n = f := by simpa using h
    subst e
    rw [dz_nil]
    simp [putK, setN, dz]
  | _ :: _, [], _ + 1, _, _, h => by simp at h
  | n :: ns, x :: xs, 0, nd, h, _ => by
    have e : n = f := by simpa using h
    subst e
    rw [dz_cons]
    refine putK_cons_eq fun p hp q => ?_
    simp only [dz, List.mem_map] at hp
    obtain ⟨z, hz, rfl⟩ := hp
    have := (List.of_mem_zip hz).1
    have e2 : z.1 = n := Sum.inr.inj q
    exact (List.nodup_cons.mp nd).1 (e2 ▸ this)
  | n :: ns, x :: xs, i + 1, nd, h, h' => by
    have h1 : ns[i]? = some f := by simpa using h
    have m : f ∈ ns := List.mem_of_getElem? h1
    have ne : ¬ n = f := fun e => (List.nodup_cons.mp nd).1 (e ▸ m)
    rw [dz_cons, putK_cons_ne ne, putK_z (List.nodup_cons.mp nd).2 h1 (by simpa using h')]
    rfl
/-! ### readings -/
def oFld (C : Addr) (names : List Str) (i : Nat) (ta : TE) : TE := fun σ H Q => ta σ H fun x H1 => ∃ a dx vals v, x = .ref a ∧ H1 a = some (.ins C dx (names.zip vals)) ∧ vals[i]? = some v ∧ Q v H1
def oSet (C : Addr) (names : List Str) (i : Nat) (ta tv : TE) : TS := fun D σ H => tv σ H fun y H1 => ta σ H1 fun x H2 => ∃ a dx vals, x = .ref a ∧ H2 a = some (.ins C dx (names.zip vals)) ∧ i ≤ vals.length ∧
  D.nx σ (upd H2 a (.ins C dx (names.zip (setN vals i y))))
def oAug (C : Addr) (names : List Str) (i : Nat) (ta tv : TE) (g : Int → Int → Int) : TS := fun D σ H => ta σ H fun x H1 => ∃ a dx vals n, x = .ref a ∧ H1 a = some (.ins C dx (names.zip vals)) ∧ vals[i]? = some (.int n) ∧
  tv σ H1 fun y H2 => ∃ m dx' vals', y = .int m ∧ H2 a = some (.ins C dx' (names.zip vals')) ∧ i ≤ vals'.length ∧ D.nx σ (upd H2 a (.ins C dx' (names.zip (setN vals' i (.int (g n m))))))
def oMeth (C : Addr) (names : List Str) (sp : Sp) (ta : TE) (t : TA) : TE := fun σ H Q => ta σ H fun x H1 => ∃ a dx vals, x = .ref a ∧ H1 a = some (.ins C dx (names.zip vals)) ∧ t σ H1 fun vs H2 => sp (.ref a :: vs) H2 Q E0
def dGet (names : List Str) (i : Nat) (ta : TE) : TE := fun σ H Q => ta σ H fun x H1 => ∃ a vals v, x = .ref a ∧ H1 a = some (.dK (dz names vals)) ∧ vals[i]? = some v ∧ Q v H1
def dSet (names : List Str) (i : Nat) (ta tv : TE) : TS := fun D σ H => tv σ H fun y H1 => ta σ H1 fun x H2 => ∃ a vals, x = .ref a ∧ H2 a = some (.dK (dz names vals)) ∧ i ≤ vals.length ∧
  D.nx σ (upd H2 a (.dK (dz names (setN vals i y))))
section
variable {X : Cx} {e a b c o value : Expr} {es : List Expr} {ta tb tc tv : TE} {t : TA} {pos pos' pos2 apos cpos tpos : Pos} {x f m : Str} {C : Addr} {names : List Str} {i : Nat}
theorem pe_ofld (cl : Cls X.K C) (na : NoAttr X.K C f) (nd : names.Nodup) (hi : names[i]? = some f) (ha : PE X a ta) (hb : attributeBase a f X.env (eval a X.env) = eval a X.env) : PE X (.Attribute a f pos) (oFld C names i ta) := by
  refine ⟨fun pins s σ H Q I h => ?_⟩
  refine attr_of hb (thn (ha.run pins s σ H _ I h) fun u s1 ⟨x, H1, I1, rx, p, dx, vals, v, e, ea, hv, q⟩ => ?_)
  subst e
  obtain rfl : u = Value.ref p := rx
  exact getattr_ok I1 ea cl na (lookup_z nd hi hv) fun u' s2 I2 ru => ⟨v, H1, I2, ru, q⟩
theorem ps_oset (cl : Cls X.K C) (na : NoAttr X.K C f) (nd : names.Nodup) (hi : names[i]? = some f) (hl : names.length < 1000) (ha : PE X o ta) (hv : PE X value tv) (hs : swapsWith value (some (.Attribute o f pos')) pos.line X.env = pure false) :
    PS X (.Assign [.Attribute o f pos'] value pos) (oSet C names i ta tv) := by
  refine ⟨fun pins s σ H D I h => ?_⟩
  refine plainObj_wpAny_Assign_Attribute (thn (hv.run pins s σ H _ I h) fun u s1 ⟨y, H1, I1, ry, q⟩ => thn (ha.run pins s1 σ H1 _ I1 q) fun ov s2 ⟨x, H2, I2, rx, p, dx, vals, e, ea, hle, q2⟩ => ?_) hs
  subst e
  obtain rfl : ov = Value.ref p := rx
  refine setattr_ok I2 ea cl na (by simp; omega) ry fun s3 I3 => ⟨σ, _, I3, ?_⟩
  rw [put_z nd hi hle]
  exact q2
theorem ps_oaug {op : Operator} {g : Int → Int → Int} (h : InOp X op (fun x y H Q => ∃ i j, x = .int i ∧ y = .int j ∧ Q (.int (g i j)) H)) (cl : Cls X.K C) (na : NoAttr X.K C f) (nd : names.Nodup) (hi : names[i]? = some f) (hl : names.length < 1000)
    (ha : PE X o ta) (hv : PE X value tv) : PS X (.AugAssign (.Attribute o f tpos) op value pos) (oAug C names i ta tv g) := by
  refine ⟨fun pins s σ H D I h' => ?_⟩
  refine wpAny_AugAssign_AttributeAny (thn (ha.run pins s σ H _ I h') fun ov s1 ⟨x, H1, I1, rx, p, dx, vals, n, e, ea, hn, q⟩ => ?_)
  subst e
  obtain rfl : ov = Value.ref p := rx
  refine getattr_ok I1 ea cl na (lookup_z nd hi hn) fun u s2 I2 ru => thn (hv.run pins s2 σ H1 _ I2 q) fun w3 s3 ⟨y, H2, I3, ry, k, dx', vals', e2, ea', hle, q3⟩ => ?_
  subst e2
  refine thn (h pins s3 σ H2 _ _ u w3 (fun z H3 => z = .int (g n k) ∧ H3 = H2) I3 ru ry ⟨_, _, rfl, rfl, rfl, rfl⟩) fun w4 s4 ⟨z, H3, I4, rz, e1, e2⟩ => ?_
  subst e1 e2
  refine setattr_ok I4 ea' cl na (by simp; omega) rz fun s5 I5 => ⟨σ, _, I5, ?_⟩
  rw [put_z nd hi hle]
  exact q3
theorem nest {α : Prop} (h : α) : α := h
theorem pe_omt {sp : Sp} {j k : Nat} {pl : Sem Bool} (c : Met X.prog X.w X.K X.mg X.base k C m sp []) (hr : Room j X.A) (hk : k ≤ j) (hno : m ∉ names) (he : PE X o ta) (ha : PA X (e :: es) t)
    (hst : starEach (e :: es) X.env = (false, eval e X.env) :: starEach es X.env := by rfl) (hpl : (backTo pos (starEach es X.env)).any (·.1) = false := by rfl)
    (ht : eval (.Call (.Attribute o m apos) (e :: es) [] pos) X.env = (do
      let ov ← eval o X.env
      standAt apos.atName
      let (f, first) ← holding [ov] (getMethod ov m pl)
      callWith pos f first (backTo pos (starEach (e :: es) X.env)) (backToKw pos (keywordEach [] X.env))) := by rfl) :
    PE X (.Call (.Attribute o m apos) (e :: es) [] pos) (oMeth C names sp ta t) := by
  obtain ⟨g, fd, ps, ds, hc, hm, F, b, d⟩ := c.ex
  refine ⟨fun pins s σ H Q I h => ?_⟩
  refine PySem.W.methodCall_KW (pl := pl) (thn (he.run pins s σ H _ I h) fun u s1 ⟨x, H1, I1, rx, p, dx, vals, ex, ea, q⟩ => ?_) ht
  subst ex
  obtain rfl : u = Value.ref p := rx
  refine getmeth_ok I1 ea hc hm (lookup_none hno) ?_
  refine PySem.W.callWith_K (first := [.ref p]) (h₀ := X.base) I.ok.mod.kin hm.kp (thn (ha.run pos pins s1 σ H1 _ I1 q) fun us s2 ⟨vs, H2, I2, r, q2⟩ => ⟨I2.kIn, ?_⟩) hst hpl
  refine run_fn (E := L2.E0) (us := .ref p :: us) (vs := .ref p :: vs) F (hr.mono hk) b d pass0 I2 (.cons rfl r) ?_
  rw [List.append_nil]
  exact q2
theorem pe_omt0 {sp : Sp} {j k : Nat} {pl : Sem Bool} (c : Met X.prog X.w X.K X.mg X.base k C m sp []) (hr : Room j X.A) (hk : k ≤ j) (hno : m ∉ names) (he : PE X o ta)
    (ht : eval (.Call (.Attribute o m apos) [] [] pos) X.env = (do
      let ov ← eval o X.env
      standAt apos.atName
      let (f, first) ← holding [ov] (getMethod ov m pl)
      callWith pos f first (backTo pos (starEach [] X.env)) (backToKw pos (keywordEach [] X.env))) := by rfl) :
    PE X (.Call (.Attribute o m apos) [] [] pos) (oMeth C names sp ta tNil) := by
  obtain ⟨g, fd, ps, ds, hc, hm, F, b, d⟩ := c.ex
  refine ⟨fun pins s σ H Q I h => ?_⟩
  refine PySem.W.methodCall_KW (pl := pl) (thn (he.run pins s σ H _ I h) fun u s1 ⟨x, H1, I1, rx, p, dx, vals, ex, ea, q⟩ => ?_) ht
  subst ex
  obtain rfl : u = Value.ref p := rx
  refine getmeth_ok I1 ea hc hm (lookup_none hno) ?_
  refine PySem.W.callWith_K0 (first := [.ref p]) I1.kIn hm.kp (run_fn (E := L2.E0) (us := [.ref p]) (vs := [.ref p]) F (hr.mono hk) b d pass0 I1 (.cons rfl .nil) ?_)
  exact q
theorem pe_dgetz (hu : X.A.units + 1 < cLine) (nd : names.Nodup) (hi : names[i]? = some x) (ho : PE X o ta) (hs : NoSl (.Constant (.str x) 0 pos2)) : PE X (.Subscript o (.Constant (.str x) 0 pos2) pos) (dGet names i ta) := by
  refine ⟨fun pins s σ H Q I h => ?_⟩
  refine subD_of PySem.F.slot_dict_getitem.lookup hs (thn (ho.run pins s σ H _ I h) fun u s1 ⟨z, H1, I1, rx, p, vals, v, e, ea, hv, q⟩ => thn ((pe_str (X := X) (x := x)).run pins s1 σ H1 (fun y H2 => y = .str x ∧ H2 = H1) I1 ⟨rfl, rfl⟩) fun iv s2 ⟨y, H2, I2, ry, e2, e3⟩ => ?_)
  subst e e2 e3
  obtain rfl : u = Value.ref p := rx
  have g : DGet H2 p (.str x) (some v) := by rw [← valV_z nd hi hv]; exact DGet.k (k := Sum.inr x) ea
  exact ⟨dict_typeIs I2 g, d_getItem hu I2 g ry fun w' s3 I3 rw' => ⟨v, H2, I3, rw', q⟩⟩
theorem ps_dsetz (hu : X.A.units + 1 < cLine) (nd : names.Nodup) (hi : names[i]? = some x) (hl : names.length < sizeLine) (ho : PE X o ta) (hv : PE X value tv)
    (hs : swapsWith value (some (.Subscript o (.Constant (.str x) 0 pos2) pos')) pos.line X.env = pure false) : PS X (.Assign [.Subscript o (.Constant (.str x) 0 pos2) pos'] value pos) (dSet names i ta tv) := by
  refine ⟨fun pins s σ H D I h => ?_⟩
  refine wpAny_Assign_Subscript (thn (hv.run pins s σ H _ I h) fun r s1 ⟨v, H1, I1, rv, q1⟩ => thn (ho.run pins s1 σ H1 _ I1 q1) fun u s2 ⟨z, H2, I2, rx, p, vals, e, ea, hle, q⟩ =>
    thn ((pe_str (X := X) (x := x)).run pins s2 σ H2 (fun y H3 => y = .str x ∧ H3 = H2) I2 ⟨rfl, rfl⟩) fun iv s3 ⟨y, H3, I3, ry, e2, e3⟩ => ?_) hs
  subst e e2 e3
  obtain rfl : u = Value.ref p := rx
  refine d_setItem hu I3 (DPut.k (k := Sum.inr x) ea (Nat.lt_of_le_of_lt dz_len hl)) ry rv fun s4 I4 => ⟨σ, _, I4, ?_⟩
  rw [putK_z nd hi hle]
  exact q
end
/-! ### their use -/
section
variable {K : PySem.W.Frag} {σ : L2.St} {H : Hp} {ta tb tc te : TE} {x y z v : V} {D : Ends} {tl : TA} {vs : List V} {C p dx : Addr} {names : List Str} {vals : List V} {i : Nat}
theorem p_ofld (ha : pE ta σ H (.ref p)) (hH : H p = some (.ins C dx (names.zip vals))) (hv : vals[i]? = some v) : pE (oFld C names i ta) σ H v := fun Q q => ha _ ⟨p, dx, vals, v, rfl, hH, hv, q⟩
theorem w_oset (hv : pE te σ H v) (ha : pE ta σ H (.ref p)) (hH : H p = some (.ins C dx (names.zip vals))) (hi : i ≤ vals.length) (q : D.nx σ (upd H p (.ins C dx (names.zip (setN vals i v))))) : oSet C names i ta te D σ H :=
  hv _ (ha _ ⟨p, dx, vals, rfl, hH, hi, q⟩)
/-- the object was stored last -/
theorem w_oset2 {H0 : Hp} (hv : pE te σ (upd H0 p (.ins C dx (names.zip vals))) v) (ha : pE ta σ (upd H0 p (.ins C dx (names.zip vals))) (.ref p)) (hi : i ≤ vals.length) (q : D.nx σ (upd H0 p (.ins C dx (names.zip (setN vals i v))))) :
    oSet C names i ta te D σ (upd H0 p (.ins C dx (names.zip vals))) := hv _ (ha _ ⟨p, dx, vals, rfl, upd_same, hi, by rw [upd_upd]; exact q⟩)
theorem w_oaug {g : Int → Int → Int} {n m : Int} (ha : pE ta σ H (.ref p)) (hH : H p = some (.ins C dx (names.zip vals))) (hn : vals[i]? = some (.int n)) (hv : pE te σ H (.int m)) (q : D.nx σ (upd H p (.ins C dx (names.zip (setN vals i (.int (g n m))))))) : oAug C names i ta te g D σ H :=
  ha _ ⟨p, dx, vals, n, rfl, hH, hn, hv _ ⟨m, dx, vals, rfl, hH, Nat.le_of_lt (List.getElem?_eq_some_iff.mp hn).1, q⟩⟩
theorem w_oaug2 {H0 : Hp} {g : Int → Int → Int} {n m : Int} (ha : pE ta σ (upd H0 p (.ins C dx (names.zip vals))) (.ref p)) (hn : vals[i]? = some (.int n)) (hv : pE te σ (upd H0 p (.ins C dx (names.zip vals))) (.int m))
    (q : D.nx σ (upd H0 p (.ins C dx (names.zip (setN vals i (.int (g n m))))))) : oAug C names i ta te g D σ (upd H0 p (.ins C dx (names.zip vals))) :=
  ha _ ⟨p, dx, vals, n, rfl, upd_same, hn, hv _ ⟨m, dx, vals, rfl, upd_same, Nat.le_of_lt (List.getElem?_eq_some_iff.mp hn).1, by rw [upd_upd]; exact q⟩⟩
theorem m_ometh {sp : Sp} {Q : VK} (ha : pE ta σ H (.ref p)) (hH : H p = some (.ins C dx (names.zip vals))) (h : pA tl σ H vs) (q : sp (.ref p :: vs) H Q E0) : oMeth C names sp ta tl σ H Q := ha _ ⟨p, dx, vals, rfl, hH, h _ q⟩
theorem p_dgetz (ha : pE ta σ H (.ref p)) (hH : H p = some (.dK (dz names vals))) (hv : vals[i]? = some v) : pE (dGet names i ta) σ H v := fun Q q => ha _ ⟨p, vals, v, rfl, hH, hv, q⟩
theorem w_dset (hv : pE te σ H v) (ha : pE ta σ H (.ref p)) (hH : H p = some (.dK (dz names vals))) (hi : i ≤ vals.length) (q : D.nx σ (upd H p (.dK (dz names (setN vals i v))))) : dSet names i ta te D σ H :=
  hv _ (ha _ ⟨p, vals, rfl, hH, hi, q⟩)
theorem w_dset2 {H0 : Hp} (hv : pE te σ (upd H0 p (.dK (dz names vals))) v) (ha : pE ta σ (upd H0 p (.dK (dz names vals))) (.ref p)) (hi : i ≤ vals.length) (q : D.nx σ (upd H0 p (.dK (dz names (setN vals i v))))) :
    dSet names i ta te D σ (upd H0 p (.dK (dz names vals))) := hv _ (ha _ ⟨p, vals, rfl, upd_same, hi, by rw [upd_upd]; exact q⟩)
theorem w_retM {C' : Addr} {sp : Sp} (ha : pE ta σ H (.ref p)) (hH : H p = some (.ins C' dx (names.zip vals))) (h : pA tl σ H vs) (q : sp (.ref p :: vs) H D.rt E0) : tRet (oMeth C' names sp ta tl) D σ H := m_ometh ha hH h q
theorem w_asgM {C' : Addr} {sp : Sp} {n : Nat} (ha : pE ta σ H (.ref p)) (hH : H p = some (.ins C' dx (names.zip vals))) (h : pA tl σ H vs) (q : sp (.ref p :: vs) H (fun v H' => D.nx (σ.set n (some v)) H') E0) : tAsg (oMeth C' names sp ta tl) (gName n) D σ H := m_ometh ha hH h q
theorem w_dropM {C' : Addr} {sp : Sp} (ha : pE ta σ H (.ref p)) (hH : H p = some (.ins C' dx (names.zip vals))) (h : pA tl σ H vs) (q : sp (.ref p :: vs) H (fun _ H' => D.nx σ H') E0) : tDrop (oMeth C' names sp ta tl) D σ H := m_ometh ha hH h q
theorem w_retT (h : pA tl σ H vs) (hl : vs.length ≤ sizeLine) (q : NewAt H (.tup vs) D.rt) : tRet (tTup tl) D σ H := m_tup h hl q
theorem w_retL (h : pA tl σ H vs) (hl : vs.length ≤ sizeLine) (q : NewAt H (.lst vs) D.rt) : tRet (tLst tl) D σ H := m_lst h hl q
theorem w_asgL {n : Nat} (h : pA tl σ H vs) (hl : vs.length ≤ sizeLine) (q : NewAt H (.lst vs) fun v H1 => D.nx (σ.set n (some v)) H1) : tAsg (tLst tl) (gName n) D σ H := m_lst h hl q
theorem w_asgT {n : Nat} (h : pA tl σ H vs) (hl : vs.length ≤ sizeLine) (q : NewAt H (.tup vs) fun v H1 => D.nx (σ.set n (some v)) H1) : tAsg (tTup tl) (gName n) D σ H := m_tup h hl q
theorem get_ne {H : Hp} {a b : Addr} {o : HO} {r : Option HO} (h : b ≠ a) (q : H b = r) : upd H a o b = r := by rw [upd_ne h]; exact q
end
end PB
namespace PB
open PySem PySem.Spec PyProof.Rows L2
theorem sz_lt {n : Nat} (h : n < 10000000) : n < sizeLine := Nat.lt_of_lt_of_le h (by decide)
theorem szle {n : Nat} (h : Nat.ble n 1000 = true) : n ≤ sizeLine := Nat.le_trans (Nat.le_of_ble_eq_true h) (by decide)
def pSp (sp : Sp) (vs : List V) (H : Hp) (v : V) : Prop := ∀ Q : VK, Q v H → sp vs H Q E0
theorem p_call {sp : Sp} {tl : TA} {σ : L2.St} {H : Hp} {vs : List V} {v : V} (ha : pA tl σ H vs) (h : pSp sp vs H v) : pE (mCall sp tl) σ H v := fun Q q => ha _ (h Q q)
end PB

namespace PB
open PySem PySem.Spec PyProof.Rows L2
open C8 (tCut)
/-! ### what makes objects on its way: from the left, with what follows -/
section
variable {K : PySem.W.Frag} {σ : L2.St} {H : Hp} {ta tb tc te : TE} {t u : TT} {x y z v : V} {r r' : R2} {i j : Int} {b c : Bool} {D : Ends} {s1 s2 : TS} {tl : TA} {vs : List V} {Q : VK} {QA : List V → Hp → Prop} {QT : Bool → Hp → Prop} {C p dx : Addr} {names : List Str} {vals xs ys : List V}
theorem k_pure (h : pE te σ H v) (q : Q v H) : te σ H Q := h _ q
theorem k_pureA (h : pA tl σ H vs) (q : QA vs H) : tl σ H QA := h _ q
theorem k_pureT (h : pT t σ H b) (q : QT b H) : t σ H QT := h _ q
theorem k_op (h : ta σ H fun x H1 => tb σ H1 fun y H2 => r x y H2 Q) : tOp r ta tb σ H Q := h
theorem k_cb {r : R1} (h : tl σ H fun vs H1 => r vs H1 Q) : tCB r tl σ H Q := h
theorem k_nil (h : QA [] H) : tNil σ H QA := h
theorem k_consP (h : pE te σ H x) (q : tl σ H fun xs H2 => QA (x :: xs) H2) : tCons te tl σ H QA := h _ q
theorem k_cons (h : te σ H fun x H1 => tl σ H1 fun xs H2 => QA (x :: xs) H2) : tCons te tl σ H QA := h
theorem k_tupP (h : pA tl σ H vs) (hl : vs.length ≤ sizeLine) (q : NewAt H (.tup vs) Q) : tTup tl σ H Q := h _ ⟨hl, q.up⟩
def kNewT (Q : VK) : List V → Hp → Prop := fun vs H1 => vs.length ≤ sizeLine ∧ ∀ p, H1 p = none → Q (.ref p) (upd H1 p (.tup vs))
def kNewL (Q : VK) : List V → Hp → Prop := fun vs H1 => vs.length ≤ sizeLine ∧ ∀ p, H1 p = none → Q (.ref p) (upd H1 p (.lst vs))
theorem k_newT (hl : vs.length ≤ sizeLine) (q : NewAt H (.tup vs) Q) : kNewT Q vs H := ⟨hl, q.up⟩
theorem k_newL (hl : vs.length ≤ sizeLine) (q : NewAt H (.lst vs) Q) : kNewL Q vs H := ⟨hl, q.up⟩
theorem k_tup (h : tl σ H (kNewT Q)) : tTup tl σ H Q := h
theorem k_lstP (h : pA tl σ H vs) (hl : vs.length ≤ sizeLine) (q : NewAt H (.lst vs) Q) : tLst tl σ H Q := h _ ⟨hl, q.up⟩
theorem k_lst (h : tl σ H (kNewL Q)) : tLst tl σ H Q := h
theorem k_call {sp : Sp} (h : pA tl σ H vs) (q : sp vs H Q E0) : mCall sp tl σ H Q := h _ q
theorem k_callK {sp : Sp} (h : tl σ H fun vs H1 => sp vs H1 Q E0) : mCall sp tl σ H Q := h
theorem k_meth {sp : Sp} (ha : pE ta σ H (.ref p)) (hH : H p = some (.ins C dx (names.zip vals))) (h : pA tl σ H vs) (q : sp (.ref p :: vs) H Q E0) : oMeth C names sp ta tl σ H Q := m_ometh ha hH h q
theorem k_tupleOf (hx : H p = some (.lst xs)) (q : NewAt H (.tup xs) Q) : mTup K [.ref p] H Q := ⟨xs, .inl ⟨SqL.of hx, q.up⟩⟩
theorem k_listOf (hx : H p = some (.lst xs)) (q : NewAt H (.lst xs) Q) : mList K [.ref p] H Q := ⟨xs, .inl (SqL.of hx), q.up⟩
theorem k_listOfL (hx : SqL K H p xs) (q : NewAt H (.lst xs) Q) : mList K [.ref p] H Q := ⟨xs, .inl hx, q.up⟩
theorem k_cat {a b : Addr} (hx : H a = some (.lst xs)) (hy : H b = some (.lst ys)) (hl : xs.length + ys.length ≤ sizeLine) (q : NewAt H (.lst (xs ++ ys)) Q) : mAdd K (.ref a) (.ref b) H Q := .inl ⟨a, b, xs, ys, rfl, rfl, hx, hy, hl, q.up⟩
theorem k_slP {hi lo : TO} (h : pE te σ H v) (q : lo σ H fun l H2 => hi σ H2 fun u H3 => mSl K v l u H3 Q) : tSl (mSl K) te lo hi σ H Q := h _ q
theorem k_part {R : Option Int → Hp → Prop} (h : pE te σ H (.int i)) (q : R (some i) H) : mPart te σ H R := h _ q
theorem k_noPart {R : Option Int → Hp → Prop} (q : R none H) : tNoPart σ H R := q
theorem k_slL {a : Addr} {lo hi : Option Int} (hx : H a = some (.lst xs)) (q : NewAt H (.lst (cutV xs lo hi)) Q) : mSl K (.ref a) lo hi H Q := .inl ⟨a, xs, rfl, SqL.of hx, q.up⟩
theorem k_slLs {a : Addr} {lo hi : Option Int} (hx : SqL K H a xs) (q : NewAt H (.lst (cutV xs lo hi)) Q) : mSl K (.ref a) lo hi H Q := .inl ⟨a, xs, rfl, hx, q.up⟩
theorem w_asgK {n : Nat} (h : te σ H fun v H1 => D.nx (σ.set n (some v)) H1) : tAsg te (gName n) D σ H := h
theorem w_retK (h : te σ H D.rt) : tRet te D σ H := h
theorem w_dropK (h : te σ H fun _ H1 => D.nx σ H1) : tDrop te D σ H := h
theorem w_osetK {n : Nat} (h : te σ H fun v H1 => oSet C names n ta (tC v) D σ H1) : oSet C names n ta te D σ H := h
theorem w_dsetK {n : Nat} (h : te σ H fun v H1 => dSet names n ta (tC v) D σ H1) : dSet names n ta te D σ H := h
theorem w_appendT {l : Addr} (ha : pE ta σ H (.ref l)) (hH : H l = some (.lst xs)) (hv : pA tl σ H vs) (hs : vs.length ≤ sizeLine) (hl : xs.length < sizeLine) (q : NewAt H (.tup vs) fun v H1 => D.nx σ (upd H1 l (.lst (xs ++ [v])))) : tDrop (mLM mAppend ta (tCons (tTup tl) tNil)) D σ H := by
  refine ha _ ?_
  simp only [hH]
  refine hv _ ⟨hs, fun p hp => ?_⟩
  show mAppend (.ref l) [.ref p] (upd H p (.tup vs)) (fun _ H1 => D.nx σ H1)
  unfold mAppend
  simp only [upd_ne (ne_of_none hH hp), hH]
  exact ⟨hl, q.up p hp⟩
theorem k_testK {t : TE} (h : t σ H (kTest QT)) : mTest t σ H QT := h
theorem k_kTest (h : QT b H) : kTest QT (.bl b) H := h
theorem k_kTru (h : QT b H) : kTru K QT (.bl b) H := h
theorem k_kTruI (h : QT (!decide (i = 0)) H) : kTru K QT (.int i) H := h
theorem k_kTruN (h : QT false H) : kTru K QT .non H := h
def kIf (s1 s2 : TS) (D : Ends) (σ : L2.St) : Bool → Hp → Prop := fun b H1 => if b = true then s1 D σ H1 else s2 D σ H1
theorem w_ifK (h : t σ H (kIf s1 s2 D σ)) : tIfS t s1 s2 D σ H := h
theorem k_kIf (h1 : b = true → s1 D σ H) (h2 : b = false → s2 D σ H) : kIf s1 s2 D σ b H := by
  unfold kIf
  cases b with
  | true => exact h1 rfl
  | false => exact h2 rfl
theorem inV_ints {i : Int} : ∀ ns : List Int, inV (.int i) (ns.map V.int) = decide (i ∈ ns)
  | [] => by simp [inV]
  | n :: ns => by
    have ih := inV_ints (i := i) ns
    simp only [inV, List.map_cons, List.any_cons] at ih ⊢
    rw [ih]
    have e : eqV (.int n) (.int i) = decide (i = n) := by
      show (n == i) = decide (i = n)
      by_cases h : i = n
      · subst h; simp
      · have h' : ¬ n = i := fun z => h z.symm
        simp [h, h']
    rw [e]
    simp [List.mem_cons, Bool.decide_or]
theorem flat_ints : ∀ ns : List Int, (ns.map V.int).all flatV = true
  | [] => rfl
  | n :: ns => by simp [flatV]
def intsL : List V → List Int
  | [] => []
  | .int i :: r => i :: intsL r
  | _ :: r => 0 :: intsL r
theorem intsL_map : ∀ ns : List Int, intsL (ns.map V.int) = ns
  | [] => rfl
  | n :: ns => congrArg (n :: ·) (intsL_map ns)
theorem k_inU (hx : H p = some (.tup xs)) (e : (intsL xs).map V.int = xs) (q : Q (.bl (decide (i ∈ intsL xs))) H) : mIn K (.int i) (.ref p) H Q := .inl ⟨p, _, rfl, .inr (SqT.of hx), rfl, e ▸ flat_ints _, by rw [← e, inV_ints]; exact q⟩
theorem k_inL (hx : H p = some (.lst xs)) (e : (intsL xs).map V.int = xs) (q : Q (.bl (decide (i ∈ intsL xs))) H) : mIn K (.int i) (.ref p) H Q := .inl ⟨p, _, rfl, .inl (SqL.of hx), rfl, e ▸ flat_ints _, by rw [← e, inV_ints]; exact q⟩
theorem k_notInL (hx : H p = some (.lst xs)) (e : (intsL xs).map V.int = xs) (q : Q (.bl (!decide (i ∈ intsL xs))) H) : mNotIn K (.int i) (.ref p) H Q := .inl ⟨p, _, rfl, .inl (SqL.of hx), rfl, e ▸ flat_ints _, by rw [← e, inV_ints]; exact q⟩
theorem p_inL {ns : List Int} (hx : H p = some (.lst (ns.map V.int))) : pR (mIn K) (.int i) (.ref p) H (.bl (decide (i ∈ ns))) := fun _ q => k_inL hx (by rw [intsL_map]) (by rw [intsL_map]; exact q)
theorem p_notInL {ns : List Int} (hx : H p = some (.lst (ns.map V.int))) : pR (mNotIn K) (.int i) (.ref p) H (.bl (!decide (i ∈ ns))) := fun _ q => k_notInL hx (by rw [intsL_map]) (by rw [intsL_map]; exact q)
theorem k_truK {t : TE} (h : t σ H (kTru K QT)) : mTru K t σ H QT := h
end
end PB
namespace PB
open PySem PySem.Spec PyProof.Rows L2
theorem ne_fresh {H : Hp} {a b : Addr} {o : HO} (h' : H b = none) (h : H a = some o) : a ≠ b := ne_of_none h h'
end PB

set_option maxRecDepth 100000
set_option autoImplicit false
set_option maxHeartbeats 4000000
namespace PB
open PySem PySem.Spec PyProof.Rows L2
theorem sz_le {n : Nat} (h : n ≤ 10000000) : n ≤ sizeLine := Nat.le_trans h (by decide)
/-! ### slices by places that are not negative -/
theorem sIx_some {n d : Nat} {i : Int} (h : 0 ≤ i) : HT.sIx n d (some i) = min i.toNat n := by
  show (if i < 0 then (i + (n : Int)).toNat else min i.toNat n) = min i.toNat n
  rw [if_neg (by omega)]
theorem cut_all {xs : List V} : cutV xs none none = xs := by
  unfold cutV
  simp [HT.sIx_none]
theorem cut_to {xs : List V} {i : Int} (h : 0 ≤ i) : cutV xs none (some i) = xs.take i.toNat := by
  unfold cutV
  rw [HT.sIx_none, sIx_some h, List.drop_zero, Nat.sub_zero, List.take_eq_take_iff]
  omega
theorem cut_from {xs : List V} {i : Int} (h : 0 ≤ i) : cutV xs (some i) none = xs.drop i.toNat := by
  unfold cutV
  rw [HT.sIx_none, sIx_some h]
  by_cases c : i.toNat ≤ xs.length
  · rw [Nat.min_eq_left c, List.take_of_length_le (by rw [List.length_drop]; omega)]
  · have e : min i.toNat xs.length = xs.length := by omega
    rw [e, List.drop_length, List.drop_eq_nil_of_le (by omega)]
    simp
theorem cut_mid {xs : List V} {i j : Int} (h : 0 ≤ i) (h' : 0 ≤ j) : cutV xs (some i) (some j) = (xs.drop i.toNat).take (j.toNat - i.toNat) := by
  unfold cutV
  rw [sIx_some h, sIx_some h']
  by_cases c : i.toNat ≤ xs.length
  · rw [Nat.min_eq_left c, List.take_eq_take_iff, List.length_drop]
    omega
  · have e : min i.toNat xs.length = xs.length := by omega
    rw [e, List.drop_length, List.drop_eq_nil_of_le (by omega)]
    simp
/-! ### or, and with a part that makes objects -/
section
variable {K : PySem.W.Frag} {σ : L2.St} {H : Hp} {ta tb tc te tl : TE} {t u tt : TT} {b c : Bool} {QT : Bool → Hp → Prop} {Q : VK} {g : TG} {vs : List Nat} {D : Ends} {tb' : TS}
theorem k_orP (ha : pT t σ H b) (h1 : b = true → QT true H) (h2 : b = false → u σ H QT) : tOr t u σ H QT := by
  refine ha _ ?_
  cases b with
  | true => exact h1 rfl
  | false => exact h2 rfl
theorem k_andP (ha : pT t σ H b) (h1 : b = true → u σ H QT) (h2 : b = false → QT false H) : tAnd t u σ H QT := by
  refine ha _ ?_
  cases b with
  | true => exact h1 rfl
  | false => exact h2 rfl
theorem k_not (h : t σ H fun k H1 => QT (!k) H1) : tNot t σ H QT := h
/-! ### comprehensions over a list, whose test and element only look -/
def kLc (K : PySem.W.Frag) (g : TG) (tt : TT) (te : TE) (vs : List Nat) (σ : L2.St) (Q : VK) : VK := fun x H1 => ∃ a, x = .ref a ∧ (∃ xs, SqL K H1 a xs) ∧ ∀ D, H1 D = none → ∃ W : Nat → Nat → Hp → Prop, (∃ m, W 0 m (upd H1 D (.lst []))) ∧ ∀ i m H, W i m H →
  ((Itl K a).stop i H ∧ Q (.ref D) H) ∨ ((Itl K a).go i H ∧ ∃ Nx : Hp → Prop, (∀ H', Nx H' → ∃ m', m' < m ∧ W (i + 1) m' H') ∧ ∀ x H', (Itl K a).yld i H x H' → g x (wipe σ vs) H' fun σ2 H2 => wipe σ2 vs = wipe σ vs ∧ tt σ2 H2 fun b H3 =>
    if b = true then te σ2 H3 fun y H4 => ∃ acc, H4 D = some (.lst acc) ∧ acc.length < sizeLine ∧ Nx (upd H4 D (.lst (acc ++ [y]))) else Nx H3)
theorem k_lc (h : tl σ H (kLc K g tt te vs σ Q)) : tLc (iList K tl) g tt te vs σ H Q := h
/-- test b x, element f x: of the item alone -/
theorem k_lcP {a : Addr} {xs : List V} {i : Nat} (p : V → Bool) (f : V → V) (hx : SqL K H a xs) (hl : xs.length ≤ sizeLine) (hw : ∀ x, wipe ((wipe σ vs).set i (some x)) vs = wipe σ vs)
    (ht : ∀ x ∈ xs, ∀ D acc, H D = none → pT tt ((wipe σ vs).set i (some x)) (upd H D (.lst acc)) (p x))
    (he : ∀ x ∈ xs, p x = true → ∀ D acc, H D = none → pE te ((wipe σ vs).set i (some x)) (upd H D (.lst acc)) (f x))
    (q : NewAt H (.lst ((xs.filter p).map f)) Q) : kLc K (gName i) tt te vs σ Q (.ref a) H := by
  refine ⟨a, rfl, ⟨xs, hx⟩, fun D hD => ?_⟩
  have keep : ∀ acc, SqL K (upd H D (.lst acc)) a xs := fun acc => by
    rcases hx with (h | ⟨o, h⟩) | h
    · exact .inl (.inl (by rw [upd_ne (ne_of_none h hD)]; exact h))
    · exact .inl (.inr ⟨o, by rw [upd_ne (ne_of_none h hD)]; exact h⟩)
    · exact .inr h
  refine lc_list (K := K) (a := a) (xs := xs) (fun n H' => H' = upd H D (.lst (((xs.take n).filter p).map f))) (by simp) (fun n H' _ e => by rw [e]; exact keep _) ?_ ?_
  · intro n x H' hn e
    subst e
    have hm : x ∈ xs := List.mem_of_getElem? hn
    have ht' : xs.take (n + 1) = xs.take n ++ [x] := by rw [List.take_add_one, hn]; rfl
    refine ⟨hw x, ht x hm D _ hD _ ?_⟩
    cases hp : p x with
    | false =>
      rw [if_neg (by simp), ht', List.filter_append]
      simp [hp]
    | true =>
      rw [if_pos rfl]
      refine he x hm hp D _ hD _ ⟨_, upd_same, ?_, ?_⟩
      · rw [List.length_map]
        have h1 : ((xs.take n).filter p).length ≤ (xs.take n).length := List.length_filter_le ..
        have h2 : n < xs.length := (List.getElem?_eq_some_iff.mp hn).1
        rw [List.length_take] at h1
        omega
      · rw [upd_upd, ht', List.filter_append, List.map_append]
        simp [hp]
  · intro H' e
    subst e
    rw [List.take_length]
    exact q.up D hD
/-- over a text -/
theorem k_lcS {x : Str} {i : Nat} (hx : pE tl σ H (.str x)) (f : Nat → V) (hl : x.cps.toList.length ≤ sizeLine) (hw : ∀ v, wipe ((wipe σ vs).set i (some v)) vs = wipe σ vs)
    (he : ∀ c ∈ x.cps.toList, ∀ D acc, H D = none → pE te ((wipe σ vs).set i (some (.str ⟨#[c]⟩))) (upd H D (.lst acc)) (f c))
    (q : NewAt H (.lst (x.cps.toList.map f)) Q) : tLc (iStr tl) (gName i) tYes te vs σ H Q := by
  refine hx _ ⟨x, rfl, fun D hD => ?_⟩
  refine ⟨fun n m H' => m = x.cps.toList.length - n ∧ n ≤ x.cps.toList.length ∧ H' = upd H D (.lst ((x.cps.toList.take n).map f)), ⟨_, rfl, Nat.zero_le _, rfl⟩, ?_⟩
  rintro n m H' ⟨rfl, hn, rfl⟩
  by_cases hlt : n < x.cps.toList.length
  · refine .inr ⟨by rw [Array.length_toList] at hlt; exact hlt, fun H2 => H2 = upd H D (.lst ((x.cps.toList.take (n + 1)).map f)), fun H2 e => ⟨_, ?_, rfl, hlt, e⟩, ?_⟩
    · omega
    · rintro v H2 ⟨rfl, c, hc, rfl⟩
      rw [← Array.getElem?_toList] at hc
      refine ⟨hw _, (show pT tYes _ _ true from fun _ q => q) _ ?_⟩
      rw [if_pos rfl]
      refine he c (List.mem_of_getElem? hc) D _ hD _ ⟨_, upd_same, ?_, ?_⟩
      · rw [List.length_map, List.length_take]; omega
      · rw [upd_upd, List.take_add_one, hc, List.map_append]; rfl
  · refine .inl ⟨by rw [Array.length_toList] at hlt; exact Nat.le_of_not_lt hlt, ?_⟩
    rw [List.take_of_length_le (by omega)]
    exact q.up D hD
/-- over a range -/
def kLcR (g : TG) (tt : TT) (te : TE) (vs : List Nat) (σ : L2.St) (Q : VK) (lo : Int) (n : Nat) (H1 : Hp) : Prop := ∀ D, H1 D = none → ∃ W : Nat → Nat → Hp → Prop, (∃ m, W 0 m (upd H1 D (.lst []))) ∧ ∀ i m H, W i m H →
  ((Itr lo n).stop i H ∧ Q (.ref D) H) ∨ ((Itr lo n).go i H ∧ ∃ Nx : Hp → Prop, (∀ H', Nx H' → ∃ m', m' < m ∧ W (i + 1) m' H') ∧ ∀ x H', (Itr lo n).yld i H x H' → g x (wipe σ vs) H' fun σ2 H2 => wipe σ2 vs = wipe σ vs ∧ tt σ2 H2 fun b H3 =>
    if b = true then te σ2 H3 fun y H4 => ∃ acc, H4 D = some (.lst acc) ∧ acc.length < sizeLine ∧ Nx (upd H4 D (.lst (acc ++ [y]))) else Nx H3)
theorem k_lcR1 {tl : TA} {j : Int} (h : pA tl σ H [.int j]) (b0 : -(2 ^ 62) ≤ j) (b1 : j < 2 ^ 62) (q : kLcR g tt te vs σ Q 0 j.toNat H) : tLc (iRng1 tl) g tt te vs σ H Q := h _ ⟨j, rfl, b0, b1, q⟩
theorem k_lcR2 {tl : TA} {i j : Int} (h : pA tl σ H [.int i, .int j]) (b0 : -(2 ^ 62) ≤ i ∧ i < 2 ^ 62 ∧ -(2 ^ 62) ≤ j ∧ j < 2 ^ 62) (q : kLcR g tt te vs σ Q i (j - i).toNat H) : tLc (iRng2 tl) g tt te vs σ H Q := h _ ⟨i, j, rfl, b0, q⟩
theorem k_lcRP {lo : Int} {n i : Nat} (p : Int → Bool) (f : Int → V) (hl : n ≤ sizeLine) (hw : ∀ x, wipe ((wipe σ vs).set i (some x)) vs = wipe σ vs)
    (ht : ∀ k : Nat, k < n → ∀ D acc, H D = none → pT tt ((wipe σ vs).set i (some (.int (lo + k)))) (upd H D (.lst acc)) (p (lo + k)))
    (he : ∀ k : Nat, k < n → p (lo + k) = true → ∀ D acc, H D = none → pE te ((wipe σ vs).set i (some (.int (lo + k)))) (upd H D (.lst acc)) (f (lo + k)))
    (q : NewAt H (.lst ((((List.range n).map fun k : Nat => lo + (k : Int)).filter p).map f)) Q) : kLcR (gName i) tt te vs σ Q lo n H := by
  intro D hD
  refine lc_range (lo := lo) (n := n) (fun m H' => H' = upd H D (.lst ((((List.range m).map fun k : Nat => lo + (k : Int)).filter p).map f))) (by simp) ?_ ?_
  · intro k H' hk e
    subst e
    refine ⟨hw _, ht k hk D _ hD _ ?_⟩
    cases hp : p (lo + k) with
    | false =>
      rw [if_neg (by simp), List.range_succ, List.map_append, List.filter_append]
      simp [hp]
    | true =>
      rw [if_pos rfl]
      refine he k hk hp D _ hD _ ⟨_, upd_same, ?_, ?_⟩
      · rw [List.length_map]
        have h1 : (((List.range k).map fun k : Nat => lo + (k : Int)).filter p).length ≤ ((List.range k).map fun k : Nat => lo + (k : Int)).length := List.length_filter_le ..
        rw [List.length_map, List.length_range] at h1
        omega
      · rw [upd_upd, List.range_succ, List.map_append, List.filter_append, List.map_append]
        simp [hp]
  · intro H' e
    subst e
    exact q.up D hD
theorem p_yes : pT tYes σ H true := fun _ q => q
/-! ### loops -/
theorem w_forL {a : Addr} {xs : List V} (ha : pE tl σ H (.ref a)) (hx : SqL K H a xs) (Pv : Nat → L2.St → Hp → Prop) (h0 : Pv 0 σ H) (hl : ∀ i σ H, i ≤ xs.length → Pv i σ H → SqL K H a xs)
    (hs : ∀ i x σ H, xs[i]? = some x → Pv i σ H → g x σ H fun σ2 H2 => tb' { D with nx := Pv (i + 1), ct := Pv (i + 1), bk := D.nx } σ2 H2) (hd : ∀ σ H, Pv xs.length σ H → D.nx σ H) : tFor (iList K tl) g tb' D σ H :=
  ha _ ⟨a, rfl, ⟨xs, hx⟩, for_list Pv h0 hl hs hd⟩
theorem w_forT {a : Addr} {xs : List V} (ha : pE tl σ H (.ref a)) (hx : SqT K H a xs) (Pv : Nat → L2.St → Hp → Prop) (h0 : Pv 0 σ H) (hl : ∀ i σ H, i ≤ xs.length → Pv i σ H → SqT K H a xs)
    (hs : ∀ i x σ H, xs[i]? = some x → Pv i σ H → g x σ H fun σ2 H2 => tb' { D with nx := Pv (i + 1), ct := Pv (i + 1), bk := D.nx } σ2 H2) (hd : ∀ σ H, Pv xs.length σ H → D.nx σ H) : tFor (iTup K tl) g tb' D σ H :=
  ha _ ⟨a, rfl, ⟨xs, hx⟩, for_tup Pv h0 hl hs hd⟩
theorem w_forR1 {tl : TA} {j : Int} (h : pA tl σ H [.int j]) (b0 : -(2 ^ 62) ≤ j) (b1 : j < 2 ^ 62) (Pv : Nat → L2.St → Hp → Prop) (h0 : Pv 0 σ H)
    (hs : ∀ i σ H, i < j.toNat → Pv i σ H → g (.int (0 + i)) σ H fun σ2 H2 => tb' { D with nx := Pv (i + 1), ct := Pv (i + 1), bk := D.nx } σ2 H2) (hd : ∀ σ H, Pv j.toNat σ H → D.nx σ H) : tFor (iRng1 tl) g tb' D σ H :=
  h _ ⟨j, rfl, b0, b1, for_range Pv h0 hs hd⟩
theorem w_forR2 {tl : TA} {i j : Int} (h : pA tl σ H [.int i, .int j]) (b : -(2 ^ 62) ≤ i ∧ i < 2 ^ 62 ∧ -(2 ^ 62) ≤ j ∧ j < 2 ^ 62) (Pv : Nat → L2.St → Hp → Prop) (h0 : Pv 0 σ H)
    (hs : ∀ k σ H, k < (j - i).toNat → Pv k σ H → g (.int (i + k)) σ H fun σ2 H2 => tb' { D with nx := Pv (k + 1), ct := Pv (k + 1), bk := D.nx } σ2 H2) (hd : ∀ σ H, Pv (j - i).toNat σ H → D.nx σ H) : tFor (iRng2 tl) g tb' D σ H :=
  h _ ⟨i, j, rfl, b, for_range Pv h0 hs hd⟩
theorem g_name {i : Nat} {v : V} {R : L2.St → Hp → Prop} (h : R (σ.set i (some v)) H) : gName i v σ H R := h
theorem g_pair {i j : Nat} {a : Addr} {x y : V} {R : L2.St → Hp → Prop} (hx : SqT K H a [x, y]) (h : R ((σ.set i (some x)).set j (some y)) H) : gTup K 2 (gCons (gName i) (gCons (gName j) gNil)) (.ref a) σ H R :=
  ⟨a, [x, y], rfl, hx, rfl, x, [y], rfl, y, [], rfl, rfl, h⟩
/-! ### more of what follows -/
def kOr (u : TT) (σ : L2.St) (QT : Bool → Hp → Prop) : Bool → Hp → Prop := fun b H1 => if b = true then QT true H1 else u σ H1 QT
def kAnd (u : TT) (σ : L2.St) (QT : Bool → Hp → Prop) : Bool → Hp → Prop := fun b H1 => if b = true then u σ H1 QT else QT false H1
def kNot (QT : Bool → Hp → Prop) : Bool → Hp → Prop := fun b H1 => QT (!b) H1
theorem k_or (h : t σ H (kOr u σ QT)) : tOr t u σ H QT := h
theorem k_and (h : t σ H (kAnd u σ QT)) : tAnd t u σ H QT := h
theorem k_notK (h : t σ H (kNot QT)) : tNot t σ H QT := h
theorem k_kOr (h1 : b = true → QT true H) (h2 : b = false → u σ H QT) : kOr u σ QT b H := by
  unfold kOr
  cases b with
  | true => exact h1 rfl
  | false => exact h2 rfl
theorem k_kAnd (h1 : b = true → u σ H QT) (h2 : b = false → QT false H) : kAnd u σ QT b H := by
  unfold kAnd
  cases b with
  | true => exact h1 rfl
  | false => exact h2 rfl
theorem k_kNot (h : QT (!b) H) : kNot QT b H := h
def kM (C : Addr) (names : List Str) (sp : Sp) (tl : TA) (σ : L2.St) (Q : VK) : VK := fun x H1 => ∃ a dx vals, x = .ref a ∧ H1 a = some (.ins C dx (names.zip vals)) ∧ tl σ H1 fun vs H2 => sp (.ref a :: vs) H2 Q E0
theorem k_methK {C : Addr} {names : List Str} {sp : Sp} {tl : TA} (h : ta σ H (kM C names sp tl σ Q)) : oMeth C names sp ta tl σ H Q := h
theorem k_kM {C p dx : Addr} {names : List Str} {vals : List V} {sp : Sp} {tl : TA} {us : List V} (hH : H p = some (.ins C dx (names.zip vals))) (h : pA tl σ H us) (q : sp (.ref p :: us) H Q E0) : kM C names sp tl σ Q (.ref p) H := ⟨p, dx, vals, rfl, hH, h _ q⟩
theorem k_make {C : Addr} {sp : Sp} {tl : TA} {us : List V} (h : pA tl σ H us) (q : ∀ x dx H', H x = none → H' x = some (.ins C dx []) → Ext H H' → sp (.ref x :: us) H' (fun v H2 => v = .non ∧ Q (.ref x) H2) E0) : mMake C sp tl σ H Q :=
  h _ fun x dx nx nd ne => q x dx _ nx upd_same fun a o e => by rw [upd_ne (ne_of_none e nx), upd_ne (ne_of_none e nd)]; exact e
theorem k_eqD {a a' : Addr} {d e : PyData} (hd : Dp K H (.ref a) d) (he : Dp K H (.ref a') e) (sd : SeqAt.shaped d = true) (se : SeqAt.shaped e = true) (q : Q (.bl (PyData.eqv d e)) H) : mEq K (.ref a) (.ref a') H Q := ⟨d, e, hd, he, sd, se, q⟩
theorem k_neD {a a' : Addr} {d e : PyData} (hd : Dp K H (.ref a) d) (he : Dp K H (.ref a') e) (sd : SeqAt.shaped d = true) (se : SeqAt.shaped e = true) (q : Q (.bl (!PyData.eqv d e)) H) : mNe K (.ref a) (.ref a') H Q := ⟨d, e, hd, he, sd, se, q⟩
theorem k_all {a : Addr} {bs : List Bool} (hx : H a = some (.lst (bs.map V.bl))) (q : Q (.bl (bs.all id)) H) : rAll K [.ref a] H Q := ⟨a, bs, rfl, SqL.of hx, q⟩
theorem k_any {a : Addr} {bs : List Bool} (hx : H a = some (.lst (bs.map V.bl))) (q : Q (.bl (bs.any id)) H) : rAny K [.ref a] H Q := ⟨a, bs, rfl, SqL.of hx, q⟩
theorem kit_is (K : PySem.W.Frag) {m n : String} {b : Bool} (h : ∀ K, PySem.W.kitOne K (.type m) (.type n) = some b) : PySem.W.kitOne K (.type m) (.type n) = some b := h K
theorem p_isInt {i : Int} : pC (rIsi K) [.int i, .ty "int"] H (.bl true) := fun _ q => ⟨_, _, _, _, true, rfl, .ty _, .base (.int i), kit_ty (by decide +kernel), q⟩
theorem p_isIntB {i : Int} : pC (rIsi K) [.int i, .ty "bool"] H (.bl false) := fun _ q => ⟨_, _, _, _, false, rfl, .ty _, .base (.int i), kit_ty (by decide +kernel), q⟩
theorem p_isLst {a : Addr} {xs : List V} (h : H a = some (.lst xs)) : pC (rIsi K) [.ref a, .ty "list"] H (.bl true) := fun _ q => ⟨_, _, _, _, true, rfl, .ty _, .base (.lst h), kit_ty (by decide +kernel), q⟩
theorem p_isTup {a : Addr} {xs : List V} (h : H a = some (.tup xs)) : pC (rIsi K) [.ref a, .ty "tuple"] H (.bl true) := fun _ q => ⟨_, _, _, _, true, rfl, .ty _, .base (.tup h), kit_ty (by decide +kernel), q⟩
theorem p_notV {te : TE} (h : pE te σ H (.bl b)) : pE (mNotV te) σ H (.bl (!b)) := fun _ q => h _ q
theorem at_ints {ns : List Int} {k : Int} (h0 : 0 ≤ k) (h1 : k < (ns.length : Int)) : atI (ns.map V.int) k = some (.int (ns.getD k.toNat 0)) := by
  obtain ⟨j, rfl⟩ : ∃ j : Nat, k = (j : Int) := ⟨k.toNat, by omega⟩
  have hj : j < ns.length := by omega
  refine atI_nat ?_
  rw [Int.toNat_natCast, List.getElem?_map, List.getD_eq_getElem?_getD, List.getElem?_eq_getElem hj]
  rfl
theorem p_ixIL {p : Addr} {ns : List Int} {k : Int} (h : SqL K H p (ns.map V.int)) (h0 : 0 ≤ k) (h1 : k < (ns.length : Int)) : pR (mIx K) (.ref p) (.int k) H (.int (ns.getD k.toNat 0)) := fun _ q => ⟨_, _, .inl h, at_ints h0 h1, q⟩
theorem p_ixIH {p : Addr} {ns : List Int} {k : Int} (h : H p = some (.lst (ns.map V.int))) (h0 : 0 ≤ k) (h1 : k < (ns.length : Int)) : pR (mIx K) (.ref p) (.int k) H (.int (ns.getD k.toNat 0)) := fun _ q => ⟨_, _, .inl (SqL.of h), at_ints h0 h1, q⟩
theorem p_ixIU {p : Addr} {ns : List Int} {k : Int} (h : H p = some (.tup (ns.map V.int))) (h0 : 0 ≤ k) (h1 : k < (ns.length : Int)) : pR (mIx K) (.ref p) (.int k) H (.int (ns.getD k.toNat 0)) := fun _ q => ⟨_, _, .inr (SqT.of h), at_ints h0 h1, q⟩
end
end PB

set_option maxRecDepth 100000
set_option autoImplicit false
set_option maxHeartbeats 4000000
namespace PB
open PySem PySem.Spec PyProof.Rows L2
/-! ### data of the written part -/
mutual
def isD (K : PySem.W.Frag) : PyData → Value → Bool
  | .none, .none => true
  | .bool a, .bool b => a == b
  | .int i, .int j _ => decide (i = j)
  | .str x, .str y _ => decide (x = y)
  | .tuple ds, .ref a => (match K.lookup a with
    | some ⟨.type c, _, .seq its _, _⟩ => decide (c = "tuple") && (decide (its.size ≤ sizeLine) && isDs K ds its.toList)
    | _ => false)
  | .list ds, .ref a => (match K.lookup a with
    | some ⟨.type c, none, .seq its _, _⟩ => decide (c = "list") && (decide (its.size ≤ sizeLine) && isDs K ds its.toList)
    | _ => false)
  | _, _ => false
def isDs (K : PySem.W.Frag) : List PyData → List Value → Bool
  | [], [] => true
  | d :: ds, u :: us => isD K d u && isDs K ds us
  | _, _ => false
end
mutual
theorem isD_ok {K : PySem.W.Frag} : ∀ (d : PyData) (u : Value), isD K d u = true → ∃ v, RelV v u ∧ ∀ H, Dp K H v d
  | .none, u, h => by
    cases u with
    | none => exact ⟨.non, rfl, fun _ => .non⟩
    | _ => simp [isD] at h
  | .bool a, u, h => by
    cases u with
    | bool b =>
      unfold isD at h
      have e : a = b := by simpa using h
      subst e
      exact ⟨.bl a, rfl, fun _ => .bl a⟩
    | _ => simp [isD] at h
  | .int i, u, h => by
    cases u with
    | int j t =>
      unfold isD at h
      have e : i = j := of_decide_eq_true h
      subst e
      exact ⟨.int i, ⟨t, rfl⟩, fun _ => .int i⟩
    | _ => simp [isD] at h
  | .str x, u, h => by
    cases u with
    | str y t =>
      unfold isD at h
      have e : x = y := of_decide_eq_true h
      subst e
      exact ⟨.str x, ⟨t, rfl⟩, fun _ => .str x⟩
    | _ => simp [isD] at h
  | .tuple ds, u, h => by
    cases u with
    | ref a =>
      unfold isD at h
      split at h
      · rename_i c od its n sl e
        obtain ⟨h1, h2⟩ := He.ba h
        obtain ⟨h3, h4⟩ := He.ba h2
        obtain ⟨vs, r, k⟩ := isDs_ok ds its.toList h4
        exact ⟨.ref a, rfl, fun H => .tup (.inr ⟨_, its, n, e, congrArg Value.type (of_decide_eq_true h1), rfl, of_decide_eq_true h3, r⟩) (k H)⟩
      · cases h
    | _ => simp [isD] at h
  | .list ds, u, h => by
    cases u with
    | ref a =>
      unfold isD at h
      split at h
      · rename_i c its n sl e
        obtain ⟨h1, h2⟩ := He.ba h
        obtain ⟨h3, h4⟩ := He.ba h2
        obtain ⟨vs, r, k⟩ := isDs_ok ds its.toList h4
        exact ⟨.ref a, rfl, fun H => .lst (.inr ⟨_, its, n, e, congrArg Value.type (of_decide_eq_true h1), rfl, rfl, of_decide_eq_true h3, r⟩) (k H)⟩
      · cases h
    | _ => simp [isD] at h
  | .dict _, u, h => by cases u <;> simp [isD] at h
theorem isDs_ok {K : PySem.W.Frag} : ∀ (ds : List PyData) (us : List Value), isDs K ds us = true → ∃ vs, Vals vs us ∧ ∀ H, DpAll K H vs ds
  | [], [], _ => ⟨[], .nil, fun _ => .nil⟩
  | d :: ds, u :: us, h => by
    unfold isDs at h
    obtain ⟨h1, h2⟩ := He.ba h
    obtain ⟨v, r, k⟩ := isD_ok d u h1
    obtain ⟨vs, rs, ks⟩ := isDs_ok ds us h2
    exact ⟨v :: vs, .cons r rs, fun H => .cons (k H) (ks H)⟩
  | [], _ :: _, h => by simp [isDs] at h
  | _ :: _, [], h => by simp [isDs] at h
end
theorem datG_ok {K : PySem.W.Frag} {x : Str} {d : PyData} (h : isD K d (.ref (He.ga K x)) = true) (H : Hp) : Dp K H (.ref (He.ga K x)) d := by
  obtain ⟨v, r, k⟩ := isD_ok d _ h
  cases v with
  | ref a =>
    have e : a = He.ga K x := (Value.ref.inj (show Value.ref (He.ga K x) = Value.ref a from r)).symm
    rw [← e]
    exact k H
  | _ => revert r; intro r; first | (obtain ⟨t, r⟩ := r; cases r) | (cases r)
/-! ### the head's hook: the defs, the facts, one more Bool -/
abbrev AlP : Type := He.AlD × Bool
def obsP (n : Nat) (fa : List He.Fa) (fn : List He.DefD) (ex : PySem.W.Frag → Bool) (g : Addr → Option Obj) : AlP := (He.obsDG n fa fn g, ex (He.frG g (He.asD g n)))
def hookP (n : Nat) (fa : List He.Fa) (fn : List He.DefD) (ex : PySem.W.Frag → Bool) : PySem.W.Hook where
  α := AlP
  obs := fun s => obsP n fa fn ex s.heap.get?
  val := fun _ => (He.valD fn, true)
  says := fun _ h => ∃ K : PySem.W.Frag, K.In h ∧ He.SaysD fa fn K ∧ ex K = true
  of := fun _ _ e => ⟨_, He.frG_in, congrArg (fun z : AlP => z.1) e, congrArg (fun z : AlP => z.2) e⟩
  keeps := fun _ _ _ ⟨K, hK, c⟩ k => ⟨K, PySem.W.Frag.In.keeps hK k, c⟩
theorem obsP_eq {n : Nat} {fa : List He.Fa} {fn : List He.DefD} {ex : PySem.W.Frag → Bool} {g : Addr → Option Obj} {s : Shared} (h : ∀ a, g a = s.heap.get? a) : obsP n fa fn ex g = (hookP n fa fn ex).obs s := by
  have e : g = s.heap.get? := funext h
  rw [e] <;> rfl
end PB

set_option maxRecDepth 100000
set_option autoImplicit false
set_option maxHeartbeats 4000000
namespace PB
open PySem PySem.Spec PyProof.Rows L2
/-! ### bits -/
def mBor : R2 := fun x y H Q => match x, y with
  | .int i, .int j => Q (.int (Builtin.bitOr i j)) H
  | _, _ => False
def mBand : R2 := fun x y H Q => match x, y with
  | .int i, .int j => Q (.int (Builtin.bitAnd i j)) H
  | _, _ => False
theorem op_mBor {X : Cx} : OpR X (binaryOp .BitOr) mBor := op_imp op_or fun x y H Q h => by
  cases x <;> cases y <;> first | exact h.elim | exact ⟨_, _, rfl, rfl, h⟩
theorem op_mBand {X : Cx} : OpR X (binaryOp .BitAnd) mBand := op_imp op_and fun x y H Q h => by
  cases x <;> cases y <;> first | exact h.elim | exact ⟨_, _, rfl, rfl, h⟩
theorem p_bor {H : Hp} {i j : Int} : pR mBor (.int i) (.int j) H (.int (Builtin.bitOr i j)) := fun _ q => q
theorem p_band {H : Hp} {i j : Int} : pR mBand (.int i) (.int j) H (.int (Builtin.bitAnd i j)) := fun _ q => q
/-! ### a written dict: numbers to numbers -/
def entI : List (Int × Int) → List DictEntry → Bool
  | [], [] => true
  | p :: ps, e :: es => (match e.key, e.val with
    | .int i _, .int j _ => decide (i = p.1) && (decide (j = p.2) && decide (e.hash = hashInt p.1))
    | _, _ => false) && entI ps es
  | _, _ => false
def isDI (K : PySem.W.Frag) (kvs : List (Int × Int)) (a : Addr) : Bool := match K.lookup a with
  | some ⟨.type c, none, .dict es _, sl⟩ => decide (c = "dict") && (sl.isEmpty && (decide ((a == sysModules) = false) && entI kvs es.toList))
  | _ => false
structure KDi (K : PySem.W.Frag) (a : Addr) (kvs : List (Int × Int)) : Prop where
  ex : ∃ es n, K.lookup a = some ⟨.type "dict", none, .dict es n, #[]⟩ ∧ entI kvs es.toList = true ∧ (a == sysModules) = false
theorem isDI_ok {K : PySem.W.Frag} {kvs : List (Int × Int)} {a : Addr} (h : isDI K kvs a = true) : KDi K a kvs := by
  unfold isDI at h
  split at h
  · rename_i c es n sl e
    obtain ⟨h1, h2⟩ := He.ba h
    obtain ⟨h3, h4⟩ := He.ba h2
    obtain ⟨h5, h6⟩ := He.ba h4
    have e1 : c = "dict" := of_decide_eq_true h1
    have e2 : sl = #[] := Array.isEmpty_iff.mp h3
    subst e1 e2
    exact ⟨es, n, e, h6, of_decide_eq_true h5⟩
  · cases h
def luI : List (Int × Int) → Int → Option Int
  | [], _ => none
  | p :: ps, k => if p.1 = k then some p.2 else luI ps k
theorem entI_keys : ∀ {kvs : List (Int × Int)} {es : List DictEntry}, entI kvs es = true → ∀ e ∈ es, ∃ k : Int, Value.isInt k e.key = true ∧ e.hash = hashInt k
  | [], [], _, e, m => by cases m
  | p :: ps, d :: ds, h, e, m => by
    unfold entI at h
    obtain ⟨h1, h2⟩ := He.ba h
    rcases List.mem_cons.mp m with rfl | m
    · split at h1
      · rename_i i t j u e1 e2
        obtain ⟨h3, h4⟩ := He.ba h1
        obtain ⟨h5, h6⟩ := He.ba h4
        refine ⟨p.1, ?_, of_decide_eq_true h6⟩
        rw [e1, of_decide_eq_true h3]
        unfold Value.isInt
        simp
      · cases h1
    · exact entI_keys h2 e m
  | [], _ :: _, h, _, _ => by simp [entI] at h
  | _ :: _, [], h, _, _ => by simp [entI] at h
theorem entI_find {k : Int} : ∀ {kvs : List (Int × Int)} {es : List DictEntry}, entI kvs es = true → (match luI kvs k with
    | some j => ∃ t, (es.find? fun e => Value.isInt k e.key).map (·.val) = some (.int j t)
    | none => (es.find? fun e => Value.isInt k e.key).map (·.val) = none)
  | [], [], _ => rfl
  | p :: ps, d :: ds, h => by
    unfold entI at h
    obtain ⟨h1, h2⟩ := He.ba h
    split at h1
    · rename_i i t j u e1 e2
      obtain ⟨h3, h4⟩ := He.ba h1
      obtain ⟨h5, h6⟩ := He.ba h4
      have a1 : i = p.1 := of_decide_eq_true h3
      have a2 : j = p.2 := of_decide_eq_true h5
      unfold luI
      by_cases c : p.1 = k
      · rw [if_pos c]
        refine ⟨u, ?_⟩
        have z : Value.isInt k d.key = true := by rw [e1, a1, c]; unfold Value.isInt; simp
        rw [List.find?_cons_of_pos (p := fun e : DictEntry => Value.isInt k e.key) z]
        rw [Option.map_some, e2, a2]
      · rw [if_neg c]
        have z : ¬ Value.isInt k d.key = true := by
          rw [e1, a1]
          unfold Value.isInt
          simpa using c
        rw [List.find?_cons_of_neg (p := fun e : DictEntry => Value.isInt k e.key) z]
        exact entI_find h2
    · cases h1
  | [], _ :: _, h => by simp [entI] at h
  | _ :: _, [], h => by simp [entI] at h
theorem mapOf_KI {prog : Program} {w : World} {K : PySem.W.Frag} {h : Heap} {a : Addr} {es : Array DictEntry} {n : Nat} {kvs : List (Int × Int)} (X : K.In h) (hl : K.lookup a = some ⟨.type "dict", none, .dict es n, #[]⟩) (hk : entI kvs es.toList = true) :
    h.MapOf (PySem.intKind prog w) a (fun k => findBy Value.isInt es k) :=
  ⟨_, es, n, X _ _ hl, ⟨rfl, rfl, rfl⟩, rfl, fun e he => entI_keys hk e (Array.mem_toList_iff.mpr he), fun _ => rfl⟩
theorem findBy_I {es : Array DictEntry} {k : Int} : findBy Value.isInt es k = (es.toList.find? fun e => Value.isInt k e.key).map (·.val) := by
  unfold findBy
  rw [← Array.find?_toList]
def rIxDI (K : PySem.W.Frag) : R2 := fun x y H Q => ∃ p i kvs j, x = .ref p ∧ y = .int i ∧ KDi K p kvs ∧ luI kvs i = some j ∧ Q (.int j) H
def rInDI (K : PySem.W.Frag) : R2 := fun x y H Q => ∃ p i kvs, x = .int i ∧ y = .ref p ∧ KDi K p kvs ∧ Q (.bl (luI kvs i).isSome) H
theorem ix_kdi {X : Cx} : IxR X (rIxDI X.K) := by
  intro value slice pins s σ H x y v u Q I rx ry h hs
  obtain ⟨p, i, kvs, j, rfl, rfl, ⟨es, n, hl, hk, _⟩, lu, q⟩ := h
  obtain rfl : v = Value.ref p := rx
  obtain ⟨t, rfl⟩ := (show ∃ t, u = Value.int i t from ry)
  have hm := mapOf_KI (prog := X.prog) (w := X.w) I.kIn hl hk
  have ef := entI_find (k := i) hk
  rw [lu] at ef
  obtain ⟨t', ef⟩ := ef
  have hkey : (PySem.intKind X.prog X.w).is i (.int i t) = true := by show (i == i) = true; simp
  exact tail_any hm.typeIs slot_dict_getitem.lookup (wpAny_getItem_of hkey hm (findBy_I.trans ef) ⟨.int j, H, I.tok _, ⟨t', rfl⟩, q⟩) hs
theorem op_inDI {X : Cx} : OpR X (compareOp .In) (rInDI X.K) := by
  intro pins s σ H x y v u Q I rx ry h
  obtain ⟨p, i, kvs, rfl, rfl, ⟨es, n, hl, hk, hd⟩, q⟩ := h
  obtain rfl : u = Value.ref p := ry
  obtain ⟨t, rfl⟩ := (show ∃ t, v = Value.int i t from rx)
  have hm := mapOf_KI (prog := X.prog) (w := X.w) I.kIn hl hk
  have hkey : (PySem.intKind X.prog X.w).is i (.int i t) = true := by show (i == i) = true; simp
  refine wpAny_in_of hkey hd hm ?_
  have e : (findBy Value.isInt es i).isSome = (luI kvs i).isSome := by
    rw [findBy_I]
    have ef := entI_find (k := i) hk
    cases c : luI kvs i with
    | none => rw [c] at ef; rw [ef]; rfl
    | some j => rw [c] at ef; obtain ⟨t', ef⟩ := ef; rw [ef]; rfl
  refine ⟨.bl _, H, I.tok _, ?_, q⟩
  rw [e]
  rfl
theorem p_ixDI {K : PySem.W.Frag} {H : Hp} {p : Addr} {i j : Int} {kvs : List (Int × Int)} (h : KDi K p kvs) (e : luI kvs i = some j) : pR (rIxDI K) (.ref p) (.int i) H (.int j) := fun _ q => ⟨p, i, kvs, j, rfl, rfl, h, e, q⟩
theorem p_inDI {K : PySem.W.Frag} {H : Hp} {p : Addr} {i : Int} {kvs : List (Int × Int)} (h : KDi K p kvs) : pR (rInDI K) (.int i) (.ref p) H (.bl (luI kvs i).isSome) := fun _ q => ⟨p, i, kvs, rfl, rfl, h, q⟩
theorem p_lenU {K : PySem.W.Frag} {H : Hp} {p : Addr} {xs : List V} (h : H p = some (.tup xs)) : pC (mLen K) [.ref p] H (.int (xs.length : Int)) := fun _ q => ⟨xs, .inr (SqT.of h), q⟩
theorem w_break {D : Ends} {σ : L2.St} {H : Hp} (h : D.bk σ H) : tBreak D σ H := h
theorem w_cont {D : Ends} {σ : L2.St} {H : Hp} (h : D.ct σ H) : tCont D σ H := h
/-! ### while, a tuple taken apart -/
theorem w_while {c : TT} {tb : TS} {D : Ends} {σ : L2.St} {H : Hp} (W : Nat → L2.St → Hp → Prop) (m0 : Nat) (h0 : W m0 σ H)
    (hs : ∀ m σ H, W m σ H → ∃ b, pT c σ H b ∧ (b = true → tb { D with nx := fun σ' H' => ∃ m', m' < m ∧ W m' σ' H', ct := fun σ' H' => ∃ m', m' < m ∧ W m' σ' H', bk := D.nx } σ H) ∧ (b = false → D.nx σ H)) : tWhile c tb D σ H :=
  ⟨W, ⟨m0, h0⟩, fun m σ H w => by
    obtain ⟨b, hc, h1, h2⟩ := hs m σ H w
    refine hc _ ?_
    cases b with
    | true =>
      rw [if_pos rfl]
      exact ⟨_, fun _ _ z => z, h1 rfl⟩
    | false =>
      rw [if_neg (by decide)]
      exact h2 rfl⟩
theorem g_three {K : PySem.W.Frag} {i j k : Nat} {a : Addr} {x y z : V} {σ : L2.St} {H : Hp} {R : L2.St → Hp → Prop} (hx : SqT K H a [x, y, z]) (h : R (((σ.set i (some x)).set j (some y)).set k (some z)) H) : gTup K 3 (gCons (gName i) (gCons (gName j) (gCons (gName k) gNil))) (.ref a) σ H R :=
  ⟨a, [x, y, z], rfl, hx, rfl, x, [y, z], rfl, y, [z], rfl, z, [], rfl, rfl, h⟩
section
variable {K : PySem.W.Frag} {σ : L2.St} {H : Hp} {tl te : TE} {tt : TT} {Q : VK} {vs : List Nat}
/-- a comprehension over a tuple: test and element only look -/
theorem k_lcTP {a : Addr} {xs : List V} {i : Nat} (p : V → Bool) (f : V → V) (ha : pE tl σ H (.ref a)) (hx : SqT K H a xs) (hl : xs.length ≤ sizeLine) (hw : ∀ x, wipe ((wipe σ vs).set i (some x)) vs = wipe σ vs)
    (ht : ∀ x ∈ xs, ∀ D acc, H D = none → pT tt ((wipe σ vs).set i (some x)) (upd H D (.lst acc)) (p x))
    (he : ∀ x ∈ xs, p x = true → ∀ D acc, H D = none → pE te ((wipe σ vs).set i (some x)) (upd H D (.lst acc)) (f x))
    (q : NewAt H (.lst ((xs.filter p).map f)) Q) : tLc (iTup K tl) (gName i) tt te vs σ H Q := by
  refine ha _ ⟨a, rfl, ⟨xs, hx⟩, fun D hD => ?_⟩
  have keep : ∀ acc, SqT K (upd H D (.lst acc)) a xs := fun acc => ext_t (Ext.new hD) hx
  refine lc_tup (K := K) (a := a) (xs := xs) (fun n H' => H' = upd H D (.lst (((xs.take n).filter p).map f))) (by simp) (fun n H' _ e => by rw [e]; exact keep _) ?_ ?_
  · intro n x H' hn e
    subst e
    have hm : x ∈ xs := List.mem_of_getElem? hn
    have ht' : xs.take (n + 1) = xs.take n ++ [x] := by rw [List.take_add_one, hn]; rfl
    refine ⟨hw x, ht x hm D _ hD _ ?_⟩
    cases hp : p x with
    | false =>
      rw [if_neg (by simp), ht', List.filter_append]
      simp [hp]
    | true =>
      rw [if_pos rfl]
      refine he x hm hp D _ hD _ ⟨_, upd_same, ?_, ?_⟩
      · rw [List.length_map]
        have h1 : ((xs.take n).filter p).length ≤ (xs.take n).length := List.length_filter_le ..
        have h2 : n < xs.length := (List.getElem?_eq_some_iff.mp hn).1
        rw [List.length_take] at h1
        omega
      · rw [upd_upd, ht', List.filter_append, List.map_append]
        simp [hp]
  · intro H' e
    subst e
    rw [List.take_length]
    exact q.up D hD
/-- a comprehension whose element may make objects, without a test: over a list; what is asked of an element -/
def kEl (D : Addr) (P : Addr → Nat → List V → Hp → Prop) (i : Nat) : VK := fun y H4 => ∃ acc, H4 D = some (.lst acc) ∧ acc.length < sizeLine ∧ ∃ acc', acc'.length = i + 1 ∧ (upd H4 D (.lst (acc ++ [y]))) D = some (.lst acc') ∧ P D (i + 1) acc' (upd H4 D (.lst (acc ++ [y])))
theorem kEl_mk {D : Addr} {P : Addr → Nat → List V → Hp → Prop} {i : Nat} {y : V} {H4 : Hp} {acc : List V} (h : H4 D = some (.lst acc)) (l : acc.length = i) (z : i < sizeLine) (p : P D (i + 1) (acc ++ [y]) (upd H4 D (.lst (acc ++ [y])))) : kEl D P i y H4 :=
  ⟨acc, h, by omega, acc ++ [y], by simp [l], upd_same, p⟩
theorem k_lcG {a : Addr} {xs : List V} {j : Nat} (hx : SqL K H a xs) (hl : xs.length ≤ sizeLine) (hw : ∀ x, wipe ((wipe σ vs).set j (some x)) vs = wipe σ vs) (P : Addr → Nat → List V → Hp → Prop)
    (h0 : ∀ D, H D = none → P D 0 [] (upd H D (.lst [])))
    (hk : ∀ D i acc H', H D = none → P D i acc H' → SqL K H' a xs)
    (hs : ∀ D i x acc H', H D = none → xs[i]? = some x → acc.length = i → H' D = some (.lst acc) → P D i acc H' → te ((wipe σ vs).set j (some x)) H' (kEl D P i))
    (q : ∀ D acc H', H D = none → H' D = some (.lst acc) → acc.length = xs.length → P D xs.length acc H' → Q (.ref D) H') : kLc K (gName j) tYes te vs σ Q (.ref a) H := by
  refine ⟨a, rfl, ⟨xs, hx⟩, fun D hD => ?_⟩
  refine ⟨fun i m H' => m = xs.length - i ∧ i ≤ xs.length ∧ ∃ acc, acc.length = i ∧ H' D = some (.lst acc) ∧ P D i acc H', ⟨_, rfl, Nat.zero_le _, [], rfl, upd_same, h0 D hD⟩, ?_⟩
  rintro i m H' ⟨rfl, hi, acc, al, hD', p⟩
  by_cases c : i < xs.length
  · refine .inr ⟨⟨xs, xs[i], hk D i acc H' hD p, by simp [c]⟩, fun H2 => ∃ acc', acc'.length = i + 1 ∧ H2 D = some (.lst acc') ∧ P D (i + 1) acc' H2, ?_, ?_⟩
    · rintro H2 ⟨acc', z1, z2, z3⟩
      exact ⟨xs.length - (i + 1), by omega, rfl, by omega, acc', z1, z2, z3⟩
    · rintro x H2 ⟨rfl, hy⟩
      have e := hy xs (hk D i acc H2 hD p)
      refine ⟨hw x, (show pT tYes _ _ true from fun _ q => q) _ ?_⟩
      rw [if_pos rfl]
      exact hs D i x acc H2 hD e al hD' p
  · have e : i = xs.length := by omega
    subst e
    exact .inl ⟨⟨xs, hk D _ acc H' hD p, Nat.le_refl _⟩, q D acc H' hD hD' al p⟩
/-- the same over a range -/
theorem k_lcRG {lo : Int} {n j : Nat} (hl : n ≤ sizeLine) (hw : ∀ x, wipe ((wipe σ vs).set j (some x)) vs = wipe σ vs) (P : Addr → Nat → List V → Hp → Prop)
    (h0 : ∀ D, H D = none → P D 0 [] (upd H D (.lst [])))
    (hs : ∀ D i acc H', H D = none → i < n → acc.length = i → H' D = some (.lst acc) → P D i acc H' → te ((wipe σ vs).set j (some (.int (lo + i)))) H' (kEl D P i))
    (q : ∀ D acc H', H D = none → H' D = some (.lst acc) → acc.length = n → P D n acc H' → Q (.ref D) H') : kLcR (gName j) tYes te vs σ Q lo n H := by
  intro D hD
  refine ⟨fun i m H' => m = n - i ∧ i ≤ n ∧ ∃ acc, acc.length = i ∧ H' D = some (.lst acc) ∧ P D i acc H', ⟨_, rfl, Nat.zero_le _, [], rfl, upd_same, h0 D hD⟩, ?_⟩
  rintro i m H' ⟨rfl, hi, acc, al, hD', p⟩
  by_cases c : i < n
  · refine .inr ⟨c, fun H2 => ∃ acc', acc'.length = i + 1 ∧ H2 D = some (.lst acc') ∧ P D (i + 1) acc' H2, ?_, ?_⟩
    · rintro H2 ⟨acc', z1, z2, z3⟩
      exact ⟨n - (i + 1), by omega, rfl, by omega, acc', z1, z2, z3⟩
    · rintro x H2 ⟨rfl, rfl⟩
      refine ⟨hw _, (show pT tYes _ _ true from fun _ q => q) _ ?_⟩
      rw [if_pos rfl]
      exact hs D i acc H2 hD c al hD' p
  · have e : i = n := by omega
    subst e
    exact .inl ⟨Nat.le_refl _, q D acc H' hD hD' al p⟩
end
end PB

set_option maxRecDepth 100000
set_option autoImplicit false
set_option maxHeartbeats 4000000
namespace PB
open PySem PySem.Spec PyProof.Rows L2
open C8 (Met)
/-! ### == by an own __eq__, isinstance of an own class, is of bools, zip -/
structure OwnC (K : PySem.W.Frag) (C : Addr) : Prop where
  a : PySem.W.findIn K (.ref C) "__class__" = some (some (.builtin "object.__class__"))
  b : PySem.W.specialIn K (.builtin "object.__class__") "__get__" = some (some (.builtin "getset_descriptor.__get__"))
  c : PySem.W.takesIn K (.builtin "object.__class__") = some true
  d : PySem.W.mroIn K C (.type "object") = some true
  e : PySem.W.kitOne K (.ref C) (.ref C) = some true
  f : PySem.W.kitOne K (.type "int") (.ref C) = some false
  g : PySem.W.kitOne K (.type "list") (.ref C) = some false
  h : PySem.W.notFirst K C (.type "int") = true
  i : PySem.W.notFirst K C (.type "list") = true
  j : PySem.W.notFirst K C (.ref C) = true
  k : Cls K C
inductive RightOf (K : PySem.W.Frag) (C : Addr) (H : Hp) : V → Value → Prop where
  | own {b dx : Addr} {fs : List (Str × V)} (e : H b = some (.ins C dx fs)) : RightOf K C H (.ref b) (.ref C)
  | int (i : Int) : RightOf K C H (.int i) (.type "int")
  | lst {a : Addr} {xs : List V} (e : H a = some (.lst xs)) : RightOf K C H (.ref a) (.type "list")
def rOwn (K : PySem.W.Frag) (C : Addr) (sp : Sp) : R2 := fun x y H Q => ∃ a dx fs T, x = .ref a ∧ H a = some (.ins C dx fs) ∧ RightOf K C H y T ∧ PySem.W.notFirst K C T = true ∧ sp [.ref a, y] H (fun v H' => (∃ b, v = .bl b) ∧ Q v H') E0
theorem op_own {X : Cx} {C : Addr} {sp : Sp} {j k : Nat} (c : Met X.prog X.w X.K X.mg X.base k C "__eq__" sp []) (hr : Room j X.A) (hk : k ≤ j) : OpR X (compareOp .Eq) (rOwn X.K C sp) := by
  intro pins s σ H x y v u Q I rx ry h
  obtain ⟨a, dx, fs, T, rfl, ha, hy, hn, q⟩ := h
  obtain rfl : v = Value.ref a := rx
  obtain ⟨g, fd, ps, ds, hc, hm, F, b, d⟩ := c.ex
  obtain ⟨mA, J, _⟩ := ins_get I.hok ha
  obtain ⟨od, J, _⟩ := J.look
  obtain ⟨m, hF⟩ := I.fr
  have hT : PySem.W.Looks (model X.prog X.w) s.heap (typeOf u) T := by
    cases hy with
    | @own b dy gs e =>
      obtain rfl : u = Value.ref b := ry
      obtain ⟨mB, J', _⟩ := ins_get I.hok e
      obtain ⟨od', J', _⟩ := J'.look
      exact J'.type
    | int i =>
      obtain ⟨t, rfl⟩ := (show ∃ t, u = Value.int i t from ry)
      exact PySem.W.Looks.of_pure rfl
    | @lst b xs e =>
      obtain rfl : u = Value.ref b := ry
      obtain ⟨_, _, n, _, h1⟩ := (show ObjOk X.prog X.w H s.heap b (.lst xs) from I.hok b _ e)
      exact (PySem.W.Looks.ld h1).andThen .now
  show wpAny (model X.prog X.w) X.A (richCompare .Eq (.ref a) u) (EP X pins σ Q) X.xe s
  refine PySem.W.cmp_K (op := .Eq) (tb := T) hr.units0 hF I.ok.mod.kin J hT hn hm.at_ hm.fn ?_
  have r := run_fn (E := L2.E0) (us := [.ref a, u]) (vs := [.ref a, y]) F (hr.mono hk) b d pass0 I (.cons rfl (.cons ry .nil)) q
  refine wpAny_mono r (fun w s' z => ?_) fun _ _ e => e
  obtain ⟨v', H', I', rv, ⟨bb, rfl⟩, q'⟩ := z
  obtain rfl : w = Value.bool bb := rv
  exact ⟨.bl bb, H', I', rfl, q'⟩
def ownOk (K : PySem.W.Frag) (C : Addr) : Bool :=
  He.eqO (PySem.W.findIn K (.ref C) "__class__") (some (some (.builtin "object.__class__"))) && (He.eqO (PySem.W.specialIn K (.builtin "object.__class__") "__get__") (some (some (.builtin "getset_descriptor.__get__"))) &&
  (decide (PySem.W.takesIn K (.builtin "object.__class__") = some true) && (decide (PySem.W.mroIn K C (.type "object") = some true) && (decide (PySem.W.kitOne K (.ref C) (.ref C) = some true) &&
  (decide (PySem.W.kitOne K (.type "int") (.ref C) = some false) && (decide (PySem.W.kitOne K (.type "list") (.ref C) = some false) && (PySem.W.notFirst K C (.type "int") && (PySem.W.notFirst K C (.type "list") && PySem.W.notFirst K C (.ref C)))))))))
theorem ownOk_ok {K : PySem.W.Frag} {C : Addr} (h : ownOk K C = true) (k : Cls K C) : OwnC K C := by
  obtain ⟨h1, h⟩ := He.ba h
  obtain ⟨h2, h⟩ := He.ba h
  obtain ⟨h3, h⟩ := He.ba h
  obtain ⟨h4, h⟩ := He.ba h
  obtain ⟨h5, h⟩ := He.ba h
  obtain ⟨h6, h⟩ := He.ba h
  obtain ⟨h7, h⟩ := He.ba h
  obtain ⟨h8, h⟩ := He.ba h
  obtain ⟨h9, h10⟩ := He.ba h
  exact ⟨He.eqO_ok h1, He.eqO_ok h2, of_decide_eq_true h3, of_decide_eq_true h4, of_decide_eq_true h5, of_decide_eq_true h6, of_decide_eq_true h7, h8, h9, h10, k⟩
section
variable {K : PySem.W.Frag} {σ : L2.St} {H : Hp} {C b dx : Addr} {fs : List (Str × V)} {xs : List V} {i : Int} {Q : VK}
theorem p_isOwn (o : OwnC K C) (e : H b = some (.ins C dx fs)) : pC (rIsi K) [.ref b, .ref C] H (.bl true) := fun _ q => ⟨_, _, _, _, true, rfl, .own C, .base (.ins e o.k o.a o.b o.c o.d), o.e, q⟩
theorem p_isOwnI (o : OwnC K C) : pC (rIsi K) [.int i, .ref C] H (.bl false) := fun _ q => ⟨_, _, _, _, false, rfl, .own C, .base (.int i), o.f, q⟩
theorem p_isOwnL (o : OwnC K C) (e : H b = some (.lst xs)) : pC (rIsi K) [.ref b, .ref C] H (.bl false) := fun _ q => ⟨_, _, _, _, false, rfl, .own C, .base (.lst e), o.g, q⟩
theorem k_own {a dy : Addr} {gs : List (Str × V)} {sp : Sp} (o : OwnC K C) (ha : H a = some (.ins C dx fs)) (hb : H b = some (.ins C dy gs)) (q : sp [.ref a, .ref b] H (fun v H' => (∃ k, v = .bl k) ∧ Q v H') E0) : rOwn K C sp (.ref a) (.ref b) H Q := ⟨a, dx, fs, _, rfl, ha, .own hb, o.j, q⟩
theorem k_ownI {a : Addr} {sp : Sp} (o : OwnC K C) (ha : H a = some (.ins C dx fs)) (q : sp [.ref a, .int i] H (fun v H' => (∃ k, v = .bl k) ∧ Q v H') E0) : rOwn K C sp (.ref a) (.int i) H Q := ⟨a, dx, fs, _, rfl, ha, .int i, o.h, q⟩
theorem k_ownL {a : Addr} {sp : Sp} (o : OwnC K C) (ha : H a = some (.ins C dx fs)) (hb : H b = some (.lst xs)) (q : sp [.ref a, .ref b] H (fun v H' => (∃ k, v = .bl k) ∧ Q v H') E0) : rOwn K C sp (.ref a) (.ref b) H Q := ⟨a, dx, fs, _, rfl, ha, .lst hb, o.i, q⟩
def mIsB : R2 := fun x y H Q => match x, y with
  | .bl a, .bl b => Q (.bl (decide (a = b))) H
  | _, _ => False
def mNotB : R2 := fun x y H Q => match x, y with
  | .bl a, .bl b => Q (.bl (!decide (a = b))) H
  | _, _ => False
theorem op_mIsB {X : Cx} : OpR X (compareOp .Is) mIsB := op_imp op_isBl fun x y H Q h => by
  cases x <;> cases y <;> first | exact h.elim | exact ⟨_, _, rfl, rfl, h⟩
theorem op_mNotB {X : Cx} : OpR X (compareOp .IsNot) mNotB := op_imp op_notBl fun x y H Q h => by
  cases x <;> cases y <;> first | exact h.elim | exact ⟨_, _, rfl, rfl, h⟩
theorem p_isB {x y : Bool} : pR mIsB (.bl x) (.bl y) H (.bl (decide (x = y))) := fun _ q => q
theorem p_notB {x y : Bool} : pR mNotB (.bl x) (.bl y) H (.bl (!decide (x = y))) := fun _ q => q
def kAug (n : Nat) (g : Int → Int → Int) (D : Ends) (σ : L2.St) (x : Int) : VK := fun y H1 => match y with
  | .int z => D.nx (σ.set n (some (.int (g x z)))) H1
  | _ => False
theorem w_augK {n : Nat} {g : Int → Int → Int} {x : Int} {te : TE} {D : Ends} (h : σ[n]? = some (some (.int x))) (q : te σ H (kAug n g D σ x)) : mAug n te g D σ H := by
  unfold mAug
  simp only [h]
  exact q
theorem k_kAug {n : Nat} {g : Int → Int → Int} {x z : Int} {D : Ends} (h : D.nx (σ.set n (some (.int (g x z)))) H) : kAug n g D σ x (.int z) H := h
end
end PB

set_option maxRecDepth 100000
set_option autoImplicit false
set_option maxHeartbeats 4000000
namespace PB
open PySem PySem.Spec PyProof.Rows L2
/-! ### a slice stored, its end given or not -/
theorem sb_to {i j n : Nat} (h1 : i ≤ j) (h2 : j ≤ n) : sliceBounds (some (i : Int)) (some (j : Int)) none n = ((i : Int), (j : Int), 1) := by
  simp only [sliceBounds, Option.getD_none, show ¬ ((i : Int) < 0) by omega, show ¬ ((j : Int) < 0) by omega, if_false, show (1 : Int) > 0 by decide, if_true, Prod.mk.injEq, and_true]
  omega
theorem sb_open {i n : Nat} (h1 : i ≤ n) : sliceBounds (some (i : Int)) none none n = ((i : Int), (n : Int), 1) := by
  simp only [sliceBounds, Option.getD_none, show ¬ ((i : Int) < 0) by omega, if_false, show (1 : Int) > 0 by decide, if_true, Prod.mk.injEq, and_true]
  omega
theorem sb_upto {j n : Nat} (h2 : j ≤ n) : sliceBounds none (some (j : Int)) none n = (0, (j : Int), 1) := by
  show ((0 : Int), (if (1 : Int) > 0 then max 0 (min (if (j : Int) < 0 then (j : Int) + n else (j : Int)) n) else _), (1 : Int)) = _
  rw [if_pos (by decide), if_neg (by omega), show max 0 (min (j : Int) n) = j by omega]
section
variable {prog : Program} {w : World} {A : Around} {E : Value → Shared → Prop} {s : Shared}
theorem setSl {l b sl : Addr} {items new : Array Value} {n n2 : Nat} {vl vu : Value} {lo hi : Option Int} {i j : Nat} {Q : Unit → Shared → Prop} (e : s.heap.get? l = some { cls := .type "list", data := .seq items n })
    (e2 : s.heap.get? b = some { cls := .type "list", data := .seq new n2 }) (hne : l ≠ b) (hs : s.heap.IsSliceOf sl vl vu .none) (pl : IsPart vl lo) (pu : IsPart vu hi) (hb : sliceBounds lo hi none items.size = ((i : Int), (j : Int), 1)) (hij : i ≤ j)
    (hz : items.size + new.size ≤ sizeLine) (h : Q () { s with heap := s.heap.update l (Obj.mapSeq fun xs => xs.extract 0 i ++ new ++ xs.extract j xs.size) }) : wpAny (model prog w) A (setItem (.ref l) (.ref sl) (.ref b)) Q E s := by
  have tl : s.TypeIs (.ref l) "list" := (PySem.IsL.isList e).typeIs
  have tb : s.TypeIs (.ref b) "list" := (PySem.IsL.isList e2).typeIs
  obtain ⟨o, ho, hc, hd⟩ := id hs
  have ts : s.TypeIs (.ref sl) "slice" := ⟨o, ho, hc⟩
  have same : Builtin.List.listSameRef (.ref l) (.ref b) = false := beq_eq_false_iff_ne.mpr hne
  have zf : ((fun xs : Array Value => xs.extract 0 i ++ new ++ xs.extract j xs.size) items).size ≤ sizeLine + 1 := by
    simp only [Array.size_append, Array.size_extract]; omega
  unfold setItem; (try with_reducible refine wpAny_holding ?_); (first | refine wpAny_bind (wpAny_pure ?_) | skip)
  refine wpAny_bind (wpAny_sequenceKey tl (by decide) (wpAny_bind (wpAny_callSpecial?_slot (name := Str.ofString "__setitem__") tl slot_list_setitem (wpAny_call_entry slot_list_setitem tl entry_list_setitem ?_ (args_list_setitem _ _ _)))))
  show wpAny _ _ (Builtin.List.listSubscript? (.ref sl) >>= _) _ _ s
  refine wpAny_bind ?_; unfold Builtin.List.listSubscript?
  refine wpAny_bind (wpAny_specialOf ts slice_no_index ?_); simp only [Option.isNone_none, if_true]
  refine wpAny_pure (?_ : wpAny _ _ (typeOf (.ref sl) >>= _) _ _ s)
  refine wpAny_bind (wpAny_typeOf ts ?_); (first | rw [if_neg (by decide)] | refine PySem.W.KFB.if_not (by decide) ?_)
  rw [listSliceParts_eq]; refine wpAny_bind (wpAny_bind (wpAny_field ho hd (x := .none) rfl (wpAny_bind (wpAny_listPart .none ?_))))
  rw [if_neg (show ¬ ((rawPart none == rawInt 0) = true) from Bool.false_ne_true)]
  refine wpAny_bind (wpAny_field ho hd (x := vl) rfl (wpAny_bind (wpAny_listPart pl (wpAny_bind (wpAny_field ho hd (x := vu) rfl (wpAny_bind (wpAny_listPart pu (wpAny_pure ?_))))))))
  (first | simp only [same, Bool.false_eq_true, if_false] | refine PySem.W.KFB.if_not same ?_ | (dsimp only; rw [if_neg (by rw [same]; exact Bool.false_ne_true)]))
  refine wpAny_bind (m := Builtin.List.listAllItems (.ref b) "must assign iterable to extended slice") ?_; unfold Builtin.List.listAllItems
  refine wpAny_bind (wpAny_typeOf tb ?_); (first | refine PySem.W.KFB.if_so (by decide) ?_ | rw [if_pos (by decide)] | simp only [beq_self_eq_true, Bool.true_or, if_true])
  unfold Builtin.List.listItems; refine wpAny_bind (wpAny_seqItems e2 rfl (wpAny_pure (wpAny_bind (wpAny_bind (wpAny_seqItems e rfl (wpAny_pure ?_))))))
  refine wpAny_bind (wpAny_of_eq ((sliceIndices_raw lo hi none items.size (by simp)).trans (congrArg (pure : Int × Int × Int → Sem (Int × Int × Int)) hb)) ?_)
  show wpAny _ _ (if ((1 : Int) == 1) = true then _ else _) _ _ s
  rw [if_pos (by decide)]; refine wpAny_bind (wpAny_rule ?_)
  (first | simp only [notLongL hz, Bool.false_eq_true, if_false] | refine PySem.W.KFB.if_not (notLongL hz) ?_); (first | refine wpAny_bind (wpAny_pure ?_) | skip)
  show wpAny _ _ (updateSeq l (fun xs => xs.extract 0 ((i : Int)).toNat ++ new ++ xs.extract (max (i : Int) (j : Int)).toNat xs.size) >>= _) _ _ s
  rw [show (max (i : Int) (j : Int)).toNat = j by omega, Int.toNat_natCast]
  refine wpAny_bind (wpAny_updateSeq (hz := Nat.le_trans (Nat.le_add_right _ _) hz) (_hz' := zf) e rfl (wpAny_bind (wpAny_letGo ?_)))
  (first | exact wpAny_bind (wpAny_pure (wpAny_pure ⟨.none, rfl, wpAny_pure h⟩)) | exact wpAny_pure ⟨.none, rfl, wpAny_pure h⟩)
end
def mSetSl (ta : TE) (tl th : TO) (tv : TE) : TS := fun D σ H => tv σ H fun v H1 => ta σ H1 fun x H2 => tl σ H2 fun lo H3 => th σ H3 fun hi H4 => ∃ (l b : Addr) (xs ys : List V) (i j : Nat), x = .ref l ∧ v = .ref b ∧ H4 l = some (.lst xs) ∧ H4 b = some (.lst ys) ∧ l ≠ b ∧
  sliceBounds lo hi none xs.length = ((i : Int), (j : Int), 1) ∧ i ≤ j ∧ xs.length + ys.length ≤ sizeLine ∧ D.nx σ (upd H4 l (.lst (xs.take i ++ ys ++ xs.drop j)))
theorem ps_setsl {X : Cx} {o value : Expr} {lo hi : Option Expr} {ta tv : TE} {tl th : TO} {sp tp pos : Pos} (ho : PE X o ta) (hl : PO X lo tl) (hh : PO X hi th) (hv : PE X value tv)
    (hs : swapsWith value (some (.Subscript o (.Slice lo hi none sp) tp)) pos.line X.env = pure false) : PS X (.Assign [.Subscript o (.Slice lo hi none sp) tp] value pos) (mSetSl ta tl th tv) := by
  refine ⟨fun pins s σ H D I h => ?_⟩
  refine wpAny_Assign_Subscript (thn (hv.run pins s σ H _ I h) fun r s1 ⟨v, H1, I1, rv, q1⟩ => thn (ho.run pins s1 σ H1 _ I1 q1) fun u s2 ⟨x, H2, I2, rx, q2⟩ => ?_) hs
  refine wpAny_Slice (thn (hl.run pins s2 σ H2 _ I2 q2) fun vl s3 ⟨l', H3, I3, pl, q3⟩ => thn (hh.run pins s3 σ H3 _ I3 q3) fun vu s4 ⟨u', H4, I4, pu, q4⟩ => ?_)
  rw [evalPart_none]
  obtain ⟨l, b, xs, ys, i, j, rfl, rfl, hH, hB, hne, hb, hij, hz, q⟩ := q4
  obtain rfl : u = Value.ref l := rx
  obtain rfl : r = Value.ref b := rv
  refine wpAny_pure (?_ : wpAny (model X.prog X.w) X.A (setItem (.ref l) (.ref s4.heap.objs.size) (.ref b)) _ X.xe { s4 with heap := s4.heap.push { cls := .type "slice", data := .fields #[vl, vu, .none] } })
  have I5 : Inv X pins σ H4 { s4 with heap := s4.heap.push { cls := .type "slice", data := .fields #[vl, vu, .none] } } := I4.kept (t' := s4.toks) fun b ob q => Heap.get?_push_of_some _ q
  obtain ⟨z, its, n, ri, hi1, e⟩ := I5.lstM hH
  obtain ⟨z2, its2, n2, ri2, hi2, e2⟩ := I5.lstM hB
  refine setSl (i := i) (j := j) e e2 hne (Heap.IsSliceOf.new ..) pl pu (by rw [List.size_toArray, ← hi1]; exact hb) hij (by rw [List.size_toArray, List.size_toArray]; omega) ?_
  refine ⟨σ, _, I5.lset (its' := its.take i ++ its2 ++ its.drop j) (t' := s4.toks) hH e (splice_eq its its2 i j) (Vals.append (Vals.append (ri.take _) ri2) (ri.drop _)) ?_, q⟩
  rw [List.length_append, List.length_append, List.length_take, List.length_drop]
  omega
end PB

set_option maxRecDepth 100000
set_option autoImplicit false
set_option maxHeartbeats 4000000
namespace PB
open PySem PySem.Spec PyProof.Rows L2
/-! ### the first items of a list deleted -/
section
variable {prog : Program} {w : World} {A : Around} {E : Value → Shared → Prop} {s : Shared}
theorem cutIdx (j : Nat) : ∀ (xs : List Value) (k : Nat), (xs.zipIdx k).filterMap (fun p => if (decide ((0 : Int) ≤ (p.2 : Int)) && decide ((p.2 : Int) < (j : Int)) && ((p.2 : Int) - 0) % 1 == 0) = true then none else some p.1) = xs.drop (j - k)
  | [], k => by simp
  | x :: xs, k => by
    rw [List.zipIdx_cons, List.filterMap_cons, cutIdx j xs (k + 1)]
    by_cases c : k < j
    · have e : (decide ((0 : Int) ≤ (k : Int)) && decide ((k : Int) < (j : Int)) && ((k : Int) - 0) % 1 == 0) = true := by
        rw [decide_eq_true (show (0 : Int) ≤ k by omega), decide_eq_true (show (k : Int) < j by omega), show ((k : Int) - 0) % 1 = 0 by omega]; rfl
      simp only [e, if_true]
      rw [show j - k = (j - (k + 1)) + 1 by omega, List.drop_succ_cons]
    · have e : (decide ((0 : Int) ≤ (k : Int)) && decide ((k : Int) < (j : Int)) && ((k : Int) - 0) % 1 == 0) = false := by
        rw [decide_eq_false (show ¬ (k : Int) < j by omega)]; simp
      simp only [e, Bool.false_eq_true, if_false]
      rw [show j - (k + 1) = 0 by omega, show j - k = 0 by omega, List.drop_zero, List.drop_zero]
def dropF (start stop step : Int) : Value × Nat → Option Value := fun (x, k) => if (if step > 0 then decide (start ≤ (k : Int)) && decide ((k : Int) < stop) && ((k : Int) - start) % step == 0 else decide (stop < (k : Int)) && decide ((k : Int) ≤ start) && (start - (k : Int)) % (-step) == 0) = true then none else some x
theorem delSl {l sl : Addr} {items : Array Value} {n : Nat} {vl vu : Value} {lo hi : Option Int} {j : Nat} {Q : Unit → Shared → Prop} (e : s.heap.get? l = some { cls := .type "list", data := .seq items n })
    (hs : s.heap.IsSliceOf sl vl vu .none) (pl : IsPart vl lo) (pu : IsPart vu hi) (hb : sliceBounds lo hi none items.size = (0, (j : Int), 1)) (hz : items.size ≤ sizeLine)
    (h : Q () { s with heap := s.heap.update l (Obj.mapSeq fun xs => (xs.toList.drop j).toArray) }) : wpAny (model prog w) A (delItem (.ref l) (.ref sl)) Q E s := by
  have tl : s.TypeIs (.ref l) "list" := (PySem.IsL.isList e).typeIs
  obtain ⟨o, ho, hc, hd⟩ := id hs
  have ts : s.TypeIs (.ref sl) "slice" := ⟨o, ho, hc⟩
  refine wpAny_delItem_slot tl (by decide) F.slot_list_delitem (wpAny_call_entry F.slot_list_delitem tl F.entry_list_delitem ?_ (F.args_list_delitem_2 _ _))
  show wpAny _ _ (Builtin.List.listSubscript? (.ref sl) >>= _) _ _ s
  refine wpAny_bind ?_; unfold Builtin.List.listSubscript?
  refine wpAny_bind (wpAny_specialOf ts slice_no_index ?_); simp only [Option.isNone_none, if_true]
  refine wpAny_pure (?_ : wpAny _ _ (typeOf (.ref sl) >>= _) _ _ s)
  refine wpAny_bind (wpAny_typeOf ts ?_); (first | rw [if_neg (by decide)] | refine PySem.W.KFB.if_not (by decide) ?_)
  rw [listSliceParts_eq]; refine wpAny_bind (wpAny_bind (wpAny_field ho hd (x := .none) rfl (wpAny_bind (wpAny_listPart .none ?_))))
  rw [if_neg (show ¬ ((rawPart none == rawInt 0) = true) from Bool.false_ne_true)]
  refine wpAny_bind (wpAny_field ho hd (x := vl) rfl (wpAny_bind (wpAny_listPart pl (wpAny_bind (wpAny_field ho hd (x := vu) rfl (wpAny_bind (wpAny_listPart pu (wpAny_pure ?_))))))))
  unfold Builtin.List.listItems; refine wpAny_bind (wpAny_bind (wpAny_seqItems e rfl (wpAny_pure ?_)))
  refine wpAny_bind (wpAny_of_eq ((sliceIndices_raw lo hi none items.size (by simp)).trans (congrArg (pure : Int × Int × Int → Sem (Int × Int × Int)) hb)) ?_)
  refine wpAny_bind (wpAny_rule ?_)
  show wpAny _ _ (updateSeq l (fun xs => (xs.toList.zipIdx.filterMap (dropF (0 : Int) (j : Int) 1)).toArray) >>= _) _ _ s
  have ef : (fun xs : Array Value => (xs.toList.zipIdx.filterMap (dropF (0 : Int) (j : Int) 1)).toArray) = fun xs => (xs.toList.drop j).toArray := funext fun xs => by
    rw [show dropF (0 : Int) (j : Int) 1 = fun p => if (decide ((0 : Int) ≤ (p.2 : Int)) && decide ((p.2 : Int) < (j : Int)) && ((p.2 : Int) - 0) % 1 == 0) = true then none else some p.1 from funext fun ⟨x, k⟩ => rfl]
    rw [cutIdx j xs.toList 0]; rfl
  rw [ef]
  have zf : ((fun xs : Array Value => (xs.toList.drop j).toArray) items).size ≤ sizeLine + 1 := by
    simp only [List.size_toArray, List.length_drop, Array.length_toList]; omega
  refine wpAny_bind (wpAny_updateSeq (hz := hz) (_hz' := zf) e rfl (wpAny_bind (wpAny_letGo ?_)))
  exact wpAny_pure ⟨.none, rfl, h⟩
end
def mDelSl (ta : TE) (tl th : TO) : TS := fun D σ H => ta σ H fun x H1 => tl σ H1 fun lo H2 => th σ H2 fun hi H3 => ∃ (l : Addr) (xs : List V) (j : Nat), x = .ref l ∧ H3 l = some (.lst xs) ∧ sliceBounds lo hi none xs.length = (0, (j : Int), 1) ∧ D.nx σ (upd H3 l (.lst (xs.drop j)))
/-- a written tuple as it lies -/
structure KTx (K : PySem.W.Frag) (a : Addr) (zs : List V) : Prop where
  ex : ∃ (its : Array Value) (n : Nat), K.lookup a = some ⟨.type "tuple", none, .seq its n, #[]⟩ ∧ Vals zs its.toList ∧ its.size ≤ 1000
def isTx (K : PySem.W.Frag) (ns : List Int) (a : Addr) : Bool := match K.lookup a with
  | some ⟨.type c, none, .seq its _, sl⟩ => decide (c = "tuple") && (sl.isEmpty && (decide (its.size ≤ 1000) && isDs K (ns.map PyData.int) its.toList))
  | _ => false
theorem isTx_ok {K : PySem.W.Frag} {ns : List Int} {a : Addr} (h : isTx K ns a = true) : KTx K a (ns.map V.int) := by
  unfold isTx at h
  split at h
  · rename_i c its n sl e
    obtain ⟨h1, h2⟩ := He.ba h
    obtain ⟨h3, h4⟩ := He.ba h2
    obtain ⟨h5, h6⟩ := He.ba h4
    have e1 : c = "tuple" := of_decide_eq_true h1
    have e2 : sl = #[] := Array.isEmpty_iff.mp h3
    subst e1 e2
    refine ⟨its, n, e, ?_, of_decide_eq_true h5⟩
    have : ∀ (ns : List Int) (us : List Value), isDs K (ns.map PyData.int) us = true → Vals (ns.map V.int) us := by
      intro ns
      induction ns with
      | nil => intro us h; cases us with
        | nil => exact .nil
        | cons _ _ => simp [isDs] at h
      | cons n ns ih => intro us h; cases us with
        | nil => simp [isDs] at h
        | cons u us =>
          rw [List.map_cons] at h
          unfold isDs at h
          obtain ⟨k1, k2⟩ := He.ba h
          cases u with
          | int i t => unfold isD at k1; exact .cons ⟨t, by rw [of_decide_eq_true k1]⟩ (ih us k2)
          | _ => simp [isD] at k1
    exact this ns _ h6
  · cases h
def rExt (K : PySem.W.Frag) : V → List V → Hp → VK → Prop := fun x vs H Q => ∃ l b xs zs, x = .ref l ∧ vs = [.ref b] ∧ H l = some (.lst xs) ∧ (H b = some (.lst zs) ∨ KTx K b zs) ∧ xs.length + zs.length ≤ sizeLine ∧ Q .non (upd H l (.lst (xs ++ zs)))
theorem mt_ext {X : Cx} : MtR X "list.extend" (rExt X.K) := by
  intro pins s σ H x vs v us Q I rx rv h
  obtain ⟨l, b, xs, zs, rfl, rfl, hH, hB | hB, hz, q⟩ := h
  · exact mt_extend pins s σ H (.ref l) [.ref b] v us Q I rx rv ⟨l, b, xs, zs, rfl, rfl, hH, hB, hz, q⟩
  · obtain rfl : v = Value.ref l := rx
    obtain ⟨u, rfl, ru⟩ := rv.one
    obtain rfl : u = Value.ref b := ru
    obtain ⟨its2, n2, hl2, r2, z2⟩ := hB.ex
    obtain ⟨z, its, n, r, hl, e⟩ := I.lstM hH
    have ll := r2.length
    have sz : its.toArray.size + its2.size ≤ sizeLine := by rw [List.size_toArray, ← Array.length_toList]; omega
    have long : ¬ (!its.toArray.isEmpty && Builtin.List.listTooLong (its.toArray.size + its2.size)) = true := by rw [notLongL sz, Bool.and_false]; exact Bool.false_ne_true
    refine call_meets F.slot_list_extend ⟨_, e, rfl⟩ F.entry_list_extend (F.args_list_extend_2 _ _) (AutoSeq1.list_extend_list_tuple_0 l its.toArray n b its2 n2 long (by rw [List.size_toArray]; omega) (by omega)) ⟨e, I.kIn _ _ hl2, ?_⟩
    refine ⟨.non, _, I.lset (its' := its ++ its2.toList) hH e (by simp) (r.append r2) ?_, rfl, q⟩
    rw [List.length_append]; exact hz
theorem ps_delsl {X : Cx} {o : Expr} {lo hi : Option Expr} {ta : TE} {tl th : TO} {sp tp pos : Pos} (ho : PE X o ta) (hl : PO X lo tl) (hh : PO X hi th) : PS X (.Delete [.Subscript o (.Slice lo hi none sp) tp] pos) (mDelSl ta tl th) := by
  refine ⟨fun pins s σ H D I h => ?_⟩
  refine wpAny_Delete (wpAny_deleteEach_cons (wpAny_delete_Subscript (thn (ho.run pins s σ H _ I h) fun u s1 ⟨x, H1, I1, rx, q1⟩ => ?_)))
  refine wpAny_Slice (thn (hl.run pins s1 σ H1 _ I1 q1) fun vl s2 ⟨l', H2, I2, pl, q2⟩ => thn (hh.run pins s2 σ H2 _ I2 q2) fun vu s3 ⟨u', H3, I3, pu, q3⟩ => ?_)
  rw [evalPart_none]
  obtain ⟨l, xs, j, rfl, hH, hb, q⟩ := q3
  obtain rfl : u = Value.ref l := rx
  refine wpAny_pure (?_ : wpAny (model X.prog X.w) X.A (delItem (.ref l) (.ref s3.heap.objs.size)) _ X.xe { s3 with heap := s3.heap.push { cls := .type "slice", data := .fields #[vl, vu, .none] } })
  have I4 : Inv X pins σ H3 { s3 with heap := s3.heap.push { cls := .type "slice", data := .fields #[vl, vu, .none] } } := I3.kept (t' := s3.toks) fun b ob q => Heap.get?_push_of_some _ q
  obtain ⟨z, its, n, ri, hi1, e⟩ := I4.lstM hH
  refine delSl (j := j) e (Heap.IsSliceOf.new ..) pl pu (by rw [List.size_toArray, ← hi1]; exact hb) (by rw [List.size_toArray]; omega) ?_
  refine wpAny_deleteEach_nil ⟨σ, _, I4.lset (its' := its.drop j) (t' := s3.toks) hH e (by simp) (ri.drop _) ?_, q⟩
  rw [List.length_drop]
  omega
/-! ### an attribute as one of several targets -/
def gObj (C : Addr) (names : List Str) (i : Nat) (to : TE) : TG := fun v σ H Q => to σ H fun x H1 => ∃ p dx vals, x = .ref p ∧ H1 p = some (.ins C dx (names.zip vals)) ∧ i ≤ vals.length ∧ Q σ (upd H1 p (.ins C dx (names.zip (setN vals i v))))
theorem pg_obj {X : Cx} {C : Addr} {names : List Str} {i : Nat} {f : Str} {o : Expr} {to : TE} {pos : Pos} (cl : Cls X.K C) (na : NoAttr X.K C f) (nd : names.Nodup) (hi : names[i]? = some f) (hl : names.length < 1000) (ho : PE X o to)
    (ha : ∀ v, assign (.Attribute o f pos) X.env v = (do
      let ov ← holding [v] (eval o X.env); standAt pos.atName
      holding [v, ov] (setAttr ov f v); release [v, ov] []) := by intro _; rfl) : PG X (.Attribute o f pos) (gObj C names i to) := by
  refine ⟨fun pins s σ H v u Q I r h => ?_⟩
  rw [ha]
  refine wpAny_bind (wpAny_holding (thn (ho.run pins s σ H _ I h) fun ov s1 ⟨x, H1, I1, r1, p, dx, vals, ex, ea, hle, q1⟩ => ?_))
  subst ex
  obtain rfl : ov = Value.ref p := r1
  refine wpAny_bind (wpAny_standAt (wpAny_bind (wpAny_holding (setattr_ok I1 ea cl na (by simp; omega) r fun s3 I3 => ?_))))
  rw [put_z nd hi hle] at I3
  exact wpAny_release ⟨σ, _, I3, q1⟩
/-! ### texts put together: numbers and written signs -/
def mJoin (ts : List TE) : TE := fun σ H Q => tJs ts Str.empty σ H fun out H1 => Q (.str out) H1
end PB

set_option maxRecDepth 100000
set_option autoImplicit false
set_option maxHeartbeats 4000000
namespace PB
open PySem PySem.Spec PyProof.Rows L2
open C8 (Mak)
/-! ### C(e, .., k = v): a keyword-only parameter of __init__, given or by its default -/
structure MakK (P : Program) (w : World) (K : PySem.W.Frag) (mg : Str → Option Value) (base : Heap) (k : Nat) (x : Str) (C : Addr) (sp : Sp) (n : Nat) (ks : List Str) : Prop where
  ex : ∃ (f : Addr) (fd : FuncData) (ps : List Str), Mk K C f ∧ FnOk P w K mg base CX0 k f fd ps sp ∧ mg x = some (.ref C) ∧ KBn K fd ps (n + 1) ks (fun us ws => us ++ ws) (fun vs zs => vs ++ zs)
def mMakeK (C : Addr) (sp : Sp) (n m : Nat) (t tk : TA) : TE := fun σ H Q => t σ H fun vs H1 => tk σ H1 fun zs H2 => vs.length = n ∧ zs.length = m ∧ ∀ x dx, H2 x = none → H2 dx = none → dx ≠ x →
  sp (.ref x :: (vs ++ zs)) (upd (upd H2 dx (.own x)) x (.ins C dx [])) (fun v H3 => v = .non ∧ Q (.ref x) H3) E0
theorem pe_mmkK {X : Cx} {C : Addr} {sp : Sp} {j k n m : Nat} {x : Str} {ks : List Str} {e : Expr} {es : List Expr} {kws : List Keyword} {t tk : TA} {pos pos' : Pos} (c : MakK X.prog X.w X.K X.mg X.base k x C sp n ks) (hr : Room j X.A) (hk : k + 1 ≤ j) (hg : Gl X x) (ha : PA X (e :: es) t) (hkw : PK X kws tk)
    (hm' : ks.length = m := by rfl) (hks : (backToKw pos (keywordEach kws X.env)).filterMap (·.1) = ks := by rfl) (hall : (backToKw pos (keywordEach kws X.env)).all (·.1.isSome) = true := by rfl) (hdb : (x == ("__debug__" : Str)) = false := by decide)
    (he : starEach (e :: es) X.env = (false, eval e X.env) :: starEach es X.env := by rfl) (hpl : ((backTo pos (starEach (e :: es) X.env)).any (·.1) || (backToKw pos (keywordEach kws X.env)).any (·.1.isNone)) = false := by rfl) :
    PE X (.Call (.Name x pos') (e :: es) kws pos) (mMakeK C sp n m t tk) := by
  subst hm'
  obtain ⟨f, fd, ps, M, F, hm, b⟩ := c.ex
  exact pe_makeK (E := L2.E0) M F (hr.mono hk) hg hm b pass0 ha hkw hall hks hdb he hpl
theorem makK_ok {P : Program} {w : World} {K : PySem.W.Frag} {mg : Str → Option Value} {base : Heap} {x qual : Str} {st : Stmt} {N ps ks : List Str} {kws : List (Str × V)} {k n : Nat} {sp : Sp} {t : TS}
    (F : ∃ fd, FunD K "__init__" qual (defArgs st) (defBody st) (defScope st) [] kws (He.ma K (He.ga K x) "__init__") fd) (g : mg x = some (.ref (He.ga K x))) (M : Mk K (He.ga K x) (He.ma K (He.ga K x) "__init__")) (hk : kws ≠ [])
    (S : FnScope N ps (defScope st)) (len : Len ps.length sp) (hb : ∀ (D : Addr) (doc pm : Value) (an : Option Addr) (cdv ct : Value) (us ws : List Value), us.length = n + 1 → ws.length = ks.length →
      bindArgs (PySem.W.fnOf "__init__" qual (defArgs st) (defBody st) (defScope st) .none (.ref D) doc pm an cdv ct) ⟨us, ks.zip ws⟩ = pure (ps.zip (us ++ ws)))
    (b : Body P w K mg base k N qual st t) (p : Pure N sp t) : MakK P w K mg base (k + 1) x (He.ga K x) sp n ks := by
  obtain ⟨fd, F⟩ := F
  obtain ⟨mv, kb⟩ := F.kbinds0 (ps := ps) (n + 1) ks [] (fun vs mz zs => vs ++ zs) hk (fun q h => by cases h) (fun r1 _ r2 => r1.append r2) (fun D doc pm an cdv ct us mv ws l1 _ l3 => hb D doc pm an cdv ct us ws l1 l3)
  exact ⟨_, fd, ps, M, F.ok S len fun cdv A outer s H vs Q E hr h => ⟨t, (b _ cdv A outer s H E hr).nox, p vs H Q E h⟩, g, kb⟩
theorem makD_ok {P : Program} {w : World} {K : PySem.W.Frag} {mg : Str → Option Value} {base : Heap} {x qual : Str} {st : Stmt} {N ps : List Str} {kws : List (Str × V)} {k n : Nat} {sp : Sp} {t : TS}
    (F : ∃ fd, FunD K "__init__" qual (defArgs st) (defBody st) (defScope st) [] kws (He.ma K (He.ga K x) "__init__") fd) (g : mg x = some (.ref (He.ga K x))) (M : Mk K (He.ga K x) (He.ma K (He.ga K x) "__init__")) (hk : kws ≠ []) (hn : n + 1 + kws.length = ps.length)
    (S : FnScope N ps (defScope st)) (len : Len ps.length sp) (hb : ∀ (D : Addr) (doc pm : Value) (an : Option Addr) (cdv ct : Value) (us ks : List Value), us.length = n + 1 → ks.length = kws.length →
      KwChain D ((kws.map (·.1)).zip ks) (bindArgs (PySem.W.fnOf "__init__" qual (defArgs st) (defBody st) (defScope st) .none (.ref D) doc pm an cdv ct) ⟨us, []⟩) (ps.zip (us ++ ks)))
    (b : Body P w K mg base k N qual st t) (p : Pure N sp t) : Mak P w K mg base (k + 1) x (He.ga K x) sp (kws.map (·.2)) := by
  obtain ⟨fd, F⟩ := F
  obtain ⟨ds, rd, bd⟩ := F.binds0 (ps := ps) (n + 1) hk hn hb
  exact ⟨_, fd, ps, ds, M, F.ok S len fun cdv A outer s H vs Q E hr h => ⟨t, (b _ cdv A outer s H E hr).nox, p vs H Q E h⟩, g, bd, rd⟩
/-- with the defaults dvs behind -/
def mMakeD (C : Addr) (sp : Sp) (dvs : List V) (t : TA) : TE := fun σ H Q => t σ H fun vs H1 => ∀ x dx, H1 x = none → H1 dx = none → dx ≠ x →
  sp (.ref x :: vs ++ dvs) (upd (upd H1 dx (.own x)) x (.ins C dx [])) (fun v H2 => v = .non ∧ Q (.ref x) H2) E0
theorem pe_mmkD {X : Cx} {C : Addr} {sp : Sp} {j k : Nat} {x : Str} {dvs : List V} {e : Expr} {es : List Expr} {t : TA} {pos pos' : Pos} (c : Mak X.prog X.w X.K X.mg X.base k x C sp dvs) (hr : Room j X.A) (hk : k + 1 ≤ j) (hg : Gl X x) (ha : PA X (e :: es) t)
    (hdb : (x == ("__debug__" : Str)) = false := by decide) (he : starEach (e :: es) X.env = (false, eval e X.env) :: starEach es X.env := by rfl) (hpl : (backTo pos (starEach es X.env)).any (·.1) = false := by rfl) :
    PE X (.Call (.Name x pos') (e :: es) [] pos) (mMakeD C sp dvs t) := by
  obtain ⟨f, fd, ps, ds, M, F, hm, b, d⟩ := c.ex
  refine ⟨fun pins s σ H Q I h => ?_⟩
  refine wpAny_Call_Name_kw (ld_glob I hg hm ?_ hdb)
  refine PySem.W.callWith_K (first := []) (h₀ := X.base) I.ok.mod.kin M.kp (thn (ha.run pos pins s σ H _ I h) fun us s1 ⟨vs, H1, I1, r, q⟩ => ⟨I1.kIn, run_make (E := L2.E0) M F (hr.mono hk) b d pass0 I1 r q⟩) he hpl
end PB

local macro_rules | `(tactic| walk_at "ne") => `(tactic| first
  | assumption
  | (apply Ne.symm; assumption)
  | exact L2.ne_of (by assumption) (by assumption) (by intro z; cases z)
  | exact PB.ne_fresh (by assumption) (by assumption)
  | exact (PB.ne_fresh (by assumption) (by assumption)).symm
  | exact PB.ne_fresh (by assumption) (by walk_at "heap")
  | exact (PB.ne_fresh (by assumption) (by walk_at "heap")).symm)
local macro_rules | `(tactic| walk_at "heap") => `(tactic| first
  | assumption
  | exact L2.upd_same
  | (apply PB.get_ne; (· (walk_at "ne")); (· (walk_at "heap")))
  | exact PB.ext_get (by assumption) (by walk_at "heap"))
local macro_rules | `(tactic| walk_at "pR") => `(tactic| first
  | with_reducible exact PB.p_add
  | with_reducible exact PB.p_sub
  | with_reducible exact PB.p_eqI
  | with_reducible exact PB.p_neI
  | with_reducible exact PB.p_lt
  | with_reducible exact PB.p_le
  | with_reducible exact PB.p_gt
  | with_reducible exact PB.p_ge
  | with_reducible exact PB.p_eqB
  | with_reducible exact PB.p_neB
  | with_reducible exact PB.p_eqS
  | with_reducible exact PB.p_neS
  | with_reducible exact PB.p_isN
  | with_reducible exact PB.p_notN
  | with_reducible exact PB.p_bor
  | with_reducible exact PB.p_band
  | ((with_reducible apply PB.p_inDI); (· (assumption)))
  | ((with_reducible apply PB.p_ixDI); (· (assumption)); (· (assumption)))
  | ((with_reducible apply PB.p_mod); (· (first | omega | decide)))
  | ((with_reducible apply PB.p_div); (· (first | exact ⟨by omega, by decide +kernel⟩ | exact L2.wide_div (b := 64) (by omega) (by omega) (by decide) (by decide))))
  | ((with_reducible apply PB.p_mul); (· (first | assumption | exact PB.CMulW_of (by omega) (by omega))))
  | ((with_reducible apply PB.p_ixH); (· (walk_at "heap")); (· (first | rfl | assumption)))
  | ((with_reducible apply PB.p_ixU); (· (walk_at "heap")); (· (first | rfl | assumption)))
  | ((with_reducible apply PB.p_ixIU); (· (walk_at "heap")); (· (omega)); (· (first | omega | (simp only [List.length_map] at *; omega))))
  | ((with_reducible apply PB.p_ixIL); (· (assumption)); (· (omega)); (· (first | omega | (simp only [List.length_map] at *; omega))))
  | ((with_reducible apply PB.p_ixIH); (· (walk_at "heap")); (· (omega)); (· (first | omega | (simp only [List.length_map] at *; omega)))))
local macro_rules | `(tactic| walk_at "pC") => `(tactic| first
  | with_reducible exact PB.p_abs
  | with_reducible exact PB.p_max
  | with_reducible exact PB.p_min
  | with_reducible exact PB.p_intI
  | with_reducible exact PB.p_intB
  | with_reducible exact PB.p_boolB
  | with_reducible exact PB.p_boolI
  | ((with_reducible apply PB.p_lenH); (· (walk_at "heap")))
  | ((with_reducible apply PB.p_lenU); (· (walk_at "heap")))
  | ((with_reducible apply PB.p_lenL); (· (assumption)))
  | with_reducible exact PB.p_isInt
  | with_reducible exact PB.p_isIntB
  | ((with_reducible apply PB.p_isLst); (· (walk_at "heap")))
  | ((with_reducible apply PB.p_isTup); (· (walk_at "heap"))))
local macro_rules | `(tactic| walk_at "pA") => `(tactic| first
  | with_reducible exact PB.p_nil
  | ((with_reducible apply PB.p_cons); (· (walk_at "pE")); (· (walk_at "pA"))))
local macro_rules | `(tactic| walk_at "pE") => `(tactic| first
  | with_reducible exact PB.p_c
  | ((with_reducible apply PB.p_var); (· (exact rfl)))
  | ((with_reducible apply PB.p_op); (· (walk_at "pE")); (· (walk_at "pE")); (· (walk_at "pR")))
  | ((with_reducible apply PB.p_ofld); (· (walk_at "pE")); (· (walk_at "heap")); (· (exact rfl)))
  | ((with_reducible apply PB.p_dgetz); (· (walk_at "pE")); (· (walk_at "heap")); (· (exact rfl)))
  | ((with_reducible apply PB.p_chain); (· (walk_at "pE")); (· (walk_at "pE")); (· (walk_at "pR")); (· (walk_at "pE")); (· (walk_at "pR")))
  | ((with_reducible apply PB.p_cb); (· (walk_at "pA")); (· (walk_at "pC")))
  | ((with_reducible apply PB.p_neg); (· (walk_at "pE")))
  | ((with_reducible apply PB.p_notV); (· (walk_at "pE")))
  | ((with_reducible apply PB.p_andV); (· (walk_at "pE")); (· (intro _; walk_at "pE")))
  | ((with_reducible apply PB.p_orV); (· (walk_at "pE")); (· (intro _; walk_at "pE")))
  | ((with_reducible apply PB.p_call); (· (walk_at "pA")); (· (walk_at "pS"))))
local macro_rules | `(tactic| walk_at "pT") => `(tactic| first
  | with_reducible exact PB.p_yes
  | ((with_reducible apply PB.p_test); (· (walk_at "pE")))
  | ((with_reducible apply PB.p_and); (· (walk_at "pT")); (· (intro _; walk_at "pT")))
  | ((with_reducible apply PB.p_or); (· (walk_at "pT")); (· (intro _; walk_at "pT")))
  | ((with_reducible apply PB.p_not); (· (walk_at "pT")))
  | ((with_reducible apply PB.p_truB); (· (walk_at "pE")))
  | ((with_reducible apply PB.p_truI); (· (walk_at "pE")))
  | ((with_reducible apply PB.p_truL); (· (walk_at "pE")); (· (walk_at "heap"))))
local macro_rules | `(tactic| walk_at "cond") => `(tactic| (
  intro hcond
  try simp only [Bool.and_eq_true, Bool.or_eq_true, Bool.not_eq_true', Bool.not_eq_false', Bool.and_eq_false_iff, Bool.or_eq_false_iff, decide_eq_true_eq, decide_eq_false_iff_not, PB.intsL, List.mem_cons, List.not_mem_nil, or_false, Bool.not_not, Bool.false_eq_true, Bool.true_eq_false] at hcond) <;> try (exfalso; omega))
local macro_rules | `(tactic| walk_at "w") => `(tactic| first
  | ((with_reducible apply PB.w_seq))
  | ((with_reducible apply PB.w_cut))
  | ((with_reducible apply PB.w_if); (· (walk_at "pT")); all_goals walk_at "cond")
  | ((with_reducible apply PB.w_next))
  | ((with_reducible apply PB.w_ret); (· (walk_at "pE")))
  | ((with_reducible apply PB.w_retN))
  | ((with_reducible apply PB.w_asg); (· (walk_at "pE")))
  | ((with_reducible apply PB.w_oset2); (· (walk_at "pE")); (· (walk_at "pE")); (· (exact Nat.le_of_ble_eq_true rfl)))
  | ((with_reducible apply PB.w_oset); (· (walk_at "pE")); (· (walk_at "pE")); (· (walk_at "heap")); (· (exact Nat.le_of_ble_eq_true rfl)))
  | ((with_reducible apply PB.w_oaug2); (· (walk_at "pE")); (· (exact rfl)); (· (walk_at "pE")))
  | ((with_reducible apply PB.w_oaug); (· (walk_at "pE")); (· (walk_at "heap")); (· (exact rfl)); (· (walk_at "pE")))
  | ((with_reducible apply PB.w_aug); (· (exact rfl)); (· (walk_at "pE")))
  | ((with_reducible apply PB.w_dset2); (· (walk_at "pE")); (· (walk_at "pE")); (· (exact Nat.le_of_ble_eq_true rfl)))
  | ((with_reducible apply PB.w_dset); (· (walk_at "pE")); (· (walk_at "pE")); (· (walk_at "heap")); (· (exact Nat.le_of_ble_eq_true rfl)))
  | ((with_reducible apply PB.w_append); (· (walk_at "pE")); (· (walk_at "heap")); (· (walk_at "pE")); (· (first | assumption | (apply PB.sz_lt; omega))))
  | ((with_reducible apply PB.w_retT); (· (walk_at "pA")); (· (exact PB.szle rfl)))
  | ((with_reducible apply PB.w_retL); (· (walk_at "pA")); (· (exact PB.szle rfl)))
  | ((with_reducible apply PB.w_asgL); (· (walk_at "pA")); (· (exact PB.szle rfl)))
  | ((with_reducible apply PB.w_asgT); (· (walk_at "pA")); (· (exact PB.szle rfl)))
  | ((with_reducible apply PB.w_asgC); (· (walk_at "pA")))
  | ((with_reducible apply PB.w_retC); (· (walk_at "pA")))
  | ((with_reducible apply PB.w_dropC); (· (walk_at "pA")))
  | ((with_reducible apply PB.w_ifC); (· (walk_at "pA")))
  | ((with_reducible apply PB.w_appendT); (· (walk_at "pE")); (· (walk_at "heap")); (· (walk_at "pA")); (· (exact PB.szle rfl)); (· (first | assumption | (apply PB.sz_lt; omega))))
  | ((with_reducible apply PB.w_retM); (· (walk_at "pE")); (· (walk_at "heap")); (· (walk_at "pA")))
  | ((with_reducible apply PB.w_asgM); (· (walk_at "pE")); (· (walk_at "heap")); (· (walk_at "pA")))
  | ((with_reducible apply PB.w_dropM); (· (walk_at "pE")); (· (walk_at "heap")); (· (walk_at "pA")))
  | ((with_reducible apply PB.w_break))
  | ((with_reducible apply PB.w_cont))
  | ((with_reducible apply PB.w_asgK))
  | ((with_reducible apply PB.w_retK))
  | ((with_reducible apply PB.w_dropK))
  | ((with_reducible apply PB.w_osetK))
  | ((with_reducible apply PB.w_dsetK))
  | ((with_reducible apply PB.w_ifK))
  | ((with_reducible apply PB.k_kIf); all_goals walk_at "cond")
  | walk_at "k")
local macro_rules | `(tactic| walk_at "k") => `(tactic| first
  | ((with_reducible apply PB.k_tupP); (· (walk_at "pA")); (· (exact PB.szle rfl)))
  | ((with_reducible apply PB.k_lstP); (· (walk_at "pA")); (· (exact PB.szle rfl)))
  | ((with_reducible apply PB.k_call); (· (walk_at "pA")))
  | ((with_reducible apply PB.k_meth); (· (walk_at "pE")); (· (walk_at "heap")); (· (walk_at "pA")))
  | ((with_reducible apply PB.k_tup))
  | ((with_reducible apply PB.k_lst))
  | ((with_reducible apply PB.k_newT); (· (exact PB.szle rfl)))
  | ((with_reducible apply PB.k_newL); (· (exact PB.szle rfl)))
  | ((with_reducible apply PB.k_callK))
  | ((with_reducible apply PB.k_nil))
  | ((with_reducible apply PB.k_consP); (· (walk_at "pE")))
  | ((with_reducible apply PB.k_cons))
  | ((with_reducible apply PB.k_cb))
  | ((with_reducible apply PB.k_slP); (· (walk_at "pE")))
  | ((with_reducible apply PB.k_part); (· (walk_at "pE")))
  | ((with_reducible apply PB.k_noPart))
  | ((with_reducible apply PB.k_tupleOf); (· (walk_at "heap")))
  | ((with_reducible apply PB.k_listOf); (· (walk_at "heap")))
  | ((with_reducible apply PB.k_listOfL); (· (assumption)))
  | ((with_reducible apply PB.k_slL); (· (walk_at "heap")))
  | ((with_reducible apply PB.k_slLs); (· (assumption)))
  | ((with_reducible apply PB.k_cat); (· (walk_at "heap")); (· (walk_at "heap")); (· (first | exact PB.szle rfl | (apply PB.sz_le; simp only [List.length_map, List.length_append, List.length_cons, List.length_nil] at *; omega))))
  | ((with_reducible apply PB.k_inU); (· (walk_at "heap")); (· (exact rfl)))
  | ((with_reducible apply PB.k_inL); (· (walk_at "heap")); (· (exact rfl)))
  | ((with_reducible apply PB.k_notInL); (· (walk_at "heap")); (· (exact rfl)))
  | ((with_reducible apply PB.k_lc))
  | ((with_reducible apply PB.k_orP); (· (walk_at "pT")); all_goals walk_at "cond")
  | ((with_reducible apply PB.k_andP); (· (walk_at "pT")); all_goals walk_at "cond")
  | ((with_reducible apply PB.k_or))
  | ((with_reducible apply PB.k_and))
  | ((with_reducible apply PB.k_notK))
  | ((with_reducible apply PB.k_kOr); all_goals walk_at "cond")
  | ((with_reducible apply PB.k_kAnd); all_goals walk_at "cond")
  | ((with_reducible apply PB.k_kNot))
  | ((with_reducible apply PB.k_kM); (· (walk_at "heap")); (· (walk_at "pA")))
  | ((with_reducible apply PB.k_methK))
  | ((with_reducible apply PB.k_make); (· (walk_at "pA")))
  | ((with_reducible apply PB.k_testK))
  | ((with_reducible apply PB.k_kTest))
  | ((with_reducible apply PB.k_kTru))
  | ((with_reducible apply PB.k_kTruI))
  | ((with_reducible apply PB.k_kTruN))
  | ((with_reducible apply PB.k_truK))
  | ((with_reducible apply PB.k_op))
  | ((with_reducible apply PB.k_pure); (· (walk_at "pE"))))
local macro_rules | `(tactic| walk_at "ws") => `(tactic| repeat' walk_at "w")
local macro_rules | `(tactic| walk_at "len") => `(tactic| (
  intro vs H Q E h
  first
  | (obtain ⟨e, _⟩ := h; subst e; rfl)
  | (obtain ⟨_, e, _⟩ := h; subst e; rfl)
  | (obtain ⟨_, _, e, _⟩ := h; subst e; rfl)
  | (obtain ⟨_, _, _, e, _⟩ := h; subst e; rfl)
  | (obtain ⟨_, _, _, _, e, _⟩ := h; subst e; rfl)
  | (obtain ⟨_, _, _, _, _, e, _⟩ := h; subst e; rfl)
  | (obtain ⟨_, _, _, _, _, _, e, _⟩ := h; subst e; rfl)
  | (obtain ⟨_, _, _, _, _, _, _, e, _⟩ := h; subst e; rfl)
  | (obtain ⟨_, _, _, _, _, _, _, _, e, _⟩ := h; subst e; rfl)
  | (obtain ⟨_, _, _, _, _, _, _, _, _, e, _⟩ := h; subst e; rfl)
  | (obtain ⟨_, _, _, _, _, _, _, _, _, _, e, _⟩ := h; subst e; rfl)
  | (obtain ⟨_, _, _, _, _, _, _, _, _, _, _, e, _⟩ := h; subst e; rfl)))
namespace PG
open PySem PySem.Spec PyProof.Rows L2
open PB (setN)
/-! ### frames: what may change, what is new -/
def Fr (o o' : List Addr) (H H' : Hp) : Prop := (∀ a x, a ∉ o → H a = some x → H' a = some x) ∧ ∀ a, a ∈ o' → a ∈ o ∨ H a = none
theorem Fr.refl (o : List Addr) (H : Hp) : Fr o o H H := ⟨fun _ _ _ h => h, fun _ h => .inl h⟩
theorem Fr.trans {o o1 o2 : List Addr} {H H1 H2 : Hp} (a : Fr o o1 H H1) (b : Fr o1 o2 H1 H2) : Fr o o2 H H2 := by
  refine ⟨fun x y hx hy => b.1 x y (fun m => ?_) (a.1 x y hx hy), fun x m => ?_⟩
  · rcases a.2 x m with h | h
    · exact hx h
    · rw [hy] at h; cases h
  · rcases b.2 x m with h | h
    · exact a.2 x h
    · by_cases hx : x ∈ o
      · exact .inl hx
      · right
        cases e : H x with
        | none => rfl
        | some y => rw [a.1 x y hx e] at h; cases h
/-! ### data that never change: tuples of them, numbers, texts -/
mutual
def imm : PyData → Bool
  | .tuple ds => immAll ds
  | .list _ => false
  | .dict _ => false
  | _ => true
def immAll : List PyData → Bool
  | [] => true
  | d :: ds => imm d && immAll ds
end
/-- tuples stay -/
def Tst (H H' : Hp) : Prop := ∀ a xs, H a = some (.tup xs) → H' a = some (.tup xs)
theorem Tst.refl (H : Hp) : Tst H H := fun _ _ h => h
theorem Tst.trans {H H1 H2 : Hp} (a : Tst H H1) (b : Tst H1 H2) : Tst H H2 := fun x y h => b x y (a x y h)
/-! Dp, no tuple of it frozen -/
mutual
def Im (K : PySem.W.Frag) (H : Hp) : PyData → V → Prop
  | .tuple ds, v => ∃ a xs, v = .ref a ∧ H a = some (.tup xs) ∧ ImAll K H ds xs
  | .none, v => v = .non
  | .bool b, v => v = .bl b
  | .int i, v => v = .int i
  | .str x, v => v = .str x
  | .list _, _ => False
  | .dict _, _ => False
def ImAll (K : PySem.W.Frag) (H : Hp) : List PyData → List V → Prop
  | [], xs => xs = []
  | d :: ds, xs => ∃ v r, xs = v :: r ∧ Im K H d v ∧ ImAll K H ds r
end
mutual
theorem Im.mono {K : PySem.W.Frag} {H H' : Hp} (t : Tst H H') : ∀ (d : PyData) (v : V), Im K H d v → Im K H' d v
  | .tuple ds, v, h => by
    unfold Im at h ⊢
    obtain ⟨a, xs, rfl, h1, h2⟩ := h
    exact ⟨a, xs, rfl, t a xs h1, ImAll.mono t ds xs h2⟩
  | .none, v, h => by unfold Im at h ⊢; exact h
  | .bool b, v, h => by unfold Im at h ⊢; exact h
  | .int i, v, h => by unfold Im at h ⊢; exact h
  | .str x, v, h => by unfold Im at h ⊢; exact h
  | .list _, _, h => by unfold Im at h; exact h.elim
  | .dict _, _, h => by unfold Im at h; exact h.elim
theorem ImAll.mono {K : PySem.W.Frag} {H H' : Hp} (t : Tst H H') : ∀ (ds : List PyData) (xs : List V), ImAll K H ds xs → ImAll K H' ds xs
  | [], _, h => by unfold ImAll at h ⊢; exact h
  | d :: ds, xs, h => by
    unfold ImAll at h ⊢
    obtain ⟨v, r, rfl, h1, h2⟩ := h
    exact ⟨v, r, rfl, Im.mono t d v h1, ImAll.mono t ds r h2⟩
end
mutual
theorem Im.dp {K : PySem.W.Frag} {H : Hp} : ∀ (d : PyData) (v : V), Im K H d v → Dp K H v d
  | .tuple ds, v, h => by
    unfold Im at h
    obtain ⟨a, xs, rfl, h1, h2⟩ := h
    exact .tup (SqT.of h1) (ImAll.dp ds xs h2)
  | .none, v, h => by unfold Im at h; subst h; exact .non
  | .bool b, v, h => by unfold Im at h; subst h; exact .bl b
  | .int i, v, h => by unfold Im at h; subst h; exact .int i
  | .str x, v, h => by unfold Im at h; subst h; exact .str x
  | .list _, _, h => by unfold Im at h; exact h.elim
  | .dict _, _, h => by unfold Im at h; exact h.elim
theorem ImAll.dp {K : PySem.W.Frag} {H : Hp} : ∀ (ds : List PyData) (xs : List V), ImAll K H ds xs → DpAll K H xs ds
  | [], _, h => by unfold ImAll at h; subst h; exact .nil
  | d :: ds, xs, h => by
    unfold ImAll at h
    obtain ⟨v, r, rfl, h1, h2⟩ := h
    exact .cons (Im.dp d v h1) (ImAll.dp ds r h2)
end
theorem im_int {K : PySem.W.Frag} {H : Hp} {i : Int} : Im K H (.int i) (.int i) := by unfold Im; rfl
theorem im_str {K : PySem.W.Frag} {H : Hp} {x : Str} : Im K H (.str x) (.str x) := by unfold Im; rfl
theorem im_non {K : PySem.W.Frag} {H : Hp} : Im K H .none .non := by unfold Im; rfl
theorem im_nil {K : PySem.W.Frag} {H : Hp} : ImAll K H [] [] := by unfold ImAll; rfl
theorem im_cons {K : PySem.W.Frag} {H : Hp} {d : PyData} {ds : List PyData} {v : V} {r : List V} (h : Im K H d v) (t : ImAll K H ds r) : ImAll K H (d :: ds) (v :: r) := by unfold ImAll; exact ⟨v, r, rfl, h, t⟩
theorem im_tup {K : PySem.W.Frag} {H : Hp} {a : Addr} {xs : List V} {ds : List PyData} (h : H a = some (.tup xs)) (t : ImAll K H ds xs) : Im K H (.tuple ds) (.ref a) := by unfold Im; exact ⟨a, xs, rfl, h, t⟩
theorem im_ints {K : PySem.W.Frag} {H : Hp} : ∀ ns : List Int, ImAll K H (ns.map PyData.int) (ns.map V.int)
  | [] => im_nil
  | n :: ns => im_cons im_int (im_ints ns)
theorem ts_new {H : Hp} {p : Addr} {o : HO} (h : H p = none) : Tst H (upd H p o) := fun a xs e => by rw [upd_ne (ne_of_none e h)]; exact e
theorem ts_lst {H : Hp} {p : Addr} {o : HO} {ys : List V} (h : H p = some (.lst ys)) : Tst H (upd H p o) := fun a xs e => by rw [upd_ne (ne_of e h (by intro z; cases z))]; exact e
theorem ts_ins {H : Hp} {p C dx : Addr} {o : HO} {fs : List (Str × V)} (h : H p = some (.ins C dx fs)) : Tst H (upd H p o) := fun a xs e => by rw [upd_ne (ne_of e h (by intro z; cases z))]; exact e
theorem fr_upd {o o' : List Addr} {H H1 : Hp} {a : Addr} {x : HO} (f : Fr o o' H H1) (ha : a ∈ o') : Fr o o' H (upd H1 a x) := by
  refine ⟨fun c y hc hy => ?_, f.2⟩
  have ne : c ≠ a := fun e => by
    subst e
    rcases f.2 c ha with h | h
    · exact hc h
    · rw [hy] at h; cases h
  rw [upd_ne ne]
  exact f.1 c y hc hy
theorem fr_base {o o' : List Addr} {H : Hp} (h : ∀ a, a ∈ o' → a ∈ o ∨ H a = none) : Fr o o' H H := ⟨fun _ _ _ x => x, h⟩
theorem fr_new {o o' : List Addr} {H H1 : Hp} {a : Addr} {x : HO} (f : Fr o o' H H1) (ha : H1 a = none) : Fr o o' H (upd H1 a x) := by
  refine ⟨fun c y hc hy => ?_, f.2⟩
  have h := f.1 c y hc hy
  rw [upd_ne (ne_of_none h ha)]
  exact h
theorem fr_ext {o o' : List Addr} {H H1 H2 : Hp} (f : Fr o o' H H1) (e : PB.Ext H1 H2) : Fr o o' H H2 := ⟨fun c y hc hy => e c y (f.1 c y hc hy), f.2⟩
theorem own_new {o : List Addr} {H H1 : Hp} {l : Addr} (h : H1 l = none) (f : Fr o o H H1) : l ∈ o ∨ H l = none := by
  by_cases hx : l ∈ o
  · exact .inl hx
  · right
    cases e : H l with
    | none => rfl
    | some y => rw [f.1 l y hx e] at h; cases h
theorem all_nil {P : Addr → Prop} : ∀ a, a ∈ ([] : List Addr) → P a := fun _ h => by cases h
theorem all_cons {P : Addr → Prop} {b : Addr} {r : List Addr} (h : P b) (t : ∀ a, a ∈ r → P a) : ∀ a, a ∈ b :: r → P a := fun a m => by
  rcases List.mem_cons.mp m with e | e
  · exact e ▸ h
  · exact t a e
theorem ts_updL {H H1 : Hp} {a : Addr} {x : HO} {ys : List V} (t : Tst H H1) (h : H1 a = some (.lst ys)) : Tst H (upd H1 a x) := t.trans (ts_lst h)
theorem ts_updI {H H1 : Hp} {a C dx : Addr} {x : HO} {fs : List (Str × V)} (t : Tst H H1) (h : H1 a = some (.ins C dx fs)) : Tst H (upd H1 a x) := t.trans (ts_ins h)
theorem ts_updN {H H1 : Hp} {a : Addr} {x : HO} (t : Tst H H1) (h : H1 a = none) : Tst H (upd H1 a x) := t.trans (ts_new h)
theorem ts_updD {H H1 : Hp} {a : Addr} {x : HO} {kvs : List (Key × V)} (t : Tst H H1) (h : H1 a = some (.dK kvs)) : Tst H (upd H1 a x) := t.trans fun c xs e => by rw [upd_ne (ne_of e h (by intro z; cases z))]; exact e
local macro_rules | `(tactic| walk_at "mem") => `(tactic| first
  | exact List.mem_cons_self ..
  | (apply List.mem_cons_of_mem; walk_at "mem"))
theorem ts_ext {H H1 H2 : Hp} (t : Tst H H1) (e : PB.Ext H1 H2) : Tst H H2 := t.trans fun a xs h => e a _ h
local macro_rules | `(tactic| walk_at "fr") => `(tactic| first
  | exact Fr.refl _ _
  | (apply fr_upd; (· (walk_at "fr")); (· (walk_at "mem")))
  | (refine fr_ext ?_ (by assumption); walk_at "fr")
  | (apply fr_base; walk_at "all"))
local macro_rules | `(tactic| walk_at "all") => `(tactic| first
  | exact all_nil
  | (apply all_cons; (· (first | (left; walk_at "mem") | exact own_new (by assumption) (by walk_at "fr"))); (· (walk_at "all"))))
local macro_rules | `(tactic| walk_at "ts") => `(tactic| first
  | exact Tst.refl _
  | (apply ts_updL; (· (walk_at "ts")); (· (walk_at "heap")))
  | (apply ts_updI; (· (walk_at "ts")); (· (walk_at "heap")))
  | (apply ts_updD; (· (walk_at "ts")); (· (walk_at "heap")))
  | (refine ts_ext ?_ (by assumption); walk_at "ts"))

/-! ### data: their shape, == of numbers' tuples -/
def Sh (n : Nat) (d : PyData) : Prop := d.canLay0 = true ∧ d.depth ≤ n
def ShA (n : Nat) (ds : List PyData) : Prop := PyData.canLayAll0 ds = true ∧ PyData.depthAll ds ≤ n
theorem Sh.ok {n : Nat} {d : PyData} (h : Sh n d) (hn : n ≤ 64) : SeqAt.shaped d = true := by
  unfold SeqAt.shaped
  rw [h.1, Bool.true_and, decide_eq_true_eq]
  exact Nat.le_trans h.2 hn
theorem Sh.mono {n m : Nat} {d : PyData} (h : Sh n d) (hn : n ≤ m) : Sh m d := ⟨h.1, Nat.le_trans h.2 hn⟩
theorem sh_int {n : Nat} {i : Int} : Sh n (.int i) := ⟨by simp [PyData.canLay0], by simp [PyData.depth]⟩
theorem sh_none {n : Nat} : Sh n .none := ⟨by simp [PyData.canLay0], by simp [PyData.depth]⟩
theorem sh_bool {n : Nat} {b : Bool} : Sh n (.bool b) := ⟨by simp [PyData.canLay0], by simp [PyData.depth]⟩
theorem sh_str {n : Nat} {x : Str} (h : PyData.strOk x = true) : Sh n (.str x) := ⟨by simp [PyData.canLay0, h], by simp [PyData.depth]⟩
theorem sh_nil {n : Nat} : ShA n [] := ⟨by simp [PyData.canLayAll0], by simp [PyData.depthAll]⟩
theorem sh_cons {n : Nat} {d : PyData} {ds : List PyData} (h : Sh n d) (t : ShA n ds) : ShA n (d :: ds) :=
  ⟨by simp [PyData.canLayAll0, h.1, t.1], by have := h.2; have := t.2; simp only [PyData.depthAll]; omega⟩
theorem sh_all {n : Nat} : ∀ {ds : List PyData}, (∀ d ∈ ds, Sh n d) → ShA n ds
  | [], _ => sh_nil
  | d :: ds, h => sh_cons (h d (List.mem_cons_self ..)) (sh_all fun x hx => h x (List.mem_cons_of_mem _ hx))
theorem sh_tup {n : Nat} {ds : List PyData} (t : ShA n ds) : Sh (n + 1) (.tuple ds) := ⟨by simp [PyData.canLay0, t.1], by have := t.2; simp only [PyData.depth]; omega⟩
theorem sh_lst {n : Nat} {ds : List PyData} (t : ShA n ds) : Sh (n + 1) (.list ds) := ⟨by simp [PyData.canLay0, t.1], by have := t.2; simp only [PyData.depth]; omega⟩
theorem sh_ints {n : Nat} (ns : List Int) : ShA n (ns.map PyData.int) := sh_all fun d h => by
  obtain ⟨i, _, rfl⟩ := List.mem_map.mp h
  exact sh_int
theorem eqv_ints : ∀ xs ys : List Int, PyData.eqvAll (xs.map PyData.int) (ys.map PyData.int) = decide (xs = ys)
  | [], [] => by simp [PyData.eqvAll]
  | [], _ :: _ => by simp [PyData.eqvAll]
  | _ :: _, [] => by simp [PyData.eqvAll]
  | x :: xs, y :: ys => by
    simp only [List.map_cons, PyData.eqvAll, PyData.eqv, eqv_ints xs ys, List.cons.injEq, Bool.decide_and]
    congr 1
theorem eqv_tints (xs ys : List Int) : PyData.eqv (.tuple (xs.map PyData.int)) (.tuple (ys.map PyData.int)) = decide (xs = ys) := by rw [PyData.eqv, eqv_ints]
theorem eqv_lints (xs ys : List Int) : PyData.eqv (.list (xs.map PyData.int)) (.list (ys.map PyData.int)) = decide (xs = ys) := by rw [PyData.eqv, eqv_ints]

/-! ## what the laws share: cells, rows of drawn numbers, bytes -/
theorem fr_toExt {A : Addr} {H H1 H2 : Hp} (x : PB.Ext H H1) (n : H A = none) (f : Fr [A] [A] H1 H2) : PB.Ext H H2 := fun a o h => f.1 a o (fun m => by
  simp only [List.mem_cons, List.not_mem_nil, or_false] at m
  subst m; rw [n] at h; cases h) (x a o h)
/-- a list of ints, new; nothing else has changed -/
def newInts (H : Hp) (xs : List Int) (Q : VK) : Prop := PB.NewAt H (.lst (xs.map V.int)) Q
def sp_law_cell (K : PySem.W.Frag) : Sp := fun vs H Q _ => ∃ (a : Addr) (ns : List Int) (k : Int), vs = [.ref a, .int k] ∧ SqL K H a (ns.map V.int) ∧ 0 ≤ k ∧ Q (.int (ns.getD k.toNat 0)) H
def N_law_cell : List Str := ["script", "k"]
def t_law_cell (K : PySem.W.Frag) : TS := C8.tCut (tIfS (PB.mTest (tOp (PB.mLt) (PB.mVar 1) (tCB (PB.mLen K) (tCons (PB.mVar 0) (tNil))))) (tRet (tCB (PB.mInt) (tCons (tOp (PB.mIx K) (PB.mVar 0) (PB.mVar 1)) (tNil)))) (tNext)) (
  tRet (tC (.int 0)))

theorem len_law_cell {K : PySem.W.Frag} : PB.Len 2 (sp_law_cell K) := by walk_at "len"
theorem pure_law_cell (K : PySem.W.Frag) : PB.Pure N_law_cell (sp_law_cell K) (t_law_cell K) := by
  rintro vs H Q E ⟨a, ns, k, rfl, h, k0, q⟩
  show t_law_cell K _ [some (.ref a), some (.int k)] H
  unfold t_law_cell
  have el : (ns.map V.int).length = ns.length := List.length_map _
  walk_at "ws"
  · exact q
  · have e : ns.getD k.toNat 0 = 0 := by rw [List.getD_eq_getElem?_getD, List.getElem?_eq_none (by omega)]; rfl
    rw [e] at q
    exact q
def sp_law_row (K : PySem.W.Frag) : Sp := fun vs H Q _ => ∃ (c n b : Int), vs = [.int c, .int n, .int b] ∧ 0 ≤ n ∧ n ≤ 1000 ∧ 0 < b ∧ b < 4294967296 ∧ ∀ xs : List Int, (xs.length : Int) = n → (∀ x ∈ xs, 0 ≤ x ∧ x < b) → newInts H xs Q
def N_law_row : List Str := ["cell", "count", "bound", "rest", "mixed", "row", "k"]
def t_law_row (K : PySem.W.Frag) : TS := tSeq (tAsg (tCB (PB.mAbs) (tCons (tCB (PB.mInt) (tCons (PB.mVar 0) (tNil))) (tNil))) (gName 3)) (
  tSeq (tAsg (tOp (PB.mAdd K) (tOp (PB.mMod) (tCB (PB.mInt) (tCons (PB.mVar 0) (tNil))) (tC (.int 1000003))) (tC (.int 1))) (gName 4)) (
  tSeq (tAsg (tLst (tNil)) (gName 5)) (
  tSeq (tFor (iRng1 (tCons (PB.mVar 1) (tNil))) (gName 6) (tIfS (PB.mTest (tOp (PB.mGe) (PB.mVar 3) (PB.mVar 2))) (tSeq (tDrop (PB.mLM (PB.mAppend) (PB.mVar 5) (tCons (tOp (PB.mMod) (tCB (PB.mInt) (tCons (PB.mVar 3) (tNil))) (PB.mVar 2)) (tNil)))) (
  tAsg (tOp (PB.mDiv) (PB.mVar 3) (PB.mVar 2)) (gName 3))) (tSeq (tAsg (tOp (PB.mMod) (tCB (PB.mInt) (tCons (tOp (PB.mAdd K) (tOp (PB.mAdd K) (tOp (PB.mMul) (PB.mVar 4) (tC (.int 48271))) (tOp (PB.mMul) (tC (.int 11)) (PB.mVar 6))) (tC (.int 7))) (tNil))) (tC (.int 2147483647))) (gName 4)) (
  tDrop (PB.mLM (PB.mAppend) (PB.mVar 5) (tCons (tOp (PB.mMod) (tCB (PB.mInt) (tCons (tOp (PB.mDiv) (tOp (PB.mMul) (PB.mVar 4) (tC (.int 2862933555777941757))) (tC (.int 1024))) (tNil))) (PB.mVar 2)) (tNil))))))) (
  tRet (PB.mVar 5)))))

theorem len_law_row {K : PySem.W.Frag} : PB.Len 3 (sp_law_row K) := by walk_at "len"
theorem pure_law_row (K : PySem.W.Frag) : PB.Pure N_law_row (sp_law_row K) (t_law_row K) := by
  rintro vs H Q E ⟨c, n, b, rfl, n0, n1, b0, b1, q⟩
  show t_law_row K _ [some (.int c), some (.int n), some (.int b), none, none, none, none] H
  unfold t_law_row
  walk_at "ws"
  intro A H1 nA vA xA
  walk_at "w"
  refine PB.w_forR1 (j := n) (by walk_at "pA") (by omega) (by omega) (fun i σ H2 => ∃ (r m : Int) (x : Option V) (xs : List Int), σ = [some (.int c), some (.int n), some (.int b), some (.int r), some (.int m), some (.ref A), x] ∧
    0 ≤ r ∧ 0 ≤ m ∧ m < 4294967296 ∧ H2 A = some (.lst (xs.map V.int)) ∧ xs.length = i ∧ (∀ x ∈ xs, 0 ≤ x ∧ x < b) ∧ Fr [A] [A] H1 H2) ?_ ?_ ?_
  · refine ⟨_, _, none, [], rfl, ?_, ?_, ?_, vA, rfl, fun x hx => (by cases hx), Fr.refl _ _⟩
    · split <;> omega
    · omega
    · omega
  · rintro i σ H2 hi ⟨r, m, x, xs, rfl, r0, m0, m1, l2, xl, xb, f2⟩
    refine PB.g_name ?_
    have el : (xs.map V.int).length = xs.length := List.length_map _
    have mb : ∀ (y : Int), 0 ≤ y → y < b → ∀ x ∈ xs ++ [y], 0 ≤ x ∧ x < b := fun y h0 h1 z hz => by
      rcases List.mem_append.mp hz with h | h
      · exact xb z h
      · rw [List.mem_singleton] at h; subst h; exact ⟨h0, h1⟩
    walk_at "ws"
    · refine ⟨_, _, _, xs ++ [r % b], rfl, Int.ediv_nonneg r0 (by omega), m0, m1, ?_, by simp [xl], mb _ (Int.emod_nonneg _ (by omega)) (Int.emod_lt_of_pos _ b0), fr_upd f2 (by walk_at "mem")⟩
      rw [List.map_append]; exact upd_same
    · refine ⟨_, _, _, xs ++ [((m * 48271 + 11 * (0 + (i : Int)) + 7) % 2147483647 * 2862933555777941757 / 1024) % b], rfl, r0, Int.emod_nonneg _ (by decide), ?_, ?_, by simp [xl], mb _ (Int.emod_nonneg _ (by omega)) (Int.emod_lt_of_pos _ b0), fr_upd f2 (by walk_at "mem")⟩
      · exact Int.lt_trans (Int.emod_lt_of_pos _ (by decide)) (by decide)
      · rw [List.map_append]; exact upd_same
  · rintro σ H2 ⟨r, m, x, xs, rfl, r0, m0, m1, l2, xl, xb, f2⟩
    walk_at "ws"
    exact q xs (by omega) xb A H2 nA l2 (fr_toExt xA nA f2)

/-! ## pictures: the program -/
def an_Picture : List Str := ["width", "height", "rows", "cursor", "visible"]
theorem an_Picture_nd : an_Picture.Nodup := by decide +kernel
def Rws (K : PySem.W.Frag) (H : Hp) : List Addr → List (List PyData) → Prop
  | [], [] => True
  | a :: as, d :: ds => (∃ us, H a = some (.lst us) ∧ ImAll K H d us) ∧ Rws K H as ds
  | _, _ => False
theorem Rws.mono {K : PySem.W.Frag} {H H' : Hp} (t : Tst H H') : ∀ {as : List Addr} {ds : List (List PyData)}, (∀ a ∈ as, ∀ us, H a = some (.lst us) → H' a = some (.lst us)) → Rws K H as ds → Rws K H' as ds
  | [], [], _, _ => trivial
  | a :: as, d :: ds, k, h => by
    obtain ⟨⟨us, h1, h2⟩, h3⟩ := h
    exact ⟨⟨us, k a (List.mem_cons_self ..) us h1, ImAll.mono t _ _ h2⟩, Rws.mono t (fun b m => k b (List.mem_cons_of_mem _ m)) h3⟩
  | [], _ :: _, _, h => h.elim
  | _ :: _, [], _, h => h.elim
theorem Rws.ext {K : PySem.W.Frag} {H H' : Hp} {as : List Addr} {ds : List (List PyData)} (h : Rws K H as ds) (x : PB.Ext H H') : Rws K H' as ds := Rws.mono (fun b ys e => x b _ e) (fun a _ us e => x a _ e) h
theorem Rws.snoc {K : PySem.W.Frag} {H : Hp} {a : Addr} {d : List PyData} {us : List V} (h1 : H a = some (.lst us)) (h2 : ImAll K H d us) : ∀ {as : List Addr} {ds : List (List PyData)}, Rws K H as ds → Rws K H (as ++ [a]) (ds ++ [d])
  | [], [], _ => ⟨⟨us, h1, h2⟩, trivial⟩
  | _ :: _, _ :: _, h => ⟨h.1, Rws.snoc h1 h2 h.2⟩
  | [], _ :: _, h => h.elim
  | _ :: _, [], h => h.elim
theorem Rws.len {K : PySem.W.Frag} {H : Hp} : ∀ {as : List Addr} {ds : List (List PyData)}, Rws K H as ds → as.length = ds.length
  | [], [], _ => rfl
  | _ :: _, _ :: _, h => by simp [Rws.len h.2]
  | [], _ :: _, h => h.elim
  | _ :: _, [], h => h.elim
theorem Rws.get {K : PySem.W.Frag} {H : Hp} {b : Addr} : ∀ {as : List Addr} {ds : List (List PyData)} {i : Nat}, Rws K H as ds → as[i]? = some b → ∃ d us, ds[i]? = some d ∧ H b = some (.lst us) ∧ ImAll K H d us
  | [], [], i, _, e => by simp at e
  | a :: _, d :: _, 0, h, e => by
    have : a = b := by simpa using e
    subst this
    obtain ⟨us, h1, h2⟩ := h.1
    exact ⟨d, us, rfl, h1, h2⟩
  | _ :: as, _ :: ds, i + 1, h, e => by
    rw [List.getElem?_cons_succ] at e
    obtain ⟨d, us, h1, h2⟩ := Rws.get (i := i) h.2 e
    exact ⟨d, us, by rw [List.getElem?_cons_succ]; exact h1, h2⟩
  | [], _ :: _, _, h, _ => h.elim
  | _ :: _, [], _, h, _ => h.elim
theorem Rws.live {K : PySem.W.Frag} {H : Hp} {as : List Addr} {ds : List (List PyData)} (h : Rws K H as ds) : ∀ a ∈ as, ∃ us, H a = some (.lst us) := fun a m => by
  obtain ⟨i, hi⟩ := List.getElem?_of_mem m
  obtain ⟨d, us, _, h2, _⟩ := h.get hi
  exact ⟨us, h2⟩
theorem Rws.dp {K : PySem.W.Frag} {H : Hp} : ∀ {as : List Addr} {ds : List (List PyData)}, Rws K H as ds → DpAll K H (as.map V.ref) (ds.map PyData.list)
  | [], [], _ => .nil
  | a :: as, d :: ds, h => by
    obtain ⟨⟨us, h1, h2⟩, h3⟩ := h
    exact .cons (.lst (SqL.of h1) (ImAll.dp _ _ h2)) (Rws.dp h3)
  | [], _ :: _, h => h.elim
  | _ :: _, [], h => h.elim
/-- cells, of two to four levels -/
def cellD (p f b m : Int) : PyData := .tuple [.int p, .tuple [.int f, .int b, .int m]]
def Cells (rows : List (List PyData)) : Prop := ∀ r ∈ rows, r.length ≤ 1000 ∧ ∀ d ∈ r, ∃ p f b m, d = cellD p f b m
theorem sh_cell {p f b m : Int} : Sh 3 (cellD p f b m) := sh_tup (sh_cons sh_int (sh_cons (sh_tup (n := 1) (sh_ints [f, b, m])) sh_nil))
theorem sh_rows {rows : List (List PyData)} (c : Cells rows) : Sh 5 (.list (rows.map PyData.list)) := sh_lst (sh_all fun d m => by
  obtain ⟨r, hr, rfl⟩ := List.mem_map.mp m
  exact sh_lst (sh_all fun e he => by
    obtain ⟨p, f, b, m, rfl⟩ := (c r hr).2 e he
    exact sh_cell))
structure Pic where
  w : Int
  h : Int
  rows : List (List PyData)
  cur : List Int
  vis : Bool
abbrev picV (P : Pic) (R c : Addr) : List V := [.int P.w, .int P.h, .ref R, .ref c, .bl P.vis]
structure PicAt (K : PySem.W.Frag) (H : Hp) (p dx R c : Addr) (as : List Addr) (P : Pic) : Prop where
  ob : H p = some (.ins (He.ga K "Picture") dx (an_Picture.zip (picV P R c)))
  rl : H R = some (.lst (as.map V.ref))
  rs : Rws K H as P.rows
  cu : H c = some (.tup (P.cur.map V.int))
theorem PicAt.ext {K : PySem.W.Frag} {H H' : Hp} {p dx R c : Addr} {as : List Addr} {P : Pic} (h : PicAt K H p dx R c as P) (x : PB.Ext H H') : PicAt K H' p dx R c as P := ⟨x _ _ h.ob, x _ _ h.rl, h.rs.ext x, x _ _ h.cu⟩
theorem up_ext' {H H1 : Hp} (x : PB.Ext H H1) {a : Addr} {y : HO} (n : H a = none) : PB.Ext H (upd H1 a y) := fun b z h => by
  rw [upd_ne (L2.ne_of_none h n)]
  exact x b z h
theorem none_of' {H H1 : Hp} (x : PB.Ext H H1) {a : Addr} (h : H1 a = none) : H a = none := by
  cases e : H a with
  | none => rfl
  | some y => rw [x a y e] at h; cases h
/-- copies of rows, in a comprehension: what holds along its way -/
def CopyI (K : PySem.W.Frag) (H0 : Hp) (rows : List (List PyData)) (D : Addr) (i : Nat) (acc : List V) (H' : Hp) : Prop := ∃ as', acc = as'.map V.ref ∧ Rws K H' as' (rows.take i) ∧ PB.Ext H0 H' ∧ (∀ a ∈ as', H0 a = none ∧ a ≠ D) ∧ as'.Nodup
theorem k_copy {K : PySem.W.Frag} {σ : L2.St} {H : Hp} {Q : VK} {j : Nat} {vs : List Nat} {R : Addr} {as : List Addr} {rows : List (List PyData)} (hR : H R = some (.lst (as.map V.ref))) (hr : Rws K H as rows) (hl : as.length ≤ 1000) (hj : ∀ x, ((wipe σ vs).set j (some x))[j]? = some (some x))
    (hw : ∀ x, wipe ((wipe σ vs).set j (some x)) vs = wipe σ vs)
    (q : ∀ D as' H', H D = none → H' D = some (.lst (as'.map V.ref)) → Rws K H' as' rows → PB.Ext H H' → (∀ a ∈ as', H a = none ∧ a ≠ D) → as'.Nodup → Q (.ref D) H') : PB.kLc K (gName j) tYes (tCB (PB.mList K) (tCons (PB.mVar j) tNil)) vs σ Q (.ref R) H := by
  refine PB.k_lcG (SqL.of hR) (PB.sz_le (by rw [List.length_map]; omega)) hw (CopyI K H rows) ?_ ?_ ?_ ?_
  · intro D nD
    exact ⟨[], rfl, by rw [List.take_zero]; trivial, PB.Ext.new nD, (fun a m => by cases m), List.nodup_nil⟩
  · rintro D i acc H' nD ⟨as', e, h1, h2, h3, h4⟩
    exact SqL.of (h2 _ _ hR)
  · rintro D i x acc H' nD hi al hD ⟨as', e, h1, h2, h3, h4⟩
    rw [List.getElem?_map] at hi
    obtain ⟨r, hr', rfl⟩ : ∃ r, as[i]? = some r ∧ x = .ref r := by
      cases hx : as[i]? with
      | none => rw [hx] at hi; cases hi
      | some r => rw [hx] at hi; exact ⟨r, rfl, (Option.some.inj hi).symm⟩
    obtain ⟨d, us, g1, g2, g3⟩ := (hr.ext h2).get hr'
    have il : i < as.length := (List.getElem?_eq_some_iff.mp hr').1
    refine PB.k_cb (PB.k_pureA (PB.p_cons (PB.p_var (hj _)) PB.p_nil) (PB.k_listOf g2 ?_))
    intro N H4 nN vN xN
    have nN0 := none_of' h2 nN
    have ND : N ≠ D := (L2.ne_of_none hD nN).symm
    refine PB.kEl_mk (xN _ _ hD) al (PB.sz_lt (by omega)) ⟨as' ++ [N], by rw [e, List.map_append]; rfl, ?_, up_ext' (h2.trans xN) nD, ?_, ?_⟩
    · rw [List.take_add_one, g1]
      have x3 : Tst H' H4 := fun b ys z => xN b _ z
      have x4 : Tst H' (upd H4 D (.lst (acc ++ [.ref N]))) := x3.trans (ts_lst (xN _ _ hD))
      refine Rws.snoc (us := us) (by rw [upd_ne ND]; exact vN) (ImAll.mono x4 _ _ g3) (Rws.mono x4 (fun a m us e => ?_) h1)
      rw [upd_ne (h3 a m).2]
      exact xN _ _ e
    · intro a m
      rcases List.mem_append.mp m with m | m
      · exact h3 a m
      · rw [List.mem_singleton] at m
        subst m
        exact ⟨nN0, ND⟩
    · rw [List.nodup_append]
      refine ⟨h4, by simp, fun a ma b mb e => ?_⟩
      rw [List.mem_singleton] at mb
      subst mb
      subst e
      obtain ⟨us, hu⟩ := h1.live a ma
      rw [nN] at hu; cases hu
  · rintro D acc H' nD hD al ⟨as', e, h1, h2, h3, h4⟩
    subst e
    rw [List.length_map, hr.len, List.take_length] at h1
    exact q D as' H' nD hD h1 h2 h3 h4
def sp_Picture___init__ (K : PySem.W.Frag) : Sp := fun vs H Q _ => ∃ (p dx R c : Addr) (w h : Int) (v : Bool) (as : List Addr) (rows : List (List PyData)) (cur : List Int), vs = [.ref p, .int w, .int h, .ref R, .ref c, .bl v] ∧ H p = some (.ins (He.ga K "Picture") dx []) ∧
  H R = some (.lst (as.map V.ref)) ∧ Rws K H as rows ∧ as.length ≤ 1000 ∧ H c = some (.tup (cur.map V.int)) ∧
  ∀ H' R' as', PicAt K H' p dx R' c as' ⟨w, h, rows, cur, v⟩ → (∀ a y, a ≠ p → H a = some y → H' a = some y) → H R' = none → (∀ a ∈ as', H a = none) → Q .non H'
def N_Picture___init__ : List Str := ["self", "width", "height", "rows", "cursor", "visible", "row"]
def t_Picture___init__ (K : PySem.W.Frag) : TS := tSeq (PB.oSet (He.ga K "Picture") an_Picture 0 (PB.mVar 0) (PB.mVar 1)) (
  tSeq (PB.oSet (He.ga K "Picture") an_Picture 1 (PB.mVar 0) (PB.mVar 2)) (
  tSeq (PB.oSet (He.ga K "Picture") an_Picture 2 (PB.mVar 0) (tLc (iList K (PB.mVar 3)) (gName 6) (tYes) (tCB (PB.mList K) (tCons (PB.mVar 6) (tNil))) [6])) (
  tSeq (PB.oSet (He.ga K "Picture") an_Picture 3 (PB.mVar 0) (PB.mVar 4)) (
  PB.oSet (He.ga K "Picture") an_Picture 4 (PB.mVar 0) (PB.mVar 5)))))

theorem len_Picture___init__ {K : PySem.W.Frag} : PB.Len 6 (sp_Picture___init__ K) := by walk_at "len"
theorem pure_Picture___init__ (K : PySem.W.Frag) : PB.Pure N_Picture___init__ (sp_Picture___init__ K) (t_Picture___init__ K) := by
  rintro vs H Q E ⟨p, dx, R, c, w, h, v, as, rows, cur, rfl, hp, hR, hr, al, hc, q⟩
  show t_Picture___init__ K _ [some (.ref p), some (.int w), some (.int h), some (.ref R), some (.ref c), some (.bl v), none] H
  unfold t_Picture___init__
  have h1 : H p = some (.ins (He.ga K "Picture") dx (an_Picture.zip [])) := hp
  have pR : p ≠ R := ne_of hp hR (by intro z; cases z)
  walk_at "ws"
  have f1 : ∀ (y : HO) (a : Addr) (z : HO), a ≠ p → H a = some z → (upd H p y) a = some z := fun y a z ne e => by rw [upd_ne ne]; exact e
  have hR1 : (upd H p (.ins (He.ga K "Picture") dx (an_Picture.zip (setN (setN [] 0 (.int w)) 1 (.int h))))) R = some (.lst (as.map V.ref)) := f1 _ _ _ pR.symm hR
  have tst1 : Tst H (upd H p (.ins (He.ga K "Picture") dx (an_Picture.zip (setN (setN [] 0 (.int w)) 1 (.int h))))) := ts_ins hp
  have hr1 : Rws K (upd H p (.ins (He.ga K "Picture") dx (an_Picture.zip (setN (setN [] 0 (.int w)) 1 (.int h))))) as rows := Rws.mono tst1 (fun a m us e => f1 _ _ _ (ne_of hp e (by intro z; cases z)).symm e) hr
  have ob1 : (upd H p (.ins (He.ga K "Picture") dx (an_Picture.zip (setN (setN [] 0 (.int w)) 1 (.int h))))) p = some (.ins (He.ga K "Picture") dx (an_Picture.zip [.int w, .int h])) := upd_same
  have cu1 := f1 (.ins (He.ga K "Picture") dx (an_Picture.zip (setN (setN [] 0 (.int w)) 1 (.int h)))) c _ (ne_of hp hc (by intro z; cases z)).symm hc
  have k1 := f1 (.ins (He.ga K "Picture") dx (an_Picture.zip (setN (setN [] 0 (.int w)) 1 (.int h))))
  have n1 : ∀ a, (upd H p (.ins (He.ga K "Picture") dx (an_Picture.zip (setN (setN [] 0 (.int w)) 1 (.int h))))) a = none → H a = none := fun a e => by
    have ne : a ≠ p := fun z => by rw [z, upd_same] at e; cases e
    rw [upd_ne ne] at e; exact e
  generalize upd H p (.ins (He.ga K "Picture") dx (an_Picture.zip (setN (setN [] 0 (.int w)) 1 (.int h)))) = H1 at *
  refine k_copy hR1 hr1 al (fun _ => rfl) (fun _ => rfl) ?_
  intro D as' H2 nD vD rD xD fD _
  have ob2 := xD _ _ ob1
  have cu2 := xD _ _ cu1
  walk_at "ws"
  have kp : ∀ (y : HO) (a : Addr) (us : List V), H2 a = some (.lst us) → (upd H2 p y) a = some (.lst us) := fun y a us e => by rw [upd_ne (ne_of ob2 e (by intro z; cases z)).symm]; exact e
  refine q _ D as' ⟨upd_same, kp _ _ _ vD, Rws.mono (ts_ins ob2) (fun a m us e => kp _ _ _ e) rD, ?_⟩ ?_ (n1 D nD) (fun a m => n1 a (fD a m).1)
  · rw [upd_ne (ne_of ob2 cu2 (by intro z; cases z)).symm]; exact cu2
  · intro a y ne e
    rw [upd_ne ne]
    exact xD _ _ (k1 a y ne e)
def eqRows (r s : List (List PyData)) : Bool := PyData.eqv (.list (r.map PyData.list)) (.list (s.map PyData.list))
def eqPic (P S : Pic) : Bool := decide (P.w = S.w) && (decide (P.h = S.h) && (eqRows P.rows S.rows && (decide (P.cur = S.cur) && decide (P.vis = S.vis))))
def sp_Picture___eq__ (K : PySem.W.Frag) : Sp := fun vs H Q _ => ∃ (p dx R c : Addr) (as : List Addr) (P : Pic) (y : V), vs = [.ref p, y] ∧ PicAt K H p dx R c as P ∧ Cells P.rows ∧
  ((∃ s dx' R' c' as' S, y = .ref s ∧ PicAt K H s dx' R' c' as' S ∧ Cells S.rows ∧ Q (.bl (eqPic P S)) H) ∨ (∃ i, y = .int i ∧ Q (.bl false) H) ∨ (∃ a xs, y = .ref a ∧ H a = some (.lst xs) ∧ Q (.bl false) H))
def N_Picture___eq__ : List Str := ["self", "other"]
def t_Picture___eq__ (K : PySem.W.Frag) : TS := tRet (PB.mAndV (tCB (rIsi K) (tCons (PB.mVar 1) (tCons (tC (.ref (He.ga K "Picture"))) (tNil)))) (PB.mAndV (tOp (PB.mEq K) (PB.oFld (He.ga K "Picture") an_Picture 0 (PB.mVar 0)) (PB.oFld (He.ga K "Picture") an_Picture 0 (PB.mVar 1))) (PB.mAndV (tOp (PB.mEq K) (PB.oFld (He.ga K "Picture") an_Picture 1 (PB.mVar 0)) (PB.oFld (He.ga K "Picture") an_Picture 1 (PB.mVar 1))) (PB.mAndV (tOp (PB.mEq K) (PB.oFld (He.ga K "Picture") an_Picture 2 (PB.mVar 0)) (PB.oFld (He.ga K "Picture") an_Picture 2 (PB.mVar 1))) (PB.mAndV (tOp (PB.mEq K) (PB.oFld (He.ga K "Picture") an_Picture 3 (PB.mVar 0)) (PB.oFld (He.ga K "Picture") an_Picture 3 (PB.mVar 1))) (tOp (PB.mEq K) (PB.oFld (He.ga K "Picture") an_Picture 4 (PB.mVar 0)) (PB.oFld (He.ga K "Picture") an_Picture 4 (PB.mVar 1))))))))

theorem len_Picture___eq__ {K : PySem.W.Frag} : PB.Len 2 (sp_Picture___eq__ K) := by
  rintro vs H Q E ⟨p, dx, R, c, as, P, y, rfl, _⟩
  rfl
theorem p_eqRows {K : PySem.W.Frag} {H : Hp} {R R' : Addr} {as as' : List Addr} {r s : List (List PyData)} (h1 : H R = some (.lst (as.map V.ref))) (h2 : H R' = some (.lst (as'.map V.ref))) (r1 : Rws K H as r) (r2 : Rws K H as' s) (c1 : Cells r) (c2 : Cells s) :
    PB.pR (PB.mEq K) (.ref R) (.ref R') H (.bl (eqRows r s)) := PB.p_eqD (.lst (SqL.of h1) r1.dp) (.lst (SqL.of h2) r2.dp) ((sh_rows c1).ok (by decide)) ((sh_rows c2).ok (by decide))
theorem p_neRows {K : PySem.W.Frag} {H : Hp} {R R' : Addr} {as as' : List Addr} {r s : List (List PyData)} (h1 : H R = some (.lst (as.map V.ref))) (h2 : H R' = some (.lst (as'.map V.ref))) (r1 : Rws K H as r) (r2 : Rws K H as' s) (c1 : Cells r) (c2 : Cells s) :
    PB.pR (PB.mNe K) (.ref R) (.ref R') H (.bl (!eqRows r s)) := PB.p_neD (.lst (SqL.of h1) r1.dp) (.lst (SqL.of h2) r2.dp) ((sh_rows c1).ok (by decide)) ((sh_rows c2).ok (by decide))
theorem p_eqTI {K : PySem.W.Frag} {H : Hp} {a b : Addr} {xs ys : List Int} (h1 : H a = some (.tup (xs.map V.int))) (h2 : H b = some (.tup (ys.map V.int))) : PB.pR (PB.mEq K) (.ref a) (.ref b) H (.bl (decide (xs = ys))) := by
  rw [← eqv_tints]
  exact PB.p_eqD (.tup (SqT.of h1) (ImAll.dp _ _ (im_ints _))) (.tup (SqT.of h2) (ImAll.dp _ _ (im_ints _))) ((sh_tup (sh_ints (n := 0) _)).ok (by decide)) ((sh_tup (sh_ints (n := 0) _)).ok (by decide))
theorem p_neTI {K : PySem.W.Frag} {H : Hp} {a b : Addr} {xs ys : List Int} (h1 : H a = some (.tup (xs.map V.int))) (h2 : H b = some (.tup (ys.map V.int))) : PB.pR (PB.mNe K) (.ref a) (.ref b) H (.bl (!decide (xs = ys))) := by
  rw [← eqv_tints]
  exact PB.p_neD (.tup (SqT.of h1) (ImAll.dp _ _ (im_ints _))) (.tup (SqT.of h2) (ImAll.dp _ _ (im_ints _))) ((sh_tup (sh_ints (n := 0) _)).ok (by decide)) ((sh_tup (sh_ints (n := 0) _)).ok (by decide))
theorem pure_Picture___eq__ (K : PySem.W.Frag) (o : PB.OwnC K (He.ga K "Picture")) : PB.Pure N_Picture___eq__ (sp_Picture___eq__ K) (t_Picture___eq__ K) := by
  rintro vs H Q E ⟨p, dx, R, c, as, P, y, rfl, hp, cp, hy⟩
  show t_Picture___eq__ K _ [some (.ref p), some y] H
  unfold t_Picture___eq__
  obtain ⟨p1, p2, p3, p4⟩ := hp
  rcases hy with ⟨s, dx', R', c', as', S, rfl, hs, cs, q⟩ | ⟨i, rfl, q⟩ | ⟨a, xs, rfl, ha, q⟩
  · obtain ⟨s1, s2, s3, s4⟩ := hs
    refine PB.w_ret (v := .bl (true && eqPic P S)) ?_ (by rw [Bool.true_and]; exact q)
    refine PB.p_andV (PB.p_cb (PB.p_cons (PB.p_var rfl) (PB.p_cons PB.p_c PB.p_nil)) (PB.p_isOwn o s1)) fun _ => ?_
    refine PB.p_andV (PB.p_op (PB.p_ofld (PB.p_var rfl) p1 rfl) (PB.p_ofld (PB.p_var rfl) s1 rfl) PB.p_eqI) fun _ => ?_
    refine PB.p_andV (PB.p_op (PB.p_ofld (PB.p_var rfl) p1 rfl) (PB.p_ofld (PB.p_var rfl) s1 rfl) PB.p_eqI) fun _ => ?_
    refine PB.p_andV (PB.p_op (PB.p_ofld (PB.p_var rfl) p1 rfl) (PB.p_ofld (PB.p_var rfl) s1 rfl) (p_eqRows p2 s2 p3 s3 cp cs)) fun _ => ?_
    refine PB.p_andV (PB.p_op (PB.p_ofld (PB.p_var rfl) p1 rfl) (PB.p_ofld (PB.p_var rfl) s1 rfl) (p_eqTI p4 s4)) fun _ => ?_
    exact PB.p_op (PB.p_ofld (PB.p_var rfl) p1 rfl) (PB.p_ofld (PB.p_var rfl) s1 rfl) PB.p_eqB
  · refine PB.w_ret (v := .bl (false && false)) ?_ q
    exact PB.p_andV (PB.p_cb (PB.p_cons (PB.p_var rfl) (PB.p_cons PB.p_c PB.p_nil)) (PB.p_isOwnI o)) fun z => by cases z
  · refine PB.w_ret (v := .bl (false && false)) ?_ q
    exact PB.p_andV (PB.p_cb (PB.p_cons (PB.p_var rfl) (PB.p_cons PB.p_c PB.p_nil)) (PB.p_isOwnL o ha)) fun z => by cases z

/-! ## pictures: the difference -/
theorem k_lcZ {K : PySem.W.Frag} {σ : L2.St} {H : Hp} {ta : TA} {tt : TT} {te : TE} {Q : VK} {vs : List Nat} {a b : Addr} {xs ys : List V} {i j : Nat} {v : V} (p : Nat → Bool) (ha : PB.pA ta σ H [.ref a, .ref b]) (hx : SqL K H a xs) (hy : SqL K H b ys) (hl : xs.length = ys.length) (hz : xs.length ≤ sizeLine)
    (hw : ∀ x y, wipe (((wipe σ vs).set i (some x)).set j (some y)) vs = wipe σ vs)
    (ht : ∀ k x y H', xs[k]? = some x → ys[k]? = some y → PB.Ext H H' → PB.pT tt (((wipe σ vs).set i (some x)).set j (some y)) H' (p k))
    (he : ∀ x y H', PB.pE te (((wipe σ vs).set i (some x)).set j (some y)) H' v)
    (q : ∀ D H' acc, H D = none → H' D = some (.lst acc) → acc.length = ((List.range xs.length).filter p).length → PB.Ext H H' → Q (.ref D) H') : tLc (iZip K ta) (gTup K 2 (gCons (gName i) (gCons (gName j) gNil))) tt te vs σ H Q := by
  refine ha _ ⟨a, b, xs, ys, rfl, hx, hy, fun D hD => ?_⟩
  refine ⟨fun n m H' => m = xs.length - n ∧ n ≤ xs.length ∧ ∃ acc, H' D = some (.lst acc) ∧ acc.length = ((List.range n).filter p).length ∧ PB.Ext H H', ⟨_, rfl, Nat.zero_le _, [], upd_same, by simp, PB.Ext.new hD⟩, ?_⟩
  rintro n m H' ⟨rfl, hn, acc, vD, al, x⟩
  have fl : ∀ n, ((List.range n).filter p).length ≤ n := fun n => by
    have := List.length_filter_le p (List.range n)
    rwa [List.length_range] at this
  by_cases c : n < xs.length
  · have e1 : xs[n]? = some xs[n] := List.getElem?_eq_getElem c
    have e2 : ys[n]? = some ys[n] := List.getElem?_eq_getElem (by omega)
    refine .inr ⟨⟨xs, ys, _, _, PB.ext_l x hx, PB.ext_l x hy, e1, e2⟩, fun H2 => ∃ acc, H2 D = some (.lst acc) ∧ acc.length = ((List.range (n + 1)).filter p).length ∧ PB.Ext H H2, ?_, ?_⟩
    · rintro H2 ⟨acc', z1, z2, z3⟩
      exact ⟨xs.length - (n + 1), by omega, rfl, by omega, acc', z1, z2, z3⟩
    · rintro w H2 ⟨T, u1, u2, rfl, nT, rfl, g1, g2⟩
      have k1 := g1 xs (PB.ext_l x hx)
      have k2 := g2 ys (PB.ext_l x hy)
      have xT : PB.Ext H' (upd H' T (.tup [u1, u2])) := PB.Ext.new nT
      refine PB.g_pair (SqT.of upd_same) ?_
      refine ⟨hw _ _, ht n u1 u2 _ k1 k2 (x.trans xT) _ ?_⟩
      have vD2 := xT _ _ vD
      have x2 := x.trans xT
      cases hp : p n with
      | false =>
        rw [if_neg (by simp)]
        refine ⟨acc, vD2, ?_, x2⟩
        rw [al, List.range_succ, List.filter_append]
        simp [hp]
      | true =>
        rw [if_pos rfl]
        refine he _ _ _ _ ⟨acc, vD2, ?_, acc ++ [v], upd_same, ?_, up_ext' x2 hD⟩
        · have := fl n
          omega
        · rw [List.length_append, al, List.range_succ, List.filter_append]
          simp [hp]
  · have e : n = xs.length := by omega
    subst e
    exact .inl ⟨⟨xs, ys, PB.ext_l x hx, PB.ext_l x hy, .inl (Nat.le_refl _)⟩, q D H' acc hD vD al x⟩
def rdiff (ds es : List PyData) : Nat := ((List.range ds.length).filter fun k => !PyData.eqv (ds.getD k .none) (es.getD k .none)).length
def pdiff (r s : List (List PyData)) : Nat := ((List.range r.length).map fun k => rdiff (r.getD k []) (s.getD k [])).sum
/-- rows of the same lengths -/
def Same (r s : List (List PyData)) : Prop := r.length = s.length ∧ ∀ k, (r.getD k []).length = (s.getD k []).length
theorem w_forZ {K : PySem.W.Frag} {ta : TA} {tb : TS} {D : Ends} {σ : L2.St} {H : Hp} {a b : Addr} {xs ys : List V} {i j : Nat} (ha : PB.pA ta σ H [.ref a, .ref b]) (hx : SqL K H a xs) (hy : SqL K H b ys) (hl : xs.length = ys.length) (Pv : Nat → L2.St → Hp → Prop) (h0 : Pv 0 σ H) (hq : ∀ i σ H, Pv i σ H → SqL K H a xs ∧ SqL K H b ys)
    (hs : ∀ (k : Nat) (x y : V) (σ : L2.St) (H1 H2 : Hp), xs[k]? = some x → ys[k]? = some y → Pv k σ H1 → PB.Ext H1 H2 → tb { D with nx := Pv (k + 1), ct := Pv (k + 1), bk := D.nx } ((σ.set i (some x)).set j (some y)) H2) (hd : ∀ σ H, Pv xs.length σ H → D.nx σ H) :
    tFor (iZip K ta) (gTup K 2 (gCons (gName i) (gCons (gName j) gNil))) tb D σ H :=
  ha _ ⟨a, b, xs, ys, rfl, hx, hy, RZ.for_zipL hl Pv h0 hq (fun k x y T σ H e1 e2 p nT => PB.g_pair (SqT.of upd_same) (hs k x y σ H _ e1 e2 p (PB.Ext.new nT))) hd⟩
theorem ImAll.get {K : PySem.W.Frag} {H : Hp} {v : V} : ∀ {ds : List PyData} {us : List V} {i : Nat}, ImAll K H ds us → us[i]? = some v → ∃ d, ds[i]? = some d ∧ Im K H d v
  | [], us, i, h, e => by unfold ImAll at h; subst h; simp at e
  | d :: ds, us, i, h, e => by
    unfold ImAll at h
    obtain ⟨w, r, rfl, h1, h2⟩ := h
    cases i with
    | zero =>
      have : w = v := by simpa using e
      subst this
      exact ⟨d, rfl, h1⟩
    | succ i =>
      rw [List.getElem?_cons_succ] at e
      obtain ⟨d', k1, k2⟩ := ImAll.get (i := i) h2 e
      exact ⟨d', by rw [List.getElem?_cons_succ]; exact k1, k2⟩
theorem ImAll.len {K : PySem.W.Frag} {H : Hp} : ∀ {ds : List PyData} {vs : List V}, ImAll K H ds vs → vs.length = ds.length
  | [], vs, h => by unfold ImAll at h; subst h; rfl
  | e :: ds, vs, h => by
    unfold ImAll at h
    obtain ⟨w, r, rfl, h1, h2⟩ := h
    simp [ImAll.len h2]
/-- cells, compared -/
theorem p_neCell {K : PySem.W.Frag} {H : Hp} {u v : V} {d e : PyData} (h1 : Im K H d u) (h2 : Im K H e v) (c1 : ∃ p f b m, d = cellD p f b m) (c2 : ∃ p f b m, e = cellD p f b m) : PB.pR (PB.mNe K) u v H (.bl (!PyData.eqv d e)) := by
  obtain ⟨p, f, b, m, rfl⟩ := c1
  obtain ⟨p', f', b', m', rfl⟩ := c2
  have k1 := Im.dp _ _ h1
  have k2 := Im.dp _ _ h2
  unfold Im at h1 h2
  obtain ⟨a, xs, rfl, _⟩ := h1
  obtain ⟨a', xs', rfl, _⟩ := h2
  exact PB.p_neD k1 k2 (sh_cell.ok (by decide)) (sh_cell.ok (by decide))
theorem p_eqCell {K : PySem.W.Frag} {H : Hp} {u v : V} {d e : PyData} (h1 : Im K H d u) (h2 : Im K H e v) (c1 : ∃ p f b m, d = cellD p f b m) (c2 : ∃ p f b m, e = cellD p f b m) : PB.pR (PB.mEq K) u v H (.bl (PyData.eqv d e)) := by
  obtain ⟨p, f, b, m, rfl⟩ := c1
  obtain ⟨p', f', b', m', rfl⟩ := c2
  have k1 := Im.dp _ _ h1
  have k2 := Im.dp _ _ h2
  unfold Im at h1 h2
  obtain ⟨a, xs, rfl, _⟩ := h1
  obtain ⟨a', xs', rfl, _⟩ := h2
  exact PB.p_eqD k1 k2 (sh_cell.ok (by decide)) (sh_cell.ok (by decide))
def sp_difference (K : PySem.W.Frag) : Sp := fun vs H Q _ => ∃ (p dx R c p' dx' R' c' : Addr) (as as' : List Addr) (P P' : Pic), vs = [.ref p, .ref p'] ∧ PicAt K H p dx R c as P ∧ PicAt K H p' dx' R' c' as' P' ∧ Cells P.rows ∧ Cells P'.rows ∧ Same P.rows P'.rows ∧ P.rows.length ≤ 1000 ∧
  ∀ H', PB.Ext H H' → Q (.int (pdiff P.rows P'.rows)) H'
def N_difference : List Str := ["first", "second", "many", "row", "other", "cell", "twin"]
def t_difference (K : PySem.W.Frag) : TS := tSeq (tAsg (tC (.int 0)) (gName 2)) (
  tSeq (tFor (iZip K (tCons (PB.oFld (He.ga K "Picture") an_Picture 2 (PB.mVar 0)) (tCons (PB.oFld (He.ga K "Picture") an_Picture 2 (PB.mVar 1)) (tNil)))) (gTup K 2 (gCons (gName 3) (gCons (gName 4) (gNil)))) (PB.mAug 2 (tCB (PB.mLen K) (tCons (tLc (iZip K (tCons (PB.mVar 3) (tCons (PB.mVar 4) (tNil)))) (gTup K 2 (gCons (gName 5) (gCons (gName 6) (gNil)))) (PB.mTest (tOp (PB.mNe K) (PB.mVar 5) (PB.mVar 6))) (tC (.int 1)) [5, 6]) (tNil))) (fun i j => i + j))) (
  tRet (PB.mVar 2)))

theorem len_difference {K : PySem.W.Frag} : PB.Len 2 (sp_difference K) := by
  rintro vs H Q E ⟨_, _, _, _, _, _, _, _, _, _, _, _, rfl, _⟩
  rfl
theorem pure_difference (K : PySem.W.Frag) : PB.Pure N_difference (sp_difference K) (t_difference K) := by
  rintro vs H Q E ⟨p, dx, R, c, p', dx', R', c', as, as', P, P', rfl, hp, hp', cp, cp', sm, pl, q⟩
  show t_difference K _ [some (.ref p), some (.ref p'), none, none, none, none, none] H
  unfold t_difference
  have l1 := hp.rs.len
  have l2 := hp'.rs.len
  walk_at "w"
  walk_at "w"
  walk_at "w"
  dsimp only
  refine w_forZ (a := R) (b := R') (xs := as.map V.ref) (ys := as'.map V.ref) (PB.p_cons (PB.p_ofld (PB.p_var rfl) hp.ob rfl) (PB.p_cons (PB.p_ofld (PB.p_var rfl) hp'.ob rfl) PB.p_nil)) (SqL.of hp.rl) (SqL.of hp'.rl) (by rw [List.length_map, List.length_map, l1, l2, sm.1])
    (fun i σ H1 => PB.Ext H H1 ∧ ∃ x y, σ = [some (.ref p), some (.ref p'), some (.int (((List.range i).map fun k => rdiff (P.rows.getD k []) (P'.rows.getD k [])).sum : Nat)), x, y, none, none]) ?_ ?_ ?_ ?_
  · exact ⟨PB.Ext.refl _, none, none, rfl⟩
  · rintro i σ H1 ⟨x1, _⟩
    exact ⟨SqL.of (x1 _ _ hp.rl), SqL.of (x1 _ _ hp'.rl)⟩
  · rintro k x y σ H1 H2 e1 e2 ⟨x1, _, _, rfl⟩ x12
    have x2 := x1.trans x12
    rw [List.getElem?_map] at e1 e2
    obtain ⟨r, hr, rfl⟩ : ∃ r, as[k]? = some r ∧ x = .ref r := by
      cases hx : as[k]? with
      | none => rw [hx] at e1; cases e1
      | some r => rw [hx] at e1; exact ⟨r, rfl, (Option.some.inj e1).symm⟩
    obtain ⟨r', hr', rfl⟩ : ∃ r, as'[k]? = some r ∧ y = .ref r := by
      cases hx : as'[k]? with
      | none => rw [hx] at e2; cases e2
      | some r => rw [hx] at e2; exact ⟨r, rfl, (Option.some.inj e2).symm⟩
    obtain ⟨d, us, g1, g2, g3⟩ := (hp.rs.ext x2).get hr
    obtain ⟨d', us', g1', g2', g3'⟩ := (hp'.rs.ext x2).get hr'
    have dm := List.mem_of_getElem? g1
    have dm' := List.mem_of_getElem? g1'
    have dk : P.rows.getD k [] = d := by rw [List.getD_eq_getElem?_getD, g1]; rfl
    have dk' : P'.rows.getD k [] = d' := by rw [List.getD_eq_getElem?_getD, g1']; rfl
    have ll := sm.2 k
    rw [dk, dk'] at ll
    have ul := g3.len
    have ul' := g3'.len
    have dl := (cp d dm).1
    refine PB.w_augK rfl (PB.k_cb (PB.k_cons ?_))
    refine k_lcZ (v := .int 1) (fun i => !PyData.eqv (d.getD i .none) (d'.getD i .none)) (PB.p_cons (PB.p_var rfl) (PB.p_cons (PB.p_var rfl) PB.p_nil)) (SqL.of g2) (SqL.of g2') (by omega) (PB.sz_le (by omega)) (fun _ _ => rfl) ?_ (fun _ _ _ => PB.p_c) ?_
    · intro i u w H3 f1 f2 x3
      obtain ⟨z, z1, z2⟩ := g3.get f1
      obtain ⟨z', z1', z2'⟩ := g3'.get f2
      have h1 : d.getD i .none = z := by rw [List.getD_eq_getElem?_getD, z1]; rfl
      have h2 : d'.getD i .none = z' := by rw [List.getD_eq_getElem?_getD, z1']; rfl
      rw [h1, h2]
      have t3 : Tst H2 H3 := fun b ys z => x3 b _ z
      exact PB.p_test (PB.p_op (PB.p_var rfl) (PB.p_var rfl) (p_neCell (Im.mono t3 _ _ z2) (Im.mono t3 _ _ z2') ((cp d dm).2 z (List.mem_of_getElem? z1)) ((cp' d' dm').2 z' (List.mem_of_getElem? z1'))))
    · intro D H3 acc nD vD al x3
      refine PB.k_nil (PB.p_lenH vD _ (PB.k_kAug ?_))
      refine ⟨x2.trans x3, some (.ref r), some (.ref r'), ?_⟩
      have e : acc.length = rdiff (P.rows.getD k []) (P'.rows.getD k []) := by
        rw [al, ul, dk, dk']
        rfl
      have e3 : ((((List.range k).map fun k => rdiff (P.rows.getD k []) (P'.rows.getD k [])).sum : Nat) : Int) + (acc.length : Int) = (((List.range (k + 1)).map fun k => rdiff (P.rows.getD k []) (P'.rows.getD k [])).sum : Nat) := by
        rw [List.range_succ, List.map_append, List.sum_append, e]
        simp
      rw [e3]
      rfl
  · rintro σ H1 ⟨x1, x, y, rfl⟩
    rw [List.length_map, l1]
    walk_at "ws"
    exact q H1 x1

/-! ## pictures: the law's cells -/
def sp_law_integer (K : PySem.W.Frag) : Sp := fun vs H Q _ => ∃ n : Int, vs = [.int n] ∧ Q (.bl true) H
def N_law_integer : List Str := ["value"]
def t_law_integer (K : PySem.W.Frag) : TS := tRet (PB.mAndV (tCB (rIsi K) (tCons (PB.mVar 0) (tCons (tC (.ty "int")) (tNil)))) (PB.mNotV (tCB (rIsi K) (tCons (PB.mVar 0) (tCons (tC (.ty "bool")) (tNil))))))

theorem len_law_integer {K : PySem.W.Frag} : PB.Len 1 (sp_law_integer K) := by walk_at "len"
theorem pure_law_integer (K : PySem.W.Frag) : PB.Pure N_law_integer (sp_law_integer K) (t_law_integer K) := by
  rintro vs H Q E ⟨n, rfl, q⟩
  show t_law_integer K _ [some (.int n)] H
  unfold t_law_integer
  walk_at "ws"
  exact q
theorem pp_law_integer {K : PySem.W.Frag} {n : Int} {H : Hp} : PB.pSp (sp_law_integer K) [.int n] H (.bl true) := fun Q q => ⟨n, rfl, q⟩
local macro_rules | `(tactic| walk_at "pS") => `(tactic| with_reducible exact pp_law_integer)
theorem k_appK' {ta te : TE} {σ : L2.St} {H : Hp} {l : Addr} {xs : List V} {Q : VK} (ha : PB.pE ta σ H (.ref l)) (hH : H l = some (.lst xs)) (h : te σ H fun v H1 => PB.mAppend (.ref l) [v] H1 Q) : PB.mLM PB.mAppend ta (tCons te tNil) σ H Q := by
  refine ha _ ?_
  show (match H l with | some (.lst _) => _ | _ => False)
  rw [hH]
  exact h
theorem k_app' {H : Hp} {l : Addr} {xs : List V} {v : V} {Q : VK} (hH : H l = some (.lst xs)) (hl : xs.length < sizeLine) (q : Q .non (upd H l (.lst (xs ++ [v])))) : PB.mAppend (.ref l) [v] H Q := by
  show (match H l with | some (.lst xs) => xs.length < sizeLine ∧ Q .non (upd H l (.lst (xs ++ [v]))) | _ => False)
  rw [hH]
  exact ⟨hl, q⟩
theorem ImAll.app' {K : PySem.W.Frag} {H : Hp} : ∀ {ds es : List PyData} {us vs : List V}, ImAll K H ds us → ImAll K H es vs → ImAll K H (ds ++ es) (us ++ vs)
  | [], _, us, _, h, h' => by unfold ImAll at h; subst h; exact h'
  | d :: ds, _, us, _, h, h' => by
    unfold ImAll at h
    obtain ⟨w, r, rfl, h1, h2⟩ := h
    exact im_cons h1 (ImAll.app' h2 h')
/-- drawn rows: w cells each, of the points 97 to 100 -/
def Drawn (w h : Int) (rows : List (List PyData)) : Prop := (rows.length : Int) = h ∧ ∀ r ∈ rows, (r.length : Int) = w ∧ ∀ d ∈ r, ∃ p f b m, d = cellD p f b m ∧ 97 ≤ p ∧ p ≤ 100
def sp_law_cells (K : PySem.W.Frag) : Sp := fun vs H Q _ => ∃ c w h : Int, vs = [.int c, .int w, .int h] ∧ 2 ≤ w ∧ w ≤ 9 ∧ 1 ≤ h ∧ h ≤ 5 ∧
  ∀ R H' as rows, H R = none → H' R = some (.lst (as.map V.ref)) → Rws K H' as rows → Drawn w h rows → (∀ a ∈ as, H a = none) → as.Nodup → PB.Ext H H' → Q (.ref R) H'
def N_law_cells : List Str := ["cell", "w", "h", "styles", "rows", "drawn", "r", "c"]
def t_law_cells (K : PySem.W.Frag) : TS := tSeq (tAsg (tLst (tCons (tTup (tCons (tUn PB.mNeg (tC (.int 1))) (tCons (tUn PB.mNeg (tC (.int 1))) (tCons (tC (.int 0)) (tNil))))) (tCons (tTup (tCons (tC (.int 1)) (tCons (tUn PB.mNeg (tC (.int 1))) (tCons (tC (.int 0)) (tNil))))) (tCons (tTup (tCons (tUn PB.mNeg (tC (.int 1))) (tCons (tC (.int 255)) (tCons (tC (.int 8)) (tNil))))) (tNil))))) (gName 3)) (
  tSeq (tAsg (tLst (tNil)) (gName 4)) (
  tSeq (tAsg (PB.mCall (sp_law_row K) (tCons (PB.mVar 0) (tCons (tOp (PB.mMul) (PB.mVar 1) (PB.mVar 2)) (tCons (tC (.int 12)) (tNil))))) (gName 5)) (
  tSeq (tFor (iRng1 (tCons (PB.mVar 2) (tNil))) (gName 6) (tDrop (PB.mLM (PB.mAppend) (PB.mVar 4) (tCons (tLc (iRng1 (tCons (PB.mVar 1) (tNil))) (gName 7) (tYes) (tTup (tCons (tOp (PB.mAdd K) (tC (.int 97)) (tOp (PB.mMod) (tOp (PB.mIx K) (PB.mVar 5) (tOp (PB.mAdd K) (tOp (PB.mMul) (PB.mVar 6) (PB.mVar 1)) (PB.mVar 7))) (tC (.int 4)))) (tCons (tOp (PB.mIx K) (PB.mVar 3) (tOp (PB.mDiv) (tOp (PB.mIx K) (PB.mVar 5) (tOp (PB.mAdd K) (tOp (PB.mMul) (PB.mVar 6) (PB.mVar 1)) (PB.mVar 7))) (tC (.int 4)))) (tNil)))) [7]) (tNil))))) (
  tRet (PB.mVar 4)))))

theorem len_law_cells {K : PySem.W.Frag} : PB.Len 3 (sp_law_cells K) := by walk_at "len"
theorem pure_law_cells (K : PySem.W.Frag) : PB.Pure N_law_cells (sp_law_cells K) (t_law_cells K) := by
  rintro vs H Q E ⟨c, w, h, rfl, w0, w1, h0, h1, q⟩
  show t_law_cells K _ [some (.int c), some (.int w), some (.int h), none, none, none, none, none] H
  unfold t_law_cells
  walk_at "ws"
  intro s1 H1 n1 v1 x1
  walk_at "ws"
  intro s2 H2 n2 v2 x2
  walk_at "ws"
  intro s3 H3 n3 v3 x3
  walk_at "ws"
  intro S H4 nS vS xS
  walk_at "ws"
  intro R H5 nR vR xR
  walk_at "ws"
  have wh0 : 0 ≤ w * h := Int.mul_nonneg (by omega) (by omega)
  have wh1 : w * h ≤ 45 := by
    have := Int.mul_le_mul (a := w) (b := h) (c := 9) (d := 5) w1 h1 (by omega) (by omega)
    omega
  refine ⟨c, w * h, 12, rfl, wh0, by omega, by decide, by decide, fun xs xl xb D H6 nD vD xD => ?_⟩
  have xs45 : xs.length ≤ 45 := by omega
  have vR6 := xD _ _ vR
  have nR0 : H R = none := none_of' (x1.trans (x2.trans (x3.trans xS))) nR
  have x6 : PB.Ext H H6 := x1.trans (x2.trans (x3.trans (xS.trans (xR.trans xD))))
  have vS6 := xD _ _ (xR _ _ vS)
  have v16 := xD _ _ (xR _ _ (xS _ _ (x3 _ _ (x2 _ _ v1))))
  have v26 := xD _ _ (xR _ _ (xS _ _ (x3 _ _ v2)))
  have v36 := xD _ _ (xR _ _ (xS _ _ v3))
  have DR : D ≠ R := (L2.ne_of_none vR nD).symm
  have SR : S ≠ R := ne_of_none vS nR
  have R1 : s1 ≠ R := ne_of_none (xS _ _ (x3 _ _ (x2 _ _ v1))) nR
  have R2 : s2 ≠ R := ne_of_none (xS _ _ (x3 _ _ v2)) nR
  have R3 : s3 ≠ R := ne_of_none (xS _ _ v3) nR
  clear x1 x2 x3 xS xR xD v1 v2 v3 vS vR nR nS n1 n2 n3 nD
  dsimp only
  refine PB.w_seq (PB.w_forR1 (j := h) (PB.p_cons (PB.p_var rfl) PB.p_nil) (by omega) (by omega) (fun i σ H' => ∃ (as : List Addr) (rows : List (List PyData)) (x : Option V), σ = [some (.int c), some (.int w), some (.int h), some (.ref S), some (.ref R), some (.ref D), x, none] ∧
    H' R = some (.lst (as.map V.ref)) ∧ Rws K H' as rows ∧ rows.length = i ∧ (∀ r ∈ rows, (r.length : Int) = w ∧ ∀ d ∈ r, ∃ p f b m, d = cellD p f b m ∧ 97 ≤ p ∧ p ≤ 100) ∧ (∀ a ∈ as, H a = none ∧ a ≠ R) ∧ as.Nodup ∧ Fr [R] [R] H6 H') ?_ ?_ ?_)
  · exact ⟨[], [], none, rfl, vR6, trivial, rfl, (fun r m => by cases m), (fun a m => by cases m), List.nodup_nil, Fr.refl _ _⟩
  · rintro i σ H7 hi ⟨as, rows, x, rfl, vR7, rw7, rl, rg, fa, nd, f7⟩
    have kp : ∀ (a : Addr) (y : HO), a ≠ R → H6 a = some y → H7 a = some y := fun a y ne e => f7.1 a y (by rw [List.mem_singleton]; exact ne) e
    have al := rw7.len
    have x67 : PB.Ext H H7 := fr_toExt x6 nR0 f7
    have vD7 := kp _ _ DR vD
    have vS7 := kp _ _ SR vS6
    have v17 := kp _ _ R1 v16
    have v27 := kp _ _ R2 v26
    have v37 := kp _ _ R3 v36
    clear kp
    refine PB.g_name ?_
    refine PB.w_dropK (k_appK' (PB.p_var rfl) vR7 ?_)
    refine PB.k_lcR1 (j := w) (PB.p_cons (PB.p_var rfl) PB.p_nil) (by omega) (by omega) ?_
    refine PB.k_lcRG (PB.sz_le (by omega)) (fun _ => rfl) (fun E k acc H8 => ∃ ds, ds.length = k ∧ ImAll K H8 ds acc ∧ PB.Ext H7 H8 ∧ ∀ d ∈ ds, ∃ p f b m, d = cellD p f b m ∧ 97 ≤ p ∧ p ≤ 100) ?_ ?_ ?_
    · intro E nE
      exact ⟨[], rfl, im_nil, PB.Ext.new nE, fun d m => by cases m⟩
    · rintro E k acc H8 nE hk al8 vE ⟨ds, dl, im, x8, dg⟩
      have vD8 := x8 _ _ vD7
      have vS8 := x8 _ _ vS7
      have iw : (i : Int) * w + k < w * h := by
        have a1 : ((i : Int) + 1) * w ≤ h * w := Int.mul_le_mul_of_nonneg_right (by omega) (by omega)
        rw [Int.add_mul, Int.one_mul, Int.mul_comm h w] at a1
        omega
      have iw0 : 0 ≤ (i : Int) * w := Int.mul_nonneg (by omega) (by omega)
      have zi : (0 : Int) + (i : Int) = i := by omega
      have zk : (0 : Int) + (k : Int) = k := by omega
      have hc : CMulW ((0 : Int) + (i : Int)) w := PB.CMulW_of (by omega) (by omega)
      have hix : PB.pE (tOp (PB.mIx K) (PB.mVar 5) (tOp (PB.mAdd K) (tOp PB.mMul (PB.mVar 6) (PB.mVar 1)) (PB.mVar 7))) [some (.int c), some (.int w), some (.int h), some (.ref S), some (.ref R), some (.ref D), some (.int (0 + (i : Int))), some (.int (0 + (k : Int)))] H8 (.int (xs.getD ((0 + (i : Int)) * w + (0 + (k : Int))).toNat 0)) :=
        PB.p_op (PB.p_var rfl) (PB.p_op (PB.p_op (PB.p_var rfl) (PB.p_var rfl) (PB.p_mul hc)) (PB.p_var rfl) PB.p_add) (PB.p_ixIH vD8 (by rw [zi, zk]; omega) (by rw [zi, zk]; omega))
      have hb := xb (xs.getD ((0 + (i : Int)) * w + (0 + (k : Int))).toNat 0) (by
        have hlt : ((0 + (i : Int)) * w + (0 + (k : Int))).toNat < xs.length := by rw [zi, zk]; omega
        rw [List.getD_eq_getElem?_getD, List.getElem?_eq_getElem hlt]
        exact List.getElem_mem hlt)
      generalize xs.getD ((0 + (i : Int)) * w + (0 + (k : Int))).toNat 0 = X at hix hb
      have fin : ∀ (st : Addr) (f b m : Int), H8 st = some (.tup [.int f, .int b, .int m]) → atI [V.ref s1, V.ref s2, V.ref s3] (X / 4) = some (.ref st) → (tTup (tCons (tOp (PB.mAdd K) (tC (.int 97)) (tOp PB.mMod (tOp (PB.mIx K) (PB.mVar 5) (tOp (PB.mAdd K) (tOp PB.mMul (PB.mVar 6) (PB.mVar 1)) (PB.mVar 7))) (tC (.int 4)))) (tCons (tOp (PB.mIx K) (PB.mVar 3) (tOp PB.mDiv (tOp (PB.mIx K) (PB.mVar 5) (tOp (PB.mAdd K) (tOp PB.mMul (PB.mVar 6) (PB.mVar 1)) (PB.mVar 7))) (tC (.int 4)))) tNil)) : TE)
          [some (.int c), some (.int w), some (.int h), some (.ref S), some (.ref R), some (.ref D), some (.int (0 + (i : Int))), some (.int (0 + (k : Int)))] H8 (PB.kEl E (fun E k acc H8 => ∃ ds, ds.length = k ∧ ImAll K H8 ds acc ∧ PB.Ext H7 H8 ∧ ∀ d ∈ ds, ∃ p f b m, d = cellD p f b m ∧ 97 ≤ p ∧ p ≤ 100) k) := by
        intro st f b m hst hat
        refine PB.k_tupP (vs := [.int (97 + X % 4), .ref st]) (PB.p_cons (PB.p_op PB.p_c (PB.p_op hix PB.p_c (PB.p_mod (by decide))) PB.p_add) (PB.p_cons (PB.p_op (PB.p_var rfl) (PB.p_op hix PB.p_c (PB.p_div ⟨by decide, by decide +kernel⟩)) (PB.p_ixH vS8 hat)) PB.p_nil)) (PB.szle rfl) ?_
        intro T H9 nT vT xT
        have t9 : Tst H8 (upd H9 E (.lst (acc ++ [.ref T]))) := (show Tst H8 H9 from fun b ys z => xT b _ z).trans (ts_lst (xT _ _ vE))
        have TE : T ≠ E := (L2.ne_of_none vE nT).symm
        refine PB.kEl_mk (xT _ _ vE) al8 (PB.sz_lt (by omega)) ⟨ds ++ [cellD (97 + X % 4) f b m], by simp [dl], ?_, up_ext' (x8.trans xT) nE, ?_⟩
        · refine ImAll.app' (ImAll.mono t9 _ _ im) (im_cons (im_tup (by rw [upd_ne TE]; exact vT) (im_cons im_int (im_cons (im_tup (t9 _ _ hst) (im_ints [f, b, m])) im_nil))) im_nil)
        · intro d m'
          rcases List.mem_append.mp m' with m' | m'
          · exact dg d m'
          · rw [List.mem_singleton] at m'
            subst m'
            exact ⟨_, _, _, _, rfl, by omega, by omega⟩
      rcases (show X / 4 = 0 ∨ X / 4 = 1 ∨ X / 4 = 2 by omega) with z | z | z
      · exact fin s1 _ _ _ (x8 _ _ v17) (by rw [z]; rfl)
      · exact fin s2 _ _ _ (x8 _ _ v27) (by rw [z]; rfl)
      · exact fin s3 _ _ _ (x8 _ _ v37) (by rw [z]; rfl)
    · rintro E acc H8 nE vE al8 ⟨ds, dl, im, x8, dg⟩
      have ER : E ≠ R := (L2.ne_of_none vR7 nE).symm
      have vR8 := x8 _ _ vR7
      refine k_app' vR8 (PB.sz_lt (by rw [List.length_map]; omega)) ?_
      have t9 : Tst H8 (upd H8 R (.lst (as.map V.ref ++ [.ref E]))) := ts_lst vR8
      refine ⟨as ++ [E], rows ++ [ds], some (.int (0 + (i : Int))), rfl, by rw [upd_same, List.map_append]; rfl, ?_, by simp [rl], ?_, ?_, ?_, fr_upd (f7.trans (⟨fun b y _ h => x8 b y h, fun b h => .inl h⟩ : Fr [R] [R] H7 H8)) (by simp)⟩
      · refine Rws.snoc (us := acc) (by rw [upd_ne ER]; exact vE) (ImAll.mono t9 _ _ im) (Rws.mono t9 (fun a m us e => by rw [upd_ne (fa a m).2]; exact e) (rw7.ext x8))
      · intro r m
        rcases List.mem_append.mp m with m | m
        · exact rg r m
        · rw [List.mem_singleton] at m
          subst m
          exact ⟨by rw [dl]; omega, dg⟩
      · intro a m
        rcases List.mem_append.mp m with m | m
        · exact fa a m
        · rw [List.mem_singleton] at m
          subst m
          exact ⟨none_of' x67 nE, ER⟩
      · rw [List.nodup_append]
        refine ⟨nd, by simp, fun a ma b mb e => ?_⟩
        rw [List.mem_singleton] at mb
        subst mb
        subst e
        obtain ⟨us, hu⟩ := rw7.live a ma
        rw [nE] at hu; cases hu
  · rintro σ H7 ⟨as, rows, x, rfl, vR7, rw7, rl, rg, fa, nd, f7⟩
    walk_at "ws"
    exact q R H7 as rows nR0 vR7 rw7 ⟨by omega, rg⟩ (fun a m => (fa a m).1) nd (fr_toExt x6 nR0 f7)

/-! ## pictures: counting -/
theorem sum_zero (f : Nat → Nat) : ∀ n, ((List.range n).map f).sum = 0 ↔ ∀ k, k < n → f k = 0
  | 0 => by simp
  | n + 1 => by
    rw [List.range_succ, List.map_append, List.sum_append]
    have ih := sum_zero f n
    constructor
    · intro h k hk
      have h1 : ((List.range n).map f).sum = 0 := by omega
      by_cases e : k = n
      · subst e
        have : ((List.map f [k]).sum) = 0 := by omega
        simpa using this
      · exact ih.mp h1 k (by omega)
    · intro h
      have h1 := ih.mpr fun k hk => h k (by omega)
      have h2 := h n (by omega)
      simp [h1, h2]
theorem sum_set {f g : Nat → Nat} {r : Nat} (e : ∀ k, k ≠ r → f k = g k) : ∀ n, r < n → ((List.range n).map f).sum + g r = ((List.range n).map g).sum + f r
  | 0, h => by omega
  | n + 1, h => by
    simp only [List.range_succ, List.map_append, List.sum_append, List.map_cons, List.map_nil, List.sum_cons, List.sum_nil]
    by_cases c : r = n
    · subst c
      have : (List.range r).map f = (List.range r).map g := List.map_congr_left fun k m => e k (by have := List.mem_range.mp m; omega)
      rw [this]; omega
    · have ih := sum_set e n (by omega)
      have := e n (fun z => c z.symm)
      omega
def cnt (n : Nat) (p : Nat → Bool) : Nat := ((List.range n).filter p).length
theorem cnt_succ (n : Nat) (p : Nat → Bool) : cnt (n + 1) p = cnt n p + if p n = true then 1 else 0 := by
  unfold cnt
  rw [List.range_succ, List.filter_append, List.length_append]
  by_cases c : p n = true <;> simp [c]
theorem cnt_zero (p : Nat → Bool) : ∀ n, cnt n p = 0 ↔ ∀ k, k < n → p k = false
  | 0 => by simp [cnt]
  | n + 1 => by
    rw [cnt_succ]
    have ih := cnt_zero p n
    constructor
    · intro h k hk
      by_cases e : k = n
      · subst e
        by_cases c : p k = true
        · rw [if_pos c] at h; omega
        · simpa using c
      · exact ih.mp (by omega) k (by omega)
    · intro h
      rw [ih.mpr fun k hk => h k (by omega), if_neg (by rw [h n (by omega)]; simp)]
theorem cnt_set {p q : Nat → Bool} {c : Nat} (e : ∀ k, k ≠ c → p k = q k) : ∀ n, c < n → cnt n p + (if q c = true then 1 else 0) = cnt n q + if p c = true then 1 else 0
  | 0, h => by omega
  | n + 1, h => by
    rw [cnt_succ, cnt_succ]
    by_cases z : c = n
    · subst z
      have : cnt c p = cnt c q := by
        unfold cnt
        congr 1
        exact List.filter_congr fun k m => e k (by have := List.mem_range.mp m; omega)
      rw [this]; omega
    · have ih := cnt_set e n (by omega)
      rw [e n (fun w => z w.symm)]
      omega
theorem eqvAll_iff : ∀ (ds es : List PyData), PyData.eqvAll ds es = true ↔ ds.length = es.length ∧ ∀ k, k < ds.length → PyData.eqv (ds.getD k .none) (es.getD k .none) = true
  | [], [] => by simp [PyData.eqvAll]
  | [], _ :: _ => by simp [PyData.eqvAll]
  | _ :: _, [] => by simp [PyData.eqvAll]
  | d :: ds, e :: es => by
    have ih := eqvAll_iff ds es
    simp only [PyData.eqvAll, Bool.and_eq_true, ih, List.length_cons]
    constructor
    · rintro ⟨h1, h2, h3⟩
      refine ⟨by omega, fun k hk => ?_⟩
      cases k with
      | zero => simpa using h1
      | succ k => simpa using h3 k (by omega)
    · rintro ⟨h2, h3⟩
      refine ⟨by simpa using h3 0 (by omega), by omega, fun k hk => by simpa using h3 (k + 1) (by omega)⟩
theorem rdiff_zero {ds es : List PyData} (l : ds.length = es.length) : rdiff ds es = 0 ↔ PyData.eqvAll ds es = true := by
  rw [eqvAll_iff]
  have h := cnt_zero (fun k => !PyData.eqv (ds.getD k .none) (es.getD k .none)) ds.length
  unfold cnt at h
  unfold rdiff
  rw [h]
  simp [l]
theorem getD_map {r : List (List PyData)} {k : Nat} (h : k < r.length) : (r.map PyData.list).getD k .none = .list (r.getD k []) := by
  rw [List.getD_eq_getElem?_getD, List.getD_eq_getElem?_getD, List.getElem?_map, List.getElem?_eq_getElem h]; rfl
theorem eqRows_iff {r s : List (List PyData)} (sm : Same r s) : eqRows r s = decide (pdiff r s = 0) := by
  have : eqRows r s = true ↔ pdiff r s = 0 := by
    unfold eqRows pdiff
    rw [PyData.eqv, eqvAll_iff, sum_zero]
    simp only [List.length_map]
    constructor
    · rintro ⟨h1, h2⟩ k hk
      have := h2 k hk
      rw [getD_map hk, getD_map (by rw [← sm.1]; exact hk), PyData.eqv] at this
      exact (rdiff_zero (sm.2 k)).mpr this
    · intro h
      refine ⟨sm.1, fun k hk => ?_⟩
      rw [getD_map hk, getD_map (by rw [← sm.1]; exact hk), PyData.eqv]
      exact (rdiff_zero (sm.2 k)).mp (h k hk)
  by_cases c : pdiff r s = 0
  · rw [this.mpr c, decide_eq_true c]
  · rw [decide_eq_false c]
    cases e : eqRows r s with
    | false => rfl
    | true => exact absurd (this.mp e) c
theorem eqv_cell {p f b m p' f' b' m' : Int} : PyData.eqv (cellD p f b m) (cellD p' f' b' m') = (decide (p = p') && (decide (f = f') && (decide (b = b') && decide (m = m')))) := by
  unfold cellD
  simp only [PyData.eqv, PyData.eqvAll, Bool.and_true]
  rfl
theorem eqv_cell_comm {d e : PyData} (h : ∃ p f b m, d = cellD p f b m) (h' : ∃ p f b m, e = cellD p f b m) : PyData.eqv d e = PyData.eqv e d := by
  obtain ⟨p, f, b, m, rfl⟩ := h
  obtain ⟨p', f', b', m', rfl⟩ := h'
  rw [eqv_cell, eqv_cell]
  simp only [eq_comm]
theorem Same.refl (r : List (List PyData)) : Same r r := ⟨rfl, fun _ => rfl⟩
theorem pdiff_refl {r : List (List PyData)} (c : Cells r) : pdiff r r = 0 := by
  unfold pdiff
  rw [sum_zero]
  intro k hk
  rw [rdiff_zero rfl, eqvAll_iff]
  refine ⟨rfl, fun j hj => ?_⟩
  have e1 : r.getD k [] ∈ r := by rw [List.getD_eq_getElem?_getD, List.getElem?_eq_getElem hk]; exact List.getElem_mem hk
  have e2 : (r.getD k []).getD j .none ∈ r.getD k [] := by rw [List.getD_eq_getElem?_getD (l := r.getD k []), List.getElem?_eq_getElem hj]; exact List.getElem_mem hj
  obtain ⟨p, f, b, m, e⟩ := (c _ e1).2 _ e2
  rw [e, eqv_cell]
  simp
theorem eqRows_refl {r : List (List PyData)} (c : Cells r) : eqRows r r = true := by rw [eqRows_iff (Same.refl r), decide_eq_true (pdiff_refl c)]
/-- one cell of the second picture is set -/
theorem getD_set {α : Type} {l : List α} {i k : Nat} {x d : α} : (l.set i x).getD k d = if k = i ∧ i < l.length then x else l.getD k d := by
  rw [List.getD_eq_getElem?_getD, List.getD_eq_getElem?_getD, List.getElem?_set]
  by_cases e : i = k
  · subst e
    by_cases h : i < l.length
    · simp [h]
    · rw [if_pos rfl, if_neg h, if_neg (fun z => h z.2), List.getElem?_eq_none (by omega)]
  · rw [if_neg e, if_neg (fun z => e z.1.symm)]
theorem Same.set {r s : List (List PyData)} (h : Same r s) {i c : Nat} {x : PyData} : Same r (s.set i ((s.getD i []).set c x)) := by
  refine ⟨by rw [List.length_set]; exact h.1, fun k => ?_⟩
  rw [getD_set]
  split
  · rename_i z
    rw [List.length_set, ← h.2 i, z.1]
  · exact h.2 k
theorem pdiff_set {r s : List (List PyData)} (h : Same r s) {i c : Nat} {x : PyData} (hi : i < r.length) (hc : c < (r.getD i []).length) :
    pdiff r (s.set i ((s.getD i []).set c x)) + (if PyData.eqv ((r.getD i []).getD c .none) ((s.getD i []).getD c .none) = true then 0 else 1) = pdiff r s + if PyData.eqv ((r.getD i []).getD c .none) x = true then 0 else 1 := by
  have hs : i < s.length := by rw [← h.1]; exact hi
  have hcs : c < (s.getD i []).length := by rw [← h.2 i]; exact hc
  have k1 := sum_set (f := fun k => rdiff (r.getD k []) ((s.set i ((s.getD i []).set c x)).getD k [])) (g := fun k => rdiff (r.getD k []) (s.getD k [])) (r := i) (fun k hk => by
    show rdiff _ _ = rdiff _ _
    rw [getD_set, if_neg (fun z => hk z.1)]) r.length hi
  try dsimp only at k1
  rw [getD_set (l := s) (i := i) (k := i), if_pos ⟨rfl, hs⟩] at k1
  have k2 := cnt_set (p := fun j => !PyData.eqv ((r.getD i []).getD j .none) (((s.getD i []).set c x).getD j .none)) (q := fun j => !PyData.eqv ((r.getD i []).getD j .none) ((s.getD i []).getD j .none)) (c := c) (fun j hj => by
    show (!_) = (!_)
    rw [getD_set, if_neg (fun z => hj z.1)]) (r.getD i []).length hc
  try dsimp only at k2
  have g2 : ((s.getD i []).set c x).getD c .none = x := by rw [getD_set, if_pos ⟨rfl, hcs⟩]
  rw [g2] at k2
  have e1 : rdiff (r.getD i []) ((s.getD i []).set c x) = cnt (r.getD i []).length (fun j => !PyData.eqv ((r.getD i []).getD j .none) (((s.getD i []).set c x).getD j .none)) := rfl
  have e2 : rdiff (r.getD i []) (s.getD i []) = cnt (r.getD i []).length (fun j => !PyData.eqv ((r.getD i []).getD j .none) ((s.getD i []).getD j .none)) := rfl
  rw [e1, e2] at k1
  have g : ∀ b : Bool, (if (!b) = true then 1 else 0 : Nat) = if b = true then 0 else 1 := by intro b; cases b <;> rfl
  rw [g, g] at k2
  unfold pdiff
  omega

/-! ## pictures: the law -/
def kPic (K : PySem.W.Frag) (Q : VK) : List V → Hp → Prop := fun vs H1 => ∀ x dx, H1 x = none → H1 dx = none → dx ≠ x → sp_Picture___init__ K (.ref x :: vs) (upd (upd H1 dx (.own x)) x (.ins (He.ga K "Picture") dx [])) (fun v H2 => v = .non ∧ Q (.ref x) H2) E0
theorem k_pic {K : PySem.W.Frag} {tl : TA} {σ : L2.St} {H : Hp} {Q : VK} (h : tl σ H (kPic K Q)) : PB.mMake (He.ga K "Picture") (sp_Picture___init__ K) tl σ H Q := h
theorem k_kPic {K : PySem.W.Frag} {H : Hp} {Q : VK} {w h : Int} {R c : Addr} {v : Bool} {as : List Addr} {rows : List (List PyData)} {cur : List Int} (hR : H R = some (.lst (as.map V.ref))) (hr : Rws K H as rows) (al : as.length ≤ 1000) (hc : H c = some (.tup (cur.map V.int)))
    (q : ∀ p dx R' as' H', PicAt K H' p dx R' c as' ⟨w, h, rows, cur, v⟩ → PB.Ext H H' → H p = none → H R' = none → (∀ a ∈ as', H a = none) → Q (.ref p) H') : kPic K Q [.int w, .int h, .ref R, .ref c, .bl v] H := by
  intro x dx nx nd ne
  have x1 : PB.Ext H (upd (upd H dx (.own x)) x (.ins (He.ga K "Picture") dx [])) := fun a o e => by rw [upd_ne (L2.ne_of_none e nx), upd_ne (L2.ne_of_none e nd)]; exact e
  refine ⟨x, dx, R, c, w, h, v, as, rows, cur, rfl, upd_same, x1 _ _ hR, hr.ext x1, al, x1 _ _ hc, fun H' R' as' pa keep nR nas => ⟨rfl, ?_⟩⟩
  exact q x dx R' as' H' pa (fun a o e => keep a o (L2.ne_of_none e nx) (x1 a o e)) nx (none_of' x1 nR) (fun a m => none_of' x1 (nas a m))
theorem k_mkPic {K : PySem.W.Frag} {H : Hp} {Q : Addr → Hp → Prop} {w h : Int} {R c : Addr} {v : Bool} {as : List Addr} {rows : List (List PyData)} {cur : List Int} (hR : H R = some (.lst (as.map V.ref))) (hr : Rws K H as rows) (al : as.length ≤ 1000) (hc : H c = some (.tup (cur.map V.int)))
    (q : ∀ p dx R' as' H', PicAt K H' p dx R' c as' ⟨w, h, rows, cur, v⟩ → PB.Ext H H' → H p = none → H R' = none → (∀ a ∈ as', H a = none) → Q p H') :
    ∀ (x dx : Addr) (H' : Hp), H x = none → H' x = some (.ins (He.ga K "Picture") dx []) → PB.Ext H H' → sp_Picture___init__ K [.ref x, .int w, .int h, .ref R, .ref c, .bl v] H' (fun v H2 => v = .non ∧ Q x H2) E0 := by
  intro x dx H1 nx vx x1
  refine ⟨x, dx, R, c, w, h, v, as, rows, cur, rfl, vx, x1 _ _ hR, hr.ext x1, al, x1 _ _ hc, fun H' R' as' pa keep nR nas => ⟨rfl, ?_⟩⟩
  exact q x dx R' as' H' pa (fun a o e => keep a o (L2.ne_of_none e nx) (x1 a o e)) nx (none_of' x1 nR) (fun a m => none_of' x1 (nas a m))
theorem p_ownP {K : PySem.W.Frag} (o : PB.OwnC K (He.ga K "Picture")) {H : Hp} {p dx R c s dx' R' c' : Addr} {as as' : List Addr} {P S : Pic} (h : PicAt K H p dx R c as P) (h' : PicAt K H s dx' R' c' as' S) (cp : Cells P.rows) (cs : Cells S.rows) :
    PB.pR (PB.rOwn K (He.ga K "Picture") (sp_Picture___eq__ K)) (.ref p) (.ref s) H (.bl (eqPic P S)) := fun Q q => PB.k_own o h.ob h'.ob ⟨p, dx, R, c, as, P, .ref s, rfl, h, cp, .inl ⟨s, dx', R', c', as', S, rfl, h', cs, ⟨_, rfl⟩, q⟩⟩
theorem p_ownI {K : PySem.W.Frag} (o : PB.OwnC K (He.ga K "Picture")) {H : Hp} {p dx R c : Addr} {as : List Addr} {P : Pic} {i : Int} (h : PicAt K H p dx R c as P) (cp : Cells P.rows) :
    PB.pR (PB.rOwn K (He.ga K "Picture") (sp_Picture___eq__ K)) (.ref p) (.int i) H (.bl false) := fun Q q => PB.k_ownI o h.ob ⟨p, dx, R, c, as, P, .int i, rfl, h, cp, .inr (.inl ⟨i, rfl, ⟨_, rfl⟩, q⟩)⟩
theorem p_ownL {K : PySem.W.Frag} (o : PB.OwnC K (He.ga K "Picture")) {H : Hp} {p dx R c a : Addr} {as : List Addr} {P : Pic} {xs : List V} (h : PicAt K H p dx R c as P) (ha : H a = some (.lst xs)) (cp : Cells P.rows) :
    PB.pR (PB.rOwn K (He.ga K "Picture") (sp_Picture___eq__ K)) (.ref p) (.ref a) H (.bl false) := fun Q q => PB.k_ownL o h.ob ha ⟨p, dx, R, c, as, P, .ref a, rfl, h, cp, .inr (.inr ⟨a, xs, rfl, ha, ⟨_, rfl⟩, q⟩)⟩
theorem Drawn.cells {w h : Int} {rows : List (List PyData)} (d : Drawn w h rows) (hw : w ≤ 9) : Cells rows := fun r m => ⟨by have := (d.2 r m).1; omega, fun e me => by
  obtain ⟨p, f, b, q, rfl, _⟩ := (d.2 r m).2 e me
  exact ⟨p, f, b, q, rfl⟩⟩
theorem w_asgGK {te : TE} {g : TG} {D : Ends} {σ : L2.St} {H : Hp} (h : te σ H fun x H1 => g x σ H1 D.nx) : tAsg te g D σ H := h
theorem k_gSub {to ti : TE} {σ : L2.St} {H : Hp} {v : V} {p : Addr} {k : Int} {xs : List V} {R : L2.St → Hp → Prop} (ho : PB.pE to σ H (.ref p)) (hi : PB.pE ti σ H (.int k)) (hH : H p = some (.lst xs)) (h0 : 0 ≤ k) (h1 : k < (xs.length : Int)) (q : R σ (upd H p (.lst (xs.set k.toNat v)))) : gSub to ti PB.mSet v σ H R := by
  refine ho _ (hi _ ?_)
  show (match H p with | some (.lst xs) => (match ixN xs.length k with | some j => R σ (upd H p (.lst (xs.set j v))) | none => False) | _ => False)
  have e : ixN xs.length k = some k.toNat := by unfold ixN; rw [if_pos h0, if_pos h1]
  simp only [hH, e]
  exact q
theorem PicAt.fr {K : PySem.W.Frag} {H H' : Hp} {p dx R c : Addr} {as : List Addr} {P : Pic} (h : PicAt K H p dx R c as P) {a : Addr} {xs : List V} {y : HO} (ha : H a = some (.lst xs)) (e : H' = upd H a y) (n1 : R ≠ a) (n2 : a ∉ as) : PicAt K H' p dx R c as P := by
  subst e
  have t : Tst H (upd H a y) := ts_lst ha
  exact ⟨by rw [upd_ne (ne_of h.ob ha (by intro z; cases z))]; exact h.ob, by rw [upd_ne n1]; exact h.rl, Rws.mono t (fun b m us e => by rw [upd_ne (fun z => by subst z; exact n2 m)]; exact e) h.rs, by rw [upd_ne (ne_of h.cu ha (by intro z; cases z))]; exact h.cu⟩
theorem ImAll.setA {K : PySem.W.Frag} {H : Hp} {x : PyData} {v : V} (hv : Im K H x v) : ∀ {ds : List PyData} {us : List V} {i : Nat}, ImAll K H ds us → ImAll K H (ds.set i x) (us.set i v)
  | [], us, i, h => by unfold ImAll at h; subst h; exact im_nil
  | d :: ds, us, i, h => by
    unfold ImAll at h
    obtain ⟨w, r, rfl, h1, h2⟩ := h
    cases i with
    | zero => exact im_cons hv h2
    | succ i => exact im_cons h1 (ImAll.setA hv h2)
theorem Rws.put {K : PySem.W.Frag} {H : Hp} {b : Addr} {d' : List PyData} {us us' : List V} (hb : H b = some (.lst us)) (hd : ImAll K (upd H b (.lst us')) d' us') : ∀ {as : List Addr} {ds : List (List PyData)} {i : Nat}, as.Nodup → as[i]? = some b → Rws K H as ds → Rws K (upd H b (.lst us')) as (ds.set i d')
  | [], [], i, _, e, _ => by simp at e
  | a :: as, d :: ds, 0, nd, e, h => by
    have : a = b := by simpa using e
    subst this
    have t : Tst H (upd H a (.lst us')) := ts_lst hb
    exact ⟨⟨us', upd_same, hd⟩, Rws.mono t (fun c m us e => by rw [upd_ne (fun z => by subst z; exact (List.nodup_cons.mp nd).1 m)]; exact e) h.2⟩
  | a :: as, d :: ds, i + 1, nd, e, h => by
    rw [List.getElem?_cons_succ] at e
    have t : Tst H (upd H b (.lst us')) := ts_lst hb
    have ne : a ≠ b := fun z => by subst z; exact (List.nodup_cons.mp nd).1 (List.mem_of_getElem? e)
    obtain ⟨⟨us1, h1, h2⟩, h3⟩ := h
    exact ⟨⟨us1, by rw [upd_ne ne]; exact h1, ImAll.mono t _ _ h2⟩, Rws.put hb hd (List.nodup_cons.mp nd).2 e h3⟩
  | [], _ :: _, _, _, _, h => h.elim
  | _ :: _, [], _, _, _, h => h.elim
theorem k_andVP {ta tb : TE} {σ : L2.St} {H : Hp} {Q : VK} (ha : PB.pE ta σ H (.bl true)) (q : tb σ H Q) : PB.mAndV ta tb σ H Q := by
  refine ha _ ?_
  show (if true = true then tb σ H Q else Q (.bl false) H)
  rw [if_pos rfl]
  exact q
def sp_law (K : PySem.W.Frag) : Sp := fun vs H Q _ => ∃ (a : Addr) (ns : List Int), vs = [.ref a] ∧ SqL K H a (ns.map V.int) ∧ ns.length ≤ 63 ∧ ∀ H', Q (.bl true) H'
def N_law : List Str := ["script", "first", "w", "h", "rows", "cursor", "handed", "picture", "others", "count", "k", "x", "r", "c", "other", "actual", "row"]
def t_law (K : PySem.W.Frag) : TS := tSeq (tAsg (PB.mCall (sp_law_cell K) (tCons (PB.mVar 0) (tCons (tC (.int 0)) (tNil)))) (gName 1)) (
  tSeq (tAsg (tOp (PB.mAdd K) (tC (.int 2)) (tOp (PB.mMod) (PB.mVar 1) (tC (.int 8)))) (gName 2)) (
  tSeq (tAsg (tOp (PB.mAdd K) (tC (.int 1)) (tOp (PB.mMod) (tOp (PB.mDiv) (PB.mVar 1) (tC (.int 8))) (tC (.int 5)))) (gName 3)) (
  tSeq (tAsg (PB.mCall (sp_law_cells K) (tCons (PB.mCall (sp_law_cell K) (tCons (PB.mVar 0) (tCons (tC (.int 1)) (tNil)))) (tCons (PB.mVar 2) (tCons (PB.mVar 3) (tNil))))) (gName 4)) (
  tSeq (tAsg (tTup (tCons (tOp (PB.mMod) (tOp (PB.mDiv) (PB.mVar 1) (tC (.int 40))) (PB.mVar 3)) (tCons (tOp (PB.mMod) (tOp (PB.mDiv) (PB.mVar 1) (tC (.int 200))) (PB.mVar 2)) (tNil)))) (gName 5)) (
  tSeq (tAsg (tLc (iList K (PB.mVar 4)) (gName 16) (tYes) (tCB (PB.mList K) (tCons (PB.mVar 16) (tNil))) [16]) (gName 6)) (
  tSeq (tAsg (PB.mMake (He.ga K "Picture") (sp_Picture___init__ K) (tCons (PB.mVar 2) (tCons (PB.mVar 3) (tCons (PB.mVar 6) (tCons (PB.mVar 5) (tCons (tC (.bl true)) (tNil))))))) (gName 7)) (
  tSeq (tAsg (tTup (tCons (tC (.int 65)) (tCons (tTup (tCons (tC (.int 2)) (tCons (tC (.int 2)) (tCons (tC (.int 2)) (tNil))))) (tNil)))) (gSub (tOp (PB.mIx K) (PB.mVar 6) (tC (.int 0))) (tC (.int 0)) PB.mSet)) (
  tSeq (tDrop (PB.mLM (PB.mAppend) (PB.mVar 6) (tCons (tLst (tNil)) (tNil)))) (
  C8.tCut (tIfS (tOr (PB.mTest (tOp (PB.mNe K) (PB.oFld (He.ga K "Picture") an_Picture 2 (PB.mVar 7)) (PB.mVar 4))) (tOr (PB.mTest (tOp (PB.mNe K) (PB.oFld (He.ga K "Picture") an_Picture 0 (PB.mVar 7)) (PB.mVar 2))) (tOr (PB.mTest (tOp (PB.mNe K) (PB.oFld (He.ga K "Picture") an_Picture 1 (PB.mVar 7)) (PB.mVar 3))) (PB.mTest (tOp (PB.mNe K) (PB.oFld (He.ga K "Picture") an_Picture 3 (PB.mVar 7)) (PB.mVar 5)))))) (tRet (tC (.bl false))) (tNext)) (
  C8.tCut (tIfS (tOr (PB.mTest (tOp PB.mNotB (PB.oFld (He.ga K "Picture") an_Picture 4 (PB.mVar 7)) (tC (.bl true)))) (tNot (PB.mTest (tOp (PB.rOwn K (He.ga K "Picture") (sp_Picture___eq__ K)) (PB.mVar 7) (PB.mMake (He.ga K "Picture") (sp_Picture___init__ K) (tCons (PB.mVar 2) (tCons (PB.mVar 3) (tCons (PB.mVar 4) (tCons (PB.mVar 5) (tCons (tC (.bl true)) (tNil))))))))))) (tRet (tC (.bl false))) (tNext)) (
  tSeq (tAsg (tLc (iList K (PB.mVar 4)) (gName 16) (tYes) (tCB (PB.mList K) (tCons (PB.mVar 16) (tNil))) [16]) (gName 8)) (
  tSeq (tAsg (tC (.int 0)) (gName 9)) (
  tSeq (tFor (iRng1 (tCons (tOp (PB.mMod) (PB.mCall (sp_law_cell K) (tCons (PB.mVar 0) (tCons (tC (.int 2)) (tNil)))) (tC (.int 4))) (tNil))) (gName 10) (tSeq (tAsg (PB.mCall (sp_law_cell K) (tCons (PB.mVar 0) (tCons (tOp (PB.mAdd K) (tC (.int 3)) (PB.mVar 10)) (tNil)))) (gName 11)) (
  tSeq (tAsg (tOp (PB.mMod) (PB.mVar 11) (PB.mVar 3)) (gName 12)) (
  tSeq (tAsg (tOp (PB.mMod) (tOp (PB.mDiv) (PB.mVar 11) (PB.mVar 3)) (PB.mVar 2)) (gName 13)) (
  C8.tCut (tIfS (PB.mTest (tOp (PB.mEq K) (tOp (PB.mIx K) (tOp (PB.mIx K) (PB.mVar 8) (PB.mVar 12)) (PB.mVar 13)) (tOp (PB.mIx K) (tOp (PB.mIx K) (PB.mVar 4) (PB.mVar 12)) (PB.mVar 13)))) (tAsg (tOp (PB.mAdd K) (PB.mVar 9) (tC (.int 1))) (gName 9)) (tNext)) (
  tAsg (tTup (tCons (tOp (PB.mAdd K) (tC (.int 200)) (PB.mVar 10)) (tCons (tTup (tCons (tUn PB.mNeg (tC (.int 1))) (tCons (tUn PB.mNeg (tC (.int 1))) (tCons (tC (.int 0)) (tNil))))) (tNil)))) (gSub (tOp (PB.mIx K) (PB.mVar 8) (PB.mVar 12)) (PB.mVar 13) PB.mSet))))))) (
  tSeq (tAsg (PB.mMake (He.ga K "Picture") (sp_Picture___init__ K) (tCons (PB.mVar 2) (tCons (PB.mVar 3) (tCons (PB.mVar 8) (tCons (PB.mVar 5) (tCons (tC (.bl true)) (tNil))))))) (gName 14)) (
  tSeq (tAsg (PB.mCall (sp_difference K) (tCons (PB.mVar 7) (tCons (PB.mVar 14) (tNil)))) (gName 15)) (
  C8.tCut (tIfS (tOr (tNot (PB.mTru K (PB.mCall (sp_law_integer K) (tCons (PB.mVar 15) (tNil))))) (tOr (PB.mTest (tOp (PB.mNe K) (PB.mVar 15) (PB.mVar 9))) (PB.mTest (tOp (PB.mNe K) (tOp (PB.rOwn K (He.ga K "Picture") (sp_Picture___eq__ K)) (PB.mVar 7) (PB.mVar 14)) (tOp (PB.mEq K) (PB.mVar 9) (tC (.int 0))))))) (tRet (tC (.bl false))) (tNext)) (
  C8.tCut (tIfS (tOr (PB.mTest (tOp (PB.rOwn K (He.ga K "Picture") (sp_Picture___eq__ K)) (PB.mVar 7) (PB.mMake (He.ga K "Picture") (sp_Picture___init__ K) (tCons (PB.mVar 2) (tCons (PB.mVar 3) (tCons (PB.mVar 4) (tCons (tTup (tCons (tOp (PB.mIx K) (PB.mVar 5) (tC (.int 0))) (tCons (tOp (PB.mAdd K) (tOp (PB.mIx K) (PB.mVar 5) (tC (.int 1))) (tC (.int 1))) (tNil)))) (tCons (tC (.bl true)) (tNil))))))))) (PB.mTest (tOp (PB.rOwn K (He.ga K "Picture") (sp_Picture___eq__ K)) (PB.mVar 7) (PB.mMake (He.ga K "Picture") (sp_Picture___init__ K) (tCons (PB.mVar 2) (tCons (PB.mVar 3) (tCons (PB.mVar 4) (tCons (PB.mVar 5) (tCons (tC (.bl false)) (tNil)))))))))) (tRet (tC (.bl false))) (tNext)) (
  C8.tCut (tIfS (tOr (PB.mTest (tOp (PB.rOwn K (He.ga K "Picture") (sp_Picture___eq__ K)) (PB.mVar 7) (PB.mMake (He.ga K "Picture") (sp_Picture___init__ K) (tCons (tOp (PB.mAdd K) (PB.mVar 2) (tC (.int 1))) (tCons (PB.mVar 3) (tCons (PB.mVar 4) (tCons (PB.mVar 5) (tCons (tC (.bl true)) (tNil))))))))) (PB.mTest (tOp (PB.rOwn K (He.ga K "Picture") (sp_Picture___eq__ K)) (PB.mVar 7) (PB.mMake (He.ga K "Picture") (sp_Picture___init__ K) (tCons (PB.mVar 2) (tCons (tOp (PB.mAdd K) (PB.mVar 3) (tC (.int 1))) (tCons (PB.mVar 4) (tCons (PB.mVar 5) (tCons (tC (.bl true)) (tNil)))))))))) (tRet (tC (.bl false))) (tNext)) (
  tRet (PB.mAndV (PB.mNotV (tOp (PB.rOwn K (He.ga K "Picture") (sp_Picture___eq__ K)) (PB.mVar 7) (PB.mVar 4))) (PB.mAndV (PB.mNotV (tOp (PB.rOwn K (He.ga K "Picture") (sp_Picture___eq__ K)) (PB.mVar 7) (PB.mVar 2))) (tOp (PB.mEq K) (PB.mCall (sp_difference K) (tCons (PB.mVar 7) (tCons (PB.mVar 7) (tNil)))) (tC (.int 0))))))))))))))))))))))))

theorem len_law {K : PySem.W.Frag} : PB.Len 1 (sp_law K) := by walk_at "len"
theorem pure_law (K : PySem.W.Frag) (o : PB.OwnC K (He.ga K "Picture")) : PB.Pure N_law (sp_law K) (t_law K) := by
  rintro vs H Q E ⟨a, ns, rfl, hs, hl, q⟩
  show t_law K _ [some (.ref a), none, none, none, none, none, none, none, none, none, none, none, none, none, none, none, none] H
  unfold t_law
  walk_at "ws"
  refine ⟨a, ns, 0, rfl, hs, by decide, ?_⟩
  generalize ns.getD (0 : Int).toNat 0 = F
  walk_at "ws"
  refine ⟨a, ns, 1, rfl, hs, by decide, ?_⟩
  generalize ns.getD (1 : Int).toNat 0 = G
  have w0 : 2 ≤ 2 + F % 8 ∧ 2 + F % 8 ≤ 9 := by omega
  have h0 : 1 ≤ 1 + F / 8 % 5 ∧ 1 + F / 8 % 5 ≤ 5 := by omega
  walk_at "ws"
  generalize 2 + F % 8 = w at w0
  generalize 1 + F / 8 % 5 = h at h0
  refine ⟨G, w, h, rfl, w0.1, w0.2, h0.1, h0.2, fun R0 H1 as0 rows nR0 vR0 rw0 dr f0 nd0 x1 => ?_⟩
  have hs1 := PB.ext_l x1 hs
  have cr := dr.cells w0.2
  have rl : rows.length = h.toNat := by have := dr.1; omega
  have al0 : as0.length ≤ 1000 := by rw [rw0.len]; omega
  walk_at "ws"
  intro c0 H2 nc0 vc0 xc0
  have cm0 := Int.emod_nonneg (F / 40) (show h ≠ 0 by omega)
  generalize F / 40 % h = cu0 at *
  generalize F / 200 % w = cu1 at *
  have vc0' : H2 c0 = some (.tup ([cu0, cu1].map V.int)) := vc0
  clear vc0
  have x2 := x1.trans xc0
  have hs2 := PB.ext_l xc0 hs1
  have vR2 := xc0 _ _ vR0
  have rw2 := rw0.ext xc0
  clear x1 xc0 hs1 vR0 rw0 nc0
  walk_at "ws"
  refine k_copy vR2 rw2 al0 (fun _ => rfl) (fun _ => rfl) fun R1 as1 H3 nR1 vR1 rw1 x3 f1 nd1 => ?_
  have al1 : as1.length ≤ 1000 := by rw [rw1.len]; omega
  walk_at "ws"
  refine k_mkPic vR1 rw1 al1 (x3 _ _ vc0') fun p dx R2 as2 H4 pa x4 np nR2 f2 => ?_
  -- a row of handed is set, and one more appended: nothing of what was before, nothing of the picture
  obtain ⟨b, as1', rfl⟩ : ∃ (b : Addr) (as1' : List Addr), as1 = b :: as1' := by
    cases as1 with
    | nil => have := rw1.len; simp at this; omega
    | cons b r => exact ⟨b, r, rfl⟩
  obtain ⟨d0, us0, g1, g2, g3⟩ := rw1.get (i := 0) rfl
  have d0m := List.mem_of_getElem? g1
  have u0 : 0 < us0.length := by
    have := g3.len
    have := (dr.2 d0 d0m).1
    omega
  have vb4 := x4 _ _ g2
  have vR14 := x4 _ _ vR1
  walk_at "ws"
  refine w_asgGK ?_
  walk_at "ws"
  intro T1 H5 nT1 vT1 y5
  walk_at "ws"
  intro T2 H6 nT2 vT2 y6
  have x46 := y5.trans y6
  have vb6 := x46 _ _ vb4
  have vR16 := x46 _ _ vR14
  have pa6 := pa.ext x46
  have hat : atI ((b :: as1').map V.ref) ((0 : Nat) : Int) = some (.ref b) := atI_nat rfl
  refine k_gSub (p := b) (k := 0) (xs := us0) (PB.p_op (PB.p_var rfl) PB.p_c (PB.p_ixH vR16 hat)) PB.p_c vb6 (by omega) (by omega) ?_
  have nb3 := f1 b (List.mem_cons_self ..)
  have bR1 : R1 ≠ b := nb3.2.symm
  have bR2 : R2 ≠ b := (L2.ne_of_none g2 nR2).symm
  have bas2 : b ∉ as2 := fun m => by have := f2 b m; rw [g2] at this; cases this
  have vR17 : (upd H6 b (.lst (us0.set (0 : Int).toNat (.ref T2)))) R1 = some (.lst ((b :: as1').map V.ref)) := by rw [upd_ne bR1]; exact vR16
  have pa7 := pa6.fr (y := .lst (us0.set (0 : Int).toNat (.ref T2))) vb6 rfl bR2 bas2
  have x27 : PB.Ext H2 (upd H6 b (.lst (us0.set (0 : Int).toNat (.ref T2)))) := up_ext' ((x3.trans x4).trans x46) nb3.1
  generalize upd H6 b (.lst (us0.set (0 : Int).toNat (.ref T2))) = H7 at vR17 pa7 x27
  walk_at "w"
  refine PB.w_dropK (k_appK' (PB.p_var rfl) vR17 ?_)
  refine PB.k_lstP (vs := []) PB.p_nil (PB.szle rfl) ?_
  intro N H8 nN vN xN
  have vR18 := xN _ _ vR17
  refine k_app' vR18 (PB.sz_lt (by simp at al1 ⊢; omega)) ?_
  have R1R2 : R2 ≠ R1 := (L2.ne_of_none vR1 nR2).symm
  have R1as : R1 ∉ as2 := fun m => by have := f2 R1 m; rw [vR1] at this; cases this
  have pa9 := (pa7.ext xN).fr (y := .lst ((b :: as1').map V.ref ++ [.ref N])) vR18 rfl R1R2 R1as
  have x29 : PB.Ext H2 (upd H8 R1 (.lst ((b :: as1').map V.ref ++ [.ref N]))) := up_ext' (x27.trans xN) nR1
  generalize upd H8 R1 (.lst ((b :: as1').map V.ref ++ [.ref N])) = H9 at pa9 x29
  have vR9 := x29 _ _ vR2
  have rw9 := rw2.ext x29
  have hs9 := PB.ext_l x29 hs2
  have vc9 := x29 _ _ vc0'
  have x9 := x2.trans x29
  clear pa7 vR18 vR17 x27 xN vN nN R1R2 R1as pa6 vR16 vb6 x46 vT2 y6 vT1 y5 nT1 nT2 bas2 bR2 bR1 nb3 vR14 vb4 u0 d0m g1 g2 g3 f2 nR2 np x4 pa nd1 f1 x3 rw1 vR1 nR1 x29 hat al1 vR2 rw2 hs2 vc0' x2
  obtain ⟨q1, q2, q3, q4⟩ := id pa9
  dsimp only
  refine PB.w_cut (PB.w_if (b := false) ?_ (fun z => by cases z) fun _ => PB.w_next ?_)
  · have z : PB.pT (tOr (PB.mTest (tOp (PB.mNe K) (PB.oFld (He.ga K "Picture") an_Picture 2 (PB.mVar 7)) (PB.mVar 4))) (tOr (PB.mTest (tOp (PB.mNe K) (PB.oFld (He.ga K "Picture") an_Picture 0 (PB.mVar 7)) (PB.mVar 2))) (tOr (PB.mTest (tOp (PB.mNe K) (PB.oFld (He.ga K "Picture") an_Picture 1 (PB.mVar 7)) (PB.mVar 3))) (PB.mTest (tOp (PB.mNe K) (PB.oFld (He.ga K "Picture") an_Picture 3 (PB.mVar 7)) (PB.mVar 5))))))
        [some (.ref a), some (.int F), some (.int w), some (.int h), some (.ref R0), some (.ref c0), some (.ref R1), some (.ref p), none, none, none, none, none, none, none, none, none] H9 (!eqRows rows rows || (!decide (w = w) || (!decide (h = h) || !decide (([cu0, cu1] : List Int) = [cu0, cu1])))) :=
      PB.p_or (PB.p_test (PB.p_op (PB.p_ofld (PB.p_var rfl) q1 rfl) (PB.p_var rfl) (p_neRows q2 vR9 q3 rw9 cr cr))) fun _ => PB.p_or (PB.p_test (PB.p_op (PB.p_ofld (PB.p_var rfl) q1 rfl) (PB.p_var rfl) PB.p_neI)) fun _ => PB.p_or (PB.p_test (PB.p_op (PB.p_ofld (PB.p_var rfl) q1 rfl) (PB.p_var rfl) PB.p_neI)) fun _ => PB.p_test (PB.p_op (PB.p_ofld (PB.p_var rfl) q1 rfl) (PB.p_var rfl) (p_neTI q4 vc9))
    rw [eqRows_refl cr] at z
    simp only [decide_true, Bool.not_true, Bool.or_self] at z
    exact z
  dsimp only
  refine PB.w_cut (PB.w_ifK (PB.k_orP (b := false) ?_ (fun z => by cases z) fun _ => PB.k_notK (PB.k_testK (PB.k_op (PB.k_pure (v := .ref p) (PB.p_var rfl) (k_pic (PB.k_pureA (PB.p_cons (PB.p_var rfl) (PB.p_cons (PB.p_var rfl) (PB.p_cons (PB.p_var rfl) (PB.p_cons (PB.p_var rfl) (PB.p_cons PB.p_c PB.p_nil))))) (k_kPic vR9 rw9 al0 vc9 fun p' dx' R' as' H10 pb x10 _ _ _ => p_ownP o (pa9.ext x10) pb cr cr _ ?_))))))))
  · exact PB.p_test (PB.p_op (PB.p_ofld (PB.p_var rfl) q1 rfl) PB.p_c PB.p_notB)
  have ep : ∀ P : Pic, Cells P.rows → eqPic P P = true := fun P c => by unfold eqPic; rw [eqRows_refl c]; simp
  rw [ep _ cr]
  refine PB.k_kTest (PB.k_kNot (PB.k_kIf (fun z => by cases z) fun _ => PB.w_next ?_))
  have pa10 := pa9.ext x10
  have vR10 := x10 _ _ vR9
  have rw10 := rw9.ext x10
  have vc10 := x10 _ _ vc9
  have hs10 := PB.ext_l x10 hs9
  have xx10 := x9.trans x10
  clear x10 pb pa9 vR9 rw9 vc9 hs9 x9 q1 q2 q3 q4
  walk_at "ws"
  refine k_copy vR10 rw10 al0 (fun _ => rfl) (fun _ => rfl) fun R3 as3 H11 nR3 vR3 rw3 x11 f3 nd3 => ?_
  walk_at "ws"
  have hs11 := PB.ext_l x11 hs10
  have ce : ∀ (H' : Hp) (k : Int), PB.Ext H10 H' → 0 ≤ k → PB.pSp (sp_law_cell K) [.ref a, .int k] H' (.int (ns.getD k.toNat 0)) := fun H' k x k0 Q q => ⟨a, ns, k, rfl, PB.ext_l x hs10, k0, q⟩
  refine PB.w_forR1 (j := ns.getD (2 : Int).toNat 0 % 4) (PB.p_cons (PB.p_op (PB.p_call (PB.p_cons (PB.p_var rfl) (PB.p_cons PB.p_c PB.p_nil)) (ce _ _ x11 (by decide))) PB.p_c (PB.p_mod (by decide))) PB.p_nil) (by omega) (by omega)
    (fun i σ H' => ∃ (O : List (List PyData)) (n : Nat) (x y z u : Option V), σ = [some (.ref a), some (.int F), some (.int w), some (.int h), some (.ref R0), some (.ref c0), some (.ref R1), some (.ref p), some (.ref R3), some (.int n), x, y, z, u, none, none, none] ∧
      H' R3 = some (.lst (as3.map V.ref)) ∧ Rws K H' as3 O ∧ Same rows O ∧ Cells O ∧ n = pdiff rows O ∧ PB.Ext H10 H') ?_ ?_ ?_
  · exact ⟨rows, 0, none, none, none, none, rfl, vR3, rw3, Same.refl _, cr, (pdiff_refl cr).symm, x11⟩
  · clear vR3 rw3 x11 hs11
    rintro i σ H12 hi ⟨O, n, x, y, z, u, rfl, vR3, rw3, sm, cO, en, x12⟩
    have i4 : i < 4 := by omega
    have vR12 := x12 _ _ vR10
    have rw12 := rw10.ext x12
    refine PB.g_name ?_
    refine PB.w_seq (PB.w_asg (PB.p_call (PB.p_cons (PB.p_var rfl) (PB.p_cons (PB.p_op PB.p_c (PB.p_var rfl) PB.p_add) PB.p_nil)) (ce _ _ x12 (by omega))) ?_)
    generalize ns.getD ((3 : Int) + (0 + (i : Int))).toNat 0 = X
    have hcd : CDivW X h := by
      rcases (show h = 1 ∨ h = 2 ∨ h = 3 ∨ h = 4 ∨ h = 5 by omega) with rfl | rfl | rfl | rfl | rfl <;> exact ⟨by omega, by decide +kernel⟩
    dsimp only
    refine PB.w_seq (PB.w_asg (PB.p_op (PB.p_var rfl) (PB.p_var rfl) (PB.p_mod (show 0 < h by omega))) ?_)
    dsimp only
    refine PB.w_seq (PB.w_asg (PB.p_op (PB.p_op (PB.p_var rfl) (PB.p_var rfl) (PB.p_div hcd)) (PB.p_var rfl) (PB.p_mod (show 0 < w by omega))) ?_)
    have r0 := Int.emod_nonneg X (show h ≠ 0 by omega)
    have r1 := Int.emod_lt_of_pos X (show 0 < h by omega)
    have c0' := Int.emod_nonneg (X / h) (show w ≠ 0 by omega)
    have c1 := Int.emod_lt_of_pos (X / h) (show 0 < w by omega)
    obtain ⟨r, er⟩ : ∃ r : Nat, X % h = r := ⟨(X % h).toNat, by omega⟩
    obtain ⟨c, ec⟩ : ∃ c : Nat, X / h % w = c := ⟨(X / h % w).toNat, by omega⟩
    rw [er] at r0 r1
    rw [ec] at c0' c1
    rw [er, ec]
    have rr : r < rows.length := by omega
    have r3 : r < as3.length := by rw [rw3.len, ← sm.1]; exact rr
    have r0l : r < as0.length := by rw [rw12.len]; exact rr
    obtain ⟨b3, hb3⟩ : ∃ b, as3[r]? = some b := ⟨_, List.getElem?_eq_getElem r3⟩
    obtain ⟨b0, hb0⟩ : ∃ b, as0[r]? = some b := ⟨_, List.getElem?_eq_getElem r0l⟩
    obtain ⟨d3, us3, g1, g2, g3⟩ := rw3.get hb3
    obtain ⟨d0, us0, k1, k2, k3⟩ := rw12.get hb0
    have D3 : O.getD r [] = d3 := by rw [List.getD_eq_getElem?_getD, g1]; rfl
    have D0 : rows.getD r [] = d0 := by rw [List.getD_eq_getElem?_getD, k1]; rfl
    have l0 : (d0.length : Int) = w := (dr.2 d0 (List.mem_of_getElem? k1)).1
    have l3 : d3.length = d0.length := by rw [← D3, ← D0]; exact (sm.2 r).symm
    have c3 : c < us3.length := by rw [g3.len]; omega
    have c0l : c < us0.length := by rw [k3.len]; omega
    obtain ⟨v3, hv3⟩ : ∃ v, us3[c]? = some v := ⟨_, List.getElem?_eq_getElem c3⟩
    obtain ⟨v0, hv0⟩ : ∃ v, us0[c]? = some v := ⟨_, List.getElem?_eq_getElem c0l⟩
    obtain ⟨e3, j1, j2⟩ := g3.get hv3
    obtain ⟨e0, m1, m2⟩ := k3.get hv0
    have E3 : d3.getD c .none = e3 := by rw [List.getD_eq_getElem?_getD, j1]; rfl
    have E0' : d0.getD c .none = e0 := by rw [List.getD_eq_getElem?_getD, m1]; rfl
    have ce3 := (cO d3 (List.mem_of_getElem? g1)).2 e3 (List.mem_of_getElem? j1)
    obtain ⟨pp, pf, pb, pm, ee0, p97, p100⟩ := (dr.2 d0 (List.mem_of_getElem? k1)).2 e0 (List.mem_of_getElem? m1)
    have ce0 : ∃ p f b m, e0 = cellD p f b m := ⟨pp, pf, pb, pm, ee0⟩
    have at3 : atI (as3.map V.ref) ((r : Nat) : Int) = some (.ref b3) := atI_nat (by rw [List.getElem?_map, hb3]; rfl)
    have at0 : atI (as0.map V.ref) ((r : Nat) : Int) = some (.ref b0) := atI_nat (by rw [List.getElem?_map, hb0]; rfl)
    have ps := pdiff_set (x := cellD (200 + (0 + (i : Int))) (-1) (-1) 0) sm rr (show c < (rows.getD r []).length by rw [D0]; omega)
    rw [D0, D3, E0', E3] at ps
    have nx : PyData.eqv e0 (cellD (200 + (0 + (i : Int))) (-1) (-1) 0) = false := by
      rw [ee0, eqv_cell, decide_eq_false (show ¬ pp = 200 + (0 + (i : Int)) by omega)]; rfl
    rw [nx] at ps
    rw [eqv_cell_comm ce0 ce3] at ps
    have fin : ∀ (n' : Nat), n' = pdiff rows (O.set r (d3.set c (cellD (200 + (0 + (i : Int))) (-1) (-1) 0))) → (tAsg (tTup (tCons (tOp (PB.mAdd K) (tC (.int 200)) (PB.mVar 10)) (tCons (tTup (tCons (tUn PB.mNeg (tC (.int 1))) (tCons (tUn PB.mNeg (tC (.int 1))) (tCons (tC (.int 0)) tNil)))) tNil))) (gSub (tOp (PB.mIx K) (PB.mVar 8) (PB.mVar 12)) (PB.mVar 13) PB.mSet) : TS)
        { nx := fun σ H' => ∃ (O : List (List PyData)) (n : Nat) (x y z u : Option V), σ = [some (.ref a), some (.int F), some (.int w), some (.int h), some (.ref R0), some (.ref c0), some (.ref R1), some (.ref p), some (.ref R3), some (.int n), x, y, z, u, none, none, none] ∧
          H' R3 = some (.lst (as3.map V.ref)) ∧ Rws K H' as3 O ∧ Same rows O ∧ Cells O ∧ n = pdiff rows O ∧ PB.Ext H10 H', rt := Q }
        [some (.ref a), some (.int F), some (.int w), some (.int h), some (.ref R0), some (.ref c0), some (.ref R1), some (.ref p), some (.ref R3), some (.int n'), some (.int (0 + (i : Int))), some (.int X), some (.int r), some (.int c), none, none, none] H12 := by
      intro n' hn'
      refine w_asgGK ?_
      refine PB.k_tup (PB.k_consP (PB.p_op PB.p_c (PB.p_var rfl) PB.p_add) (PB.k_cons (PB.k_tupP (vs := [.int (-1), .int (-1), .int 0]) (PB.p_cons (PB.p_neg PB.p_c) (PB.p_cons (PB.p_neg PB.p_c) (PB.p_cons PB.p_c PB.p_nil))) (PB.szle rfl) ?_)))
      intro T1 H13 nT1 vT1 y1
      refine PB.k_nil (PB.k_newT (PB.szle rfl) ?_)
      intro T2 H14 nT2 vT2 y2
      have y12 := y1.trans y2
      have vb14 := y12 _ _ g2
      have vR14 := y12 _ _ vR3
      have rw14 := rw3.ext y12
      have fb := f3 b3 (List.mem_of_getElem? hb3)
      refine k_gSub (p := b3) (k := ((c : Nat) : Int)) (xs := us3) (PB.p_op (PB.p_var rfl) (PB.p_var rfl) (PB.p_ixH vR14 at3)) (PB.p_var rfl) vb14 (by omega) (by omega) ?_
      rw [show (((c : Nat) : Int)).toNat = c from rfl]
      have t14 : Tst H14 (upd H14 b3 (.lst (us3.set c (.ref T2)))) := ts_lst vb14
      have im14 : ImAll K (upd H14 b3 (.lst (us3.set c (.ref T2)))) (d3.set c (cellD (200 + (0 + (i : Int))) (-1) (-1) 0)) (us3.set c (.ref T2)) := by
        refine ImAll.setA ?_ (ImAll.mono t14 _ _ (ImAll.mono (fun b ys z => y12 b _ z) _ _ g3))
        exact im_tup (t14 _ _ vT2) (im_cons im_int (im_cons (im_tup (t14 _ _ (y2 _ _ vT1)) (im_ints [-1, -1, 0])) im_nil))
      refine ⟨O.set r (d3.set c (cellD (200 + (0 + (i : Int))) (-1) (-1) 0)), n', _, _, _, _, rfl, by rw [upd_ne fb.2.symm]; exact vR14, Rws.put vb14 im14 nd3 hb3 rw14, ?_, ?_, hn', up_ext' (x12.trans y12) fb.1⟩
      · have := Same.set (i := r) (c := c) (x := cellD (200 + (0 + (i : Int))) (-1) (-1) 0) sm
        rw [D3] at this
        exact this
      · intro e me
        rcases List.mem_or_eq_of_mem_set me with me | me
        · exact cO e me
        · subst me
          refine ⟨by rw [List.length_set, l3]; omega, fun e' me' => ?_⟩
          rcases List.mem_or_eq_of_mem_set me' with me' | me'
          · exact (cO d3 (List.mem_of_getElem? g1)).2 e' me'
          · exact ⟨_, _, _, _, me'⟩
    dsimp only
    refine PB.w_cut (PB.w_if (b := PyData.eqv e3 e0) (PB.p_test (PB.p_op (PB.p_op (PB.p_op (PB.p_var rfl) (PB.p_var rfl) (PB.p_ixH vR3 at3)) (PB.p_var rfl) (PB.p_ixH g2 (atI_nat hv3))) (PB.p_op (PB.p_op (PB.p_var rfl) (PB.p_var rfl) (PB.p_ixH vR12 at0)) (PB.p_var rfl) (PB.p_ixH k2 (atI_nat hv0))) (p_eqCell j2 m2 ce3 ce0))) ?_ ?_)
    · intro he
      rw [if_pos he, if_neg Bool.false_ne_true] at ps
      refine PB.w_asg (PB.p_op (PB.p_var rfl) PB.p_c PB.p_add) ?_
      have zz : ((n : Nat) : Int) + 1 = ((n + 1 : Nat) : Int) := by omega
      rw [zz]
      exact fin (n + 1) (by omega)
    · intro he
      rw [if_neg (by rw [he]; simp), if_neg Bool.false_ne_true] at ps
      refine PB.w_next ?_
      exact fin n (by omega)
  · clear vR3 rw3 x11 hs11
    rintro σ H12 ⟨O, n, x, y, z, u, rfl, vR3, rw3, sm, cO, en, x12⟩
    have al3 : as3.length ≤ 1000 := by rw [rw3.len, ← sm.1]; omega
    have pa12 := pa10.ext x12
    have vR12 := x12 _ _ vR10
    have rw12 := rw10.ext x12
    have vc12 := x12 _ _ vc10
    dsimp only
    refine PB.w_seq (PB.w_asgK (k_pic (PB.k_pureA (PB.p_cons (PB.p_var rfl) (PB.p_cons (PB.p_var rfl) (PB.p_cons (PB.p_var rfl) (PB.p_cons (PB.p_var rfl) (PB.p_cons PB.p_c PB.p_nil))))) (k_kPic vR3 rw3 al3 vc12 fun p3 dx3 R4 as4 H13 pb x13 _ _ _ => ?_))))
    have pa13 := pa12.ext x13
    have vR13 := x13 _ _ vR12
    have rw13 := rw12.ext x13
    have vc13 := x13 _ _ vc12
    clear pa12 vR12 rw12 vc12 x13 x12 vR3 rw3
    dsimp only
    refine PB.w_seq (PB.w_asgC (PB.p_cons (PB.p_var rfl) (PB.p_cons (PB.p_var rfl) PB.p_nil)) ⟨p, dx, R2, c0, p3, dx3, R4, c0, as2, as4, ⟨w, h, rows, [cu0, cu1], true⟩, ⟨w, h, O, [cu0, cu1], true⟩, rfl, pa13, pb, cr, cO, sm, by show rows.length ≤ 1000; omega, fun H14 x14 => ?_⟩)
    have pa14 := pa13.ext x14
    have pb14 := pb.ext x14
    have vR14 := x14 _ _ vR13
    have rw14 := rw13.ext x14
    have vc14 := x14 _ _ vc13
    clear pa13 pb vR13 rw13 vc13 x14
    dsimp only
    have e1 : eqPic ⟨w, h, rows, [cu0, cu1], true⟩ ⟨w, h, O, [cu0, cu1], true⟩ = decide ((n : Int) = 0) := by
      have z : eqPic ⟨w, h, rows, [cu0, cu1], true⟩ ⟨w, h, O, [cu0, cu1], true⟩ = eqRows rows O := by unfold eqPic; simp
      rw [z, eqRows_iff sm, en]
      by_cases c : pdiff rows O = 0
      · rw [decide_eq_true c, decide_eq_true (by omega)]
      · rw [decide_eq_false c, decide_eq_false (by omega)]
    refine PB.w_cut (PB.w_if (b := false) ?_ (fun z => by cases z) fun _ => PB.w_next ?_)
    · have z := PB.p_or (PB.p_not (PB.p_truB (K := K) (PB.p_call (tl := tCons (PB.mVar 15) tNil) (σ := [some (.ref a), some (.int F), some (.int w), some (.int h), some (.ref R0), some (.ref c0), some (.ref R1), some (.ref p), some (.ref R3), some (.int n), x, y, z, u, some (.ref p3), some (.int (pdiff rows O)), none]) (H := H14) (PB.p_cons (PB.p_var rfl) PB.p_nil) (pp_law_integer (K := K))))) fun _ =>
        PB.p_or (PB.p_test (PB.p_op (ta := PB.mVar 15) (tb := PB.mVar 9) (PB.p_var rfl) (PB.p_var rfl) (PB.p_neI (K := K)))) fun _ => PB.p_test (PB.p_op (PB.p_op (ta := PB.mVar 7) (tb := PB.mVar 14) (PB.p_var rfl) (PB.p_var rfl) (p_ownP o pa14 pb14 cr cO)) (PB.p_op (ta := PB.mVar 9) (tb := tC (.int 0)) (PB.p_var rfl) PB.p_c (PB.p_eqI (K := K))) (PB.p_neB (K := K)))
      rw [e1] at z
      have z2 : (!true || (!decide ((pdiff rows O : Int) = (n : Int)) || !decide (decide ((n : Int) = 0) = decide ((n : Int) = 0)))) = false := by
        rw [decide_eq_true (show (pdiff rows O : Int) = (n : Int) by omega)]
        simp
      rw [z2] at z
      exact z
    clear pb14
    dsimp only
    have nec : (decide (([cu0, cu1] : List Int) = [cu0, cu1 + 1])) = false := by
      rw [decide_eq_false]
      intro w
      injection w with _ w
      injection w with w _
      omega
    refine PB.w_cut (PB.w_ifK (PB.k_or (PB.k_testK (PB.k_op (PB.k_pure (v := .ref p) (PB.p_var rfl) (k_pic (PB.k_consP (PB.p_var rfl) (PB.k_consP (PB.p_var rfl) (PB.k_consP (PB.p_var rfl) (PB.k_cons (PB.k_tupP (vs := [.int cu0, .int (cu1 + 1)]) (PB.p_cons (PB.p_op (PB.p_var rfl) PB.p_c (PB.p_ixU vc14 rfl)) (PB.p_cons (PB.p_op (PB.p_op (PB.p_var rfl) PB.p_c (PB.p_ixU vc14 rfl)) PB.p_c PB.p_add) PB.p_nil)) (PB.szle rfl) ?_)))))))))))
    intro C1 H15 nC vC xC
    have vC' : H15 C1 = some (.tup ([cu0, cu1 + 1].map V.int)) := vC
    refine PB.k_consP PB.p_c (PB.k_nil (k_kPic (xC _ _ vR14) (rw14.ext xC) al0 vC' fun p5 dx5 R5 as5 H16 pb x16 _ _ _ => p_ownP o (pa14.ext (xC.trans x16)) pb cr cr _ ?_))
    have f1 : eqPic ⟨w, h, rows, [cu0, cu1], true⟩ ⟨w, h, rows, [cu0, cu1 + 1], true⟩ = false := by
      unfold eqPic
      show (decide (w = w) && (decide (h = h) && (eqRows rows rows && (decide (([cu0, cu1] : List Int) = [cu0, cu1 + 1]) && decide (true = true))))) = false
      rw [nec]; simp
    rw [f1]
    have x1416 := xC.trans x16
    have pa16 := pa14.ext x1416
    have vR16 := x1416 _ _ vR14
    have rw16 := rw14.ext x1416
    have vc16 := x1416 _ _ vc14
    clear pa14 vR14 rw14 vc14 xC x16 x1416 pb vC vC' nC
    refine PB.k_kTest (PB.k_kOr (fun z => by cases z) fun _ => PB.k_testK (PB.k_op (PB.k_pure (v := .ref p) (PB.p_var rfl) (k_pic (PB.k_pureA (PB.p_cons (PB.p_var rfl) (PB.p_cons (PB.p_var rfl) (PB.p_cons (PB.p_var rfl) (PB.p_cons (PB.p_var rfl) (PB.p_cons PB.p_c PB.p_nil))))) (k_kPic vR16 rw16 al0 vc16 fun p5 dx5 R5 as5 H17 pb x17 _ _ _ => p_ownP o (pa16.ext x17) pb cr cr _ ?_))))))
    have f2 : eqPic ⟨w, h, rows, [cu0, cu1], true⟩ ⟨w, h, rows, [cu0, cu1], false⟩ = false := by unfold eqPic; simp
    rw [f2]
    have pa17 := pa16.ext x17
    have vR17 := x17 _ _ vR16
    have rw17 := rw16.ext x17
    have vc17 := x17 _ _ vc16
    clear pa16 vR16 rw16 vc16 pb x17
    refine PB.k_kTest (PB.k_kIf (fun z => by cases z) fun _ => PB.w_next ?_)
    dsimp only
    refine PB.w_cut (PB.w_ifK (PB.k_or (PB.k_testK (PB.k_op (PB.k_pure (v := .ref p) (PB.p_var rfl) (k_pic (PB.k_pureA (PB.p_cons (PB.p_op (PB.p_var rfl) PB.p_c PB.p_add) (PB.p_cons (PB.p_var rfl) (PB.p_cons (PB.p_var rfl) (PB.p_cons (PB.p_var rfl) (PB.p_cons PB.p_c PB.p_nil))))) (k_kPic vR17 rw17 al0 vc17 fun p5 dx5 R5 as5 H18 pb x18 _ _ _ => p_ownP o (pa17.ext x18) pb cr cr _ ?_))))))))
    have f3' : eqPic ⟨w, h, rows, [cu0, cu1], true⟩ ⟨w + 1, h, rows, [cu0, cu1], true⟩ = false := by
      unfold eqPic
      show (decide (w = w + 1) && _) = false
      rw [decide_eq_false (by omega)]; rfl
    rw [f3']
    have pa18 := pa17.ext x18
    have vR18 := x18 _ _ vR17
    have rw18 := rw17.ext x18
    have vc18 := x18 _ _ vc17
    clear pa17 vR17 rw17 vc17 pb x18
    refine PB.k_kTest (PB.k_kOr (fun z => by cases z) fun _ => PB.k_testK (PB.k_op (PB.k_pure (v := .ref p) (PB.p_var rfl) (k_pic (PB.k_pureA (PB.p_cons (PB.p_var rfl) (PB.p_cons (PB.p_op (PB.p_var rfl) PB.p_c PB.p_add) (PB.p_cons (PB.p_var rfl) (PB.p_cons (PB.p_var rfl) (PB.p_cons PB.p_c PB.p_nil))))) (k_kPic vR18 rw18 al0 vc18 fun p5 dx5 R5 as5 H19 pb x19 _ _ _ => p_ownP o (pa18.ext x19) pb cr cr _ ?_))))))
    have f4 : eqPic ⟨w, h, rows, [cu0, cu1], true⟩ ⟨w, h + 1, rows, [cu0, cu1], true⟩ = false := by
      unfold eqPic
      show (decide (w = w) && (decide (h = h + 1) && _)) = false
      rw [decide_eq_false (show ¬ h = h + 1 by omega)]; simp
    rw [f4]
    have pa19 := pa18.ext x19
    have vR19 := x19 _ _ vR18
    refine PB.k_kTest (PB.k_kIf (fun z => by cases z) fun _ => PB.w_next ?_)
    dsimp only
    refine PB.w_retK (k_andVP (PB.p_notV (b := false) (PB.p_op (PB.p_var rfl) (PB.p_var rfl) (p_ownL o pa19 vR19 cr))) (k_andVP (PB.p_notV (b := false) (PB.p_op (PB.p_var rfl) (PB.p_var rfl) (p_ownI o pa19 cr))) ?_))
    refine PB.k_op (PB.k_call (PB.p_cons (PB.p_var rfl) (PB.p_cons (PB.p_var rfl) PB.p_nil)) ⟨p, dx, R2, c0, p, dx, R2, c0, as2, as2, ⟨w, h, rows, [cu0, cu1], true⟩, ⟨w, h, rows, [cu0, cu1], true⟩, rfl, pa19, pa19, cr, cr, Same.refl _, by show rows.length ≤ 1000; omega, fun H20 x20 => ?_⟩)
    have pz : pdiff rows rows = 0 := pdiff_refl cr
    show tC (.int 0) _ H20 (fun y H2 => PB.mEq K (.int (pdiff rows rows : Nat)) y H2 _)
    rw [pz]
    exact q H20

def top (i : Nat) : Stmt := PySem.Challenge.pw_manypanes_k16_pictures_and_their_differe.main.body.getD i (.Pass ⟨0, 0, 0, 0⟩)
abbrev s_law_cell : Stmt := top 4
abbrev s_law_row : Stmt := top 5
abbrev s_Picture___init__ : Stmt := inClass (top 1) 0
abbrev s_Picture___eq__ : Stmt := inClass (top 1) 1
abbrev s_difference : Stmt := top 2
abbrev s_law_integer : Stmt := top 6
abbrev s_law_cells : Stmt := top 7
abbrev s_law : Stmt := top 8
def d_law_cell : He.DefD := ⟨("_law_cell", none), "_law_cell", "_law_cell", defArgs s_law_cell, defBody s_law_cell, defScope s_law_cell, [], []⟩
def d_law_row : He.DefD := ⟨("_law_row", none), "_law_row", "_law_row", defArgs s_law_row, defBody s_law_row, defScope s_law_row, [], []⟩
def d_Picture___init__ : He.DefD := ⟨("Picture", some "__init__"), "__init__", "Picture.__init__", defArgs s_Picture___init__, defBody s_Picture___init__, defScope s_Picture___init__, [], []⟩
def d_Picture___eq__ : He.DefD := ⟨("Picture", some "__eq__"), "__eq__", "Picture.__eq__", defArgs s_Picture___eq__, defBody s_Picture___eq__, defScope s_Picture___eq__, [], []⟩
def d_difference : He.DefD := ⟨("difference", none), "difference", "difference", defArgs s_difference, defBody s_difference, defScope s_difference, [], []⟩
def d_law_integer : He.DefD := ⟨("_law_integer", none), "_law_integer", "_law_integer", defArgs s_law_integer, defBody s_law_integer, defScope s_law_integer, [], []⟩
def d_law_cells : He.DefD := ⟨("_law_cells", none), "_law_cells", "_law_cells", defArgs s_law_cells, defBody s_law_cells, defScope s_law_cells, [], []⟩
def d_law : He.DefD := ⟨("law", none), "law", "law", defArgs s_law, defBody s_law, defScope s_law, [], []⟩
def fa : List He.Fa := [.free "len", .free "int", .free "abs", .free "range", .free "list", .free "isinstance", .free "zip", .free "bool", .glo "_law_cell", .glo "_law_row", .glo "difference", .glo "_law_integer", .glo "_law_cells", .glo "law", .glo "Picture", .cls "Picture", .mkr "Picture", .meth "Picture" "__eq__", .noat "Picture" "width", .noat "Picture" "height", .noat "Picture" "rows", .noat "Picture" "cursor", .noat "Picture" "visible"]
def fn : List He.DefD := [d_law_cell, d_law_row, d_Picture___init__, d_Picture___eq__, d_difference, d_law_integer, d_law_cells, d_law]
def ex (K : PySem.W.Frag) : Bool := PB.ownOk K (He.ga K "Picture")
structure Tx (K : PySem.W.Frag) (mg : Str → Option Value) : Prop where
  c : He.SaysD fa fn K
  x : ex K = true
  n : ∃ h : Heap, K.In h ∧ h.Ns mainGlobals mg
section
variable {P : Program} {w : World} {K : PySem.W.Frag} {mg : Str → Option Value} {base : Heap}
theorem Tx.free_len (T : Tx K mg) : mg "len" = none := by obtain ⟨h, X, G⟩ := T.n; exact He.free_ok X G (T.c.fact 0 (f := .free "len") rfl)
theorem Tx.free_int (T : Tx K mg) : mg "int" = none := by obtain ⟨h, X, G⟩ := T.n; exact He.free_ok X G (T.c.fact 1 (f := .free "int") rfl)
theorem Tx.free_abs (T : Tx K mg) : mg "abs" = none := by obtain ⟨h, X, G⟩ := T.n; exact He.free_ok X G (T.c.fact 2 (f := .free "abs") rfl)
theorem Tx.free_range (T : Tx K mg) : mg "range" = none := by obtain ⟨h, X, G⟩ := T.n; exact He.free_ok X G (T.c.fact 3 (f := .free "range") rfl)
theorem Tx.free_list (T : Tx K mg) : mg "list" = none := by obtain ⟨h, X, G⟩ := T.n; exact He.free_ok X G (T.c.fact 4 (f := .free "list") rfl)
theorem Tx.free_isinstance (T : Tx K mg) : mg "isinstance" = none := by obtain ⟨h, X, G⟩ := T.n; exact He.free_ok X G (T.c.fact 5 (f := .free "isinstance") rfl)
theorem Tx.free_zip (T : Tx K mg) : mg "zip" = none := by obtain ⟨h, X, G⟩ := T.n; exact He.free_ok X G (T.c.fact 6 (f := .free "zip") rfl)
theorem Tx.free_bool (T : Tx K mg) : mg "bool" = none := by obtain ⟨h, X, G⟩ := T.n; exact He.free_ok X G (T.c.fact 7 (f := .free "bool") rfl)
theorem Tx.glo__law_cell (T : Tx K mg) : mg "_law_cell" = some (.ref (He.ga K "_law_cell")) := by obtain ⟨h, X, G⟩ := T.n; exact He.glo_ok X G (T.c.fact 8 (f := .glo "_law_cell") rfl)
theorem Tx.glo__law_row (T : Tx K mg) : mg "_law_row" = some (.ref (He.ga K "_law_row")) := by obtain ⟨h, X, G⟩ := T.n; exact He.glo_ok X G (T.c.fact 9 (f := .glo "_law_row") rfl)
theorem Tx.glo_difference (T : Tx K mg) : mg "difference" = some (.ref (He.ga K "difference")) := by obtain ⟨h, X, G⟩ := T.n; exact He.glo_ok X G (T.c.fact 10 (f := .glo "difference") rfl)
theorem Tx.glo__law_integer (T : Tx K mg) : mg "_law_integer" = some (.ref (He.ga K "_law_integer")) := by obtain ⟨h, X, G⟩ := T.n; exact He.glo_ok X G (T.c.fact 11 (f := .glo "_law_integer") rfl)
theorem Tx.glo__law_cells (T : Tx K mg) : mg "_law_cells" = some (.ref (He.ga K "_law_cells")) := by obtain ⟨h, X, G⟩ := T.n; exact He.glo_ok X G (T.c.fact 12 (f := .glo "_law_cells") rfl)
theorem Tx.glo_law (T : Tx K mg) : mg "law" = some (.ref (He.ga K "law")) := by obtain ⟨h, X, G⟩ := T.n; exact He.glo_ok X G (T.c.fact 13 (f := .glo "law") rfl)
theorem Tx.glo_Picture (T : Tx K mg) : mg "Picture" = some (.ref (He.ga K "Picture")) := by obtain ⟨h, X, G⟩ := T.n; exact He.glo_ok X G (T.c.fact 14 (f := .glo "Picture") rfl)
theorem Tx.cls_Picture (T : Tx K mg) : Cls K (He.ga K "Picture") := He.cls_ok (T.c.fact 15 (f := .cls "Picture") rfl)
theorem Tx.mkr_Picture (T : Tx K mg) : Mk K (He.ga K "Picture") (He.ma K (He.ga K "Picture") "__init__") := He.mkr_ok (T.c.fact 16 (f := .mkr "Picture") rfl)
theorem Tx.meth_Picture___eq__ (T : Tx K mg) : Meth K (He.ga K "Picture") "__eq__" (He.ma K (He.ga K "Picture") "__eq__") := He.meth_ok (T.c.fact 17 (f := .meth "Picture" "__eq__") rfl)
theorem Tx.noat_Picture_width (T : Tx K mg) : NoAttr K (He.ga K "Picture") "width" := He.noat_ok (T.c.fact 18 (f := .noat "Picture" "width") rfl)
theorem Tx.noat_Picture_height (T : Tx K mg) : NoAttr K (He.ga K "Picture") "height" := He.noat_ok (T.c.fact 19 (f := .noat "Picture" "height") rfl)
theorem Tx.noat_Picture_rows (T : Tx K mg) : NoAttr K (He.ga K "Picture") "rows" := He.noat_ok (T.c.fact 20 (f := .noat "Picture" "rows") rfl)
theorem Tx.noat_Picture_cursor (T : Tx K mg) : NoAttr K (He.ga K "Picture") "cursor" := He.noat_ok (T.c.fact 21 (f := .noat "Picture" "cursor") rfl)
theorem Tx.noat_Picture_visible (T : Tx K mg) : NoAttr K (He.ga K "Picture") "visible" := He.noat_ok (T.c.fact 22 (f := .noat "Picture" "visible") rfl)
theorem Tx.own_Picture (T : Tx K mg) : PB.OwnC K (He.ga K "Picture") := PB.ownOk_ok T.x T.cls_Picture
theorem sc_law_cell : FnScope N_law_cell ["script", "k"] (defScope s_law_cell) := ⟨rfl, rfl, rfl, by decide +kernel, rfl, by decide +kernel, by decide +kernel⟩
theorem b_law_cell (T : Tx K mg) : PB.Body P w K mg base 0 N_law_cell "_law_cell" s_law_cell (t_law_cell K) := by
  intro f cdv A outer s H E hr
  exact C8.pss_cut (ps_if (PB.pt_m PB.op_mLt (PB.pe_v 1) (pe_callB PB.call_mLen rfl T.free_len (by decide +kernel) (pa_cons (PB.pe_v 0) (pa_nil))) (nomark _)) (pss_one (ps_ret (pe_callTy PB.call_mInt rfl T.free_int (by decide +kernel) (pa_cons (pe_ix PB.ix_m (PB.pe_v 0) (PB.pe_v 1) (fun _ _ => rfl)) (pa_nil))))) (pss_nil)) (
  pss_one (ps_ret (pe_int)))
theorem Tx.ok_law_cell (T : Tx K mg) : C8.Cal P w K mg base 1 "_law_cell" (sp_law_cell K) [] := PB.cal_ok (st := s_law_cell) (T.c.def_ 0 (d := d_law_cell) rfl) T.glo__law_cell sc_law_cell len_law_cell (fun _ _ _ _ _ _ us hl => match us, hl with | [_, _], _ => rfl) (b_law_cell T) (pure_law_cell K)
theorem sc_law_row : FnScope N_law_row ["cell", "count", "bound"] (defScope s_law_row) := ⟨rfl, rfl, rfl, by decide +kernel, rfl, by decide +kernel, by decide +kernel⟩
theorem b_law_row (T : Tx K mg) : PB.Body P w K mg base 0 N_law_row "_law_row" s_law_row (t_law_row K) := by
  intro f cdv A outer s H E hr
  exact pss_cons (ps_set (i := 3) sc_law_row.nd rfl (Or.inl rfl) (pe_callB PB.call_mAbs rfl T.free_abs (by decide +kernel) (pa_cons (pe_callTy PB.call_mInt rfl T.free_int (by decide +kernel) (pa_cons (PB.pe_v 0) (pa_nil))) (pa_nil)))) (
  pss_cons (ps_set (i := 4) sc_law_row.nd rfl (Or.inl rfl) (pe_op PB.op_mAdd (pe_op PB.op_mMod (pe_callTy PB.call_mInt rfl T.free_int (by decide +kernel) (pa_cons (PB.pe_v 0) (pa_nil))) (pe_int)) (pe_int))) (
  pss_cons (ps_set (i := 5) sc_law_row.nd rfl (Or.inl rfl) (pe_lst (pa_nil))) (
  pss_cons (ps_for PassesOwn.never rfl (pi_range1 rfl T.free_range (pa_cons (PB.pe_v 1) (pa_nil))) (pg_name (i := 6) sc_law_row.nd rfl (Or.inl rfl)) (pss_one (ps_if (PB.pt_m PB.op_mGe (PB.pe_v 3) (PB.pe_v 2) (nomark _)) (pss_cons (ps_expr (PB.pe_mlm PySem.F.slot_list_append PySem.F.type_list_append PB.mt_mAppend (PB.pe_v 5) (pa_cons (pe_op PB.op_mMod (pe_callTy PB.call_mInt rfl T.free_int (by decide +kernel) (pa_cons (PB.pe_v 3) (pa_nil))) (PB.pe_v 2)) (pa_nil)))) (
  pss_one (ps_set (i := 3) sc_law_row.nd rfl (Or.inl rfl) (pe_op PB.op_mDiv (PB.pe_v 3) (PB.pe_v 2))))) (pss_cons (ps_set (i := 4) sc_law_row.nd rfl (Or.inl rfl) (pe_op PB.op_mMod (pe_callTy PB.call_mInt rfl T.free_int (by decide +kernel) (pa_cons (pe_op PB.op_mAdd (pe_op PB.op_mAdd (pe_op PB.op_mMul (PB.pe_v 4) (pe_int)) (pe_op PB.op_mMul (pe_int) (PB.pe_v 6))) (pe_int)) (pa_nil))) (pe_int))) (
  pss_one (ps_expr (PB.pe_mlm PySem.F.slot_list_append PySem.F.type_list_append PB.mt_mAppend (PB.pe_v 5) (pa_cons (pe_op PB.op_mMod (pe_callTy PB.call_mInt rfl T.free_int (by decide +kernel) (pa_cons (pe_op PB.op_mDiv (pe_op PB.op_mMul (PB.pe_v 4) (pe_int)) (pe_int)) (pa_nil))) (PB.pe_v 2)) (pa_nil))))))))) (
  pss_one (ps_ret (PB.pe_v 5))))))
theorem Tx.ok_law_row (T : Tx K mg) : C8.Cal P w K mg base 1 "_law_row" (sp_law_row K) [] := PB.cal_ok (st := s_law_row) (T.c.def_ 1 (d := d_law_row) rfl) T.glo__law_row sc_law_row len_law_row (fun _ _ _ _ _ _ us hl => match us, hl with | [_, _, _], _ => rfl) (b_law_row T) (pure_law_row K)
theorem sc_Picture___init__ : FnScope N_Picture___init__ ["self", "width", "height", "rows", "cursor", "visible"] (defScope s_Picture___init__) := ⟨rfl, rfl, rfl, by decide +kernel, rfl, by decide +kernel, by decide +kernel⟩
theorem b_Picture___init__ (T : Tx K mg) : PB.Body P w K mg base 0 N_Picture___init__ "Picture.__init__" s_Picture___init__ (t_Picture___init__ K) := by
  intro f cdv A outer s H E hr
  exact pss_cons (PB.ps_oset T.cls_Picture T.noat_Picture_width an_Picture_nd rfl (by decide) (PB.pe_v 0) (PB.pe_v 1) rfl) (
  pss_cons (PB.ps_oset T.cls_Picture T.noat_Picture_height an_Picture_nd rfl (by decide) (PB.pe_v 0) (PB.pe_v 2) rfl) (
  pss_cons (PB.ps_oset T.cls_Picture T.noat_Picture_rows an_Picture_nd rfl (by decide) (PB.pe_v 0) (pe_lc (own := [("row", 6)]) rfl sc_Picture___init__.nd (pi_list (PB.pe_v 3)) (blkOk_by (own := [("row", 6)]) (N := N_Picture___init__) (sc := defScope s_Picture___init__) (by decide +kernel)) (fun _ _ _ _ _ => pg_name (i := 6) sc_Picture___init__.nd rfl (Or.inl rfl)) (fun _ _ _ _ _ => pts_nil) (fun _ _ _ _ _ => pe_callTy PB.call_mList rfl T.free_list (by decide +kernel) (pa_cons (PB.pe_v 6) (pa_nil)))) rfl) (
  pss_cons (PB.ps_oset T.cls_Picture T.noat_Picture_cursor an_Picture_nd rfl (by decide) (PB.pe_v 0) (PB.pe_v 4) rfl) (
  pss_one (PB.ps_oset T.cls_Picture T.noat_Picture_visible an_Picture_nd rfl (by decide) (PB.pe_v 0) (PB.pe_v 5) rfl)))))
theorem Tx.mk_Picture (T : Tx K mg) : C8.Mak P w K mg base 1 "Picture" (He.ga K "Picture") (sp_Picture___init__ K) [] := PB.mak_ok (st := s_Picture___init__) (T.c.def_ 2 (d := d_Picture___init__) rfl) T.glo_Picture T.mkr_Picture sc_Picture___init__ len_Picture___init__ (fun _ _ _ _ _ _ us hl => match us, hl with | [_, _, _, _, _, _], _ => rfl) (b_Picture___init__ T) (pure_Picture___init__ K)
theorem sc_Picture___eq__ : FnScope N_Picture___eq__ ["self", "other"] (defScope s_Picture___eq__) := ⟨rfl, rfl, rfl, by decide +kernel, rfl, by decide +kernel, by decide +kernel⟩
theorem b_Picture___eq__ (T : Tx K mg) : PB.Body P w K mg base 0 N_Picture___eq__ "Picture.__eq__" s_Picture___eq__ (t_Picture___eq__ K) := by
  intro f cdv A outer s H E hr
  exact pss_one (ps_ret (PB.pe_mand (pe_callB call_isi rfl T.free_isinstance (by decide +kernel) (pa_cons (PB.pe_v 1) (pa_cons (pe_glob rfl T.glo_Picture rfl) (pa_nil)))) (PB.pe_mand (pe_cmpR (PB.op_mEq (PB.hu64 hr)) (PB.pe_ofld T.cls_Picture T.noat_Picture_width an_Picture_nd rfl (PB.pe_v 0) rfl) (PB.pe_ofld T.cls_Picture T.noat_Picture_width an_Picture_nd rfl (PB.pe_v 1) rfl) (nomark _)) (PB.pe_mand (pe_cmpR (PB.op_mEq (PB.hu64 hr)) (PB.pe_ofld T.cls_Picture T.noat_Picture_height an_Picture_nd rfl (PB.pe_v 0) rfl) (PB.pe_ofld T.cls_Picture T.noat_Picture_height an_Picture_nd rfl (PB.pe_v 1) rfl) (nomark _)) (PB.pe_mand (pe_cmpR (PB.op_mEq (PB.hu64 hr)) (PB.pe_ofld T.cls_Picture T.noat_Picture_rows an_Picture_nd rfl (PB.pe_v 0) rfl) (PB.pe_ofld T.cls_Picture T.noat_Picture_rows an_Picture_nd rfl (PB.pe_v 1) rfl) (nomark _)) (PB.pe_mand (pe_cmpR (PB.op_mEq (PB.hu64 hr)) (PB.pe_ofld T.cls_Picture T.noat_Picture_cursor an_Picture_nd rfl (PB.pe_v 0) rfl) (PB.pe_ofld T.cls_Picture T.noat_Picture_cursor an_Picture_nd rfl (PB.pe_v 1) rfl) (nomark _)) (pe_one (pe_cmpR (PB.op_mEq (PB.hu64 hr)) (PB.pe_ofld T.cls_Picture T.noat_Picture_visible an_Picture_nd rfl (PB.pe_v 0) rfl) (PB.pe_ofld T.cls_Picture T.noat_Picture_visible an_Picture_nd rfl (PB.pe_v 1) rfl) (nomark _)))))))))
theorem Tx.ok_Picture___eq__ (T : Tx K mg) : C8.Met P w K mg base 1 (He.ga K "Picture") "__eq__" (sp_Picture___eq__ K) [] := PB.met_ok (st := s_Picture___eq__) (T.c.def_ 3 (d := d_Picture___eq__) rfl) T.cls_Picture T.meth_Picture___eq__ sc_Picture___eq__ len_Picture___eq__ (fun _ _ _ _ _ _ us hl => match us, hl with | [_, _], _ => rfl) (b_Picture___eq__ T) (pure_Picture___eq__ K T.own_Picture)
theorem sc_difference : FnScope N_difference ["first", "second"] (defScope s_difference) := ⟨rfl, rfl, rfl, by decide +kernel, rfl, by decide +kernel, by decide +kernel⟩
theorem b_difference (T : Tx K mg) : PB.Body P w K mg base 0 N_difference "difference" s_difference (t_difference K) := by
  intro f cdv A outer s H E hr
  exact pss_cons (ps_set (i := 2) sc_difference.nd rfl (Or.inl rfl) (pe_int)) (
  pss_cons (ps_for PassesOwn.never rfl (pi_zip rfl T.free_zip (pa_cons (PB.pe_ofld T.cls_Picture T.noat_Picture_rows an_Picture_nd rfl (PB.pe_v 0) rfl) (pa_cons (PB.pe_ofld T.cls_Picture T.noat_Picture_rows an_Picture_nd rfl (PB.pe_v 1) rfl) (pa_nil)))) (pg_tup (by rfl) (pgs_cons (pg_name (i := 3) sc_difference.nd rfl (Or.inl rfl)) (pgs_cons (pg_name (i := 4) sc_difference.nd rfl (Or.inl rfl)) (pgs_nil)))) (pss_one (PB.ps_maug (i := 2) sc_difference.nd rfl (Or.inl rfl) (pe_callB PB.call_mLen rfl T.free_len (by decide +kernel) (pa_cons (pe_lc (own := [("cell", 5), ("twin", 6)]) rfl sc_difference.nd (pi_zip rfl T.free_zip (pa_cons (PB.pe_v 3) (pa_cons (PB.pe_v 4) (pa_nil)))) (blkOk_by (own := [("cell", 5), ("twin", 6)]) (N := N_difference) (sc := defScope s_difference) (by decide +kernel)) (fun _ _ _ _ _ => pg_tup (by rfl) (pgs_cons (pg_name (i := 5) sc_difference.nd rfl (Or.inl rfl)) (pgs_cons (pg_name (i := 6) sc_difference.nd rfl (Or.inl rfl)) (pgs_nil)))) (fun _ _ _ _ _ => pts_one (PB.pt_m (PB.op_mNe (PB.hu64 hr)) (PB.pe_v 5) (PB.pe_v 6) (nomark _))) (fun _ _ _ _ _ => pe_int)) (pa_nil))) ip_add))) (
  pss_one (ps_ret (PB.pe_v 2))))
theorem Tx.ok_difference (T : Tx K mg) : C8.Cal P w K mg base 1 "difference" (sp_difference K) [] := PB.cal_ok (st := s_difference) (T.c.def_ 4 (d := d_difference) rfl) T.glo_difference sc_difference len_difference (fun _ _ _ _ _ _ us hl => match us, hl with | [_, _], _ => rfl) (b_difference T) (pure_difference K)
theorem sc_law_integer : FnScope N_law_integer ["value"] (defScope s_law_integer) := ⟨rfl, rfl, rfl, by decide +kernel, rfl, by decide +kernel, by decide +kernel⟩
theorem b_law_integer (T : Tx K mg) : PB.Body P w K mg base 0 N_law_integer "_law_integer" s_law_integer (t_law_integer K) := by
  intro f cdv A outer s H E hr
  exact pss_one (ps_ret (PB.pe_mand (pe_callB call_isi rfl T.free_isinstance (by decide +kernel) (pa_cons (PB.pe_v 0) (pa_cons (pe_bltn rfl T.free_int (by decide +kernel) rfl) (pa_nil)))) (pe_one (PB.pe_mnot (pe_callB call_isi rfl T.free_isinstance (by decide +kernel) (pa_cons (PB.pe_v 0) (pa_cons (pe_bltn rfl T.free_bool (by decide +kernel) rfl) (pa_nil))))))))
theorem Tx.ok_law_integer (T : Tx K mg) : C8.Cal P w K mg base 1 "_law_integer" (sp_law_integer K) [] := PB.cal_ok (st := s_law_integer) (T.c.def_ 5 (d := d_law_integer) rfl) T.glo__law_integer sc_law_integer len_law_integer (fun _ _ _ _ _ _ us hl => match us, hl with | [_], _ => rfl) (b_law_integer T) (pure_law_integer K)
theorem sc_law_cells : FnScope N_law_cells ["cell", "w", "h"] (defScope s_law_cells) := ⟨rfl, rfl, rfl, by decide +kernel, rfl, by decide +kernel, by decide +kernel⟩
theorem b_law_cells (T : Tx K mg) : PB.Body P w K mg base 1 N_law_cells "_law_cells" s_law_cells (t_law_cells K) := by
  intro f cdv A outer s H E hr
  exact pss_cons (ps_set (i := 3) sc_law_cells.nd rfl (Or.inr rfl) (pe_lst (pa_cons (pe_tup (pa_cons (pe_un PB.un_mNeg (pe_int)) (pa_cons (pe_un PB.un_mNeg (pe_int)) (pa_cons (pe_int) (pa_nil))))) (pa_cons (pe_tup (pa_cons (pe_int) (pa_cons (pe_un PB.un_mNeg (pe_int)) (pa_cons (pe_int) (pa_nil))))) (pa_cons (pe_tup (pa_cons (pe_un PB.un_mNeg (pe_int)) (pa_cons (pe_int) (pa_cons (pe_int) (pa_nil))))) (pa_nil)))))) (
  pss_cons (ps_set (i := 4) sc_law_cells.nd rfl (Or.inl rfl) (pe_lst (pa_nil))) (
  pss_cons (ps_set (i := 5) sc_law_cells.nd rfl (Or.inr rfl) (PB.pe_mc T.ok_law_row hr (by decide) rfl (pa_cons (PB.pe_v 0) (pa_cons (pe_op PB.op_mMul (PB.pe_v 1) (PB.pe_v 2)) (pa_cons (pe_int) (pa_nil)))))) (
  pss_cons (ps_for PassesOwn.never rfl (pi_range1 rfl T.free_range (pa_cons (PB.pe_v 2) (pa_nil))) (pg_name (i := 6) sc_law_cells.nd rfl (Or.inr rfl)) (pss_one (ps_expr (PB.pe_mlm PySem.F.slot_list_append PySem.F.type_list_append PB.mt_mAppend (PB.pe_v 4) (pa_cons (pe_lc (own := [("c", 7)]) rfl sc_law_cells.nd (pi_range1 rfl T.free_range (pa_cons (PB.pe_v 1) (pa_nil))) (blkOk_by (own := [("c", 7)]) (N := N_law_cells) (sc := defScope s_law_cells) (by decide +kernel)) (fun _ _ _ _ _ => pg_name (i := 7) sc_law_cells.nd rfl (Or.inl rfl)) (fun _ _ _ _ _ => pts_nil) (fun _ _ _ _ _ => pe_tup (pa_cons (pe_op PB.op_mAdd (pe_int) (pe_op PB.op_mMod (pe_ix PB.ix_m (PB.pe_v 5) (pe_op PB.op_mAdd (pe_op PB.op_mMul (PB.pe_v 6) (PB.pe_v 1)) (PB.pe_v 7)) (fun _ _ => rfl)) (pe_int))) (pa_cons (pe_ix PB.ix_m (PB.pe_v 3) (pe_op PB.op_mDiv (pe_ix PB.ix_m (PB.pe_v 5) (pe_op PB.op_mAdd (pe_op PB.op_mMul (PB.pe_v 6) (PB.pe_v 1)) (PB.pe_v 7)) (fun _ _ => rfl)) (pe_int)) (fun _ _ => rfl)) (pa_nil))))) (pa_nil)))))) (
  pss_one (ps_ret (PB.pe_v 4))))))
theorem Tx.ok_law_cells (T : Tx K mg) : C8.Cal P w K mg base 2 "_law_cells" (sp_law_cells K) [] := PB.cal_ok (st := s_law_cells) (T.c.def_ 6 (d := d_law_cells) rfl) T.glo__law_cells sc_law_cells len_law_cells (fun _ _ _ _ _ _ us hl => match us, hl with | [_, _, _], _ => rfl) (b_law_cells T) (pure_law_cells K)
theorem sc_law : FnScope N_law ["script"] (defScope s_law) := ⟨rfl, rfl, rfl, by decide +kernel, rfl, by decide +kernel, by decide +kernel⟩
theorem b_law (T : Tx K mg) : PB.Body P w K mg base 2 N_law "law" s_law (t_law K) := by
  intro f cdv A outer s H E hr
  exact pss_cons (ps_set (i := 1) sc_law.nd rfl (Or.inl rfl) (PB.pe_mc T.ok_law_cell hr (by decide) rfl (pa_cons (PB.pe_v 0) (pa_cons (pe_int) (pa_nil))))) (
  pss_cons (ps_set (i := 2) sc_law.nd rfl (Or.inl rfl) (pe_op PB.op_mAdd (pe_int) (pe_op PB.op_mMod (PB.pe_v 1) (pe_int)))) (
  pss_cons (ps_set (i := 3) sc_law.nd rfl (Or.inl rfl) (pe_op PB.op_mAdd (pe_int) (pe_op PB.op_mMod (pe_op PB.op_mDiv (PB.pe_v 1) (pe_int)) (pe_int)))) (
  pss_cons (ps_set (i := 4) sc_law.nd rfl (Or.inl rfl) (PB.pe_mc T.ok_law_cells hr (by decide) rfl (pa_cons (PB.pe_mc T.ok_law_cell hr (by decide) rfl (pa_cons (PB.pe_v 0) (pa_cons (pe_int) (pa_nil)))) (pa_cons (PB.pe_v 2) (pa_cons (PB.pe_v 3) (pa_nil)))))) (
  pss_cons (ps_set (i := 5) sc_law.nd rfl (Or.inl rfl) (pe_tup (pa_cons (pe_op PB.op_mMod (pe_op PB.op_mDiv (PB.pe_v 1) (pe_int)) (PB.pe_v 3)) (pa_cons (pe_op PB.op_mMod (pe_op PB.op_mDiv (PB.pe_v 1) (pe_int)) (PB.pe_v 2)) (pa_nil))))) (
  pss_cons (ps_setLc (i := 6) (own := [("row", 16)]) rfl sc_law.nd rfl rfl (sw_true rfl rfl rfl (by decide +kernel)) (pi_list (PB.pe_v 4)) (blkOk_by (own := [("row", 16)]) (N := N_law) (sc := defScope s_law) (by decide +kernel)) (fun _ _ _ _ _ => pg_name (i := 16) sc_law.nd rfl (Or.inl rfl)) (fun _ _ _ _ _ => pts_nil) (fun _ _ _ _ _ => pe_callTy PB.call_mList rfl T.free_list (by decide +kernel) (pa_cons (PB.pe_v 16) (pa_nil)))) (
  pss_cons (ps_set (i := 7) sc_law.nd rfl (Or.inl rfl) (PB.pe_mmk T.mk_Picture hr (by decide) rfl (pa_cons (PB.pe_v 2) (pa_cons (PB.pe_v 3) (pa_cons (PB.pe_v 6) (pa_cons (PB.pe_v 5) (pa_cons (pe_bl) (pa_nil)))))))) (
  pss_cons (ps_asg (pe_tup (pa_cons (pe_int) (pa_cons (pe_tup (pa_cons (pe_int) (pa_cons (pe_int) (pa_cons (pe_int) (pa_nil))))) (pa_nil)))) (pg_sub (pe_ix PB.ix_m (PB.pe_v 6) (pe_int) (fun _ _ => rfl)) (pe_int) PB.set_m)) (
  pss_cons (ps_expr (PB.pe_mlm PySem.F.slot_list_append PySem.F.type_list_append PB.mt_mAppend (PB.pe_v 6) (pa_cons (pe_lst (pa_nil)) (pa_nil)))) (
  C8.pss_cut (ps_if (PW.pt (pw_or (PB.pt_m (PB.op_mNe (PB.hu64 hr)) (PB.pe_ofld T.cls_Picture T.noat_Picture_rows an_Picture_nd rfl (PB.pe_v 7) rfl) (PB.pe_v 4) (nomark _)) (pw_or (PB.pt_m (PB.op_mNe (PB.hu64 hr)) (PB.pe_ofld T.cls_Picture T.noat_Picture_width an_Picture_nd rfl (PB.pe_v 7) rfl) (PB.pe_v 2) (nomark _)) (pw_or (PB.pt_m (PB.op_mNe (PB.hu64 hr)) (PB.pe_ofld T.cls_Picture T.noat_Picture_height an_Picture_nd rfl (PB.pe_v 7) rfl) (PB.pe_v 3) (nomark _)) (pw_or1 (PB.pt_m (PB.op_mNe (PB.hu64 hr)) (PB.pe_ofld T.cls_Picture T.noat_Picture_cursor an_Picture_nd rfl (PB.pe_v 7) rfl) (PB.pe_v 5) (nomark _))))))) (pss_one (ps_ret (pe_bl))) (pss_nil)) (
  C8.pss_cut (ps_if (PW.pt (pw_or (PB.pt_m PB.op_mNotB (PB.pe_ofld T.cls_Picture T.noat_Picture_visible an_Picture_nd rfl (PB.pe_v 7) rfl) pe_bl (nomark _)) (pw_or1 (pt_not (PB.pt_m (PB.op_own T.ok_Picture___eq__ hr (by decide)) (PB.pe_v 7) (PB.pe_mmk T.mk_Picture hr (by decide) rfl (pa_cons (PB.pe_v 2) (pa_cons (PB.pe_v 3) (pa_cons (PB.pe_v 4) (pa_cons (PB.pe_v 5) (pa_cons (pe_bl) (pa_nil))))))) (nomark _)))))) (pss_one (ps_ret (pe_bl))) (pss_nil)) (
  pss_cons (ps_setLc (i := 8) (own := [("row", 16)]) rfl sc_law.nd rfl rfl (sw_true rfl rfl rfl (by decide +kernel)) (pi_list (PB.pe_v 4)) (blkOk_by (own := [("row", 16)]) (N := N_law) (sc := defScope s_law) (by decide +kernel)) (fun _ _ _ _ _ => pg_name (i := 16) sc_law.nd rfl (Or.inl rfl)) (fun _ _ _ _ _ => pts_nil) (fun _ _ _ _ _ => pe_callTy PB.call_mList rfl T.free_list (by decide +kernel) (pa_cons (PB.pe_v 16) (pa_nil)))) (
  pss_cons (ps_set (i := 9) sc_law.nd rfl (Or.inl rfl) (pe_int)) (
  pss_cons (ps_for PassesOwn.never rfl (pi_range1 rfl T.free_range (pa_cons (pe_op PB.op_mMod (PB.pe_mc T.ok_law_cell hr (by decide) rfl (pa_cons (PB.pe_v 0) (pa_cons (pe_int) (pa_nil)))) (pe_int)) (pa_nil))) (pg_name (i := 10) sc_law.nd rfl (Or.inl rfl)) (pss_cons (ps_set (i := 11) sc_law.nd rfl (Or.inl rfl) (PB.pe_mc T.ok_law_cell hr (by decide) rfl (pa_cons (PB.pe_v 0) (pa_cons (pe_op PB.op_mAdd (pe_int) (PB.pe_v 10)) (pa_nil))))) (
  pss_cons (ps_set (i := 12) sc_law.nd rfl (Or.inl rfl) (pe_op PB.op_mMod (PB.pe_v 11) (PB.pe_v 3))) (
  pss_cons (ps_set (i := 13) sc_law.nd rfl (Or.inl rfl) (pe_op PB.op_mMod (pe_op PB.op_mDiv (PB.pe_v 11) (PB.pe_v 3)) (PB.pe_v 2))) (
  C8.pss_cut (ps_if (PB.pt_m (PB.op_mEq (PB.hu64 hr)) (pe_ix PB.ix_m (pe_ix PB.ix_m (PB.pe_v 8) (PB.pe_v 12) (fun _ _ => rfl)) (PB.pe_v 13) (fun _ _ => rfl)) (pe_ix PB.ix_m (pe_ix PB.ix_m (PB.pe_v 4) (PB.pe_v 12) (fun _ _ => rfl)) (PB.pe_v 13) (fun _ _ => rfl)) (nomark _)) (pss_one (ps_set (i := 9) sc_law.nd rfl (Or.inl rfl) (pe_op PB.op_mAdd (PB.pe_v 9) (pe_int)))) (pss_nil)) (
  pss_one (ps_asg (pe_tup (pa_cons (pe_op PB.op_mAdd (pe_int) (PB.pe_v 10)) (pa_cons (pe_tup (pa_cons (pe_un PB.un_mNeg (pe_int)) (pa_cons (pe_un PB.un_mNeg (pe_int)) (pa_cons (pe_int) (pa_nil))))) (pa_nil)))) (pg_sub (pe_ix PB.ix_m (PB.pe_v 8) (PB.pe_v 12) (fun _ _ => rfl)) (PB.pe_v 13) PB.set_m)))))))) (
  pss_cons (ps_set (i := 14) sc_law.nd rfl (Or.inl rfl) (PB.pe_mmk T.mk_Picture hr (by decide) rfl (pa_cons (PB.pe_v 2) (pa_cons (PB.pe_v 3) (pa_cons (PB.pe_v 8) (pa_cons (PB.pe_v 5) (pa_cons (pe_bl) (pa_nil)))))))) (
  pss_cons (ps_set (i := 15) sc_law.nd rfl (Or.inl rfl) (PB.pe_mc T.ok_difference hr (by decide) rfl (pa_cons (PB.pe_v 7) (pa_cons (PB.pe_v 14) (pa_nil))))) (
  C8.pss_cut (ps_if (PW.pt (pw_or (pt_not (PB.pt_tru (PB.pe_mc T.ok_law_integer hr (by decide) rfl (pa_cons (PB.pe_v 15) (pa_nil))))) (pw_or (PB.pt_m (PB.op_mNe (PB.hu64 hr)) (PB.pe_v 15) (PB.pe_v 9) (nomark _)) (pw_or1 (PB.pt_m (PB.op_mNe (PB.hu64 hr)) (pe_cmpR (PB.op_own T.ok_Picture___eq__ hr (by decide)) (PB.pe_v 7) (PB.pe_v 14) (nomark _)) (pe_cmpR (PB.op_mEq (PB.hu64 hr)) (PB.pe_v 9) (pe_int) (nomark _)) (nomark _)))))) (pss_one (ps_ret (pe_bl))) (pss_nil)) (
  C8.pss_cut (ps_if (PW.pt (pw_or (PB.pt_m (PB.op_own T.ok_Picture___eq__ hr (by decide)) (PB.pe_v 7) (PB.pe_mmk T.mk_Picture hr (by decide) rfl (pa_cons (PB.pe_v 2) (pa_cons (PB.pe_v 3) (pa_cons (PB.pe_v 4) (pa_cons (pe_tup (pa_cons (pe_ix PB.ix_m (PB.pe_v 5) (pe_int) (fun _ _ => rfl)) (pa_cons (pe_op PB.op_mAdd (pe_ix PB.ix_m (PB.pe_v 5) (pe_int) (fun _ _ => rfl)) (pe_int)) (pa_nil)))) (pa_cons (pe_bl) (pa_nil))))))) (nomark _)) (pw_or1 (PB.pt_m (PB.op_own T.ok_Picture___eq__ hr (by decide)) (PB.pe_v 7) (PB.pe_mmk T.mk_Picture hr (by decide) rfl (pa_cons (PB.pe_v 2) (pa_cons (PB.pe_v 3) (pa_cons (PB.pe_v 4) (pa_cons (PB.pe_v 5) (pa_cons (pe_bl) (pa_nil))))))) (nomark _))))) (pss_one (ps_ret (pe_bl))) (pss_nil)) (
  C8.pss_cut (ps_if (PW.pt (pw_or (PB.pt_m (PB.op_own T.ok_Picture___eq__ hr (by decide)) (PB.pe_v 7) (PB.pe_mmk T.mk_Picture hr (by decide) rfl (pa_cons (pe_op PB.op_mAdd (PB.pe_v 2) (pe_int)) (pa_cons (PB.pe_v 3) (pa_cons (PB.pe_v 4) (pa_cons (PB.pe_v 5) (pa_cons (pe_bl) (pa_nil))))))) (nomark _)) (pw_or1 (PB.pt_m (PB.op_own T.ok_Picture___eq__ hr (by decide)) (PB.pe_v 7) (PB.pe_mmk T.mk_Picture hr (by decide) rfl (pa_cons (PB.pe_v 2) (pa_cons (pe_op PB.op_mAdd (PB.pe_v 3) (pe_int)) (pa_cons (PB.pe_v 4) (pa_cons (PB.pe_v 5) (pa_cons (pe_bl) (pa_nil))))))) (nomark _))))) (pss_one (ps_ret (pe_bl))) (pss_nil)) (
  pss_one (ps_ret (PB.pe_mand (PB.pe_mnot (pe_cmpR (PB.op_own T.ok_Picture___eq__ hr (by decide)) (PB.pe_v 7) (PB.pe_v 4) (nomark _))) (PB.pe_mand (PB.pe_mnot (pe_cmpR (PB.op_own T.ok_Picture___eq__ hr (by decide)) (PB.pe_v 7) (PB.pe_v 2) (nomark _))) (pe_one (pe_cmpR (PB.op_mEq (PB.hu64 hr)) (PB.pe_mc T.ok_difference hr (by decide) rfl (pa_cons (PB.pe_v 7) (pa_cons (PB.pe_v 7) (pa_nil)))) (pe_int) (nomark _)))))))))))))))))))))))))
theorem Tx.ok_law (T : Tx K mg) : C8.Cal P w K mg base 3 "law" (sp_law K) [] := PB.cal_ok (st := s_law) (T.c.def_ 7 (d := d_law) rfl) T.glo_law sc_law len_law (fun _ _ _ _ _ _ us hl => match us, hl with | [_], _ => rfl) (b_law T) (pure_law K T.own_Picture)
end
def loose0 : List PySem.Str := ["Picture", "difference", "_law_cell", "_law_row", "_law_integer", "_law_cells"]
def loose : List PySem.Str := loose0
abbrev Rw : PySem.W.OpenRow := PySem.W.OpenLaw.row PySem.Challenge.rw_manypanes_k16_pictures_and_their_differe
abbrev hk : PySem.W.Hook := PB.hookP 6 fa fn ex
def ob (s : PySem.W.SharedT) : PB.AlP := PB.obsP 6 fa fn ex (HandSHeadRun.getT s)
theorem ob_is (s : PySem.W.SharedT) : ob s = hk.obs s.abs := PB.obsP_eq (HandSHeadRun.getT_eq s)
theorem runs (w : World) : HandSHeadRun.RunEq Rw (PySem.W.view Rw.prog [8]) hk ob 6000 loose w := by
  intro os
  kernel_rfl
theorem last {P : Program} {w : World} {K : PySem.W.Frag} {h : Heap} {mg : Str → Option Value} {f : Addr} (X : K.In h) (G : h.Ns mainGlobals mg) (hfa : mg ("law" : Str) = some (.ref f)) (c : He.SaysD fa fn K) (x : ex K = true) :
    ∃ fd : FuncData, (∀ (s : Shared) (v : Value), BindsTo s fd ⟨[v], []⟩ [("script", v)]) ∧ ∀ base : Heap, K.In base → base.Ns mainGlobals mg → FnOk P w K mg base CX0 3 f fd ["script"] (sp_law K) := by
  have T : Tx K mg := ⟨c, x, h, X, G⟩
  obtain ⟨fd, F⟩ := c.def_ 7 (d := d_law) rfl
  have e := hfa.symm.trans T.glo_law
  cases e
  have b := FunD.bindsA (ps := ["script"]) F fun _ _ _ _ _ _ us hl => match us, hl with | [_], _ => rfl
  exact ⟨fd, fun s v => b s [v] rfl, fun base _ _ => PB.fn_ok F sc_law len_law (b_law T) (pure_law K T.own_Picture)⟩
end PG
open PySem PySem.W PySem.Calls PyProof.Rows
set_option maxHeartbeats 0 in
theorem PySem.Challenge.cw_manypanes_k16_pictures_and_their_differe_holds : PySem.Challenge.rw_manypanes_k16_pictures_and_their_differe.Holds := by
  w_on; o_law
  refine HandSHeadRun.head_any (r := PG.Rw) (q := PySem.W.view PG.Rw.prog [8]) (H := PG.hk) (ob := PG.ob) (M := 6000) (loose := PG.loose) (d := HandSHeadRun.topDef PG.Rw.prog 8) (kwd := []) PG.ob_is
    (by kernel_rfl) (fun s => by kernel_rfl) PG.runs (by kernel_rfl) (by kernel_rfl) (by kernel_rfl) (by rfl) (by first | assumption | decide +kernel) (by decide +kernel) ⟨rfl, rfl, rfl, rfl, rfl, by decide +kernel⟩ ?hw ?hc
  case hw => w_witness2
  case hc =>
    refine L2.walk_ofE (l := PySem.Challenge.rw_manypanes_k16_pictures_and_their_differe) (n := 63) (k := 3) (x := "script") (CX := L2.CX0) rfl (by decide) (by kernel_rfl) ⟨rfl, by decide, by decide⟩ ?F (fun _ _ _ _ z => z)
    intro w mg fa h Y G hmg0
    obtain ⟨K, KX, c, x⟩ := Y
    have hmg : mg ("law" : PySem.Str) = some (.ref fa) := by
      have e : (HandSHeadRun.topDef PG.Rw.prog 8).name = ("law" : PySem.Str) := by kernel_rfl
      rw [← e]
      exact hmg0
    obtain ⟨fd, hb, hF⟩ := PG.last (P := (PySem.Challenge.rw_manypanes_k16_pictures_and_their_differe).prog) (w := w) KX G hmg c x
    exact ⟨K, fd, PG.sp_law K, KX, hb, fun H a ns hl _ hS => ⟨a, ns, rfl, hS, hl, fun _ => rfl⟩, hF⟩
namespace PG
end PG
