import PyProof.Rows.All
import Wide.All
import OpenK.AllK
import Wide.FinOn
import HandS.ForMost
import HandS.Codes
import HandS.Deep
import HandS.Wide
import HandS.TupAny
import HandS.CallRecv
import HandS.IsInst
import HandS.Flow
import HandS.Conv
import HandS.More
import HandS.HeadEnd
import HandS.HeadHook2
import PyProof.P3In
import HandS.FStr
import HandS.Head0
import HandS.Head1
import HandS.Head2
import HandS.Defaults
import HandS.MakeKwOnly
import HandS.Style
import HandS.Iter
import HandS.Zip
import PySem.Challenge.RW_manypanes_k04_cut_bytes_give_the_same_ac
set_option Elab.async false
set_option linter.all false
set_option maxRecDepth 100000
set_option autoImplicit false
set_option maxHeartbeats 4000000
set_option maxRecDepth 100000
set_option autoImplicit false
set_option maxHeartbeats 4000000
namespace PB
open PySem PySem.Spec PyProof.Rows L2
open C8 (Cal Mak Met pe_c pe_mk pe_mt pe_mt0 tCut pss_cut)
/-! ### rules joined: the way is picked by the values -/
def orR (r r' : R2) : R2 := fun x y H Q => r x y H Q ∨ r' x y H Q
theorem or_op {X : Cx} {f : Value → Value → Sem Value} {r r' : R2} (h : OpR X f r) (h' : OpR X f r') : OpR X f (orR r r') := by
  intro pins s σ H x y v u Q I rx ry q
  rcases q with q | q
  · exact h pins s σ H x y v u Q I rx ry q
  · exact h' pins s σ H x y v u Q I rx ry q
abbrev rAddI : R2 := rI0 fun i j => .int (i + j)
abbrev rSubI : R2 := rI0 fun i j => .int (i - j)
abbrev rMulI : R2 := rI CMulW fun i j => .int (i * j)
abbrev rDivI : R2 := rI CDivW fun i j => .int (i / j)
abbrev rModI : R2 := rI (fun _ j => 0 < j) fun i j => .int (i % j)
/-! ### readings by match: they run by simp where the values are known -/
def mVar (i : Nat) : TE := fun σ H Q => match σ[i]? with
  | some (some v) => Q v H
  | _ => False
def mAdd (K : PySem.W.Frag) : R2 := fun x y H Q => match x, y with
  | .int i, .int j => Q (.int (i + j)) H
  | .ref a, .ref b => rCat (.ref a) (.ref b) H Q ∨ rCatA K (.ref a) (.ref b) H Q
  | _, _ => False
def mSub : R2 := fun x y H Q => match x, y with
  | .int i, .int j => Q (.int (i - j)) H
  | _, _ => False
def mMul : R2 := fun x y H Q => match x, y with
  | .int i, .int j => CMulW i j ∧ Q (.int (i * j)) H
  | .ref a, .int j => rRep (.ref a) (.int j) H Q
  | _, _ => False
def mDiv : R2 := fun x y H Q => match x, y with
  | .int i, .int j => CDivW i j ∧ Q (.int (i / j)) H
  | _, _ => False
def mMod : R2 := fun x y H Q => match x, y with
  | .int i, .int j => 0 < j ∧ Q (.int (i % j)) H
  | _, _ => False
def mPow : R2 := fun x y H Q => match x, y with
  | .int i, .int j => CPow i j ∧ Q (.int (i ^ j.toNat)) H
  | _, _ => False
def mNeg : V → Hp → VK → Prop := fun x H Q => match x with
  | .int i => Q (.int (-i)) H
  | _ => False
def mLt : R2 := fun x y H Q => match x, y with
  | .int i, .int j => Q (.bl (decide (i < j))) H
  | _, _ => False
def mLe : R2 := fun x y H Q => match x, y with
  | .int i, .int j => Q (.bl (decide (i ≤ j))) H
  | _, _ => False
def mGt : R2 := fun x y H Q => match x, y with
  | .int i, .int j => Q (.bl (decide (j < i))) H
  | _, _ => False
def mGe : R2 := fun x y H Q => match x, y with
  | .int i, .int j => Q (.bl (decide (j ≤ i))) H
  | _, _ => False
def mEq (K : PySem.W.Frag) : R2 := fun x y H Q => match x, y with
  | .int i, .int j => Q (.bl (decide (i = j))) H
  | .bl i, .bl j => Q (.bl (decide (i = j))) H
  | .str i, .str j => Q (.bl (decide (i = j))) H
  | .ref a, .ref b => rEqD K (.ref a) (.ref b) H Q
  | x, y => rEq x y H Q ∨ rEqD K x y H Q
def mNe (K : PySem.W.Frag) : R2 := fun x y H Q => match x, y with
  | .int i, .int j => Q (.bl (!decide (i = j))) H
  | .bl i, .bl j => Q (.bl (!decide (i = j))) H
  | .str i, .str j => Q (.bl (!decide (i = j))) H
  | .ref a, .ref b => rNeD K (.ref a) (.ref b) H Q
  | x, y => rNe x y H Q ∨ rNeD K x y H Q
/-- in a tuple of data -/
def rInT (K : PySem.W.Frag) (neg : Bool) : R2 := fun x y H Q => ∃ d ds, Dp K H x d ∧ Dp K H y (.tuple ds) ∧ SeqAt.shaped d = true ∧ SeqAt.shaped (.tuple ds) = true ∧ Q (.bl (if neg then !(ds.any fun z => PyData.eqv z d) else ds.any fun z => PyData.eqv z d)) H
def mIn (K : PySem.W.Frag) : R2 := fun x y H Q => rIn K false x y H Q ∨ rInD K x y H Q ∨ rInT K false x y H Q
def mNotIn (K : PySem.W.Frag) : R2 := fun x y H Q => rIn K true x y H Q ∨ rNotInD K x y H Q ∨ rInT K true x y H Q
def mIsN : R2 := fun x y H Q => match y with
  | .non => Q (.bl (decide (x = .non))) H
  | _ => False
def mNotN : R2 := fun x y H Q => match y with
  | .non => Q (.bl (!decide (x = .non))) H
  | _ => False
def mIx (K : PySem.W.Frag) : R2 := fun x y H Q => match x, y with
  | .ref p, .int i => ∃ xs v, (SqL K H p xs ∨ SqT K H p xs) ∧ atI xs i = some v ∧ Q v H
  | _, _ => False
def kTest (Q : Bool → Hp → Prop) : VK := fun x H' => match x with
  | .bl k => Q k H'
  | _ => False
def mTest (t : TE) : TT := fun σ H Q => t σ H (kTest Q)
def mChain (r r' : R2) (ta tb tc : TE) : TE := fun σ H Q => ta σ H fun x H1 => tb σ H1 fun y H2 => r x y H2 fun z H3 => match z with
  | .bl k => if k = true then tc σ H3 fun u H4 => r' y u H4 Q else Q (.bl false) H3
  | _ => False
def kTru (K : PySem.W.Frag) (Q : Bool → Hp → Prop) : VK := fun x H' => match x with
  | .bl k => Q k H'
  | .int i => Q (!decide (i = 0)) H'
  | .non => Q false H'
  | .ref a => ∃ k, TruV K (.ref a) H' k ∧ Q k H'
  | _ => False
def mTru (K : PySem.W.Frag) (ta : TE) : TT := fun σ H Q => ta σ H (kTru K Q)
def mAndV (ta tb : TE) : TE := fun σ H Q => ta σ H fun x H1 => match x with
  | .bl k => if k = true then tb σ H1 Q else Q (.bl false) H1
  | _ => False
def mOrV (ta tb : TE) : TE := fun σ H Q => ta σ H fun x H1 => match x with
  | .bl k => if k = true then Q (.bl true) H1 else tb σ H1 Q
  | _ => False
def mNotV (ta : TE) : TE := fun σ H Q => ta σ H fun x H1 => match x with
  | .bl k => Q (.bl (!k)) H1
  | _ => False
abbrev R1 := List V → Hp → VK → Prop
def mAbs : R1 := fun xs H Q => match xs with
  | [.int i] => Q (.int (if i < 0 then -i else i)) H
  | _ => False
def mMax2 : R1 := fun xs H Q => match xs with
  | [.int i, .int j] => Q (.int (max i j)) H
  | _ => False
def mMin2 : R1 := fun xs H Q => match xs with
  | [.int i, .int j] => Q (.int (min i j)) H
  | _ => False
def mInt : R1 := fun xs H Q => match xs with
  | [.int i] => Q (.int i) H
  | [.bl k] => Q (.int (if k then 1 else 0)) H
  | _ => False
def mBool : R1 := fun xs H Q => match xs with
  | [.int i] => Q (.bl (!decide (i = 0))) H
  | [.bl k] => Q (.bl k) H
  | _ => False
def mStr : R1 := fun xs H Q => match xs with
  | [.int i] => i.natAbs.log2 < 1920 ∧ Q (.str (toString i)) H
  | _ => False
def mOrd : R1 := fun xs H Q => match xs with
  | [.str x] => x.length = 1 ∧ Q (.int (x.cps.getD 0 0 : Nat)) H
  | _ => False
def mLen (K : PySem.W.Frag) : R1 := fun xs H Q => match xs with
  | [.ref p] => ∃ ys, (SqL K H p ys ∨ SqT K H p ys) ∧ Q (.int ys.length) H
  | _ => False
def mList (K : PySem.W.Frag) : R1 := fun xs H Q => match xs with
  | [.ref p] => ∃ ys, (SqL K H p ys ∨ SqT K H p ys) ∧ ∀ l, H l = none → Q (.ref l) (upd H l (.lst ys))
  | _ => False
def mTup (K : PySem.W.Frag) : R1 := fun xs H Q => match xs with
  | [.ref p] => ∃ ys, (SqL K H p ys ∧ ∀ l, H l = none → Q (.ref l) (upd H l (.tup ys))) ∨ (SqT K H p ys ∧ Q (.ref p) H)
  | _ => False
def mSl (K : PySem.W.Frag) : V → Option Int → Option Int → Hp → VK → Prop := fun x lo hi H Q => rSlL K x lo hi H Q ∨ rSlA K x lo hi H Q
def mFld (K : PySem.W.Frag) (ta : TE) (f : Str) : TE := fun σ H Q => ta σ H fun x H1 => match x with
  | .ref a => (match H1 a with
    | some (.ins C _ fs) => (match fs.lookup f with
      | some v => (Cls K C ∧ NoAttr K C f) ∧ Q v H1
      | none => False)
    | _ => False)
  | _ => False
def mSFld (K : PySem.W.Frag) (ta tv : TE) (f : Str) : TS := fun D σ H => tv σ H fun y H1 => ta σ H1 fun x H2 => match x with
  | .ref a => (match H2 a with
    | some (.ins C dx fs) => (Cls K C ∧ NoAttr K C f ∧ fs.length < 1000) ∧ D.nx σ (upd H2 a (.ins C dx (putF f y fs)))
    | _ => False)
  | _ => False
def mFldAug (K : PySem.W.Frag) (ta tv : TE) (g : Int → Int → Int) (f : Str) : TS := fun D σ H => ta σ H fun x H1 => match x with
  | .ref a => (match H1 a with
    | some (.ins C _ fs) => (match fs.lookup f with
      | some (.int i) => (Cls K C ∧ NoAttr K C f) ∧ tv σ H1 fun y H2 => (match y with
        | .int j => (match H2 a with
          | some (.ins C' dx' fs') => (C' = C ∧ fs'.length < 1000) ∧ D.nx σ (upd H2 a (.ins C dx' (putF f (.int (g i j)) fs')))
          | _ => False)
        | _ => False)
      | _ => False)
    | _ => False)
  | _ => False
def mAug (i : Nat) (te : TE) (g : Int → Int → Int) : TS := fun D σ H => match σ[i]? with
  | some (some (.int x)) => te σ H fun y H1 => (match y with
    | .int z => D.nx (σ.set i (some (.int (g x z)))) H1
    | _ => False)
  | _ => False
def mDGet (td ty : TE) : TE := fun σ H Q => td σ H fun x H1 => ty σ H1 fun y H2 => match x, y with
  | .ref a, .str s => (match H2 a with
    | some (.dK kvs) => (match valV kvs (.inr s) with
      | some v => Q v H2
      | none => False)
    | _ => False)
  | _, _ => False
def mDPut (td ty tv : TE) : TS := fun D σ H => tv σ H fun v H1 => td σ H1 fun x H2 => ty σ H2 fun y H3 => match x, y with
  | .ref a, .str s => (match H3 a with
    | some (.dK kvs) => kvs.length < sizeLine ∧ D.nx σ (upd H3 a (.dK (putK kvs (.inr s) v)))
    | _ => False)
  | _, _ => False
def mMeth (C : Addr) (m : Str) (sp : Sp) (ta : TE) (t : TA) : TE := fun σ H Q => ta σ H fun x H1 => match x with
  | .ref a => (match H1 a with
    | some (.ins D _ fs) => (D = C ∧ fs.lookup m = none) ∧ t σ H1 fun vs H2 => sp (.ref a :: vs) H2 Q E0
    | _ => False)
  | _ => False
def mCall (sp : Sp) (t : TA) : TE := fun σ H Q => t σ H fun vs H1 => sp vs H1 Q E0
def mMake (C : Addr) (sp : Sp) (t : TA) : TE := fun σ H Q => t σ H fun vs H1 => ∀ x dx, H1 x = none → H1 dx = none → dx ≠ x →
  sp (.ref x :: vs) (upd (upd H1 dx (.own x)) x (.ins C dx [])) (fun v H2 => v = .non ∧ Q (.ref x) H2) E0
def mTup0 (t : TA) : TE := fun σ H Q => t σ H fun xs H1 => xs.length ≤ sizeLine ∧ ∀ p, H1 p = none → Q (.ref p) (upd H1 p (.tup xs))
def mAppend : V → List V → Hp → VK → Prop := fun x vs H Q => match x, vs with
  | .ref l, [y] => (match H l with
    | some (.lst xs) => xs.length < sizeLine ∧ Q .non (upd H l (.lst (xs ++ [y])))
    | _ => False)
  | _, _ => False
/-- a list's method; the receiver is a list that stands in H -/
def mLM (r : V → List V → Hp → VK → Prop) (to : TE) (t : TA) : TE := fun σ H Q => to σ H fun x H1 => match x with
  | .ref l => (match H1 l with
    | some (.lst _) => t σ H1 fun xs H2 => r (.ref l) xs H2 Q
    | _ => False)
  | _ => False
def mSet : TSet := fun o i v H Q => match o, i with
  | .ref p, .int k => (match H p with
    | some (.lst xs) => (match ixN xs.length k with
      | some j => Q (upd H p (.lst (xs.set j v)))
      | none => False)
    | _ => False)
  | _, _ => False
def mPart (t : TE) : TO := fun σ H Q => t σ H fun x H1 => match x with
  | .int i => Q (some i) H1
  | _ => False
abbrev rInsert : V → List V → Hp → VK → Prop := fun x vs H Q => ∃ (l : Addr) (xs : List V) (i : Int) (y : V), x = .ref l ∧ vs = [.int i, y] ∧ H l = some (.lst xs) ∧ xs.length < sizeLine ∧ 0 ≤ i ∧ i < 2 ^ 63 ∧
  Q .non (upd H l (.lst (xs.take i.toNat ++ [y] ++ xs.drop i.toNat)))
theorem hu64 {A : Around} {k : Nat} (hr : Room k A) : A.units + 64 < cLine := by have := hr.un; omega
theorem hu65 {A : Around} {k : Nat} (hr : Room k A) : A.units + 65 < cLine := by have := hr.un; omega
section
variable {X : Cx}
theorem PE_imp {e : Expr} {t t' : TE} (h : PE X e t) (i : ∀ σ H Q, t' σ H Q → t σ H Q) : PE X e t' := ⟨fun pins s σ H Q I q => h.run pins s σ H Q I (i _ _ _ q)⟩
theorem PT_imp {e : Expr} {t t' : TT} (h : PT X e t) (i : ∀ σ H Q, t' σ H Q → t σ H Q) : PT X e t' := ⟨fun pins s σ H Q I q => h.run pins s σ H Q I (i _ _ _ q)⟩
theorem PA_imp {es : List Expr} {t t' : TA} (h : PA X es t) (i : ∀ σ H Q, t' σ H Q → t σ H Q) : PA X es t' := ⟨fun pos pins s σ H Q I q => h.run pos pins s σ H Q I (i _ _ _ q)⟩
theorem PS_imp {e : Stmt} {t t' : TS} (h : PS X e t) (i : ∀ D σ H, t' D σ H → t D σ H) : PS X e t' := ⟨fun pins s σ H D I q => h.run pins s σ H D I (i _ _ _ q)⟩
theorem op_imp {f : Value → Value → Sem Value} {r r' : R2} (h : OpR X f r) (i : ∀ x y H Q, r' x y H Q → r x y H Q) : OpR X f r' := fun pins s σ H x y v u Q I rx ry q => h pins s σ H x y v u Q I rx ry (i _ _ _ _ q)
theorem call_imp {f : Value} {r r' : R1} (h : CallR X f r) (i : ∀ x H Q, r' x H Q → r x H Q) : CallR X f r' := fun pins s σ H xs us Q I rx q => h pins s σ H xs us Q I rx (i _ _ _ q)
theorem ix_imp {r r' : R2} (h : IxR X r) (i : ∀ x y H Q, r' x y H Q → r x y H Q) : IxR X r' := fun a b pins s σ H x y v u Q I rx ry q hs => h a b pins s σ H x y v u Q I rx ry (i _ _ _ _ q) hs
theorem un_imp {f : Value → Sem Value} {r r' : V → Hp → VK → Prop} (h : UnR X f r) (i : ∀ x H Q, r' x H Q → r x H Q) : UnR X f r' := fun pins s σ H x v Q I rx q => h pins s σ H x v Q I rx (i _ _ _ q)
theorem mt_imp {id : String} {r r' : V → List V → Hp → VK → Prop} (h : MtR X id r) (i : ∀ x vs H Q, r' x vs H Q → r x vs H Q) : MtR X id r' := fun pins s σ H x xs v us Q I rx rs q => h pins s σ H x xs v us Q I rx rs (i _ _ _ _ q)
theorem op_mAdd : OpR X (binaryOp .Add) (mAdd X.K) := op_imp (or_op op_add (or_op op_cat op_catA)) fun x y H Q h => by
  cases x <;> cases y <;> first | exact h.elim | exact .inl ⟨_, _, rfl, rfl, h⟩ | exact .inr h
theorem op_mSub : OpR X (binaryOp .Sub) mSub := op_imp op_sub fun x y H Q h => by
  cases x <;> cases y <;> first | exact h.elim | exact ⟨_, _, rfl, rfl, h⟩
theorem op_mMul : OpR X (binaryOp .Mult) mMul := op_imp (or_op op_mulW op_rep) fun x y H Q h => by
  cases x <;> cases y <;> first | exact h.elim | exact .inl ⟨_, _, rfl, rfl, h.1, h.2⟩ | exact .inr h
theorem op_mDiv : OpR X (binaryOp .FloorDiv) mDiv := op_imp op_fdivW fun x y H Q h => by
  cases x <;> cases y <;> first | exact h.elim | exact ⟨_, _, rfl, rfl, h.1, h.2⟩
theorem op_mMod : OpR X (binaryOp .Mod) mMod := op_imp op_mod fun x y H Q h => by
  cases x <;> cases y <;> first | exact h.elim | exact ⟨_, _, rfl, rfl, h.1, h.2⟩
theorem op_mPow : OpR X (binaryOp .Pow) mPow := op_imp op_pow fun x y H Q h => by
  cases x <;> cases y <;> first | exact h.elim | exact ⟨_, _, rfl, rfl, h.1, h.2⟩
theorem un_mNeg : UnR X (unaryOp .USub) mNeg := un_imp un_neg fun x H Q h => by
  cases x <;> first | exact h.elim | exact ⟨_, rfl, h⟩
theorem op_mLt : OpR X (compareOp .Lt) mLt := op_imp op_lt fun x y H Q h => by
  cases x <;> cases y <;> first | exact h.elim | exact ⟨_, _, rfl, rfl, h⟩
theorem op_mLe : OpR X (compareOp .LtE) mLe := op_imp op_le fun x y H Q h => by
  cases x <;> cases y <;> first | exact h.elim | exact ⟨_, _, rfl, rfl, h⟩
theorem op_mGt : OpR X (compareOp .Gt) mGt := op_imp op_gt fun x y H Q h => by
  cases x <;> cases y <;> first | exact h.elim | exact ⟨_, _, rfl, rfl, h⟩
theorem op_mGe : OpR X (compareOp .GtE) mGe := op_imp op_ge fun x y H Q h => by
  cases x <;> cases y <;> first | exact h.elim | exact ⟨_, _, rfl, rfl, h⟩
theorem dInt {i j : Int} : decide (V.int i = V.int j) = decide (i = j) := by simp
theorem dBl {i j : Bool} : decide (V.bl i = V.bl j) = decide (i = j) := by simp
theorem dStr {i j : Str} : decide (V.str i = V.str j) = decide (i = j) := by simp
theorem op_mEq (hu : X.A.units + 64 < cLine) : OpR X (compareOp .Eq) (mEq X.K) := op_imp (or_op op_eq (op_eqD hu)) fun x y H Q h => by
  cases x <;> cases y <;> first | exact h | exact .inl ⟨rfl, by rw [dInt]; exact h⟩ | exact .inl ⟨rfl, by rw [dBl]; exact h⟩ | exact .inl ⟨rfl, by rw [dStr]; exact h⟩ | exact .inr h
theorem op_mNe (hu : X.A.units + 64 < cLine) : OpR X (compareOp .NotEq) (mNe X.K) := op_imp (or_op op_ne (op_neD hu)) fun x y H Q h => by
  cases x <;> cases y <;> first | exact h | exact .inl ⟨rfl, by rw [dInt]; exact h⟩ | exact .inl ⟨rfl, by rw [dBl]; exact h⟩ | exact .inl ⟨rfl, by rw [dStr]; exact h⟩ | exact .inr h
theorem op_inT (hu : X.A.units + 65 < cLine) : OpR X (compareOp .In) (rInT X.K false) := by
  intro pins s σ H x y v u Q I rx ry h
  obtain ⟨d, ds, hd, he, sd, se, q⟩ := h
  obtain ⟨as, r1⟩ := Dp.reads I d x v hd rx
  obtain ⟨bs, r2⟩ := Dp.reads I (.tuple ds) y u he ry
  exact SeqAt.in_tuple_reads r2 r1 (SeqAt.canLay_of_shaped se) (SeqAt.canLay_of_shaped sd) (room_in_shaped sd hu) ⟨.bl _, H, I, rfl, q⟩
theorem op_notInT (hu : X.A.units + 65 < cLine) : OpR X (compareOp .NotIn) (rInT X.K true) := by
  intro pins s σ H x y v u Q I rx ry h
  obtain ⟨d, ds, hd, he, sd, se, q⟩ := h
  obtain ⟨as, r1⟩ := Dp.reads I d x v hd rx
  obtain ⟨bs, r2⟩ := Dp.reads I (.tuple ds) y u he ry
  exact SeqAt.notIn_tuple_reads r2 r1 (SeqAt.canLay_of_shaped se) (SeqAt.canLay_of_shaped sd) (room_in_shaped sd hu) ⟨.bl _, H, I, rfl, q⟩
theorem op_mIn (hu : X.A.units + 65 < cLine) : OpR X (compareOp .In) (mIn X.K) := or_op op_in_seq (or_op (op_inD hu) (op_inT hu))
theorem op_mNotIn (hu : X.A.units + 65 < cLine) : OpR X (compareOp .NotIn) (mNotIn X.K) := or_op op_notIn_seq (or_op (op_notInD hu) (op_notInT hu))
theorem op_mIsN : OpR X (compareOp .Is) mIsN := op_imp op_isN fun x y H Q h => by
  cases y <;> first | exact h.elim | exact ⟨rfl, h⟩
theorem op_mNotN : OpR X (compareOp .IsNot) mNotN := op_imp op_notN fun x y H Q h => by
  cases y <;> first | exact h.elim | exact ⟨rfl, h⟩
theorem ix_m : IxR X (mIx X.K) := ix_imp ix_seq fun x y H Q h => by
  cases x <;> cases y <;> try exact h.elim
  obtain ⟨xs, v, h1 | h1, h2, h3⟩ := h
  · exact .inl ⟨_, xs, _, v, rfl, rfl, h1, h2, h3⟩
  · exact .inr (.inl ⟨_, xs, _, v, rfl, rfl, h1, h2, h3⟩)
theorem call_mAbs : CallR X (.builtin "abs") mAbs := call_imp call_abs fun xs H Q h => by
  unfold mAbs at h; split at h
  · exact ⟨_, rfl, h⟩
  · exact h.elim
theorem call_mMax2 (hc : X.calm = true) : CallR X (.builtin "max") mMax2 := call_imp (call_max2 hc) fun xs H Q h => by
  unfold mMax2 at h; split at h
  · rename_i i j
    have e : max i j = if j > i then j else i := by rw [Int.max_def]; split <;> split <;> omega
    rw [e] at h
    exact ⟨_, _, rfl, h⟩
  · exact h.elim
theorem call_mMin2 (hc : X.calm = true) : CallR X (.builtin "min") mMin2 := call_imp (call_min2 hc) fun xs H Q h => by
  unfold mMin2 at h; split at h
  · rename_i i j
    have e : min i j = if j < i then j else i := by rw [Int.min_def]; split <;> split <;> omega
    rw [e] at h
    exact ⟨_, _, rfl, h⟩
  · exact h.elim
theorem call_mInt : CallR X (.type "int") mInt := call_imp call_int1 fun xs H Q h => by
  unfold mInt at h; split at h
  · exact .inl ⟨_, rfl, h⟩
  · exact .inr ⟨_, rfl, h⟩
  · exact h.elim
theorem call_mBool : CallR X (.type "bool") mBool := call_imp call_bool1 fun xs H Q h => by
  unfold mBool at h; split at h
  · rename_i i
    have e : (i != 0) = !decide (i = 0) := by simp [bne]; rfl
    exact .inl ⟨_, rfl, by rw [e]; exact h⟩
  · exact .inr ⟨_, rfl, h⟩
  · exact h.elim
theorem call_mStr : CallR X (.type "str") mStr := call_imp call_str_int fun xs H Q h => by
  unfold mStr at h; split at h
  · exact ⟨_, rfl, h⟩
  · exact h.elim
theorem call_mOrd : CallR X (.builtin "ord") mOrd := call_imp call_ord fun xs H Q h => by
  unfold mOrd at h; split at h
  · exact ⟨_, rfl, h⟩
  · exact h.elim
theorem call_mLen : CallR X (.builtin "len") (mLen X.K) := call_imp call_len_seq fun xs H Q h => by
  unfold mLen at h; split at h
  · obtain ⟨ys, h1, h2⟩ := h
    exact ⟨_, ys, rfl, h1, h2⟩
  · exact h.elim
theorem call_mList : CallR X (.type "list") (mList X.K) := call_imp call_list_of fun xs H Q h => by
  unfold mList at h; split at h
  · obtain ⟨ys, h1, h2⟩ := h
    exact ⟨_, ys, rfl, h1, h2⟩
  · exact h.elim
theorem call_mTup : CallR X (.type "tuple") (mTup X.K) := call_imp call_tuple_of fun xs H Q h => by
  unfold mTup at h; split at h
  · obtain ⟨ys, h1⟩ := h
    exact ⟨_, ys, rfl, h1⟩
  · exact h.elim
theorem sl_m : SlR X (mSl X.K) := sl_list.or sl_tupA
theorem mt_mAppend : MtR X "list.append" mAppend := mt_imp mt_append fun x vs H Q h => by
  unfold mAppend at h; split at h
  · split at h
    · rename_i e
      exact ⟨_, _, _, rfl, rfl, e, h.1, h.2⟩
    · exact h.elim
  · exact h.elim
theorem mt_insert' : MtR X "list.insert" rInsert := mt_insert
variable {e a b c o value : Expr} {es : List Expr} {ta tb tc tv : TE} {t : TA} {pos pos' apos cpos tpos : Pos} {x f m : Str}
theorem pe_v (i : Nat) (hN : X.N[i]? = some x := by rfl) (hv : Vis X.env.scope x := by first | exact Or.inl rfl | exact Or.inr (Or.inl rfl) | exact Or.inr (Or.inr rfl)) (hd : (x == ("__debug__" : Str)) = false := by decide)
    (hcd : (x == ("__classdict__" : Str)) = false := by decide) : PE X (.Name x pos) (mVar i) := PE_imp (pv i hN hv hd hcd) fun σ H Q h => by
  unfold mVar at h; split at h
  · rename_i v e; exact ⟨v, e, h⟩
  · exact h.elim
theorem pe_gint {i : Int} (hg : Gl X x) (hm : ∃ t, X.mg x = some (.int i t)) (hd : (x == ("__debug__" : Str)) = false := by decide) : PE X (.Name x pos) (tC (.int i)) := by
  obtain ⟨t, hm⟩ := hm
  exact pe_glob hg hm ⟨t, rfl⟩ hd
theorem pt_m {op : CmpOp} {r : R2} (ho : OpR X (compareOp op) r) (ha : PE X a ta) (hb : PE X b tb) (hm : behindInMarks op b = false) : PT X (.Compare a [op] [b] pos) (mTest (tOp r ta tb)) := by
  refine ⟨fun pins s σ H Q I h => ?_⟩
  refine wpAny_isTrue_Compare1 (thn (ha.run pins s σ H _ I h) fun v s1 ⟨x, H1, I1, r1, q1⟩ => thn (hb.run pins s1 σ H1 _ I1 q1) fun u s2 ⟨y, H2, I2, r2, q2⟩ =>
    thn (ho pins s2 σ H2 x y v u _ I2 r1 r2 q2) fun c s3 ⟨z, H3, I3, r3, q3⟩ => ?_) hm
  cases z with
  | bl k =>
    cases r3
    exact wpAny_truthy_bool ⟨H3, I3, q3⟩
  | _ => exact q3.elim
theorem pe_mch {op op' : CmpOp} {r r' : R2} (ho : OpR X (compareOp op) r) (ho' : OpR X (compareOp op') r') (ha : PE X a ta) (hb : PE X b tb) (hc : PE X c tc)
    (hm : lastMarks [op, op'] [b, c] = false := by with_unfolding_all rfl) : PE X (.Compare a [op, op'] [b, c] pos) (mChain r r' ta tb tc) := by
  refine ⟨fun pins s σ H Q I h => ?_⟩
  refine Compare_chain (thn (ha.run pins s σ H _ I h) fun v s1 ⟨x, H1, I1, r1, q1⟩ => chain_link (thn (hb.run pins s1 σ H1 _ I1 q1) fun u s2 ⟨y, H2, I2, r2, q2⟩ =>
    thn (ho pins s2 σ H2 x y v u _ I2 r1 r2 q2) fun d s3 ⟨z, H3, I3, r3, q3⟩ => ?_)) hm
  cases z with
  | bl k =>
    cases r3
    refine wpAny_truthy_bool ?_
    cases k with
    | false => exact ite_ff ⟨.bl false, H3, I3, rfl, q3⟩
    | true => exact ite_tt (chain_last (thn (hc.run pins s3 σ H3 _ I3 q3) fun w' s4 ⟨z', H4, I4, r4, q4⟩ => ho' pins s4 σ H4 y z' u w' Q I4 r2 r4 q4))
  | _ => exact q3.elim
theorem pt_mch {op op' : CmpOp} {r r' : R2} (ho : OpR X (compareOp op) r) (ho' : OpR X (compareOp op') r') (ha : PE X a ta) (hb : PE X b tb) (hc : PE X c tc)
    (hm : lastMarks [op, op'] [b, c] = false := by with_unfolding_all rfl) : PT X (.Compare a [op, op'] [b, c] pos) (mTest (mChain r r' ta tb tc)) := by
  refine ⟨fun pins s σ H Q I h => ?_⟩
  refine isTrue_chain (thn (ha.run pins s σ H _ I h) fun v s1 ⟨x, H1, I1, r1, q1⟩ => test_link (thn (hb.run pins s1 σ H1 _ I1 q1) fun u s2 ⟨y, H2, I2, r2, q2⟩ =>
    thn (ho pins s2 σ H2 x y v u _ I2 r1 r2 q2) fun d s3 ⟨z, H3, I3, r3, q3⟩ => ?_)) hm
  cases z with
  | bl k =>
    cases r3
    refine wpAny_truthy_bool ?_
    cases k with
    | false => exact ite_ff ⟨H3, I3, q3⟩
    | true =>
      refine ite_tt (test_last (thn (hc.run pins s3 σ H3 _ I3 q3) fun w' s4 ⟨z', H4, I4, r4, q4⟩ => thn (ho' pins s4 σ H4 y z' u w' _ I4 r2 r4 q4) fun d' s5 ⟨z2, H5, I5, r5, q5⟩ => ?_))
      cases z2 with
      | bl k2 =>
        cases r5
        exact wpAny_truthy_bool ⟨H5, I5, q5⟩
      | _ => exact q5.elim
  | _ => exact q3.elim
theorem pt_tru (ha : PE X a ta) (he : ∀ whole, isTrue a X.env whole = (do let v ← whole; standAt a.pos; holding [v] (truthy v)) := by intro _; rfl) : PT X a (mTru X.K ta) := by
  refine ⟨fun pins s σ H Q I h => ?_⟩
  refine isTrue_plain (thn (ha.run pins s σ H _ I h) fun v s1 ⟨x, H1, I1, r1, q1⟩ => ?_) (he _)
  refine tru_ok pins s1 σ H1 x v Q I1 r1 ?_
  cases x with
  | bl k => exact ⟨k, rfl, q1⟩
  | int i =>
    have e : (i != 0) = !decide (i = 0) := by simp [bne]; rfl
    exact ⟨_, rfl, e ▸ q1⟩
  | non => exact ⟨_, rfl, q1⟩
  | ref p => exact q1
  | _ => exact q1.elim
theorem pe_mand {rest : List Expr} (ha : PE X a ta) (hb : PE X (.BoolOp .And (b :: rest) pos) tb) : PE X (.BoolOp .And (a :: b :: rest) pos) (mAndV ta tb) := by
  refine ⟨fun pins s σ H Q I h => ?_⟩
  refine BoolOp_and (thn (ha.run pins s σ H _ I h) fun v s1 ⟨x, H1, I1, r1, q1⟩ => ?_)
  cases x with
  | bl k =>
    cases r1
    refine wpAny_truthy_bool ?_
    cases k with
    | true => exact hb.run pins s1 σ H1 Q I1 q1
    | false => exact ⟨.bl false, H1, I1, rfl, q1⟩
  | _ => exact q1.elim
theorem pe_mor {rest : List Expr} (ha : PE X a ta) (hb : PE X (.BoolOp .Or (b :: rest) pos) tb) : PE X (.BoolOp .Or (a :: b :: rest) pos) (mOrV ta tb) := by
  refine ⟨fun pins s σ H Q I h => ?_⟩
  refine BoolOp_or (thn (ha.run pins s σ H _ I h) fun v s1 ⟨x, H1, I1, r1, q1⟩ => ?_)
  cases x with
  | bl k =>
    cases r1
    refine wpAny_truthy_bool ?_
    cases k with
    | true => exact ⟨.bl true, H1, I1, rfl, q1⟩
    | false => exact hb.run pins s1 σ H1 Q I1 q1
  | _ => exact q1.elim
theorem pe_mfld (ha : PE X a ta) (hb : attributeBase a f X.env (eval a X.env) = eval a X.env) : PE X (.Attribute a f pos) (mFld X.K ta f) := by
  refine ⟨fun pins s σ H Q I h => ?_⟩
  refine attr_of hb (thn (ha.run pins s σ H _ I h) fun u s1 ⟨x, H1, I1, rx, q⟩ => ?_)
  cases x with
  | ref p =>
    obtain rfl : u = Value.ref p := rx
    simp only at q
    split at q
    · rename_i C dx fs ea
      split at q
      · rename_i v l
        exact getattr_ok I1 ea q.1.1 q.1.2 l fun u' s2 I2 ru => ⟨v, H1, I2, ru, q.2⟩
      · exact q.elim
    · exact q.elim
  | _ => exact q.elim
theorem ps_mfld (ha : PE X o ta) (hv : PE X value tv) (hs : swapsWith value (some (.Attribute o f pos')) pos.line X.env = pure false) : PS X (.Assign [.Attribute o f pos'] value pos) (mSFld X.K ta tv f) := by
  refine ⟨fun pins s σ H D I h => ?_⟩
  refine plainObj_wpAny_Assign_Attribute (thn (hv.run pins s σ H _ I h) fun u s1 ⟨y, H1, I1, ry, q⟩ => thn (ha.run pins s1 σ H1 _ I1 q) fun ov s2 ⟨x, H2, I2, rx, q2⟩ => ?_) hs
  cases x with
  | ref p =>
    obtain rfl : ov = Value.ref p := rx
    simp only at q2
    split at q2
    · rename_i C dx fs ea
      exact setattr_ok I2 ea q2.1.1 q2.1.2.1 q2.1.2.2 ry fun s3 I3 => ⟨σ, _, I3, q2.2⟩
    · exact q2.elim
  | _ => exact q2.elim
theorem in_g {op : Operator} {g : Int → Int → Int} (h : InOp X op (fun x y H Q => ∃ i j, x = .int i ∧ y = .int j ∧ Q (.int (g i j)) H)) (ha : PE X o ta) (hv : PE X value tv) : PS X (.AugAssign (.Attribute o f tpos) op value pos) (mFldAug X.K ta tv g f) := by
  refine ⟨fun pins s σ H D I h' => ?_⟩
  refine wpAny_AugAssign_AttributeAny (thn (ha.run pins s σ H _ I h') fun ov s1 ⟨x, H1, I1, rx, q⟩ => ?_)
  cases x with
  | ref p =>
    obtain rfl : ov = Value.ref p := rx
    simp only at q
    split at q
    · rename_i C dx fs ea
      split at q
      · rename_i i l
        refine getattr_ok I1 ea q.1.1 q.1.2 l fun u s2 I2 ru => thn (hv.run pins s2 σ H1 _ I2 q.2) fun w3 s3 ⟨y, H2, I3, ry, q3⟩ => ?_
        cases y with
        | int j =>
          simp only at q3
          split at q3
          · rename_i C' dx' fs' ea'
            obtain ⟨⟨rfl, l'⟩, q4⟩ := q3
            exact thn (h pins s3 σ H2 _ _ u w3 (fun z H3 => z = .int (g i j) ∧ H3 = H2) I3 ru ry ⟨i, j, rfl, rfl, rfl, rfl⟩) fun w4 s4 ⟨z, H3, I4, rz, e1, e2⟩ => by
              subst e1 e2
              exact setattr_ok I4 ea' q.1.1 q.1.2 l' rz fun s5 I5 => ⟨σ, _, I5, q4⟩
          · exact q3.elim
        | _ => exact q3.elim
      · exact q.elim
    · exact q.elim
  | _ => exact q.elim
theorem ps_maugF_add (ha : PE X o ta) (hv : PE X value tv) : PS X (.AugAssign (.Attribute o f tpos) .Add value pos) (mFldAug X.K ta tv (fun i j => i + j) f) := in_g in_add ha hv
theorem ps_maugF_sub (ha : PE X o ta) (hv : PE X value tv) : PS X (.AugAssign (.Attribute o f tpos) .Sub value pos) (mFldAug X.K ta tv (fun i j => i - j) f) := in_g in_sub ha hv
theorem ps_maug {i : Nat} {op : Operator} {g : Int → Int → Int} (hN : X.N.Nodup) (hi : X.N[i]? = some x) (hx : Loc X.env.scope x) (he : PE X value tv) (ho : PIp X op (ipI g)) (hf : X.fn x = true ∨ X.env.scope.names.lookup x = some .local := by first | exact .inl rfl | exact .inr rfl | assumption) :
    PS X (.AugAssign (.Name x pos') op value pos) (mAug i tv g) := by
  refine ⟨fun pins s σ H D I h => ?_⟩
  unfold mAug at h
  split at h
  · rename_i v e1
    obtain ⟨m, hn, hl⟩ := I.loc
    have vis : Vis X.env.scope x := by rcases hx with k | k; exact .inl k; exact .inr (.inl k)
    obtain ⟨u, r, l⟩ := hl i x (.int v) hi e1 vis
    refine wpAny_AugAssign_Name ?_
    have go : wpAny (model X.prog X.w) X.A (eval value X.env) (fun w s₂ => wpAny (model X.prog X.w) X.A (inplaceOp op u w) (fun r s₃ => wpAny (model X.prog X.w) X.A (storeName X.env x r) (fun _ => SP X pins D .next) X.xe s₃) X.xe s₂) X.xe s := by
      refine thn (he.run pins s σ H _ I h) fun w s1 ⟨y, H1, I1, r1, q1⟩ => ?_
      cases y with
      | int z =>
        refine thn (ho pins s1 σ H1 (.int v) (.int z) u w (fun y H2 => y = .int (g v z) ∧ H2 = H1) I1 r r1 ⟨_, _, rfl, rfl, rfl, rfl⟩) fun z' s2 ⟨zv, H2, I2, r2, e2, e3⟩ => ?_
        subst e2 e3
        exact store_ok I2 hN hi hx r2 (fun s3 I3 => ⟨_, H2, I3, q1⟩) hf
      | _ => exact q1.elim
    rcases l with ⟨hk, hm⟩ | ⟨hk, c, hc, hcell⟩
    · exact wpAny_loadName_local I.ok.kind hk hn hm go
    · rcases hk with hk | hk
      · exact wpAny_loadName_cell I.ok.kind hk hc hcell go
      · rcases hx with k | k
        · have : X.env.scope.names.lookup x = some .free := hk
          rw [k] at this; cases this
        · have : X.env.scope.names.lookup x = some .free := hk
          rw [k] at this; cases this
  · exact h.elim
theorem pe_mdget (hu : X.A.units + 1 < cLine) (ho : PE X o ta) (hi : PE X e tb) (hs : NoSl e) : PE X (.Subscript o e pos) (mDGet ta tb) := by
  refine ⟨fun pins s σ H Q I h => ?_⟩
  refine subD_of PySem.F.slot_dict_getitem.lookup hs (thn (ho.run pins s σ H _ I h) fun u s1 ⟨x, H1, I1, rx, q1⟩ => thn (hi.run pins s1 σ H1 _ I1 q1) fun iv s2 ⟨y, H2, I2, ry, q2⟩ => ?_)
  cases x with
  | ref p =>
    obtain rfl : u = Value.ref p := rx
    cases y with
    | str z =>
      simp only at q2
      split at q2
      · rename_i kvs ea
        split at q2
        · rename_i v l
          have g : DGet H2 p (.str z) (some v) := by rw [← l]; exact DGet.k (k := Sum.inr z) ea
          exact ⟨dict_typeIs I2 g, d_getItem hu I2 g ry fun w' s3 I3 rw' => ⟨v, H2, I3, rw', q2⟩⟩
        · exact q2.elim
      · exact q2.elim
    | _ => exact q2.elim
  | _ => exact q2.elim
theorem ps_mdput (hu : X.A.units + 1 < cLine) (ho : PE X o ta) (hi : PE X e tb) (hv : PE X value tv) (hs : swapsWith value (some (.Subscript o e pos')) pos.line X.env = pure false) :
    PS X (.Assign [.Subscript o e pos'] value pos) (mDPut ta tb tv) := by
  refine ⟨fun pins s σ H D I h => ?_⟩
  refine wpAny_Assign_Subscript (thn (hv.run pins s σ H _ I h) fun r s1 ⟨v, H1, I1, rv, q1⟩ => thn (ho.run pins s1 σ H1 _ I1 q1) fun u s2 ⟨x, H2, I2, rx, q2⟩ => thn (hi.run pins s2 σ H2 _ I2 q2) fun iv s3 ⟨y, H3, I3, ry, q3⟩ => ?_) hs
  cases x with
  | ref p =>
    obtain rfl : u = Value.ref p := rx
    cases y with
    | str z =>
      simp only at q3
      split at q3
      · rename_i kvs ea
        exact d_setItem hu I3 (DPut.k (k := Sum.inr z) ea q3.1) ry rv fun s4 I4 => ⟨σ, _, I4, q3.2⟩
      · exact q3.elim
    | _ => exact q3.elim
  | _ => exact q3.elim
theorem pe_mmt {C : Addr} {sp : Sp} {j k : Nat} {pl : Sem Bool} (c : Met X.prog X.w X.K X.mg X.base k C m sp []) (hr : Room j X.A) (hk : k ≤ j) (he : PE X o ta) (ha : PA X (e :: es) t)
    (hst : starEach (e :: es) X.env = (false, eval e X.env) :: starEach es X.env := by rfl) (hpl : (backTo pos (starEach es X.env)).any (·.1) = false := by rfl)
    (ht : eval (.Call (.Attribute o m apos) (e :: es) [] pos) X.env = (do
      let ov ← eval o X.env
      standAt apos.atName
      let (f, first) ← holding [ov] (getMethod ov m pl)
      callWith pos f first (backTo pos (starEach (e :: es) X.env)) (backToKw pos (keywordEach [] X.env))) := by rfl) :
    PE X (.Call (.Attribute o m apos) (e :: es) [] pos) (mMeth C m sp ta t) := by
  obtain ⟨g, fd, ps, ds, hc, hm, F, b, d⟩ := c.ex
  refine ⟨fun pins s σ H Q I h => ?_⟩
  refine PySem.W.methodCall_KW (pl := pl) (thn (he.run pins s σ H _ I h) fun u s1 ⟨x, H1, I1, rx, q⟩ => ?_) ht
  cases x with
  | ref p =>
    obtain rfl : u = Value.ref p := rx
    simp only at q
    split at q
    · rename_i C' dx fs ea
      obtain ⟨⟨rfl, l⟩, q⟩ := q
      refine getmeth_ok I1 ea hc hm l ?_
      refine PySem.W.callWith_K (first := [.ref p]) (h₀ := X.base) I.ok.mod.kin hm.kp (thn (ha.run pos pins s1 σ H1 _ I1 q) fun us s2 ⟨vs, H2, I2, r, q2⟩ => ⟨I2.kIn, ?_⟩) hst hpl
      refine run_fn (E := L2.E0) (us := .ref p :: us) (vs := .ref p :: vs) F (hr.mono hk) b d pass0 I2 (.cons rfl r) ?_
      rw [List.append_nil]
      exact q2
    · exact q.elim
  | _ => exact q.elim
theorem pe_mmt0 {C : Addr} {sp : Sp} {j k : Nat} {pl : Sem Bool} (c : Met X.prog X.w X.K X.mg X.base k C m sp []) (hr : Room j X.A) (hk : k ≤ j) (he : PE X o ta)
    (ht : eval (.Call (.Attribute o m apos) [] [] pos) X.env = (do
      let ov ← eval o X.env
      standAt apos.atName
      let (f, first) ← holding [ov] (getMethod ov m pl)
      callWith pos f first (backTo pos (starEach [] X.env)) (backToKw pos (keywordEach [] X.env))) := by rfl) :
    PE X (.Call (.Attribute o m apos) [] [] pos) (mMeth C m sp ta tNil) := by
  obtain ⟨g, fd, ps, ds, hc, hm, F, b, d⟩ := c.ex
  refine ⟨fun pins s σ H Q I h => ?_⟩
  refine PySem.W.methodCall_KW (pl := pl) (thn (he.run pins s σ H _ I h) fun u s1 ⟨x, H1, I1, rx, q⟩ => ?_) ht
  cases x with
  | ref p =>
    obtain rfl : u = Value.ref p := rx
    simp only at q
    split at q
    · rename_i C' dx fs ea
      obtain ⟨⟨rfl, l⟩, q⟩ := q
      refine getmeth_ok I1 ea hc hm l ?_
      refine PySem.W.callWith_K0 (first := [.ref p]) I1.kIn hm.kp (run_fn (E := L2.E0) (us := [.ref p]) (vs := [.ref p]) F (hr.mono hk) b d pass0 I1 (.cons rfl .nil) ?_)
      exact q
    · exact q.elim
  | _ => exact q.elim
theorem pe_mc {sp : Sp} {j k : Nat} (c : Cal X.prog X.w X.K X.mg X.base k x sp []) (hr : Room j X.A) (hk : k ≤ j) (hg : Gl X x) (ha : PA X (e :: es) t)
    (hdb : (x == ("__debug__" : Str)) = false := by decide) (he : starEach (e :: es) X.env = (false, eval e X.env) :: starEach es X.env := by rfl) (hpl : (backTo pos (starEach es X.env)).any (·.1) = false := by rfl) :
    PE X (.Call (.Name x pos') (e :: es) [] pos) (mCall sp t) := by
  obtain ⟨f, fd, ps, ds, F, hm, kp, b, d⟩ := c.ex
  refine ⟨fun pins s σ H Q I h => ?_⟩
  refine wpAny_Call_Name_kw (ld_glob I hg hm ?_ hdb)
  refine PySem.W.callWith_K (first := []) (h₀ := X.base) I.ok.mod.kin kp (thn (ha.run pos pins s σ H _ I h) fun us s2 ⟨vs, H2, I2, r, q2⟩ => ⟨I2.kIn, ?_⟩) he hpl
  refine run_fn (E := L2.E0) F (hr.mono hk) b d pass0 I2 r ?_
  rw [List.append_nil]
  exact q2
theorem pe_mc0 {sp : Sp} {j k : Nat} (c : Cal X.prog X.w X.K X.mg X.base k x sp []) (hr : Room j X.A) (hk : k ≤ j) (hg : Gl X x) (hdb : (x == ("__debug__" : Str)) = false := by decide) :
    PE X (.Call (.Name x pos') [] [] pos) (mCall sp tNil) := by
  obtain ⟨f, fd, ps, ds, F, hm, kp, b, d⟩ := c.ex
  exact pe_call0 F (hr.mono hk) hg hm kp b d pass0 hdb
theorem pe_mmk {C : Addr} {sp : Sp} {j k : Nat} (c : Mak X.prog X.w X.K X.mg X.base k x C sp []) (hr : Room j X.A) (hk : k + 1 ≤ j) (hg : Gl X x) (ha : PA X (e :: es) t)
    (hdb : (x == ("__debug__" : Str)) = false := by decide) (he : starEach (e :: es) X.env = (false, eval e X.env) :: starEach es X.env := by rfl) (hpl : (backTo pos (starEach es X.env)).any (·.1) = false := by rfl) :
    PE X (.Call (.Name x pos') (e :: es) [] pos) (mMake C sp t) := by
  obtain ⟨f, fd, ps, ds, M, F, hm, b, d⟩ := c.ex
  refine ⟨fun pins s σ H Q I h => ?_⟩
  refine wpAny_Call_Name_kw (ld_glob I hg hm ?_ hdb)
  refine PySem.W.callWith_K (first := []) (h₀ := X.base) I.ok.mod.kin M.kp (thn (ha.run pos pins s σ H _ I h) fun us s1 ⟨vs, H1, I1, r, q⟩ => ⟨I1.kIn, ?_⟩) he hpl
  refine run_make (E := L2.E0) M F (hr.mono hk) b d pass0 I1 r ?_
  rw [List.append_nil]
  exact q
theorem pe_mmk0 {C : Addr} {sp : Sp} {j k : Nat} (c : Mak X.prog X.w X.K X.mg X.base k x C sp []) (hr : Room j X.A) (hk : k + 1 ≤ j) (hg : Gl X x) (hdb : (x == ("__debug__" : Str)) = false := by decide) :
    PE X (.Call (.Name x pos') [] [] pos) (mMake C sp tNil) := by
  obtain ⟨f, fd, ps, ds, M, F, hm, b, d⟩ := c.ex
  exact pe_make0 M F (hr.mono hk) hg hm b d pass0 hdb
theorem pe_mlm {id : String} {name : Str} {r : V → List V → Hp → VK → Prop} (slot : Slot "list" name id) (hty : typeOf (.builtin id) = pure (.type "method_descriptor")) (hm : MtR X id r) (ho : PE X o ta) (ha : PA X (e :: es) t)
    (hbase : attributeBase o name X.env (eval o X.env) = eval o X.env := by rfl)
    (hfew : ((backTo cpos (starEach (e :: es) X.env)).all (fun x => !x.1) && (backToKw cpos (keywordEach [] X.env)).all (fun x => x.1.isSome)
      && decide ((e :: es).length + ([] : List Keyword).length + (if ([] : List Keyword).isEmpty then 0 else 1) < 30)) = true := by rfl)
    (hline : (apos.endLine == cpos.line) = true := by rfl) (hs : starEach (e :: es) X.env = (false, eval e X.env) :: starEach es X.env := by rfl) (hplain : (backTo cpos (starEach es X.env)).any (·.1) = false := by rfl) :
    PE X (.Call (.Attribute o name apos) (e :: es) [] cpos) (mLM r ta t) := by
  refine ⟨fun pins s σ H Q I h => ?_⟩
  refine wpAny_Call_method_late hbase hfew hline rfl (thn (ho.run pins s σ H _ I h) fun v s1 ⟨x, H1, I1, r1, q1⟩ => ?_)
  cases x with
  | ref p =>
    simp only at q1
    split at q1
    · rename_i xs ea
      obtain ⟨h1, h2⟩ := tyV_is (T := "list") I1 r1 (Or.inl ⟨rfl, _, SqL.of ea⟩)
      refine ⟨"list", id, PySem.F.plainAttrs_list, slot, hty, h1, h2, ?_⟩
      have hA := ha.run cpos pins s1 σ H1 _ I1 q1
      rw [hs] at hA ⊢
      refine Calls.callWith_builtin (by show (false || (backTo cpos (starEach es X.env)).any (·.1)) = false; rw [hplain] <;> rfl) (Calls.evalArgs_plain ?_)
      exact thn hA fun us s2 ⟨vs, H2, I2, r2, q2⟩ => hm pins s2 σ H2 (.ref p) vs v us Q I2 r1 r2 q2
    · exact q1.elim
  | _ => exact q1.elim
theorem pe_mlm0 {id : String} {name : Str} {r : V → List V → Hp → VK → Prop} (slot : Slot "list" name id) (hty : typeOf (.builtin id) = pure (.type "method_descriptor")) (hm : MtR X id r) (ho : PE X o ta)
    (hbase : attributeBase o name X.env (eval o X.env) = eval o X.env := by rfl) (hline : (apos.endLine == cpos.line) = true := by rfl) : PE X (.Call (.Attribute o name apos) [] [] cpos) (mLM r ta tNil) := by
  refine ⟨fun pins s σ H Q I h => ?_⟩
  refine wpAny_Call_method0_late hbase hline (thn (ho.run pins s σ H _ I h) fun v s1 ⟨x, H1, I1, r1, q1⟩ => ?_)
  cases x with
  | ref p =>
    simp only at q1
    split at q1
    · rename_i xs ea
      obtain ⟨h1, h2⟩ := tyV_is (T := "list") I1 r1 (Or.inl ⟨rfl, _, SqL.of ea⟩)
      exact ⟨"list", id, PySem.F.plainAttrs_list, slot, hty, h1, h2, Calls.callWith_builtin rfl (PySem.evalArgs_none (hm pins s1 σ H1 (.ref p) [] v [] Q I1 r1 .nil q1))⟩
    · exact q1.elim
  | _ => exact q1.elim
theorem set_m : PSet X mSet := by
  intro pins s σ H o i v ov iv u Q I ro ri rv h
  refine set_list pins s σ H o i v ov iv u Q I ro ri rv ?_
  unfold mSet at h
  split at h
  · split at h
    · rename_i e1
      split at h
      · rename_i e2
        exact ⟨_, _, _, _, rfl, rfl, e1, e2, h⟩
      · exact h.elim
    · exact h.elim
  · exact h.elim
theorem po_m (h : PE X e ta) : PO X (some e) (mPart ta) := by
  refine ⟨fun pins s σ H Q I hw => ?_⟩
  rw [evalPart_some]
  refine thn (h.run pins s σ H _ I hw) fun u s1 ⟨x, H1, I1, r1, q1⟩ => ?_
  cases x with
  | int i =>
    obtain ⟨t, rfl⟩ := r1
    exact ⟨some i, H1, I1, .int _ _, q1⟩
  | _ => exact q1.elim
end
section
variable {X : Cx} {a : Expr} {ta : TE} {pos : Pos}
theorem pe_mnot (ha : PE X a ta) : PE X (.UnaryOp .Not a pos) (mNotV ta) := by
  refine ⟨fun pins s σ H Q I h => ?_⟩
  refine UnaryOp_ (thn (ha.run pins s σ H _ I h) fun v s1 ⟨x, H1, I1, r1, q1⟩ => ?_)
  cases x with
  | bl c =>
    cases r1
    exact not_of (wpAny_truthy_bool ⟨.bl (!c), H1, I1, rfl, q1⟩)
  | _ => exact q1.elim
end
/-! ### defs by the head's facts -/
section
variable {P : Program} {w : World} {K : PySem.W.Frag} {mg : Str → Option Value} {base : Heap}
abbrev FnP (K : PySem.W.Frag) (x qual : Str) (st : Stmt) (f : Addr) (fd : FuncData) : Prop := FunD K x qual (defArgs st) (defBody st) (defScope st) [] [] f fd
abbrev Body (P : Program) (w : World) (K : PySem.W.Frag) (mg : Str → Option Value) (base : Heap) (k : Nat) (N : List Str) (qual : Str) (st : Stmt) (t : TS) : Prop :=
  ∀ (f : Addr) (cdv : Value) (A : Around) (outer : List Env) (s : Shared) (H : Hp) (E : XK), Room k (A.deeper (envOfC qual (defScope st) s.heap.objs.size f cdv)) →
    PSs (cxOf CX0 P w K mg base N qual (defScope st) f cdv A outer s H E).nox (defBody st) t
abbrev Pure (N : List Str) (sp : Sp) (t : TS) : Prop := ∀ (vs : List V) (H : Hp) (Q : VK) (E : XK), sp vs H Q E → t { nx := fun _ H' => Q .non H', rt := Q } (start N vs) H
abbrev Len (n : Nat) (sp : Sp) : Prop := ∀ vs H Q E, sp vs H Q E → vs.length = n
theorem fn_ok {x qual : Str} {st : Stmt} {f : Addr} {fd : FuncData} {N ps : List Str} {k : Nat} {sp : Sp} {t : TS} (F : FnP K x qual st f fd) (S : FnScope N ps (defScope st)) (len : Len ps.length sp)
    (b : Body P w K mg base k N qual st t) (p : Pure N sp t) : FnOk P w K mg base CX0 (k + 1) f fd ps sp :=
  F.ok S len fun cdv A outer s H vs Q E hr h => ⟨t, (b f cdv A outer s H E hr).nox, p vs H Q E h⟩
abbrev BindOk (x qual : Str) (st : Stmt) (ps : List Str) : Prop := ∀ (kV doc pm : Value) (an : Option Addr) (cdv ct : Value) (us : List Value), us.length = ps.length →
  bindArgs (PySem.W.fnOf x qual (defArgs st) (defBody st) (defScope st) .none kV doc pm an cdv ct) ⟨us, []⟩ = pure (ps.zip us)
theorem cal_ok {x : Str} {st : Stmt} {N ps : List Str} {k : Nat} {sp : Sp} {t : TS} (F : ∃ fd, FnP K x x st (He.ga K x) fd) (g : mg x = some (.ref (He.ga K x))) (S : FnScope N ps (defScope st)) (len : Len ps.length sp)
    (hb : BindOk x x st ps) (b : Body P w K mg base k N x st t) (p : Pure N sp t) : Cal P w K mg base (k + 1) x sp [] := by
  obtain ⟨fd, F⟩ := F
  exact ⟨_, fd, ps, [], fn_ok F S len b p, g, F.kp, F.bindsN hb, .nil⟩
theorem met_ok {x m qual : Str} {st : Stmt} {N ps : List Str} {k : Nat} {sp : Sp} {t : TS} (F : ∃ fd, FnP K m qual st (He.ma K (He.ga K x) m) fd) (c : Cls K (He.ga K x)) (me : Meth K (He.ga K x) m (He.ma K (He.ga K x) m))
    (S : FnScope N ps (defScope st)) (len : Len ps.length sp) (hb : BindOk m qual st ps) (b : Body P w K mg base k N qual st t) (p : Pure N sp t) : Met P w K mg base (k + 1) (He.ga K x) m sp [] := by
  obtain ⟨fd, F⟩ := F
  exact ⟨_, fd, ps, [], c, me, fn_ok F S len b p, F.bindsN hb, .nil⟩
theorem mak_ok {x qual : Str} {st : Stmt} {N ps : List Str} {k : Nat} {sp : Sp} {t : TS} (F : ∃ fd, FnP K "__init__" qual st (He.ma K (He.ga K x) "__init__") fd) (g : mg x = some (.ref (He.ga K x))) (M : Mk K (He.ga K x) (He.ma K (He.ga K x) "__init__"))
    (S : FnScope N ps (defScope st)) (len : Len ps.length sp) (hb : BindOk "__init__" qual st ps) (b : Body P w K mg base k N qual st t) (p : Pure N sp t) : Mak P w K mg base (k + 1) x (He.ga K x) sp [] := by
  obtain ⟨fd, F⟩ := F
  exact ⟨_, fd, ps, [], M, fn_ok F S len b p, g, F.bindsN hb, .nil⟩
end
end PB

set_option maxRecDepth 100000
set_option autoImplicit false
set_option maxHeartbeats 4000000
namespace PB
open PySem PySem.Spec PyProof.Rows L2
open C8 (tCut)
/-! ### what runs without a change of the heap -/
def pE (te : TE) (σ : L2.St) (H : Hp) (v : V) : Prop := ∀ Q : VK, Q v H → te σ H Q
def pT (tt : TT) (σ : L2.St) (H : Hp) (b : Bool) : Prop := ∀ Q : Bool → Hp → Prop, Q b H → tt σ H Q
def pA (ta : TA) (σ : L2.St) (H : Hp) (vs : List V) : Prop := ∀ Q : List V → Hp → Prop, Q vs H → ta σ H Q
def pR (r : R2) (x y : V) (H : Hp) (z : V) : Prop := ∀ Q : VK, Q z H → r x y H Q
def pC (r : R1) (xs : List V) (H : Hp) (z : V) : Prop := ∀ Q : VK, Q z H → r xs H Q
section
variable {K : PySem.W.Frag} {σ : L2.St} {H : Hp} {ta tb tc te : TE} {t u : TT} {x y z v : V} {r r' : R2} {i j : Int} {b c : Bool} {D : Ends} {s1 s2 : TS} {tl : TA} {vs : List V}
theorem p_var {i : Nat} (h : σ[i]? = some (some v)) : pE (mVar i) σ H v := fun Q q => by unfold mVar; rw [h]; exact q
theorem p_c : pE (tC v) σ H v := fun Q q => q
theorem p_op (ha : pE ta σ H x) (hb : pE tb σ H y) (hr : pR r x y H z) : pE (tOp r ta tb) σ H z := fun Q q => ha _ (hb _ (hr Q q))
theorem p_neg (ha : pE ta σ H (.int i)) : pE (tUn mNeg ta) σ H (.int (-i)) := fun Q q => ha _ q
theorem p_add : pR (mAdd K) (.int i) (.int j) H (.int (i + j)) := fun _ q => q
theorem p_sub : pR mSub (.int i) (.int j) H (.int (i - j)) := fun _ q => q
theorem p_mul (h : CMulW i j) : pR mMul (.int i) (.int j) H (.int (i * j)) := fun _ q => ⟨h, q⟩
theorem p_div (h : CDivW i j) : pR mDiv (.int i) (.int j) H (.int (i / j)) := fun _ q => ⟨h, q⟩
theorem p_mod (h : 0 < j) : pR mMod (.int i) (.int j) H (.int (i % j)) := fun _ q => ⟨h, q⟩
theorem p_lt : pR mLt (.int i) (.int j) H (.bl (decide (i < j))) := fun _ q => q
theorem p_le : pR mLe (.int i) (.int j) H (.bl (decide (i ≤ j))) := fun _ q => q
theorem p_gt : pR mGt (.int i) (.int j) H (.bl (decide (j < i))) := fun _ q => q
theorem p_ge : pR mGe (.int i) (.int j) H (.bl (decide (j ≤ i))) := fun _ q => q
theorem p_eqI : pR (mEq K) (.int i) (.int j) H (.bl (decide (i = j))) := fun _ q => q
theorem p_eqB : pR (mEq K) (.bl b) (.bl c) H (.bl (decide (b = c))) := fun _ q => q
theorem p_eqS {i j : Str} : pR (mEq K) (.str i) (.str j) H (.bl (decide (i = j))) := fun _ q => q
theorem p_eqD {a b : Addr} {d e : PyData} (hd : Dp K H (.ref a) d) (he : Dp K H (.ref b) e) (sd : SeqAt.shaped d = true) (se : SeqAt.shaped e = true) : pR (mEq K) (.ref a) (.ref b) H (.bl (PyData.eqv d e)) := fun _ q => ⟨d, e, hd, he, sd, se, q⟩
theorem p_neI : pR (mNe K) (.int i) (.int j) H (.bl (!decide (i = j))) := fun _ q => q
theorem p_neB : pR (mNe K) (.bl b) (.bl c) H (.bl (!decide (b = c))) := fun _ q => q
theorem p_neS {i j : Str} : pR (mNe K) (.str i) (.str j) H (.bl (!decide (i = j))) := fun _ q => q
theorem p_neD {a b : Addr} {d e : PyData} (hd : Dp K H (.ref a) d) (he : Dp K H (.ref b) e) (sd : SeqAt.shaped d = true) (se : SeqAt.shaped e = true) : pR (mNe K) (.ref a) (.ref b) H (.bl (!PyData.eqv d e)) := fun _ q => ⟨d, e, hd, he, sd, se, q⟩
theorem p_isN : pR mIsN x .non H (.bl (decide (x = .non))) := fun _ q => q
theorem p_notN : pR mNotN x .non H (.bl (!decide (x = .non))) := fun _ q => q
theorem p_ixL {p : Addr} {xs : List V} (h : SqL K H p xs) (e : atI xs i = some v) : pR (mIx K) (.ref p) (.int i) H v := fun _ q => ⟨xs, v, .inl h, e, q⟩
theorem p_ixT {p : Addr} {xs : List V} (h : SqT K H p xs) (e : atI xs i = some v) : pR (mIx K) (.ref p) (.int i) H v := fun _ q => ⟨xs, v, .inr h, e, q⟩
theorem p_ixH {p : Addr} {xs : List V} (h : H p = some (.lst xs)) (e : atI xs i = some v) : pR (mIx K) (.ref p) (.int i) H v := fun _ q => ⟨xs, v, .inl (SqL.of h), e, q⟩
theorem p_ixU {p : Addr} {xs : List V} (h : H p = some (.tup xs)) (e : atI xs i = some v) : pR (mIx K) (.ref p) (.int i) H v := fun _ q => ⟨xs, v, .inr (SqT.of h), e, q⟩
theorem p_chain {b c : Bool} (ha : pE ta σ H x) (hb : pE tb σ H y) (hr : pR r x y H (.bl b)) (hc : pE tc σ H z) (hr' : pR r' y z H (.bl c)) : pE (mChain r r' ta tb tc) σ H (.bl (b && c)) := fun Q q => by
  refine ha _ (hb _ (hr _ ?_))
  cases b with
  | true => exact hc _ (hr' _ q)
  | false => exact q
theorem p_andV (ha : pE ta σ H (.bl b)) (hb : b = true → pE tb σ H (.bl c)) : pE (mAndV ta tb) σ H (.bl (b && c)) := fun Q q => by
  refine ha _ ?_
  cases b with
  | true => exact hb rfl _ q
  | false => exact q
theorem p_orV (ha : pE ta σ H (.bl b)) (hb : b = false → pE tb σ H (.bl c)) : pE (mOrV ta tb) σ H (.bl (b || c)) := fun Q q => by
  refine ha _ ?_
  cases b with
  | true => exact q
  | false => exact hb rfl _ q
theorem p_fld {a C dx : Addr} {fs : List (Str × V)} {f : Str} (ha : pE ta σ H (.ref a)) (hH : H a = some (.ins C dx fs)) (hl : fs.lookup f = some v) (hc : Cls K C) (hn : NoAttr K C f) : pE (mFld K ta f) σ H v := fun Q q => by
  refine ha _ ?_
  show (match H a with | some (.ins C _ fs) => (match fs.lookup f with | some v => (Cls K C ∧ NoAttr K C f) ∧ Q v H | none => False) | _ => False)
  rw [hH]
  show (match fs.lookup f with | some v => (Cls K C ∧ NoAttr K C f) ∧ Q v H | none => False)
  rw [hl]
  exact ⟨⟨hc, hn⟩, q⟩
theorem p_dget {a : Addr} {kvs : List (Key × V)} {f : Str} (ha : pE ta σ H (.ref a)) (hb : pE tb σ H (.str f)) (hH : H a = some (.dK kvs)) (hl : valV kvs (.inr f) = some v) : pE (mDGet ta tb) σ H v := fun Q q => by
  refine ha _ (hb _ ?_)
  show (match H a with | some (.dK kvs) => (match valV kvs (.inr f) with | some v => Q v H | none => False) | _ => False)
  rw [hH]
  show (match valV kvs (.inr f) with | some v => Q v H | none => False)
  rw [hl]
  exact q
theorem p_if (hc : pT t σ H b) (h1 : b = true → pE ta σ H v) (h2 : b = false → pE tb σ H v) : pE (tIf t ta tb) σ H v := fun Q q => by
  refine hc _ ?_
  cases b with
  | true => exact h1 rfl Q q
  | false => exact h2 rfl Q q
theorem p_cb {r : R1} (ha : pA tl σ H vs) (hr : pC r vs H z) : pE (tCB r tl) σ H z := fun Q q => ha _ (hr Q q)
theorem p_nil : pA tNil σ H [] := fun Q q => q
theorem p_cons (ha : pE te σ H x) (hr : pA tl σ H vs) : pA (tCons te tl) σ H (x :: vs) := fun Q q => ha _ (hr _ q)
theorem p_abs : pC mAbs [.int i] H (.int (if i < 0 then -i else i)) := fun _ q => q
theorem p_max : pC mMax2 [.int i, .int j] H (.int (max i j)) := fun _ q => q
theorem p_min : pC mMin2 [.int i, .int j] H (.int (min i j)) := fun _ q => q
theorem p_intI : pC mInt [.int i] H (.int i) := fun _ q => q
theorem p_intB : pC mInt [.bl b] H (.int (if b then 1 else 0)) := fun _ q => q
theorem p_boolB : pC mBool [.bl b] H (.bl b) := fun _ q => q
theorem p_boolI : pC mBool [.int i] H (.bl (!decide (i = 0))) := fun _ q => q
theorem p_lenH {p : Addr} {xs : List V} (h : H p = some (.lst xs)) : pC (mLen K) [.ref p] H (.int (xs.length : Int)) := fun _ q => ⟨xs, .inl (SqL.of h), q⟩
theorem p_lenL {p : Addr} {xs : List V} (h : SqL K H p xs) : pC (mLen K) [.ref p] H (.int (xs.length : Int)) := fun _ q => ⟨xs, .inl h, q⟩
theorem p_lenT {p : Addr} {xs : List V} (h : SqT K H p xs) : pC (mLen K) [.ref p] H (.int (xs.length : Int)) := fun _ q => ⟨xs, .inr h, q⟩
theorem p_test (h : pE te σ H (.bl b)) : pT (mTest te) σ H b := fun Q q => h _ q
theorem p_truB (h : pE te σ H (.bl b)) : pT (mTru K te) σ H b := fun Q q => h _ q
theorem p_truI (h : pE te σ H (.int i)) : pT (mTru K te) σ H (!decide (i = 0)) := fun Q q => h _ q
theorem p_truN (h : pE te σ H .non) : pT (mTru K te) σ H false := fun Q q => h _ q
theorem p_and (ha : pT t σ H b) (hb : b = true → pT u σ H c) : pT (tAnd t u) σ H (b && c) := fun Q q => by
  refine ha _ ?_
  cases b with
  | true => exact hb rfl _ q
  | false => exact q
theorem p_or (ha : pT t σ H b) (hb : b = false → pT u σ H c) : pT (tOr t u) σ H (b || c) := fun Q q => by
  refine ha _ ?_
  cases b with
  | true => exact q
  | false => exact hb rfl _ q
theorem p_not (ha : pT t σ H b) : pT (tNot t) σ H (!b) := fun Q q => ha _ q
/-! ### a new object: the heap behind it is any that knows it and all that was known -/
def Ext (H H' : Hp) : Prop := ∀ a o, H a = some o → H' a = some o
theorem Ext.refl (H : Hp) : Ext H H := fun _ _ h => h
theorem Ext.trans {H H1 H2 : Hp} (a : Ext H H1) (b : Ext H1 H2) : Ext H H2 := fun x o h => b x o (a x o h)
theorem Ext.new {H : Hp} {p : Addr} {o : HO} (h : H p = none) : Ext H (upd H p o) := fun a u e => by rw [upd_ne (ne_of_none e h)]; exact e
def NewAt (H : Hp) (o : HO) (Q : VK) : Prop := ∀ p H', H p = none → H' p = some o → Ext H H' → Q (.ref p) H'
theorem NewAt.up {H : Hp} {o : HO} {Q : VK} (h : NewAt H o Q) : ∀ p, H p = none → Q (.ref p) (upd H p o) := fun p hp => h p _ hp upd_same (Ext.new hp)
theorem ext_get {H H' : Hp} {a : Addr} {o : HO} (e : Ext H H') (h : H a = some o) : H' a = some o := e a o h
theorem ext_l {K : PySem.W.Frag} {H H' : Hp} {a : Addr} {xs : List V} (e : Ext H H') (h : SqL K H a xs) : SqL K H' a xs := by
  rcases h with (h | ⟨o, h⟩) | h
  · exact .inl (.inl (e _ _ h))
  · exact .inl (.inr ⟨o, e _ _ h⟩)
  · exact .inr h
theorem ext_t {K : PySem.W.Frag} {H H' : Hp} {a : Addr} {xs : List V} (e : Ext H H') (h : SqT K H a xs) : SqT K H' a xs := by
  rcases h with (h | ⟨o, h⟩) | h
  · exact .inl (.inl (e _ _ h))
  · exact .inl (.inr ⟨o, e _ _ h⟩)
  · exact .inr h
/-! ### statements -/
theorem w_seq (h : s1 { D with nx := s2 D } σ H) : tSeq s1 s2 D σ H := h
theorem w_cut (h : s1 { D with nx := s2 D } σ H) : tCut s1 s2 D σ H := ⟨s2 D, h, fun _ _ h => h⟩
theorem w_mid (M : L2.St → Hp → Prop) (h : s1 { D with nx := M } σ H) (k : ∀ σ' H', M σ' H' → s2 D σ' H') : tCut s1 s2 D σ H := ⟨M, h, k⟩
theorem w_if (hc : pT t σ H b) (h1 : b = true → s1 D σ H) (h2 : b = false → s2 D σ H) : tIfS t s1 s2 D σ H := by
  refine hc _ ?_
  cases b with
  | true => exact h1 rfl
  | false => exact h2 rfl
theorem w_next (h : D.nx σ H) : tNext D σ H := h
theorem w_ret (h : pE te σ H v) (q : D.rt v H) : tRet te D σ H := h _ q
theorem w_retN (q : D.rt .non H) : tRetN D σ H := q
theorem w_asg {i : Nat} (h : pE te σ H v) (q : D.nx (σ.set i (some v)) H) : tAsg te (gName i) D σ H := h _ q
theorem w_asgC {i : Nat} {sp : Sp} (h : pA tl σ H vs) (q : sp vs H (fun v H' => D.nx (σ.set i (some v)) H') E0) : tAsg (mCall sp tl) (gName i) D σ H := h _ q
theorem w_retC {sp : Sp} (h : pA tl σ H vs) (q : sp vs H D.rt E0) : tRet (mCall sp tl) D σ H := h _ q
theorem w_dropC {sp : Sp} (h : pA tl σ H vs) (q : sp vs H (fun _ H' => D.nx σ H') E0) : tDrop (mCall sp tl) D σ H := h _ q
theorem w_ifC {sp : Sp} (h : pA tl σ H vs) (q : sp vs H (kTru K fun b H1 => if b = true then s1 D σ H1 else s2 D σ H1) E0) : tIfS (mTru K (mCall sp tl)) s1 s2 D σ H := h _ q
theorem p_truL {p : Addr} {xs : List V} (h : pE te σ H (.ref p)) (hx : H p = some (.lst xs)) : pT (mTru K te) σ H (!xs.isEmpty) := fun Q q => h _ ⟨_, .inl ⟨xs, SqL.of hx, rfl⟩, q⟩
theorem m_meth {C a dx : Addr} {fs : List (Str × V)} {m : Str} {sp : Sp} {Q : VK} (ha : pE ta σ H (.ref a)) (hH : H a = some (.ins C dx fs)) (hm : fs.lookup m = none) (h : pA tl σ H vs) (q : sp (.ref a :: vs) H Q E0) : mMeth C m sp ta tl σ H Q := by
  refine ha _ ?_
  show (match H a with | some (.ins D _ fs) => (D = C ∧ fs.lookup m = none) ∧ tl σ H fun vs H2 => sp (.ref a :: vs) H2 Q E0 | _ => False)
  rw [hH]
  exact ⟨⟨rfl, hm⟩, h _ q⟩
theorem w_sfld {C a dx : Addr} {fs : List (Str × V)} {f : Str} (hv : pE te σ H v) (ha : pE ta σ H (.ref a)) (hH : H a = some (.ins C dx fs)) (hc : Cls K C) (hn : NoAttr K C f) (hl : fs.length < 1000) (q : D.nx σ (upd H a (.ins C dx (putF f v fs)))) : mSFld K ta te f D σ H := by
  refine hv _ (ha _ ?_)
  show (match H a with | some (.ins C dx fs) => (Cls K C ∧ NoAttr K C f ∧ fs.length < 1000) ∧ D.nx σ (upd H a (.ins C dx (putF f v fs))) | _ => False)
  rw [hH]
  exact ⟨⟨hc, hn, hl⟩, q⟩
theorem w_fldaug {C a dx : Addr} {fs : List (Str × V)} {f : Str} {g : Int → Int → Int} (ha : pE ta σ H (.ref a)) (hH : H a = some (.ins C dx fs)) (hf : fs.lookup f = some (.int i)) (hv : pE te σ H (.int j)) (hc : Cls K C) (hn : NoAttr K C f) (hl : fs.length < 1000)
    (q : D.nx σ (upd H a (.ins C dx (putF f (.int (g i j)) fs)))) : mFldAug K ta te g f D σ H := by
  refine ha _ ?_
  simp only [hH, hf]
  refine ⟨⟨hc, hn⟩, hv _ ?_⟩
  simp only [hH]
  exact ⟨⟨trivial, hl⟩, q⟩
theorem w_aug {n : Nat} {g : Int → Int → Int} (h : σ[n]? = some (some (.int i))) (hv : pE te σ H (.int j)) (q : D.nx (σ.set n (some (.int (g i j)))) H) : mAug n te g D σ H := by
  unfold mAug
  simp only [h]
  exact hv _ q
theorem w_dput {a : Addr} {kvs : List (Key × V)} {f : Str} (hv : pE te σ H v) (ha : pE ta σ H (.ref a)) (hb : pE tb σ H (.str f)) (hH : H a = some (.dK kvs)) (hl : kvs.length < sizeLine) (q : D.nx σ (upd H a (.dK (putK kvs (.inr f) v)))) : mDPut ta tb te D σ H := by
  refine hv _ (ha _ (hb _ ?_))
  simp only [hH]
  exact ⟨hl, q⟩
theorem w_append {l : Addr} {xs : List V} (ha : pE ta σ H (.ref l)) (hH : H l = some (.lst xs)) (hv : pE te σ H v) (hl : xs.length < sizeLine) (q : D.nx σ (upd H l (.lst (xs ++ [v])))) : tDrop (mLM mAppend ta (tCons te tNil)) D σ H := by
  refine ha _ ?_
  simp only [hH]
  refine hv _ ?_
  show mAppend (.ref l) [v] H (fun _ H1 => D.nx σ H1)
  unfold mAppend
  simp only [hH]
  exact ⟨hl, q⟩
/-- a new tuple, a new list of values -/
theorem m_tup {Q : VK} (h : pA tl σ H vs) (hl : vs.length ≤ sizeLine) (q : NewAt H (.tup vs) Q) : tTup tl σ H Q := h _ ⟨hl, q.up⟩
theorem m_lst {Q : VK} (h : pA tl σ H vs) (hl : vs.length ≤ sizeLine) (q : NewAt H (.lst vs) Q) : tLst tl σ H Q := h _ ⟨hl, q.up⟩
theorem CMulW_of {i j : Int} (h : i.natAbs < 2 ^ 64) (h' : j.natAbs < 2 ^ 64) : CMulW i j := wide_mul h h' (by decide) (by decide) (by decide)
end
end PB

set_option maxRecDepth 100000
set_option autoImplicit false
set_option maxHeartbeats 4000000
namespace PB
open PySem PySem.Spec PyProof.Rows L2
open C8 (tCut Met Cal Mak)
/-! ### attributes and text keys by places: names and values as two lists -/
def setN : List V → Nat → V → List V
  | [], 0, v => [v]
  | [], _ + 1, _ => []
  | _ :: r, 0, v => v :: r
  | x :: r, i + 1, v => x :: setN r i v
theorem setN_length_le {vals : List V} {i : Nat} {v : V} : (setN vals i v).length ≤ vals.length + 1 := by
  induction vals generalizing i with
  | nil => cases i <;> simp [setN]
  | cons x r ih => cases i with
    | zero => simp [setN]
    | succ i => simp [setN]; exact ih
theorem lookup_z {f : Str} {v : V} : ∀ {names : List Str} {vals : List V} {i : Nat}, names.Nodup → names[i]? = some f → vals[i]? = some v → (names.zip vals).lookup f = some v
  | [], _, _, _, h, _ => by simp at h
  | _ :: _, [], _, _, _, h => by simp at h
  | n :: ns, x :: xs, 0, _, h, h' => by
    have e : n = f := by simpa using h
    have e' : x = v := by simpa using h'
    subst e e'
    simp [List.zip_cons_cons, List.lookup]
  | n :: ns, x :: xs, i + 1, nd, h, h' => by
    have h1 : ns[i]? = some f := by simpa using h
    have h2 : xs[i]? = some v := by simpa using h'
    have m : f ∈ ns := List.mem_of_getElem? h1
    have ne : ¬ f = n := fun e => (List.nodup_cons.mp nd).1 (e ▸ m)
    have hb : (f == n) = false := by simp [ne]
    rw [List.zip_cons_cons]
    simp only [List.lookup, hb]
    exact lookup_z (List.nodup_cons.mp nd).2 h1 h2
theorem lookup_none {m : Str} : ∀ {names : List Str} {vals : List V}, m ∉ names → (names.zip vals).lookup m = none
  | [], _, _ => by simp
  | _ :: _, [], _ => by simp
  | n :: ns, x :: xs, h => by
    have ne : ¬ m = n := fun e => h (e ▸ List.mem_cons_self ..)
    have hb : (m == n) = false := by simp [ne]
    rw [List.zip_cons_cons]
    simp only [List.lookup, hb]
    exact lookup_none fun q => h (List.mem_cons_of_mem _ q)
theorem put_z {f : Str} {v : V} : ∀ {names : List Str} {vals : List V} {i : Nat}, names.Nodup → names[i]? = some f → i ≤ vals.length → putF f v (names.zip vals) = names.zip (setN vals i v)
  | [], _, _, _, h, _ => by simp at h
  | n :: ns, [], 0, _, h, _ => by
    have e : n = f := by simpa using h
    subst e
    simp [putF, setN]
  | _ :: _, [], _ + 1, _, _, h => by simp at h
  | n :: ns, x :: xs, 0, _, h, _ => by
    have e : n = f := by simpa using h
    subst e
    simp [putF, setN, List.zip_cons_cons]
  | n :: ns, x :: xs, i + 1, nd, h, h' => by
    have h1 : ns[i]? = some f := by simpa using h
    have m : f ∈ ns := List.mem_of_getElem? h1
    have ne : ¬ n = f := fun e => (List.nodup_cons.mp nd).1 (e ▸ m)
    rw [List.zip_cons_cons]
    show (if n = f then _ else (n, x) :: putF f v (ns.zip xs)) = (n :: ns).zip (x :: setN xs i v)
    rw [if_neg ne, put_z (List.nodup_cons.mp nd).2 h1 (by simpa using h'), List.zip_cons_cons]
def dz (names : List Str) (vals : List V) : List (Key × V) := (names.zip vals).map fun p => (.inr p.1, p.2)
theorem dz_nil {names : List Str} : dz names [] = [] := by cases names <;> rfl
theorem dz_cons {n : Str} {ns : List Str} {x : V} {xs : List V} : dz (n :: ns) (x :: xs) = (.inr n, x) :: dz ns xs := rfl
theorem dz_len {names : List Str} {vals : List V} : (dz names vals).length ≤ names.length := by simp [dz]; omega
theorem valV_z {f : Str} {v : V} : ∀ {names : List Str} {vals : List V} {i : Nat}, names.Nodup → names[i]? = some f → vals[i]? = some v → valV (dz names vals) (.inr f) = some v
  | [], _, _, _, h, _ => by simp at h
  | _ :: _, [], _, _, _, h => by simp at h
  | n :: ns, x :: xs, 0, _, h, h' => by
    have e : n = f := by simpa using h
    have e' : x = v := by simpa using h'
    subst e e'
    rw [dz_cons]
    exact valV_pos rfl
  | n :: ns, x :: xs, i + 1, nd, h, h' => by
    have h1 : ns[i]? = some f := by simpa using h
    have h2 : xs[i]? = some v := by simpa using h'
    have m : f ∈ ns := List.mem_of_getElem? h1
    have ne : ¬ n = f := fun e => (List.nodup_cons.mp nd).1 (e ▸ m)
    rw [dz_cons, valV_neg (fun e => ne (Sum.inr.inj e))]
    exact valV_z (List.nodup_cons.mp nd).2 h1 h2
theorem putK_cons_ne {n f : Str} {x v : V} {r : List (Key × V)} (h : ¬ n = f) : putK ((.inr n, x) :: r) (.inr f : Key) v = (.inr n, x) :: putK r (.inr f) v := by
  have e : ¬ ((.inr n : Key) = .inr f) := fun e => h (Sum.inr.inj e)
  unfold putK
  simp only [List.any_cons, decide_eq_false e, Bool.false_or, List.map_cons, if_neg e]
  split
  · rfl
  · rfl
theorem putK_cons_eq {n : Str} {x v : V} {r : List (Key × V)} (h : ∀ p ∈ r, p.1 ≠ .inr n) : putK ((.inr n, x) :: r) (.inr n : Key) v = (.inr n, v) :: r := by
  unfold putK
  simp only [List.any_cons, decide_true, Bool.true_or, if_true, List.map_cons]
  congr 1
  refine (List.map_congr_left fun p hp => ?_).trans (List.map_id _)
  simp [if_neg (h p hp)]
theorem putK_z {f : Str} {v : V} : ∀ {names : List Str} {vals : List V} {i : Nat}, names.Nodup → names[i]? = some f → i ≤ vals.length → putK (dz names vals) (.inr f) v = dz names (setN vals i v)
  | [], _, _, _, h, _ => by simp at h
  | n :: ns, [], 0, _, h, _ => by
    have e : n = f := by simpa using h
    subst e
    rw [dz_nil]
    simp [putK, setN, dz]
  | _ :: _, [], _ + 1, _, _, h => by simp at h
  | n :: ns, x :: xs, 0, nd, h, _ => by
    have e : n = f := by simpa using h
    subst e
    rw [dz_cons]
    refine putK_cons_eq fun p hp q => ?_
    simp only [dz, List.mem_map] at hp
    obtain ⟨z, hz, rfl⟩ := hp
    have := (List.of_mem_zip hz).1
    have e2 : z.1 = n := Sum.inr.inj q
    exact (List.nodup_cons.mp nd).1 (e2 ▸ this)
  | n :: ns, x :: xs, i + 1, nd, h, h' => by
    have h1 : ns[i]? = some f := by simpa using h
    have m : f ∈ ns := List.mem_of_getElem? h1
    have ne : ¬ n = f := fun e => (List.nodup_cons.mp nd).1 (e ▸ m)
    rw [dz_cons, putK_cons_ne ne, putK_z (List.nodup_cons.mp nd).2 h1 (by simpa using h')]
    rfl
/-! ### readings -/
def oFld (C : Addr) (names : List Str) (i : Nat) (ta : TE) : TE := fun σ H Q => ta σ H fun x H1 => ∃ a dx vals v, x = .ref a ∧ H1 a = some (.ins C dx (names.zip vals)) ∧ vals[i]? = some v ∧ Q v H1
def oSet (C : Addr) (names : List Str) (i : Nat) (ta tv : TE) : TS := fun D σ H => tv σ H fun y H1 => ta σ H1 fun x H2 => ∃ a dx vals, x = .ref a ∧ H2 a = some (.ins C dx (names.zip vals)) ∧ i ≤ vals.length ∧
  D.nx σ (upd H2 a (.ins C dx (names.zip (setN vals i y))))
def oAug (C : Addr) (names : List Str) (i : Nat) (ta tv : TE) (g : Int → Int → Int) : TS := fun D σ H => ta σ H fun x H1 => ∃ a dx vals n, x = .ref a ∧ H1 a = some (.ins C dx (names.zip vals)) ∧ vals[i]? = some (.int n) ∧
  tv σ H1 fun y H2 => ∃ m dx' vals', y = .int m ∧ H2 a = some (.ins C dx' (names.zip vals')) ∧ i ≤ vals'.length ∧ D.nx σ (upd H2 a (.ins C dx' (names.zip (setN vals' i (.int (g n m))))))
def oMeth (C : Addr) (names : List Str) (sp : Sp) (ta : TE) (t : TA) : TE := fun σ H Q => ta σ H fun x H1 => ∃ a dx vals, x = .ref a ∧ H1 a = some (.ins C dx (names.zip vals)) ∧ t σ H1 fun vs H2 => sp (.ref a :: vs) H2 Q E0
def dGet (names : List Str) (i : Nat) (ta : TE) : TE := fun σ H Q => ta σ H fun x H1 => ∃ a vals v, x = .ref a ∧ H1 a = some (.dK (dz names vals)) ∧ vals[i]? = some v ∧ Q v H1
def dSet (names : List Str) (i : Nat) (ta tv : TE) : TS := fun D σ H => tv σ H fun y H1 => ta σ H1 fun x H2 => ∃ a vals, x = .ref a ∧ H2 a = some (.dK (dz names vals)) ∧ i ≤ vals.length ∧
  D.nx σ (upd H2 a (.dK (dz names (setN vals i y))))
section
variable {X : Cx} {e a b c o value : Expr} {es : List Expr} {ta tb tc tv : TE} {t : TA} {pos pos' pos2 apos cpos tpos : Pos} {x f m : Str} {C : Addr} {names : List Str} {i : Nat}
theorem pe_ofld (cl : Cls X.K C) (na : NoAttr X.K C f) (nd : names.Nodup) (hi : names[i]? = some f) (ha : PE X a ta) (hb : attributeBase a f X.env (eval a X.env) = eval a X.env) : PE X (.Attribute a f pos) (oFld C names i ta) := by
  refine ⟨fun pins s σ H Q I h => ?_⟩
  refine attr_of hb (thn (ha.run pins s σ H _ I h) fun u s1 ⟨x, H1, I1, rx, p, dx, vals, v, e, ea, hv, q⟩ => ?_)
  subst e
  obtain rfl : u = Value.ref p := rx
  exact getattr_ok I1 ea cl na (lookup_z nd hi hv) fun u' s2 I2 ru => ⟨v, H1, I2, ru, q⟩
theorem ps_oset (cl : Cls X.K C) (na : NoAttr X.K C f) (nd : names.Nodup) (hi : names[i]? = some f) (hl : names.length < 1000) (ha : PE X o ta) (hv : PE X value tv) (hs : swapsWith value (some (.Attribute o f pos')) pos.line X.env = pure false) :
    PS X (.Assign [.Attribute o f pos'] value pos) (oSet C names i ta tv) := by
  refine ⟨fun pins s σ H D I h => ?_⟩
  refine plainObj_wpAny_Assign_Attribute (thn (hv.run pins s σ H _ I h) fun u s1 ⟨y, H1, I1, ry, q⟩ => thn (ha.run pins s1 σ H1 _ I1 q) fun ov s2 ⟨x, H2, I2, rx, p, dx, vals, e, ea, hle, q2⟩ => ?_) hs
  subst e
  obtain rfl : ov = Value.ref p := rx
  refine setattr_ok I2 ea cl na (by simp; omega) ry fun s3 I3 => ⟨σ, _, I3, ?_⟩
  rw [put_z nd hi hle]
  exact q2
theorem ps_oaug {op : Operator} {g : Int → Int → Int} (h : InOp X op (fun x y H Q => ∃ i j, x = .int i ∧ y = .int j ∧ Q (.int (g i j)) H)) (cl : Cls X.K C) (na : NoAttr X.K C f) (nd : names.Nodup) (hi : names[i]? = some f) (hl : names.length < 1000)
    (ha : PE X o ta) (hv : PE X value tv) : PS X (.AugAssign (.Attribute o f tpos) op value pos) (oAug C names i ta tv g) := by
  refine ⟨fun pins s σ H D I h' => ?_⟩
  refine wpAny_AugAssign_AttributeAny (thn (ha.run pins s σ H _ I h') fun ov s1 ⟨x, H1, I1, rx, p, dx, vals, n, e, ea, hn, q⟩ => ?_)
  subst e
  obtain rfl : ov = Value.ref p := rx
  refine getattr_ok I1 ea cl na (lookup_z nd hi hn) fun u s2 I2 ru => thn (hv.run pins s2 σ H1 _ I2 q) fun w3 s3 ⟨y, H2, I3, ry, k, dx', vals', e2, ea', hle, q3⟩ => ?_
  subst e2
  refine thn (h pins s3 σ H2 _ _ u w3 (fun z H3 => z = .int (g n k) ∧ H3 = H2) I3 ru ry ⟨_, _, rfl, rfl, rfl, rfl⟩) fun w4 s4 ⟨z, H3, I4, rz, e1, e2⟩ => ?_
  subst e1 e2
  refine setattr_ok I4 ea' cl na (by simp; omega) rz fun s5 I5 => ⟨σ, _, I5, ?_⟩
  rw [put_z nd hi hle]
  exact q3
theorem nest {α : Prop} (h : α) : α := h
theorem pe_omt {sp : Sp} {j k : Nat} {pl : Sem Bool} (c : Met X.prog X.w X.K X.mg X.base k C m sp []) (hr : Room j X.A) (hk : k ≤ j) (hno : m ∉ names) (he : PE X o ta) (ha : PA X (e :: es) t)
    (hst : starEach (e :: es) X.env = (false, eval e X.env) :: starEach es X.env := by rfl) (hpl : (backTo pos (starEach es X.env)).any (·.1) = false := by rfl)
    (ht : eval (.Call (.Attribute o m apos) (e :: es) [] pos) X.env = (do
      let ov ← eval o X.env
      standAt apos.atName
      let (f, first) ← holding [ov] (getMethod ov m pl)
      callWith pos f first (backTo pos (starEach (e :: es) X.env)) (backToKw pos (keywordEach [] X.env))) := by rfl) :
    PE X (.Call (.Attribute o m apos) (e :: es) [] pos) (oMeth C names sp ta t) := by
  obtain ⟨g, fd, ps, ds, hc, hm, F, b, d⟩ := c.ex
  refine ⟨fun pins s σ H Q I h => ?_⟩
  refine PySem.W.methodCall_KW (pl := pl) (thn (he.run pins s σ H _ I h) fun u s1 ⟨x, H1, I1, rx, p, dx, vals, ex, ea, q⟩ => ?_) ht
  subst ex
  obtain rfl : u = Value.ref p := rx
  refine getmeth_ok I1 ea hc hm (lookup_none hno) ?_
  refine PySem.W.callWith_K (first := [.ref p]) (h₀ := X.base) I.ok.mod.kin hm.kp (thn (ha.run pos pins s1 σ H1 _ I1 q) fun us s2 ⟨vs, H2, I2, r, q2⟩ => ⟨I2.kIn, ?_⟩) hst hpl
  refine run_fn (E := L2.E0) (us := .ref p :: us) (vs := .ref p :: vs) F (hr.mono hk) b d pass0 I2 (.cons rfl r) ?_
  rw [List.append_nil]
  exact q2
theorem pe_omt0 {sp : Sp} {j k : Nat} {pl : Sem Bool} (c : Met X.prog X.w X.K X.mg X.base k C m sp []) (hr : Room j X.A) (hk : k ≤ j) (hno : m ∉ names) (he : PE X o ta)
    (ht : eval (.Call (.Attribute o m apos) [] [] pos) X.env = (do
      let ov ← eval o X.env
      standAt apos.atName
      let (f, first) ← holding [ov] (getMethod ov m pl)
      callWith pos f first (backTo pos (starEach [] X.env)) (backToKw pos (keywordEach [] X.env))) := by rfl) :
    PE X (.Call (.Attribute o m apos) [] [] pos) (oMeth C names sp ta tNil) := by
  obtain ⟨g, fd, ps, ds, hc, hm, F, b, d⟩ := c.ex
  refine ⟨fun pins s σ H Q I h => ?_⟩
  refine PySem.W.methodCall_KW (pl := pl) (thn (he.run pins s σ H _ I h) fun u s1 ⟨x, H1, I1, rx, p, dx, vals, ex, ea, q⟩ => ?_) ht
  subst ex
  obtain rfl : u = Value.ref p := rx
  refine getmeth_ok I1 ea hc hm (lookup_none hno) ?_
  refine PySem.W.callWith_K0 (first := [.ref p]) I1.kIn hm.kp (run_fn (E := L2.E0) (us := [.ref p]) (vs := [.ref p]) F (hr.mono hk) b d pass0 I1 (.cons rfl .nil) ?_)
  exact q
theorem pe_dgetz (hu : X.A.units + 1 < cLine) (nd : names.Nodup) (hi : names[i]? = some x) (ho : PE X o ta) (hs : NoSl (.Constant (.str x) 0 pos2)) : PE X (.Subscript o (.Constant (.str x) 0 pos2) pos) (dGet names i ta) := by
  refine ⟨fun pins s σ H Q I h => ?_⟩
  refine subD_of PySem.F.slot_dict_getitem.lookup hs (thn (ho.run pins s σ H _ I h) fun u s1 ⟨z, H1, I1, rx, p, vals, v, e, ea, hv, q⟩ => thn ((pe_str (X := X) (x := x)).run pins s1 σ H1 (fun y H2 => y = .str x ∧ H2 = H1) I1 ⟨rfl, rfl⟩) fun iv s2 ⟨y, H2, I2, ry, e2, e3⟩ => ?_)
  subst e e2 e3
  obtain rfl : u = Value.ref p := rx
  have g : DGet H2 p (.str x) (some v) := by rw [← valV_z nd hi hv]; exact DGet.k (k := Sum.inr x) ea
  exact ⟨dict_typeIs I2 g, d_getItem hu I2 g ry fun w' s3 I3 rw' => ⟨v, H2, I3, rw', q⟩⟩
theorem ps_dsetz (hu : X.A.units + 1 < cLine) (nd : names.Nodup) (hi : names[i]? = some x) (hl : names.length < sizeLine) (ho : PE X o ta) (hv : PE X value tv)
    (hs : swapsWith value (some (.Subscript o (.Constant (.str x) 0 pos2) pos')) pos.line X.env = pure false) : PS X (.Assign [.Subscript o (.Constant (.str x) 0 pos2) pos'] value pos) (dSet names i ta tv) := by
  refine ⟨fun pins s σ H D I h => ?_⟩
  refine wpAny_Assign_Subscript (thn (hv.run pins s σ H _ I h) fun r s1 ⟨v, H1, I1, rv, q1⟩ => thn (ho.run pins s1 σ H1 _ I1 q1) fun u s2 ⟨z, H2, I2, rx, p, vals, e, ea, hle, q⟩ =>
    thn ((pe_str (X := X) (x := x)).run pins s2 σ H2 (fun y H3 => y = .str x ∧ H3 = H2) I2 ⟨rfl, rfl⟩) fun iv s3 ⟨y, H3, I3, ry, e2, e3⟩ => ?_) hs
  subst e e2 e3
  obtain rfl : u = Value.ref p := rx
  refine d_setItem hu I3 (DPut.k (k := Sum.inr x) ea (Nat.lt_of_le_of_lt dz_len hl)) ry rv fun s4 I4 => ⟨σ, _, I4, ?_⟩
  rw [putK_z nd hi hle]
  exact q
end
/-! ### their use -/
section
variable {K : PySem.W.Frag} {σ : L2.St} {H : Hp} {ta tb tc te : TE} {x y z v : V} {D : Ends} {tl : TA} {vs : List V} {C p dx : Addr} {names : List Str} {vals : List V} {i : Nat}
theorem p_ofld (ha : pE ta σ H (.ref p)) (hH : H p = some (.ins C dx (names.zip vals))) (hv : vals[i]? = some v) : pE (oFld C names i ta) σ H v := fun Q q => ha _ ⟨p, dx, vals, v, rfl, hH, hv, q⟩
theorem w_oset (hv : pE te σ H v) (ha : pE ta σ H (.ref p)) (hH : H p = some (.ins C dx (names.zip vals))) (hi : i ≤ vals.length) (q : D.nx σ (upd H p (.ins C dx (names.zip (setN vals i v))))) : oSet C names i ta te D σ H :=
  hv _ (ha _ ⟨p, dx, vals, rfl, hH, hi, q⟩)
/-- the object was stored last -/
theorem w_oset2 {H0 : Hp} (hv : pE te σ (upd H0 p (.ins C dx (names.zip vals))) v) (ha : pE ta σ (upd H0 p (.ins C dx (names.zip vals))) (.ref p)) (hi : i ≤ vals.length) (q : D.nx σ (upd H0 p (.ins C dx (names.zip (setN vals i v))))) :
    oSet C names i ta te D σ (upd H0 p (.ins C dx (names.zip vals))) := hv _ (ha _ ⟨p, dx, vals, rfl, upd_same, hi, by rw [upd_upd]; exact q⟩)
theorem w_oaug {g : Int → Int → Int} {n m : Int} (ha : pE ta σ H (.ref p)) (hH : H p = some (.ins C dx (names.zip vals))) (hn : vals[i]? = some (.int n)) (hv : pE te σ H (.int m)) (q : D.nx σ (upd H p (.ins C dx (names.zip (setN vals i (.int (g n m))))))) : oAug C names i ta te g D σ H :=
  ha _ ⟨p, dx, vals, n, rfl, hH, hn, hv _ ⟨m, dx, vals, rfl, hH, Nat.le_of_lt (List.getElem?_eq_some_iff.mp hn).1, q⟩⟩
theorem w_oaug2 {H0 : Hp} {g : Int → Int → Int} {n m : Int} (ha : pE ta σ (upd H0 p (.ins C dx (names.zip vals))) (.ref p)) (hn : vals[i]? = some (.int n)) (hv : pE te σ (upd H0 p (.ins C dx (names.zip vals))) (.int m))
    (q : D.nx σ (upd H0 p (.ins C dx (names.zip (setN vals i (.int (g n m))))))) : oAug C names i ta te g D σ (upd H0 p (.ins C dx (names.zip vals))) :=
  ha _ ⟨p, dx, vals, n, rfl, upd_same, hn, hv _ ⟨m, dx, vals, rfl, upd_same, Nat.le_of_lt (List.getElem?_eq_some_iff.mp hn).1, by rw [upd_upd]; exact q⟩⟩
theorem m_ometh {sp : Sp} {Q : VK} (ha : pE ta σ H (.ref p)) (hH : H p = some (.ins C dx (names.zip vals))) (h : pA tl σ H vs) (q : sp (.ref p :: vs) H Q E0) : oMeth C names sp ta tl σ H Q := ha _ ⟨p, dx, vals, rfl, hH, h _ q⟩
theorem p_dgetz (ha : pE ta σ H (.ref p)) (hH : H p = some (.dK (dz names vals))) (hv : vals[i]? = some v) : pE (dGet names i ta) σ H v := fun Q q => ha _ ⟨p, vals, v, rfl, hH, hv, q⟩
theorem w_dset (hv : pE te σ H v) (ha : pE ta σ H (.ref p)) (hH : H p = some (.dK (dz names vals))) (hi : i ≤ vals.length) (q : D.nx σ (upd H p (.dK (dz names (setN vals i v))))) : dSet names i ta te D σ H :=
  hv _ (ha _ ⟨p, vals, rfl, hH, hi, q⟩)
theorem w_dset2 {H0 : Hp} (hv : pE te σ (upd H0 p (.dK (dz names vals))) v) (ha : pE ta σ (upd H0 p (.dK (dz names vals))) (.ref p)) (hi : i ≤ vals.length) (q : D.nx σ (upd H0 p (.dK (dz names (setN vals i v))))) :
    dSet names i ta te D σ (upd H0 p (.dK (dz names vals))) := hv _ (ha _ ⟨p, vals, rfl, upd_same, hi, by rw [upd_upd]; exact q⟩)
theorem w_retM {C' : Addr} {sp : Sp} (ha : pE ta σ H (.ref p)) (hH : H p = some (.ins C' dx (names.zip vals))) (h : pA tl σ H vs) (q : sp (.ref p :: vs) H D.rt E0) : tRet (oMeth C' names sp ta tl) D σ H := m_ometh ha hH h q
theorem w_asgM {C' : Addr} {sp : Sp} {n : Nat} (ha : pE ta σ H (.ref p)) (hH : H p = some (.ins C' dx (names.zip vals))) (h : pA tl σ H vs) (q : sp (.ref p :: vs) H (fun v H' => D.nx (σ.set n (some v)) H') E0) : tAsg (oMeth C' names sp ta tl) (gName n) D σ H := m_ometh ha hH h q
theorem w_dropM {C' : Addr} {sp : Sp} (ha : pE ta σ H (.ref p)) (hH : H p = some (.ins C' dx (names.zip vals))) (h : pA tl σ H vs) (q : sp (.ref p :: vs) H (fun _ H' => D.nx σ H') E0) : tDrop (oMeth C' names sp ta tl) D σ H := m_ometh ha hH h q
theorem w_retT (h : pA tl σ H vs) (hl : vs.length ≤ sizeLine) (q : NewAt H (.tup vs) D.rt) : tRet (tTup tl) D σ H := m_tup h hl q
theorem w_retL (h : pA tl σ H vs) (hl : vs.length ≤ sizeLine) (q : NewAt H (.lst vs) D.rt) : tRet (tLst tl) D σ H := m_lst h hl q
theorem w_asgL {n : Nat} (h : pA tl σ H vs) (hl : vs.length ≤ sizeLine) (q : NewAt H (.lst vs) fun v H1 => D.nx (σ.set n (some v)) H1) : tAsg (tLst tl) (gName n) D σ H := m_lst h hl q
theorem w_asgT {n : Nat} (h : pA tl σ H vs) (hl : vs.length ≤ sizeLine) (q : NewAt H (.tup vs) fun v H1 => D.nx (σ.set n (some v)) H1) : tAsg (tTup tl) (gName n) D σ H := m_tup h hl q
theorem get_ne {H : Hp} {a b : Addr} {o : HO} {r : Option HO} (h : b ≠ a) (q : H b = r) : upd H a o b = r := by rw [upd_ne h]; exact q
end
end PB
namespace PB
open PySem PySem.Spec PyProof.Rows L2
theorem sz_lt {n : Nat} (h : n < 10000000) : n < sizeLine := Nat.lt_of_lt_of_le h (by decide)
theorem szle {n : Nat} (h : Nat.ble n 1000 = true) : n ≤ sizeLine := Nat.le_trans (Nat.le_of_ble_eq_true h) (by decide)
def pSp (sp : Sp) (vs : List V) (H : Hp) (v : V) : Prop := ∀ Q : VK, Q v H → sp vs H Q E0
theorem p_call {sp : Sp} {tl : TA} {σ : L2.St} {H : Hp} {vs : List V} {v : V} (ha : pA tl σ H vs) (h : pSp sp vs H v) : pE (mCall sp tl) σ H v := fun Q q => ha _ (h Q q)
end PB

namespace PB
open PySem PySem.Spec PyProof.Rows L2
open C8 (tCut)
/-! ### what makes objects on its way: from the left, with what follows -/
section
variable {K : PySem.W.Frag} {σ : L2.St} {H : Hp} {ta tb tc te : TE} {t u : TT} {x y z v : V} {r r' : R2} {i j : Int} {b c : Bool} {D : Ends} {s1 s2 : TS} {tl : TA} {vs : List V} {Q : VK} {QA : List V → Hp → Prop} {QT : Bool → Hp → Prop} {C p dx : Addr} {names : List Str} {vals xs ys : List V}
theorem k_pure (h : pE te σ H v) (q : Q v H) : te σ H Q := h _ q
theorem k_pureA (h : pA tl σ H vs) (q : QA vs H) : tl σ H QA := h _ q
theorem k_pureT (h : pT t σ H b) (q : QT b H) : t σ H QT := h _ q
theorem k_op (h : ta σ H fun x H1 => tb σ H1 fun y H2 => r x y H2 Q) : tOp r ta tb σ H Q := h
theorem k_cb {r : R1} (h : tl σ H fun vs H1 => r vs H1 Q) : tCB r tl σ H Q := h
theorem k_nil (h : QA [] H) : tNil σ H QA := h
theorem k_consP (h : pE te σ H x) (q : tl σ H fun xs H2 => QA (x :: xs) H2) : tCons te tl σ H QA := h _ q
theorem k_cons (h : te σ H fun x H1 => tl σ H1 fun xs H2 => QA (x :: xs) H2) : tCons te tl σ H QA := h
theorem k_tupP (h : pA tl σ H vs) (hl : vs.length ≤ sizeLine) (q : NewAt H (.tup vs) Q) : tTup tl σ H Q := h _ ⟨hl, q.up⟩
def kNewT (Q : VK) : List V → Hp → Prop := fun vs H1 => vs.length ≤ sizeLine ∧ ∀ p, H1 p = none → Q (.ref p) (upd H1 p (.tup vs))
def kNewL (Q : VK) : List V → Hp → Prop := fun vs H1 => vs.length ≤ sizeLine ∧ ∀ p, H1 p = none → Q (.ref p) (upd H1 p (.lst vs))
theorem k_newT (hl : vs.length ≤ sizeLine) (q : NewAt H (.tup vs) Q) : kNewT Q vs H := ⟨hl, q.up⟩
theorem k_newL (hl : vs.length ≤ sizeLine) (q : NewAt H (.lst vs) Q) : kNewL Q vs H := ⟨hl, q.up⟩
theorem k_tup (h : tl σ H (kNewT Q)) : tTup tl σ H Q := h
theorem k_lstP (h : pA tl σ H vs) (hl : vs.length ≤ sizeLine) (q : NewAt H (.lst vs) Q) : tLst tl σ H Q := h _ ⟨hl, q.up⟩
theorem k_lst (h : tl σ H (kNewL Q)) : tLst tl σ H Q := h
theorem k_call {sp : Sp} (h : pA tl σ H vs) (q : sp vs H Q E0) : mCall sp tl σ H Q := h _ q
theorem k_callK {sp : Sp} (h : tl σ H fun vs H1 => sp vs H1 Q E0) : mCall sp tl σ H Q := h
theorem k_meth {sp : Sp} (ha : pE ta σ H (.ref p)) (hH : H p = some (.ins C dx (names.zip vals))) (h : pA tl σ H vs) (q : sp (.ref p :: vs) H Q E0) : oMeth C names sp ta tl σ H Q := m_ometh ha hH h q
theorem k_tupleOf (hx : H p = some (.lst xs)) (q : NewAt H (.tup xs) Q) : mTup K [.ref p] H Q := ⟨xs, .inl ⟨SqL.of hx, q.up⟩⟩
theorem k_listOf (hx : H p = some (.lst xs)) (q : NewAt H (.lst xs) Q) : mList K [.ref p] H Q := ⟨xs, .inl (SqL.of hx), q.up⟩
theorem k_listOfL (hx : SqL K H p xs) (q : NewAt H (.lst xs) Q) : mList K [.ref p] H Q := ⟨xs, .inl hx, q.up⟩
theorem k_cat {a b : Addr} (hx : H a = some (.lst xs)) (hy : H b = some (.lst ys)) (hl : xs.length + ys.length ≤ sizeLine) (q : NewAt H (.lst (xs ++ ys)) Q) : mAdd K (.ref a) (.ref b) H Q := .inl ⟨a, b, xs, ys, rfl, rfl, hx, hy, hl, q.up⟩
theorem k_slP {hi lo : TO} (h : pE te σ H v) (q : lo σ H fun l H2 => hi σ H2 fun u H3 => mSl K v l u H3 Q) : tSl (mSl K) te lo hi σ H Q := h _ q
theorem k_part {R : Option Int → Hp → Prop} (h : pE te σ H (.int i)) (q : R (some i) H) : mPart te σ H R := h _ q
theorem k_noPart {R : Option Int → Hp → Prop} (q : R none H) : tNoPart σ H R := q
theorem k_slL {a : Addr} {lo hi : Option Int} (hx : H a = some (.lst xs)) (q : NewAt H (.lst (cutV xs lo hi)) Q) : mSl K (.ref a) lo hi H Q := .inl ⟨a, xs, rfl, SqL.of hx, q.up⟩
theorem k_slLs {a : Addr} {lo hi : Option Int} (hx : SqL K H a xs) (q : NewAt H (.lst (cutV xs lo hi)) Q) : mSl K (.ref a) lo hi H Q := .inl ⟨a, xs, rfl, hx, q.up⟩
theorem w_asgK {n : Nat} (h : te σ H fun v H1 => D.nx (σ.set n (some v)) H1) : tAsg te (gName n) D σ H := h
theorem w_retK (h : te σ H D.rt) : tRet te D σ H := h
theorem w_dropK (h : te σ H fun _ H1 => D.nx σ H1) : tDrop te D σ H := h
theorem w_osetK {n : Nat} (h : te σ H fun v H1 => oSet C names n ta (tC v) D σ H1) : oSet C names n ta te D σ H := h
theorem w_dsetK {n : Nat} (h : te σ H fun v H1 => dSet names n ta (tC v) D σ H1) : dSet names n ta te D σ H := h
theorem w_appendT {l : Addr} (ha : pE ta σ H (.ref l)) (hH : H l = some (.lst xs)) (hv : pA tl σ H vs) (hs : vs.length ≤ sizeLine) (hl : xs.length < sizeLine) (q : NewAt H (.tup vs) fun v H1 => D.nx σ (upd H1 l (.lst (xs ++ [v])))) : tDrop (mLM mAppend ta (tCons (tTup tl) tNil)) D σ H := by
  refine ha _ ?_
  simp only [hH]
  refine hv _ ⟨hs, fun p hp => ?_⟩
  show mAppend (.ref l) [.ref p] (upd H p (.tup vs)) (fun _ H1 => D.nx σ H1)
  unfold mAppend
  simp only [upd_ne (ne_of_none hH hp), hH]
  exact ⟨hl, q.up p hp⟩
theorem k_testK {t : TE} (h : t σ H (kTest QT)) : mTest t σ H QT := h
theorem k_kTest (h : QT b H) : kTest QT (.bl b) H := h
theorem k_kTru (h : QT b H) : kTru K QT (.bl b) H := h
theorem k_kTruI (h : QT (!decide (i = 0)) H) : kTru K QT (.int i) H := h
theorem k_kTruN (h : QT false H) : kTru K QT .non H := h
def kIf (s1 s2 : TS) (D : Ends) (σ : L2.St) : Bool → Hp → Prop := fun b H1 => if b = true then s1 D σ H1 else s2 D σ H1
theorem w_ifK (h : t σ H (kIf s1 s2 D σ)) : tIfS t s1 s2 D σ H := h
theorem k_kIf (h1 : b = true → s1 D σ H) (h2 : b = false → s2 D σ H) : kIf s1 s2 D σ b H := by
  unfold kIf
  cases b with
  | true => exact h1 rfl
  | false => exact h2 rfl
theorem inV_ints {i : Int} : ∀ ns : List Int, inV (.int i) (ns.map V.int) = decide (i ∈ ns)
  | [] => by simp [inV]
  | n :: ns => by
    have ih := inV_ints (i := i) ns
    simp only [inV, List.map_cons, List.any_cons] at ih ⊢
    rw [ih]
    have e : eqV (.int n) (.int i) = decide (i = n) := by
      show (n == i) = decide (i = n)
      by_cases h : i = n
      · subst h; simp
      · have h' : ¬ n = i := fun z => h z.symm
        simp [h, h']
    rw [e]
    simp [List.mem_cons, Bool.decide_or]
theorem flat_ints : ∀ ns : List Int, (ns.map V.int).all flatV = true
  | [] => rfl
  | n :: ns => by simp [flatV]
def intsL : List V → List Int
  | [] => []
  | .int i :: r => i :: intsL r
  | _ :: r => 0 :: intsL r
theorem intsL_map : ∀ ns : List Int, intsL (ns.map V.int) = ns
  | [] => rfl
  | n :: ns => congrArg (n :: ·) (intsL_map ns)
theorem k_inU (hx : H p = some (.tup xs)) (e : (intsL xs).map V.int = xs) (q : Q (.bl (decide (i ∈ intsL xs))) H) : mIn K (.int i) (.ref p) H Q := .inl ⟨p, _, rfl, .inr (SqT.of hx), rfl, e ▸ flat_ints _, by rw [← e, inV_ints]; exact q⟩
theorem k_inL (hx : H p = some (.lst xs)) (e : (intsL xs).map V.int = xs) (q : Q (.bl (decide (i ∈ intsL xs))) H) : mIn K (.int i) (.ref p) H Q := .inl ⟨p, _, rfl, .inl (SqL.of hx), rfl, e ▸ flat_ints _, by rw [← e, inV_ints]; exact q⟩
theorem k_notInL (hx : H p = some (.lst xs)) (e : (intsL xs).map V.int = xs) (q : Q (.bl (!decide (i ∈ intsL xs))) H) : mNotIn K (.int i) (.ref p) H Q := .inl ⟨p, _, rfl, .inl (SqL.of hx), rfl, e ▸ flat_ints _, by rw [← e, inV_ints]; exact q⟩
theorem p_inL {ns : List Int} (hx : H p = some (.lst (ns.map V.int))) : pR (mIn K) (.int i) (.ref p) H (.bl (decide (i ∈ ns))) := fun _ q => k_inL hx (by rw [intsL_map]) (by rw [intsL_map]; exact q)
theorem p_notInL {ns : List Int} (hx : H p = some (.lst (ns.map V.int))) : pR (mNotIn K) (.int i) (.ref p) H (.bl (!decide (i ∈ ns))) := fun _ q => k_notInL hx (by rw [intsL_map]) (by rw [intsL_map]; exact q)
theorem k_truK {t : TE} (h : t σ H (kTru K QT)) : mTru K t σ H QT := h
end
end PB
namespace PB
open PySem PySem.Spec PyProof.Rows L2
theorem ne_fresh {H : Hp} {a b : Addr} {o : HO} (h' : H b = none) (h : H a = some o) : a ≠ b := ne_of_none h h'
end PB

set_option maxRecDepth 100000
set_option autoImplicit false
set_option maxHeartbeats 4000000
namespace PB
open PySem PySem.Spec PyProof.Rows L2
theorem sz_le {n : Nat} (h : n ≤ 10000000) : n ≤ sizeLine := Nat.le_trans h (by decide)
/-! ### slices by places that are not negative -/
theorem sIx_some {n d : Nat} {i : Int} (h : 0 ≤ i) : HT.sIx n d (some i) = min i.toNat n := by
  show (if i < 0 then (i + (n : Int)).toNat else min i.toNat n) = min i.toNat n
  rw [if_neg (by omega)]
theorem cut_all {xs : List V} : cutV xs none none = xs := by
  unfold cutV
  simp [HT.sIx_none]
theorem cut_to {xs : List V} {i : Int} (h : 0 ≤ i) : cutV xs none (some i) = xs.take i.toNat := by
  unfold cutV
  rw [HT.sIx_none, sIx_some h, List.drop_zero, Nat.sub_zero, List.take_eq_take_iff]
  omega
theorem cut_from {xs : List V} {i : Int} (h : 0 ≤ i) : cutV xs (some i) none = xs.drop i.toNat := by
  unfold cutV
  rw [HT.sIx_none, sIx_some h]
  by_cases c : i.toNat ≤ xs.length
  · rw [Nat.min_eq_left c, List.take_of_length_le (by rw [List.length_drop]; omega)]
  · have e : min i.toNat xs.length = xs.length := by omega
    rw [e, List.drop_length, List.drop_eq_nil_of_le (by omega)]
    simp
theorem cut_mid {xs : List V} {i j : Int} (h : 0 ≤ i) (h' : 0 ≤ j) : cutV xs (some i) (some j) = (xs.drop i.toNat).take (j.toNat - i.toNat) := by
  unfold cutV
  rw [sIx_some h, sIx_some h']
  by_cases c : i.toNat ≤ xs.length
  · rw [Nat.min_eq_left c, List.take_eq_take_iff, List.length_drop]
    omega
  · have e : min i.toNat xs.length = xs.length := by omega
    rw [e, List.drop_length, List.drop_eq_nil_of_le (by omega)]
    simp
/-! ### or, and with a part that makes objects -/
section
variable {K : PySem.W.Frag} {σ : L2.St} {H : Hp} {ta tb tc te tl : TE} {t u tt : TT} {b c : Bool} {QT : Bool → Hp → Prop} {Q : VK} {g : TG} {vs : List Nat} {D : Ends} {tb' : TS}
theorem k_orP (ha : pT t σ H b) (h1 : b = true → QT true H) (h2 : b = false → u σ H QT) : tOr t u σ H QT := by
  refine ha _ ?_
  cases b with
  | true => exact h1 rfl
  | false => exact h2 rfl
theorem k_andP (ha : pT t σ H b) (h1 : b = true → u σ H QT) (h2 : b = false → QT false H) : tAnd t u σ H QT := by
  refine ha _ ?_
  cases b with
  | true => exact h1 rfl
  | false => exact h2 rfl
theorem k_not (h : t σ H fun k H1 => QT (!k) H1) : tNot t σ H QT := h
/-! ### comprehensions over a list, whose test and element only look -/
def kLc (K : PySem.W.Frag) (g : TG) (tt : TT) (te : TE) (vs : List Nat) (σ : L2.St) (Q : VK) : VK := fun x H1 => ∃ a, x = .ref a ∧ (∃ xs, SqL K H1 a xs) ∧ ∀ D, H1 D = none → ∃ W : Nat → Nat → Hp → Prop, (∃ m, W 0 m (upd H1 D (.lst []))) ∧ ∀ i m H, W i m H →
  ((Itl K a).stop i H ∧ Q (.ref D) H) ∨ ((Itl K a).go i H ∧ ∃ Nx : Hp → Prop, (∀ H', Nx H' → ∃ m', m' < m ∧ W (i + 1) m' H') ∧ ∀ x H', (Itl K a).yld i H x H' → g x (wipe σ vs) H' fun σ2 H2 => wipe σ2 vs = wipe σ vs ∧ tt σ2 H2 fun b H3 =>
    if b = true then te σ2 H3 fun y H4 => ∃ acc, H4 D = some (.lst acc) ∧ acc.length < sizeLine ∧ Nx (upd H4 D (.lst (acc ++ [y]))) else Nx H3)
theorem k_lc (h : tl σ H (kLc K g tt te vs σ Q)) : tLc (iList K tl) g tt te vs σ H Q := h
/-- test b x, element f x: of the item alone -/
theorem k_lcP {a : Addr} {xs : List V} {i : Nat} (p : V → Bool) (f : V → V) (hx : SqL K H a xs) (hl : xs.length ≤ sizeLine) (hw : ∀ x, wipe ((wipe σ vs).set i (some x)) vs = wipe σ vs)
    (ht : ∀ x ∈ xs, ∀ D acc, H D = none → pT tt ((wipe σ vs).set i (some x)) (upd H D (.lst acc)) (p x))
    (he : ∀ x ∈ xs, p x = true → ∀ D acc, H D = none → pE te ((wipe σ vs).set i (some x)) (upd H D (.lst acc)) (f x))
    (q : NewAt H (.lst ((xs.filter p).map f)) Q) : kLc K (gName i) tt te vs σ Q (.ref a) H := by
  refine ⟨a, rfl, ⟨xs, hx⟩, fun D hD => ?_⟩
  have keep : ∀ acc, SqL K (upd H D (.lst acc)) a xs := fun acc => by
    rcases hx with (h | ⟨o, h⟩) | h
    · exact .inl (.inl (by rw [upd_ne (ne_of_none h hD)]; exact h))
    · exact .inl (.inr ⟨o, by rw [upd_ne (ne_of_none h hD)]; exact h⟩)
    · exact .inr h
  refine lc_list (K := K) (a := a) (xs := xs) (fun n H' => H' = upd H D (.lst (((xs.take n).filter p).map f))) (by simp) (fun n H' _ e => by rw [e]; exact keep _) ?_ ?_
  · intro n x H' hn e
    subst e
    have hm : x ∈ xs := List.mem_of_getElem? hn
    have ht' : xs.take (n + 1) = xs.take n ++ [x] := by rw [List.take_add_one, hn]; rfl
    refine ⟨hw x, ht x hm D _ hD _ ?_⟩
    cases hp : p x with
    | false =>
      rw [if_neg (by simp), ht', List.filter_append]
      simp [hp]
    | true =>
      rw [if_pos rfl]
      refine he x hm hp D _ hD _ ⟨_, upd_same, ?_, ?_⟩
      · rw [List.length_map]
        have h1 : ((xs.take n).filter p).length ≤ (xs.take n).length := List.length_filter_le ..
        have h2 : n < xs.length := (List.getElem?_eq_some_iff.mp hn).1
        rw [List.length_take] at h1
        omega
      · rw [upd_upd, ht', List.filter_append, List.map_append]
        simp [hp]
  · intro H' e
    subst e
    rw [List.take_length]
    exact q.up D hD
/-- over a text -/
theorem k_lcS {x : Str} {i : Nat} (hx : pE tl σ H (.str x)) (f : Nat → V) (hl : x.cps.toList.length ≤ sizeLine) (hw : ∀ v, wipe ((wipe σ vs).set i (some v)) vs = wipe σ vs)
    (he : ∀ c ∈ x.cps.toList, ∀ D acc, H D = none → pE te ((wipe σ vs).set i (some (.str ⟨#[c]⟩))) (upd H D (.lst acc)) (f c))
    (q : NewAt H (.lst (x.cps.toList.map f)) Q) : tLc (iStr tl) (gName i) tYes te vs σ H Q := by
  refine hx _ ⟨x, rfl, fun D hD => ?_⟩
  refine ⟨fun n m H' => m = x.cps.toList.length - n ∧ n ≤ x.cps.toList.length ∧ H' = upd H D (.lst ((x.cps.toList.take n).map f)), ⟨_, rfl, Nat.zero_le _, rfl⟩, ?_⟩
  rintro n m H' ⟨rfl, hn, rfl⟩
  by_cases hlt : n < x.cps.toList.length
  · refine .inr ⟨by rw [Array.length_toList] at hlt; exact hlt, fun H2 => H2 = upd H D (.lst ((x.cps.toList.take (n + 1)).map f)), fun H2 e => ⟨_, ?_, rfl, hlt, e⟩, ?_⟩
    · omega
    · rintro v H2 ⟨rfl, c, hc, rfl⟩
      rw [← Array.getElem?_toList] at hc
      refine ⟨hw _, (show pT tYes _ _ true from fun _ q => q) _ ?_⟩
      rw [if_pos rfl]
      refine he c (List.mem_of_getElem? hc) D _ hD _ ⟨_, upd_same, ?_, ?_⟩
      · rw [List.length_map, List.length_take]; omega
      · rw [upd_upd, List.take_add_one, hc, List.map_append]; rfl
  · refine .inl ⟨by rw [Array.length_toList] at hlt; exact Nat.le_of_not_lt hlt, ?_⟩
    rw [List.take_of_length_le (by omega)]
    exact q.up D hD
/-- over a range -/
def kLcR (g : TG) (tt : TT) (te : TE) (vs : List Nat) (σ : L2.St) (Q : VK) (lo : Int) (n : Nat) (H1 : Hp) : Prop := ∀ D, H1 D = none → ∃ W : Nat → Nat → Hp → Prop, (∃ m, W 0 m (upd H1 D (.lst []))) ∧ ∀ i m H, W i m H →
  ((Itr lo n).stop i H ∧ Q (.ref D) H) ∨ ((Itr lo n).go i H ∧ ∃ Nx : Hp → Prop, (∀ H', Nx H' → ∃ m', m' < m ∧ W (i + 1) m' H') ∧ ∀ x H', (Itr lo n).yld i H x H' → g x (wipe σ vs) H' fun σ2 H2 => wipe σ2 vs = wipe σ vs ∧ tt σ2 H2 fun b H3 =>
    if b = true then te σ2 H3 fun y H4 => ∃ acc, H4 D = some (.lst acc) ∧ acc.length < sizeLine ∧ Nx (upd H4 D (.lst (acc ++ [y]))) else Nx H3)
theorem k_lcR1 {tl : TA} {j : Int} (h : pA tl σ H [.int j]) (b0 : -(2 ^ 62) ≤ j) (b1 : j < 2 ^ 62) (q : kLcR g tt te vs σ Q 0 j.toNat H) : tLc (iRng1 tl) g tt te vs σ H Q := h _ ⟨j, rfl, b0, b1, q⟩
theorem k_lcR2 {tl : TA} {i j : Int} (h : pA tl σ H [.int i, .int j]) (b0 : -(2 ^ 62) ≤ i ∧ i < 2 ^ 62 ∧ -(2 ^ 62) ≤ j ∧ j < 2 ^ 62) (q : kLcR g tt te vs σ Q i (j - i).toNat H) : tLc (iRng2 tl) g tt te vs σ H Q := h _ ⟨i, j, rfl, b0, q⟩
theorem k_lcRP {lo : Int} {n i : Nat} (p : Int → Bool) (f : Int → V) (hl : n ≤ sizeLine) (hw : ∀ x, wipe ((wipe σ vs).set i (some x)) vs = wipe σ vs)
    (ht : ∀ k : Nat, k < n → ∀ D acc, H D = none → pT tt ((wipe σ vs).set i (some (.int (lo + k)))) (upd H D (.lst acc)) (p (lo + k)))
    (he : ∀ k : Nat, k < n → p (lo + k) = true → ∀ D acc, H D = none → pE te ((wipe σ vs).set i (some (.int (lo + k)))) (upd H D (.lst acc)) (f (lo + k)))
    (q : NewAt H (.lst ((((List.range n).map fun k : Nat => lo + (k : Int)).filter p).map f)) Q) : kLcR (gName i) tt te vs σ Q lo n H := by
  intro D hD
  refine lc_range (lo := lo) (n := n) (fun m H' => H' = upd H D (.lst ((((List.range m).map fun k : Nat => lo + (k : Int)).filter p).map f))) (by simp) ?_ ?_
  · intro k H' hk e
    subst e
    refine ⟨hw _, ht k hk D _ hD _ ?_⟩
    cases hp : p (lo + k) with
    | false =>
      rw [if_neg (by simp), List.range_succ, List.map_append, List.filter_append]
      simp [hp]
    | true =>
      rw [if_pos rfl]
      refine he k hk hp D _ hD _ ⟨_, upd_same, ?_, ?_⟩
      · rw [List.length_map]
        have h1 : (((List.range k).map fun k : Nat => lo + (k : Int)).filter p).length ≤ ((List.range k).map fun k : Nat => lo + (k : Int)).length := List.length_filter_le ..
        rw [List.length_map, List.length_range] at h1
        omega
      · rw [upd_upd, List.range_succ, List.map_append, List.filter_append, List.map_append]
        simp [hp]
  · intro H' e
    subst e
    exact q.up D hD
theorem p_yes : pT tYes σ H true := fun _ q => q
/-! ### loops -/
theorem w_forL {a : Addr} {xs : List V} (ha : pE tl σ H (.ref a)) (hx : SqL K H a xs) (Pv : Nat → L2.St → Hp → Prop) (h0 : Pv 0 σ H) (hl : ∀ i σ H, i ≤ xs.length → Pv i σ H → SqL K H a xs)
    (hs : ∀ i x σ H, xs[i]? = some x → Pv i σ H → g x σ H fun σ2 H2 => tb' { D with nx := Pv (i + 1), ct := Pv (i + 1), bk := D.nx } σ2 H2) (hd : ∀ σ H, Pv xs.length σ H → D.nx σ H) : tFor (iList K tl) g tb' D σ H :=
  ha _ ⟨a, rfl, ⟨xs, hx⟩, for_list Pv h0 hl hs hd⟩
theorem w_forT {a : Addr} {xs : List V} (ha : pE tl σ H (.ref a)) (hx : SqT K H a xs) (Pv : Nat → L2.St → Hp → Prop) (h0 : Pv 0 σ H) (hl : ∀ i σ H, i ≤ xs.length → Pv i σ H → SqT K H a xs)
    (hs : ∀ i x σ H, xs[i]? = some x → Pv i σ H → g x σ H fun σ2 H2 => tb' { D with nx := Pv (i + 1), ct := Pv (i + 1), bk := D.nx } σ2 H2) (hd : ∀ σ H, Pv xs.length σ H → D.nx σ H) : tFor (iTup K tl) g tb' D σ H :=
  ha _ ⟨a, rfl, ⟨xs, hx⟩, for_tup Pv h0 hl hs hd⟩
theorem w_forR1 {tl : TA} {j : Int} (h : pA tl σ H [.int j]) (b0 : -(2 ^ 62) ≤ j) (b1 : j < 2 ^ 62) (Pv : Nat → L2.St → Hp → Prop) (h0 : Pv 0 σ H)
    (hs : ∀ i σ H, i < j.toNat → Pv i σ H → g (.int (0 + i)) σ H fun σ2 H2 => tb' { D with nx := Pv (i + 1), ct := Pv (i + 1), bk := D.nx } σ2 H2) (hd : ∀ σ H, Pv j.toNat σ H → D.nx σ H) : tFor (iRng1 tl) g tb' D σ H :=
  h _ ⟨j, rfl, b0, b1, for_range Pv h0 hs hd⟩
theorem w_forR2 {tl : TA} {i j : Int} (h : pA tl σ H [.int i, .int j]) (b : -(2 ^ 62) ≤ i ∧ i < 2 ^ 62 ∧ -(2 ^ 62) ≤ j ∧ j < 2 ^ 62) (Pv : Nat → L2.St → Hp → Prop) (h0 : Pv 0 σ H)
    (hs : ∀ k σ H, k < (j - i).toNat → Pv k σ H → g (.int (i + k)) σ H fun σ2 H2 => tb' { D with nx := Pv (k + 1), ct := Pv (k + 1), bk := D.nx } σ2 H2) (hd : ∀ σ H, Pv (j - i).toNat σ H → D.nx σ H) : tFor (iRng2 tl) g tb' D σ H :=
  h _ ⟨i, j, rfl, b, for_range Pv h0 hs hd⟩
theorem g_name {i : Nat} {v : V} {R : L2.St → Hp → Prop} (h : R (σ.set i (some v)) H) : gName i v σ H R := h
theorem g_pair {i j : Nat} {a : Addr} {x y : V} {R : L2.St → Hp → Prop} (hx : SqT K H a [x, y]) (h : R ((σ.set i (some x)).set j (some y)) H) : gTup K 2 (gCons (gName i) (gCons (gName j) gNil)) (.ref a) σ H R :=
  ⟨a, [x, y], rfl, hx, rfl, x, [y], rfl, y, [], rfl, rfl, h⟩
/-! ### more of what follows -/
def kOr (u : TT) (σ : L2.St) (QT : Bool → Hp → Prop) : Bool → Hp → Prop := fun b H1 => if b = true then QT true H1 else u σ H1 QT
def kAnd (u : TT) (σ : L2.St) (QT : Bool → Hp → Prop) : Bool → Hp → Prop := fun b H1 => if b = true then u σ H1 QT else QT false H1
def kNot (QT : Bool → Hp → Prop) : Bool → Hp → Prop := fun b H1 => QT (!b) H1
theorem k_or (h : t σ H (kOr u σ QT)) : tOr t u σ H QT := h
theorem k_and (h : t σ H (kAnd u σ QT)) : tAnd t u σ H QT := h
theorem k_notK (h : t σ H (kNot QT)) : tNot t σ H QT := h
theorem k_kOr (h1 : b = true → QT true H) (h2 : b = false → u σ H QT) : kOr u σ QT b H := by
  unfold kOr
  cases b with
  | true => exact h1 rfl
  | false => exact h2 rfl
theorem k_kAnd (h1 : b = true → u σ H QT) (h2 : b = false → QT false H) : kAnd u σ QT b H := by
  unfold kAnd
  cases b with
  | true => exact h1 rfl
  | false => exact h2 rfl
theorem k_kNot (h : QT (!b) H) : kNot QT b H := h
def kM (C : Addr) (names : List Str) (sp : Sp) (tl : TA) (σ : L2.St) (Q : VK) : VK := fun x H1 => ∃ a dx vals, x = .ref a ∧ H1 a = some (.ins C dx (names.zip vals)) ∧ tl σ H1 fun vs H2 => sp (.ref a :: vs) H2 Q E0
theorem k_methK {C : Addr} {names : List Str} {sp : Sp} {tl : TA} (h : ta σ H (kM C names sp tl σ Q)) : oMeth C names sp ta tl σ H Q := h
theorem k_kM {C p dx : Addr} {names : List Str} {vals : List V} {sp : Sp} {tl : TA} {us : List V} (hH : H p = some (.ins C dx (names.zip vals))) (h : pA tl σ H us) (q : sp (.ref p :: us) H Q E0) : kM C names sp tl σ Q (.ref p) H := ⟨p, dx, vals, rfl, hH, h _ q⟩
theorem k_make {C : Addr} {sp : Sp} {tl : TA} {us : List V} (h : pA tl σ H us) (q : ∀ x dx H', H x = none → H' x = some (.ins C dx []) → Ext H H' → sp (.ref x :: us) H' (fun v H2 => v = .non ∧ Q (.ref x) H2) E0) : mMake C sp tl σ H Q :=
  h _ fun x dx nx nd ne => q x dx _ nx upd_same fun a o e => by rw [upd_ne (ne_of_none e nx), upd_ne (ne_of_none e nd)]; exact e
theorem k_eqD {a a' : Addr} {d e : PyData} (hd : Dp K H (.ref a) d) (he : Dp K H (.ref a') e) (sd : SeqAt.shaped d = true) (se : SeqAt.shaped e = true) (q : Q (.bl (PyData.eqv d e)) H) : mEq K (.ref a) (.ref a') H Q := ⟨d, e, hd, he, sd, se, q⟩
theorem k_neD {a a' : Addr} {d e : PyData} (hd : Dp K H (.ref a) d) (he : Dp K H (.ref a') e) (sd : SeqAt.shaped d = true) (se : SeqAt.shaped e = true) (q : Q (.bl (!PyData.eqv d e)) H) : mNe K (.ref a) (.ref a') H Q := ⟨d, e, hd, he, sd, se, q⟩
theorem k_all {a : Addr} {bs : List Bool} (hx : H a = some (.lst (bs.map V.bl))) (q : Q (.bl (bs.all id)) H) : rAll K [.ref a] H Q := ⟨a, bs, rfl, SqL.of hx, q⟩
theorem k_any {a : Addr} {bs : List Bool} (hx : H a = some (.lst (bs.map V.bl))) (q : Q (.bl (bs.any id)) H) : rAny K [.ref a] H Q := ⟨a, bs, rfl, SqL.of hx, q⟩
theorem kit_is (K : PySem.W.Frag) {m n : String} {b : Bool} (h : ∀ K, PySem.W.kitOne K (.type m) (.type n) = some b) : PySem.W.kitOne K (.type m) (.type n) = some b := h K
theorem p_isInt {i : Int} : pC (rIsi K) [.int i, .ty "int"] H (.bl true) := fun _ q => ⟨_, _, _, _, true, rfl, .ty _, .base (.int i), kit_ty (by decide +kernel), q⟩
theorem p_isIntB {i : Int} : pC (rIsi K) [.int i, .ty "bool"] H (.bl false) := fun _ q => ⟨_, _, _, _, false, rfl, .ty _, .base (.int i), kit_ty (by decide +kernel), q⟩
theorem p_isLst {a : Addr} {xs : List V} (h : H a = some (.lst xs)) : pC (rIsi K) [.ref a, .ty "list"] H (.bl true) := fun _ q => ⟨_, _, _, _, true, rfl, .ty _, .base (.lst h), kit_ty (by decide +kernel), q⟩
theorem p_isTup {a : Addr} {xs : List V} (h : H a = some (.tup xs)) : pC (rIsi K) [.ref a, .ty "tuple"] H (.bl true) := fun _ q => ⟨_, _, _, _, true, rfl, .ty _, .base (.tup h), kit_ty (by decide +kernel), q⟩
theorem p_notV {te : TE} (h : pE te σ H (.bl b)) : pE (mNotV te) σ H (.bl (!b)) := fun _ q => h _ q
theorem at_ints {ns : List Int} {k : Int} (h0 : 0 ≤ k) (h1 : k < (ns.length : Int)) : atI (ns.map V.int) k = some (.int (ns.getD k.toNat 0)) := by
  obtain ⟨j, rfl⟩ : ∃ j : Nat, k = (j : Int) := ⟨k.toNat, by omega⟩
  have hj : j < ns.length := by omega
  refine atI_nat ?_
  rw [Int.toNat_natCast, List.getElem?_map, List.getD_eq_getElem?_getD, List.getElem?_eq_getElem hj]
  rfl
theorem p_ixIL {p : Addr} {ns : List Int} {k : Int} (h : SqL K H p (ns.map V.int)) (h0 : 0 ≤ k) (h1 : k < (ns.length : Int)) : pR (mIx K) (.ref p) (.int k) H (.int (ns.getD k.toNat 0)) := fun _ q => ⟨_, _, .inl h, at_ints h0 h1, q⟩
theorem p_ixIH {p : Addr} {ns : List Int} {k : Int} (h : H p = some (.lst (ns.map V.int))) (h0 : 0 ≤ k) (h1 : k < (ns.length : Int)) : pR (mIx K) (.ref p) (.int k) H (.int (ns.getD k.toNat 0)) := fun _ q => ⟨_, _, .inl (SqL.of h), at_ints h0 h1, q⟩
theorem p_ixIU {p : Addr} {ns : List Int} {k : Int} (h : H p = some (.tup (ns.map V.int))) (h0 : 0 ≤ k) (h1 : k < (ns.length : Int)) : pR (mIx K) (.ref p) (.int k) H (.int (ns.getD k.toNat 0)) := fun _ q => ⟨_, _, .inr (SqT.of h), at_ints h0 h1, q⟩
end
end PB

set_option maxRecDepth 100000
set_option autoImplicit false
set_option maxHeartbeats 4000000
namespace PB
open PySem PySem.Spec PyProof.Rows L2
/-! ### data of the written part -/
mutual
def isD (K : PySem.W.Frag) : PyData → Value → Bool
  | .none, .none => true
  | .bool a, .bool b => a == b
  | .int i, .int j _ => decide (i = j)
  | .str x, .str y _ => decide (x = y)
  | .tuple ds, .ref a => (match K.lookup a with
    | some ⟨.type c, _, .seq its _, _⟩ => decide (c = "tuple") && (decide (its.size ≤ sizeLine) && isDs K ds its.toList)
    | _ => false)
  | .list ds, .ref a => (match K.lookup a with
    | some ⟨.type c, none, .seq its _, _⟩ => decide (c = "list") && (decide (its.size ≤ sizeLine) && isDs K ds its.toList)
    | _ => false)
  | _, _ => false
def isDs (K : PySem.W.Frag) : List PyData → List Value → Bool
  | [], [] => true
  | d :: ds, u :: us => isD K d u && isDs K ds us
  | _, _ => false
end
mutual
theorem isD_ok {K : PySem.W.Frag} : ∀ (d : PyData) (u : Value), isD K d u = true → ∃ v, RelV v u ∧ ∀ H, Dp K H v d
  | .none, u, h => by
    cases u with
    | none => exact ⟨.non, rfl, fun _ => .non⟩
    | _ => simp [isD] at h
  | .bool a, u, h => by
    cases u with
    | bool b =>
      unfold isD at h
      have e : a = b := by simpa using h
      subst e
      exact ⟨.bl a, rfl, fun _ => .bl a⟩
    | _ => simp [isD] at h
  | .int i, u, h => by
    cases u with
    | int j t =>
      unfold isD at h
      have e : i = j := of_decide_eq_true h
      subst e
      exact ⟨.int i, ⟨t, rfl⟩, fun _ => .int i⟩
    | _ => simp [isD] at h
  | .str x, u, h => by
    cases u with
    | str y t =>
      unfold isD at h
      have e : x = y := of_decide_eq_true h
      subst e
      exact ⟨.str x, ⟨t, rfl⟩, fun _ => .str x⟩
    | _ => simp [isD] at h
  | .tuple ds, u, h => by
    cases u with
    | ref a =>
      unfold isD at h
      split at h
      · rename_i c od its n sl e
        obtain ⟨h1, h2⟩ := He.ba h
        obtain ⟨h3, h4⟩ := He.ba h2
        obtain ⟨vs, r, k⟩ := isDs_ok ds its.toList h4
        exact ⟨.ref a, rfl, fun H => .tup (.inr ⟨_, its, n, e, congrArg Value.type (of_decide_eq_true h1), rfl, of_decide_eq_true h3, r⟩) (k H)⟩
      · cases h
    | _ => simp [isD] at h
  | .list ds, u, h => by
    cases u with
    | ref a =>
      unfold isD at h
      split at h
      · rename_i c its n sl e
        obtain ⟨h1, h2⟩ := He.ba h
        obtain ⟨h3, h4⟩ := He.ba h2
        obtain ⟨vs, r, k⟩ := isDs_ok ds its.toList h4
        exact ⟨.ref a, rfl, fun H => .lst (.inr ⟨_, its, n, e, congrArg Value.type (of_decide_eq_true h1), rfl, rfl, of_decide_eq_true h3, r⟩) (k H)⟩
      · cases h
    | _ => simp [isD] at h
  | .dict _, u, h => by cases u <;> simp [isD] at h
theorem isDs_ok {K : PySem.W.Frag} : ∀ (ds : List PyData) (us : List Value), isDs K ds us = true → ∃ vs, Vals vs us ∧ ∀ H, DpAll K H vs ds
  | [], [], _ => ⟨[], .nil, fun _ => .nil⟩
  | d :: ds, u :: us, h => by
    unfold isDs at h
    obtain ⟨h1, h2⟩ := He.ba h
    obtain ⟨v, r, k⟩ := isD_ok d u h1
    obtain ⟨vs, rs, ks⟩ := isDs_ok ds us h2
    exact ⟨v :: vs, .cons r rs, fun H => .cons (k H) (ks H)⟩
  | [], _ :: _, h => by simp [isDs] at h
  | _ :: _, [], h => by simp [isDs] at h
end
theorem datG_ok {K : PySem.W.Frag} {x : Str} {d : PyData} (h : isD K d (.ref (He.ga K x)) = true) (H : Hp) : Dp K H (.ref (He.ga K x)) d := by
  obtain ⟨v, r, k⟩ := isD_ok d _ h
  cases v with
  | ref a =>
    have e : a = He.ga K x := (Value.ref.inj (show Value.ref (He.ga K x) = Value.ref a from r)).symm
    rw [← e]
    exact k H
  | _ => revert r; intro r; first | (obtain ⟨t, r⟩ := r; cases r) | (cases r)
/-! ### the head's hook: the defs, the facts, one more Bool -/
abbrev AlP : Type := He.AlD × Bool
def obsP (n : Nat) (fa : List He.Fa) (fn : List He.DefD) (ex : PySem.W.Frag → Bool) (g : Addr → Option Obj) : AlP := (He.obsDG n fa fn g, ex (He.frG g (He.asD g n)))
def hookP (n : Nat) (fa : List He.Fa) (fn : List He.DefD) (ex : PySem.W.Frag → Bool) : PySem.W.Hook where
  α := AlP
  obs := fun s => obsP n fa fn ex s.heap.get?
  val := fun _ => (He.valD fn, true)
  says := fun _ h => ∃ K : PySem.W.Frag, K.In h ∧ He.SaysD fa fn K ∧ ex K = true
  of := fun _ _ e => ⟨_, He.frG_in, congrArg (fun z : AlP => z.1) e, congrArg (fun z : AlP => z.2) e⟩
  keeps := fun _ _ _ ⟨K, hK, c⟩ k => ⟨K, PySem.W.Frag.In.keeps hK k, c⟩
theorem obsP_eq {n : Nat} {fa : List He.Fa} {fn : List He.DefD} {ex : PySem.W.Frag → Bool} {g : Addr → Option Obj} {s : Shared} (h : ∀ a, g a = s.heap.get? a) : obsP n fa fn ex g = (hookP n fa fn ex).obs s := by
  have e : g = s.heap.get? := funext h
  rw [e] <;> rfl
end PB

set_option maxRecDepth 100000
set_option autoImplicit false
set_option maxHeartbeats 4000000
namespace PB
open PySem PySem.Spec PyProof.Rows L2
/-! ### bits -/
def mBor : R2 := fun x y H Q => match x, y with
  | .int i, .int j => Q (.int (Builtin.bitOr i j)) H
  | _, _ => False
def mBand : R2 := fun x y H Q => match x, y with
  | .int i, .int j => Q (.int (Builtin.bitAnd i j)) H
  | _, _ => False
theorem op_mBor {X : Cx} : OpR X (binaryOp .BitOr) mBor := op_imp op_or fun x y H Q h => by
  cases x <;> cases y <;> first | exact h.elim | exact ⟨_, _, rfl, rfl, h⟩
theorem op_mBand {X : Cx} : OpR X (binaryOp .BitAnd) mBand := op_imp op_and fun x y H Q h => by
  cases x <;> cases y <;> first | exact h.elim | exact ⟨_, _, rfl, rfl, h⟩
theorem p_bor {H : Hp} {i j : Int} : pR mBor (.int i) (.int j) H (.int (Builtin.bitOr i j)) := fun _ q => q
theorem p_band {H : Hp} {i j : Int} : pR mBand (.int i) (.int j) H (.int (Builtin.bitAnd i j)) := fun _ q => q
/-! ### a written dict: numbers to numbers -/
def entI : List (Int × Int) → List DictEntry → Bool
  | [], [] => true
  | p :: ps, e :: es => (match e.key, e.val with
    | .int i _, .int j _ => decide (i = p.1) && (decide (j = p.2) && decide (e.hash = hashInt p.1))
    | _, _ => false) && entI ps es
  | _, _ => false
def isDI (K : PySem.W.Frag) (kvs : List (Int × Int)) (a : Addr) : Bool := match K.lookup a with
  | some ⟨.type c, none, .dict es _, sl⟩ => decide (c = "dict") && (sl.isEmpty && (decide ((a == sysModules) = false) && entI kvs es.toList))
  | _ => false
structure KDi (K : PySem.W.Frag) (a : Addr) (kvs : List (Int × Int)) : Prop where
  ex : ∃ es n, K.lookup a = some ⟨.type "dict", none, .dict es n, #[]⟩ ∧ entI kvs es.toList = true ∧ (a == sysModules) = false
theorem isDI_ok {K : PySem.W.Frag} {kvs : List (Int × Int)} {a : Addr} (h : isDI K kvs a = true) : KDi K a kvs := by
  unfold isDI at h
  split at h
  · rename_i c es n sl e
    obtain ⟨h1, h2⟩ := He.ba h
    obtain ⟨h3, h4⟩ := He.ba h2
    obtain ⟨h5, h6⟩ := He.ba h4
    have e1 : c = "dict" := of_decide_eq_true h1
    have e2 : sl = #[] := Array.isEmpty_iff.mp h3
    subst e1 e2
    exact ⟨es, n, e, h6, of_decide_eq_true h5⟩
  · cases h
def luI : List (Int × Int) → Int → Option Int
  | [], _ => none
  | p :: ps, k => if p.1 = k then some p.2 else luI ps k
theorem entI_keys : ∀ {kvs : List (Int × Int)} {es : List DictEntry}, entI kvs es = true → ∀ e ∈ es, ∃ k : Int, Value.isInt k e.key = true ∧ e.hash = hashInt k
  | [], [], _, e, m => by cases m
  | p :: ps, d :: ds, h, e, m => by
    unfold entI at h
    obtain ⟨h1, h2⟩ := He.ba h
    rcases List.mem_cons.mp m with rfl | m
    · split at h1
      · rename_i i t j u e1 e2
        obtain ⟨h3, h4⟩ := He.ba h1
        obtain ⟨h5, h6⟩ := He.ba h4
        refine ⟨p.1, ?_, of_decide_eq_true h6⟩
        rw [e1, of_decide_eq_true h3]
        unfold Value.isInt
        simp
      · cases h1
    · exact entI_keys h2 e m
  | [], _ :: _, h, _, _ => by simp [entI] at h
  | _ :: _, [], h, _, _ => by simp [entI] at h
theorem entI_find {k : Int} : ∀ {kvs : List (Int × Int)} {es : List DictEntry}, entI kvs es = true → (match luI kvs k with
    | some j => ∃ t, (es.find? fun e => Value.isInt k e.key).map (·.val) = some (.int j t)
    | none => (es.find? fun e => Value.isInt k e.key).map (·.val) = none)
  | [], [], _ => rfl
  | p :: ps, d :: ds, h => by
    unfold entI at h
    obtain ⟨h1, h2⟩ := He.ba h
    split at h1
    · rename_i i t j u e1 e2
      obtain ⟨h3, h4⟩ := He.ba h1
      obtain ⟨h5, h6⟩ := He.ba h4
      have a1 : i = p.1 := of_decide_eq_true h3
      have a2 : j = p.2 := of_decide_eq_true h5
      unfold luI
      by_cases c : p.1 = k
      · rw [if_pos c]
        refine ⟨u, ?_⟩
        have z : Value.isInt k d.key = true := by rw [e1, a1, c]; unfold Value.isInt; simp
        rw [List.find?_cons_of_pos (p := fun e : DictEntry => Value.isInt k e.key) z]
        rw [Option.map_some, e2, a2]
      · rw [if_neg c]
        have z : ¬ Value.isInt k d.key = true := by
          rw [e1, a1]
          unfold Value.isInt
          simpa using c
        rw [List.find?_cons_of_neg (p := fun e : DictEntry => Value.isInt k e.key) z]
        exact entI_find h2
    · cases h1
  | [], _ :: _, h => by simp [entI] at h
  | _ :: _, [], h => by simp [entI] at h
theorem mapOf_KI {prog : Program} {w : World} {K : PySem.W.Frag} {h : Heap} {a : Addr} {es : Array DictEntry} {n : Nat} {kvs : List (Int × Int)} (X : K.In h) (hl : K.lookup a = some ⟨.type "dict", none, .dict es n, #[]⟩) (hk : entI kvs es.toList = true) :
    h.MapOf (PySem.intKind prog w) a (fun k => findBy Value.isInt es k) :=
  ⟨_, es, n, X _ _ hl, ⟨rfl, rfl, rfl⟩, rfl, fun e he => entI_keys hk e (Array.mem_toList_iff.mpr he), fun _ => rfl⟩
theorem findBy_I {es : Array DictEntry} {k : Int} : findBy Value.isInt es k = (es.toList.find? fun e => Value.isInt k e.key).map (·.val) := by
  unfold findBy
  rw [← Array.find?_toList]
def rIxDI (K : PySem.W.Frag) : R2 := fun x y H Q => ∃ p i kvs j, x = .ref p ∧ y = .int i ∧ KDi K p kvs ∧ luI kvs i = some j ∧ Q (.int j) H
def rInDI (K : PySem.W.Frag) : R2 := fun x y H Q => ∃ p i kvs, x = .int i ∧ y = .ref p ∧ KDi K p kvs ∧ Q (.bl (luI kvs i).isSome) H
theorem ix_kdi {X : Cx} : IxR X (rIxDI X.K) := by
  intro value slice pins s σ H x y v u Q I rx ry h hs
  obtain ⟨p, i, kvs, j, rfl, rfl, ⟨es, n, hl, hk, _⟩, lu, q⟩ := h
  obtain rfl : v = Value.ref p := rx
  obtain ⟨t, rfl⟩ := (show ∃ t, u = Value.int i t from ry)
  have hm := mapOf_KI (prog := X.prog) (w := X.w) I.kIn hl hk
  have ef := entI_find (k := i) hk
  rw [lu] at ef
  obtain ⟨t', ef⟩ := ef
  have hkey : (PySem.intKind X.prog X.w).is i (.int i t) = true := by show (i == i) = true; simp
  exact tail_any hm.typeIs slot_dict_getitem.lookup (wpAny_getItem_of hkey hm (findBy_I.trans ef) ⟨.int j, H, I.tok _, ⟨t', rfl⟩, q⟩) hs
theorem op_inDI {X : Cx} : OpR X (compareOp .In) (rInDI X.K) := by
  intro pins s σ H x y v u Q I rx ry h
  obtain ⟨p, i, kvs, rfl, rfl, ⟨es, n, hl, hk, hd⟩, q⟩ := h
  obtain rfl : u = Value.ref p := ry
  obtain ⟨t, rfl⟩ := (show ∃ t, v = Value.int i t from rx)
  have hm := mapOf_KI (prog := X.prog) (w := X.w) I.kIn hl hk
  have hkey : (PySem.intKind X.prog X.w).is i (.int i t) = true := by show (i == i) = true; simp
  refine wpAny_in_of hkey hd hm ?_
  have e : (findBy Value.isInt es i).isSome = (luI kvs i).isSome := by
    rw [findBy_I]
    have ef := entI_find (k := i) hk
    cases c : luI kvs i with
    | none => rw [c] at ef; rw [ef]; rfl
    | some j => rw [c] at ef; obtain ⟨t', ef⟩ := ef; rw [ef]; rfl
  refine ⟨.bl _, H, I.tok _, ?_, q⟩
  rw [e]
  rfl
theorem p_ixDI {K : PySem.W.Frag} {H : Hp} {p : Addr} {i j : Int} {kvs : List (Int × Int)} (h : KDi K p kvs) (e : luI kvs i = some j) : pR (rIxDI K) (.ref p) (.int i) H (.int j) := fun _ q => ⟨p, i, kvs, j, rfl, rfl, h, e, q⟩
theorem p_inDI {K : PySem.W.Frag} {H : Hp} {p : Addr} {i : Int} {kvs : List (Int × Int)} (h : KDi K p kvs) : pR (rInDI K) (.int i) (.ref p) H (.bl (luI kvs i).isSome) := fun _ q => ⟨p, i, kvs, rfl, rfl, h, q⟩
theorem p_lenU {K : PySem.W.Frag} {H : Hp} {p : Addr} {xs : List V} (h : H p = some (.tup xs)) : pC (mLen K) [.ref p] H (.int (xs.length : Int)) := fun _ q => ⟨xs, .inr (SqT.of h), q⟩
theorem w_break {D : Ends} {σ : L2.St} {H : Hp} (h : D.bk σ H) : tBreak D σ H := h
theorem w_cont {D : Ends} {σ : L2.St} {H : Hp} (h : D.ct σ H) : tCont D σ H := h
/-! ### while, a tuple taken apart -/
theorem w_while {c : TT} {tb : TS} {D : Ends} {σ : L2.St} {H : Hp} (W : Nat → L2.St → Hp → Prop) (m0 : Nat) (h0 : W m0 σ H)
    (hs : ∀ m σ H, W m σ H → ∃ b, pT c σ H b ∧ (b = true → tb { D with nx := fun σ' H' => ∃ m', m' < m ∧ W m' σ' H', ct := fun σ' H' => ∃ m', m' < m ∧ W m' σ' H', bk := D.nx } σ H) ∧ (b = false → D.nx σ H)) : tWhile c tb D σ H :=
  ⟨W, ⟨m0, h0⟩, fun m σ H w => by
    obtain ⟨b, hc, h1, h2⟩ := hs m σ H w
    refine hc _ ?_
    cases b with
    | true =>
      rw [if_pos rfl]
      exact ⟨_, fun _ _ z => z, h1 rfl⟩
    | false =>
      rw [if_neg (by decide)]
      exact h2 rfl⟩
theorem g_three {K : PySem.W.Frag} {i j k : Nat} {a : Addr} {x y z : V} {σ : L2.St} {H : Hp} {R : L2.St → Hp → Prop} (hx : SqT K H a [x, y, z]) (h : R (((σ.set i (some x)).set j (some y)).set k (some z)) H) : gTup K 3 (gCons (gName i) (gCons (gName j) (gCons (gName k) gNil))) (.ref a) σ H R :=
  ⟨a, [x, y, z], rfl, hx, rfl, x, [y, z], rfl, y, [z], rfl, z, [], rfl, rfl, h⟩
section
variable {K : PySem.W.Frag} {σ : L2.St} {H : Hp} {tl te : TE} {tt : TT} {Q : VK} {vs : List Nat}
/-- a comprehension over a tuple: test and element only look -/
theorem k_lcTP {a : Addr} {xs : List V} {i : Nat} (p : V → Bool) (f : V → V) (ha : pE tl σ H (.ref a)) (hx : SqT K H a xs) (hl : xs.length ≤ sizeLine) (hw : ∀ x, wipe ((wipe σ vs).set i (some x)) vs = wipe σ vs)
    (ht : ∀ x ∈ xs, ∀ D acc, H D = none → pT tt ((wipe σ vs).set i (some x)) (upd H D (.lst acc)) (p x))
    (he : ∀ x ∈ xs, p x = true → ∀ D acc, H D = none → pE te ((wipe σ vs).set i (some x)) (upd H D (.lst acc)) (f x))
    (q : NewAt H (.lst ((xs.filter p).map f)) Q) : tLc (iTup K tl) (gName i) tt te vs σ H Q := by
  refine ha _ ⟨a, rfl, ⟨xs, hx⟩, fun D hD => ?_⟩
  have keep : ∀ acc, SqT K (upd H D (.lst acc)) a xs := fun acc => ext_t (Ext.new hD) hx
  refine lc_tup (K := K) (a := a) (xs := xs) (fun n H' => H' = upd H D (.lst (((xs.take n).filter p).map f))) (by simp) (fun n H' _ e => by rw [e]; exact keep _) ?_ ?_
  · intro n x H' hn e
    subst e
    have hm : x ∈ xs := List.mem_of_getElem? hn
    have ht' : xs.take (n + 1) = xs.take n ++ [x] := by rw [List.take_add_one, hn]; rfl
    refine ⟨hw x, ht x hm D _ hD _ ?_⟩
    cases hp : p x with
    | false =>
      rw [if_neg (by simp), ht', List.filter_append]
      simp [hp]
    | true =>
      rw [if_pos rfl]
      refine he x hm hp D _ hD _ ⟨_, upd_same, ?_, ?_⟩
      · rw [List.length_map]
        have h1 : ((xs.take n).filter p).length ≤ (xs.take n).length := List.length_filter_le ..
        have h2 : n < xs.length := (List.getElem?_eq_some_iff.mp hn).1
        rw [List.length_take] at h1
        omega
      · rw [upd_upd, ht', List.filter_append, List.map_append]
        simp [hp]
  · intro H' e
    subst e
    rw [List.take_length]
    exact q.up D hD
/-- a comprehension whose element may make objects, without a test: over a list; what is asked of an element -/
def kEl (D : Addr) (P : Addr → Nat → List V → Hp → Prop) (i : Nat) : VK := fun y H4 => ∃ acc, H4 D = some (.lst acc) ∧ acc.length < sizeLine ∧ ∃ acc', acc'.length = i + 1 ∧ (upd H4 D (.lst (acc ++ [y]))) D = some (.lst acc') ∧ P D (i + 1) acc' (upd H4 D (.lst (acc ++ [y])))
theorem kEl_mk {D : Addr} {P : Addr → Nat → List V → Hp → Prop} {i : Nat} {y : V} {H4 : Hp} {acc : List V} (h : H4 D = some (.lst acc)) (l : acc.length = i) (z : i < sizeLine) (p : P D (i + 1) (acc ++ [y]) (upd H4 D (.lst (acc ++ [y])))) : kEl D P i y H4 :=
  ⟨acc, h, by omega, acc ++ [y], by simp [l], upd_same, p⟩
theorem k_lcG {a : Addr} {xs : List V} {j : Nat} (hx : SqL K H a xs) (hl : xs.length ≤ sizeLine) (hw : ∀ x, wipe ((wipe σ vs).set j (some x)) vs = wipe σ vs) (P : Addr → Nat → List V → Hp → Prop)
    (h0 : ∀ D, H D = none → P D 0 [] (upd H D (.lst [])))
    (hk : ∀ D i acc H', H D = none → P D i acc H' → SqL K H' a xs)
    (hs : ∀ D i x acc H', H D = none → xs[i]? = some x → acc.length = i → H' D = some (.lst acc) → P D i acc H' → te ((wipe σ vs).set j (some x)) H' (kEl D P i))
    (q : ∀ D acc H', H D = none → H' D = some (.lst acc) → acc.length = xs.length → P D xs.length acc H' → Q (.ref D) H') : kLc K (gName j) tYes te vs σ Q (.ref a) H := by
  refine ⟨a, rfl, ⟨xs, hx⟩, fun D hD => ?_⟩
  refine ⟨fun i m H' => m = xs.length - i ∧ i ≤ xs.length ∧ ∃ acc, acc.length = i ∧ H' D = some (.lst acc) ∧ P D i acc H', ⟨_, rfl, Nat.zero_le _, [], rfl, upd_same, h0 D hD⟩, ?_⟩
  rintro i m H' ⟨rfl, hi, acc, al, hD', p⟩
  by_cases c : i < xs.length
  · refine .inr ⟨⟨xs, xs[i], hk D i acc H' hD p, by simp [c]⟩, fun H2 => ∃ acc', acc'.length = i + 1 ∧ H2 D = some (.lst acc') ∧ P D (i + 1) acc' H2, ?_, ?_⟩
    · rintro H2 ⟨acc', z1, z2, z3⟩
      exact ⟨xs.length - (i + 1), by omega, rfl, by omega, acc', z1, z2, z3⟩
    · rintro x H2 ⟨rfl, hy⟩
      have e := hy xs (hk D i acc H2 hD p)
      refine ⟨hw x, (show pT tYes _ _ true from fun _ q => q) _ ?_⟩
      rw [if_pos rfl]
      exact hs D i x acc H2 hD e al hD' p
  · have e : i = xs.length := by omega
    subst e
    exact .inl ⟨⟨xs, hk D _ acc H' hD p, Nat.le_refl _⟩, q D acc H' hD hD' al p⟩
/-- the same over a range -/
theorem k_lcRG {lo : Int} {n j : Nat} (hl : n ≤ sizeLine) (hw : ∀ x, wipe ((wipe σ vs).set j (some x)) vs = wipe σ vs) (P : Addr → Nat → List V → Hp → Prop)
    (h0 : ∀ D, H D = none → P D 0 [] (upd H D (.lst [])))
    (hs : ∀ D i acc H', H D = none → i < n → acc.length = i → H' D = some (.lst acc) → P D i acc H' → te ((wipe σ vs).set j (some (.int (lo + i)))) H' (kEl D P i))
    (q : ∀ D acc H', H D = none → H' D = some (.lst acc) → acc.length = n → P D n acc H' → Q (.ref D) H') : kLcR (gName j) tYes te vs σ Q lo n H := by
  intro D hD
  refine ⟨fun i m H' => m = n - i ∧ i ≤ n ∧ ∃ acc, acc.length = i ∧ H' D = some (.lst acc) ∧ P D i acc H', ⟨_, rfl, Nat.zero_le _, [], rfl, upd_same, h0 D hD⟩, ?_⟩
  rintro i m H' ⟨rfl, hi, acc, al, hD', p⟩
  by_cases c : i < n
  · refine .inr ⟨c, fun H2 => ∃ acc', acc'.length = i + 1 ∧ H2 D = some (.lst acc') ∧ P D (i + 1) acc' H2, ?_, ?_⟩
    · rintro H2 ⟨acc', z1, z2, z3⟩
      exact ⟨n - (i + 1), by omega, rfl, by omega, acc', z1, z2, z3⟩
    · rintro x H2 ⟨rfl, rfl⟩
      refine ⟨hw _, (show pT tYes _ _ true from fun _ q => q) _ ?_⟩
      rw [if_pos rfl]
      exact hs D i acc H2 hD c al hD' p
  · have e : i = n := by omega
    subst e
    exact .inl ⟨Nat.le_refl _, q D acc H' hD hD' al p⟩
end
end PB

set_option maxRecDepth 100000
set_option autoImplicit false
set_option maxHeartbeats 4000000
namespace PB
open PySem PySem.Spec PyProof.Rows L2
open C8 (Met)
/-! ### == by an own __eq__, isinstance of an own class, is of bools, zip -/
structure OwnC (K : PySem.W.Frag) (C : Addr) : Prop where
  a : PySem.W.findIn K (.ref C) "__class__" = some (some (.builtin "object.__class__"))
  b : PySem.W.specialIn K (.builtin "object.__class__") "__get__" = some (some (.builtin "getset_descriptor.__get__"))
  c : PySem.W.takesIn K (.builtin "object.__class__") = some true
  d : PySem.W.mroIn K C (.type "object") = some true
  e : PySem.W.kitOne K (.ref C) (.ref C) = some true
  f : PySem.W.kitOne K (.type "int") (.ref C) = some false
  g : PySem.W.kitOne K (.type "list") (.ref C) = some false
  h : PySem.W.notFirst K C (.type "int") = true
  i : PySem.W.notFirst K C (.type "list") = true
  j : PySem.W.notFirst K C (.ref C) = true
  k : Cls K C
inductive RightOf (K : PySem.W.Frag) (C : Addr) (H : Hp) : V → Value → Prop where
  | own {b dx : Addr} {fs : List (Str × V)} (e : H b = some (.ins C dx fs)) : RightOf K C H (.ref b) (.ref C)
  | int (i : Int) : RightOf K C H (.int i) (.type "int")
  | lst {a : Addr} {xs : List V} (e : H a = some (.lst xs)) : RightOf K C H (.ref a) (.type "list")
def rOwn (K : PySem.W.Frag) (C : Addr) (sp : Sp) : R2 := fun x y H Q => ∃ a dx fs T, x = .ref a ∧ H a = some (.ins C dx fs) ∧ RightOf K C H y T ∧ PySem.W.notFirst K C T = true ∧ sp [.ref a, y] H (fun v H' => (∃ b, v = .bl b) ∧ Q v H') E0
theorem op_own {X : Cx} {C : Addr} {sp : Sp} {j k : Nat} (c : Met X.prog X.w X.K X.mg X.base k C "__eq__" sp []) (hr : Room j X.A) (hk : k ≤ j) : OpR X (compareOp .Eq) (rOwn X.K C sp) := by
  intro pins s σ H x y v u Q I rx ry h
  obtain ⟨a, dx, fs, T, rfl, ha, hy, hn, q⟩ := h
  obtain rfl : v = Value.ref a := rx
  obtain ⟨g, fd, ps, ds, hc, hm, F, b, d⟩ := c.ex
  obtain ⟨mA, J, _⟩ := ins_get I.hok ha
  obtain ⟨od, J, _⟩ := J.look
  obtain ⟨m, hF⟩ := I.fr
  have hT : PySem.W.Looks (model X.prog X.w) s.heap (typeOf u) T := by
    cases hy with
    | @own b dy gs e =>
      obtain rfl : u = Value.ref b := ry
      obtain ⟨mB, J', _⟩ := ins_get I.hok e
      obtain ⟨od', J', _⟩ := J'.look
      exact J'.type
    | int i =>
      obtain ⟨t, rfl⟩ := (show ∃ t, u = Value.int i t from ry)
      exact PySem.W.Looks.of_pure rfl
    | @lst b xs e =>
      obtain rfl : u = Value.ref b := ry
      obtain ⟨_, _, n, _, h1⟩ := (show ObjOk X.prog X.w H s.heap b (.lst xs) from I.hok b _ e)
      exact (PySem.W.Looks.ld h1).andThen .now
  show wpAny (model X.prog X.w) X.A (richCompare .Eq (.ref a) u) (EP X pins σ Q) X.xe s
  refine PySem.W.cmp_K (op := .Eq) (tb := T) hr.units0 hF I.ok.mod.kin J hT hn hm.at_ hm.fn ?_
  have r := run_fn (E := L2.E0) (us := [.ref a, u]) (vs := [.ref a, y]) F (hr.mono hk) b d pass0 I (.cons rfl (.cons ry .nil)) q
  refine wpAny_mono r (fun w s' z => ?_) fun _ _ e => e
  obtain ⟨v', H', I', rv, ⟨bb, rfl⟩, q'⟩ := z
  obtain rfl : w = Value.bool bb := rv
  exact ⟨.bl bb, H', I', rfl, q'⟩
def ownOk (K : PySem.W.Frag) (C : Addr) : Bool :=
  He.eqO (PySem.W.findIn K (.ref C) "__class__") (some (some (.builtin "object.__class__"))) && (He.eqO (PySem.W.specialIn K (.builtin "object.__class__") "__get__") (some (some (.builtin "getset_descriptor.__get__"))) &&
  (decide (PySem.W.takesIn K (.builtin "object.__class__") = some true) && (decide (PySem.W.mroIn K C (.type "object") = some true) && (decide (PySem.W.kitOne K (.ref C) (.ref C) = some true) &&
  (decide (PySem.W.kitOne K (.type "int") (.ref C) = some false) && (decide (PySem.W.kitOne K (.type "list") (.ref C) = some false) && (PySem.W.notFirst K C (.type "int") && (PySem.W.notFirst K C (.type "list") && PySem.W.notFirst K C (.ref C)))))))))
theorem ownOk_ok {K : PySem.W.Frag} {C : Addr} (h : ownOk K C = true) (k : Cls K C) : OwnC K C := by
  obtain ⟨h1, h⟩ := He.ba h
  obtain ⟨h2, h⟩ := He.ba h
  obtain ⟨h3, h⟩ := He.ba h
  obtain ⟨h4, h⟩ := He.ba h
  obtain ⟨h5, h⟩ := He.ba h
  obtain ⟨h6, h⟩ := He.ba h
  obtain ⟨h7, h⟩ := He.ba h
  obtain ⟨h8, h⟩ := He.ba h
  obtain ⟨h9, h10⟩ := He.ba h
  exact ⟨He.eqO_ok h1, He.eqO_ok h2, of_decide_eq_true h3, of_decide_eq_true h4, of_decide_eq_true h5, of_decide_eq_true h6, of_decide_eq_true h7, h8, h9, h10, k⟩
section
variable {K : PySem.W.Frag} {σ : L2.St} {H : Hp} {C b dx : Addr} {fs : List (Str × V)} {xs : List V} {i : Int} {Q : VK}
theorem p_isOwn (o : OwnC K C) (e : H b = some (.ins C dx fs)) : pC (rIsi K) [.ref b, .ref C] H (.bl true) := fun _ q => ⟨_, _, _, _, true, rfl, .own C, .base (.ins e o.k o.a o.b o.c o.d), o.e, q⟩
theorem p_isOwnI (o : OwnC K C) : pC (rIsi K) [.int i, .ref C] H (.bl false) := fun _ q => ⟨_, _, _, _, false, rfl, .own C, .base (.int i), o.f, q⟩
theorem p_isOwnL (o : OwnC K C) (e : H b = some (.lst xs)) : pC (rIsi K) [.ref b, .ref C] H (.bl false) := fun _ q => ⟨_, _, _, _, false, rfl, .own C, .base (.lst e), o.g, q⟩
theorem k_own {a dy : Addr} {gs : List (Str × V)} {sp : Sp} (o : OwnC K C) (ha : H a = some (.ins C dx fs)) (hb : H b = some (.ins C dy gs)) (q : sp [.ref a, .ref b] H (fun v H' => (∃ k, v = .bl k) ∧ Q v H') E0) : rOwn K C sp (.ref a) (.ref b) H Q := ⟨a, dx, fs, _, rfl, ha, .own hb, o.j, q⟩
theorem k_ownI {a : Addr} {sp : Sp} (o : OwnC K C) (ha : H a = some (.ins C dx fs)) (q : sp [.ref a, .int i] H (fun v H' => (∃ k, v = .bl k) ∧ Q v H') E0) : rOwn K C sp (.ref a) (.int i) H Q := ⟨a, dx, fs, _, rfl, ha, .int i, o.h, q⟩
theorem k_ownL {a : Addr} {sp : Sp} (o : OwnC K C) (ha : H a = some (.ins C dx fs)) (hb : H b = some (.lst xs)) (q : sp [.ref a, .ref b] H (fun v H' => (∃ k, v = .bl k) ∧ Q v H') E0) : rOwn K C sp (.ref a) (.ref b) H Q := ⟨a, dx, fs, _, rfl, ha, .lst hb, o.i, q⟩
def mIsB : R2 := fun x y H Q => match x, y with
  | .bl a, .bl b => Q (.bl (decide (a = b))) H
  | _, _ => False
def mNotB : R2 := fun x y H Q => match x, y with
  | .bl a, .bl b => Q (.bl (!decide (a = b))) H
  | _, _ => False
theorem op_mIsB {X : Cx} : OpR X (compareOp .Is) mIsB := op_imp op_isBl fun x y H Q h => by
  cases x <;> cases y <;> first | exact h.elim | exact ⟨_, _, rfl, rfl, h⟩
theorem op_mNotB {X : Cx} : OpR X (compareOp .IsNot) mNotB := op_imp op_notBl fun x y H Q h => by
  cases x <;> cases y <;> first | exact h.elim | exact ⟨_, _, rfl, rfl, h⟩
theorem p_isB {x y : Bool} : pR mIsB (.bl x) (.bl y) H (.bl (decide (x = y))) := fun _ q => q
theorem p_notB {x y : Bool} : pR mNotB (.bl x) (.bl y) H (.bl (!decide (x = y))) := fun _ q => q
def kAug (n : Nat) (g : Int → Int → Int) (D : Ends) (σ : L2.St) (x : Int) : VK := fun y H1 => match y with
  | .int z => D.nx (σ.set n (some (.int (g x z)))) H1
  | _ => False
theorem w_augK {n : Nat} {g : Int → Int → Int} {x : Int} {te : TE} {D : Ends} (h : σ[n]? = some (some (.int x))) (q : te σ H (kAug n g D σ x)) : mAug n te g D σ H := by
  unfold mAug
  simp only [h]
  exact q
theorem k_kAug {n : Nat} {g : Int → Int → Int} {x z : Int} {D : Ends} (h : D.nx (σ.set n (some (.int (g x z)))) H) : kAug n g D σ x (.int z) H := h
end
end PB

set_option maxRecDepth 100000
set_option autoImplicit false
set_option maxHeartbeats 4000000
namespace PB
open PySem PySem.Spec PyProof.Rows L2
/-! ### a slice stored, its end given or not -/
theorem sb_to {i j n : Nat} (h1 : i ≤ j) (h2 : j ≤ n) : sliceBounds (some (i : Int)) (some (j : Int)) none n = ((i : Int), (j : Int), 1) := by
  simp only [sliceBounds, Option.getD_none, show ¬ ((i : Int) < 0) by omega, show ¬ ((j : Int) < 0) by omega, if_false, show (1 : Int) > 0 by decide, if_true, Prod.mk.injEq, and_true]
  omega
theorem sb_open {i n : Nat} (h1 : i ≤ n) : sliceBounds (some (i : Int)) none none n = ((i : Int), (n : Int), 1) := by
  simp only [sliceBounds, Option.getD_none, show ¬ ((i : Int) < 0) by omega, if_false, show (1 : Int) > 0 by decide, if_true, Prod.mk.injEq, and_true]
  omega
theorem sb_upto {j n : Nat} (h2 : j ≤ n) : sliceBounds none (some (j : Int)) none n = (0, (j : Int), 1) := by
  show ((0 : Int), (if (1 : Int) > 0 then max 0 (min (if (j : Int) < 0 then (j : Int) + n else (j : Int)) n) else _), (1 : Int)) = _
  rw [if_pos (by decide), if_neg (by omega), show max 0 (min (j : Int) n) = j by omega]
section
variable {prog : Program} {w : World} {A : Around} {E : Value → Shared → Prop} {s : Shared}
theorem setSl {l b sl : Addr} {items new : Array Value} {n n2 : Nat} {vl vu : Value} {lo hi : Option Int} {i j : Nat} {Q : Unit → Shared → Prop} (e : s.heap.get? l = some { cls := .type "list", data := .seq items n })
    (e2 : s.heap.get? b = some { cls := .type "list", data := .seq new n2 }) (hne : l ≠ b) (hs : s.heap.IsSliceOf sl vl vu .none) (pl : IsPart vl lo) (pu : IsPart vu hi) (hb : sliceBounds lo hi none items.size = ((i : Int), (j : Int), 1)) (hij : i ≤ j)
    (hz : items.size + new.size ≤ sizeLine) (h : Q () { s with heap := s.heap.update l (Obj.mapSeq fun xs => xs.extract 0 i ++ new ++ xs.extract j xs.size) }) : wpAny (model prog w) A (setItem (.ref l) (.ref sl) (.ref b)) Q E s := by
  have tl : s.TypeIs (.ref l) "list" := (PySem.IsL.isList e).typeIs
  have tb : s.TypeIs (.ref b) "list" := (PySem.IsL.isList e2).typeIs
  obtain ⟨o, ho, hc, hd⟩ := id hs
  have ts : s.TypeIs (.ref sl) "slice" := ⟨o, ho, hc⟩
  have same : Builtin.List.listSameRef (.ref l) (.ref b) = false := beq_eq_false_iff_ne.mpr hne
  have zf : ((fun xs : Array Value => xs.extract 0 i ++ new ++ xs.extract j xs.size) items).size ≤ sizeLine + 1 := by
    simp only [Array.size_append, Array.size_extract]; omega
  unfold setItem; (try with_reducible refine wpAny_holding ?_); (first | refine wpAny_bind (wpAny_pure ?_) | skip)
  refine wpAny_bind (wpAny_sequenceKey tl (by decide) (wpAny_bind (wpAny_callSpecial?_slot (name := Str.ofString "__setitem__") tl slot_list_setitem (wpAny_call_entry slot_list_setitem tl entry_list_setitem ?_ (args_list_setitem _ _ _)))))
  show wpAny _ _ (Builtin.List.listSubscript? (.ref sl) >>= _) _ _ s
  refine wpAny_bind ?_; unfold Builtin.List.listSubscript?
  refine wpAny_bind (wpAny_specialOf ts slice_no_index ?_); simp only [Option.isNone_none, if_true]
  refine wpAny_pure (?_ : wpAny _ _ (typeOf (.ref sl) >>= _) _ _ s)
  refine wpAny_bind (wpAny_typeOf ts ?_); (first | rw [if_neg (by decide)] | refine PySem.W.KFB.if_not (by decide) ?_)
  rw [listSliceParts_eq]; refine wpAny_bind (wpAny_bind (wpAny_field ho hd (x := .none) rfl (wpAny_bind (wpAny_listPart .none ?_))))
  rw [if_neg (show ¬ ((rawPart none == rawInt 0) = true) from Bool.false_ne_true)]
  refine wpAny_bind (wpAny_field ho hd (x := vl) rfl (wpAny_bind (wpAny_listPart pl (wpAny_bind (wpAny_field ho hd (x := vu) rfl (wpAny_bind (wpAny_listPart pu (wpAny_pure ?_))))))))
  (first | simp only [same, Bool.false_eq_true, if_false] | refine PySem.W.KFB.if_not same ?_ | (dsimp only; rw [if_neg (by rw [same]; exact Bool.false_ne_true)]))
  refine wpAny_bind (m := Builtin.List.listAllItems (.ref b) "must assign iterable to extended slice") ?_; unfold Builtin.List.listAllItems
  refine wpAny_bind (wpAny_typeOf tb ?_); (first | refine PySem.W.KFB.if_so (by decide) ?_ | rw [if_pos (by decide)] | simp only [beq_self_eq_true, Bool.true_or, if_true])
  unfold Builtin.List.listItems; refine wpAny_bind (wpAny_seqItems e2 rfl (wpAny_pure (wpAny_bind (wpAny_bind (wpAny_seqItems e rfl (wpAny_pure ?_))))))
  refine wpAny_bind (wpAny_of_eq ((sliceIndices_raw lo hi none items.size (by simp)).trans (congrArg (pure : Int × Int × Int → Sem (Int × Int × Int)) hb)) ?_)
  show wpAny _ _ (if ((1 : Int) == 1) = true then _ else _) _ _ s
  rw [if_pos (by decide)]; refine wpAny_bind (wpAny_rule ?_)
  (first | simp only [notLongL hz, Bool.false_eq_true, if_false] | refine PySem.W.KFB.if_not (notLongL hz) ?_); (first | refine wpAny_bind (wpAny_pure ?_) | skip)
  show wpAny _ _ (updateSeq l (fun xs => xs.extract 0 ((i : Int)).toNat ++ new ++ xs.extract (max (i : Int) (j : Int)).toNat xs.size) >>= _) _ _ s
  rw [show (max (i : Int) (j : Int)).toNat = j by omega, Int.toNat_natCast]
  refine wpAny_bind (wpAny_updateSeq (hz := Nat.le_trans (Nat.le_add_right _ _) hz) (_hz' := zf) e rfl (wpAny_bind (wpAny_letGo ?_)))
  (first | exact wpAny_bind (wpAny_pure (wpAny_pure ⟨.none, rfl, wpAny_pure h⟩)) | exact wpAny_pure ⟨.none, rfl, wpAny_pure h⟩)
end
def mSetSl (ta : TE) (tl th : TO) (tv : TE) : TS := fun D σ H => tv σ H fun v H1 => ta σ H1 fun x H2 => tl σ H2 fun lo H3 => th σ H3 fun hi H4 => ∃ (l b : Addr) (xs ys : List V) (i j : Nat), x = .ref l ∧ v = .ref b ∧ H4 l = some (.lst xs) ∧ H4 b = some (.lst ys) ∧ l ≠ b ∧
  sliceBounds lo hi none xs.length = ((i : Int), (j : Int), 1) ∧ i ≤ j ∧ xs.length + ys.length ≤ sizeLine ∧ D.nx σ (upd H4 l (.lst (xs.take i ++ ys ++ xs.drop j)))
theorem ps_setsl {X : Cx} {o value : Expr} {lo hi : Option Expr} {ta tv : TE} {tl th : TO} {sp tp pos : Pos} (ho : PE X o ta) (hl : PO X lo tl) (hh : PO X hi th) (hv : PE X value tv)
    (hs : swapsWith value (some (.Subscript o (.Slice lo hi none sp) tp)) pos.line X.env = pure false) : PS X (.Assign [.Subscript o (.Slice lo hi none sp) tp] value pos) (mSetSl ta tl th tv) := by
  refine ⟨fun pins s σ H D I h => ?_⟩
  refine wpAny_Assign_Subscript (thn (hv.run pins s σ H _ I h) fun r s1 ⟨v, H1, I1, rv, q1⟩ => thn (ho.run pins s1 σ H1 _ I1 q1) fun u s2 ⟨x, H2, I2, rx, q2⟩ => ?_) hs
  refine wpAny_Slice (thn (hl.run pins s2 σ H2 _ I2 q2) fun vl s3 ⟨l', H3, I3, pl, q3⟩ => thn (hh.run pins s3 σ H3 _ I3 q3) fun vu s4 ⟨u', H4, I4, pu, q4⟩ => ?_)
  rw [evalPart_none]
  obtain ⟨l, b, xs, ys, i, j, rfl, rfl, hH, hB, hne, hb, hij, hz, q⟩ := q4
  obtain rfl : u = Value.ref l := rx
  obtain rfl : r = Value.ref b := rv
  refine wpAny_pure (?_ : wpAny (model X.prog X.w) X.A (setItem (.ref l) (.ref s4.heap.objs.size) (.ref b)) _ X.xe { s4 with heap := s4.heap.push { cls := .type "slice", data := .fields #[vl, vu, .none] } })
  have I5 : Inv X pins σ H4 { s4 with heap := s4.heap.push { cls := .type "slice", data := .fields #[vl, vu, .none] } } := I4.kept (t' := s4.toks) fun b ob q => Heap.get?_push_of_some _ q
  obtain ⟨z, its, n, ri, hi1, e⟩ := I5.lstM hH
  obtain ⟨z2, its2, n2, ri2, hi2, e2⟩ := I5.lstM hB
  refine setSl (i := i) (j := j) e e2 hne (Heap.IsSliceOf.new ..) pl pu (by rw [List.size_toArray, ← hi1]; exact hb) hij (by rw [List.size_toArray, List.size_toArray]; omega) ?_
  refine ⟨σ, _, I5.lset (its' := its.take i ++ its2 ++ its.drop j) (t' := s4.toks) hH e (splice_eq its its2 i j) (Vals.append (Vals.append (ri.take _) ri2) (ri.drop _)) ?_, q⟩
  rw [List.length_append, List.length_append, List.length_take, List.length_drop]
  omega
end PB

set_option maxRecDepth 100000
set_option autoImplicit false
set_option maxHeartbeats 4000000
namespace PB
open PySem PySem.Spec PyProof.Rows L2
/-! ### the first items of a list deleted -/
section
variable {prog : Program} {w : World} {A : Around} {E : Value → Shared → Prop} {s : Shared}
theorem cutIdx (j : Nat) : ∀ (xs : List Value) (k : Nat), (xs.zipIdx k).filterMap (fun p => if (decide ((0 : Int) ≤ (p.2 : Int)) && decide ((p.2 : Int) < (j : Int)) && ((p.2 : Int) - 0) % 1 == 0) = true then none else some p.1) = xs.drop (j - k)
  | [], k => by simp
  | x :: xs, k => by
    rw [List.zipIdx_cons, List.filterMap_cons, cutIdx j xs (k + 1)]
    by_cases c : k < j
    · have e : (decide ((0 : Int) ≤ (k : Int)) && decide ((k : Int) < (j : Int)) && ((k : Int) - 0) % 1 == 0) = true := by
        rw [decide_eq_true (show (0 : Int) ≤ k by omega), decide_eq_true (show (k : Int) < j by omega), show ((k : Int) - 0) % 1 = 0 by omega]; rfl
      simp only [e, if_true]
      rw [show j - k = (j - (k + 1)) + 1 by omega, List.drop_succ_cons]
    · have e : (decide ((0 : Int) ≤ (k : Int)) && decide ((k : Int) < (j : Int)) && ((k : Int) - 0) % 1 == 0) = false := by
        rw [decide_eq_false (show ¬ (k : Int) < j by omega)]; simp
      simp only [e, Bool.false_eq_true, if_false]
      rw [show j - (k + 1) = 0 by omega, show j - k = 0 by omega, List.drop_zero, List.drop_zero]
def dropF (start stop step : Int) : Value × Nat → Option Value := fun (x, k) => if (if step > 0 then decide (start ≤ (k : Int)) && decide ((k : Int) < stop) && ((k : Int) - start) % step == 0 else decide (stop < (k : Int)) && decide ((k : Int) ≤ start) && (start - (k : Int)) % (-step) == 0) = true then none else some x
theorem delSl {l sl : Addr} {items : Array Value} {n : Nat} {vl vu : Value} {lo hi : Option Int} {j : Nat} {Q : Unit → Shared → Prop} (e : s.heap.get? l = some { cls := .type "list", data := .seq items n })
    (hs : s.heap.IsSliceOf sl vl vu .none) (pl : IsPart vl lo) (pu : IsPart vu hi) (hb : sliceBounds lo hi none items.size = (0, (j : Int), 1)) (hz : items.size ≤ sizeLine)
    (h : Q () { s with heap := s.heap.update l (Obj.mapSeq fun xs => (xs.toList.drop j).toArray) }) : wpAny (model prog w) A (delItem (.ref l) (.ref sl)) Q E s := by
  have tl : s.TypeIs (.ref l) "list" := (PySem.IsL.isList e).typeIs
  obtain ⟨o, ho, hc, hd⟩ := id hs
  have ts : s.TypeIs (.ref sl) "slice" := ⟨o, ho, hc⟩
  refine wpAny_delItem_slot tl (by decide) F.slot_list_delitem (wpAny_call_entry F.slot_list_delitem tl F.entry_list_delitem ?_ (F.args_list_delitem_2 _ _))
  show wpAny _ _ (Builtin.List.listSubscript? (.ref sl) >>= _) _ _ s
  refine wpAny_bind ?_; unfold Builtin.List.listSubscript?
  refine wpAny_bind (wpAny_specialOf ts slice_no_index ?_); simp only [Option.isNone_none, if_true]
  refine wpAny_pure (?_ : wpAny _ _ (typeOf (.ref sl) >>= _) _ _ s)
  refine wpAny_bind (wpAny_typeOf ts ?_); (first | rw [if_neg (by decide)] | refine PySem.W.KFB.if_not (by decide) ?_)
  rw [listSliceParts_eq]; refine wpAny_bind (wpAny_bind (wpAny_field ho hd (x := .none) rfl (wpAny_bind (wpAny_listPart .none ?_))))
  rw [if_neg (show ¬ ((rawPart none == rawInt 0) = true) from Bool.false_ne_true)]
  refine wpAny_bind (wpAny_field ho hd (x := vl) rfl (wpAny_bind (wpAny_listPart pl (wpAny_bind (wpAny_field ho hd (x := vu) rfl (wpAny_bind (wpAny_listPart pu (wpAny_pure ?_))))))))
  unfold Builtin.List.listItems; refine wpAny_bind (wpAny_bind (wpAny_seqItems e rfl (wpAny_pure ?_)))
  refine wpAny_bind (wpAny_of_eq ((sliceIndices_raw lo hi none items.size (by simp)).trans (congrArg (pure : Int × Int × Int → Sem (Int × Int × Int)) hb)) ?_)
  refine wpAny_bind (wpAny_rule ?_)
  show wpAny _ _ (updateSeq l (fun xs => (xs.toList.zipIdx.filterMap (dropF (0 : Int) (j : Int) 1)).toArray) >>= _) _ _ s
  have ef : (fun xs : Array Value => (xs.toList.zipIdx.filterMap (dropF (0 : Int) (j : Int) 1)).toArray) = fun xs => (xs.toList.drop j).toArray := funext fun xs => by
    rw [show dropF (0 : Int) (j : Int) 1 = fun p => if (decide ((0 : Int) ≤ (p.2 : Int)) && decide ((p.2 : Int) < (j : Int)) && ((p.2 : Int) - 0) % 1 == 0) = true then none else some p.1 from funext fun ⟨x, k⟩ => rfl]
    rw [cutIdx j xs.toList 0]; rfl
  rw [ef]
  have zf : ((fun xs : Array Value => (xs.toList.drop j).toArray) items).size ≤ sizeLine + 1 := by
    simp only [List.size_toArray, List.length_drop, Array.length_toList]; omega
  refine wpAny_bind (wpAny_updateSeq (hz := hz) (_hz' := zf) e rfl (wpAny_bind (wpAny_letGo ?_)))
  exact wpAny_pure ⟨.none, rfl, h⟩
end
def mDelSl (ta : TE) (tl th : TO) : TS := fun D σ H => ta σ H fun x H1 => tl σ H1 fun lo H2 => th σ H2 fun hi H3 => ∃ (l : Addr) (xs : List V) (j : Nat), x = .ref l ∧ H3 l = some (.lst xs) ∧ sliceBounds lo hi none xs.length = (0, (j : Int), 1) ∧ D.nx σ (upd H3 l (.lst (xs.drop j)))
/-- a written tuple as it lies -/
structure KTx (K : PySem.W.Frag) (a : Addr) (zs : List V) : Prop where
  ex : ∃ (its : Array Value) (n : Nat), K.lookup a = some ⟨.type "tuple", none, .seq its n, #[]⟩ ∧ Vals zs its.toList ∧ its.size ≤ 1000
def isTx (K : PySem.W.Frag) (ns : List Int) (a : Addr) : Bool := match K.lookup a with
  | some ⟨.type c, none, .seq its _, sl⟩ => decide (c = "tuple") && (sl.isEmpty && (decide (its.size ≤ 1000) && isDs K (ns.map PyData.int) its.toList))
  | _ => false
theorem isTx_ok {K : PySem.W.Frag} {ns : List Int} {a : Addr} (h : isTx K ns a = true) : KTx K a (ns.map V.int) := by
  unfold isTx at h
  split at h
  · rename_i c its n sl e
    obtain ⟨h1, h2⟩ := He.ba h
    obtain ⟨h3, h4⟩ := He.ba h2
    obtain ⟨h5, h6⟩ := He.ba h4
    have e1 : c = "tuple" := of_decide_eq_true h1
    have e2 : sl = #[] := Array.isEmpty_iff.mp h3
    subst e1 e2
    refine ⟨its, n, e, ?_, of_decide_eq_true h5⟩
    have : ∀ (ns : List Int) (us : List Value), isDs K (ns.map PyData.int) us = true → Vals (ns.map V.int) us := by
      intro ns
      induction ns with
      | nil => intro us h; cases us with
        | nil => exact .nil
        | cons _ _ => simp [isDs] at h
      | cons n ns ih => intro us h; cases us with
        | nil => simp [isDs] at h
        | cons u us =>
          rw [List.map_cons] at h
          unfold isDs at h
          obtain ⟨k1, k2⟩ := He.ba h
          cases u with
          | int i t => unfold isD at k1; exact .cons ⟨t, by rw [of_decide_eq_true k1]⟩ (ih us k2)
          | _ => simp [isD] at k1
    exact this ns _ h6
  · cases h
def rExt (K : PySem.W.Frag) : V → List V → Hp → VK → Prop := fun x vs H Q => ∃ l b xs zs, x = .ref l ∧ vs = [.ref b] ∧ H l = some (.lst xs) ∧ (H b = some (.lst zs) ∨ KTx K b zs) ∧ xs.length + zs.length ≤ sizeLine ∧ Q .non (upd H l (.lst (xs ++ zs)))
theorem mt_ext {X : Cx} : MtR X "list.extend" (rExt X.K) := by
  intro pins s σ H x vs v us Q I rx rv h
  obtain ⟨l, b, xs, zs, rfl, rfl, hH, hB | hB, hz, q⟩ := h
  · exact mt_extend pins s σ H (.ref l) [.ref b] v us Q I rx rv ⟨l, b, xs, zs, rfl, rfl, hH, hB, hz, q⟩
  · obtain rfl : v = Value.ref l := rx
    obtain ⟨u, rfl, ru⟩ := rv.one
    obtain rfl : u = Value.ref b := ru
    obtain ⟨its2, n2, hl2, r2, z2⟩ := hB.ex
    obtain ⟨z, its, n, r, hl, e⟩ := I.lstM hH
    have ll := r2.length
    have sz : its.toArray.size + its2.size ≤ sizeLine := by rw [List.size_toArray, ← Array.length_toList]; omega
    have long : ¬ (!its.toArray.isEmpty && Builtin.List.listTooLong (its.toArray.size + its2.size)) = true := by rw [notLongL sz, Bool.and_false]; exact Bool.false_ne_true
    refine call_meets F.slot_list_extend ⟨_, e, rfl⟩ F.entry_list_extend (F.args_list_extend_2 _ _) (AutoSeq1.list_extend_list_tuple_0 l its.toArray n b its2 n2 long (by rw [List.size_toArray]; omega) (by omega)) ⟨e, I.kIn _ _ hl2, ?_⟩
    refine ⟨.non, _, I.lset (its' := its ++ its2.toList) hH e (by simp) (r.append r2) ?_, rfl, q⟩
    rw [List.length_append]; exact hz
theorem ps_delsl {X : Cx} {o : Expr} {lo hi : Option Expr} {ta : TE} {tl th : TO} {sp tp pos : Pos} (ho : PE X o ta) (hl : PO X lo tl) (hh : PO X hi th) : PS X (.Delete [.Subscript o (.Slice lo hi none sp) tp] pos) (mDelSl ta tl th) := by
  refine ⟨fun pins s σ H D I h => ?_⟩
  refine wpAny_Delete (wpAny_deleteEach_cons (wpAny_delete_Subscript (thn (ho.run pins s σ H _ I h) fun u s1 ⟨x, H1, I1, rx, q1⟩ => ?_)))
  refine wpAny_Slice (thn (hl.run pins s1 σ H1 _ I1 q1) fun vl s2 ⟨l', H2, I2, pl, q2⟩ => thn (hh.run pins s2 σ H2 _ I2 q2) fun vu s3 ⟨u', H3, I3, pu, q3⟩ => ?_)
  rw [evalPart_none]
  obtain ⟨l, xs, j, rfl, hH, hb, q⟩ := q3
  obtain rfl : u = Value.ref l := rx
  refine wpAny_pure (?_ : wpAny (model X.prog X.w) X.A (delItem (.ref l) (.ref s3.heap.objs.size)) _ X.xe { s3 with heap := s3.heap.push { cls := .type "slice", data := .fields #[vl, vu, .none] } })
  have I4 : Inv X pins σ H3 { s3 with heap := s3.heap.push { cls := .type "slice", data := .fields #[vl, vu, .none] } } := I3.kept (t' := s3.toks) fun b ob q => Heap.get?_push_of_some _ q
  obtain ⟨z, its, n, ri, hi1, e⟩ := I4.lstM hH
  refine delSl (j := j) e (Heap.IsSliceOf.new ..) pl pu (by rw [List.size_toArray, ← hi1]; exact hb) (by rw [List.size_toArray]; omega) ?_
  refine wpAny_deleteEach_nil ⟨σ, _, I4.lset (its' := its.drop j) (t' := s3.toks) hH e (by simp) (ri.drop _) ?_, q⟩
  rw [List.length_drop]
  omega
/-! ### an attribute as one of several targets -/
def gObj (C : Addr) (names : List Str) (i : Nat) (to : TE) : TG := fun v σ H Q => to σ H fun x H1 => ∃ p dx vals, x = .ref p ∧ H1 p = some (.ins C dx (names.zip vals)) ∧ i ≤ vals.length ∧ Q σ (upd H1 p (.ins C dx (names.zip (setN vals i v))))
theorem pg_obj {X : Cx} {C : Addr} {names : List Str} {i : Nat} {f : Str} {o : Expr} {to : TE} {pos : Pos} (cl : Cls X.K C) (na : NoAttr X.K C f) (nd : names.Nodup) (hi : names[i]? = some f) (hl : names.length < 1000) (ho : PE X o to)
    (ha : ∀ v, assign (.Attribute o f pos) X.env v = (do
      let ov ← holding [v] (eval o X.env); standAt pos.atName
      holding [v, ov] (setAttr ov f v); release [v, ov] []) := by intro _; rfl) : PG X (.Attribute o f pos) (gObj C names i to) := by
  refine ⟨fun pins s σ H v u Q I r h => ?_⟩
  rw [ha]
  refine wpAny_bind (wpAny_holding (thn (ho.run pins s σ H _ I h) fun ov s1 ⟨x, H1, I1, r1, p, dx, vals, ex, ea, hle, q1⟩ => ?_))
  subst ex
  obtain rfl : ov = Value.ref p := r1
  refine wpAny_bind (wpAny_standAt (wpAny_bind (wpAny_holding (setattr_ok I1 ea cl na (by simp; omega) r fun s3 I3 => ?_))))
  rw [put_z nd hi hle] at I3
  exact wpAny_release ⟨σ, _, I3, q1⟩
/-! ### texts put together: numbers and written signs -/
def mJoin (ts : List TE) : TE := fun σ H Q => tJs ts Str.empty σ H fun out H1 => Q (.str out) H1
end PB

set_option maxRecDepth 100000
set_option autoImplicit false
set_option maxHeartbeats 4000000
namespace PB
open PySem PySem.Spec PyProof.Rows L2
open C8 (Mak)
/-! ### C(e, .., k = v): a keyword-only parameter of __init__, given or by its default -/
structure MakK (P : Program) (w : World) (K : PySem.W.Frag) (mg : Str → Option Value) (base : Heap) (k : Nat) (x : Str) (C : Addr) (sp : Sp) (n : Nat) (ks : List Str) : Prop where
  ex : ∃ (f : Addr) (fd : FuncData) (ps : List Str), Mk K C f ∧ FnOk P w K mg base CX0 k f fd ps sp ∧ mg x = some (.ref C) ∧ KBn K fd ps (n + 1) ks (fun us ws => us ++ ws) (fun vs zs => vs ++ zs)
def mMakeK (C : Addr) (sp : Sp) (n m : Nat) (t tk : TA) : TE := fun σ H Q => t σ H fun vs H1 => tk σ H1 fun zs H2 => vs.length = n ∧ zs.length = m ∧ ∀ x dx, H2 x = none → H2 dx = none → dx ≠ x →
  sp (.ref x :: (vs ++ zs)) (upd (upd H2 dx (.own x)) x (.ins C dx [])) (fun v H3 => v = .non ∧ Q (.ref x) H3) E0
theorem pe_mmkK {X : Cx} {C : Addr} {sp : Sp} {j k n m : Nat} {x : Str} {ks : List Str} {e : Expr} {es : List Expr} {kws : List Keyword} {t tk : TA} {pos pos' : Pos} (c : MakK X.prog X.w X.K X.mg X.base k x C sp n ks) (hr : Room j X.A) (hk : k + 1 ≤ j) (hg : Gl X x) (ha : PA X (e :: es) t) (hkw : PK X kws tk)
    (hm' : ks.length = m := by rfl) (hks : (backToKw pos (keywordEach kws X.env)).filterMap (·.1) = ks := by rfl) (hall : (backToKw pos (keywordEach kws X.env)).all (·.1.isSome) = true := by rfl) (hdb : (x == ("__debug__" : Str)) = false := by decide)
    (he : starEach (e :: es) X.env = (false, eval e X.env) :: starEach es X.env := by rfl) (hpl : ((backTo pos (starEach (e :: es) X.env)).any (·.1) || (backToKw pos (keywordEach kws X.env)).any (·.1.isNone)) = false := by rfl) :
    PE X (.Call (.Name x pos') (e :: es) kws pos) (mMakeK C sp n m t tk) := by
  subst hm'
  obtain ⟨f, fd, ps, M, F, hm, b⟩ := c.ex
  exact pe_makeK (E := L2.E0) M F (hr.mono hk) hg hm b pass0 ha hkw hall hks hdb he hpl
theorem makK_ok {P : Program} {w : World} {K : PySem.W.Frag} {mg : Str → Option Value} {base : Heap} {x qual : Str} {st : Stmt} {N ps ks : List Str} {kws : List (Str × V)} {k n : Nat} {sp : Sp} {t : TS}
    (F : ∃ fd, FunD K "__init__" qual (defArgs st) (defBody st) (defScope st) [] kws (He.ma K (He.ga K x) "__init__") fd) (g : mg x = some (.ref (He.ga K x))) (M : Mk K (He.ga K x) (He.ma K (He.ga K x) "__init__")) (hk : kws ≠ [])
    (S : FnScope N ps (defScope st)) (len : Len ps.length sp) (hb : ∀ (D : Addr) (doc pm : Value) (an : Option Addr) (cdv ct : Value) (us ws : List Value), us.length = n + 1 → ws.length = ks.length →
      bindArgs (PySem.W.fnOf "__init__" qual (defArgs st) (defBody st) (defScope st) .none (.ref D) doc pm an cdv ct) ⟨us, ks.zip ws⟩ = pure (ps.zip (us ++ ws)))
    (b : Body P w K mg base k N qual st t) (p : Pure N sp t) : MakK P w K mg base (k + 1) x (He.ga K x) sp n ks := by
  obtain ⟨fd, F⟩ := F
  obtain ⟨mv, kb⟩ := F.kbinds0 (ps := ps) (n + 1) ks [] (fun vs mz zs => vs ++ zs) hk (fun q h => by cases h) (fun r1 _ r2 => r1.append r2) (fun D doc pm an cdv ct us mv ws l1 _ l3 => hb D doc pm an cdv ct us ws l1 l3)
  exact ⟨_, fd, ps, M, F.ok S len fun cdv A outer s H vs Q E hr h => ⟨t, (b _ cdv A outer s H E hr).nox, p vs H Q E h⟩, g, kb⟩
theorem makD_ok {P : Program} {w : World} {K : PySem.W.Frag} {mg : Str → Option Value} {base : Heap} {x qual : Str} {st : Stmt} {N ps : List Str} {kws : List (Str × V)} {k n : Nat} {sp : Sp} {t : TS}
    (F : ∃ fd, FunD K "__init__" qual (defArgs st) (defBody st) (defScope st) [] kws (He.ma K (He.ga K x) "__init__") fd) (g : mg x = some (.ref (He.ga K x))) (M : Mk K (He.ga K x) (He.ma K (He.ga K x) "__init__")) (hk : kws ≠ []) (hn : n + 1 + kws.length = ps.length)
    (S : FnScope N ps (defScope st)) (len : Len ps.length sp) (hb : ∀ (D : Addr) (doc pm : Value) (an : Option Addr) (cdv ct : Value) (us ks : List Value), us.length = n + 1 → ks.length = kws.length →
      KwChain D ((kws.map (·.1)).zip ks) (bindArgs (PySem.W.fnOf "__init__" qual (defArgs st) (defBody st) (defScope st) .none (.ref D) doc pm an cdv ct) ⟨us, []⟩) (ps.zip (us ++ ks)))
    (b : Body P w K mg base k N qual st t) (p : Pure N sp t) : Mak P w K mg base (k + 1) x (He.ga K x) sp (kws.map (·.2)) := by
  obtain ⟨fd, F⟩ := F
  obtain ⟨ds, rd, bd⟩ := F.binds0 (ps := ps) (n + 1) hk hn hb
  exact ⟨_, fd, ps, ds, M, F.ok S len fun cdv A outer s H vs Q E hr h => ⟨t, (b _ cdv A outer s H E hr).nox, p vs H Q E h⟩, g, bd, rd⟩
/-- with the defaults dvs behind -/
def mMakeD (C : Addr) (sp : Sp) (dvs : List V) (t : TA) : TE := fun σ H Q => t σ H fun vs H1 => ∀ x dx, H1 x = none → H1 dx = none → dx ≠ x →
  sp (.ref x :: vs ++ dvs) (upd (upd H1 dx (.own x)) x (.ins C dx [])) (fun v H2 => v = .non ∧ Q (.ref x) H2) E0
theorem pe_mmkD {X : Cx} {C : Addr} {sp : Sp} {j k : Nat} {x : Str} {dvs : List V} {e : Expr} {es : List Expr} {t : TA} {pos pos' : Pos} (c : Mak X.prog X.w X.K X.mg X.base k x C sp dvs) (hr : Room j X.A) (hk : k + 1 ≤ j) (hg : Gl X x) (ha : PA X (e :: es) t)
    (hdb : (x == ("__debug__" : Str)) = false := by decide) (he : starEach (e :: es) X.env = (false, eval e X.env) :: starEach es X.env := by rfl) (hpl : (backTo pos (starEach es X.env)).any (·.1) = false := by rfl) :
    PE X (.Call (.Name x pos') (e :: es) [] pos) (mMakeD C sp dvs t) := by
  obtain ⟨f, fd, ps, ds, M, F, hm, b, d⟩ := c.ex
  refine ⟨fun pins s σ H Q I h => ?_⟩
  refine wpAny_Call_Name_kw (ld_glob I hg hm ?_ hdb)
  refine PySem.W.callWith_K (first := []) (h₀ := X.base) I.ok.mod.kin M.kp (thn (ha.run pos pins s σ H _ I h) fun us s1 ⟨vs, H1, I1, r, q⟩ => ⟨I1.kIn, run_make (E := L2.E0) M F (hr.mono hk) b d pass0 I1 r q⟩) he hpl
end PB

local macro_rules | `(tactic| walk_at "ne") => `(tactic| first
  | assumption
  | (apply Ne.symm; assumption)
  | exact L2.ne_of (by assumption) (by assumption) (by intro z; cases z)
  | exact PB.ne_fresh (by assumption) (by assumption)
  | exact (PB.ne_fresh (by assumption) (by assumption)).symm
  | exact PB.ne_fresh (by assumption) (by walk_at "heap")
  | exact (PB.ne_fresh (by assumption) (by walk_at "heap")).symm)
local macro_rules | `(tactic| walk_at "heap") => `(tactic| first
  | assumption
  | exact L2.upd_same
  | (apply PB.get_ne; (· (walk_at "ne")); (· (walk_at "heap")))
  | exact PB.ext_get (by assumption) (by walk_at "heap"))
local macro_rules | `(tactic| walk_at "pR") => `(tactic| first
  | with_reducible exact PB.p_add
  | with_reducible exact PB.p_sub
  | with_reducible exact PB.p_eqI
  | with_reducible exact PB.p_neI
  | with_reducible exact PB.p_lt
  | with_reducible exact PB.p_le
  | with_reducible exact PB.p_gt
  | with_reducible exact PB.p_ge
  | with_reducible exact PB.p_eqB
  | with_reducible exact PB.p_neB
  | with_reducible exact PB.p_eqS
  | with_reducible exact PB.p_neS
  | with_reducible exact PB.p_isN
  | with_reducible exact PB.p_notN
  | with_reducible exact PB.p_bor
  | with_reducible exact PB.p_band
  | ((with_reducible apply PB.p_inDI); (· (assumption)))
  | ((with_reducible apply PB.p_ixDI); (· (assumption)); (· (assumption)))
  | ((with_reducible apply PB.p_mod); (· (first | omega | decide)))
  | ((with_reducible apply PB.p_div); (· (first | exact ⟨by omega, by decide +kernel⟩ | exact L2.wide_div (b := 64) (by omega) (by omega) (by decide) (by decide))))
  | ((with_reducible apply PB.p_mul); (· (first | assumption | exact PB.CMulW_of (by omega) (by omega))))
  | ((with_reducible apply PB.p_ixH); (· (walk_at "heap")); (· (first | rfl | assumption)))
  | ((with_reducible apply PB.p_ixU); (· (walk_at "heap")); (· (first | rfl | assumption)))
  | ((with_reducible apply PB.p_ixIU); (· (walk_at "heap")); (· (omega)); (· (first | omega | (simp only [List.length_map] at *; omega))))
  | ((with_reducible apply PB.p_ixIL); (· (assumption)); (· (omega)); (· (first | omega | (simp only [List.length_map] at *; omega))))
  | ((with_reducible apply PB.p_ixIH); (· (walk_at "heap")); (· (omega)); (· (first | omega | (simp only [List.length_map] at *; omega)))))
local macro_rules | `(tactic| walk_at "pC") => `(tactic| first
  | with_reducible exact PB.p_abs
  | with_reducible exact PB.p_max
  | with_reducible exact PB.p_min
  | with_reducible exact PB.p_intI
  | with_reducible exact PB.p_intB
  | with_reducible exact PB.p_boolB
  | with_reducible exact PB.p_boolI
  | ((with_reducible apply PB.p_lenH); (· (walk_at "heap")))
  | ((with_reducible apply PB.p_lenU); (· (walk_at "heap")))
  | ((with_reducible apply PB.p_lenL); (· (assumption)))
  | with_reducible exact PB.p_isInt
  | with_reducible exact PB.p_isIntB
  | ((with_reducible apply PB.p_isLst); (· (walk_at "heap")))
  | ((with_reducible apply PB.p_isTup); (· (walk_at "heap"))))
local macro_rules | `(tactic| walk_at "pA") => `(tactic| first
  | with_reducible exact PB.p_nil
  | ((with_reducible apply PB.p_cons); (· (walk_at "pE")); (· (walk_at "pA"))))
local macro_rules | `(tactic| walk_at "pE") => `(tactic| first
  | with_reducible exact PB.p_c
  | ((with_reducible apply PB.p_var); (· (exact rfl)))
  | ((with_reducible apply PB.p_op); (· (walk_at "pE")); (· (walk_at "pE")); (· (walk_at "pR")))
  | ((with_reducible apply PB.p_ofld); (· (walk_at "pE")); (· (walk_at "heap")); (· (exact rfl)))
  | ((with_reducible apply PB.p_dgetz); (· (walk_at "pE")); (· (walk_at "heap")); (· (exact rfl)))
  | ((with_reducible apply PB.p_chain); (· (walk_at "pE")); (· (walk_at "pE")); (· (walk_at "pR")); (· (walk_at "pE")); (· (walk_at "pR")))
  | ((with_reducible apply PB.p_cb); (· (walk_at "pA")); (· (walk_at "pC")))
  | ((with_reducible apply PB.p_neg); (· (walk_at "pE")))
  | ((with_reducible apply PB.p_notV); (· (walk_at "pE")))
  | ((with_reducible apply PB.p_andV); (· (walk_at "pE")); (· (intro _; walk_at "pE")))
  | ((with_reducible apply PB.p_orV); (· (walk_at "pE")); (· (intro _; walk_at "pE")))
  | ((with_reducible apply PB.p_call); (· (walk_at "pA")); (· (walk_at "pS"))))
local macro_rules | `(tactic| walk_at "pT") => `(tactic| first
  | with_reducible exact PB.p_yes
  | ((with_reducible apply PB.p_test); (· (walk_at "pE")))
  | ((with_reducible apply PB.p_and); (· (walk_at "pT")); (· (intro _; walk_at "pT")))
  | ((with_reducible apply PB.p_or); (· (walk_at "pT")); (· (intro _; walk_at "pT")))
  | ((with_reducible apply PB.p_not); (· (walk_at "pT")))
  | ((with_reducible apply PB.p_truB); (· (walk_at "pE")))
  | ((with_reducible apply PB.p_truI); (· (walk_at "pE")))
  | ((with_reducible apply PB.p_truL); (· (walk_at "pE")); (· (walk_at "heap"))))
local macro_rules | `(tactic| walk_at "cond") => `(tactic| (
  intro hcond
  try simp only [Bool.and_eq_true, Bool.or_eq_true, Bool.not_eq_true', Bool.not_eq_false', Bool.and_eq_false_iff, Bool.or_eq_false_iff, decide_eq_true_eq, decide_eq_false_iff_not, PB.intsL, List.mem_cons, List.not_mem_nil, or_false, Bool.not_not, Bool.false_eq_true, Bool.true_eq_false] at hcond) <;> try (exfalso; omega))
local macro_rules | `(tactic| walk_at "w") => `(tactic| first
  | ((with_reducible apply PB.w_seq))
  | ((with_reducible apply PB.w_cut))
  | ((with_reducible apply PB.w_if); (· (walk_at "pT")); all_goals walk_at "cond")
  | ((with_reducible apply PB.w_next))
  | ((with_reducible apply PB.w_ret); (· (walk_at "pE")))
  | ((with_reducible apply PB.w_retN))
  | ((with_reducible apply PB.w_asg); (· (walk_at "pE")))
  | ((with_reducible apply PB.w_oset2); (· (walk_at "pE")); (· (walk_at "pE")); (· (exact Nat.le_of_ble_eq_true rfl)))
  | ((with_reducible apply PB.w_oset); (· (walk_at "pE")); (· (walk_at "pE")); (· (walk_at "heap")); (· (exact Nat.le_of_ble_eq_true rfl)))
  | ((with_reducible apply PB.w_oaug2); (· (walk_at "pE")); (· (exact rfl)); (· (walk_at "pE")))
  | ((with_reducible apply PB.w_oaug); (· (walk_at "pE")); (· (walk_at "heap")); (· (exact rfl)); (· (walk_at "pE")))
  | ((with_reducible apply PB.w_aug); (· (exact rfl)); (· (walk_at "pE")))
  | ((with_reducible apply PB.w_dset2); (· (walk_at "pE")); (· (walk_at "pE")); (· (exact Nat.le_of_ble_eq_true rfl)))
  | ((with_reducible apply PB.w_dset); (· (walk_at "pE")); (· (walk_at "pE")); (· (walk_at "heap")); (· (exact Nat.le_of_ble_eq_true rfl)))
  | ((with_reducible apply PB.w_append); (· (walk_at "pE")); (· (walk_at "heap")); (· (walk_at "pE")); (· (first | assumption | (apply PB.sz_lt; omega))))
  | ((with_reducible apply PB.w_retT); (· (walk_at "pA")); (· (exact PB.szle rfl)))
  | ((with_reducible apply PB.w_retL); (· (walk_at "pA")); (· (exact PB.szle rfl)))
  | ((with_reducible apply PB.w_asgL); (· (walk_at "pA")); (· (exact PB.szle rfl)))
  | ((with_reducible apply PB.w_asgT); (· (walk_at "pA")); (· (exact PB.szle rfl)))
  | ((with_reducible apply PB.w_asgC); (· (walk_at "pA")))
  | ((with_reducible apply PB.w_retC); (· (walk_at "pA")))
  | ((with_reducible apply PB.w_dropC); (· (walk_at "pA")))
  | ((with_reducible apply PB.w_ifC); (· (walk_at "pA")))
  | ((with_reducible apply PB.w_appendT); (· (walk_at "pE")); (· (walk_at "heap")); (· (walk_at "pA")); (· (exact PB.szle rfl)); (· (first | assumption | (apply PB.sz_lt; omega))))
  | ((with_reducible apply PB.w_retM); (· (walk_at "pE")); (· (walk_at "heap")); (· (walk_at "pA")))
  | ((with_reducible apply PB.w_asgM); (· (walk_at "pE")); (· (walk_at "heap")); (· (walk_at "pA")))
  | ((with_reducible apply PB.w_dropM); (· (walk_at "pE")); (· (walk_at "heap")); (· (walk_at "pA")))
  | ((with_reducible apply PB.w_break))
  | ((with_reducible apply PB.w_cont))
  | ((with_reducible apply PB.w_asgK))
  | ((with_reducible apply PB.w_retK))
  | ((with_reducible apply PB.w_dropK))
  | ((with_reducible apply PB.w_osetK))
  | ((with_reducible apply PB.w_dsetK))
  | ((with_reducible apply PB.w_ifK))
  | ((with_reducible apply PB.k_kIf); all_goals walk_at "cond")
  | walk_at "k")
local macro_rules | `(tactic| walk_at "k") => `(tactic| first
  | ((with_reducible apply PB.k_tupP); (· (walk_at "pA")); (· (exact PB.szle rfl)))
  | ((with_reducible apply PB.k_lstP); (· (walk_at "pA")); (· (exact PB.szle rfl)))
  | ((with_reducible apply PB.k_call); (· (walk_at "pA")))
  | ((with_reducible apply PB.k_meth); (· (walk_at "pE")); (· (walk_at "heap")); (· (walk_at "pA")))
  | ((with_reducible apply PB.k_tup))
  | ((with_reducible apply PB.k_lst))
  | ((with_reducible apply PB.k_newT); (· (exact PB.szle rfl)))
  | ((with_reducible apply PB.k_newL); (· (exact PB.szle rfl)))
  | ((with_reducible apply PB.k_callK))
  | ((with_reducible apply PB.k_nil))
  | ((with_reducible apply PB.k_consP); (· (walk_at "pE")))
  | ((with_reducible apply PB.k_cons))
  | ((with_reducible apply PB.k_cb))
  | ((with_reducible apply PB.k_slP); (· (walk_at "pE")))
  | ((with_reducible apply PB.k_part); (· (walk_at "pE")))
  | ((with_reducible apply PB.k_noPart))
  | ((with_reducible apply PB.k_tupleOf); (· (walk_at "heap")))
  | ((with_reducible apply PB.k_listOf); (· (walk_at "heap")))
  | ((with_reducible apply PB.k_listOfL); (· (assumption)))
  | ((with_reducible apply PB.k_slL); (· (walk_at "heap")))
  | ((with_reducible apply PB.k_slLs); (· (assumption)))
  | ((with_reducible apply PB.k_cat); (· (walk_at "heap")); (· (walk_at "heap")); (· (first | exact PB.szle rfl | (apply PB.sz_le; simp only [List.length_map, List.length_append, List.length_cons, List.length_nil] at *; omega))))
  | ((with_reducible apply PB.k_inU); (· (walk_at "heap")); (· (exact rfl)))
  | ((with_reducible apply PB.k_inL); (· (walk_at "heap")); (· (exact rfl)))
  | ((with_reducible apply PB.k_notInL); (· (walk_at "heap")); (· (exact rfl)))
  | ((with_reducible apply PB.k_lc))
  | ((with_reducible apply PB.k_orP); (· (walk_at "pT")); all_goals walk_at "cond")
  | ((with_reducible apply PB.k_andP); (· (walk_at "pT")); all_goals walk_at "cond")
  | ((with_reducible apply PB.k_or))
  | ((with_reducible apply PB.k_and))
  | ((with_reducible apply PB.k_notK))
  | ((with_reducible apply PB.k_kOr); all_goals walk_at "cond")
  | ((with_reducible apply PB.k_kAnd); all_goals walk_at "cond")
  | ((with_reducible apply PB.k_kNot))
  | ((with_reducible apply PB.k_kM); (· (walk_at "heap")); (· (walk_at "pA")))
  | ((with_reducible apply PB.k_methK))
  | ((with_reducible apply PB.k_make); (· (walk_at "pA")))
  | ((with_reducible apply PB.k_testK))
  | ((with_reducible apply PB.k_kTest))
  | ((with_reducible apply PB.k_kTru))
  | ((with_reducible apply PB.k_kTruI))
  | ((with_reducible apply PB.k_kTruN))
  | ((with_reducible apply PB.k_truK))
  | ((with_reducible apply PB.k_op))
  | ((with_reducible apply PB.k_pure); (· (walk_at "pE"))))
local macro_rules | `(tactic| walk_at "ws") => `(tactic| repeat' walk_at "w")
local macro_rules | `(tactic| walk_at "len") => `(tactic| (
  intro vs H Q E h
  first
  | (obtain ⟨e, _⟩ := h; subst e; rfl)
  | (obtain ⟨_, e, _⟩ := h; subst e; rfl)
  | (obtain ⟨_, _, e, _⟩ := h; subst e; rfl)
  | (obtain ⟨_, _, _, e, _⟩ := h; subst e; rfl)
  | (obtain ⟨_, _, _, _, e, _⟩ := h; subst e; rfl)
  | (obtain ⟨_, _, _, _, _, e, _⟩ := h; subst e; rfl)
  | (obtain ⟨_, _, _, _, _, _, e, _⟩ := h; subst e; rfl)
  | (obtain ⟨_, _, _, _, _, _, _, e, _⟩ := h; subst e; rfl)
  | (obtain ⟨_, _, _, _, _, _, _, _, e, _⟩ := h; subst e; rfl)
  | (obtain ⟨_, _, _, _, _, _, _, _, _, e, _⟩ := h; subst e; rfl)
  | (obtain ⟨_, _, _, _, _, _, _, _, _, _, e, _⟩ := h; subst e; rfl)
  | (obtain ⟨_, _, _, _, _, _, _, _, _, _, _, e, _⟩ := h; subst e; rfl)))
namespace PG
open PySem PySem.Spec PyProof.Rows L2
open PB (setN)
/-! ### frames: what may change, what is new -/
def Fr (o o' : List Addr) (H H' : Hp) : Prop := (∀ a x, a ∉ o → H a = some x → H' a = some x) ∧ ∀ a, a ∈ o' → a ∈ o ∨ H a = none
theorem Fr.refl (o : List Addr) (H : Hp) : Fr o o H H := ⟨fun _ _ _ h => h, fun _ h => .inl h⟩
theorem Fr.trans {o o1 o2 : List Addr} {H H1 H2 : Hp} (a : Fr o o1 H H1) (b : Fr o1 o2 H1 H2) : Fr o o2 H H2 := by
  refine ⟨fun x y hx hy => b.1 x y (fun m => ?_) (a.1 x y hx hy), fun x m => ?_⟩
  · rcases a.2 x m with h | h
    · exact hx h
    · rw [hy] at h; cases h
  · rcases b.2 x m with h | h
    · exact a.2 x h
    · by_cases hx : x ∈ o
      · exact .inl hx
      · right
        cases e : H x with
        | none => rfl
        | some y => rw [a.1 x y hx e] at h; cases h
/-! ### data that never change: tuples of them, numbers, texts -/
mutual
def imm : PyData → Bool
  | .tuple ds => immAll ds
  | .list _ => false
  | .dict _ => false
  | _ => true
def immAll : List PyData → Bool
  | [] => true
  | d :: ds => imm d && immAll ds
end
/-- tuples stay -/
def Tst (H H' : Hp) : Prop := ∀ a xs, H a = some (.tup xs) → H' a = some (.tup xs)
theorem Tst.refl (H : Hp) : Tst H H := fun _ _ h => h
theorem Tst.trans {H H1 H2 : Hp} (a : Tst H H1) (b : Tst H1 H2) : Tst H H2 := fun x y h => b x y (a x y h)
/-! Dp, no tuple of it frozen -/
mutual
def Im (K : PySem.W.Frag) (H : Hp) : PyData → V → Prop
  | .tuple ds, v => ∃ a xs, v = .ref a ∧ H a = some (.tup xs) ∧ ImAll K H ds xs
  | .none, v => v = .non
  | .bool b, v => v = .bl b
  | .int i, v => v = .int i
  | .str x, v => v = .str x
  | .list _, _ => False
  | .dict _, _ => False
def ImAll (K : PySem.W.Frag) (H : Hp) : List PyData → List V → Prop
  | [], xs => xs = []
  | d :: ds, xs => ∃ v r, xs = v :: r ∧ Im K H d v ∧ ImAll K H ds r
end
mutual
theorem Im.mono {K : PySem.W.Frag} {H H' : Hp} (t : Tst H H') : ∀ (d : PyData) (v : V), Im K H d v → Im K H' d v
  | .tuple ds, v, h => by
    unfold Im at h ⊢
    obtain ⟨a, xs, rfl, h1, h2⟩ := h
    exact ⟨a, xs, rfl, t a xs h1, ImAll.mono t ds xs h2⟩
  | .none, v, h => by unfold Im at h ⊢; exact h
  | .bool b, v, h => by unfold Im at h ⊢; exact h
  | .int i, v, h => by unfold Im at h ⊢; exact h
  | .str x, v, h => by unfold Im at h ⊢; exact h
  | .list _, _, h => by unfold Im at h; exact h.elim
  | .dict _, _, h => by unfold Im at h; exact h.elim
theorem ImAll.mono {K : PySem.W.Frag} {H H' : Hp} (t : Tst H H') : ∀ (ds : List PyData) (xs : List V), ImAll K H ds xs → ImAll K H' ds xs
  | [], _, h => by unfold ImAll at h ⊢; exact h
  | d :: ds, xs, h => by
    unfold ImAll at h ⊢
    obtain ⟨v, r, rfl, h1, h2⟩ := h
    exact ⟨v, r, rfl, Im.mono t d v h1, ImAll.mono t ds r h2⟩
end
mutual
theorem Im.dp {K : PySem.W.Frag} {H : Hp} : ∀ (d : PyData) (v : V), Im K H d v → Dp K H v d
  | .tuple ds, v, h => by
    unfold Im at h
    obtain ⟨a, xs, rfl, h1, h2⟩ := h
    exact .tup (SqT.of h1) (ImAll.dp ds xs h2)
  | .none, v, h => by unfold Im at h; subst h; exact .non
  | .bool b, v, h => by unfold Im at h; subst h; exact .bl b
  | .int i, v, h => by unfold Im at h; subst h; exact .int i
  | .str x, v, h => by unfold Im at h; subst h; exact .str x
  | .list _, _, h => by unfold Im at h; exact h.elim
  | .dict _, _, h => by unfold Im at h; exact h.elim
theorem ImAll.dp {K : PySem.W.Frag} {H : Hp} : ∀ (ds : List PyData) (xs : List V), ImAll K H ds xs → DpAll K H xs ds
  | [], _, h => by unfold ImAll at h; subst h; exact .nil
  | d :: ds, xs, h => by
    unfold ImAll at h
    obtain ⟨v, r, rfl, h1, h2⟩ := h
    exact .cons (Im.dp d v h1) (ImAll.dp ds r h2)
end
theorem im_int {K : PySem.W.Frag} {H : Hp} {i : Int} : Im K H (.int i) (.int i) := by unfold Im; rfl
theorem im_str {K : PySem.W.Frag} {H : Hp} {x : Str} : Im K H (.str x) (.str x) := by unfold Im; rfl
theorem im_non {K : PySem.W.Frag} {H : Hp} : Im K H .none .non := by unfold Im; rfl
theorem im_nil {K : PySem.W.Frag} {H : Hp} : ImAll K H [] [] := by unfold ImAll; rfl
theorem im_cons {K : PySem.W.Frag} {H : Hp} {d : PyData} {ds : List PyData} {v : V} {r : List V} (h : Im K H d v) (t : ImAll K H ds r) : ImAll K H (d :: ds) (v :: r) := by unfold ImAll; exact ⟨v, r, rfl, h, t⟩
theorem im_tup {K : PySem.W.Frag} {H : Hp} {a : Addr} {xs : List V} {ds : List PyData} (h : H a = some (.tup xs)) (t : ImAll K H ds xs) : Im K H (.tuple ds) (.ref a) := by unfold Im; exact ⟨a, xs, rfl, h, t⟩
theorem im_ints {K : PySem.W.Frag} {H : Hp} : ∀ ns : List Int, ImAll K H (ns.map PyData.int) (ns.map V.int)
  | [] => im_nil
  | n :: ns => im_cons im_int (im_ints ns)
theorem ts_new {H : Hp} {p : Addr} {o : HO} (h : H p = none) : Tst H (upd H p o) := fun a xs e => by rw [upd_ne (ne_of_none e h)]; exact e
theorem ts_lst {H : Hp} {p : Addr} {o : HO} {ys : List V} (h : H p = some (.lst ys)) : Tst H (upd H p o) := fun a xs e => by rw [upd_ne (ne_of e h (by intro z; cases z))]; exact e
theorem ts_ins {H : Hp} {p C dx : Addr} {o : HO} {fs : List (Str × V)} (h : H p = some (.ins C dx fs)) : Tst H (upd H p o) := fun a xs e => by rw [upd_ne (ne_of e h (by intro z; cases z))]; exact e
theorem fr_upd {o o' : List Addr} {H H1 : Hp} {a : Addr} {x : HO} (f : Fr o o' H H1) (ha : a ∈ o') : Fr o o' H (upd H1 a x) := by
  refine ⟨fun c y hc hy => ?_, f.2⟩
  have ne : c ≠ a := fun e => by
    subst e
    rcases f.2 c ha with h | h
    · exact hc h
    · rw [hy] at h; cases h
  rw [upd_ne ne]
  exact f.1 c y hc hy
theorem fr_base {o o' : List Addr} {H : Hp} (h : ∀ a, a ∈ o' → a ∈ o ∨ H a = none) : Fr o o' H H := ⟨fun _ _ _ x => x, h⟩
theorem fr_new {o o' : List Addr} {H H1 : Hp} {a : Addr} {x : HO} (f : Fr o o' H H1) (ha : H1 a = none) : Fr o o' H (upd H1 a x) := by
  refine ⟨fun c y hc hy => ?_, f.2⟩
  have h := f.1 c y hc hy
  rw [upd_ne (ne_of_none h ha)]
  exact h
theorem fr_ext {o o' : List Addr} {H H1 H2 : Hp} (f : Fr o o' H H1) (e : PB.Ext H1 H2) : Fr o o' H H2 := ⟨fun c y hc hy => e c y (f.1 c y hc hy), f.2⟩
theorem own_new {o : List Addr} {H H1 : Hp} {l : Addr} (h : H1 l = none) (f : Fr o o H H1) : l ∈ o ∨ H l = none := by
  by_cases hx : l ∈ o
  · exact .inl hx
  · right
    cases e : H l with
    | none => rfl
    | some y => rw [f.1 l y hx e] at h; cases h
theorem all_nil {P : Addr → Prop} : ∀ a, a ∈ ([] : List Addr) → P a := fun _ h => by cases h
theorem all_cons {P : Addr → Prop} {b : Addr} {r : List Addr} (h : P b) (t : ∀ a, a ∈ r → P a) : ∀ a, a ∈ b :: r → P a := fun a m => by
  rcases List.mem_cons.mp m with e | e
  · exact e ▸ h
  · exact t a e
theorem ts_updL {H H1 : Hp} {a : Addr} {x : HO} {ys : List V} (t : Tst H H1) (h : H1 a = some (.lst ys)) : Tst H (upd H1 a x) := t.trans (ts_lst h)
theorem ts_updI {H H1 : Hp} {a C dx : Addr} {x : HO} {fs : List (Str × V)} (t : Tst H H1) (h : H1 a = some (.ins C dx fs)) : Tst H (upd H1 a x) := t.trans (ts_ins h)
theorem ts_updN {H H1 : Hp} {a : Addr} {x : HO} (t : Tst H H1) (h : H1 a = none) : Tst H (upd H1 a x) := t.trans (ts_new h)
theorem ts_updD {H H1 : Hp} {a : Addr} {x : HO} {kvs : List (Key × V)} (t : Tst H H1) (h : H1 a = some (.dK kvs)) : Tst H (upd H1 a x) := t.trans fun c xs e => by rw [upd_ne (ne_of e h (by intro z; cases z))]; exact e
local macro_rules | `(tactic| walk_at "mem") => `(tactic| first
  | exact List.mem_cons_self ..
  | (apply List.mem_cons_of_mem; walk_at "mem"))
theorem ts_ext {H H1 H2 : Hp} (t : Tst H H1) (e : PB.Ext H1 H2) : Tst H H2 := t.trans fun a xs h => e a _ h
local macro_rules | `(tactic| walk_at "fr") => `(tactic| first
  | exact Fr.refl _ _
  | (apply fr_upd; (· (walk_at "fr")); (· (walk_at "mem")))
  | (refine fr_ext ?_ (by assumption); walk_at "fr")
  | (apply fr_base; walk_at "all"))
local macro_rules | `(tactic| walk_at "all") => `(tactic| first
  | exact all_nil
  | (apply all_cons; (· (first | (left; walk_at "mem") | exact own_new (by assumption) (by walk_at "fr"))); (· (walk_at "all"))))
local macro_rules | `(tactic| walk_at "ts") => `(tactic| first
  | exact Tst.refl _
  | (apply ts_updL; (· (walk_at "ts")); (· (walk_at "heap")))
  | (apply ts_updI; (· (walk_at "ts")); (· (walk_at "heap")))
  | (apply ts_updD; (· (walk_at "ts")); (· (walk_at "heap")))
  | (refine ts_ext ?_ (by assumption); walk_at "ts"))

/-! ### data: their shape, == of numbers' tuples -/
def Sh (n : Nat) (d : PyData) : Prop := d.canLay0 = true ∧ d.depth ≤ n
def ShA (n : Nat) (ds : List PyData) : Prop := PyData.canLayAll0 ds = true ∧ PyData.depthAll ds ≤ n
theorem Sh.ok {n : Nat} {d : PyData} (h : Sh n d) (hn : n ≤ 64) : SeqAt.shaped d = true := by
  unfold SeqAt.shaped
  rw [h.1, Bool.true_and, decide_eq_true_eq]
  exact Nat.le_trans h.2 hn
theorem Sh.mono {n m : Nat} {d : PyData} (h : Sh n d) (hn : n ≤ m) : Sh m d := ⟨h.1, Nat.le_trans h.2 hn⟩
theorem sh_int {n : Nat} {i : Int} : Sh n (.int i) := ⟨by simp [PyData.canLay0], by simp [PyData.depth]⟩
theorem sh_none {n : Nat} : Sh n .none := ⟨by simp [PyData.canLay0], by simp [PyData.depth]⟩
theorem sh_bool {n : Nat} {b : Bool} : Sh n (.bool b) := ⟨by simp [PyData.canLay0], by simp [PyData.depth]⟩
theorem sh_str {n : Nat} {x : Str} (h : PyData.strOk x = true) : Sh n (.str x) := ⟨by simp [PyData.canLay0, h], by simp [PyData.depth]⟩
theorem sh_nil {n : Nat} : ShA n [] := ⟨by simp [PyData.canLayAll0], by simp [PyData.depthAll]⟩
theorem sh_cons {n : Nat} {d : PyData} {ds : List PyData} (h : Sh n d) (t : ShA n ds) : ShA n (d :: ds) :=
  ⟨by simp [PyData.canLayAll0, h.1, t.1], by have := h.2; have := t.2; simp only [PyData.depthAll]; omega⟩
theorem sh_all {n : Nat} : ∀ {ds : List PyData}, (∀ d ∈ ds, Sh n d) → ShA n ds
  | [], _ => sh_nil
  | d :: ds, h => sh_cons (h d (List.mem_cons_self ..)) (sh_all fun x hx => h x (List.mem_cons_of_mem _ hx))
theorem sh_tup {n : Nat} {ds : List PyData} (t : ShA n ds) : Sh (n + 1) (.tuple ds) := ⟨by simp [PyData.canLay0, t.1], by have := t.2; simp only [PyData.depth]; omega⟩
theorem sh_lst {n : Nat} {ds : List PyData} (t : ShA n ds) : Sh (n + 1) (.list ds) := ⟨by simp [PyData.canLay0, t.1], by have := t.2; simp only [PyData.depth]; omega⟩
theorem sh_ints {n : Nat} (ns : List Int) : ShA n (ns.map PyData.int) := sh_all fun d h => by
  obtain ⟨i, _, rfl⟩ := List.mem_map.mp h
  exact sh_int
theorem eqv_ints : ∀ xs ys : List Int, PyData.eqvAll (xs.map PyData.int) (ys.map PyData.int) = decide (xs = ys)
  | [], [] => by simp [PyData.eqvAll]
  | [], _ :: _ => by simp [PyData.eqvAll]
  | _ :: _, [] => by simp [PyData.eqvAll]
  | x :: xs, y :: ys => by
    simp only [List.map_cons, PyData.eqvAll, PyData.eqv, eqv_ints xs ys, List.cons.injEq, Bool.decide_and]
    congr 1
theorem eqv_tints (xs ys : List Int) : PyData.eqv (.tuple (xs.map PyData.int)) (.tuple (ys.map PyData.int)) = decide (xs = ys) := by rw [PyData.eqv, eqv_ints]
theorem eqv_lints (xs ys : List Int) : PyData.eqv (.list (xs.map PyData.int)) (.list (ys.map PyData.int)) = decide (xs = ys) := by rw [PyData.eqv, eqv_ints]

/-! ## the program's cells and parser -/
def isPoint (n : Int) : Bool := if n = 127 ∨ (55296 ≤ n ∧ n ≤ 57343) then false else decide (32 ≤ n ∧ n ≤ 1114111)
def sp_is_point (K : PySem.W.Frag) : Sp := fun vs H Q _ => ∃ n : Int, vs = [.int n] ∧ Q (.bl (isPoint n)) H
def N_is_point : List Str := ["number"]
def t_is_point (K : PySem.W.Frag) : TS := C8.tCut (tIfS (tOr (PB.mTest (tOp (PB.mEq K) (PB.mVar 0) (tC (.int 127)))) (PB.mTest (PB.mChain (PB.mLe) (PB.mLe) (tC (.int 55296)) (PB.mVar 0) (tC (.int 57343))))) (tRet (tC (.bl false))) (tNext)) (
  tRet (PB.mChain (PB.mLe) (PB.mLe) (tC (.int 32)) (PB.mVar 0) (tC (.int 1114111))))

theorem len_is_point {K : PySem.W.Frag} : PB.Len 1 (sp_is_point K) := by walk_at "len"
theorem pure_is_point (K : PySem.W.Frag) : PB.Pure N_is_point (sp_is_point K) (t_is_point K) := by
  rintro vs H Q E ⟨n, rfl, q⟩
  show t_is_point K _ [some (.int n)] H
  unfold t_is_point
  walk_at "ws"
  · show Q (.bl false) H
    have e : isPoint n = false := by unfold isPoint; rw [if_pos ‹_›]
    rw [← e]; exact q
  · show Q (.bl _) H
    have e : isPoint n = (decide (32 ≤ n) && decide (n ≤ 1114111)) := by unfold isPoint; rw [if_neg (by omega), Bool.decide_and]
    rw [← e]; exact q
theorem pp_is_point {K : PySem.W.Frag} {n : Int} {H : Hp} : PB.pSp (sp_is_point K) [.int n] H (.bl (isPoint n)) := fun Q q => ⟨n, rfl, q⟩
local macro_rules | `(tactic| walk_at "pS") => `(tactic| with_reducible exact pp_is_point)
local macro_rules | `(tactic| walk_at "im") => `(tactic| first
  | with_reducible exact im_int
  | with_reducible exact im_str
  | with_reducible exact im_non
  | with_reducible exact im_nil
  | with_reducible exact im_ints _
  | ((with_reducible apply im_cons); (· (walk_at "im")); (· (walk_at "im")))
  | ((with_reducible apply im_tup); (· (walk_at "heap")); (· (walk_at "im")))
  | (show Im _ _ (.tuple _) _; (with_reducible apply im_tup); (· (walk_at "heap")); (· (walk_at "im"))))
/-! ### the parser: its state, its steps -/
def an_Parser : List Str := ["_state", "_lacking", "_character", "_least", "_first", "_valid", "_private", "_ended", "_current", "_titled", "_kept"]
theorem an_Parser_nd : an_Parser.Nodup := by decide +kernel
structure PS where
  st : Int
  lack : Int
  ch : Int
  least : Int
  first : Bool
  valid : Bool
  priv : Int
  ended : List Int
  cur : Int
  titled : Bool
  kept : List Int
deriving DecidableEq
abbrev pvals (S : PS) (e k : Addr) : List V := [.int S.st, .int S.lack, .int S.ch, .int S.least, .bl S.first, .bl S.valid, .int S.priv, .ref e, .int S.cur, .bl S.titled, .ref k]
structure At (K : PySem.W.Frag) (H : Hp) (p dx e k : Addr) (S : PS) : Prop where
  ob : H p = some (.ins (He.ga K "Parser") dx (an_Parser.zip (pvals S e k)))
  he : H e = some (.lst (S.ended.map V.int))
  hk : H k = some (.lst (S.kept.map V.int))
  ek : e ≠ k
theorem At.pe {K : PySem.W.Frag} {H : Hp} {p dx e k : Addr} {S : PS} (h : At K H p dx e k S) : p ≠ e := ne_of h.ob h.he (by intro z; cases z)
theorem At.pk {K : PySem.W.Frag} {H : Hp} {p dx e k : Addr} {S : PS} (h : At K H p dx e k S) : p ≠ k := ne_of h.ob h.hk (by intro z; cases z)
/-- the object alone was stored -/
theorem At.set {K : PySem.W.Frag} {H : Hp} {p dx e k : Addr} {S S' : PS} {vals : List V} (h : At K H p dx e k S) (ev : vals = pvals S' e k) (e1 : S'.ended = S.ended) (e2 : S'.kept = S.kept) :
    At K (upd H p (.ins (He.ga K "Parser") dx (an_Parser.zip vals))) p dx e k S' := by
  subst ev
  exact ⟨upd_same, by rw [upd_ne h.pe.symm, e1]; exact h.he, by rw [upd_ne h.pk.symm, e2]; exact h.hk, h.ek⟩
def prt (n : Int) : PyData := .tuple [.str "print", .int n]
def ctl (n : Int) : PyData := .tuple [.str "control", .int n]
def esc (n : Int) : PyData := .tuple [.str "escape", .int n]
def sqn (p : Int) (ns : List Int) (b : Int) : PyData := .tuple [.str "sequence", .int p, .tuple (ns.map PyData.int), .int b]
def ttl (ns : List Int) : PyData := .tuple [.str "title", .tuple (ns.map PyData.int)]
/-- an action, or none -/
def nn : PyData → List PyData
  | .none => []
  | d => [d]
namespace PS
def beginChar (S : PS) (bits lacking least : Int) : PS := { S with ch := bits, lack := lacking, least := least }
def further (S : PS) (b : Int) : PS × PyData :=
  if S.lack = 0 then (S, prt 65533)
  else if S.lack - 1 > 0 then ({ S with ch := S.ch * 64 + b - 128, lack := S.lack - 1 }, .none)
  else if S.ch * 64 + b - 128 < S.least ∨ isPoint (S.ch * 64 + b - 128) = false then ({ S with ch := S.ch * 64 + b - 128, lack := S.lack - 1 }, prt 65533)
  else ({ S with ch := S.ch * 64 + b - 128, lack := S.lack - 1 }, prt (S.ch * 64 + b - 128))
def ofChar (S : PS) (b : Int) : PS × PyData :=
  if b < 192 then S.further b
  else if b < 224 then (S.beginChar (b - 192) 1 128, .none)
  else if b < 240 then (S.beginChar (b - 224) 2 2048, .none)
  else if b < 248 then (S.beginChar (b - 240) 3 65536, .none)
  else (S, prt 65533)
def endNumber (S : PS) : PS := if S.ended.length < 16 then { S with ended := S.ended ++ [S.cur], cur := 0 } else { S with cur := 0 }
def endSeq (S : PS) (b : Int) : PS × PyData :=
  if S.valid = false then ({ S with st := 0 }, .none)
  else (({ S with st := 0 } : PS).endNumber, sqn ({ S with st := 0 } : PS).endNumber.priv ({ S with st := 0 } : PS).endNumber.ended b)
def inSeq (S : PS) (b : Int) : PS × PyData :=
  if b > 63 then S.endSeq b
  else if 48 ≤ b ∧ b ≤ 57 then ({ S with cur := min (S.cur * 10 + b - 48) 9999, first := false }, .none)
  else if b = 59 then ({ S.endNumber with first := false }, .none)
  else if b > 59 ∧ S.first = true then ({ S with priv := b, first := false }, .none)
  else ({ S with valid := false, first := false }, .none)
def beginSeq (S : PS) : PS := { S with st := 3, first := true, valid := true, priv := 0, ended := [], cur := 0 }
def beginStr (S : PS) (t : Bool) : PS := { S with st := 4, titled := t, kept := [] }
def inEscape (S : PS) (b : Int) : PS × PyData :=
  if b < 48 then ({ S with st := 2 }, .none)
  else if b = 91 then (S.beginSeq, .none)
  else if b = 80 ∨ b = 88 ∨ b = 93 ∨ b = 94 ∨ b = 95 then (S.beginStr (decide (b = 93)), .none)
  else ({ S with st := 0 }, esc b)
def endStr (S : PS) : PS × PyData :=
  if S.titled = false ∨ ¬ (S.kept.take 2 = [48, 59] ∨ S.kept.take 2 = [50, 59]) then ({ S with st := 0 }, .none)
  else ({ S with st := 0 }, ttl (((S.kept.drop 2).filter fun b => decide (32 ≤ b) && decide (b ≤ 126)).take 64))
def inStr (S : PS) (b : Int) : PS × PyData :=
  if b = 7 then S.endStr
  else if b = 27 then ({ S with st := 5 }, .none)
  else if S.kept.length < 256 then ({ S with kept := S.kept ++ [b] }, .none)
  else (S, .none)
def plain (S : PS) (b : Int) : PS × PyData :=
  if S.st = 1 then S.inEscape b
  else if S.st = 3 then S.inSeq b
  else if S.st = 2 then (if b > 47 then { S with st := 0 } else S, .none)
  else (S, prt b)
/-- outside of strings, byte 24 and 26 -/
def read2 (S : PS) (b : Int) : PS × PyData :=
  if b = 27 then ({ S with st := 1 }, .none)
  else if b < 32 then (S, ctl b)
  else if b = 127 then (S, .none)
  else if b > 127 then ({ S with st := 0 } : PS).ofChar b
  else S.plain b
def read (S : PS) (b : Int) : PS × PyData :=
  if b = 24 ∨ b = 26 then ({ S with st := 0 }, .none)
  else if S.st = 4 then S.inStr b
  else if S.st = 5 then (if b = 92 then S.endStr else ({ S with st := 1 } : PS).read2 b)
  else S.read2 b
/-- one byte of take: the unfinished character first -/
def take1 (S : PS) (b : Int) : PS × List PyData :=
  if S.lack > 0 ∧ ¬ (128 ≤ b ∧ b ≤ 191) then ((({ S with lack := 0 } : PS).read b).1, prt 65533 :: nn (({ S with lack := 0 } : PS).read b).2)
  else ((S.read b).1, nn (S.read b).2)
def takeAll (S : PS) : List Int → PS × List PyData
  | [] => (S, [])
  | b :: r => ((takeAll (S.take1 b).1 r).1, (S.take1 b).2 ++ (takeAll (S.take1 b).1 r).2)
def new : PS := ⟨0, 0, 0, 0, true, true, 0, [], 0, false, []⟩
/-- bounds that hold of every state -/
structure Ok (S : PS) : Prop where
  l0 : 0 ≤ S.lack
  l3 : S.lack ≤ 3
  c0 : 0 ≤ S.ch
  c1 : S.lack = 3 → S.ch < 32
  c2 : S.lack = 2 → S.ch < 2048
  c3 : S.lack = 1 → S.ch < 131072
  c4 : S.ch < 8388608
  u0 : 0 ≤ S.cur
  u1 : S.cur ≤ 9999
  en : S.ended.length ≤ 16
  kp : S.kept.length ≤ 256
end PS
/-- behind a method: the parser stands at p in a new state; nothing else has changed, the tuples stay -/
def Post (K : PySem.W.Frag) (H H' : Hp) (p dx e k : Addr) (S' : PS) : Prop := ∃ e' k', At K H' p dx e' k' S' ∧ Fr [p, e, k] [p, e', k'] H H' ∧ Tst H H'
theorem At.put {K : PySem.W.Frag} {H : Hp} {p dx e k : Addr} {S S' : PS} {vals : List V} (h : At K H p dx e k S) (ev : vals = pvals S' e k) (e1 : S'.ended = S.ended) (e2 : S'.kept = S.kept) :
    Post K H (upd H p (.ins (He.ga K "Parser") dx (an_Parser.zip vals))) p dx e k S' :=
  ⟨e, k, h.set ev e1 e2, fr_upd (Fr.refl _ _) (List.mem_cons_self ..), ts_ins h.ob⟩
theorem At.same {K : PySem.W.Frag} {H : Hp} {p dx e k : Addr} {S : PS} (h : At K H p dx e k S) : Post K H H p dx e k S := ⟨e, k, h, Fr.refl _ _, Tst.refl _⟩
theorem Post.trans {K : PySem.W.Frag} {H H1 H2 : Hp} {p dx e k : Addr} {S1 S2 : PS} (a : Post K H H1 p dx e k S1) (f : ∀ e' k', At K H1 p dx e' k' S1 → Post K H1 H2 p dx e' k' S2) : Post K H H2 p dx e k S2 := by
  obtain ⟨e1, k1, h1, f1, t1⟩ := a
  obtain ⟨e2, k2, h2, f2, t2⟩ := f e1 k1 h1
  exact ⟨e2, k2, h2, f1.trans f2, t1.trans t2⟩
/-- more objects behind it -/
theorem At.ext {K : PySem.W.Frag} {H H1 : Hp} {p dx e k : Addr} {S : PS} (h : At K H p dx e k S) (x : PB.Ext H H1) : At K H1 p dx e k S := ⟨x _ _ h.ob, x _ _ h.he, x _ _ h.hk, h.ek⟩
theorem Post.new {K : PySem.W.Frag} {H H1 H2 : Hp} {p dx e k : Addr} {S1 : PS} (a : Post K H H1 p dx e k S1) (x : PB.Ext H1 H2) : Post K H H2 p dx e k S1 := by
  obtain ⟨e1, k1, h1, f1, t1⟩ := a
  exact ⟨e1, k1, h1.ext x, fr_ext f1 x, ts_ext t1 x⟩
/-- the promise of a method that reads a byte -/
def spM (f : PS → Int → PS × PyData) (K : PySem.W.Frag) : Sp := fun vs H Q _ => ∃ (p dx e k : Addr) (S : PS) (b : Int), vs = [.ref p, .int b] ∧ At K H p dx e k S ∧ S.Ok ∧ 0 ≤ b ∧ b < 256 ∧
  ∀ r, f S b = r → ∀ v H', Post K H H' p dx e k r.1 → Im K H' r.2 v → Q v H'
theorem Post.seq {K : PySem.W.Frag} {H H1 H2 : Hp} {p dx e k e' k' : Addr} {S2 : PS} (f : Fr [p, e, k] [p, e', k'] H H1) (t : Tst H H1) (po : Post K H1 H2 p dx e' k' S2) : Post K H H2 p dx e k S2 := by
  obtain ⟨e2, k2, h2, f2, t2⟩ := po
  exact ⟨e2, k2, h2, f.trans f2, t.trans t2⟩
theorem PS.Ok.set {S S' : PS} (o : S.Ok) (h1 : S'.lack = S.lack) (h2 : S'.ch = S.ch) (h3 : S'.cur = S.cur) (h4 : S'.ended = S.ended) (h5 : S'.kept = S.kept) : S'.Ok := by
  obtain ⟨a, b, c, d, e, f, g, i, j, k, l⟩ := o
  constructor <;> simp only [h1, h2, h3, h4, h5] <;> assumption
theorem post_mk {K : PySem.W.Frag} {H H' : Hp} {p dx e k e' k' : Addr} {S' : PS} (ob : H' p = some (.ins (He.ga K "Parser") dx (an_Parser.zip (pvals S' e' k')))) (he : H' e' = some (.lst (S'.ended.map V.int))) (hk : H' k' = some (.lst (S'.kept.map V.int)))
    (ek : e' ≠ k') (f : Fr [p, e, k] [p, e', k'] H H') (t : Tst H H') : Post K H H' p dx e k S' := ⟨e', k', ⟨ob, he, hk, ek⟩, f, t⟩
local macro_rules | `(tactic| walk_at "post") => `(tactic| (
  apply post_mk
  (· (walk_at "heap"))
  (· ((try (simp only [List.map_append, List.map_cons, List.map_nil])); walk_at "heap"))
  (· ((try (simp only [List.map_append, List.map_cons, List.map_nil])); walk_at "heap"))
  (· (walk_at "ne"))
  (· (walk_at "fr"))
  (· (walk_at "ts"))))
/-! ### the methods -/
def sp_Parser__begin_character (K : PySem.W.Frag) : Sp := fun vs H Q _ => ∃ (p dx e k : Addr) (S : PS) (b l m : Int), vs = [.ref p, .int b, .int l, .int m] ∧ At K H p dx e k S ∧
  ∀ H', Post K H H' p dx e k (S.beginChar b l m) → Q .non H'
def N_Parser__begin_character : List Str := ["self", "bits", "lacking", "least"]
def t_Parser__begin_character (K : PySem.W.Frag) : TS := tSeq (PB.oSet (He.ga K "Parser") an_Parser 2 (PB.mVar 0) (PB.mVar 1)) (
  tSeq (PB.oSet (He.ga K "Parser") an_Parser 1 (PB.mVar 0) (PB.mVar 2)) (
  PB.oSet (He.ga K "Parser") an_Parser 3 (PB.mVar 0) (PB.mVar 3)))

theorem len_Parser__begin_character {K : PySem.W.Frag} : PB.Len 4 (sp_Parser__begin_character K) := by walk_at "len"
theorem pure_Parser__begin_character (K : PySem.W.Frag) : PB.Pure N_Parser__begin_character (sp_Parser__begin_character K) (t_Parser__begin_character K) := by
  rintro vs H Q E ⟨p, dx, e, k, S, b, l, m, rfl, h, q⟩
  show t_Parser__begin_character K _ [some (.ref p), some (.int b), some (.int l), some (.int m)] H
  unfold t_Parser__begin_character
  obtain ⟨h1, h2, h3, h4⟩ := id h
  walk_at "ws"
  exact q _ (h.put rfl rfl rfl)
def sp_Parser__read_further (K : PySem.W.Frag) : Sp := spM PS.further K
def N_Parser__read_further : List Str := ["self", "byte"]
def t_Parser__read_further (K : PySem.W.Frag) : TS := C8.tCut (tIfS (PB.mTest (tOp (PB.mEq K) (PB.oFld (He.ga K "Parser") an_Parser 1 (PB.mVar 0)) (tC (.int 0)))) (tRet (tTup (tCons (tC (.str "print")) (tCons (tC (.int (65533))) (tNil))))) (tNext)) (
  tSeq (PB.oSet (He.ga K "Parser") an_Parser 2 (PB.mVar 0) (tOp (PB.mSub) (tOp (PB.mAdd K) (tOp (PB.mMul) (PB.oFld (He.ga K "Parser") an_Parser 2 (PB.mVar 0)) (tC (.int 64))) (PB.mVar 1)) (tC (.int 128)))) (
  tSeq (PB.oAug (He.ga K "Parser") an_Parser 1 (PB.mVar 0) (tC (.int 1)) (fun i j => i - j)) (
  C8.tCut (tIfS (PB.mTest (tOp (PB.mGt) (PB.oFld (He.ga K "Parser") an_Parser 1 (PB.mVar 0)) (tC (.int 0)))) (tRet (tC .non)) (tNext)) (
  C8.tCut (tIfS (tOr (PB.mTest (tOp (PB.mLt) (PB.oFld (He.ga K "Parser") an_Parser 2 (PB.mVar 0)) (PB.oFld (He.ga K "Parser") an_Parser 3 (PB.mVar 0)))) (tNot (PB.mTru K (PB.mCall (sp_is_point K) (tCons (PB.oFld (He.ga K "Parser") an_Parser 2 (PB.mVar 0)) (tNil)))))) (tRet (tTup (tCons (tC (.str "print")) (tCons (tC (.int (65533))) (tNil))))) (tNext)) (
  tRet (tTup (tCons (tC (.str "print")) (tCons (PB.oFld (He.ga K "Parser") an_Parser 2 (PB.mVar 0)) (tNil)))))))))

theorem len_Parser__read_further {K : PySem.W.Frag} : PB.Len 2 (sp_Parser__read_further K) := by walk_at "len"
theorem pure_Parser__read_further (K : PySem.W.Frag) : PB.Pure N_Parser__read_further (sp_Parser__read_further K) (t_Parser__read_further K) := by
  rintro vs H Q E ⟨p, dx, e, k, S, b, rfl, h, ok, b0, b1, q⟩
  show t_Parser__read_further K _ [some (.ref p), some (.int b)] H
  unfold t_Parser__read_further
  obtain ⟨h1, h2, h3, h4⟩ := id h
  have hc : CMulW S.ch 64 := PB.CMulW_of (by have := ok.c0; have := ok.c4; omega) (by decide)
  walk_at "ws"
  · intro t Gt nt vt xt
    refine q (S, prt 65533) (by first | (simp only [PS.further, *, or_false, false_or, or_true, true_or, and_true, true_and, and_false, false_and, not_true_eq_false, not_false_eq_true, if_true, if_false, gt_iff_lt, ge_iff_le, reduceCtorEq, Bool.true_eq_false, Bool.false_eq_true]; done) | (unfold PS.further; (repeat' split) <;> first | rfl | (exfalso; omega) | (simp_all; done))) _ _ (h.same.new xt) (by walk_at "im")
  · refine q ({ S with ch := S.ch * 64 + b - 128, lack := S.lack - 1 }, .none) (by first | (simp only [PS.further, *, or_false, false_or, or_true, true_or, and_true, true_and, and_false, false_and, not_true_eq_false, not_false_eq_true, if_true, if_false, gt_iff_lt, ge_iff_le, reduceCtorEq, Bool.true_eq_false, Bool.false_eq_true]; done) | (unfold PS.further; (repeat' split) <;> first | rfl | (exfalso; omega) | (simp_all; done))) _ _ (h.put rfl rfl rfl) im_non
  · intro t Gt nt vt xt
    refine q ({ S with ch := S.ch * 64 + b - 128, lack := S.lack - 1 }, prt 65533) (by first | (simp only [PS.further, *, or_false, false_or, or_true, true_or, and_true, true_and, and_false, false_and, not_true_eq_false, not_false_eq_true, if_true, if_false, gt_iff_lt, ge_iff_le, reduceCtorEq, Bool.true_eq_false, Bool.false_eq_true]; done) | (unfold PS.further; (repeat' split) <;> first | rfl | (exfalso; omega) | (simp_all; done))) _ _ (Post.new (h.put rfl rfl rfl) xt) (by walk_at "im")
  · intro t Gt nt vt xt
    refine q ({ S with ch := S.ch * 64 + b - 128, lack := S.lack - 1 }, prt (S.ch * 64 + b - 128)) (by first | (simp only [PS.further, *, or_false, false_or, or_true, true_or, and_true, true_and, and_false, false_and, not_true_eq_false, not_false_eq_true, if_true, if_false, gt_iff_lt, ge_iff_le, reduceCtorEq, Bool.true_eq_false, Bool.false_eq_true]; done) | (unfold PS.further; (repeat' split) <;> first | rfl | (exfalso; omega) | (simp_all; done))) _ _ (Post.new (h.put rfl rfl rfl) xt) (by walk_at "im")
def sp_Parser__read_of_character (K : PySem.W.Frag) : Sp := spM PS.ofChar K
def N_Parser__read_of_character : List Str := ["self", "byte"]
def t_Parser__read_of_character (K : PySem.W.Frag) : TS := C8.tCut (tIfS (PB.mTest (tOp (PB.mLt) (PB.mVar 1) (tC (.int 192)))) (tRet (PB.oMeth (He.ga K "Parser") an_Parser (sp_Parser__read_further K) (PB.mVar 0) (tCons (PB.mVar 1) (tNil)))) (tNext)) (
  C8.tCut (tIfS (PB.mTest (tOp (PB.mLt) (PB.mVar 1) (tC (.int 224)))) (tDrop (PB.oMeth (He.ga K "Parser") an_Parser (sp_Parser__begin_character K) (PB.mVar 0) (tCons (tOp (PB.mSub) (PB.mVar 1) (tC (.int 192))) (tCons (tC (.int 1)) (tCons (tC (.int 128)) (tNil)))))) (tIfS (PB.mTest (tOp (PB.mLt) (PB.mVar 1) (tC (.int 240)))) (tDrop (PB.oMeth (He.ga K "Parser") an_Parser (sp_Parser__begin_character K) (PB.mVar 0) (tCons (tOp (PB.mSub) (PB.mVar 1) (tC (.int 224))) (tCons (tC (.int 2)) (tCons (tC (.int 2048)) (tNil)))))) (tIfS (PB.mTest (tOp (PB.mLt) (PB.mVar 1) (tC (.int 248)))) (tDrop (PB.oMeth (He.ga K "Parser") an_Parser (sp_Parser__begin_character K) (PB.mVar 0) (tCons (tOp (PB.mSub) (PB.mVar 1) (tC (.int 240))) (tCons (tC (.int 3)) (tCons (tC (.int 65536)) (tNil)))))) (tRet (tTup (tCons (tC (.str "print")) (tCons (tC (.int (65533))) (tNil)))))))) (
  tRet (tC .non)))

theorem len_Parser__read_of_character {K : PySem.W.Frag} : PB.Len 2 (sp_Parser__read_of_character K) := by walk_at "len"
theorem pure_Parser__read_of_character (K : PySem.W.Frag) : PB.Pure N_Parser__read_of_character (sp_Parser__read_of_character K) (t_Parser__read_of_character K) := by
  rintro vs H Q E ⟨p, dx, e, k, S, b, rfl, h, ok, b0, b1, q⟩
  show t_Parser__read_of_character K _ [some (.ref p), some (.int b)] H
  unfold t_Parser__read_of_character
  obtain ⟨h1, h2, h3, h4⟩ := id h
  walk_at "ws"
  · have c : S.ofChar b = S.further b := (by first | (simp only [PS.ofChar, *, or_false, false_or, or_true, true_or, and_true, true_and, and_false, false_and, not_true_eq_false, not_false_eq_true, if_true, if_false, gt_iff_lt, ge_iff_le, reduceCtorEq, Bool.true_eq_false, Bool.false_eq_true]; done) | (unfold PS.ofChar; (repeat' split) <;> first | rfl | (exfalso; omega) | (simp_all; done)))
    exact ⟨p, dx, e, k, S, b, rfl, h, ok, b0, b1, fun r er => q r (c.trans er)⟩
  · refine ⟨p, dx, e, k, S, _, _, _, rfl, h, fun H' po => ?_⟩
    walk_at "ws"
    exact q (S.beginChar (b - 192) 1 128, .none) (by first | (simp only [PS.ofChar, *, or_false, false_or, or_true, true_or, and_true, true_and, and_false, false_and, not_true_eq_false, not_false_eq_true, if_true, if_false, gt_iff_lt, ge_iff_le, reduceCtorEq, Bool.true_eq_false, Bool.false_eq_true]; done) | (unfold PS.ofChar; (repeat' split) <;> first | rfl | (exfalso; omega) | (simp_all; done))) _ _ po im_non
  · refine ⟨p, dx, e, k, S, _, _, _, rfl, h, fun H' po => ?_⟩
    walk_at "ws"
    exact q (S.beginChar (b - 224) 2 2048, .none) (by first | (simp only [PS.ofChar, *, or_false, false_or, or_true, true_or, and_true, true_and, and_false, false_and, not_true_eq_false, not_false_eq_true, if_true, if_false, gt_iff_lt, ge_iff_le, reduceCtorEq, Bool.true_eq_false, Bool.false_eq_true]; done) | (unfold PS.ofChar; (repeat' split) <;> first | rfl | (exfalso; omega) | (simp_all; done))) _ _ po im_non
  · refine ⟨p, dx, e, k, S, _, _, _, rfl, h, fun H' po => ?_⟩
    walk_at "ws"
    exact q (S.beginChar (b - 240) 3 65536, .none) (by first | (simp only [PS.ofChar, *, or_false, false_or, or_true, true_or, and_true, true_and, and_false, false_and, not_true_eq_false, not_false_eq_true, if_true, if_false, gt_iff_lt, ge_iff_le, reduceCtorEq, Bool.true_eq_false, Bool.false_eq_true]; done) | (unfold PS.ofChar; (repeat' split) <;> first | rfl | (exfalso; omega) | (simp_all; done))) _ _ po im_non
  · intro t Gt nt vt xt
    exact q (S, prt 65533) (by first | (simp only [PS.ofChar, *, or_false, false_or, or_true, true_or, and_true, true_and, and_false, false_and, not_true_eq_false, not_false_eq_true, if_true, if_false, gt_iff_lt, ge_iff_le, reduceCtorEq, Bool.true_eq_false, Bool.false_eq_true]; done) | (unfold PS.ofChar; (repeat' split) <;> first | rfl | (exfalso; omega) | (simp_all; done))) _ _ (h.same.new xt) (by walk_at "im")
/-- the promise of a method without a byte that returns None -/
def spN (f : PS → PS) (K : PySem.W.Frag) : Sp := fun vs H Q _ => ∃ (p dx e k : Addr) (S : PS), vs = [.ref p] ∧ At K H p dx e k S ∧ S.Ok ∧ ∀ H', Post K H H' p dx e k (f S) → Q .non H'
theorem At.appE {K : PySem.W.Frag} {H : Hp} {p dx e k : Addr} {S : PS} (h : At K H p dx e k S) : At K (upd H e (.lst (S.ended.map V.int ++ [.int S.cur]))) p dx e k { S with ended := S.ended ++ [S.cur] } :=
  ⟨by rw [upd_ne h.pe]; exact h.ob, by rw [upd_same, List.map_append]; rfl, by rw [upd_ne h.ek.symm]; exact h.hk, h.ek⟩
theorem At.appK {K : PySem.W.Frag} {H : Hp} {p dx e k : Addr} {S : PS} {b : Int} (h : At K H p dx e k S) : At K (upd H k (.lst (S.kept.map V.int ++ [.int b]))) p dx e k { S with kept := S.kept ++ [b] } :=
  ⟨by rw [upd_ne h.pk]; exact h.ob, by rw [upd_ne h.ek]; exact h.he, by rw [upd_same, List.map_append]; rfl, h.ek⟩
theorem At.own {K : PySem.W.Frag} {H H1 : Hp} {p dx e k a : Addr} {S S1 : PS} {xs : List V} {o : HO} (h : At K H p dx e k S) (ha : a = e ∨ a = k) (hx : H a = some (.lst xs)) (h1 : At K (upd H a o) p dx e k S1) : Post K H (upd H a o) p dx e k S1 :=
  ⟨e, k, h1, fr_upd (Fr.refl _ _) (by rcases ha with r | r <;> simp [r]), ts_lst hx⟩
def sp_Parser__end_number (K : PySem.W.Frag) : Sp := spN PS.endNumber K
def N_Parser__end_number : List Str := ["self"]
def t_Parser__end_number (K : PySem.W.Frag) : TS := C8.tCut (tIfS (PB.mTest (tOp (PB.mLt) (tCB (PB.mLen K) (tCons (PB.oFld (He.ga K "Parser") an_Parser 7 (PB.mVar 0)) (tNil))) (tC (.int (16))))) (tDrop (PB.mLM (PB.mAppend) (PB.oFld (He.ga K "Parser") an_Parser 7 (PB.mVar 0)) (tCons (PB.oFld (He.ga K "Parser") an_Parser 8 (PB.mVar 0)) (tNil)))) (tNext)) (
  PB.oSet (He.ga K "Parser") an_Parser 8 (PB.mVar 0) (tC (.int 0)))

theorem len_Parser__end_number {K : PySem.W.Frag} : PB.Len 1 (sp_Parser__end_number K) := by walk_at "len"
theorem pure_Parser__end_number (K : PySem.W.Frag) : PB.Pure N_Parser__end_number (sp_Parser__end_number K) (t_Parser__end_number K) := by
  rintro vs H Q E ⟨p, dx, e, k, S, rfl, h, ok, q⟩
  show t_Parser__end_number K _ [some (.ref p)] H
  unfold t_Parser__end_number
  obtain ⟨h1, h2, h3, h4⟩ := id h
  have en := ok.en
  have el : (S.ended.map V.int).length = S.ended.length := List.length_map _
  walk_at "ws"
  · have c : S.ended.length < 16 := by omega
    simp only [PS.endNumber, *, or_false, false_or, or_true, true_or, and_true, true_and, and_false, false_and, not_true_eq_false, not_false_eq_true, if_true, if_false, gt_iff_lt, ge_iff_le, reduceCtorEq, Bool.true_eq_false, Bool.false_eq_true] at q
    refine q _ ?_
    walk_at "post"
  · have c : ¬ S.ended.length < 16 := by omega
    simp only [PS.endNumber, *, or_false, false_or, or_true, true_or, and_true, true_and, and_false, false_and, not_true_eq_false, not_false_eq_true, if_true, if_false, gt_iff_lt, ge_iff_le, reduceCtorEq, Bool.true_eq_false, Bool.false_eq_true] at q
    exact q _ (h.put rfl rfl rfl)
def sp_Parser__begin_sequence (K : PySem.W.Frag) : Sp := spN PS.beginSeq K
def N_Parser__begin_sequence : List Str := ["self"]
def t_Parser__begin_sequence (K : PySem.W.Frag) : TS := tSeq (PB.oSet (He.ga K "Parser") an_Parser 0 (PB.mVar 0) (tC (.int (3)))) (
  tSeq (PB.oSet (He.ga K "Parser") an_Parser 4 (PB.mVar 0) (tC (.bl true))) (
  tSeq (PB.oSet (He.ga K "Parser") an_Parser 5 (PB.mVar 0) (tC (.bl true))) (
  tSeq (PB.oSet (He.ga K "Parser") an_Parser 6 (PB.mVar 0) (tC (.int 0))) (
  tSeq (PB.oSet (He.ga K "Parser") an_Parser 7 (PB.mVar 0) (tLst (tNil))) (
  PB.oSet (He.ga K "Parser") an_Parser 8 (PB.mVar 0) (tC (.int 0)))))))

theorem len_Parser__begin_sequence {K : PySem.W.Frag} : PB.Len 1 (sp_Parser__begin_sequence K) := by walk_at "len"
theorem pure_Parser__begin_sequence (K : PySem.W.Frag) : PB.Pure N_Parser__begin_sequence (sp_Parser__begin_sequence K) (t_Parser__begin_sequence K) := by
  rintro vs H Q E ⟨p, dx, e, k, S, rfl, h, ok, q⟩
  show t_Parser__begin_sequence K _ [some (.ref p)] H
  unfold t_Parser__begin_sequence
  obtain ⟨h1, h2, h3, h4⟩ := id h
  walk_at "ws"
  intro l Gl nl vl xl
  walk_at "ws"
  refine q _ ?_
  walk_at "post"
def sp_Parser__begin_string (K : PySem.W.Frag) : Sp := fun vs H Q _ => ∃ (p dx e k : Addr) (S : PS) (t : Bool), vs = [.ref p, .bl t] ∧ At K H p dx e k S ∧ ∀ H', Post K H H' p dx e k (S.beginStr t) → Q .non H'
def N_Parser__begin_string : List Str := ["self", "titled"]
def t_Parser__begin_string (K : PySem.W.Frag) : TS := tSeq (PB.oSet (He.ga K "Parser") an_Parser 0 (PB.mVar 0) (tC (.int (4)))) (
  tSeq (PB.oSet (He.ga K "Parser") an_Parser 9 (PB.mVar 0) (PB.mVar 1)) (
  PB.oSet (He.ga K "Parser") an_Parser 10 (PB.mVar 0) (tLst (tNil))))

theorem len_Parser__begin_string {K : PySem.W.Frag} : PB.Len 2 (sp_Parser__begin_string K) := by walk_at "len"
theorem pure_Parser__begin_string (K : PySem.W.Frag) : PB.Pure N_Parser__begin_string (sp_Parser__begin_string K) (t_Parser__begin_string K) := by
  rintro vs H Q E ⟨p, dx, e, k, S, t, rfl, h, q⟩
  show t_Parser__begin_string K _ [some (.ref p), some (.bl t)] H
  unfold t_Parser__begin_string
  obtain ⟨h1, h2, h3, h4⟩ := id h
  walk_at "ws"
  intro l Gl nl vl xl
  walk_at "ws"
  refine q _ ?_
  walk_at "post"
def sp_Parser__end_sequence (K : PySem.W.Frag) : Sp := spM PS.endSeq K
def N_Parser__end_sequence : List Str := ["self", "byte"]
def t_Parser__end_sequence (K : PySem.W.Frag) : TS := tSeq (PB.oSet (He.ga K "Parser") an_Parser 0 (PB.mVar 0) (tC (.int (0)))) (
  C8.tCut (tIfS (tNot (PB.mTru K (PB.oFld (He.ga K "Parser") an_Parser 5 (PB.mVar 0)))) (tRet (tC .non)) (tNext)) (
  tSeq (tDrop (PB.oMeth (He.ga K "Parser") an_Parser (sp_Parser__end_number K) (PB.mVar 0) tNil)) (
  tRet (tTup (tCons (tC (.str "sequence")) (tCons (PB.oFld (He.ga K "Parser") an_Parser 6 (PB.mVar 0)) (tCons (tCB (PB.mTup K) (tCons (PB.oFld (He.ga K "Parser") an_Parser 7 (PB.mVar 0)) (tNil))) (tCons (PB.mVar 1) (tNil)))))))))

theorem len_Parser__end_sequence {K : PySem.W.Frag} : PB.Len 2 (sp_Parser__end_sequence K) := by walk_at "len"
theorem pure_Parser__end_sequence (K : PySem.W.Frag) : PB.Pure N_Parser__end_sequence (sp_Parser__end_sequence K) (t_Parser__end_sequence K) := by
  rintro vs H Q E ⟨p, dx, e, k, S, b, rfl, h, ok, b0, b1, q⟩
  show t_Parser__end_sequence K _ [some (.ref p), some (.int b)] H
  unfold t_Parser__end_sequence
  obtain ⟨h1, h2, h3, h4⟩ := id h
  walk_at "ws"
  · exact q ({ S with st := 0 }, .none) (by first | (simp only [PS.endSeq, *, or_false, false_or, or_true, true_or, and_true, true_and, and_false, false_and, not_true_eq_false, not_false_eq_true, if_true, if_false, gt_iff_lt, ge_iff_le, reduceCtorEq, Bool.true_eq_false, Bool.false_eq_true]; done) | (unfold PS.endSeq; (repeat' split) <;> first | rfl | (exfalso; omega) | (simp_all; done))) _ _ (h.put rfl rfl rfl) im_non
  · have a : At K _ p dx e k { S with st := 0 } := h.set rfl rfl rfl
    refine ⟨p, dx, e, k, _, rfl, a, ok.set rfl rfl rfl rfl rfl, fun H' po => ?_⟩
    have po2 : Post K H H' p dx e k _ := Post.seq (by walk_at "fr") (by walk_at "ts") po
    obtain ⟨e1, k1, ⟨g1, g2, g3, g4⟩, _⟩ := id po
    walk_at "ws"
    intro l Gl nl vl xl
    walk_at "ws"
    intro t Gt nt vt xt
    exact q (({ S with st := 0 } : PS).endNumber, sqn ({ S with st := 0 } : PS).endNumber.priv ({ S with st := 0 } : PS).endNumber.ended b) (by first | (simp only [PS.endSeq, *, or_false, false_or, or_true, true_or, and_true, true_and, and_false, false_and, not_true_eq_false, not_false_eq_true, if_true, if_false, gt_iff_lt, ge_iff_le, reduceCtorEq, Bool.true_eq_false, Bool.false_eq_true]; done) | (unfold PS.endSeq; (repeat' split) <;> first | rfl | (exfalso; omega) | (simp_all; done))) _ _ ((po2.new xl).new xt) (by walk_at "im")
def sp_Parser__read_in_sequence (K : PySem.W.Frag) : Sp := spM PS.inSeq K
def N_Parser__read_in_sequence : List Str := ["self", "byte"]
def t_Parser__read_in_sequence (K : PySem.W.Frag) : TS := C8.tCut (tIfS (PB.mTest (tOp (PB.mGt) (PB.mVar 1) (tC (.int 63)))) (tRet (PB.oMeth (He.ga K "Parser") an_Parser (sp_Parser__end_sequence K) (PB.mVar 0) (tCons (PB.mVar 1) (tNil)))) (tNext)) (
  C8.tCut (tIfS (PB.mTest (PB.mChain (PB.mLe) (PB.mLe) (tC (.int 48)) (PB.mVar 1) (tC (.int 57)))) (PB.oSet (He.ga K "Parser") an_Parser 8 (PB.mVar 0) (tCB (PB.mMin2) (tCons (tOp (PB.mSub) (tOp (PB.mAdd K) (tOp (PB.mMul) (PB.oFld (He.ga K "Parser") an_Parser 8 (PB.mVar 0)) (tC (.int 10))) (PB.mVar 1)) (tC (.int 48))) (tCons (tC (.int (9999))) (tNil))))) (tIfS (PB.mTest (tOp (PB.mEq K) (PB.mVar 1) (tC (.int 59)))) (tDrop (PB.oMeth (He.ga K "Parser") an_Parser (sp_Parser__end_number K) (PB.mVar 0) tNil)) (tIfS (tAnd (PB.mTest (tOp (PB.mGt) (PB.mVar 1) (tC (.int 59)))) (PB.mTru K (PB.oFld (He.ga K "Parser") an_Parser 4 (PB.mVar 0)))) (PB.oSet (He.ga K "Parser") an_Parser 6 (PB.mVar 0) (PB.mVar 1)) (PB.oSet (He.ga K "Parser") an_Parser 5 (PB.mVar 0) (tC (.bl false)))))) (
  tSeq (PB.oSet (He.ga K "Parser") an_Parser 4 (PB.mVar 0) (tC (.bl false))) (
  tRet (tC .non))))

theorem len_Parser__read_in_sequence {K : PySem.W.Frag} : PB.Len 2 (sp_Parser__read_in_sequence K) := by walk_at "len"
theorem pure_Parser__read_in_sequence (K : PySem.W.Frag) : PB.Pure N_Parser__read_in_sequence (sp_Parser__read_in_sequence K) (t_Parser__read_in_sequence K) := by
  rintro vs H Q E ⟨p, dx, e, k, S, b, rfl, h, ok, b0, b1, q⟩
  show t_Parser__read_in_sequence K _ [some (.ref p), some (.int b)] H
  unfold t_Parser__read_in_sequence
  obtain ⟨h1, h2, h3, h4⟩ := id h
  have u0 := ok.u0
  have u1 := ok.u1
  walk_at "ws"
  · have c : S.inSeq b = S.endSeq b := (by first | (simp only [PS.inSeq, *, or_false, false_or, or_true, true_or, and_true, true_and, and_false, false_and, not_true_eq_false, not_false_eq_true, if_true, if_false, gt_iff_lt, ge_iff_le, reduceCtorEq, Bool.true_eq_false, Bool.false_eq_true]; done) | (unfold PS.inSeq; (repeat' split) <;> first | rfl | (exfalso; omega) | (simp_all; done)))
    exact ⟨p, dx, e, k, S, b, rfl, h, ok, b0, b1, fun r er => q r (c.trans er)⟩
  · exact q ({ S with cur := min (S.cur * 10 + b - 48) 9999, first := false }, .none) (by first | (simp only [PS.inSeq, *, or_false, false_or, or_true, true_or, and_true, true_and, and_false, false_and, not_true_eq_false, not_false_eq_true, if_true, if_false, gt_iff_lt, ge_iff_le, reduceCtorEq, Bool.true_eq_false, Bool.false_eq_true]; done) | (unfold PS.inSeq; (repeat' split) <;> first | rfl | (exfalso; omega) | (simp_all; done))) _ _ (h.put rfl rfl rfl) im_non
  · refine ⟨p, dx, e, k, _, rfl, h, ok, fun H' po => ?_⟩
    obtain ⟨e1, k1, a1, f1, t1⟩ := id po
    obtain ⟨g1, g2, g3, g4⟩ := id a1
    walk_at "ws"
    exact q ({ S.endNumber with first := false }, .none) (by first | (simp only [PS.inSeq, *, or_false, false_or, or_true, true_or, and_true, true_and, and_false, false_and, not_true_eq_false, not_false_eq_true, if_true, if_false, gt_iff_lt, ge_iff_le, reduceCtorEq, Bool.true_eq_false, Bool.false_eq_true]; done) | (unfold PS.inSeq; (repeat' split) <;> first | rfl | (exfalso; omega) | (simp_all; done))) _ _ (Post.seq f1 t1 (a1.put rfl rfl rfl)) im_non
  · exact q ({ S with priv := b, first := false }, .none) (by first | (simp only [PS.inSeq, *, or_false, false_or, or_true, true_or, and_true, true_and, and_false, false_and, not_true_eq_false, not_false_eq_true, if_true, if_false, gt_iff_lt, ge_iff_le, reduceCtorEq, Bool.true_eq_false, Bool.false_eq_true]; done) | (unfold PS.inSeq; (repeat' split) <;> first | rfl | (exfalso; omega) | (simp_all; done))) _ _ (h.put rfl rfl rfl) im_non
  · exact q ({ S with valid := false, first := false }, .none) (by first | (simp only [PS.inSeq, *, or_false, false_or, or_true, true_or, and_true, true_and, and_false, false_and, not_true_eq_false, not_false_eq_true, if_true, if_false, gt_iff_lt, ge_iff_le, reduceCtorEq, Bool.true_eq_false, Bool.false_eq_true]; done) | (unfold PS.inSeq; (repeat' split) <;> first | rfl | (exfalso; omega) | (simp_all; done))) _ _ (h.put rfl rfl rfl) im_non
def sp_Parser__read_in_escape (K : PySem.W.Frag) : Sp := spM PS.inEscape K
def N_Parser__read_in_escape : List Str := ["self", "byte"]
def t_Parser__read_in_escape (K : PySem.W.Frag) : TS := C8.tCut (tIfS (PB.mTest (tOp (PB.mLt) (PB.mVar 1) (tC (.int 48)))) (tSeq (PB.oSet (He.ga K "Parser") an_Parser 0 (PB.mVar 0) (tC (.int (2)))) (
  tRet (tC .non))) (tNext)) (
  C8.tCut (tIfS (PB.mTest (tOp (PB.mEq K) (PB.mVar 1) (tC (.int 91)))) (tSeq (tDrop (PB.oMeth (He.ga K "Parser") an_Parser (sp_Parser__begin_sequence K) (PB.mVar 0) tNil)) (
  tRet (tC .non))) (tNext)) (
  C8.tCut (tIfS (PB.mTest (tOp (PB.mIn K) (PB.mVar 1) (tTup (tCons (tC (.int 80)) (tCons (tC (.int 88)) (tCons (tC (.int 93)) (tCons (tC (.int 94)) (tCons (tC (.int 95)) (tNil))))))))) (tSeq (tDrop (PB.oMeth (He.ga K "Parser") an_Parser (sp_Parser__begin_string K) (PB.mVar 0) (tCons (tOp (PB.mEq K) (PB.mVar 1) (tC (.int 93))) (tNil)))) (
  tRet (tC .non))) (tNext)) (
  tSeq (PB.oSet (He.ga K "Parser") an_Parser 0 (PB.mVar 0) (tC (.int (0)))) (
  tRet (tTup (tCons (tC (.str "escape")) (tCons (PB.mVar 1) (tNil))))))))

theorem len_Parser__read_in_escape {K : PySem.W.Frag} : PB.Len 2 (sp_Parser__read_in_escape K) := by walk_at "len"
theorem pure_Parser__read_in_escape (K : PySem.W.Frag) : PB.Pure N_Parser__read_in_escape (sp_Parser__read_in_escape K) (t_Parser__read_in_escape K) := by
  rintro vs H Q E ⟨p, dx, e, k, S, b, rfl, h, ok, b0, b1, q⟩
  show t_Parser__read_in_escape K _ [some (.ref p), some (.int b)] H
  unfold t_Parser__read_in_escape
  obtain ⟨h1, h2, h3, h4⟩ := id h
  walk_at "ws"
  · exact q ({ S with st := 2 }, .none) (by first | (simp only [PS.inEscape, *, or_false, false_or, or_true, true_or, and_true, true_and, and_false, false_and, not_true_eq_false, not_false_eq_true, if_true, if_false, gt_iff_lt, ge_iff_le, reduceCtorEq, Bool.true_eq_false, Bool.false_eq_true]; done) | (unfold PS.inEscape; (repeat' split) <;> first | rfl | (exfalso; omega) | (simp_all; done))) _ _ (h.put rfl rfl rfl) im_non
  · refine ⟨p, dx, e, k, _, rfl, h, ok, fun H' po => ?_⟩
    walk_at "ws"
    exact q (S.beginSeq, .none) (by first | (simp only [PS.inEscape, *, or_false, false_or, or_true, true_or, and_true, true_and, and_false, false_and, not_true_eq_false, not_false_eq_true, if_true, if_false, gt_iff_lt, ge_iff_le, reduceCtorEq, Bool.true_eq_false, Bool.false_eq_true]; done) | (unfold PS.inEscape; (repeat' split) <;> first | rfl | (exfalso; omega) | (simp_all; done))) _ _ po im_non
  · intro t Gt nt vt xt
    walk_at "ws"
    · refine ⟨p, dx, e, k, S, _, rfl, ⟨by walk_at "heap", by walk_at "heap", by walk_at "heap", h4⟩, fun H' po => ?_⟩
      have po2 : Post K H H' p dx e k _ := Post.seq (by walk_at "fr") (by walk_at "ts") po
      walk_at "ws"
      exact q (S.beginStr (decide (b = 93)), .none) (by first | (simp only [PS.inEscape, *, or_false, false_or, or_true, true_or, and_true, true_and, and_false, false_and, not_true_eq_false, not_false_eq_true, if_true, if_false, gt_iff_lt, ge_iff_le, reduceCtorEq, Bool.true_eq_false, Bool.false_eq_true]; done) | (unfold PS.inEscape; (repeat' split) <;> first | rfl | (exfalso; omega) | (simp_all; done))) _ _ po2 im_non
    · intro u Gu nu vu xu
      refine q ({ S with st := 0 }, esc b) (by first | (simp only [PS.inEscape, *, or_false, false_or, or_true, true_or, and_true, true_and, and_false, false_and, not_true_eq_false, not_false_eq_true, if_true, if_false, gt_iff_lt, ge_iff_le, reduceCtorEq, Bool.true_eq_false, Bool.false_eq_true]; done) | (unfold PS.inEscape; (repeat' split) <;> first | rfl | (exfalso; omega) | (simp_all; done))) _ _ (Post.new ?_ xu) (by walk_at "im")
      walk_at "post"

theorem ints_take (ns : List Int) (i : Nat) : (ns.map V.int).take i = (ns.take i).map V.int := (List.map_take ..).symm
theorem ints_drop (ns : List Int) (i : Nat) : (ns.map V.int).drop i = (ns.drop i).map V.int := (List.map_drop ..).symm
def sp_Parser__end_string (K : PySem.W.Frag) : Sp := fun vs H Q _ => ∃ (p dx e k : Addr) (S : PS), vs = [.ref p] ∧ At K H p dx e k S ∧ S.Ok ∧
  ∀ r, S.endStr = r → ∀ v H', Post K H H' p dx e k r.1 → Im K H' r.2 v → Q v H'
def N_Parser__end_string : List Str := ["self", "start", "shown", "byte"]
def t_Parser__end_string (K : PySem.W.Frag) : TS := tSeq (PB.oSet (He.ga K "Parser") an_Parser 0 (PB.mVar 0) (tC (.int (0)))) (
  tSeq (tAsg (tCB (PB.mTup K) (tCons (tSl (PB.mSl K) (PB.oFld (He.ga K "Parser") an_Parser 10 (PB.mVar 0)) (tNoPart) (PB.mPart (tC (.int 2)))) (tNil))) (gName 1)) (
  C8.tCut (tIfS (tOr (tNot (PB.mTru K (PB.oFld (He.ga K "Parser") an_Parser 9 (PB.mVar 0)))) (PB.mTest (tOp (PB.mNotIn K) (PB.mVar 1) (tTup (tCons (tTup (tCons (tC (.int 48)) (tCons (tC (.int 59)) (tNil)))) (tCons (tTup (tCons (tC (.int 50)) (tCons (tC (.int 59)) (tNil)))) (tNil))))))) (tRet (tC .non)) (tNext)) (
  tSeq (tAsg (tLc (iList K (tSl (PB.mSl K) (PB.oFld (He.ga K "Parser") an_Parser 10 (PB.mVar 0)) (PB.mPart (tC (.int 2))) (tNoPart))) (gName 3) (PB.mTest (PB.mChain (PB.mLe) (PB.mLe) (tC (.int 32)) (PB.mVar 3) (tC (.int 126)))) (PB.mVar 3) [3]) (gName 2)) (
  tRet (tTup (tCons (tC (.str "title")) (tCons (tCB (PB.mTup K) (tCons (tSl (PB.mSl K) (PB.mVar 2) (tNoPart) (PB.mPart (tC (.int (64))))) (tNil))) (tNil))))))))

theorem len_Parser__end_string {K : PySem.W.Frag} : PB.Len 1 (sp_Parser__end_string K) := by walk_at "len"
def isB (v : V) : Bool := match v with | .int b => decide (32 ≤ b) && decide (b ≤ 126) | _ => false
theorem filter_isB : ∀ ns : List Int, ((ns.map V.int).filter isB).map id = (ns.filter fun b => decide (32 ≤ b) && decide (b ≤ 126)).map V.int
  | [] => rfl
  | n :: ns => by
    have ih := filter_isB ns
    rw [List.map_id] at ih ⊢
    simp only [List.map_cons, List.filter_cons, isB, ih]
    split <;> rfl
theorem pure_Parser__end_string (K : PySem.W.Frag) : PB.Pure N_Parser__end_string (sp_Parser__end_string K) (t_Parser__end_string K) := by
  rintro vs H Q E ⟨p, dx, e, k, S, rfl, h, ok, q⟩
  show t_Parser__end_string K _ [some (.ref p), none, none, none] H
  unfold t_Parser__end_string
  obtain ⟨h1, h2, h3, h4⟩ := id h
  walk_at "ws"
  intro l1 Gl1 nl1 vl1 xl1
  rw [PB.cut_to (by decide), ints_take] at vl1
  walk_at "ws"
  intro l2 Gl2 nl2 vl2 xl2
  walk_at "ws"
  · refine q ({ S with st := 0 }, .none) (by first | (simp only [PS.endStr, *, or_false, false_or, or_true, true_or, and_true, true_and, and_false, false_and, not_true_eq_false, not_false_eq_true, if_true, if_false, gt_iff_lt, ge_iff_le, reduceCtorEq, Bool.true_eq_false, Bool.false_eq_true]; done) | (unfold PS.endStr; (repeat' split) <;> first | rfl | (exfalso; omega) | (simp_all; done))) _ _ ?_ im_non
    walk_at "post"
  intro t1 Gt1 nt1 vt1 xt1
  walk_at "ws"
  intro t2 Gt2 nt2 vt2 xt2
  walk_at "ws"
  intro t3 Gt3 nt3 vt3 xt3
  refine .inr (.inr ⟨.tuple ((S.kept.take 2).map PyData.int), [.tuple (([48, 59] : List Int).map PyData.int), .tuple (([50, 59] : List Int).map PyData.int)], ?_, ?_, (sh_tup (sh_ints (n := 0) _)).ok (by decide), (sh_tup (sh_cons (sh_tup (sh_ints (n := 0) _)) (sh_cons (sh_tup (sh_ints (n := 0) _)) sh_nil))).ok (by decide), ?_⟩)
  · exact Im.dp _ _ (im_tup (by walk_at "heap") (im_ints _))
  · exact Im.dp _ _ (im_tup (by walk_at "heap") (im_cons (im_tup (by walk_at "heap") (im_ints [48, 59])) (im_cons (im_tup (by walk_at "heap") (im_ints [50, 59])) im_nil)))
  simp only [if_true, List.any_cons, List.any_nil, Bool.or_false, eqv_tints]
  walk_at "ws"
  · refine q ({ S with st := 0 }, .none) ?_ _ _ ?_ im_non
    · unfold PS.endStr
      rw [if_pos]
      right
      rename_i hc
      intro z
      rcases z with z | z <;> simp [z] at hc
    · walk_at "post"
  · rename_i hc0 hc
    intro l Gl nl vl xl
    rw [PB.cut_from (by decide), ints_drop] at vl
    have kl := ok.kp
    refine PB.k_lcP isB id (SqL.of vl) (PB.sz_le (by simp; omega)) (fun x => rfl) ?_ ?_ ?_
    · intro x hx D acc hD
      obtain ⟨n, _, rfl⟩ := List.mem_map.mp hx
      show PB.pT _ [some (V.ref p), some (V.ref l2), none, some (.int n)] _ (decide (32 ≤ n) && decide (n ≤ 126))
      walk_at "pT"
    · intro x hx _ D acc hD
      exact PB.p_var rfl
    · intro D GD nD vD xD
      rw [filter_isB] at vD
      walk_at "ws"
      intro l3 Gl3 nl3 vl3 xl3
      rw [PB.cut_to (by decide), ints_take] at vl3
      walk_at "ws"
      intro l4 Gl4 nl4 vl4 xl4
      walk_at "ws"
      intro l5 Gl5 nl5 vl5 xl5
      refine q ({ S with st := 0 }, ttl (((S.kept.drop 2).filter fun b => decide (32 ≤ b) && decide (b ≤ 126)).take 64)) ?_ _ _ ?_ ?_
      · unfold PS.endStr
        rw [if_neg]
        intro z
        rcases z with z | z
        · simp [hc0] at z
        · exact z (hc.imp Eq.symm Eq.symm)
      · walk_at "post"
      · exact im_tup vl5 (im_cons im_str (im_cons (im_tup (by walk_at "heap") (im_ints _)) im_nil))
def sp_Parser__read_in_string (K : PySem.W.Frag) : Sp := spM PS.inStr K
def N_Parser__read_in_string : List Str := ["self", "byte"]
def t_Parser__read_in_string (K : PySem.W.Frag) : TS := C8.tCut (tIfS (PB.mTest (tOp (PB.mEq K) (PB.mVar 1) (tC (.int 7)))) (tRet (PB.oMeth (He.ga K "Parser") an_Parser (sp_Parser__end_string K) (PB.mVar 0) tNil)) (tNext)) (
  C8.tCut (tIfS (PB.mTest (tOp (PB.mEq K) (PB.mVar 1) (tC (.int 27)))) (PB.oSet (He.ga K "Parser") an_Parser 0 (PB.mVar 0) (tC (.int (5)))) (tIfS (PB.mTest (tOp (PB.mLt) (tCB (PB.mLen K) (tCons (PB.oFld (He.ga K "Parser") an_Parser 10 (PB.mVar 0)) (tNil))) (tC (.int (256))))) (tDrop (PB.mLM (PB.mAppend) (PB.oFld (He.ga K "Parser") an_Parser 10 (PB.mVar 0)) (tCons (PB.mVar 1) (tNil)))) (tNext))) (
  tRet (tC .non)))

theorem len_Parser__read_in_string {K : PySem.W.Frag} : PB.Len 2 (sp_Parser__read_in_string K) := by walk_at "len"
theorem pure_Parser__read_in_string (K : PySem.W.Frag) : PB.Pure N_Parser__read_in_string (sp_Parser__read_in_string K) (t_Parser__read_in_string K) := by
  rintro vs H Q E ⟨p, dx, e, k, S, b, rfl, h, ok, b0, b1, q⟩
  show t_Parser__read_in_string K _ [some (.ref p), some (.int b)] H
  unfold t_Parser__read_in_string
  obtain ⟨h1, h2, h3, h4⟩ := id h
  have kl := ok.kp
  have el : (S.kept.map V.int).length = S.kept.length := List.length_map _
  walk_at "ws"
  · have c : S.inStr b = S.endStr := (by first | (simp only [PS.inStr, *, or_false, false_or, or_true, true_or, and_true, true_and, and_false, false_and, not_true_eq_false, not_false_eq_true, if_true, if_false, gt_iff_lt, ge_iff_le, reduceCtorEq, Bool.true_eq_false, Bool.false_eq_true]; done) | (unfold PS.inStr; (repeat' split) <;> first | rfl | (exfalso; omega) | (simp_all; done)))
    exact ⟨p, dx, e, k, S, rfl, h, ok, fun r er => q r (c.trans er)⟩
  · exact q ({ S with st := 5 }, .none) (by first | (simp only [PS.inStr, *, or_false, false_or, or_true, true_or, and_true, true_and, and_false, false_and, not_true_eq_false, not_false_eq_true, if_true, if_false, gt_iff_lt, ge_iff_le, reduceCtorEq, Bool.true_eq_false, Bool.false_eq_true]; done) | (unfold PS.inStr; (repeat' split) <;> first | rfl | (exfalso; omega) | (simp_all; done))) _ _ (h.put rfl rfl rfl) im_non
  · have c : S.kept.length < 256 := by omega
    refine q ({ S with kept := S.kept ++ [b] }, .none) (by first | (simp only [PS.inStr, *, or_false, false_or, or_true, true_or, and_true, true_and, and_false, false_and, not_true_eq_false, not_false_eq_true, if_true, if_false, gt_iff_lt, ge_iff_le, reduceCtorEq, Bool.true_eq_false, Bool.false_eq_true]; done) | (unfold PS.inStr; (repeat' split) <;> first | rfl | (exfalso; omega) | (simp_all; done))) _ _ ?_ im_non
    walk_at "post"
  · have c : ¬ S.kept.length < 256 := by omega
    exact q (S, .none) (by first | (simp only [PS.inStr, *, or_false, false_or, or_true, true_or, and_true, true_and, and_false, false_and, not_true_eq_false, not_false_eq_true, if_true, if_false, gt_iff_lt, ge_iff_le, reduceCtorEq, Bool.true_eq_false, Bool.false_eq_true]; done) | (unfold PS.inStr; (repeat' split) <;> first | rfl | (exfalso; omega) | (simp_all; done))) _ _ h.same im_non
def sp_Parser__read_plain (K : PySem.W.Frag) : Sp := spM PS.plain K
def N_Parser__read_plain : List Str := ["self", "byte"]
def t_Parser__read_plain (K : PySem.W.Frag) : TS := C8.tCut (tIfS (PB.mTest (tOp (PB.mEq K) (PB.oFld (He.ga K "Parser") an_Parser 0 (PB.mVar 0)) (tC (.int (1))))) (tRet (PB.oMeth (He.ga K "Parser") an_Parser (sp_Parser__read_in_escape K) (PB.mVar 0) (tCons (PB.mVar 1) (tNil)))) (tNext)) (
  C8.tCut (tIfS (PB.mTest (tOp (PB.mEq K) (PB.oFld (He.ga K "Parser") an_Parser 0 (PB.mVar 0)) (tC (.int (3))))) (tRet (PB.oMeth (He.ga K "Parser") an_Parser (sp_Parser__read_in_sequence K) (PB.mVar 0) (tCons (PB.mVar 1) (tNil)))) (tNext)) (
  C8.tCut (tIfS (PB.mTest (tOp (PB.mEq K) (PB.oFld (He.ga K "Parser") an_Parser 0 (PB.mVar 0)) (tC (.int (2))))) (C8.tCut (tIfS (PB.mTest (tOp (PB.mGt) (PB.mVar 1) (tC (.int 47)))) (PB.oSet (He.ga K "Parser") an_Parser 0 (PB.mVar 0) (tC (.int (0)))) (tNext)) (
  tRet (tC .non))) (tNext)) (
  tRet (tTup (tCons (tC (.str "print")) (tCons (PB.mVar 1) (tNil)))))))

theorem len_Parser__read_plain {K : PySem.W.Frag} : PB.Len 2 (sp_Parser__read_plain K) := by walk_at "len"
theorem pure_Parser__read_plain (K : PySem.W.Frag) : PB.Pure N_Parser__read_plain (sp_Parser__read_plain K) (t_Parser__read_plain K) := by
  rintro vs H Q E ⟨p, dx, e, k, S, b, rfl, h, ok, b0, b1, q⟩
  show t_Parser__read_plain K _ [some (.ref p), some (.int b)] H
  unfold t_Parser__read_plain
  obtain ⟨h1, h2, h3, h4⟩ := id h
  walk_at "ws"
  · have c : S.plain b = S.inEscape b := (by first | (simp only [PS.plain, *, or_false, false_or, or_true, true_or, and_true, true_and, and_false, false_and, not_true_eq_false, not_false_eq_true, if_true, if_false, gt_iff_lt, ge_iff_le, reduceCtorEq, Bool.true_eq_false, Bool.false_eq_true]; done) | (unfold PS.plain; (repeat' split) <;> first | rfl | (exfalso; omega) | (simp_all; done)))
    exact ⟨p, dx, e, k, S, b, rfl, h, ok, b0, b1, fun r er => q r (c.trans er)⟩
  · have c : S.plain b = S.inSeq b := (by first | (simp only [PS.plain, *, or_false, false_or, or_true, true_or, and_true, true_and, and_false, false_and, not_true_eq_false, not_false_eq_true, if_true, if_false, gt_iff_lt, ge_iff_le, reduceCtorEq, Bool.true_eq_false, Bool.false_eq_true]; done) | (unfold PS.plain; (repeat' split) <;> first | rfl | (exfalso; omega) | (simp_all; done)))
    exact ⟨p, dx, e, k, S, b, rfl, h, ok, b0, b1, fun r er => q r (c.trans er)⟩
  · exact q ({ S with st := 0 }, .none) (by first | (simp only [PS.plain, *, or_false, false_or, or_true, true_or, and_true, true_and, and_false, false_and, not_true_eq_false, not_false_eq_true, if_true, if_false, gt_iff_lt, ge_iff_le, reduceCtorEq, Bool.true_eq_false, Bool.false_eq_true]; done) | (unfold PS.plain; (repeat' split) <;> first | rfl | (exfalso; omega) | (simp_all; done))) _ _ (h.put rfl rfl rfl) im_non
  · exact q (S, .none) (by first | (simp only [PS.plain, *, or_false, false_or, or_true, true_or, and_true, true_and, and_false, false_and, not_true_eq_false, not_false_eq_true, if_true, if_false, gt_iff_lt, ge_iff_le, reduceCtorEq, Bool.true_eq_false, Bool.false_eq_true]; done) | (unfold PS.plain; (repeat' split) <;> first | rfl | (exfalso; omega) | (simp_all; done))) _ _ h.same im_non
  · intro t Gt nt vt xt
    exact q (S, prt b) (by first | (simp only [PS.plain, *, or_false, false_or, or_true, true_or, and_true, true_and, and_false, false_and, not_true_eq_false, not_false_eq_true, if_true, if_false, gt_iff_lt, ge_iff_le, reduceCtorEq, Bool.true_eq_false, Bool.false_eq_true]; done) | (unfold PS.plain; (repeat' split) <;> first | rfl | (exfalso; omega) | (simp_all; done))) _ _ (h.same.new xt) (by walk_at "im")
def sp_Parser__read (K : PySem.W.Frag) : Sp := spM PS.read K
def N_Parser__read : List Str := ["self", "byte"]
def t_Parser__read (K : PySem.W.Frag) : TS := C8.tCut (tIfS (tOr (PB.mTest (tOp (PB.mEq K) (PB.mVar 1) (tC (.int 24)))) (PB.mTest (tOp (PB.mEq K) (PB.mVar 1) (tC (.int 26))))) (tSeq (PB.oSet (He.ga K "Parser") an_Parser 0 (PB.mVar 0) (tC (.int (0)))) (
  tRet (tC .non))) (tNext)) (
  C8.tCut (tIfS (PB.mTest (tOp (PB.mEq K) (PB.oFld (He.ga K "Parser") an_Parser 0 (PB.mVar 0)) (tC (.int (4))))) (tRet (PB.oMeth (He.ga K "Parser") an_Parser (sp_Parser__read_in_string K) (PB.mVar 0) (tCons (PB.mVar 1) (tNil)))) (tNext)) (
  C8.tCut (tIfS (PB.mTest (tOp (PB.mEq K) (PB.oFld (He.ga K "Parser") an_Parser 0 (PB.mVar 0)) (tC (.int (5))))) (C8.tCut (tIfS (PB.mTest (tOp (PB.mEq K) (PB.mVar 1) (tC (.int 92)))) (tRet (PB.oMeth (He.ga K "Parser") an_Parser (sp_Parser__end_string K) (PB.mVar 0) tNil)) (tNext)) (
  PB.oSet (He.ga K "Parser") an_Parser 0 (PB.mVar 0) (tC (.int (1))))) (tNext)) (
  C8.tCut (tIfS (PB.mTest (tOp (PB.mEq K) (PB.mVar 1) (tC (.int 27)))) (tSeq (PB.oSet (He.ga K "Parser") an_Parser 0 (PB.mVar 0) (tC (.int (1)))) (
  tRet (tC .non))) (tNext)) (
  C8.tCut (tIfS (PB.mTest (tOp (PB.mLt) (PB.mVar 1) (tC (.int 32)))) (tRet (tTup (tCons (tC (.str "control")) (tCons (PB.mVar 1) (tNil))))) (tNext)) (
  C8.tCut (tIfS (PB.mTest (tOp (PB.mEq K) (PB.mVar 1) (tC (.int 127)))) (tRet (tC .non)) (tNext)) (
  C8.tCut (tIfS (PB.mTest (tOp (PB.mGt) (PB.mVar 1) (tC (.int 127)))) (tSeq (PB.oSet (He.ga K "Parser") an_Parser 0 (PB.mVar 0) (tC (.int (0)))) (
  tRet (PB.oMeth (He.ga K "Parser") an_Parser (sp_Parser__read_of_character K) (PB.mVar 0) (tCons (PB.mVar 1) (tNil))))) (tNext)) (
  tRet (PB.oMeth (He.ga K "Parser") an_Parser (sp_Parser__read_plain K) (PB.mVar 0) (tCons (PB.mVar 1) (tNil))))))))))

theorem len_Parser__read {K : PySem.W.Frag} : PB.Len 2 (sp_Parser__read K) := by walk_at "len"
theorem pure_Parser__read (K : PySem.W.Frag) : PB.Pure N_Parser__read (sp_Parser__read K) (t_Parser__read K) := by
  rintro vs H Q E ⟨p, dx, e, k, S, b, rfl, h, ok, b0, b1, q⟩
  show t_Parser__read K _ [some (.ref p), some (.int b)] H
  unfold t_Parser__read
  obtain ⟨h1, h2, h3, h4⟩ := id h
  walk_at "w"
  walk_at "w"
  · walk_at "ws"
    exact q ({ S with st := 0 }, .none) (by first | (simp only [PS.read, *, or_false, false_or, or_true, true_or, and_true, true_and, and_false, false_and, not_true_eq_false, not_false_eq_true, if_true, if_false, gt_iff_lt, ge_iff_le, reduceCtorEq, Bool.true_eq_false, Bool.false_eq_true]; done) | (unfold PS.read; (repeat' split) <;> first | rfl | (exfalso; omega) | (simp_all; done))) _ _ (h.put rfl rfl rfl) im_non
  walk_at "w"
  walk_at "w"
  walk_at "w"
  · walk_at "ws"
    have c : S.read b = S.inStr b := (by first | (simp only [PS.read, *, or_false, false_or, or_true, true_or, and_true, true_and, and_false, false_and, not_true_eq_false, not_false_eq_true, if_true, if_false, gt_iff_lt, ge_iff_le, reduceCtorEq, Bool.true_eq_false, Bool.false_eq_true]; done) | (unfold PS.read; (repeat' split) <;> first | rfl | (exfalso; omega) | (simp_all; done)))
    exact ⟨p, dx, e, k, S, b, rfl, h, ok, b0, b1, fun r er => q r (c.trans er)⟩
  walk_at "w"
  refine PB.w_mid (fun σ' H' => σ' = [some (.ref p), some (.int b)] ∧ ∃ S1 : PS, At K H' p dx e k S1 ∧ S1.Ok ∧ Fr [p, e, k] [p, e, k] H H' ∧ Tst H H' ∧ S.read b = S1.read2 b) ?_ ?_
  · walk_at "ws"
    · have c : S.read b = S.endStr := (by first | (simp only [PS.read, *, or_false, false_or, or_true, true_or, and_true, true_and, and_false, false_and, not_true_eq_false, not_false_eq_true, if_true, if_false, gt_iff_lt, ge_iff_le, reduceCtorEq, Bool.true_eq_false, Bool.false_eq_true]; done) | (unfold PS.read; (repeat' split) <;> first | rfl | (exfalso; omega) | (simp_all; done)))
      exact ⟨p, dx, e, k, S, rfl, h, ok, fun r er => q r (c.trans er)⟩
    · exact ⟨rfl, { S with st := 1 }, h.set rfl rfl rfl, ok.set rfl rfl rfl rfl rfl, by walk_at "fr", by walk_at "ts", (by first | (simp only [PS.read, *, or_false, false_or, or_true, true_or, and_true, true_and, and_false, false_and, not_true_eq_false, not_false_eq_true, if_true, if_false, gt_iff_lt, ge_iff_le, reduceCtorEq, Bool.true_eq_false, Bool.false_eq_true]; done) | (unfold PS.read; (repeat' split) <;> first | rfl | (exfalso; omega) | (simp_all; done)))⟩
    · exact ⟨rfl, S, h, ok, Fr.refl _ _, Tst.refl _, (by first | (simp only [PS.read, *, or_false, false_or, or_true, true_or, and_true, true_and, and_false, false_and, not_true_eq_false, not_false_eq_true, if_true, if_false, gt_iff_lt, ge_iff_le, reduceCtorEq, Bool.true_eq_false, Bool.false_eq_true]; done) | (unfold PS.read; (repeat' split) <;> first | rfl | (exfalso; omega) | (simp_all; done)))⟩
  · rintro σ' H1 ⟨rfl, S1, a1, ok1, f1, t1, er1⟩
    obtain ⟨g1, g2, g3, g4⟩ := id a1
    walk_at "ws"
    · exact q ({ S1 with st := 1 }, .none) (er1.trans (by first | (simp only [PS.read2, *, or_false, false_or, or_true, true_or, and_true, true_and, and_false, false_and, not_true_eq_false, not_false_eq_true, if_true, if_false, gt_iff_lt, ge_iff_le, reduceCtorEq, Bool.true_eq_false, Bool.false_eq_true]; done) | (unfold PS.read2; (repeat' split) <;> first | rfl | (exfalso; omega) | (simp_all; done)))) _ _ (Post.seq f1 t1 (a1.put rfl rfl rfl)) im_non
    · intro t Gt nt vt xt
      exact q (S1, ctl b) (er1.trans (by first | (simp only [PS.read2, *, or_false, false_or, or_true, true_or, and_true, true_and, and_false, false_and, not_true_eq_false, not_false_eq_true, if_true, if_false, gt_iff_lt, ge_iff_le, reduceCtorEq, Bool.true_eq_false, Bool.false_eq_true]; done) | (unfold PS.read2; (repeat' split) <;> first | rfl | (exfalso; omega) | (simp_all; done)))) _ _ (Post.seq f1 t1 (a1.same.new xt)) (by walk_at "im")
    · exact q (S1, .none) (er1.trans (by first | (simp only [PS.read2, *, or_false, false_or, or_true, true_or, and_true, true_and, and_false, false_and, not_true_eq_false, not_false_eq_true, if_true, if_false, gt_iff_lt, ge_iff_le, reduceCtorEq, Bool.true_eq_false, Bool.false_eq_true]; done) | (unfold PS.read2; (repeat' split) <;> first | rfl | (exfalso; omega) | (simp_all; done)))) _ _ (Post.seq f1 t1 a1.same) im_non
    · have c : S1.read2 b = ({ S1 with st := 0 } : PS).ofChar b := (by first | (simp only [PS.read2, *, or_false, false_or, or_true, true_or, and_true, true_and, and_false, false_and, not_true_eq_false, not_false_eq_true, if_true, if_false, gt_iff_lt, ge_iff_le, reduceCtorEq, Bool.true_eq_false, Bool.false_eq_true]; done) | (unfold PS.read2; (repeat' split) <;> first | rfl | (exfalso; omega) | (simp_all; done)))
      have a2 : At K _ p dx e k { S1 with st := 0 } := a1.set rfl rfl rfl
      refine ⟨p, dx, e, k, _, b, rfl, a2, ok1.set rfl rfl rfl rfl rfl, b0, b1, fun r er v H' po im => q r ((er1.trans c).trans er) v H' (Post.seq f1 t1 (Post.seq ?_ ?_ po)) im⟩
      · walk_at "fr"
      · walk_at "ts"
    · have c : S1.read2 b = S1.plain b := (by first | (simp only [PS.read2, *, or_false, false_or, or_true, true_or, and_true, true_and, and_false, false_and, not_true_eq_false, not_false_eq_true, if_true, if_false, gt_iff_lt, ge_iff_le, reduceCtorEq, Bool.true_eq_false, Bool.false_eq_true]; done) | (unfold PS.read2; (repeat' split) <;> first | rfl | (exfalso; omega) | (simp_all; done)))
      exact ⟨p, dx, e, k, S1, b, rfl, a1, ok1, b0, b1, fun r er v H' po im => q r ((er1.trans c).trans er) v H' (Post.seq f1 t1 po) im⟩

/-! ### the bounds stay -/
theorem PS.Ok.endNumber {S : PS} (o : S.Ok) : S.endNumber.Ok := by
  obtain ⟨a, b, c, d, e, f, g, i, j, k, l⟩ := o
  unfold PS.endNumber
  split <;> constructor <;> simp_all <;> omega
theorem PS.Ok.further {S : PS} {b : Int} (o : S.Ok) (b0 : 0 ≤ b) (b1 : b < 256) (h : S.lack ≠ 0 → 128 ≤ b ∧ b < 192) : (S.further b).1.Ok := by
  obtain ⟨a, l3, c, d, e, f, g, i, j, k, l⟩ := id o
  unfold PS.further
  split
  · exact o
  all_goals
    have hb := h ‹_›
    (repeat' split) <;> constructor <;> simp_all <;> omega
theorem PS.Ok.ofChar {S : PS} {b : Int} (o : S.Ok) (b0 : 128 ≤ b) (b1 : b < 256) : (S.ofChar b).1.Ok := by
  unfold PS.ofChar
  split
  · exact o.further (by omega) b1 fun _ => ⟨b0, by assumption⟩
  · obtain ⟨a, l3, c, d, e, f, g, i, j, k, l⟩ := id o
    (repeat' split) <;> first | exact o | (constructor <;> simp_all [PS.beginChar] <;> omega)
theorem PS.Ok.inSeq {S : PS} {b : Int} (o : S.Ok) : (S.inSeq b).1.Ok := by
  have o2 := PS.Ok.endNumber (S := { S with st := 0 }) (o.set rfl rfl rfl rfl rfl)
  have o3 := o.endNumber
  unfold PS.inSeq PS.endSeq
  (repeat' split) <;> first | exact o2 | exact o.set rfl rfl rfl rfl rfl | exact o3.set rfl rfl rfl rfl rfl | skip
  obtain ⟨a, l3, c, d, e, f, g, i, j, k, l⟩ := o
  constructor <;> simp_all <;> omega
theorem PS.Ok.inEscape {S : PS} {b : Int} (o : S.Ok) : (S.inEscape b).1.Ok := by
  unfold PS.inEscape
  (repeat' split) <;> first | exact o.set rfl rfl rfl rfl rfl | skip
  all_goals
    obtain ⟨a, l3, c, d, e, f, g, i, j, k, l⟩ := o
    constructor <;> simp_all [PS.beginSeq, PS.beginStr]
theorem PS.Ok.endStr {S : PS} (o : S.Ok) : S.endStr.1.Ok := by
  unfold PS.endStr
  split <;> exact o.set rfl rfl rfl rfl rfl
theorem PS.Ok.inStr {S : PS} {b : Int} (o : S.Ok) : (S.inStr b).1.Ok := by
  have o2 := o.endStr
  unfold PS.inStr
  (repeat' split) <;> first | exact o2 | exact o | exact o.set rfl rfl rfl rfl rfl | skip
  obtain ⟨a, l3, c, d, e, f, g, i, j, k, l⟩ := o
  constructor <;> simp_all <;> omega
theorem PS.Ok.plain {S : PS} {b : Int} (o : S.Ok) : (S.plain b).1.Ok := by
  unfold PS.plain
  (repeat' split) <;> first | exact o.inEscape | exact o.inSeq | exact o | exact o.set rfl rfl rfl rfl rfl
theorem PS.Ok.read2 {S : PS} {b : Int} (o : S.Ok) (b0 : 0 ≤ b) (b1 : b < 256) : (S.read2 b).1.Ok := by
  unfold PS.read2
  (repeat' split) <;> first | exact o.plain | exact o | exact o.set rfl rfl rfl rfl rfl | skip
  exact PS.Ok.ofChar (S := { S with st := 0 }) (o.set rfl rfl rfl rfl rfl) (by omega) b1
theorem PS.Ok.read {S : PS} {b : Int} (o : S.Ok) (b0 : 0 ≤ b) (b1 : b < 256) : (S.read b).1.Ok := by
  unfold PS.read
  (repeat' split) <;> first | exact o.inStr | exact o.endStr | exact o.read2 b0 b1 | exact o.set rfl rfl rfl rfl rfl | skip
  exact PS.Ok.read2 (S := { S with st := 1 }) (o.set rfl rfl rfl rfl rfl) b0 b1
theorem PS.Ok.nolack {S : PS} (o : S.Ok) : ({ S with lack := 0 } : PS).Ok := by
  obtain ⟨a, l3, c, d, e, f, g, i, j, k, l⟩ := o
  constructor <;> simp_all
theorem PS.Ok.take1 {S : PS} {b : Int} (o : S.Ok) (b0 : 0 ≤ b) (b1 : b < 256) : (S.take1 b).1.Ok := by
  unfold PS.take1
  split
  · exact PS.Ok.read o.nolack b0 b1
  · exact o.read b0 b1
theorem PS.Ok.new : PS.new.Ok := by constructor <;> simp [PS.new]
theorem takeAll_snoc {b : Int} : ∀ {l : List Int} {S : PS}, S.takeAll (l ++ [b]) = (((S.takeAll l).1.take1 b).1, (S.takeAll l).2 ++ ((S.takeAll l).1.take1 b).2)
  | [], S => by simp [PS.takeAll]
  | a :: r, S => by simp [PS.takeAll, takeAll_snoc (l := r)]
theorem takeAll_app {l l' : List Int} : ∀ {S : PS}, S.takeAll (l ++ l') = (((S.takeAll l).1.takeAll l').1, (S.takeAll l).2 ++ ((S.takeAll l).1.takeAll l').2) := by
  induction l with
  | nil => intro S; simp [PS.takeAll]
  | cons a r ih => intro S; simp [PS.takeAll, ih]
theorem nn_len {d : PyData} : (nn d).length ≤ 1 := by unfold nn; split <;> simp
theorem take1_len {S : PS} {b : Int} : (S.take1 b).2.length ≤ 2 := by
  unfold PS.take1
  split
  · have := nn_len (d := (({ S with lack := 0 } : PS).read b).2)
    simp; omega
  · have := nn_len (d := (S.read b).2)
    show (nn _).length ≤ 2; omega
theorem takeAll_len : ∀ {l : List Int} {S : PS}, (S.takeAll l).2.length ≤ 2 * l.length
  | [], S => by simp [PS.takeAll]
  | a :: r, S => by
    have h1 := take1_len (S := S) (b := a)
    have h2 := takeAll_len (l := r) (S := (S.take1 a).1)
    simp only [PS.takeAll, List.length_append, List.length_cons]; omega
theorem PS.Ok.takeAll : ∀ {l : List Int} {S : PS}, S.Ok → (∀ b ∈ l, 0 ≤ b ∧ b < 256) → (S.takeAll l).1.Ok
  | [], S, o, _ => o
  | a :: r, S, o, h => by
    have hb := h a (List.mem_cons_self ..)
    exact PS.Ok.takeAll (l := r) (S := (S.take1 a).1) (o.take1 hb.1 hb.2) fun b hm => h b (List.mem_cons_of_mem _ hm)
theorem im_nn {K : PySem.W.Frag} {H : Hp} {d : PyData} {v : V} (h : Im K H d v) : (nn d = [] ∧ v = .non) ∨ (nn d = [d] ∧ v ≠ .non) := by
  cases d with
  | none => unfold Im at h; exact .inl ⟨rfl, h⟩
  | tuple ds => unfold Im at h; obtain ⟨a, xs, rfl, _⟩ := h; exact .inr ⟨rfl, by intro z; cases z⟩
  | bool b => unfold Im at h; subst h; exact .inr ⟨rfl, by intro z; cases z⟩
  | int i => unfold Im at h; subst h; exact .inr ⟨rfl, by intro z; cases z⟩
  | str x => unfold Im at h; subst h; exact .inr ⟨rfl, by intro z; cases z⟩
  | list _ => unfold Im at h; exact h.elim
  | dict _ => unfold Im at h; exact h.elim
theorem ImAll.snoc {K : PySem.W.Frag} {H : Hp} {d : PyData} {v : V} : ∀ {ds : List PyData} {vs : List V}, ImAll K H ds vs → Im K H d v → ImAll K H (ds ++ [d]) (vs ++ [v])
  | [], vs, h, hv => by unfold ImAll at h; subst h; exact im_cons hv im_nil
  | e :: ds, vs, h, hv => by
    unfold ImAll at h
    obtain ⟨w, r, rfl, h1, h2⟩ := h
    exact im_cons h1 (ImAll.snoc h2 hv)
theorem ImAll.len {K : PySem.W.Frag} {H : Hp} : ∀ {ds : List PyData} {vs : List V}, ImAll K H ds vs → vs.length = ds.length
  | [], vs, h => by unfold ImAll at h; subst h; rfl
  | e :: ds, vs, h => by
    unfold ImAll at h
    obtain ⟨w, r, rfl, h1, h2⟩ := h
    simp [ImAll.len h2]
theorem fr_more {o o' r : List Addr} {H H' : Hp} (f : Fr o o' H H') : Fr (o ++ r) (o' ++ r) H H' := by
  refine ⟨fun a x ha hx => f.1 a x (fun m => ha (List.mem_append_left _ m)) hx, fun a m => ?_⟩
  rcases List.mem_append.mp m with h | h
  · rcases f.2 a h with k | k
    · exact .inl (List.mem_append_left _ k)
    · exact .inr k
  · exact .inl (List.mem_append_right _ h)
/-! ### resting, take, a new parser -/
def sp_Parser___init__ (K : PySem.W.Frag) : Sp := fun vs H Q _ => ∃ (p dx : Addr), vs = [.ref p] ∧ H p = some (.ins (He.ga K "Parser") dx []) ∧
  ∀ H' e k, At K H' p dx e k PS.new → Fr [p] [p, e, k] H H' → Tst H H' → Q .non H'
def N_Parser___init__ : List Str := ["self"]
def t_Parser___init__ (K : PySem.W.Frag) : TS := tSeq (PB.oSet (He.ga K "Parser") an_Parser 0 (PB.mVar 0) (tC (.int (0)))) (
  tSeq (PB.oSet (He.ga K "Parser") an_Parser 1 (PB.mVar 0) (tC (.int 0))) (
  tSeq (PB.oSet (He.ga K "Parser") an_Parser 2 (PB.mVar 0) (tC (.int 0))) (
  tSeq (PB.oSet (He.ga K "Parser") an_Parser 3 (PB.mVar 0) (tC (.int 0))) (
  tSeq (PB.oSet (He.ga K "Parser") an_Parser 4 (PB.mVar 0) (tC (.bl true))) (
  tSeq (PB.oSet (He.ga K "Parser") an_Parser 5 (PB.mVar 0) (tC (.bl true))) (
  tSeq (PB.oSet (He.ga K "Parser") an_Parser 6 (PB.mVar 0) (tC (.int 0))) (
  tSeq (PB.oSet (He.ga K "Parser") an_Parser 7 (PB.mVar 0) (tLst (tNil))) (
  tSeq (PB.oSet (He.ga K "Parser") an_Parser 8 (PB.mVar 0) (tC (.int 0))) (
  tSeq (PB.oSet (He.ga K "Parser") an_Parser 9 (PB.mVar 0) (tC (.bl false))) (
  PB.oSet (He.ga K "Parser") an_Parser 10 (PB.mVar 0) (tLst (tNil))))))))))))

theorem len_Parser___init__ {K : PySem.W.Frag} : PB.Len 1 (sp_Parser___init__ K) := by walk_at "len"
theorem pure_Parser___init__ (K : PySem.W.Frag) : PB.Pure N_Parser___init__ (sp_Parser___init__ K) (t_Parser___init__ K) := by
  rintro vs H Q E ⟨p, dx, rfl, h, q⟩
  show t_Parser___init__ K _ [some (.ref p)] H
  unfold t_Parser___init__
  have h1 : H p = some (.ins (He.ga K "Parser") dx (an_Parser.zip [])) := h
  walk_at "ws"
  intro e G1 n1 v1 x1
  walk_at "ws"
  intro k G2 n2 v2 x2
  walk_at "ws"
  refine q _ e k ⟨?_, ?_, ?_, ?_⟩ ?_ ?_
  · walk_at "heap"
  · walk_at "heap"
  · walk_at "heap"
  · walk_at "ne"
  · walk_at "fr"
  · walk_at "ts"
/-- a list of bytes -/
def Bytes (bs : List Int) : Prop := ∀ b ∈ bs, 0 ≤ b ∧ b < 256
theorem Bytes.take {bs : List Int} (h : Bytes bs) (i : Nat) : Bytes (bs.take i) := fun b m => h b (List.mem_of_mem_take m)
theorem Bytes.app {bs cs : List Int} (h : Bytes bs) (h' : Bytes cs) : Bytes (bs ++ cs) := fun b m => by
  rcases List.mem_append.mp m with m | m
  · exact h b m
  · exact h' b m
theorem Bytes.nil : Bytes [] := fun b m => by cases m
def sp_Parser_take (K : PySem.W.Frag) : Sp := fun vs H Q _ => ∃ (p dx e k a : Addr) (S : PS) (bs : List Int), vs = [.ref p, .ref a] ∧ At K H p dx e k S ∧ S.Ok ∧ H a = some (.lst (bs.map V.int)) ∧ a ≠ e ∧ a ≠ k ∧ Bytes bs ∧ bs.length ≤ 1000000 ∧
  ∀ A H' e' k' us, At K H' p dx e' k' (S.takeAll bs).1 → Fr [p, e, k] [p, e', k'] H H' → Tst H H' → H A = none → H' A = some (.lst us) → ImAll K H' (S.takeAll bs).2 us → A ≠ e' → A ≠ k' → Q (.ref A) H'
def N_Parser_take : List Str := ["self", "data", "actions", "byte", "action"]
def t_Parser_take (K : PySem.W.Frag) : TS := tSeq (tAsg (tLst (tNil)) (gName 2)) (
  tSeq (tFor (iList K (PB.mVar 1)) (gName 3) (C8.tCut (tIfS (tAnd (PB.mTest (tOp (PB.mGt) (PB.oFld (He.ga K "Parser") an_Parser 1 (PB.mVar 0)) (tC (.int 0)))) (tNot (PB.mTest (PB.mChain (PB.mLe) (PB.mLe) (tC (.int 128)) (PB.mVar 3) (tC (.int 191)))))) (tSeq (PB.oSet (He.ga K "Parser") an_Parser 1 (PB.mVar 0) (tC (.int 0))) (
  tDrop (PB.mLM (PB.mAppend) (PB.mVar 2) (tCons (tTup (tCons (tC (.str "print")) (tCons (tC (.int (65533))) (tNil)))) (tNil))))) (tNext)) (
  tSeq (tAsg (PB.oMeth (He.ga K "Parser") an_Parser (sp_Parser__read K) (PB.mVar 0) (tCons (PB.mVar 3) (tNil))) (gName 4)) (
  tIfS (PB.mTest (tOp PB.mNotN (PB.mVar 4) (tC .non))) (tDrop (PB.mLM (PB.mAppend) (PB.mVar 2) (tCons (PB.mVar 4) (tNil)))) (tNext))))) (
  tRet (PB.mVar 2)))

theorem len_Parser_take {K : PySem.W.Frag} : PB.Len 2 (sp_Parser_take K) := by walk_at "len"
theorem pure_Parser_take (K : PySem.W.Frag) : PB.Pure N_Parser_take (sp_Parser_take K) (t_Parser_take K) := by
  rintro vs H Q E ⟨p, dx, e, k, a, S, bs, rfl, h, ok, ha, ae, ak, hb, hl, q⟩
  show t_Parser_take K _ [some (.ref p), some (.ref a), none, none, none] H
  unfold t_Parser_take
  obtain ⟨h1, h2, h3, h4⟩ := id h
  walk_at "ws"
  intro A H1 nA vA xA
  walk_at "w"
  have pa : p ≠ a := ne_of h1 ha (by intro z; cases z)
  refine PB.w_forL (a := a) (xs := bs.map V.int) (by walk_at "pE") (SqL.of (xA _ _ ha)) (fun i σ H2 => ∃ (e2 k2 : Addr) (x y : Option V) (us : List V), σ = [some (.ref p), some (.ref a), some (.ref A), x, y] ∧
    At K H2 p dx e2 k2 (S.takeAll (bs.take i)).1 ∧ Fr [p, e, k, A] [p, e2, k2, A] H1 H2 ∧ Tst H1 H2 ∧ H2 A = some (.lst us) ∧ ImAll K H2 (S.takeAll (bs.take i)).2 us ∧ A ≠ e2 ∧ A ≠ k2) ?_ ?_ ?_ ?_
  · refine ⟨e, k, none, none, [], rfl, ?_, Fr.refl _ _, Tst.refl _, vA, ?_, ?_, ?_⟩
    · rw [List.take_zero]; exact h.ext xA
    · rw [List.take_zero]; exact im_nil
    · walk_at "ne"
    · walk_at "ne"
  · rintro i σ H2 _ ⟨e2, k2, x, y, us, rfl, a2, f2, t2, l2, i2, A1, A2⟩
    refine SqL.of (f2.1 a _ ?_ (xA _ _ ha))
    have aA : a ≠ A := by walk_at "ne"
    simp only [List.mem_cons, List.not_mem_nil, or_false, not_or]
    exact ⟨pa.symm, ae, ak, aA⟩
  · rintro i v σ H2 hi ⟨e2, k2, x, y, us, rfl, a2, f2, t2, l2, i2, A1, A2⟩
    obtain ⟨b, hbi, rfl⟩ : ∃ b, bs[i]? = some b ∧ v = .int b := by
      rw [List.getElem?_map] at hi
      cases hx : bs[i]? with
      | none => rw [hx] at hi; cases hi
      | some b => rw [hx] at hi; exact ⟨b, rfl, (Option.some.inj hi).symm⟩
    have hbb := hb b (List.mem_of_getElem? hbi)
    have il : i < bs.length := (List.getElem?_eq_some_iff.mp hbi).1
    have ti : bs.take (i + 1) = bs.take i ++ [b] := by rw [List.take_add_one, hbi]; rfl
    have ok2 := ok.takeAll (hb.take i)
    have ul : us.length ≤ 2 * i := by
      rw [i2.len]
      refine Nat.le_trans takeAll_len ?_
      rw [List.length_take]; omega
    rw [ti, takeAll_snoc]
    generalize (S.takeAll (bs.take i)).1 = S2 at *
    generalize (S.takeAll (bs.take i)).2 = acts at *
    obtain ⟨g1, g2, g3, g4⟩ := id a2
    refine PB.g_name ?_
    have sx : ([some (.ref p), some (.ref a), some (.ref A), x, y] : L2.St).set 3 (some (.int b)) = [some (.ref p), some (.ref a), some (.ref A), some (.int b), y] := rfl
    rw [sx]
    refine PB.w_mid (fun σ' H' => σ' = [some (.ref p), some (.ref a), some (.ref A), some (.int b), y] ∧ ∃ (S3 : PS) (pre : List PyData) (us3 : List V), At K H' p dx e2 k2 S3 ∧ S3.Ok ∧ Fr [p, e2, k2, A] [p, e2, k2, A] H2 H' ∧ Tst H2 H' ∧
      H' A = some (.lst us3) ∧ ImAll K H' (acts ++ pre) us3 ∧ us3.length ≤ us.length + 1 ∧ S2.take1 b = ((S3.read b).1, pre ++ nn (S3.read b).2)) ?_ ?_
    · walk_at "ws"
      · intro t G3 n3 v3 x3
        have a3 : At K (upd H2 p _) p dx e2 k2 { S2 with lack := 0 } := a2.set rfl rfl rfl
        have f3 : Fr [p, e2, k2, A] [p, e2, k2, A] H2 G3 := by walk_at "fr"
        have t3 : Tst H2 G3 := by walk_at "ts"
        have a4 := a3.ext x3
        have pA : p ≠ A := ne_of g1 l2 (by intro z; cases z)
        refine ⟨rfl, { S2 with lack := 0 }, [prt 65533], us ++ [.ref t], ⟨?_, ?_, ?_, a4.ek⟩, ok2.nolack, ?_, ?_, upd_same, ?_, by simp, ?_⟩
        · rw [upd_ne pA]; exact a4.ob
        · rw [upd_ne A1.symm]; exact a4.he
        · rw [upd_ne A2.symm]; exact a4.hk
        · exact fr_upd f3 (by walk_at "mem")
        · exact ts_updL t3 (x3 _ _ (by rw [upd_ne pA.symm]; exact l2))
        · refine ImAll.snoc (ImAll.mono (ts_updL t3 (x3 _ _ (by rw [upd_ne pA.symm]; exact l2))) _ _ i2) ?_
          refine im_tup ?_ (im_cons im_str (im_cons im_int im_nil))
          rw [upd_ne (PB.ne_fresh n3 (show (upd H2 p _) A = _ by rw [upd_ne pA.symm]; exact l2)).symm]
          exact v3
        · unfold PS.take1
          rw [if_pos (by omega)]
          rfl
      · refine ⟨rfl, S2, [], us, a2, ok2, Fr.refl _ _, Tst.refl _, l2, by rw [List.append_nil]; exact i2, by omega, ?_⟩
        unfold PS.take1
        rw [if_neg (by omega)]
        rfl
    · rintro σ' H3 ⟨rfl, S3, pre, us3, a3, ok3, f3, t3, l3, i3, ul3, e3⟩
      obtain ⟨j1, j2, j3, j4⟩ := id a3
      walk_at "ws"
      refine ⟨p, dx, e2, k2, S3, b, rfl, a3, ok3, hbb.1, hbb.2, fun r er v H4 po im => ?_⟩
      subst er
      obtain ⟨e5, k5, a5, f5, t5⟩ := po
      have pA : p ≠ A := ne_of j1 l3 (by intro z; cases z)
      have l5 : H4 A = some (.lst us3) := f5.1 A _ (by simp only [List.mem_cons, List.not_mem_nil, or_false, not_or]; exact ⟨pA.symm, A1, A2⟩) l3
      have B1 : A ≠ e5 := fun z => by
        subst z
        rcases f5.2 A (by simp) with m | m
        · simp only [List.mem_cons, List.not_mem_nil, or_false] at m
          rcases m with m | m | m
          · exact pA m.symm
          · exact A1 m
          · exact A2 m
        · rw [l3] at m; cases m
      have B2 : A ≠ k5 := fun z => by
        subst z
        rcases f5.2 A (by simp) with m | m
        · simp only [List.mem_cons, List.not_mem_nil, or_false] at m
          rcases m with m | m | m
          · exact pA m.symm
          · exact A1 m
          · exact A2 m
        · rw [l3] at m; cases m
      have ff : Fr [p, e, k, A] [p, e5, k5, A] H1 H4 := f2.trans (f3.trans (fr_more (r := [A]) f5))
      have tt := t2.trans (t3.trans t5)
      have i5 := ImAll.mono t5 _ _ i3
      have len5 : us3.length < 9000000 := by omega
      walk_at "ws"
      · rename_i hc
        have nv : nn (S3.read b).2 = [(S3.read b).2] := by
          rcases im_nn im with ⟨_, z⟩ | ⟨z, _⟩
          · exact absurd z hc
          · exact z
        rw [e3, nv]
        refine ⟨e5, k5, _, _, us3 ++ [v], rfl, ⟨?_, ?_, ?_, a5.ek⟩, fr_upd ff (by walk_at "mem"), ts_updL tt l5, upd_same, ?_, B1, B2⟩
        · rw [upd_ne pA]; exact a5.ob
        · rw [upd_ne B1.symm]; exact a5.he
        · rw [upd_ne B2.symm]; exact a5.hk
        · rw [← List.append_assoc]
          exact ImAll.snoc (ImAll.mono (ts_lst l5) _ _ i5) (Im.mono (ts_lst l5) _ _ im)
      · rename_i hc
        have nv : nn (S3.read b).2 = [] := by
          rcases im_nn im with ⟨z, _⟩ | ⟨_, z⟩
          · exact z
          · exact absurd hc z
        rw [e3, nv]
        refine ⟨e5, k5, _, _, us3, rfl, a5, ff, tt, l5, ?_, B1, B2⟩
        rw [List.append_nil]
        exact i5
  · rintro σ H2 ⟨e2, k2, x, y, us, rfl, a2, f2, t2, l2, i2, A1, A2⟩
    rw [List.length_map, List.take_length] at a2 i2
    walk_at "ws"
    refine q A H2 e2 k2 us a2 ?_ ((ts_ext (Tst.refl _) xA).trans t2) nA l2 i2 A1 A2
    refine ⟨fun c z hc hz => f2.1 c z ?_ (xA _ _ hz), fun c hc => ?_⟩
    · have cA : c ≠ A := fun w => by subst w; rw [nA] at hz; cases hz
      simp only [List.mem_cons, List.not_mem_nil, or_false, not_or] at hc ⊢
      exact ⟨hc.1, hc.2.1, hc.2.2, cA⟩
    · have hc2 : c ∈ [p, e2, k2, A] := by
        simp only [List.mem_cons, List.not_mem_nil, or_false] at hc ⊢
        rcases hc with h | h | h <;> simp [h]
      have cA : c ≠ A := fun w => by
        subst w
        simp only [List.mem_cons, List.not_mem_nil, or_false] at hc
        rcases hc with h | h | h
        · exact (show p ≠ c from ne_of a2.ob l2 (by intro z; cases z)) h.symm
        · exact A1 h
        · exact A2 h
      rcases f2.2 c hc2 with m | m
      · left
        simp only [List.mem_cons, List.not_mem_nil, or_false] at m ⊢
        rcases m with h | h | h | h
        · exact .inl h
        · exact .inr (.inl h)
        · exact .inr (.inr h)
        · exact absurd h cA
      · right
        cases z : H c with
        | none => rfl
        | some w => rw [xA _ _ z] at m; cases m

def PS.rest (S : PS) : Bool := decide (S.st = 0) && decide (S.lack = 0)
def sp_Parser_resting (K : PySem.W.Frag) : Sp := fun vs H Q _ => ∃ (p dx e k : Addr) (S : PS), vs = [.ref p] ∧ At K H p dx e k S ∧ Q (.bl S.rest) H
def N_Parser_resting : List Str := ["self"]
def t_Parser_resting (K : PySem.W.Frag) : TS := tRet (PB.mAndV (tOp (PB.mEq K) (PB.oFld (He.ga K "Parser") an_Parser 0 (PB.mVar 0)) (tC (.int (0)))) (tOp (PB.mEq K) (PB.oFld (He.ga K "Parser") an_Parser 1 (PB.mVar 0)) (tC (.int 0))))

theorem len_Parser_resting {K : PySem.W.Frag} : PB.Len 1 (sp_Parser_resting K) := by walk_at "len"
theorem pure_Parser_resting (K : PySem.W.Frag) : PB.Pure N_Parser_resting (sp_Parser_resting K) (t_Parser_resting K) := by
  rintro vs H Q E ⟨p, dx, e, k, S, rfl, h, q⟩
  show t_Parser_resting K _ [some (.ref p)] H
  unfold t_Parser_resting
  obtain ⟨h1, h2, h3, h4⟩ := id h
  walk_at "ws"
  exact q

/-! ## what the laws share: cells, rows of drawn numbers, bytes -/
theorem fr_toExt {A : Addr} {H H1 H2 : Hp} (x : PB.Ext H H1) (n : H A = none) (f : Fr [A] [A] H1 H2) : PB.Ext H H2 := fun a o h => f.1 a o (fun m => by
  simp only [List.mem_cons, List.not_mem_nil, or_false] at m
  subst m; rw [n] at h; cases h) (x a o h)
/-- a list of ints, new; nothing else has changed -/
def newInts (H : Hp) (xs : List Int) (Q : VK) : Prop := PB.NewAt H (.lst (xs.map V.int)) Q
def sp_law_cell (K : PySem.W.Frag) : Sp := fun vs H Q _ => ∃ (a : Addr) (ns : List Int) (k : Int), vs = [.ref a, .int k] ∧ SqL K H a (ns.map V.int) ∧ 0 ≤ k ∧ Q (.int (ns.getD k.toNat 0)) H
def N_law_cell : List Str := ["script", "k"]
def t_law_cell (K : PySem.W.Frag) : TS := C8.tCut (tIfS (PB.mTest (tOp (PB.mLt) (PB.mVar 1) (tCB (PB.mLen K) (tCons (PB.mVar 0) (tNil))))) (tRet (tCB (PB.mInt) (tCons (tOp (PB.mIx K) (PB.mVar 0) (PB.mVar 1)) (tNil)))) (tNext)) (
  tRet (tC (.int 0)))

theorem len_law_cell {K : PySem.W.Frag} : PB.Len 2 (sp_law_cell K) := by walk_at "len"
theorem pure_law_cell (K : PySem.W.Frag) : PB.Pure N_law_cell (sp_law_cell K) (t_law_cell K) := by
  rintro vs H Q E ⟨a, ns, k, rfl, h, k0, q⟩
  show t_law_cell K _ [some (.ref a), some (.int k)] H
  unfold t_law_cell
  have el : (ns.map V.int).length = ns.length := List.length_map _
  walk_at "ws"
  · exact q
  · have e : ns.getD k.toNat 0 = 0 := by rw [List.getD_eq_getElem?_getD, List.getElem?_eq_none (by omega)]; rfl
    rw [e] at q
    exact q
def sp_law_row (K : PySem.W.Frag) : Sp := fun vs H Q _ => ∃ (c n b : Int), vs = [.int c, .int n, .int b] ∧ 0 ≤ n ∧ n ≤ 1000 ∧ 0 < b ∧ b < 4294967296 ∧ ∀ xs : List Int, (xs.length : Int) = n → (∀ x ∈ xs, 0 ≤ x ∧ x < b) → newInts H xs Q
def N_law_row : List Str := ["cell", "count", "bound", "rest", "mixed", "row", "k"]
def t_law_row (K : PySem.W.Frag) : TS := tSeq (tAsg (tCB (PB.mAbs) (tCons (tCB (PB.mInt) (tCons (PB.mVar 0) (tNil))) (tNil))) (gName 3)) (
  tSeq (tAsg (tOp (PB.mAdd K) (tOp (PB.mMod) (tCB (PB.mInt) (tCons (PB.mVar 0) (tNil))) (tC (.int 1000003))) (tC (.int 1))) (gName 4)) (
  tSeq (tAsg (tLst (tNil)) (gName 5)) (
  tSeq (tFor (iRng1 (tCons (PB.mVar 1) (tNil))) (gName 6) (tIfS (PB.mTest (tOp (PB.mGe) (PB.mVar 3) (PB.mVar 2))) (tSeq (tDrop (PB.mLM (PB.mAppend) (PB.mVar 5) (tCons (tOp (PB.mMod) (tCB (PB.mInt) (tCons (PB.mVar 3) (tNil))) (PB.mVar 2)) (tNil)))) (
  tAsg (tOp (PB.mDiv) (PB.mVar 3) (PB.mVar 2)) (gName 3))) (tSeq (tAsg (tOp (PB.mMod) (tCB (PB.mInt) (tCons (tOp (PB.mAdd K) (tOp (PB.mAdd K) (tOp (PB.mMul) (PB.mVar 4) (tC (.int 48271))) (tOp (PB.mMul) (tC (.int 11)) (PB.mVar 6))) (tC (.int 7))) (tNil))) (tC (.int 2147483647))) (gName 4)) (
  tDrop (PB.mLM (PB.mAppend) (PB.mVar 5) (tCons (tOp (PB.mMod) (tCB (PB.mInt) (tCons (tOp (PB.mDiv) (tOp (PB.mMul) (PB.mVar 4) (tC (.int 2862933555777941757))) (tC (.int 1024))) (tNil))) (PB.mVar 2)) (tNil))))))) (
  tRet (PB.mVar 5)))))

theorem len_law_row {K : PySem.W.Frag} : PB.Len 3 (sp_law_row K) := by walk_at "len"
theorem pure_law_row (K : PySem.W.Frag) : PB.Pure N_law_row (sp_law_row K) (t_law_row K) := by
  rintro vs H Q E ⟨c, n, b, rfl, n0, n1, b0, b1, q⟩
  show t_law_row K _ [some (.int c), some (.int n), some (.int b), none, none, none, none] H
  unfold t_law_row
  walk_at "ws"
  intro A H1 nA vA xA
  walk_at "w"
  refine PB.w_forR1 (j := n) (by walk_at "pA") (by omega) (by omega) (fun i σ H2 => ∃ (r m : Int) (x : Option V) (xs : List Int), σ = [some (.int c), some (.int n), some (.int b), some (.int r), some (.int m), some (.ref A), x] ∧
    0 ≤ r ∧ 0 ≤ m ∧ m < 4294967296 ∧ H2 A = some (.lst (xs.map V.int)) ∧ xs.length = i ∧ (∀ x ∈ xs, 0 ≤ x ∧ x < b) ∧ Fr [A] [A] H1 H2) ?_ ?_ ?_
  · refine ⟨_, _, none, [], rfl, ?_, ?_, ?_, vA, rfl, fun x hx => (by cases hx), Fr.refl _ _⟩
    · split <;> omega
    · omega
    · omega
  · rintro i σ H2 hi ⟨r, m, x, xs, rfl, r0, m0, m1, l2, xl, xb, f2⟩
    refine PB.g_name ?_
    have el : (xs.map V.int).length = xs.length := List.length_map _
    have mb : ∀ (y : Int), 0 ≤ y → y < b → ∀ x ∈ xs ++ [y], 0 ≤ x ∧ x < b := fun y h0 h1 z hz => by
      rcases List.mem_append.mp hz with h | h
      · exact xb z h
      · rw [List.mem_singleton] at h; subst h; exact ⟨h0, h1⟩
    walk_at "ws"
    · refine ⟨_, _, _, xs ++ [r % b], rfl, Int.ediv_nonneg r0 (by omega), m0, m1, ?_, by simp [xl], mb _ (Int.emod_nonneg _ (by omega)) (Int.emod_lt_of_pos _ b0), fr_upd f2 (by walk_at "mem")⟩
      rw [List.map_append]; exact upd_same
    · refine ⟨_, _, _, xs ++ [((m * 48271 + 11 * (0 + (i : Int)) + 7) % 2147483647 * 2862933555777941757 / 1024) % b], rfl, r0, Int.emod_nonneg _ (by decide), ?_, ?_, by simp [xl], mb _ (Int.emod_nonneg _ (by omega)) (Int.emod_lt_of_pos _ b0), fr_upd f2 (by walk_at "mem")⟩
      · exact Int.lt_trans (Int.emod_lt_of_pos _ (by decide)) (by decide)
      · rw [List.map_append]; exact upd_same
  · rintro σ H2 ⟨r, m, x, xs, rfl, r0, m0, m1, l2, xl, xb, f2⟩
    walk_at "ws"
    exact q xs (by omega) xb A H2 nA l2 (fr_toExt xA nA f2)

/-! ## drawn bytes -/
theorem k_pR {r : R2} {x y v : V} {H : Hp} {Q : VK} (h : PB.pR r x y H v) (q : Q v H) : r x y H Q := h _ q
theorem getD_in {l : List Int} {k : Nat} (h : k < l.length) : l.getD k 0 ∈ l := by
  rw [List.getD_eq_getElem?_getD, List.getElem?_eq_getElem h]
  exact List.getElem_mem h
theorem k_ixLit {K : PySem.W.Frag} {p : Addr} {xs : List V} {i : Int} {H : Hp} {Q : VK} (hx : H p = some (.lst xs)) (lo hi : Int) (h0 : 0 ≤ i) (h1 : i < (xs.length : Int)) (e : (PB.intsL xs).map V.int = xs) (hb : ∀ b ∈ PB.intsL xs, lo ≤ b ∧ b ≤ hi) (q : ∀ b, lo ≤ b → b ≤ hi → Q (.int b) H) : PB.mIx K (.ref p) (.int i) H Q := by
  have h1' : i < ((PB.intsL xs).length : Int) := by rw [← List.length_map (f := V.int), e]; exact h1
  have hx' : H p = some (.lst ((PB.intsL xs).map V.int)) := by rw [e]; exact hx
  have m := hb _ (getD_in (l := PB.intsL xs) (k := i.toNat) (by omega))
  exact PB.p_ixIH hx' h0 h1' _ (q _ m.1 m.2)
theorem k_rep1 {p : Addr} {v : V} {k : Int} {H : Hp} {Q : VK} (hx : H p = some (.lst [v])) (h0 : 0 ≤ k) (h1 : k ≤ 10000000) (q : PB.NewAt H (.lst (List.replicate k.toNat v)) Q) : PB.mMul (.ref p) (.int k) H Q := by
  refine ⟨p, k, [v], rfl, rfl, hx, by omega, by omega, PB.sz_le (by simp; omega), fun a ha => ?_⟩
  have e : (List.replicate k.toNat [v]).flatten = List.replicate k.toNat v := by simp
  rw [e]
  exact q.up a ha
local macro_rules | `(tactic| walk_at "pRa") => `(tactic| first
  | with_reducible exact PB.p_add
  | with_reducible exact PB.p_sub
  | ((with_reducible apply PB.p_mod); (· (first | omega | decide)))
  | ((with_reducible apply PB.p_div); (· (first | exact ⟨by omega, by decide +kernel⟩ | exact L2.wide_div (b := 64) (by omega) (by omega) (by decide) (by decide))))
  | ((with_reducible apply PB.p_mul); (· (first | assumption | exact PB.CMulW_of (by omega) (by omega)))))
local macro_rules | `(tactic| walk_at "k") => `(tactic| first
  | ((with_reducible apply k_pR); (· (walk_at "pRa")))
  | fail)
def newBytes (H : Hp) (n : Nat) (Q : VK) : Prop := ∀ bs : List Int, Bytes bs → bs.length ≤ n → newInts H bs Q
theorem Bytes.cons {b : Int} {bs : List Int} (h0 : 0 ≤ b) (h1 : b < 256) (h : Bytes bs) : Bytes (b :: bs) := fun c m => by
  rcases List.mem_cons.mp m with e | e
  · subst e; exact ⟨h0, h1⟩
  · exact h c e
theorem Bytes.rep {b : Int} {n : Nat} (h0 : 0 ≤ b) (h1 : b < 256) : Bytes (List.replicate n b) := fun c m => by
  rw [List.eq_of_mem_replicate m]; exact ⟨h0, h1⟩
/-- a list of bytes -/
def BL (H : Hp) (A : Addr) (n : Nat) : Prop := ∃ bs : List Int, H A = some (.lst (bs.map V.int)) ∧ Bytes bs ∧ bs.length ≤ n
theorem BL.up {H H1 : Hp} {A : Addr} {n : Nat} (h : BL H A n) (x : PB.Ext H H1) : BL H1 A n := by obtain ⟨bs, h1, h2⟩ := h; exact ⟨bs, x _ _ h1, h2⟩
theorem BL.ok {H : Hp} {A : Addr} {n : Nat} {xs : List V} (h : H A = some (.lst xs)) (e : (PB.intsL xs).map V.int = xs) (b : Bytes (PB.intsL xs)) (l : xs.length ≤ n) : BL H A n := ⟨PB.intsL xs, by rw [e]; exact h, b, by rw [← List.length_map (f := V.int), e]; exact l⟩
/-- what is said of a byte list that a call made -/
def newB (H : Hp) (n : Nat) (Q : VK) : Prop := ∀ A H', H A = none → BL H' A n → PB.Ext H H' → Q (.ref A) H'
theorem newB.to {H : Hp} {n m : Nat} {Q : VK} (h : newB H n Q) (l : m ≤ n) : newB H m Q := fun A H' h1 ⟨bs, h2, h3, h4⟩ x => h A H' h1 ⟨bs, h2, h3, Nat.le_trans h4 l⟩ x
theorem newB.after {H H0 : Hp} {n : Nat} {Q : VK} (h : newB H n Q) (x : PB.Ext H H0) : newB H0 n Q := fun A H' h1 h2 x2 => h A H' (by
  cases e : H A with
  | none => rfl
  | some y => rw [x _ _ e] at h1; cases h1) h2 (x.trans x2)
theorem newB.lit {H : Hp} {n : Nat} {Q : VK} {xs : List V} (h : newB H n Q) (e : (PB.intsL xs).map V.int = xs) (b : Bytes (PB.intsL xs)) (l : xs.length ≤ n) : PB.NewAt H (.lst xs) Q := fun A H' h1 h2 x => h A H' h1 (BL.ok h2 e b l) x
theorem k_catB {K : PySem.W.Frag} {a b : Addr} {n m : Nat} {H : Hp} {Q : VK} (hx : BL H a n) (hy : BL H b m) (hl : n + m ≤ 10000000) (q : newB H (n + m) Q) : PB.mAdd K (.ref a) (.ref b) H Q := by
  obtain ⟨bs, h1, h2, h3⟩ := hx
  obtain ⟨cs, h4, h5, h6⟩ := hy
  refine PB.k_cat h1 h4 (PB.sz_le (by simp only [List.length_map]; omega)) ?_
  rw [← List.map_append]
  exact fun A H' k1 k2 x => q A H' k1 ⟨bs ++ cs, k2, h2.app h5, by rw [List.length_append]; omega⟩ x
theorem dg_all : (List.range 1100).all (fun n => (((toString (n : Int) : String) : Str).cps.toList.all (fun c => decide (c < 256)) && decide (((toString (n : Int) : String) : Str).cps.toList.length ≤ 4))) = true := by decide +kernel
theorem dg_ok {n : Int} (h0 : 0 ≤ n) (h1 : n < 1100) : (∀ c ∈ ((toString n : String) : Str).cps.toList, c < 256) ∧ ((toString n : String) : Str).cps.toList.length ≤ 4 := by
  have h := List.all_eq_true.mp dg_all n.toNat (by rw [List.mem_range]; omega)
  rw [Int.toNat_of_nonneg h0, Bool.and_eq_true, decide_eq_true_eq, List.all_eq_true] at h
  exact ⟨fun c m => of_decide_eq_true (h.1 c m), h.2⟩
def sp_law_digits (K : PySem.W.Frag) : Sp := fun vs H Q _ => ∃ n : Int, vs = [.int n] ∧ 0 ≤ n ∧ n < 1100 ∧ newB H 4 Q
def N_law_digits : List Str := ["number", "sign"]
def t_law_digits (K : PySem.W.Frag) : TS := tRet (tLc (iStr (tCB (PB.mStr) (tCons (PB.mVar 0) (tNil)))) (gName 1) (tYes) (tCB (PB.mOrd) (tCons (PB.mVar 1) (tNil))) [1])

theorem len_law_digits {K : PySem.W.Frag} : PB.Len 1 (sp_law_digits K) := by walk_at "len"
theorem pure_law_digits (K : PySem.W.Frag) : PB.Pure N_law_digits (sp_law_digits K) (t_law_digits K) := by
  rintro vs H Q E ⟨n, rfl, n0, n1, q⟩
  show t_law_digits K _ [some (.int n), none] H
  unfold t_law_digits
  obtain ⟨d1, d2⟩ := dg_ok n0 n1
  refine PB.k_lcS (x := ((toString n : String) : Str)) ?_ (fun c => .int (c : Nat)) (PB.sz_le (by omega)) (fun _ => rfl) ?_ ?_
  · have hb : n.natAbs.log2 < 1920 := by
      have h2 : n.natAbs < 2 ^ 1920 := Nat.lt_of_lt_of_le (show n.natAbs < 2 ^ 11 by omega) (Nat.pow_le_pow_right (by decide) (by decide))
      by_cases z : n.natAbs = 0
      · rw [z]; decide
      · exact (Nat.log2_lt z).mpr h2
    exact PB.p_cb (PB.p_cons (PB.p_var rfl) PB.p_nil) fun _ q => ⟨hb, q⟩
  · intro c hc D acc hD
    exact PB.p_cb (PB.p_cons (PB.p_var rfl) PB.p_nil) fun _ q => ⟨rfl, q⟩
  · intro A H1 nA vA xA
    refine q A H1 nA ⟨((toString n : String) : Str).cps.toList.map fun c => ((c : Nat) : Int), ?_, ?_, ?_⟩ xA
    · rw [vA, List.map_map]; rfl
    · intro b m
      obtain ⟨c, hc, rfl⟩ := List.mem_map.mp m
      have := d1 c hc
      omega
    · rw [List.length_map]; exact d2

/-- bytes of a code -/
def sp_law_utf8 (K : PySem.W.Frag) : Sp := fun vs H Q _ => ∃ n : Int, vs = [.int n] ∧ 0 ≤ n ∧ n < 2000000 ∧ newB H 4 Q
def N_law_utf8 : List Str := ["point"]
def t_law_utf8 (K : PySem.W.Frag) : TS := C8.tCut (tIfS (PB.mTest (tOp (PB.mLt) (PB.mVar 0) (tC (.int 128)))) (tRet (tLst (tCons (PB.mVar 0) (tNil)))) (tNext)) (
  C8.tCut (tIfS (PB.mTest (tOp (PB.mLt) (PB.mVar 0) (tC (.int 2048)))) (tRet (tLst (tCons (tOp (PB.mAdd K) (tC (.int 192)) (tOp (PB.mDiv) (PB.mVar 0) (tC (.int 64)))) (tCons (tOp (PB.mAdd K) (tC (.int 128)) (tOp (PB.mMod) (PB.mVar 0) (tC (.int 64)))) (tNil))))) (tNext)) (
  C8.tCut (tIfS (PB.mTest (tOp (PB.mLt) (PB.mVar 0) (tC (.int 65536)))) (tRet (tLst (tCons (tOp (PB.mAdd K) (tC (.int 224)) (tOp (PB.mDiv) (PB.mVar 0) (tC (.int 4096)))) (tCons (tOp (PB.mAdd K) (tC (.int 128)) (tOp (PB.mMod) (tOp (PB.mDiv) (PB.mVar 0) (tC (.int 64))) (tC (.int 64)))) (tCons (tOp (PB.mAdd K) (tC (.int 128)) (tOp (PB.mMod) (PB.mVar 0) (tC (.int 64)))) (tNil)))))) (tNext)) (
  tRet (tLst (tCons (tOp (PB.mAdd K) (tC (.int 240)) (tOp (PB.mDiv) (PB.mVar 0) (tC (.int 262144)))) (tCons (tOp (PB.mAdd K) (tC (.int 128)) (tOp (PB.mMod) (tOp (PB.mDiv) (PB.mVar 0) (tC (.int 4096))) (tC (.int 64)))) (tCons (tOp (PB.mAdd K) (tC (.int 128)) (tOp (PB.mMod) (tOp (PB.mDiv) (PB.mVar 0) (tC (.int 64))) (tC (.int 64)))) (tCons (tOp (PB.mAdd K) (tC (.int 128)) (tOp (PB.mMod) (PB.mVar 0) (tC (.int 64)))) (tNil)))))))))

theorem len_law_utf8 {K : PySem.W.Frag} : PB.Len 1 (sp_law_utf8 K) := by walk_at "len"
theorem Bytes.one {b : Int} (h : 0 ≤ b ∧ b < 256) : Bytes [b] := .cons h.1 h.2 .nil
theorem pure_law_utf8 (K : PySem.W.Frag) : PB.Pure N_law_utf8 (sp_law_utf8 K) (t_law_utf8 K) := by
  rintro vs H Q E ⟨n, rfl, n0, n1, q⟩
  show t_law_utf8 K _ [some (.int n)] H
  unfold t_law_utf8
  walk_at "ws"
  all_goals
    refine q.lit rfl ?_ (by simp)
    simp only [PB.intsL]
    intro b m
    simp only [List.mem_cons, List.not_mem_nil, or_false] at m
    omega
def sp_law_sequence (K : PySem.W.Frag) : Sp := fun vs H Q _ => ∃ (x m : Int) (a : Addr) (fs : List Int), vs = [.int x, .ref a, .int m] ∧ 0 ≤ x ∧ x < 16777216 ∧ 0 < m ∧ m ≤ 100 ∧ H a = some (.lst (fs.map V.int)) ∧ Bytes fs ∧ 0 < fs.length ∧ fs.length ≤ 100 ∧ newB H 16 Q
def N_law_sequence : List Str := ["x", "finals", "most", "data"]
def t_law_sequence (K : PySem.W.Frag) : TS := tSeq (tAsg (tOp (PB.mAdd K) (tLst (tCons (tC (.int 27)) (tCons (tC (.int 91)) (tNil)))) (PB.mCall (sp_law_digits K) (tCons (tOp (PB.mMod) (PB.mVar 0) (PB.mVar 2)) (tNil)))) (gName 3)) (
  C8.tCut (tIfS (PB.mTest (tOp (PB.mEq K) (tOp (PB.mMod) (tOp (PB.mDiv) (PB.mVar 0) (PB.mVar 2)) (tC (.int 3))) (tC (.int 0)))) (tAsg (tOp (PB.mAdd K) (tOp (PB.mAdd K) (PB.mVar 3) (tLst (tCons (tC (.int 59)) (tNil)))) (PB.mCall (sp_law_digits K) (tCons (tOp (PB.mMod) (tOp (PB.mDiv) (PB.mVar 0) (tC (.int 64))) (PB.mVar 2)) (tNil)))) (gName 3)) (tNext)) (
  C8.tCut (tIfS (PB.mTest (tOp (PB.mEq K) (tOp (PB.mMod) (tOp (PB.mDiv) (PB.mVar 0) (tC (.int 4096))) (tC (.int 7))) (tC (.int 0)))) (tAsg (tLst (tCons (tC (.int 27)) (tCons (tC (.int 91)) (tNil)))) (gName 3)) (tNext)) (
  tRet (tOp (PB.mAdd K) (PB.mVar 3) (tLst (tCons (tOp (PB.mIx K) (PB.mVar 1) (tOp (PB.mMod) (tOp (PB.mDiv) (PB.mVar 0) (tC (.int 256))) (tCB (PB.mLen K) (tCons (PB.mVar 1) (tNil))))) (tNil)))))))

theorem len_law_sequence {K : PySem.W.Frag} : PB.Len 3 (sp_law_sequence K) := by walk_at "len"
theorem pure_law_sequence (K : PySem.W.Frag) : PB.Pure N_law_sequence (sp_law_sequence K) (t_law_sequence K) := by
  rintro vs H Q E ⟨x, m, a, fs, rfl, x0, x1, m0, m1, ha, fb, f0, f1, q⟩
  show t_law_sequence K _ [some (.int x), some (.ref a), some (.int m), none] H
  unfold t_law_sequence
  have el : (fs.map V.int).length = fs.length := List.length_map _
  have e1 := Int.emod_nonneg x (show m ≠ 0 by omega)
  have e2 := Int.emod_lt_of_pos x m0
  have e3 := Int.emod_nonneg (x / 64) (show m ≠ 0 by omega)
  have e4 := Int.emod_lt_of_pos (x / 64) m0
  have g0 := Int.emod_nonneg (x / 256) (show ((fs.map V.int).length : Int) ≠ 0 by omega)
  have g1 := Int.emod_lt_of_pos (x / 256) (show 0 < ((fs.map V.int).length : Int) by omega)
  have by2 : Bytes (PB.intsL [V.int 27, V.int 91]) := .cons (by decide) (by decide) (.one (by decide))
  walk_at "ws"
  refine newB.lit (n := 2) ?_ rfl by2 (by decide)
  intro A H1 nA bA xA
  walk_at "ws"
  refine ⟨x % m, rfl, e1, by omega, fun B H2 nB bB xB => ?_⟩
  refine k_catB (bA.up xB) bB (by decide) ?_
  intro C H3 nC bC xC
  have x3 := xA.trans (xB.trans xC)
  have fin : ∀ D H4, BL H4 D 11 → PB.Ext H H4 → (tRet (tOp (PB.mAdd K) (PB.mVar 3) (tLst (tCons (tOp (PB.mIx K) (PB.mVar 1) (tOp (PB.mMod) (tOp (PB.mDiv) (PB.mVar 0) (tC (.int 256))) (tCB (PB.mLen K) (tCons (PB.mVar 1) (tNil))))) (tNil)))) : TS) { nx := fun x H' => Q V.non H', rt := Q } [some (.int x), some (.ref a), some (.int m), some (.ref D)] H4 := by
    intro D H4 bD x4
    have ha4 := x4 _ _ ha
    walk_at "ws"
    refine newB.lit (n := 1) ?_ rfl (.one (fb _ (getD_in (by omega)))) (Nat.le_refl _)
    intro F H5 nF bF xF
    refine k_catB (bD.up xF) bF (by decide) ?_
    exact (q.to (by decide)).after (x4.trans xF)
  have key : ∀ D H4, BL H4 D 11 → PB.Ext H H4 → (C8.tCut (tIfS (PB.mTest (tOp (PB.mEq K) (tOp (PB.mMod) (tOp (PB.mDiv) (PB.mVar 0) (tC (.int 4096))) (tC (.int 7))) (tC (.int 0)))) (tAsg (tLst (tCons (tC (.int 27)) (tCons (tC (.int 91)) (tNil)))) (gName 3)) (tNext)) (
    tRet (tOp (PB.mAdd K) (PB.mVar 3) (tLst (tCons (tOp (PB.mIx K) (PB.mVar 1) (tOp (PB.mMod) (tOp (PB.mDiv) (PB.mVar 0) (tC (.int 256))) (tCB (PB.mLen K) (tCons (PB.mVar 1) (tNil))))) (tNil))))) : TS) { nx := fun x H' => Q V.non H', rt := Q } [some (.int x), some (.ref a), some (.int m), some (.ref D)] H4 := by
    intro D H4 bD x4
    refine PB.w_cut (PB.w_if (by walk_at "pT") ?_ ?_)
    · intro _
      refine PB.w_asgK (PB.k_lstP (by walk_at "pA") (PB.szle rfl) ?_)
      refine newB.lit (n := 11) ?_ rfl by2 (by decide)
      intro F H5 nF bF xF
      exact fin F H5 bF (x4.trans xF)
    · intro _
      exact PB.w_next (fin D H4 bD x4)
  refine PB.w_cut (PB.w_if (by walk_at "pT") ?_ ?_)
  · intro _
    walk_at "ws"
    refine newB.lit (n := 1) ?_ rfl (.one (by decide)) (by decide)
    intro F H4 nF bF xF
    refine k_catB (bC.up xF) bF (by decide) ?_
    intro G H5 nG bG xG
    walk_at "ws"
    refine ⟨x / 64 % m, rfl, e3, by omega, fun J H6 nJ bJ xJ => ?_⟩
    refine k_catB (bG.up xJ) bJ (by decide) ?_
    intro L H7 nL bL xL
    exact key L H7 bL (x3.trans (xF.trans (xG.trans (xJ.trans xL))))
  · intro _
    refine PB.w_next (key C H3 ?_ x3)
    obtain ⟨bs, k1, k2, k3⟩ := bC
    exact ⟨bs, k1, k2, by omega⟩

local macro_rules | `(tactic| walk_at "by") => `(tactic| (intro b hb; simp only [PB.intsL, List.mem_cons, List.not_mem_nil, or_false] at hb; omega))
def sp_law_token (K : PySem.W.Frag) : Sp := fun vs H Q _ => ∃ (k x : Int), vs = [.int k, .int x] ∧ 0 ≤ x ∧ x < 16777216 ∧ newB H 20 Q
def N_law_token : List Str := ["kind", "x", "moves", "edits", "scrolls", "others", "first"]
def t_law_token (K : PySem.W.Frag) : TS := tSeq (tAsg (tLst (tCons (tC (.int 65)) (tCons (tC (.int 66)) (tCons (tC (.int 67)) (tCons (tC (.int 68)) (tCons (tC (.int 69)) (tCons (tC (.int 70)) (tCons (tC (.int 71)) (tCons (tC (.int 72)) (tCons (tC (.int 73)) (tCons (tC (.int 90)) (tCons (tC (.int 100)) (tCons (tC (.int 102)) (tNil)))))))))))))) (gName 2)) (
  tSeq (tAsg (tLst (tCons (tC (.int 64)) (tCons (tC (.int 74)) (tCons (tC (.int 75)) (tCons (tC (.int 76)) (tCons (tC (.int 77)) (tCons (tC (.int 80)) (tCons (tC (.int 88)) (tNil))))))))) (gName 3)) (
  tSeq (tAsg (tLst (tCons (tC (.int 76)) (tCons (tC (.int 77)) (tCons (tC (.int 83)) (tCons (tC (.int 84)) (tCons (tC (.int 114)) (tCons (tC (.int 114)) (tNil)))))))) (gName 4)) (
  tSeq (tAsg (tLst (tCons (tC (.int 99)) (tCons (tC (.int 103)) (tCons (tC (.int 110)) (tCons (tC (.int 110)) (tCons (tC (.int 115)) (tCons (tC (.int 117)) (tCons (tC (.int 104)) (tCons (tC (.int 108)) (tCons (tC (.int 105)) (tNil))))))))))) (gName 5)) (
  C8.tCut (tIfS (PB.mTest (tOp (PB.mLt) (PB.mVar 0) (tC (.int 5)))) (tRet (tOp (PB.mMul) (tLst (tCons (tOp (PB.mAdd K) (tC (.int 97)) (tOp (PB.mMod) (PB.mVar 1) (tC (.int 26)))) (tNil))) (tOp (PB.mAdd K) (tC (.int 1)) (tOp (PB.mMod) (tOp (PB.mDiv) (PB.mVar 1) (tC (.int 26))) (tC (.int 4)))))) (tNext)) (
  C8.tCut (tIfS (PB.mTest (tOp (PB.mEq K) (PB.mVar 0) (tC (.int 5)))) (tRet (PB.mCall (sp_law_utf8 K) (tCons (tOp (PB.mAdd K) (tOp (PB.mIx K) (tLst (tCons (tC (.int 19968)) (tCons (tC (.int 44032)) (tCons (tC (.int 128512)) (tCons (tC (.int 65281)) (tNil)))))) (tOp (PB.mMod) (PB.mVar 1) (tC (.int 4)))) (tOp (PB.mMod) (tOp (PB.mDiv) (PB.mVar 1) (tC (.int 4))) (tC (.int 90)))) (tNil)))) (tNext)) (
  C8.tCut (tIfS (PB.mTest (tOp (PB.mEq K) (PB.mVar 0) (tC (.int 6)))) (tRet (PB.mCall (sp_law_utf8 K) (tCons (tOp (PB.mAdd K) (tC (.int 160)) (tOp (PB.mMod) (PB.mVar 1) (tC (.int 1500)))) (tNil)))) (tNext)) (
  C8.tCut (tIfS (PB.mTest (tOp (PB.mEq K) (PB.mVar 0) (tC (.int 7)))) (tRet (tLst (tCons (tOp (PB.mIx K) (tLst (tCons (tC (.int 8)) (tCons (tC (.int 9)) (tCons (tC (.int 10)) (tCons (tC (.int 13)) (tCons (tC (.int 11)) (tCons (tC (.int 10)) (tCons (tC (.int 12)) (tCons (tC (.int 7)) (tNil)))))))))) (tOp (PB.mMod) (PB.mVar 1) (tC (.int 8)))) (tNil)))) (tNext)) (
  C8.tCut (tIfS (PB.mTest (tOp (PB.mEq K) (PB.mVar 0) (tC (.int 8)))) (tRet (PB.mCall (sp_law_sequence K) (tCons (PB.mVar 1) (tCons (PB.mVar 2) (tCons (tC (.int 12)) (tNil)))))) (tNext)) (
  C8.tCut (tIfS (PB.mTest (tOp (PB.mEq K) (PB.mVar 0) (tC (.int 9)))) (tRet (PB.mCall (sp_law_sequence K) (tCons (PB.mVar 1) (tCons (PB.mVar 3) (tCons (tC (.int 5)) (tNil)))))) (tNext)) (
  C8.tCut (tIfS (PB.mTest (tOp (PB.mEq K) (PB.mVar 0) (tC (.int 10)))) (tRet (PB.mCall (sp_law_sequence K) (tCons (PB.mVar 1) (tCons (PB.mVar 4) (tCons (tC (.int 6)) (tNil)))))) (tNext)) (
  C8.tCut (tIfS (PB.mTest (tOp (PB.mEq K) (PB.mVar 0) (tC (.int 11)))) (tRet (PB.mCall (sp_law_sequence K) (tCons (PB.mVar 1) (tCons (PB.mVar 5) (tCons (tC (.int 7)) (tNil)))))) (tNext)) (
  C8.tCut (tIfS (PB.mTest (tOp (PB.mEq K) (PB.mVar 0) (tC (.int 12)))) (tRet (tOp (PB.mAdd K) (tOp (PB.mAdd K) (tLst (tCons (tC (.int 27)) (tCons (tC (.int 91)) (tCons (tC (.int 63)) (tNil))))) (PB.mCall (sp_law_digits K) (tCons (tOp (PB.mIx K) (tLst (tCons (tC (.int 6)) (tCons (tC (.int 7)) (tCons (tC (.int 25)) (tCons (tC (.int 1049)) (tCons (tC (.int 1049)) (tCons (tC (.int 7)) (tNil)))))))) (tOp (PB.mMod) (PB.mVar 1) (tC (.int 6)))) (tNil)))) (tLst (tCons (tOp (PB.mAdd K) (tC (.int 104)) (tOp (PB.mMul) (tC (.int 4)) (tOp (PB.mMod) (tOp (PB.mDiv) (PB.mVar 1) (tC (.int 6))) (tC (.int 2))))) (tNil))))) (tNext)) (
  C8.tCut (tIfS (PB.mTest (tOp (PB.mEq K) (PB.mVar 0) (tC (.int 13)))) (tRet (tLst (tCons (tC (.int 27)) (tCons (tOp (PB.mIx K) (tLst (tCons (tC (.int 55)) (tCons (tC (.int 56)) (tCons (tC (.int 68)) (tCons (tC (.int 69)) (tCons (tC (.int 72)) (tCons (tC (.int 77)) (tCons (tC (.int 77)) (tCons (tC (.int 99)) (tNil)))))))))) (tOp (PB.mMod) (PB.mVar 1) (tC (.int 8)))) (tNil))))) (tNext)) (
  C8.tCut (tIfS (PB.mTest (tOp (PB.mEq K) (PB.mVar 0) (tC (.int 14)))) (tSeq (tAsg (tOp (PB.mIx K) (tLst (tCons (tC (.int 0)) (tCons (tC (.int 1)) (tCons (tC (.int 4)) (tCons (tC (.int 5)) (tCons (tC (.int 7)) (tCons (tC (.int 22)) (tCons (tC (.int 24)) (tCons (tC (.int 27)) (tCons (tC (.int 31)) (tCons (tC (.int 39)) (tCons (tC (.int 44)) (tCons (tC (.int 49)) (tCons (tC (.int 95)) (tCons (tC (.int 102)) (tCons (tC (.int 38)) (tCons (tC (.int 48)) (tNil)))))))))))))))))) (tOp (PB.mMod) (PB.mVar 1) (tC (.int 16)))) (gName 6)) (
  tRet (tOp (PB.mAdd K) (tOp (PB.mAdd K) (tOp (PB.mAdd K) (tOp (PB.mAdd K) (tLst (tCons (tC (.int 27)) (tCons (tC (.int 91)) (tNil)))) (PB.mCall (sp_law_digits K) (tCons (PB.mVar 6) (tNil)))) (tLst (tCons (tC (.int 59)) (tCons (tC (.int 53)) (tCons (tC (.int 59)) (tNil)))))) (PB.mCall (sp_law_digits K) (tCons (tOp (PB.mMod) (tOp (PB.mDiv) (PB.mVar 1) (tC (.int 16))) (tC (.int 300))) (tNil)))) (tLst (tCons (tC (.int 109)) (tNil)))))) (tNext)) (
  C8.tCut (tIfS (PB.mTest (tOp (PB.mEq K) (PB.mVar 0) (tC (.int 15)))) (tRet (tOp (PB.mAdd K) (tOp (PB.mAdd K) (tLst (tCons (tC (.int 27)) (tCons (tC (.int 93)) (tCons (tOp (PB.mAdd K) (tC (.int 48)) (tOp (PB.mMod) (PB.mVar 1) (tC (.int 3)))) (tCons (tC (.int 59)) (tNil)))))) (tOp (PB.mMul) (tLst (tCons (tOp (PB.mAdd K) (tC (.int 60)) (tOp (PB.mMod) (tOp (PB.mDiv) (PB.mVar 1) (tC (.int 3))) (tC (.int 60)))) (tNil))) (tOp (PB.mMod) (tOp (PB.mDiv) (PB.mVar 1) (tC (.int 180))) (tC (.int 4))))) (tOp (PB.mIx K) (tLst (tCons (tLst (tCons (tC (.int 7)) (tNil))) (tCons (tLst (tCons (tC (.int 27)) (tCons (tC (.int 92)) (tNil)))) (tNil)))) (tOp (PB.mMod) (tOp (PB.mDiv) (PB.mVar 1) (tC (.int 720))) (tC (.int 2)))))) (tNext)) (
  tRet (tLst (tCons (tOp (PB.mMod) (PB.mVar 1) (tC (.int 256))) (tCons (tOp (PB.mMod) (tOp (PB.mDiv) (PB.mVar 1) (tC (.int 256))) (tC (.int 256))) (tCons (tOp (PB.mMod) (tOp (PB.mDiv) (PB.mVar 1) (tC (.int 65536))) (tC (.int 256))) (tNil)))))))))))))))))))))

theorem len_law_token {K : PySem.W.Frag} : PB.Len 2 (sp_law_token K) := by walk_at "len"
theorem pure_law_token (K : PySem.W.Frag) : PB.Pure N_law_token (sp_law_token K) (t_law_token K) := by
  rintro vs H Q E ⟨k, x, rfl, x0, x1, q⟩
  show t_law_token K _ [some (.int k), some (.int x), none, none, none, none, none] H
  unfold t_law_token
  walk_at "ws"
  intro A1 H1 n1 v1 y1
  walk_at "ws"
  intro A2 H2 n2 v2 y2
  walk_at "ws"
  intro A3 H3 n3 v3 y3
  walk_at "ws"
  intro A4 H4 n4 v4 y4
  have z1 := y4 _ _ (y3 _ _ (y2 _ _ v1))
  have z2 := y4 _ _ (y3 _ _ v2)
  have z3 := y4 _ _ v3
  replace q := q.after (y1.trans (y2.trans (y3.trans y4)))
  walk_at "ws"
  · intro A H5 nA vA xA
    walk_at "ws"
    refine k_rep1 vA (by omega) (by omega) ?_
    intro B H6 nB vB xB
    refine q.after xA B H6 nB ⟨List.replicate (1 + x / 26 % 4).toNat (97 + x % 26), ?_, .rep (by omega) (by omega), by simp; omega⟩ xB
    rw [vB, List.map_replicate]
  · intro A H5 nA vA xA
    walk_at "ws"
    refine k_ixLit vA 19968 128512 (by omega) (by simp; omega) rfl (by decide) fun b b0 b1 => ?_
    walk_at "ws"
    exact ⟨_, rfl, by omega, by omega, (q.to (by decide)).after xA⟩
  · exact ⟨_, rfl, by omega, by omega, q.to (by decide)⟩
  · intro A H5 nA vA xA
    walk_at "ws"
    refine k_ixLit vA 7 13 (by omega) (by simp; omega) rfl (by decide) fun b b0 b1 => ?_
    walk_at "ws"
    exact newB.lit (n := 1) ((q.to (by decide)).after xA) rfl (.one (by omega)) (Nat.le_refl _)
  · exact ⟨_, _, _, [65, 66, 67, 68, 69, 70, 71, 72, 73, 90, 100, 102], rfl, x0, x1, by decide, by decide, z1, by walk_at "by", by decide, by decide, q.to (by decide)⟩
  · exact ⟨_, _, _, [64, 74, 75, 76, 77, 80, 88], rfl, x0, x1, by decide, by decide, z2, by walk_at "by", by decide, by decide, q.to (by decide)⟩
  · exact ⟨_, _, _, [76, 77, 83, 84, 114, 114], rfl, x0, x1, by decide, by decide, z3, by walk_at "by", by decide, by decide, q.to (by decide)⟩
  · exact ⟨_, _, _, [99, 103, 110, 110, 115, 117, 104, 108, 105], rfl, x0, x1, by decide, by decide, v4, by walk_at "by", by decide, by decide, q.to (by decide)⟩
  · refine newB.lit (n := 3) ?_ rfl (by walk_at "by") (by decide)
    intro A H5 nA bA xA
    walk_at "ws"
    intro B H6 nB vB xB
    walk_at "ws"
    refine k_ixLit vB 6 1049 (by omega) (by simp; omega) rfl (by decide) fun b b0 b1 => ?_
    walk_at "ws"
    refine ⟨b, rfl, by omega, by omega, fun C H7 nC bC xC => ?_⟩
    refine k_catB ((bA.up xB).up xC) bC (by decide) ?_
    intro D H8 nD bD xD
    walk_at "ws"
    refine newB.lit (n := 1) ?_ rfl (by walk_at "by") (Nat.le_refl _)
    intro F H9 nF bF xF
    refine k_catB (bD.up xF) bF (by decide) ?_
    exact (q.to (by decide)).after ((((xA.trans xB).trans xC).trans xD).trans xF)
  · intro A H5 nA vA xA
    walk_at "ws"
    refine k_ixLit vA 55 99 (by omega) (by simp; omega) rfl (by decide) fun b b0 b1 => ?_
    walk_at "ws"
    exact newB.lit (n := 2) ((q.to (by decide)).after xA) rfl (.cons (by decide) (by decide) (.one (by omega))) (Nat.le_refl _)
  · intro A H5 nA vA xA
    walk_at "ws"
    refine k_ixLit vA 0 102 (by omega) (by simp; omega) rfl (by decide) fun b b0 b1 => ?_
    walk_at "ws"
    refine newB.lit (n := 2) ?_ rfl (by walk_at "by") (by decide)
    intro B H6 nB bB xB
    walk_at "ws"
    refine ⟨b, rfl, by omega, by omega, fun C H7 nC bC xC => ?_⟩
    refine k_catB (bB.up xC) bC (by decide) ?_
    intro D H8 nD bD xD
    walk_at "ws"
    refine newB.lit (n := 3) ?_ rfl (by walk_at "by") (by decide)
    intro F H9 nF bF xF
    refine k_catB (bD.up xF) bF (by decide) ?_
    intro G H10 nG bG xG
    walk_at "ws"
    refine ⟨_, rfl, by omega, by omega, fun J H11 nJ bJ xJ => ?_⟩
    refine k_catB (bG.up xJ) bJ (by decide) ?_
    intro L H12 nL bL xL
    walk_at "ws"
    refine newB.lit (n := 1) ?_ rfl (by walk_at "by") (Nat.le_refl _)
    intro M H13 nM bM xM
    refine k_catB (bL.up xM) bM (by decide) ?_
    exact (q.to (by decide)).after ((((((((xA.trans xB).trans xC).trans xD).trans xF).trans xG).trans xJ).trans xL).trans xM)
  · refine newB.lit (n := 4) ?_ rfl (by walk_at "by") (by simp)
    intro A H5 nA bA xA
    walk_at "ws"
    intro B H6 nB vB xB
    walk_at "ws"
    refine k_rep1 vB (by omega) (by omega) ?_
    intro C H7 nC vC xC
    have bC : BL H7 C 3 := ⟨List.replicate (x / 180 % 4).toNat (60 + x / 3 % 60), by rw [vC, List.map_replicate], .rep (by omega) (by omega), by simp; omega⟩
    refine k_catB ((bA.up xB).up xC) bC (by decide) ?_
    intro D H8 nD bD xD
    walk_at "ws"
    intro F H9 nF vF xF
    walk_at "ws"
    intro G H10 nG vG xG
    walk_at "ws"
    intro J H11 nJ vJ xJ
    walk_at "ws"
    have bF : BL H11 F 2 := ((BL.ok (n := 2) vF rfl (.one (by decide)) (by decide)).up xG).up xJ
    have bG : BL H11 G 2 := (BL.ok (n := 2) vG rfl (.cons (by decide) (by decide) (.one (by decide))) (by decide)).up xJ
    have bD2 := ((bD.up xF).up xG).up xJ
    have qq := q.after (((((((xA.trans xB).trans xC).trans xD).trans xF).trans xG).trans xJ))
    rcases (show x / 720 % 2 = 0 ∨ x / 720 % 2 = 1 by omega) with e | e <;> rw [e]
    · exact ⟨[.ref F, .ref G], .ref F, .inl (SqL.of vJ), rfl, k_catB bD2 bF (by decide) (qq.to (by decide))⟩
    · exact ⟨[.ref F, .ref G], .ref G, .inl (SqL.of vJ), rfl, k_catB bD2 bG (by decide) (qq.to (by decide))⟩
  · exact newB.lit (n := 3) (q.to (by decide)) rfl (by walk_at "by") (Nat.le_refl _)

def sp_law_stream (K : PySem.W.Frag) : Sp := fun vs H Q _ => ∃ (a c : Addr) (ns ks : List Int), vs = [.ref a, .ref c] ∧ SqL K H a (ns.map V.int) ∧ H c = some (.lst (ks.map V.int)) ∧ 0 < ks.length ∧ ks.length ≤ 100 ∧ ns.length ≤ 100 ∧ newB H (40 * ns.length) Q
def N_law_stream : List Str := ["cells", "kinds", "data", "cell", "drawn", "k"]
def t_law_stream (K : PySem.W.Frag) : TS := tSeq (tAsg (tLst (tNil)) (gName 2)) (
  tSeq (tFor (iList K (PB.mVar 0)) (gName 3) (tSeq (tAsg (PB.mCall (sp_law_row K) (tCons (PB.mVar 3) (tCons (tC (.int 4)) (tCons (tC (.int 16777216)) (tNil))))) (gName 4)) (
  tFor (iRng1 (tCons (tC (.int 2)) (tNil))) (gName 5) (tAsg (tOp (PB.mAdd K) (PB.mVar 2) (PB.mCall (sp_law_token K) (tCons (tOp (PB.mIx K) (PB.mVar 1) (tOp (PB.mMod) (tOp (PB.mIx K) (PB.mVar 4) (tOp (PB.mMul) (tC (.int 2)) (PB.mVar 5))) (tCB (PB.mLen K) (tCons (PB.mVar 1) (tNil))))) (tCons (tOp (PB.mIx K) (PB.mVar 4) (tOp (PB.mAdd K) (tOp (PB.mMul) (tC (.int 2)) (PB.mVar 5)) (tC (.int 1)))) (tNil))))) (gName 2))))) (
  tRet (PB.mVar 2)))

theorem len_law_stream {K : PySem.W.Frag} : PB.Len 2 (sp_law_stream K) := by walk_at "len"
theorem BL.nil {H : Hp} {A : Addr} (h : H A = some (.lst [])) : BL H A 0 := ⟨[], h, Bytes.nil, Nat.le_refl _⟩
theorem BL.to {H : Hp} {A : Addr} {n m : Nat} (h : BL H A n) (l : n ≤ m) : BL H A m := by
  obtain ⟨bs, k1, k2, k3⟩ := h
  exact ⟨bs, k1, k2, Nat.le_trans k3 l⟩
theorem none_of {H H1 : Hp} (x : PB.Ext H H1) {a : Addr} (h : H1 a = none) : H a = none := by
  cases e : H a with
  | none => rfl
  | some y => rw [x a y e] at h; cases h
theorem pure_law_stream (K : PySem.W.Frag) : PB.Pure N_law_stream (sp_law_stream K) (t_law_stream K) := by
  rintro vs H Q E ⟨a, c, ns, ks, rfl, ha, hc, k0, k1, n1, q⟩
  show t_law_stream K _ [some (.ref a), some (.ref c), none, none, none, none] H
  unfold t_law_stream
  have el : (ks.map V.int).length = ks.length := List.length_map _
  walk_at "ws"
  intro A H1 nA vA xA
  walk_at "ws"
  refine PB.w_forL (a := a) (xs := ns.map V.int) (by walk_at "pE") (PB.ext_l xA ha) (fun i σ H2 => ∃ (D : Addr) (x y z : Option V), σ = [some (.ref a), some (.ref c), some (.ref D), x, y, z] ∧ BL H2 D (40 * i) ∧ PB.Ext H H2 ∧ H D = none) ?_ ?_ ?_ ?_
  · exact ⟨A, none, none, none, rfl, BL.nil vA, xA, nA⟩
  · rintro i σ H2 _ ⟨D, x, y, z, rfl, _, x2, _⟩
    exact PB.ext_l x2 ha
  · rintro i v σ H2 hi ⟨D, x, y, z, rfl, bD, x2, nD⟩
    have il : i < ns.length := by
      have z := (List.getElem?_eq_some_iff.mp hi).1
      rwa [List.length_map] at z
    obtain ⟨n, hn, rfl⟩ := List.mem_map.mp (List.mem_of_getElem? hi)
    refine PB.g_name ?_
    walk_at "ws"
    refine ⟨n, 4, 16777216, rfl, by decide, by decide, by decide, by decide, fun xs hl hb R H3 nR vR x3 => ?_⟩
    obtain ⟨y0, y1, y2, y3, rfl⟩ : ∃ y0 y1 y2 y3, xs = [y0, y1, y2, y3] := by
      match xs, hl with
      | [a, b, c, d], _ => exact ⟨a, b, c, d, rfl⟩
    have rb := fun k : Nat => fun h : k < [y0, y1, y2, y3].length => hb _ (getD_in h)
    clear hb
    generalize hzs : [y0, y1, y2, y3] = zs at rb vR
    have zl : zs.length = 4 := by rw [← hzs]; rfl
    refine PB.w_forR1 (j := 2) (PB.p_cons PB.p_c PB.p_nil) (by omega) (by omega) (fun j σ H4 => ∃ (D : Addr) (z : Option V), σ = [some (.ref a), some (.ref c), some (.ref D), some (.int n), some (.ref R), z] ∧ BL H4 D (40 * i + 20 * j) ∧ PB.Ext H3 H4 ∧ H D = none) ?_ ?_ ?_
    · exact ⟨D, z, rfl, bD.up x3, PB.Ext.refl _, nD⟩
    · rintro j σ H4 hj ⟨D2, z2, rfl, bD2, x4, nD2⟩
      refine PB.g_name ?_
      have hc4 := x4 _ _ (x3 _ _ (x2 _ _ hc))
      have vR4 := x4 _ _ vR
      have b0 := rb (2 * (0 + (j : Int))).toNat (by omega)
      have b1 := rb (2 * (0 + (j : Int)) + 1).toNat (by omega)
      have m0 := Int.emod_nonneg (zs.getD (2 * (0 + (j : Int))).toNat 0) (show ((ks.map V.int).length : Int) ≠ 0 by omega)
      have m1 := Int.emod_lt_of_pos (zs.getD (2 * (0 + (j : Int))).toNat 0) (show 0 < ((ks.map V.int).length : Int) by omega)
      walk_at "ws"
      refine ⟨_, _, rfl, b1.1, b1.2, fun T H5 nT bT xT => ?_⟩
      refine k_catB (bD2.up xT) bT (by omega) ?_
      intro F H6 nF bF xF
      exact ⟨F, _, rfl, bF.to (by omega), x4.trans (xT.trans xF), none_of (x2.trans (x3.trans (x4.trans xT))) nF⟩
    · rintro σ H4 ⟨D2, z2, rfl, bD2, x4, nD2⟩
      exact ⟨D2, _, _, _, rfl, bD2.to (by show 40 * i + 20 * 2 ≤ 40 * (i + 1); omega), x2.trans (x3.trans x4), nD2⟩
  · rintro σ H2 ⟨D, x, y, z, rfl, bD, x2, nD⟩
    walk_at "ws"
    exact q D H2 nD (by rw [List.length_map] at bD; exact bD) x2

/-! ## k04: the cuts -/
/-- lists of bytes, one by one -/
def Parts (H : Hp) : List Addr → List (List Int) → Prop
  | [], [] => True
  | a :: r, p :: ps => H a = some (.lst (p.map V.int)) ∧ Parts H r ps
  | _, _ => False
theorem Parts.up {H H1 : Hp} (x : PB.Ext H H1) : ∀ {as : List Addr} {ps : List (List Int)}, Parts H as ps → Parts H1 as ps
  | [], [], _ => trivial
  | _ :: _, _ :: _, h => ⟨x _ _ h.1, Parts.up x h.2⟩
theorem Parts.snoc {H : Hp} {a : Addr} {p : List Int} (h : H a = some (.lst (p.map V.int))) : ∀ {as : List Addr} {ps : List (List Int)}, Parts H as ps → Parts H (as ++ [a]) (ps ++ [p])
  | [], [], _ => ⟨h, trivial⟩
  | _ :: _, _ :: _, k => ⟨k.1, Parts.snoc h k.2⟩
theorem Parts.fr {o o' : List Addr} {H H1 : Hp} (f : Fr o o' H H1) : ∀ {as : List Addr} {ps : List (List Int)}, (∀ a ∈ as, a ∉ o) → Parts H as ps → Parts H1 as ps
  | [], [], _, _ => trivial
  | a :: _, _ :: _, n, h => ⟨f.1 a _ (n a (List.mem_cons_self ..)) h.1, Parts.fr f (fun b m => n b (List.mem_cons_of_mem _ m)) h.2⟩
theorem k_appK {ta te : TE} {σ : L2.St} {H : Hp} {l : Addr} {xs : List V} {Q : VK} (ha : PB.pE ta σ H (.ref l)) (hH : H l = some (.lst xs)) (h : te σ H fun v H1 => PB.mAppend (.ref l) [v] H1 Q) : PB.mLM PB.mAppend ta (tCons te tNil) σ H Q := by
  refine ha _ ?_
  show (match H l with | some (.lst _) => _ | _ => False)
  rw [hH]
  exact h
theorem k_app {H : Hp} {l : Addr} {xs : List V} {v : V} {Q : VK} (hH : H l = some (.lst xs)) (hl : xs.length < sizeLine) (q : Q .non (upd H l (.lst (xs ++ [v])))) : PB.mAppend (.ref l) [v] H Q := by
  show (match H l with | some (.lst xs) => xs.length < sizeLine ∧ Q .non (upd H l (.lst (xs ++ [v]))) | _ => False)
  rw [hH]
  exact ⟨hl, q⟩
def sp_law_cuts (K : PySem.W.Frag) : Sp := fun vs H Q _ => ∃ (d c : Addr) (bs ns : List Int), vs = [.ref d, .ref c] ∧ H d = some (.lst (bs.map V.int)) ∧ SqL K H c (ns.map V.int) ∧ bs.length ≤ 1000000 ∧ ns.length < 64 ∧
  ∀ A H' as ps, H A = none → H' A = some (.lst (as.map V.ref)) → Parts H' as ps → ps.flatten = bs → ps.length ≤ 64 → PB.Ext H H' → Q (.ref A) H'
def N_law_cuts : List Str := ["data", "cells", "places", "pieces", "at", "place", "cell"]
def t_law_cuts (K : PySem.W.Frag) : TS := tSeq (tAsg (tCB (rSorted K) (tCons (tLc (iList K (PB.mVar 1)) (gName 6) (tYes) (tOp (PB.mMod) (tCB (PB.mInt) (tCons (PB.mVar 6) (tNil))) (tOp (PB.mAdd K) (tCB (PB.mLen K) (tCons (PB.mVar 0) (tNil))) (tC (.int 1)))) [6]) (tNil))) (gName 2)) (
  tSeq (tAsg (tLst (tNil)) (gName 3)) (
  tSeq (tAsg (tC (.int 0)) (gName 4)) (
  tSeq (tFor (iList K (PB.mVar 2)) (gName 5) (tSeq (tDrop (PB.mLM (PB.mAppend) (PB.mVar 3) (tCons (tSl (PB.mSl K) (PB.mVar 0) (PB.mPart (PB.mVar 4)) (PB.mPart (PB.mVar 5))) (tNil)))) (
  tAsg (PB.mVar 5) (gName 4)))) (
  tSeq (tDrop (PB.mLM (PB.mAppend) (PB.mVar 3) (tCons (tSl (PB.mSl K) (PB.mVar 0) (PB.mPart (PB.mVar 4)) (tNoPart)) (tNil)))) (
  tRet (PB.mVar 3))))))

theorem len_law_cuts {K : PySem.W.Frag} : PB.Len 2 (sp_law_cuts K) := by walk_at "len"
theorem pure_law_cuts (K : PySem.W.Frag) : PB.Pure N_law_cuts (sp_law_cuts K) (t_law_cuts K) := by
  rintro vs H Q E ⟨d, c, bs, ns, rfl, hd, hc, b1, n1, q⟩
  show t_law_cuts K _ [some (.ref d), some (.ref c), none, none, none, none, none] H
  unfold t_law_cuts
  have el : (bs.map V.int).length = bs.length := List.length_map _
  refine PB.w_seq (PB.w_asgK (PB.k_cb (PB.k_cons (PB.k_lc (PB.k_pure (by walk_at "pE") ?_)))))
  refine PB.k_lcP (fun _ => true) (fun v => .int (match v with | .int n => n % (bs.length + 1 : Int) | _ => 0)) hc (PB.sz_le (by simp; omega)) (fun x => rfl) ?_ ?_ ?_
  · intro x hx D acc hD
    walk_at "pT"
  · intro x hx _ D acc hD
    obtain ⟨n, _, rfl⟩ := List.mem_map.mp hx
    have hd2 : (upd H D (.lst acc)) d = some (.lst (bs.map V.int)) := by rw [upd_ne (L2.ne_of_none hd hD)]; exact hd
    show PB.pE _ _ _ (.int (n % (bs.length + 1 : Int)))
    rw [← el]
    exact PB.p_op (PB.p_cb (PB.p_cons (PB.p_var rfl) PB.p_nil) PB.p_intI) (PB.p_op (PB.p_cb (PB.p_cons (PB.p_var rfl) PB.p_nil) (PB.p_lenH hd2)) PB.p_c PB.p_add) (PB.p_mod (by omega))
  · intro D HD nD vD xD
    have vD2 : HD D = some (.lst ((ns.map fun n => n % (bs.length + 1 : Int)).map V.int)) := by
      rw [vD, List.filter_eq_self.mpr (fun _ _ => rfl), List.map_map, List.map_map]; rfl
    clear vD
    refine PB.k_nil ⟨D, _, rfl, SqL.of vD2, by rw [List.length_map]; exact n1, fun ms p pm so np => ?_⟩
    have mb : ∀ m ∈ ms, 0 ≤ m ∧ m ≤ bs.length := fun m hm => by
      obtain ⟨n, _, rfl⟩ := List.mem_map.mp (pm.mem_iff.mp hm)
      have := Int.emod_nonneg n (show (bs.length + 1 : Int) ≠ 0 by omega)
      have := Int.emod_lt_of_pos n (show 0 < (bs.length + 1 : Int) by omega)
      omega
    have ml : ms.length < 64 := by rw [pm.length_eq, List.length_map]; exact n1
    have vp : (upd HD p (.lst (ms.map V.int))) p = some (.lst (ms.map V.int)) := upd_same
    have xp : PB.Ext HD (upd HD p (.lst (ms.map V.int))) := PB.Ext.new np
    generalize upd HD p (.lst (ms.map V.int)) = H2 at vp xp
    have x2 := xD.trans xp
    walk_at "ws"
    intro A H3 nA vA xA
    walk_at "ws"
    refine PB.w_forL (a := p) (xs := ms.map V.int) (PB.p_var rfl) (SqL.of (xA _ _ vp)) (fun i σ H4 => ∃ (at_ : Nat) (x : Option V) (as : List Addr) (ps : List (List Int)), σ = [some (.ref d), some (.ref c), some (.ref p), some (.ref A), some (.int at_), x, none] ∧
      H4 A = some (.lst (as.map V.ref)) ∧ Parts H4 as ps ∧ A ∉ as ∧ ps.flatten = bs.take at_ ∧ ps.length = i ∧ as.length = i ∧ (∀ m ∈ ms.drop i, (at_ : Int) ≤ m) ∧ at_ ≤ bs.length ∧ Fr [A] [A] H3 H4) ?_ ?_ ?_ ?_
    · exact ⟨0, none, [], [], rfl, vA, trivial, by simp, by simp, rfl, rfl, fun m hm => (mb m (by simpa using hm)).1, by omega, Fr.refl _ _⟩
    · rintro i σ H4 _ ⟨at_, x, as, ps, rfl, _, _, _, _, _, _, _, _, f4⟩
      exact SqL.of (f4.1 p _ (by rw [List.mem_singleton]; exact L2.ne_of_none vp nA) (xA _ _ vp))
    · rintro i v σ H4 hi ⟨at_, x, as, ps, rfl, vA4, pt, nas, pf, pl, al, am, ab, f4⟩
      rw [List.getElem?_map] at hi
      obtain ⟨m, hm, rfl⟩ : ∃ m, ms[i]? = some m ∧ v = .int m := by
        cases hw : ms[i]? with
        | none => rw [hw] at hi; cases hi
        | some m => rw [hw] at hi; exact ⟨m, rfl, (Option.some.inj hi).symm⟩
      have mm := mb m (List.mem_of_getElem? hm)
      have il : i < ms.length := (List.getElem?_eq_some_iff.mp hm).1
      have hd4 : H4 d = some (.lst (bs.map V.int)) := f4.1 d _ (by rw [List.mem_singleton]; exact L2.ne_of_none (x2 _ _ hd) nA) (xA _ _ (x2 _ _ hd))
      have dr : ms.drop i = m :: ms.drop (i + 1) := by
        rw [List.drop_eq_getElem_cons il]
        congr 1
        exact (List.getElem?_eq_some_iff.mp hm).2
      have am0 := am m (by rw [dr]; exact List.mem_cons_self ..)
      refine PB.g_name ?_
      refine PB.w_seq (PB.w_dropK (k_appK (PB.p_var rfl) vA4 ?_))
      refine PB.k_slP (PB.p_var rfl) (PB.k_part (PB.p_var rfl) (PB.k_part (PB.p_var rfl) (PB.k_slL hd4 ?_)))
      rw [PB.cut_mid (by omega) mm.1]
      intro N H5 nN vN xN
      have vA5 := xN _ _ vA4
      have NA : N ≠ A := (L2.ne_of_none vA4 nN).symm
      refine k_app vA5 (PB.sz_lt (by rw [List.length_map]; omega)) ?_
      dsimp only
      refine PB.w_asg (v := .int m) (PB.p_var ?_) ?_
      · rfl
      have en : ((bs.map V.int).drop (at_ : Int).toNat).take (m.toNat - (at_ : Int).toNat) = ((bs.drop at_).take (m.toNat - at_)).map V.int := by
        rw [← List.map_drop, ← List.map_take]; rfl
      refine ⟨m.toNat, some (.int m), as ++ [N], ps ++ [(bs.drop at_).take (m.toNat - at_)], ?_, ?_, ?_, ?_, ?_, by simp [pl], by simp [al], ?_, by omega, ?_⟩
      · have e : ((m.toNat : Nat) : Int) = m := Int.toNat_of_nonneg mm.1
        rw [e]; rfl
      · rw [List.map_append]; exact upd_same
      · refine Parts.snoc (by rw [upd_ne NA]; rw [vN, en]) (Parts.fr (o := [A]) (o' := [A]) (fr_upd (Fr.refl [A] H5) (by simp)) (fun b hb => by rw [List.mem_singleton]; intro z; subst z; exact nas hb) (pt.up xN))
      · rw [List.mem_append, List.mem_singleton]
        rintro (z | z)
        · exact nas z
        · exact NA z.symm
      · rw [List.flatten_append, pf, List.flatten_singleton, ← List.take_append_drop at_ (bs.take m.toNat), List.take_take, List.drop_take, Nat.min_eq_left (by omega)]
      · intro z hz
        have : m ≤ z := by
          have sd := List.Pairwise.sublist (List.drop_sublist i ms) so
          rw [dr, List.pairwise_cons] at sd
          exact sd.1 z hz
        omega
      · refine fr_upd (f4.trans (?_ : Fr [A] [A] H4 H5)) (by simp)
        exact ⟨fun b y _ h => xN b y h, fun b h => .inl h⟩
    · rintro σ H4 ⟨at_, x, as, ps, rfl, vA4, pt, nas, pf, pl, al, am, ab, f4⟩
      have hd4 : H4 d = some (.lst (bs.map V.int)) := f4.1 d _ (by rw [List.mem_singleton]; exact L2.ne_of_none (x2 _ _ hd) nA) (xA _ _ (x2 _ _ hd))
      rw [List.length_map] at pl al
      dsimp only
      refine PB.w_seq ?_
      refine PB.w_dropK ?_
      refine k_appK (PB.p_var ?_) vA4 ?_
      · rfl
      refine PB.k_slP (PB.p_var rfl) (PB.k_part (PB.p_var rfl) (PB.k_noPart (PB.k_slL hd4 ?_)))
      rw [PB.cut_from (by omega)]
      intro N H5 nN vN xN
      have vA5 := xN _ _ vA4
      have NA : N ≠ A := (L2.ne_of_none vA4 nN).symm
      refine k_app vA5 (PB.sz_lt (by rw [List.length_map]; omega)) ?_
      dsimp only
      refine PB.w_ret (v := .ref A) (PB.p_var ?_) ?_
      · rfl
      refine q A _ (as ++ [N]) (ps ++ [bs.drop at_]) (none_of x2 nA) (by rw [List.map_append]; exact upd_same) ?_ ?_ ?_ ?_
      · refine Parts.snoc (by rw [upd_ne NA, vN, List.map_drop]; rfl) (Parts.fr (o := [A]) (o' := [A]) (fr_upd (Fr.refl [A] H5) (by simp)) (fun b hb => by rw [List.mem_singleton]; intro z; subst z; exact nas hb) (pt.up xN))
      · rw [List.flatten_append, pf, List.flatten_singleton, List.take_append_drop]
      · simp; omega
      · refine fr_toExt (x2.trans xA) (none_of x2 nA) (fr_upd (f4.trans (?_ : Fr [A] [A] H4 H5)) (by simp))
        exact ⟨fun b y _ h => xN b y h, fun b h => .inl h⟩

/-! ## the shape of actions; what stays and what is fresh -/
theorem sh_prt {n : Int} : Sh 5 (prt n) := sh_tup (sh_cons (sh_str (by decide +kernel)) (sh_cons sh_int sh_nil))
theorem sh_ctl {n : Int} : Sh 5 (ctl n) := sh_tup (sh_cons (sh_str (by decide +kernel)) (sh_cons sh_int sh_nil))
theorem sh_esc {n : Int} : Sh 5 (esc n) := sh_tup (sh_cons (sh_str (by decide +kernel)) (sh_cons sh_int sh_nil))
theorem sh_sqn {p b : Int} {ns : List Int} : Sh 5 (sqn p ns b) := sh_tup (sh_cons (sh_str (by decide +kernel)) (sh_cons sh_int (sh_cons (sh_tup (n := 3) (sh_ints _)) (sh_cons sh_int sh_nil))))
theorem sh_ttl {ns : List Int} : Sh 5 (ttl ns) := sh_tup (sh_cons (sh_str (by decide +kernel)) (sh_cons (sh_tup (n := 3) (sh_ints _)) sh_nil))
/-- an action: a tuple, of data that can be compared -/
def Act (d : PyData) : Prop := Sh 5 d ∧ ∃ ds, d = .tuple ds
theorem act_prt {n : Int} : Act (prt n) := ⟨sh_prt, _, rfl⟩
theorem act_ctl {n : Int} : Act (ctl n) := ⟨sh_ctl, _, rfl⟩
theorem act_esc {n : Int} : Act (esc n) := ⟨sh_esc, _, rfl⟩
theorem act_sqn {p b : Int} {ns : List Int} : Act (sqn p ns b) := ⟨sh_sqn, _, rfl⟩
theorem act_ttl {ns : List Int} : Act (ttl ns) := ⟨sh_ttl, _, rfl⟩
def ShN (d : PyData) : Prop := ∀ e ∈ nn d, Act e
theorem ShN.non : ShN .none := fun e m => by cases m
theorem ShN.of {d : PyData} (h : Act d) : ShN d := fun e m => by
  unfold nn at m
  split at m
  · cases m
  · rw [List.mem_singleton] at m; subst m; exact h
theorem shN_further {S : PS} {b : Int} : ShN (S.further b).2 := by
  unfold PS.further
  (repeat' split) <;> first | exact .non | exact .of act_prt
theorem shN_ofChar {S : PS} {b : Int} : ShN (S.ofChar b).2 := by
  unfold PS.ofChar
  (repeat' split) <;> first | exact shN_further | exact .non | exact .of act_prt
theorem shN_inSeq {S : PS} {b : Int} : ShN (S.inSeq b).2 := by
  unfold PS.inSeq PS.endSeq
  (repeat' split) <;> first | exact .non | exact .of act_sqn
theorem shN_inEscape {S : PS} {b : Int} : ShN (S.inEscape b).2 := by
  unfold PS.inEscape
  (repeat' split) <;> first | exact .non | exact .of act_esc
theorem shN_endStr {S : PS} : ShN S.endStr.2 := by
  unfold PS.endStr
  (repeat' split) <;> first | exact .non | exact .of act_ttl
theorem shN_inStr {S : PS} {b : Int} : ShN (S.inStr b).2 := by
  unfold PS.inStr
  (repeat' split) <;> first | exact shN_endStr | exact .non
theorem shN_plain {S : PS} {b : Int} : ShN (S.plain b).2 := by
  unfold PS.plain
  (repeat' split) <;> first | exact shN_inEscape | exact shN_inSeq | exact .non | exact .of act_prt
theorem shN_read2 {S : PS} {b : Int} : ShN (S.read2 b).2 := by
  unfold PS.read2
  (repeat' split) <;> first | exact shN_ofChar | exact shN_plain | exact .non | exact .of act_ctl
theorem shN_read {S : PS} {b : Int} : ShN (S.read b).2 := by
  unfold PS.read
  (repeat' split) <;> first | exact shN_inStr | exact shN_endStr | exact shN_read2 | exact .non
theorem act_take1 {S : PS} {b : Int} : ∀ e ∈ (S.take1 b).2, Act e := by
  unfold PS.take1
  split
  · intro e m
    rcases List.mem_cons.mp m with h | h
    · subst h; exact act_prt
    · exact shN_read e h
  · exact shN_read
theorem act_takeAll : ∀ {l : List Int} {S : PS}, ∀ e ∈ (S.takeAll l).2, Act e
  | [], S, e, m => by cases m
  | b :: r, S, e, m => by
    rcases List.mem_append.mp (show e ∈ (S.take1 b).2 ++ _ from m) with h | h
    · exact act_take1 e h
    · exact act_takeAll (l := r) e h
theorem sh_takeAll {l : List Int} {S : PS} : ∀ e ∈ (S.takeAll l).2, Sh 5 e := fun e m => (act_takeAll e m).1
def No (H : Hp) (o : List Addr) : Prop := ∀ a ∈ o, H a = none
theorem frx {o o' : List Addr} {H H1 H2 : Hp} (x : PB.Ext H H1) (n : No H o) (f : Fr o o' H1 H2) : PB.Ext H H2 := fun a y h => f.1 a y (fun m => by rw [n a m] at h; cases h) (x a y h)
theorem frn {o o' : List Addr} {H H1 H2 : Hp} (x : PB.Ext H H1) (n : No H o) (f : Fr o o' H1 H2) : No H o' := fun a m => by
  rcases f.2 a m with h | h
  · exact n a h
  · exact none_of x h
theorem up_ext {H H1 : Hp} (x : PB.Ext H H1) {a : Addr} {y : HO} (n : H a = none) : PB.Ext H (upd H1 a y) := fun b z h => by
  rw [upd_ne (L2.ne_of_none h n)]
  exact x b z h
theorem At.up {K : PySem.W.Frag} {H H1 : Hp} {p dx e k : Addr} {S : PS} (h : At K H p dx e k S) (x : PB.Ext H H1) : At K H1 p dx e k S := ⟨x _ _ h.ob, x _ _ h.he, x _ _ h.hk, h.ek⟩
theorem At.fr {K : PySem.W.Frag} {H H1 : Hp} {p dx e k : Addr} {S : PS} {o o' : List Addr} (h : At K H p dx e k S) (f : Fr o o' H H1) (d : ∀ a ∈ [p, e, k], a ∉ o) : At K H1 p dx e k S := ⟨f.1 _ _ (d p (by simp)) h.ob, f.1 _ _ (d e (by simp)) h.he, f.1 _ _ (d k (by simp)) h.hk, h.ek⟩
theorem At.live {K : PySem.W.Frag} {H : Hp} {p dx e k : Addr} {S : PS} (h : At K H p dx e k S) : ∀ a ∈ [p, e, k], ∃ x, H a = some x := fun a m => by
  simp only [List.mem_cons, List.not_mem_nil, or_false] at m
  rcases m with rfl | rfl | rfl
  · exact ⟨_, h.ob⟩
  · exact ⟨_, h.he⟩
  · exact ⟨_, h.hk⟩
theorem k_kMK {C p dx : Addr} {names : List Str} {vals : List V} {sp : Sp} {tl : TA} {σ : L2.St} {H : Hp} {Q : VK} (hH : H p = some (.ins C dx (names.zip vals))) (h : tl σ H fun vs H2 => sp (.ref p :: vs) H2 Q E0) : PB.kM C names sp tl σ Q (.ref p) H := ⟨p, dx, vals, rfl, hH, h⟩
def Live (H : Hp) (o : List Addr) : Prop := ∀ a ∈ o, ∃ x, H a = some x
def Dis (o o' : List Addr) : Prop := ∀ a ∈ o, a ∉ o'
theorem Dis.symm {o o' : List Addr} (h : Dis o o') : Dis o' o := fun a m n => h a n m
theorem dis_fr {o o' o2 : List Addr} {H H1 : Hp} (f : Fr o o' H H1) (d : Dis o2 o) (l : Live H o2) : Dis o2 o' := fun b m n => by
  rcases f.2 b n with h | h
  · exact d b m h
  · obtain ⟨x, e⟩ := l b m
    rw [e] at h; cases h
theorem dis_one {o : List Addr} {H : Hp} {a : Addr} (l : Live H o) (n : H a = none) : Dis o [a] := fun b m z => by
  rw [List.mem_singleton] at z; subst z
  obtain ⟨x, e⟩ := l _ m
  rw [n] at e; cases e
theorem live_one {H : Hp} {a : Addr} {x : HO} (h : H a = some x) : Live H [a] := fun b m => by
  rw [List.mem_singleton] at m; subst m; exact ⟨x, h⟩
theorem dis_in {o : List Addr} {a : Addr} (h : Dis [a] o) : a ∉ o := h a (by simp)
theorem ext_fr {o : List Addr} {H H1 : Hp} (x : PB.Ext H H1) : Fr o o H H1 := ⟨fun b y _ h => x b y h, fun b h => .inl h⟩
theorem ext_ts {H H1 : Hp} (x : PB.Ext H H1) : Tst H H1 := fun b ys h => x b _ h
theorem upd_fr1 {H : Hp} {a : Addr} {y : HO} : Fr [a] [a] H (upd H a y) := fr_upd (Fr.refl [a] H) (by simp)
theorem upd_ts {H : Hp} {a : Addr} {ys : List V} {y : HO} (h : H a = some (.lst ys)) : Tst H (upd H a y) := fun b zs e => by
  rw [upd_ne]
  · exact e
  · intro z; subst z; rw [h] at e; cases e
theorem ImAll.app {K : PySem.W.Frag} {H : Hp} : ∀ {ds es : List PyData} {us vs : List V}, ImAll K H ds us → ImAll K H es vs → ImAll K H (ds ++ es) (us ++ vs)
  | [], _, us, _, h, h' => by unfold ImAll at h; subst h; exact h'
  | d :: ds, _, us, _, h, h' => by
    unfold ImAll at h
    obtain ⟨w, r, rfl, h1, h2⟩ := h
    exact im_cons h1 (ImAll.app h2 h')
theorem At.liv {K : PySem.W.Frag} {H : Hp} {p dx e k : Addr} {S : PS} (h : At K H p dx e k S) : Live H [p, e, k] := h.live

/-! ## k04: the law -/
theorem Parts.get {H : Hp} {b : Addr} : ∀ {as : List Addr} {ps : List (List Int)} {i : Nat}, Parts H as ps → as[i]? = some b → ∃ q, ps[i]? = some q ∧ H b = some (.lst (q.map V.int))
  | [], [], i, _, e => by simp at e
  | a :: _, p :: _, 0, h, e => by
    have : a = b := by simpa using e
    subst this
    exact ⟨p, rfl, h.1⟩
  | _ :: as, _ :: ps, i + 1, h, e => by
    rw [List.getElem?_cons_succ] at e
    obtain ⟨q, h1, h2⟩ := Parts.get (i := i) h.2 e
    exact ⟨q, by rw [List.getElem?_cons_succ]; exact h1, h2⟩
  | [], _ :: _, _, h, _ => h.elim
  | _ :: _, [], _, h, _ => h.elim
theorem Parts.len {H : Hp} : ∀ {as : List Addr} {ps : List (List Int)}, Parts H as ps → as.length = ps.length
  | [], [], _ => rfl
  | _ :: _, _ :: _, h => by simp [Parts.len h.2]
  | [], _ :: _, h => h.elim
  | _ :: _, [], h => h.elim
def sp_law (K : PySem.W.Frag) : Sp := fun vs H Q _ => ∃ (a : Addr) (ns : List Int), vs = [.ref a] ∧ SqL K H a (ns.map V.int) ∧ ns.length ≤ 63 ∧ ∀ H', Q (.bl true) H'
def N_law : List Str := ["script", "data", "pieces", "whole", "expected", "parser", "other", "actual", "piece", "news"]
def t_law (K : PySem.W.Frag) : TS := tSeq (tAsg (PB.mCall (sp_law_stream K) (tCons (tSl (PB.mSl K) (PB.mVar 0) (tNoPart) (PB.mPart (tC (.int 40)))) (tCons (tLst (tCons (tC (.int 0)) (tCons (tC (.int 5)) (tCons (tC (.int 6)) (tCons (tC (.int 7)) (tCons (tC (.int 8)) (tCons (tC (.int 12)) (tCons (tC (.int 13)) (tCons (tC (.int 14)) (tCons (tC (.int 15)) (tCons (tC (.int 16)) (tCons (tC (.int 16)) (tCons (tC (.int 16)) (tNil)))))))))))))) (tNil)))) (gName 1)) (
  tSeq (tAsg (PB.mCall (sp_law_cuts K) (tCons (PB.mVar 1) (tCons (tSl (PB.mSl K) (PB.mVar 0) (PB.mPart (tC (.int 40))) (PB.mPart (tC (.int 63)))) (tNil)))) (gName 2)) (
  tSeq (tAsg (PB.mMake (He.ga K "Parser") (sp_Parser___init__ K) tNil) (gName 3)) (
  tSeq (tAsg (PB.oMeth (He.ga K "Parser") an_Parser (sp_Parser_take K) (PB.mVar 3) (tCons (tCB (PB.mList K) (tCons (PB.mVar 1) (tNil))) (tNil))) (gName 4)) (
  tSeq (tAsg (PB.mMake (He.ga K "Parser") (sp_Parser___init__ K) tNil) (gName 5)) (
  tSeq (tAsg (PB.mMake (He.ga K "Parser") (sp_Parser___init__ K) tNil) (gName 6)) (
  tSeq (tAsg (tLst (tNil)) (gName 7)) (
  tSeq (tFor (iList K (PB.mVar 2)) (gName 8) (tSeq (tAsg (PB.oMeth (He.ga K "Parser") an_Parser (sp_Parser_take K) (PB.mVar 5) (tCons (tCB (PB.mList K) (tCons (PB.mVar 8) (tNil))) (tNil))) (gName 9)) (
  tSeq (tAsg (tOp (PB.mAdd K) (PB.mVar 7) (PB.mVar 9)) (gName 7)) (
  tSeq (tDrop (PB.mLM (PB.mAppend) (PB.mVar 9) (tCons (tTup (tCons (tC (.str "print")) (tCons (tC (.int 7)) (tNil)))) (tNil)))) (
  tDrop (PB.oMeth (He.ga K "Parser") an_Parser (sp_Parser_take K) (PB.mVar 6) (tCons (tLst (tCons (tC (.int 27)) (tCons (tC (.int 93)) (tCons (tC (.int 200)) (tCons (tC (.int 91)) (tCons (tC (.int 50)) (tNil))))))) (tNil)))))))) (
  tRet (PB.mAndV (tOp (PB.mEq K) (PB.mVar 7) (PB.mVar 4)) (tOp (PB.mEq K) (PB.oMeth (He.ga K "Parser") an_Parser (sp_Parser_resting K) (PB.mVar 5) tNil) (PB.oMeth (He.ga K "Parser") an_Parser (sp_Parser_resting K) (PB.mVar 3) tNil)))))))))))

theorem len_law {K : PySem.W.Frag} : PB.Len 1 (sp_law K) := by walk_at "len"
theorem pure_law (K : PySem.W.Frag) : PB.Pure N_law (sp_law K) (t_law K) := by
  rintro vs H Q E ⟨a, ns, rfl, hs, hl, q⟩
  show t_law K _ [some (.ref a), none, none, none, none, none, none, none, none, none] H
  unfold t_law
  walk_at "ws"
  rw [PB.cut_to (by decide)]
  intro A1 H1 n1 v1 x1
  have v1' : H1 A1 = some (.lst ((ns.take 40).map V.int)) := by rw [v1, List.map_take]; rfl
  clear v1
  walk_at "ws"
  intro A2 H2 n2 v2 x2
  walk_at "ws"
  refine ⟨A1, A2, ns.take 40, [0, 5, 6, 7, 8, 12, 13, 14, 15, 16, 16, 16], rfl, SqL.of (x2 _ _ v1'), v2, by decide, by decide, by simp; omega, fun D H3 nD bD x3 => ?_⟩
  have hs3 := PB.ext_l x3 (PB.ext_l x2 (PB.ext_l x1 hs))
  walk_at "ws"
  rw [PB.cut_mid (by decide) (by decide)]
  intro A4 H4 n4 v4 x4
  have v4' : H4 A4 = some (.lst (((ns.drop 40).take 23).map V.int)) := by rw [v4, List.map_take, List.map_drop]; rfl
  clear v4
  obtain ⟨bs, vD, bb, bl⟩ := bD.up x4
  have bl' : bs.length ≤ 1600 := by rw [List.length_take] at bl; omega
  walk_at "ws"
  refine ⟨D, A4, bs, (ns.drop 40).take 23, rfl, vD, SqL.of v4', by omega, by simp; omega, fun A5 H5 as ps n5 v5 pt pf pl x5 => ?_⟩
  have vD5 := x5 _ _ vD
  walk_at "ws"
  intro p dx H6 np vp xp
  refine ⟨p, dx, rfl, vp, fun H7 e k a7 f7 t7 => ⟨rfl, ?_⟩⟩
  have np5 : No H5 [p] := fun b m => by rw [List.mem_singleton] at m; subst m; exact np
  have y7 := frx xp np5 f7
  have z7 := frn xp np5 f7
  have vD7 := y7 _ _ vD5
  obtain ⟨g1, g2, g3, g4⟩ := id a7
  walk_at "ws"
  refine k_kMK g1 ?_
  walk_at "ws"
  intro L H8 nL vL xL
  have a8 := a7.up xL
  obtain ⟨h1, h2, h3, h4⟩ := id a8
  walk_at "ws"
  refine ⟨p, dx, e, k, L, PS.new, bs, rfl, a8, PS.Ok.new, vL, (L2.ne_of_none g2 nL).symm, (L2.ne_of_none g3 nL).symm, bb, by omega, fun X H9 e0 k0 us a9 f9 t9 nX vX iX Xe Xk => ?_⟩
  have y9 := frx (y7.trans xL) z7 f9
  have pt9 := pt.up y9
  have v59 := y9 _ _ v5
  clear g1 g2 g3 g4 h1 h2 h3 h4 a7 a8 y7 z7 f9 f7 t7 t9 xL xp vp np np5 vL
  walk_at "ws"
  intro p1 dx1 H10 np1 vp1 xp1
  refine ⟨p1, dx1, rfl, vp1, fun H11 e1 k1 a11 f11 t11 => ⟨rfl, ?_⟩⟩
  have np9 : No H9 [p1] := fun b m => by rw [List.mem_singleton] at m; subst m; exact np1
  have y11 := frx xp1 np9 f11
  have z11 := frn xp1 np9 f11
  walk_at "ws"
  intro p2 dx2 H12 np2 vp2 xp2
  refine ⟨p2, dx2, rfl, vp2, fun H13 e2 k2 a13 f13 t13 => ⟨rfl, ?_⟩⟩
  have np11 : No H11 [p2] := fun b m => by rw [List.mem_singleton] at m; subst m; exact np2
  have y13 := frx xp2 np11 f13
  have z13 := frn xp2 np11 f13
  walk_at "ws"
  intro R H14 nR vR x14
  have l11 := a11.liv
  have d1 : Dis [p1, e1, k1] [p2] := dis_one l11 np2
  have f1213 : Fr [p2] [p2, e2, k2] H11 H13 := (ext_fr xp2).trans f13
  have dd : Dis [p1, e1, k1] [p2, e2, k2] := dis_fr f1213 d1 l11
  have a14 := (a11.fr f1213 d1).up x14
  have b14 := a13.up x14
  have x914 := (y11.trans y13).trans x14
  have R1 : Dis [R] [p1, e1, k1] := (dis_one (a11.fr f1213 d1).liv nR).symm
  have R2 : Dis [R] [p2, e2, k2] := (dis_one a13.liv nR).symm
  have z13' : No H9 [p2, e2, k2] := fun b m => none_of y11 (z13 b m)
  clear np9 np11 f1213 d1 l11 a11 a13 y11 y13 xp1 xp2 vp1 vp2 np1 np2 f11 f13 t11 t13
  dsimp only
  refine PB.w_seq (PB.w_forL (a := A5) (xs := as.map V.ref) (PB.p_var ?_) (SqL.of (x914 _ _ v59)) (fun i σ H => ∃ (e1 k1 e2 k2 R : Addr) (x y : Option V) (S2 : PS) (us : List V),
    σ = [some (.ref a), some (.ref D), some (.ref A5), some (.ref p), some (.ref X), some (.ref p1), some (.ref p2), some (.ref R), x, y] ∧
    At K H p1 dx1 e1 k1 (PS.new.takeAll (ps.take i).flatten).1 ∧ At K H p2 dx2 e2 k2 S2 ∧ S2.Ok ∧ H R = some (.lst us) ∧ ImAll K H (PS.new.takeAll (ps.take i).flatten).2 us ∧
    Dis [p1, e1, k1] [p2, e2, k2] ∧ Dis [R] [p1, e1, k1] ∧ Dis [R] [p2, e2, k2] ∧ No H9 [p1, e1, k1] ∧ No H9 [p2, e2, k2] ∧ PB.Ext H9 H) ?_ ?_ ?_ ?_)
  · rfl
  · exact ⟨e1, k1, e2, k2, R, none, none, PS.new, [], rfl, a14, b14, PS.Ok.new, vR, im_nil, dd, R1, R2, z11, z13', x914⟩
  · rintro i σ H10 _ ⟨e1, k1, e2, k2, R, x, y, S2, us, rfl, _, _, _, _, _, _, _, _, _, _, x9⟩
    exact SqL.of (x9 _ _ v59)
  · clear a14 b14 dd R1 R2 z11 z13' x914 vR x14 nR
    rintro i v σ H10 hi ⟨e1, k1, e2, k2, R, x, y, S2, us, rfl, at1, at2, o2, vR, iR, dd, R1, R2, z1, z2, x9⟩
    rw [List.getElem?_map] at hi
    obtain ⟨B, hB, rfl⟩ : ∃ B, as[i]? = some B ∧ v = .ref B := by
      cases hw : as[i]? with
      | none => rw [hw] at hi; cases hi
      | some m => rw [hw] at hi; exact ⟨m, rfl, (Option.some.inj hi).symm⟩
    obtain ⟨qs, hq, vB⟩ := (pt9.up x9).get hB
    have qb : Bytes qs := fun b m => bb b (by rw [← pf]; exact List.mem_flatten.mpr ⟨qs, List.mem_of_getElem? hq, m⟩)
    have ql : qs.length ≤ 1600 := by
      have := (List.sublist_flatten_of_mem (List.mem_of_getElem? hq)).length_le
      rw [pf] at this; omega
    have tk : (ps.take (i + 1)).flatten = (ps.take i).flatten ++ qs := by rw [List.take_add_one, hq, List.flatten_append]; simp
    have tl : (ps.take i).flatten.length ≤ 1600 := by
      have z := congrArg (fun l : List (List Int) => l.flatten.length) (List.take_append_drop i ps)
      simp only [List.flatten_append, List.length_append] at z
      rw [pf] at z; omega
    rw [tk]
    generalize hT : (ps.take i).flatten = T at *
    refine PB.g_name ?_
    obtain ⟨g1, g2, g3, g4⟩ := id at1
    walk_at "ws"
    refine k_kMK g1 ?_
    walk_at "ws"
    intro L H11 nL vL xL
    walk_at "ws"
    have c1 := at1.up xL
    have c2 := at2.up xL
    obtain ⟨h1, h2, h3, h4⟩ := id c1
    have oT : (PS.new.takeAll T).1.Ok := PS.Ok.new.takeAll fun b m => bb b (by
      rw [← pf]
      rw [← hT] at m
      obtain ⟨l, hl, hb⟩ := List.mem_flatten.mp m
      exact List.mem_flatten.mpr ⟨l, List.mem_of_mem_take hl, hb⟩)
    refine ⟨p1, dx1, e1, k1, L, _, qs, rfl, c1, oT, vL, (L2.ne_of_none g2 nL).symm, (L2.ne_of_none g3 nL).symm, qb, by omega, fun A H12 e1' k1' us' a12 f12 t12 nA vA iA Ae Ak => ?_⟩
    have x9L := x9.trans xL
    have x912 := frx x9L z1 f12
    have z1' := frn x9L z1 f12
    have D12 : Dis [p2, e2, k2] [p1, e1', k1'] := dis_fr f12 dd.symm c2.liv
    have b12 := c2.fr f12 dd.symm
    have vR12 : H12 R = some (.lst us) := f12.1 R _ (dis_in R1) (xL _ _ vR)
    have iR12 := ImAll.mono t12 _ _ (ImAll.mono (ext_ts xL) _ _ iR)
    have R1' : Dis [R] [p1, e1', k1'] := dis_fr f12 R1 (live_one (xL _ _ vR))
    have A2 : Dis [p2, e2, k2] [A] := dis_one c2.liv nA
    have pA : p1 ≠ A := L2.ne_of_none h1 nA
    have A1 : Dis [p1, e1', k1'] [A] := fun b m z => by
      rw [List.mem_singleton] at z
      simp only [List.mem_cons, List.not_mem_nil, or_false] at m
      rcases m with m | m | m
      · exact pA (m.symm.trans z)
      · exact Ae (z.symm.trans m)
      · exact Ak (z.symm.trans m)
    have RA : R ≠ A := L2.ne_of_none (xL _ _ vR) nA
    have nA9 : H9 A = none := none_of x9L nA
    have lu : us.length ≤ 3200 := by rw [ImAll.len iR]; have := takeAll_len (l := T) (S := PS.new); omega
    have lu' : us'.length ≤ 3200 := by rw [ImAll.len iA]; have := takeAll_len (l := qs) (S := (PS.new.takeAll T).1); omega
    clear g1 g2 g3 g4 h1 h2 h3 h4 c1 c2 at1 at2 nA nL vL t12 f12 x9 x9L
    dsimp only
    refine PB.w_seq ?_
    refine PB.w_asgK (PB.k_op (PB.k_pure (v := .ref R) (PB.p_var ?_) (PB.k_pure (v := .ref A) (PB.p_var ?_) (PB.k_cat vR12 vA (PB.sz_le (by omega)) ?_))))
    · rfl
    · rfl
    intro R' H13 nR' vR' x13
    dsimp only
    refine PB.w_seq (PB.w_dropK (k_appK (PB.p_var ?_) (x13 _ _ vA) ?_))
    · rfl
    refine PB.k_tupP (PB.p_cons PB.p_c (PB.p_cons PB.p_c PB.p_nil)) (PB.szle rfl) ?_
    intro t H14 nt vt x14
    refine k_app (x14 _ _ (x13 _ _ vA)) (PB.sz_lt (by omega)) ?_
    have fA : Fr [A] [A] H14 (upd H14 A (.lst (us' ++ [.ref t]))) := upd_fr1
    have tA : Tst H14 (upd H14 A (.lst (us' ++ [.ref t]))) := upd_ts (x14 _ _ (x13 _ _ vA))
    have x915 : PB.Ext H9 (upd H14 A (.lst (us' ++ [.ref t]))) := up_ext ((x912.trans x13).trans x14) nA9
    generalize upd H14 A (.lst (us' ++ [.ref t])) = H15 at fA tA x915
    have x24 := x13.trans x14
    have a15 := (a12.up x24).fr fA A1
    have b15 := (b12.up x24).fr fA A2
    have RA' : R' ≠ A := (L2.ne_of_none vA nR').symm
    have vR15 : H15 R' = some (.lst (us ++ us')) := fA.1 R' _ (by rw [List.mem_singleton]; exact RA') (x14 _ _ vR')
    have iR15 := ImAll.mono tA _ _ (ImAll.mono (ext_ts x24) _ _ (iR12.app iA))
    have R1'' : Dis [R'] [p1, e1', k1'] := (dis_one a12.liv nR').symm
    have R2'' : Dis [R'] [p2, e2, k2] := (dis_one b12.liv nR').symm
    have db : Dis [p1, e1', k1'] [p2, e2, k2] := D12.symm
    obtain ⟨g1, g2, g3, g4⟩ := id b15
    dsimp only
    refine PB.w_dropK (PB.k_methK (PB.k_pure (v := .ref p2) (PB.p_var ?_) (k_kMK g1 ?_)))
    · rfl
    refine PB.k_cons (PB.k_lstP (vs := [.int 27, .int 93, .int 200, .int 91, .int 50]) (PB.p_cons PB.p_c (PB.p_cons PB.p_c (PB.p_cons PB.p_c (PB.p_cons PB.p_c (PB.p_cons PB.p_c PB.p_nil))))) (PB.szle rfl) ?_)
    intro M H16 nM vM x16
    have b16 := b15.up x16
    refine PB.k_nil ⟨p2, dx2, e2, k2, M, S2, [27, 93, 200, 91, 50], rfl, b16, o2, vM, (L2.ne_of_none g2 nM).symm, (L2.ne_of_none g3 nM).symm, by intro b m; simp only [List.mem_cons, List.not_mem_nil, or_false] at m; omega, by decide, fun N H17 e2' k2' us2 a17 f17 t17 nN vN iN Ne Nk => ?_⟩
    refine ⟨e1', k1', e2', k2', R', _, _, _, us ++ us', rfl, ?_, a17, o2.takeAll (by intro b m; simp only [List.mem_cons, List.not_mem_nil, or_false] at m; omega), f17.1 R' _ (dis_in R2'') (x16 _ _ vR15), ?_, ?_, R1'', ?_, z1', ?_, ?_⟩
    · rw [takeAll_app]; exact (a15.up x16).fr f17 db
    · rw [takeAll_app]; exact ImAll.mono t17 _ _ (ImAll.mono (ext_ts x16) _ _ iR15)
    · exact dis_fr f17 db (a15.up x16).liv
    · exact dis_fr f17 R2'' (live_one (x16 _ _ vR15))
    · exact frn (x915.trans x16) z2 f17
    · exact frx (x915.trans x16) z2 f17
  · rintro σ H10 ⟨e1, k1, e2, k2, R, x, y, S2, us, rfl, at1, at2, o2, vR, iR, dd, R1, R2, z1, z2, x9⟩
    have e : ps.take (as.map V.ref).length = ps := by rw [List.length_map, pt9.len]; exact List.take_length
    rw [e, pf] at at1 iR
    have at0 := a9.up x9
    obtain ⟨g1, g2, g3, g4⟩ := id at1
    obtain ⟨h1, h2, h3, h4⟩ := id at0
    dsimp only
    refine PB.w_retK ?_
    refine PB.k_op (PB.k_pure (v := .ref R) (PB.p_var ?_) (PB.k_pure (v := .ref X) (PB.p_var ?_) ?_))
    · rfl
    · rfl
    have sh : Sh 6 (.list (PS.new.takeAll bs).2) := sh_lst (sh_all sh_takeAll)
    refine PB.k_eqD (d := .list (PS.new.takeAll bs).2) (e := .list (PS.new.takeAll bs).2) (.lst (SqL.of vR) (ImAll.dp _ _ iR)) (.lst (SqL.of (x9 _ _ vX)) (ImAll.dp _ _ (ImAll.mono (ext_ts x9) _ _ iX))) (sh.ok (by decide)) (sh.ok (by decide)) ?_
    rw [SeqAt.eqv_refl _ sh.1]
    show (if true = true then _ else _)
    rw [if_pos rfl]
    refine PB.k_op (PB.k_meth (p := p1) (PB.p_var ?_) g1 PB.p_nil ⟨p1, dx1, e1, k1, _, rfl, at1, ?_⟩)
    · rfl
    refine PB.k_meth (p := p) (PB.p_var ?_) h1 PB.p_nil ⟨p, dx, e0, k0, _, rfl, at0, ?_⟩
    · rfl
    refine k_pR PB.p_eqB ?_
    simp only [beq_self_eq_true, decide_true]
    exact q H10

def top (i : Nat) : Stmt := PySem.Challenge.pw_manypanes_k04_cut_bytes_give_the_same_ac.main.body.getD i (.Pass ⟨0, 0, 0, 0⟩)
abbrev s_is_point : Stmt := top 1
abbrev s_Parser__begin_character : Stmt := inClass (top 14) 6
abbrev s_Parser__read_further : Stmt := inClass (top 14) 7
abbrev s_Parser__read_of_character : Stmt := inClass (top 14) 5
abbrev s_Parser__end_number : Stmt := inClass (top 14) 11
abbrev s_Parser__begin_sequence : Stmt := inClass (top 14) 9
abbrev s_Parser__begin_string : Stmt := inClass (top 14) 13
abbrev s_Parser__end_sequence : Stmt := inClass (top 14) 12
abbrev s_Parser__read_in_sequence : Stmt := inClass (top 14) 10
abbrev s_Parser__read_in_escape : Stmt := inClass (top 14) 8
abbrev s_Parser__end_string : Stmt := inClass (top 14) 15
abbrev s_Parser__read_in_string : Stmt := inClass (top 14) 14
abbrev s_Parser__read_plain : Stmt := inClass (top 14) 4
abbrev s_Parser__read : Stmt := inClass (top 14) 3
abbrev s_Parser___init__ : Stmt := inClass (top 14) 0
abbrev s_Parser_take : Stmt := inClass (top 14) 1
abbrev s_Parser_resting : Stmt := inClass (top 14) 2
abbrev s_law_cell : Stmt := top 16
abbrev s_law_row : Stmt := top 17
abbrev s_law_digits : Stmt := top 20
abbrev s_law_utf8 : Stmt := top 21
abbrev s_law_sequence : Stmt := top 22
abbrev s_law_token : Stmt := top 23
abbrev s_law_stream : Stmt := top 24
abbrev s_law_cuts : Stmt := top 25
abbrev s_law : Stmt := top 26
def d_is_point : He.DefD := ⟨("is_point", none), "is_point", "is_point", defArgs s_is_point, defBody s_is_point, defScope s_is_point, [], []⟩
def d_Parser__begin_character : He.DefD := ⟨("Parser", some "_begin_character"), "_begin_character", "Parser._begin_character", defArgs s_Parser__begin_character, defBody s_Parser__begin_character, defScope s_Parser__begin_character, [], []⟩
def d_Parser__read_further : He.DefD := ⟨("Parser", some "_read_further"), "_read_further", "Parser._read_further", defArgs s_Parser__read_further, defBody s_Parser__read_further, defScope s_Parser__read_further, [], []⟩
def d_Parser__read_of_character : He.DefD := ⟨("Parser", some "_read_of_character"), "_read_of_character", "Parser._read_of_character", defArgs s_Parser__read_of_character, defBody s_Parser__read_of_character, defScope s_Parser__read_of_character, [], []⟩
def d_Parser__end_number : He.DefD := ⟨("Parser", some "_end_number"), "_end_number", "Parser._end_number", defArgs s_Parser__end_number, defBody s_Parser__end_number, defScope s_Parser__end_number, [], []⟩
def d_Parser__begin_sequence : He.DefD := ⟨("Parser", some "_begin_sequence"), "_begin_sequence", "Parser._begin_sequence", defArgs s_Parser__begin_sequence, defBody s_Parser__begin_sequence, defScope s_Parser__begin_sequence, [], []⟩
def d_Parser__begin_string : He.DefD := ⟨("Parser", some "_begin_string"), "_begin_string", "Parser._begin_string", defArgs s_Parser__begin_string, defBody s_Parser__begin_string, defScope s_Parser__begin_string, [], []⟩
def d_Parser__end_sequence : He.DefD := ⟨("Parser", some "_end_sequence"), "_end_sequence", "Parser._end_sequence", defArgs s_Parser__end_sequence, defBody s_Parser__end_sequence, defScope s_Parser__end_sequence, [], []⟩
def d_Parser__read_in_sequence : He.DefD := ⟨("Parser", some "_read_in_sequence"), "_read_in_sequence", "Parser._read_in_sequence", defArgs s_Parser__read_in_sequence, defBody s_Parser__read_in_sequence, defScope s_Parser__read_in_sequence, [], []⟩
def d_Parser__read_in_escape : He.DefD := ⟨("Parser", some "_read_in_escape"), "_read_in_escape", "Parser._read_in_escape", defArgs s_Parser__read_in_escape, defBody s_Parser__read_in_escape, defScope s_Parser__read_in_escape, [], []⟩
def d_Parser__end_string : He.DefD := ⟨("Parser", some "_end_string"), "_end_string", "Parser._end_string", defArgs s_Parser__end_string, defBody s_Parser__end_string, defScope s_Parser__end_string, [], []⟩
def d_Parser__read_in_string : He.DefD := ⟨("Parser", some "_read_in_string"), "_read_in_string", "Parser._read_in_string", defArgs s_Parser__read_in_string, defBody s_Parser__read_in_string, defScope s_Parser__read_in_string, [], []⟩
def d_Parser__read_plain : He.DefD := ⟨("Parser", some "_read_plain"), "_read_plain", "Parser._read_plain", defArgs s_Parser__read_plain, defBody s_Parser__read_plain, defScope s_Parser__read_plain, [], []⟩
def d_Parser__read : He.DefD := ⟨("Parser", some "_read"), "_read", "Parser._read", defArgs s_Parser__read, defBody s_Parser__read, defScope s_Parser__read, [], []⟩
def d_Parser___init__ : He.DefD := ⟨("Parser", some "__init__"), "__init__", "Parser.__init__", defArgs s_Parser___init__, defBody s_Parser___init__, defScope s_Parser___init__, [], []⟩
def d_Parser_take : He.DefD := ⟨("Parser", some "take"), "take", "Parser.take", defArgs s_Parser_take, defBody s_Parser_take, defScope s_Parser_take, [], []⟩
def d_Parser_resting : He.DefD := ⟨("Parser", some "resting"), "resting", "Parser.resting", defArgs s_Parser_resting, defBody s_Parser_resting, defScope s_Parser_resting, [], []⟩
def d_law_cell : He.DefD := ⟨("_law_cell", none), "_law_cell", "_law_cell", defArgs s_law_cell, defBody s_law_cell, defScope s_law_cell, [], []⟩
def d_law_row : He.DefD := ⟨("_law_row", none), "_law_row", "_law_row", defArgs s_law_row, defBody s_law_row, defScope s_law_row, [], []⟩
def d_law_digits : He.DefD := ⟨("_law_digits", none), "_law_digits", "_law_digits", defArgs s_law_digits, defBody s_law_digits, defScope s_law_digits, [], []⟩
def d_law_utf8 : He.DefD := ⟨("_law_utf8", none), "_law_utf8", "_law_utf8", defArgs s_law_utf8, defBody s_law_utf8, defScope s_law_utf8, [], []⟩
def d_law_sequence : He.DefD := ⟨("_law_sequence", none), "_law_sequence", "_law_sequence", defArgs s_law_sequence, defBody s_law_sequence, defScope s_law_sequence, [], []⟩
def d_law_token : He.DefD := ⟨("_law_token", none), "_law_token", "_law_token", defArgs s_law_token, defBody s_law_token, defScope s_law_token, [], []⟩
def d_law_stream : He.DefD := ⟨("_law_stream", none), "_law_stream", "_law_stream", defArgs s_law_stream, defBody s_law_stream, defScope s_law_stream, [], []⟩
def d_law_cuts : He.DefD := ⟨("_law_cuts", none), "_law_cuts", "_law_cuts", defArgs s_law_cuts, defBody s_law_cuts, defScope s_law_cuts, [], []⟩
def d_law : He.DefD := ⟨("law", none), "law", "law", defArgs s_law, defBody s_law, defScope s_law, [], []⟩
def fa : List He.Fa := [.int "REPLACEMENT" (65533), .free "len", .int "MOST_NUMBERS" (16), .int "SEQUENCE" (3), .int "STRING" (4), .int "GROUND" (0), .free "tuple", .int "LARGEST_NUMBER" (9999), .free "min", .int "INTERMEDIATE" (2), .int "LONGEST_TITLE" (64), .int "STRING_END" (5), .int "LONGEST_STRING" (256), .int "ESCAPE" (1), .free "int", .free "abs", .free "range", .free "str", .free "ord", .free "sorted", .free "list", .glo "is_point", .glo "_law_cell", .glo "_law_row", .glo "_law_digits", .glo "_law_utf8", .glo "_law_sequence", .glo "_law_token", .glo "_law_stream", .glo "_law_cuts", .glo "law", .glo "Parser", .cls "Parser", .mkr "Parser", .meth "Parser" "_begin_character", .meth "Parser" "_read_further", .meth "Parser" "_read_of_character", .meth "Parser" "_end_number", .meth "Parser" "_begin_sequence", .meth "Parser" "_begin_string", .meth "Parser" "_end_sequence", .meth "Parser" "_read_in_sequence", .meth "Parser" "_read_in_escape", .meth "Parser" "_end_string", .meth "Parser" "_read_in_string", .meth "Parser" "_read_plain", .meth "Parser" "_read", .meth "Parser" "take", .meth "Parser" "resting", .noat "Parser" "_state", .noat "Parser" "_lacking", .noat "Parser" "_character", .noat "Parser" "_least", .noat "Parser" "_first", .noat "Parser" "_valid", .noat "Parser" "_private", .noat "Parser" "_ended", .noat "Parser" "_current", .noat "Parser" "_titled", .noat "Parser" "_kept"]
def fn : List He.DefD := [d_is_point, d_Parser__begin_character, d_Parser__read_further, d_Parser__read_of_character, d_Parser__end_number, d_Parser__begin_sequence, d_Parser__begin_string, d_Parser__end_sequence, d_Parser__read_in_sequence, d_Parser__read_in_escape, d_Parser__end_string, d_Parser__read_in_string, d_Parser__read_plain, d_Parser__read, d_Parser___init__, d_Parser_take, d_Parser_resting, d_law_cell, d_law_row, d_law_digits, d_law_utf8, d_law_sequence, d_law_token, d_law_stream, d_law_cuts, d_law]
def ex (K : PySem.W.Frag) : Bool := true
structure Tx (K : PySem.W.Frag) (mg : Str → Option Value) : Prop where
  c : He.SaysD fa fn K
  x : ex K = true
  n : ∃ h : Heap, K.In h ∧ h.Ns mainGlobals mg
section
variable {P : Program} {w : World} {K : PySem.W.Frag} {mg : Str → Option Value} {base : Heap}
theorem Tx.int_REPLACEMENT (T : Tx K mg) : ∃ t, mg "REPLACEMENT" = some (.int (65533) t) := by obtain ⟨h, X, G⟩ := T.n; exact He.int_ok X G (T.c.fact 0 (f := .int "REPLACEMENT" (65533)) rfl)
theorem Tx.free_len (T : Tx K mg) : mg "len" = none := by obtain ⟨h, X, G⟩ := T.n; exact He.free_ok X G (T.c.fact 1 (f := .free "len") rfl)
theorem Tx.int_MOST_NUMBERS (T : Tx K mg) : ∃ t, mg "MOST_NUMBERS" = some (.int (16) t) := by obtain ⟨h, X, G⟩ := T.n; exact He.int_ok X G (T.c.fact 2 (f := .int "MOST_NUMBERS" (16)) rfl)
theorem Tx.int_SEQUENCE (T : Tx K mg) : ∃ t, mg "SEQUENCE" = some (.int (3) t) := by obtain ⟨h, X, G⟩ := T.n; exact He.int_ok X G (T.c.fact 3 (f := .int "SEQUENCE" (3)) rfl)
theorem Tx.int_STRING (T : Tx K mg) : ∃ t, mg "STRING" = some (.int (4) t) := by obtain ⟨h, X, G⟩ := T.n; exact He.int_ok X G (T.c.fact 4 (f := .int "STRING" (4)) rfl)
theorem Tx.int_GROUND (T : Tx K mg) : ∃ t, mg "GROUND" = some (.int (0) t) := by obtain ⟨h, X, G⟩ := T.n; exact He.int_ok X G (T.c.fact 5 (f := .int "GROUND" (0)) rfl)
theorem Tx.free_tuple (T : Tx K mg) : mg "tuple" = none := by obtain ⟨h, X, G⟩ := T.n; exact He.free_ok X G (T.c.fact 6 (f := .free "tuple") rfl)
theorem Tx.int_LARGEST_NUMBER (T : Tx K mg) : ∃ t, mg "LARGEST_NUMBER" = some (.int (9999) t) := by obtain ⟨h, X, G⟩ := T.n; exact He.int_ok X G (T.c.fact 7 (f := .int "LARGEST_NUMBER" (9999)) rfl)
theorem Tx.free_min (T : Tx K mg) : mg "min" = none := by obtain ⟨h, X, G⟩ := T.n; exact He.free_ok X G (T.c.fact 8 (f := .free "min") rfl)
theorem Tx.int_INTERMEDIATE (T : Tx K mg) : ∃ t, mg "INTERMEDIATE" = some (.int (2) t) := by obtain ⟨h, X, G⟩ := T.n; exact He.int_ok X G (T.c.fact 9 (f := .int "INTERMEDIATE" (2)) rfl)
theorem Tx.int_LONGEST_TITLE (T : Tx K mg) : ∃ t, mg "LONGEST_TITLE" = some (.int (64) t) := by obtain ⟨h, X, G⟩ := T.n; exact He.int_ok X G (T.c.fact 10 (f := .int "LONGEST_TITLE" (64)) rfl)
theorem Tx.int_STRING_END (T : Tx K mg) : ∃ t, mg "STRING_END" = some (.int (5) t) := by obtain ⟨h, X, G⟩ := T.n; exact He.int_ok X G (T.c.fact 11 (f := .int "STRING_END" (5)) rfl)
theorem Tx.int_LONGEST_STRING (T : Tx K mg) : ∃ t, mg "LONGEST_STRING" = some (.int (256) t) := by obtain ⟨h, X, G⟩ := T.n; exact He.int_ok X G (T.c.fact 12 (f := .int "LONGEST_STRING" (256)) rfl)
theorem Tx.int_ESCAPE (T : Tx K mg) : ∃ t, mg "ESCAPE" = some (.int (1) t) := by obtain ⟨h, X, G⟩ := T.n; exact He.int_ok X G (T.c.fact 13 (f := .int "ESCAPE" (1)) rfl)
theorem Tx.free_int (T : Tx K mg) : mg "int" = none := by obtain ⟨h, X, G⟩ := T.n; exact He.free_ok X G (T.c.fact 14 (f := .free "int") rfl)
theorem Tx.free_abs (T : Tx K mg) : mg "abs" = none := by obtain ⟨h, X, G⟩ := T.n; exact He.free_ok X G (T.c.fact 15 (f := .free "abs") rfl)
theorem Tx.free_range (T : Tx K mg) : mg "range" = none := by obtain ⟨h, X, G⟩ := T.n; exact He.free_ok X G (T.c.fact 16 (f := .free "range") rfl)
theorem Tx.free_str (T : Tx K mg) : mg "str" = none := by obtain ⟨h, X, G⟩ := T.n; exact He.free_ok X G (T.c.fact 17 (f := .free "str") rfl)
theorem Tx.free_ord (T : Tx K mg) : mg "ord" = none := by obtain ⟨h, X, G⟩ := T.n; exact He.free_ok X G (T.c.fact 18 (f := .free "ord") rfl)
theorem Tx.free_sorted (T : Tx K mg) : mg "sorted" = none := by obtain ⟨h, X, G⟩ := T.n; exact He.free_ok X G (T.c.fact 19 (f := .free "sorted") rfl)
theorem Tx.free_list (T : Tx K mg) : mg "list" = none := by obtain ⟨h, X, G⟩ := T.n; exact He.free_ok X G (T.c.fact 20 (f := .free "list") rfl)
theorem Tx.glo_is_point (T : Tx K mg) : mg "is_point" = some (.ref (He.ga K "is_point")) := by obtain ⟨h, X, G⟩ := T.n; exact He.glo_ok X G (T.c.fact 21 (f := .glo "is_point") rfl)
theorem Tx.glo__law_cell (T : Tx K mg) : mg "_law_cell" = some (.ref (He.ga K "_law_cell")) := by obtain ⟨h, X, G⟩ := T.n; exact He.glo_ok X G (T.c.fact 22 (f := .glo "_law_cell") rfl)
theorem Tx.glo__law_row (T : Tx K mg) : mg "_law_row" = some (.ref (He.ga K "_law_row")) := by obtain ⟨h, X, G⟩ := T.n; exact He.glo_ok X G (T.c.fact 23 (f := .glo "_law_row") rfl)
theorem Tx.glo__law_digits (T : Tx K mg) : mg "_law_digits" = some (.ref (He.ga K "_law_digits")) := by obtain ⟨h, X, G⟩ := T.n; exact He.glo_ok X G (T.c.fact 24 (f := .glo "_law_digits") rfl)
theorem Tx.glo__law_utf8 (T : Tx K mg) : mg "_law_utf8" = some (.ref (He.ga K "_law_utf8")) := by obtain ⟨h, X, G⟩ := T.n; exact He.glo_ok X G (T.c.fact 25 (f := .glo "_law_utf8") rfl)
theorem Tx.glo__law_sequence (T : Tx K mg) : mg "_law_sequence" = some (.ref (He.ga K "_law_sequence")) := by obtain ⟨h, X, G⟩ := T.n; exact He.glo_ok X G (T.c.fact 26 (f := .glo "_law_sequence") rfl)
theorem Tx.glo__law_token (T : Tx K mg) : mg "_law_token" = some (.ref (He.ga K "_law_token")) := by obtain ⟨h, X, G⟩ := T.n; exact He.glo_ok X G (T.c.fact 27 (f := .glo "_law_token") rfl)
theorem Tx.glo__law_stream (T : Tx K mg) : mg "_law_stream" = some (.ref (He.ga K "_law_stream")) := by obtain ⟨h, X, G⟩ := T.n; exact He.glo_ok X G (T.c.fact 28 (f := .glo "_law_stream") rfl)
theorem Tx.glo__law_cuts (T : Tx K mg) : mg "_law_cuts" = some (.ref (He.ga K "_law_cuts")) := by obtain ⟨h, X, G⟩ := T.n; exact He.glo_ok X G (T.c.fact 29 (f := .glo "_law_cuts") rfl)
theorem Tx.glo_law (T : Tx K mg) : mg "law" = some (.ref (He.ga K "law")) := by obtain ⟨h, X, G⟩ := T.n; exact He.glo_ok X G (T.c.fact 30 (f := .glo "law") rfl)
theorem Tx.glo_Parser (T : Tx K mg) : mg "Parser" = some (.ref (He.ga K "Parser")) := by obtain ⟨h, X, G⟩ := T.n; exact He.glo_ok X G (T.c.fact 31 (f := .glo "Parser") rfl)
theorem Tx.cls_Parser (T : Tx K mg) : Cls K (He.ga K "Parser") := He.cls_ok (T.c.fact 32 (f := .cls "Parser") rfl)
theorem Tx.mkr_Parser (T : Tx K mg) : Mk K (He.ga K "Parser") (He.ma K (He.ga K "Parser") "__init__") := He.mkr_ok (T.c.fact 33 (f := .mkr "Parser") rfl)
theorem Tx.meth_Parser__begin_character (T : Tx K mg) : Meth K (He.ga K "Parser") "_begin_character" (He.ma K (He.ga K "Parser") "_begin_character") := He.meth_ok (T.c.fact 34 (f := .meth "Parser" "_begin_character") rfl)
theorem Tx.meth_Parser__read_further (T : Tx K mg) : Meth K (He.ga K "Parser") "_read_further" (He.ma K (He.ga K "Parser") "_read_further") := He.meth_ok (T.c.fact 35 (f := .meth "Parser" "_read_further") rfl)
theorem Tx.meth_Parser__read_of_character (T : Tx K mg) : Meth K (He.ga K "Parser") "_read_of_character" (He.ma K (He.ga K "Parser") "_read_of_character") := He.meth_ok (T.c.fact 36 (f := .meth "Parser" "_read_of_character") rfl)
theorem Tx.meth_Parser__end_number (T : Tx K mg) : Meth K (He.ga K "Parser") "_end_number" (He.ma K (He.ga K "Parser") "_end_number") := He.meth_ok (T.c.fact 37 (f := .meth "Parser" "_end_number") rfl)
theorem Tx.meth_Parser__begin_sequence (T : Tx K mg) : Meth K (He.ga K "Parser") "_begin_sequence" (He.ma K (He.ga K "Parser") "_begin_sequence") := He.meth_ok (T.c.fact 38 (f := .meth "Parser" "_begin_sequence") rfl)
theorem Tx.meth_Parser__begin_string (T : Tx K mg) : Meth K (He.ga K "Parser") "_begin_string" (He.ma K (He.ga K "Parser") "_begin_string") := He.meth_ok (T.c.fact 39 (f := .meth "Parser" "_begin_string") rfl)
theorem Tx.meth_Parser__end_sequence (T : Tx K mg) : Meth K (He.ga K "Parser") "_end_sequence" (He.ma K (He.ga K "Parser") "_end_sequence") := He.meth_ok (T.c.fact 40 (f := .meth "Parser" "_end_sequence") rfl)
theorem Tx.meth_Parser__read_in_sequence (T : Tx K mg) : Meth K (He.ga K "Parser") "_read_in_sequence" (He.ma K (He.ga K "Parser") "_read_in_sequence") := He.meth_ok (T.c.fact 41 (f := .meth "Parser" "_read_in_sequence") rfl)
theorem Tx.meth_Parser__read_in_escape (T : Tx K mg) : Meth K (He.ga K "Parser") "_read_in_escape" (He.ma K (He.ga K "Parser") "_read_in_escape") := He.meth_ok (T.c.fact 42 (f := .meth "Parser" "_read_in_escape") rfl)
theorem Tx.meth_Parser__end_string (T : Tx K mg) : Meth K (He.ga K "Parser") "_end_string" (He.ma K (He.ga K "Parser") "_end_string") := He.meth_ok (T.c.fact 43 (f := .meth "Parser" "_end_string") rfl)
theorem Tx.meth_Parser__read_in_string (T : Tx K mg) : Meth K (He.ga K "Parser") "_read_in_string" (He.ma K (He.ga K "Parser") "_read_in_string") := He.meth_ok (T.c.fact 44 (f := .meth "Parser" "_read_in_string") rfl)
theorem Tx.meth_Parser__read_plain (T : Tx K mg) : Meth K (He.ga K "Parser") "_read_plain" (He.ma K (He.ga K "Parser") "_read_plain") := He.meth_ok (T.c.fact 45 (f := .meth "Parser" "_read_plain") rfl)
theorem Tx.meth_Parser__read (T : Tx K mg) : Meth K (He.ga K "Parser") "_read" (He.ma K (He.ga K "Parser") "_read") := He.meth_ok (T.c.fact 46 (f := .meth "Parser" "_read") rfl)
theorem Tx.meth_Parser_take (T : Tx K mg) : Meth K (He.ga K "Parser") "take" (He.ma K (He.ga K "Parser") "take") := He.meth_ok (T.c.fact 47 (f := .meth "Parser" "take") rfl)
theorem Tx.meth_Parser_resting (T : Tx K mg) : Meth K (He.ga K "Parser") "resting" (He.ma K (He.ga K "Parser") "resting") := He.meth_ok (T.c.fact 48 (f := .meth "Parser" "resting") rfl)
theorem Tx.noat_Parser__state (T : Tx K mg) : NoAttr K (He.ga K "Parser") "_state" := He.noat_ok (T.c.fact 49 (f := .noat "Parser" "_state") rfl)
theorem Tx.noat_Parser__lacking (T : Tx K mg) : NoAttr K (He.ga K "Parser") "_lacking" := He.noat_ok (T.c.fact 50 (f := .noat "Parser" "_lacking") rfl)
theorem Tx.noat_Parser__character (T : Tx K mg) : NoAttr K (He.ga K "Parser") "_character" := He.noat_ok (T.c.fact 51 (f := .noat "Parser" "_character") rfl)
theorem Tx.noat_Parser__least (T : Tx K mg) : NoAttr K (He.ga K "Parser") "_least" := He.noat_ok (T.c.fact 52 (f := .noat "Parser" "_least") rfl)
theorem Tx.noat_Parser__first (T : Tx K mg) : NoAttr K (He.ga K "Parser") "_first" := He.noat_ok (T.c.fact 53 (f := .noat "Parser" "_first") rfl)
theorem Tx.noat_Parser__valid (T : Tx K mg) : NoAttr K (He.ga K "Parser") "_valid" := He.noat_ok (T.c.fact 54 (f := .noat "Parser" "_valid") rfl)
theorem Tx.noat_Parser__private (T : Tx K mg) : NoAttr K (He.ga K "Parser") "_private" := He.noat_ok (T.c.fact 55 (f := .noat "Parser" "_private") rfl)
theorem Tx.noat_Parser__ended (T : Tx K mg) : NoAttr K (He.ga K "Parser") "_ended" := He.noat_ok (T.c.fact 56 (f := .noat "Parser" "_ended") rfl)
theorem Tx.noat_Parser__current (T : Tx K mg) : NoAttr K (He.ga K "Parser") "_current" := He.noat_ok (T.c.fact 57 (f := .noat "Parser" "_current") rfl)
theorem Tx.noat_Parser__titled (T : Tx K mg) : NoAttr K (He.ga K "Parser") "_titled" := He.noat_ok (T.c.fact 58 (f := .noat "Parser" "_titled") rfl)
theorem Tx.noat_Parser__kept (T : Tx K mg) : NoAttr K (He.ga K "Parser") "_kept" := He.noat_ok (T.c.fact 59 (f := .noat "Parser" "_kept") rfl)
theorem sc_is_point : FnScope N_is_point ["number"] (defScope s_is_point) := ⟨rfl, rfl, rfl, by decide +kernel, rfl, by decide +kernel, by decide +kernel⟩
theorem b_is_point (T : Tx K mg) : PB.Body P w K mg base 0 N_is_point "is_point" s_is_point (t_is_point K) := by
  intro f cdv A outer s H E hr
  exact C8.pss_cut (ps_if (PW.pt (pw_or (PB.pt_m (PB.op_mEq (PB.hu64 hr)) (PB.pe_v 0) (pe_int) (nomark _)) (pw_or1 (PB.pt_mch PB.op_mLe PB.op_mLe (pe_int) (PB.pe_v 0) (pe_int))))) (pss_one (ps_ret (pe_bl))) (pss_nil)) (
  pss_one (ps_ret (PB.pe_mch PB.op_mLe PB.op_mLe (pe_int) (PB.pe_v 0) (pe_int))))
theorem Tx.ok_is_point (T : Tx K mg) : C8.Cal P w K mg base 1 "is_point" (sp_is_point K) [] := PB.cal_ok (st := s_is_point) (T.c.def_ 0 (d := d_is_point) rfl) T.glo_is_point sc_is_point len_is_point (fun _ _ _ _ _ _ us hl => match us, hl with | [_], _ => rfl) (b_is_point T) (pure_is_point K)
theorem sc_Parser__begin_character : FnScope N_Parser__begin_character ["self", "bits", "lacking", "least"] (defScope s_Parser__begin_character) := ⟨rfl, rfl, rfl, by decide +kernel, rfl, by decide +kernel, by decide +kernel⟩
theorem b_Parser__begin_character (T : Tx K mg) : PB.Body P w K mg base 0 N_Parser__begin_character "Parser._begin_character" s_Parser__begin_character (t_Parser__begin_character K) := by
  intro f cdv A outer s H E hr
  exact pss_cons (PB.ps_oset T.cls_Parser T.noat_Parser__character an_Parser_nd rfl (by decide) (PB.pe_v 0) (PB.pe_v 1) rfl) (
  pss_cons (PB.ps_oset T.cls_Parser T.noat_Parser__lacking an_Parser_nd rfl (by decide) (PB.pe_v 0) (PB.pe_v 2) rfl) (
  pss_one (PB.ps_oset T.cls_Parser T.noat_Parser__least an_Parser_nd rfl (by decide) (PB.pe_v 0) (PB.pe_v 3) rfl)))
theorem Tx.ok_Parser__begin_character (T : Tx K mg) : C8.Met P w K mg base 1 (He.ga K "Parser") "_begin_character" (sp_Parser__begin_character K) [] := PB.met_ok (st := s_Parser__begin_character) (T.c.def_ 1 (d := d_Parser__begin_character) rfl) T.cls_Parser T.meth_Parser__begin_character sc_Parser__begin_character len_Parser__begin_character (fun _ _ _ _ _ _ us hl => match us, hl with | [_, _, _, _], _ => rfl) (b_Parser__begin_character T) (pure_Parser__begin_character K)
theorem sc_Parser__read_further : FnScope N_Parser__read_further ["self", "byte"] (defScope s_Parser__read_further) := ⟨rfl, rfl, rfl, by decide +kernel, rfl, by decide +kernel, by decide +kernel⟩
theorem b_Parser__read_further (T : Tx K mg) : PB.Body P w K mg base 1 N_Parser__read_further "Parser._read_further" s_Parser__read_further (t_Parser__read_further K) := by
  intro f cdv A outer s H E hr
  exact C8.pss_cut (ps_if (PB.pt_m (PB.op_mEq (PB.hu64 hr)) (PB.pe_ofld T.cls_Parser T.noat_Parser__lacking an_Parser_nd rfl (PB.pe_v 0) rfl) (pe_int) (nomark _)) (pss_one (ps_ret (pe_tup (pa_cons (pe_str) (pa_cons (PB.pe_gint rfl T.int_REPLACEMENT) (pa_nil)))))) (pss_nil)) (
  pss_cons (PB.ps_oset T.cls_Parser T.noat_Parser__character an_Parser_nd rfl (by decide) (PB.pe_v 0) (pe_op PB.op_mSub (pe_op PB.op_mAdd (pe_op PB.op_mMul (PB.pe_ofld T.cls_Parser T.noat_Parser__character an_Parser_nd rfl (PB.pe_v 0) rfl) (pe_int)) (PB.pe_v 1)) (pe_int)) rfl) (
  pss_cons (PB.ps_oaug in_sub T.cls_Parser T.noat_Parser__lacking an_Parser_nd rfl (by decide) (PB.pe_v 0) (pe_int)) (
  C8.pss_cut (ps_if (PB.pt_m PB.op_mGt (PB.pe_ofld T.cls_Parser T.noat_Parser__lacking an_Parser_nd rfl (PB.pe_v 0) rfl) (pe_int) (nomark _)) (pss_one (ps_ret (pe_non))) (pss_nil)) (
  C8.pss_cut (ps_if (PW.pt (pw_or (PB.pt_m PB.op_mLt (PB.pe_ofld T.cls_Parser T.noat_Parser__character an_Parser_nd rfl (PB.pe_v 0) rfl) (PB.pe_ofld T.cls_Parser T.noat_Parser__least an_Parser_nd rfl (PB.pe_v 0) rfl) (nomark _)) (pw_or1 (pt_not (PB.pt_tru (PB.pe_mc T.ok_is_point hr (by decide) rfl (pa_cons (PB.pe_ofld T.cls_Parser T.noat_Parser__character an_Parser_nd rfl (PB.pe_v 0) rfl) (pa_nil)))))))) (pss_one (ps_ret (pe_tup (pa_cons (pe_str) (pa_cons (PB.pe_gint rfl T.int_REPLACEMENT) (pa_nil)))))) (pss_nil)) (
  pss_one (ps_ret (pe_tup (pa_cons (pe_str) (pa_cons (PB.pe_ofld T.cls_Parser T.noat_Parser__character an_Parser_nd rfl (PB.pe_v 0) rfl) (pa_nil))))))))))
theorem Tx.ok_Parser__read_further (T : Tx K mg) : C8.Met P w K mg base 2 (He.ga K "Parser") "_read_further" (sp_Parser__read_further K) [] := PB.met_ok (st := s_Parser__read_further) (T.c.def_ 2 (d := d_Parser__read_further) rfl) T.cls_Parser T.meth_Parser__read_further sc_Parser__read_further len_Parser__read_further (fun _ _ _ _ _ _ us hl => match us, hl with | [_, _], _ => rfl) (b_Parser__read_further T) (pure_Parser__read_further K)
theorem sc_Parser__read_of_character : FnScope N_Parser__read_of_character ["self", "byte"] (defScope s_Parser__read_of_character) := ⟨rfl, rfl, rfl, by decide +kernel, rfl, by decide +kernel, by decide +kernel⟩
theorem b_Parser__read_of_character (T : Tx K mg) : PB.Body P w K mg base 2 N_Parser__read_of_character "Parser._read_of_character" s_Parser__read_of_character (t_Parser__read_of_character K) := by
  intro f cdv A outer s H E hr
  exact C8.pss_cut (ps_if (PB.pt_m PB.op_mLt (PB.pe_v 1) (pe_int) (nomark _)) (pss_one (ps_ret (PB.pe_omt T.ok_Parser__read_further hr (by decide) (by decide +kernel) (PB.pe_v 0) (pa_cons (PB.pe_v 1) (pa_nil))))) (pss_nil)) (
  C8.pss_cut (ps_if (PB.pt_m PB.op_mLt (PB.pe_v 1) (pe_int) (nomark _)) (pss_one (ps_expr (PB.pe_omt T.ok_Parser__begin_character hr (by decide) (by decide +kernel) (PB.pe_v 0) (pa_cons (pe_op PB.op_mSub (PB.pe_v 1) (pe_int)) (pa_cons (pe_int) (pa_cons (pe_int) (pa_nil))))))) (pss_one (ps_if (PB.pt_m PB.op_mLt (PB.pe_v 1) (pe_int) (nomark _)) (pss_one (ps_expr (PB.pe_omt T.ok_Parser__begin_character hr (by decide) (by decide +kernel) (PB.pe_v 0) (pa_cons (pe_op PB.op_mSub (PB.pe_v 1) (pe_int)) (pa_cons (pe_int) (pa_cons (pe_int) (pa_nil))))))) (pss_one (ps_if (PB.pt_m PB.op_mLt (PB.pe_v 1) (pe_int) (nomark _)) (pss_one (ps_expr (PB.pe_omt T.ok_Parser__begin_character hr (by decide) (by decide +kernel) (PB.pe_v 0) (pa_cons (pe_op PB.op_mSub (PB.pe_v 1) (pe_int)) (pa_cons (pe_int) (pa_cons (pe_int) (pa_nil))))))) (pss_one (ps_ret (pe_tup (pa_cons (pe_str) (pa_cons (PB.pe_gint rfl T.int_REPLACEMENT) (pa_nil))))))))))) (
  pss_one (ps_ret (pe_non))))
theorem Tx.ok_Parser__read_of_character (T : Tx K mg) : C8.Met P w K mg base 3 (He.ga K "Parser") "_read_of_character" (sp_Parser__read_of_character K) [] := PB.met_ok (st := s_Parser__read_of_character) (T.c.def_ 3 (d := d_Parser__read_of_character) rfl) T.cls_Parser T.meth_Parser__read_of_character sc_Parser__read_of_character len_Parser__read_of_character (fun _ _ _ _ _ _ us hl => match us, hl with | [_, _], _ => rfl) (b_Parser__read_of_character T) (pure_Parser__read_of_character K)
theorem sc_Parser__end_number : FnScope N_Parser__end_number ["self"] (defScope s_Parser__end_number) := ⟨rfl, rfl, rfl, by decide +kernel, rfl, by decide +kernel, by decide +kernel⟩
theorem b_Parser__end_number (T : Tx K mg) : PB.Body P w K mg base 0 N_Parser__end_number "Parser._end_number" s_Parser__end_number (t_Parser__end_number K) := by
  intro f cdv A outer s H E hr
  exact C8.pss_cut (ps_if (PB.pt_m PB.op_mLt (pe_callB PB.call_mLen rfl T.free_len (by decide +kernel) (pa_cons (PB.pe_ofld T.cls_Parser T.noat_Parser__ended an_Parser_nd rfl (PB.pe_v 0) rfl) (pa_nil))) (PB.pe_gint rfl T.int_MOST_NUMBERS) (nomark _)) (pss_one (ps_expr (PB.pe_mlm PySem.F.slot_list_append PySem.F.type_list_append PB.mt_mAppend (PB.pe_ofld T.cls_Parser T.noat_Parser__ended an_Parser_nd rfl (PB.pe_v 0) rfl) (pa_cons (PB.pe_ofld T.cls_Parser T.noat_Parser__current an_Parser_nd rfl (PB.pe_v 0) rfl) (pa_nil))))) (pss_nil)) (
  pss_one (PB.ps_oset T.cls_Parser T.noat_Parser__current an_Parser_nd rfl (by decide) (PB.pe_v 0) (pe_int) rfl))
theorem Tx.ok_Parser__end_number (T : Tx K mg) : C8.Met P w K mg base 1 (He.ga K "Parser") "_end_number" (sp_Parser__end_number K) [] := PB.met_ok (st := s_Parser__end_number) (T.c.def_ 4 (d := d_Parser__end_number) rfl) T.cls_Parser T.meth_Parser__end_number sc_Parser__end_number len_Parser__end_number (fun _ _ _ _ _ _ us hl => match us, hl with | [_], _ => rfl) (b_Parser__end_number T) (pure_Parser__end_number K)
theorem sc_Parser__begin_sequence : FnScope N_Parser__begin_sequence ["self"] (defScope s_Parser__begin_sequence) := ⟨rfl, rfl, rfl, by decide +kernel, rfl, by decide +kernel, by decide +kernel⟩
theorem b_Parser__begin_sequence (T : Tx K mg) : PB.Body P w K mg base 0 N_Parser__begin_sequence "Parser._begin_sequence" s_Parser__begin_sequence (t_Parser__begin_sequence K) := by
  intro f cdv A outer s H E hr
  exact pss_cons (PB.ps_oset T.cls_Parser T.noat_Parser__state an_Parser_nd rfl (by decide) (PB.pe_v 0) (PB.pe_gint rfl T.int_SEQUENCE) rfl) (
  pss_cons (PB.ps_oset T.cls_Parser T.noat_Parser__first an_Parser_nd rfl (by decide) (PB.pe_v 0) (pe_bl) rfl) (
  pss_cons (PB.ps_oset T.cls_Parser T.noat_Parser__valid an_Parser_nd rfl (by decide) (PB.pe_v 0) (pe_bl) rfl) (
  pss_cons (PB.ps_oset T.cls_Parser T.noat_Parser__private an_Parser_nd rfl (by decide) (PB.pe_v 0) (pe_int) rfl) (
  pss_cons (PB.ps_oset T.cls_Parser T.noat_Parser__ended an_Parser_nd rfl (by decide) (PB.pe_v 0) (pe_lst (pa_nil)) rfl) (
  pss_one (PB.ps_oset T.cls_Parser T.noat_Parser__current an_Parser_nd rfl (by decide) (PB.pe_v 0) (pe_int) rfl))))))
theorem Tx.ok_Parser__begin_sequence (T : Tx K mg) : C8.Met P w K mg base 1 (He.ga K "Parser") "_begin_sequence" (sp_Parser__begin_sequence K) [] := PB.met_ok (st := s_Parser__begin_sequence) (T.c.def_ 5 (d := d_Parser__begin_sequence) rfl) T.cls_Parser T.meth_Parser__begin_sequence sc_Parser__begin_sequence len_Parser__begin_sequence (fun _ _ _ _ _ _ us hl => match us, hl with | [_], _ => rfl) (b_Parser__begin_sequence T) (pure_Parser__begin_sequence K)
theorem sc_Parser__begin_string : FnScope N_Parser__begin_string ["self", "titled"] (defScope s_Parser__begin_string) := ⟨rfl, rfl, rfl, by decide +kernel, rfl, by decide +kernel, by decide +kernel⟩
theorem b_Parser__begin_string (T : Tx K mg) : PB.Body P w K mg base 0 N_Parser__begin_string "Parser._begin_string" s_Parser__begin_string (t_Parser__begin_string K) := by
  intro f cdv A outer s H E hr
  exact pss_cons (PB.ps_oset T.cls_Parser T.noat_Parser__state an_Parser_nd rfl (by decide) (PB.pe_v 0) (PB.pe_gint rfl T.int_STRING) rfl) (
  pss_cons (PB.ps_oset T.cls_Parser T.noat_Parser__titled an_Parser_nd rfl (by decide) (PB.pe_v 0) (PB.pe_v 1) rfl) (
  pss_one (PB.ps_oset T.cls_Parser T.noat_Parser__kept an_Parser_nd rfl (by decide) (PB.pe_v 0) (pe_lst (pa_nil)) rfl)))
theorem Tx.ok_Parser__begin_string (T : Tx K mg) : C8.Met P w K mg base 1 (He.ga K "Parser") "_begin_string" (sp_Parser__begin_string K) [] := PB.met_ok (st := s_Parser__begin_string) (T.c.def_ 6 (d := d_Parser__begin_string) rfl) T.cls_Parser T.meth_Parser__begin_string sc_Parser__begin_string len_Parser__begin_string (fun _ _ _ _ _ _ us hl => match us, hl with | [_, _], _ => rfl) (b_Parser__begin_string T) (pure_Parser__begin_string K)
theorem sc_Parser__end_sequence : FnScope N_Parser__end_sequence ["self", "byte"] (defScope s_Parser__end_sequence) := ⟨rfl, rfl, rfl, by decide +kernel, rfl, by decide +kernel, by decide +kernel⟩
theorem b_Parser__end_sequence (T : Tx K mg) : PB.Body P w K mg base 1 N_Parser__end_sequence "Parser._end_sequence" s_Parser__end_sequence (t_Parser__end_sequence K) := by
  intro f cdv A outer s H E hr
  exact pss_cons (PB.ps_oset T.cls_Parser T.noat_Parser__state an_Parser_nd rfl (by decide) (PB.pe_v 0) (PB.pe_gint rfl T.int_GROUND) rfl) (
  C8.pss_cut (ps_if (pt_not (PB.pt_tru (PB.pe_ofld T.cls_Parser T.noat_Parser__valid an_Parser_nd rfl (PB.pe_v 0) rfl))) (pss_one (ps_ret (pe_non))) (pss_nil)) (
  pss_cons (ps_expr (PB.pe_omt0 T.ok_Parser__end_number hr (by decide) (by decide +kernel) (PB.pe_v 0))) (
  pss_one (ps_ret (pe_tup (pa_cons (pe_str) (pa_cons (PB.pe_ofld T.cls_Parser T.noat_Parser__private an_Parser_nd rfl (PB.pe_v 0) rfl) (pa_cons (pe_callTy PB.call_mTup rfl T.free_tuple (by decide +kernel) (pa_cons (PB.pe_ofld T.cls_Parser T.noat_Parser__ended an_Parser_nd rfl (PB.pe_v 0) rfl) (pa_nil))) (pa_cons (PB.pe_v 1) (pa_nil))))))))))
theorem Tx.ok_Parser__end_sequence (T : Tx K mg) : C8.Met P w K mg base 2 (He.ga K "Parser") "_end_sequence" (sp_Parser__end_sequence K) [] := PB.met_ok (st := s_Parser__end_sequence) (T.c.def_ 7 (d := d_Parser__end_sequence) rfl) T.cls_Parser T.meth_Parser__end_sequence sc_Parser__end_sequence len_Parser__end_sequence (fun _ _ _ _ _ _ us hl => match us, hl with | [_, _], _ => rfl) (b_Parser__end_sequence T) (pure_Parser__end_sequence K)
theorem sc_Parser__read_in_sequence : FnScope N_Parser__read_in_sequence ["self", "byte"] (defScope s_Parser__read_in_sequence) := ⟨rfl, rfl, rfl, by decide +kernel, rfl, by decide +kernel, by decide +kernel⟩
theorem b_Parser__read_in_sequence (T : Tx K mg) : PB.Body P w K mg base 2 N_Parser__read_in_sequence "Parser._read_in_sequence" s_Parser__read_in_sequence (t_Parser__read_in_sequence K) := by
  intro f cdv A outer s H E hr
  exact C8.pss_cut (ps_if (PB.pt_m PB.op_mGt (PB.pe_v 1) (pe_int) (nomark _)) (pss_one (ps_ret (PB.pe_omt T.ok_Parser__end_sequence hr (by decide) (by decide +kernel) (PB.pe_v 0) (pa_cons (PB.pe_v 1) (pa_nil))))) (pss_nil)) (
  C8.pss_cut (ps_if (PB.pt_mch PB.op_mLe PB.op_mLe (pe_int) (PB.pe_v 1) (pe_int)) (pss_one (PB.ps_oset T.cls_Parser T.noat_Parser__current an_Parser_nd rfl (by decide) (PB.pe_v 0) (pe_callB (PB.call_mMin2 rfl) rfl T.free_min (by decide +kernel) (pa_cons (pe_op PB.op_mSub (pe_op PB.op_mAdd (pe_op PB.op_mMul (PB.pe_ofld T.cls_Parser T.noat_Parser__current an_Parser_nd rfl (PB.pe_v 0) rfl) (pe_int)) (PB.pe_v 1)) (pe_int)) (pa_cons (PB.pe_gint rfl T.int_LARGEST_NUMBER) (pa_nil)))) rfl)) (pss_one (ps_if (PB.pt_m (PB.op_mEq (PB.hu64 hr)) (PB.pe_v 1) (pe_int) (nomark _)) (pss_one (ps_expr (PB.pe_omt0 T.ok_Parser__end_number hr (by decide) (by decide +kernel) (PB.pe_v 0)))) (pss_one (ps_if (PW.pt (pw_and (PB.pt_m PB.op_mGt (PB.pe_v 1) (pe_int) (nomark _)) (pw_and1 (PB.pt_tru (PB.pe_ofld T.cls_Parser T.noat_Parser__first an_Parser_nd rfl (PB.pe_v 0) rfl))))) (pss_one (PB.ps_oset T.cls_Parser T.noat_Parser__private an_Parser_nd rfl (by decide) (PB.pe_v 0) (PB.pe_v 1) rfl)) (pss_one (PB.ps_oset T.cls_Parser T.noat_Parser__valid an_Parser_nd rfl (by decide) (PB.pe_v 0) (pe_bl) rfl))))))) (
  pss_cons (PB.ps_oset T.cls_Parser T.noat_Parser__first an_Parser_nd rfl (by decide) (PB.pe_v 0) (pe_bl) rfl) (
  pss_one (ps_ret (pe_non)))))
theorem Tx.ok_Parser__read_in_sequence (T : Tx K mg) : C8.Met P w K mg base 3 (He.ga K "Parser") "_read_in_sequence" (sp_Parser__read_in_sequence K) [] := PB.met_ok (st := s_Parser__read_in_sequence) (T.c.def_ 8 (d := d_Parser__read_in_sequence) rfl) T.cls_Parser T.meth_Parser__read_in_sequence sc_Parser__read_in_sequence len_Parser__read_in_sequence (fun _ _ _ _ _ _ us hl => match us, hl with | [_, _], _ => rfl) (b_Parser__read_in_sequence T) (pure_Parser__read_in_sequence K)
theorem sc_Parser__read_in_escape : FnScope N_Parser__read_in_escape ["self", "byte"] (defScope s_Parser__read_in_escape) := ⟨rfl, rfl, rfl, by decide +kernel, rfl, by decide +kernel, by decide +kernel⟩
theorem b_Parser__read_in_escape (T : Tx K mg) : PB.Body P w K mg base 1 N_Parser__read_in_escape "Parser._read_in_escape" s_Parser__read_in_escape (t_Parser__read_in_escape K) := by
  intro f cdv A outer s H E hr
  exact C8.pss_cut (ps_if (PB.pt_m PB.op_mLt (PB.pe_v 1) (pe_int) (nomark _)) (pss_cons (PB.ps_oset T.cls_Parser T.noat_Parser__state an_Parser_nd rfl (by decide) (PB.pe_v 0) (PB.pe_gint rfl T.int_INTERMEDIATE) rfl) (
  pss_one (ps_ret (pe_non)))) (pss_nil)) (
  C8.pss_cut (ps_if (PB.pt_m (PB.op_mEq (PB.hu64 hr)) (PB.pe_v 1) (pe_int) (nomark _)) (pss_cons (ps_expr (PB.pe_omt0 T.ok_Parser__begin_sequence hr (by decide) (by decide +kernel) (PB.pe_v 0))) (
  pss_one (ps_ret (pe_non)))) (pss_nil)) (
  C8.pss_cut (ps_if (PB.pt_m (PB.op_mIn (PB.hu65 hr)) (PB.pe_v 1) (pe_tup (pa_cons (pe_int) (pa_cons (pe_int) (pa_cons (pe_int) (pa_cons (pe_int) (pa_cons (pe_int) (pa_nil))))))) (by with_unfolding_all rfl)) (pss_cons (ps_expr (PB.pe_omt T.ok_Parser__begin_string hr (by decide) (by decide +kernel) (PB.pe_v 0) (pa_cons (pe_cmpR (PB.op_mEq (PB.hu64 hr)) (PB.pe_v 1) (pe_int) (nomark _)) (pa_nil)))) (
  pss_one (ps_ret (pe_non)))) (pss_nil)) (
  pss_cons (PB.ps_oset T.cls_Parser T.noat_Parser__state an_Parser_nd rfl (by decide) (PB.pe_v 0) (PB.pe_gint rfl T.int_GROUND) rfl) (
  pss_one (ps_ret (pe_tup (pa_cons (pe_str) (pa_cons (PB.pe_v 1) (pa_nil)))))))))
theorem Tx.ok_Parser__read_in_escape (T : Tx K mg) : C8.Met P w K mg base 2 (He.ga K "Parser") "_read_in_escape" (sp_Parser__read_in_escape K) [] := PB.met_ok (st := s_Parser__read_in_escape) (T.c.def_ 9 (d := d_Parser__read_in_escape) rfl) T.cls_Parser T.meth_Parser__read_in_escape sc_Parser__read_in_escape len_Parser__read_in_escape (fun _ _ _ _ _ _ us hl => match us, hl with | [_, _], _ => rfl) (b_Parser__read_in_escape T) (pure_Parser__read_in_escape K)
theorem sc_Parser__end_string : FnScope N_Parser__end_string ["self"] (defScope s_Parser__end_string) := ⟨rfl, rfl, rfl, by decide +kernel, rfl, by decide +kernel, by decide +kernel⟩
theorem b_Parser__end_string (T : Tx K mg) : PB.Body P w K mg base 0 N_Parser__end_string "Parser._end_string" s_Parser__end_string (t_Parser__end_string K) := by
  intro f cdv A outer s H E hr
  exact pss_cons (PB.ps_oset T.cls_Parser T.noat_Parser__state an_Parser_nd rfl (by decide) (PB.pe_v 0) (PB.pe_gint rfl T.int_GROUND) rfl) (
  pss_cons (ps_set (i := 1) sc_Parser__end_string.nd rfl (Or.inl rfl) (pe_callTy PB.call_mTup rfl T.free_tuple (by decide +kernel) (pa_cons (pe_slice PB.sl_m (PB.pe_ofld T.cls_Parser T.noat_Parser__kept an_Parser_nd rfl (PB.pe_v 0) rfl) (po_none) (PB.po_m (pe_int))) (pa_nil)))) (
  C8.pss_cut (ps_if (PW.pt (pw_or (pt_not (PB.pt_tru (PB.pe_ofld T.cls_Parser T.noat_Parser__titled an_Parser_nd rfl (PB.pe_v 0) rfl))) (pw_or1 (PB.pt_m (PB.op_mNotIn (PB.hu65 hr)) (PB.pe_v 1) (pe_tup (pa_cons (pe_tup (pa_cons (pe_int) (pa_cons (pe_int) (pa_nil)))) (pa_cons (pe_tup (pa_cons (pe_int) (pa_cons (pe_int) (pa_nil)))) (pa_nil)))) (by with_unfolding_all rfl))))) (pss_one (ps_ret (pe_non))) (pss_nil)) (
  pss_cons (ps_setLc (i := 2) (own := [("byte", 3)]) rfl sc_Parser__end_string.nd rfl rfl (sw_true rfl rfl rfl (by decide +kernel)) (pi_list (pe_slice PB.sl_m (PB.pe_ofld T.cls_Parser T.noat_Parser__kept an_Parser_nd rfl (PB.pe_v 0) rfl) (PB.po_m (pe_int)) (po_none))) (blkOk_by (own := [("byte", 3)]) (N := N_Parser__end_string) (sc := defScope s_Parser__end_string) (by decide +kernel)) (fun _ _ _ _ _ => pg_name (i := 3) sc_Parser__end_string.nd rfl (Or.inl rfl)) (fun _ _ _ _ _ => pts_one (PB.pt_mch PB.op_mLe PB.op_mLe (pe_int) (PB.pe_v 3) (pe_int))) (fun _ _ _ _ _ => PB.pe_v 3)) (
  pss_one (ps_ret (pe_tup (pa_cons (pe_str) (pa_cons (pe_callTy PB.call_mTup rfl T.free_tuple (by decide +kernel) (pa_cons (pe_slice PB.sl_m (PB.pe_v 2) (po_none) (PB.po_m (PB.pe_gint rfl T.int_LONGEST_TITLE))) (pa_nil))) (pa_nil)))))))))
theorem Tx.ok_Parser__end_string (T : Tx K mg) : C8.Met P w K mg base 1 (He.ga K "Parser") "_end_string" (sp_Parser__end_string K) [] := PB.met_ok (st := s_Parser__end_string) (T.c.def_ 10 (d := d_Parser__end_string) rfl) T.cls_Parser T.meth_Parser__end_string sc_Parser__end_string len_Parser__end_string (fun _ _ _ _ _ _ us hl => match us, hl with | [_], _ => rfl) (b_Parser__end_string T) (pure_Parser__end_string K)
theorem sc_Parser__read_in_string : FnScope N_Parser__read_in_string ["self", "byte"] (defScope s_Parser__read_in_string) := ⟨rfl, rfl, rfl, by decide +kernel, rfl, by decide +kernel, by decide +kernel⟩
theorem b_Parser__read_in_string (T : Tx K mg) : PB.Body P w K mg base 1 N_Parser__read_in_string "Parser._read_in_string" s_Parser__read_in_string (t_Parser__read_in_string K) := by
  intro f cdv A outer s H E hr
  exact C8.pss_cut (ps_if (PB.pt_m (PB.op_mEq (PB.hu64 hr)) (PB.pe_v 1) (pe_int) (nomark _)) (pss_one (ps_ret (PB.pe_omt0 T.ok_Parser__end_string hr (by decide) (by decide +kernel) (PB.pe_v 0)))) (pss_nil)) (
  C8.pss_cut (ps_if (PB.pt_m (PB.op_mEq (PB.hu64 hr)) (PB.pe_v 1) (pe_int) (nomark _)) (pss_one (PB.ps_oset T.cls_Parser T.noat_Parser__state an_Parser_nd rfl (by decide) (PB.pe_v 0) (PB.pe_gint rfl T.int_STRING_END) rfl)) (pss_one (ps_if (PB.pt_m PB.op_mLt (pe_callB PB.call_mLen rfl T.free_len (by decide +kernel) (pa_cons (PB.pe_ofld T.cls_Parser T.noat_Parser__kept an_Parser_nd rfl (PB.pe_v 0) rfl) (pa_nil))) (PB.pe_gint rfl T.int_LONGEST_STRING) (nomark _)) (pss_one (ps_expr (PB.pe_mlm PySem.F.slot_list_append PySem.F.type_list_append PB.mt_mAppend (PB.pe_ofld T.cls_Parser T.noat_Parser__kept an_Parser_nd rfl (PB.pe_v 0) rfl) (pa_cons (PB.pe_v 1) (pa_nil))))) (pss_nil)))) (
  pss_one (ps_ret (pe_non))))
theorem Tx.ok_Parser__read_in_string (T : Tx K mg) : C8.Met P w K mg base 2 (He.ga K "Parser") "_read_in_string" (sp_Parser__read_in_string K) [] := PB.met_ok (st := s_Parser__read_in_string) (T.c.def_ 11 (d := d_Parser__read_in_string) rfl) T.cls_Parser T.meth_Parser__read_in_string sc_Parser__read_in_string len_Parser__read_in_string (fun _ _ _ _ _ _ us hl => match us, hl with | [_, _], _ => rfl) (b_Parser__read_in_string T) (pure_Parser__read_in_string K)
theorem sc_Parser__read_plain : FnScope N_Parser__read_plain ["self", "byte"] (defScope s_Parser__read_plain) := ⟨rfl, rfl, rfl, by decide +kernel, rfl, by decide +kernel, by decide +kernel⟩
theorem b_Parser__read_plain (T : Tx K mg) : PB.Body P w K mg base 3 N_Parser__read_plain "Parser._read_plain" s_Parser__read_plain (t_Parser__read_plain K) := by
  intro f cdv A outer s H E hr
  exact C8.pss_cut (ps_if (PB.pt_m (PB.op_mEq (PB.hu64 hr)) (PB.pe_ofld T.cls_Parser T.noat_Parser__state an_Parser_nd rfl (PB.pe_v 0) rfl) (PB.pe_gint rfl T.int_ESCAPE) (nomark _)) (pss_one (ps_ret (PB.pe_omt T.ok_Parser__read_in_escape hr (by decide) (by decide +kernel) (PB.pe_v 0) (pa_cons (PB.pe_v 1) (pa_nil))))) (pss_nil)) (
  C8.pss_cut (ps_if (PB.pt_m (PB.op_mEq (PB.hu64 hr)) (PB.pe_ofld T.cls_Parser T.noat_Parser__state an_Parser_nd rfl (PB.pe_v 0) rfl) (PB.pe_gint rfl T.int_SEQUENCE) (nomark _)) (pss_one (ps_ret (PB.pe_omt T.ok_Parser__read_in_sequence hr (by decide) (by decide +kernel) (PB.pe_v 0) (pa_cons (PB.pe_v 1) (pa_nil))))) (pss_nil)) (
  C8.pss_cut (ps_if (PB.pt_m (PB.op_mEq (PB.hu64 hr)) (PB.pe_ofld T.cls_Parser T.noat_Parser__state an_Parser_nd rfl (PB.pe_v 0) rfl) (PB.pe_gint rfl T.int_INTERMEDIATE) (nomark _)) (C8.pss_cut (ps_if (PB.pt_m PB.op_mGt (PB.pe_v 1) (pe_int) (nomark _)) (pss_one (PB.ps_oset T.cls_Parser T.noat_Parser__state an_Parser_nd rfl (by decide) (PB.pe_v 0) (PB.pe_gint rfl T.int_GROUND) rfl)) (pss_nil)) (
  pss_one (ps_ret (pe_non)))) (pss_nil)) (
  pss_one (ps_ret (pe_tup (pa_cons (pe_str) (pa_cons (PB.pe_v 1) (pa_nil))))))))
theorem Tx.ok_Parser__read_plain (T : Tx K mg) : C8.Met P w K mg base 4 (He.ga K "Parser") "_read_plain" (sp_Parser__read_plain K) [] := PB.met_ok (st := s_Parser__read_plain) (T.c.def_ 12 (d := d_Parser__read_plain) rfl) T.cls_Parser T.meth_Parser__read_plain sc_Parser__read_plain len_Parser__read_plain (fun _ _ _ _ _ _ us hl => match us, hl with | [_, _], _ => rfl) (b_Parser__read_plain T) (pure_Parser__read_plain K)
theorem sc_Parser__read : FnScope N_Parser__read ["self", "byte"] (defScope s_Parser__read) := ⟨rfl, rfl, rfl, by decide +kernel, rfl, by decide +kernel, by decide +kernel⟩
theorem b_Parser__read (T : Tx K mg) : PB.Body P w K mg base 4 N_Parser__read "Parser._read" s_Parser__read (t_Parser__read K) := by
  intro f cdv A outer s H E hr
  exact C8.pss_cut (ps_if (PW.pt (pw_or (PB.pt_m (PB.op_mEq (PB.hu64 hr)) (PB.pe_v 1) (pe_int) (nomark _)) (pw_or1 (PB.pt_m (PB.op_mEq (PB.hu64 hr)) (PB.pe_v 1) (pe_int) (nomark _))))) (pss_cons (PB.ps_oset T.cls_Parser T.noat_Parser__state an_Parser_nd rfl (by decide) (PB.pe_v 0) (PB.pe_gint rfl T.int_GROUND) rfl) (
  pss_one (ps_ret (pe_non)))) (pss_nil)) (
  C8.pss_cut (ps_if (PB.pt_m (PB.op_mEq (PB.hu64 hr)) (PB.pe_ofld T.cls_Parser T.noat_Parser__state an_Parser_nd rfl (PB.pe_v 0) rfl) (PB.pe_gint rfl T.int_STRING) (nomark _)) (pss_one (ps_ret (PB.pe_omt T.ok_Parser__read_in_string hr (by decide) (by decide +kernel) (PB.pe_v 0) (pa_cons (PB.pe_v 1) (pa_nil))))) (pss_nil)) (
  C8.pss_cut (ps_if (PB.pt_m (PB.op_mEq (PB.hu64 hr)) (PB.pe_ofld T.cls_Parser T.noat_Parser__state an_Parser_nd rfl (PB.pe_v 0) rfl) (PB.pe_gint rfl T.int_STRING_END) (nomark _)) (C8.pss_cut (ps_if (PB.pt_m (PB.op_mEq (PB.hu64 hr)) (PB.pe_v 1) (pe_int) (nomark _)) (pss_one (ps_ret (PB.pe_omt0 T.ok_Parser__end_string hr (by decide) (by decide +kernel) (PB.pe_v 0)))) (pss_nil)) (
  pss_one (PB.ps_oset T.cls_Parser T.noat_Parser__state an_Parser_nd rfl (by decide) (PB.pe_v 0) (PB.pe_gint rfl T.int_ESCAPE) rfl))) (pss_nil)) (
  C8.pss_cut (ps_if (PB.pt_m (PB.op_mEq (PB.hu64 hr)) (PB.pe_v 1) (pe_int) (nomark _)) (pss_cons (PB.ps_oset T.cls_Parser T.noat_Parser__state an_Parser_nd rfl (by decide) (PB.pe_v 0) (PB.pe_gint rfl T.int_ESCAPE) rfl) (
  pss_one (ps_ret (pe_non)))) (pss_nil)) (
  C8.pss_cut (ps_if (PB.pt_m PB.op_mLt (PB.pe_v 1) (pe_int) (nomark _)) (pss_one (ps_ret (pe_tup (pa_cons (pe_str) (pa_cons (PB.pe_v 1) (pa_nil)))))) (pss_nil)) (
  C8.pss_cut (ps_if (PB.pt_m (PB.op_mEq (PB.hu64 hr)) (PB.pe_v 1) (pe_int) (nomark _)) (pss_one (ps_ret (pe_non))) (pss_nil)) (
  C8.pss_cut (ps_if (PB.pt_m PB.op_mGt (PB.pe_v 1) (pe_int) (nomark _)) (pss_cons (PB.ps_oset T.cls_Parser T.noat_Parser__state an_Parser_nd rfl (by decide) (PB.pe_v 0) (PB.pe_gint rfl T.int_GROUND) rfl) (
  pss_one (ps_ret (PB.pe_omt T.ok_Parser__read_of_character hr (by decide) (by decide +kernel) (PB.pe_v 0) (pa_cons (PB.pe_v 1) (pa_nil)))))) (pss_nil)) (
  pss_one (ps_ret (PB.pe_omt T.ok_Parser__read_plain hr (by decide) (by decide +kernel) (PB.pe_v 0) (pa_cons (PB.pe_v 1) (pa_nil)))))))))))
theorem Tx.ok_Parser__read (T : Tx K mg) : C8.Met P w K mg base 5 (He.ga K "Parser") "_read" (sp_Parser__read K) [] := PB.met_ok (st := s_Parser__read) (T.c.def_ 13 (d := d_Parser__read) rfl) T.cls_Parser T.meth_Parser__read sc_Parser__read len_Parser__read (fun _ _ _ _ _ _ us hl => match us, hl with | [_, _], _ => rfl) (b_Parser__read T) (pure_Parser__read K)
theorem sc_Parser___init__ : FnScope N_Parser___init__ ["self"] (defScope s_Parser___init__) := ⟨rfl, rfl, rfl, by decide +kernel, rfl, by decide +kernel, by decide +kernel⟩
theorem b_Parser___init__ (T : Tx K mg) : PB.Body P w K mg base 0 N_Parser___init__ "Parser.__init__" s_Parser___init__ (t_Parser___init__ K) := by
  intro f cdv A outer s H E hr
  exact pss_cons (PB.ps_oset T.cls_Parser T.noat_Parser__state an_Parser_nd rfl (by decide) (PB.pe_v 0) (PB.pe_gint rfl T.int_GROUND) rfl) (
  pss_cons (PB.ps_oset T.cls_Parser T.noat_Parser__lacking an_Parser_nd rfl (by decide) (PB.pe_v 0) (pe_int) rfl) (
  pss_cons (PB.ps_oset T.cls_Parser T.noat_Parser__character an_Parser_nd rfl (by decide) (PB.pe_v 0) (pe_int) rfl) (
  pss_cons (PB.ps_oset T.cls_Parser T.noat_Parser__least an_Parser_nd rfl (by decide) (PB.pe_v 0) (pe_int) rfl) (
  pss_cons (PB.ps_oset T.cls_Parser T.noat_Parser__first an_Parser_nd rfl (by decide) (PB.pe_v 0) (pe_bl) rfl) (
  pss_cons (PB.ps_oset T.cls_Parser T.noat_Parser__valid an_Parser_nd rfl (by decide) (PB.pe_v 0) (pe_bl) rfl) (
  pss_cons (PB.ps_oset T.cls_Parser T.noat_Parser__private an_Parser_nd rfl (by decide) (PB.pe_v 0) (pe_int) rfl) (
  pss_cons (PB.ps_oset T.cls_Parser T.noat_Parser__ended an_Parser_nd rfl (by decide) (PB.pe_v 0) (pe_lst (pa_nil)) rfl) (
  pss_cons (PB.ps_oset T.cls_Parser T.noat_Parser__current an_Parser_nd rfl (by decide) (PB.pe_v 0) (pe_int) rfl) (
  pss_cons (PB.ps_oset T.cls_Parser T.noat_Parser__titled an_Parser_nd rfl (by decide) (PB.pe_v 0) (pe_bl) rfl) (
  pss_one (PB.ps_oset T.cls_Parser T.noat_Parser__kept an_Parser_nd rfl (by decide) (PB.pe_v 0) (pe_lst (pa_nil)) rfl)))))))))))
theorem Tx.mk_Parser (T : Tx K mg) : C8.Mak P w K mg base 1 "Parser" (He.ga K "Parser") (sp_Parser___init__ K) [] := PB.mak_ok (st := s_Parser___init__) (T.c.def_ 14 (d := d_Parser___init__) rfl) T.glo_Parser T.mkr_Parser sc_Parser___init__ len_Parser___init__ (fun _ _ _ _ _ _ us hl => match us, hl with | [_], _ => rfl) (b_Parser___init__ T) (pure_Parser___init__ K)
theorem sc_Parser_take : FnScope N_Parser_take ["self", "data"] (defScope s_Parser_take) := ⟨rfl, rfl, rfl, by decide +kernel, rfl, by decide +kernel, by decide +kernel⟩
theorem b_Parser_take (T : Tx K mg) : PB.Body P w K mg base 5 N_Parser_take "Parser.take" s_Parser_take (t_Parser_take K) := by
  intro f cdv A outer s H E hr
  exact pss_cons (ps_set (i := 2) sc_Parser_take.nd rfl (Or.inl rfl) (pe_lst (pa_nil))) (
  pss_cons (ps_for PassesOwn.never rfl (pi_list (PB.pe_v 1)) (pg_name (i := 3) sc_Parser_take.nd rfl (Or.inl rfl)) (C8.pss_cut (ps_if (PW.pt (pw_and (PB.pt_m PB.op_mGt (PB.pe_ofld T.cls_Parser T.noat_Parser__lacking an_Parser_nd rfl (PB.pe_v 0) rfl) (pe_int) (nomark _)) (pw_and1 (pt_not (PB.pt_mch PB.op_mLe PB.op_mLe (pe_int) (PB.pe_v 3) (pe_int)))))) (pss_cons (PB.ps_oset T.cls_Parser T.noat_Parser__lacking an_Parser_nd rfl (by decide) (PB.pe_v 0) (pe_int) rfl) (
  pss_one (ps_expr (PB.pe_mlm PySem.F.slot_list_append PySem.F.type_list_append PB.mt_mAppend (PB.pe_v 2) (pa_cons (pe_tup (pa_cons (pe_str) (pa_cons (PB.pe_gint rfl T.int_REPLACEMENT) (pa_nil)))) (pa_nil)))))) (pss_nil)) (
  pss_cons (ps_set (i := 4) sc_Parser_take.nd rfl (Or.inl rfl) (PB.pe_omt T.ok_Parser__read hr (by decide) (by decide +kernel) (PB.pe_v 0) (pa_cons (PB.pe_v 3) (pa_nil)))) (
  pss_one (ps_if (PB.pt_m PB.op_mNotN (PB.pe_v 4) pe_non (nomark _)) (pss_one (ps_expr (PB.pe_mlm PySem.F.slot_list_append PySem.F.type_list_append PB.mt_mAppend (PB.pe_v 2) (pa_cons (PB.pe_v 4) (pa_nil))))) (pss_nil)))))) (
  pss_one (ps_ret (PB.pe_v 2))))
theorem Tx.ok_Parser_take (T : Tx K mg) : C8.Met P w K mg base 6 (He.ga K "Parser") "take" (sp_Parser_take K) [] := PB.met_ok (st := s_Parser_take) (T.c.def_ 15 (d := d_Parser_take) rfl) T.cls_Parser T.meth_Parser_take sc_Parser_take len_Parser_take (fun _ _ _ _ _ _ us hl => match us, hl with | [_, _], _ => rfl) (b_Parser_take T) (pure_Parser_take K)
theorem sc_Parser_resting : FnScope N_Parser_resting ["self"] (defScope s_Parser_resting) := ⟨rfl, rfl, rfl, by decide +kernel, rfl, by decide +kernel, by decide +kernel⟩
theorem b_Parser_resting (T : Tx K mg) : PB.Body P w K mg base 0 N_Parser_resting "Parser.resting" s_Parser_resting (t_Parser_resting K) := by
  intro f cdv A outer s H E hr
  exact pss_one (ps_ret (PB.pe_mand (pe_cmpR (PB.op_mEq (PB.hu64 hr)) (PB.pe_ofld T.cls_Parser T.noat_Parser__state an_Parser_nd rfl (PB.pe_v 0) rfl) (PB.pe_gint rfl T.int_GROUND) (nomark _)) (pe_one (pe_cmpR (PB.op_mEq (PB.hu64 hr)) (PB.pe_ofld T.cls_Parser T.noat_Parser__lacking an_Parser_nd rfl (PB.pe_v 0) rfl) (pe_int) (nomark _)))))
theorem Tx.ok_Parser_resting (T : Tx K mg) : C8.Met P w K mg base 1 (He.ga K "Parser") "resting" (sp_Parser_resting K) [] := PB.met_ok (st := s_Parser_resting) (T.c.def_ 16 (d := d_Parser_resting) rfl) T.cls_Parser T.meth_Parser_resting sc_Parser_resting len_Parser_resting (fun _ _ _ _ _ _ us hl => match us, hl with | [_], _ => rfl) (b_Parser_resting T) (pure_Parser_resting K)
theorem sc_law_cell : FnScope N_law_cell ["script", "k"] (defScope s_law_cell) := ⟨rfl, rfl, rfl, by decide +kernel, rfl, by decide +kernel, by decide +kernel⟩
theorem b_law_cell (T : Tx K mg) : PB.Body P w K mg base 0 N_law_cell "_law_cell" s_law_cell (t_law_cell K) := by
  intro f cdv A outer s H E hr
  exact C8.pss_cut (ps_if (PB.pt_m PB.op_mLt (PB.pe_v 1) (pe_callB PB.call_mLen rfl T.free_len (by decide +kernel) (pa_cons (PB.pe_v 0) (pa_nil))) (nomark _)) (pss_one (ps_ret (pe_callTy PB.call_mInt rfl T.free_int (by decide +kernel) (pa_cons (pe_ix PB.ix_m (PB.pe_v 0) (PB.pe_v 1) (fun _ _ => rfl)) (pa_nil))))) (pss_nil)) (
  pss_one (ps_ret (pe_int)))
theorem Tx.ok_law_cell (T : Tx K mg) : C8.Cal P w K mg base 1 "_law_cell" (sp_law_cell K) [] := PB.cal_ok (st := s_law_cell) (T.c.def_ 17 (d := d_law_cell) rfl) T.glo__law_cell sc_law_cell len_law_cell (fun _ _ _ _ _ _ us hl => match us, hl with | [_, _], _ => rfl) (b_law_cell T) (pure_law_cell K)
theorem sc_law_row : FnScope N_law_row ["cell", "count", "bound"] (defScope s_law_row) := ⟨rfl, rfl, rfl, by decide +kernel, rfl, by decide +kernel, by decide +kernel⟩
theorem b_law_row (T : Tx K mg) : PB.Body P w K mg base 0 N_law_row "_law_row" s_law_row (t_law_row K) := by
  intro f cdv A outer s H E hr
  exact pss_cons (ps_set (i := 3) sc_law_row.nd rfl (Or.inl rfl) (pe_callB PB.call_mAbs rfl T.free_abs (by decide +kernel) (pa_cons (pe_callTy PB.call_mInt rfl T.free_int (by decide +kernel) (pa_cons (PB.pe_v 0) (pa_nil))) (pa_nil)))) (
  pss_cons (ps_set (i := 4) sc_law_row.nd rfl (Or.inl rfl) (pe_op PB.op_mAdd (pe_op PB.op_mMod (pe_callTy PB.call_mInt rfl T.free_int (by decide +kernel) (pa_cons (PB.pe_v 0) (pa_nil))) (pe_int)) (pe_int))) (
  pss_cons (ps_set (i := 5) sc_law_row.nd rfl (Or.inl rfl) (pe_lst (pa_nil))) (
  pss_cons (ps_for PassesOwn.never rfl (pi_range1 rfl T.free_range (pa_cons (PB.pe_v 1) (pa_nil))) (pg_name (i := 6) sc_law_row.nd rfl (Or.inl rfl)) (pss_one (ps_if (PB.pt_m PB.op_mGe (PB.pe_v 3) (PB.pe_v 2) (nomark _)) (pss_cons (ps_expr (PB.pe_mlm PySem.F.slot_list_append PySem.F.type_list_append PB.mt_mAppend (PB.pe_v 5) (pa_cons (pe_op PB.op_mMod (pe_callTy PB.call_mInt rfl T.free_int (by decide +kernel) (pa_cons (PB.pe_v 3) (pa_nil))) (PB.pe_v 2)) (pa_nil)))) (
  pss_one (ps_set (i := 3) sc_law_row.nd rfl (Or.inl rfl) (pe_op PB.op_mDiv (PB.pe_v 3) (PB.pe_v 2))))) (pss_cons (ps_set (i := 4) sc_law_row.nd rfl (Or.inl rfl) (pe_op PB.op_mMod (pe_callTy PB.call_mInt rfl T.free_int (by decide +kernel) (pa_cons (pe_op PB.op_mAdd (pe_op PB.op_mAdd (pe_op PB.op_mMul (PB.pe_v 4) (pe_int)) (pe_op PB.op_mMul (pe_int) (PB.pe_v 6))) (pe_int)) (pa_nil))) (pe_int))) (
  pss_one (ps_expr (PB.pe_mlm PySem.F.slot_list_append PySem.F.type_list_append PB.mt_mAppend (PB.pe_v 5) (pa_cons (pe_op PB.op_mMod (pe_callTy PB.call_mInt rfl T.free_int (by decide +kernel) (pa_cons (pe_op PB.op_mDiv (pe_op PB.op_mMul (PB.pe_v 4) (pe_int)) (pe_int)) (pa_nil))) (PB.pe_v 2)) (pa_nil))))))))) (
  pss_one (ps_ret (PB.pe_v 5))))))
theorem Tx.ok_law_row (T : Tx K mg) : C8.Cal P w K mg base 1 "_law_row" (sp_law_row K) [] := PB.cal_ok (st := s_law_row) (T.c.def_ 18 (d := d_law_row) rfl) T.glo__law_row sc_law_row len_law_row (fun _ _ _ _ _ _ us hl => match us, hl with | [_, _, _], _ => rfl) (b_law_row T) (pure_law_row K)
theorem sc_law_digits : FnScope N_law_digits ["number"] (defScope s_law_digits) := ⟨rfl, rfl, rfl, by decide +kernel, rfl, by decide +kernel, by decide +kernel⟩
theorem b_law_digits (T : Tx K mg) : PB.Body P w K mg base 0 N_law_digits "_law_digits" s_law_digits (t_law_digits K) := by
  intro f cdv A outer s H E hr
  exact pss_one (ps_ret (pe_lc (own := [("sign", 1)]) rfl sc_law_digits.nd (pi_str (pe_callTy PB.call_mStr rfl T.free_str (by decide +kernel) (pa_cons (PB.pe_v 0) (pa_nil)))) (blkOk_by (own := [("sign", 1)]) (N := N_law_digits) (sc := defScope s_law_digits) (by decide +kernel)) (fun _ _ _ _ _ => pg_name (i := 1) sc_law_digits.nd rfl (Or.inl rfl)) (fun _ _ _ _ _ => pts_nil) (fun _ _ _ _ _ => pe_callB PB.call_mOrd rfl T.free_ord (by decide +kernel) (pa_cons (PB.pe_v 1) (pa_nil)))))
theorem Tx.ok_law_digits (T : Tx K mg) : C8.Cal P w K mg base 1 "_law_digits" (sp_law_digits K) [] := PB.cal_ok (st := s_law_digits) (T.c.def_ 19 (d := d_law_digits) rfl) T.glo__law_digits sc_law_digits len_law_digits (fun _ _ _ _ _ _ us hl => match us, hl with | [_], _ => rfl) (b_law_digits T) (pure_law_digits K)
theorem sc_law_utf8 : FnScope N_law_utf8 ["point"] (defScope s_law_utf8) := ⟨rfl, rfl, rfl, by decide +kernel, rfl, by decide +kernel, by decide +kernel⟩
theorem b_law_utf8 (T : Tx K mg) : PB.Body P w K mg base 0 N_law_utf8 "_law_utf8" s_law_utf8 (t_law_utf8 K) := by
  intro f cdv A outer s H E hr
  exact C8.pss_cut (ps_if (PB.pt_m PB.op_mLt (PB.pe_v 0) (pe_int) (nomark _)) (pss_one (ps_ret (pe_lst (pa_cons (PB.pe_v 0) (pa_nil))))) (pss_nil)) (
  C8.pss_cut (ps_if (PB.pt_m PB.op_mLt (PB.pe_v 0) (pe_int) (nomark _)) (pss_one (ps_ret (pe_lst (pa_cons (pe_op PB.op_mAdd (pe_int) (pe_op PB.op_mDiv (PB.pe_v 0) (pe_int))) (pa_cons (pe_op PB.op_mAdd (pe_int) (pe_op PB.op_mMod (PB.pe_v 0) (pe_int))) (pa_nil)))))) (pss_nil)) (
  C8.pss_cut (ps_if (PB.pt_m PB.op_mLt (PB.pe_v 0) (pe_int) (nomark _)) (pss_one (ps_ret (pe_lst (pa_cons (pe_op PB.op_mAdd (pe_int) (pe_op PB.op_mDiv (PB.pe_v 0) (pe_int))) (pa_cons (pe_op PB.op_mAdd (pe_int) (pe_op PB.op_mMod (pe_op PB.op_mDiv (PB.pe_v 0) (pe_int)) (pe_int))) (pa_cons (pe_op PB.op_mAdd (pe_int) (pe_op PB.op_mMod (PB.pe_v 0) (pe_int))) (pa_nil))))))) (pss_nil)) (
  pss_one (ps_ret (pe_lst (pa_cons (pe_op PB.op_mAdd (pe_int) (pe_op PB.op_mDiv (PB.pe_v 0) (pe_int))) (pa_cons (pe_op PB.op_mAdd (pe_int) (pe_op PB.op_mMod (pe_op PB.op_mDiv (PB.pe_v 0) (pe_int)) (pe_int))) (pa_cons (pe_op PB.op_mAdd (pe_int) (pe_op PB.op_mMod (pe_op PB.op_mDiv (PB.pe_v 0) (pe_int)) (pe_int))) (pa_cons (pe_op PB.op_mAdd (pe_int) (pe_op PB.op_mMod (PB.pe_v 0) (pe_int))) (pa_nil))))))))))
theorem Tx.ok_law_utf8 (T : Tx K mg) : C8.Cal P w K mg base 1 "_law_utf8" (sp_law_utf8 K) [] := PB.cal_ok (st := s_law_utf8) (T.c.def_ 20 (d := d_law_utf8) rfl) T.glo__law_utf8 sc_law_utf8 len_law_utf8 (fun _ _ _ _ _ _ us hl => match us, hl with | [_], _ => rfl) (b_law_utf8 T) (pure_law_utf8 K)
theorem sc_law_sequence : FnScope N_law_sequence ["x", "finals", "most"] (defScope s_law_sequence) := ⟨rfl, rfl, rfl, by decide +kernel, rfl, by decide +kernel, by decide +kernel⟩
theorem b_law_sequence (T : Tx K mg) : PB.Body P w K mg base 1 N_law_sequence "_law_sequence" s_law_sequence (t_law_sequence K) := by
  intro f cdv A outer s H E hr
  exact pss_cons (ps_set (i := 3) sc_law_sequence.nd rfl (Or.inl rfl) (pe_op PB.op_mAdd (pe_lst (pa_cons (pe_int) (pa_cons (pe_int) (pa_nil)))) (PB.pe_mc T.ok_law_digits hr (by decide) rfl (pa_cons (pe_op PB.op_mMod (PB.pe_v 0) (PB.pe_v 2)) (pa_nil))))) (
  C8.pss_cut (ps_if (PB.pt_m (PB.op_mEq (PB.hu64 hr)) (pe_op PB.op_mMod (pe_op PB.op_mDiv (PB.pe_v 0) (PB.pe_v 2)) (pe_int)) (pe_int) (nomark _)) (pss_one (ps_set (i := 3) sc_law_sequence.nd rfl (Or.inl rfl) (pe_op PB.op_mAdd (pe_op PB.op_mAdd (PB.pe_v 3) (pe_lst (pa_cons (pe_int) (pa_nil)))) (PB.pe_mc T.ok_law_digits hr (by decide) rfl (pa_cons (pe_op PB.op_mMod (pe_op PB.op_mDiv (PB.pe_v 0) (pe_int)) (PB.pe_v 2)) (pa_nil)))))) (pss_nil)) (
  C8.pss_cut (ps_if (PB.pt_m (PB.op_mEq (PB.hu64 hr)) (pe_op PB.op_mMod (pe_op PB.op_mDiv (PB.pe_v 0) (pe_int)) (pe_int)) (pe_int) (nomark _)) (pss_one (ps_set (i := 3) sc_law_sequence.nd rfl (Or.inl rfl) (pe_lst (pa_cons (pe_int) (pa_cons (pe_int) (pa_nil)))))) (pss_nil)) (
  pss_one (ps_ret (pe_op PB.op_mAdd (PB.pe_v 3) (pe_lst (pa_cons (pe_ix PB.ix_m (PB.pe_v 1) (pe_op PB.op_mMod (pe_op PB.op_mDiv (PB.pe_v 0) (pe_int)) (pe_callB PB.call_mLen rfl T.free_len (by decide +kernel) (pa_cons (PB.pe_v 1) (pa_nil)))) (fun _ _ => rfl)) (pa_nil))))))))
theorem Tx.ok_law_sequence (T : Tx K mg) : C8.Cal P w K mg base 2 "_law_sequence" (sp_law_sequence K) [] := PB.cal_ok (st := s_law_sequence) (T.c.def_ 21 (d := d_law_sequence) rfl) T.glo__law_sequence sc_law_sequence len_law_sequence (fun _ _ _ _ _ _ us hl => match us, hl with | [_, _, _], _ => rfl) (b_law_sequence T) (pure_law_sequence K)
theorem sc_law_token : FnScope N_law_token ["kind", "x"] (defScope s_law_token) := ⟨rfl, rfl, rfl, by decide +kernel, rfl, by decide +kernel, by decide +kernel⟩
theorem b_law_token (T : Tx K mg) : PB.Body P w K mg base 2 N_law_token "_law_token" s_law_token (t_law_token K) := by
  intro f cdv A outer s H E hr
  exact pss_cons (ps_set (i := 2) sc_law_token.nd rfl (Or.inl rfl) (pe_lst (pa_cons (pe_int) (pa_cons (pe_int) (pa_cons (pe_int) (pa_cons (pe_int) (pa_cons (pe_int) (pa_cons (pe_int) (pa_cons (pe_int) (pa_cons (pe_int) (pa_cons (pe_int) (pa_cons (pe_int) (pa_cons (pe_int) (pa_cons (pe_int) (pa_nil))))))))))))))) (
  pss_cons (ps_set (i := 3) sc_law_token.nd rfl (Or.inl rfl) (pe_lst (pa_cons (pe_int) (pa_cons (pe_int) (pa_cons (pe_int) (pa_cons (pe_int) (pa_cons (pe_int) (pa_cons (pe_int) (pa_cons (pe_int) (pa_nil)))))))))) (
  pss_cons (ps_set (i := 4) sc_law_token.nd rfl (Or.inl rfl) (pe_lst (pa_cons (pe_int) (pa_cons (pe_int) (pa_cons (pe_int) (pa_cons (pe_int) (pa_cons (pe_int) (pa_cons (pe_int) (pa_nil))))))))) (
  pss_cons (ps_set (i := 5) sc_law_token.nd rfl (Or.inl rfl) (pe_lst (pa_cons (pe_int) (pa_cons (pe_int) (pa_cons (pe_int) (pa_cons (pe_int) (pa_cons (pe_int) (pa_cons (pe_int) (pa_cons (pe_int) (pa_cons (pe_int) (pa_cons (pe_int) (pa_nil)))))))))))) (
  C8.pss_cut (ps_if (PB.pt_m PB.op_mLt (PB.pe_v 0) (pe_int) (nomark _)) (pss_one (ps_ret (pe_op PB.op_mMul (pe_lst (pa_cons (pe_op PB.op_mAdd (pe_int) (pe_op PB.op_mMod (PB.pe_v 1) (pe_int))) (pa_nil))) (pe_op PB.op_mAdd (pe_int) (pe_op PB.op_mMod (pe_op PB.op_mDiv (PB.pe_v 1) (pe_int)) (pe_int)))))) (pss_nil)) (
  C8.pss_cut (ps_if (PB.pt_m (PB.op_mEq (PB.hu64 hr)) (PB.pe_v 0) (pe_int) (nomark _)) (pss_one (ps_ret (PB.pe_mc T.ok_law_utf8 hr (by decide) rfl (pa_cons (pe_op PB.op_mAdd (pe_ix PB.ix_m (pe_lst (pa_cons (pe_int) (pa_cons (pe_int) (pa_cons (pe_int) (pa_cons (pe_int) (pa_nil)))))) (pe_op PB.op_mMod (PB.pe_v 1) (pe_int)) (fun _ _ => rfl)) (pe_op PB.op_mMod (pe_op PB.op_mDiv (PB.pe_v 1) (pe_int)) (pe_int))) (pa_nil))))) (pss_nil)) (
  C8.pss_cut (ps_if (PB.pt_m (PB.op_mEq (PB.hu64 hr)) (PB.pe_v 0) (pe_int) (nomark _)) (pss_one (ps_ret (PB.pe_mc T.ok_law_utf8 hr (by decide) rfl (pa_cons (pe_op PB.op_mAdd (pe_int) (pe_op PB.op_mMod (PB.pe_v 1) (pe_int))) (pa_nil))))) (pss_nil)) (
  C8.pss_cut (ps_if (PB.pt_m (PB.op_mEq (PB.hu64 hr)) (PB.pe_v 0) (pe_int) (nomark _)) (pss_one (ps_ret (pe_lst (pa_cons (pe_ix PB.ix_m (pe_lst (pa_cons (pe_int) (pa_cons (pe_int) (pa_cons (pe_int) (pa_cons (pe_int) (pa_cons (pe_int) (pa_cons (pe_int) (pa_cons (pe_int) (pa_cons (pe_int) (pa_nil)))))))))) (pe_op PB.op_mMod (PB.pe_v 1) (pe_int)) (fun _ _ => rfl)) (pa_nil))))) (pss_nil)) (
  C8.pss_cut (ps_if (PB.pt_m (PB.op_mEq (PB.hu64 hr)) (PB.pe_v 0) (pe_int) (nomark _)) (pss_one (ps_ret (PB.pe_mc T.ok_law_sequence hr (by decide) rfl (pa_cons (PB.pe_v 1) (pa_cons (PB.pe_v 2) (pa_cons (pe_int) (pa_nil))))))) (pss_nil)) (
  C8.pss_cut (ps_if (PB.pt_m (PB.op_mEq (PB.hu64 hr)) (PB.pe_v 0) (pe_int) (nomark _)) (pss_one (ps_ret (PB.pe_mc T.ok_law_sequence hr (by decide) rfl (pa_cons (PB.pe_v 1) (pa_cons (PB.pe_v 3) (pa_cons (pe_int) (pa_nil))))))) (pss_nil)) (
  C8.pss_cut (ps_if (PB.pt_m (PB.op_mEq (PB.hu64 hr)) (PB.pe_v 0) (pe_int) (nomark _)) (pss_one (ps_ret (PB.pe_mc T.ok_law_sequence hr (by decide) rfl (pa_cons (PB.pe_v 1) (pa_cons (PB.pe_v 4) (pa_cons (pe_int) (pa_nil))))))) (pss_nil)) (
  C8.pss_cut (ps_if (PB.pt_m (PB.op_mEq (PB.hu64 hr)) (PB.pe_v 0) (pe_int) (nomark _)) (pss_one (ps_ret (PB.pe_mc T.ok_law_sequence hr (by decide) rfl (pa_cons (PB.pe_v 1) (pa_cons (PB.pe_v 5) (pa_cons (pe_int) (pa_nil))))))) (pss_nil)) (
  C8.pss_cut (ps_if (PB.pt_m (PB.op_mEq (PB.hu64 hr)) (PB.pe_v 0) (pe_int) (nomark _)) (pss_one (ps_ret (pe_op PB.op_mAdd (pe_op PB.op_mAdd (pe_lst (pa_cons (pe_int) (pa_cons (pe_int) (pa_cons (pe_int) (pa_nil))))) (PB.pe_mc T.ok_law_digits hr (by decide) rfl (pa_cons (pe_ix PB.ix_m (pe_lst (pa_cons (pe_int) (pa_cons (pe_int) (pa_cons (pe_int) (pa_cons (pe_int) (pa_cons (pe_int) (pa_cons (pe_int) (pa_nil)))))))) (pe_op PB.op_mMod (PB.pe_v 1) (pe_int)) (fun _ _ => rfl)) (pa_nil)))) (pe_lst (pa_cons (pe_op PB.op_mAdd (pe_int) (pe_op PB.op_mMul (pe_int) (pe_op PB.op_mMod (pe_op PB.op_mDiv (PB.pe_v 1) (pe_int)) (pe_int)))) (pa_nil)))))) (pss_nil)) (
  C8.pss_cut (ps_if (PB.pt_m (PB.op_mEq (PB.hu64 hr)) (PB.pe_v 0) (pe_int) (nomark _)) (pss_one (ps_ret (pe_lst (pa_cons (pe_int) (pa_cons (pe_ix PB.ix_m (pe_lst (pa_cons (pe_int) (pa_cons (pe_int) (pa_cons (pe_int) (pa_cons (pe_int) (pa_cons (pe_int) (pa_cons (pe_int) (pa_cons (pe_int) (pa_cons (pe_int) (pa_nil)))))))))) (pe_op PB.op_mMod (PB.pe_v 1) (pe_int)) (fun _ _ => rfl)) (pa_nil)))))) (pss_nil)) (
  C8.pss_cut (ps_if (PB.pt_m (PB.op_mEq (PB.hu64 hr)) (PB.pe_v 0) (pe_int) (nomark _)) (pss_cons (ps_set (i := 6) sc_law_token.nd rfl (Or.inl rfl) (pe_ix PB.ix_m (pe_lst (pa_cons (pe_int) (pa_cons (pe_int) (pa_cons (pe_int) (pa_cons (pe_int) (pa_cons (pe_int) (pa_cons (pe_int) (pa_cons (pe_int) (pa_cons (pe_int) (pa_cons (pe_int) (pa_cons (pe_int) (pa_cons (pe_int) (pa_cons (pe_int) (pa_cons (pe_int) (pa_cons (pe_int) (pa_cons (pe_int) (pa_cons (pe_int) (pa_nil)))))))))))))))))) (pe_op PB.op_mMod (PB.pe_v 1) (pe_int)) (fun _ _ => rfl))) (
  pss_one (ps_ret (pe_op PB.op_mAdd (pe_op PB.op_mAdd (pe_op PB.op_mAdd (pe_op PB.op_mAdd (pe_lst (pa_cons (pe_int) (pa_cons (pe_int) (pa_nil)))) (PB.pe_mc T.ok_law_digits hr (by decide) rfl (pa_cons (PB.pe_v 6) (pa_nil)))) (pe_lst (pa_cons (pe_int) (pa_cons (pe_int) (pa_cons (pe_int) (pa_nil)))))) (PB.pe_mc T.ok_law_digits hr (by decide) rfl (pa_cons (pe_op PB.op_mMod (pe_op PB.op_mDiv (PB.pe_v 1) (pe_int)) (pe_int)) (pa_nil)))) (pe_lst (pa_cons (pe_int) (pa_nil))))))) (pss_nil)) (
  C8.pss_cut (ps_if (PB.pt_m (PB.op_mEq (PB.hu64 hr)) (PB.pe_v 0) (pe_int) (nomark _)) (pss_one (ps_ret (pe_op PB.op_mAdd (pe_op PB.op_mAdd (pe_lst (pa_cons (pe_int) (pa_cons (pe_int) (pa_cons (pe_op PB.op_mAdd (pe_int) (pe_op PB.op_mMod (PB.pe_v 1) (pe_int))) (pa_cons (pe_int) (pa_nil)))))) (pe_op PB.op_mMul (pe_lst (pa_cons (pe_op PB.op_mAdd (pe_int) (pe_op PB.op_mMod (pe_op PB.op_mDiv (PB.pe_v 1) (pe_int)) (pe_int))) (pa_nil))) (pe_op PB.op_mMod (pe_op PB.op_mDiv (PB.pe_v 1) (pe_int)) (pe_int)))) (pe_ix PB.ix_m (pe_lst (pa_cons (pe_lst (pa_cons (pe_int) (pa_nil))) (pa_cons (pe_lst (pa_cons (pe_int) (pa_cons (pe_int) (pa_nil)))) (pa_nil)))) (pe_op PB.op_mMod (pe_op PB.op_mDiv (PB.pe_v 1) (pe_int)) (pe_int)) (fun _ _ => rfl))))) (pss_nil)) (
  pss_one (ps_ret (pe_lst (pa_cons (pe_op PB.op_mMod (PB.pe_v 1) (pe_int)) (pa_cons (pe_op PB.op_mMod (pe_op PB.op_mDiv (PB.pe_v 1) (pe_int)) (pe_int)) (pa_cons (pe_op PB.op_mMod (pe_op PB.op_mDiv (PB.pe_v 1) (pe_int)) (pe_int)) (pa_nil))))))))))))))))))))))
theorem Tx.ok_law_token (T : Tx K mg) : C8.Cal P w K mg base 3 "_law_token" (sp_law_token K) [] := PB.cal_ok (st := s_law_token) (T.c.def_ 22 (d := d_law_token) rfl) T.glo__law_token sc_law_token len_law_token (fun _ _ _ _ _ _ us hl => match us, hl with | [_, _], _ => rfl) (b_law_token T) (pure_law_token K)
theorem sc_law_stream : FnScope N_law_stream ["cells", "kinds"] (defScope s_law_stream) := ⟨rfl, rfl, rfl, by decide +kernel, rfl, by decide +kernel, by decide +kernel⟩
theorem b_law_stream (T : Tx K mg) : PB.Body P w K mg base 3 N_law_stream "_law_stream" s_law_stream (t_law_stream K) := by
  intro f cdv A outer s H E hr
  exact pss_cons (ps_set (i := 2) sc_law_stream.nd rfl (Or.inl rfl) (pe_lst (pa_nil))) (
  pss_cons (ps_for PassesOwn.never rfl (pi_list (PB.pe_v 0)) (pg_name (i := 3) sc_law_stream.nd rfl (Or.inl rfl)) (pss_cons (ps_set (i := 4) sc_law_stream.nd rfl (Or.inl rfl) (PB.pe_mc T.ok_law_row hr (by decide) rfl (pa_cons (PB.pe_v 3) (pa_cons (pe_int) (pa_cons (pe_int) (pa_nil)))))) (
  pss_one (ps_for PassesOwn.never rfl (pi_range1 rfl T.free_range (pa_cons (pe_int) (pa_nil))) (pg_name (i := 5) sc_law_stream.nd rfl (Or.inl rfl)) (pss_one (ps_set (i := 2) sc_law_stream.nd rfl (Or.inl rfl) (pe_op PB.op_mAdd (PB.pe_v 2) (PB.pe_mc T.ok_law_token hr (by decide) rfl (pa_cons (pe_ix PB.ix_m (PB.pe_v 1) (pe_op PB.op_mMod (pe_ix PB.ix_m (PB.pe_v 4) (pe_op PB.op_mMul (pe_int) (PB.pe_v 5)) (fun _ _ => rfl)) (pe_callB PB.call_mLen rfl T.free_len (by decide +kernel) (pa_cons (PB.pe_v 1) (pa_nil)))) (fun _ _ => rfl)) (pa_cons (pe_ix PB.ix_m (PB.pe_v 4) (pe_op PB.op_mAdd (pe_op PB.op_mMul (pe_int) (PB.pe_v 5)) (pe_int)) (fun _ _ => rfl)) (pa_nil))))))))))) (
  pss_one (ps_ret (PB.pe_v 2))))
theorem Tx.ok_law_stream (T : Tx K mg) : C8.Cal P w K mg base 4 "_law_stream" (sp_law_stream K) [] := PB.cal_ok (st := s_law_stream) (T.c.def_ 23 (d := d_law_stream) rfl) T.glo__law_stream sc_law_stream len_law_stream (fun _ _ _ _ _ _ us hl => match us, hl with | [_, _], _ => rfl) (b_law_stream T) (pure_law_stream K)
theorem sc_law_cuts : FnScope N_law_cuts ["data", "cells"] (defScope s_law_cuts) := ⟨rfl, rfl, rfl, by decide +kernel, rfl, by decide +kernel, by decide +kernel⟩
theorem b_law_cuts (T : Tx K mg) : PB.Body P w K mg base 0 N_law_cuts "_law_cuts" s_law_cuts (t_law_cuts K) := by
  intro f cdv A outer s H E hr
  exact pss_cons (ps_set (i := 2) sc_law_cuts.nd rfl (Or.inl rfl) (pe_callB cr_sorted rfl T.free_sorted (by decide +kernel) (pa_cons (pe_lc (own := [("cell", 6)]) rfl sc_law_cuts.nd (pi_list (PB.pe_v 1)) (blkOk_by (own := [("cell", 6)]) (N := N_law_cuts) (sc := defScope s_law_cuts) (by decide +kernel)) (fun _ _ _ _ _ => pg_name (i := 6) sc_law_cuts.nd rfl (Or.inl rfl)) (fun _ _ _ _ _ => pts_nil) (fun _ _ _ _ _ => pe_op PB.op_mMod (pe_callTy PB.call_mInt rfl T.free_int (by decide +kernel) (pa_cons (PB.pe_v 6) (pa_nil))) (pe_op PB.op_mAdd (pe_callB PB.call_mLen rfl T.free_len (by decide +kernel) (pa_cons (PB.pe_v 0) (pa_nil))) (pe_int)))) (pa_nil)))) (
  pss_cons (ps_set (i := 3) sc_law_cuts.nd rfl (Or.inl rfl) (pe_lst (pa_nil))) (
  pss_cons (ps_set (i := 4) sc_law_cuts.nd rfl (Or.inl rfl) (pe_int)) (
  pss_cons (ps_for PassesOwn.never rfl (pi_list (PB.pe_v 2)) (pg_name (i := 5) sc_law_cuts.nd rfl (Or.inl rfl)) (pss_cons (ps_expr (PB.pe_mlm PySem.F.slot_list_append PySem.F.type_list_append PB.mt_mAppend (PB.pe_v 3) (pa_cons (pe_slice PB.sl_m (PB.pe_v 0) (PB.po_m (PB.pe_v 4)) (PB.po_m (PB.pe_v 5))) (pa_nil)))) (
  pss_one (ps_set (i := 4) sc_law_cuts.nd rfl (Or.inl rfl) (PB.pe_v 5))))) (
  pss_cons (ps_expr (PB.pe_mlm PySem.F.slot_list_append PySem.F.type_list_append PB.mt_mAppend (PB.pe_v 3) (pa_cons (pe_slice PB.sl_m (PB.pe_v 0) (PB.po_m (PB.pe_v 4)) (po_none)) (pa_nil)))) (
  pss_one (ps_ret (PB.pe_v 3)))))))
theorem Tx.ok_law_cuts (T : Tx K mg) : C8.Cal P w K mg base 1 "_law_cuts" (sp_law_cuts K) [] := PB.cal_ok (st := s_law_cuts) (T.c.def_ 24 (d := d_law_cuts) rfl) T.glo__law_cuts sc_law_cuts len_law_cuts (fun _ _ _ _ _ _ us hl => match us, hl with | [_, _], _ => rfl) (b_law_cuts T) (pure_law_cuts K)
theorem sc_law : FnScope N_law ["script"] (defScope s_law) := ⟨rfl, rfl, rfl, by decide +kernel, rfl, by decide +kernel, by decide +kernel⟩
theorem b_law (T : Tx K mg) : PB.Body P w K mg base 6 N_law "law" s_law (t_law K) := by
  intro f cdv A outer s H E hr
  exact pss_cons (ps_set (i := 1) sc_law.nd rfl (Or.inl rfl) (PB.pe_mc T.ok_law_stream hr (by decide) rfl (pa_cons (pe_slice PB.sl_m (PB.pe_v 0) (po_none) (PB.po_m (pe_int))) (pa_cons (pe_lst (pa_cons (pe_int) (pa_cons (pe_int) (pa_cons (pe_int) (pa_cons (pe_int) (pa_cons (pe_int) (pa_cons (pe_int) (pa_cons (pe_int) (pa_cons (pe_int) (pa_cons (pe_int) (pa_cons (pe_int) (pa_cons (pe_int) (pa_cons (pe_int) (pa_nil)))))))))))))) (pa_nil))))) (
  pss_cons (ps_set (i := 2) sc_law.nd rfl (Or.inl rfl) (PB.pe_mc T.ok_law_cuts hr (by decide) rfl (pa_cons (PB.pe_v 1) (pa_cons (pe_slice PB.sl_m (PB.pe_v 0) (PB.po_m (pe_int)) (PB.po_m (pe_int))) (pa_nil))))) (
  pss_cons (ps_set (i := 3) sc_law.nd rfl (Or.inl rfl) (PB.pe_mmk0 T.mk_Parser hr (by decide) rfl)) (
  pss_cons (ps_set (i := 4) sc_law.nd rfl (Or.inl rfl) (PB.pe_omt T.ok_Parser_take hr (by decide) (by decide +kernel) (PB.pe_v 3) (pa_cons (pe_callTy PB.call_mList rfl T.free_list (by decide +kernel) (pa_cons (PB.pe_v 1) (pa_nil))) (pa_nil)))) (
  pss_cons (ps_set (i := 5) sc_law.nd rfl (Or.inl rfl) (PB.pe_mmk0 T.mk_Parser hr (by decide) rfl)) (
  pss_cons (ps_set (i := 6) sc_law.nd rfl (Or.inl rfl) (PB.pe_mmk0 T.mk_Parser hr (by decide) rfl)) (
  pss_cons (ps_set (i := 7) sc_law.nd rfl (Or.inl rfl) (pe_lst (pa_nil))) (
  pss_cons (ps_for PassesOwn.never rfl (pi_list (PB.pe_v 2)) (pg_name (i := 8) sc_law.nd rfl (Or.inl rfl)) (pss_cons (ps_set (i := 9) sc_law.nd rfl (Or.inl rfl) (PB.pe_omt T.ok_Parser_take hr (by decide) (by decide +kernel) (PB.pe_v 5) (pa_cons (pe_callTy PB.call_mList rfl T.free_list (by decide +kernel) (pa_cons (PB.pe_v 8) (pa_nil))) (pa_nil)))) (
  pss_cons (ps_set (i := 7) sc_law.nd rfl (Or.inl rfl) (pe_op PB.op_mAdd (PB.pe_v 7) (PB.pe_v 9))) (
  pss_cons (ps_expr (PB.pe_mlm PySem.F.slot_list_append PySem.F.type_list_append PB.mt_mAppend (PB.pe_v 9) (pa_cons (pe_tup (pa_cons (pe_str) (pa_cons (pe_int) (pa_nil)))) (pa_nil)))) (
  pss_one (ps_expr (PB.pe_omt T.ok_Parser_take hr (by decide) (by decide +kernel) (PB.pe_v 6) (pa_cons (pe_lst (pa_cons (pe_int) (pa_cons (pe_int) (pa_cons (pe_int) (pa_cons (pe_int) (pa_cons (pe_int) (pa_nil))))))) (pa_nil))))))))) (
  pss_one (ps_ret (PB.pe_mand (pe_cmpR (PB.op_mEq (PB.hu64 hr)) (PB.pe_v 7) (PB.pe_v 4) (nomark _)) (pe_one (pe_cmpR (PB.op_mEq (PB.hu64 hr)) (PB.pe_omt0 T.ok_Parser_resting hr (by decide) (by decide +kernel) (PB.pe_v 5)) (PB.pe_omt0 T.ok_Parser_resting hr (by decide) (by decide +kernel) (PB.pe_v 3)) (nomark _)))))))))))))
theorem Tx.ok_law (T : Tx K mg) : C8.Cal P w K mg base 7 "law" (sp_law K) [] := PB.cal_ok (st := s_law) (T.c.def_ 25 (d := d_law) rfl) T.glo_law sc_law len_law (fun _ _ _ _ _ _ us hl => match us, hl with | [_], _ => rfl) (b_law T) (pure_law K)
end
def loose0 : List PySem.Str := ["is_point", "GROUND", "ESCAPE", "INTERMEDIATE", "SEQUENCE", "STRING", "STRING_END", "REPLACEMENT", "LARGEST_NUMBER", "MOST_NUMBERS", "LONGEST_STRING", "LONGEST_TITLE", "Parser", "_law_cell", "_law_row", "_law_integer", "_law_octets", "_law_digits", "_law_utf8", "_law_sequence", "_law_token", "_law_stream", "_law_cuts"]
def loose : List PySem.Str := loose0
abbrev Rw : PySem.W.OpenRow := PySem.W.OpenLaw.row PySem.Challenge.rw_manypanes_k04_cut_bytes_give_the_same_ac
abbrev hk : PySem.W.Hook := PB.hookP 6 fa fn ex
def ob (s : PySem.W.SharedT) : PB.AlP := PB.obsP 6 fa fn ex (HandSHeadRun.getT s)
theorem ob_is (s : PySem.W.SharedT) : ob s = hk.obs s.abs := PB.obsP_eq (HandSHeadRun.getT_eq s)
theorem runs (w : World) : HandSHeadRun.RunEq Rw (PySem.W.view Rw.prog [26]) hk ob 6000 loose w := by
  intro os
  kernel_rfl
theorem last {P : Program} {w : World} {K : PySem.W.Frag} {h : Heap} {mg : Str → Option Value} {f : Addr} (X : K.In h) (G : h.Ns mainGlobals mg) (hfa : mg ("law" : Str) = some (.ref f)) (c : He.SaysD fa fn K) (x : ex K = true) :
    ∃ fd : FuncData, (∀ (s : Shared) (v : Value), BindsTo s fd ⟨[v], []⟩ [("script", v)]) ∧ ∀ base : Heap, K.In base → base.Ns mainGlobals mg → FnOk P w K mg base CX0 7 f fd ["script"] (sp_law K) := by
  have T : Tx K mg := ⟨c, x, h, X, G⟩
  obtain ⟨fd, F⟩ := c.def_ 25 (d := d_law) rfl
  have e := hfa.symm.trans T.glo_law
  cases e
  have b := FunD.bindsA (ps := ["script"]) F fun _ _ _ _ _ _ us hl => match us, hl with | [_], _ => rfl
  exact ⟨fd, fun s v => b s [v] rfl, fun base _ _ => PB.fn_ok F sc_law len_law (b_law T) (pure_law K)⟩
end PG
open PySem PySem.W PySem.Calls PyProof.Rows
set_option maxHeartbeats 0 in
theorem PySem.Challenge.cw_manypanes_k04_cut_bytes_give_the_same_ac_holds : PySem.Challenge.rw_manypanes_k04_cut_bytes_give_the_same_ac.Holds := by
  w_on; o_law
  refine HandSHeadRun.head_any (r := PG.Rw) (q := PySem.W.view PG.Rw.prog [26]) (H := PG.hk) (ob := PG.ob) (M := 6000) (loose := PG.loose) (d := HandSHeadRun.topDef PG.Rw.prog 26) (kwd := []) PG.ob_is
    (by kernel_rfl) (fun s => by kernel_rfl) PG.runs (by kernel_rfl) (by kernel_rfl) (by kernel_rfl) (by rfl) (by first | assumption | decide +kernel) (by decide +kernel) ⟨rfl, rfl, rfl, rfl, rfl, by decide +kernel⟩ ?hw ?hc
  case hw => w_witness2
  case hc =>
    refine L2.walk_ofE (l := PySem.Challenge.rw_manypanes_k04_cut_bytes_give_the_same_ac) (n := 63) (k := 7) (x := "script") (CX := L2.CX0) rfl (by decide) (by kernel_rfl) ⟨rfl, by decide, by decide⟩ ?F (fun _ _ _ _ z => z)
    intro w mg fa h Y G hmg0
    obtain ⟨K, KX, c, x⟩ := Y
    have hmg : mg ("law" : PySem.Str) = some (.ref fa) := by
      have e : (HandSHeadRun.topDef PG.Rw.prog 26).name = ("law" : PySem.Str) := by kernel_rfl
      rw [← e]
      exact hmg0
    obtain ⟨fd, hb, hF⟩ := PG.last (P := (PySem.Challenge.rw_manypanes_k04_cut_bytes_give_the_same_ac).prog) (w := w) KX G hmg c x
    exact ⟨K, fd, PG.sp_law K, KX, hb, fun H a ns hl _ hS => ⟨a, ns, rfl, hS, hl, fun _ => rfl⟩, hF⟩
namespace PG
end PG
