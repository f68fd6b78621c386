import PyProof.Rows.All
import Wide.All
import OpenK.AllK
import Wide.FinOn
import HandS.ForMost
import HandS.Codes
import HandS.Deep
import HandS.Wide
import HandS.TupAny
import HandS.CallRecv
import HandS.IsInst
import HandS.Flow
import HandS.Conv
import HandS.More
import HandS.HeadEnd
import HandS.HeadHook2
import PyProof.P3In
import HandS.Head0
import HandS.Head1
import HandS.Head2
import HandS.Style
import HandS.Iter
import HandS.Zip
import HandS.FStr
import HandS.Defaults
import HandS.MakeKwOnly
import HandS.SortInts
import PyProof.AutoSeq1
import KE.GoesEnum
import HandS.Exc
import HandS.ExcOwn
import HandS.RaiseMore
import HandS.WordsExc
import HandS.ExcIs
import HandS.TryOnly
import PySem.Challenge.RW_manypanes_k25_whole_layouts_tile_the_are
set_option Elab.async false
set_option linter.all false
set_option maxRecDepth 100000
set_option autoImplicit false
set_option maxHeartbeats 4000000
set_option maxRecDepth 100000
set_option autoImplicit false
set_option maxHeartbeats 4000000
namespace PB
open PySem PySem.Spec PyProof.Rows L2
open C8 (Cal Mak Met pe_c pe_mk pe_mt pe_mt0 tCut pss_cut)
/-! ### rules joined: the way is picked by the values -/
def orR (r r' : R2) : R2 := fun x y H Q => r x y H Q ∨ r' x y H Q
theorem or_op {X : Cx} {f : Value → Value → Sem Value} {r r' : R2} (h : OpR X f r) (h' : OpR X f r') : OpR X f (orR r r') := by
  intro pins s σ H x y v u Q I rx ry q
  rcases q with q | q
  · exact h pins s σ H x y v u Q I rx ry q
  · exact h' pins s σ H x y v u Q I rx ry q
abbrev rAddI : R2 := rI0 fun i j => .int (i + j)
abbrev rSubI : R2 := rI0 fun i j => .int (i - j)
abbrev rMulI : R2 := rI CMulW fun i j => .int (i * j)
abbrev rDivI : R2 := rI CDivW fun i j => .int (i / j)
abbrev rModI : R2 := rI (fun _ j => 0 < j) fun i j => .int (i % j)
/-! ### readings by match: they run by simp where the values are known -/
def mVar (i : Nat) : TE := fun σ H Q => match σ[i]? with
  | some (some v) => Q v H
  | _ => False
def mAdd (K : PySem.W.Frag) : R2 := fun x y H Q => match x, y with
  | .int i, .int j => Q (.int (i + j)) H
  | .ref a, .ref b => rCat (.ref a) (.ref b) H Q ∨ rCatA K (.ref a) (.ref b) H Q
  | _, _ => False
def mSub : R2 := fun x y H Q => match x, y with
  | .int i, .int j => Q (.int (i - j)) H
  | _, _ => False
def mMul : R2 := fun x y H Q => match x, y with
  | .int i, .int j => CMulW i j ∧ Q (.int (i * j)) H
  | .ref a, .int j => rRep (.ref a) (.int j) H Q
  | _, _ => False
def mDiv : R2 := fun x y H Q => match x, y with
  | .int i, .int j => CDivW i j ∧ Q (.int (i / j)) H
  | _, _ => False
def mMod : R2 := fun x y H Q => match x, y with
  | .int i, .int j => 0 < j ∧ Q (.int (i % j)) H
  | _, _ => False
def mPow : R2 := fun x y H Q => match x, y with
  | .int i, .int j => CPow i j ∧ Q (.int (i ^ j.toNat)) H
  | _, _ => False
def mNeg : V → Hp → VK → Prop := fun x H Q => match x with
  | .int i => Q (.int (-i)) H
  | _ => False
def mLt : R2 := fun x y H Q => match x, y with
  | .int i, .int j => Q (.bl (decide (i < j))) H
  | _, _ => False
def mLe : R2 := fun x y H Q => match x, y with
  | .int i, .int j => Q (.bl (decide (i ≤ j))) H
  | _, _ => False
def mGt : R2 := fun x y H Q => match x, y with
  | .int i, .int j => Q (.bl (decide (j < i))) H
  | _, _ => False
def mGe : R2 := fun x y H Q => match x, y with
  | .int i, .int j => Q (.bl (decide (j ≤ i))) H
  | _, _ => False
def mEq (K : PySem.W.Frag) : R2 := fun x y H Q => match x, y with
  | .int i, .int j => Q (.bl (decide (i = j))) H
  | .bl i, .bl j => Q (.bl (decide (i = j))) H
  | .str i, .str j => Q (.bl (decide (i = j))) H
  | .ref a, .ref b => rEqD K (.ref a) (.ref b) H Q
  | x, y => rEq x y H Q ∨ rEqD K x y H Q
def mNe (K : PySem.W.Frag) : R2 := fun x y H Q => match x, y with
  | .int i, .int j => Q (.bl (!decide (i = j))) H
  | .bl i, .bl j => Q (.bl (!decide (i = j))) H
  | .str i, .str j => Q (.bl (!decide (i = j))) H
  | .ref a, .ref b => rNeD K (.ref a) (.ref b) H Q
  | x, y => rNe x y H Q ∨ rNeD K x y H Q
/-- in a tuple of data -/
def rInT (K : PySem.W.Frag) (neg : Bool) : R2 := fun x y H Q => ∃ d ds, Dp K H x d ∧ Dp K H y (.tuple ds) ∧ SeqAt.shaped d = true ∧ SeqAt.shaped (.tuple ds) = true ∧ Q (.bl (if neg then !(ds.any fun z => PyData.eqv z d) else ds.any fun z => PyData.eqv z d)) H
def mIn (K : PySem.W.Frag) : R2 := fun x y H Q => rIn K false x y H Q ∨ rInD K x y H Q ∨ rInT K false x y H Q
def mNotIn (K : PySem.W.Frag) : R2 := fun x y H Q => rIn K true x y H Q ∨ rNotInD K x y H Q ∨ rInT K true x y H Q
def mIsN : R2 := fun x y H Q => match y with
  | .non => Q (.bl (decide (x = .non))) H
  | _ => False
def mNotN : R2 := fun x y H Q => match y with
  | .non => Q (.bl (!decide (x = .non))) H
  | _ => False
def mIx (K : PySem.W.Frag) : R2 := fun x y H Q => match x, y with
  | .ref p, .int i => ∃ xs v, (SqL K H p xs ∨ SqT K H p xs) ∧ atI xs i = some v ∧ Q v H
  | _, _ => False
def kTest (Q : Bool → Hp → Prop) : VK := fun x H' => match x with
  | .bl k => Q k H'
  | _ => False
def mTest (t : TE) : TT := fun σ H Q => t σ H (kTest Q)
def mChain (r r' : R2) (ta tb tc : TE) : TE := fun σ H Q => ta σ H fun x H1 => tb σ H1 fun y H2 => r x y H2 fun z H3 => match z with
  | .bl k => if k = true then tc σ H3 fun u H4 => r' y u H4 Q else Q (.bl false) H3
  | _ => False
def kTru (K : PySem.W.Frag) (Q : Bool → Hp → Prop) : VK := fun x H' => match x with
  | .bl k => Q k H'
  | .int i => Q (!decide (i = 0)) H'
  | .non => Q false H'
  | .ref a => ∃ k, TruV K (.ref a) H' k ∧ Q k H'
  | _ => False
def mTru (K : PySem.W.Frag) (ta : TE) : TT := fun σ H Q => ta σ H (kTru K Q)
def mAndV (ta tb : TE) : TE := fun σ H Q => ta σ H fun x H1 => match x with
  | .bl k => if k = true then tb σ H1 Q else Q (.bl false) H1
  | _ => False
def mOrV (ta tb : TE) : TE := fun σ H Q => ta σ H fun x H1 => match x with
  | .bl k => if k = true then Q (.bl true) H1 else tb σ H1 Q
  | _ => False
def mNotV (ta : TE) : TE := fun σ H Q => ta σ H fun x H1 => match x with
  | .bl k => Q (.bl (!k)) H1
  | _ => False
abbrev R1 := List V → Hp → VK → Prop
def mAbs : R1 := fun xs H Q => match xs with
  | [.int i] => Q (.int (if i < 0 then -i else i)) H
  | _ => False
def mMax2 : R1 := fun xs H Q => match xs with
  | [.int i, .int j] => Q (.int (max i j)) H
  | _ => False
def mMin2 : R1 := fun xs H Q => match xs with
  | [.int i, .int j] => Q (.int (min i j)) H
  | _ => False
def mInt : R1 := fun xs H Q => match xs with
  | [.int i] => Q (.int i) H
  | [.bl k] => Q (.int (if k then 1 else 0)) H
  | _ => False
def mBool : R1 := fun xs H Q => match xs with
  | [.int i] => Q (.bl (!decide (i = 0))) H
  | [.bl k] => Q (.bl k) H
  | _ => False
def mStr : R1 := fun xs H Q => match xs with
  | [.int i] => i.natAbs.log2 < 1920 ∧ Q (.str (toString i)) H
  | _ => False
def mOrd : R1 := fun xs H Q => match xs with
  | [.str x] => x.length = 1 ∧ Q (.int (x.cps.getD 0 0 : Nat)) H
  | _ => False
def mLen (K : PySem.W.Frag) : R1 := fun xs H Q => match xs with
  | [.ref p] => ∃ ys, (SqL K H p ys ∨ SqT K H p ys) ∧ Q (.int ys.length) H
  | _ => False
def mList (K : PySem.W.Frag) : R1 := fun xs H Q => match xs with
  | [.ref p] => ∃ ys, (SqL K H p ys ∨ SqT K H p ys) ∧ ∀ l, H l = none → Q (.ref l) (upd H l (.lst ys))
  | _ => False
def mTup (K : PySem.W.Frag) : R1 := fun xs H Q => match xs with
  | [.ref p] => ∃ ys, (SqL K H p ys ∧ ∀ l, H l = none → Q (.ref l) (upd H l (.tup ys))) ∨ (SqT K H p ys ∧ Q (.ref p) H)
  | _ => False
def mSl (K : PySem.W.Frag) : V → Option Int → Option Int → Hp → VK → Prop := fun x lo hi H Q => rSlL K x lo hi H Q ∨ rSlA K x lo hi H Q
def mFld (K : PySem.W.Frag) (ta : TE) (f : Str) : TE := fun σ H Q => ta σ H fun x H1 => match x with
  | .ref a => (match H1 a with
    | some (.ins C _ fs) => (match fs.lookup f with
      | some v => (Cls K C ∧ NoAttr K C f) ∧ Q v H1
      | none => False)
    | _ => False)
  | _ => False
def mSFld (K : PySem.W.Frag) (ta tv : TE) (f : Str) : TS := fun D σ H => tv σ H fun y H1 => ta σ H1 fun x H2 => match x with
  | .ref a => (match H2 a with
    | some (.ins C dx fs) => (Cls K C ∧ NoAttr K C f ∧ fs.length < 1000) ∧ D.nx σ (upd H2 a (.ins C dx (putF f y fs)))
    | _ => False)
  | _ => False
def mFldAug (K : PySem.W.Frag) (ta tv : TE) (g : Int → Int → Int) (f : Str) : TS := fun D σ H => ta σ H fun x H1 => match x with
  | .ref a => (match H1 a with
    | some (.ins C _ fs) => (match fs.lookup f with
      | some (.int i) => (Cls K C ∧ NoAttr K C f) ∧ tv σ H1 fun y H2 => (match y with
        | .int j => (match H2 a with
          | some (.ins C' dx' fs') => (C' = C ∧ fs'.length < 1000) ∧ D.nx σ (upd H2 a (.ins C dx' (putF f (.int (g i j)) fs')))
          | _ => False)
        | _ => False)
      | _ => False)
    | _ => False)
  | _ => False
def mAug (i : Nat) (te : TE) (g : Int → Int → Int) : TS := fun D σ H => match σ[i]? with
  | some (some (.int x)) => te σ H fun y H1 => (match y with
    | .int z => D.nx (σ.set i (some (.int (g x z)))) H1
    | _ => False)
  | _ => False
def mDGet (td ty : TE) : TE := fun σ H Q => td σ H fun x H1 => ty σ H1 fun y H2 => match x, y with
  | .ref a, .str s => (match H2 a with
    | some (.dK kvs) => (match valV kvs (.inr s) with
      | some v => Q v H2
      | none => False)
    | _ => False)
  | _, _ => False
def mDPut (td ty tv : TE) : TS := fun D σ H => tv σ H fun v H1 => td σ H1 fun x H2 => ty σ H2 fun y H3 => match x, y with
  | .ref a, .str s => (match H3 a with
    | some (.dK kvs) => kvs.length < sizeLine ∧ D.nx σ (upd H3 a (.dK (putK kvs (.inr s) v)))
    | _ => False)
  | _, _ => False
def mMeth (C : Addr) (m : Str) (sp : Sp) (ta : TE) (t : TA) : TE := fun σ H Q => ta σ H fun x H1 => match x with
  | .ref a => (match H1 a with
    | some (.ins D _ fs) => (D = C ∧ fs.lookup m = none) ∧ t σ H1 fun vs H2 => sp (.ref a :: vs) H2 Q E0
    | _ => False)
  | _ => False
def mCall (sp : Sp) (t : TA) : TE := fun σ H Q => t σ H fun vs H1 => sp vs H1 Q E0
def mMake (C : Addr) (sp : Sp) (t : TA) : TE := fun σ H Q => t σ H fun vs H1 => ∀ x dx, H1 x = none → H1 dx = none → dx ≠ x →
  sp (.ref x :: vs) (upd (upd H1 dx (.own x)) x (.ins C dx [])) (fun v H2 => v = .non ∧ Q (.ref x) H2) E0
def mTup0 (t : TA) : TE := fun σ H Q => t σ H fun xs H1 => xs.length ≤ sizeLine ∧ ∀ p, H1 p = none → Q (.ref p) (upd H1 p (.tup xs))
def mAppend : V → List V → Hp → VK → Prop := fun x vs H Q => match x, vs with
  | .ref l, [y] => (match H l with
    | some (.lst xs) => xs.length < sizeLine ∧ Q .non (upd H l (.lst (xs ++ [y])))
    | _ => False)
  | _, _ => False
/-- a list's method; the receiver is a list that stands in H -/
def mLM (r : V → List V → Hp → VK → Prop) (to : TE) (t : TA) : TE := fun σ H Q => to σ H fun x H1 => match x with
  | .ref l => (match H1 l with
    | some (.lst _) => t σ H1 fun xs H2 => r (.ref l) xs H2 Q
    | _ => False)
  | _ => False
def mSet : TSet := fun o i v H Q => match o, i with
  | .ref p, .int k => (match H p with
    | some (.lst xs) => (match ixN xs.length k with
      | some j => Q (upd H p (.lst (xs.set j v)))
      | none => False)
    | _ => False)
  | _, _ => False
def mPart (t : TE) : TO := fun σ H Q => t σ H fun x H1 => match x with
  | .int i => Q (some i) H1
  | _ => False
abbrev rInsert : V → List V → Hp → VK → Prop := fun x vs H Q => ∃ (l : Addr) (xs : List V) (i : Int) (y : V), x = .ref l ∧ vs = [.int i, y] ∧ H l = some (.lst xs) ∧ xs.length < sizeLine ∧ 0 ≤ i ∧ i < 2 ^ 63 ∧
  Q .non (upd H l (.lst (xs.take i.toNat ++ [y] ++ xs.drop i.toNat)))
theorem hu64 {A : Around} {k : Nat} (hr : Room k A) : A.units + 64 < cLine := by have := hr.un; omega
theorem hu65 {A : Around} {k : Nat} (hr : Room k A) : A.units + 65 < cLine := by have := hr.un; omega
section
variable {X : Cx}
theorem PE_imp {e : Expr} {t t' : TE} (h : PE X e t) (i : ∀ σ H Q, t' σ H Q → t σ H Q) : PE X e t' := ⟨fun pins s σ H Q I q => h.run pins s σ H Q I (i _ _ _ q)⟩
theorem PT_imp {e : Expr} {t t' : TT} (h : PT X e t) (i : ∀ σ H Q, t' σ H Q → t σ H Q) : PT X e t' := ⟨fun pins s σ H Q I q => h.run pins s σ H Q I (i _ _ _ q)⟩
theorem PA_imp {es : List Expr} {t t' : TA} (h : PA X es t) (i : ∀ σ H Q, t' σ H Q → t σ H Q) : PA X es t' := ⟨fun pos pins s σ H Q I q => h.run pos pins s σ H Q I (i _ _ _ q)⟩
theorem PS_imp {e : Stmt} {t t' : TS} (h : PS X e t) (i : ∀ D σ H, t' D σ H → t D σ H) : PS X e t' := ⟨fun pins s σ H D I q => h.run pins s σ H D I (i _ _ _ q)⟩
theorem op_imp {f : Value → Value → Sem Value} {r r' : R2} (h : OpR X f r) (i : ∀ x y H Q, r' x y H Q → r x y H Q) : OpR X f r' := fun pins s σ H x y v u Q I rx ry q => h pins s σ H x y v u Q I rx ry (i _ _ _ _ q)
theorem call_imp {f : Value} {r r' : R1} (h : CallR X f r) (i : ∀ x H Q, r' x H Q → r x H Q) : CallR X f r' := fun pins s σ H xs us Q I rx q => h pins s σ H xs us Q I rx (i _ _ _ q)
theorem ix_imp {r r' : R2} (h : IxR X r) (i : ∀ x y H Q, r' x y H Q → r x y H Q) : IxR X r' := fun a b pins s σ H x y v u Q I rx ry q hs => h a b pins s σ H x y v u Q I rx ry (i _ _ _ _ q) hs
theorem un_imp {f : Value → Sem Value} {r r' : V → Hp → VK → Prop} (h : UnR X f r) (i : ∀ x H Q, r' x H Q → r x H Q) : UnR X f r' := fun pins s σ H x v Q I rx q => h pins s σ H x v Q I rx (i _ _ _ q)
theorem mt_imp {id : String} {r r' : V → List V → Hp → VK → Prop} (h : MtR X id r) (i : ∀ x vs H Q, r' x vs H Q → r x vs H Q) : MtR X id r' := fun pins s σ H x xs v us Q I rx rs q => h pins s σ H x xs v us Q I rx rs (i _ _ _ _ q)
theorem op_mAdd : OpR X (binaryOp .Add) (mAdd X.K) := op_imp (or_op op_add (or_op op_cat op_catA)) fun x y H Q h => by
  cases x <;> cases y <;> first | exact h.elim | exact .inl ⟨_, _, rfl, rfl, h⟩ | exact .inr h
theorem op_mSub : OpR X (binaryOp .Sub) mSub := op_imp op_sub fun x y H Q h => by
  cases x <;> cases y <;> first | exact h.elim | exact ⟨_, _, rfl, rfl, h⟩
theorem op_mMul : OpR X (binaryOp .Mult) mMul := op_imp (or_op op_mulW op_rep) fun x y H Q h => by
  cases x <;> cases y <;> first | exact h.elim | exact .inl ⟨_, _, rfl, rfl, h.1, h.2⟩ | exact .inr h
theorem op_mDiv : OpR X (binaryOp .FloorDiv) mDiv := op_imp op_fdivW fun x y H Q h => by
  cases x <;> cases y <;> first | exact h.elim | exact ⟨_, _, rfl, rfl, h.1, h.2⟩
theorem op_mMod : OpR X (binaryOp .Mod) mMod := op_imp op_mod fun x y H Q h => by
  cases x <;> cases y <;> first | exact h.elim | exact ⟨_, _, rfl, rfl, h.1, h.2⟩
theorem op_mPow : OpR X (binaryOp .Pow) mPow := op_imp op_pow fun x y H Q h => by
  cases x <;> cases y <;> first | exact h.elim | exact ⟨_, _, rfl, rfl, h.1, h.2⟩
theorem un_mNeg : UnR X (unaryOp .USub) mNeg := un_imp un_neg fun x H Q h => by
  cases x <;> first | exact h.elim | exact ⟨_, rfl, h⟩
theorem op_mLt : OpR X (compareOp .Lt) mLt := op_imp op_lt fun x y H Q h => by
  cases x <;> cases y <;> first | exact h.elim | exact ⟨_, _, rfl, rfl, h⟩
theorem op_mLe : OpR X (compareOp .LtE) mLe := op_imp op_le fun x y H Q h => by
  cases x <;> cases y <;> first | exact h.elim | exact ⟨_, _, rfl, rfl, h⟩
theorem op_mGt : OpR X (compareOp .Gt) mGt := op_imp op_gt fun x y H Q h => by
  cases x <;> cases y <;> first | exact h.elim | exact ⟨_, _, rfl, rfl, h⟩
theorem op_mGe : OpR X (compareOp .GtE) mGe := op_imp op_ge fun x y H Q h => by
  cases x <;> cases y <;> first | exact h.elim | exact ⟨_, _, rfl, rfl, h⟩
theorem dInt {i j : Int} : decide (V.int i = V.int j) = decide (i = j) := by simp
theorem dBl {i j : Bool} : decide (V.bl i = V.bl j) = decide (i = j) := by simp
theorem dStr {i j : Str} : decide (V.str i = V.str j) = decide (i = j) := by simp
theorem op_mEq (hu : X.A.units + 64 < cLine) : OpR X (compareOp .Eq) (mEq X.K) := op_imp (or_op op_eq (op_eqD hu)) fun x y H Q h => by
  cases x <;> cases y <;> first | exact h | exact .inl ⟨rfl, by rw [dInt]; exact h⟩ | exact .inl ⟨rfl, by rw [dBl]; exact h⟩ | exact .inl ⟨rfl, by rw [dStr]; exact h⟩ | exact .inr h
theorem op_mNe (hu : X.A.units + 64 < cLine) : OpR X (compareOp .NotEq) (mNe X.K) := op_imp (or_op op_ne (op_neD hu)) fun x y H Q h => by
  cases x <;> cases y <;> first | exact h | exact .inl ⟨rfl, by rw [dInt]; exact h⟩ | exact .inl ⟨rfl, by rw [dBl]; exact h⟩ | exact .inl ⟨rfl, by rw [dStr]; exact h⟩ | exact .inr h
theorem op_inT (hu : X.A.units + 65 < cLine) : OpR X (compareOp .In) (rInT X.K false) := by
  intro pins s σ H x y v u Q I rx ry h
  obtain ⟨d, ds, hd, he, sd, se, q⟩ := h
  obtain ⟨as, r1⟩ := Dp.reads I d x v hd rx
  obtain ⟨bs, r2⟩ := Dp.reads I (.tuple ds) y u he ry
  exact SeqAt.in_tuple_reads r2 r1 (SeqAt.canLay_of_shaped se) (SeqAt.canLay_of_shaped sd) (room_in_shaped sd hu) ⟨.bl _, H, I, rfl, q⟩
theorem op_notInT (hu : X.A.units + 65 < cLine) : OpR X (compareOp .NotIn) (rInT X.K true) := by
  intro pins s σ H x y v u Q I rx ry h
  obtain ⟨d, ds, hd, he, sd, se, q⟩ := h
  obtain ⟨as, r1⟩ := Dp.reads I d x v hd rx
  obtain ⟨bs, r2⟩ := Dp.reads I (.tuple ds) y u he ry
  exact SeqAt.notIn_tuple_reads r2 r1 (SeqAt.canLay_of_shaped se) (SeqAt.canLay_of_shaped sd) (room_in_shaped sd hu) ⟨.bl _, H, I, rfl, q⟩
theorem op_mIn (hu : X.A.units + 65 < cLine) : OpR X (compareOp .In) (mIn X.K) := or_op op_in_seq (or_op (op_inD hu) (op_inT hu))
theorem op_mNotIn (hu : X.A.units + 65 < cLine) : OpR X (compareOp .NotIn) (mNotIn X.K) := or_op op_notIn_seq (or_op (op_notInD hu) (op_notInT hu))
theorem op_mIsN : OpR X (compareOp .Is) mIsN := op_imp op_isN fun x y H Q h => by
  cases y <;> first | exact h.elim | exact ⟨rfl, h⟩
theorem op_mNotN : OpR X (compareOp .IsNot) mNotN := op_imp op_notN fun x y H Q h => by
  cases y <;> first | exact h.elim | exact ⟨rfl, h⟩
theorem ix_m : IxR X (mIx X.K) := ix_imp ix_seq fun x y H Q h => by
  cases x <;> cases y <;> try exact h.elim
  obtain ⟨xs, v, h1 | h1, h2, h3⟩ := h
  · exact .inl ⟨_, xs, _, v, rfl, rfl, h1, h2, h3⟩
  · exact .inr (.inl ⟨_, xs, _, v, rfl, rfl, h1, h2, h3⟩)
theorem call_mAbs : CallR X (.builtin "abs") mAbs := call_imp call_abs fun xs H Q h => by
  unfold mAbs at h; split at h
  · exact ⟨_, rfl, h⟩
  · exact h.elim
theorem call_mMax2 (hc : X.calm = true) : CallR X (.builtin "max") mMax2 := call_imp (call_max2 hc) fun xs H Q h => by
  unfold mMax2 at h; split at h
  · rename_i i j
    have e : max i j = if j > i then j else i := by rw [Int.max_def]; split <;> split <;> omega
    rw [e] at h
    exact ⟨_, _, rfl, h⟩
  · exact h.elim
theorem call_mMin2 (hc : X.calm = true) : CallR X (.builtin "min") mMin2 := call_imp (call_min2 hc) fun xs H Q h => by
  unfold mMin2 at h; split at h
  · rename_i i j
    have e : min i j = if j < i then j else i := by rw [Int.min_def]; split <;> split <;> omega
    rw [e] at h
    exact ⟨_, _, rfl, h⟩
  · exact h.elim
theorem call_mInt : CallR X (.type "int") mInt := call_imp call_int1 fun xs H Q h => by
  unfold mInt at h; split at h
  · exact .inl ⟨_, rfl, h⟩
  · exact .inr ⟨_, rfl, h⟩
  · exact h.elim
theorem call_mBool : CallR X (.type "bool") mBool := call_imp call_bool1 fun xs H Q h => by
  unfold mBool at h; split at h
  · rename_i i
    have e : (i != 0) = !decide (i = 0) := by simp [bne]; rfl
    exact .inl ⟨_, rfl, by rw [e]; exact h⟩
  · exact .inr ⟨_, rfl, h⟩
  · exact h.elim
theorem call_mStr : CallR X (.type "str") mStr := call_imp call_str_int fun xs H Q h => by
  unfold mStr at h; split at h
  · exact ⟨_, rfl, h⟩
  · exact h.elim
theorem call_mOrd : CallR X (.builtin "ord") mOrd := call_imp call_ord fun xs H Q h => by
  unfold mOrd at h; split at h
  · exact ⟨_, rfl, h⟩
  · exact h.elim
theorem call_mLen : CallR X (.builtin "len") (mLen X.K) := call_imp call_len_seq fun xs H Q h => by
  unfold mLen at h; split at h
  · obtain ⟨ys, h1, h2⟩ := h
    exact ⟨_, ys, rfl, h1, h2⟩
  · exact h.elim
theorem call_mList : CallR X (.type "list") (mList X.K) := call_imp call_list_of fun xs H Q h => by
  unfold mList at h; split at h
  · obtain ⟨ys, h1, h2⟩ := h
    exact ⟨_, ys, rfl, h1, h2⟩
  · exact h.elim
theorem call_mTup : CallR X (.type "tuple") (mTup X.K) := call_imp call_tuple_of fun xs H Q h => by
  unfold mTup at h; split at h
  · obtain ⟨ys, h1⟩ := h
    exact ⟨_, ys, rfl, h1⟩
  · exact h.elim
theorem sl_m : SlR X (mSl X.K) := sl_list.or sl_tupA
theorem mt_mAppend : MtR X "list.append" mAppend := mt_imp mt_append fun x vs H Q h => by
  unfold mAppend at h; split at h
  · split at h
    · rename_i e
      exact ⟨_, _, _, rfl, rfl, e, h.1, h.2⟩
    · exact h.elim
  · exact h.elim
theorem mt_insert' : MtR X "list.insert" rInsert := mt_insert
variable {e a b c o value : Expr} {es : List Expr} {ta tb tc tv : TE} {t : TA} {pos pos' apos cpos tpos : Pos} {x f m : Str}
theorem pe_v (i : Nat) (hN : X.N[i]? = some x := by rfl) (hv : Vis X.env.scope x := by first | exact Or.inl rfl | exact Or.inr (Or.inl rfl) | exact Or.inr (Or.inr rfl)) (hd : (x == ("__debug__" : Str)) = false := by decide)
    (hcd : (x == ("__classdict__" : Str)) = false := by decide) : PE X (.Name x pos) (mVar i) := PE_imp (pv i hN hv hd hcd) fun σ H Q h => by
  unfold mVar at h; split at h
  · rename_i v e; exact ⟨v, e, h⟩
  · exact h.elim
theorem pe_gint {i : Int} (hg : Gl X x) (hm : ∃ t, X.mg x = some (.int i t)) (hd : (x == ("__debug__" : Str)) = false := by decide) : PE X (.Name x pos) (tC (.int i)) := by
  obtain ⟨t, hm⟩ := hm
  exact pe_glob hg hm ⟨t, rfl⟩ hd
theorem pt_m {op : CmpOp} {r : R2} (ho : OpR X (compareOp op) r) (ha : PE X a ta) (hb : PE X b tb) (hm : behindInMarks op b = false) : PT X (.Compare a [op] [b] pos) (mTest (tOp r ta tb)) := by
  refine ⟨fun pins s σ H Q I h => ?_⟩
  refine wpAny_isTrue_Compare1 (thn (ha.run pins s σ H _ I h) fun v s1 ⟨x, H1, I1, r1, q1⟩ => thn (hb.run pins s1 σ H1 _ I1 q1) fun u s2 ⟨y, H2, I2, r2, q2⟩ =>
    thn (ho pins s2 σ H2 x y v u _ I2 r1 r2 q2) fun c s3 ⟨z, H3, I3, r3, q3⟩ => ?_) hm
  cases z with
  | bl k =>
    cases r3
    exact wpAny_truthy_bool ⟨H3, I3, q3⟩
  | _ => exact q3.elim
theorem pe_mch {op op' : CmpOp} {r r' : R2} (ho : OpR X (compareOp op) r) (ho' : OpR X (compareOp op') r') (ha : PE X a ta) (hb : PE X b tb) (hc : PE X c tc)
    (hm : lastMarks [op, op'] [b, c] = false := by with_unfolding_all rfl) : PE X (.Compare a [op, op'] [b, c] pos) (mChain r r' ta tb tc) := by
  refine ⟨fun pins s σ H Q I h => ?_⟩
  refine Compare_chain (thn (ha.run pins s σ H _ I h) fun v s1 ⟨x, H1, I1, r1, q1⟩ => chain_link (thn (hb.run pins s1 σ H1 _ I1 q1) fun u s2 ⟨y, H2, I2, r2, q2⟩ =>
    thn (ho pins s2 σ H2 x y v u _ I2 r1 r2 q2) fun d s3 ⟨z, H3, I3, r3, q3⟩ => ?_)) hm
  cases z with
  | bl k =>
    cases r3
    refine wpAny_truthy_bool ?_
    cases k with
    | false => exact ite_ff ⟨.bl false, H3, I3, rfl, q3⟩
    | true => exact ite_tt (chain_last (thn (hc.run pins s3 σ H3 _ I3 q3) fun w' s4 ⟨z', H4, I4, r4, q4⟩ => ho' pins s4 σ H4 y z' u w' Q I4 r2 r4 q4))
  | _ => exact q3.elim
theorem pt_mch {op op' : CmpOp} {r r' : R2} (ho : OpR X (compareOp op) r) (ho' : OpR X (compareOp op') r') (ha : PE X a ta) (hb : PE X b tb) (hc : PE X c tc)
    (hm : lastMarks [op, op'] [b, c] = false := by with_unfolding_all rfl) : PT X (.Compare a [op, op'] [b, c] pos) (mTest (mChain r r' ta tb tc)) := by
  refine ⟨fun pins s σ H Q I h => ?_⟩
  refine isTrue_chain (thn (ha.run pins s σ H _ I h) fun v s1 ⟨x, H1, I1, r1, q1⟩ => test_link (thn (hb.run pins s1 σ H1 _ I1 q1) fun u s2 ⟨y, H2, I2, r2, q2⟩ =>
    thn (ho pins s2 σ H2 x y v u _ I2 r1 r2 q2) fun d s3 ⟨z, H3, I3, r3, q3⟩ => ?_)) hm
  cases z with
  | bl k =>
    cases r3
    refine wpAny_truthy_bool ?_
    cases k with
    | false => exact ite_ff ⟨H3, I3, q3⟩
    | true =>
      refine ite_tt (test_last (thn (hc.run pins s3 σ H3 _ I3 q3) fun w' s4 ⟨z', H4, I4, r4, q4⟩ => thn (ho' pins s4 σ H4 y z' u w' _ I4 r2 r4 q4) fun d' s5 ⟨z2, H5, I5, r5, q5⟩ => ?_))
      cases z2 with
      | bl k2 =>
        cases r5
        exact wpAny_truthy_bool ⟨H5, I5, q5⟩
      | _ => exact q5.elim
  | _ => exact q3.elim
theorem pt_tru (ha : PE X a ta) (he : ∀ whole, isTrue a X.env whole = (do let v ← whole; standAt a.pos; holding [v] (truthy v)) := by intro _; rfl) : PT X a (mTru X.K ta) := by
  refine ⟨fun pins s σ H Q I h => ?_⟩
  refine isTrue_plain (thn (ha.run pins s σ H _ I h) fun v s1 ⟨x, H1, I1, r1, q1⟩ => ?_) (he _)
  refine tru_ok pins s1 σ H1 x v Q I1 r1 ?_
  cases x with
  | bl k => exact ⟨k, rfl, q1⟩
  | int i =>
    have e : (i != 0) = !decide (i = 0) := by simp [bne]; rfl
    exact ⟨_, rfl, e ▸ q1⟩
  | non => exact ⟨_, rfl, q1⟩
  | ref p => exact q1
  | _ => exact q1.elim
theorem pe_mand {rest : List Expr} (ha : PE X a ta) (hb : PE X (.BoolOp .And (b :: rest) pos) tb) : PE X (.BoolOp .And (a :: b :: rest) pos) (mAndV ta tb) := by
  refine ⟨fun pins s σ H Q I h => ?_⟩
  refine BoolOp_and (thn (ha.run pins s σ H _ I h) fun v s1 ⟨x, H1, I1, r1, q1⟩ => ?_)
  cases x with
  | bl k =>
    cases r1
    refine wpAny_truthy_bool ?_
    cases k with
    | true => exact hb.run pins s1 σ H1 Q I1 q1
    | false => exact ⟨.bl false, H1, I1, rfl, q1⟩
  | _ => exact q1.elim
theorem pe_mor {rest : List Expr} (ha : PE X a ta) (hb : PE X (.BoolOp .Or (b :: rest) pos) tb) : PE X (.BoolOp .Or (a :: b :: rest) pos) (mOrV ta tb) := by
  refine ⟨fun pins s σ H Q I h => ?_⟩
  refine BoolOp_or (thn (ha.run pins s σ H _ I h) fun v s1 ⟨x, H1, I1, r1, q1⟩ => ?_)
  cases x with
  | bl k =>
    cases r1
    refine wpAny_truthy_bool ?_
    cases k with
    | true => exact ⟨.bl true, H1, I1, rfl, q1⟩
    | false => exact hb.run pins s1 σ H1 Q I1 q1
  | _ => exact q1.elim
theorem pe_mfld (ha : PE X a ta) (hb : attributeBase a f X.env (eval a X.env) = eval a X.env) : PE X (.Attribute a f pos) (mFld X.K ta f) := by
  refine ⟨fun pins s σ H Q I h => ?_⟩
  refine attr_of hb (thn (ha.run pins s σ H _ I h) fun u s1 ⟨x, H1, I1, rx, q⟩ => ?_)
  cases x with
  | ref p =>
    obtain rfl : u = Value.ref p := rx
    simp only at q
    split at q
    · rename_i C dx fs ea
      split at q
      · rename_i v l
        exact getattr_ok I1 ea q.1.1 q.1.2 l fun u' s2 I2 ru => ⟨v, H1, I2, ru, q.2⟩
      · exact q.elim
    · exact q.elim
  | _ => exact q.elim
theorem ps_mfld (ha : PE X o ta) (hv : PE X value tv) (hs : swapsWith value (some (.Attribute o f pos')) pos.line X.env = pure false) : PS X (.Assign [.Attribute o f pos'] value pos) (mSFld X.K ta tv f) := by
  refine ⟨fun pins s σ H D I h => ?_⟩
  refine plainObj_wpAny_Assign_Attribute (thn (hv.run pins s σ H _ I h) fun u s1 ⟨y, H1, I1, ry, q⟩ => thn (ha.run pins s1 σ H1 _ I1 q) fun ov s2 ⟨x, H2, I2, rx, q2⟩ => ?_) hs
  cases x with
  | ref p =>
    obtain rfl : ov = Value.ref p := rx
    simp only at q2
    split at q2
    · rename_i C dx fs ea
      exact setattr_ok I2 ea q2.1.1 q2.1.2.1 q2.1.2.2 ry fun s3 I3 => ⟨σ, _, I3, q2.2⟩
    · exact q2.elim
  | _ => exact q2.elim
theorem in_g {op : Operator} {g : Int → Int → Int} (h : InOp X op (fun x y H Q => ∃ i j, x = .int i ∧ y = .int j ∧ Q (.int (g i j)) H)) (ha : PE X o ta) (hv : PE X value tv) : PS X (.AugAssign (.Attribute o f tpos) op value pos) (mFldAug X.K ta tv g f) := by
  refine ⟨fun pins s σ H D I h' => ?_⟩
  refine wpAny_AugAssign_AttributeAny (thn (ha.run pins s σ H _ I h') fun ov s1 ⟨x, H1, I1, rx, q⟩ => ?_)
  cases x with
  | ref p =>
    obtain rfl : ov = Value.ref p := rx
    simp only at q
    split at q
    · rename_i C dx fs ea
      split at q
      · rename_i i l
        refine getattr_ok I1 ea q.1.1 q.1.2 l fun u s2 I2 ru => thn (hv.run pins s2 σ H1 _ I2 q.2) fun w3 s3 ⟨y, H2, I3, ry, q3⟩ => ?_
        cases y with
        | int j =>
          simp only at q3
          split at q3
          · rename_i C' dx' fs' ea'
            obtain ⟨⟨rfl, l'⟩, q4⟩ := q3
            exact thn (h pins s3 σ H2 _ _ u w3 (fun z H3 => z = .int (g i j) ∧ H3 = H2) I3 ru ry ⟨i, j, rfl, rfl, rfl, rfl⟩) fun w4 s4 ⟨z, H3, I4, rz, e1, e2⟩ => by
              subst e1 e2
              exact setattr_ok I4 ea' q.1.1 q.1.2 l' rz fun s5 I5 => ⟨σ, _, I5, q4⟩
          · exact q3.elim
        | _ => exact q3.elim
      · exact q.elim
    · exact q.elim
  | _ => exact q.elim
theorem ps_maugF_add (ha : PE X o ta) (hv : PE X value tv) : PS X (.AugAssign (.Attribute o f tpos) .Add value pos) (mFldAug X.K ta tv (fun i j => i + j) f) := in_g in_add ha hv
theorem ps_maugF_sub (ha : PE X o ta) (hv : PE X value tv) : PS X (.AugAssign (.Attribute o f tpos) .Sub value pos) (mFldAug X.K ta tv (fun i j => i - j) f) := in_g in_sub ha hv
theorem ps_maug {i : Nat} {op : Operator} {g : Int → Int → Int} (hN : X.N.Nodup) (hi : X.N[i]? = some x) (hx : Loc X.env.scope x) (he : PE X value tv) (ho : PIp X op (ipI g)) (hf : X.fn x = true ∨ X.env.scope.names.lookup x = some .local := by first | exact .inl rfl | exact .inr rfl | assumption) :
    PS X (.AugAssign (.Name x pos') op value pos) (mAug i tv g) := by
  refine ⟨fun pins s σ H D I h => ?_⟩
  unfold mAug at h
  split at h
  · rename_i v e1
    obtain ⟨m, hn, hl⟩ := I.loc
    have vis : Vis X.env.scope x := by rcases hx with k | k; exact .inl k; exact .inr (.inl k)
    obtain ⟨u, r, l⟩ := hl i x (.int v) hi e1 vis
    refine wpAny_AugAssign_Name ?_
    have go : wpAny (model X.prog X.w) X.A (eval value X.env) (fun w s₂ => wpAny (model X.prog X.w) X.A (inplaceOp op u w) (fun r s₃ => wpAny (model X.prog X.w) X.A (storeName X.env x r) (fun _ => SP X pins D .next) X.xe s₃) X.xe s₂) X.xe s := by
      refine thn (he.run pins s σ H _ I h) fun w s1 ⟨y, H1, I1, r1, q1⟩ => ?_
      cases y with
      | int z =>
        refine thn (ho pins s1 σ H1 (.int v) (.int z) u w (fun y H2 => y = .int (g v z) ∧ H2 = H1) I1 r r1 ⟨_, _, rfl, rfl, rfl, rfl⟩) fun z' s2 ⟨zv, H2, I2, r2, e2, e3⟩ => ?_
        subst e2 e3
        exact store_ok I2 hN hi hx r2 (fun s3 I3 => ⟨_, H2, I3, q1⟩) hf
      | _ => exact q1.elim
    rcases l with ⟨hk, hm⟩ | ⟨hk, c, hc, hcell⟩
    · exact wpAny_loadName_local I.ok.kind hk hn hm go
    · rcases hk with hk | hk
      · exact wpAny_loadName_cell I.ok.kind hk hc hcell go
      · rcases hx with k | k
        · have : X.env.scope.names.lookup x = some .free := hk
          rw [k] at this; cases this
        · have : X.env.scope.names.lookup x = some .free := hk
          rw [k] at this; cases this
  · exact h.elim
theorem pe_mdget (hu : X.A.units + 1 < cLine) (ho : PE X o ta) (hi : PE X e tb) (hs : NoSl e) : PE X (.Subscript o e pos) (mDGet ta tb) := by
  refine ⟨fun pins s σ H Q I h => ?_⟩
  refine subD_of PySem.F.slot_dict_getitem.lookup hs (thn (ho.run pins s σ H _ I h) fun u s1 ⟨x, H1, I1, rx, q1⟩ => thn (hi.run pins s1 σ H1 _ I1 q1) fun iv s2 ⟨y, H2, I2, ry, q2⟩ => ?_)
  cases x with
  | ref p =>
    obtain rfl : u = Value.ref p := rx
    cases y with
    | str z =>
      simp only at q2
      split at q2
      · rename_i kvs ea
        split at q2
        · rename_i v l
          have g : DGet H2 p (.str z) (some v) := by rw [← l]; exact DGet.k (k := Sum.inr z) ea
          exact ⟨dict_typeIs I2 g, d_getItem hu I2 g ry fun w' s3 I3 rw' => ⟨v, H2, I3, rw', q2⟩⟩
        · exact q2.elim
      · exact q2.elim
    | _ => exact q2.elim
  | _ => exact q2.elim
theorem ps_mdput (hu : X.A.units + 1 < cLine) (ho : PE X o ta) (hi : PE X e tb) (hv : PE X value tv) (hs : swapsWith value (some (.Subscript o e pos')) pos.line X.env = pure false) :
    PS X (.Assign [.Subscript o e pos'] value pos) (mDPut ta tb tv) := by
  refine ⟨fun pins s σ H D I h => ?_⟩
  refine wpAny_Assign_Subscript (thn (hv.run pins s σ H _ I h) fun r s1 ⟨v, H1, I1, rv, q1⟩ => thn (ho.run pins s1 σ H1 _ I1 q1) fun u s2 ⟨x, H2, I2, rx, q2⟩ => thn (hi.run pins s2 σ H2 _ I2 q2) fun iv s3 ⟨y, H3, I3, ry, q3⟩ => ?_) hs
  cases x with
  | ref p =>
    obtain rfl : u = Value.ref p := rx
    cases y with
    | str z =>
      simp only at q3
      split at q3
      · rename_i kvs ea
        exact d_setItem hu I3 (DPut.k (k := Sum.inr z) ea q3.1) ry rv fun s4 I4 => ⟨σ, _, I4, q3.2⟩
      · exact q3.elim
    | _ => exact q3.elim
  | _ => exact q3.elim
theorem pe_mmt {C : Addr} {sp : Sp} {j k : Nat} {pl : Sem Bool} (c : Met X.prog X.w X.K X.mg X.base k C m sp []) (hr : Room j X.A) (hk : k ≤ j) (he : PE X o ta) (ha : PA X (e :: es) t)
    (hst : starEach (e :: es) X.env = (false, eval e X.env) :: starEach es X.env := by rfl) (hpl : (backTo pos (starEach es X.env)).any (·.1) = false := by rfl)
    (ht : eval (.Call (.Attribute o m apos) (e :: es) [] pos) X.env = (do
      let ov ← eval o X.env
      standAt apos.atName
      let (f, first) ← holding [ov] (getMethod ov m pl)
      callWith pos f first (backTo pos (starEach (e :: es) X.env)) (backToKw pos (keywordEach [] X.env))) := by rfl) :
    PE X (.Call (.Attribute o m apos) (e :: es) [] pos) (mMeth C m sp ta t) := by
  obtain ⟨g, fd, ps, ds, hc, hm, F, b, d⟩ := c.ex
  refine ⟨fun pins s σ H Q I h => ?_⟩
  refine PySem.W.methodCall_KW (pl := pl) (thn (he.run pins s σ H _ I h) fun u s1 ⟨x, H1, I1, rx, q⟩ => ?_) ht
  cases x with
  | ref p =>
    obtain rfl : u = Value.ref p := rx
    simp only at q
    split at q
    · rename_i C' dx fs ea
      obtain ⟨⟨rfl, l⟩, q⟩ := q
      refine getmeth_ok I1 ea hc hm l ?_
      refine PySem.W.callWith_K (first := [.ref p]) (h₀ := X.base) I.ok.mod.kin hm.kp (thn (ha.run pos pins s1 σ H1 _ I1 q) fun us s2 ⟨vs, H2, I2, r, q2⟩ => ⟨I2.kIn, ?_⟩) hst hpl
      refine run_fn (E := L2.E0) (us := .ref p :: us) (vs := .ref p :: vs) F (hr.mono hk) b d pass0 I2 (.cons rfl r) ?_
      rw [List.append_nil]
      exact q2
    · exact q.elim
  | _ => exact q.elim
theorem pe_mmt0 {C : Addr} {sp : Sp} {j k : Nat} {pl : Sem Bool} (c : Met X.prog X.w X.K X.mg X.base k C m sp []) (hr : Room j X.A) (hk : k ≤ j) (he : PE X o ta)
    (ht : eval (.Call (.Attribute o m apos) [] [] pos) X.env = (do
      let ov ← eval o X.env
      standAt apos.atName
      let (f, first) ← holding [ov] (getMethod ov m pl)
      callWith pos f first (backTo pos (starEach [] X.env)) (backToKw pos (keywordEach [] X.env))) := by rfl) :
    PE X (.Call (.Attribute o m apos) [] [] pos) (mMeth C m sp ta tNil) := by
  obtain ⟨g, fd, ps, ds, hc, hm, F, b, d⟩ := c.ex
  refine ⟨fun pins s σ H Q I h => ?_⟩
  refine PySem.W.methodCall_KW (pl := pl) (thn (he.run pins s σ H _ I h) fun u s1 ⟨x, H1, I1, rx, q⟩ => ?_) ht
  cases x with
  | ref p =>
    obtain rfl : u = Value.ref p := rx
    simp only at q
    split at q
    · rename_i C' dx fs ea
      obtain ⟨⟨rfl, l⟩, q⟩ := q
      refine getmeth_ok I1 ea hc hm l ?_
      refine PySem.W.callWith_K0 (first := [.ref p]) I1.kIn hm.kp (run_fn (E := L2.E0) (us := [.ref p]) (vs := [.ref p]) F (hr.mono hk) b d pass0 I1 (.cons rfl .nil) ?_)
      exact q
    · exact q.elim
  | _ => exact q.elim
theorem pe_mc {sp : Sp} {j k : Nat} (c : Cal X.prog X.w X.K X.mg X.base k x sp []) (hr : Room j X.A) (hk : k ≤ j) (hg : Gl X x) (ha : PA X (e :: es) t)
    (hdb : (x == ("__debug__" : Str)) = false := by decide) (he : starEach (e :: es) X.env = (false, eval e X.env) :: starEach es X.env := by rfl) (hpl : (backTo pos (starEach es X.env)).any (·.1) = false := by rfl) :
    PE X (.Call (.Name x pos') (e :: es) [] pos) (mCall sp t) := by
  obtain ⟨f, fd, ps, ds, F, hm, kp, b, d⟩ := c.ex
  refine ⟨fun pins s σ H Q I h => ?_⟩
  refine wpAny_Call_Name_kw (ld_glob I hg hm ?_ hdb)
  refine PySem.W.callWith_K (first := []) (h₀ := X.base) I.ok.mod.kin kp (thn (ha.run pos pins s σ H _ I h) fun us s2 ⟨vs, H2, I2, r, q2⟩ => ⟨I2.kIn, ?_⟩) he hpl
  refine run_fn (E := L2.E0) F (hr.mono hk) b d pass0 I2 r ?_
  rw [List.append_nil]
  exact q2
theorem pe_mc0 {sp : Sp} {j k : Nat} (c : Cal X.prog X.w X.K X.mg X.base k x sp []) (hr : Room j X.A) (hk : k ≤ j) (hg : Gl X x) (hdb : (x == ("__debug__" : Str)) = false := by decide) :
    PE X (.Call (.Name x pos') [] [] pos) (mCall sp tNil) := by
  obtain ⟨f, fd, ps, ds, F, hm, kp, b, d⟩ := c.ex
  exact pe_call0 F (hr.mono hk) hg hm kp b d pass0 hdb
theorem pe_mmk {C : Addr} {sp : Sp} {j k : Nat} (c : Mak X.prog X.w X.K X.mg X.base k x C sp []) (hr : Room j X.A) (hk : k + 1 ≤ j) (hg : Gl X x) (ha : PA X (e :: es) t)
    (hdb : (x == ("__debug__" : Str)) = false := by decide) (he : starEach (e :: es) X.env = (false, eval e X.env) :: starEach es X.env := by rfl) (hpl : (backTo pos (starEach es X.env)).any (·.1) = false := by rfl) :
    PE X (.Call (.Name x pos') (e :: es) [] pos) (mMake C sp t) := by
  obtain ⟨f, fd, ps, ds, M, F, hm, b, d⟩ := c.ex
  refine ⟨fun pins s σ H Q I h => ?_⟩
  refine wpAny_Call_Name_kw (ld_glob I hg hm ?_ hdb)
  refine PySem.W.callWith_K (first := []) (h₀ := X.base) I.ok.mod.kin M.kp (thn (ha.run pos pins s σ H _ I h) fun us s1 ⟨vs, H1, I1, r, q⟩ => ⟨I1.kIn, ?_⟩) he hpl
  refine run_make (E := L2.E0) M F (hr.mono hk) b d pass0 I1 r ?_
  rw [List.append_nil]
  exact q
theorem pe_mmk0 {C : Addr} {sp : Sp} {j k : Nat} (c : Mak X.prog X.w X.K X.mg X.base k x C sp []) (hr : Room j X.A) (hk : k + 1 ≤ j) (hg : Gl X x) (hdb : (x == ("__debug__" : Str)) = false := by decide) :
    PE X (.Call (.Name x pos') [] [] pos) (mMake C sp tNil) := by
  obtain ⟨f, fd, ps, ds, M, F, hm, b, d⟩ := c.ex
  exact pe_make0 M F (hr.mono hk) hg hm b d pass0 hdb
theorem pe_mlm {id : String} {name : Str} {r : V → List V → Hp → VK → Prop} (slot : Slot "list" name id) (hty : typeOf (.builtin id) = pure (.type "method_descriptor")) (hm : MtR X id r) (ho : PE X o ta) (ha : PA X (e :: es) t)
    (hbase : attributeBase o name X.env (eval o X.env) = eval o X.env := by rfl)
    (hfew : ((backTo cpos (starEach (e :: es) X.env)).all (fun x => !x.1) && (backToKw cpos (keywordEach [] X.env)).all (fun x => x.1.isSome)
      && decide ((e :: es).length + ([] : List Keyword).length + (if ([] : List Keyword).isEmpty then 0 else 1) < 30)) = true := by rfl)
    (hline : (apos.endLine == cpos.line) = true := by rfl) (hs : starEach (e :: es) X.env = (false, eval e X.env) :: starEach es X.env := by rfl) (hplain : (backTo cpos (starEach es X.env)).any (·.1) = false := by rfl) :
    PE X (.Call (.Attribute o name apos) (e :: es) [] cpos) (mLM r ta t) := by
  refine ⟨fun pins s σ H Q I h => ?_⟩
  refine wpAny_Call_method_late hbase hfew hline rfl (thn (ho.run pins s σ H _ I h) fun v s1 ⟨x, H1, I1, r1, q1⟩ => ?_)
  cases x with
  | ref p =>
    simp only at q1
    split at q1
    · rename_i xs ea
      obtain ⟨h1, h2⟩ := tyV_is (T := "list") I1 r1 (Or.inl ⟨rfl, _, SqL.of ea⟩)
      refine ⟨"list", id, PySem.F.plainAttrs_list, slot, hty, h1, h2, ?_⟩
      have hA := ha.run cpos pins s1 σ H1 _ I1 q1
      rw [hs] at hA ⊢
      refine Calls.callWith_builtin (by show (false || (backTo cpos (starEach es X.env)).any (·.1)) = false; rw [hplain] <;> rfl) (Calls.evalArgs_plain ?_)
      exact thn hA fun us s2 ⟨vs, H2, I2, r2, q2⟩ => hm pins s2 σ H2 (.ref p) vs v us Q I2 r1 r2 q2
    · exact q1.elim
  | _ => exact q1.elim
theorem pe_mlm0 {id : String} {name : Str} {r : V → List V → Hp → VK → Prop} (slot : Slot "list" name id) (hty : typeOf (.builtin id) = pure (.type "method_descriptor")) (hm : MtR X id r) (ho : PE X o ta)
    (hbase : attributeBase o name X.env (eval o X.env) = eval o X.env := by rfl) (hline : (apos.endLine == cpos.line) = true := by rfl) : PE X (.Call (.Attribute o name apos) [] [] cpos) (mLM r ta tNil) := by
  refine ⟨fun pins s σ H Q I h => ?_⟩
  refine wpAny_Call_method0_late hbase hline (thn (ho.run pins s σ H _ I h) fun v s1 ⟨x, H1, I1, r1, q1⟩ => ?_)
  cases x with
  | ref p =>
    simp only at q1
    split at q1
    · rename_i xs ea
      obtain ⟨h1, h2⟩ := tyV_is (T := "list") I1 r1 (Or.inl ⟨rfl, _, SqL.of ea⟩)
      exact ⟨"list", id, PySem.F.plainAttrs_list, slot, hty, h1, h2, Calls.callWith_builtin rfl (PySem.evalArgs_none (hm pins s1 σ H1 (.ref p) [] v [] Q I1 r1 .nil q1))⟩
    · exact q1.elim
  | _ => exact q1.elim
theorem set_m : PSet X mSet := by
  intro pins s σ H o i v ov iv u Q I ro ri rv h
  refine set_list pins s σ H o i v ov iv u Q I ro ri rv ?_
  unfold mSet at h
  split at h
  · split at h
    · rename_i e1
      split at h
      · rename_i e2
        exact ⟨_, _, _, _, rfl, rfl, e1, e2, h⟩
      · exact h.elim
    · exact h.elim
  · exact h.elim
theorem po_m (h : PE X e ta) : PO X (some e) (mPart ta) := by
  refine ⟨fun pins s σ H Q I hw => ?_⟩
  rw [evalPart_some]
  refine thn (h.run pins s σ H _ I hw) fun u s1 ⟨x, H1, I1, r1, q1⟩ => ?_
  cases x with
  | int i =>
    obtain ⟨t, rfl⟩ := r1
    exact ⟨some i, H1, I1, .int _ _, q1⟩
  | _ => exact q1.elim
end
section
variable {X : Cx} {a : Expr} {ta : TE} {pos : Pos}
theorem pe_mnot (ha : PE X a ta) : PE X (.UnaryOp .Not a pos) (mNotV ta) := by
  refine ⟨fun pins s σ H Q I h => ?_⟩
  refine UnaryOp_ (thn (ha.run pins s σ H _ I h) fun v s1 ⟨x, H1, I1, r1, q1⟩ => ?_)
  cases x with
  | bl c =>
    cases r1
    exact not_of (wpAny_truthy_bool ⟨.bl (!c), H1, I1, rfl, q1⟩)
  | _ => exact q1.elim
end
/-! ### defs by the head's facts -/
section
variable {P : Program} {w : World} {K : PySem.W.Frag} {mg : Str → Option Value} {base : Heap}
abbrev FnP (K : PySem.W.Frag) (x qual : Str) (st : Stmt) (f : Addr) (fd : FuncData) : Prop := FunD K x qual (defArgs st) (defBody st) (defScope st) [] [] f fd
abbrev Body (P : Program) (w : World) (K : PySem.W.Frag) (mg : Str → Option Value) (base : Heap) (k : Nat) (N : List Str) (qual : Str) (st : Stmt) (t : TS) : Prop :=
  ∀ (f : Addr) (cdv : Value) (A : Around) (outer : List Env) (s : Shared) (H : Hp) (E : XK), Room k (A.deeper (envOfC qual (defScope st) s.heap.objs.size f cdv)) →
    PSs (cxOf CX0 P w K mg base N qual (defScope st) f cdv A outer s H E).nox (defBody st) t
abbrev Pure (N : List Str) (sp : Sp) (t : TS) : Prop := ∀ (vs : List V) (H : Hp) (Q : VK) (E : XK), sp vs H Q E → t { nx := fun _ H' => Q .non H', rt := Q } (start N vs) H
abbrev Len (n : Nat) (sp : Sp) : Prop := ∀ vs H Q E, sp vs H Q E → vs.length = n
theorem fn_ok {x qual : Str} {st : Stmt} {f : Addr} {fd : FuncData} {N ps : List Str} {k : Nat} {sp : Sp} {t : TS} (F : FnP K x qual st f fd) (S : FnScope N ps (defScope st)) (len : Len ps.length sp)
    (b : Body P w K mg base k N qual st t) (p : Pure N sp t) : FnOk P w K mg base CX0 (k + 1) f fd ps sp :=
  F.ok S len fun cdv A outer s H vs Q E hr h => ⟨t, (b f cdv A outer s H E hr).nox, p vs H Q E h⟩
abbrev BindOk (x qual : Str) (st : Stmt) (ps : List Str) : Prop := ∀ (kV doc pm : Value) (an : Option Addr) (cdv ct : Value) (us : List Value), us.length = ps.length →
  bindArgs (PySem.W.fnOf x qual (defArgs st) (defBody st) (defScope st) .none kV doc pm an cdv ct) ⟨us, []⟩ = pure (ps.zip us)
theorem cal_ok {x : Str} {st : Stmt} {N ps : List Str} {k : Nat} {sp : Sp} {t : TS} (F : ∃ fd, FnP K x x st (He.ga K x) fd) (g : mg x = some (.ref (He.ga K x))) (S : FnScope N ps (defScope st)) (len : Len ps.length sp)
    (hb : BindOk x x st ps) (b : Body P w K mg base k N x st t) (p : Pure N sp t) : Cal P w K mg base (k + 1) x sp [] := by
  obtain ⟨fd, F⟩ := F
  exact ⟨_, fd, ps, [], fn_ok F S len b p, g, F.kp, F.bindsN hb, .nil⟩
theorem met_ok {x m qual : Str} {st : Stmt} {N ps : List Str} {k : Nat} {sp : Sp} {t : TS} (F : ∃ fd, FnP K m qual st (He.ma K (He.ga K x) m) fd) (c : Cls K (He.ga K x)) (me : Meth K (He.ga K x) m (He.ma K (He.ga K x) m))
    (S : FnScope N ps (defScope st)) (len : Len ps.length sp) (hb : BindOk m qual st ps) (b : Body P w K mg base k N qual st t) (p : Pure N sp t) : Met P w K mg base (k + 1) (He.ga K x) m sp [] := by
  obtain ⟨fd, F⟩ := F
  exact ⟨_, fd, ps, [], c, me, fn_ok F S len b p, F.bindsN hb, .nil⟩
theorem mak_ok {x qual : Str} {st : Stmt} {N ps : List Str} {k : Nat} {sp : Sp} {t : TS} (F : ∃ fd, FnP K "__init__" qual st (He.ma K (He.ga K x) "__init__") fd) (g : mg x = some (.ref (He.ga K x))) (M : Mk K (He.ga K x) (He.ma K (He.ga K x) "__init__"))
    (S : FnScope N ps (defScope st)) (len : Len ps.length sp) (hb : BindOk "__init__" qual st ps) (b : Body P w K mg base k N qual st t) (p : Pure N sp t) : Mak P w K mg base (k + 1) x (He.ga K x) sp [] := by
  obtain ⟨fd, F⟩ := F
  exact ⟨_, fd, ps, [], M, fn_ok F S len b p, g, F.bindsN hb, .nil⟩
end
end PB

set_option maxRecDepth 100000
set_option autoImplicit false
set_option maxHeartbeats 4000000
namespace PB
open PySem PySem.Spec PyProof.Rows L2
open C8 (tCut)
/-! ### what runs without a change of the heap -/
def pE (te : TE) (σ : L2.St) (H : Hp) (v : V) : Prop := ∀ Q : VK, Q v H → te σ H Q
def pT (tt : TT) (σ : L2.St) (H : Hp) (b : Bool) : Prop := ∀ Q : Bool → Hp → Prop, Q b H → tt σ H Q
def pA (ta : TA) (σ : L2.St) (H : Hp) (vs : List V) : Prop := ∀ Q : List V → Hp → Prop, Q vs H → ta σ H Q
def pR (r : R2) (x y : V) (H : Hp) (z : V) : Prop := ∀ Q : VK, Q z H → r x y H Q
def pC (r : R1) (xs : List V) (H : Hp) (z : V) : Prop := ∀ Q : VK, Q z H → r xs H Q
section
variable {K : PySem.W.Frag} {σ : L2.St} {H : Hp} {ta tb tc te : TE} {t u : TT} {x y z v : V} {r r' : R2} {i j : Int} {b c : Bool} {D : Ends} {s1 s2 : TS} {tl : TA} {vs : List V}
theorem p_var {i : Nat} (h : σ[i]? = some (some v)) : pE (mVar i) σ H v := fun Q q => by unfold mVar; rw [h]; exact q
theorem p_c : pE (tC v) σ H v := fun Q q => q
theorem p_op (ha : pE ta σ H x) (hb : pE tb σ H y) (hr : pR r x y H z) : pE (tOp r ta tb) σ H z := fun Q q => ha _ (hb _ (hr Q q))
theorem p_neg (ha : pE ta σ H (.int i)) : pE (tUn mNeg ta) σ H (.int (-i)) := fun Q q => ha _ q
theorem p_add : pR (mAdd K) (.int i) (.int j) H (.int (i + j)) := fun _ q => q
theorem p_sub : pR mSub (.int i) (.int j) H (.int (i - j)) := fun _ q => q
theorem p_mul (h : CMulW i j) : pR mMul (.int i) (.int j) H (.int (i * j)) := fun _ q => ⟨h, q⟩
theorem p_div (h : CDivW i j) : pR mDiv (.int i) (.int j) H (.int (i / j)) := fun _ q => ⟨h, q⟩
theorem p_mod (h : 0 < j) : pR mMod (.int i) (.int j) H (.int (i % j)) := fun _ q => ⟨h, q⟩
theorem p_lt : pR mLt (.int i) (.int j) H (.bl (decide (i < j))) := fun _ q => q
theorem p_le : pR mLe (.int i) (.int j) H (.bl (decide (i ≤ j))) := fun _ q => q
theorem p_gt : pR mGt (.int i) (.int j) H (.bl (decide (j < i))) := fun _ q => q
theorem p_ge : pR mGe (.int i) (.int j) H (.bl (decide (j ≤ i))) := fun _ q => q
theorem p_eqI : pR (mEq K) (.int i) (.int j) H (.bl (decide (i = j))) := fun _ q => q
theorem p_eqB : pR (mEq K) (.bl b) (.bl c) H (.bl (decide (b = c))) := fun _ q => q
theorem p_eqS {i j : Str} : pR (mEq K) (.str i) (.str j) H (.bl (decide (i = j))) := fun _ q => q
theorem p_eqD {a b : Addr} {d e : PyData} (hd : Dp K H (.ref a) d) (he : Dp K H (.ref b) e) (sd : SeqAt.shaped d = true) (se : SeqAt.shaped e = true) : pR (mEq K) (.ref a) (.ref b) H (.bl (PyData.eqv d e)) := fun _ q => ⟨d, e, hd, he, sd, se, q⟩
theorem p_neI : pR (mNe K) (.int i) (.int j) H (.bl (!decide (i = j))) := fun _ q => q
theorem p_neB : pR (mNe K) (.bl b) (.bl c) H (.bl (!decide (b = c))) := fun _ q => q
theorem p_neS {i j : Str} : pR (mNe K) (.str i) (.str j) H (.bl (!decide (i = j))) := fun _ q => q
theorem p_neD {a b : Addr} {d e : PyData} (hd : Dp K H (.ref a) d) (he : Dp K H (.ref b) e) (sd : SeqAt.shaped d = true) (se : SeqAt.shaped e = true) : pR (mNe K) (.ref a) (.ref b) H (.bl (!PyData.eqv d e)) := fun _ q => ⟨d, e, hd, he, sd, se, q⟩
theorem p_isN : pR mIsN x .non H (.bl (decide (x = .non))) := fun _ q => q
theorem p_notN : pR mNotN x .non H (.bl (!decide (x = .non))) := fun _ q => q
theorem p_ixL {p : Addr} {xs : List V} (h : SqL K H p xs) (e : atI xs i = some v) : pR (mIx K) (.ref p) (.int i) H v := fun _ q => ⟨xs, v, .inl h, e, q⟩
theorem p_ixT {p : Addr} {xs : List V} (h : SqT K H p xs) (e : atI xs i = some v) : pR (mIx K) (.ref p) (.int i) H v := fun _ q => ⟨xs, v, .inr h, e, q⟩
theorem p_ixH {p : Addr} {xs : List V} (h : H p = some (.lst xs)) (e : atI xs i = some v) : pR (mIx K) (.ref p) (.int i) H v := fun _ q => ⟨xs, v, .inl (SqL.of h), e, q⟩
theorem p_ixU {p : Addr} {xs : List V} (h : H p = some (.tup xs)) (e : atI xs i = some v) : pR (mIx K) (.ref p) (.int i) H v := fun _ q => ⟨xs, v, .inr (SqT.of h), e, q⟩
theorem p_chain {b c : Bool} (ha : pE ta σ H x) (hb : pE tb σ H y) (hr : pR r x y H (.bl b)) (hc : pE tc σ H z) (hr' : pR r' y z H (.bl c)) : pE (mChain r r' ta tb tc) σ H (.bl (b && c)) := fun Q q => by
  refine ha _ (hb _ (hr _ ?_))
  cases b with
  | true => exact hc _ (hr' _ q)
  | false => exact q
theorem p_andV (ha : pE ta σ H (.bl b)) (hb : b = true → pE tb σ H (.bl c)) : pE (mAndV ta tb) σ H (.bl (b && c)) := fun Q q => by
  refine ha _ ?_
  cases b with
  | true => exact hb rfl _ q
  | false => exact q
theorem p_orV (ha : pE ta σ H (.bl b)) (hb : b = false → pE tb σ H (.bl c)) : pE (mOrV ta tb) σ H (.bl (b || c)) := fun Q q => by
  refine ha _ ?_
  cases b with
  | true => exact q
  | false => exact hb rfl _ q
theorem p_fld {a C dx : Addr} {fs : List (Str × V)} {f : Str} (ha : pE ta σ H (.ref a)) (hH : H a = some (.ins C dx fs)) (hl : fs.lookup f = some v) (hc : Cls K C) (hn : NoAttr K C f) : pE (mFld K ta f) σ H v := fun Q q => by
  refine ha _ ?_
  show (match H a with | some (.ins C _ fs) => (match fs.lookup f with | some v => (Cls K C ∧ NoAttr K C f) ∧ Q v H | none => False) | _ => False)
  rw [hH]
  show (match fs.lookup f with | some v => (Cls K C ∧ NoAttr K C f) ∧ Q v H | none => False)
  rw [hl]
  exact ⟨⟨hc, hn⟩, q⟩
theorem p_dget {a : Addr} {kvs : List (Key × V)} {f : Str} (ha : pE ta σ H (.ref a)) (hb : pE tb σ H (.str f)) (hH : H a = some (.dK kvs)) (hl : valV kvs (.inr f) = some v) : pE (mDGet ta tb) σ H v := fun Q q => by
  refine ha _ (hb _ ?_)
  show (match H a with | some (.dK kvs) => (match valV kvs (.inr f) with | some v => Q v H | none => False) | _ => False)
  rw [hH]
  show (match valV kvs (.inr f) with | some v => Q v H | none => False)
  rw [hl]
  exact q
theorem p_if (hc : pT t σ H b) (h1 : b = true → pE ta σ H v) (h2 : b = false → pE tb σ H v) : pE (tIf t ta tb) σ H v := fun Q q => by
  refine hc _ ?_
  cases b with
  | true => exact h1 rfl Q q
  | false => exact h2 rfl Q q
theorem p_cb {r : R1} (ha : pA tl σ H vs) (hr : pC r vs H z) : pE (tCB r tl) σ H z := fun Q q => ha _ (hr Q q)
theorem p_nil : pA tNil σ H [] := fun Q q => q
theorem p_cons (ha : pE te σ H x) (hr : pA tl σ H vs) : pA (tCons te tl) σ H (x :: vs) := fun Q q => ha _ (hr _ q)
theorem p_abs : pC mAbs [.int i] H (.int (if i < 0 then -i else i)) := fun _ q => q
theorem p_max : pC mMax2 [.int i, .int j] H (.int (max i j)) := fun _ q => q
theorem p_min : pC mMin2 [.int i, .int j] H (.int (min i j)) := fun _ q => q
theorem p_intI : pC mInt [.int i] H (.int i) := fun _ q => q
theorem p_intB : pC mInt [.bl b] H (.int (if b then 1 else 0)) := fun _ q => q
theorem p_boolB : pC mBool [.bl b] H (.bl b) := fun _ q => q
theorem p_boolI : pC mBool [.int i] H (.bl (!decide (i = 0))) := fun _ q => q
theorem p_lenH {p : Addr} {xs : List V} (h : H p = some (.lst xs)) : pC (mLen K) [.ref p] H (.int (xs.length : Int)) := fun _ q => ⟨xs, .inl (SqL.of h), q⟩
theorem p_lenL {p : Addr} {xs : List V} (h : SqL K H p xs) : pC (mLen K) [.ref p] H (.int (xs.length : Int)) := fun _ q => ⟨xs, .inl h, q⟩
theorem p_lenT {p : Addr} {xs : List V} (h : SqT K H p xs) : pC (mLen K) [.ref p] H (.int (xs.length : Int)) := fun _ q => ⟨xs, .inr h, q⟩
theorem p_test (h : pE te σ H (.bl b)) : pT (mTest te) σ H b := fun Q q => h _ q
theorem p_truB (h : pE te σ H (.bl b)) : pT (mTru K te) σ H b := fun Q q => h _ q
theorem p_truI (h : pE te σ H (.int i)) : pT (mTru K te) σ H (!decide (i = 0)) := fun Q q => h _ q
theorem p_truN (h : pE te σ H .non) : pT (mTru K te) σ H false := fun Q q => h _ q
theorem p_and (ha : pT t σ H b) (hb : b = true → pT u σ H c) : pT (tAnd t u) σ H (b && c) := fun Q q => by
  refine ha _ ?_
  cases b with
  | true => exact hb rfl _ q
  | false => exact q
theorem p_or (ha : pT t σ H b) (hb : b = false → pT u σ H c) : pT (tOr t u) σ H (b || c) := fun Q q => by
  refine ha _ ?_
  cases b with
  | true => exact q
  | false => exact hb rfl _ q
theorem p_not (ha : pT t σ H b) : pT (tNot t) σ H (!b) := fun Q q => ha _ q
/-! ### a new object: the heap behind it is any that knows it and all that was known -/
def Ext (H H' : Hp) : Prop := ∀ a o, H a = some o → H' a = some o
theorem Ext.refl (H : Hp) : Ext H H := fun _ _ h => h
theorem Ext.trans {H H1 H2 : Hp} (a : Ext H H1) (b : Ext H1 H2) : Ext H H2 := fun x o h => b x o (a x o h)
theorem Ext.new {H : Hp} {p : Addr} {o : HO} (h : H p = none) : Ext H (upd H p o) := fun a u e => by rw [upd_ne (ne_of_none e h)]; exact e
def NewAt (H : Hp) (o : HO) (Q : VK) : Prop := ∀ p H', H p = none → H' p = some o → Ext H H' → Q (.ref p) H'
theorem NewAt.up {H : Hp} {o : HO} {Q : VK} (h : NewAt H o Q) : ∀ p, H p = none → Q (.ref p) (upd H p o) := fun p hp => h p _ hp upd_same (Ext.new hp)
theorem ext_get {H H' : Hp} {a : Addr} {o : HO} (e : Ext H H') (h : H a = some o) : H' a = some o := e a o h
theorem ext_l {K : PySem.W.Frag} {H H' : Hp} {a : Addr} {xs : List V} (e : Ext H H') (h : SqL K H a xs) : SqL K H' a xs := by
  rcases h with (h | ⟨o, h⟩) | h
  · exact .inl (.inl (e _ _ h))
  · exact .inl (.inr ⟨o, e _ _ h⟩)
  · exact .inr h
theorem ext_t {K : PySem.W.Frag} {H H' : Hp} {a : Addr} {xs : List V} (e : Ext H H') (h : SqT K H a xs) : SqT K H' a xs := by
  rcases h with (h | ⟨o, h⟩) | h
  · exact .inl (.inl (e _ _ h))
  · exact .inl (.inr ⟨o, e _ _ h⟩)
  · exact .inr h
/-! ### statements -/
theorem w_seq (h : s1 { D with nx := s2 D } σ H) : tSeq s1 s2 D σ H := h
theorem w_cut (h : s1 { D with nx := s2 D } σ H) : tCut s1 s2 D σ H := ⟨s2 D, h, fun _ _ h => h⟩
theorem w_mid (M : L2.St → Hp → Prop) (h : s1 { D with nx := M } σ H) (k : ∀ σ' H', M σ' H' → s2 D σ' H') : tCut s1 s2 D σ H := ⟨M, h, k⟩
theorem w_if (hc : pT t σ H b) (h1 : b = true → s1 D σ H) (h2 : b = false → s2 D σ H) : tIfS t s1 s2 D σ H := by
  refine hc _ ?_
  cases b with
  | true => exact h1 rfl
  | false => exact h2 rfl
theorem w_next (h : D.nx σ H) : tNext D σ H := h
theorem w_ret (h : pE te σ H v) (q : D.rt v H) : tRet te D σ H := h _ q
theorem w_retN (q : D.rt .non H) : tRetN D σ H := q
theorem w_asg {i : Nat} (h : pE te σ H v) (q : D.nx (σ.set i (some v)) H) : tAsg te (gName i) D σ H := h _ q
theorem w_asgC {i : Nat} {sp : Sp} (h : pA tl σ H vs) (q : sp vs H (fun v H' => D.nx (σ.set i (some v)) H') E0) : tAsg (mCall sp tl) (gName i) D σ H := h _ q
theorem w_retC {sp : Sp} (h : pA tl σ H vs) (q : sp vs H D.rt E0) : tRet (mCall sp tl) D σ H := h _ q
theorem w_dropC {sp : Sp} (h : pA tl σ H vs) (q : sp vs H (fun _ H' => D.nx σ H') E0) : tDrop (mCall sp tl) D σ H := h _ q
theorem w_ifC {sp : Sp} (h : pA tl σ H vs) (q : sp vs H (kTru K fun b H1 => if b = true then s1 D σ H1 else s2 D σ H1) E0) : tIfS (mTru K (mCall sp tl)) s1 s2 D σ H := h _ q
theorem p_truL {p : Addr} {xs : List V} (h : pE te σ H (.ref p)) (hx : H p = some (.lst xs)) : pT (mTru K te) σ H (!xs.isEmpty) := fun Q q => h _ ⟨_, .inl ⟨xs, SqL.of hx, rfl⟩, q⟩
theorem m_meth {C a dx : Addr} {fs : List (Str × V)} {m : Str} {sp : Sp} {Q : VK} (ha : pE ta σ H (.ref a)) (hH : H a = some (.ins C dx fs)) (hm : fs.lookup m = none) (h : pA tl σ H vs) (q : sp (.ref a :: vs) H Q E0) : mMeth C m sp ta tl σ H Q := by
  refine ha _ ?_
  show (match H a with | some (.ins D _ fs) => (D = C ∧ fs.lookup m = none) ∧ tl σ H fun vs H2 => sp (.ref a :: vs) H2 Q E0 | _ => False)
  rw [hH]
  exact ⟨⟨rfl, hm⟩, h _ q⟩
theorem w_sfld {C a dx : Addr} {fs : List (Str × V)} {f : Str} (hv : pE te σ H v) (ha : pE ta σ H (.ref a)) (hH : H a = some (.ins C dx fs)) (hc : Cls K C) (hn : NoAttr K C f) (hl : fs.length < 1000) (q : D.nx σ (upd H a (.ins C dx (putF f v fs)))) : mSFld K ta te f D σ H := by
  refine hv _ (ha _ ?_)
  show (match H a with | some (.ins C dx fs) => (Cls K C ∧ NoAttr K C f ∧ fs.length < 1000) ∧ D.nx σ (upd H a (.ins C dx (putF f v fs))) | _ => False)
  rw [hH]
  exact ⟨⟨hc, hn, hl⟩, q⟩
theorem w_fldaug {C a dx : Addr} {fs : List (Str × V)} {f : Str} {g : Int → Int → Int} (ha : pE ta σ H (.ref a)) (hH : H a = some (.ins C dx fs)) (hf : fs.lookup f = some (.int i)) (hv : pE te σ H (.int j)) (hc : Cls K C) (hn : NoAttr K C f) (hl : fs.length < 1000)
    (q : D.nx σ (upd H a (.ins C dx (putF f (.int (g i j)) fs)))) : mFldAug K ta te g f D σ H := by
  refine ha _ ?_
  simp only [hH, hf]
  refine ⟨⟨hc, hn⟩, hv _ ?_⟩
  simp only [hH]
  exact ⟨⟨trivial, hl⟩, q⟩
theorem w_aug {n : Nat} {g : Int → Int → Int} (h : σ[n]? = some (some (.int i))) (hv : pE te σ H (.int j)) (q : D.nx (σ.set n (some (.int (g i j)))) H) : mAug n te g D σ H := by
  unfold mAug
  simp only [h]
  exact hv _ q
theorem w_dput {a : Addr} {kvs : List (Key × V)} {f : Str} (hv : pE te σ H v) (ha : pE ta σ H (.ref a)) (hb : pE tb σ H (.str f)) (hH : H a = some (.dK kvs)) (hl : kvs.length < sizeLine) (q : D.nx σ (upd H a (.dK (putK kvs (.inr f) v)))) : mDPut ta tb te D σ H := by
  refine hv _ (ha _ (hb _ ?_))
  simp only [hH]
  exact ⟨hl, q⟩
theorem w_append {l : Addr} {xs : List V} (ha : pE ta σ H (.ref l)) (hH : H l = some (.lst xs)) (hv : pE te σ H v) (hl : xs.length < sizeLine) (q : D.nx σ (upd H l (.lst (xs ++ [v])))) : tDrop (mLM mAppend ta (tCons te tNil)) D σ H := by
  refine ha _ ?_
  simp only [hH]
  refine hv _ ?_
  show mAppend (.ref l) [v] H (fun _ H1 => D.nx σ H1)
  unfold mAppend
  simp only [hH]
  exact ⟨hl, q⟩
/-- a new tuple, a new list of values -/
theorem m_tup {Q : VK} (h : pA tl σ H vs) (hl : vs.length ≤ sizeLine) (q : NewAt H (.tup vs) Q) : tTup tl σ H Q := h _ ⟨hl, q.up⟩
theorem m_lst {Q : VK} (h : pA tl σ H vs) (hl : vs.length ≤ sizeLine) (q : NewAt H (.lst vs) Q) : tLst tl σ H Q := h _ ⟨hl, q.up⟩
theorem CMulW_of {i j : Int} (h : i.natAbs < 2 ^ 64) (h' : j.natAbs < 2 ^ 64) : CMulW i j := wide_mul h h' (by decide) (by decide) (by decide)
end
end PB

set_option maxRecDepth 100000
set_option autoImplicit false
set_option maxHeartbeats 4000000
namespace PB
open PySem PySem.Spec PyProof.Rows L2
open C8 (tCut Met Cal Mak)
/-! ### attributes and text keys by places: names and values as two lists -/
def setN : List V → Nat → V → List V
  | [], 0, v => [v]
  | [], _ + 1, _ => []
  | _ :: r, 0, v => v :: r
  | x :: r, i + 1, v => x :: setN r i v
theorem setN_length_le {vals : List V} {i : Nat} {v : V} : (setN vals i v).length ≤ vals.length + 1 := by
  induction vals generalizing i with
  | nil => cases i <;> simp [setN]
  | cons x r ih => cases i with
    | zero => simp [setN]
    | succ i => simp [setN]; exact ih
theorem lookup_z {f : Str} {v : V} : ∀ {names : List Str} {vals : List V} {i : Nat}, names.Nodup → names[i]? = some f → vals[i]? = some v → (names.zip vals).lookup f = some v
  | [], _, _, _, h, _ => by simp at h
  | _ :: _, [], _, _, _, h => by simp at h
  | n :: ns, x :: xs, 0, _, h, h' => by
    have e : n = f := by simpa using h
    have e' : x = v := by simpa using h'
    subst e e'
    simp [List.zip_cons_cons, List.lookup]
  | n :: ns, x :: xs, i + 1, nd, h, h' => by
    have h1 : ns[i]? = some f := by simpa using h
    have h2 : xs[i]? = some v := by simpa using h'
    have m : f ∈ ns := List.mem_of_getElem? h1
    have ne : ¬ f = n := fun e => (List.nodup_cons.mp nd).1 (e ▸ m)
    have hb : (f == n) = false := by simp [ne]
    rw [List.zip_cons_cons]
    simp only [List.lookup, hb]
    exact lookup_z (List.nodup_cons.mp nd).2 h1 h2
theorem lookup_none {m : Str} : ∀ {names : List Str} {vals : List V}, m ∉ names → (names.zip vals).lookup m = none
  | [], _, _ => by simp
  | _ :: _, [], _ => by simp
  | n :: ns, x :: xs, h => by
    have ne : ¬ m = n := fun e => h (e ▸ List.mem_cons_self ..)
    have hb : (m == n) = false := by simp [ne]
    rw [List.zip_cons_cons]
    simp only [List.lookup, hb]
    exact lookup_none fun q => h (List.mem_cons_of_mem _ q)
theorem put_z {f : Str} {v : V} : ∀ {names : List Str} {vals : List V} {i : Nat}, names.Nodup → names[i]? = some f → i ≤ vals.length → putF f v (names.zip vals) = names.zip (setN vals i v)
  | [], _, _, _, h, _ => by simp at h
  | n :: ns, [], 0, _, h, _ => by
    have e : n = f := by simpa using h
    subst e
    simp [putF, setN]
  | _ :: _, [], _ + 1, _, _, h => by simp at h
  | n :: ns, x :: xs, 0, _, h, _ => by
    have e : n = f := by simpa using h
    subst e
    simp [putF, setN, List.zip_cons_cons]
  | n :: ns, x :: xs, i + 1, nd, h, h' => by
    have h1 : ns[i]? = some f := by simpa using h
    have m : f ∈ ns := List.mem_of_getElem? h1
    have ne : ¬ n = f := fun e => (List.nodup_cons.mp nd).1 (e ▸ m)
    rw [List.zip_cons_cons]
    show (if n = f then _ else (n, x) :: putF f v (ns.zip xs)) = (n :: ns).zip (x :: setN xs i v)
    rw [if_neg ne, put_z (List.nodup_cons.mp nd).2 h1 (by simpa using h'), List.zip_cons_cons]
def dz (names : List Str) (vals : List V) : List (Key × V) := (names.zip vals).map fun p => (.inr p.1, p.2)
theorem dz_nil {names : List Str} : dz names [] = [] := by cases names <;> rfl
theorem dz_cons {n : Str} {ns : List Str} {x : V} {xs : List V} : dz (n :: ns) (x :: xs) = (.inr n, x) :: dz ns xs := rfl
theorem dz_len {names : List Str} {vals : List V} : (dz names vals).length ≤ names.length := by simp [dz]; omega
theorem valV_z {f : Str} {v : V} : ∀ {names : List Str} {vals : List V} {i : Nat}, names.Nodup → names[i]? = some f → vals[i]? = some v → valV (dz names vals) (.inr f) = some v
  | [], _, _, _, h, _ => by simp at h
  | _ :: _, [], _, _, _, h => by simp at h
  | n :: ns, x :: xs, 0, _, h, h' => by
    have e : n = f := by simpa using h
    have e' : x = v := by simpa using h'
    subst e e'
    rw [dz_cons]
    exact valV_pos rfl
  | n :: ns, x :: xs, i + 1, nd, h, h' => by
    have h1 : ns[i]? = some f := by simpa using h
    have h2 : xs[i]? = some v := by simpa using h'
    have m : f ∈ ns := List.mem_of_getElem? h1
    have ne : ¬ n = f := fun e => (List.nodup_cons.mp nd).1 (e ▸ m)
    rw [dz_cons, valV_neg (fun e => ne (Sum.inr.inj e))]
    exact valV_z (List.nodup_cons.mp nd).2 h1 h2
theorem putK_cons_ne {n f : Str} {x v : V} {r : List (Key × V)} (h : ¬ n = f) : putK ((.inr n, x) :: r) (.inr f : Key) v = (.inr n, x) :: putK r (.inr f) v := by
  have e : ¬ ((.inr n : Key) = .inr f) := fun e => h (Sum.inr.inj e)
  unfold putK
  simp only [List.any_cons, decide_eq_false e, Bool.false_or, List.map_cons, if_neg e]
  split
  · rfl
  · rfl
theorem putK_cons_eq {n : Str} {x v : V} {r : List (Key × V)} (h : ∀ p ∈ r, p.1 ≠ .inr n) : putK ((.inr n, x) :: r) (.inr n : Key) v = (.inr n, v) :: r := by
  unfold putK
  simp only [List.any_cons, decide_true, Bool.true_or, if_true, List.map_cons]
  congr 1
  refine (List.map_congr_left fun p hp => ?_).trans (List.map_id _)
  simp [if_neg (h p hp)]
theorem putK_z {f : Str} {v : V} : ∀ {names : List Str} {vals : List V} {i : Nat}, names.Nodup → names[i]? = some f → i ≤ vals.length → putK (dz names vals) (.inr f) v = dz names (setN vals i v)
  | [], _, _, _, h, _ => by simp at h
  | n :: ns, [], 0, _, h, _ => by
    have e : n = f := by simpa using h
    subst e
    rw [dz_nil]
    simp [putK, setN, dz]
  | _ :: _, [], _ + 1, _, _, h => by simp at h
  | n :: ns, x :: xs, 0, nd, h, _ => by
    have e : n = f := by simpa using h
    subst e
    rw [dz_cons]
    refine putK_cons_eq fun p hp q => ?_
    simp only [dz, List.mem_map] at hp
    obtain ⟨z, hz, rfl⟩ := hp
    have := (List.of_mem_zip hz).1
    have e2 : z.1 = n := Sum.inr.inj q
    exact (List.nodup_cons.mp nd).1 (e2 ▸ this)
  | n :: ns, x :: xs, i + 1, nd, h, h' => by
    have h1 : ns[i]? = some f := by simpa using h
    have m : f ∈ ns := List.mem_of_getElem? h1
    have ne : ¬ n = f := fun e => (List.nodup_cons.mp nd).1 (e ▸ m)
    rw [dz_cons, putK_cons_ne ne, putK_z (List.nodup_cons.mp nd).2 h1 (by simpa using h')]
    rfl
/-! ### readings -/
def oFld (C : Addr) (names : List Str) (i : Nat) (ta : TE) : TE := fun σ H Q => ta σ H fun x H1 => ∃ a dx vals v, x = .ref a ∧ H1 a = some (.ins C dx (names.zip vals)) ∧ vals[i]? = some v ∧ Q v H1
def oSet (C : Addr) (names : List Str) (i : Nat) (ta tv : TE) : TS := fun D σ H => tv σ H fun y H1 => ta σ H1 fun x H2 => ∃ a dx vals, x = .ref a ∧ H2 a = some (.ins C dx (names.zip vals)) ∧ i ≤ vals.length ∧
  D.nx σ (upd H2 a (.ins C dx (names.zip (setN vals i y))))
def oAug (C : Addr) (names : List Str) (i : Nat) (ta tv : TE) (g : Int → Int → Int) : TS := fun D σ H => ta σ H fun x H1 => ∃ a dx vals n, x = .ref a ∧ H1 a = some (.ins C dx (names.zip vals)) ∧ vals[i]? = some (.int n) ∧
  tv σ H1 fun y H2 => ∃ m dx' vals', y = .int m ∧ H2 a = some (.ins C dx' (names.zip vals')) ∧ i ≤ vals'.length ∧ D.nx σ (upd H2 a (.ins C dx' (names.zip (setN vals' i (.int (g n m))))))
def oMeth (C : Addr) (names : List Str) (sp : Sp) (ta : TE) (t : TA) : TE := fun σ H Q => ta σ H fun x H1 => ∃ a dx vals, x = .ref a ∧ H1 a = some (.ins C dx (names.zip vals)) ∧ t σ H1 fun vs H2 => sp (.ref a :: vs) H2 Q E0
def dGet (names : List Str) (i : Nat) (ta : TE) : TE := fun σ H Q => ta σ H fun x H1 => ∃ a vals v, x = .ref a ∧ H1 a = some (.dK (dz names vals)) ∧ vals[i]? = some v ∧ Q v H1
def dSet (names : List Str) (i : Nat) (ta tv : TE) : TS := fun D σ H => tv σ H fun y H1 => ta σ H1 fun x H2 => ∃ a vals, x = .ref a ∧ H2 a = some (.dK (dz names vals)) ∧ i ≤ vals.length ∧
  D.nx σ (upd H2 a (.dK (dz names (setN vals i y))))
section
variable {X : Cx} {e a b c o value : Expr} {es : List Expr} {ta tb tc tv : TE} {t : TA} {pos pos' pos2 apos cpos tpos : Pos} {x f m : Str} {C : Addr} {names : List Str} {i : Nat}
theorem pe_ofld (cl : Cls X.K C) (na : NoAttr X.K C f) (nd : names.Nodup) (hi : names[i]? = some f) (ha : PE X a ta) (hb : attributeBase a f X.env (eval a X.env) = eval a X.env) : PE X (.Attribute a f pos) (oFld C names i ta) := by
  refine ⟨fun pins s σ H Q I h => ?_⟩
  refine attr_of hb (thn (ha.run pins s σ H _ I h) fun u s1 ⟨x, H1, I1, rx, p, dx, vals, v, e, ea, hv, q⟩ => ?_)
  subst e
  obtain rfl : u = Value.ref p := rx
  exact getattr_ok I1 ea cl na (lookup_z nd hi hv) fun u' s2 I2 ru => ⟨v, H1, I2, ru, q⟩
theorem ps_oset (cl : Cls X.K C) (na : NoAttr X.K C f) (nd : names.Nodup) (hi : names[i]? = some f) (hl : names.length < 1000) (ha : PE X o ta) (hv : PE X value tv) (hs : swapsWith value (some (.Attribute o f pos')) pos.line X.env = pure false) :
    PS X (.Assign [.Attribute o f pos'] value pos) (oSet C names i ta tv) := by
  refine ⟨fun pins s σ H D I h => ?_⟩
  refine plainObj_wpAny_Assign_Attribute (thn (hv.run pins s σ H _ I h) fun u s1 ⟨y, H1, I1, ry, q⟩ => thn (ha.run pins s1 σ H1 _ I1 q) fun ov s2 ⟨x, H2, I2, rx, p, dx, vals, e, ea, hle, q2⟩ => ?_) hs
  subst e
  obtain rfl : ov = Value.ref p := rx
  refine setattr_ok I2 ea cl na (by simp; omega) ry fun s3 I3 => ⟨σ, _, I3, ?_⟩
  rw [put_z nd hi hle]
  exact q2
theorem ps_oaug {op : Operator} {g : Int → Int → Int} (h : InOp X op (fun x y H Q => ∃ i j, x = .int i ∧ y = .int j ∧ Q (.int (g i j)) H)) (cl : Cls X.K C) (na : NoAttr X.K C f) (nd : names.Nodup) (hi : names[i]? = some f) (hl : names.length < 1000)
    (ha : PE X o ta) (hv : PE X value tv) : PS X (.AugAssign (.Attribute o f tpos) op value pos) (oAug C names i ta tv g) := by
  refine ⟨fun pins s σ H D I h' => ?_⟩
  refine wpAny_AugAssign_AttributeAny (thn (ha.run pins s σ H _ I h') fun ov s1 ⟨x, H1, I1, rx, p, dx, vals, n, e, ea, hn, q⟩ => ?_)
  subst e
  obtain rfl : ov = Value.ref p := rx
  refine getattr_ok I1 ea cl na (lookup_z nd hi hn) fun u s2 I2 ru => thn (hv.run pins s2 σ H1 _ I2 q) fun w3 s3 ⟨y, H2, I3, ry, k, dx', vals', e2, ea', hle, q3⟩ => ?_
  subst e2
  refine thn (h pins s3 σ H2 _ _ u w3 (fun z H3 => z = .int (g n k) ∧ H3 = H2) I3 ru ry ⟨_, _, rfl, rfl, rfl, rfl⟩) fun w4 s4 ⟨z, H3, I4, rz, e1, e2⟩ => ?_
  subst e1 e2
  refine setattr_ok I4 ea' cl na (by simp; omega) rz fun s5 I5 => ⟨σ, _, I5, ?_⟩
  rw [put_z nd hi hle]
  exact q3
theorem nest {α : Prop} (h : α) : α := h
theorem pe_omt {sp : Sp} {j k : Nat} {pl : Sem Bool} (c : Met X.prog X.w X.K X.mg X.base k C m sp []) (hr : Room j X.A) (hk : k ≤ j) (hno : m ∉ names) (he : PE X o ta) (ha : PA X (e :: es) t)
    (hst : starEach (e :: es) X.env = (false, eval e X.env) :: starEach es X.env := by rfl) (hpl : (backTo pos (starEach es X.env)).any (·.1) = false := by rfl)
    (ht : eval (.Call (.Attribute o m apos) (e :: es) [] pos) X.env = (do
      let ov ← eval o X.env
      standAt apos.atName
      let (f, first) ← holding [ov] (getMethod ov m pl)
      callWith pos f first (backTo pos (starEach (e :: es) X.env)) (backToKw pos (keywordEach [] X.env))) := by rfl) :
    PE X (.Call (.Attribute o m apos) (e :: es) [] pos) (oMeth C names sp ta t) := by
  obtain ⟨g, fd, ps, ds, hc, hm, F, b, d⟩ := c.ex
  refine ⟨fun pins s σ H Q I h => ?_⟩
  refine PySem.W.methodCall_KW (pl := pl) (thn (he.run pins s σ H _ I h) fun u s1 ⟨x, H1, I1, rx, p, dx, vals, ex, ea, q⟩ => ?_) ht
  subst ex
  obtain rfl : u = Value.ref p := rx
  refine getmeth_ok I1 ea hc hm (lookup_none hno) ?_
  refine PySem.W.callWith_K (first := [.ref p]) (h₀ := X.base) I.ok.mod.kin hm.kp (thn (ha.run pos pins s1 σ H1 _ I1 q) fun us s2 ⟨vs, H2, I2, r, q2⟩ => ⟨I2.kIn, ?_⟩) hst hpl
  refine run_fn (E := L2.E0) (us := .ref p :: us) (vs := .ref p :: vs) F (hr.mono hk) b d pass0 I2 (.cons rfl r) ?_
  rw [List.append_nil]
  exact q2
theorem pe_omt0 {sp : Sp} {j k : Nat} {pl : Sem Bool} (c : Met X.prog X.w X.K X.mg X.base k C m sp []) (hr : Room j X.A) (hk : k ≤ j) (hno : m ∉ names) (he : PE X o ta)
    (ht : eval (.Call (.Attribute o m apos) [] [] pos) X.env = (do
      let ov ← eval o X.env
      standAt apos.atName
      let (f, first) ← holding [ov] (getMethod ov m pl)
      callWith pos f first (backTo pos (starEach [] X.env)) (backToKw pos (keywordEach [] X.env))) := by rfl) :
    PE X (.Call (.Attribute o m apos) [] [] pos) (oMeth C names sp ta tNil) := by
  obtain ⟨g, fd, ps, ds, hc, hm, F, b, d⟩ := c.ex
  refine ⟨fun pins s σ H Q I h => ?_⟩
  refine PySem.W.methodCall_KW (pl := pl) (thn (he.run pins s σ H _ I h) fun u s1 ⟨x, H1, I1, rx, p, dx, vals, ex, ea, q⟩ => ?_) ht
  subst ex
  obtain rfl : u = Value.ref p := rx
  refine getmeth_ok I1 ea hc hm (lookup_none hno) ?_
  refine PySem.W.callWith_K0 (first := [.ref p]) I1.kIn hm.kp (run_fn (E := L2.E0) (us := [.ref p]) (vs := [.ref p]) F (hr.mono hk) b d pass0 I1 (.cons rfl .nil) ?_)
  exact q
theorem pe_dgetz (hu : X.A.units + 1 < cLine) (nd : names.Nodup) (hi : names[i]? = some x) (ho : PE X o ta) (hs : NoSl (.Constant (.str x) 0 pos2)) : PE X (.Subscript o (.Constant (.str x) 0 pos2) pos) (dGet names i ta) := by
  refine ⟨fun pins s σ H Q I h => ?_⟩
  refine subD_of PySem.F.slot_dict_getitem.lookup hs (thn (ho.run pins s σ H _ I h) fun u s1 ⟨z, H1, I1, rx, p, vals, v, e, ea, hv, q⟩ => thn ((pe_str (X := X) (x := x)).run pins s1 σ H1 (fun y H2 => y = .str x ∧ H2 = H1) I1 ⟨rfl, rfl⟩) fun iv s2 ⟨y, H2, I2, ry, e2, e3⟩ => ?_)
  subst e e2 e3
  obtain rfl : u = Value.ref p := rx
  have g : DGet H2 p (.str x) (some v) := by rw [← valV_z nd hi hv]; exact DGet.k (k := Sum.inr x) ea
  exact ⟨dict_typeIs I2 g, d_getItem hu I2 g ry fun w' s3 I3 rw' => ⟨v, H2, I3, rw', q⟩⟩
theorem ps_dsetz (hu : X.A.units + 1 < cLine) (nd : names.Nodup) (hi : names[i]? = some x) (hl : names.length < sizeLine) (ho : PE X o ta) (hv : PE X value tv)
    (hs : swapsWith value (some (.Subscript o (.Constant (.str x) 0 pos2) pos')) pos.line X.env = pure false) : PS X (.Assign [.Subscript o (.Constant (.str x) 0 pos2) pos'] value pos) (dSet names i ta tv) := by
  refine ⟨fun pins s σ H D I h => ?_⟩
  refine wpAny_Assign_Subscript (thn (hv.run pins s σ H _ I h) fun r s1 ⟨v, H1, I1, rv, q1⟩ => thn (ho.run pins s1 σ H1 _ I1 q1) fun u s2 ⟨z, H2, I2, rx, p, vals, e, ea, hle, q⟩ =>
    thn ((pe_str (X := X) (x := x)).run pins s2 σ H2 (fun y H3 => y = .str x ∧ H3 = H2) I2 ⟨rfl, rfl⟩) fun iv s3 ⟨y, H3, I3, ry, e2, e3⟩ => ?_) hs
  subst e e2 e3
  obtain rfl : u = Value.ref p := rx
  refine d_setItem hu I3 (DPut.k (k := Sum.inr x) ea (Nat.lt_of_le_of_lt dz_len hl)) ry rv fun s4 I4 => ⟨σ, _, I4, ?_⟩
  rw [putK_z nd hi hle]
  exact q
end
/-! ### their use -/
section
variable {K : PySem.W.Frag} {σ : L2.St} {H : Hp} {ta tb tc te : TE} {x y z v : V} {D : Ends} {tl : TA} {vs : List V} {C p dx : Addr} {names : List Str} {vals : List V} {i : Nat}
theorem p_ofld (ha : pE ta σ H (.ref p)) (hH : H p = some (.ins C dx (names.zip vals))) (hv : vals[i]? = some v) : pE (oFld C names i ta) σ H v := fun Q q => ha _ ⟨p, dx, vals, v, rfl, hH, hv, q⟩
theorem w_oset (hv : pE te σ H v) (ha : pE ta σ H (.ref p)) (hH : H p = some (.ins C dx (names.zip vals))) (hi : i ≤ vals.length) (q : D.nx σ (upd H p (.ins C dx (names.zip (setN vals i v))))) : oSet C names i ta te D σ H :=
  hv _ (ha _ ⟨p, dx, vals, rfl, hH, hi, q⟩)
/-- the object was stored last -/
theorem w_oset2 {H0 : Hp} (hv : pE te σ (upd H0 p (.ins C dx (names.zip vals))) v) (ha : pE ta σ (upd H0 p (.ins C dx (names.zip vals))) (.ref p)) (hi : i ≤ vals.length) (q : D.nx σ (upd H0 p (.ins C dx (names.zip (setN vals i v))))) :
    oSet C names i ta te D σ (upd H0 p (.ins C dx (names.zip vals))) := hv _ (ha _ ⟨p, dx, vals, rfl, upd_same, hi, by rw [upd_upd]; exact q⟩)
theorem w_oaug {g : Int → Int → Int} {n m : Int} (ha : pE ta σ H (.ref p)) (hH : H p = some (.ins C dx (names.zip vals))) (hn : vals[i]? = some (.int n)) (hv : pE te σ H (.int m)) (q : D.nx σ (upd H p (.ins C dx (names.zip (setN vals i (.int (g n m))))))) : oAug C names i ta te g D σ H :=
  ha _ ⟨p, dx, vals, n, rfl, hH, hn, hv _ ⟨m, dx, vals, rfl, hH, Nat.le_of_lt (List.getElem?_eq_some_iff.mp hn).1, q⟩⟩
theorem w_oaug2 {H0 : Hp} {g : Int → Int → Int} {n m : Int} (ha : pE ta σ (upd H0 p (.ins C dx (names.zip vals))) (.ref p)) (hn : vals[i]? = some (.int n)) (hv : pE te σ (upd H0 p (.ins C dx (names.zip vals))) (.int m))
    (q : D.nx σ (upd H0 p (.ins C dx (names.zip (setN vals i (.int (g n m))))))) : oAug C names i ta te g D σ (upd H0 p (.ins C dx (names.zip vals))) :=
  ha _ ⟨p, dx, vals, n, rfl, upd_same, hn, hv _ ⟨m, dx, vals, rfl, upd_same, Nat.le_of_lt (List.getElem?_eq_some_iff.mp hn).1, by rw [upd_upd]; exact q⟩⟩
theorem m_ometh {sp : Sp} {Q : VK} (ha : pE ta σ H (.ref p)) (hH : H p = some (.ins C dx (names.zip vals))) (h : pA tl σ H vs) (q : sp (.ref p :: vs) H Q E0) : oMeth C names sp ta tl σ H Q := ha _ ⟨p, dx, vals, rfl, hH, h _ q⟩
theorem p_dgetz (ha : pE ta σ H (.ref p)) (hH : H p = some (.dK (dz names vals))) (hv : vals[i]? = some v) : pE (dGet names i ta) σ H v := fun Q q => ha _ ⟨p, vals, v, rfl, hH, hv, q⟩
theorem w_dset (hv : pE te σ H v) (ha : pE ta σ H (.ref p)) (hH : H p = some (.dK (dz names vals))) (hi : i ≤ vals.length) (q : D.nx σ (upd H p (.dK (dz names (setN vals i v))))) : dSet names i ta te D σ H :=
  hv _ (ha _ ⟨p, vals, rfl, hH, hi, q⟩)
theorem w_dset2 {H0 : Hp} (hv : pE te σ (upd H0 p (.dK (dz names vals))) v) (ha : pE ta σ (upd H0 p (.dK (dz names vals))) (.ref p)) (hi : i ≤ vals.length) (q : D.nx σ (upd H0 p (.dK (dz names (setN vals i v))))) :
    dSet names i ta te D σ (upd H0 p (.dK (dz names vals))) := hv _ (ha _ ⟨p, vals, rfl, upd_same, hi, by rw [upd_upd]; exact q⟩)
theorem w_retM {C' : Addr} {sp : Sp} (ha : pE ta σ H (.ref p)) (hH : H p = some (.ins C' dx (names.zip vals))) (h : pA tl σ H vs) (q : sp (.ref p :: vs) H D.rt E0) : tRet (oMeth C' names sp ta tl) D σ H := m_ometh ha hH h q
theorem w_asgM {C' : Addr} {sp : Sp} {n : Nat} (ha : pE ta σ H (.ref p)) (hH : H p = some (.ins C' dx (names.zip vals))) (h : pA tl σ H vs) (q : sp (.ref p :: vs) H (fun v H' => D.nx (σ.set n (some v)) H') E0) : tAsg (oMeth C' names sp ta tl) (gName n) D σ H := m_ometh ha hH h q
theorem w_dropM {C' : Addr} {sp : Sp} (ha : pE ta σ H (.ref p)) (hH : H p = some (.ins C' dx (names.zip vals))) (h : pA tl σ H vs) (q : sp (.ref p :: vs) H (fun _ H' => D.nx σ H') E0) : tDrop (oMeth C' names sp ta tl) D σ H := m_ometh ha hH h q
theorem w_retT (h : pA tl σ H vs) (hl : vs.length ≤ sizeLine) (q : NewAt H (.tup vs) D.rt) : tRet (tTup tl) D σ H := m_tup h hl q
theorem w_retL (h : pA tl σ H vs) (hl : vs.length ≤ sizeLine) (q : NewAt H (.lst vs) D.rt) : tRet (tLst tl) D σ H := m_lst h hl q
theorem w_asgL {n : Nat} (h : pA tl σ H vs) (hl : vs.length ≤ sizeLine) (q : NewAt H (.lst vs) fun v H1 => D.nx (σ.set n (some v)) H1) : tAsg (tLst tl) (gName n) D σ H := m_lst h hl q
theorem w_asgT {n : Nat} (h : pA tl σ H vs) (hl : vs.length ≤ sizeLine) (q : NewAt H (.tup vs) fun v H1 => D.nx (σ.set n (some v)) H1) : tAsg (tTup tl) (gName n) D σ H := m_tup h hl q
theorem get_ne {H : Hp} {a b : Addr} {o : HO} {r : Option HO} (h : b ≠ a) (q : H b = r) : upd H a o b = r := by rw [upd_ne h]; exact q
end
end PB
namespace PB
open PySem PySem.Spec PyProof.Rows L2
theorem sz_lt {n : Nat} (h : n < 10000000) : n < sizeLine := Nat.lt_of_lt_of_le h (by decide)
theorem szle {n : Nat} (h : Nat.ble n 1000 = true) : n ≤ sizeLine := Nat.le_trans (Nat.le_of_ble_eq_true h) (by decide)
def pSp (sp : Sp) (vs : List V) (H : Hp) (v : V) : Prop := ∀ Q : VK, Q v H → sp vs H Q E0
theorem p_call {sp : Sp} {tl : TA} {σ : L2.St} {H : Hp} {vs : List V} {v : V} (ha : pA tl σ H vs) (h : pSp sp vs H v) : pE (mCall sp tl) σ H v := fun Q q => ha _ (h Q q)
end PB

namespace PB
open PySem PySem.Spec PyProof.Rows L2
open C8 (tCut)
/-! ### what makes objects on its way: from the left, with what follows -/
section
variable {K : PySem.W.Frag} {σ : L2.St} {H : Hp} {ta tb tc te : TE} {t u : TT} {x y z v : V} {r r' : R2} {i j : Int} {b c : Bool} {D : Ends} {s1 s2 : TS} {tl : TA} {vs : List V} {Q : VK} {QA : List V → Hp → Prop} {QT : Bool → Hp → Prop} {C p dx : Addr} {names : List Str} {vals xs ys : List V}
theorem k_pure (h : pE te σ H v) (q : Q v H) : te σ H Q := h _ q
theorem k_pureA (h : pA tl σ H vs) (q : QA vs H) : tl σ H QA := h _ q
theorem k_pureT (h : pT t σ H b) (q : QT b H) : t σ H QT := h _ q
theorem k_op (h : ta σ H fun x H1 => tb σ H1 fun y H2 => r x y H2 Q) : tOp r ta tb σ H Q := h
theorem k_cb {r : R1} (h : tl σ H fun vs H1 => r vs H1 Q) : tCB r tl σ H Q := h
theorem k_nil (h : QA [] H) : tNil σ H QA := h
theorem k_consP (h : pE te σ H x) (q : tl σ H fun xs H2 => QA (x :: xs) H2) : tCons te tl σ H QA := h _ q
theorem k_cons (h : te σ H fun x H1 => tl σ H1 fun xs H2 => QA (x :: xs) H2) : tCons te tl σ H QA := h
theorem k_tupP (h : pA tl σ H vs) (hl : vs.length ≤ sizeLine) (q : NewAt H (.tup vs) Q) : tTup tl σ H Q := h _ ⟨hl, q.up⟩
def kNewT (Q : VK) : List V → Hp → Prop := fun vs H1 => vs.length ≤ sizeLine ∧ ∀ p, H1 p = none → Q (.ref p) (upd H1 p (.tup vs))
def kNewL (Q : VK) : List V → Hp → Prop := fun vs H1 => vs.length ≤ sizeLine ∧ ∀ p, H1 p = none → Q (.ref p) (upd H1 p (.lst vs))
theorem k_newT (hl : vs.length ≤ sizeLine) (q : NewAt H (.tup vs) Q) : kNewT Q vs H := ⟨hl, q.up⟩
theorem k_newL (hl : vs.length ≤ sizeLine) (q : NewAt H (.lst vs) Q) : kNewL Q vs H := ⟨hl, q.up⟩
theorem k_tup (h : tl σ H (kNewT Q)) : tTup tl σ H Q := h
theorem k_lstP (h : pA tl σ H vs) (hl : vs.length ≤ sizeLine) (q : NewAt H (.lst vs) Q) : tLst tl σ H Q := h _ ⟨hl, q.up⟩
theorem k_lst (h : tl σ H (kNewL Q)) : tLst tl σ H Q := h
theorem k_call {sp : Sp} (h : pA tl σ H vs) (q : sp vs H Q E0) : mCall sp tl σ H Q := h _ q
theorem k_callK {sp : Sp} (h : tl σ H fun vs H1 => sp vs H1 Q E0) : mCall sp tl σ H Q := h
theorem k_meth {sp : Sp} (ha : pE ta σ H (.ref p)) (hH : H p = some (.ins C dx (names.zip vals))) (h : pA tl σ H vs) (q : sp (.ref p :: vs) H Q E0) : oMeth C names sp ta tl σ H Q := m_ometh ha hH h q
theorem k_tupleOf (hx : H p = some (.lst xs)) (q : NewAt H (.tup xs) Q) : mTup K [.ref p] H Q := ⟨xs, .inl ⟨SqL.of hx, q.up⟩⟩
theorem k_listOf (hx : H p = some (.lst xs)) (q : NewAt H (.lst xs) Q) : mList K [.ref p] H Q := ⟨xs, .inl (SqL.of hx), q.up⟩
theorem k_listOfL (hx : SqL K H p xs) (q : NewAt H (.lst xs) Q) : mList K [.ref p] H Q := ⟨xs, .inl hx, q.up⟩
theorem k_cat {a b : Addr} (hx : H a = some (.lst xs)) (hy : H b = some (.lst ys)) (hl : xs.length + ys.length ≤ sizeLine) (q : NewAt H (.lst (xs ++ ys)) Q) : mAdd K (.ref a) (.ref b) H Q := .inl ⟨a, b, xs, ys, rfl, rfl, hx, hy, hl, q.up⟩
theorem k_slP {hi lo : TO} (h : pE te σ H v) (q : lo σ H fun l H2 => hi σ H2 fun u H3 => mSl K v l u H3 Q) : tSl (mSl K) te lo hi σ H Q := h _ q
theorem k_part {R : Option Int → Hp → Prop} (h : pE te σ H (.int i)) (q : R (some i) H) : mPart te σ H R := h _ q
theorem k_noPart {R : Option Int → Hp → Prop} (q : R none H) : tNoPart σ H R := q
theorem k_slL {a : Addr} {lo hi : Option Int} (hx : H a = some (.lst xs)) (q : NewAt H (.lst (cutV xs lo hi)) Q) : mSl K (.ref a) lo hi H Q := .inl ⟨a, xs, rfl, SqL.of hx, q.up⟩
theorem k_slLs {a : Addr} {lo hi : Option Int} (hx : SqL K H a xs) (q : NewAt H (.lst (cutV xs lo hi)) Q) : mSl K (.ref a) lo hi H Q := .inl ⟨a, xs, rfl, hx, q.up⟩
theorem w_asgK {n : Nat} (h : te σ H fun v H1 => D.nx (σ.set n (some v)) H1) : tAsg te (gName n) D σ H := h
theorem w_retK (h : te σ H D.rt) : tRet te D σ H := h
theorem w_dropK (h : te σ H fun _ H1 => D.nx σ H1) : tDrop te D σ H := h
theorem w_osetK {n : Nat} (h : te σ H fun v H1 => oSet C names n ta (tC v) D σ H1) : oSet C names n ta te D σ H := h
theorem w_dsetK {n : Nat} (h : te σ H fun v H1 => dSet names n ta (tC v) D σ H1) : dSet names n ta te D σ H := h
theorem w_appendT {l : Addr} (ha : pE ta σ H (.ref l)) (hH : H l = some (.lst xs)) (hv : pA tl σ H vs) (hs : vs.length ≤ sizeLine) (hl : xs.length < sizeLine) (q : NewAt H (.tup vs) fun v H1 => D.nx σ (upd H1 l (.lst (xs ++ [v])))) : tDrop (mLM mAppend ta (tCons (tTup tl) tNil)) D σ H := by
  refine ha _ ?_
  simp only [hH]
  refine hv _ ⟨hs, fun p hp => ?_⟩
  show mAppend (.ref l) [.ref p] (upd H p (.tup vs)) (fun _ H1 => D.nx σ H1)
  unfold mAppend
  simp only [upd_ne (ne_of_none hH hp), hH]
  exact ⟨hl, q.up p hp⟩
theorem k_testK {t : TE} (h : t σ H (kTest QT)) : mTest t σ H QT := h
theorem k_kTest (h : QT b H) : kTest QT (.bl b) H := h
theorem k_kTru (h : QT b H) : kTru K QT (.bl b) H := h
theorem k_kTruI (h : QT (!decide (i = 0)) H) : kTru K QT (.int i) H := h
theorem k_kTruN (h : QT false H) : kTru K QT .non H := h
def kIf (s1 s2 : TS) (D : Ends) (σ : L2.St) : Bool → Hp → Prop := fun b H1 => if b = true then s1 D σ H1 else s2 D σ H1
theorem w_ifK (h : t σ H (kIf s1 s2 D σ)) : tIfS t s1 s2 D σ H := h
theorem k_kIf (h1 : b = true → s1 D σ H) (h2 : b = false → s2 D σ H) : kIf s1 s2 D σ b H := by
  unfold kIf
  cases b with
  | true => exact h1 rfl
  | false => exact h2 rfl
theorem inV_ints {i : Int} : ∀ ns : List Int, inV (.int i) (ns.map V.int) = decide (i ∈ ns)
  | [] => by simp [inV]
  | n :: ns => by
    have ih := inV_ints (i := i) ns
    simp only [inV, List.map_cons, List.any_cons] at ih ⊢
    rw [ih]
    have e : eqV (.int n) (.int i) = decide (i = n) := by
      show (n == i) = decide (i = n)
      by_cases h : i = n
      · subst h; simp
      · have h' : ¬ n = i := fun z => h z.symm
        simp [h, h']
    rw [e]
    simp [List.mem_cons, Bool.decide_or]
theorem flat_ints : ∀ ns : List Int, (ns.map V.int).all flatV = true
  | [] => rfl
  | n :: ns => by simp [flatV]
def intsL : List V → List Int
  | [] => []
  | .int i :: r => i :: intsL r
  | _ :: r => 0 :: intsL r
theorem intsL_map : ∀ ns : List Int, intsL (ns.map V.int) = ns
  | [] => rfl
  | n :: ns => congrArg (n :: ·) (intsL_map ns)
theorem k_inU (hx : H p = some (.tup xs)) (e : (intsL xs).map V.int = xs) (q : Q (.bl (decide (i ∈ intsL xs))) H) : mIn K (.int i) (.ref p) H Q := .inl ⟨p, _, rfl, .inr (SqT.of hx), rfl, e ▸ flat_ints _, by rw [← e, inV_ints]; exact q⟩
theorem k_inL (hx : H p = some (.lst xs)) (e : (intsL xs).map V.int = xs) (q : Q (.bl (decide (i ∈ intsL xs))) H) : mIn K (.int i) (.ref p) H Q := .inl ⟨p, _, rfl, .inl (SqL.of hx), rfl, e ▸ flat_ints _, by rw [← e, inV_ints]; exact q⟩
theorem k_notInL (hx : H p = some (.lst xs)) (e : (intsL xs).map V.int = xs) (q : Q (.bl (!decide (i ∈ intsL xs))) H) : mNotIn K (.int i) (.ref p) H Q := .inl ⟨p, _, rfl, .inl (SqL.of hx), rfl, e ▸ flat_ints _, by rw [← e, inV_ints]; exact q⟩
theorem p_inL {ns : List Int} (hx : H p = some (.lst (ns.map V.int))) : pR (mIn K) (.int i) (.ref p) H (.bl (decide (i ∈ ns))) := fun _ q => k_inL hx (by rw [intsL_map]) (by rw [intsL_map]; exact q)
theorem p_notInL {ns : List Int} (hx : H p = some (.lst (ns.map V.int))) : pR (mNotIn K) (.int i) (.ref p) H (.bl (!decide (i ∈ ns))) := fun _ q => k_notInL hx (by rw [intsL_map]) (by rw [intsL_map]; exact q)
theorem k_truK {t : TE} (h : t σ H (kTru K QT)) : mTru K t σ H QT := h
end
end PB
namespace PB
open PySem PySem.Spec PyProof.Rows L2
theorem ne_fresh {H : Hp} {a b : Addr} {o : HO} (h' : H b = none) (h : H a = some o) : a ≠ b := ne_of_none h h'
end PB

set_option maxRecDepth 100000
set_option autoImplicit false
set_option maxHeartbeats 4000000
namespace PB
open PySem PySem.Spec PyProof.Rows L2
theorem sz_le {n : Nat} (h : n ≤ 10000000) : n ≤ sizeLine := Nat.le_trans h (by decide)
/-! ### slices by places that are not negative -/
theorem sIx_some {n d : Nat} {i : Int} (h : 0 ≤ i) : HT.sIx n d (some i) = min i.toNat n := by
  show (if i < 0 then (i + (n : Int)).toNat else min i.toNat n) = min i.toNat n
  rw [if_neg (by omega)]
theorem cut_all {xs : List V} : cutV xs none none = xs := by
  unfold cutV
  simp [HT.sIx_none]
theorem cut_to {xs : List V} {i : Int} (h : 0 ≤ i) : cutV xs none (some i) = xs.take i.toNat := by
  unfold cutV
  rw [HT.sIx_none, sIx_some h, List.drop_zero, Nat.sub_zero, List.take_eq_take_iff]
  omega
theorem cut_from {xs : List V} {i : Int} (h : 0 ≤ i) : cutV xs (some i) none = xs.drop i.toNat := by
  unfold cutV
  rw [HT.sIx_none, sIx_some h]
  by_cases c : i.toNat ≤ xs.length
  · rw [Nat.min_eq_left c, List.take_of_length_le (by rw [List.length_drop]; omega)]
  · have e : min i.toNat xs.length = xs.length := by omega
    rw [e, List.drop_length, List.drop_eq_nil_of_le (by omega)]
    simp
theorem cut_mid {xs : List V} {i j : Int} (h : 0 ≤ i) (h' : 0 ≤ j) : cutV xs (some i) (some j) = (xs.drop i.toNat).take (j.toNat - i.toNat) := by
  unfold cutV
  rw [sIx_some h, sIx_some h']
  by_cases c : i.toNat ≤ xs.length
  · rw [Nat.min_eq_left c, List.take_eq_take_iff, List.length_drop]
    omega
  · have e : min i.toNat xs.length = xs.length := by omega
    rw [e, List.drop_length, List.drop_eq_nil_of_le (by omega)]
    simp
/-! ### or, and with a part that makes objects -/
section
variable {K : PySem.W.Frag} {σ : L2.St} {H : Hp} {ta tb tc te tl : TE} {t u tt : TT} {b c : Bool} {QT : Bool → Hp → Prop} {Q : VK} {g : TG} {vs : List Nat} {D : Ends} {tb' : TS}
theorem k_orP (ha : pT t σ H b) (h1 : b = true → QT true H) (h2 : b = false → u σ H QT) : tOr t u σ H QT := by
  refine ha _ ?_
  cases b with
  | true => exact h1 rfl
  | false => exact h2 rfl
theorem k_andP (ha : pT t σ H b) (h1 : b = true → u σ H QT) (h2 : b = false → QT false H) : tAnd t u σ H QT := by
  refine ha _ ?_
  cases b with
  | true => exact h1 rfl
  | false => exact h2 rfl
theorem k_not (h : t σ H fun k H1 => QT (!k) H1) : tNot t σ H QT := h
/-! ### comprehensions over a list, whose test and element only look -/
def kLc (K : PySem.W.Frag) (g : TG) (tt : TT) (te : TE) (vs : List Nat) (σ : L2.St) (Q : VK) : VK := fun x H1 => ∃ a, x = .ref a ∧ (∃ xs, SqL K H1 a xs) ∧ ∀ D, H1 D = none → ∃ W : Nat → Nat → Hp → Prop, (∃ m, W 0 m (upd H1 D (.lst []))) ∧ ∀ i m H, W i m H →
  ((Itl K a).stop i H ∧ Q (.ref D) H) ∨ ((Itl K a).go i H ∧ ∃ Nx : Hp → Prop, (∀ H', Nx H' → ∃ m', m' < m ∧ W (i + 1) m' H') ∧ ∀ x H', (Itl K a).yld i H x H' → g x (wipe σ vs) H' fun σ2 H2 => wipe σ2 vs = wipe σ vs ∧ tt σ2 H2 fun b H3 =>
    if b = true then te σ2 H3 fun y H4 => ∃ acc, H4 D = some (.lst acc) ∧ acc.length < sizeLine ∧ Nx (upd H4 D (.lst (acc ++ [y]))) else Nx H3)
theorem k_lc (h : tl σ H (kLc K g tt te vs σ Q)) : tLc (iList K tl) g tt te vs σ H Q := h
/-- test b x, element f x: of the item alone -/
theorem k_lcP {a : Addr} {xs : List V} {i : Nat} (p : V → Bool) (f : V → V) (hx : SqL K H a xs) (hl : xs.length ≤ sizeLine) (hw : ∀ x, wipe ((wipe σ vs).set i (some x)) vs = wipe σ vs)
    (ht : ∀ x ∈ xs, ∀ D acc, H D = none → pT tt ((wipe σ vs).set i (some x)) (upd H D (.lst acc)) (p x))
    (he : ∀ x ∈ xs, p x = true → ∀ D acc, H D = none → pE te ((wipe σ vs).set i (some x)) (upd H D (.lst acc)) (f x))
    (q : NewAt H (.lst ((xs.filter p).map f)) Q) : kLc K (gName i) tt te vs σ Q (.ref a) H := by
  refine ⟨a, rfl, ⟨xs, hx⟩, fun D hD => ?_⟩
  have keep : ∀ acc, SqL K (upd H D (.lst acc)) a xs := fun acc => by
    rcases hx with (h | ⟨o, h⟩) | h
    · exact .inl (.inl (by rw [upd_ne (ne_of_none h hD)]; exact h))
    · exact .inl (.inr ⟨o, by rw [upd_ne (ne_of_none h hD)]; exact h⟩)
    · exact .inr h
  refine lc_list (K := K) (a := a) (xs := xs) (fun n H' => H' = upd H D (.lst (((xs.take n).filter p).map f))) (by simp) (fun n H' _ e => by rw [e]; exact keep _) ?_ ?_
  · intro n x H' hn e
    subst e
    have hm : x ∈ xs := List.mem_of_getElem? hn
    have ht' : xs.take (n + 1) = xs.take n ++ [x] := by rw [List.take_add_one, hn]; rfl
    refine ⟨hw x, ht x hm D _ hD _ ?_⟩
    cases hp : p x with
    | false =>
      rw [if_neg (by simp), ht', List.filter_append]
      simp [hp]
    | true =>
      rw [if_pos rfl]
      refine he x hm hp D _ hD _ ⟨_, upd_same, ?_, ?_⟩
      · rw [List.length_map]
        have h1 : ((xs.take n).filter p).length ≤ (xs.take n).length := List.length_filter_le ..
        have h2 : n < xs.length := (List.getElem?_eq_some_iff.mp hn).1
        rw [List.length_take] at h1
        omega
      · rw [upd_upd, ht', List.filter_append, List.map_append]
        simp [hp]
  · intro H' e
    subst e
    rw [List.take_length]
    exact q.up D hD
/-- over a text -/
theorem k_lcS {x : Str} {i : Nat} (hx : pE tl σ H (.str x)) (f : Nat → V) (hl : x.cps.toList.length ≤ sizeLine) (hw : ∀ v, wipe ((wipe σ vs).set i (some v)) vs = wipe σ vs)
    (he : ∀ c ∈ x.cps.toList, ∀ D acc, H D = none → pE te ((wipe σ vs).set i (some (.str ⟨#[c]⟩))) (upd H D (.lst acc)) (f c))
    (q : NewAt H (.lst (x.cps.toList.map f)) Q) : tLc (iStr tl) (gName i) tYes te vs σ H Q := by
  refine hx _ ⟨x, rfl, fun D hD => ?_⟩
  refine ⟨fun n m H' => m = x.cps.toList.length - n ∧ n ≤ x.cps.toList.length ∧ H' = upd H D (.lst ((x.cps.toList.take n).map f)), ⟨_, rfl, Nat.zero_le _, rfl⟩, ?_⟩
  rintro n m H' ⟨rfl, hn, rfl⟩
  by_cases hlt : n < x.cps.toList.length
  · refine .inr ⟨by rw [Array.length_toList] at hlt; exact hlt, fun H2 => H2 = upd H D (.lst ((x.cps.toList.take (n + 1)).map f)), fun H2 e => ⟨_, ?_, rfl, hlt, e⟩, ?_⟩
    · omega
    · rintro v H2 ⟨rfl, c, hc, rfl⟩
      rw [← Array.getElem?_toList] at hc
      refine ⟨hw _, (show pT tYes _ _ true from fun _ q => q) _ ?_⟩
      rw [if_pos rfl]
      refine he c (List.mem_of_getElem? hc) D _ hD _ ⟨_, upd_same, ?_, ?_⟩
      · rw [List.length_map, List.length_take]; omega
      · rw [upd_upd, List.take_add_one, hc, List.map_append]; rfl
  · refine .inl ⟨by rw [Array.length_toList] at hlt; exact Nat.le_of_not_lt hlt, ?_⟩
    rw [List.take_of_length_le (by omega)]
    exact q.up D hD
/-- over a range -/
def kLcR (g : TG) (tt : TT) (te : TE) (vs : List Nat) (σ : L2.St) (Q : VK) (lo : Int) (n : Nat) (H1 : Hp) : Prop := ∀ D, H1 D = none → ∃ W : Nat → Nat → Hp → Prop, (∃ m, W 0 m (upd H1 D (.lst []))) ∧ ∀ i m H, W i m H →
  ((Itr lo n).stop i H ∧ Q (.ref D) H) ∨ ((Itr lo n).go i H ∧ ∃ Nx : Hp → Prop, (∀ H', Nx H' → ∃ m', m' < m ∧ W (i + 1) m' H') ∧ ∀ x H', (Itr lo n).yld i H x H' → g x (wipe σ vs) H' fun σ2 H2 => wipe σ2 vs = wipe σ vs ∧ tt σ2 H2 fun b H3 =>
    if b = true then te σ2 H3 fun y H4 => ∃ acc, H4 D = some (.lst acc) ∧ acc.length < sizeLine ∧ Nx (upd H4 D (.lst (acc ++ [y]))) else Nx H3)
theorem k_lcR1 {tl : TA} {j : Int} (h : pA tl σ H [.int j]) (b0 : -(2 ^ 62) ≤ j) (b1 : j < 2 ^ 62) (q : kLcR g tt te vs σ Q 0 j.toNat H) : tLc (iRng1 tl) g tt te vs σ H Q := h _ ⟨j, rfl, b0, b1, q⟩
theorem k_lcR2 {tl : TA} {i j : Int} (h : pA tl σ H [.int i, .int j]) (b0 : -(2 ^ 62) ≤ i ∧ i < 2 ^ 62 ∧ -(2 ^ 62) ≤ j ∧ j < 2 ^ 62) (q : kLcR g tt te vs σ Q i (j - i).toNat H) : tLc (iRng2 tl) g tt te vs σ H Q := h _ ⟨i, j, rfl, b0, q⟩
theorem k_lcRP {lo : Int} {n i : Nat} (p : Int → Bool) (f : Int → V) (hl : n ≤ sizeLine) (hw : ∀ x, wipe ((wipe σ vs).set i (some x)) vs = wipe σ vs)
    (ht : ∀ k : Nat, k < n → ∀ D acc, H D = none → pT tt ((wipe σ vs).set i (some (.int (lo + k)))) (upd H D (.lst acc)) (p (lo + k)))
    (he : ∀ k : Nat, k < n → p (lo + k) = true → ∀ D acc, H D = none → pE te ((wipe σ vs).set i (some (.int (lo + k)))) (upd H D (.lst acc)) (f (lo + k)))
    (q : NewAt H (.lst ((((List.range n).map fun k : Nat => lo + (k : Int)).filter p).map f)) Q) : kLcR (gName i) tt te vs σ Q lo n H := by
  intro D hD
  refine lc_range (lo := lo) (n := n) (fun m H' => H' = upd H D (.lst ((((List.range m).map fun k : Nat => lo + (k : Int)).filter p).map f))) (by simp) ?_ ?_
  · intro k H' hk e
    subst e
    refine ⟨hw _, ht k hk D _ hD _ ?_⟩
    cases hp : p (lo + k) with
    | false =>
      rw [if_neg (by simp), List.range_succ, List.map_append, List.filter_append]
      simp [hp]
    | true =>
      rw [if_pos rfl]
      refine he k hk hp D _ hD _ ⟨_, upd_same, ?_, ?_⟩
      · rw [List.length_map]
        have h1 : (((List.range k).map fun k : Nat => lo + (k : Int)).filter p).length ≤ ((List.range k).map fun k : Nat => lo + (k : Int)).length := List.length_filter_le ..
        rw [List.length_map, List.length_range] at h1
        omega
      · rw [upd_upd, List.range_succ, List.map_append, List.filter_append, List.map_append]
        simp [hp]
  · intro H' e
    subst e
    exact q.up D hD
theorem p_yes : pT tYes σ H true := fun _ q => q
/-! ### loops -/
theorem w_forL {a : Addr} {xs : List V} (ha : pE tl σ H (.ref a)) (hx : SqL K H a xs) (Pv : Nat → L2.St → Hp → Prop) (h0 : Pv 0 σ H) (hl : ∀ i σ H, i ≤ xs.length → Pv i σ H → SqL K H a xs)
    (hs : ∀ i x σ H, xs[i]? = some x → Pv i σ H → g x σ H fun σ2 H2 => tb' { D with nx := Pv (i + 1), ct := Pv (i + 1), bk := D.nx } σ2 H2) (hd : ∀ σ H, Pv xs.length σ H → D.nx σ H) : tFor (iList K tl) g tb' D σ H :=
  ha _ ⟨a, rfl, ⟨xs, hx⟩, for_list Pv h0 hl hs hd⟩
theorem w_forT {a : Addr} {xs : List V} (ha : pE tl σ H (.ref a)) (hx : SqT K H a xs) (Pv : Nat → L2.St → Hp → Prop) (h0 : Pv 0 σ H) (hl : ∀ i σ H, i ≤ xs.length → Pv i σ H → SqT K H a xs)
    (hs : ∀ i x σ H, xs[i]? = some x → Pv i σ H → g x σ H fun σ2 H2 => tb' { D with nx := Pv (i + 1), ct := Pv (i + 1), bk := D.nx } σ2 H2) (hd : ∀ σ H, Pv xs.length σ H → D.nx σ H) : tFor (iTup K tl) g tb' D σ H :=
  ha _ ⟨a, rfl, ⟨xs, hx⟩, for_tup Pv h0 hl hs hd⟩
theorem w_forR1 {tl : TA} {j : Int} (h : pA tl σ H [.int j]) (b0 : -(2 ^ 62) ≤ j) (b1 : j < 2 ^ 62) (Pv : Nat → L2.St → Hp → Prop) (h0 : Pv 0 σ H)
    (hs : ∀ i σ H, i < j.toNat → Pv i σ H → g (.int (0 + i)) σ H fun σ2 H2 => tb' { D with nx := Pv (i + 1), ct := Pv (i + 1), bk := D.nx } σ2 H2) (hd : ∀ σ H, Pv j.toNat σ H → D.nx σ H) : tFor (iRng1 tl) g tb' D σ H :=
  h _ ⟨j, rfl, b0, b1, for_range Pv h0 hs hd⟩
theorem w_forR2 {tl : TA} {i j : Int} (h : pA tl σ H [.int i, .int j]) (b : -(2 ^ 62) ≤ i ∧ i < 2 ^ 62 ∧ -(2 ^ 62) ≤ j ∧ j < 2 ^ 62) (Pv : Nat → L2.St → Hp → Prop) (h0 : Pv 0 σ H)
    (hs : ∀ k σ H, k < (j - i).toNat → Pv k σ H → g (.int (i + k)) σ H fun σ2 H2 => tb' { D with nx := Pv (k + 1), ct := Pv (k + 1), bk := D.nx } σ2 H2) (hd : ∀ σ H, Pv (j - i).toNat σ H → D.nx σ H) : tFor (iRng2 tl) g tb' D σ H :=
  h _ ⟨i, j, rfl, b, for_range Pv h0 hs hd⟩
theorem g_name {i : Nat} {v : V} {R : L2.St → Hp → Prop} (h : R (σ.set i (some v)) H) : gName i v σ H R := h
theorem g_pair {i j : Nat} {a : Addr} {x y : V} {R : L2.St → Hp → Prop} (hx : SqT K H a [x, y]) (h : R ((σ.set i (some x)).set j (some y)) H) : gTup K 2 (gCons (gName i) (gCons (gName j) gNil)) (.ref a) σ H R :=
  ⟨a, [x, y], rfl, hx, rfl, x, [y], rfl, y, [], rfl, rfl, h⟩
/-! ### more of what follows -/
def kOr (u : TT) (σ : L2.St) (QT : Bool → Hp → Prop) : Bool → Hp → Prop := fun b H1 => if b = true then QT true H1 else u σ H1 QT
def kAnd (u : TT) (σ : L2.St) (QT : Bool → Hp → Prop) : Bool → Hp → Prop := fun b H1 => if b = true then u σ H1 QT else QT false H1
def kNot (QT : Bool → Hp → Prop) : Bool → Hp → Prop := fun b H1 => QT (!b) H1
theorem k_or (h : t σ H (kOr u σ QT)) : tOr t u σ H QT := h
theorem k_and (h : t σ H (kAnd u σ QT)) : tAnd t u σ H QT := h
theorem k_notK (h : t σ H (kNot QT)) : tNot t σ H QT := h
theorem k_kOr (h1 : b = true → QT true H) (h2 : b = false → u σ H QT) : kOr u σ QT b H := by
  unfold kOr
  cases b with
  | true => exact h1 rfl
  | false => exact h2 rfl
theorem k_kAnd (h1 : b = true → u σ H QT) (h2 : b = false → QT false H) : kAnd u σ QT b H := by
  unfold kAnd
  cases b with
  | true => exact h1 rfl
  | false => exact h2 rfl
theorem k_kNot (h : QT (!b) H) : kNot QT b H := h
def kM (C : Addr) (names : List Str) (sp : Sp) (tl : TA) (σ : L2.St) (Q : VK) : VK := fun x H1 => ∃ a dx vals, x = .ref a ∧ H1 a = some (.ins C dx (names.zip vals)) ∧ tl σ H1 fun vs H2 => sp (.ref a :: vs) H2 Q E0
theorem k_methK {C : Addr} {names : List Str} {sp : Sp} {tl : TA} (h : ta σ H (kM C names sp tl σ Q)) : oMeth C names sp ta tl σ H Q := h
theorem k_kM {C p dx : Addr} {names : List Str} {vals : List V} {sp : Sp} {tl : TA} {us : List V} (hH : H p = some (.ins C dx (names.zip vals))) (h : pA tl σ H us) (q : sp (.ref p :: us) H Q E0) : kM C names sp tl σ Q (.ref p) H := ⟨p, dx, vals, rfl, hH, h _ q⟩
theorem k_make {C : Addr} {sp : Sp} {tl : TA} {us : List V} (h : pA tl σ H us) (q : ∀ x dx H', H x = none → H' x = some (.ins C dx []) → Ext H H' → sp (.ref x :: us) H' (fun v H2 => v = .non ∧ Q (.ref x) H2) E0) : mMake C sp tl σ H Q :=
  h _ fun x dx nx nd ne => q x dx _ nx upd_same fun a o e => by rw [upd_ne (ne_of_none e nx), upd_ne (ne_of_none e nd)]; exact e
theorem k_eqD {a a' : Addr} {d e : PyData} (hd : Dp K H (.ref a) d) (he : Dp K H (.ref a') e) (sd : SeqAt.shaped d = true) (se : SeqAt.shaped e = true) (q : Q (.bl (PyData.eqv d e)) H) : mEq K (.ref a) (.ref a') H Q := ⟨d, e, hd, he, sd, se, q⟩
theorem k_neD {a a' : Addr} {d e : PyData} (hd : Dp K H (.ref a) d) (he : Dp K H (.ref a') e) (sd : SeqAt.shaped d = true) (se : SeqAt.shaped e = true) (q : Q (.bl (!PyData.eqv d e)) H) : mNe K (.ref a) (.ref a') H Q := ⟨d, e, hd, he, sd, se, q⟩
theorem k_all {a : Addr} {bs : List Bool} (hx : H a = some (.lst (bs.map V.bl))) (q : Q (.bl (bs.all id)) H) : rAll K [.ref a] H Q := ⟨a, bs, rfl, SqL.of hx, q⟩
theorem k_any {a : Addr} {bs : List Bool} (hx : H a = some (.lst (bs.map V.bl))) (q : Q (.bl (bs.any id)) H) : rAny K [.ref a] H Q := ⟨a, bs, rfl, SqL.of hx, q⟩
theorem kit_is (K : PySem.W.Frag) {m n : String} {b : Bool} (h : ∀ K, PySem.W.kitOne K (.type m) (.type n) = some b) : PySem.W.kitOne K (.type m) (.type n) = some b := h K
theorem p_isInt {i : Int} : pC (rIsi K) [.int i, .ty "int"] H (.bl true) := fun _ q => ⟨_, _, _, _, true, rfl, .ty _, .base (.int i), kit_ty (by decide +kernel), q⟩
theorem p_isIntB {i : Int} : pC (rIsi K) [.int i, .ty "bool"] H (.bl false) := fun _ q => ⟨_, _, _, _, false, rfl, .ty _, .base (.int i), kit_ty (by decide +kernel), q⟩
theorem p_isLst {a : Addr} {xs : List V} (h : H a = some (.lst xs)) : pC (rIsi K) [.ref a, .ty "list"] H (.bl true) := fun _ q => ⟨_, _, _, _, true, rfl, .ty _, .base (.lst h), kit_ty (by decide +kernel), q⟩
theorem p_isTup {a : Addr} {xs : List V} (h : H a = some (.tup xs)) : pC (rIsi K) [.ref a, .ty "tuple"] H (.bl true) := fun _ q => ⟨_, _, _, _, true, rfl, .ty _, .base (.tup h), kit_ty (by decide +kernel), q⟩
theorem p_notV {te : TE} (h : pE te σ H (.bl b)) : pE (mNotV te) σ H (.bl (!b)) := fun _ q => h _ q
theorem at_ints {ns : List Int} {k : Int} (h0 : 0 ≤ k) (h1 : k < (ns.length : Int)) : atI (ns.map V.int) k = some (.int (ns.getD k.toNat 0)) := by
  obtain ⟨j, rfl⟩ : ∃ j : Nat, k = (j : Int) := ⟨k.toNat, by omega⟩
  have hj : j < ns.length := by omega
  refine atI_nat ?_
  rw [Int.toNat_natCast, List.getElem?_map, List.getD_eq_getElem?_getD, List.getElem?_eq_getElem hj]
  rfl
theorem p_ixIL {p : Addr} {ns : List Int} {k : Int} (h : SqL K H p (ns.map V.int)) (h0 : 0 ≤ k) (h1 : k < (ns.length : Int)) : pR (mIx K) (.ref p) (.int k) H (.int (ns.getD k.toNat 0)) := fun _ q => ⟨_, _, .inl h, at_ints h0 h1, q⟩
theorem p_ixIH {p : Addr} {ns : List Int} {k : Int} (h : H p = some (.lst (ns.map V.int))) (h0 : 0 ≤ k) (h1 : k < (ns.length : Int)) : pR (mIx K) (.ref p) (.int k) H (.int (ns.getD k.toNat 0)) := fun _ q => ⟨_, _, .inl (SqL.of h), at_ints h0 h1, q⟩
theorem p_ixIU {p : Addr} {ns : List Int} {k : Int} (h : H p = some (.tup (ns.map V.int))) (h0 : 0 ≤ k) (h1 : k < (ns.length : Int)) : pR (mIx K) (.ref p) (.int k) H (.int (ns.getD k.toNat 0)) := fun _ q => ⟨_, _, .inr (SqT.of h), at_ints h0 h1, q⟩
end
end PB

set_option maxRecDepth 100000
set_option autoImplicit false
set_option maxHeartbeats 4000000
namespace PB
open PySem PySem.Spec PyProof.Rows L2
/-! ### data of the written part -/
mutual
def isD (K : PySem.W.Frag) : PyData → Value → Bool
  | .none, .none => true
  | .bool a, .bool b => a == b
  | .int i, .int j _ => decide (i = j)
  | .str x, .str y _ => decide (x = y)
  | .tuple ds, .ref a => (match K.lookup a with
    | some ⟨.type c, _, .seq its _, _⟩ => decide (c = "tuple") && (decide (its.size ≤ sizeLine) && isDs K ds its.toList)
    | _ => false)
  | .list ds, .ref a => (match K.lookup a with
    | some ⟨.type c, none, .seq its _, _⟩ => decide (c = "list") && (decide (its.size ≤ sizeLine) && isDs K ds its.toList)
    | _ => false)
  | _, _ => false
def isDs (K : PySem.W.Frag) : List PyData → List Value → Bool
  | [], [] => true
  | d :: ds, u :: us => isD K d u && isDs K ds us
  | _, _ => false
end
mutual
theorem isD_ok {K : PySem.W.Frag} : ∀ (d : PyData) (u : Value), isD K d u = true → ∃ v, RelV v u ∧ ∀ H, Dp K H v d
  | .none, u, h => by
    cases u with
    | none => exact ⟨.non, rfl, fun _ => .non⟩
    | _ => simp [isD] at h
  | .bool a, u, h => by
    cases u with
    | bool b =>
      unfold isD at h
      have e : a = b := by simpa using h
      subst e
      exact ⟨.bl a, rfl, fun _ => .bl a⟩
    | _ => simp [isD] at h
  | .int i, u, h => by
    cases u with
    | int j t =>
      unfold isD at h
      have e : i = j := of_decide_eq_true h
      subst e
      exact ⟨.int i, ⟨t, rfl⟩, fun _ => .int i⟩
    | _ => simp [isD] at h
  | .str x, u, h => by
    cases u with
    | str y t =>
      unfold isD at h
      have e : x = y := of_decide_eq_true h
      subst e
      exact ⟨.str x, ⟨t, rfl⟩, fun _ => .str x⟩
    | _ => simp [isD] at h
  | .tuple ds, u, h => by
    cases u with
    | ref a =>
      unfold isD at h
      split at h
      · rename_i c od its n sl e
        obtain ⟨h1, h2⟩ := He.ba h
        obtain ⟨h3, h4⟩ := He.ba h2
        obtain ⟨vs, r, k⟩ := isDs_ok ds its.toList h4
        exact ⟨.ref a, rfl, fun H => .tup (.inr ⟨_, its, n, e, congrArg Value.type (of_decide_eq_true h1), rfl, of_decide_eq_true h3, r⟩) (k H)⟩
      · cases h
    | _ => simp [isD] at h
  | .list ds, u, h => by
    cases u with
    | ref a =>
      unfold isD at h
      split at h
      · rename_i c its n sl e
        obtain ⟨h1, h2⟩ := He.ba h
        obtain ⟨h3, h4⟩ := He.ba h2
        obtain ⟨vs, r, k⟩ := isDs_ok ds its.toList h4
        exact ⟨.ref a, rfl, fun H => .lst (.inr ⟨_, its, n, e, congrArg Value.type (of_decide_eq_true h1), rfl, rfl, of_decide_eq_true h3, r⟩) (k H)⟩
      · cases h
    | _ => simp [isD] at h
  | .dict _, u, h => by cases u <;> simp [isD] at h
theorem isDs_ok {K : PySem.W.Frag} : ∀ (ds : List PyData) (us : List Value), isDs K ds us = true → ∃ vs, Vals vs us ∧ ∀ H, DpAll K H vs ds
  | [], [], _ => ⟨[], .nil, fun _ => .nil⟩
  | d :: ds, u :: us, h => by
    unfold isDs at h
    obtain ⟨h1, h2⟩ := He.ba h
    obtain ⟨v, r, k⟩ := isD_ok d u h1
    obtain ⟨vs, rs, ks⟩ := isDs_ok ds us h2
    exact ⟨v :: vs, .cons r rs, fun H => .cons (k H) (ks H)⟩
  | [], _ :: _, h => by simp [isDs] at h
  | _ :: _, [], h => by simp [isDs] at h
end
theorem datG_ok {K : PySem.W.Frag} {x : Str} {d : PyData} (h : isD K d (.ref (He.ga K x)) = true) (H : Hp) : Dp K H (.ref (He.ga K x)) d := by
  obtain ⟨v, r, k⟩ := isD_ok d _ h
  cases v with
  | ref a =>
    have e : a = He.ga K x := (Value.ref.inj (show Value.ref (He.ga K x) = Value.ref a from r)).symm
    rw [← e]
    exact k H
  | _ => revert r; intro r; first | (obtain ⟨t, r⟩ := r; cases r) | (cases r)
/-! ### the head's hook: the defs, the facts, one more Bool -/
abbrev AlP : Type := He.AlD × Bool
def obsP (n : Nat) (fa : List He.Fa) (fn : List He.DefD) (ex : PySem.W.Frag → Bool) (g : Addr → Option Obj) : AlP := (He.obsDG n fa fn g, ex (He.frG g (He.asD g n)))
def hookP (n : Nat) (fa : List He.Fa) (fn : List He.DefD) (ex : PySem.W.Frag → Bool) : PySem.W.Hook where
  α := AlP
  obs := fun s => obsP n fa fn ex s.heap.get?
  val := fun _ => (He.valD fn, true)
  says := fun _ h => ∃ K : PySem.W.Frag, K.In h ∧ He.SaysD fa fn K ∧ ex K = true
  of := fun _ _ e => ⟨_, He.frG_in, congrArg (fun z : AlP => z.1) e, congrArg (fun z : AlP => z.2) e⟩
  keeps := fun _ _ _ ⟨K, hK, c⟩ k => ⟨K, PySem.W.Frag.In.keeps hK k, c⟩
theorem obsP_eq {n : Nat} {fa : List He.Fa} {fn : List He.DefD} {ex : PySem.W.Frag → Bool} {g : Addr → Option Obj} {s : Shared} (h : ∀ a, g a = s.heap.get? a) : obsP n fa fn ex g = (hookP n fa fn ex).obs s := by
  have e : g = s.heap.get? := funext h
  rw [e] <;> rfl
end PB

set_option maxRecDepth 100000
set_option autoImplicit false
set_option maxHeartbeats 4000000
namespace PB
open PySem PySem.Spec PyProof.Rows L2
/-! ### bits -/
def mBor : R2 := fun x y H Q => match x, y with
  | .int i, .int j => Q (.int (Builtin.bitOr i j)) H
  | _, _ => False
def mBand : R2 := fun x y H Q => match x, y with
  | .int i, .int j => Q (.int (Builtin.bitAnd i j)) H
  | _, _ => False
theorem op_mBor {X : Cx} : OpR X (binaryOp .BitOr) mBor := op_imp op_or fun x y H Q h => by
  cases x <;> cases y <;> first | exact h.elim | exact ⟨_, _, rfl, rfl, h⟩
theorem op_mBand {X : Cx} : OpR X (binaryOp .BitAnd) mBand := op_imp op_and fun x y H Q h => by
  cases x <;> cases y <;> first | exact h.elim | exact ⟨_, _, rfl, rfl, h⟩
theorem p_bor {H : Hp} {i j : Int} : pR mBor (.int i) (.int j) H (.int (Builtin.bitOr i j)) := fun _ q => q
theorem p_band {H : Hp} {i j : Int} : pR mBand (.int i) (.int j) H (.int (Builtin.bitAnd i j)) := fun _ q => q
/-! ### a written dict: numbers to numbers -/
def entI : List (Int × Int) → List DictEntry → Bool
  | [], [] => true
  | p :: ps, e :: es => (match e.key, e.val with
    | .int i _, .int j _ => decide (i = p.1) && (decide (j = p.2) && decide (e.hash = hashInt p.1))
    | _, _ => false) && entI ps es
  | _, _ => false
def isDI (K : PySem.W.Frag) (kvs : List (Int × Int)) (a : Addr) : Bool := match K.lookup a with
  | some ⟨.type c, none, .dict es _, sl⟩ => decide (c = "dict") && (sl.isEmpty && (decide ((a == sysModules) = false) && entI kvs es.toList))
  | _ => false
structure KDi (K : PySem.W.Frag) (a : Addr) (kvs : List (Int × Int)) : Prop where
  ex : ∃ es n, K.lookup a = some ⟨.type "dict", none, .dict es n, #[]⟩ ∧ entI kvs es.toList = true ∧ (a == sysModules) = false
theorem isDI_ok {K : PySem.W.Frag} {kvs : List (Int × Int)} {a : Addr} (h : isDI K kvs a = true) : KDi K a kvs := by
  unfold isDI at h
  split at h
  · rename_i c es n sl e
    obtain ⟨h1, h2⟩ := He.ba h
    obtain ⟨h3, h4⟩ := He.ba h2
    obtain ⟨h5, h6⟩ := He.ba h4
    have e1 : c = "dict" := of_decide_eq_true h1
    have e2 : sl = #[] := Array.isEmpty_iff.mp h3
    subst e1 e2
    exact ⟨es, n, e, h6, of_decide_eq_true h5⟩
  · cases h
def luI : List (Int × Int) → Int → Option Int
  | [], _ => none
  | p :: ps, k => if p.1 = k then some p.2 else luI ps k
theorem entI_keys : ∀ {kvs : List (Int × Int)} {es : List DictEntry}, entI kvs es = true → ∀ e ∈ es, ∃ k : Int, Value.isInt k e.key = true ∧ e.hash = hashInt k
  | [], [], _, e, m => by cases m
  | p :: ps, d :: ds, h, e, m => by
    unfold entI at h
    obtain ⟨h1, h2⟩ := He.ba h
    rcases List.mem_cons.mp m with rfl | m
    · split at h1
      · rename_i i t j u e1 e2
        obtain ⟨h3, h4⟩ := He.ba h1
        obtain ⟨h5, h6⟩ := He.ba h4
        refine ⟨p.1, ?_, of_decide_eq_true h6⟩
        rw [e1, of_decide_eq_true h3]
        unfold Value.isInt
        simp
      · cases h1
    · exact entI_keys h2 e m
  | [], _ :: _, h, _, _ => by simp [entI] at h
  | _ :: _, [], h, _, _ => by simp [entI] at h
theorem entI_find {k : Int} : ∀ {kvs : List (Int × Int)} {es : List DictEntry}, entI kvs es = true → (match luI kvs k with
    | some j => ∃ t, (es.find? fun e => Value.isInt k e.key).map (·.val) = some (.int j t)
    | none => (es.find? fun e => Value.isInt k e.key).map (·.val) = none)
  | [], [], _ => rfl
  | p :: ps, d :: ds, h => by
    unfold entI at h
    obtain ⟨h1, h2⟩ := He.ba h
    split at h1
    · rename_i i t j u e1 e2
      obtain ⟨h3, h4⟩ := He.ba h1
      obtain ⟨h5, h6⟩ := He.ba h4
      have a1 : i = p.1 := of_decide_eq_true h3
      have a2 : j = p.2 := of_decide_eq_true h5
      unfold luI
      by_cases c : p.1 = k
      · rw [if_pos c]
        refine ⟨u, ?_⟩
        have z : Value.isInt k d.key = true := by rw [e1, a1, c]; unfold Value.isInt; simp
        rw [List.find?_cons_of_pos (p := fun e : DictEntry => Value.isInt k e.key) z]
        rw [Option.map_some, e2, a2]
      · rw [if_neg c]
        have z : ¬ Value.isInt k d.key = true := by
          rw [e1, a1]
          unfold Value.isInt
          simpa using c
        rw [List.find?_cons_of_neg (p := fun e : DictEntry => Value.isInt k e.key) z]
        exact entI_find h2
    · cases h1
  | [], _ :: _, h => by simp [entI] at h
  | _ :: _, [], h => by simp [entI] at h
theorem mapOf_KI {prog : Program} {w : World} {K : PySem.W.Frag} {h : Heap} {a : Addr} {es : Array DictEntry} {n : Nat} {kvs : List (Int × Int)} (X : K.In h) (hl : K.lookup a = some ⟨.type "dict", none, .dict es n, #[]⟩) (hk : entI kvs es.toList = true) :
    h.MapOf (PySem.intKind prog w) a (fun k => findBy Value.isInt es k) :=
  ⟨_, es, n, X _ _ hl, ⟨rfl, rfl, rfl⟩, rfl, fun e he => entI_keys hk e (Array.mem_toList_iff.mpr he), fun _ => rfl⟩
theorem findBy_I {es : Array DictEntry} {k : Int} : findBy Value.isInt es k = (es.toList.find? fun e => Value.isInt k e.key).map (·.val) := by
  unfold findBy
  rw [← Array.find?_toList]
def rIxDI (K : PySem.W.Frag) : R2 := fun x y H Q => ∃ p i kvs j, x = .ref p ∧ y = .int i ∧ KDi K p kvs ∧ luI kvs i = some j ∧ Q (.int j) H
def rInDI (K : PySem.W.Frag) : R2 := fun x y H Q => ∃ p i kvs, x = .int i ∧ y = .ref p ∧ KDi K p kvs ∧ Q (.bl (luI kvs i).isSome) H
theorem ix_kdi {X : Cx} : IxR X (rIxDI X.K) := by
  intro value slice pins s σ H x y v u Q I rx ry h hs
  obtain ⟨p, i, kvs, j, rfl, rfl, ⟨es, n, hl, hk, _⟩, lu, q⟩ := h
  obtain rfl : v = Value.ref p := rx
  obtain ⟨t, rfl⟩ := (show ∃ t, u = Value.int i t from ry)
  have hm := mapOf_KI (prog := X.prog) (w := X.w) I.kIn hl hk
  have ef := entI_find (k := i) hk
  rw [lu] at ef
  obtain ⟨t', ef⟩ := ef
  have hkey : (PySem.intKind X.prog X.w).is i (.int i t) = true := by show (i == i) = true; simp
  exact tail_any hm.typeIs slot_dict_getitem.lookup (wpAny_getItem_of hkey hm (findBy_I.trans ef) ⟨.int j, H, I.tok _, ⟨t', rfl⟩, q⟩) hs
theorem op_inDI {X : Cx} : OpR X (compareOp .In) (rInDI X.K) := by
  intro pins s σ H x y v u Q I rx ry h
  obtain ⟨p, i, kvs, rfl, rfl, ⟨es, n, hl, hk, hd⟩, q⟩ := h
  obtain rfl : u = Value.ref p := ry
  obtain ⟨t, rfl⟩ := (show ∃ t, v = Value.int i t from rx)
  have hm := mapOf_KI (prog := X.prog) (w := X.w) I.kIn hl hk
  have hkey : (PySem.intKind X.prog X.w).is i (.int i t) = true := by show (i == i) = true; simp
  refine wpAny_in_of hkey hd hm ?_
  have e : (findBy Value.isInt es i).isSome = (luI kvs i).isSome := by
    rw [findBy_I]
    have ef := entI_find (k := i) hk
    cases c : luI kvs i with
    | none => rw [c] at ef; rw [ef]; rfl
    | some j => rw [c] at ef; obtain ⟨t', ef⟩ := ef; rw [ef]; rfl
  refine ⟨.bl _, H, I.tok _, ?_, q⟩
  rw [e]
  rfl
theorem p_ixDI {K : PySem.W.Frag} {H : Hp} {p : Addr} {i j : Int} {kvs : List (Int × Int)} (h : KDi K p kvs) (e : luI kvs i = some j) : pR (rIxDI K) (.ref p) (.int i) H (.int j) := fun _ q => ⟨p, i, kvs, j, rfl, rfl, h, e, q⟩
theorem p_inDI {K : PySem.W.Frag} {H : Hp} {p : Addr} {i : Int} {kvs : List (Int × Int)} (h : KDi K p kvs) : pR (rInDI K) (.int i) (.ref p) H (.bl (luI kvs i).isSome) := fun _ q => ⟨p, i, kvs, rfl, rfl, h, q⟩
theorem p_lenU {K : PySem.W.Frag} {H : Hp} {p : Addr} {xs : List V} (h : H p = some (.tup xs)) : pC (mLen K) [.ref p] H (.int (xs.length : Int)) := fun _ q => ⟨xs, .inr (SqT.of h), q⟩
theorem w_break {D : Ends} {σ : L2.St} {H : Hp} (h : D.bk σ H) : tBreak D σ H := h
theorem w_cont {D : Ends} {σ : L2.St} {H : Hp} (h : D.ct σ H) : tCont D σ H := h
/-! ### while, a tuple taken apart -/
theorem w_while {c : TT} {tb : TS} {D : Ends} {σ : L2.St} {H : Hp} (W : Nat → L2.St → Hp → Prop) (m0 : Nat) (h0 : W m0 σ H)
    (hs : ∀ m σ H, W m σ H → ∃ b, pT c σ H b ∧ (b = true → tb { D with nx := fun σ' H' => ∃ m', m' < m ∧ W m' σ' H', ct := fun σ' H' => ∃ m', m' < m ∧ W m' σ' H', bk := D.nx } σ H) ∧ (b = false → D.nx σ H)) : tWhile c tb D σ H :=
  ⟨W, ⟨m0, h0⟩, fun m σ H w => by
    obtain ⟨b, hc, h1, h2⟩ := hs m σ H w
    refine hc _ ?_
    cases b with
    | true =>
      rw [if_pos rfl]
      exact ⟨_, fun _ _ z => z, h1 rfl⟩
    | false =>
      rw [if_neg (by decide)]
      exact h2 rfl⟩
theorem g_three {K : PySem.W.Frag} {i j k : Nat} {a : Addr} {x y z : V} {σ : L2.St} {H : Hp} {R : L2.St → Hp → Prop} (hx : SqT K H a [x, y, z]) (h : R (((σ.set i (some x)).set j (some y)).set k (some z)) H) : gTup K 3 (gCons (gName i) (gCons (gName j) (gCons (gName k) gNil))) (.ref a) σ H R :=
  ⟨a, [x, y, z], rfl, hx, rfl, x, [y, z], rfl, y, [z], rfl, z, [], rfl, rfl, h⟩
section
variable {K : PySem.W.Frag} {σ : L2.St} {H : Hp} {tl te : TE} {tt : TT} {Q : VK} {vs : List Nat}
/-- a comprehension over a tuple: test and element only look -/
theorem k_lcTP {a : Addr} {xs : List V} {i : Nat} (p : V → Bool) (f : V → V) (ha : pE tl σ H (.ref a)) (hx : SqT K H a xs) (hl : xs.length ≤ sizeLine) (hw : ∀ x, wipe ((wipe σ vs).set i (some x)) vs = wipe σ vs)
    (ht : ∀ x ∈ xs, ∀ D acc, H D = none → pT tt ((wipe σ vs).set i (some x)) (upd H D (.lst acc)) (p x))
    (he : ∀ x ∈ xs, p x = true → ∀ D acc, H D = none → pE te ((wipe σ vs).set i (some x)) (upd H D (.lst acc)) (f x))
    (q : NewAt H (.lst ((xs.filter p).map f)) Q) : tLc (iTup K tl) (gName i) tt te vs σ H Q := by
  refine ha _ ⟨a, rfl, ⟨xs, hx⟩, fun D hD => ?_⟩
  have keep : ∀ acc, SqT K (upd H D (.lst acc)) a xs := fun acc => ext_t (Ext.new hD) hx
  refine lc_tup (K := K) (a := a) (xs := xs) (fun n H' => H' = upd H D (.lst (((xs.take n).filter p).map f))) (by simp) (fun n H' _ e => by rw [e]; exact keep _) ?_ ?_
  · intro n x H' hn e
    subst e
    have hm : x ∈ xs := List.mem_of_getElem? hn
    have ht' : xs.take (n + 1) = xs.take n ++ [x] := by rw [List.take_add_one, hn]; rfl
    refine ⟨hw x, ht x hm D _ hD _ ?_⟩
    cases hp : p x with
    | false =>
      rw [if_neg (by simp), ht', List.filter_append]
      simp [hp]
    | true =>
      rw [if_pos rfl]
      refine he x hm hp D _ hD _ ⟨_, upd_same, ?_, ?_⟩
      · rw [List.length_map]
        have h1 : ((xs.take n).filter p).length ≤ (xs.take n).length := List.length_filter_le ..
        have h2 : n < xs.length := (List.getElem?_eq_some_iff.mp hn).1
        rw [List.length_take] at h1
        omega
      · rw [upd_upd, ht', List.filter_append, List.map_append]
        simp [hp]
  · intro H' e
    subst e
    rw [List.take_length]
    exact q.up D hD
/-- a comprehension whose element may make objects, without a test: over a list; what is asked of an element -/
def kEl (D : Addr) (P : Addr → Nat → List V → Hp → Prop) (i : Nat) : VK := fun y H4 => ∃ acc, H4 D = some (.lst acc) ∧ acc.length < sizeLine ∧ ∃ acc', acc'.length = i + 1 ∧ (upd H4 D (.lst (acc ++ [y]))) D = some (.lst acc') ∧ P D (i + 1) acc' (upd H4 D (.lst (acc ++ [y])))
theorem kEl_mk {D : Addr} {P : Addr → Nat → List V → Hp → Prop} {i : Nat} {y : V} {H4 : Hp} {acc : List V} (h : H4 D = some (.lst acc)) (l : acc.length = i) (z : i < sizeLine) (p : P D (i + 1) (acc ++ [y]) (upd H4 D (.lst (acc ++ [y])))) : kEl D P i y H4 :=
  ⟨acc, h, by omega, acc ++ [y], by simp [l], upd_same, p⟩
theorem k_lcG {a : Addr} {xs : List V} {j : Nat} (hx : SqL K H a xs) (hl : xs.length ≤ sizeLine) (hw : ∀ x, wipe ((wipe σ vs).set j (some x)) vs = wipe σ vs) (P : Addr → Nat → List V → Hp → Prop)
    (h0 : ∀ D, H D = none → P D 0 [] (upd H D (.lst [])))
    (hk : ∀ D i acc H', H D = none → P D i acc H' → SqL K H' a xs)
    (hs : ∀ D i x acc H', H D = none → xs[i]? = some x → acc.length = i → H' D = some (.lst acc) → P D i acc H' → te ((wipe σ vs).set j (some x)) H' (kEl D P i))
    (q : ∀ D acc H', H D = none → H' D = some (.lst acc) → acc.length = xs.length → P D xs.length acc H' → Q (.ref D) H') : kLc K (gName j) tYes te vs σ Q (.ref a) H := by
  refine ⟨a, rfl, ⟨xs, hx⟩, fun D hD => ?_⟩
  refine ⟨fun i m H' => m = xs.length - i ∧ i ≤ xs.length ∧ ∃ acc, acc.length = i ∧ H' D = some (.lst acc) ∧ P D i acc H', ⟨_, rfl, Nat.zero_le _, [], rfl, upd_same, h0 D hD⟩, ?_⟩
  rintro i m H' ⟨rfl, hi, acc, al, hD', p⟩
  by_cases c : i < xs.length
  · refine .inr ⟨⟨xs, xs[i], hk D i acc H' hD p, by simp [c]⟩, fun H2 => ∃ acc', acc'.length = i + 1 ∧ H2 D = some (.lst acc') ∧ P D (i + 1) acc' H2, ?_, ?_⟩
    · rintro H2 ⟨acc', z1, z2, z3⟩
      exact ⟨xs.length - (i + 1), by omega, rfl, by omega, acc', z1, z2, z3⟩
    · rintro x H2 ⟨rfl, hy⟩
      have e := hy xs (hk D i acc H2 hD p)
      refine ⟨hw x, (show pT tYes _ _ true from fun _ q => q) _ ?_⟩
      rw [if_pos rfl]
      exact hs D i x acc H2 hD e al hD' p
  · have e : i = xs.length := by omega
    subst e
    exact .inl ⟨⟨xs, hk D _ acc H' hD p, Nat.le_refl _⟩, q D acc H' hD hD' al p⟩
/-- the same over a range -/
theorem k_lcRG {lo : Int} {n j : Nat} (hl : n ≤ sizeLine) (hw : ∀ x, wipe ((wipe σ vs).set j (some x)) vs = wipe σ vs) (P : Addr → Nat → List V → Hp → Prop)
    (h0 : ∀ D, H D = none → P D 0 [] (upd H D (.lst [])))
    (hs : ∀ D i acc H', H D = none → i < n → acc.length = i → H' D = some (.lst acc) → P D i acc H' → te ((wipe σ vs).set j (some (.int (lo + i)))) H' (kEl D P i))
    (q : ∀ D acc H', H D = none → H' D = some (.lst acc) → acc.length = n → P D n acc H' → Q (.ref D) H') : kLcR (gName j) tYes te vs σ Q lo n H := by
  intro D hD
  refine ⟨fun i m H' => m = n - i ∧ i ≤ n ∧ ∃ acc, acc.length = i ∧ H' D = some (.lst acc) ∧ P D i acc H', ⟨_, rfl, Nat.zero_le _, [], rfl, upd_same, h0 D hD⟩, ?_⟩
  rintro i m H' ⟨rfl, hi, acc, al, hD', p⟩
  by_cases c : i < n
  · refine .inr ⟨c, fun H2 => ∃ acc', acc'.length = i + 1 ∧ H2 D = some (.lst acc') ∧ P D (i + 1) acc' H2, ?_, ?_⟩
    · rintro H2 ⟨acc', z1, z2, z3⟩
      exact ⟨n - (i + 1), by omega, rfl, by omega, acc', z1, z2, z3⟩
    · rintro x H2 ⟨rfl, rfl⟩
      refine ⟨hw _, (show pT tYes _ _ true from fun _ q => q) _ ?_⟩
      rw [if_pos rfl]
      exact hs D i acc H2 hD c al hD' p
  · have e : i = n := by omega
    subst e
    exact .inl ⟨Nat.le_refl _, q D acc H' hD hD' al p⟩
end
end PB

set_option maxRecDepth 100000
set_option autoImplicit false
set_option maxHeartbeats 4000000
namespace PB
open PySem PySem.Spec PyProof.Rows L2
open C8 (Met)
/-! ### == by an own __eq__, isinstance of an own class, is of bools, zip -/
structure OwnC (K : PySem.W.Frag) (C : Addr) : Prop where
  a : PySem.W.findIn K (.ref C) "__class__" = some (some (.builtin "object.__class__"))
  b : PySem.W.specialIn K (.builtin "object.__class__") "__get__" = some (some (.builtin "getset_descriptor.__get__"))
  c : PySem.W.takesIn K (.builtin "object.__class__") = some true
  d : PySem.W.mroIn K C (.type "object") = some true
  e : PySem.W.kitOne K (.ref C) (.ref C) = some true
  f : PySem.W.kitOne K (.type "int") (.ref C) = some false
  g : PySem.W.kitOne K (.type "list") (.ref C) = some false
  h : PySem.W.notFirst K C (.type "int") = true
  i : PySem.W.notFirst K C (.type "list") = true
  j : PySem.W.notFirst K C (.ref C) = true
  k : Cls K C
inductive RightOf (K : PySem.W.Frag) (C : Addr) (H : Hp) : V → Value → Prop where
  | own {b dx : Addr} {fs : List (Str × V)} (e : H b = some (.ins C dx fs)) : RightOf K C H (.ref b) (.ref C)
  | int (i : Int) : RightOf K C H (.int i) (.type "int")
  | lst {a : Addr} {xs : List V} (e : H a = some (.lst xs)) : RightOf K C H (.ref a) (.type "list")
def rOwn (K : PySem.W.Frag) (C : Addr) (sp : Sp) : R2 := fun x y H Q => ∃ a dx fs T, x = .ref a ∧ H a = some (.ins C dx fs) ∧ RightOf K C H y T ∧ PySem.W.notFirst K C T = true ∧ sp [.ref a, y] H (fun v H' => (∃ b, v = .bl b) ∧ Q v H') E0
theorem op_own {X : Cx} {C : Addr} {sp : Sp} {j k : Nat} (c : Met X.prog X.w X.K X.mg X.base k C "__eq__" sp []) (hr : Room j X.A) (hk : k ≤ j) : OpR X (compareOp .Eq) (rOwn X.K C sp) := by
  intro pins s σ H x y v u Q I rx ry h
  obtain ⟨a, dx, fs, T, rfl, ha, hy, hn, q⟩ := h
  obtain rfl : v = Value.ref a := rx
  obtain ⟨g, fd, ps, ds, hc, hm, F, b, d⟩ := c.ex
  obtain ⟨mA, J, _⟩ := ins_get I.hok ha
  obtain ⟨od, J, _⟩ := J.look
  obtain ⟨m, hF⟩ := I.fr
  have hT : PySem.W.Looks (model X.prog X.w) s.heap (typeOf u) T := by
    cases hy with
    | @own b dy gs e =>
      obtain rfl : u = Value.ref b := ry
      obtain ⟨mB, J', _⟩ := ins_get I.hok e
      obtain ⟨od', J', _⟩ := J'.look
      exact J'.type
    | int i =>
      obtain ⟨t, rfl⟩ := (show ∃ t, u = Value.int i t from ry)
      exact PySem.W.Looks.of_pure rfl
    | @lst b xs e =>
      obtain rfl : u = Value.ref b := ry
      obtain ⟨_, _, n, _, h1⟩ := (show ObjOk X.prog X.w H s.heap b (.lst xs) from I.hok b _ e)
      exact (PySem.W.Looks.ld h1).andThen .now
  show wpAny (model X.prog X.w) X.A (richCompare .Eq (.ref a) u) (EP X pins σ Q) X.xe s
  refine PySem.W.cmp_K (op := .Eq) (tb := T) hr.units0 hF I.ok.mod.kin J hT hn hm.at_ hm.fn ?_
  have r := run_fn (E := L2.E0) (us := [.ref a, u]) (vs := [.ref a, y]) F (hr.mono hk) b d pass0 I (.cons rfl (.cons ry .nil)) q
  refine wpAny_mono r (fun w s' z => ?_) fun _ _ e => e
  obtain ⟨v', H', I', rv, ⟨bb, rfl⟩, q'⟩ := z
  obtain rfl : w = Value.bool bb := rv
  exact ⟨.bl bb, H', I', rfl, q'⟩
def ownOk (K : PySem.W.Frag) (C : Addr) : Bool :=
  He.eqO (PySem.W.findIn K (.ref C) "__class__") (some (some (.builtin "object.__class__"))) && (He.eqO (PySem.W.specialIn K (.builtin "object.__class__") "__get__") (some (some (.builtin "getset_descriptor.__get__"))) &&
  (decide (PySem.W.takesIn K (.builtin "object.__class__") = some true) && (decide (PySem.W.mroIn K C (.type "object") = some true) && (decide (PySem.W.kitOne K (.ref C) (.ref C) = some true) &&
  (decide (PySem.W.kitOne K (.type "int") (.ref C) = some false) && (decide (PySem.W.kitOne K (.type "list") (.ref C) = some false) && (PySem.W.notFirst K C (.type "int") && (PySem.W.notFirst K C (.type "list") && PySem.W.notFirst K C (.ref C)))))))))
theorem ownOk_ok {K : PySem.W.Frag} {C : Addr} (h : ownOk K C = true) (k : Cls K C) : OwnC K C := by
  obtain ⟨h1, h⟩ := He.ba h
  obtain ⟨h2, h⟩ := He.ba h
  obtain ⟨h3, h⟩ := He.ba h
  obtain ⟨h4, h⟩ := He.ba h
  obtain ⟨h5, h⟩ := He.ba h
  obtain ⟨h6, h⟩ := He.ba h
  obtain ⟨h7, h⟩ := He.ba h
  obtain ⟨h8, h⟩ := He.ba h
  obtain ⟨h9, h10⟩ := He.ba h
  exact ⟨He.eqO_ok h1, He.eqO_ok h2, of_decide_eq_true h3, of_decide_eq_true h4, of_decide_eq_true h5, of_decide_eq_true h6, of_decide_eq_true h7, h8, h9, h10, k⟩
section
variable {K : PySem.W.Frag} {σ : L2.St} {H : Hp} {C b dx : Addr} {fs : List (Str × V)} {xs : List V} {i : Int} {Q : VK}
theorem p_isOwn (o : OwnC K C) (e : H b = some (.ins C dx fs)) : pC (rIsi K) [.ref b, .ref C] H (.bl true) := fun _ q => ⟨_, _, _, _, true, rfl, .own C, .base (.ins e o.k o.a o.b o.c o.d), o.e, q⟩
theorem p_isOwnI (o : OwnC K C) : pC (rIsi K) [.int i, .ref C] H (.bl false) := fun _ q => ⟨_, _, _, _, false, rfl, .own C, .base (.int i), o.f, q⟩
theorem p_isOwnL (o : OwnC K C) (e : H b = some (.lst xs)) : pC (rIsi K) [.ref b, .ref C] H (.bl false) := fun _ q => ⟨_, _, _, _, false, rfl, .own C, .base (.lst e), o.g, q⟩
theorem k_own {a dy : Addr} {gs : List (Str × V)} {sp : Sp} (o : OwnC K C) (ha : H a = some (.ins C dx fs)) (hb : H b = some (.ins C dy gs)) (q : sp [.ref a, .ref b] H (fun v H' => (∃ k, v = .bl k) ∧ Q v H') E0) : rOwn K C sp (.ref a) (.ref b) H Q := ⟨a, dx, fs, _, rfl, ha, .own hb, o.j, q⟩
theorem k_ownI {a : Addr} {sp : Sp} (o : OwnC K C) (ha : H a = some (.ins C dx fs)) (q : sp [.ref a, .int i] H (fun v H' => (∃ k, v = .bl k) ∧ Q v H') E0) : rOwn K C sp (.ref a) (.int i) H Q := ⟨a, dx, fs, _, rfl, ha, .int i, o.h, q⟩
theorem k_ownL {a : Addr} {sp : Sp} (o : OwnC K C) (ha : H a = some (.ins C dx fs)) (hb : H b = some (.lst xs)) (q : sp [.ref a, .ref b] H (fun v H' => (∃ k, v = .bl k) ∧ Q v H') E0) : rOwn K C sp (.ref a) (.ref b) H Q := ⟨a, dx, fs, _, rfl, ha, .lst hb, o.i, q⟩
def mIsB : R2 := fun x y H Q => match x, y with
  | .bl a, .bl b => Q (.bl (decide (a = b))) H
  | _, _ => False
def mNotB : R2 := fun x y H Q => match x, y with
  | .bl a, .bl b => Q (.bl (!decide (a = b))) H
  | _, _ => False
theorem op_mIsB {X : Cx} : OpR X (compareOp .Is) mIsB := op_imp op_isBl fun x y H Q h => by
  cases x <;> cases y <;> first | exact h.elim | exact ⟨_, _, rfl, rfl, h⟩
theorem op_mNotB {X : Cx} : OpR X (compareOp .IsNot) mNotB := op_imp op_notBl fun x y H Q h => by
  cases x <;> cases y <;> first | exact h.elim | exact ⟨_, _, rfl, rfl, h⟩
theorem p_isB {x y : Bool} : pR mIsB (.bl x) (.bl y) H (.bl (decide (x = y))) := fun _ q => q
theorem p_notB {x y : Bool} : pR mNotB (.bl x) (.bl y) H (.bl (!decide (x = y))) := fun _ q => q
def kAug (n : Nat) (g : Int → Int → Int) (D : Ends) (σ : L2.St) (x : Int) : VK := fun y H1 => match y with
  | .int z => D.nx (σ.set n (some (.int (g x z)))) H1
  | _ => False
theorem w_augK {n : Nat} {g : Int → Int → Int} {x : Int} {te : TE} {D : Ends} (h : σ[n]? = some (some (.int x))) (q : te σ H (kAug n g D σ x)) : mAug n te g D σ H := by
  unfold mAug
  simp only [h]
  exact q
theorem k_kAug {n : Nat} {g : Int → Int → Int} {x z : Int} {D : Ends} (h : D.nx (σ.set n (some (.int (g x z)))) H) : kAug n g D σ x (.int z) H := h
end
end PB

set_option maxRecDepth 100000
set_option autoImplicit false
set_option maxHeartbeats 4000000
namespace PB
open PySem PySem.Spec PyProof.Rows L2
/-! ### a slice stored, its end given or not -/
theorem sb_to {i j n : Nat} (h1 : i ≤ j) (h2 : j ≤ n) : sliceBounds (some (i : Int)) (some (j : Int)) none n = ((i : Int), (j : Int), 1) := by
  simp only [sliceBounds, Option.getD_none, show ¬ ((i : Int) < 0) by omega, show ¬ ((j : Int) < 0) by omega, if_false, show (1 : Int) > 0 by decide, if_true, Prod.mk.injEq, and_true]
  omega
theorem sb_open {i n : Nat} (h1 : i ≤ n) : sliceBounds (some (i : Int)) none none n = ((i : Int), (n : Int), 1) := by
  simp only [sliceBounds, Option.getD_none, show ¬ ((i : Int) < 0) by omega, if_false, show (1 : Int) > 0 by decide, if_true, Prod.mk.injEq, and_true]
  omega
theorem sb_upto {j n : Nat} (h2 : j ≤ n) : sliceBounds none (some (j : Int)) none n = (0, (j : Int), 1) := by
  show ((0 : Int), (if (1 : Int) > 0 then max 0 (min (if (j : Int) < 0 then (j : Int) + n else (j : Int)) n) else _), (1 : Int)) = _
  rw [if_pos (by decide), if_neg (by omega), show max 0 (min (j : Int) n) = j by omega]
section
variable {prog : Program} {w : World} {A : Around} {E : Value → Shared → Prop} {s : Shared}
theorem setSl {l b sl : Addr} {items new : Array Value} {n n2 : Nat} {vl vu : Value} {lo hi : Option Int} {i j : Nat} {Q : Unit → Shared → Prop} (e : s.heap.get? l = some { cls := .type "list", data := .seq items n })
    (e2 : s.heap.get? b = some { cls := .type "list", data := .seq new n2 }) (hne : l ≠ b) (hs : s.heap.IsSliceOf sl vl vu .none) (pl : IsPart vl lo) (pu : IsPart vu hi) (hb : sliceBounds lo hi none items.size = ((i : Int), (j : Int), 1)) (hij : i ≤ j)
    (hz : items.size + new.size ≤ sizeLine) (h : Q () { s with heap := s.heap.update l (Obj.mapSeq fun xs => xs.extract 0 i ++ new ++ xs.extract j xs.size) }) : wpAny (model prog w) A (setItem (.ref l) (.ref sl) (.ref b)) Q E s := by
  have tl : s.TypeIs (.ref l) "list" := (PySem.IsL.isList e).typeIs
  have tb : s.TypeIs (.ref b) "list" := (PySem.IsL.isList e2).typeIs
  obtain ⟨o, ho, hc, hd⟩ := id hs
  have ts : s.TypeIs (.ref sl) "slice" := ⟨o, ho, hc⟩
  have same : Builtin.List.listSameRef (.ref l) (.ref b) = false := beq_eq_false_iff_ne.mpr hne
  have zf : ((fun xs : Array Value => xs.extract 0 i ++ new ++ xs.extract j xs.size) items).size ≤ sizeLine + 1 := by
    simp only [Array.size_append, Array.size_extract]; omega
  unfold setItem; (try with_reducible refine wpAny_holding ?_); (first | refine wpAny_bind (wpAny_pure ?_) | skip)
  refine wpAny_bind (wpAny_sequenceKey tl (by decide) (wpAny_bind (wpAny_callSpecial?_slot (name := Str.ofString "__setitem__") tl slot_list_setitem (wpAny_call_entry slot_list_setitem tl entry_list_setitem ?_ (args_list_setitem _ _ _)))))
  show wpAny _ _ (Builtin.List.listSubscript? (.ref sl) >>= _) _ _ s
  refine wpAny_bind ?_; unfold Builtin.List.listSubscript?
  refine wpAny_bind (wpAny_specialOf ts slice_no_index ?_); simp only [Option.isNone_none, if_true]
  refine wpAny_pure (?_ : wpAny _ _ (typeOf (.ref sl) >>= _) _ _ s)
  refine wpAny_bind (wpAny_typeOf ts ?_); (first | rw [if_neg (by decide)] | refine PySem.W.KFB.if_not (by decide) ?_)
  rw [listSliceParts_eq]; refine wpAny_bind (wpAny_bind (wpAny_field ho hd (x := .none) rfl (wpAny_bind (wpAny_listPart .none ?_))))
  rw [if_neg (show ¬ ((rawPart none == rawInt 0) = true) from Bool.false_ne_true)]
  refine wpAny_bind (wpAny_field ho hd (x := vl) rfl (wpAny_bind (wpAny_listPart pl (wpAny_bind (wpAny_field ho hd (x := vu) rfl (wpAny_bind (wpAny_listPart pu (wpAny_pure ?_))))))))
  (first | simp only [same, Bool.false_eq_true, if_false] | refine PySem.W.KFB.if_not same ?_ | (dsimp only; rw [if_neg (by rw [same]; exact Bool.false_ne_true)]))
  refine wpAny_bind (m := Builtin.List.listAllItems (.ref b) "must assign iterable to extended slice") ?_; unfold Builtin.List.listAllItems
  refine wpAny_bind (wpAny_typeOf tb ?_); (first | refine PySem.W.KFB.if_so (by decide) ?_ | rw [if_pos (by decide)] | simp only [beq_self_eq_true, Bool.true_or, if_true])
  unfold Builtin.List.listItems; refine wpAny_bind (wpAny_seqItems e2 rfl (wpAny_pure (wpAny_bind (wpAny_bind (wpAny_seqItems e rfl (wpAny_pure ?_))))))
  refine wpAny_bind (wpAny_of_eq ((sliceIndices_raw lo hi none items.size (by simp)).trans (congrArg (pure : Int × Int × Int → Sem (Int × Int × Int)) hb)) ?_)
  show wpAny _ _ (if ((1 : Int) == 1) = true then _ else _) _ _ s
  rw [if_pos (by decide)]; refine wpAny_bind (wpAny_rule ?_)
  (first | simp only [notLongL hz, Bool.false_eq_true, if_false] | refine PySem.W.KFB.if_not (notLongL hz) ?_); (first | refine wpAny_bind (wpAny_pure ?_) | skip)
  show wpAny _ _ (updateSeq l (fun xs => xs.extract 0 ((i : Int)).toNat ++ new ++ xs.extract (max (i : Int) (j : Int)).toNat xs.size) >>= _) _ _ s
  rw [show (max (i : Int) (j : Int)).toNat = j by omega, Int.toNat_natCast]
  refine wpAny_bind (wpAny_updateSeq (hz := Nat.le_trans (Nat.le_add_right _ _) hz) (_hz' := zf) e rfl (wpAny_bind (wpAny_letGo ?_)))
  (first | exact wpAny_bind (wpAny_pure (wpAny_pure ⟨.none, rfl, wpAny_pure h⟩)) | exact wpAny_pure ⟨.none, rfl, wpAny_pure h⟩)
end
def mSetSl (ta : TE) (tl th : TO) (tv : TE) : TS := fun D σ H => tv σ H fun v H1 => ta σ H1 fun x H2 => tl σ H2 fun lo H3 => th σ H3 fun hi H4 => ∃ (l b : Addr) (xs ys : List V) (i j : Nat), x = .ref l ∧ v = .ref b ∧ H4 l = some (.lst xs) ∧ H4 b = some (.lst ys) ∧ l ≠ b ∧
  sliceBounds lo hi none xs.length = ((i : Int), (j : Int), 1) ∧ i ≤ j ∧ xs.length + ys.length ≤ sizeLine ∧ D.nx σ (upd H4 l (.lst (xs.take i ++ ys ++ xs.drop j)))
theorem ps_setsl {X : Cx} {o value : Expr} {lo hi : Option Expr} {ta tv : TE} {tl th : TO} {sp tp pos : Pos} (ho : PE X o ta) (hl : PO X lo tl) (hh : PO X hi th) (hv : PE X value tv)
    (hs : swapsWith value (some (.Subscript o (.Slice lo hi none sp) tp)) pos.line X.env = pure false) : PS X (.Assign [.Subscript o (.Slice lo hi none sp) tp] value pos) (mSetSl ta tl th tv) := by
  refine ⟨fun pins s σ H D I h => ?_⟩
  refine wpAny_Assign_Subscript (thn (hv.run pins s σ H _ I h) fun r s1 ⟨v, H1, I1, rv, q1⟩ => thn (ho.run pins s1 σ H1 _ I1 q1) fun u s2 ⟨x, H2, I2, rx, q2⟩ => ?_) hs
  refine wpAny_Slice (thn (hl.run pins s2 σ H2 _ I2 q2) fun vl s3 ⟨l', H3, I3, pl, q3⟩ => thn (hh.run pins s3 σ H3 _ I3 q3) fun vu s4 ⟨u', H4, I4, pu, q4⟩ => ?_)
  rw [evalPart_none]
  obtain ⟨l, b, xs, ys, i, j, rfl, rfl, hH, hB, hne, hb, hij, hz, q⟩ := q4
  obtain rfl : u = Value.ref l := rx
  obtain rfl : r = Value.ref b := rv
  refine wpAny_pure (?_ : wpAny (model X.prog X.w) X.A (setItem (.ref l) (.ref s4.heap.objs.size) (.ref b)) _ X.xe { s4 with heap := s4.heap.push { cls := .type "slice", data := .fields #[vl, vu, .none] } })
  have I5 : Inv X pins σ H4 { s4 with heap := s4.heap.push { cls := .type "slice", data := .fields #[vl, vu, .none] } } := I4.kept (t' := s4.toks) fun b ob q => Heap.get?_push_of_some _ q
  obtain ⟨z, its, n, ri, hi1, e⟩ := I5.lstM hH
  obtain ⟨z2, its2, n2, ri2, hi2, e2⟩ := I5.lstM hB
  refine setSl (i := i) (j := j) e e2 hne (Heap.IsSliceOf.new ..) pl pu (by rw [List.size_toArray, ← hi1]; exact hb) hij (by rw [List.size_toArray, List.size_toArray]; omega) ?_
  refine ⟨σ, _, I5.lset (its' := its.take i ++ its2 ++ its.drop j) (t' := s4.toks) hH e (splice_eq its its2 i j) (Vals.append (Vals.append (ri.take _) ri2) (ri.drop _)) ?_, q⟩
  rw [List.length_append, List.length_append, List.length_take, List.length_drop]
  omega
end PB

set_option maxRecDepth 100000
set_option autoImplicit false
set_option maxHeartbeats 4000000
namespace PB
open PySem PySem.Spec PyProof.Rows L2
/-! ### the first items of a list deleted -/
section
variable {prog : Program} {w : World} {A : Around} {E : Value → Shared → Prop} {s : Shared}
theorem cutIdx (j : Nat) : ∀ (xs : List Value) (k : Nat), (xs.zipIdx k).filterMap (fun p => if (decide ((0 : Int) ≤ (p.2 : Int)) && decide ((p.2 : Int) < (j : Int)) && ((p.2 : Int) - 0) % 1 == 0) = true then none else some p.1) = xs.drop (j - k)
  | [], k => by simp
  | x :: xs, k => by
    rw [List.zipIdx_cons, List.filterMap_cons, cutIdx j xs (k + 1)]
    by_cases c : k < j
    · have e : (decide ((0 : Int) ≤ (k : Int)) && decide ((k : Int) < (j : Int)) && ((k : Int) - 0) % 1 == 0) = true := by
        rw [decide_eq_true (show (0 : Int) ≤ k by omega), decide_eq_true (show (k : Int) < j by omega), show ((k : Int) - 0) % 1 = 0 by omega]; rfl
      simp only [e, if_true]
      rw [show j - k = (j - (k + 1)) + 1 by omega, List.drop_succ_cons]
    · have e : (decide ((0 : Int) ≤ (k : Int)) && decide ((k : Int) < (j : Int)) && ((k : Int) - 0) % 1 == 0) = false := by
        rw [decide_eq_false (show ¬ (k : Int) < j by omega)]; simp
      simp only [e, Bool.false_eq_true, if_false]
      rw [show j - (k + 1) = 0 by omega, show j - k = 0 by omega, List.drop_zero, List.drop_zero]
def dropF (start stop step : Int) : Value × Nat → Option Value := fun (x, k) => if (if step > 0 then decide (start ≤ (k : Int)) && decide ((k : Int) < stop) && ((k : Int) - start) % step == 0 else decide (stop < (k : Int)) && decide ((k : Int) ≤ start) && (start - (k : Int)) % (-step) == 0) = true then none else some x
theorem delSl {l sl : Addr} {items : Array Value} {n : Nat} {vl vu : Value} {lo hi : Option Int} {j : Nat} {Q : Unit → Shared → Prop} (e : s.heap.get? l = some { cls := .type "list", data := .seq items n })
    (hs : s.heap.IsSliceOf sl vl vu .none) (pl : IsPart vl lo) (pu : IsPart vu hi) (hb : sliceBounds lo hi none items.size = (0, (j : Int), 1)) (hz : items.size ≤ sizeLine)
    (h : Q () { s with heap := s.heap.update l (Obj.mapSeq fun xs => (xs.toList.drop j).toArray) }) : wpAny (model prog w) A (delItem (.ref l) (.ref sl)) Q E s := by
  have tl : s.TypeIs (.ref l) "list" := (PySem.IsL.isList e).typeIs
  obtain ⟨o, ho, hc, hd⟩ := id hs
  have ts : s.TypeIs (.ref sl) "slice" := ⟨o, ho, hc⟩
  refine wpAny_delItem_slot tl (by decide) F.slot_list_delitem (wpAny_call_entry F.slot_list_delitem tl F.entry_list_delitem ?_ (F.args_list_delitem_2 _ _))
  show wpAny _ _ (Builtin.List.listSubscript? (.ref sl) >>= _) _ _ s
  refine wpAny_bind ?_; unfold Builtin.List.listSubscript?
  refine wpAny_bind (wpAny_specialOf ts slice_no_index ?_); simp only [Option.isNone_none, if_true]
  refine wpAny_pure (?_ : wpAny _ _ (typeOf (.ref sl) >>= _) _ _ s)
  refine wpAny_bind (wpAny_typeOf ts ?_); (first | rw [if_neg (by decide)] | refine PySem.W.KFB.if_not (by decide) ?_)
  rw [listSliceParts_eq]; refine wpAny_bind (wpAny_bind (wpAny_field ho hd (x := .none) rfl (wpAny_bind (wpAny_listPart .none ?_))))
  rw [if_neg (show ¬ ((rawPart none == rawInt 0) = true) from Bool.false_ne_true)]
  refine wpAny_bind (wpAny_field ho hd (x := vl) rfl (wpAny_bind (wpAny_listPart pl (wpAny_bind (wpAny_field ho hd (x := vu) rfl (wpAny_bind (wpAny_listPart pu (wpAny_pure ?_))))))))
  unfold Builtin.List.listItems; refine wpAny_bind (wpAny_bind (wpAny_seqItems e rfl (wpAny_pure ?_)))
  refine wpAny_bind (wpAny_of_eq ((sliceIndices_raw lo hi none items.size (by simp)).trans (congrArg (pure : Int × Int × Int → Sem (Int × Int × Int)) hb)) ?_)
  refine wpAny_bind (wpAny_rule ?_)
  show wpAny _ _ (updateSeq l (fun xs => (xs.toList.zipIdx.filterMap (dropF (0 : Int) (j : Int) 1)).toArray) >>= _) _ _ s
  have ef : (fun xs : Array Value => (xs.toList.zipIdx.filterMap (dropF (0 : Int) (j : Int) 1)).toArray) = fun xs => (xs.toList.drop j).toArray := funext fun xs => by
    rw [show dropF (0 : Int) (j : Int) 1 = fun p => if (decide ((0 : Int) ≤ (p.2 : Int)) && decide ((p.2 : Int) < (j : Int)) && ((p.2 : Int) - 0) % 1 == 0) = true then none else some p.1 from funext fun ⟨x, k⟩ => rfl]
    rw [cutIdx j xs.toList 0]; rfl
  rw [ef]
  have zf : ((fun xs : Array Value => (xs.toList.drop j).toArray) items).size ≤ sizeLine + 1 := by
    simp only [List.size_toArray, List.length_drop, Array.length_toList]; omega
  refine wpAny_bind (wpAny_updateSeq (hz := hz) (_hz' := zf) e rfl (wpAny_bind (wpAny_letGo ?_)))
  exact wpAny_pure ⟨.none, rfl, h⟩
end
def mDelSl (ta : TE) (tl th : TO) : TS := fun D σ H => ta σ H fun x H1 => tl σ H1 fun lo H2 => th σ H2 fun hi H3 => ∃ (l : Addr) (xs : List V) (j : Nat), x = .ref l ∧ H3 l = some (.lst xs) ∧ sliceBounds lo hi none xs.length = (0, (j : Int), 1) ∧ D.nx σ (upd H3 l (.lst (xs.drop j)))
/-- a written tuple as it lies -/
structure KTx (K : PySem.W.Frag) (a : Addr) (zs : List V) : Prop where
  ex : ∃ (its : Array Value) (n : Nat), K.lookup a = some ⟨.type "tuple", none, .seq its n, #[]⟩ ∧ Vals zs its.toList ∧ its.size ≤ 1000
def isTx (K : PySem.W.Frag) (ns : List Int) (a : Addr) : Bool := match K.lookup a with
  | some ⟨.type c, none, .seq its _, sl⟩ => decide (c = "tuple") && (sl.isEmpty && (decide (its.size ≤ 1000) && isDs K (ns.map PyData.int) its.toList))
  | _ => false
theorem isTx_ok {K : PySem.W.Frag} {ns : List Int} {a : Addr} (h : isTx K ns a = true) : KTx K a (ns.map V.int) := by
  unfold isTx at h
  split at h
  · rename_i c its n sl e
    obtain ⟨h1, h2⟩ := He.ba h
    obtain ⟨h3, h4⟩ := He.ba h2
    obtain ⟨h5, h6⟩ := He.ba h4
    have e1 : c = "tuple" := of_decide_eq_true h1
    have e2 : sl = #[] := Array.isEmpty_iff.mp h3
    subst e1 e2
    refine ⟨its, n, e, ?_, of_decide_eq_true h5⟩
    have : ∀ (ns : List Int) (us : List Value), isDs K (ns.map PyData.int) us = true → Vals (ns.map V.int) us := by
      intro ns
      induction ns with
      | nil => intro us h; cases us with
        | nil => exact .nil
        | cons _ _ => simp [isDs] at h
      | cons n ns ih => intro us h; cases us with
        | nil => simp [isDs] at h
        | cons u us =>
          rw [List.map_cons] at h
          unfold isDs at h
          obtain ⟨k1, k2⟩ := He.ba h
          cases u with
          | int i t => unfold isD at k1; exact .cons ⟨t, by rw [of_decide_eq_true k1]⟩ (ih us k2)
          | _ => simp [isD] at k1
    exact this ns _ h6
  · cases h
def rExt (K : PySem.W.Frag) : V → List V → Hp → VK → Prop := fun x vs H Q => ∃ l b xs zs, x = .ref l ∧ vs = [.ref b] ∧ H l = some (.lst xs) ∧ (H b = some (.lst zs) ∨ KTx K b zs) ∧ xs.length + zs.length ≤ sizeLine ∧ Q .non (upd H l (.lst (xs ++ zs)))
theorem mt_ext {X : Cx} : MtR X "list.extend" (rExt X.K) := by
  intro pins s σ H x vs v us Q I rx rv h
  obtain ⟨l, b, xs, zs, rfl, rfl, hH, hB | hB, hz, q⟩ := h
  · exact mt_extend pins s σ H (.ref l) [.ref b] v us Q I rx rv ⟨l, b, xs, zs, rfl, rfl, hH, hB, hz, q⟩
  · obtain rfl : v = Value.ref l := rx
    obtain ⟨u, rfl, ru⟩ := rv.one
    obtain rfl : u = Value.ref b := ru
    obtain ⟨its2, n2, hl2, r2, z2⟩ := hB.ex
    obtain ⟨z, its, n, r, hl, e⟩ := I.lstM hH
    have ll := r2.length
    have sz : its.toArray.size + its2.size ≤ sizeLine := by rw [List.size_toArray, ← Array.length_toList]; omega
    have long : ¬ (!its.toArray.isEmpty && Builtin.List.listTooLong (its.toArray.size + its2.size)) = true := by rw [notLongL sz, Bool.and_false]; exact Bool.false_ne_true
    refine call_meets F.slot_list_extend ⟨_, e, rfl⟩ F.entry_list_extend (F.args_list_extend_2 _ _) (AutoSeq1.list_extend_list_tuple_0 l its.toArray n b its2 n2 long (by rw [List.size_toArray]; omega) (by omega)) ⟨e, I.kIn _ _ hl2, ?_⟩
    refine ⟨.non, _, I.lset (its' := its ++ its2.toList) hH e (by simp) (r.append r2) ?_, rfl, q⟩
    rw [List.length_append]; exact hz
theorem ps_delsl {X : Cx} {o : Expr} {lo hi : Option Expr} {ta : TE} {tl th : TO} {sp tp pos : Pos} (ho : PE X o ta) (hl : PO X lo tl) (hh : PO X hi th) : PS X (.Delete [.Subscript o (.Slice lo hi none sp) tp] pos) (mDelSl ta tl th) := by
  refine ⟨fun pins s σ H D I h => ?_⟩
  refine wpAny_Delete (wpAny_deleteEach_cons (wpAny_delete_Subscript (thn (ho.run pins s σ H _ I h) fun u s1 ⟨x, H1, I1, rx, q1⟩ => ?_)))
  refine wpAny_Slice (thn (hl.run pins s1 σ H1 _ I1 q1) fun vl s2 ⟨l', H2, I2, pl, q2⟩ => thn (hh.run pins s2 σ H2 _ I2 q2) fun vu s3 ⟨u', H3, I3, pu, q3⟩ => ?_)
  rw [evalPart_none]
  obtain ⟨l, xs, j, rfl, hH, hb, q⟩ := q3
  obtain rfl : u = Value.ref l := rx
  refine wpAny_pure (?_ : wpAny (model X.prog X.w) X.A (delItem (.ref l) (.ref s3.heap.objs.size)) _ X.xe { s3 with heap := s3.heap.push { cls := .type "slice", data := .fields #[vl, vu, .none] } })
  have I4 : Inv X pins σ H3 { s3 with heap := s3.heap.push { cls := .type "slice", data := .fields #[vl, vu, .none] } } := I3.kept (t' := s3.toks) fun b ob q => Heap.get?_push_of_some _ q
  obtain ⟨z, its, n, ri, hi1, e⟩ := I4.lstM hH
  refine delSl (j := j) e (Heap.IsSliceOf.new ..) pl pu (by rw [List.size_toArray, ← hi1]; exact hb) (by rw [List.size_toArray]; omega) ?_
  refine wpAny_deleteEach_nil ⟨σ, _, I4.lset (its' := its.drop j) (t' := s3.toks) hH e (by simp) (ri.drop _) ?_, q⟩
  rw [List.length_drop]
  omega
/-! ### an attribute as one of several targets -/
def gObj (C : Addr) (names : List Str) (i : Nat) (to : TE) : TG := fun v σ H Q => to σ H fun x H1 => ∃ p dx vals, x = .ref p ∧ H1 p = some (.ins C dx (names.zip vals)) ∧ i ≤ vals.length ∧ Q σ (upd H1 p (.ins C dx (names.zip (setN vals i v))))
theorem pg_obj {X : Cx} {C : Addr} {names : List Str} {i : Nat} {f : Str} {o : Expr} {to : TE} {pos : Pos} (cl : Cls X.K C) (na : NoAttr X.K C f) (nd : names.Nodup) (hi : names[i]? = some f) (hl : names.length < 1000) (ho : PE X o to)
    (ha : ∀ v, assign (.Attribute o f pos) X.env v = (do
      let ov ← holding [v] (eval o X.env); standAt pos.atName
      holding [v, ov] (setAttr ov f v); release [v, ov] []) := by intro _; rfl) : PG X (.Attribute o f pos) (gObj C names i to) := by
  refine ⟨fun pins s σ H v u Q I r h => ?_⟩
  rw [ha]
  refine wpAny_bind (wpAny_holding (thn (ho.run pins s σ H _ I h) fun ov s1 ⟨x, H1, I1, r1, p, dx, vals, ex, ea, hle, q1⟩ => ?_))
  subst ex
  obtain rfl : ov = Value.ref p := r1
  refine wpAny_bind (wpAny_standAt (wpAny_bind (wpAny_holding (setattr_ok I1 ea cl na (by simp; omega) r fun s3 I3 => ?_))))
  rw [put_z nd hi hle] at I3
  exact wpAny_release ⟨σ, _, I3, q1⟩
/-! ### texts put together: numbers and written signs -/
def mJoin (ts : List TE) : TE := fun σ H Q => tJs ts Str.empty σ H fun out H1 => Q (.str out) H1
end PB

set_option maxRecDepth 100000
set_option autoImplicit false
set_option maxHeartbeats 4000000
namespace PB
open PySem PySem.Spec PyProof.Rows L2
open C8 (Mak)
/-! ### C(e, .., k = v): a keyword-only parameter of __init__, given or by its default -/
structure MakK (P : Program) (w : World) (K : PySem.W.Frag) (mg : Str → Option Value) (base : Heap) (k : Nat) (x : Str) (C : Addr) (sp : Sp) (n : Nat) (ks : List Str) : Prop where
  ex : ∃ (f : Addr) (fd : FuncData) (ps : List Str), Mk K C f ∧ FnOk P w K mg base CX0 k f fd ps sp ∧ mg x = some (.ref C) ∧ KBn K fd ps (n + 1) ks (fun us ws => us ++ ws) (fun vs zs => vs ++ zs)
def mMakeK (C : Addr) (sp : Sp) (n m : Nat) (t tk : TA) : TE := fun σ H Q => t σ H fun vs H1 => tk σ H1 fun zs H2 => vs.length = n ∧ zs.length = m ∧ ∀ x dx, H2 x = none → H2 dx = none → dx ≠ x →
  sp (.ref x :: (vs ++ zs)) (upd (upd H2 dx (.own x)) x (.ins C dx [])) (fun v H3 => v = .non ∧ Q (.ref x) H3) E0
theorem pe_mmkK {X : Cx} {C : Addr} {sp : Sp} {j k n m : Nat} {x : Str} {ks : List Str} {e : Expr} {es : List Expr} {kws : List Keyword} {t tk : TA} {pos pos' : Pos} (c : MakK X.prog X.w X.K X.mg X.base k x C sp n ks) (hr : Room j X.A) (hk : k + 1 ≤ j) (hg : Gl X x) (ha : PA X (e :: es) t) (hkw : PK X kws tk)
    (hm' : ks.length = m := by rfl) (hks : (backToKw pos (keywordEach kws X.env)).filterMap (·.1) = ks := by rfl) (hall : (backToKw pos (keywordEach kws X.env)).all (·.1.isSome) = true := by rfl) (hdb : (x == ("__debug__" : Str)) = false := by decide)
    (he : starEach (e :: es) X.env = (false, eval e X.env) :: starEach es X.env := by rfl) (hpl : ((backTo pos (starEach (e :: es) X.env)).any (·.1) || (backToKw pos (keywordEach kws X.env)).any (·.1.isNone)) = false := by rfl) :
    PE X (.Call (.Name x pos') (e :: es) kws pos) (mMakeK C sp n m t tk) := by
  subst hm'
  obtain ⟨f, fd, ps, M, F, hm, b⟩ := c.ex
  exact pe_makeK (E := L2.E0) M F (hr.mono hk) hg hm b pass0 ha hkw hall hks hdb he hpl
theorem makK_ok {P : Program} {w : World} {K : PySem.W.Frag} {mg : Str → Option Value} {base : Heap} {x qual : Str} {st : Stmt} {N ps ks : List Str} {kws : List (Str × V)} {k n : Nat} {sp : Sp} {t : TS}
    (F : ∃ fd, FunD K "__init__" qual (defArgs st) (defBody st) (defScope st) [] kws (He.ma K (He.ga K x) "__init__") fd) (g : mg x = some (.ref (He.ga K x))) (M : Mk K (He.ga K x) (He.ma K (He.ga K x) "__init__")) (hk : kws ≠ [])
    (S : FnScope N ps (defScope st)) (len : Len ps.length sp) (hb : ∀ (D : Addr) (doc pm : Value) (an : Option Addr) (cdv ct : Value) (us ws : List Value), us.length = n + 1 → ws.length = ks.length →
      bindArgs (PySem.W.fnOf "__init__" qual (defArgs st) (defBody st) (defScope st) .none (.ref D) doc pm an cdv ct) ⟨us, ks.zip ws⟩ = pure (ps.zip (us ++ ws)))
    (b : Body P w K mg base k N qual st t) (p : Pure N sp t) : MakK P w K mg base (k + 1) x (He.ga K x) sp n ks := by
  obtain ⟨fd, F⟩ := F
  obtain ⟨mv, kb⟩ := F.kbinds0 (ps := ps) (n + 1) ks [] (fun vs mz zs => vs ++ zs) hk (fun q h => by cases h) (fun r1 _ r2 => r1.append r2) (fun D doc pm an cdv ct us mv ws l1 _ l3 => hb D doc pm an cdv ct us ws l1 l3)
  exact ⟨_, fd, ps, M, F.ok S len fun cdv A outer s H vs Q E hr h => ⟨t, (b _ cdv A outer s H E hr).nox, p vs H Q E h⟩, g, kb⟩
theorem makD_ok {P : Program} {w : World} {K : PySem.W.Frag} {mg : Str → Option Value} {base : Heap} {x qual : Str} {st : Stmt} {N ps : List Str} {kws : List (Str × V)} {k n : Nat} {sp : Sp} {t : TS}
    (F : ∃ fd, FunD K "__init__" qual (defArgs st) (defBody st) (defScope st) [] kws (He.ma K (He.ga K x) "__init__") fd) (g : mg x = some (.ref (He.ga K x))) (M : Mk K (He.ga K x) (He.ma K (He.ga K x) "__init__")) (hk : kws ≠ []) (hn : n + 1 + kws.length = ps.length)
    (S : FnScope N ps (defScope st)) (len : Len ps.length sp) (hb : ∀ (D : Addr) (doc pm : Value) (an : Option Addr) (cdv ct : Value) (us ks : List Value), us.length = n + 1 → ks.length = kws.length →
      KwChain D ((kws.map (·.1)).zip ks) (bindArgs (PySem.W.fnOf "__init__" qual (defArgs st) (defBody st) (defScope st) .none (.ref D) doc pm an cdv ct) ⟨us, []⟩) (ps.zip (us ++ ks)))
    (b : Body P w K mg base k N qual st t) (p : Pure N sp t) : Mak P w K mg base (k + 1) x (He.ga K x) sp (kws.map (·.2)) := by
  obtain ⟨fd, F⟩ := F
  obtain ⟨ds, rd, bd⟩ := F.binds0 (ps := ps) (n + 1) hk hn hb
  exact ⟨_, fd, ps, ds, M, F.ok S len fun cdv A outer s H vs Q E hr h => ⟨t, (b _ cdv A outer s H E hr).nox, p vs H Q E h⟩, g, bd, rd⟩
/-- with the defaults dvs behind -/
def mMakeD (C : Addr) (sp : Sp) (dvs : List V) (t : TA) : TE := fun σ H Q => t σ H fun vs H1 => ∀ x dx, H1 x = none → H1 dx = none → dx ≠ x →
  sp (.ref x :: vs ++ dvs) (upd (upd H1 dx (.own x)) x (.ins C dx [])) (fun v H2 => v = .non ∧ Q (.ref x) H2) E0
theorem pe_mmkD {X : Cx} {C : Addr} {sp : Sp} {j k : Nat} {x : Str} {dvs : List V} {e : Expr} {es : List Expr} {t : TA} {pos pos' : Pos} (c : Mak X.prog X.w X.K X.mg X.base k x C sp dvs) (hr : Room j X.A) (hk : k + 1 ≤ j) (hg : Gl X x) (ha : PA X (e :: es) t)
    (hdb : (x == ("__debug__" : Str)) = false := by decide) (he : starEach (e :: es) X.env = (false, eval e X.env) :: starEach es X.env := by rfl) (hpl : (backTo pos (starEach es X.env)).any (·.1) = false := by rfl) :
    PE X (.Call (.Name x pos') (e :: es) [] pos) (mMakeD C sp dvs t) := by
  obtain ⟨f, fd, ps, ds, M, F, hm, b, d⟩ := c.ex
  refine ⟨fun pins s σ H Q I h => ?_⟩
  refine wpAny_Call_Name_kw (ld_glob I hg hm ?_ hdb)
  refine PySem.W.callWith_K (first := []) (h₀ := X.base) I.ok.mod.kin M.kp (thn (ha.run pos pins s σ H _ I h) fun us s1 ⟨vs, H1, I1, r, q⟩ => ⟨I1.kIn, run_make (E := L2.E0) M F (hr.mono hk) b d pass0 I1 r q⟩) he hpl
/-- the scope of a comprehension that a statement is -/
def lcSc : Stmt → Scope
  | .Return (some (.ListComp _ _ sc _)) _ => sc
  | .Assign _ (.ListComp _ _ sc _) _ => sc
  | st => defScope st
/-- the scope of a comprehension as its block has it: a free name of it that is a cell of the def -/
def relab (fs : Scope) (sc : Scope) : Scope :=
  { sc with names := sc.names.map fun (n, k) => if (k == NameKind.free && fs.kind == .function && fs.names.lookup n == some .cell) then (n, NameKind.cell) else (n, k) }
end PB

set_option maxRecDepth 100000
set_option autoImplicit false
set_option maxHeartbeats 4000000
namespace PB
open PySem PySem.Spec PyProof.Rows L2
/-! ### chains of three comparisons -/
def mChain3 (r r' r'' : R2) (ta tb tc td : TE) : TE := fun σ H Q => ta σ H fun x H1 => tb σ H1 fun y H2 => r x y H2 fun z H3 => match z with
  | .bl k => if k = true then (tc σ H3 fun u H4 => r' y u H4 fun z2 H5 => match z2 with
      | .bl k2 => if k2 = true then td σ H5 fun v H6 => r'' u v H6 Q else Q (.bl false) H5
      | _ => False) else Q (.bl false) H3
  | _ => False
section
variable {X : Cx} {a b c d : PySem.Expr} {pos : Pos} {ta tb tc td : TE}
theorem pe_mch3 {op op' op'' : CmpOp} {r r' r'' : R2} (ho : OpR X (compareOp op) r) (ho' : OpR X (compareOp op') r') (ho'' : OpR X (compareOp op'') r'') (ha : PE X a ta) (hb : PE X b tb) (hc : PE X c tc) (hd : PE X d td)
    (hm : lastMarks [op, op', op''] [b, c, d] = false := by with_unfolding_all rfl) : PE X (.Compare a [op, op', op''] [b, c, d] pos) (mChain3 r r' r'' ta tb tc td) := by
  refine ⟨fun pins s σ H Q I h => ?_⟩
  refine Compare_chain (thn (ha.run pins s σ H _ I h) fun v s1 ⟨x, H1, I1, r1, q1⟩ => chain_link (thn (hb.run pins s1 σ H1 _ I1 q1) fun u s2 ⟨y, H2, I2, r2, q2⟩ =>
    thn (ho pins s2 σ H2 x y v u _ I2 r1 r2 q2) fun e s3 ⟨z, H3, I3, r3, q3⟩ => ?_)) hm
  cases z with
  | bl k =>
    cases r3
    refine wpAny_truthy_bool ?_
    cases k with
    | false => exact ite_ff ⟨.bl false, H3, I3, rfl, q3⟩
    | true =>
      refine ite_tt (chain_link (thn (hc.run pins s3 σ H3 _ I3 q3) fun w' s4 ⟨z', H4, I4, r4, q4⟩ => thn (ho' pins s4 σ H4 y z' u w' _ I4 r2 r4 q4) fun e' s5 ⟨z2, H5, I5, r5, q5⟩ => ?_))
      cases z2 with
      | bl k2 =>
        cases r5
        refine wpAny_truthy_bool ?_
        cases k2 with
        | false => exact ite_ff ⟨.bl false, H5, I5, rfl, q5⟩
        | true => exact ite_tt (chain_last (thn (hd.run pins s5 σ H5 _ I5 q5) fun w2 s6 ⟨z3, H6, I6, r6, q6⟩ => ho'' pins s6 σ H6 z' z3 w' w2 Q I6 r4 r6 q6))
      | _ => exact q5.elim
  | _ => exact q3.elim
theorem pt_mch3 {op op' op'' : CmpOp} {r r' r'' : R2} (ho : OpR X (compareOp op) r) (ho' : OpR X (compareOp op') r') (ho'' : OpR X (compareOp op'') r'') (ha : PE X a ta) (hb : PE X b tb) (hc : PE X c tc) (hd : PE X d td)
    (hm : lastMarks [op, op', op''] [b, c, d] = false := by with_unfolding_all rfl) : PT X (.Compare a [op, op', op''] [b, c, d] pos) (mTest (mChain3 r r' r'' ta tb tc td)) := by
  refine ⟨fun pins s σ H Q I h => ?_⟩
  refine isTrue_chain (thn (ha.run pins s σ H _ I h) fun v s1 ⟨x, H1, I1, r1, q1⟩ => test_link (thn (hb.run pins s1 σ H1 _ I1 q1) fun u s2 ⟨y, H2, I2, r2, q2⟩ =>
    thn (ho pins s2 σ H2 x y v u _ I2 r1 r2 q2) fun e s3 ⟨z, H3, I3, r3, q3⟩ => ?_)) hm
  cases z with
  | bl k =>
    cases r3
    refine wpAny_truthy_bool ?_
    cases k with
    | false => exact ite_ff ⟨H3, I3, q3⟩
    | true =>
      refine ite_tt (test_link (thn (hc.run pins s3 σ H3 _ I3 q3) fun w' s4 ⟨z', H4, I4, r4, q4⟩ => thn (ho' pins s4 σ H4 y z' u w' _ I4 r2 r4 q4) fun e' s5 ⟨z2, H5, I5, r5, q5⟩ => ?_))
      cases z2 with
      | bl k2 =>
        cases r5
        refine wpAny_truthy_bool ?_
        cases k2 with
        | false => exact ite_ff ⟨H5, I5, q5⟩
        | true =>
          refine ite_tt (test_last (thn (hd.run pins s5 σ H5 _ I5 q5) fun w2 s6 ⟨z3, H6, I6, r6, q6⟩ => thn (ho'' pins s6 σ H6 z' z3 w' w2 _ I6 r4 r6 q6) fun e'' s7 ⟨z4, H7, I7, r7, q7⟩ => ?_))
          cases z4 with
          | bl k3 =>
            cases r7
            exact wpAny_truthy_bool ⟨H7, I7, q7⟩
          | _ => exact q7.elim
      | _ => exact q5.elim
  | _ => exact q3.elim
end
end PB

set_option maxRecDepth 100000
set_option autoImplicit false
set_option maxHeartbeats 4000000
/-! ### defs over data: what a def makes of its arguments as a function of Lean, and that the code does it -/
namespace PV
open PySem PySem.Spec PyProof.Rows L2
open C8 (tCut)
open PB (Ext)
inductive D where
  | non | bl (b : Bool) | int (i : Int) | str (x : Str) | lst (xs : List D) | tup (xs : List D) | fro (xs : List D)
mutual
def D.py : D → PyData
  | .non => .none
  | .bl b => .bool b
  | .int i => .int i
  | .str x => .str x
  | .lst xs => .list (D.pys xs)
  | .tup xs => .tuple (D.pys xs)
  | .fro xs => .list (D.pys xs)
def D.pys : List D → List PyData
  | [] => []
  | d :: ds => d.py :: D.pys ds
end
mutual
inductive Dv (K : PySem.W.Frag) (S : Hp) : V → D → Prop
  | non : Dv K S .non .non
  | bl (b : Bool) : Dv K S (.bl b) (.bl b)
  | int (i : Int) : Dv K S (.int i) (.int i)
  | str (x : Str) : Dv K S (.str x) (.str x)
  | lst {a : Addr} {xs : List V} {ds : List D} : S a = some (.lst xs) → DvA K S xs ds → Dv K S (.ref a) (.lst ds)
  | tup {a : Addr} {xs : List V} {ds : List D} : S a = some (.tup xs) → DvA K S xs ds → Dv K S (.ref a) (.tup ds)
  | fro {a : Addr} {xs : List V} {ds : List D} : SqL K S a xs → DvA K S xs ds → Dv K S (.ref a) (.fro ds)
inductive DvA (K : PySem.W.Frag) (S : Hp) : List V → List D → Prop
  | nil : DvA K S [] []
  | cons {v : V} {vs : List V} {d : D} {ds : List D} : Dv K S v d → DvA K S vs ds → DvA K S (v :: vs) (d :: ds)
end
section
variable {K : PySem.W.Frag} {S S' : Hp}
mutual
theorem Dv.mono (e : Ext S S') : ∀ {d : D} {v : V}, Dv K S v d → Dv K S' v d
  | .non, _, h => by cases h; exact .non
  | .bl b, _, h => by cases h; exact .bl b
  | .int i, _, h => by cases h; exact .int i
  | .str x, _, h => by cases h; exact .str x
  | .lst ds, _, h => by cases h with | lst h1 h2 => exact .lst (e _ _ h1) (DvA.mono e h2)
  | .tup ds, _, h => by cases h with | tup h1 h2 => exact .tup (e _ _ h1) (DvA.mono e h2)
  | .fro ds, _, h => by cases h with | fro h1 h2 => exact .fro (PB.ext_l e h1) (DvA.mono e h2)
theorem DvA.mono (e : Ext S S') : ∀ {ds : List D} {vs : List V}, DvA K S vs ds → DvA K S' vs ds
  | [], _, h => by cases h; exact .nil
  | d :: ds, _, h => by cases h with | cons h1 h2 => exact .cons (Dv.mono e h1) (DvA.mono e h2)
end
mutual
theorem Dv.dp : ∀ {d : D} {v : V}, Dv K S v d → Dp K S v d.py
  | .non, _, h => by cases h; exact .non
  | .bl b, _, h => by cases h; exact .bl b
  | .int i, _, h => by cases h; exact .int i
  | .str x, _, h => by cases h; exact .str x
  | .lst ds, _, h => by cases h with | lst h1 h2 => exact .lst (SqL.of h1) (DvA.dp h2)
  | .tup ds, _, h => by cases h with | tup h1 h2 => exact .tup (SqT.of h1) (DvA.dp h2)
  | .fro ds, _, h => by cases h with | fro h1 h2 => exact .lst h1 (DvA.dp h2)
theorem DvA.dp : ∀ {ds : List D} {vs : List V}, DvA K S vs ds → DpAll K S vs (D.pys ds)
  | [], _, h => by cases h; exact .nil
  | d :: ds, _, h => by cases h with | cons h1 h2 => exact .cons (Dv.dp h1) (DvA.dp h2)
end
theorem DvA.len : ∀ {ds : List D} {vs : List V}, DvA K S vs ds → vs.length = ds.length
  | [], _, h => by cases h; rfl
  | d :: ds, _, h => by cases h with | cons h1 h2 => simp [DvA.len h2]
theorem DvA.app : ∀ {ds es : List D} {vs us : List V}, DvA K S vs ds → DvA K S us es → DvA K S (vs ++ us) (ds ++ es)
  | [], _, _, _, h, q => by cases h; exact q
  | d :: ds, _, _, _, h, q => by cases h with | cons h1 h2 => exact .cons h1 (DvA.app h2 q)
theorem DvA.get : ∀ {ds : List D} {vs : List V} {i : Nat} {d : D}, DvA K S vs ds → ds[i]? = some d → ∃ v, vs[i]? = some v ∧ Dv K S v d
  | [], _, _, _, h, e => by simp at e
  | d :: ds, _, 0, _, h, e => by cases h with | cons h1 h2 => simp at e; subst e; exact ⟨_, rfl, h1⟩
  | d :: ds, _, i + 1, _, h, e => by
    cases h with
    | cons h1 h2 =>
      obtain ⟨v, e1, e2⟩ := DvA.get (i := i) h2 (by simpa using e)
      exact ⟨v, by simpa using e1, e2⟩
theorem DvA.set {d : D} {v : V} (q : Dv K S v d) : ∀ {ds : List D} {vs : List V} {i : Nat}, DvA K S vs ds → DvA K S (vs.set i v) (ds.set i d)
  | [], _, _, h => by cases h; exact .nil
  | _ :: ds, _, 0, h => by cases h with | cons h1 h2 => exact .cons q h2
  | _ :: ds, _, i + 1, h => by cases h with | cons h1 h2 => exact .cons h1 (DvA.set q h2)
theorem DvA.drop : ∀ {n : Nat} {ds : List D} {vs : List V}, DvA K S vs ds → DvA K S (vs.drop n) (ds.drop n)
  | 0, _, _, h => h
  | _ + 1, [], _, h => by cases h; exact .nil
  | n + 1, d :: ds, _, h => by
    cases h with
    | cons h1 h2 => exact DvA.drop (n := n) (ds := ds) h2
theorem DvA.take : ∀ {n : Nat} {ds : List D} {vs : List V}, DvA K S vs ds → DvA K S (vs.take n) (ds.take n)
  | 0, _, _, h => .nil
  | _ + 1, [], _, h => by cases h; exact .nil
  | n + 1, d :: ds, _, h => by cases h with | cons h1 h2 => exact .cons h1 (DvA.take h2)
def dints : List D → Option (List Int)
  | [] => some []
  | .int i :: r => (dints r).map (i :: ·)
  | _ :: _ => none
theorem DvA.dint : ∀ {ds : List D} {vs : List V} {ns : List Int}, DvA K S vs ds → PV.dints ds = some ns → vs = ns.map V.int
  | [], _, _, h, e => by cases h; cases e; rfl
  | d :: ds, _, ns, h, e => by
    cases h with
    | cons h1 h2 =>
      cases d with
      | int i =>
        cases h1
        simp only [PV.dints, Option.map_eq_some_iff] at e
        obtain ⟨ms, e1, rfl⟩ := e
        rw [DvA.dint h2 e1]; rfl
      | _ => cases e
theorem ints_map : ∀ ns : List Int, dints (ns.map D.int) = some ns
  | [] => rfl
  | n :: ns => by simp [dints, ints_map ns]
theorem DvA.ofInts : ∀ ns : List Int, DvA K S (ns.map V.int) (ns.map D.int)
  | [] => .nil
  | n :: ns => .cons (.int n) (DvA.ofInts ns)
def bls : List D → Option (List Bool)
  | [] => some []
  | .bl b :: r => (bls r).map (b :: ·)
  | _ :: _ => none
theorem DvA.bls : ∀ {ds : List D} {vs : List V} {ns : List Bool}, DvA K S vs ds → PV.bls ds = some ns → vs = ns.map V.bl
  | [], _, _, h, e => by cases h; cases e; rfl
  | d :: ds, _, ns, h, e => by
    cases h with
    | cons h1 h2 =>
      cases d with
      | bl i =>
        cases h1
        simp only [PV.bls, Option.map_eq_some_iff] at e
        obtain ⟨ms, e1, rfl⟩ := e
        rw [DvA.bls h2 e1]; rfl
      | _ => cases e
end
/-- from S in H to S' in H': what stands stays; S' knows no more of what stood -/
structure Grow (S H S' H' : Hp) : Prop where
  s : Ext S S'
  h : Ext H H'
  m : Ext S' H'
  k : ∀ a, H a ≠ none → S' a = S a
theorem Grow.refl {S H : Hp} (e : Ext S H) : Grow S H S H := ⟨PB.Ext.refl _, PB.Ext.refl _, e, fun _ _ => rfl⟩
theorem Ext.nn {H H' : Hp} (e : Ext H H') {a : Addr} (h : H a ≠ none) : H' a ≠ none := by
  cases q : H a with
  | none => exact (h q).elim
  | some o => rw [e a o q]; exact fun z => by cases z
theorem Grow.trans {S H S1 H1 S2 H2 : Hp} (a : Grow S H S1 H1) (b : Grow S1 H1 S2 H2) : Grow S H S2 H2 :=
  ⟨a.s.trans b.s, a.h.trans b.h, b.m, fun x hx => (b.k x (Ext.nn a.h hx)).trans (a.k x hx)⟩
theorem Ext.none {H H' : Hp} (e : Ext H H') {a : Addr} (h : H' a = none) : H a = none := by
  cases q : H a with
  | none => rfl
  | some o => rw [e a o q] at h; cases h
theorem Grow.new {S H : Hp} {p : Addr} {o : HO} (e : Ext S H) (h : H p = none) : Grow S H (upd S p o) (upd H p o) :=
  ⟨PB.Ext.new (Ext.none e h), PB.Ext.new h, fun a u q => by
    by_cases c : a = p
    · subst c; rw [upd_same] at q ⊢; exact q
    · rw [upd_ne c] at q ⊢; exact e a u q, fun a ha => by rw [upd_ne]; intro c; subst c; exact ha h⟩
theorem Grow.fresh {S H : Hp} {p : Addr} {o : HO} (e : Ext S H) (h : H p = none) : Grow S H S (upd H p o) :=
  ⟨PB.Ext.refl _, PB.Ext.new h, fun a u q => (PB.Ext.new h) _ _ (e a u q), fun _ _ => rfl⟩
inductive DV where
  | dat (d : D) | own (ds : List D)
abbrev DS := List (Option DV)
structure Rel (K : PySem.W.Frag) (S0 H0 S H : Hp) (σ : L2.St) (δ : DS) : Prop where
  g : Grow S0 H0 S H
  n : σ.length = δ.length
  d : ∀ (i : Nat) (d : D), δ[i]? = some (some (DV.dat d)) → ∃ v, σ[i]? = some (some v) ∧ Dv K S v d
  o : ∀ (i : Nat) (ds : List D), δ[i]? = some (some (DV.own ds)) → ∃ p vs, σ[i]? = some (some (V.ref p)) ∧ H p = some (.lst vs) ∧ S p = none ∧ H0 p = none ∧ DvA K S vs ds
  j : ∀ (i j : Nat) (ds es : List D) (p : Addr), δ[i]? = some (some (DV.own ds)) → δ[j]? = some (some (DV.own es)) → σ[i]? = some (some (V.ref p)) → σ[j]? = some (some (V.ref p)) → i = j
section
variable {K : PySem.W.Frag} {S0 H0 S H S' H' : Hp} {σ : L2.St} {δ : DS}
theorem Rel.grow (R : Rel K S0 H0 S H σ δ) (g : Grow S H S' H') : Rel K S0 H0 S' H' σ δ where
  g := R.g.trans g
  n := R.n
  d := fun i d e => let ⟨v, h, q⟩ := R.d i d e; ⟨v, h, q.mono g.s⟩
  o := fun i ds e => let ⟨p, vs, h1, h2, h3, h4, h5⟩ := R.o i ds e; ⟨p, vs, h1, g.h _ _ h2, (g.k p (by rw [h2]; exact fun z => by cases z)).trans h3, h4, h5.mono g.s⟩
  j := R.j
theorem Rel.set (R : Rel K S0 H0 S H σ δ) {d : D} {v : V} (q : Dv K S v d) (i : Nat) : Rel K S0 H0 S H (σ.set i (some v)) (δ.set i (some (DV.dat d))) where
  g := R.g
  n := by rw [List.length_set, List.length_set, R.n]
  d := fun j e h => by
    by_cases c : i = j
    · subst c
      by_cases l : i < δ.length
      · rw [List.getElem?_set_self l] at h
        obtain rfl : d = e := by cases h; rfl
        exact ⟨v, List.getElem?_set_self (by rw [R.n]; exact l), q⟩
      · rw [List.getElem?_eq_none (by rw [List.length_set]; omega)] at h; cases h
    · rw [List.getElem?_set_ne c] at h ⊢
      exact R.d j e h
  o := fun j ds h => by
    by_cases c : i = j
    · subst c
      by_cases l : i < δ.length
      · rw [List.getElem?_set_self l] at h; cases h
      · rw [List.getElem?_eq_none (by rw [List.length_set]; omega)] at h; cases h
    · rw [List.getElem?_set_ne c] at h ⊢
      exact R.o j ds h
  j := fun a b ds es p h1 h2 h3 h4 => by
    have ne : ∀ (c : Nat) (ds : List D), (δ.set i (some (DV.dat d)))[c]? = some (some (DV.own ds)) → i ≠ c := fun c ds h e => by
      subst e
      by_cases l : i < δ.length
      · rw [List.getElem?_set_self l] at h; cases h
      · rw [List.getElem?_eq_none (by rw [List.length_set]; omega)] at h; cases h
    have na := ne a ds h1
    have nb := ne b es h2
    rw [List.getElem?_set_ne na] at h1 h3
    rw [List.getElem?_set_ne nb] at h2 h4
    exact R.j a b ds es p h1 h2 h3 h4
/-- a new list, not handed out -/
theorem Rel.setOwn (R : Rel K S0 H0 S H σ δ) {ds : List D} {vs : List V} {p : Addr} {Hb : Hp} (hb : Hb p = none) (gb : Ext H0 Hb) (ob : ∀ (i : Nat) (ds : List D), δ[i]? = some (some (DV.own ds)) → ∃ p vs, σ[i]? = some (some (V.ref p)) ∧ Hb p = some (.lst vs))
    (hp : H p = some (.lst vs)) (sp : S p = none) (q : DvA K S vs ds) (i : Nat) : Rel K S0 H0 S H (σ.set i (some (V.ref p))) (δ.set i (some (DV.own ds))) where
  g := R.g
  n := by rw [List.length_set, List.length_set, R.n]
  d := fun j e h => by
    by_cases c : i = j
    · subst c
      by_cases l : i < δ.length
      · rw [List.getElem?_set_self l] at h; cases h
      · rw [List.getElem?_eq_none (by rw [List.length_set]; omega)] at h; cases h
    · rw [List.getElem?_set_ne c] at h ⊢
      exact R.d j e h
  o := fun j es h => by
    by_cases c : i = j
    · subst c
      by_cases l : i < δ.length
      · rw [List.getElem?_set_self l] at h
        obtain rfl : ds = es := by cases h; rfl
        exact ⟨p, vs, List.getElem?_set_self (by rw [R.n]; exact l), hp, sp, Ext.none gb hb, q⟩
      · rw [List.getElem?_eq_none (by rw [List.length_set]; omega)] at h; cases h
    · rw [List.getElem?_set_ne c] at h ⊢
      exact R.o j es h
  j := fun a b ds1 es p1 h1 h2 h3 h4 => by
    have old : ∀ (c : Nat) (ds : List D) (p' : Addr), c ≠ i → (δ.set i (some (DV.own ds)))[c]? = δ[c]? := fun c ds p' e => List.getElem?_set_ne (Ne.symm e)
    have ne : ∀ (c : Nat) (es : List D) (p' : Addr), c ≠ i → δ[c]? = some (some (DV.own es)) → σ[c]? = some (some (V.ref p')) → p' ≠ p := fun c es p' _ h h' e => by
      subst e
      obtain ⟨p2, vs2, e1, e2⟩ := ob c es h
      rw [h'] at e1
      obtain rfl : p' = p2 := by cases e1; rfl
      rw [hb] at e2; cases e2
    by_cases ca : i = a
    · by_cases cb : i = b
      · exact ca.symm.trans cb
      · subst ca
        rw [List.getElem?_set_ne cb] at h2 h4
        have la : i < σ.length := by
          by_cases l : i < σ.length
          · exact l
          · rw [List.getElem?_eq_none (by rw [List.length_set]; omega)] at h3; cases h3
        rw [List.getElem?_set_self la] at h3
        obtain rfl : p = p1 := by cases h3; rfl
        exact (ne b es p (Ne.symm cb) h2 h4 rfl).elim
    · rw [List.getElem?_set_ne ca] at h1 h3
      by_cases cb : i = b
      · subst cb
        have la : i < σ.length := by
          by_cases l : i < σ.length
          · exact l
          · rw [List.getElem?_eq_none (by rw [List.length_set]; omega)] at h4; cases h4
        rw [List.getElem?_set_self la] at h4
        obtain rfl : p = p1 := by cases h4; rfl
        exact (ne a ds1 p (Ne.symm ca) h1 h3 rfl).elim
      · rw [List.getElem?_set_ne cb] at h2 h4
        exact R.j a b ds1 es p1 h1 h2 h3 h4
/-- an own list is changed in place -/
theorem Rel.put (R : Rel K S0 H0 S H σ δ) {i : Nat} {ds es : List D} {vs : List V} {p : Addr} (hi : δ[i]? = some (some (DV.own ds))) (hp : σ[i]? = some (some (V.ref p))) (q : DvA K S vs es) :
    Rel K S0 H0 S (upd H p (.lst vs)) σ (δ.set i (some (DV.own es))) := by
  have li : i < δ.length := (List.getElem?_eq_some_iff.mp hi).1
  obtain ⟨p2, us, e1, e2, e3, e4, e5⟩ := R.o i ds hi
  rw [hp] at e1
  obtain rfl : p = p2 := by cases e1; rfl
  refine ⟨⟨R.g.s, fun a o h => ?_, fun a o h => ?_, R.g.k⟩, by rw [List.length_set, R.n], fun j e h => ?_, fun j fs h => ?_, fun a b ds1 es1 p1 h1 h2 h3 h4 => ?_⟩
  · rw [upd_ne (by intro c; subst c; rw [e4] at h; cases h)]; exact R.g.h a o h
  · rw [upd_ne (by intro c; subst c; rw [e3] at h; cases h)]; exact R.g.m a o h
  · by_cases c : i = j
    · subst c; rw [List.getElem?_set_self li] at h; cases h
    · rw [List.getElem?_set_ne c] at h; exact R.d j e h
  · by_cases c : i = j
    · subst c
      rw [List.getElem?_set_self li] at h
      obtain rfl : es = fs := by cases h; rfl
      exact ⟨p, vs, hp, upd_same, e3, e4, q⟩
    · rw [List.getElem?_set_ne c] at h
      obtain ⟨p2, us2, f1, f2, f3, f4, f5⟩ := R.o j fs h
      have ne : p2 ≠ p := fun e => c (R.j i j ds fs p hi h hp (e ▸ f1))
      exact ⟨p2, us2, f1, by rw [upd_ne ne]; exact f2, f3, f4, f5⟩
  · have back : ∀ (c : Nat) (fs : List D), (δ.set i (some (DV.own es)))[c]? = some (some (DV.own fs)) → ∃ gs, δ[c]? = some (some (DV.own gs)) := fun c fs h => by
      by_cases k : i = c
      · subst k; exact ⟨ds, hi⟩
      · rw [List.getElem?_set_ne k] at h; exact ⟨fs, h⟩
    obtain ⟨g1, k1⟩ := back a ds1 h1
    obtain ⟨g2, k2⟩ := back b es1 h2
    exact R.j a b g1 g2 p1 k1 k2 h3 h4
/-- an own list is handed out: from then on it is data -/
theorem Rel.frz (R : Rel K S0 H0 S H σ δ) {i : Nat} {ds : List D} (hi : δ[i]? = some (some (DV.own ds))) : ∃ S', Ext S S' ∧ Rel K S0 H0 S' H σ (δ.set i (some (DV.dat (.lst ds)))) := by
  have li : i < δ.length := (List.getElem?_eq_some_iff.mp hi).1
  obtain ⟨p, vs, e1, e2, e3, e4, e5⟩ := R.o i ds hi
  have x : Ext S (upd S p (.lst vs)) := PB.Ext.new e3
  refine ⟨upd S p (.lst vs), x, ⟨R.g.s.trans x, R.g.h, fun a o h => ?_, fun a h => ?_⟩, by rw [List.length_set, R.n], fun j e h => ?_, fun j fs h => ?_, fun a b ds1 es1 p1 h1 h2 h3 h4 => ?_⟩
  · by_cases c : a = p
    · subst c; rw [upd_same] at h; rw [e2]; exact h
    · rw [upd_ne c] at h; exact R.g.m a o h
  · rw [upd_ne (by intro c; subst c; exact h e4)]; exact R.g.k a h
  · by_cases c : i = j
    · subst c
      rw [List.getElem?_set_self li] at h
      obtain rfl : D.lst ds = e := by cases h; rfl
      exact ⟨_, e1, .lst upd_same (e5.mono x)⟩
    · rw [List.getElem?_set_ne c] at h
      obtain ⟨v, k1, k2⟩ := R.d j e h
      exact ⟨v, k1, k2.mono x⟩
  · by_cases c : i = j
    · subst c; rw [List.getElem?_set_self li] at h; cases h
    · rw [List.getElem?_set_ne c] at h
      obtain ⟨p2, us2, f1, f2, f3, f4, f5⟩ := R.o j fs h
      have ne : p2 ≠ p := fun e => c (R.j i j ds fs p hi h e1 (e ▸ f1))
      exact ⟨p2, us2, f1, f2, by rw [upd_ne ne]; exact f3, f4, f5.mono x⟩
  · have back : ∀ (c : Nat) (fs : List D), (δ.set i (some (DV.dat (.lst ds))))[c]? = some (some (DV.own fs)) → δ[c]? = some (some (DV.own fs)) := fun c fs h => by
      by_cases k : i = c
      · subst k; rw [List.getElem?_set_self li] at h; cases h
      · rw [List.getElem?_set_ne k] at h; exact h
    exact R.j a b ds1 es1 p1 (back _ _ h1) (back _ _ h2) h3 h4
end
/-- a value that is read at once: data, or an own list as it stands -/
inductive Vw (K : PySem.W.Frag) (S H : Hp) : V → D → Prop
  | dat {v : V} {d : D} (h : Dv K S v d) : Vw K S H v d
  | own {p : Addr} {vs : List V} {ds : List D} (hp : H p = some (.lst vs)) (sp : S p = none) (h : DvA K S vs ds) : Vw K S H (.ref p) (.lst ds)
inductive VwA (K : PySem.W.Frag) (S H : Hp) : List V → List D → Prop
  | nil : VwA K S H [] []
  | cons {v : V} {vs : List V} {d : D} {ds : List D} : Vw K S H v d → VwA K S H vs ds → VwA K S H (v :: vs) (d :: ds)
section
variable {K : PySem.W.Frag} {S H S' H' : Hp} {v : V} {d : D} {vs : List V} {ds : List D}
theorem Vw.grow (h : Vw K S H v d) (g : Grow S H S' H') : Vw K S' H' v d := by
  cases h with
  | dat h => exact .dat (h.mono g.s)
  | own hp sp h => exact .own (g.h _ _ hp) ((g.k _ (by rw [hp]; exact fun z => by cases z)).trans sp) (h.mono g.s)
theorem Vw.dp (h : Vw K S H v d) (e : Ext S H) : Dp K H v d.py := by
  cases h with
  | dat h => exact (h.mono e).dp
  | own hp sp h => exact .lst (SqL.of hp) (h.mono e).dp
theorem Vw.lst (h : Vw K S H v (.lst ds)) (e : Ext S H) : ∃ p vs, v = .ref p ∧ H p = some (.lst vs) ∧ DvA K S vs ds := by
  cases h with
  | dat h => cases h with | lst h1 h2 => exact ⟨_, _, rfl, e _ _ h1, h2⟩
  | own hp sp h => exact ⟨_, _, rfl, hp, h⟩
theorem Vw.fro (h : Vw K S H v (.fro ds)) (e : Ext S H) : ∃ p vs, v = .ref p ∧ SqL K H p vs ∧ DvA K S vs ds := by
  cases h with
  | dat h => cases h with | fro h1 h2 => exact ⟨_, _, rfl, PB.ext_l e h1, h2⟩
theorem Vw.tup (h : Vw K S H v (.tup ds)) (e : Ext S H) : ∃ p vs, v = .ref p ∧ H p = some (.tup vs) ∧ S p = some (.tup vs) ∧ DvA K S vs ds := by
  cases h with
  | dat h => cases h with | tup h1 h2 => exact ⟨_, _, rfl, e _ _ h1, h1, h2⟩
theorem Vw.int {i : Int} (h : Vw K S H v (.int i)) : v = .int i := by cases h with | dat h => cases h; rfl
theorem Vw.bl {i : Bool} (h : Vw K S H v (.bl i)) : v = .bl i := by cases h with | dat h => cases h; rfl
theorem Vw.str {i : Str} (h : Vw K S H v (.str i)) : v = .str i := by cases h with | dat h => cases h; rfl
theorem Vw.non (h : Vw K S H v .non) : v = .non := by cases h with | dat h => cases h; rfl
theorem VwA.grow (h : VwA K S H vs ds) (g : Grow S H S' H') : VwA K S' H' vs ds := by
  induction h with
  | nil => exact .nil
  | cons h _ ih => exact .cons (h.grow g) ih
end
/-! ### what it means that a reading does a function -/
section
variable (K : PySem.W.Frag)
def SE (t : TE) (f : DS → Option D) : Prop := ∀ S0 H0 S H σ δ r, Rel K S0 H0 S H σ δ → f δ = some r → ∀ Q : VK, (∀ S' H' v, Grow S H S' H' → Dv K S' v r → Q v H') → t σ H Q
def SV (t : TE) (f : DS → Option D) : Prop := ∀ S0 H0 S H σ δ r, Rel K S0 H0 S H σ δ → f δ = some r → ∀ Q : VK, (∀ S' H' v, Grow S H S' H' → Vw K S' H' v r → Q v H') → t σ H Q
def SF (t : TE) (f : DS → Option (List D)) : Prop := ∀ S0 H0 S H σ δ r, Rel K S0 H0 S H σ δ → f δ = some r → ∀ Q : VK, (∀ S' H' p vs, H p = none → Grow S H S' H' → H' p = some (.lst vs) → S' p = none → DvA K S' vs r → Q (.ref p) H') → t σ H Q
def ST (t : TT) (f : DS → Option Bool) : Prop := ∀ S0 H0 S H σ δ r, Rel K S0 H0 S H σ δ → f δ = some r → ∀ Q : Bool → Hp → Prop, (∀ S' H', Grow S H S' H' → Q r H') → t σ H Q
def SA (t : TA) (f : DS → Option (List D)) : Prop := ∀ S0 H0 S H σ δ r, Rel K S0 H0 S H σ δ → f δ = some r → ∀ Q : List V → Hp → Prop, (∀ S' H' vs, Grow S H S' H' → DvA K S' vs r → Q vs H') → t σ H Q
def SAV (t : TA) (f : DS → Option (List D)) : Prop := ∀ S0 H0 S H σ δ r, Rel K S0 H0 S H σ δ → f δ = some r → ∀ Q : List V → Hp → Prop, (∀ S' H' vs, Grow S H S' H' → VwA K S' H' vs r → Q vs H') → t σ H Q
def SR (r : R2) (f : D → D → Option D) : Prop := ∀ S H x y d e z, Ext S H → Vw K S H x d → Vw K S H y e → f d e = some z → ∀ Q : VK, (∀ S' H' v, Grow S H S' H' → Dv K S' v z → Q v H') → r x y H Q
def SRF (r : R2) (f : D → D → Option (List D)) : Prop := ∀ S H x y d e z, Ext S H → Vw K S H x d → Vw K S H y e → f d e = some z → ∀ Q : VK, (∀ H' p vs, H p = none → Grow S H S H' → H' p = some (.lst vs) → DvA K S vs z → Q (.ref p) H') → r x y H Q
def SC (r : PB.R1) (f : List D → Option D) : Prop := ∀ S H xs ds z, Ext S H → VwA K S H xs ds → f ds = some z → ∀ Q : VK, (∀ S' H' v, Grow S H S' H' → Dv K S' v z → Q v H') → r xs H Q
def SCF (r : PB.R1) (f : List D → Option (List D)) : Prop := ∀ S H xs ds z, Ext S H → VwA K S H xs ds → f ds = some z → ∀ Q : VK, (∀ H' p vs, H p = none → Grow S H S H' → H' p = some (.lst vs) → DvA K S vs z → Q (.ref p) H') → r xs H Q
def SO (t : TO) (f : DS → Option (Option Int)) : Prop := ∀ S0 H0 S H σ δ r, Rel K S0 H0 S H σ δ → f δ = some r → ∀ Q : Option Int → Hp → Prop, (∀ S' H', Grow S H S' H' → Q r H') → t σ H Q
def JOk (S : Hp) (J : It) (ds : List D) : Prop := ∀ S' H' i, Ext S S' → Ext S' H' → (∀ d, ds[i]? = some d → J.go i H' ∧ ∀ v H2, J.yld i H' v H2 → ∃ S2, Grow S' H' S2 H2 ∧ Dv K S2 v d) ∧ (i = ds.length → J.stop i H')
def SI (t : TI) (f : DS → Option (List D)) : Prop := ∀ S0 H0 S H σ δ r, Rel K S0 H0 S H σ δ → f δ = some r → ∀ Q : It → Hp → Prop, (∀ S' H' J, Grow S H S' H' → JOk K S' J r → Q J H') → t σ H Q
def SG (vs : List Nat) (g : TG) (f : D → DS → Option DS) : Prop := ∀ S0 H0 S H σ δ v d δ', Rel K S0 H0 S H σ δ → Dv K S v d → f d δ = some δ' → ∀ Q : L2.St → Hp → Prop, (∀ σ', Rel K S0 H0 S H σ' δ' → wipe σ' vs = wipe σ vs → Q σ' H) → g v σ H Q
def SGs (vs : List Nat) (g : TGs) (f : List D → DS → Option DS) : Prop := ∀ S0 H0 S H σ δ us ds δ', Rel K S0 H0 S H σ δ → DvA K S us ds → f ds δ = some δ' → ∀ Q : L2.St → Hp → Prop, (∀ σ', Rel K S0 H0 S H σ' δ' → wipe σ' vs = wipe σ vs → Q σ' H) → g us σ H Q
end
inductive Out where
  | nx (δ : DS) | rt (d : D) | bk (δ : DS) | ct (δ : DS)
def OutOk (K : PySem.W.Frag) (S0 H0 S : Hp) (E : Ends) : Out → Prop
  | .nx δ => ∀ S' H' σ', Ext S S' → Rel K S0 H0 S' H' σ' δ → E.nx σ' H'
  | .rt r => ∀ S' H' v, Ext S S' → Grow S0 H0 S' H' → Dv K S' v r → E.rt v H'
  | .bk δ => ∀ S' H' σ', Ext S S' → Rel K S0 H0 S' H' σ' δ → E.bk σ' H'
  | .ct δ => ∀ S' H' σ', Ext S S' → Rel K S0 H0 S' H' σ' δ → E.ct σ' H'
theorem OutOk.ext {K : PySem.W.Frag} {S0 H0 S S1 : Hp} {E : Ends} {o : Out} (h : OutOk K S0 H0 S E o) (e : Ext S S1) : OutOk K S0 H0 S1 E o := by
  cases o with
  | nx δ => exact fun S' H' σ' x => h S' H' σ' (e.trans x)
  | rt r => exact fun S' H' v x => h S' H' v (e.trans x)
  | bk δ => exact fun S' H' σ' x => h S' H' σ' (e.trans x)
  | ct δ => exact fun S' H' σ' x => h S' H' σ' (e.trans x)
def SS (K : PySem.W.Frag) (t : TS) (f : DS → Option Out) : Prop := ∀ S0 H0 S H σ δ o, Rel K S0 H0 S H σ δ → f δ = some o → ∀ E : Ends, OutOk K S0 H0 S E o → t E σ H
end PV

set_option maxRecDepth 100000
set_option autoImplicit false
set_option maxHeartbeats 4000000
namespace PV
open PySem PySem.Spec PyProof.Rows L2
open C8 (tCut)
open PB (Ext)
def most : Nat := 1000000
theorem most_le {n : Nat} (h : n ≤ most) : n ≤ sizeLine := PB.sz_le (by unfold most at h; omega)
/-! ### expressions -/
section
variable {K : PySem.W.Frag} {ta tb tc te : TE} {fa fb fc fe : DS → Option D} {tl : TA} {fl : DS → Option (List D)} {t u : TT} {ft fu : DS → Option Bool}
theorem DvA.vw {S H : Hp} : ∀ {ds : List D} {vs : List V}, DvA K S vs ds → VwA K S H vs ds
  | [], _, h => by cases h; exact .nil
  | d :: ds, _, h => by cases h with | cons h1 h2 => exact .cons (.dat h1) (DvA.vw h2)
theorem SE.v (h : SE K te fe) : SV K te fe := fun S0 H0 S H σ δ r R e Q q => h S0 H0 S H σ δ r R e Q fun S' H' v g d => q S' H' v g (.dat d)
theorem SA.v (h : SA K tl fl) : SAV K tl fl := fun S0 H0 S H σ δ r R e Q q => h S0 H0 S H σ δ r R e Q fun S' H' vs g d => q S' H' vs g d.vw
def dLst (f : DS → Option (List D)) : DS → Option D := fun δ => (f δ).map .lst
/-- a fresh list is handed out -/
theorem SF.e (h : SF K te fl) : SE K te (dLst fl) := fun S0 H0 S H σ δ r R e Q q => by
  obtain ⟨ds, e1, rfl⟩ := Option.map_eq_some_iff.mp e
  refine h S0 H0 S H σ δ ds R e1 Q fun S' H' p vs hp g hl sp d => ?_
  have x : Ext S' (upd S' p (.lst vs)) := PB.Ext.new sp
  refine q (upd S' p (.lst vs)) H' (.ref p) ⟨g.s.trans x, g.h, fun a o k => ?_, fun a k => ?_⟩ (.lst upd_same (d.mono x))
  · by_cases c : a = p
    · subst c; rw [upd_same] at k; rw [hl]; exact k
    · rw [upd_ne c] at k; exact g.m a o k
  · rw [upd_ne (by intro c; subst c; exact k hp)]; exact g.k a k
def dVar (i : Nat) : DS → Option D := fun δ => match δ[i]? with
  | some (some (.dat d)) => some d
  | _ => none
def vVar (i : Nat) : DS → Option D := fun δ => match δ[i]? with
  | some (some (.dat d)) => some d
  | some (some (.own ds)) => some (.lst ds)
  | _ => none
theorem s_var {i : Nat} : SE K (PB.mVar i) (dVar i) := fun S0 H0 S H σ δ r R e Q q => by
  unfold dVar at e
  split at e
  · rename_i d h
    cases e
    obtain ⟨v, h1, h2⟩ := R.d i _ h
    exact PB.p_var h1 Q (q S H v (.refl R.g.m) h2)
  · cases e
theorem v_var {i : Nat} : SV K (PB.mVar i) (vVar i) := fun S0 H0 S H σ δ r R e Q q => by
  unfold vVar at e
  split at e
  · rename_i d h
    cases e
    obtain ⟨v, h1, h2⟩ := R.d i _ h
    exact PB.p_var h1 Q (q S H v (.refl R.g.m) (.dat h2))
  · rename_i ds h
    cases e
    obtain ⟨p, vs, h1, h2, h3, h4, h5⟩ := R.o i _ h
    exact PB.p_var h1 Q (q S H _ (.refl R.g.m) (.own h2 h3 h5))
  · cases e
def dC (d : D) : DS → Option D := fun _ => some d
theorem s_int {i : Int} : SE K (tC (.int i)) (dC (.int i)) := fun S0 H0 S H σ δ r R e Q q => by cases e; exact q S H _ (.refl R.g.m) (.int i)
theorem s_bl {i : Bool} : SE K (tC (.bl i)) (dC (.bl i)) := fun S0 H0 S H σ δ r R e Q q => by cases e; exact q S H _ (.refl R.g.m) (.bl i)
theorem s_str {i : Str} : SE K (tC (.str i)) (dC (.str i)) := fun S0 H0 S H σ δ r R e Q q => by cases e; exact q S H _ (.refl R.g.m) (.str i)
theorem s_non : SE K (tC .non) (dC .non) := fun S0 H0 S H σ δ r R e Q q => by cases e; exact q S H _ (.refl R.g.m) .non
def dOp (r : D → D → Option D) (a b : DS → Option D) : DS → Option D := fun δ => (a δ).bind fun x => (b δ).bind fun y => r x y
theorem s_op {r : R2} {f : D → D → Option D} (hr : SR K r f) (ha : SV K ta fa) (hb : SV K tb fb) : SE K (tOp r ta tb) (dOp f fa fb) := fun S0 H0 S H σ δ z R e Q q => by
  obtain ⟨x, ex, e⟩ := Option.bind_eq_some_iff.mp e
  obtain ⟨y, ey, e⟩ := Option.bind_eq_some_iff.mp e
  refine ha S0 H0 S H σ δ x R ex _ fun S1 H1 v g1 d1 => ?_
  refine hb S0 H0 S1 H1 σ δ y (R.grow g1) ey _ fun S2 H2 w g2 d2 => ?_
  exact hr S2 H2 v w x y z g2.m (d1.grow g2) d2 e Q fun S3 H3 u g3 d3 => q S3 H3 u ((g1.trans g2).trans g3) d3
def fOp (r : D → D → Option (List D)) (a b : DS → Option D) : DS → Option (List D) := fun δ => (a δ).bind fun x => (b δ).bind fun y => r x y
theorem f_op {r : R2} {f : D → D → Option (List D)} (hr : SRF K r f) (ha : SV K ta fa) (hb : SV K tb fb) : SF K (tOp r ta tb) (fOp f fa fb) := fun S0 H0 S H σ δ z R e Q q => by
  obtain ⟨x, ex, e⟩ := Option.bind_eq_some_iff.mp e
  obtain ⟨y, ey, e⟩ := Option.bind_eq_some_iff.mp e
  refine ha S0 H0 S H σ δ x R ex _ fun S1 H1 v g1 d1 => ?_
  refine hb S0 H0 S1 H1 σ δ y (R.grow g1) ey _ fun S2 H2 w g2 d2 => ?_
  exact hr S2 H2 v w x y z g2.m (d1.grow g2) d2 e Q fun H3 p vs hp g3 h3 d3 => q S2 H3 p vs (Ext.none (g1.trans g2).h hp) ((g1.trans g2).trans g3) h3 (Ext.none g2.m hp) d3
def dNeg (a : DS → Option D) : DS → Option D := fun δ => match a δ with
  | some (.int i) => some (.int (-i))
  | _ => none
theorem s_neg (ha : SV K ta fa) : SE K (tUn PB.mNeg ta) (dNeg fa) := fun S0 H0 S H σ δ z R e Q q => by
  unfold dNeg at e
  split at e
  · rename_i i ex
    cases e
    refine ha S0 H0 S H σ δ _ R ex _ fun S1 H1 v g1 d1 => ?_
    cases d1.int
    exact q S1 H1 _ g1 (.int _)
  · cases e
def dNot (a : DS → Option D) : DS → Option D := fun δ => match a δ with
  | some (.bl i) => some (.bl (!i))
  | _ => none
theorem s_not (ha : SV K ta fa) : SE K (PB.mNotV ta) (dNot fa) := fun S0 H0 S H σ δ z R e Q q => by
  unfold dNot at e
  split at e
  · rename_i i ex
    cases e
    refine ha S0 H0 S H σ δ _ R ex _ fun S1 H1 v g1 d1 => ?_
    cases d1.bl
    exact q S1 H1 _ g1 (.bl _)
  · cases e
def dAnd (a b : DS → Option D) : DS → Option D := fun δ => match a δ with
  | some (.bl true) => b δ
  | some (.bl false) => some (.bl false)
  | _ => none
theorem s_and (ha : SV K ta fa) (hb : SE K tb fb) : SE K (PB.mAndV ta tb) (dAnd fa fb) := fun S0 H0 S H σ δ z R e Q q => by
  unfold dAnd at e
  split at e
  · rename_i ex
    refine ha S0 H0 S H σ δ _ R ex _ fun S1 H1 v g1 d1 => ?_
    cases d1.bl
    show if true = true then tb σ H1 Q else _
    rw [if_pos rfl]
    exact hb S0 H0 S1 H1 σ δ z (R.grow g1) e Q fun S2 H2 w g2 d2 => q S2 H2 w (g1.trans g2) d2
  · rename_i ex
    cases e
    refine ha S0 H0 S H σ δ _ R ex _ fun S1 H1 v g1 d1 => ?_
    cases d1.bl
    exact q S1 H1 _ g1 (.bl _)
  · cases e
def dOr (a b : DS → Option D) : DS → Option D := fun δ => match a δ with
  | some (.bl false) => b δ
  | some (.bl true) => some (.bl true)
  | _ => none
theorem s_or (ha : SV K ta fa) (hb : SE K tb fb) : SE K (PB.mOrV ta tb) (dOr fa fb) := fun S0 H0 S H σ δ z R e Q q => by
  unfold dOr at e
  split at e
  · rename_i ex
    refine ha S0 H0 S H σ δ _ R ex _ fun S1 H1 v g1 d1 => ?_
    cases d1.bl
    show if false = true then _ else tb σ H1 Q
    rw [if_neg (by simp)]
    exact hb S0 H0 S1 H1 σ δ z (R.grow g1) e Q fun S2 H2 w g2 d2 => q S2 H2 w (g1.trans g2) d2
  · rename_i ex
    cases e
    refine ha S0 H0 S H σ δ _ R ex _ fun S1 H1 v g1 d1 => ?_
    cases d1.bl
    exact q S1 H1 _ g1 (.bl _)
  · cases e
def dIfE (c : DS → Option Bool) (a b : DS → Option D) : DS → Option D := fun δ => (c δ).bind fun k => if k = true then a δ else b δ
theorem s_ifE (hc : ST K t ft) (ha : SE K ta fa) (hb : SE K tb fb) : SE K (tIf t ta tb) (dIfE ft fa fb) := fun S0 H0 S H σ δ z R e Q q => by
  obtain ⟨k, ek, e⟩ := Option.bind_eq_some_iff.mp e
  refine hc S0 H0 S H σ δ k R ek _ fun S1 H1 g1 => ?_
  cases k with
  | true => exact ha S0 H0 S1 H1 σ δ z (R.grow g1) e Q fun S2 H2 w g2 d2 => q S2 H2 w (g1.trans g2) d2
  | false => exact hb S0 H0 S1 H1 σ δ z (R.grow g1) e Q fun S2 H2 w g2 d2 => q S2 H2 w (g1.trans g2) d2
/-! argument lists -/
def dNil : DS → Option (List D) := fun _ => some []
def dCons (a : DS → Option D) (l : DS → Option (List D)) : DS → Option (List D) := fun δ => (a δ).bind fun x => (l δ).map (x :: ·)
theorem a_nil : SA K tNil dNil := fun S0 H0 S H σ δ r R e Q q => by cases e; exact q S H [] (.refl R.g.m) .nil
theorem a_cons (ha : SE K ta fa) (hl : SA K tl fl) : SA K (tCons ta tl) (dCons fa fl) := fun S0 H0 S H σ δ r R e Q q => by
  obtain ⟨x, ex, e⟩ := Option.bind_eq_some_iff.mp e
  obtain ⟨xs, el, rfl⟩ := Option.map_eq_some_iff.mp e
  refine ha S0 H0 S H σ δ x R ex _ fun S1 H1 v g1 d1 => ?_
  exact hl S0 H0 S1 H1 σ δ xs (R.grow g1) el _ fun S2 H2 vs g2 d2 => q S2 H2 _ (g1.trans g2) (.cons (d1.mono g2.s) d2)
theorem av_nil : SAV K tNil dNil := a_nil.v
theorem av_cons (ha : SV K ta fa) (hl : SAV K tl fl) : SAV K (tCons ta tl) (dCons fa fl) := fun S0 H0 S H σ δ r R e Q q => by
  obtain ⟨x, ex, e⟩ := Option.bind_eq_some_iff.mp e
  obtain ⟨xs, el, rfl⟩ := Option.map_eq_some_iff.mp e
  refine ha S0 H0 S H σ δ x R ex _ fun S1 H1 v g1 d1 => ?_
  exact hl S0 H0 S1 H1 σ δ xs (R.grow g1) el _ fun S2 H2 vs g2 d2 => q S2 H2 _ (g1.trans g2) (.cons (d1.grow g2) d2)
def dTup (l : DS → Option (List D)) : DS → Option D := fun δ => (l δ).bind fun ds => if ds.length ≤ most then some (.tup ds) else none
theorem s_tup (hl : SA K tl fl) : SE K (tTup tl) (dTup fl) := fun S0 H0 S H σ δ r R e Q q => by
  obtain ⟨xs, el, e⟩ := Option.bind_eq_some_iff.mp e
  split at e
  · rename_i hm
    cases e
    refine hl S0 H0 S H σ δ _ R el _ fun S1 H1 vs g1 d1 => ⟨by rw [d1.len]; exact most_le hm, fun p hp => ?_⟩
    have g2 : Grow S1 H1 _ _ := Grow.new (o := .tup vs) g1.m hp
    exact q _ _ _ (g1.trans g2) (.tup upd_same (d1.mono g2.s))
  · cases e
def fLst (l : DS → Option (List D)) : DS → Option (List D) := fun δ => (l δ).bind fun ds => if ds.length ≤ most then some ds else none
theorem f_lst (hl : SA K tl fl) : SF K (tLst tl) (fLst fl) := fun S0 H0 S H σ δ r R e Q q => by
  obtain ⟨xs, el, e⟩ := Option.bind_eq_some_iff.mp e
  split at e
  · rename_i hm
    cases e
    refine hl S0 H0 S H σ δ _ R el _ fun S1 H1 vs g1 d1 => ⟨by rw [d1.len]; exact most_le hm, fun p hp => ?_⟩
    exact q _ _ _ vs (Ext.none g1.h hp) (g1.trans (Grow.fresh g1.m hp)) upd_same (Ext.none g1.m hp) d1
  · cases e
/-! calls -/
def spV (K : PySem.W.Frag) (f : List D → Option D) : Sp := fun vs H Q _ => ∃ S ds r, Ext S H ∧ DvA K S vs ds ∧ f ds = some r ∧ ∀ S' H' v, Grow S H S' H' → Dv K S' v r → Q v H'
def dCall (f : List D → Option D) (l : DS → Option (List D)) : DS → Option D := fun δ => (l δ).bind f
theorem s_call {f : List D → Option D} (hl : SA K tl fl) : SE K (PB.mCall (spV K f) tl) (dCall f fl) := fun S0 H0 S H σ δ r R e Q q => by
  obtain ⟨xs, el, e⟩ := Option.bind_eq_some_iff.mp e
  refine hl S0 H0 S H σ δ xs R el _ fun S1 H1 vs g1 d1 => ⟨S1, xs, r, g1.m, d1, e, fun S2 H2 v g2 d2 => q S2 H2 v (g1.trans g2) d2⟩
theorem s_cb {r : PB.R1} {f : List D → Option D} (hr : SC K r f) (hl : SAV K tl fl) : SE K (tCB r tl) (dCall f fl) := fun S0 H0 S H σ δ z R e Q q => by
  obtain ⟨xs, el, e⟩ := Option.bind_eq_some_iff.mp e
  refine hl S0 H0 S H σ δ xs R el _ fun S1 H1 vs g1 d1 => ?_
  exact hr S1 H1 vs xs z g1.m d1 e Q fun S2 H2 v g2 d2 => q S2 H2 v (g1.trans g2) d2
def fCall (f : List D → Option (List D)) (l : DS → Option (List D)) : DS → Option (List D) := fun δ => (l δ).bind f
theorem f_cb {r : PB.R1} {f : List D → Option (List D)} (hr : SCF K r f) (hl : SAV K tl fl) : SF K (tCB r tl) (fCall f fl) := fun S0 H0 S H σ δ z R e Q q => by
  obtain ⟨xs, el, e⟩ := Option.bind_eq_some_iff.mp e
  refine hl S0 H0 S H σ δ xs R el _ fun S1 H1 vs g1 d1 => ?_
  exact hr S1 H1 vs xs z g1.m d1 e Q fun H2 p us hp g2 h2 d2 => q S1 H2 p us (Ext.none g1.h hp) (g1.trans g2) h2 (Ext.none g1.m hp) d2
/-! tests -/
def tst : D → Option Bool
  | .bl b => some b
  | _ => none
def dTest (a : DS → Option D) : DS → Option Bool := fun δ => (a δ).bind tst
theorem t_test (ha : SV K te fe) : ST K (PB.mTest te) (dTest fe) := fun S0 H0 S H σ δ r R e Q q => by
  obtain ⟨x, ex, e⟩ := Option.bind_eq_some_iff.mp e
  cases x <;> first | (cases e; done) | skip
  cases e
  refine ha S0 H0 S H σ δ _ R ex _ fun S1 H1 v g1 d1 => ?_
  cases d1.bl
  exact q S1 H1 g1
def tru : D → Option Bool
  | .bl b => some b
  | .int i => some (!decide (i = 0))
  | .non => some false
  | .lst ds => some (!ds.isEmpty)
  | .tup ds => some (!ds.isEmpty)
  | _ => none
def dTru (a : DS → Option D) : DS → Option Bool := fun δ => (a δ).bind tru
theorem DvA.emp {S : Hp} {vs : List V} {ds : List D} (h : DvA K S vs ds) : vs.isEmpty = ds.isEmpty := by cases h <;> rfl
theorem t_tru (ha : SV K te fe) : ST K (PB.mTru K te) (dTru fe) := fun S0 H0 S H σ δ r R e Q q => by
  obtain ⟨x, ex, e⟩ := Option.bind_eq_some_iff.mp e
  refine ha S0 H0 S H σ δ _ R ex _ fun S1 H1 v g1 d1 => ?_
  cases x with
  | bl b => cases e; cases d1.bl; exact q S1 H1 g1
  | int b => cases e; cases d1.int; exact q S1 H1 g1
  | non => cases e; cases d1.non; exact q S1 H1 g1
  | lst ds =>
    cases e
    obtain ⟨p, vs, rfl, hp, h⟩ := d1.lst g1.m
    exact ⟨_, .inl ⟨vs, SqL.of hp, rfl⟩, by rw [h.emp]; exact q S1 H1 g1⟩
  | tup ds =>
    cases e
    obtain ⟨p, vs, rfl, hp, _, h⟩ := d1.tup g1.m
    exact ⟨_, .inr (.inl ⟨vs, SqT.of hp, rfl⟩), by rw [h.emp]; exact q S1 H1 g1⟩
  | _ => cases e
def dAndT (a b : DS → Option Bool) : DS → Option Bool := fun δ => (a δ).bind fun k => if k = true then b δ else some false
def dOrT (a b : DS → Option Bool) : DS → Option Bool := fun δ => (a δ).bind fun k => if k = true then some true else b δ
def dNotT (a : DS → Option Bool) : DS → Option Bool := fun δ => (a δ).map (!·)
theorem t_and (ha : ST K t ft) (hb : ST K u fu) : ST K (tAnd t u) (dAndT ft fu) := fun S0 H0 S H σ δ r R e Q q => by
  obtain ⟨x, ex, e⟩ := Option.bind_eq_some_iff.mp e
  refine ha S0 H0 S H σ δ _ R ex _ fun S1 H1 g1 => ?_
  cases x with
  | true => exact hb S0 H0 S1 H1 σ δ r (R.grow g1) e Q fun S2 H2 g2 => q S2 H2 (g1.trans g2)
  | false => cases e; exact q S1 H1 g1
theorem t_or (ha : ST K t ft) (hb : ST K u fu) : ST K (tOr t u) (dOrT ft fu) := fun S0 H0 S H σ δ r R e Q q => by
  obtain ⟨x, ex, e⟩ := Option.bind_eq_some_iff.mp e
  refine ha S0 H0 S H σ δ _ R ex _ fun S1 H1 g1 => ?_
  cases x with
  | true => cases e; exact q S1 H1 g1
  | false => exact hb S0 H0 S1 H1 σ δ r (R.grow g1) e Q fun S2 H2 g2 => q S2 H2 (g1.trans g2)
theorem t_not (ha : ST K t ft) : ST K (tNot t) (dNotT ft) := fun S0 H0 S H σ δ r R e Q q => by
  obtain ⟨x, ex, rfl⟩ := Option.map_eq_some_iff.mp e
  exact ha S0 H0 S H σ δ _ R ex _ fun S1 H1 g1 => q S1 H1 g1
def dChain (r r' : D → D → Option D) (a b c : DS → Option D) : DS → Option D := fun δ => (a δ).bind fun x => (b δ).bind fun y => match r x y with
  | some (.bl true) => (c δ).bind fun z => r' y z
  | some (.bl false) => some (.bl false)
  | _ => none
theorem s_chain {r r' : R2} {f f' : D → D → Option D} (hr : SR K r f) (hr' : SR K r' f') (ha : SV K ta fa) (hb : SV K tb fb) (hc : SV K tc fc) : SE K (PB.mChain r r' ta tb tc) (dChain f f' fa fb fc) := fun S0 H0 S H σ δ z R e Q q => by
  obtain ⟨x, ex, e⟩ := Option.bind_eq_some_iff.mp e
  obtain ⟨y, ey, e⟩ := Option.bind_eq_some_iff.mp e
  refine ha S0 H0 S H σ δ x R ex _ fun S1 H1 v g1 d1 => ?_
  refine hb S0 H0 S1 H1 σ δ y (R.grow g1) ey _ fun S2 H2 w g2 d2 => ?_
  have g12 := g1.trans g2
  split at e
  · rename_i e1
    obtain ⟨y2, ez, e⟩ := Option.bind_eq_some_iff.mp e
    refine hr S2 H2 v w x y _ g2.m (d1.grow g2) d2 e1 _ fun S3 H3 u g3 d3 => ?_
    cases d3
    show if true = true then _ else _
    rw [if_pos rfl]
    refine hc S0 H0 S3 H3 σ δ y2 (R.grow (g12.trans g3)) ez _ fun S4 H4 u4 g4 d4 => ?_
    exact hr' S4 H4 w u4 y y2 z g4.m (d2.grow (g3.trans g4)) d4 e Q fun S5 H5 u5 g5 d5 => q S5 H5 u5 (((g12.trans g3).trans g4).trans g5) d5
  · rename_i e1
    cases e
    refine hr S2 H2 v w x y _ g2.m (d1.grow g2) d2 e1 _ fun S3 H3 u g3 d3 => ?_
    cases d3
    show if false = true then _ else _
    rw [if_neg (by simp)]
    exact q S3 H3 _ (g12.trans g3) (.bl _)
  · cases e
end
end PV

set_option maxRecDepth 100000
set_option autoImplicit false
set_option maxHeartbeats 4000000
namespace PV
open PySem PySem.Spec PyProof.Rows L2
open C8 (tCut)
open PB (Ext)
/-! ### targets -/
theorem wipe_set {σ : L2.St} {i : Nat} {v : Option V} : ∀ {vs : List Nat}, i ∈ vs → wipe (σ.set i v) vs = wipe σ vs
  | [], h => by cases h
  | w :: vs, h => by
    unfold wipe
    by_cases c : i ∈ vs
    · rw [wipe_set c]
    · have e : i = w := (List.mem_cons.mp h).resolve_right c
      subst e
      have key : ∀ (vs : List Nat), i ∉ vs → wipe (σ.set i v) vs = (wipe σ vs).set i v := by
        intro vs
        induction vs with
        | nil => intro _; rfl
        | cons z zs ih =>
          intro hz
          unfold wipe
          have h1 : i ≠ z := fun e => hz (e ▸ List.mem_cons_self ..)
          have h2 : i ∉ zs := fun e => hz (List.mem_cons_of_mem _ e)
          rw [ih h2, List.set_comm _ _ h1]
      rw [key vs c, List.set_set]
theorem wipe_wipe {σ : L2.St} : ∀ (vs ws : List Nat), (∀ v ∈ ws, v ∈ vs) → wipe (wipe σ ws) vs = wipe σ vs
  | vs, [], _ => rfl
  | vs, w :: ws, h => by
    show wipe ((wipe σ ws).set w none) vs = wipe σ vs
    rw [wipe_set (h w (List.mem_cons_self ..))]
    exact wipe_wipe vs ws fun v hv => h v (List.mem_cons_of_mem _ hv)
def dwipe (δ : DS) : List Nat → DS
  | [] => δ
  | v :: vs => (dwipe δ vs).set v none
section
variable {K : PySem.W.Frag} {S0 H0 S H : Hp} {σ : L2.St} {δ : DS}
theorem Rel.clr (R : Rel K S0 H0 S H σ δ) (i : Nat) : Rel K S0 H0 S H (σ.set i none) (δ.set i none) := by
  have ne : ∀ (c : Nat) (x : DV), (δ.set i none)[c]? = some (some x) → i ≠ c := fun c x h e => by
    subst e
    by_cases l : i < δ.length
    · rw [List.getElem?_set_self l] at h; cases h
    · rw [List.getElem?_eq_none (by rw [List.length_set]; omega)] at h; cases h
  refine ⟨R.g, by rw [List.length_set, List.length_set, R.n], fun c d h => ?_, fun c ds h => ?_, fun a b ds es p h1 h2 h3 h4 => ?_⟩
  · have n := ne c _ h
    rw [List.getElem?_set_ne n] at h ⊢
    exact R.d c d h
  · have n := ne c _ h
    rw [List.getElem?_set_ne n] at h ⊢
    exact R.o c ds h
  · have na := ne a _ h1
    have nb := ne b _ h2
    rw [List.getElem?_set_ne na] at h1 h3
    rw [List.getElem?_set_ne nb] at h2 h4
    exact R.j a b ds es p h1 h2 h3 h4
theorem Rel.wipe (R : Rel K S0 H0 S H σ δ) : ∀ vs : List Nat, Rel K S0 H0 S H (L2.wipe σ vs) (dwipe δ vs)
  | [] => R
  | v :: vs => (Rel.wipe R vs).clr v
end
section
variable {K : PySem.W.Frag} {vs : List Nat} {g : TG} {gs : TGs} {f : D → DS → Option DS} {fs : List D → DS → Option DS}
def gN (i : Nat) : D → DS → Option DS := fun d δ => some (δ.set i (some (.dat d)))
theorem g_nm {i : Nat} (hi : i ∈ vs) : SG K vs (gName i) (gN i) := fun S0 H0 S H σ δ v d δ' R hd e Q q => by
  cases e
  exact q _ (R.set hd i) (wipe_set hi)
def gNs : List D → DS → Option DS
  | [], δ => some δ
  | _ :: _, _ => none
def gC (f : D → DS → Option DS) (fs : List D → DS → Option DS) : List D → DS → Option DS
  | d :: ds, δ => (f d δ).bind (fs ds)
  | [], _ => none
theorem g_nil : SGs K vs gNil gNs := fun S0 H0 S H σ δ us ds δ' R hd e Q q => by
  cases hd with
  | nil => cases e; exact ⟨rfl, q _ R rfl⟩
  | cons _ _ => cases e
theorem g_cons (h : SG K vs g f) (hs : SGs K vs gs fs) : SGs K vs (gCons g gs) (gC f fs) := fun S0 H0 S H σ δ us ds δ' R hd e Q q => by
  cases hd with
  | nil => cases e
  | cons h1 h2 =>
    obtain ⟨δ1, e1, e2⟩ := Option.bind_eq_some_iff.mp e
    refine ⟨_, _, rfl, h S0 H0 S H σ δ _ _ δ1 R h1 e1 _ fun σ1 R1 w1 => ?_⟩
    exact hs S0 H0 S H σ1 δ1 _ _ δ' R1 h2 e2 Q fun σ2 R2 w2 => q σ2 R2 (w2.trans w1)
def gT (n : Nat) (fs : List D → DS → Option DS) : D → DS → Option DS
  | .tup ds, δ => if ds.length = n then fs ds δ else none
  | _, _ => none
theorem g_tup {n : Nat} (hs : SGs K vs gs fs) : SG K vs (gTup K n gs) (gT n fs) := fun S0 H0 S H σ δ v d δ' R hd e Q q => by
  unfold gT at e
  split at e
  · split at e
    · rename_i hl
      cases hd with
      | tup h1 h2 => exact ⟨_, _, rfl, SqT.of (R.g.m _ _ h1), by rw [h2.len, hl], hs S0 H0 S H σ δ _ _ δ' R h2 e Q q⟩
    · cases e
  · cases e
end
/-! ### statements -/
section
variable {K : PySem.W.Frag} {ta tb tc te : TE} {fa fb fc fe : DS → Option D} {tl : TA} {fl : DS → Option (List D)} {tt : TT} {ft : DS → Option Bool} {t u : TS} {f h : DS → Option Out} {g : TG} {gf : D → DS → Option DS} {vs : List Nat}
def dNext : DS → Option Out := fun δ => some (.nx δ)
def dBreak : DS → Option Out := fun δ => some (.bk δ)
def dCont : DS → Option Out := fun δ => some (.ct δ)
def dRetN : DS → Option Out := fun δ => some (.rt .non)
def dRet (a : DS → Option D) : DS → Option Out := fun δ => (a δ).map .rt
def dSeq (f h : DS → Option Out) : DS → Option Out := fun δ => match f δ with
  | some (.nx δ') => h δ'
  | r => r
def dIf (c : DS → Option Bool) (f h : DS → Option Out) : DS → Option Out := fun δ => (c δ).bind fun k => if k = true then f δ else h δ
def dAsg (a : DS → Option D) (gf : D → DS → Option DS) : DS → Option Out := fun δ => (a δ).bind fun d => (gf d δ).map .nx
def dDrop (a : DS → Option D) : DS → Option Out := fun δ => (a δ).map fun _ => .nx δ
def dAsgO (i : Nat) (a : DS → Option (List D)) : DS → Option Out := fun δ => (a δ).map fun ds => .nx (δ.set i (some (.own ds)))
def dFrz (i : Nat) (f : DS → Option Out) : DS → Option Out := fun δ => match δ[i]? with
  | some (some (.own ds)) => f (δ.set i (some (.dat (.lst ds))))
  | _ => f δ
def onOwn (i : Nat) (δ : DS) : Option (List D) := match δ[i]? with
  | some (some (.own ds)) => some ds
  | _ => none
theorem onOwn_is {i : Nat} {δ : DS} {ds : List D} (e : onOwn i δ = some ds) : δ[i]? = some (some (DV.own ds)) := by
  unfold onOwn at e
  split at e
  · rename_i h; cases e; exact h
  · cases e
theorem s_next : SS K tNext dNext := fun S0 H0 S H σ δ o R e E q => by cases e; exact q S H σ (PB.Ext.refl _) R
theorem s_break : SS K tBreak dBreak := fun S0 H0 S H σ δ o R e E q => by cases e; exact q S H σ (PB.Ext.refl _) R
theorem s_cont : SS K tCont dCont := fun S0 H0 S H σ δ o R e E q => by cases e; exact q S H σ (PB.Ext.refl _) R
theorem s_retN : SS K tRetN dRetN := fun S0 H0 S H σ δ o R e E q => by cases e; exact q S H _ (PB.Ext.refl _) R.g .non
theorem s_ret (ha : SE K te fe) : SS K (tRet te) (dRet fe) := fun S0 H0 S H σ δ o R e E q => by
  obtain ⟨x, ex, rfl⟩ := Option.map_eq_some_iff.mp e
  exact ha S0 H0 S H σ δ x R ex _ fun S1 H1 v g1 d1 => q S1 H1 v g1.s (R.g.trans g1) d1
theorem s_seq (ht : SS K t f) (hu : SS K u h) : SS K (tSeq t u) (dSeq f h) := fun S0 H0 S H σ δ o R e E q => by
  unfold dSeq at e
  split at e
  · rename_i δ1 e1
    exact ht S0 H0 S H σ δ _ R e1 _ fun S1 H1 σ1 x R1 => hu S0 H0 S1 H1 σ1 δ1 o R1 e E (q.ext x)
  · rename_i r hn
    refine ht S0 H0 S H σ δ o R e _ ?_
    cases o with
    | nx δ1 => exact (hn δ1 e).elim
    | rt d => exact q
    | bk d => exact q
    | ct d => exact q
theorem s_cut (ht : SS K t f) (hu : SS K u h) : SS K (tCut t u) (dSeq f h) := fun S0 H0 S H σ δ o R e E q => PB.w_cut (s_seq ht hu S0 H0 S H σ δ o R e E q)
theorem s_if (hc : ST K tt ft) (ht : SS K t f) (hu : SS K u h) : SS K (tIfS tt t u) (dIf ft f h) := fun S0 H0 S H σ δ o R e E q => by
  obtain ⟨k, ek, e⟩ := Option.bind_eq_some_iff.mp e
  refine hc S0 H0 S H σ δ k R ek _ fun S1 H1 g1 => ?_
  cases k with
  | true => exact ht S0 H0 S1 H1 σ δ o (R.grow g1) e E (q.ext g1.s)
  | false => exact hu S0 H0 S1 H1 σ δ o (R.grow g1) e E (q.ext g1.s)
theorem s_asg (ha : SE K te fe) (hg : SG K vs g gf) : SS K (tAsg te g) (dAsg fe gf) := fun S0 H0 S H σ δ o R e E q => by
  obtain ⟨x, ex, e⟩ := Option.bind_eq_some_iff.mp e
  obtain ⟨δ1, e1, rfl⟩ := Option.map_eq_some_iff.mp e
  refine ha S0 H0 S H σ δ x R ex _ fun S1 H1 v g1 d1 => ?_
  exact hg S0 H0 S1 H1 σ δ v x δ1 (R.grow g1) d1 e1 _ fun σ1 R1 _ => q S1 H1 σ1 g1.s R1
theorem s_drop (ha : SE K te fe) : SS K (tDrop te) (dDrop fe) := fun S0 H0 S H σ δ o R e E q => by
  obtain ⟨x, ex, rfl⟩ := Option.map_eq_some_iff.mp e
  exact ha S0 H0 S H σ δ x R ex _ fun S1 H1 v g1 d1 => q S1 H1 σ g1.s (R.grow g1)
theorem s_asgO {i : Nat} (ha : SF K te fl) : SS K (tAsg te (gName i)) (dAsgO i fl) := fun S0 H0 S H σ δ o R e E q => by
  obtain ⟨ds, ed, rfl⟩ := Option.map_eq_some_iff.mp e
  refine ha S0 H0 S H σ δ ds R ed _ fun S1 H1 p us hp g1 h1 sp d1 => ?_
  exact q S1 H1 _ g1.s ((R.grow g1).setOwn (Hb := H) hp R.g.h (fun j es hj => let ⟨p, vs, a, b, _⟩ := R.o j es hj; ⟨p, vs, a, b⟩) h1 sp d1 i)
theorem s_frz {i : Nat} (ht : SS K t f) : SS K t (dFrz i f) := fun S0 H0 S H σ δ o R e E q => by
  unfold dFrz at e
  split at e
  · rename_i ds hi
    obtain ⟨S1, x, R1⟩ := R.frz hi
    exact ht S0 H0 S1 H σ _ o R1 e E (q.ext x)
  · exact ht S0 H0 S H σ δ o R e E q
/-! lists that are changed in place -/
def dApp (i : Nat) (a : DS → Option D) : DS → Option Out := fun δ => (onOwn i δ).bind fun ds => (a δ).bind fun d => if ds.length < most then some (.nx (δ.set i (some (.own (ds ++ [d]))))) else none
theorem s_app {i : Nat} (ha : SE K te fe) : SS K (tDrop (PB.mLM PB.mAppend (PB.mVar i) (tCons te tNil))) (dApp i fe) := fun S0 H0 S H σ δ o R e E q => by
  obtain ⟨ds, ed, e⟩ := Option.bind_eq_some_iff.mp e
  obtain ⟨d, ex, e⟩ := Option.bind_eq_some_iff.mp e
  split at e
  · rename_i hm
    cases e
    have hi := onOwn_is ed
    obtain ⟨p, us, h1, h2, h3, h4, h5⟩ := R.o i ds hi
    show PB.mLM PB.mAppend (PB.mVar i) (tCons te tNil) σ H _
    unfold PB.mLM
    refine PB.p_var h1 _ ?_
    simp only [h2]
    refine ha S0 H0 S H σ δ d R ex _ fun S1 H1 v g1 d1 => ?_
    have R1 := R.grow g1
    have h2' := g1.h _ _ h2
    show PB.mAppend (.ref p) [v] H1 (fun _ H2 => E.nx σ H2)
    unfold PB.mAppend
    simp only [h2']
    refine ⟨by rw [h5.len]; exact Nat.lt_of_lt_of_le hm (most_le (Nat.le_refl _)), q S1 _ σ g1.s (R1.put hi h1 ((h5.mono g1.s).app (.cons d1 .nil)))⟩
  · cases e
def dSetI (i : Nat) (a b : DS → Option D) : DS → Option Out := fun δ => (a δ).bind fun d => (onOwn i δ).bind fun ds => match b δ with
  | some (.int k) => match ixN ds.length k with
    | some j => some (.nx (δ.set i (some (.own (ds.set j d)))))
    | none => none
  | _ => none
theorem s_setI {i : Nat} (ha : SE K te fe) (hb : SV K tb fb) : SS K (tAsg te (gSub (PB.mVar i) tb PB.mSet)) (dSetI i fe fb) := fun S0 H0 S H σ δ o R e E q => by
  obtain ⟨d, ex, e⟩ := Option.bind_eq_some_iff.mp e
  obtain ⟨ds, ed, e⟩ := Option.bind_eq_some_iff.mp e
  split at e
  · rename_i k ek
    split at e
    · rename_i j ej
      cases e
      have hi := onOwn_is ed
      refine ha S0 H0 S H σ δ d R ex _ fun S1 H1 v g1 d1 => ?_
      have R1 := R.grow g1
      obtain ⟨p, us, h1, h2, h3, h4, h5⟩ := R1.o i ds hi
      refine PB.p_var h1 _ ?_
      refine hb S0 H0 S1 H1 σ δ _ R1 ek _ fun S2 H2 w g2 d2 => ?_
      cases d2.int
      have h2' := g2.h _ _ h2
      show PB.mSet (.ref p) (.int k) v H2 _
      unfold PB.mSet
      simp only [h2', h5.len, ej]
      exact q S2 _ σ (g1.s.trans g2.s) ((R1.grow g2).put hi h1 ((h5.mono g2.s).set (d1.mono g2.s)))
    · cases e
  · cases e
def dAug (i : Nat) (a : DS → Option D) (op : Int → Int → Int) : DS → Option Out := fun δ => match δ[i]? with
  | some (some (.dat (.int x))) => match a δ with
    | some (.int y) => some (.nx (δ.set i (some (.dat (.int (op x y))))))
    | _ => none
  | _ => none
theorem s_aug {i : Nat} {op : Int → Int → Int} (ha : SV K te fe) : SS K (PB.mAug i te op) (dAug i fe op) := fun S0 H0 S H σ δ o R e E q => by
  unfold dAug at e
  split at e
  · rename_i x hx
    split at e
    · rename_i y ey
      cases e
      obtain ⟨v, h1, h2⟩ := R.d i _ hx
      cases h2
      unfold PB.mAug
      simp only [h1]
      refine ha S0 H0 S H σ δ _ R ey _ fun S1 H1 w g1 d1 => ?_
      cases d1.int
      exact q S1 H1 _ g1.s ((R.grow g1).set (.int _) i)
    · cases e
  · cases e
/-! ### for -/
def dLoop (step : D → DS → Option Out) : List D → DS → Option Out
  | [], δ => some (.nx δ)
  | d :: ds, δ => match step d δ with
    | some (.nx δ') => dLoop step ds δ'
    | some (.ct δ') => dLoop step ds δ'
    | some (.bk δ') => some (.nx δ')
    | r => r
def dFor (it : DS → Option (List D)) (gf : D → DS → Option DS) (f : DS → Option Out) : DS → Option Out := fun δ => (it δ).bind fun ds => dLoop (fun d δ => (gf d δ).bind f) ds δ
theorem s_for {wi : TI} {it : DS → Option (List D)} (hi : SI K wi it) (hg : SG K vs g gf) (ht : SS K t f) : SS K (tFor wi g t) (dFor it gf f) := fun S0 H0 S H σ δ o R e E q => by
  obtain ⟨ds, ed, e⟩ := Option.bind_eq_some_iff.mp e
  refine hi S0 H0 S H σ δ ds R ed _ fun S1 H1 J g1 jk => ?_
  generalize hst : (fun d δ => (gf d δ).bind f : D → DS → Option Out) = step at e
  refine ⟨fun i m σ H => ∃ S' δ', Ext S1 S' ∧ Rel K S0 H0 S' H σ δ' ∧ dLoop step (ds.drop i) δ' = some o ∧ i ≤ ds.length ∧ m = ds.length - i, ⟨_, S1, δ, PB.Ext.refl _, R.grow g1, e, Nat.zero_le _, rfl⟩, ?_⟩
  rintro i m σ2 H2 ⟨S2, δ2, x2, R2, e2, hle, rfl⟩
  have J2 := jk S2 H2 i x2 R2.g.m
  by_cases hlt : i < ds.length
  · refine .inr ?_
    have hget : ds[i]? = some ds[i] := List.getElem?_eq_getElem hlt
    obtain ⟨go, yl⟩ := J2.1 _ hget
    refine ⟨go, fun σ H => ∃ S' δ', Ext S1 S' ∧ Rel K S0 H0 S' H σ δ' ∧ dLoop step (ds.drop (i + 1)) δ' = some o, fun σ' H' ⟨S', δ', a, b, c⟩ => ⟨_, ?_, S', δ', a, b, c, hlt, rfl⟩, fun v H3 y => ?_⟩
    · omega
    · obtain ⟨S3, g3, d3⟩ := yl v H3 y
      have hd : ds.drop i = ds[i] :: ds.drop (i + 1) := List.drop_eq_getElem_cons hlt
      rw [hd] at e2
      unfold dLoop at e2
      have R3 := R2.grow g3
      have xx := x2.trans g3.s
      have key : ∀ o1, step ds[i] δ2 = some o1 → OutOk K S0 H0 S3 { E with nx := fun σ H => ∃ S' δ', Ext S1 S' ∧ Rel K S0 H0 S' H σ δ' ∧ dLoop step (ds.drop (i + 1)) δ' = some o, ct := fun σ H => ∃ S' δ', Ext S1 S' ∧ Rel K S0 H0 S' H σ δ' ∧ dLoop step (ds.drop (i + 1)) δ' = some o, bk := E.nx } o1 →
          g v σ2 H3 fun σ2 H2 => t { E with nx := fun σ H => ∃ S' δ', Ext S1 S' ∧ Rel K S0 H0 S' H σ δ' ∧ dLoop step (ds.drop (i + 1)) δ' = some o, ct := fun σ H => ∃ S' δ', Ext S1 S' ∧ Rel K S0 H0 S' H σ δ' ∧ dLoop step (ds.drop (i + 1)) δ' = some o, bk := E.nx } σ2 H2 := fun o1 h1 ok => by
        rw [← hst] at h1
        obtain ⟨δ4, e4, e5⟩ := Option.bind_eq_some_iff.mp h1
        exact hg S0 H0 S3 H3 σ2 δ2 v _ δ4 R3 d3 e4 _ fun σ4 R4 _ => ht S0 H0 S3 H3 σ4 δ4 o1 R4 e5 _ ok
      split at e2
      · rename_i δ4 h4
        exact key _ h4 fun S' H' σ' x R' => ⟨S', δ4, xx.trans x, R', e2⟩
      · rename_i δ4 h4
        exact key _ h4 fun S' H' σ' x R' => ⟨S', δ4, xx.trans x, R', e2⟩
      · rename_i δ4 h4
        cases e2
        exact key _ h4 fun S' H' σ' x R' => q S' H' σ' ((g1.s.trans xx).trans x) R'
      · rename_i r n1 n2 n3
        refine key o e2 ?_
        cases o with
        | nx δ1 => exact (n1 δ1 e2).elim
        | ct δ1 => exact (n2 δ1 e2).elim
        | bk δ1 => exact (n3 δ1 e2).elim
        | rt d => exact fun S' H' v x => q S' H' v ((g1.s.trans xx).trans x)
  · obtain rfl : i = ds.length := by omega
    refine .inl ⟨J2.2 rfl, ?_⟩
    rw [List.drop_length] at e2
    cases e2
    exact q S2 H2 σ2 (g1.s.trans x2) R2
/-! ### comprehensions -/
def dComp (step : D → Option (Option D)) : List D → List D → Option (List D)
  | [], acc => some acc
  | d :: ds, acc => match step d with
    | some (some y) => if acc.length < most then dComp step ds (acc ++ [y]) else none
    | some none => dComp step ds acc
    | none => none
def cStep (gf : D → DS → Option DS) (ft : DS → Option Bool) (fe : DS → Option D) (δ : DS) : D → Option (Option D) := fun d => (gf d δ).bind fun δ2 => (ft δ2).bind fun b => if b = true then (fe δ2).map some else some none
def fLc (it : DS → Option (List D)) (gf : D → DS → Option DS) (ft : DS → Option Bool) (fe : DS → Option D) (vs : List Nat) : DS → Option (List D) := fun δ => (it δ).bind fun ds => dComp (cStep gf ft fe (dwipe δ vs)) ds []
theorem f_lc {wi : TI} {it : DS → Option (List D)} (hi : SI K wi it) (hg : SG K vs g gf) (hc : ST K tt ft) (he : SE K te fe) : SF K (tLc wi g tt te vs) (fLc it gf ft fe vs) := fun S0 H0 S H σ δ out R e Q q => by
  obtain ⟨ds, ed, e⟩ := Option.bind_eq_some_iff.mp e
  refine hi S0 H0 S H σ δ ds R ed _ fun S1 H1 J g1 jk D hD => ?_
  have R1 := R.grow g1
  have Rw := R1.wipe vs
  have own : ∀ (i : Nat) (es : List PV.D) (p : Addr), (dwipe δ vs)[i]? = some (some (DV.own es)) → (L2.wipe σ vs)[i]? = some (some (V.ref p)) → p ≠ D := fun i es p h1 h2 c => by
    subst c
    obtain ⟨p2, us, a, b, _⟩ := Rw.o i es h1
    rw [h2] at a
    obtain rfl : p = p2 := by cases a; rfl
    rw [hD] at b; cases b
  have hDS : S1 D = none := Ext.none g1.m hD
  have gD : Grow S1 H1 S1 (upd H1 D (.lst [])) := Grow.fresh g1.m hD
  have xD0 : H0 D = none := Ext.none R1.g.h hD
  refine ⟨fun i m H2 => ∃ S2 acc us, Grow S1 H1 S2 H2 ∧ H2 D = some (.lst us) ∧ S2 D = none ∧ DvA K S2 us acc ∧ dComp (cStep gf ft fe (dwipe δ vs)) (ds.drop i) acc = some out ∧ i ≤ ds.length ∧ m = ds.length - i,
    ⟨_, S1, [], [], gD, upd_same, hDS, .nil, e, Nat.zero_le _, rfl⟩, ?_⟩
  rintro i m H2 ⟨S2, acc, us, g2, hd2, sd2, da2, e2, hle, rfl⟩
  have R2 : Rel K S0 H0 S2 H2 (L2.wipe σ vs) (dwipe δ vs) := Rw.grow g2
  have J2 := jk S2 H2 i g2.s g2.m
  by_cases hlt : i < ds.length
  · refine .inr ?_
    obtain ⟨go, yl⟩ := J2.1 _ (List.getElem?_eq_getElem hlt)
    refine ⟨go, fun H' => ∃ S2 acc us, Grow S1 H1 S2 H' ∧ H' D = some (.lst us) ∧ S2 D = none ∧ DvA K S2 us acc ∧ dComp (cStep gf ft fe (dwipe δ vs)) (ds.drop (i + 1)) acc = some out, fun H' ⟨S', a, b, h1, h2, h3, h4, h5⟩ => ⟨_, ?_, S', a, b, h1, h2, h3, h4, h5, hlt, rfl⟩, fun v H3 y => ?_⟩
    · omega
    · obtain ⟨S3, g3, d3⟩ := yl v H3 y
      have hd : ds.drop i = ds[i] :: ds.drop (i + 1) := List.drop_eq_getElem_cons hlt
      rw [hd] at e2
      unfold dComp at e2
      have R3 := R2.grow g3
      have nD : ∀ {S' H' : Hp}, Grow S2 H2 S' H' → H' D = some (.lst us) ∧ S' D = none := fun g => ⟨g.h _ _ hd2, (g.k D (by rw [hd2]; exact fun z => by cases z)).trans sd2⟩
      unfold cStep at e2
      split at e2
      · rename_i w hw
        split at e2
        · rename_i hm
          obtain ⟨δ4, e4, hw⟩ := Option.bind_eq_some_iff.mp hw
          obtain ⟨b, eb, hw⟩ := Option.bind_eq_some_iff.mp hw
          refine hg S0 H0 S3 H3 _ _ v _ δ4 R3 d3 e4 _ fun σ4 R4 w4 => ⟨by rw [w4, wipe_wipe vs vs fun _ h => h], ?_⟩
          refine hc S0 H0 S3 H3 σ4 δ4 b R4 eb _ fun S5 H5 g5 => ?_
          cases b with
          | false => rw [if_neg (by simp)] at hw; cases hw
          | true =>
            rw [if_pos rfl] at hw ⊢
            obtain ⟨w', ew, e6⟩ := Option.map_eq_some_iff.mp hw
            cases e6
            refine he S0 H0 S5 H5 σ4 δ4 _ (R4.grow g5) ew _ fun S6 H6 u g6 d6 => ?_
            have g36 := (g3.trans g5).trans g6
            obtain ⟨n1, n2⟩ := nD g36
            have g16 := g2.trans g36
            refine ⟨us, n1, by rw [da2.len]; exact Nat.lt_of_lt_of_le hm (most_le (Nat.le_refl _)), S6, acc ++ [_], us ++ [u], ⟨g16.s, fun a o h => ?_, fun a o h => ?_, g16.k⟩, upd_same, n2, (da2.mono g36.s).app (.cons d6 .nil), e2⟩
            · rw [upd_ne (by intro c; subst c; rw [hD] at h; cases h)]; exact g16.h a o h
            · rw [upd_ne (by intro c; subst c; rw [n2] at h; cases h)]; exact g16.m a o h
        · cases e2
      · rename_i hw
        obtain ⟨δ4, e4, hw⟩ := Option.bind_eq_some_iff.mp hw
        obtain ⟨b, eb, hw⟩ := Option.bind_eq_some_iff.mp hw
        refine hg S0 H0 S3 H3 _ _ v _ δ4 R3 d3 e4 _ fun σ4 R4 w4 => ⟨by rw [w4, wipe_wipe vs vs fun _ h => h], ?_⟩
        refine hc S0 H0 S3 H3 σ4 δ4 b R4 eb _ fun S5 H5 g5 => ?_
        cases b with
        | true =>
          rw [if_pos rfl] at hw
          obtain ⟨w', ew, e6⟩ := Option.map_eq_some_iff.mp hw
          cases e6
        | false =>
          rw [if_neg (by simp)]
          have g35 := g3.trans g5
          obtain ⟨n1, n2⟩ := nD g35
          exact ⟨S5, acc, us, g2.trans g35, n1, n2, da2.mono g35.s, e2⟩
      · cases e2
  · obtain rfl : i = ds.length := by omega
    refine .inl ⟨J2.2 rfl, ?_⟩
    rw [List.drop_length] at e2
    cases e2
    exact q S2 H2 D us (Ext.none g1.h hD) (g1.trans g2) hd2 sd2 da2
end
end PV

set_option maxRecDepth 100000
set_option autoImplicit false
set_option maxHeartbeats 4000000
namespace PV
open PySem PySem.Spec PyProof.Rows L2
open C8 (tCut Cal)
open PB (Ext)
/-! ### list.extend over a tuple that stands in the heap -/
theorem ext_tup (l : Addr) (xs : Array Value) (n : Nat) (b : Addr) (ys : Array Value) (m : Nat) (dd : Option Addr) (sl : Array (Option Value)) (h0 : ¬(!xs.isEmpty && Builtin.List.listTooLong (xs.size + ys.size)) = true) (h1 : xs.size ≤ sizeLine) (h2 : xs.size + ys.size ≤ sizeLine + 1) :
    Meets (Builtin.«list.extend» ⟨[.ref l, .ref b], []⟩) (fun _ R s => s.heap.get? l = some ⟨.type "list", none, .seq xs n, #[]⟩ ∧
      s.heap.get? b = some ⟨.type "tuple", dd, .seq ys m, sl⟩ ∧
      R (.ok (.ret Value.none)) { s with heap := s.heap.update l (Obj.mapSeq fun x => x ++ ys), toks := s.toks }) :=
  .of_wp fun prog w A R s h => by
    obtain ⟨hp, g, d, tk, os⟩ := s
    obtain ⟨hl, hb, h⟩ := h
    have f1 := AutoSeq1.idx_int
    have f2 := AutoSeq1.sub_tuple_tuple
    have f3 := AutoSeq1.sub_list_list
    have f4 := AutoSeq1.sub_tuple_list
    have f5 := AutoSeq1.sub_list_tuple
    have z : (xs ++ ys).size ≤ sizeLine + 1 := by rw [Array.size_append]; exact h2
    wp_walk using (wpAny_updateSeq hl rfl (hz := h1) (_hz' := z)), AutoSeq1.wpAny_loadPart' hl, AutoSeq1.wpAny_loadPart' hb
    exact ⟨_, rfl, h⟩
def rExtV (K : PySem.W.Frag) : V → List V → Hp → VK → Prop := fun x vs H Q => ∃ l b xs zs, x = .ref l ∧ vs = [.ref b] ∧ H l = some (.lst xs) ∧ (H b = some (.lst zs) ∨ H b = some (.tup zs)) ∧ xs.length + zs.length ≤ sizeLine ∧ Q .non (upd H l (.lst (xs ++ zs)))
theorem mt_extV {X : Cx} : MtR X "list.extend" (rExtV X.K) := by
  intro pins s σ H x vs v us Q I rx rv h
  obtain ⟨l, b, xs, zs, rfl, rfl, hH, hB | hB, hz, q⟩ := h
  · exact mt_extend pins s σ H (.ref l) [.ref b] v us Q I rx rv ⟨l, b, xs, zs, rfl, rfl, hH, hB, hz, q⟩
  · obtain rfl : v = Value.ref l := rx
    obtain ⟨u, rfl, ru⟩ := rv.one
    obtain rfl : u = Value.ref b := ru
    obtain ⟨its2, r2, ⟨o2, e2, c2, n2, d2⟩, z2⟩ := I.tuple (SqT.of hB)
    obtain ⟨cl2, dd2, dt2, sl2⟩ := o2
    simp only at c2 d2
    subst c2 d2
    obtain ⟨z, its, n, r, hl, e⟩ := I.lstM hH
    have ll := r2.length
    have lr := r.length
    have sz : its.toArray.size + its2.toArray.size ≤ sizeLine := by rw [List.size_toArray, List.size_toArray]; omega
    have long : ¬ (!its.toArray.isEmpty && Builtin.List.listTooLong (its.toArray.size + its2.toArray.size)) = true := by rw [notLongL sz, Bool.and_false]; exact Bool.false_ne_true
    refine call_meets F.slot_list_extend ⟨_, e, rfl⟩ F.entry_list_extend (F.args_list_extend_2 _ _) (ext_tup l its.toArray n b its2.toArray n2 dd2 sl2 long (by rw [List.size_toArray]; omega) (by omega)) ⟨e, e2, ?_⟩
    refine ⟨.non, _, I.lset (its' := its ++ its2) hH e (by simp) (r.append r2) ?_, rfl, q⟩
    rw [List.length_append]; exact hz
/-- o[i] of a list, for o[i] op= .. -/
theorem get_l {X : Cx} : PGet X (rIxL X.K) := by
  intro pins s σ H x y v u Q I rx ry h
  obtain ⟨p, xs, i, z, rfl, rfl, hq, he, q⟩ := h
  obtain rfl : v = Value.ref p := rx
  obtain ⟨t, rfl⟩ := ry
  obtain ⟨its, r, pl, hz⟩ := I.list hq
  obtain ⟨j, h1, h2, h3, h4, h5⟩ := atI_get he
  obtain ⟨w, ew, rw'⟩ := r.get h2
  have hl := r.length
  have hn := line63
  have fin : EP X pins σ Q w s := ⟨z, H, I, rw', q⟩
  by_cases h0 : 0 ≤ i
  · have hj : i.toNat = j := by
      rw [seqIndex_of h0 h5] at h1
      exact Option.some.inj h1
    exact wpAny_getItem_list pl.isList h0 (by omega) (by rw [hj]; simpa using ew) fin
  · have hj : (i + (its.toArray.size : Int)).toNat = j := by
      rw [seqIndex_neg (by omega) h4] at h1
      rw [List.size_toArray, ← hl]
      exact Option.some.inj h1
    exact wpAny_getItem_list_neg pl.isList (by omega) (by rw [List.size_toArray]; omega) (by omega) (by rw [hj]; simpa using ew) fin
/-- a text as a global name -/
theorem pe_gstr {X : Cx} {x z : Str} {pos : Pos} (hg : Gl X x) (hm : ∃ t, X.mg x = some (.str z t)) (hd : (x == ("__debug__" : Str)) = false := by decide) : PE X (.Name x pos) (tC (.str z)) := by
  obtain ⟨t, hm⟩ := hm
  exact pe_glob hg hm ⟨t, rfl⟩ hd
/-! ### a walk over a list or a tuple -/
def iSq (K : PySem.W.Frag) (tl : TE) : TI := fun σ H R => tl σ H fun x H1 => (∃ a, x = .ref a ∧ (∃ xs, SqL K H1 a xs) ∧ R (Itl K a) H1) ∨ (∃ a, x = .ref a ∧ (∃ xs, SqT K H1 a xs) ∧ R (Itt K a) H1)
theorem pi_sq {X : Cx} {tg l : Expr} {tl : TE} (hl : PE X l tl) : PI X tg l (iSq X.K tl) := by
  refine ⟨fun pins s σ H R I h => ?_⟩
  refine thn (hl.run pins s σ H _ I h) fun v s1 ⟨x, H1, I1, r1, q1⟩ => ?_
  rcases q1 with ⟨a, e, ⟨xs, hq⟩, q⟩ | ⟨a, e, ⟨xs, hq⟩, q⟩
  · subst e
    cases r1
    obtain ⟨its, rv, p, hz⟩ := I1.list hq
    refine wpAny_pyIter_list p.isList ?_
    refine ⟨s1.heap.objs.size, [s1.heap.objs.size], _, _, H1, rfl, I1.kept (t' := s1.toks) fun b o e => Heap.get?_push_of_some _ e, turn_list a _, ⟨_, Heap.get?_push_size _ rfl, rfl, rfl⟩, fun b hb => ?_, q⟩
    have e : b = s1.heap.objs.size := by simpa using hb
    subst e
    exact I1.fpOk (Nat.le_refl _) (I1.hok.fresh (Nat.le_refl _))
  · subst e
    cases r1
    obtain ⟨its, rv, p, hz⟩ := I1.tuple hq
    refine wpAny_pyIter_tuple (show s1.heap.IsTuple a its.toArray from p) ?_
    refine ⟨s1.heap.objs.size, [s1.heap.objs.size], _, _, H1, rfl, I1.kept (t' := s1.toks) fun b o e => Heap.get?_push_of_some _ e, turn_tuple a _, ⟨_, Heap.get?_push_size _ rfl, rfl, rfl⟩, fun b hb => ?_, q⟩
    have e : b = s1.heap.objs.size := by simpa using hb
    subst e
    exact I1.fpOk (Nat.le_refl _) (I1.hok.fresh (Nat.le_refl _))
section
variable {K : PySem.W.Frag}

def dItems : D → Option (List D)
  | .lst ds => some ds
  | .tup ds => some ds
  | .fro ds => some ds
  | _ => none
def iOf (a : DS → Option D) : DS → Option (List D) := fun δ => (a δ).bind dItems
theorem i_sq {te : TE} {fe : DS → Option D} (ha : SE K te fe) : SI K (iSq K te) (iOf fe) := fun S0 H0 S H σ δ ds R e Q q => by
  obtain ⟨d, ed, e⟩ := Option.bind_eq_some_iff.mp e
  refine ha S0 H0 S H σ δ d R ed _ fun S1 H1 v g1 d1 => ?_
  have lst : ∀ (a : Addr) (xs : List V), SqL K S1 a xs → DvA K S1 xs ds → JOk K S1 (Itl K a) ds := fun a xs h1 h2 S' H' i x m => by
    have h1' := PB.ext_l (x.trans m) h1
    refine ⟨fun d hd => ?_, fun e => ⟨xs, h1', by rw [h2.len]; omega⟩⟩
    obtain ⟨v, hv, dv⟩ := h2.get hd
    refine ⟨⟨xs, v, h1', hv⟩, fun w H2 ⟨e1, e2⟩ => ?_⟩
    subst e1
    have e3 := e2 xs h1'
    rw [hv] at e3
    cases e3
    exact ⟨S', .refl m, dv.mono x⟩
  cases d with
  | lst es =>
    cases e
    cases d1 with
    | lst h1 h2 => exact .inl ⟨_, rfl, ⟨_, SqL.of (g1.m _ _ h1)⟩, q S1 H1 _ g1 (lst _ _ (SqL.of h1) h2)⟩
  | fro es =>
    cases e
    cases d1 with
    | fro h1 h2 => exact .inl ⟨_, rfl, ⟨_, PB.ext_l g1.m h1⟩, q S1 H1 _ g1 (lst _ _ h1 h2)⟩
  | tup es =>
    cases e
    cases d1 with
    | tup h1 h2 =>
      rename_i a xs
      refine .inr ⟨_, rfl, ⟨_, SqT.of (g1.m _ _ h1)⟩, q S1 H1 _ g1 fun S' H' i x m => ?_⟩
      have h1' := SqT.of (K := K) (m _ _ (x _ _ h1))
      refine ⟨fun d hd => ?_, fun e => ⟨xs, h1', by rw [h2.len]; omega⟩⟩
      obtain ⟨v, hv, dv⟩ := h2.get hd
      refine ⟨⟨xs, v, h1', hv⟩, fun w H2 ⟨e1, e2⟩ => ?_⟩
      subst e1
      have e3 := e2 xs h1'
      rw [hv] at e3
      cases e3
      exact ⟨S', .refl m, dv.mono x⟩
  | _ => cases e
def span (lo : Int) (n : Nat) : List D := (List.range n).map fun k : Nat => D.int (lo + k)
def dRng1 : List D → Option (List D)
  | [.int j] => if j.natAbs < 2 ^ 62 then some (span 0 j.toNat) else none
  | _ => none
def dRng2 : List D → Option (List D)
  | [.int i, .int j] => if i.natAbs < 2 ^ 62 ∧ j.natAbs < 2 ^ 62 then some (span i (j - i).toNat) else none
  | _ => none
theorem itr_ok {S : Hp} {lo : Int} {n : Nat} : JOk K S (Itr lo n) (span lo n) := fun S' H' i x m => by
  refine ⟨fun d hd => ?_, fun e => ?_⟩
  · unfold span at hd
    rw [List.getElem?_map] at hd
    obtain ⟨k, hk, rfl⟩ := Option.map_eq_some_iff.mp hd
    obtain ⟨h1, h2⟩ := List.getElem?_eq_some_iff.mp hk
    rw [List.length_range] at h1
    rw [List.getElem_range] at h2
    subst h2
    refine ⟨h1, fun v H2 ⟨e1, e2⟩ => ?_⟩
    subst e1 e2
    exact ⟨S', .refl m, .int _⟩
  · unfold span at e
    rw [List.length_map, List.length_range] at e
    show n ≤ i
    omega
def iBy (f : List D → Option (List D)) (l : DS → Option (List D)) : DS → Option (List D) := fun δ => (l δ).bind f
section
variable {tl : TA} {fl : DS → Option (List D)}
theorem i_rng1 (hl : SAV K tl fl) : SI K (iRng1 tl) (iBy dRng1 fl) := fun S0 H0 S H σ δ ds R e Q q => by
  obtain ⟨xs, el, e⟩ := Option.bind_eq_some_iff.mp e
  refine hl S0 H0 S H σ δ xs R el _ fun S1 H1 vs g1 d1 => ?_
  unfold dRng1 at e
  split at e
  · rename_i j
    split at e
    · rename_i hb
      cases e
      cases d1 with | cons a b => ?_
      cases b
      cases a.int
      exact ⟨j, rfl, by omega, by omega, q S1 H1 _ g1 itr_ok⟩
    · cases e
  · cases e
theorem i_rng2 (hl : SAV K tl fl) : SI K (iRng2 tl) (iBy dRng2 fl) := fun S0 H0 S H σ δ ds R e Q q => by
  obtain ⟨xs, el, e⟩ := Option.bind_eq_some_iff.mp e
  refine hl S0 H0 S H σ δ xs R el _ fun S1 H1 vs g1 d1 => ?_
  unfold dRng2 at e
  split at e
  · rename_i i j
    split at e
    · rename_i hb
      cases e
      cases d1 with | cons a b => ?_
      cases b with | cons b c => ?_
      cases c
      cases a.int
      cases b.int
      exact ⟨i, j, rfl, by omega, q S1 H1 _ g1 itr_ok⟩
    · cases e
  · cases e
def dEnum : List D → Option (List D)
  | [.lst ds] => some ((List.range ds.length).zipWith (fun (k : Nat) d => D.tup [.int k, d]) ds)
  | _ => none
theorem i_enum (hl : SA K tl fl) : SI K (iEnum K tl) (iBy dEnum fl) := fun S0 H0 S H σ δ ds R e Q q => by
  obtain ⟨xs, el, e⟩ := Option.bind_eq_some_iff.mp e
  refine hl S0 H0 S H σ δ xs R el _ fun S1 H1 vs g1 d1 => ?_
  unfold dEnum at e
  split at e
  · rename_i es
    cases e
    cases d1 with | cons a b => ?_
    cases b
    cases a with | lst h1 h2 => ?_
    rename_i a us
    refine ⟨a, us, rfl, SqL.of (g1.m _ _ h1), q S1 H1 _ g1 fun S' H' i x m => ?_⟩
    have h1' := SqL.of (K := K) (m _ _ (x _ _ h1))
    refine ⟨fun d hd => ?_, fun e => ⟨us, h1', ?_⟩⟩
    · rw [List.getElem?_zipWith] at hd
      cases hk : (List.range es.length)[i]? with
      | none => rw [hk] at hd; cases hd
      | some k =>
        cases he : es[i]? with
        | none => rw [hk, he] at hd; cases hd
        | some e0 =>
          rw [hk, he] at hd
          have ek : k = i := by
            obtain ⟨l1, l2⟩ := List.getElem?_eq_some_iff.mp hk
            rw [List.getElem_range] at l2
            exact l2.symm
          subst ek
          cases hd
          obtain ⟨v, hv, dv⟩ := h2.get he
          refine ⟨⟨us, v, h1', hv⟩, fun w H2 ⟨T, y, e1, e2, e3, e4⟩ => ?_⟩
          subst e1 e3
          have e5 := e4 us h1'
          rw [hv] at e5
          cases e5
          have g : Grow S' H' _ _ := Grow.new (o := .tup [.int (k : Nat), v]) m e2
          exact ⟨_, g, .tup upd_same (.cons (.int _) (.cons (dv.mono (x.trans g.s)) .nil))⟩
    · rw [List.length_zipWith, List.length_range] at e
      rw [h2.len]; omega
  · cases e
def dZip : List D → Option (List D)
  | [.lst xs, .lst ys] => some (xs.zipWith (fun x y => D.tup [x, y]) ys)
  | _ => none
theorem i_zip (hl : SA K tl fl) : SI K (iZip K tl) (iBy dZip fl) := fun S0 H0 S H σ δ ds R e Q q => by
  obtain ⟨zs, el, e⟩ := Option.bind_eq_some_iff.mp e
  refine hl S0 H0 S H σ δ zs R el _ fun S1 H1 vs g1 d1 => ?_
  unfold dZip at e
  split at e
  · rename_i xs ys
    cases e
    cases d1 with | cons a b => ?_
    cases b with | cons b c => ?_
    cases c
    cases a with | lst h1 h2 => ?_
    cases b with | lst k1 k2 => ?_
    rename_i a us b ws
    refine ⟨a, b, us, ws, rfl, SqL.of (g1.m _ _ h1), SqL.of (g1.m _ _ k1), q S1 H1 _ g1 fun S' H' i x m => ?_⟩
    have h1' := SqL.of (K := K) (m _ _ (x _ _ h1))
    have k1' := SqL.of (K := K) (m _ _ (x _ _ k1))
    refine ⟨fun d hd => ?_, fun e => ⟨us, ws, h1', k1', ?_⟩⟩
    · rw [List.getElem?_zipWith] at hd
      cases hx : xs[i]? with
      | none => rw [hx] at hd; cases hd
      | some x0 =>
        cases hy : ys[i]? with
        | none => rw [hx, hy] at hd; cases hd
        | some y0 =>
          rw [hx, hy] at hd
          cases hd
          obtain ⟨v, hv, dv⟩ := h2.get hx
          obtain ⟨w, hw, dw⟩ := k2.get hy
          refine ⟨⟨us, ws, v, w, h1', k1', hv, hw⟩, fun z H2 ⟨T, y1, y2, e1, e2, e3, e4, e5⟩ => ?_⟩
          subst e1 e3
          have e6 := e4 us h1'
          have e7 := e5 ws k1'
          rw [hv] at e6
          rw [hw] at e7
          cases e6
          cases e7
          have g : Grow S' H' _ _ := Grow.new (o := .tup [v, w]) m e2
          exact ⟨_, g, .tup upd_same (.cons (dv.mono (x.trans g.s)) (.cons (dw.mono (x.trans g.s)) .nil))⟩
    · rw [List.length_zipWith] at e
      rw [h2.len, k2.len]; omega
  · cases e
end
/-! ### operations -/
def dAdd : D → D → Option D
  | .int i, .int j => some (.int (i + j))
  | .lst xs, .lst ys => if xs.length + ys.length ≤ most then some (.lst (xs ++ ys)) else none
  | _, _ => none
def fAdd : D → D → Option (List D)
  | .lst xs, .lst ys => if xs.length + ys.length ≤ most then some (xs ++ ys) else none
  | _, _ => none
theorem rf_add : SRF K (PB.mAdd K) fAdd := fun S H x y d e z m hx hy h Q q => by
  unfold fAdd at h
  split at h
  · rename_i xs ys
    split at h
    · rename_i hl
      cases h
      obtain ⟨a, us, rfl, h1, h2⟩ := hx.lst m
      obtain ⟨b, ws, rfl, k1, k2⟩ := hy.lst m
      refine .inl ⟨a, b, us, ws, rfl, rfl, h1, k1, by rw [h2.len, k2.len]; exact most_le hl, fun p hp => ?_⟩
      exact q _ p _ hp (Grow.fresh m hp) upd_same (h2.app k2)
    · cases h
  · cases h
theorem r_of_f {r : R2} {f : D → D → Option (List D)} (h : SRF K r f) : SR K r (fun d e => (f d e).map .lst) := fun S H x y d e z m hx hy hz Q q => by
  obtain ⟨ds, h1, rfl⟩ := Option.map_eq_some_iff.mp hz
  refine h S H x y d e ds m hx hy h1 Q fun H' p vs hp g hl d1 => ?_
  have sp : S p = none := Ext.none m hp
  have x : Ext S (upd S p (.lst vs)) := PB.Ext.new sp
  refine q (upd S p (.lst vs)) H' _ ⟨x, g.h, fun a o k => ?_, fun a k => ?_⟩ (.lst upd_same (d1.mono x))
  · by_cases c : a = p
    · subst c; rw [upd_same] at k; rw [hl]; exact k
    · rw [upd_ne c] at k; exact g.m a o k
  · rw [upd_ne (by intro c; subst c; exact k hp)]
theorem r_add : SR K (PB.mAdd K) dAdd := fun S H x y d e z m hx hy h Q q => by
  unfold dAdd at h
  split at h
  · cases h
    cases hx.int
    cases hy.int
    exact q S H _ (.refl m) (.int _)
  · refine r_of_f rf_add S H x y _ _ z m hx hy ?_ Q q
    split at h
    · rename_i hl
      simp only [fAdd, if_pos hl]
      exact h
    · cases h
  · cases h
def dSub : D → D → Option D
  | .int i, .int j => some (.int (i - j))
  | _, _ => none
theorem r_sub : SR K PB.mSub dSub := fun S H x y d e z m hx hy h Q q => by
  unfold dSub at h
  split at h
  · cases h; cases hx.int; cases hy.int; exact q S H _ (.refl m) (.int _)
  · cases h
def fMul : D → D → Option (List D)
  | .lst xs, .int k => if k.natAbs < 2 ^ 62 ∧ xs.length * k.toNat ≤ most then some (List.replicate k.toNat xs).flatten else none
  | _, _ => none
theorem DvA.rep {S : Hp} {vs : List V} {ds : List D} (h : DvA K S vs ds) : ∀ n : Nat, DvA K S (List.replicate n vs).flatten (List.replicate n ds).flatten
  | 0 => .nil
  | n + 1 => by rw [List.replicate_succ, List.replicate_succ, List.flatten_cons, List.flatten_cons]; exact h.app (DvA.rep h n)
theorem rf_mul : SRF K PB.mMul fMul := fun S H x y d e z m hx hy h Q q => by
  unfold fMul at h
  split at h
  · rename_i xs k
    split at h
    · rename_i hl
      cases h
      obtain ⟨a, us, rfl, h1, h2⟩ := hx.lst m
      cases hy.int
      refine ⟨a, k, us, rfl, rfl, h1, by omega, by omega, by rw [h2.len]; exact most_le hl.2, fun p hp => ?_⟩
      exact q _ p _ hp (Grow.fresh m hp) upd_same (h2.rep _)
    · cases h
  · cases h
def dMul : D → D → Option D
  | .int i, .int j => if i.natAbs.log2 + j.natAbs.log2 < 1000000 then some (.int (i * j)) else none
  | d, e => (fMul d e).map .lst
theorem r_mul : SR K PB.mMul dMul := fun S H x y d e z m hx hy h Q q => by
  unfold dMul at h
  split at h
  · split at h
    · rename_i hl
      cases h; cases hx.int; cases hy.int; exact ⟨hl, q S H _ (.refl m) (.int _)⟩
    · cases h
  · exact r_of_f rf_mul S H x y _ _ z m hx hy h Q q
def dDiv : D → D → Option D
  | .int i, .int j => if 0 < j ∧ j.natAbs.log2 < 9000 then some (.int (i / j)) else none
  | _, _ => none
theorem r_div : SR K PB.mDiv dDiv := fun S H x y d e z m hx hy h Q q => by
  unfold dDiv at h
  split at h
  · split at h
    · rename_i hl
      cases h; cases hx.int; cases hy.int; exact ⟨hl, q S H _ (.refl m) (.int _)⟩
    · cases h
  · cases h
def dMod : D → D → Option D
  | .int i, .int j => if 0 < j then some (.int (i % j)) else none
  | _, _ => none
theorem r_mod : SR K PB.mMod dMod := fun S H x y d e z m hx hy h Q q => by
  unfold dMod at h
  split at h
  · split at h
    · rename_i hl
      cases h; cases hx.int; cases hy.int; exact ⟨hl, q S H _ (.refl m) (.int _)⟩
    · cases h
  · cases h
def dLt : D → D → Option D
  | .int i, .int j => some (.bl (decide (i < j)))
  | _, _ => none
def dLe : D → D → Option D
  | .int i, .int j => some (.bl (decide (i ≤ j)))
  | _, _ => none
def dGt : D → D → Option D
  | .int i, .int j => some (.bl (decide (j < i)))
  | _, _ => none
def dGe : D → D → Option D
  | .int i, .int j => some (.bl (decide (j ≤ i)))
  | _, _ => none
theorem r_lt : SR K PB.mLt dLt := fun S H x y d e z m hx hy h Q q => by
  unfold dLt at h
  split at h
  · cases h; cases hx.int; cases hy.int; exact q S H _ (.refl m) (.bl _)
  · cases h
theorem r_le : SR K PB.mLe dLe := fun S H x y d e z m hx hy h Q q => by
  unfold dLe at h
  split at h
  · cases h; cases hx.int; cases hy.int; exact q S H _ (.refl m) (.bl _)
  · cases h
theorem r_gt : SR K PB.mGt dGt := fun S H x y d e z m hx hy h Q q => by
  unfold dGt at h
  split at h
  · cases h; cases hx.int; cases hy.int; exact q S H _ (.refl m) (.bl _)
  · cases h
theorem r_ge : SR K PB.mGe dGe := fun S H x y d e z m hx hy h Q q => by
  unfold dGe at h
  split at h
  · cases h; cases hx.int; cases hy.int; exact q S H _ (.refl m) (.bl _)
  · cases h
def dEq (d e : D) : Option D := if SeqAt.shaped d.py = true ∧ SeqAt.shaped e.py = true then some (.bl (PyData.eqv d.py e.py)) else none
def dNe (d e : D) : Option D := if SeqAt.shaped d.py = true ∧ SeqAt.shaped e.py = true then some (.bl (!PyData.eqv d.py e.py)) else none
theorem Vw.noty {S H : Hp} {n : String} {d : D} (h : Vw K S H (.ty n) d) : False := by cases h with | dat h => cases h
theorem r_eq : SR K (PB.mEq K) dEq := fun S H x y d e z m hx hy h Q q => by
  unfold dEq at h
  split at h
  · rename_i hs
    cases h
    have q' := q S H _ (.refl m) (.bl _)
    have hd := hx.dp m
    have he := hy.dp m
    cases x <;> cases y <;> first
      | exact .inr ⟨_, _, hd, he, hs.1, hs.2, q'⟩
      | exact ⟨_, _, hd, he, hs.1, hs.2, q'⟩
      | skip
    · generalize d.py = dp at *; generalize e.py = ep at *
      cases hd; cases he
      rename_i i j
      have e1 : PyData.eqv (.bool i) (.bool j) = decide (i = j) := by cases i <;> cases j <;> rfl
      rw [e1] at q'; exact q'
    · generalize d.py = dp at *; generalize e.py = ep at *
      cases hd; cases he
      rename_i i j
      have e1 : PyData.eqv (.int i) (.int j) = decide (i = j) := by simp only [PyData.eqv]; by_cases c : i = j <;> simp [c]
      rw [e1] at q'; exact q'
    · generalize d.py = dp at *; generalize e.py = ep at *
      cases hd; cases he
      rename_i i j
      have e1 : PyData.eqv (.str i) (.str j) = decide (i = j) := by simp only [PyData.eqv]; by_cases c : i = j <;> simp [c]
      rw [e1] at q'; exact q'
  · cases h
theorem r_ne : SR K (PB.mNe K) dNe := fun S H x y d e z m hx hy h Q q => by
  unfold dNe at h
  split at h
  · rename_i hs
    cases h
    have q' := q S H _ (.refl m) (.bl _)
    have hd := hx.dp m
    have he := hy.dp m
    cases x <;> cases y <;> first
      | exact .inr ⟨_, _, hd, he, hs.1, hs.2, q'⟩
      | exact ⟨_, _, hd, he, hs.1, hs.2, q'⟩
      | skip
    · generalize d.py = dp at *; generalize e.py = ep at *
      cases hd; cases he
      rename_i i j
      have e1 : PyData.eqv (.bool i) (.bool j) = decide (i = j) := by cases i <;> cases j <;> rfl
      rw [e1] at q'; exact q'
    · generalize d.py = dp at *; generalize e.py = ep at *
      cases hd; cases he
      rename_i i j
      have e1 : PyData.eqv (.int i) (.int j) = decide (i = j) := by simp only [PyData.eqv]; by_cases c : i = j <;> simp [c]
      rw [e1] at q'; exact q'
    · generalize d.py = dp at *; generalize e.py = ep at *
      cases hd; cases he
      rename_i i j
      have e1 : PyData.eqv (.str i) (.str j) = decide (i = j) := by simp only [PyData.eqv]; by_cases c : i = j <;> simp [c]
      rw [e1] at q'; exact q'
  · cases h
def isNon : D → Bool
  | .non => true
  | _ => false
def dIsN : D → D → Option D
  | d, .non => some (.bl (isNon d))
  | _, _ => none
def dNotN : D → D → Option D
  | d, .non => some (.bl (!isNon d))
  | _, _ => none
theorem Vw.isNon {S H : Hp} {v : V} {d : D} (h : Vw K S H v d) : decide (v = .non) = isNon d := by
  cases h with
  | dat h => cases h <;> rfl
  | own _ _ _ => rfl
theorem r_isN : SR K PB.mIsN dIsN := fun S H x y d e z m hx hy h Q q => by
  unfold dIsN at h
  split at h
  · cases h; cases hy.non
    have q' := q S H _ (.refl m) (.bl _)
    rw [← hx.isNon] at q'
    exact q'
  · cases h
theorem r_notN : SR K PB.mNotN dNotN := fun S H x y d e z m hx hy h Q q => by
  unfold dNotN at h
  split at h
  · cases h; cases hy.non
    have q' := q S H _ (.refl m) (.bl _)
    rw [← hx.isNon] at q'
    exact q'
  · cases h
def dIn (d e : D) : Option D := match e with
  | .lst ds => if SeqAt.shaped d.py = true ∧ SeqAt.shaped (D.lst ds).py = true then some (.bl ((D.pys ds).any fun z => PyData.eqv z d.py)) else none
  | .tup ds => if SeqAt.shaped d.py = true ∧ SeqAt.shaped (D.tup ds).py = true then some (.bl ((D.pys ds).any fun z => PyData.eqv z d.py)) else none
  | _ => none
theorem r_in : SR K (PB.mIn K) dIn := fun S H x y d e z m hx hy h Q q => by
  have hd := hx.dp m
  have he := hy.dp m
  unfold dIn at h
  split at h
  · split at h
    · rename_i hs
      cases h
      exact .inr (.inl ⟨_, _, hd, he, hs.1, hs.2, q S H _ (.refl m) (.bl _)⟩)
    · cases h
  · split at h
    · rename_i hs
      cases h
      exact .inr (.inr ⟨_, _, hd, he, hs.1, hs.2, q S H _ (.refl m) (.bl _)⟩)
    · cases h
  · cases h
def dNotIn (d e : D) : Option D := match e with
  | .lst ds => if SeqAt.shaped d.py = true ∧ SeqAt.shaped (D.lst ds).py = true then some (.bl (!(D.pys ds).any fun z => PyData.eqv z d.py)) else none
  | .tup ds => if SeqAt.shaped d.py = true ∧ SeqAt.shaped (D.tup ds).py = true then some (.bl (!(D.pys ds).any fun z => PyData.eqv z d.py)) else none
  | _ => none
theorem r_notIn : SR K (PB.mNotIn K) dNotIn := fun S H x y d e z m hx hy h Q q => by
  have hd := hx.dp m
  have he := hy.dp m
  unfold dNotIn at h
  split at h
  · split at h
    · rename_i hs
      cases h
      exact .inr (.inl ⟨_, _, hd, he, hs.1, hs.2, q S H _ (.refl m) (.bl _)⟩)
    · cases h
  · split at h
    · rename_i hs
      cases h
      exact .inr (.inr ⟨_, _, hd, he, hs.1, hs.2, q S H _ (.refl m) (.bl _)⟩)
    · cases h
  · cases h
def dIx (d e : D) : Option D := match e with
  | .int i => (dItems d).bind fun ds => atI ds i
  | _ => none
theorem DvA.atI {S : Hp} {vs : List V} {ds : List D} {i : Int} {d : D} (h : DvA K S vs ds) (e : L2.atI ds i = some d) : ∃ v, L2.atI vs i = some v ∧ Dv K S v d := by
  unfold L2.atI at e ⊢
  rw [h.len]
  cases hk : ixN ds.length i with
  | none => rw [hk] at e; cases e
  | some k =>
    rw [hk] at e
    exact h.get e
theorem r_ix : SR K (PB.mIx K) dIx := fun S H x y d e z m hx hy h Q q => by
  unfold dIx at h
  split at h
  · rename_i i
    cases hy.int
    obtain ⟨ds, hd, h⟩ := Option.bind_eq_some_iff.mp h
    cases d with
    | lst es =>
      cases hd
      obtain ⟨a, us, rfl, h1, h2⟩ := hx.lst m
      obtain ⟨v, e1, e2⟩ := h2.atI h
      exact ⟨us, v, .inl (SqL.of h1), e1, q S H v (.refl m) e2⟩
    | fro es =>
      cases hd
      obtain ⟨a, us, rfl, h1, h2⟩ := hx.fro m
      obtain ⟨v, e1, e2⟩ := h2.atI h
      exact ⟨us, v, .inl h1, e1, q S H v (.refl m) e2⟩
    | tup es =>
      cases hd
      obtain ⟨a, us, rfl, h1, _, h2⟩ := hx.tup m
      obtain ⟨v, e1, e2⟩ := h2.atI h
      exact ⟨us, v, .inr (SqT.of h1), e1, q S H v (.refl m) e2⟩
    | _ => cases hd
  · cases h
end
end PV

set_option maxRecDepth 100000
set_option autoImplicit false
set_option maxHeartbeats 4000000
namespace PV
open PySem PySem.Spec PyProof.Rows L2
open C8 (tCut Cal)
open PB (Ext)
section
variable {K : PySem.W.Frag} {ta tb te : TE} {fa fb fe : DS → Option D} {tl : TA} {fl : DS → Option (List D)}
/-! ### built-in functions -/
def bLen : List D → Option D
  | [d] => (dItems d).map fun ds => .int ds.length
  | _ => none
theorem c_len : SC K (PB.mLen K) bLen := fun S H xs ds z m hx h Q q => by
  unfold bLen at h
  split at h
  · rename_i d
    obtain ⟨es, hd, rfl⟩ := Option.map_eq_some_iff.mp h
    cases hx with | cons a b => ?_
    cases b
    have q' := q S H _ (.refl m) (.int _)
    cases d with
    | lst es => cases hd; obtain ⟨p, us, rfl, h1, h2⟩ := a.lst m; exact ⟨us, .inl (SqL.of h1), by rw [h2.len]; exact q'⟩
    | fro es => cases hd; obtain ⟨p, us, rfl, h1, h2⟩ := a.fro m; exact ⟨us, .inl h1, by rw [h2.len]; exact q'⟩
    | tup es => cases hd; obtain ⟨p, us, rfl, h1, _, h2⟩ := a.tup m; exact ⟨us, .inr (SqT.of h1), by rw [h2.len]; exact q'⟩
    | _ => cases hd
  · cases h
def bAbs : List D → Option D
  | [.int i] => some (.int (if i < 0 then -i else i))
  | _ => none
theorem c_abs : SC K PB.mAbs bAbs := fun S H xs ds z m hx h Q q => by
  unfold bAbs at h
  split at h
  · cases h; cases hx with | cons a b => ?_
    cases b; cases a.int; exact q S H _ (.refl m) (.int _)
  · cases h
def bMax2 : List D → Option D
  | [.int i, .int j] => some (.int (max i j))
  | _ => none
def bMin2 : List D → Option D
  | [.int i, .int j] => some (.int (min i j))
  | _ => none
theorem c_max2 : SC K PB.mMax2 bMax2 := fun S H xs ds z m hx h Q q => by
  unfold bMax2 at h
  split at h
  · cases h; cases hx with | cons a b => ?_
    cases b with | cons b c => ?_
    cases c; cases a.int; cases b.int; exact q S H _ (.refl m) (.int _)
  · cases h
theorem c_min2 : SC K PB.mMin2 bMin2 := fun S H xs ds z m hx h Q q => by
  unfold bMin2 at h
  split at h
  · cases h; cases hx with | cons a b => ?_
    cases b with | cons b c => ?_
    cases c; cases a.int; cases b.int; exact q S H _ (.refl m) (.int _)
  · cases h
def bInt : List D → Option D
  | [.int i] => some (.int i)
  | [.bl k] => some (.int (if k then 1 else 0))
  | _ => none
theorem c_int : SC K PB.mInt bInt := fun S H xs ds z m hx h Q q => by
  unfold bInt at h
  split at h
  · cases h; cases hx with | cons a b => ?_
    cases b; cases a.int; exact q S H _ (.refl m) (.int _)
  · cases h; cases hx with | cons a b => ?_
    cases b; cases a.bl; exact q S H _ (.refl m) (.int _)
  · cases h
def lInts : D → Option (List Int)
  | .lst ds => dints ds
  | .fro ds => dints ds
  | _ => none
theorem lInts_ok {S H : Hp} {v : V} {d : D} {ns : List Int} (a : Vw K S H v d) (m : Ext S H) (h : lInts d = some ns) : ∃ p, v = .ref p ∧ SqL K H p (ns.map V.int) := by
  cases d with
  | lst es => obtain ⟨p, us, rfl, h1, h2⟩ := a.lst m; exact ⟨p, rfl, by rw [← h2.dint h]; exact SqL.of h1⟩
  | fro es => obtain ⟨p, us, rfl, h1, h2⟩ := a.fro m; exact ⟨p, rfl, by rw [← h2.dint h]; exact h1⟩
  | _ => cases h
def bSum : List D → Option D
  | [d] => (lInts d).map fun ns => .int ns.sum
  | _ => none
theorem c_sum : SC K (rSum K) bSum := fun S H xs ds z m hx h Q q => by
  unfold bSum at h
  split at h
  · obtain ⟨ns, hn, rfl⟩ := Option.map_eq_some_iff.mp h
    cases hx with | cons a b => ?_
    cases b
    obtain ⟨p, rfl, hp⟩ := lInts_ok a m hn
    exact ⟨p, ns, rfl, hp, q S H _ (.refl m) (.int _)⟩
  · cases h
def lmax : List Int → Int
  | [] => 0
  | n :: ns => ns.foldl max n
def lmin : List Int → Int
  | [] => 0
  | n :: ns => ns.foldl min n
theorem foldl_max_ge : ∀ (ns : List Int) (a : Int), a ≤ ns.foldl max a ∧ ∀ y ∈ ns, y ≤ ns.foldl max a
  | [], a => ⟨Int.le_refl _, fun _ h => by cases h⟩
  | n :: ns, a => by
    obtain ⟨h1, h2⟩ := foldl_max_ge ns (max a n)
    refine ⟨Int.le_trans (by omega) h1, fun y hy => ?_⟩
    rcases List.mem_cons.mp hy with e | e
    · subst e; exact Int.le_trans (by omega) h1
    · exact h2 y e
theorem foldl_max_mem : ∀ (ns : List Int) (a : Int), ns.foldl max a = a ∨ ns.foldl max a ∈ ns
  | [], a => .inl rfl
  | n :: ns, a => by
    rcases foldl_max_mem ns (max a n) with h | h
    · by_cases c : a ≤ n
      · exact .inr (by rw [List.foldl_cons, h, Int.max_eq_right c]; exact List.mem_cons_self ..)
      · exact .inl (by rw [List.foldl_cons, h]; omega)
    · exact .inr (List.mem_cons_of_mem _ h)
theorem foldl_min_le : ∀ (ns : List Int) (a : Int), ns.foldl min a ≤ a ∧ ∀ y ∈ ns, ns.foldl min a ≤ y
  | [], a => ⟨Int.le_refl _, fun _ h => by cases h⟩
  | n :: ns, a => by
    obtain ⟨h1, h2⟩ := foldl_min_le ns (min a n)
    refine ⟨Int.le_trans h1 (by omega), fun y hy => ?_⟩
    rcases List.mem_cons.mp hy with e | e
    · subst e; exact Int.le_trans h1 (by omega)
    · exact h2 y e
theorem foldl_min_mem : ∀ (ns : List Int) (a : Int), ns.foldl min a = a ∨ ns.foldl min a ∈ ns
  | [], a => .inl rfl
  | n :: ns, a => by
    rcases foldl_min_mem ns (min a n) with h | h
    · by_cases c : n ≤ a
      · exact .inr (by rw [List.foldl_cons, h, Int.min_eq_right c]; exact List.mem_cons_self ..)
      · exact .inl (by rw [List.foldl_cons, h]; omega)
    · exact .inr (List.mem_cons_of_mem _ h)
theorem lmax_is {ns : List Int} {m : Int} (h1 : m ∈ ns) (h2 : ∀ y ∈ ns, y ≤ m) : m = lmax ns := by
  cases ns with
  | nil => cases h1
  | cons n ns =>
    obtain ⟨a, b⟩ := foldl_max_ge ns n
    show m = ns.foldl max n
    have up : m ≤ ns.foldl max n := by
      rcases List.mem_cons.mp h1 with e | e
      · rw [e]; exact a
      · exact b m e
    have lo : ns.foldl max n ≤ m := by
      rcases foldl_max_mem ns n with e | e
      · rw [e]; exact h2 n (List.mem_cons_self ..)
      · exact h2 _ (List.mem_cons_of_mem _ e)
    omega
theorem lmin_is {ns : List Int} {m : Int} (h1 : m ∈ ns) (h2 : ∀ y ∈ ns, m ≤ y) : m = lmin ns := by
  cases ns with
  | nil => cases h1
  | cons n ns =>
    obtain ⟨a, b⟩ := foldl_min_le ns n
    show m = ns.foldl min n
    have up : ns.foldl min n ≤ m := by
      rcases List.mem_cons.mp h1 with e | e
      · rw [e]; exact a
      · exact b m e
    have lo : m ≤ ns.foldl min n := by
      rcases foldl_min_mem ns n with e | e
      · rw [e]; exact h2 n (List.mem_cons_self ..)
      · exact h2 _ (List.mem_cons_of_mem _ e)
    omega
def bMax1 : List D → Option D
  | [d] => (lInts d).bind fun ns => if 0 < ns.length then some (.int (lmax ns)) else none
  | _ => none
def bMin1 : List D → Option D
  | [d] => (lInts d).bind fun ns => if 0 < ns.length then some (.int (lmin ns)) else none
  | _ => none
theorem c_max1 : SC K (rMax K) bMax1 := fun S H xs ds z m hx h Q q => by
  unfold bMax1 at h
  split at h
  · obtain ⟨ns, hn, h⟩ := Option.bind_eq_some_iff.mp h
    split at h
    · rename_i hl
      cases h
      cases hx with | cons a b => ?_
      cases b
      obtain ⟨p, rfl, hp⟩ := lInts_ok a m hn
      exact ⟨p, ns, rfl, hp, hl, fun k h1 h2 => by rw [lmax_is h1 h2]; exact q S H _ (.refl m) (.int _)⟩
    · cases h
  · cases h
theorem c_min1 : SC K (rMin K) bMin1 := fun S H xs ds z m hx h Q q => by
  unfold bMin1 at h
  split at h
  · obtain ⟨ns, hn, h⟩ := Option.bind_eq_some_iff.mp h
    split at h
    · rename_i hl
      cases h
      cases hx with | cons a b => ?_
      cases b
      obtain ⟨p, rfl, hp⟩ := lInts_ok a m hn
      exact ⟨p, ns, rfl, hp, hl, fun k h1 h2 => by rw [lmin_is h1 h2]; exact q S H _ (.refl m) (.int _)⟩
    · cases h
  · cases h
def bAll : List D → Option D
  | [.lst ds] => (bls ds).map fun bs => .bl (bs.all id)
  | _ => none
def bAny : List D → Option D
  | [.lst ds] => (bls ds).map fun bs => .bl (bs.any id)
  | _ => none
theorem c_all : SC K (rAll K) bAll := fun S H xs ds z m hx h Q q => by
  unfold bAll at h
  split at h
  · obtain ⟨bs, hn, rfl⟩ := Option.map_eq_some_iff.mp h
    cases hx with | cons a b => ?_
    cases b
    obtain ⟨p, us, rfl, h1, h2⟩ := a.lst m
    exact ⟨p, bs, rfl, by rw [← h2.bls hn]; exact SqL.of h1, q S H _ (.refl m) (.bl _)⟩
  · cases h
theorem c_any : SC K (rAny K) bAny := fun S H xs ds z m hx h Q q => by
  unfold bAny at h
  split at h
  · obtain ⟨bs, hn, rfl⟩ := Option.map_eq_some_iff.mp h
    cases hx with | cons a b => ?_
    cases b
    obtain ⟨p, us, rfl, h1, h2⟩ := a.lst m
    exact ⟨p, bs, rfl, by rw [← h2.bls hn]; exact SqL.of h1, q S H _ (.refl m) (.bl _)⟩
  · cases h
def bList : List D → Option (List D)
  | [d] => dItems d
  | _ => none
theorem cf_list : SCF K (PB.mList K) bList := fun S H xs ds z m hx h Q q => by
  unfold bList at h
  split at h
  · rename_i d
    cases hx with | cons a b => ?_
    cases b
    have fin : ∀ (us : List V), DvA K S us z → ∀ l, H l = none → Q (.ref l) (upd H l (.lst us)) := fun us hu l hl => q _ l us hl (Grow.fresh m hl) upd_same hu
    cases d with
    | lst es => cases h; obtain ⟨p, us, rfl, h1, h2⟩ := a.lst m; exact ⟨us, .inl (SqL.of h1), fin us h2⟩
    | fro es => cases h; obtain ⟨p, us, rfl, h1, h2⟩ := a.fro m; exact ⟨us, .inl h1, fin us h2⟩
    | tup es => cases h; obtain ⟨p, us, rfl, h1, _, h2⟩ := a.tup m; exact ⟨us, .inr (SqT.of h1), fin us h2⟩
    | _ => cases h
  · cases h
def bTup : List D → Option D
  | [.tup ds] => some (.tup ds)
  | [.lst ds] => some (.tup ds)
  | _ => none
theorem c_tup : SC K (PB.mTup K) bTup := fun S H xs ds z m hx h Q q => by
  unfold bTup at h
  split at h
  · cases h
    cases hx with | cons a b => ?_
    cases b
    obtain ⟨p, us, rfl, h1, h1', h2⟩ := a.tup m
    exact ⟨us, .inr ⟨SqT.of h1, q S H _ (.refl m) (.tup h1' h2)⟩⟩
  · cases h
    cases hx with | cons a b => ?_
    cases b
    obtain ⟨p, us, rfl, h1, h2⟩ := a.lst m
    refine ⟨us, .inl ⟨SqL.of h1, fun l hl => ?_⟩⟩
    have g : Grow S H _ _ := Grow.new (o := .tup us) m hl
    exact q _ _ _ g (.tup upd_same (h2.mono g.s))
  · cases h
def tyn : D → Option String
  | .non => some "NoneType"
  | .bl _ => some "bool"
  | .int _ => some "int"
  | .str _ => some "str"
  | .lst _ => some "list"
  | .tup _ => some "tuple"
  | .fro _ => none
def isi (n : String) (d : D) : Option D := (tyn d).bind fun t => (kitB t n).map .bl
def dIsi (n : String) (a : DS → Option D) : DS → Option D := fun δ => (a δ).bind (isi n)
theorem s_isi {n : String} (ha : SV K ta fa) : SE K (tCB (rIsi K) (tCons ta (tCons (tC (.ty n)) tNil))) (dIsi n fa) := fun S0 H0 S H σ δ z R e Q q => by
  obtain ⟨d, ed, e⟩ := Option.bind_eq_some_iff.mp e
  obtain ⟨t, et, e⟩ := Option.bind_eq_some_iff.mp e
  obtain ⟨b, eb, rfl⟩ := Option.map_eq_some_iff.mp e
  refine ha S0 H0 S H σ δ d R ed _ fun S1 H1 v g1 d1 => ?_
  have m := g1.m
  refine ⟨v, .ty n, .type t, .type n, b, rfl, .ty n, .base ?_, kit_ty eb, q S1 H1 _ g1 (.bl _)⟩
  cases d with
  | non => cases et; cases d1.non; exact .non
  | bl _ => cases et; cases d1.bl; exact .bl _
  | int _ => cases et; cases d1.int; exact .int _
  | str _ => cases et; cases d1.str; exact .str _
  | lst es => cases et; obtain ⟨p, us, rfl, h1, h2⟩ := d1.lst m; exact .lst h1
  | tup es => cases et; obtain ⟨p, us, rfl, h1, _, h2⟩ := d1.tup m; exact .tup h1
  | fro _ => cases et
def dYes : DS → Option Bool := fun _ => some true
theorem t_yes : ST K tYes dYes := fun S0 H0 S H σ δ r R e Q q => by cases e; exact q S H (.refl R.g.m)
/-! ### slices -/
def dPart (a : DS → Option D) : DS → Option (Option Int) := fun δ => match a δ with
  | some (.int i) => some (some i)
  | _ => none
def dNoPart : DS → Option (Option Int) := fun _ => some none
theorem o_none : SO K tNoPart dNoPart := fun S0 H0 S H σ δ r R e Q q => by cases e; exact q S H (.refl R.g.m)
theorem o_part (ha : SV K ta fa) : SO K (PB.mPart ta) (dPart fa) := fun S0 H0 S H σ δ r R e Q q => by
  unfold dPart at e
  split at e
  · rename_i i ei
    cases e
    refine ha S0 H0 S H σ δ _ R ei _ fun S1 H1 v g1 d1 => ?_
    cases d1.int
    exact q S1 H1 g1
  · cases e
def cut (ds : List D) (lo hi : Option Int) : List D := (ds.drop (HT.sIx ds.length 0 lo)).take (HT.sIx ds.length ds.length hi - HT.sIx ds.length 0 lo)
theorem DvA.cut {S : Hp} {vs : List V} {ds : List D} (h : DvA K S vs ds) (lo hi : Option Int) : DvA K S (cutV vs lo hi) (PV.cut ds lo hi) := by
  unfold cutV PV.cut
  rw [h.len]
  exact h.drop.take
def lItems : D → Option (List D)
  | .lst ds => some ds
  | .fro ds => some ds
  | _ => none
def fSl (a : DS → Option D) (lo hi : DS → Option (Option Int)) : DS → Option (List D) := fun δ => (a δ).bind fun d => (lo δ).bind fun l => (hi δ).bind fun u => (lItems d).map fun ds => cut ds l u
theorem f_sl {tlo thi : TO} {lo hi : DS → Option (Option Int)} (ha : SV K ta fa) (hl : SO K tlo lo) (hh : SO K thi hi) : SF K (tSl (PB.mSl K) ta tlo thi) (fSl fa lo hi) := fun S0 H0 S H σ δ r R e Q q => by
  obtain ⟨d, ed, e⟩ := Option.bind_eq_some_iff.mp e
  obtain ⟨l, el, e⟩ := Option.bind_eq_some_iff.mp e
  obtain ⟨u, eu, e⟩ := Option.bind_eq_some_iff.mp e
  obtain ⟨ds, es, rfl⟩ := Option.map_eq_some_iff.mp e
  refine ha S0 H0 S H σ δ d R ed _ fun S1 H1 v g1 d1 => ?_
  refine hl S0 H0 S1 H1 σ δ l (R.grow g1) el _ fun S2 H2 g2 => ?_
  refine hh S0 H0 S2 H2 σ δ u (R.grow (g1.trans g2)) eu _ fun S3 H3 g3 => ?_
  have g := (g1.trans g2).trans g3
  have d3 := d1.grow (g2.trans g3)
  have fin : ∀ (us : List V), DvA K S3 us ds → ∀ p, H3 p = none → Q (.ref p) (upd H3 p (.lst (cutV us l u))) := fun us hu p hp => q S3 _ p _ (Ext.none g.h hp) (g.trans (Grow.fresh g.m hp)) upd_same (Ext.none g.m hp) (hu.cut l u)
  cases d with
  | lst _ => cases es; obtain ⟨p, us, rfl, h1, h2⟩ := d3.lst g.m; exact .inl ⟨p, us, rfl, SqL.of h1, fin us h2⟩
  | fro _ => cases es; obtain ⟨p, us, rfl, h1, h2⟩ := d3.fro g.m; exact .inl ⟨p, us, rfl, h1, fin us h2⟩
  | _ => cases es
/-! ### more of lists that are changed in place -/
def sItems : D → Option (List D)
  | .lst ds => some ds
  | .tup ds => some ds
  | _ => none
def dExt (i : Nat) (a : DS → Option D) : DS → Option Out := fun δ => (onOwn i δ).bind fun ds => (a δ).bind fun d => (sItems d).bind fun es => if ds.length + es.length ≤ most then some (.nx (δ.set i (some (.own (ds ++ es))))) else none
theorem s_ext {i : Nat} (ha : SV K te fe) : SS K (tDrop (PB.mLM (rExtV K) (PB.mVar i) (tCons te tNil))) (dExt i fe) := fun S0 H0 S H σ δ o R e E q => by
  obtain ⟨ds, ed, e⟩ := Option.bind_eq_some_iff.mp e
  obtain ⟨d, ex, e⟩ := Option.bind_eq_some_iff.mp e
  obtain ⟨es, ee, e⟩ := Option.bind_eq_some_iff.mp e
  split at e
  · rename_i hm
    cases e
    have hi := onOwn_is ed
    obtain ⟨p, us, h1, h2, h3, h4, h5⟩ := R.o i ds hi
    show PB.mLM (rExtV K) (PB.mVar i) (tCons te tNil) σ H _
    unfold PB.mLM
    refine PB.p_var h1 _ ?_
    simp only [h2]
    refine ha S0 H0 S H σ δ d R ex _ fun S1 H1 v g1 d1 => ?_
    have R1 := R.grow g1
    have h2' := g1.h _ _ h2
    show rExtV K (.ref p) [v] H1 (fun _ H2 => E.nx σ H2)
    have fin : ∀ ws, DvA K S1 ws es → us.length + ws.length ≤ sizeLine ∧ E.nx σ (upd H1 p (.lst (us ++ ws))) := fun ws hw => ⟨by rw [h5.len, hw.len]; exact most_le hm, q S1 _ σ g1.s (R1.put hi h1 ((h5.mono g1.s).app hw))⟩
    cases d with
    | lst _ => cases ee; obtain ⟨b, ws, rfl, k1, k2⟩ := d1.lst g1.m; exact ⟨p, b, us, ws, rfl, rfl, h2', .inl k1, fin ws k2⟩
    | tup _ => cases ee; obtain ⟨b, ws, rfl, k1, _, k2⟩ := d1.tup g1.m; exact ⟨p, b, us, ws, rfl, rfl, h2', .inr k1, fin ws k2⟩
    | _ => cases ee
  · cases e
/-- target = x.pop() -/
def dPop (i : Nat) (gf : D → DS → Option DS) : DS → Option Out := fun δ => (onOwn i δ).bind fun ds => (ds[ds.length - 1]?).bind fun d => (gf d (δ.set i (some (.own ds.dropLast)))).map .nx
theorem DvA.dropLast {S : Hp} {vs : List V} {ds : List D} (h : DvA K S vs ds) : DvA K S vs.dropLast ds.dropLast := by
  rw [List.dropLast_eq_take, List.dropLast_eq_take, h.len]
  exact h.take
theorem s_pop {i : Nat} {g : TG} {gf : D → DS → Option DS} {vs : List Nat} (hg : SG K vs g gf) : SS K (tAsg (PB.mLM rPop (PB.mVar i) tNil) g) (dPop i gf) := fun S0 H0 S H σ δ o R e E q => by
  obtain ⟨ds, ed, e⟩ := Option.bind_eq_some_iff.mp e
  obtain ⟨d, ex, e⟩ := Option.bind_eq_some_iff.mp e
  obtain ⟨δ1, e1, rfl⟩ := Option.map_eq_some_iff.mp e
  have hi := onOwn_is ed
  obtain ⟨p, us, h1, h2, h3, h4, h5⟩ := R.o i ds hi
  show PB.mLM rPop (PB.mVar i) tNil σ H _
  unfold PB.mLM
  refine PB.p_var h1 _ ?_
  simp only [h2]
  obtain ⟨v, hv, dv⟩ := h5.get ex
  rw [← h5.len] at hv
  refine ⟨p, us, v, rfl, rfl, h2, hv, ?_⟩
  exact hg S0 H0 S _ σ _ v d δ1 (R.put hi h1 h5.dropLast) dv e1 _ fun σ1 R1 _ => q S _ σ1 (PB.Ext.refl _) R1
def dAugI (i : Nat) (b a : DS → Option D) (op : Int → Int → Int) : DS → Option Out := fun δ => (onOwn i δ).bind fun ds => match b δ with
  | some (.int k) => match ixN ds.length k with
    | some j => match ds[j]? with
      | some (.int x) => match a δ with
        | some (.int y) => some (.nx (δ.set i (some (.own (ds.set j (.int (op x y)))))))
        | _ => none
      | _ => none
    | none => none
  | _ => none
theorem s_augI {i : Nat} {op : Int → Int → Int} (hb : SV K tb fb) (ha : SV K te fe) : SS K (tAugS (PB.mVar i) tb te (rIxL K) (ipI op) PB.mSet) (dAugI i fb fe op) := fun S0 H0 S H σ δ o R e E q => by
  obtain ⟨ds, ed, e⟩ := Option.bind_eq_some_iff.mp e
  split at e
  · rename_i k ek
    split at e
    · rename_i j ej
      split at e
      · rename_i x hx
        split at e
        · rename_i y hy
          cases e
          have hi := onOwn_is ed
          obtain ⟨p, us, h1, h2, h3, h4, h5⟩ := R.o i ds hi
          refine PB.p_var h1 _ ?_
          refine hb S0 H0 S H σ δ _ R ek _ fun S1 H1 w g1 d1 => ?_
          cases d1.int
          have h2' := g1.h _ _ h2
          obtain ⟨v, hv, dv⟩ := h5.get hx
          cases dv
          have at_ : atI us k = some (.int x) := by unfold atI; rw [h5.len, ej]; exact hv
          refine ⟨p, us, k, .int x, rfl, rfl, SqL.of h2', at_, ?_⟩
          refine ha S0 H0 S1 H1 σ δ _ (R.grow g1) hy _ fun S2 H2 u g2 d2 => ?_
          cases d2.int
          refine ⟨x, y, rfl, rfl, ?_⟩
          have h2'' := g2.h _ _ h2'
          have g := g1.trans g2
          show PB.mSet (.ref p) (.int k) (.int (op x y)) H2 _
          unfold PB.mSet
          simp only [h2'', h5.len, ej]
          exact q S2 _ σ g.s ((R.grow g).put hi h1 ((h5.mono g.s).set (.int _)))
        · cases e
      · cases e
    · cases e
  · cases e
end
/-! ### defs -/
def startD (N : Nat) (ds : List D) : DS := ds.map (fun d => some (.dat d)) ++ List.replicate (N - ds.length) none
def fin : Option Out → Option D
  | some (.rt r) => some r
  | some (.nx _) => some .non
  | _ => none
def run (N n : Nat) (f : DS → Option Out) (ds : List D) : Option D := if ds.length = n then fin (f (startD N ds)) else none
theorem DvA.start {K : PySem.W.Frag} {S : Hp} {vs : List V} {ds : List D} (h : DvA K S vs ds) (i : Nat) (d : D) (n : Nat) (e : (ds.map (fun d => some (DV.dat d)) ++ List.replicate n none)[i]? = some (some (.dat d))) :
    ∃ v, (vs.map some ++ List.replicate n none)[i]? = some (some v) ∧ Dv K S v d := by
  by_cases c : i < ds.length
  · rw [List.getElem?_append_left (by rw [List.length_map]; exact c), List.getElem?_map] at e
    obtain ⟨d', hd, e⟩ := Option.map_eq_some_iff.mp e
    cases e
    obtain ⟨v, hv, dv⟩ := h.get hd
    exact ⟨v, by rw [List.getElem?_append_left (by rw [List.length_map, h.len]; exact c), List.getElem?_map, hv]; rfl, dv⟩
  · rw [List.getElem?_append_right (by rw [List.length_map]; omega)] at e
    have := List.mem_of_getElem? e
    rw [List.mem_replicate] at this
    cases this.2
theorem startD_own {N : Nat} {ds : List D} {i : Nat} {es : List D} (e : (startD N ds)[i]? = some (some (DV.own es))) : False := by
  have := List.mem_of_getElem? e
  unfold startD at this
  rcases List.mem_append.mp this with h | h
  · obtain ⟨d, _, h⟩ := List.mem_map.mp h
    cases h
  · cases (List.mem_replicate.mp h).2
theorem len_run {K : PySem.W.Frag} {N n : Nat} {f : DS → Option Out} : PB.Len n (spV K (run N n f)) := fun vs H Q E ⟨S, ds, r, _, h, e, _⟩ => by
  unfold run at e
  split at e
  · rename_i hl; rw [h.len, hl]
  · cases e
theorem pure_run {K : PySem.W.Frag} {N : List Str} {M n : Nat} {t : TS} {f : DS → Option Out} (hN : N.length = M) (h : SS K t f) : PB.Pure N (spV K (run M n f)) t := fun vs H Q E ⟨S, ds, r, x, hd, e, q⟩ => by
  subst hN
  unfold run fin at e
  split at e
  · have R : Rel K S H S H (start N vs) (startD N.length ds) := by
      refine ⟨.refl x, ?_, fun i d hi => ?_, fun i es hi => (startD_own hi).elim, fun i j es _ _ hi => (startD_own hi).elim⟩
      · unfold L2.start startD; rw [List.length_append, List.length_append, List.length_map, List.length_map, List.length_replicate, List.length_replicate, hd.len]
      · unfold L2.start
        unfold startD at hi
        rw [hd.len]
        exact hd.start i d _ hi
    split at e
    · rename_i z hz
      cases e
      exact h S H S H _ _ _ R hz _ fun S' H' v x' g d => q S' H' v g d
    · rename_i z hz
      cases e
      exact h S H S H _ _ _ R hz _ fun S' H' σ' x' R' => q S' H' _ R'.g .non
    · cases e
  · cases e
theorem cal_rec {P : Program} {w : World} {K : PySem.W.Frag} {mg : Str → Option Value} {base : Heap} {x : Str} {st : Stmt} {N ps : List Str} {L : Nat} {sp : Nat → Sp} {t : Nat → TS} (F : ∃ fd, PB.FnP K x x st (He.ga K x) fd) (g : mg x = some (.ref (He.ga K x))) (S : FnScope N ps (defScope st))
    (z : ∀ vs H Q E, ¬ sp 0 vs H Q E) (len : ∀ n, PB.Len ps.length (sp n)) (hb : PB.BindOk x x st ps) (b : ∀ n, Cal P w K mg base (L + n) x (sp n) [] → PB.Body P w K mg base (L + n) N x st (t n)) (p : ∀ n, PB.Pure N (sp (n + 1)) (t n)) :
    ∀ n, Cal P w K mg base (L + n) x (sp n) []
  | 0 => by
    obtain ⟨fd, F⟩ := F
    exact ⟨_, fd, ps, [], ⟨len 0, fun A outer s H args us vs Q E hr he hb' hv hs => (z _ _ _ _ hs).elim⟩, g, F.kp, F.bindsN hb, .nil⟩
  | n + 1 => PB.cal_ok F g S (len (n + 1)) hb (b n (cal_rec F g S z len hb b p n)) (p n)
end PV

set_option maxRecDepth 100000
set_option autoImplicit false
set_option maxHeartbeats 4000000
/-! ### zip of a tuple and a list, enumerate of a tuple -/
namespace PV
open PySem PySem.Spec PyProof.Rows L2
open PB (Ext)
def ItzM (K : PySem.W.Frag) (a b : Addr) : It :=
  ⟨fun i H => ∃ (xs ys : List V) (x y : V), SqT K H a xs ∧ SqL K H b ys ∧ xs[i]? = some x ∧ ys[i]? = some y,
   fun i H v H' => ∃ T x y, v = .ref T ∧ H T = none ∧ H' = upd H T (.tup [x, y]) ∧ (∀ xs, SqT K H a xs → xs[i]? = some x) ∧ (∀ ys, SqL K H b ys → ys[i]? = some y),
   fun i H => ∃ xs ys : List V, SqT K H a xs ∧ SqL K H b ys ∧ (xs.length = i ∧ i ≤ ys.length ∨ ys.length = i ∧ i ≤ xs.length)⟩
theorem turn_zipM {P : Program} {w : World} {K : PySem.W.Frag} {es : List Expr} {k : Nat} {p0 : Pos} {a b z T1 T2 i1 i2 : Addr} (S : ZipSep2 z T1 T2 i1 i2 [i1, a] [i2, b]) (na : a ≠ i1) (nb : b ≠ i2) :
    Turn P w K (.Tuple es k p0) (ItzM K a b) [z, T1, T2, i1, i2] z (fun i h => IsZip h z T1 T2 .none ∧ IsTupOf2 h T1 (.ref i1) (.ref i2) ∧ (∃ x y, IsTupOf2 h T2 x y) ∧ h.IsTupleIter i1 a i ∧ h.IsListIter i2 b i) where
  mem := by simp
  obj := fun i h st c hc => by
    obtain ⟨q1, q2, ⟨x, y, q3⟩, ⟨o1, e1, _, d1⟩, ⟨o2, e2, _, d2⟩⟩ := st
    have cc : c = z ∨ c = T1 ∨ c = T2 ∨ c = i1 ∨ c = i2 := by simpa using hc
    rcases cc with e | e | e | e | e <;> subst e
    · exact ⟨_, q1, fun v q => nomatch q⟩
    · exact ⟨_, q2, fun v q => nomatch q⟩
    · exact ⟨_, q3, fun v q => nomatch q⟩
    · exact ⟨o1, e1, fun v q => by rw [d1] at q; cases q⟩
    · exact ⟨o2, e2, fun v q => by rw [d2] at q; cases q⟩
  keep := fun i h h' st kp => by
    obtain ⟨q1, q2, ⟨x, y, q3⟩, q4, q5⟩ := st
    exact ⟨kp z (by simp) _ q1, kp T1 (by simp) _ q2, ⟨x, y, kp T2 (by simp) _ q3⟩, q4.at fun o q => kp i1 (by simp) o q, q5.at fun o q => kp i2 (by simp) o q⟩
  item := by
    intro X hP hw hK hc i pins s σ H E I fpo st hg
    subst hP hw hK
    obtain ⟨q1, q2, ⟨x0, y0, q3⟩, q4, q5⟩ := st
    obtain ⟨xs, ys, x, y, sx, sy, gx, gy⟩ := hg
    obtain ⟨us, ru, pu, _⟩ := I.tuple sx
    obtain ⟨vs, rv, pv, _⟩ := I.list sy
    obtain ⟨u, hu, cu⟩ := ru.get gx
    obtain ⟨v, hv, cv⟩ := rv.get gy
    have zl : z < s.heap.objs.size := Heap.lt_size q1
    have hn : X.A.in1.handled = none := I.ok.hd hc
    refine wpAny_pyNext_zipD2_item S (Draws.tuple hn i1 a na us.toArray) (Draws.list hn i2 b nb vs.toArray) q1 q2 q3 ⟨q4, pu⟩ ⟨q5, pv.isList⟩ (i := i) (by have := (List.getElem?_eq_some_iff.mp hu).1; simpa using this) (by have := (List.getElem?_eq_some_iff.mp hv).1; simpa using this) fun x1 x2 h1 tk e1 e2 z1 t1 s1 s2 tt sz kp => ?_
    have eu : x1 = u := by
      have : us[i]? = some x1 := by simpa using e1
      rw [hu] at this; exact (Option.some.inj this).symm
    have ev : x2 = v := by
      have : vs[i]? = some x2 := by simpa using e2
      rw [hv] at this; exact (Option.some.inj this).symm
    subst eu ev
    refine ⟨_, rfl, wpAny_letOwnedTupleGo_zip (s := { s with heap := h1, toks := tk }) z1 fun h2 z2 sb => ?_⟩
    have tt2 : IsTupOf2 h2 s.heap.objs.size x1 x2 := (sb.2 _ (Nat.ne_of_gt zl)).trans tt
    have nw : ObjOk X.prog X.w (upd H s.heap.objs.size (.tup [x, y])) h2 s.heap.objs.size (.tup [x, y]) := ⟨by show 2 ≤ sizeLine; decide, [x1, x2], .cons cu (.cons cv .nil), ⟨_, tt2, rfl, _, rfl⟩⟩
    have J : Inv X pins σ (upd H s.heap.objs.size (.tup [x, y])) { s with heap := h2, toks := tk } := I.turnedNew (t' := tk) (ch := [z, T1, T2, i1, i2])
      (fun c o nc q => (sb.2 c fun e => nc (by simp [e])).trans (kp c o (fun e => nc (by simp [e])) (fun e => nc (by simp [e])) (fun e => nc (by simp [e])) (fun e => nc (by simp [e])) q)) fpo (Nat.le_refl _) nw
    refine ⟨.ref s.heap.objs.size, _, J, rfl, ⟨_, x, y, rfl, I.hok.fresh (Nat.le_refl _), rfl, fun l hl => by rw [I.tuple_inj hl sx]; exact gx, fun l hl => by rw [I.list_inj hl sy]; exact gy⟩, ⟨z2, ?_, ⟨x1, x2, ?_⟩, ?_, ?_⟩, fun c hc => ?_⟩
    · exact (sb.2 _ S.TIz).trans (kp _ _ S.TIz S.TITO S.TIi1 S.TIi2 q2)
    · exact (sb.2 _ S.TOz).trans t1
    · exact s1.1.at fun o q => (sb.2 _ S.zi1.symm).trans q
    · exact s2.1.at fun o q => (sb.2 _ S.zi2.symm).trans q
    · have lt : c < s.heap.objs.size := by
        have cc : c = z ∨ c = T1 ∨ c = T2 ∨ c = i1 ∨ c = i2 := by simpa using hc
        rcases cc with e | e | e | e | e <;> subst e
        · exact zl
        · exact Heap.lt_size q2
        · exact Heap.lt_size q3
        · obtain ⟨_, e1, _⟩ := q4; exact Heap.lt_size e1
        · obtain ⟨_, e2, _⟩ := q5; exact Heap.lt_size e2
      rw [upd_ne (Nat.ne_of_lt lt)]
      exact (fpo c hc).1
  done := by
    intro X hP hw hK hc i pins s σ H E I fpo st hg
    subst hP hw hK
    obtain ⟨q1, q2, ⟨x0, y0, q3⟩, q4, q5⟩ := st
    obtain ⟨xs, ys, sx, sy, fin⟩ := hg
    obtain ⟨us, ru, pu, _⟩ := I.tuple sx
    obtain ⟨vs, rv, pv, _⟩ := I.list sy
    have lu := ru.length
    have lv := rv.length
    have hn : X.A.in1.handled = none := I.ok.hd hc
    refine wpAny_pyNext_zipD2_end S (Draws.tuple hn i1 a na us.toArray) (Draws.list hn i2 b nb vs.toArray) q1 q2 q3 ⟨q4, pu⟩ ⟨q5, pv.isList⟩ (i := i) (by simp; omega) (by simp; omega) (by simp; omega) fun h1 tk kp => ⟨rfl, I.turnedL (t' := tk) (ch := [z, T1, T2, i1, i2])
      (fun c o nc q => kp c o (fun e => nc (by simp [e])) (fun e => nc (by simp [e])) (fun e => nc (by simp [e])) (fun e => nc (by simp [e])) q) fpo⟩
  self := fun A i s Q E st h => wpAny_pyIter_zip st.1 h
/-- zip of two lists, of a tuple and a list -/
def iZp (K : PySem.W.Frag) (ta : TA) : TI := fun σ H R => ta σ H fun vs H1 => ∃ a b xs ys, vs = [.ref a, .ref b] ∧ ((SqL K H1 a xs ∧ SqL K H1 b ys ∧ R (Itz K a b) H1) ∨ (SqT K H1 a xs ∧ SqL K H1 b ys ∧ R (ItzM K a b) H1))
theorem pi_zp {X : Cx} {e e2 : Expr} {ta : TA} {p pos p0 : Pos} {es : List Expr} {k : Nat} (hg : Gl X "zip") (hm : X.mg "zip" = none) (ha : PA X [e, e2] ta)
    (hs : starEach [e, e2] X.env = (false, eval e X.env) :: starEach [e2] X.env := by rfl) (hpl : (backTo pos (starEach [e2] X.env)).any (·.1) = false := by rfl) : PI X (.Tuple es k p0) (.Call (.Name "zip" p) [e, e2] [] pos) (iZp X.K ta) := by
  refine ⟨fun pins s σ H R I h => Call_ (ld_blt I hg hm PyProof.Rows.boot_zip (PyProof.Rows.callWith_type1 (thn (ha.run pos pins s σ H _ I h) fun us s1 ⟨vs, H1, I1, r1, q1⟩ => ?_) hs hpl))⟩
  obtain ⟨a, b, xs, ys, ex, q⟩ := q1
  subst ex
  cases r1 with | cons r rr => ?_
  cases rr with | cons r' rr => ?_
  cases rr; cases r; cases r'
  generalize hN : s1.heap.objs.size = N
  have five : ∀ c, c ∈ [N + 4, N + 2, N + 3, N, N + 1] → FpOk X pins H1 c := fun c hc => by
    have cc : c = N + 4 ∨ c = N + 2 ∨ c = N + 3 ∨ c = N ∨ c = N + 1 := by simpa using hc
    have le : s1.heap.objs.size ≤ c := by rw [hN]; rcases cc with e | e | e | e | e <;> subst e <;> first | exact Nat.le_refl _ | exact Nat.le_add_right _ _
    exact I1.fpOk le (I1.hok.fresh le)
  rcases q with ⟨sx, sy, q⟩ | ⟨sx, sy, q⟩
  · obtain ⟨us, ru, pu, _⟩ := I1.list sx
    obtain ⟨vs, rv, pv, _⟩ := I1.list sy
    refine call_zip_2 pu.isList pv.isList fun h1 z1 t1 t2 w1 w2 sz kp => wpAny_pyIter_zip z1 ?_
    rw [hN] at z1 t1 t2 w1 w2 ⊢
    exact ⟨N + 4, [N + 4, N + 2, N + 3, N, N + 1], _, _, H1, rfl, I1.kept (t' := s1.toks) kp, turn_zip (PySem.W.ktu_apart N a b (by rw [← hN]; exact pu.lt) (by rw [← hN]; exact pv.lt)), ⟨z1, t1, ⟨_, _, t2⟩, w1, w2⟩, five, q⟩
  · obtain ⟨us, ru, pu, _⟩ := I1.tuple sx
    obtain ⟨vs, rv, pv, _⟩ := I1.list sy
    obtain ⟨oa, ea, _⟩ := id pu
    have la : a < N := by rw [← hN]; exact Heap.lt_size ea
    have lb : b < N := by rw [← hN]; exact pv.lt
    refine zip_begins2 (begins_tuple a us.toArray) (begins_list b vs.toArray) pu pv.isList fun h1 z1 t1 t2 w1 w2 sz kp => wpAny_pyIter_zip z1 ?_
    rw [hN] at z1 t1 t2 w1 w2 ⊢
    refine ⟨N + 4, [N + 4, N + 2, N + 3, N, N + 1], _, _, H1, rfl, I1.kept (t' := s1.toks) kp, turn_zipM (zip_sep2 (N := N) (fp1 := [a]) (fp2 := [b]) (fun c hc => ?_) fun c hc => ?_) (Nat.ne_of_lt la) (Nat.ne_of_lt (Nat.lt_succ_of_lt lb)), ⟨z1, t1, ⟨_, _, t2⟩, ⟨_, w1, rfl, rfl⟩, ⟨_, w2, rfl, rfl⟩⟩, five, q⟩
    · rw [List.mem_singleton.mp hc]; exact la
    · rw [List.mem_singleton.mp hc]; exact lb
def dZp : List D → Option (List D)
  | [.lst xs, .lst ys] => some (xs.zipWith (fun x y => D.tup [x, y]) ys)
  | [.tup xs, .lst ys] => if xs.length = ys.length then some (xs.zipWith (fun x y => D.tup [x, y]) ys) else none
  | _ => none
theorem i_zp {K : PySem.W.Frag} {tl : TA} {fl : DS → Option (List D)} (hl : SA K tl fl) : SI K (iZp K tl) (iBy dZp fl) := fun S0 H0 S H σ δ ds R e Q q => by
  obtain ⟨zs, el, e⟩ := Option.bind_eq_some_iff.mp e
  have it : ∀ (xs ys : List D) (us ws : List V) (S1 S' H' : Hp) (i : Nat), DvA K S1 us xs → DvA K S1 ws ys → Ext S1 S' → Ext S' H' → ∀ d, (xs.zipWith (fun x y => D.tup [x, y]) ys)[i]? = some d →
      ∃ v w, us[i]? = some v ∧ ws[i]? = some w ∧ ∀ T, H' T = none → ∃ S2, Grow S' H' S2 (upd H' T (.tup [v, w])) ∧ Dv K S2 (.ref T) d := fun xs ys us ws S1 S' H' i h2 k2 x m d hd => by
    rw [List.getElem?_zipWith] at hd
    cases hx : xs[i]? with
    | none => rw [hx] at hd; cases hd
    | some x0 =>
      cases hy : ys[i]? with
      | none => rw [hx, hy] at hd; cases hd
      | some y0 =>
        rw [hx, hy] at hd
        cases hd
        obtain ⟨v, hv, dv⟩ := h2.get hx
        obtain ⟨w, hw, dw⟩ := k2.get hy
        refine ⟨v, w, hv, hw, fun T hT => ?_⟩
        have g : Grow S' H' _ _ := Grow.new (o := .tup [v, w]) m hT
        exact ⟨_, g, .tup upd_same (.cons (dv.mono (x.trans g.s)) (.cons (dw.mono (x.trans g.s)) .nil))⟩
  refine hl S0 H0 S H σ δ zs R el _ fun S1 H1 vs g1 d1 => ?_
  unfold dZp at e
  split at e
  · rename_i xs ys
    cases e
    cases d1 with | cons a b => ?_
    cases b with | cons b c => ?_
    cases c
    cases a with | lst h1 h2 => ?_
    cases b with | lst k1 k2 => ?_
    rename_i a us b ws
    refine ⟨a, b, us, ws, rfl, .inl ⟨SqL.of (g1.m _ _ h1), SqL.of (g1.m _ _ k1), q S1 H1 _ g1 fun S' H' i x m => ?_⟩⟩
    have h1' := SqL.of (K := K) (m _ _ (x _ _ h1))
    have k1' := SqL.of (K := K) (m _ _ (x _ _ k1))
    refine ⟨fun d hd => ?_, fun e => ⟨us, ws, h1', k1', ?_⟩⟩
    · obtain ⟨v, w, hv, hw, f⟩ := it xs ys us ws S1 S' H' i h2 k2 x m d hd
      refine ⟨⟨us, ws, v, w, h1', k1', hv, hw⟩, fun z H2 ⟨T, y1, y2, e1, e2, e3, e4, e5⟩ => ?_⟩
      subst e1 e3
      have e6 := e4 us h1'
      have e7 := e5 ws k1'
      rw [hv] at e6
      rw [hw] at e7
      cases e6; cases e7
      exact f T e2
    · rw [List.length_zipWith] at e
      rw [h2.len, k2.len]; omega
  · rename_i xs ys
    split at e
    · rename_i hlen
      cases e
      cases d1 with | cons a b => ?_
      cases b with | cons b c => ?_
      cases c
      cases a with | tup h1 h2 => ?_
      cases b with | lst k1 k2 => ?_
      rename_i a us b ws
      refine ⟨a, b, us, ws, rfl, .inr ⟨SqT.of (g1.m _ _ h1), SqL.of (g1.m _ _ k1), q S1 H1 _ g1 fun S' H' i x m => ?_⟩⟩
      have h1' := SqT.of (K := K) (m _ _ (x _ _ h1))
      have k1' := SqL.of (K := K) (m _ _ (x _ _ k1))
      refine ⟨fun d hd => ?_, fun e => ⟨us, ws, h1', k1', ?_⟩⟩
      · obtain ⟨v, w, hv, hw, f⟩ := it xs ys us ws S1 S' H' i h2 k2 x m d hd
        refine ⟨⟨us, ws, v, w, h1', k1', hv, hw⟩, fun z H2 ⟨T, y1, y2, e1, e2, e3, e4, e5⟩ => ?_⟩
        subst e1 e3
        have e6 := e4 us h1'
        have e7 := e5 ws k1'
        rw [hv] at e6
        rw [hw] at e7
        cases e6; cases e7
        exact f T e2
      · rw [List.length_zipWith] at e
        rw [h2.len, k2.len]; omega
    · cases e
  · cases e
end PV

set_option maxRecDepth 100000
set_option autoImplicit false
set_option maxHeartbeats 4000000
/-! ### enumerate of a tuple -/
namespace PV
open PySem PySem.Spec PyProof.Rows L2
open PB (Ext)
/-- the new enumerate over an iterator -/
abbrev enO (a : Addr) : Obj :=
  { cls := .type "enumerate",
    data := .fields #[.none, .bool false, .ref a, rawInt 0, .none, .none] }
abbrev enH (hp : Heap) (o : Obj) : Heap := (hp.push o).push (enO hp.objs.size)
theorem en_meets {v : Value} {o : Obj} {H : Heap → Prop} (B : Begins v o H) : Meets (Builtin.«enumerate.__new__» ⟨[.type "enumerate", v], []⟩)
      (fun _ R s => H s.heap ∧ R (.ok (.ret (.ref (s.heap.push o).objs.size))) { s with heap := enH s.heap o }) := by
  refine .of_wp fun prog w A R s => ?_
  rintro ⟨h1, h⟩
  obtain ⟨hp, g, d, tk, os⟩ := s
  have sb := sub_enumerate
  have q1 : ∀ {A' : Around} {E Q : Value → Shared → Prop}, Q (.ref hp.objs.size) ⟨hp.push o, g, d, tk, os⟩ → wpAny (model prog w) A' (pyIter v) Q E ⟨hp, g, d, tk, os⟩ := fun {A' E Q} q =>
    B.iter prog w _ _ ⟨hp, g, d, tk, os⟩ _ h1 q
  wp_walk using q1
  apply wpAny_stack_any; intro st; apply wpAny_pure
  split <;> (try rename_i c _ _ _ _ _; cases (c == Value.type "enumerate")) <;> (wp_walk using q1; exact ⟨_, rfl, h⟩)
theorem en_begins {prog : Program} {w : World} {A : Around} {E : Value → Shared → Prop} {s : Shared} {v : Value} {o : Obj} {H : Heap → Prop} {Q : Value → Shared → Prop} (B : Begins v o H) (h1 : H s.heap)
    (h : ∀ h', IsEnum h' (s.heap.objs.size + 1) s.heap.objs.size 0 .none → h'.get? s.heap.objs.size = some o → (∀ b ob, s.heap.get? b = some ob → h'.get? b = some ob) → Q (.ref (s.heap.objs.size + 1)) { s with heap := h' }) :
    wpAny (model prog w) A (call (.type "enumerate") [v]) Q E s := by
  refine callType_new F.called_enumerate (by decide) (F.typeCall_enumerate_1 _) (F.newCall_enumerate_1 _) (fun ob => F.args_object_init_2 ob _) F.entry_enumerate_new (en_meets B) ⟨h1, ?_⟩
  have hz : (s.heap.push o).objs.size = s.heap.objs.size + 1 := Heap.size_push ..
  have he : IsEnum (enH s.heap o) (s.heap.objs.size + 1) s.heap.objs.size 0 .none := by
    have := Heap.get?_push_size (s.heap.push o) (o := enO s.heap.objs.size) rfl
    rwa [hz] at this
  show _ ∧ _
  rw [hz]
  exact ⟨⟨_, he, rfl⟩, h _ he (Heap.get?_push_of_some _ (Heap.get?_push_size _ B.free)) fun b ob x => Heap.get?_push_of_some _ (Heap.get?_push_of_some _ x)⟩
def IteT (K : PySem.W.Frag) (a : Addr) : It :=
  ⟨fun i H => ∃ (xs : List V) (x : V), SqT K H a xs ∧ xs[i]? = some x,
   fun i H v H' => ∃ T x, v = .ref T ∧ H T = none ∧ H' = upd H T (.tup [.int (i : Nat), x]) ∧ ∀ xs, SqT K H a xs → xs[i]? = some x,
   fun i H => ∃ xs : List V, SqT K H a xs ∧ xs.length = i⟩
theorem turn_enumT {P : Program} {w : World} {K : PySem.W.Frag} {es : List Expr} {k : Nat} {p0 : Pos} {a e it : Addr} (ne : e ≠ it) (na : a ≠ it) (ne2 : e ≠ a) :
    Turn P w K (.Tuple es k p0) (IteT K a) [e, it] e (fun i h => (∃ old, IsEnum h e it ((i : Nat) : Int) old) ∧ h.IsTupleIter it a i) where
  mem := by simp
  obj := fun i h st c hc => by
    obtain ⟨⟨old, q1⟩, o1, e1, _, d1⟩ := st
    have cc : c = e ∨ c = it := by simpa using hc
    rcases cc with z | z <;> subst z
    · exact ⟨_, q1, fun v q => nomatch q⟩
    · exact ⟨o1, e1, fun v q => by rw [d1] at q; cases q⟩
  keep := fun i h h' st kp => by
    obtain ⟨⟨old, q1⟩, q2⟩ := st
    exact ⟨⟨old, kp e (by simp) _ q1⟩, q2.at fun o q => kp it (by simp) o q⟩
  item := by
    intro X hP hw hK hc i pins s σ H E I fpo st hg
    subst hP hw hK
    obtain ⟨⟨old, q1⟩, q2⟩ := st
    obtain ⟨xs, x, sx, gx⟩ := hg
    obtain ⟨us, ru, pu, _⟩ := I.tuple sx
    obtain ⟨u, hu, cu⟩ := ru.get gx
    have el : e < s.heap.objs.size := Heap.lt_size q1
    have hn : X.A.in1.handled = none := I.ok.hd hc
    refine wpAny_pyNext_enum_itemD (Draws.tuple hn it a na us.toArray) q1 ⟨q2, pu⟩ (i := i) (by have := (List.getElem?_eq_some_iff.mp hu).1; simpa using this) ne (by simp [ne, ne2]) fun x1 h1 tk e1 out st1 tt sz kp => ?_
    have eu : x1 = u := by
      have : us[i]? = some x1 := by simpa using e1
      rw [hu] at this; exact (Option.some.inj this).symm
    subst eu
    refine ⟨_, rfl, wpAny_letOwnedTupleGo_enum (s := { s with heap := h1, toks := tk + 1 }) out fun h2 z2 sb => ?_⟩
    have tt2 : h2.get? s.heap.objs.size = some { cls := .type "tuple", data := .seq #[.int i tk, x1] } := (sb.2 _ (Nat.ne_of_gt el)).trans tt
    have nw : ObjOk X.prog X.w (upd H s.heap.objs.size (.tup [.int (i : Nat), x])) h2 s.heap.objs.size (.tup [.int (i : Nat), x]) := ⟨by show 2 ≤ sizeLine; decide, [.int i tk, x1], .cons ⟨_, rfl⟩ (.cons cu .nil), ⟨_, tt2, rfl, _, rfl⟩⟩
    have J : Inv X pins σ (upd H s.heap.objs.size (.tup [.int (i : Nat), x])) { s with heap := h2, toks := tk + 1 } := I.turnedNew (t' := tk + 1) (ch := [e, it])
      (fun c o nc q => (sb.2 c fun z => nc (by simp [z])).trans (kp c o (fun z => nc (by simp [z])) (fun z => nc (by simp [z])) q)) fpo (Nat.le_refl _) nw
    refine ⟨.ref s.heap.objs.size, _, J, rfl, ⟨_, x, rfl, I.hok.fresh (Nat.le_refl _), rfl, fun l hl => by rw [I.tuple_inj hl sx]; exact gx⟩, ⟨⟨x1, ?_⟩, st1.1.at fun o q => (sb.2 _ ne.symm).trans q⟩, fun c hc => ?_⟩
    · have e1 : ((i + 1 : Nat) : Int) = (i : Int) + 1 := by omega
      rw [e1]; exact z2
    · have lt : c < s.heap.objs.size := by
        have cc : c = e ∨ c = it := by simpa using hc
        rcases cc with z | z <;> subst z
        · exact el
        · obtain ⟨_, e1, _⟩ := q2; exact Heap.lt_size e1
      rw [upd_ne (Nat.ne_of_lt lt)]
      exact (fpo c hc).1
  done := by
    intro X hP hw hK hc i pins s σ H E I fpo st hg
    subst hP hw hK
    obtain ⟨⟨old, q1⟩, q2⟩ := st
    obtain ⟨xs, sx, fin⟩ := hg
    obtain ⟨us, ru, pu, _⟩ := I.tuple sx
    have lu := ru.length
    have hn : X.A.in1.handled = none := I.ok.hd hc
    have ei : i = us.toArray.size := by simp; omega
    subst ei
    refine wpAny_pyNext_enum_endD (Draws.tuple hn it a na us.toArray) q1 ⟨q2, pu⟩ fun h1 eb => ⟨rfl, I.turnedL (t' := s.toks) (ch := [e, it]) (fun c o nc q => eb c o (fun z => nc (by simp [z])) q) fpo⟩
  self := fun A i s Q E st h => by
    obtain ⟨⟨_, q1⟩, _⟩ := st
    exact wpAny_pyIter_enum q1 h
/-- enumerate of a list, of a tuple -/
def iEn (K : PySem.W.Frag) (ta : TA) : TI := fun σ H R => ta σ H fun vs H1 => ∃ a xs, vs = [.ref a] ∧ ((SqL K H1 a xs ∧ R (Ite K a) H1) ∨ (SqT K H1 a xs ∧ R (IteT K a) H1))
theorem pi_en {X : Cx} {e : Expr} {ta : TA} {p pos p0 : Pos} {es : List Expr} {k : Nat} (hg : Gl X "enumerate") (hm : X.mg "enumerate" = none) (ha : PA X [e] ta) (hs : starEach [e] X.env = [(false, eval e X.env)] := by rfl) :
    PI X (.Tuple es k p0) (.Call (.Name "enumerate" p) [e] [] pos) (iEn X.K ta) := by
  refine ⟨fun pins s σ H R I h => Call_ (ld_blt I hg hm boot_enumerate (PyProof.Rows.callWith_type1 (thn (ha.run pos pins s σ H _ I h) fun us s1 ⟨vs, H1, I1, r1, q1⟩ => ?_) hs rfl))⟩
  obtain ⟨a, xs, ex, q⟩ := q1
  subst ex
  cases r1 with | cons r rr => ?_
  cases rr; cases r
  generalize hN : s1.heap.objs.size = N
  have two : ∀ c, c ∈ [N + 1, N] → FpOk X pins H1 c := fun c hc => by
    have cc : c = N + 1 ∨ c = N := by simpa using hc
    have le : s1.heap.objs.size ≤ c := by rw [hN]; rcases cc with z | z <;> subst z <;> first | exact Nat.le_refl _ | exact Nat.le_add_right _ _
    exact I1.fpOk le (I1.hok.fresh le)
  rcases q with ⟨sx, q⟩ | ⟨sx, q⟩
  · obtain ⟨us, ru, pu, _⟩ := I1.list sx
    refine call_enumerate_list pu.isList fun h1 z1 w1 sz kp => wpAny_pyIter_enum z1 ?_
    rw [hN] at z1 w1 ⊢
    exact ⟨N + 1, [N + 1, N], _, _, H1, rfl, I1.kept (t' := s1.toks) kp, turn_enum a (N + 1) N, ⟨⟨.none, z1⟩, w1, Nat.succ_ne_self _⟩, two, q⟩
  · obtain ⟨us, ru, pu, _⟩ := I1.tuple sx
    obtain ⟨oa, ea, _⟩ := id pu
    have la : a < N := by rw [← hN]; exact Heap.lt_size ea
    refine en_begins (begins_tuple a us.toArray) pu fun h1 z1 w1 kp => wpAny_pyIter_enum z1 ?_
    rw [hN] at z1 w1 ⊢
    exact ⟨N + 1, [N + 1, N], _, _, H1, rfl, I1.kept (t' := s1.toks) kp, turn_enumT (Nat.succ_ne_self _) (Nat.ne_of_lt la) (Nat.ne_of_gt (Nat.lt_succ_of_lt la)), ⟨⟨.none, z1⟩, ⟨_, w1, rfl, rfl⟩⟩, two, q⟩
def numbered (ds : List D) : List D := (List.range ds.length).zipWith (fun (k : Nat) d => D.tup [.int k, d]) ds
def dEn : List D → Option (List D)
  | [.lst ds] => some (numbered ds)
  | [.tup ds] => some (numbered ds)
  | _ => none
theorem numbered_get {ds : List D} {i : Nat} {d : D} (h : (numbered ds)[i]? = some d) : ∃ x, ds[i]? = some x ∧ d = .tup [.int (i : Nat), x] := by
  unfold numbered at h
  rw [List.getElem?_zipWith] at h
  cases hk : (List.range ds.length)[i]? with
  | none => rw [hk] at h; cases h
  | some k =>
    cases hx : ds[i]? with
    | none => rw [hk, hx] at h; cases h
    | some x =>
      rw [hk, hx] at h
      obtain ⟨l1, l2⟩ := List.getElem?_eq_some_iff.mp hk
      rw [List.getElem_range] at l2
      subst l2
      cases h
      exact ⟨x, rfl, rfl⟩
theorem numbered_len {ds : List D} : (numbered ds).length = ds.length := by simp [numbered]
theorem i_en {K : PySem.W.Frag} {tl : TA} {fl : DS → Option (List D)} (hl : SA K tl fl) : SI K (iEn K tl) (iBy dEn fl) := fun S0 H0 S H σ δ ds R e Q q => by
  obtain ⟨zs, el, e⟩ := Option.bind_eq_some_iff.mp e
  refine hl S0 H0 S H σ δ zs R el _ fun S1 H1 vs g1 d1 => ?_
  have it : ∀ (xs : List D) (us : List V) (S' H' : Hp) (i : Nat), DvA K S1 us xs → Ext S1 S' → Ext S' H' → ∀ d, (numbered xs)[i]? = some d →
      ∃ v, us[i]? = some v ∧ ∀ T, H' T = none → ∃ S2, Grow S' H' S2 (upd H' T (.tup [.int (i : Nat), v])) ∧ Dv K S2 (.ref T) d := fun xs us S' H' i h2 x m d hd => by
    obtain ⟨x0, hx, rfl⟩ := numbered_get hd
    obtain ⟨v, hv, dv⟩ := h2.get hx
    refine ⟨v, hv, fun T hT => ?_⟩
    have g : Grow S' H' _ _ := Grow.new (o := .tup [.int (i : Nat), v]) m hT
    exact ⟨_, g, .tup upd_same (.cons (.int _) (.cons (dv.mono (x.trans g.s)) .nil))⟩
  unfold dEn at e
  split at e
  · rename_i xs
    cases e
    cases d1 with | cons a b => ?_
    cases b
    cases a with | lst h1 h2 => ?_
    rename_i a us
    refine ⟨a, us, rfl, .inl ⟨SqL.of (g1.m _ _ h1), q S1 H1 _ g1 fun S' H' i x m => ?_⟩⟩
    have h1' := SqL.of (K := K) (m _ _ (x _ _ h1))
    refine ⟨fun d hd => ?_, fun e => ⟨us, h1', ?_⟩⟩
    · obtain ⟨v, hv, f⟩ := it xs us S' H' i h2 x m d hd
      refine ⟨⟨us, v, h1', hv⟩, fun z H2 ⟨T, y, e1, e2, e3, e4⟩ => ?_⟩
      subst e1 e3
      have e6 := e4 us h1'
      rw [hv] at e6
      cases e6
      exact f T e2
    · rw [numbered_len] at e
      rw [h2.len]; omega
  · rename_i xs
    cases e
    cases d1 with | cons a b => ?_
    cases b
    cases a with | tup h1 h2 => ?_
    rename_i a us
    refine ⟨a, us, rfl, .inr ⟨SqT.of (g1.m _ _ h1), q S1 H1 _ g1 fun S' H' i x m => ?_⟩⟩
    have h1' := SqT.of (K := K) (m _ _ (x _ _ h1))
    refine ⟨fun d hd => ?_, fun e => ⟨us, h1', ?_⟩⟩
    · obtain ⟨v, hv, f⟩ := it xs us S' H' i h2 x m d hd
      refine ⟨⟨us, v, h1', hv⟩, fun z H2 ⟨T, y, e1, e2, e3, e4⟩ => ?_⟩
      subst e1 e3
      have e6 := e4 us h1'
      rw [hv] at e6
      cases e6
      exact f T e2
    · rw [numbered_len] at e
      rw [h2.len]; omega
  · cases e
end PV

set_option maxRecDepth 100000
set_option autoImplicit false
set_option maxHeartbeats 4000000
/-! ### defs that may raise, over data -/
namespace PV
open PySem PySem.Spec PyProof.Rows L2
open C8 (tCut)
open PB (Ext)
structure CalX (P : Program) (w : World) (K : PySem.W.Frag) (mg : Str → Option Value) (base : Heap) (k : Nat) (x : Str) (sp : Sp) : Prop where
  ex : ∃ (f : Addr) (fd : FuncData) (ps : List Str), FnOk P w K mg base (L2.CX P w) k f fd ps sp ∧ mg x = some (.ref f) ∧ PySem.W.keepIn K (.ref f) = true ∧ Binds K fd ps []
abbrev BodyX (P : Program) (w : World) (K : PySem.W.Frag) (mg : Str → Option Value) (base : Heap) (k : Nat) (N : List Str) (qual : Str) (st : Stmt) (t : XK → TS) : Prop :=
  ∀ (f : Addr) (cdv : Value) (A : Around) (outer : List Env) (s : Shared) (H : Hp) (E : XK), Room k (A.deeper (envOfC qual (defScope st) s.heap.objs.size f cdv)) →
    PSs (cxOf (L2.CX P w) P w K mg base N qual (defScope st) f cdv A outer s H E) (defBody st) (t E)
abbrev PureX (N : List Str) (sp : Sp) (t : XK → TS) : Prop := ∀ (vs : List V) (H : Hp) (Q : VK) (E : XK), sp vs H Q E → t E { nx := fun _ H' => Q .non H', rt := Q } (start N vs) H
section
variable {P : Program} {w : World} {K : PySem.W.Frag} {mg : Str → Option Value} {base : Heap}
theorem calX_ok {x : Str} {st : Stmt} {N ps : List Str} {k : Nat} {sp : Sp} {t : XK → TS} (F : ∃ fd, PB.FnP K x x st (He.ga K x) fd) (g : mg x = some (.ref (He.ga K x))) (S : FnScope N ps (defScope st)) (len : PB.Len ps.length sp)
    (hb : PB.BindOk x x st ps) (b : BodyX P w K mg base k N x st t) (p : PureX N sp t) : CalX P w K mg base (k + 1) x sp := by
  obtain ⟨fd, F⟩ := F
  exact ⟨_, fd, ps, F.ok S len fun cdv A outer s H vs Q E hr h => ⟨t E, b _ cdv A outer s H E hr, p vs H Q E h⟩, g, F.kp, F.bindsN hb⟩
end
section
variable {X : Cx} {x : Str} {es : List Expr} {e : Expr} {t : TA} {pos pos' : Pos} {sp : Sp} {j k : Nat}
/-- a call that doesn't raise here -/
theorem pe_mcX (c : CalX X.prog X.w X.K X.mg X.base k x sp) (hr : Room j X.A) (hk : k ≤ j) (hg : Gl X x) (ha : PA X (e :: es) t)
    (hdb : (x == ("__debug__" : Str)) = false := by decide) (he : starEach (e :: es) X.env = (false, eval e X.env) :: starEach es X.env := by rfl) (hpl : (backTo pos (starEach es X.env)).any (·.1) = false := by rfl) :
    PE X (.Call (.Name x pos') (e :: es) [] pos) (PB.mCall sp t) := by
  obtain ⟨f, fd, ps, F, hm, kp, b⟩ := c.ex
  refine ⟨fun pins s σ H Q I h => ?_⟩
  refine wpAny_Call_Name_kw (ld_glob I hg hm ?_ hdb)
  refine PySem.W.callWith_K (first := []) (h₀ := X.base) I.ok.mod.kin kp (thn (ha.run pos pins s σ H _ I h) fun us s2 ⟨vs, H2, I2, r, q2⟩ => ⟨I2.kIn, ?_⟩) he hpl
  refine run_fn (E := L2.E0) F (hr.mono hk) b .nil passL I2 r ?_
  rw [List.append_nil]
  exact q2
/-- a call in a try -/
theorem pe_mcS {E : L2.St → XK} (c : CalX X.prog X.w X.K X.mg X.base k x sp) (hr : Room j X.A) (hk : k ≤ j) (hg : Gl X x) (hx : ∀ σ, PassesAt (L2.CX X.prog X.w) X σ (E σ)) (ha : PA X (e :: es) t)
    (hdb : (x == ("__debug__" : Str)) = false := by decide) (he : starEach (e :: es) X.env = (false, eval e X.env) :: starEach es X.env := by rfl) (hpl : (backTo pos (starEach es X.env)).any (·.1) = false := by rfl) :
    PE X (.Call (.Name x pos') (e :: es) [] pos) (tCallS sp E t) := by
  obtain ⟨f, fd, ps, F, hm, kp, b⟩ := c.ex
  exact pe_callS F (hr.mono hk) hg hm kp b hx ha hdb he hpl
end
/-- raise C(e): what the message is does not matter -/
def tRse (ta : TE) (E : XK) (C : Addr) : TS := fun _ σ H => ta σ H fun _ H1 => E (.ref C) none H1
theorem ps_rse {X : Cx} {W : XK} {x : Str} {e : Expr} {ta : TE} {p pos pos' : Pos} (hc : X.calm = true) (tk : L2.Takes X (fun cls d _ H => W cls d H)) (q : (He.Fa.exc x).ok X.K = true) (gC : X.mg x = some (.ref (He.ga X.K x))) (hg : Gl X x)
    (he : PE X e ta) (hs : starEach [e] X.env = (false, eval e X.env) :: starEach [] X.env := by rfl) (hdb : (x == ("__debug__" : Str)) = false := by decide) :
    PS X (.Raise (some (.Call (.Name x p) [e] [] pos)) none pos') (tRse ta W (He.ga X.K x)) := by
  obtain ⟨q1, q2, q3, q4⟩ := He.exc_ok q
  exact L2.ps_raise hc tk (SkE.pmk_own1 PySem.F.excBase_ValueError q1 gC q2 (raises_own q3 q4) hg he hs hdb)
/-! what is worked out and dropped -/
def SN (K : PySem.W.Frag) (te : TE) (ok : DS → Bool) : Prop := ∀ (S0 H0 S H : Hp) (σ : L2.St) (δ : DS), Rel K S0 H0 S H σ δ → ok δ = true → ∀ Q : VK, (∀ S' H' v, Grow S H S' H' → Q v H') → te σ H Q
def SJ (K : PySem.W.Frag) (ts : List TE) (ok : DS → Bool) : Prop := ∀ (S0 H0 S H : Hp) (σ : L2.St) (δ : DS), Rel K S0 H0 S H σ δ → ok δ = true → ∀ acc : Str, acc.length + 1000 * ts.length ≤ 100000 → ∀ Q : Str → Hp → Prop, (∀ S' H' out, Grow S H S' H' → Q out H') → tJs ts acc σ H Q
/-- the parts of a text: a short int, a short text -/
def jPart (d : D) : Bool := match d with
  | .int i => decide (i.natAbs < 2 ^ 64)
  | .str x => decide (x.length ≤ 1000)
  | _ => false
def nJ : List (DS → Option D) → DS → Bool
  | [], _ => true
  | f :: fs, δ => (match f δ with | some d => jPart d | none => false) && nJ fs δ
section
variable {K : PySem.W.Frag} {te : TE} {fe : DS → Option D} {ts : List TE} {ok : DS → Bool} {fs : List (DS → Option D)}
theorem n_join (h : SJ K ts ok) (hl : ts.length ≤ 100) : SN K (PB.mJoin ts) ok := fun S0 H0 S H σ δ R e Q q =>
  h S0 H0 S H σ δ R e Str.empty (by show 0 + _ ≤ _; omega) _ fun S' H' out g => q S' H' _ g
theorem j_nil : SJ K [] (nJ []) := fun S0 H0 S H σ δ R e acc hz Q q => q S H acc (.refl R.g.m)
theorem sz_100000 : 100000 ≤ sizeLine := by rw [sizeLine_eq]; decide
theorem j_str {x : Str} (hx : x.length ≤ 1000) (h : SJ K ts (nJ fs)) : SJ K (tC (.str x) :: ts) (nJ (dC (.str x) :: fs)) := fun S0 H0 S H σ δ R e acc hz Q q => by
  simp only [nJ, Bool.and_eq_true] at e
  simp only [List.length_cons] at hz
  have l : (acc ++ x).length = acc.length + x.length := Str.length_append acc x
  exact ⟨x, rfl, by rw [l]; have := sz_100000; omega, h S0 H0 S H σ δ R e.2 (acc ++ x) (by rw [l]; omega) Q q⟩
theorem j_fmt (ha : SV K te fe) (h : SJ K ts (nJ fs)) : SJ K (tFmt te :: ts) (nJ (fe :: fs)) := fun S0 H0 S H σ δ R e acc hz Q q => by
  simp only [nJ, Bool.and_eq_true] at e
  simp only [List.length_cons] at hz
  obtain ⟨e1, e2⟩ := e
  have hs := sz_100000
  cases hd : fe δ with
  | none => rw [hd] at e1; cases e1
  | some d =>
    rw [hd] at e1
    refine ha S0 H0 S H σ δ d R hd _ fun S1 H1 v g1 d1 => ?_
    cases d with
    | int i =>
      have hi : i.natAbs < 2 ^ 64 := by simpa [jPart] using e1
      cases d1.int
      have l0 : (Str.ofString (toString i)).length ≤ 21 := by
        rw [PyProof.Rows.ofString_length]
        exact int_text_length_le10 (k := 20) (by decide) (Nat.lt_trans hi (by decide))
      have l : (acc ++ Str.ofString (toString i)).length = acc.length + (Str.ofString (toString i)).length := Str.length_append acc _
      refine .inr ⟨i, rfl, ?_, _, rfl, by rw [l]; omega, h S0 H0 S1 H1 σ δ (R.grow g1) e2 _ (by rw [l]; omega) Q fun S' H' out g => q S' H' out (g1.trans g)⟩
      by_cases z : i.natAbs = 0
      · rw [z]; decide
      · exact Nat.lt_trans ((Nat.log2_lt z).mpr hi) (by decide)
    | str x =>
      have hi : x.length ≤ 1000 := by simpa [jPart] using e1
      cases d1 with
      | dat d1 =>
        cases d1
        have l : (acc ++ x).length = acc.length + x.length := Str.length_append acc x
        exact .inl ⟨x, rfl, by omega, _, rfl, by rw [l]; omega, h S0 H0 S1 H1 σ δ (R.grow g1) e2 _ (by rw [l]; omega) Q fun S' H' out g => q S' H' out (g1.trans g)⟩
    | _ => cases e1
end
/-! when a statement raises -/
def SX (K : PySem.W.Frag) (C : Addr) (t : XK → TS) (x : DS → Bool) : Prop := ∀ (S0 H0 S H : Hp) (σ : L2.St) (δ : DS), Rel K S0 H0 S H σ δ → x δ = true → ∀ (E : XK) (D : Ends), (∀ S' H', Grow S0 H0 S' H' → E (.ref C) none H') → t E D σ H
def xNo : DS → Bool := fun _ => false
def xSeq (f : DS → Option Out) (x y : DS → Bool) : DS → Bool := fun δ => x δ || (match f δ with | some (.nx δ1) => y δ1 | _ => false)
def xIf (c : DS → Option Bool) (x y : DS → Bool) : DS → Bool := fun δ => match c δ with | some true => x δ | some false => y δ | none => false
def dNo : DS → Option Out := fun _ => none
theorem s_no {K : PySem.W.Frag} {t : TS} : SS K t dNo := fun S0 H0 S H σ δ o R e => by cases e
section
variable {K : PySem.W.Frag} {C : Addr} {t u : XK → TS} {f : DS → Option Out} {x y : DS → Bool} {tt : TT} {ft : DS → Option Bool} {te : TE} {ok : DS → Bool}
theorem x_no : SX K C t xNo := fun S0 H0 S H σ δ R e => by cases e
theorem x_seq (hs : ∀ E, SS K (t E) f) (ht : SX K C t x) (hu : SX K C u y) : SX K C (fun E => tSeq (t E) (u E)) (xSeq f x y) := fun S0 H0 S H σ δ R e E D q => by
  unfold xSeq at e
  rw [Bool.or_eq_true] at e
  rcases e with e | e
  · exact ht S0 H0 S H σ δ R e E _ q
  · split at e
    · rename_i δ1 h1
      refine hs E S0 H0 S H σ δ _ R h1 _ ?_
      exact fun S1 H1 σ1 x1 R1 => hu S0 H0 S1 H1 σ1 δ1 R1 e E D q
    · cases e
theorem x_cut (hs : ∀ E, SS K (t E) f) (ht : SX K C t x) (hu : SX K C u y) : SX K C (fun E => tCut (t E) (u E)) (xSeq f x y) := fun S0 H0 S H σ δ R e E D q => PB.w_cut (x_seq hs ht hu S0 H0 S H σ δ R e E D q)
theorem x_if (hc : ST K tt ft) (ht : SX K C t x) (hu : SX K C u y) : SX K C (fun E => tIfS tt (t E) (u E)) (xIf ft x y) := fun S0 H0 S H σ δ R e E D q => by
  unfold xIf at e
  split at e
  · rename_i h1
    exact hc S0 H0 S H σ δ _ R h1 _ fun S1 H1 g1 => ht S0 H0 S1 H1 σ δ (R.grow g1) e E D q
  · rename_i h1
    exact hc S0 H0 S H σ δ _ R h1 _ fun S1 H1 g1 => hu S0 H0 S1 H1 σ δ (R.grow g1) e E D q
  · cases e
theorem x_rse (h : SN K te ok) : SX K C (fun E => tRse te E C) ok := fun S0 H0 S H σ δ R e E D q =>
  h S0 H0 S H σ δ R e _ fun S' H' v g => q S' H' (R.g.trans g)
end
/-- the promise of a def that may raise C -/
def spR (K : PySem.W.Frag) (C : Addr) (f : List D → Option D) (x : List D → Bool) : Sp := fun vs H Q E => ∃ S ds, Ext S H ∧ DvA K S vs ds ∧
  ((∃ r, f ds = some r ∧ ∀ S' H' v, Grow S H S' H' → Dv K S' v r → Q v H') ∨ (x ds = true ∧ ∀ S' H', Grow S H S' H' → E (.ref C) none H'))
def runX (N n : Nat) (x : DS → Bool) (ds : List D) : Bool := decide (ds.length = n) && x (startD N ds)
theorem lenX {K : PySem.W.Frag} {C : Addr} {N n : Nat} {f : DS → Option Out} {x : DS → Bool} : PB.Len n (spR K C (run N n f) (runX N n x)) := fun vs H Q E ⟨S, ds, _, h, e⟩ => by
  rw [h.len]
  rcases e with ⟨r, e, _⟩ | ⟨e, _⟩
  · unfold run at e
    split at e
    · rename_i hl; exact hl
    · cases e
  · unfold runX at e
    rw [Bool.and_eq_true, decide_eq_true_eq] at e
    exact e.1
theorem pureX_run {K : PySem.W.Frag} {C : Addr} {N : List Str} {M n : Nat} {t : XK → TS} {f : DS → Option Out} {x : DS → Bool} (hN : N.length = M) (h : ∀ E, SS K (t E) f) (hx : SX K C t x) : PureX N (spR K C (run M n f) (runX M n x)) t := fun vs H Q E ⟨S, ds, ext, hd, e⟩ => by
  rcases e with ⟨r, e, q⟩ | ⟨e, q⟩
  · exact pure_run hN (h E) vs H Q E ⟨S, ds, r, ext, hd, e, q⟩
  · subst hN
    unfold runX at e
    rw [Bool.and_eq_true] at e
    have R : Rel K S H S H (start N vs) (startD N.length ds) := by
      refine ⟨.refl ext, ?_, fun i d hi => ?_, fun i es hi => (startD_own hi).elim, fun i j es _ _ hi => (startD_own hi).elim⟩
      · unfold L2.start startD; rw [List.length_append, List.length_append, List.length_map, List.length_map, List.length_replicate, List.length_replicate, hd.len]
      · unfold L2.start
        unfold startD at hi
        rw [hd.len]
        exact hd.start i d _ hi
    exact hx S H S H _ _ R e.2 E _ q
/-- a call that doesn't raise -/
theorem s_callR {K : PySem.W.Frag} {C : Addr} {f : List D → Option D} {x : List D → Bool} {tl : TA} {fl : DS → Option (List D)} (hl : SA K tl fl) : SE K (PB.mCall (spR K C f x) tl) (dCall f fl) := fun S0 H0 S H σ δ r R e Q q => by
  obtain ⟨xs, el, e⟩ := Option.bind_eq_some_iff.mp e
  refine hl S0 H0 S H σ δ xs R el _ fun S1 H1 vs g1 d1 => ⟨S1, xs, g1.m, d1, .inl ⟨r, e, fun S2 H2 v g2 d2 => q S2 H2 v (g1.trans g2) d2⟩⟩
/-! index -/
abbrev rIndexV (K : PySem.W.Frag) : V → List V → Hp → VK → Prop := rIndexD K
def dIdx2 (d y : D) : Option D := match d with
  | .lst ds => if SeqAt.shaped (D.lst ds).py = true ∧ SeqAt.shaped y.py = true then ((D.pys ds).findIdx? fun z => PyData.eqv z y.py).map fun i => .int (i : Nat) else none
  | _ => none
def dIdx (o a : DS → Option D) : DS → Option D := fun δ => (o δ).bind fun d => (a δ).bind fun y => dIdx2 d y
theorem s_idx {K : PySem.W.Frag} {to ta : TE} {fo fa : DS → Option D} (ho : SE K to fo) (ha : SE K ta fa) : SE K (PB.mLM (rIndexV K) to (tCons ta tNil)) (dIdx fo fa) := fun S0 H0 S H σ δ z R e Q q => by
  obtain ⟨d, ed, e⟩ := Option.bind_eq_some_iff.mp e
  obtain ⟨y, ey, e⟩ := Option.bind_eq_some_iff.mp e
  unfold dIdx2 at e
  cases d with
  | lst ds =>
    simp only [] at e
    split at e
    · rename_i hs
      obtain ⟨i, hi, rfl⟩ := Option.map_eq_some_iff.mp e
      refine ho S0 H0 S H σ δ _ R ed _ fun S1 H1 v g1 d1 => ?_
      cases d1 with
      | @lst a xs _ h1 h2 =>
        have hH := g1.m _ _ h1
        simp only [hH]
        refine ha S0 H0 S1 H1 σ δ y (R.grow g1) ey _ fun S2 H2 w g2 d2 => ?_
        obtain ⟨hlt, hp, hno⟩ := List.findIdx?_eq_some_iff_getElem.mp hi
        have dl : Dp K H2 (.ref a) (D.lst ds).py := ((Dv.lst h1 h2).mono (g2.s.trans g2.m)).dp
        refine ⟨a, w, y.py, D.pys ds, i, (D.pys ds)[i], rfl, rfl, dl, (d2.mono g2.m).dp, hs.1, hs.2, List.getElem?_eq_getElem hlt, hp, fun m z' hm hz => ?_, q S2 H2 _ (g1.trans g2) (.int _)⟩
        obtain ⟨hml, rfl⟩ := List.getElem?_eq_some_iff.mp hz
        have := hno m hm
        simpa using this
    · cases e
  | _ => cases e
end PV
namespace PV
open PySem PySem.Spec PyProof.Rows L2
theorem pss_given {X : Cx} {b : List Stmt} {p : Prop} {t : TS} (h : p → PSs X b t) : PSs X b (fun D σ H => p ∧ t D σ H) := ⟨fun pins s σ H D I ⟨k, q⟩ => (h k).run pins s σ H D I q⟩
def isExc (K : PySem.W.Frag) (D : Addr) : Bool :=
  He.eqO (PySem.W.findIn K (.ref D) "__getattribute__") (some (some (.builtin "BaseException.__getattribute__"))) && (He.eqO (PySem.W.findIn K (.ref D) "__getattr__") (some none) &&
  (decide (PySem.W.subIn K (.ref D) (.type "BaseException") = some true) && (PySem.W.hasDictIn K D && (He.eqO (PySem.W.findIn K (.ref D) "__class__") (some (some (.builtin "object.__class__"))) &&
  (He.eqO (PySem.W.specialIn K (.builtin "object.__class__") "__get__") (some (some (.builtin "getset_descriptor.__get__"))) && (decide (PySem.W.takesIn K (.builtin "object.__class__") = some true) && decide (PySem.W.mroIn K D (.type "object") = some true)))))))
theorem isExc_ok {K : PySem.W.Frag} {D : Addr} (h : isExc K D = true) : ExcC K D := by
  obtain ⟨h1, h⟩ := He.ba h
  obtain ⟨h2, h⟩ := He.ba h
  obtain ⟨h3, h⟩ := He.ba h
  obtain ⟨h4, h⟩ := He.ba h
  obtain ⟨h5, h⟩ := He.ba h
  obtain ⟨h6, h⟩ := He.ba h
  obtain ⟨h7, h8⟩ := He.ba h
  exact ⟨He.eqO_ok h1, He.eqO_ok h2, of_decide_eq_true h3, h4, He.eqO_ok h5, He.eqO_ok h6, of_decide_eq_true h7, of_decide_eq_true h8⟩
def kit (K : PySem.W.Frag) (D : Addr) (c : Value) (b : Bool) : Bool := decide (PySem.W.kitOne K (.ref D) c = some b)
theorem kit_ok {K : PySem.W.Frag} {D : Addr} {c : Value} {b : Bool} (h : kit K D c b = true) : PySem.W.kitOne K (.ref D) c = some b := of_decide_eq_true h
end PV
namespace PV
theorem ifT {A B : Prop} (h : A) : if true = true then A else B := by rw [if_pos rfl]; exact h
theorem ifF {A B : Prop} (h : B) : if false = true then A else B := by rw [if_neg (by simp)]; exact h
end PV

set_option maxRecDepth 100000
set_option autoImplicit false
set_option maxHeartbeats 4000000
namespace PV
open PySem PySem.Spec PyProof.Rows L2
section
variable {K : PySem.W.Frag} {ta tb tc td : TE} {fa fb fc fd : DS → Option D}
def dChain3 (r r' r'' : D → D → Option D) (a b c d : DS → Option D) : DS → Option D := fun δ => (a δ).bind fun x => (b δ).bind fun y => match r x y with
  | some (.bl true) => (c δ).bind fun z => (match r' y z with
    | some (.bl true) => (d δ).bind fun w => r'' z w
    | some (.bl false) => some (.bl false)
    | _ => none)
  | some (.bl false) => some (.bl false)
  | _ => none
theorem s_chain3 {r r' r'' : R2} {f f' f'' : D → D → Option D} (hr : SR K r f) (hr' : SR K r' f') (hr'' : SR K r'' f'') (ha : SV K ta fa) (hb : SV K tb fb) (hc : SV K tc fc) (hd : SV K td fd) : SE K (PB.mChain3 r r' r'' ta tb tc td) (dChain3 f f' f'' fa fb fc fd) := fun S0 H0 S H σ δ z R e Q q => by
  obtain ⟨x, ex, e⟩ := Option.bind_eq_some_iff.mp e
  obtain ⟨y, ey, e⟩ := Option.bind_eq_some_iff.mp e
  refine ha S0 H0 S H σ δ x R ex _ fun S1 H1 v g1 d1 => ?_
  refine hb S0 H0 S1 H1 σ δ y (R.grow g1) ey _ fun S2 H2 w g2 d2 => ?_
  have g12 := g1.trans g2
  split at e
  · rename_i e1
    obtain ⟨y2, ez, e⟩ := Option.bind_eq_some_iff.mp e
    refine hr S2 H2 v w x y _ g2.m (d1.grow g2) d2 e1 _ fun S3 H3 u g3 d3 => ?_
    cases d3
    show if true = true then _ else _
    rw [if_pos rfl]
    have g123 := g12.trans g3
    refine hc S0 H0 S3 H3 σ δ y2 (R.grow g123) ez _ fun S4 H4 u4 g4 d4 => ?_
    have g14 := g123.trans g4
    split at e
    · rename_i e2
      obtain ⟨y3, e3, e⟩ := Option.bind_eq_some_iff.mp e
      refine hr' S4 H4 w u4 y y2 _ g4.m (d2.grow (g3.trans g4)) d4 e2 _ fun S5 H5 u5 g5 d5 => ?_
      cases d5
      show if true = true then _ else _
      rw [if_pos rfl]
      have g15 := g14.trans g5
      refine hd S0 H0 S5 H5 σ δ y3 (R.grow g15) e3 _ fun S6 H6 u6 g6 d6 => ?_
      exact hr'' S6 H6 u4 u6 y2 y3 z g6.m (d4.grow (g5.trans g6)) d6 e Q fun S7 H7 u7 g7 d7 => q S7 H7 u7 ((g15.trans g6).trans g7) d7
    · rename_i e2
      cases e
      refine hr' S4 H4 w u4 y y2 _ g4.m (d2.grow (g3.trans g4)) d4 e2 _ fun S5 H5 u5 g5 d5 => ?_
      cases d5
      show if false = true then _ else _
      rw [if_neg (by simp)]
      exact q S5 H5 _ (g14.trans g5) (.bl _)
    · cases e
  · rename_i e1
    cases e
    refine hr S2 H2 v w x y _ g2.m (d1.grow g2) d2 e1 _ fun S3 H3 u g3 d3 => ?_
    cases d3
    show if false = true then _ else _
    rw [if_neg (by simp)]
    exact q S3 H3 _ (g12.trans g3) (.bl _)
  · cases e
end
/-! a try that returns what a call made, and its handler -/
section
open PySem PySem.Spec PyProof.Rows L2
open PB (Ext)
variable {K : PySem.W.Frag} {C : Addr} {f : List D → Option D} {x : List D → Bool} {tl tr : TA} {fl fr : DS → Option (List D)} {W : WX} {ts : TS} {fs : DS → Option Out}
theorem s_callS (hl : SA K tl fl) : SE K (tCallS (spR K C f x) (WE W) tl) (dCall f fl) := fun S0 H0 S H σ δ r R e Q q => by
  obtain ⟨xs, el, e⟩ := Option.bind_eq_some_iff.mp e
  refine hl S0 H0 S H σ δ xs R el _ fun S1 H1 vs g1 d1 => ⟨S1, xs, g1.m, d1, .inl ⟨r, e, fun S2 H2 v g2 d2 => q S2 H2 v (g1.trans g2) d2⟩⟩
def dTryR (f : List D → Option D) (x : List D → Bool) (fl fr : DS → Option (List D)) (fs : DS → Option Out) : DS → Option Out := fun δ => (fl δ).bind fun xs => match f xs with
  | some r => (fr δ).bind fun rs => if (r :: rs).length ≤ most then some (.rt (.tup (r :: rs))) else none
  | none => if x xs = true then fs δ else none
theorem s_tryR (exm : PySem.W.exmOne K (.ref C) (.ref C) = some true) (hl : SA K tl fl) (hr : SA K tr fr) (hs : SS K ts fs) :
    SS K (fun D σ H => (fun W : WX => tRet (tTup (tCons (tCallS (spR K C f x) (WE W) tl) tr))) (wOnly K (.ref C) (fun a cls d D σ H => (cls = .ref C ∧ d = none) ∧ ts D σ H) (fun _ _ _ _ => False) D) D σ H) (dTryR f x fl fr fs) := fun S0 H0 S H σ δ o R e E q => by
  obtain ⟨xs, el, e⟩ := Option.bind_eq_some_iff.mp e
  split at e
  · rename_i r hf
    obtain ⟨rs, er, e⟩ := Option.bind_eq_some_iff.mp e
    split at e
    · rename_i hm
      cases e
      refine s_ret (fe := dTup (dCons (dCall f fl) fr)) (s_tup (a_cons (s_callS hl) hr)) S0 H0 S H σ δ _ R ?_ E q
      unfold dRet dTup dCons dCall
      rw [el, Option.bind_some, hf, Option.bind_some, er]
      show Option.map Out.rt (if (r :: rs).length ≤ most then some (D.tup (r :: rs)) else none) = _
      rw [if_pos hm]
      rfl
    · cases e
  · rename_i hf
    split at e
    · rename_i hx
      show tCallS (spR K C f x) _ tl σ H _
      refine hl S0 H0 S H σ δ xs R el _ fun S1 H1 vs g1 d1 => ⟨S1, xs, g1.m, d1, .inr ⟨hx, fun S2 H2 g2 => ?_⟩⟩
      refine ⟨true, exm, fun _ a ha => ⟨⟨rfl, rfl⟩, ?_⟩, fun z => by cases z⟩
      exact hs S0 H0 S2 H2 σ δ o (R.grow (g1.trans g2)) e E (q.ext (g1.trans g2).s)
    · cases e
end
/-! sorted, ints -/
section
open PySem PySem.Spec PyProof.Rows L2
open PB (Ext)
variable {K : PySem.W.Frag}
def bSorted : List D → Option (List D)
  | [.lst ds] => (dints ds).map fun ns => (ns.mergeSort (fun a b => decide (a ≤ b))).map D.int
  | _ => none
theorem sort_one {ns ms : List Int} (h : ms.Perm ns) (k : ms.Pairwise (· ≤ ·)) : ms = ns.mergeSort (fun a b => decide (a ≤ b)) := by
  have s := List.pairwise_mergeSort (le := fun a b : Int => decide (a ≤ b)) (fun a b c h1 h2 => by simp only [decide_eq_true_eq] at *; omega) (fun a b => by simp only [Bool.or_eq_true, decide_eq_true_eq]; omega) ns
  refine List.Perm.eq_of_pairwise (le := fun a b : Int => a ≤ b) (fun a b _ _ h1 h2 => Int.le_antisymm h1 h2) k (s.imp fun h => by simpa using h) (h.trans (List.mergeSort_perm ns _).symm)
theorem cf_sorted : SCF K (rSortedI K) bSorted := fun S H xs ds z m hx h Q q => by
  unfold bSorted at h
  split at h
  · rename_i es
    obtain ⟨ns, hn, rfl⟩ := Option.map_eq_some_iff.mp h
    cases hx with | cons a b => ?_
    cases b
    obtain ⟨p, us, rfl, h1, h2⟩ := a.lst m
    have hu := h2.dint hn
    subst hu
    refine ⟨p, ns, rfl, SqL.of h1, fun ms r hp hs hr => ?_⟩
    rw [sort_one hp hs]
    exact q _ r _ hr (Grow.fresh m hr) upd_same (DvA.ofInts _)
  · cases h
end
end PV

local macro_rules | `(tactic| walk_at "ne") => `(tactic| first
  | assumption
  | (apply Ne.symm; assumption)
  | exact L2.ne_of (by assumption) (by assumption) (by intro z; cases z)
  | exact PB.ne_fresh (by assumption) (by assumption)
  | exact (PB.ne_fresh (by assumption) (by assumption)).symm
  | exact PB.ne_fresh (by assumption) (by walk_at "heap")
  | exact (PB.ne_fresh (by assumption) (by walk_at "heap")).symm)
local macro_rules | `(tactic| walk_at "heap") => `(tactic| first
  | assumption
  | exact L2.upd_same
  | (apply PB.get_ne; (· (walk_at "ne")); (· (walk_at "heap")))
  | exact PB.ext_get (by assumption) (by walk_at "heap"))
local macro_rules | `(tactic| walk_at "pR") => `(tactic| first
  | with_reducible exact PB.p_add
  | with_reducible exact PB.p_sub
  | with_reducible exact PB.p_eqI
  | with_reducible exact PB.p_neI
  | with_reducible exact PB.p_lt
  | with_reducible exact PB.p_le
  | with_reducible exact PB.p_gt
  | with_reducible exact PB.p_ge
  | with_reducible exact PB.p_eqB
  | with_reducible exact PB.p_neB
  | with_reducible exact PB.p_eqS
  | with_reducible exact PB.p_neS
  | with_reducible exact PB.p_isN
  | with_reducible exact PB.p_notN
  | with_reducible exact PB.p_bor
  | with_reducible exact PB.p_band
  | ((with_reducible apply PB.p_inDI); (· (assumption)))
  | ((with_reducible apply PB.p_ixDI); (· (assumption)); (· (assumption)))
  | ((with_reducible apply PB.p_mod); (· (first | omega | decide)))
  | ((with_reducible apply PB.p_div); (· (first | exact ⟨by omega, by decide +kernel⟩ | exact L2.wide_div (b := 64) (by omega) (by omega) (by decide) (by decide))))
  | ((with_reducible apply PB.p_mul); (· (first | assumption | exact PB.CMulW_of (by omega) (by omega))))
  | ((with_reducible apply PB.p_ixH); (· (walk_at "heap")); (· (first | rfl | assumption)))
  | ((with_reducible apply PB.p_ixU); (· (walk_at "heap")); (· (first | rfl | assumption)))
  | ((with_reducible apply PB.p_ixIU); (· (walk_at "heap")); (· (omega)); (· (first | omega | (simp only [List.length_map] at *; omega))))
  | ((with_reducible apply PB.p_ixIL); (· (assumption)); (· (omega)); (· (first | omega | (simp only [List.length_map] at *; omega))))
  | ((with_reducible apply PB.p_ixIH); (· (walk_at "heap")); (· (omega)); (· (first | omega | (simp only [List.length_map] at *; omega)))))
local macro_rules | `(tactic| walk_at "pC") => `(tactic| first
  | with_reducible exact PB.p_abs
  | with_reducible exact PB.p_max
  | with_reducible exact PB.p_min
  | with_reducible exact PB.p_intI
  | with_reducible exact PB.p_intB
  | with_reducible exact PB.p_boolB
  | with_reducible exact PB.p_boolI
  | ((with_reducible apply PB.p_lenH); (· (walk_at "heap")))
  | ((with_reducible apply PB.p_lenU); (· (walk_at "heap")))
  | ((with_reducible apply PB.p_lenL); (· (assumption)))
  | with_reducible exact PB.p_isInt
  | with_reducible exact PB.p_isIntB
  | ((with_reducible apply PB.p_isLst); (· (walk_at "heap")))
  | ((with_reducible apply PB.p_isTup); (· (walk_at "heap"))))
local macro_rules | `(tactic| walk_at "pA") => `(tactic| first
  | with_reducible exact PB.p_nil
  | ((with_reducible apply PB.p_cons); (· (walk_at "pE")); (· (walk_at "pA"))))
local macro_rules | `(tactic| walk_at "pE") => `(tactic| first
  | with_reducible exact PB.p_c
  | ((with_reducible apply PB.p_var); (· (exact rfl)))
  | ((with_reducible apply PB.p_op); (· (walk_at "pE")); (· (walk_at "pE")); (· (walk_at "pR")))
  | ((with_reducible apply PB.p_ofld); (· (walk_at "pE")); (· (walk_at "heap")); (· (exact rfl)))
  | ((with_reducible apply PB.p_dgetz); (· (walk_at "pE")); (· (walk_at "heap")); (· (exact rfl)))
  | ((with_reducible apply PB.p_chain); (· (walk_at "pE")); (· (walk_at "pE")); (· (walk_at "pR")); (· (walk_at "pE")); (· (walk_at "pR")))
  | ((with_reducible apply PB.p_cb); (· (walk_at "pA")); (· (walk_at "pC")))
  | ((with_reducible apply PB.p_neg); (· (walk_at "pE")))
  | ((with_reducible apply PB.p_notV); (· (walk_at "pE")))
  | ((with_reducible apply PB.p_andV); (· (walk_at "pE")); (· (intro _; walk_at "pE")))
  | ((with_reducible apply PB.p_orV); (· (walk_at "pE")); (· (intro _; walk_at "pE")))
  | ((with_reducible apply PB.p_call); (· (walk_at "pA")); (· (walk_at "pS"))))
local macro_rules | `(tactic| walk_at "pT") => `(tactic| first
  | with_reducible exact PB.p_yes
  | ((with_reducible apply PB.p_test); (· (walk_at "pE")))
  | ((with_reducible apply PB.p_and); (· (walk_at "pT")); (· (intro _; walk_at "pT")))
  | ((with_reducible apply PB.p_or); (· (walk_at "pT")); (· (intro _; walk_at "pT")))
  | ((with_reducible apply PB.p_not); (· (walk_at "pT")))
  | ((with_reducible apply PB.p_truB); (· (walk_at "pE")))
  | ((with_reducible apply PB.p_truI); (· (walk_at "pE")))
  | ((with_reducible apply PB.p_truL); (· (walk_at "pE")); (· (walk_at "heap"))))
local macro_rules | `(tactic| walk_at "cond") => `(tactic| (
  intro hcond
  try simp only [Bool.and_eq_true, Bool.or_eq_true, Bool.not_eq_true', Bool.not_eq_false', Bool.and_eq_false_iff, Bool.or_eq_false_iff, decide_eq_true_eq, decide_eq_false_iff_not, PB.intsL, List.mem_cons, List.not_mem_nil, or_false, Bool.not_not, Bool.false_eq_true, Bool.true_eq_false] at hcond) <;> try (exfalso; omega))
local macro_rules | `(tactic| walk_at "w") => `(tactic| first
  | ((with_reducible apply PB.w_seq))
  | ((with_reducible apply PB.w_cut))
  | ((with_reducible apply PB.w_if); (· (walk_at "pT")); all_goals walk_at "cond")
  | ((with_reducible apply PB.w_next))
  | ((with_reducible apply PB.w_ret); (· (walk_at "pE")))
  | ((with_reducible apply PB.w_retN))
  | ((with_reducible apply PB.w_asg); (· (walk_at "pE")))
  | ((with_reducible apply PB.w_oset2); (· (walk_at "pE")); (· (walk_at "pE")); (· (exact Nat.le_of_ble_eq_true rfl)))
  | ((with_reducible apply PB.w_oset); (· (walk_at "pE")); (· (walk_at "pE")); (· (walk_at "heap")); (· (exact Nat.le_of_ble_eq_true rfl)))
  | ((with_reducible apply PB.w_oaug2); (· (walk_at "pE")); (· (exact rfl)); (· (walk_at "pE")))
  | ((with_reducible apply PB.w_oaug); (· (walk_at "pE")); (· (walk_at "heap")); (· (exact rfl)); (· (walk_at "pE")))
  | ((with_reducible apply PB.w_aug); (· (exact rfl)); (· (walk_at "pE")))
  | ((with_reducible apply PB.w_dset2); (· (walk_at "pE")); (· (walk_at "pE")); (· (exact Nat.le_of_ble_eq_true rfl)))
  | ((with_reducible apply PB.w_dset); (· (walk_at "pE")); (· (walk_at "pE")); (· (walk_at "heap")); (· (exact Nat.le_of_ble_eq_true rfl)))
  | ((with_reducible apply PB.w_append); (· (walk_at "pE")); (· (walk_at "heap")); (· (walk_at "pE")); (· (first | assumption | (apply PB.sz_lt; omega))))
  | ((with_reducible apply PB.w_retT); (· (walk_at "pA")); (· (exact PB.szle rfl)))
  | ((with_reducible apply PB.w_retL); (· (walk_at "pA")); (· (exact PB.szle rfl)))
  | ((with_reducible apply PB.w_asgL); (· (walk_at "pA")); (· (exact PB.szle rfl)))
  | ((with_reducible apply PB.w_asgT); (· (walk_at "pA")); (· (exact PB.szle rfl)))
  | ((with_reducible apply PB.w_asgC); (· (walk_at "pA")))
  | ((with_reducible apply PB.w_retC); (· (walk_at "pA")))
  | ((with_reducible apply PB.w_dropC); (· (walk_at "pA")))
  | ((with_reducible apply PB.w_ifC); (· (walk_at "pA")))
  | ((with_reducible apply PB.w_appendT); (· (walk_at "pE")); (· (walk_at "heap")); (· (walk_at "pA")); (· (exact PB.szle rfl)); (· (first | assumption | (apply PB.sz_lt; omega))))
  | ((with_reducible apply PB.w_retM); (· (walk_at "pE")); (· (walk_at "heap")); (· (walk_at "pA")))
  | ((with_reducible apply PB.w_asgM); (· (walk_at "pE")); (· (walk_at "heap")); (· (walk_at "pA")))
  | ((with_reducible apply PB.w_dropM); (· (walk_at "pE")); (· (walk_at "heap")); (· (walk_at "pA")))
  | ((with_reducible apply PB.w_break))
  | ((with_reducible apply PB.w_cont))
  | ((with_reducible apply PB.w_asgK))
  | ((with_reducible apply PB.w_retK))
  | ((with_reducible apply PB.w_dropK))
  | ((with_reducible apply PB.w_osetK))
  | ((with_reducible apply PB.w_dsetK))
  | ((with_reducible apply PB.w_ifK))
  | ((with_reducible apply PB.k_kIf); all_goals walk_at "cond")
  | walk_at "k")
local macro_rules | `(tactic| walk_at "k") => `(tactic| first
  | ((with_reducible apply PB.k_tupP); (· (walk_at "pA")); (· (exact PB.szle rfl)))
  | ((with_reducible apply PB.k_lstP); (· (walk_at "pA")); (· (exact PB.szle rfl)))
  | ((with_reducible apply PB.k_call); (· (walk_at "pA")))
  | ((with_reducible apply PB.k_meth); (· (walk_at "pE")); (· (walk_at "heap")); (· (walk_at "pA")))
  | ((with_reducible apply PB.k_tup))
  | ((with_reducible apply PB.k_lst))
  | ((with_reducible apply PB.k_newT); (· (exact PB.szle rfl)))
  | ((with_reducible apply PB.k_newL); (· (exact PB.szle rfl)))
  | ((with_reducible apply PB.k_callK))
  | ((with_reducible apply PB.k_nil))
  | ((with_reducible apply PB.k_consP); (· (walk_at "pE")))
  | ((with_reducible apply PB.k_cons))
  | ((with_reducible apply PB.k_cb))
  | ((with_reducible apply PB.k_slP); (· (walk_at "pE")))
  | ((with_reducible apply PB.k_part); (· (walk_at "pE")))
  | ((with_reducible apply PB.k_noPart))
  | ((with_reducible apply PB.k_tupleOf); (· (walk_at "heap")))
  | ((with_reducible apply PB.k_listOf); (· (walk_at "heap")))
  | ((with_reducible apply PB.k_listOfL); (· (assumption)))
  | ((with_reducible apply PB.k_slL); (· (walk_at "heap")))
  | ((with_reducible apply PB.k_slLs); (· (assumption)))
  | ((with_reducible apply PB.k_cat); (· (walk_at "heap")); (· (walk_at "heap")); (· (first | exact PB.szle rfl | (apply PB.sz_le; simp only [List.length_map, List.length_append, List.length_cons, List.length_nil] at *; omega))))
  | ((with_reducible apply PB.k_inU); (· (walk_at "heap")); (· (exact rfl)))
  | ((with_reducible apply PB.k_inL); (· (walk_at "heap")); (· (exact rfl)))
  | ((with_reducible apply PB.k_notInL); (· (walk_at "heap")); (· (exact rfl)))
  | ((with_reducible apply PB.k_lc))
  | ((with_reducible apply PB.k_orP); (· (walk_at "pT")); all_goals walk_at "cond")
  | ((with_reducible apply PB.k_andP); (· (walk_at "pT")); all_goals walk_at "cond")
  | ((with_reducible apply PB.k_or))
  | ((with_reducible apply PB.k_and))
  | ((with_reducible apply PB.k_notK))
  | ((with_reducible apply PB.k_kOr); all_goals walk_at "cond")
  | ((with_reducible apply PB.k_kAnd); all_goals walk_at "cond")
  | ((with_reducible apply PB.k_kNot))
  | ((with_reducible apply PB.k_kM); (· (walk_at "heap")); (· (walk_at "pA")))
  | ((with_reducible apply PB.k_methK))
  | ((with_reducible apply PB.k_make); (· (walk_at "pA")))
  | ((with_reducible apply PB.k_testK))
  | ((with_reducible apply PB.k_kTest))
  | ((with_reducible apply PB.k_kTru))
  | ((with_reducible apply PB.k_kTruI))
  | ((with_reducible apply PB.k_kTruN))
  | ((with_reducible apply PB.k_truK))
  | ((with_reducible apply PB.k_op))
  | ((with_reducible apply PB.k_pure); (· (walk_at "pE"))))
local macro_rules | `(tactic| walk_at "ws") => `(tactic| repeat' walk_at "w")
local macro_rules | `(tactic| walk_at "len") => `(tactic| (
  intro vs H Q E h
  first
  | (obtain ⟨e, _⟩ := h; subst e; rfl)
  | (obtain ⟨_, e, _⟩ := h; subst e; rfl)
  | (obtain ⟨_, _, e, _⟩ := h; subst e; rfl)
  | (obtain ⟨_, _, _, e, _⟩ := h; subst e; rfl)
  | (obtain ⟨_, _, _, _, e, _⟩ := h; subst e; rfl)
  | (obtain ⟨_, _, _, _, _, e, _⟩ := h; subst e; rfl)
  | (obtain ⟨_, _, _, _, _, _, e, _⟩ := h; subst e; rfl)
  | (obtain ⟨_, _, _, _, _, _, _, e, _⟩ := h; subst e; rfl)
  | (obtain ⟨_, _, _, _, _, _, _, _, e, _⟩ := h; subst e; rfl)
  | (obtain ⟨_, _, _, _, _, _, _, _, _, e, _⟩ := h; subst e; rfl)
  | (obtain ⟨_, _, _, _, _, _, _, _, _, _, e, _⟩ := h; subst e; rfl)
  | (obtain ⟨_, _, _, _, _, _, _, _, _, _, _, e, _⟩ := h; subst e; rfl)))
namespace PV
open PySem PySem.Spec PyProof.Rows L2
theorem kit_ii : kitB "int" "int" = some true := by decide +kernel
theorem kit_ti : kitB "tuple" "int" = some false := by decide +kernel
theorem kit_tt : kitB "tuple" "tuple" = some true := by decide +kernel
theorem kit_ib : kitB "int" "bool" = some false := by decide +kernel
theorem kit_it : kitB "int" "tuple" = some false := by decide +kernel
theorem kit_ll : kitB "list" "list" = some true := by decide +kernel
theorem kit_li : kitB "list" "int" = some false := by decide +kernel
theorem most_0 : (0 ≤ most) = True := by unfold most; simp
theorem most_1 : (1 ≤ most) = True := by unfold most; simp
theorem most_2 : (2 ≤ most) = True := by unfold most; simp
theorem most_3 : (3 ≤ most) = True := by unfold most; simp
theorem most_4 : (4 ≤ most) = True := by unfold most; simp
theorem most_5 : (5 ≤ most) = True := by unfold most; simp
theorem most_6 : (6 ≤ most) = True := by unfold most; simp
theorem most_7 : (7 ≤ most) = True := by unfold most; simp
theorem dLoop_nil {step : D → DS → Option Out} {δ : DS} : dLoop step [] δ = some (.nx δ) := rfl
theorem dLoop_nx {step : D → DS → Option Out} {d : D} {ds : List D} {δ δ' : DS} (h : step d δ = some (.nx δ')) : dLoop step (d :: ds) δ = dLoop step ds δ' := by
  unfold dLoop; rw [h]; cases ds <;> rfl
theorem dLoop_ct {step : D → DS → Option Out} {d : D} {ds : List D} {δ δ' : DS} (h : step d δ = some (.ct δ')) : dLoop step (d :: ds) δ = dLoop step ds δ' := by
  unfold dLoop; rw [h]; cases ds <;> rfl
theorem dLoop_bk {step : D → DS → Option Out} {d : D} {ds : List D} {δ δ' : DS} (h : step d δ = some (.bk δ')) : dLoop step (d :: ds) δ = some (.nx δ') := by
  unfold dLoop; rw [h]
theorem dLoop_rt {step : D → DS → Option Out} {d r : D} {ds : List D} {δ : DS} (h : step d δ = some (.rt r)) : dLoop step (d :: ds) δ = some (.rt r) := by
  unfold dLoop; rw [h]
/-- a loop by what holds ahead of each turn -/
theorem dLoop_inv {step : D → DS → Option Out} (P : Nat → DS → Prop) : ∀ (ds : List D) (k : Nat) (δ : DS), P k δ → (∀ i d δ, ds[i]? = some d → P (k + i) δ → ∃ δ', step d δ = some (.nx δ') ∧ P (k + i + 1) δ') →
    ∃ δ', dLoop step ds δ = some (.nx δ') ∧ P (k + ds.length) δ'
  | [], k, δ, h, _ => ⟨δ, rfl, h⟩
  | d :: ds, k, δ, h, hs => by
    obtain ⟨δ1, h1, h2⟩ := hs 0 d δ rfl h
    obtain ⟨δ2, h3, h4⟩ := dLoop_inv P ds (k + 1) δ1 h2 fun i d δ hi hp => by
      have e : k + 1 + i = k + (i + 1) := by omega
      rw [e] at hp ⊢
      exact hs (i + 1) d δ hi hp
    refine ⟨δ2, (dLoop_nx h1).trans h3, ?_⟩
    have e : k + (d :: ds).length = k + 1 + ds.length := by simp; omega
    rw [e]; exact h4
theorem dComp_map {step : D → Option (Option D)} {f : D → D} : ∀ (ds acc : List D), (∀ d ∈ ds, step d = some (some (f d))) → acc.length + ds.length ≤ most → dComp step ds acc = some (acc ++ ds.map f)
  | [], acc, _, _ => by simp [dComp]
  | d :: ds, acc, h, hl => by
    unfold dComp
    rw [h d (List.mem_cons_self ..)]
    simp only [List.length_cons] at hl
    show (if acc.length < most then dComp step ds (acc ++ [f d]) else none) = _
    rw [if_pos (by omega), dComp_map ds _ (fun x hx => h x (List.mem_cons_of_mem _ hx)) (by rw [List.length_append]; simp; omega)]
    simp
theorem dComp_filter {step : D → Option (Option D)} {p : D → Bool} {f : D → D} : ∀ (ds acc : List D), (∀ d ∈ ds, step d = some (if p d = true then some (f d) else none)) → acc.length + ds.length ≤ most → dComp step ds acc = some (acc ++ (ds.filter p).map f)
  | [], acc, _, _ => by simp [dComp]
  | d :: ds, acc, h, hl => by
    unfold dComp
    rw [h d (List.mem_cons_self ..)]
    simp only [List.length_cons] at hl
    cases hp : p d with
    | true =>
      show (if acc.length < most then dComp step ds (acc ++ [f d]) else none) = _
      rw [if_pos (by omega), dComp_filter ds _ (fun x hx => h x (List.mem_cons_of_mem _ hx)) (by rw [List.length_append]; simp; omega)]
      simp [hp]
    | false =>
      show dComp step ds acc = _
      rw [dComp_filter ds _ (fun x hx => h x (List.mem_cons_of_mem _ hx)) (by omega)]
      simp [hp]
/-! equality of data without truth values -/
mutual
def D.plain : D → Bool
  | .int _ => true
  | .str x => PyData.strOk x
  | .non => true
  | .lst ds => D.plains ds
  | .tup ds => D.plains ds
  | _ => false
def D.plains : List D → Bool
  | [] => true
  | d :: ds => d.plain && D.plains ds
end
mutual
theorem D.can : ∀ d : D, d.plain = true → d.py.canLay0 = true
  | .int _, _ => by simp [D.py, PyData.canLay0]
  | .str x, h => by simpa [D.py, PyData.canLay0, D.plain] using h
  | .non, _ => by simp [D.py, PyData.canLay0]
  | .lst ds, h => by simp only [D.py, PyData.canLay0]; exact D.cans ds (by simpa [D.plain] using h)
  | .tup ds, h => by simp only [D.py, PyData.canLay0]; exact D.cans ds (by simpa [D.plain] using h)
  | .bl _, h => by simp [D.plain] at h
  | .fro _, h => by simp [D.plain] at h
theorem D.cans : ∀ ds : List D, D.plains ds = true → PyData.canLayAll0 (D.pys ds) = true
  | [], _ => by simp [D.pys, PyData.canLayAll0]
  | d :: ds, h => by
    simp only [D.plains, Bool.and_eq_true] at h
    simp only [D.pys, PyData.canLayAll0, Bool.and_eq_true]
    exact ⟨D.can d h.1, D.cans ds h.2⟩
end
mutual
theorem D.eqv_is : ∀ d e : D, d.plain = true → e.plain = true → (PyData.eqv d.py e.py = true ↔ d = e)
  | .int i, .int j, _, _ => by simp [D.py, PyData.eqv]
  | .str i, .str j, _, _ => by simp [D.py, PyData.eqv]
  | .non, .non, _, _ => by simp [D.py, PyData.eqv]
  | .lst xs, .lst ys, h, k => by
    have := D.eqvs_is xs ys (by simpa [D.plain] using h) (by simpa [D.plain] using k)
    simp [D.py, PyData.eqv, this]
  | .tup xs, .tup ys, h, k => by
    have := D.eqvs_is xs ys (by simpa [D.plain] using h) (by simpa [D.plain] using k)
    simp [D.py, PyData.eqv, this]
  | .int _, .str _, _, _ | .int _, .non, _, _ | .int _, .lst _, _, _ | .int _, .tup _, _, _ => by simp [D.py, PyData.eqv]
  | .str _, .int _, _, _ | .str _, .non, _, _ | .str _, .lst _, _, _ | .str _, .tup _, _, _ => by simp [D.py, PyData.eqv]
  | .non, .int _, _, _ | .non, .str _, _, _ | .non, .lst _, _, _ | .non, .tup _, _, _ => by simp [D.py, PyData.eqv]
  | .lst _, .int _, _, _ | .lst _, .str _, _, _ | .lst _, .non, _, _ | .lst _, .tup _, _, _ => by simp [D.py, PyData.eqv]
  | .tup _, .int _, _, _ | .tup _, .str _, _, _ | .tup _, .non, _, _ | .tup _, .lst _, _, _ => by simp [D.py, PyData.eqv]
  | .bl _, _, h, _ => by simp [D.plain] at h
  | .fro _, _, h, _ => by simp [D.plain] at h
  | _, .bl _, _, h => by simp [D.plain] at h
  | _, .fro _, _, h => by simp [D.plain] at h
theorem D.eqvs_is : ∀ ds es : List D, D.plains ds = true → D.plains es = true → (PyData.eqvAll (D.pys ds) (D.pys es) = true ↔ ds = es)
  | [], [], _, _ => by simp [D.pys, PyData.eqvAll]
  | [], _ :: _, _, _ => by simp [D.pys, PyData.eqvAll]
  | _ :: _, [], _, _ => by simp [D.pys, PyData.eqvAll]
  | d :: ds, e :: es, h, k => by
    simp only [D.plains, Bool.and_eq_true] at h k
    simp only [D.pys, PyData.eqvAll, Bool.and_eq_true, D.eqv_is d e h.1 k.1, D.eqvs_is ds es h.2 k.2, List.cons.injEq]
end
/-- data that may be compared -/
def D.Fine (d : D) : Prop := d.plain = true ∧ d.py.depth ≤ 64
theorem D.Fine.shaped {d : D} (h : d.Fine) : SeqAt.shaped d.py = true := by
  unfold SeqAt.shaped
  rw [D.can d h.1, Bool.true_and]
  exact decide_eq_true h.2
theorem fine_int (i : Int) : (D.int i).Fine := ⟨rfl, by simp [D.py, PyData.depth]⟩
theorem fine_non : D.non.Fine := ⟨rfl, by simp [D.py, PyData.depth]⟩
theorem dEq_is {d e : D} (h : d.Fine) (k : e.Fine) {b : Bool} (hb : b = true ↔ d = e) : dEq d e = some (.bl b) := by
  unfold dEq
  rw [if_pos ⟨h.shaped, k.shaped⟩]
  have := D.eqv_is d e h.1 k.1
  congr 2
  rw [Bool.eq_iff_iff, this, hb]
theorem dNe_is {d e : D} (h : d.Fine) (k : e.Fine) {b : Bool} (hb : b = true ↔ d ≠ e) : dNe d e = some (.bl b) := by
  unfold dNe
  rw [if_pos ⟨h.shaped, k.shaped⟩]
  have := D.eqv_is d e h.1 k.1
  congr 2
  rw [Bool.eq_iff_iff, Bool.not_eq_true', ← Bool.not_eq_true, this, hb]
theorem dEq_refl {d : D} (h : d.Fine) : dEq d d = some (.bl true) := dEq_is h h (by simp)
theorem dNe_refl {d : D} (h : d.Fine) : dNe d d = some (.bl false) := dNe_is h h (by simp)
theorem dEq_int {i j : Int} : dEq (.int i) (.int j) = some (.bl (decide (i = j))) := dEq_is (fine_int i) (fine_int j) (by simp)
theorem dNe_int {i j : Int} : dNe (.int i) (.int j) = some (.bl (decide (i ≠ j))) := dNe_is (fine_int i) (fine_int j) (by simp)
theorem dEq_str {i j : Str} (h : PyData.strOk i = true) (k : PyData.strOk j = true) : dEq (.str i) (.str j) = some (.bl (decide (i = j))) :=
  dEq_is ⟨by simpa [D.plain] using h, by simp [D.py, PyData.depth]⟩ ⟨by simpa [D.plain] using k, by simp [D.py, PyData.depth]⟩ (by simp)
theorem pys_any {d : D} (hd : d.plain = true) : ∀ ds : List D, D.plains ds = true → (((D.pys ds).any fun z => PyData.eqv z d.py) = true ↔ d ∈ ds)
  | [], _ => by simp [D.pys]
  | e :: es, h => by
    simp only [D.plains, Bool.and_eq_true] at h
    simp only [D.pys, List.any_cons, Bool.or_eq_true, List.mem_cons, pys_any hd es h.2, D.eqv_is e d h.1 hd]
    exact or_congr_left ⟨fun z => z.symm, fun z => z.symm⟩
theorem dIn_lst {d : D} {ds : List D} (h : d.Fine) (k : (D.lst ds).Fine) {b : Bool} (hb : b = true ↔ d ∈ ds) : dIn d (.lst ds) = some (.bl b) := by
  unfold dIn
  simp only [h.shaped, k.shaped, and_self, if_true]
  congr 2
  rw [Bool.eq_iff_iff, pys_any h.1 ds (by simpa [D.plain] using k.1), hb]
theorem plains_ints : ∀ ns : List Int, D.plains (ns.map D.int) = true
  | [] => rfl
  | n :: ns => by simp [D.plains, D.plain, plains_ints ns]
theorem depth_ints : ∀ ns : List Int, PyData.depthAll (D.pys (ns.map D.int)) = 0
  | [] => by simp [D.pys, PyData.depthAll]
  | n :: ns => by simp [D.pys, PyData.depthAll, D.py, PyData.depth, depth_ints ns]
theorem fine_ints (ns : List Int) : (D.lst (ns.map D.int)).Fine := ⟨by simp [D.plain, plains_ints], by simp [D.py, PyData.depth, depth_ints]⟩
theorem dIn_ints {i : Int} {ns : List Int} : dIn (.int i) (.lst (ns.map D.int)) = some (.bl (decide (i ∈ ns))) := dIn_lst (fine_int i) (fine_ints ns) (by simp)
theorem dEq_ints {ms ns : List Int} : dEq (.lst (ms.map D.int)) (.lst (ns.map D.int)) = some (.bl (decide (ms = ns))) := dEq_is (fine_ints ms) (fine_ints ns) (by
  simp only [decide_eq_true_eq, D.lst.injEq]
  exact ⟨fun h => by rw [h], fun h => (List.map_inj_right (fun _ _ e => by cases e; rfl)).mp h⟩)
theorem dNe_ints {ms ns : List Int} : dNe (.lst (ms.map D.int)) (.lst (ns.map D.int)) = some (.bl (decide (ms ≠ ns))) := dNe_is (fine_ints ms) (fine_ints ns) (by
  simp only [decide_eq_true_eq, D.lst.injEq, ne_eq]
  exact not_congr ⟨fun h => by rw [h], fun h => (List.map_inj_right (fun _ _ e => by cases e; rfl)).mp h⟩)
theorem bSum_ints {ns : List Int} : bSum [.lst (ns.map D.int)] = some (.int ns.sum) := by simp [bSum, lInts, ints_map]
theorem bMax_ints {ns : List Int} (h : ns ≠ []) : bMax1 [.lst (ns.map D.int)] = some (.int (lmax ns)) := by
  have := List.length_pos_iff.mpr h
  simp [bMax1, lInts, ints_map, this]
theorem atI_map {α β : Type} {f : α → β} {xs : List α} {i : Int} : atI (xs.map f) i = (atI xs i).map f := by
  unfold atI
  rw [List.length_map]
  cases ixN xs.length i with
  | none => rfl
  | some j => simp [List.getElem?_map]
theorem atI_of {α : Type} {xs : List α} {i : Int} {x : α} (h0 : 0 ≤ i) (h : xs[i.toNat]? = some x) : atI xs i = some x := by
  obtain ⟨j, rfl⟩ : ∃ j : Nat, i = (j : Int) := ⟨i.toNat, by omega⟩
  rw [Int.toNat_natCast] at h
  exact atI_nat h
theorem ixN_of {n : Nat} {i : Int} (h0 : 0 ≤ i) (h : i < n) : ixN n i = some i.toNat := by unfold ixN; rw [if_pos h0, if_pos h]
end PV
namespace PV
open PySem PySem.Spec PyProof.Rows L2
theorem isNon_non : isNon .non = true := rfl
theorem isNon_int {i : Int} : isNon (.int i) = false := rfl
theorem dIx_l {ds : List D} {i : Int} : dIx (.lst ds) (.int i) = atI ds i := rfl
theorem dIx_t {ds : List D} {i : Int} : dIx (.tup ds) (.int i) = atI ds i := rfl
theorem dIx_f {ds : List D} {i : Int} : dIx (.fro ds) (.int i) = atI ds i := rfl
theorem at0 {α : Type} {a : α} {l : List α} : atI (a :: l) 0 = some a := atI_of (Int.le_refl _) rfl
theorem at1 {α : Type} {a b : α} {l : List α} : atI (a :: b :: l) 1 = some b := atI_of (by decide) rfl
theorem at2 {α : Type} {a b c : α} {l : List α} : atI (a :: b :: c :: l) 2 = some c := atI_of (by decide) rfl
theorem at3 {α : Type} {a b c d : α} {l : List α} : atI (a :: b :: c :: d :: l) 3 = some d := atI_of (by decide) rfl
theorem at4 {α : Type} {a b c d e : α} {l : List α} : atI (a :: b :: c :: d :: e :: l) 4 = some e := atI_of (by decide) rfl
theorem at_map {α : Type} {f : α → D} {ns : List α} {k : Nat} (h : k < ns.length) : atI (ns.map f) (k : Int) = some (f ns[k]) := by
  refine atI_nat ?_
  rw [List.getElem?_map, List.getElem?_eq_getElem h]; rfl
theorem ix_nat {n k : Nat} (h : k < n) : ixN n (k : Int) = some k := by rw [ixN_of (by omega) (by omega)]; simp
theorem dComp_span {step : D → Option (Option D)} {f : Nat → D} {n : Nat} (h : ∀ k, k < n → step (.int (0 + (k : Int))) = some (some (f k))) (hn : n ≤ most) : dComp step (span 0 n) [] = some ((List.range n).map f) := by
  have key := dComp_map (step := step) (f := fun d => match d with | .int i => f i.toNat | _ => .non) (span 0 n) [] (fun d hd => by
    unfold span at hd
    obtain ⟨k, hk, rfl⟩ := List.mem_map.mp hd
    rw [h k (List.mem_range.mp hk)]
    simp) (by unfold span; simpa using hn)
  rw [key]
  unfold span
  simp [List.map_map, Function.comp_def]
theorem span_get {n k : Nat} {d : D} (h : (span 0 n)[k]? = some d) : k < n ∧ d = .int (k : Int) := by
  unfold span at h
  rw [List.getElem?_map] at h
  obtain ⟨j, hj, rfl⟩ := Option.map_eq_some_iff.mp h
  obtain ⟨h1, h2⟩ := List.getElem?_eq_some_iff.mp hj
  rw [List.length_range] at h1
  rw [List.getElem_range] at h2
  subst h2
  exact ⟨h1, by simp⟩
theorem span_len {n : Nat} {lo : Int} : (span lo n).length = n := by simp [span]
theorem rng1 {n : Nat} (h : n ≤ most) : dRng1 [.int (n : Int)] = some (span 0 n) := by
  unfold most at h
  simp only [dRng1]
  rw [if_pos (by omega), Int.toNat_natCast]
theorem dMul_ok {i j : Int} (h : i.natAbs < 2 ^ 64) (k : j.natAbs < 2 ^ 64) : dMul (.int i) (.int j) = some (.int (i * j)) := by
  have : i.natAbs.log2 + j.natAbs.log2 < 1000000 := PB.CMulW_of h k
  simp only [dMul]
  rw [if_pos this]
theorem dDiv_ok {i j : Int} (h : 0 < j) (k : j < 2 ^ 64) : dDiv (.int i) (.int j) = some (.int (i / j)) := by
  have : 0 < j ∧ j.natAbs.log2 < 9000 := wide_div (b := 64) (i := i) h (by omega) (by decide) (by decide)
  simp only [dDiv]
  rw [if_pos this]
theorem dMod_ok {i j : Int} (h : 0 < j) : dMod (.int i) (.int j) = some (.int (i % j)) := by
  simp only [dMod]
  rw [if_pos h]
theorem le_most {n : Nat} (h : n ≤ 1000000) : (n ≤ most) = True := eq_true h
theorem lt_most {n : Nat} (h : n < 1000000) : (n < most) = True := eq_true h
end PV
namespace PV
open PySem PySem.Spec PyProof.Rows L2
/-- a loop that is left at the k-th item -/
theorem dLoop_brk {step : D → DS → Option Out} (P : Nat → DS → Prop) (Qf : DS → Prop) : ∀ (k : Nat) (ds : List D) (j : Nat) (δ : DS), k < ds.length → P j δ → (∀ i d δ, i < k → ds[i]? = some d → P (j + i) δ → ∃ δ', step d δ = some (.nx δ') ∧ P (j + i + 1) δ') →
    (∀ d δ, ds[k]? = some d → P (j + k) δ → ∃ δ', step d δ = some (.bk δ') ∧ Qf δ') → ∃ δ', dLoop step ds δ = some (.nx δ') ∧ Qf δ'
  | _, [], _, _, h, _, _, _ => by simp at h
  | 0, d :: ds, j, δ, _, h, _, hb => by
    obtain ⟨δ', h1, h2⟩ := hb d δ rfl h
    exact ⟨δ', dLoop_bk h1, h2⟩
  | k + 1, d :: ds, j, δ, hk, h, hs, hb => by
    obtain ⟨δ1, h1, h2⟩ := hs 0 d δ (by omega) rfl h
    obtain ⟨δ2, h3, h4⟩ := dLoop_brk P Qf k ds (j + 1) δ1 (by simpa using hk) h2 (fun i d δ hi hd hp => by
      have e : j + 1 + i = j + (i + 1) := by omega
      rw [e] at hp ⊢
      exact hs (i + 1) d δ (by omega) hd hp) fun d δ hd hp => by
      have e : j + 1 + k = j + (k + 1) := by omega
      rw [e] at hp
      exact hb d δ hd hp
    exact ⟨δ2, (dLoop_nx h1).trans h3, h4⟩
end PV
namespace PG
open PySem PySem.Spec PyProof.Rows L2
open PB (setN)

def N_least : List Str := ["layout", "direction", "parts", "widths", "heights", "part", "_", "width", "height", "between"]
def e_least_b1 (self : List PV.D → Option PV.D) : PV.DS → Option PV.Out := PV.dSeq (PV.dAsg (PV.dCall self (PV.dCons (PV.dVar 5) (PV.dNil))) (PV.gT 2 (PV.gC (PV.gN 7) (PV.gC (PV.gN 8) (PV.gNs))))) (
  PV.dSeq (PV.dApp 3 (PV.dVar 7)) (
  PV.dApp 4 (PV.dVar 8)))
def e_least_t1 (self : List PV.D → Option PV.D) : PV.D → PV.DS → Option PV.Out := fun d δ => ((PV.gT 2 (PV.gC (PV.gN 5) (PV.gC (PV.gN 6) (PV.gNs)))) d δ).bind (e_least_b1 self)
def e_least_l1 (self : List PV.D → Option PV.D) : PV.DS → Option PV.Out := PV.dFor (PV.iOf (PV.dVar 2)) (PV.gT 2 (PV.gC (PV.gN 5) (PV.gC (PV.gN 6) (PV.gNs)))) (e_least_b1 self)
theorem e_least_l1_is (self : List PV.D → Option PV.D) (δ : PV.DS) : e_least_l1 self δ = ((PV.iOf (PV.dVar 2)) δ).bind fun ds => PV.dLoop (e_least_t1 self) ds δ := rfl
def e_least (self : List PV.D → Option PV.D) : PV.DS → Option PV.Out := PV.dSeq (PV.dIf (PV.dTru (PV.dIsi "int" (PV.vVar 0))) (PV.dRet (PV.dTup (PV.dCons (PV.dC (.int 2)) (PV.dCons (PV.dC (.int 1)) (PV.dNil))))) (PV.dNext)) (
  PV.dSeq (PV.dAsg (PV.dVar 0) (PV.gT 2 (PV.gC (PV.gN 1) (PV.gC (PV.gN 2) (PV.gNs))))) (
  PV.dSeq (PV.dAsgO 3 (PV.fLst (PV.dNil))) (
  PV.dSeq (PV.dAsgO 4 (PV.fLst (PV.dNil))) (
  PV.dSeq (e_least_l1 self) (
  PV.dSeq (PV.dAsg (PV.dOp PV.dSub (PV.dCall PV.bLen (PV.dCons (PV.vVar 2) (PV.dNil))) (PV.dC (.int 1))) (PV.gN 9)) (
  PV.dSeq (PV.dIf (PV.dTest (PV.dOp PV.dEq (PV.vVar 1) (PV.dC (.str "beside")))) (PV.dRet (PV.dTup (PV.dCons (PV.dOp PV.dAdd (PV.dCall PV.bSum (PV.dCons (PV.vVar 3) (PV.dNil))) (PV.vVar 9)) (PV.dCons (PV.dCall PV.bMax1 (PV.dCons (PV.vVar 4) (PV.dNil))) (PV.dNil))))) (PV.dNext)) (
  PV.dRet (PV.dTup (PV.dCons (PV.dCall PV.bMax1 (PV.dCons (PV.vVar 3) (PV.dNil))) (PV.dCons (PV.dOp PV.dAdd (PV.dCall PV.bSum (PV.dCons (PV.vVar 4) (PV.dNil))) (PV.vVar 9)) (PV.dNil)))))))))))
def f_least : Nat → List PV.D → Option PV.D
  | 0, _ => none
  | n + 1, ds => PV.run 10 1 (e_least (f_least n)) ds
theorem run_least (n : Nat) (a0 : PV.D) : f_least (n + 1) [a0] = PV.fin (e_least (f_least n) [some (.dat a0), none, none, none, none, none, none, none, none, none]) := rfl
abbrev sp_least (K : PySem.W.Frag) (n : Nat) : Sp := PV.spV K (f_least n)
def t_least (K : PySem.W.Frag) (n : Nat) : TS := C8.tCut (tIfS (PB.mTru K (tCB (rIsi K) (tCons (PB.mVar 0) (tCons (tC (.ty "int")) (tNil))))) (tRet (tTup (tCons (tC (.int (2))) (tCons (tC (.int (1))) (tNil))))) (tNext)) (
  tSeq (tAsg (PB.mVar 0) (gTup K 2 (gCons (gName 1) (gCons (gName 2) (gNil))))) (
  tSeq (tAsg (tLst (tNil)) (gName 3)) (
  tSeq (tAsg (tLst (tNil)) (gName 4)) (
  tSeq (tFor (PV.iSq K (PB.mVar 2)) (gTup K 2 (gCons (gName 5) (gCons (gName 6) (gNil)))) (tSeq (tAsg (PB.mCall (sp_least K n) (tCons (PB.mVar 5) (tNil))) (gTup K 2 (gCons (gName 7) (gCons (gName 8) (gNil))))) (
  tSeq (tDrop (PB.mLM (PB.mAppend) (PB.mVar 3) (tCons (PB.mVar 7) (tNil)))) (
  tDrop (PB.mLM (PB.mAppend) (PB.mVar 4) (tCons (PB.mVar 8) (tNil))))))) (
  tSeq (tAsg (tOp (PB.mSub) (tCB (PB.mLen K) (tCons (PB.mVar 2) (tNil))) (tC (.int 1))) (gName 9)) (
  C8.tCut (tIfS (PB.mTest (tOp (PB.mEq K) (PB.mVar 1) (tC (.str "beside")))) (tRet (tTup (tCons (tOp (PB.mAdd K) (tCB (rSum K) (tCons (PB.mVar 3) (tNil))) (PB.mVar 9)) (tCons (tCB (rMax K) (tCons (PB.mVar 4) (tNil))) (tNil))))) (tNext)) (
  tRet (tTup (tCons (tCB (rMax K) (tCons (PB.mVar 3) (tNil))) (tCons (tOp (PB.mAdd K) (tCB (rSum K) (tCons (PB.mVar 4) (tNil))) (PB.mVar 9)) (tNil)))))))))))
theorem snd_least (K : PySem.W.Frag) (n : Nat) : PV.SS K (t_least K n) (e_least (f_least n)) := by
  unfold t_least e_least e_least_l1 e_least_b1
  exact PV.s_cut (PV.s_if (PV.t_tru ((PV.s_isi (PV.v_var)).v)) (PV.s_ret (PV.s_tup (PV.a_cons (PV.s_int) (PV.a_cons (PV.s_int) (PV.a_nil))))) (PV.s_next)) (
  PV.s_seq (PV.s_asg (vs := [1, 2]) (PV.s_var) (PV.g_tup (PV.g_cons (PV.g_nm (by decide)) (PV.g_cons (PV.g_nm (by decide)) (PV.g_nil))))) (
  PV.s_seq (PV.s_asgO (PV.f_lst (PV.a_nil))) (
  PV.s_seq (PV.s_asgO (PV.f_lst (PV.a_nil))) (
  PV.s_seq (PV.s_for (vs := [5, 6]) (PV.i_sq (PV.s_var)) (PV.g_tup (PV.g_cons (PV.g_nm (by decide)) (PV.g_cons (PV.g_nm (by decide)) (PV.g_nil)))) (PV.s_seq (PV.s_asg (vs := [7, 8]) (PV.s_call (PV.a_cons (PV.s_var) (PV.a_nil))) (PV.g_tup (PV.g_cons (PV.g_nm (by decide)) (PV.g_cons (PV.g_nm (by decide)) (PV.g_nil))))) (
  PV.s_seq (PV.s_app (PV.s_var)) (
  PV.s_app (PV.s_var))))) (
  PV.s_seq (PV.s_asg (vs := [9]) (PV.s_op PV.r_sub ((PV.s_cb PV.c_len (PV.av_cons (PV.v_var) (PV.av_nil))).v) ((PV.s_int).v)) (PV.g_nm (by decide))) (
  PV.s_cut (PV.s_if (PV.t_test ((PV.s_op PV.r_eq (PV.v_var) ((PV.s_str).v)).v)) (PV.s_ret (PV.s_tup (PV.a_cons (PV.s_op PV.r_add ((PV.s_cb PV.c_sum (PV.av_cons (PV.v_var) (PV.av_nil))).v) (PV.v_var)) (PV.a_cons (PV.s_cb PV.c_max1 (PV.av_cons (PV.v_var) (PV.av_nil))) (PV.a_nil))))) (PV.s_next)) (
  PV.s_ret (PV.s_tup (PV.a_cons (PV.s_cb PV.c_max1 (PV.av_cons (PV.v_var) (PV.av_nil))) (PV.a_cons (PV.s_op PV.r_add ((PV.s_cb PV.c_sum (PV.av_cons (PV.v_var) (PV.av_nil))).v) (PV.v_var)) (PV.a_nil)))))))))))
theorem len_least {K : PySem.W.Frag} : ∀ n, PB.Len 1 (sp_least K n)
  | 0 => fun _ _ _ _ ⟨_, _, _, _, _, e, _⟩ => by cases e
  | _ + 1 => PV.len_run
theorem pure_least (K : PySem.W.Frag) (n : Nat) : PB.Pure N_least (sp_least K (n + 1)) (t_least K n) := PV.pure_run rfl (snd_least K n)

def N_share : List Str := ["total", "smallest", "sizes", "between", "spare", "extras", "whole", "shared", "left", "at", "extra", "low", "size", "_"]
def e_share_s1 : PV.DS → PV.D → Option (Option PV.D) := fun δ => PV.cStep (PV.gT 2 (PV.gC (PV.gN 11) (PV.gC (PV.gN 12) (PV.gNs)))) (PV.dYes) (PV.dCall PV.bMax2 (PV.dCons (PV.dC (.int 0)) (PV.dCons (PV.dOp PV.dSub (PV.vVar 12) (PV.vVar 11)) (PV.dNil)))) (PV.dwipe δ [11, 12])
def e_share_c1 : PV.DS → Option (List PV.D) := PV.fLc (PV.iBy PV.dZp (PV.dCons (PV.dVar 1) (PV.dCons (PV.dVar 2) (PV.dNil)))) (PV.gT 2 (PV.gC (PV.gN 11) (PV.gC (PV.gN 12) (PV.gNs)))) (PV.dYes) (PV.dCall PV.bMax2 (PV.dCons (PV.dC (.int 0)) (PV.dCons (PV.dOp PV.dSub (PV.vVar 12) (PV.vVar 11)) (PV.dNil)))) [11, 12]
theorem e_share_c1_is (δ : PV.DS) : e_share_c1 δ = ((PV.iBy PV.dZp (PV.dCons (PV.dVar 1) (PV.dCons (PV.dVar 2) (PV.dNil)))) δ).bind fun ds => PV.dComp (e_share_s1 δ) ds [] := rfl
def e_share_s2 : PV.DS → PV.D → Option (Option PV.D) := fun δ => PV.cStep (PV.gN 13) (PV.dYes) (PV.dC (.int 1)) (PV.dwipe δ [13])
def e_share_c2 : PV.DS → Option (List PV.D) := PV.fLc (PV.iOf (PV.dVar 5)) (PV.gN 13) (PV.dYes) (PV.dC (.int 1)) [13]
theorem e_share_c2_is (δ : PV.DS) : e_share_c2 δ = ((PV.iOf (PV.dVar 5)) δ).bind fun ds => PV.dComp (e_share_s2 δ) ds [] := rfl
def e_share_s3 : PV.DS → PV.D → Option (Option PV.D) := fun δ => PV.cStep (PV.gT 2 (PV.gC (PV.gN 11) (PV.gC (PV.gN 10) (PV.gNs)))) (PV.dYes) (PV.dOp PV.dAdd (PV.vVar 11) (PV.dOp PV.dDiv (PV.dOp PV.dMul (PV.vVar 4) (PV.vVar 10)) (PV.vVar 6))) (PV.dwipe δ [11, 10])
def e_share_c3 : PV.DS → Option (List PV.D) := PV.fLc (PV.iBy PV.dZp (PV.dCons (PV.dVar 1) (PV.dCons (PV.dVar 5) (PV.dNil)))) (PV.gT 2 (PV.gC (PV.gN 11) (PV.gC (PV.gN 10) (PV.gNs)))) (PV.dYes) (PV.dOp PV.dAdd (PV.vVar 11) (PV.dOp PV.dDiv (PV.dOp PV.dMul (PV.vVar 4) (PV.vVar 10)) (PV.vVar 6))) [11, 10]
theorem e_share_c3_is (δ : PV.DS) : e_share_c3 δ = ((PV.iBy PV.dZp (PV.dCons (PV.dVar 1) (PV.dCons (PV.dVar 5) (PV.dNil)))) δ).bind fun ds => PV.dComp (e_share_s3 δ) ds [] := rfl
def e_share_b4 : PV.DS → Option PV.Out := PV.dIf (PV.dAndT (PV.dTest (PV.dOp PV.dGt (PV.vVar 10) (PV.dC (.int 0)))) (PV.dTest (PV.dOp PV.dGt (PV.vVar 8) (PV.dC (.int 0))))) (PV.dSeq (PV.dAugI 7 (PV.vVar 9) (PV.dC (.int 1)) (fun i j => i + j)) (
  PV.dAug 8 (PV.dC (.int 1)) (fun i j => i - j))) (PV.dNext)
def e_share_t4 : PV.D → PV.DS → Option PV.Out := fun d δ => ((PV.gT 2 (PV.gC (PV.gN 9) (PV.gC (PV.gN 10) (PV.gNs)))) d δ).bind (e_share_b4)
def e_share_l4 : PV.DS → Option PV.Out := PV.dFor (PV.iBy PV.dEn (PV.dCons (PV.dVar 5) (PV.dNil))) (PV.gT 2 (PV.gC (PV.gN 9) (PV.gC (PV.gN 10) (PV.gNs)))) (e_share_b4)
theorem e_share_l4_is (δ : PV.DS) : e_share_l4 δ = ((PV.iBy PV.dEn (PV.dCons (PV.dVar 5) (PV.dNil))) δ).bind fun ds => PV.dLoop (e_share_t4) ds δ := rfl
def e_share : PV.DS → Option PV.Out := PV.dSeq (PV.dAsg (PV.dOp PV.dSub (PV.dCall PV.bLen (PV.dCons (PV.vVar 1) (PV.dNil))) (PV.dC (.int 1))) (PV.gN 3)) (
  PV.dSeq (PV.dAsg (PV.dCall PV.bMax2 (PV.dCons (PV.dC (.int 0)) (PV.dCons (PV.dOp PV.dSub (PV.dOp PV.dSub (PV.vVar 0) (PV.vVar 3)) (PV.dCall PV.bSum (PV.dCons (PV.vVar 1) (PV.dNil)))) (PV.dNil)))) (PV.gN 4)) (
  PV.dSeq (PV.dAsg (PV.dLst (e_share_c1)) (PV.gN 5)) (
  PV.dSeq (PV.dIf (PV.dTest (PV.dOp PV.dEq (PV.dCall PV.bSum (PV.dCons (PV.vVar 5) (PV.dNil))) (PV.dC (.int 0)))) (PV.dAsg (PV.dLst (e_share_c2)) (PV.gN 5)) (PV.dNext)) (
  PV.dSeq (PV.dAsg (PV.dCall PV.bSum (PV.dCons (PV.vVar 5) (PV.dNil))) (PV.gN 6)) (
  PV.dSeq (PV.dAsgO 7 (e_share_c3)) (
  PV.dSeq (PV.dAsg (PV.dOp PV.dSub (PV.dOp PV.dAdd (PV.vVar 4) (PV.dCall PV.bSum (PV.dCons (PV.vVar 1) (PV.dNil)))) (PV.dCall PV.bSum (PV.dCons (PV.vVar 7) (PV.dNil)))) (PV.gN 8)) (
  PV.dSeq (e_share_l4) (
  PV.dFrz 7 (PV.dRet (PV.dVar 7))))))))))
def f_share : List PV.D → Option PV.D := PV.run 14 3 e_share
theorem run_share (a0 a1 a2 : PV.D) : f_share [a0, a1, a2] = PV.fin (e_share [some (.dat a0), some (.dat a1), some (.dat a2), none, none, none, none, none, none, none, none, none, none, none]) := rfl
abbrev sp_share (K : PySem.W.Frag) : Sp := PV.spV K f_share
def t_share (K : PySem.W.Frag) : TS := tSeq (tAsg (tOp (PB.mSub) (tCB (PB.mLen K) (tCons (PB.mVar 1) (tNil))) (tC (.int 1))) (gName 3)) (
  tSeq (tAsg (tCB (PB.mMax2) (tCons (tC (.int 0)) (tCons (tOp (PB.mSub) (tOp (PB.mSub) (PB.mVar 0) (PB.mVar 3)) (tCB (rSum K) (tCons (PB.mVar 1) (tNil)))) (tNil)))) (gName 4)) (
  tSeq (tAsg (tLc (PV.iZp K (tCons (PB.mVar 1) (tCons (PB.mVar 2) (tNil)))) (gTup K 2 (gCons (gName 11) (gCons (gName 12) (gNil)))) (tYes) (tCB (PB.mMax2) (tCons (tC (.int 0)) (tCons (tOp (PB.mSub) (PB.mVar 12) (PB.mVar 11)) (tNil)))) [11, 12]) (gName 5)) (
  C8.tCut (tIfS (PB.mTest (tOp (PB.mEq K) (tCB (rSum K) (tCons (PB.mVar 5) (tNil))) (tC (.int 0)))) (tAsg (tLc (PV.iSq K (PB.mVar 5)) (gName 13) (tYes) (tC (.int 1)) [13]) (gName 5)) (tNext)) (
  tSeq (tAsg (tCB (rSum K) (tCons (PB.mVar 5) (tNil))) (gName 6)) (
  tSeq (tAsg (tLc (PV.iZp K (tCons (PB.mVar 1) (tCons (PB.mVar 5) (tNil)))) (gTup K 2 (gCons (gName 11) (gCons (gName 10) (gNil)))) (tYes) (tOp (PB.mAdd K) (PB.mVar 11) (tOp (PB.mDiv) (tOp (PB.mMul) (PB.mVar 4) (PB.mVar 10)) (PB.mVar 6))) [11, 10]) (gName 7)) (
  tSeq (tAsg (tOp (PB.mSub) (tOp (PB.mAdd K) (PB.mVar 4) (tCB (rSum K) (tCons (PB.mVar 1) (tNil)))) (tCB (rSum K) (tCons (PB.mVar 7) (tNil)))) (gName 8)) (
  tSeq (tFor (PV.iEn K (tCons (PB.mVar 5) (tNil))) (gTup K 2 (gCons (gName 9) (gCons (gName 10) (gNil)))) (tIfS (tAnd (PB.mTest (tOp (PB.mGt) (PB.mVar 10) (tC (.int 0)))) (PB.mTest (tOp (PB.mGt) (PB.mVar 8) (tC (.int 0))))) (tSeq (tAugS (PB.mVar 7) (PB.mVar 9) (tC (.int 1)) (rIxL K) (ipI (fun i j => i + j)) PB.mSet) (
  PB.mAug 8 (tC (.int 1)) (fun i j => i - j))) (tNext))) (
  tRet (PB.mVar 7)))))))))
theorem snd_share (K : PySem.W.Frag) : PV.SS K (t_share K) e_share := by
  unfold t_share e_share e_share_l4 e_share_b4 e_share_c3 e_share_c2 e_share_c1
  exact PV.s_seq (PV.s_asg (vs := [3]) (PV.s_op PV.r_sub ((PV.s_cb PV.c_len (PV.av_cons (PV.v_var) (PV.av_nil))).v) ((PV.s_int).v)) (PV.g_nm (by decide))) (
  PV.s_seq (PV.s_asg (vs := [4]) (PV.s_cb PV.c_max2 (PV.av_cons ((PV.s_int).v) (PV.av_cons ((PV.s_op PV.r_sub ((PV.s_op PV.r_sub (PV.v_var) (PV.v_var)).v) ((PV.s_cb PV.c_sum (PV.av_cons (PV.v_var) (PV.av_nil))).v)).v) (PV.av_nil)))) (PV.g_nm (by decide))) (
  PV.s_seq (PV.s_asg (vs := [5]) (PV.SF.e (PV.f_lc (vs := [11, 12]) (PV.i_zp (PV.a_cons (PV.s_var) (PV.a_cons (PV.s_var) (PV.a_nil)))) (PV.g_tup (PV.g_cons (PV.g_nm (by decide)) (PV.g_cons (PV.g_nm (by decide)) (PV.g_nil)))) (PV.t_yes) (PV.s_cb PV.c_max2 (PV.av_cons ((PV.s_int).v) (PV.av_cons ((PV.s_op PV.r_sub (PV.v_var) (PV.v_var)).v) (PV.av_nil)))))) (PV.g_nm (by decide))) (
  PV.s_cut (PV.s_if (PV.t_test ((PV.s_op PV.r_eq ((PV.s_cb PV.c_sum (PV.av_cons (PV.v_var) (PV.av_nil))).v) ((PV.s_int).v)).v)) (PV.s_asg (vs := [5]) (PV.SF.e (PV.f_lc (vs := [13]) (PV.i_sq (PV.s_var)) (PV.g_nm (by decide)) (PV.t_yes) (PV.s_int))) (PV.g_nm (by decide))) (PV.s_next)) (
  PV.s_seq (PV.s_asg (vs := [6]) (PV.s_cb PV.c_sum (PV.av_cons (PV.v_var) (PV.av_nil))) (PV.g_nm (by decide))) (
  PV.s_seq (PV.s_asgO (PV.f_lc (vs := [11, 10]) (PV.i_zp (PV.a_cons (PV.s_var) (PV.a_cons (PV.s_var) (PV.a_nil)))) (PV.g_tup (PV.g_cons (PV.g_nm (by decide)) (PV.g_cons (PV.g_nm (by decide)) (PV.g_nil)))) (PV.t_yes) (PV.s_op PV.r_add (PV.v_var) ((PV.s_op PV.r_div ((PV.s_op PV.r_mul (PV.v_var) (PV.v_var)).v) (PV.v_var)).v)))) (
  PV.s_seq (PV.s_asg (vs := [8]) (PV.s_op PV.r_sub ((PV.s_op PV.r_add (PV.v_var) ((PV.s_cb PV.c_sum (PV.av_cons (PV.v_var) (PV.av_nil))).v)).v) ((PV.s_cb PV.c_sum (PV.av_cons (PV.v_var) (PV.av_nil))).v)) (PV.g_nm (by decide))) (
  PV.s_seq (PV.s_for (vs := [9, 10]) (PV.i_en (PV.a_cons (PV.s_var) (PV.a_nil))) (PV.g_tup (PV.g_cons (PV.g_nm (by decide)) (PV.g_cons (PV.g_nm (by decide)) (PV.g_nil)))) (PV.s_if (PV.t_and (PV.t_test ((PV.s_op PV.r_gt (PV.v_var) ((PV.s_int).v)).v)) (PV.t_test ((PV.s_op PV.r_gt (PV.v_var) ((PV.s_int).v)).v))) (PV.s_seq (PV.s_augI (PV.v_var) ((PV.s_int).v)) (
  PV.s_aug ((PV.s_int).v))) (PV.s_next))) (
  PV.s_frz (i := 7) (PV.s_ret (PV.s_var))))))))))
theorem len_share {K : PySem.W.Frag} : PB.Len 3 (sp_share K) := PV.len_run
theorem pure_share (K : PySem.W.Frag) : PB.Pure N_share (sp_share K) (t_share K) := PV.pure_run rfl (snd_share K)

def N_law_cell : List Str := ["script", "k"]
def e_law_cell : PV.DS → Option PV.Out := PV.dSeq (PV.dIf (PV.dTest (PV.dOp PV.dLt (PV.vVar 1) (PV.dCall PV.bLen (PV.dCons (PV.vVar 0) (PV.dNil))))) (PV.dRet (PV.dCall PV.bInt (PV.dCons (PV.dOp PV.dIx (PV.vVar 0) (PV.vVar 1)) (PV.dNil)))) (PV.dNext)) (
  PV.dRet (PV.dC (.int 0)))
def f_law_cell : List PV.D → Option PV.D := PV.run 2 2 e_law_cell
theorem run_law_cell (a0 a1 : PV.D) : f_law_cell [a0, a1] = PV.fin (e_law_cell [some (.dat a0), some (.dat a1)]) := rfl
abbrev sp_law_cell (K : PySem.W.Frag) : Sp := PV.spV K f_law_cell
def t_law_cell (K : PySem.W.Frag) : TS := C8.tCut (tIfS (PB.mTest (tOp (PB.mLt) (PB.mVar 1) (tCB (PB.mLen K) (tCons (PB.mVar 0) (tNil))))) (tRet (tCB (PB.mInt) (tCons (tOp (PB.mIx K) (PB.mVar 0) (PB.mVar 1)) (tNil)))) (tNext)) (
  tRet (tC (.int 0)))
theorem snd_law_cell (K : PySem.W.Frag) : PV.SS K (t_law_cell K) e_law_cell := by
  unfold t_law_cell e_law_cell
  exact PV.s_cut (PV.s_if (PV.t_test ((PV.s_op PV.r_lt (PV.v_var) ((PV.s_cb PV.c_len (PV.av_cons (PV.v_var) (PV.av_nil))).v)).v)) (PV.s_ret (PV.s_cb PV.c_int (PV.av_cons ((PV.s_op PV.r_ix (PV.v_var) (PV.v_var)).v) (PV.av_nil)))) (PV.s_next)) (
  PV.s_ret (PV.s_int))
theorem len_law_cell {K : PySem.W.Frag} : PB.Len 2 (sp_law_cell K) := PV.len_run
theorem pure_law_cell (K : PySem.W.Frag) : PB.Pure N_law_cell (sp_law_cell K) (t_law_cell K) := PV.pure_run rfl (snd_law_cell K)

def N_law_row : List Str := ["cell", "count", "bound", "rest", "mixed", "row", "k"]
def e_law_row_b1 : PV.DS → Option PV.Out := PV.dIf (PV.dTest (PV.dOp PV.dGe (PV.vVar 3) (PV.vVar 2))) (PV.dSeq (PV.dApp 5 (PV.dOp PV.dMod (PV.dCall PV.bInt (PV.dCons (PV.vVar 3) (PV.dNil))) (PV.vVar 2))) (
  PV.dAsg (PV.dOp PV.dDiv (PV.vVar 3) (PV.vVar 2)) (PV.gN 3))) (PV.dSeq (PV.dAsg (PV.dOp PV.dMod (PV.dCall PV.bInt (PV.dCons (PV.dOp PV.dAdd (PV.dOp PV.dAdd (PV.dOp PV.dMul (PV.vVar 4) (PV.dC (.int 48271))) (PV.dOp PV.dMul (PV.dC (.int 11)) (PV.vVar 6))) (PV.dC (.int 7))) (PV.dNil))) (PV.dC (.int 2147483647))) (PV.gN 4)) (
  PV.dApp 5 (PV.dOp PV.dMod (PV.dCall PV.bInt (PV.dCons (PV.dOp PV.dDiv (PV.dOp PV.dMul (PV.vVar 4) (PV.dC (.int 2862933555777941757))) (PV.dC (.int 1024))) (PV.dNil))) (PV.vVar 2))))
def e_law_row_t1 : PV.D → PV.DS → Option PV.Out := fun d δ => ((PV.gN 6) d δ).bind (e_law_row_b1)
def e_law_row_l1 : PV.DS → Option PV.Out := PV.dFor (PV.iBy PV.dRng1 (PV.dCons (PV.vVar 1) (PV.dNil))) (PV.gN 6) (e_law_row_b1)
theorem e_law_row_l1_is (δ : PV.DS) : e_law_row_l1 δ = ((PV.iBy PV.dRng1 (PV.dCons (PV.vVar 1) (PV.dNil))) δ).bind fun ds => PV.dLoop (e_law_row_t1) ds δ := rfl
def e_law_row : PV.DS → Option PV.Out := PV.dSeq (PV.dAsg (PV.dCall PV.bAbs (PV.dCons (PV.dCall PV.bInt (PV.dCons (PV.vVar 0) (PV.dNil))) (PV.dNil))) (PV.gN 3)) (
  PV.dSeq (PV.dAsg (PV.dOp PV.dAdd (PV.dOp PV.dMod (PV.dCall PV.bInt (PV.dCons (PV.vVar 0) (PV.dNil))) (PV.dC (.int 1000003))) (PV.dC (.int 1))) (PV.gN 4)) (
  PV.dSeq (PV.dAsgO 5 (PV.fLst (PV.dNil))) (
  PV.dSeq (e_law_row_l1) (
  PV.dFrz 5 (PV.dRet (PV.dVar 5))))))
def f_law_row : List PV.D → Option PV.D := PV.run 7 3 e_law_row
theorem run_law_row (a0 a1 a2 : PV.D) : f_law_row [a0, a1, a2] = PV.fin (e_law_row [some (.dat a0), some (.dat a1), some (.dat a2), none, none, none, none]) := rfl
abbrev sp_law_row (K : PySem.W.Frag) : Sp := PV.spV K f_law_row
def t_law_row (K : PySem.W.Frag) : TS := tSeq (tAsg (tCB (PB.mAbs) (tCons (tCB (PB.mInt) (tCons (PB.mVar 0) (tNil))) (tNil))) (gName 3)) (
  tSeq (tAsg (tOp (PB.mAdd K) (tOp (PB.mMod) (tCB (PB.mInt) (tCons (PB.mVar 0) (tNil))) (tC (.int 1000003))) (tC (.int 1))) (gName 4)) (
  tSeq (tAsg (tLst (tNil)) (gName 5)) (
  tSeq (tFor (iRng1 (tCons (PB.mVar 1) (tNil))) (gName 6) (tIfS (PB.mTest (tOp (PB.mGe) (PB.mVar 3) (PB.mVar 2))) (tSeq (tDrop (PB.mLM (PB.mAppend) (PB.mVar 5) (tCons (tOp (PB.mMod) (tCB (PB.mInt) (tCons (PB.mVar 3) (tNil))) (PB.mVar 2)) (tNil)))) (
  tAsg (tOp (PB.mDiv) (PB.mVar 3) (PB.mVar 2)) (gName 3))) (tSeq (tAsg (tOp (PB.mMod) (tCB (PB.mInt) (tCons (tOp (PB.mAdd K) (tOp (PB.mAdd K) (tOp (PB.mMul) (PB.mVar 4) (tC (.int 48271))) (tOp (PB.mMul) (tC (.int 11)) (PB.mVar 6))) (tC (.int 7))) (tNil))) (tC (.int 2147483647))) (gName 4)) (
  tDrop (PB.mLM (PB.mAppend) (PB.mVar 5) (tCons (tOp (PB.mMod) (tCB (PB.mInt) (tCons (tOp (PB.mDiv) (tOp (PB.mMul) (PB.mVar 4) (tC (.int 2862933555777941757))) (tC (.int 1024))) (tNil))) (PB.mVar 2)) (tNil))))))) (
  tRet (PB.mVar 5)))))
theorem snd_law_row (K : PySem.W.Frag) : PV.SS K (t_law_row K) e_law_row := by
  unfold t_law_row e_law_row e_law_row_l1 e_law_row_b1
  exact PV.s_seq (PV.s_asg (vs := [3]) (PV.s_cb PV.c_abs (PV.av_cons ((PV.s_cb PV.c_int (PV.av_cons (PV.v_var) (PV.av_nil))).v) (PV.av_nil))) (PV.g_nm (by decide))) (
  PV.s_seq (PV.s_asg (vs := [4]) (PV.s_op PV.r_add ((PV.s_op PV.r_mod ((PV.s_cb PV.c_int (PV.av_cons (PV.v_var) (PV.av_nil))).v) ((PV.s_int).v)).v) ((PV.s_int).v)) (PV.g_nm (by decide))) (
  PV.s_seq (PV.s_asgO (PV.f_lst (PV.a_nil))) (
  PV.s_seq (PV.s_for (vs := [6]) (PV.i_rng1 (PV.av_cons (PV.v_var) (PV.av_nil))) (PV.g_nm (by decide)) (PV.s_if (PV.t_test ((PV.s_op PV.r_ge (PV.v_var) (PV.v_var)).v)) (PV.s_seq (PV.s_app (PV.s_op PV.r_mod ((PV.s_cb PV.c_int (PV.av_cons (PV.v_var) (PV.av_nil))).v) (PV.v_var))) (
  PV.s_asg (vs := [3]) (PV.s_op PV.r_div (PV.v_var) (PV.v_var)) (PV.g_nm (by decide)))) (PV.s_seq (PV.s_asg (vs := [4]) (PV.s_op PV.r_mod ((PV.s_cb PV.c_int (PV.av_cons ((PV.s_op PV.r_add ((PV.s_op PV.r_add ((PV.s_op PV.r_mul (PV.v_var) ((PV.s_int).v)).v) ((PV.s_op PV.r_mul ((PV.s_int).v) (PV.v_var)).v)).v) ((PV.s_int).v)).v) (PV.av_nil))).v) ((PV.s_int).v)) (PV.g_nm (by decide))) (
  PV.s_app (PV.s_op PV.r_mod ((PV.s_cb PV.c_int (PV.av_cons ((PV.s_op PV.r_div ((PV.s_op PV.r_mul (PV.v_var) ((PV.s_int).v)).v) ((PV.s_int).v)).v) (PV.av_nil))).v) (PV.v_var)))))) (
  PV.s_frz (i := 5) (PV.s_ret (PV.s_var))))))
theorem len_law_row {K : PySem.W.Frag} : PB.Len 3 (sp_law_row K) := PV.len_run
theorem pure_law_row (K : PySem.W.Frag) : PB.Pure N_law_row (sp_law_row K) (t_law_row K) := PV.pure_run rfl (snd_law_row K)

def N_panes : List Str := ["layout", "found", "part", "_"]
def e_panes_b1 (self : List PV.D → Option PV.D) : PV.DS → Option PV.Out := PV.dExt 1 (PV.dCall self (PV.dCons (PV.dVar 2) (PV.dNil)))
def e_panes_t1 (self : List PV.D → Option PV.D) : PV.D → PV.DS → Option PV.Out := fun d δ => ((PV.gT 2 (PV.gC (PV.gN 2) (PV.gC (PV.gN 3) (PV.gNs)))) d δ).bind (e_panes_b1 self)
def e_panes_l1 (self : List PV.D → Option PV.D) : PV.DS → Option PV.Out := PV.dFor (PV.iOf (PV.dOp PV.dIx (PV.vVar 0) (PV.dC (.int 1)))) (PV.gT 2 (PV.gC (PV.gN 2) (PV.gC (PV.gN 3) (PV.gNs)))) (e_panes_b1 self)
theorem e_panes_l1_is (self : List PV.D → Option PV.D) (δ : PV.DS) : e_panes_l1 self δ = ((PV.iOf (PV.dOp PV.dIx (PV.vVar 0) (PV.dC (.int 1)))) δ).bind fun ds => PV.dLoop (e_panes_t1 self) ds δ := rfl
def e_panes (self : List PV.D → Option PV.D) : PV.DS → Option PV.Out := PV.dSeq (PV.dIf (PV.dTru (PV.dIsi "int" (PV.vVar 0))) (PV.dRet (PV.dLst (PV.fLst (PV.dCons (PV.dVar 0) (PV.dNil))))) (PV.dNext)) (
  PV.dSeq (PV.dAsgO 1 (PV.fLst (PV.dNil))) (
  PV.dSeq (e_panes_l1 self) (
  PV.dFrz 1 (PV.dRet (PV.dVar 1)))))
def f_panes : Nat → List PV.D → Option PV.D
  | 0, _ => none
  | n + 1, ds => PV.run 4 1 (e_panes (f_panes n)) ds
theorem run_panes (n : Nat) (a0 : PV.D) : f_panes (n + 1) [a0] = PV.fin (e_panes (f_panes n) [some (.dat a0), none, none, none]) := rfl
abbrev sp_panes (K : PySem.W.Frag) (n : Nat) : Sp := PV.spV K (f_panes n)
def t_panes (K : PySem.W.Frag) (n : Nat) : TS := C8.tCut (tIfS (PB.mTru K (tCB (rIsi K) (tCons (PB.mVar 0) (tCons (tC (.ty "int")) (tNil))))) (tRet (tLst (tCons (PB.mVar 0) (tNil)))) (tNext)) (
  tSeq (tAsg (tLst (tNil)) (gName 1)) (
  tSeq (tFor (PV.iSq K (tOp (PB.mIx K) (PB.mVar 0) (tC (.int 1)))) (gTup K 2 (gCons (gName 2) (gCons (gName 3) (gNil)))) (tDrop (PB.mLM (PV.rExtV K) (PB.mVar 1) (tCons (PB.mCall (sp_panes K n) (tCons (PB.mVar 2) (tNil))) (tNil))))) (
  tRet (PB.mVar 1))))
theorem snd_panes (K : PySem.W.Frag) (n : Nat) : PV.SS K (t_panes K n) (e_panes (f_panes n)) := by
  unfold t_panes e_panes e_panes_l1 e_panes_b1
  exact PV.s_cut (PV.s_if (PV.t_tru ((PV.s_isi (PV.v_var)).v)) (PV.s_ret (PV.SF.e (PV.f_lst (PV.a_cons (PV.s_var) (PV.a_nil))))) (PV.s_next)) (
  PV.s_seq (PV.s_asgO (PV.f_lst (PV.a_nil))) (
  PV.s_seq (PV.s_for (vs := [2, 3]) (PV.i_sq (PV.s_op PV.r_ix (PV.v_var) ((PV.s_int).v))) (PV.g_tup (PV.g_cons (PV.g_nm (by decide)) (PV.g_cons (PV.g_nm (by decide)) (PV.g_nil)))) (PV.s_ext ((PV.s_call (PV.a_cons (PV.s_var) (PV.a_nil))).v))) (
  PV.s_frz (i := 1) (PV.s_ret (PV.s_var)))))
theorem len_panes {K : PySem.W.Frag} : ∀ n, PB.Len 1 (sp_panes K n)
  | 0 => fun _ _ _ _ ⟨_, _, _, _, _, e, _⟩ => by cases e
  | _ + 1 => PV.len_run
theorem pure_panes (K : PySem.W.Frag) (n : Nat) : PB.Pure N_panes (sp_panes K (n + 1)) (t_panes K n) := PV.pure_run rfl (snd_panes K n)


/-! ## layouts -/
inductive Lay where
  | pane (n : Int)
  | node (b : Bool) (ls : List Lay) (ss : List Int)
def nm (b : Bool) : Str := if b = true then "below" else "beside"
theorem nm_ok (b : Bool) : PyData.strOk (nm b) = true := by cases b <;> decide +kernel
theorem nm_inj {a b : Bool} : nm a = nm b ↔ a = b := by cases a <;> cases b <;> simp [nm] <;> decide
theorem nm_below {b : Bool} : nm b = "below" ↔ b = true := by cases b <;> simp [nm] <;> decide
theorem nm_beside {b : Bool} : nm b = "beside" ↔ b = false := by cases b <;> simp [nm] <;> decide
def pt (d : PV.D) (s : Int) : PV.D := .tup [d, .int s]
mutual
def Lay.d : Lay → PV.D
  | .pane n => .int n
  | .node b ls ss => .tup [.str (nm b), .tup (List.zipWith pt (lds ls) ss)]
def lds : List Lay → List PV.D
  | [] => []
  | l :: ls => l.d :: lds ls
end
theorem lds_map : ∀ ls : List Lay, lds ls = ls.map Lay.d
  | [] => rfl
  | l :: ls => by simp [lds, lds_map ls]
/-- the parts as data -/
def ptsD (ls : List Lay) (ss : List Int) : List PV.D := List.zipWith (fun l s => pt l.d s) ls ss
theorem Lay.d_node {b : Bool} {ls : List Lay} {ss : List Int} : (Lay.node b ls ss).d = .tup [.str (nm b), .tup (ptsD ls ss)] := by
  simp [Lay.d, lds_map, ptsD, List.zipWith_map_left]
theorem ptsD_len {ls : List Lay} {ss : List Int} (h : ls.length = ss.length) : (ptsD ls ss).length = ls.length := by simp [ptsD, h]
/-- sizes in 0..B, at most M parts, no deeper than d -/
inductive Good (B : Int) (M : Nat) : Nat → Lay → Prop
  | pane {d : Nat} (n : Int) : Good B M d (.pane n)
  | node {d : Nat} {b : Bool} {ls : List Lay} {ss : List Int} (hl : ls.length = ss.length) (h2 : 2 ≤ ls.length) (hm : ls.length ≤ M) (hs : ∀ s ∈ ss, 0 ≤ s ∧ s ≤ B) (hg : ∀ l ∈ ls, Good B M d l) : Good B M (d + 1) (.node b ls ss)
theorem Good.mono {B B' : Int} {M M' : Nat} (hB : B ≤ B') (hM : M ≤ M') : ∀ {d d' : Nat} {l : Lay}, Good B M d l → d ≤ d' → Good B' M' d' l := by
  intro d
  induction d with
  | zero => intro d' l h _; cases h; exact .pane _
  | succ d ih =>
    intro d' l h hd
    cases h with
    | pane n => exact .pane n
    | node hl h2 hm hs hg =>
      obtain ⟨e, rfl⟩ : ∃ e, d' = e + 1 := ⟨d' - 1, by omega⟩
      exact .node hl h2 (by omega) (fun s m => ⟨(hs s m).1, by have := (hs s m).2; omega⟩) fun l m => ih (hg l m) (by omega)
theorem plains_zip : ∀ (ds : List PV.D) (ss : List Int), PV.D.plains ds = true → PV.D.plains (List.zipWith pt ds ss) = true
  | [], _, _ => rfl
  | _ :: _, [], _ => rfl
  | d :: ds, s :: ss, h => by
    simp only [PV.D.plains, Bool.and_eq_true] at h
    simp [PV.D.plains, PV.D.plain, pt, h.1, plains_zip ds ss h.2]
mutual
theorem Lay.plain : ∀ l : Lay, l.d.plain = true
  | .pane n => rfl
  | .node b ls ss => by
    simp only [Lay.d, PV.D.plain, PV.D.plains, nm_ok, Bool.and_true, Bool.true_and]
    exact plains_zip _ _ (lds_plain ls)
theorem lds_plain : ∀ ls : List Lay, PV.D.plains (lds ls) = true
  | [] => rfl
  | l :: ls => by simp [lds, PV.D.plains, Lay.plain l, lds_plain ls]
end
theorem depth_zip {k : Nat} : ∀ (ds : List PV.D) (ss : List Int), (∀ d ∈ ds, d.py.depth ≤ k) → PyData.depthAll (PV.D.pys (List.zipWith pt ds ss)) ≤ k + 1
  | [], _, _ => by simp [PV.D.pys, PyData.depthAll]
  | _ :: _, [], _ => by simp [PV.D.pys, PyData.depthAll]
  | d :: ds, s :: ss, h => by
    have h1 := h d (List.mem_cons_self ..)
    have h2 := depth_zip ds ss fun d m => h d (List.mem_cons_of_mem _ m)
    simp only [List.zipWith_cons_cons, PV.D.pys, PyData.depthAll, pt, PV.D.py, PyData.depth]
    omega
theorem Good.depth {B : Int} {M : Nat} : ∀ {d : Nat} {l : Lay}, Good B M d l → l.d.py.depth ≤ 3 * d := by
  intro d
  induction d with
  | zero => intro l h; cases h; simp [Lay.d, PV.D.py, PyData.depth]
  | succ d ih =>
    intro l h
    cases h with
    | pane n => simp [Lay.d, PV.D.py, PyData.depth]
    | node hl h2 hm hs hg =>
      rename_i b ls ss
      have := depth_zip (k := 3 * d) (lds ls) ss fun x hx => by
        rw [lds_map] at hx
        obtain ⟨l, hl, rfl⟩ := List.mem_map.mp hx
        exact ih (hg l hl)
      simp only [Lay.d, PV.D.py, PV.D.pys, PyData.depth, PyData.depthAll]
      omega
theorem Good.fine {B : Int} {M d : Nat} {l : Lay} (h : Good B M d l) (hd : d ≤ 21) : l.d.Fine := ⟨l.plain, by have := h.depth; omega⟩
/-! the least sizes -/
def comb (b : Bool) (qs : List (Int × Int)) : Int × Int := if b = true then (PV.lmax (qs.map (·.1)), (qs.map (·.2)).sum + ((qs.length : Int) - 1)) else ((qs.map (·.1)).sum + ((qs.length : Int) - 1), PV.lmax (qs.map (·.2)))
mutual
def Lay.least : Lay → Int × Int
  | .pane _ => (2, 1)
  | .node b ls _ => comb b (leasts ls)
def leasts : List Lay → List (Int × Int)
  | [] => []
  | l :: ls => l.least :: leasts ls
end
theorem leasts_map : ∀ ls : List Lay, leasts ls = ls.map Lay.least
  | [] => rfl
  | l :: ls => by simp [leasts, leasts_map ls]
theorem Lay.least_node {b : Bool} {ls : List Lay} {ss : List Int} : (Lay.node b ls ss).least = comb b (ls.map Lay.least) := by simp [Lay.least, leasts_map]

/-! the program's least -/
theorem app_one {α : Type} {a : List α} {x : α} {b : List α} : a ++ [x] ++ b = a ++ x :: b := by simp
theorem least_loop {n : Nat} {x0 x1 x2 : Option PV.DV} : ∀ (ls : List Lay) (ss : List Int) (a3 a4 : List Int) (x5 x6 x7 x8 x9 : Option PV.DV), ls.length = ss.length → a3.length + ls.length ≤ 1000000 → a4.length + ls.length ≤ 1000000 →
    (∀ l ∈ ls, f_least n [l.d] = some (.tup [.int l.least.1, .int l.least.2])) →
    ∃ y5 y6 y7 y8, PV.dLoop (e_least_t1 (f_least n))
      (ptsD ls ss) [x0, x1, x2, some (.own (a3.map .int)), some (.own (a4.map .int)), x5, x6, x7, x8, x9] =
      some (.nx [x0, x1, x2, some (.own ((a3 ++ ls.map fun l => l.least.1).map .int)), some (.own ((a4 ++ ls.map fun l => l.least.2).map .int)), y5, y6, y7, y8, x9])
  | [], _, a3, a4, x5, x6, x7, x8, x9, _, _, _, _ => ⟨x5, x6, x7, x8, by simp [ptsD, PV.dLoop]⟩
  | l :: ls, [], _, _, _, _, _, _, _, h, _, _, _ => by simp at h
  | l :: ls, s :: ss, a3, a4, x5, x6, x7, x8, x9, h, h3, h4, hr => by
    simp only [List.length_cons] at h h3 h4
    obtain ⟨y5, y6, y7, y8, e⟩ := least_loop (x0 := x0) (x1 := x1) (x2 := x2) ls ss (a3 ++ [l.least.1]) (a4 ++ [l.least.2]) (some (.dat l.d)) (some (.dat (.int s))) (some (.dat (.int l.least.1))) (some (.dat (.int l.least.2))) x9 (by omega) (by simp; omega) (by simp; omega) fun l m => hr l (List.mem_cons_of_mem _ m)
    refine ⟨y5, y6, y7, y8, ?_⟩
    have hl := hr l (List.mem_cons_self ..)
    have k3 : (List.map PV.D.int a3).length < PV.most := by rw [List.length_map]; unfold PV.most; omega
    have k4 : (List.map PV.D.int a4).length < PV.most := by rw [List.length_map]; unfold PV.most; omega
    have hs : ptsD (l :: ls) (s :: ss) = pt l.d s :: ptsD ls ss := rfl
    rw [hs, PV.dLoop_nx, e]
    · simp
    · simp only [e_least_t1, e_least_b1, pt, hl, k3, k4, PV.fin, PV.dSeq, PV.dIf, PV.dAsg, PV.dAsgO, PV.dRet, PV.dRetN, PV.dNext, PV.dBreak, PV.dCont, PV.dDrop, PV.dApp, PV.dExt, PV.dSetI, PV.dPop, PV.dAug, PV.dAugI, PV.dFrz, PV.onOwn, PV.gN, PV.gT, PV.gC, PV.gNs, PV.dVar, PV.vVar, PV.dC, PV.dOp, PV.fOp, PV.dNeg, PV.dNot, PV.dAnd, PV.dOr, PV.dIfE, PV.dNil, PV.dCons, PV.dTup, PV.fLst, PV.dLst, PV.dCall, PV.fCall, PV.dTest, PV.tst, PV.dTru, PV.tru, PV.dAndT, PV.dOrT, PV.dNotT, PV.dYes, PV.dChain, PV.dIsi, PV.isi, PV.tyn, PV.dPart, PV.dNoPart, PV.fSl, PV.lItems, PV.iOf, PV.dItems, PV.iBy, PV.sItems, PV.dwipe, PV.bMax2, PV.bMin2, PV.bAbs, PV.bInt, PV.bLen, PV.bTup, PV.bList, PV.dAdd, PV.dSub, PV.dLt, PV.dLe, PV.dGt, PV.dGe, PV.dIsN, PV.dNotN, PV.isNon_non, PV.isNon_int, PV.fAdd, PV.dIx_l, PV.dIx_t, PV.dIx_f, PV.at0, PV.at1, PV.at2, PV.at3, PV.at4, Option.bind_some, Option.map_some, Option.bind_none, Option.map_none, List.getElem?_cons_zero, List.getElem?_cons_succ, List.set_cons_zero, List.set_cons_succ, if_true, if_false, PV.kit_ii, PV.kit_ti, PV.kit_tt, PV.kit_ib, PV.kit_it, PV.kit_ll, PV.kit_li, Bool.not_true, Bool.not_false, Bool.false_eq_true, Bool.not_eq_true, reduceIte, List.length_cons, List.length_nil, Nat.reduceAdd, Nat.zero_add, PV.most_0, PV.most_1, PV.most_2, PV.most_3, PV.most_4, PV.most_5, PV.most_6, PV.most_7, decide_true, decide_false, List.nil_append, List.cons_append]
      simp
theorem least_ok {B : Int} {M : Nat} (hM : M ≤ 100000) : ∀ (d : Nat) {l : Lay}, Good B M d l → ∀ n, d < n → f_least n [l.d] = some (.tup [.int l.least.1, .int l.least.2]) := by
  intro d
  induction d with
  | zero =>
    intro l h n hn
    obtain ⟨m, rfl⟩ : ∃ m, n = m + 1 := ⟨n - 1, by omega⟩
    cases h
    rfl
  | succ d ih =>
    intro l h n hn
    obtain ⟨m, rfl⟩ : ∃ m, n = m + 1 := ⟨n - 1, by omega⟩
    cases h with
    | pane k => rfl
    | node hl h2 hm hs hg =>
      rename_i b ls ss
      obtain ⟨y5, y6, y7, y8, e⟩ := least_loop (n := m) (x0 := some (.dat (Lay.node b ls ss).d)) (x1 := some (.dat (.str (nm b)))) (x2 := some (.dat (.tup (ptsD ls ss)))) ls ss [] [] none none none none none hl (by simp; omega) (by simp; omega) fun l ml => ih (hg l ml) m (by omega)
      rw [Lay.d_node] at e ⊢
      rw [run_least]
      unfold e_least
      have hb : PV.dEq (.str (nm b)) (.str "beside") = some (.bl (!b)) := by
        rw [PV.dEq_str (nm_ok b) (by decide +kernel)]
        cases b <;> rfl
      simp only [List.map_nil, List.nil_append] at e
      simp only [e_least_l1_is, e, hb, PV.fin, PV.dSeq, PV.dIf, PV.dAsg, PV.dAsgO, PV.dRet, PV.dRetN, PV.dNext, PV.dBreak, PV.dCont, PV.dDrop, PV.dApp, PV.dExt, PV.dSetI, PV.dPop, PV.dAug, PV.dAugI, PV.dFrz, PV.onOwn, PV.gN, PV.gT, PV.gC, PV.gNs, PV.dVar, PV.vVar, PV.dC, PV.dOp, PV.fOp, PV.dNeg, PV.dNot, PV.dAnd, PV.dOr, PV.dIfE, PV.dNil, PV.dCons, PV.dTup, PV.fLst, PV.dLst, PV.dCall, PV.fCall, PV.dTest, PV.tst, PV.dTru, PV.tru, PV.dAndT, PV.dOrT, PV.dNotT, PV.dYes, PV.dChain, PV.dIsi, PV.isi, PV.tyn, PV.dPart, PV.dNoPart, PV.fSl, PV.lItems, PV.iOf, PV.dItems, PV.iBy, PV.sItems, PV.dwipe, PV.bMax2, PV.bMin2, PV.bAbs, PV.bInt, PV.bLen, PV.bTup, PV.bList, PV.dAdd, PV.dSub, PV.dLt, PV.dLe, PV.dGt, PV.dGe, PV.dIsN, PV.dNotN, PV.isNon_non, PV.isNon_int, PV.fAdd, PV.dIx_l, PV.dIx_t, PV.dIx_f, PV.at0, PV.at1, PV.at2, PV.at3, PV.at4, Option.bind_some, Option.map_some, Option.bind_none, Option.map_none, List.getElem?_cons_zero, List.getElem?_cons_succ, List.set_cons_zero, List.set_cons_succ, if_true, if_false, PV.kit_ii, PV.kit_ti, PV.kit_tt, PV.kit_ib, PV.kit_it, PV.kit_ll, PV.kit_li, Bool.not_true, Bool.not_false, Bool.false_eq_true, Bool.not_eq_true, reduceIte, List.length_cons, List.length_nil, Nat.reduceAdd, Nat.zero_add, PV.most_0, PV.most_1, PV.most_2, PV.most_3, PV.most_4, PV.most_5, PV.most_6, PV.most_7, decide_true, decide_false, List.nil_append, List.cons_append]
      have hlen : ((ptsD ls ss).length : Int) = ls.length := by rw [ptsD_len hl]
      have n1 : (ls.map fun l => l.least.1) ≠ [] := by intro z; simp at z; subst z; simp at h2
      have n2 : (ls.map fun l => l.least.2) ≠ [] := by intro z; simp at z; subst z; simp at h2
      cases b
      · simp only [PV.bSum_ints, PV.bMax_ints n1, PV.bMax_ints n2, hlen, PV.fin, PV.dSeq, PV.dIf, PV.dAsg, PV.dAsgO, PV.dRet, PV.dRetN, PV.dNext, PV.dBreak, PV.dCont, PV.dDrop, PV.dApp, PV.dExt, PV.dSetI, PV.dPop, PV.dAug, PV.dAugI, PV.dFrz, PV.onOwn, PV.gN, PV.gT, PV.gC, PV.gNs, PV.dVar, PV.vVar, PV.dC, PV.dOp, PV.fOp, PV.dNeg, PV.dNot, PV.dAnd, PV.dOr, PV.dIfE, PV.dNil, PV.dCons, PV.dTup, PV.fLst, PV.dLst, PV.dCall, PV.fCall, PV.dTest, PV.tst, PV.dTru, PV.tru, PV.dAndT, PV.dOrT, PV.dNotT, PV.dYes, PV.dChain, PV.dIsi, PV.isi, PV.tyn, PV.dPart, PV.dNoPart, PV.fSl, PV.lItems, PV.iOf, PV.dItems, PV.iBy, PV.sItems, PV.dwipe, PV.bMax2, PV.bMin2, PV.bAbs, PV.bInt, PV.bLen, PV.bTup, PV.bList, PV.dAdd, PV.dSub, PV.dLt, PV.dLe, PV.dGt, PV.dGe, PV.dIsN, PV.dNotN, PV.isNon_non, PV.isNon_int, PV.fAdd, PV.dIx_l, PV.dIx_t, PV.dIx_f, PV.at0, PV.at1, PV.at2, PV.at3, PV.at4, Option.bind_some, Option.map_some, Option.bind_none, Option.map_none, List.getElem?_cons_zero, List.getElem?_cons_succ, List.set_cons_zero, List.set_cons_succ, if_true, if_false, PV.kit_ii, PV.kit_ti, PV.kit_tt, PV.kit_ib, PV.kit_it, PV.kit_ll, PV.kit_li, Bool.not_true, Bool.not_false, Bool.false_eq_true, Bool.not_eq_true, reduceIte, List.length_cons, List.length_nil, Nat.reduceAdd, Nat.zero_add, PV.most_0, PV.most_1, PV.most_2, PV.most_3, PV.most_4, PV.most_5, PV.most_6, PV.most_7, decide_true, decide_false, List.nil_append, List.cons_append]
        simp [Lay.least_node, comb, List.map_map, Function.comp_def]
      · simp only [PV.bSum_ints, PV.bMax_ints n1, PV.bMax_ints n2, hlen, PV.fin, PV.dSeq, PV.dIf, PV.dAsg, PV.dAsgO, PV.dRet, PV.dRetN, PV.dNext, PV.dBreak, PV.dCont, PV.dDrop, PV.dApp, PV.dExt, PV.dSetI, PV.dPop, PV.dAug, PV.dAugI, PV.dFrz, PV.onOwn, PV.gN, PV.gT, PV.gC, PV.gNs, PV.dVar, PV.vVar, PV.dC, PV.dOp, PV.fOp, PV.dNeg, PV.dNot, PV.dAnd, PV.dOr, PV.dIfE, PV.dNil, PV.dCons, PV.dTup, PV.fLst, PV.dLst, PV.dCall, PV.fCall, PV.dTest, PV.tst, PV.dTru, PV.tru, PV.dAndT, PV.dOrT, PV.dNotT, PV.dYes, PV.dChain, PV.dIsi, PV.isi, PV.tyn, PV.dPart, PV.dNoPart, PV.fSl, PV.lItems, PV.iOf, PV.dItems, PV.iBy, PV.sItems, PV.dwipe, PV.bMax2, PV.bMin2, PV.bAbs, PV.bInt, PV.bLen, PV.bTup, PV.bList, PV.dAdd, PV.dSub, PV.dLt, PV.dLe, PV.dGt, PV.dGe, PV.dIsN, PV.dNotN, PV.isNon_non, PV.isNon_int, PV.fAdd, PV.dIx_l, PV.dIx_t, PV.dIx_f, PV.at0, PV.at1, PV.at2, PV.at3, PV.at4, Option.bind_some, Option.map_some, Option.bind_none, Option.map_none, List.getElem?_cons_zero, List.getElem?_cons_succ, List.set_cons_zero, List.set_cons_succ, if_true, if_false, PV.kit_ii, PV.kit_ti, PV.kit_tt, PV.kit_ib, PV.kit_it, PV.kit_ll, PV.kit_li, Bool.not_true, Bool.not_false, Bool.false_eq_true, Bool.not_eq_true, reduceIte, List.length_cons, List.length_nil, Nat.reduceAdd, Nat.zero_add, PV.most_0, PV.most_1, PV.most_2, PV.most_3, PV.most_4, PV.most_5, PV.most_6, PV.most_7, decide_true, decide_false, List.nil_append, List.cons_append]
        simp [Lay.least_node, comb, List.map_map, Function.comp_def]

/-! ## the law's own: panes, least sizes, sharing -/
mutual
def Lay.panes : Lay → List Int
  | .pane n => [n]
  | .node _ ls _ => paness ls
def paness : List Lay → List Int
  | [] => []
  | l :: ls => l.panes ++ paness ls
end
theorem paness_is : ∀ ls : List Lay, paness ls = ls.flatMap Lay.panes
  | [] => rfl
  | l :: ls => by simp [paness, paness_is ls]
theorem Lay.panes_node {b : Bool} {ls : List Lay} {ss : List Int} : (Lay.node b ls ss).panes = ls.flatMap Lay.panes := by simp [Lay.panes, paness_is]
theorem panes_sub {l : Lay} {ls : List Lay} (h : l ∈ ls) : l.panes.length ≤ (ls.flatMap Lay.panes).length := by
  induction ls with
  | nil => cases h
  | cons k ls ih =>
    rw [List.flatMap_cons, List.length_append]
    rcases List.mem_cons.mp h with e | e
    · subst e; omega
    · have := ih e; omega
/-! least -/
theorem getElem_pts {ls : List Lay} {ss : List Int} {i : Nat} {d : PV.D} (h : (ptsD ls ss)[i]? = some d) : ∃ l s, ls[i]? = some l ∧ ss[i]? = some s ∧ d = pt l.d s := by
  unfold ptsD at h
  rw [List.getElem?_zipWith] at h
  cases hl : ls[i]? with
  | none => rw [hl] at h; cases h
  | some l =>
    cases hs : ss[i]? with
    | none => rw [hl, hs] at h; cases h
    | some s => rw [hl, hs] at h; cases h; exact ⟨l, s, rfl, rfl, rfl⟩
theorem mem_pts {ls : List Lay} {ss : List Int} {d : PV.D} (h : d ∈ ptsD ls ss) : ∃ l ∈ ls, ∃ s ∈ ss, d = pt l.d s := by
  obtain ⟨i, hi⟩ := List.getElem?_of_mem h
  obtain ⟨l, s, h1, h2, h3⟩ := getElem_pts hi
  exact ⟨l, List.mem_of_getElem? h1, s, List.mem_of_getElem? h2, h3⟩
/-- the first of a pair as it is in the data -/
theorem comp_pts {step : PV.D → Option (Option PV.D)} {f : Lay → PV.D} : ∀ (ls : List Lay) (ss : List Int) (acc : List PV.D), ls.length = ss.length → (∀ l ∈ ls, ∀ s, step (pt l.d s) = some (some (f l))) → acc.length + ls.length ≤ 1000000 →
    PV.dComp step (ptsD ls ss) acc = some (acc ++ ls.map f)
  | [], _, acc, _, _, _ => by simp [ptsD, PV.dComp]
  | l :: ls, [], _, h, _, _ => by simp at h
  | l :: ls, s :: ss, acc, h, hs, hl => by
    simp only [List.length_cons] at h hl
    have e : ptsD (l :: ls) (s :: ss) = pt l.d s :: ptsD ls ss := rfl
    rw [e]
    unfold PV.dComp
    rw [hs l (List.mem_cons_self ..) s]
    show (if acc.length < PV.most then PV.dComp step (ptsD ls ss) (acc ++ [f l]) else none) = _
    rw [if_pos (show acc.length < PV.most from by unfold PV.most; omega), comp_pts ls ss _ (by omega) (fun l m => hs l (List.mem_cons_of_mem _ m)) (by rw [List.length_append]; simp; omega)]
    simp
/-- .. the second -/
theorem comp_pts2 {step : PV.D → Option (Option PV.D)} {f : Int → PV.D} : ∀ (ls : List Lay) (ss : List Int) (acc : List PV.D), ls.length = ss.length → (∀ (l : Lay) (s : Int), step (pt l.d s) = some (some (f s))) → acc.length + ls.length ≤ 1000000 →
    PV.dComp step (ptsD ls ss) acc = some (acc ++ ss.map f)
  | [], [], acc, _, _, _ => by simp [ptsD, PV.dComp]
  | [], _ :: _, acc, h, _, _ => by simp at h
  | l :: ls, [], _, h, _, _ => by simp at h
  | l :: ls, s :: ss, acc, h, hs, hl => by
    simp only [List.length_cons] at h hl
    have e : ptsD (l :: ls) (s :: ss) = pt l.d s :: ptsD ls ss := rfl
    rw [e]
    unfold PV.dComp
    rw [hs l s]
    show (if acc.length < PV.most then PV.dComp step (ptsD ls ss) (acc ++ [f s]) else none) = _
    rw [if_pos (show acc.length < PV.most from by unfold PV.most; omega), comp_pts2 ls ss _ (by omega) hs (by rw [List.length_append]; simp; omega)]
    simp
def prD (q : Int × Int) : PV.D := .lst [.int q.1, .int q.2]
/-! ## sharing -/
def ex0 (ms ss : List Int) : List Int := List.zipWith (fun m s => max 0 (s - m)) ms ss
def exs (ms ss : List Int) : List Int := if PV.lmax (ex0 ms ss) = 0 then (ex0 ms ss).map (fun _ => 1) else ex0 ms ss
def gv (ex ns : List Int) (left : Int) : Nat → List Int × Int
  | 0 => (ns, left)
  | i + 1 => if 0 < ex.getD i 0 ∧ 0 < (gv ex ns left i).2 then ((gv ex ns left i).1.set i ((gv ex ns left i).1.getD i 0 + 1), (gv ex ns left i).2 - 1) else gv ex ns left i
theorem gv_len {ex ns : List Int} {left : Int} : ∀ i, (gv ex ns left i).1.length = ns.length
  | 0 => rfl
  | i + 1 => by unfold gv; split <;> simp [gv_len i]
def spareOf (t : Int) (ms : List Int) : Int := max 0 (t - ms.length + 1 - ms.sum)
def news (t : Int) (ms ss : List Int) : List Int := List.zipWith (fun m e => m + spareOf t ms * e / (exs ms ss).sum) ms (exs ms ss)
def leftOf (t : Int) (ms ss : List Int) : Int := spareOf t ms + ms.sum - (news t ms ss).sum
def share (t : Int) (ms ss : List Int) : List Int := (gv (exs ms ss) (news t ms ss) (leftOf t ms ss) ms.length).1
theorem ex0_len {ms ss : List Int} (h : ms.length = ss.length) : (ex0 ms ss).length = ms.length := by simp [ex0, h]
theorem exs_len {ms ss : List Int} (h : ms.length = ss.length) : (exs ms ss).length = ms.length := by unfold exs; split <;> simp [ex0_len h]
theorem news_len {t : Int} {ms ss : List Int} (h : ms.length = ss.length) : (news t ms ss).length = ms.length := by simp [news, exs_len h]
theorem share_len {t : Int} {ms ss : List Int} (h : ms.length = ss.length) : (share t ms ss).length = ms.length := by rw [share, gv_len, news_len h]
theorem mem_zip {α β γ : Type} {f : α → β → γ} {xs : List α} {ys : List β} {z : γ} (h : z ∈ List.zipWith f xs ys) : ∃ x ∈ xs, ∃ y ∈ ys, z = f x y := by
  obtain ⟨i, hi⟩ := List.getElem?_of_mem h
  rw [List.getElem?_zipWith] at hi
  cases hx : xs[i]? with
  | none => rw [hx] at hi; cases hi
  | some x =>
    cases hy : ys[i]? with
    | none => rw [hx, hy] at hi; cases hi
    | some y => rw [hx, hy] at hi; cases hi; exact ⟨x, List.mem_of_getElem? hx, y, List.mem_of_getElem? hy, rfl⟩
theorem ex0_in {ms ss : List Int} {C : Int} (hm : ∀ m ∈ ms, 0 ≤ m ∧ m ≤ C) (hs : ∀ s ∈ ss, 0 ≤ s ∧ s ≤ C) : ∀ e ∈ ex0 ms ss, 0 ≤ e ∧ e ≤ C := fun e h => by
  obtain ⟨m, h1, s, h2, rfl⟩ := mem_zip h
  have := hm m h1
  have := hs s h2
  omega
theorem sum_ge : ∀ {l : List Int}, (∀ x ∈ l, 0 ≤ x) → 0 ≤ l.sum ∧ ∀ x ∈ l, x ≤ l.sum
  | [], _ => ⟨by simp, fun _ h => by cases h⟩
  | a :: l, h => by
    obtain ⟨h1, h2⟩ := sum_ge (l := l) fun x m => h x (List.mem_cons_of_mem _ m)
    have := h a (List.mem_cons_self ..)
    refine ⟨by rw [List.sum_cons]; omega, fun x m => ?_⟩
    rw [List.sum_cons]
    rcases List.mem_cons.mp m with e | e
    · subst e; omega
    · have := h2 x e; omega
theorem sum_le : ∀ {l : List Int} {C : Int}, 0 ≤ C → (∀ x ∈ l, x ≤ C) → l.sum ≤ l.length * C
  | [], _, _, _ => by simp
  | a :: l, C, hC, h => by
    have h1 := sum_le (l := l) hC fun x m => h x (List.mem_cons_of_mem _ m)
    have h2 := h a (List.mem_cons_self ..)
    rw [List.sum_cons, List.length_cons]
    have : ((l.length + 1 : Nat) : Int) * C = l.length * C + C := by rw [Int.natCast_add, Int.add_mul]; simp
    omega
theorem lmax_mem : ∀ {l : List Int}, l ≠ [] → PV.lmax l ∈ l
  | [], h => (h rfl).elim
  | a :: l, _ => by
    rcases PV.foldl_max_mem l a with h | h
    · show l.foldl max a ∈ _
      rw [h]; exact List.mem_cons_self ..
    · exact List.mem_cons_of_mem _ h
theorem lmax_ge : ∀ {l : List Int}, ∀ x ∈ l, x ≤ PV.lmax l
  | [], _, h => by cases h
  | a :: l, x, h => by
    obtain ⟨h1, h2⟩ := PV.foldl_max_ge l a
    rcases List.mem_cons.mp h with e | e
    · subst e; exact h1
    · exact h2 x e
theorem exs_pos {ms ss : List Int} (h : ms.length = ss.length) (hn : ms ≠ []) : 0 < (exs ms ss).sum ∧ ∀ e ∈ exs ms ss, 0 ≤ e := by
  have hx : ∀ e ∈ ex0 ms ss, 0 ≤ e := fun e m => by
    obtain ⟨a, _, b, _, rfl⟩ := mem_zip m
    omega
  have hne : ex0 ms ss ≠ [] := by
    intro z
    have := ex0_len h
    rw [z] at this
    exact hn (List.length_eq_zero_iff.mp this.symm)
  unfold exs
  split
  · have : ∀ e ∈ (ex0 ms ss).map (fun _ => (1 : Int)), 0 ≤ e := fun e m => by
      obtain ⟨_, _, rfl⟩ := List.mem_map.mp m
      omega
    refine ⟨?_, this⟩
    obtain ⟨x, hx⟩ := List.exists_mem_of_ne_nil _ hne
    have := (sum_ge this).2 1 (List.mem_map.mpr ⟨x, hx, rfl⟩)
    omega
  · rename_i h0
    refine ⟨?_, hx⟩
    have h1 := lmax_mem hne
    have h2 := (sum_ge hx).2 _ h1
    have h3 := hx _ h1
    omega
theorem exs_in {ms ss : List Int} {C : Int} (hC : 1 ≤ C) (hm : ∀ m ∈ ms, 0 ≤ m ∧ m ≤ C) (hs : ∀ s ∈ ss, 0 ≤ s ∧ s ≤ C) : ∀ e ∈ exs ms ss, 0 ≤ e ∧ e ≤ C := by
  unfold exs
  split
  · intro e m
    obtain ⟨_, _, rfl⟩ := List.mem_map.mp m
    omega
  · exact ex0_in hm hs
/-- what the sharing is asked for -/
structure ShOk (t : Int) (ms ss : List Int) : Prop where
  n : ms.length = ss.length
  ne : ms ≠ []
  l : ms.length ≤ 100000
  t : -1000000000 ≤ t ∧ t ≤ 1000000000
  m : ∀ m ∈ ms, 0 ≤ m ∧ m ≤ 1000000000
  s : ∀ s ∈ ss, 0 ≤ s ∧ s ≤ 1000000000
theorem ShOk.sum {t : Int} {ms ss : List Int} (h : ShOk t ms ss) : 0 < (exs ms ss).sum ∧ (exs ms ss).sum ≤ 100000 * 1000000000 := by
  refine ⟨(exs_pos h.n h.ne).1, ?_⟩
  have h1 := sum_le (l := exs ms ss) (C := 1000000000) (by decide) fun e m => (exs_in (by decide) h.m h.s e m).2
  rw [exs_len h.n] at h1
  have := h.l
  omega
theorem ShOk.spare {t : Int} {ms ss : List Int} (h : ShOk t ms ss) : 0 ≤ spareOf t ms ∧ spareOf t ms ≤ 1000000001 := by
  have := (sum_ge fun m k => (h.m m k).1).1
  have := h.t
  unfold spareOf
  omega
theorem getD_get {l : List Int} {k : Nat} (h : k < l.length) : l.getD k 0 = l[k] := by rw [List.getD_eq_getElem?_getD, List.getElem?_eq_getElem h]; rfl
theorem at_0k {l : List Int} {k : Nat} (hk : k < l.length) : atI (l.map PV.D.int) (0 + (k : Int)) = some (.int l[k]) := by rw [Int.zero_add]; exact PV.at_map hk
theorem ShOk.nex {t : Int} {ms ss : List Int} (h : ShOk t ms ss) : ex0 ms ss ≠ [] := by
  intro z
  have := ex0_len h.n
  rw [z] at this
  exact h.ne (List.length_eq_zero_iff.mp this.symm)
/-! what the sharing gives -/
def posN (ex : List Int) : Nat → Nat
  | 0 => 0
  | i + 1 => posN ex i + if 0 < ex.getD i 0 then 1 else 0
theorem sum_set : ∀ {l : List Int} {i : Nat} {x : Int}, i < l.length → (l.set i x).sum = l.sum - l.getD i 0 + x
  | [], _, _, h => by simp at h
  | a :: l, 0, x, _ => by simp; omega
  | a :: l, i + 1, x, h => by
    have := sum_set (l := l) (i := i) (x := x) (by simpa using h)
    simp only [List.set_cons_succ, List.sum_cons, List.getD_cons_succ]
    omega
theorem gv_snd {ex ns : List Int} {left : Int} (h0 : 0 ≤ left) : ∀ i, (gv ex ns left i).2 = max 0 (left - posN ex i)
  | 0 => by show left = max 0 (left - ((0 : Nat) : Int)); omega
  | i + 1 => by
    have ih := gv_snd (ex := ex) (ns := ns) h0 i
    have e1 : posN ex (i + 1) = posN ex i + if 0 < ex.getD i 0 then 1 else 0 := rfl
    rw [e1]
    unfold gv
    by_cases c : 0 < ex.getD i 0
    · rw [if_pos c]
      by_cases c2 : 0 < (gv ex ns left i).2
      · rw [if_pos ⟨c, c2⟩]; show (gv ex ns left i).2 - 1 = _; omega
      · rw [if_neg (fun z => c2 z.2)]; omega
    · rw [if_neg (fun z => c z.1), if_neg c]; omega
theorem gv_sum {ex ns : List Int} {left : Int} : ∀ i, i ≤ ns.length → (gv ex ns left i).1.sum + (gv ex ns left i).2 = ns.sum + left
  | 0, _ => rfl
  | i + 1, h => by
    have ih := gv_sum (ex := ex) (ns := ns) (left := left) i (by omega)
    unfold gv
    split
    · show ((gv ex ns left i).1.set i _).sum + ((gv ex ns left i).2 - 1) = _
      rw [sum_set (by rw [gv_len]; omega)]
      omega
    · exact ih
theorem getD_set {l : List Int} {i j : Nat} {x : Int} : (l.set i x).getD j 0 = if i = j ∧ j < l.length then x else l.getD j 0 := by
  rw [List.getD_eq_getElem?_getD, List.getD_eq_getElem?_getD]
  by_cases e : i = j
  · subst e
    by_cases hl : i < l.length
    · rw [List.getElem?_set_self hl, if_pos ⟨rfl, hl⟩]; rfl
    · rw [List.getElem?_eq_none (by rw [List.length_set]; omega), if_neg (fun z => hl z.2), List.getElem?_eq_none (by omega)]
  · rw [List.getElem?_set_ne e, if_neg (fun z => e z.1)]
theorem gv_ge {ex ns : List Int} {left : Int} : ∀ i j, ns.getD j 0 ≤ (gv ex ns left i).1.getD j 0
  | 0, j => Int.le_refl _
  | i + 1, j => by
    have ih := gv_ge (ex := ex) (ns := ns) (left := left) i j
    unfold gv
    split
    · show ns.getD j 0 ≤ ((gv ex ns left i).1.set i _).getD j 0
      rw [getD_set]
      split
      · rename_i h; obtain ⟨rfl, _⟩ := h; omega
      · exact ih
    · exact ih
/-- floors: what is left is at most one for each that is not 0 -/
theorem floors (k S : Int) (hS : 0 < S) (hk : 0 ≤ k) : ∀ ex : List Int, (∀ e ∈ ex, 0 ≤ e) → 0 ≤ k * ex.sum - S * (ex.map fun e => k * e / S).sum ∧ k * ex.sum - S * (ex.map fun e => k * e / S).sum ≤ (S - 1) * ((ex.filter fun e => decide (0 < e)).length : Int)
  | [], _ => by simp
  | e :: ex, h => by
    obtain ⟨h1, h2⟩ := floors k S hS hk ex fun x m => h x (List.mem_cons_of_mem _ m)
    have he := h e (List.mem_cons_self ..)
    have q1 := Int.emod_nonneg (k * e) (show S ≠ 0 by omega)
    have q2 := Int.emod_lt_of_pos (k * e) hS
    have q3 := Int.mul_ediv_add_emod (k * e) S
    simp only [List.sum_cons, List.map_cons, List.filter_cons]
    rw [Int.mul_add, Int.mul_add]
    by_cases c : 0 < e
    · simp only [c, decide_true, if_true, List.length_cons]
      have : (S - 1) * (((ex.filter fun e => decide (0 < e)).length + 1 : Nat) : Int) = (S - 1) * ((ex.filter fun e => decide (0 < e)).length : Int) + (S - 1) := by rw [Int.natCast_add, Int.mul_add]; simp
      constructor <;> omega
    · have e0 : e = 0 := by omega
      subst e0
      simp only [Int.mul_zero, Int.zero_ediv]
      simp
      constructor <;> omega
theorem posN_filter : ∀ (ex : List Int), posN ex ex.length = (ex.filter fun e => decide (0 < e)).length := by
  have key : ∀ (ex : List Int) (a : Int) (i : Nat), posN (a :: ex) (i + 1) = (if 0 < a then 1 else 0) + posN ex i := by
    intro ex a i
    induction i with
    | zero => simp [posN]
    | succ i ih =>
      have e1 : posN (a :: ex) (i + 1 + 1) = posN (a :: ex) (i + 1) + if 0 < (a :: ex).getD (i + 1) 0 then 1 else 0 := rfl
      have e2 : posN ex (i + 1) = posN ex i + if 0 < ex.getD i 0 then 1 else 0 := rfl
      rw [e1, ih, e2, List.getD_cons_succ]
      omega
  intro ex
  induction ex with
  | nil => rfl
  | cons a ex ih =>
    rw [List.length_cons, key, ih, List.filter_cons]
    by_cases c : 0 < a
    · simp [c]; omega
    · simp [c]
theorem zip_sum {k S : Int} : ∀ (ms ex : List Int), ms.length = ex.length → (List.zipWith (fun m e => m + k * e / S) ms ex).sum = ms.sum + (ex.map fun e => k * e / S).sum
  | [], [], _ => rfl
  | [], _ :: _, h => by simp at h
  | _ :: _, [], h => by simp at h
  | m :: ms, e :: ex, h => by
    simp only [List.zipWith_cons_cons, List.sum_cons, List.map_cons, zip_sum ms ex (by simpa using h)]
    omega
theorem left_ok {t : Int} {ms ss : List Int} (h : ms.length = ss.length) (hn : ms ≠ []) : 0 ≤ leftOf t ms ss ∧ leftOf t ms ss ≤ posN (exs ms ss) (exs ms ss).length := by
  obtain ⟨hS, he⟩ := exs_pos h hn
  have hk : 0 ≤ spareOf t ms := by unfold spareOf; omega
  obtain ⟨f1, f2⟩ := floors (spareOf t ms) (exs ms ss).sum hS hk (exs ms ss) he
  have e1 : leftOf t ms ss = spareOf t ms - ((exs ms ss).map fun e => spareOf t ms * e / (exs ms ss).sum).sum := by
    unfold leftOf news
    rw [zip_sum _ _ (exs_len h).symm]
    omega
  have e2 : spareOf t ms * (exs ms ss).sum - (exs ms ss).sum * ((exs ms ss).map fun e => spareOf t ms * e / (exs ms ss).sum).sum = (exs ms ss).sum * leftOf t ms ss := by
    rw [e1, Int.mul_sub, Int.mul_comm]
  rw [e2] at f1 f2
  rw [posN_filter]
  constructor
  · apply Int.le_of_not_gt
    intro c
    have := Int.mul_neg_of_pos_of_neg hS c
    omega
  · apply Int.le_of_not_gt
    intro c
    have c' : ((exs ms ss).filter fun e => decide (0 < e)).length + 1 ≤ leftOf t ms ss := by omega
    have m1 := Int.mul_le_mul_of_nonneg_left c' (Int.le_of_lt hS)
    have m2 : ((exs ms ss).sum - 1) * (((exs ms ss).filter fun e => decide (0 < e)).length : Int) ≤ (exs ms ss).sum * (((exs ms ss).filter fun e => decide (0 < e)).length : Int) := Int.mul_le_mul_of_nonneg_right (by omega) (by omega)
    rw [Int.mul_add, Int.mul_one] at m1
    omega
theorem share_sum {t : Int} {ms ss : List Int} (h : ms.length = ss.length) (hn : ms ≠ []) : (share t ms ss).sum = spareOf t ms + ms.sum := by
  obtain ⟨l0, l1⟩ := left_ok (t := t) h hn
  have g1 := gv_sum (ex := exs ms ss) (ns := news t ms ss) (left := leftOf t ms ss) ms.length (by rw [news_len h]; omega)
  have g2 := gv_snd (ex := exs ms ss) (ns := news t ms ss) l0 ms.length
  rw [exs_len h] at l1
  unfold share
  rw [g2] at g1
  unfold leftOf at *
  omega
theorem news_ge {t : Int} {ms ss : List Int} (h : ms.length = ss.length) (hn : ms ≠ []) {j : Nat} (hj : j < ms.length) : ms.getD j 0 ≤ (news t ms ss).getD j 0 := by
  obtain ⟨hS, he⟩ := exs_pos h hn
  have hk : 0 ≤ spareOf t ms := by unfold spareOf; omega
  have hj2 : j < (exs ms ss).length := by rw [exs_len h]; exact hj
  have hj3 : j < (news t ms ss).length := by rw [news_len h]; exact hj
  rw [getD_get hj, getD_get hj3]
  simp only [news, List.getElem_zipWith]
  have := Int.ediv_nonneg (Int.mul_nonneg hk (he _ (List.getElem_mem hj2))) (Int.le_of_lt hS)
  omega
theorem share_ge {t : Int} {ms ss : List Int} (h : ms.length = ss.length) (hn : ms ≠ []) {j : Nat} (hj : j < ms.length) : ms.getD j 0 ≤ (share t ms ss).getD j 0 := Int.le_trans (news_ge h hn hj) (gv_ge _ _)
theorem share_mem {t : Int} {ms ss : List Int} (h : ms.length = ss.length) (hn : ms ≠ []) (hm : ∀ m ∈ ms, 0 ≤ m) : ∀ z ∈ share t ms ss, 0 ≤ z ∧ z ≤ spareOf t ms + ms.sum := by
  have pos : ∀ z ∈ share t ms ss, 0 ≤ z := fun z hz => by
    obtain ⟨j, hj⟩ := List.getElem?_of_mem hz
    obtain ⟨h1, h2⟩ := List.getElem?_eq_some_iff.mp hj
    have hj1 : j < ms.length := by rw [← share_len (t := t) h]; exact h1
    have := share_ge (t := t) h hn hj1
    rw [getD_get h1, h2] at this
    have := hm _ (List.getElem_mem hj1)
    rw [getD_get hj1] at *
    omega
  intro z hz
  have := (sum_ge pos).2 z hz
  rw [share_sum h hn] at this
  exact ⟨pos z hz, this⟩
/-- sizes that are right stay -/
theorem share_same {t : Int} {ms ss : List Int} (h : ms.length = ss.length) (hn : ms ≠ []) (hs : ss.sum + ((ms.length : Int) - 1) = t) (hge : ∀ j, j < ms.length → ms.getD j 0 ≤ ss.getD j 0) : share t ms ss = ss := by
  have exE : ∀ j, j < ms.length → (ex0 ms ss).getD j 0 = ss.getD j 0 - ms.getD j 0 := fun j hj => by
    have h2 : j < (ex0 ms ss).length := by rw [ex0_len h]; exact hj
    have h3 : j < ss.length := by rw [← h]; exact hj
    have := hge j hj
    rw [getD_get h2, getD_get hj, getD_get h3] at *
    simp only [ex0, List.getElem_zipWith]
    omega
  have exS : (ex0 ms ss).sum = ss.sum - ms.sum := by
    have : ∀ (ms ss : List Int), ms.length = ss.length → (∀ j, j < ms.length → ms.getD j 0 ≤ ss.getD j 0) → (ex0 ms ss).sum = ss.sum - ms.sum := by
      intro ms
      induction ms with
      | nil => intro ss h _; cases ss with
        | nil => rfl
        | cons _ _ => simp at h
      | cons m ms ih =>
        intro ss h hg
        cases ss with
        | nil => simp at h
        | cons s ss =>
          have := ih ss (by simpa using h) fun j hj => by simpa using hg (j + 1) (by simpa using hj)
          have h0 := hg 0 (by simp)
          simp only [List.getD_cons_zero] at h0
          simp only [ex0, List.zipWith_cons_cons, List.sum_cons] at this ⊢
          omega
    exact this ms ss h hge
  have ex0p : ∀ e ∈ ex0 ms ss, 0 ≤ e := fun e m => by
    obtain ⟨a, _, b, _, rfl⟩ := mem_zip m
    omega
  have sp : spareOf t ms = (ex0 ms ss).sum := by
    have := (sum_ge ex0p).1
    unfold spareOf
    omega
  have hnews : news t ms ss = ss := by
    refine List.ext_getElem (by rw [news_len h, h]) fun j h1 h2 => ?_
    have hj : j < ms.length := by rw [h]; exact h2
    have hj2 : j < (exs ms ss).length := by rw [exs_len h]; exact hj
    have hnj : (news t ms ss)[j] = ms[j] + spareOf t ms * (exs ms ss)[j] / (exs ms ss).sum := by simp only [news, List.getElem_zipWith]
    rw [hnj]
    have hE := exE j hj
    have h3 : j < (ex0 ms ss).length := by rw [ex0_len h]; exact hj
    rw [getD_get h3, getD_get h2, getD_get hj] at hE
    by_cases c : PV.lmax (ex0 ms ss) = 0
    · have z : ∀ e ∈ ex0 ms ss, e = 0 := fun e m => by
        have := ex0p e m
        have := lmax_ge e m
        omega
      have s0 : (ex0 ms ss).sum = 0 := by
        have : ∀ l : List Int, (∀ e ∈ l, e = 0) → l.sum = 0 := by
          intro l
          induction l with
          | nil => intro _; rfl
          | cons a l ih => intro h; rw [List.sum_cons, h a (List.mem_cons_self ..), ih fun e m => h e (List.mem_cons_of_mem _ m)]; rfl
        exact this _ z
      have := z _ (List.getElem_mem h3)
      rw [sp, s0, Int.zero_mul, Int.zero_ediv]
      omega
    · have e1 : exs ms ss = ex0 ms ss := by unfold exs; rw [if_neg c]
      have hp := (exs_pos h hn).1
      have e2 : (exs ms ss)[j] = (ex0 ms ss)[j] := by simp only [e1]
      have e3 : (exs ms ss).sum = (ex0 ms ss).sum := by rw [e1]
      rw [e2, sp, e3, Int.mul_ediv_cancel_left _ (by omega)]
      omega
  have hleft : leftOf t ms ss = 0 := by
    unfold leftOf
    rw [hnews, sp, exS]; omega
  have : ∀ i, gv (exs ms ss) ss 0 i = (ss, 0) := by
    intro i
    induction i with
    | zero => rfl
    | succ i ih => unfold gv; rw [ih, if_neg (fun z => by simpa using z.2)]
  unfold share
  rw [hnews, hleft, this]

/-! ## fitting -/
def al (b : Bool) (q : Int × Int) : Int := if b = true then q.2 else q.1
mutual
def Lay.fit : Lay → Int → Int → Lay
  | .pane n, _, _ => .pane n
  | .node b ls ss, w, h => .node b (fits b (max w (comb b (leasts ls)).1) (max h (comb b (leasts ls)).2) ls (share (al b (max w (comb b (leasts ls)).1, max h (comb b (leasts ls)).2)) ((leasts ls).map (al b)) ss))
    (share (al b (max w (comb b (leasts ls)).1, max h (comb b (leasts ls)).2)) ((leasts ls).map (al b)) ss)
def fits (b : Bool) (w h : Int) : List Lay → List Int → List Lay
  | [], _ => []
  | l :: ls, zs => l.fit (if b = true then w else zs.headD 0) (if b = true then zs.headD 0 else h) :: fits b w h ls zs.tail
end
theorem fits_len {b : Bool} {w h : Int} : ∀ (ls : List Lay) (zs : List Int), (fits b w h ls zs).length = ls.length
  | [], _ => rfl
  | l :: ls, zs => by simp [fits, fits_len ls]
theorem fits_get {b : Bool} {w h : Int} : ∀ (ls : List Lay) (zs : List Int) (i : Nat) (hi : i < ls.length), (fits b w h ls zs)[i]'(by rw [fits_len]; exact hi) = (ls[i]).fit (if b = true then w else zs.getD i 0) (if b = true then zs.getD i 0 else h)
  | [], _, _, hi => by simp at hi
  | l :: ls, zs, 0, _ => by
    simp only [fits, List.getElem_cons_zero]
    cases zs <;> rfl
  | l :: ls, zs, i + 1, hi => by
    simp only [fits, List.getElem_cons_succ]
    rw [fits_get ls zs.tail i (by simpa using hi)]
    cases zs <;> rfl
/-- the room of a layout, its parts' least sizes and new ones -/
def Lay.W (l : Lay) (w : Int) : Int := max w l.least.1
def Lay.H (l : Lay) (h : Int) : Int := max h l.least.2
def lows (b : Bool) (ls : List Lay) : List Int := ls.map fun l => al b l.least
def zsOf (b : Bool) (ls : List Lay) (ss : List Int) (w h : Int) : List Int := share (al b ((Lay.node b ls ss).W w, (Lay.node b ls ss).H h)) (lows b ls) ss
theorem Lay.fit_node {b : Bool} {ls : List Lay} {ss : List Int} {w h : Int} : (Lay.node b ls ss).fit w h = .node b (fits b ((Lay.node b ls ss).W w) ((Lay.node b ls ss).H h) ls (zsOf b ls ss w h)) (zsOf b ls ss w h) := by
  simp only [Lay.fit, zsOf, Lay.W, Lay.H, Lay.least, lows, leasts_map, List.map_map]
  rfl
theorem lows_len {b : Bool} {ls : List Lay} : (lows b ls).length = ls.length := by simp [lows]
theorem lows_get {b : Bool} {ls : List Lay} {i : Nat} (hi : i < ls.length) : (lows b ls).getD i 0 = al b ls[i].least := by
  rw [getD_get (by rw [lows_len]; exact hi)]; simp [lows]
theorem al_node {b : Bool} {ls : List Lay} {ss : List Int} : al b (Lay.node b ls ss).least = (lows b ls).sum + ((ls.length : Int) - 1) := by
  rw [Lay.least_node]
  cases b <;> simp [al, comb, lows, List.map_map, Function.comp_def]
theorem across {b : Bool} {ls : List Lay} {ss : List Int} {l : Lay} (h : l ∈ ls) : al (!b) l.least ≤ al (!b) (Lay.node b ls ss).least := by
  rw [Lay.least_node]
  cases b
  · exact lmax_ge _ (List.mem_map.mpr ⟨l.least, List.mem_map.mpr ⟨l, h, rfl⟩, rfl⟩)
  · exact lmax_ge _ (List.mem_map.mpr ⟨l.least, List.mem_map.mpr ⟨l, h, rfl⟩, rfl⟩)
/-- least sizes are positive and not larger than the panes allow -/
theorem Good.least {B : Int} {M : Nat} : ∀ {d : Nat} {l : Lay}, Good B M d l → 2 ≤ l.least.1 ∧ 1 ≤ l.least.2 ∧ 0 < l.panes.length ∧ l.least.1 ≤ 3 * (l.panes.length : Int) - 1 ∧ l.least.2 ≤ 2 * (l.panes.length : Int) - 1 := by
  intro d
  induction d with
  | zero => intro l h; cases h; simp [Lay.least, Lay.panes]
  | succ d ih =>
    intro l h
    cases h with
    | pane n => simp [Lay.least, Lay.panes]
    | node hl h2 hm hs hg =>
      rename_i b ls ss
      rw [Lay.panes_node, Lay.least_node]
      have sums : ∀ ks : List Lay, (∀ l ∈ ks, l ∈ ls) → (2 * (ks.length : Int) ≤ ((ks.map Lay.least).map (·.1)).sum ∧ (ks.length : Int) ≤ ((ks.map Lay.least).map (·.2)).sum ∧ ks.length ≤ (ks.flatMap Lay.panes).length ∧
          ((ks.map Lay.least).map (·.1)).sum + ks.length ≤ 3 * ((ks.flatMap Lay.panes).length : Int) ∧ ((ks.map Lay.least).map (·.2)).sum + ks.length ≤ 2 * ((ks.flatMap Lay.panes).length : Int)) := by
        intro ks
        induction ks with
        | nil => intro _; simp
        | cons k ks ihk =>
          intro hk
          have a := ihk fun l m => hk l (List.mem_cons_of_mem _ m)
          have c := ih (hg k (hk k (List.mem_cons_self ..)))
          simp only [List.map_cons, List.sum_cons, List.length_cons, List.flatMap_cons, List.length_append]
          omega
      have s := sums ls fun _ m => m
      have ne : ls ≠ [] := by intro z; subst z; simp at h2
      have m1 := lmax_mem (l := (ls.map Lay.least).map (·.1)) (by simp [ne])
      have m2 := lmax_mem (l := (ls.map Lay.least).map (·.2)) (by simp [ne])
      have one : ∀ q ∈ ls.map Lay.least, 2 ≤ q.1 ∧ 1 ≤ q.2 ∧ q.1 ≤ 3 * ((ls.flatMap Lay.panes).length : Int) - 1 ∧ q.2 ≤ 2 * ((ls.flatMap Lay.panes).length : Int) - 1 := fun q hq => by
        obtain ⟨l, ml, rfl⟩ := List.mem_map.mp hq
        have c := ih (hg l ml)
        have p := panes_sub ml
        omega
      obtain ⟨q1, hq1, e1⟩ := List.mem_map.mp m1
      obtain ⟨q2, hq2, e2⟩ := List.mem_map.mp m2
      have o1 := one q1 hq1
      have o2 := one q2 hq2
      simp only [comb, List.length_map]
      split <;> (refine ⟨?_, ?_, ?_, ?_, ?_⟩ <;> omega)
theorem Good.sub {B : Int} {M d : Nat} {b : Bool} {ls : List Lay} {ss : List Int} (h : Good B M (d + 1) (.node b ls ss)) : ∀ l ∈ ls, Good B M d l := by cases h with | node _ _ _ _ hg => exact hg
theorem al_pos {B : Int} {M d : Nat} {l : Lay} (h : Good B M d l) (b : Bool) : 1 ≤ al b l.least ∧ al b l.least ≤ 3 * (l.panes.length : Int) := by
  have := h.least
  unfold al
  split <;> omega
theorem headD_getD : ∀ (zs : List Int), zs.headD 0 = zs.getD 0 0
  | [] => rfl
  | _ :: _ => rfl
theorem law_fit_share {B : Int} {M d : Nat} {b : Bool} {ls : List Lay} {ss : List Int} {w h : Int} (g : Good B M (d + 1) (.node b ls ss)) (hB : B ≤ 1000000000) (hM : M ≤ 100000) (hp : (Lay.node b ls ss).panes.length ≤ 1000000) (hw : w ≤ 900000000) (hh : h ≤ 900000000) :
    ShOk (al b ((Lay.node b ls ss).W w, (Lay.node b ls ss).H h)) (lows b ls) ss := by
  have gl := g.least
  cases g with
  | node hl h2 hm hs hg =>
    refine ⟨by rw [lows_len, hl], ?_, by rw [lows_len]; omega, ?_, ?_, fun s m => ⟨(hs s m).1, by have := (hs s m).2; omega⟩⟩
    · intro z
      have := lows_len (b := b) (ls := ls)
      rw [z] at this
      simp at this
      omega
    · unfold al Lay.W Lay.H
      split <;> dsimp only <;> omega
    · intro m hm
      obtain ⟨l, ml, rfl⟩ := List.mem_map.mp hm
      have := al_pos (hg l ml) b
      have := panes_sub ml
      rw [Lay.panes_node] at hp
      omega
/-- exactly w by h -/
inductive Ex : Nat → Lay → Int → Int → Prop
  | pane {d : Nat} {w h : Int} (n : Int) (hw : 2 ≤ w) (hh : 1 ≤ h) : Ex d (.pane n) w h
  | node {d : Nat} {b : Bool} {ls : List Lay} {ss : List Int} {w h : Int} (hl : ls.length = ss.length) (h2 : 2 ≤ ls.length) (hs : ss.sum + ((ls.length : Int) - 1) = al b (w, h))
      (hg : ∀ (i : Nat) (hi : i < ls.length), Ex d ls[i] (if b = true then w else ss.getD i 0) (if b = true then ss.getD i 0 else h)) : Ex (d + 1) (.node b ls ss) w h
theorem fit_ex {B : Int} {M : Nat} : ∀ {d : Nat} {l : Lay}, Good B M d l → ∀ (w h : Int), Ex d (l.fit w h) (l.W w) (l.H h) := by
  intro d
  induction d with
  | zero =>
    intro l g w h
    cases g
    refine .pane _ ?_ ?_ <;> simp only [Lay.W, Lay.H, Lay.least] <;> omega
  | succ d ih =>
    intro l g w h
    have gl := g.least
    cases g with
    | pane n => refine .pane _ ?_ ?_ <;> simp only [Lay.W, Lay.H, Lay.least] <;> omega
    | node hl h2 hm hs hg =>
      rename_i b ls ss
      rw [Lay.fit_node]
      have ln : (lows b ls).length = ss.length := by rw [lows_len, hl]
      have ne : lows b ls ≠ [] := by
        intro z
        have := lows_len (b := b) (ls := ls)
        rw [z] at this
        simp at this
        omega
      have zl : (zsOf b ls ss w h).length = ls.length := by unfold zsOf; rw [share_len ln, lows_len]
      have sp : spareOf (al b ((Lay.node b ls ss).W w, (Lay.node b ls ss).H h)) (lows b ls) + (lows b ls).sum = al b ((Lay.node b ls ss).W w, (Lay.node b ls ss).H h) - ((ls.length : Int) - 1) := by
        have e := al_node (b := b) (ls := ls) (ss := ss)
        have : al b (Lay.node b ls ss).least ≤ al b ((Lay.node b ls ss).W w, (Lay.node b ls ss).H h) := by
          unfold al Lay.W Lay.H
          split <;> dsimp only <;> omega
        unfold spareOf
        rw [lows_len]
        omega
      refine .node (by rw [fits_len, zl]) (by rw [fits_len]; exact h2) ?_ fun i hi => ?_
      · rw [fits_len]
        unfold zsOf
        rw [share_sum ln ne, sp]
        omega
      · rw [fits_len] at hi
        rw [fits_get _ _ _ hi]
        have gi := hg _ (List.getElem_mem hi)
        have r := ih gi (if b = true then (Lay.node b ls ss).W w else (zsOf b ls ss w h).getD i 0) (if b = true then (zsOf b ls ss w h).getD i 0 else (Lay.node b ls ss).H h)
        have ge := share_ge (t := al b ((Lay.node b ls ss).W w, (Lay.node b ls ss).H h)) ln ne (j := i) (by rw [lows_len]; exact hi)
        rw [lows_get hi] at ge
        have ac := across (b := b) (ss := ss) (List.getElem_mem hi)
        have eW : (ls[i]).W (if b = true then (Lay.node b ls ss).W w else (zsOf b ls ss w h).getD i 0) = (if b = true then (Lay.node b ls ss).W w else (zsOf b ls ss w h).getD i 0) := by
          unfold Lay.W
          cases b
          · have ge' : (ls[i]).least.1 ≤ (zsOf false ls ss w h).getD i 0 := ge
            simp only [Bool.false_eq_true, if_false]
            omega
          · have ac' : (ls[i]).least.1 ≤ (Lay.node true ls ss).least.1 := ac
            simp only [if_true]
            omega
        have eH : (ls[i]).H (if b = true then (zsOf b ls ss w h).getD i 0 else (Lay.node b ls ss).H h) = (if b = true then (zsOf b ls ss w h).getD i 0 else (Lay.node b ls ss).H h) := by
          unfold Lay.H
          cases b
          · have ac' : (ls[i]).least.2 ≤ (Lay.node false ls ss).least.2 := ac
            simp only [Bool.false_eq_true, if_false]
            omega
          · have ge' : (ls[i]).least.2 ≤ (zsOf true ls ss w h).getD i 0 := ge
            simp only [if_true]
            omega
        rw [eW, eH] at r
        exact r

theorem Ex.pos : ∀ {d : Nat} {l : Lay} {w h : Int}, Ex d l w h → 2 ≤ w ∧ 1 ≤ h := by
  intro d
  induction d with
  | zero => intro l w h e; cases e with | pane n hw hh => exact ⟨hw, hh⟩
  | succ d ih =>
    intro l w h e
    cases e with
    | pane n hw hh => exact ⟨hw, hh⟩
    | node hl h2 hs hg =>
      rename_i b ls ss
      have c0 := ih (hg 0 (by omega))
      have ge : ∀ s ∈ ss, 1 ≤ s ∧ (b = false → 2 ≤ s) := fun s m => by
        obtain ⟨i, hi⟩ := List.getElem?_of_mem m
        obtain ⟨h1, h3⟩ := List.getElem?_eq_some_iff.mp hi
        have c := ih (hg i (by omega))
        rw [getD_get h1, h3] at c
        cases b
        · simp only [Bool.false_eq_true, if_false] at c; exact ⟨by omega, fun _ => c.1⟩
        · simp only [if_true] at c; exact ⟨c.2, fun z => by cases z⟩
      have h0 : 0 < ss.length := by omega
      have s0 := (sum_ge fun x m => by have := (ge x m).1; omega).2 _ (List.getElem_mem h0)
      have g0 := ge _ (List.getElem_mem h0)
      cases b
      · simp only [al, Bool.false_eq_true, if_false] at hs c0
        exact ⟨by omega, c0.2⟩
      · simp only [al, if_true] at hs c0
        exact ⟨c0.1, by omega⟩
theorem Ex.sizes {d : Nat} {b : Bool} {ls : List Lay} {ss : List Int} {w h : Int} (e : Ex (d + 1) (.node b ls ss) w h) : ∀ s ∈ ss, 1 ≤ s ∧ s ≤ al b (w, h) - 1 := by
  cases e with
  | node hl h2 hs hg =>
    have ge : ∀ s ∈ ss, 1 ≤ s := fun s m => by
      obtain ⟨i, hi⟩ := List.getElem?_of_mem m
      obtain ⟨h1, h3⟩ := List.getElem?_eq_some_iff.mp hi
      have c := (hg i (by omega)).pos
      rw [getD_get h1, h3] at c
      cases b
      · simp only [Bool.false_eq_true, if_false] at c; omega
      · simp only [if_true] at c; exact c.2
    intro s m
    have := (sum_ge fun x m => by have := ge x m; omega).2 s m
    exact ⟨ge s m, by omega⟩
theorem Ex.good {B : Int} {M : Nat} : ∀ {d : Nat} {l : Lay} {w h : Int}, Ex d l w h → w ≤ B → h ≤ B → l.panes.length ≤ M → Good B M d l ∧ 0 < l.panes.length := by
  intro d
  induction d with
  | zero => intro l w h e _ _ _; cases e with | pane n hw hh => exact ⟨.pane n, by simp [Lay.panes]⟩
  | succ d ih =>
    intro l w h e hw hh hp
    have sz := fun (b : Bool) (ls : List Lay) (ss : List Int) (eq : l = .node b ls ss) => Ex.sizes (eq ▸ e)
    cases e with
    | pane n hw hh => exact ⟨.pane n, by simp [Lay.panes]⟩
    | node hl h2 hs hg =>
      rename_i b ls ss
      have sz := sz b ls ss rfl
      rw [Lay.panes_node] at hp ⊢
      have sB : ∀ s ∈ ss, 0 ≤ s ∧ s ≤ B := fun s m => by
        have := sz s m
        unfold al at this
        split at this <;> dsimp only at this <;> omega
      have kids : ∀ l ∈ ls, Good B M d l ∧ 0 < l.panes.length := fun l m => by
        obtain ⟨i, hi⟩ := List.getElem?_of_mem m
        obtain ⟨h1, h3⟩ := List.getElem?_eq_some_iff.mp hi
        have c := hg i h1
        rw [h3] at c
        have si := sB _ (List.getElem_mem (show i < ss.length by omega))
        rw [getD_get (show i < ss.length by omega)] at c
        refine ih c ?_ ?_ (Nat.le_trans (panes_sub m) hp)
        · split <;> omega
        · split <;> omega
      have len : ∀ ks : List Lay, (∀ l ∈ ks, 0 < l.panes.length) → ks.length ≤ (ks.flatMap Lay.panes).length := by
        intro ks
        induction ks with
        | nil => intro _; simp
        | cons k ks ihk =>
          intro hk
          have := ihk fun l m => hk l (List.mem_cons_of_mem _ m)
          have := hk k (List.mem_cons_self ..)
          simp only [List.length_cons, List.flatMap_cons, List.length_append]
          omega
      have ll := len ls fun l m => (kids l m).2
      exact ⟨.node hl h2 (by omega) sB fun l m => (kids l m).1, by omega⟩
theorem Ex.least : ∀ {d : Nat} {l : Lay} {w h : Int}, Ex d l w h → l.least.1 ≤ w ∧ l.least.2 ≤ h := by
  intro d
  induction d with
  | zero => intro l w h e; cases e with | pane n hw hh => exact ⟨hw, hh⟩
  | succ d ih =>
    intro l w h e
    cases e with
    | pane n hw hh => exact ⟨hw, hh⟩
    | node hl h2 hs hg =>
      rename_i b ls ss
      have along : al b (Lay.node b ls ss).least ≤ al b (w, h) := by
        rw [al_node, ← hs]
        have key : ∀ (ks : List Lay) (ts : List Int), ks.length = ts.length → (∀ (i : Nat) (hi : i < ks.length), al b ks[i].least ≤ ts.getD i 0) → (lows b ks).sum ≤ ts.sum := by
          intro ks
          induction ks with
          | nil => intro ts h _; cases ts with
            | nil => simp [lows]
            | cons _ _ => simp at h
          | cons k ks ihk =>
            intro ts h hk
            cases ts with
            | nil => simp at h
            | cons t ts =>
              have a := ihk ts (by simpa using h) fun i hi => by
                have z := hk (i + 1) (by simpa using hi)
                simp only [List.getElem_cons_succ, List.getD_cons_succ] at z
                exact z
              have c := hk 0 (by simp)
              simp only [List.getElem_cons_zero, List.getD_cons_zero] at c
              simp only [lows, List.map_cons, List.sum_cons] at a ⊢
              omega
        have := key ls ss hl fun i hi => by
          have c := ih (hg i hi)
          unfold al
          cases b
          · simpa using c.1
          · simpa using c.2
        omega
      have acr : al (!b) (Lay.node b ls ss).least ≤ al (!b) (w, h) := by
        have ne : ls ≠ [] := by intro z; subst z; simp at h2
        have all : ∀ l ∈ ls, al (!b) l.least ≤ al (!b) (w, h) := fun l m => by
          obtain ⟨i, hi⟩ := List.getElem?_of_mem m
          obtain ⟨h1, h3⟩ := List.getElem?_eq_some_iff.mp hi
          have c := ih (hg i h1)
          rw [h3] at c
          cases b
          · simpa [al] using c.2
          · simpa [al] using c.1
        have : al (!b) (Lay.node b ls ss).least = PV.lmax ((ls.map Lay.least).map (al (!b))) := by
          rw [Lay.least_node]
          cases b
          · simp [al, comb, Function.comp_def]
          · simp [al, comb, Function.comp_def]
        rw [this]
        obtain ⟨q, hq, e⟩ := List.mem_map.mp (lmax_mem (l := (ls.map Lay.least).map (al (!b))) (by simp [ne]))
        obtain ⟨l, ml, rfl⟩ := List.mem_map.mp hq
        rw [← e]
        exact all l ml
      cases b
      · exact ⟨along, acr⟩
      · exact ⟨acr, along⟩
/-- what is exact stays -/
theorem Ex.fit : ∀ {d : Nat} {l : Lay} {w h : Int}, Ex d l w h → l.fit w h = l := by
  intro d
  induction d with
  | zero => intro l w h e; cases e; rfl
  | succ d ih =>
    intro l w h e
    have el := e.least
    cases e with
    | pane n hw hh => rfl
    | node hl h2 hs hg =>
      rename_i b ls ss
      rw [Lay.fit_node]
      have eW : (Lay.node b ls ss).W w = w := by unfold Lay.W; omega
      have eH : (Lay.node b ls ss).H h = h := by unfold Lay.H; omega
      have ne : lows b ls ≠ [] := by
        intro z
        have := lows_len (b := b) (ls := ls)
        rw [z] at this
        simp at this
        omega
      have ez : zsOf b ls ss w h = ss := by
        unfold zsOf
        rw [eW, eH]
        refine share_same (by rw [lows_len, hl]) ne (by rw [lows_len]; exact hs) fun j hj => ?_
        rw [lows_len] at hj
        rw [lows_get hj]
        have c := (hg j hj).least
        unfold al
        cases b
        · simpa using c.1
        · simpa using c.2
      rw [ez, eW, eH]
      congr 1
      refine List.ext_getElem (fits_len _ _) fun i h1 h3 => ?_
      rw [fits_get _ _ _ h3]
      exact ih (hg i h3)
theorem fit_least : ∀ {l : Lay} {B : Int} {M d : Nat}, Good B M d l → ∀ w h, (l.fit w h).least = l.least := by
  intro l B M d
  induction d generalizing l with
  | zero => intro g w h; cases g; rfl
  | succ d ih =>
    intro g w h
    cases g with
    | pane n => rfl
    | node hl h2 hm hs hg =>
      rename_i b ls ss
      rw [Lay.fit_node, Lay.least_node, Lay.least_node]
      congr 1
      refine List.ext_getElem (by simp [fits_len]) fun i h1 h3 => ?_
      simp only [List.length_map, fits_len] at h1
      simp only [List.getElem_map]
      rw [fits_get _ _ _ h1]
      exact ih (hg _ (List.getElem_mem h1)) _ _
theorem fit_panes : ∀ {l : Lay} {B : Int} {M d : Nat}, Good B M d l → ∀ w h, (l.fit w h).panes = l.panes := by
  intro l B M d
  induction d generalizing l with
  | zero => intro g w h; cases g; rfl
  | succ d ih =>
    intro g w h
    cases g with
    | pane n => rfl
    | node hl h2 hm hs hg =>
      rename_i b ls ss
      rw [Lay.fit_node, Lay.panes_node, Lay.panes_node]
      have key : ∀ (ks : List Lay) (zs : List Int) (w h : Int), (∀ k ∈ ks, k ∈ ls) → (fits b w h ks zs).flatMap Lay.panes = ks.flatMap Lay.panes := by
        intro ks
        induction ks with
        | nil => intro _ _ _ _; rfl
        | cons k ks ihk =>
          intro zs w h hk
          simp only [fits, List.flatMap_cons]
          rw [ihk _ _ _ fun l m => hk l (List.mem_cons_of_mem _ m), ih (hg k (hk k (List.mem_cons_self ..)))]
      exact key ls _ _ _ fun _ m => m

theorem ix20 : ixN 2 0 = some 0 := rfl
theorem ix21 : ixN 2 1 = some 1 := rfl
theorem pts_at {ls : List Lay} {ss : List Int} {i : Nat} (h : ls.length = ss.length) (hi : i < ls.length) : atI (ptsD ls ss) (i : Int) = some (pt ls[i].d (ss.getD i 0)) := by
  refine atI_nat ?_
  have h2 : i < ss.length := by omega
  unfold ptsD
  rw [List.getElem?_zipWith, List.getElem?_eq_getElem hi, List.getElem?_eq_getElem h2, getD_get h2]
theorem dEq_below (b : Bool) : PV.dEq (.str (nm b)) (.str "below") = some (.bl b) := by
  rw [PV.dEq_str (nm_ok b) (by decide +kernel)]
  cases b <;> rfl
theorem dEq_beside (b : Bool) : PV.dEq (.str (nm b)) (.str "beside") = some (.bl (!b)) := by
  rw [PV.dEq_str (nm_ok b) (by decide +kernel)]
  cases b <;> rfl
theorem take_pts {ls : List Lay} {ss : List Int} {i : Nat} (h : ls.length = ss.length) (hi : i < ls.length) : (ptsD ls ss).take (i + 1) = (ptsD ls ss).take i ++ [pt ls[i].d (ss.getD i 0)] := by
  rw [List.take_add_one]
  congr 1
  have h2 : i < ss.length := by omega
  unfold ptsD
  rw [List.getElem?_zipWith, List.getElem?_eq_getElem hi, List.getElem?_eq_getElem h2, getD_get h2]
  rfl
/-! ## boxes -/
structure Box where
  p : Int
  r : Int
  c : Int
  w : Int
  h : Int
def Box.d (x : Box) : PV.D := .tup [.int x.p, .int x.r, .int x.c, .int x.w, .int x.h]
mutual
def Lay.boxes : Lay → Int → Int → Int → Int → List Box
  | .pane n, r, c, w, h => [⟨n, r, c, w, h⟩]
  | .node b ls ss, r, c, w, h => boxess b ls ss r c w h
def boxess (b : Bool) : List Lay → List Int → Int → Int → Int → Int → List Box
  | [], _, _, _, _, _ => []
  | l :: ls, ss, r, c, w, h => l.boxes r c (if b = true then w else ss.headD 0) (if b = true then ss.headD 0 else h) ++ boxess b ls ss.tail (if b = true then r + ss.headD 0 + 1 else r) (if b = true then c else c + ss.headD 0 + 1) w h
end
theorem Lay.boxes_len : ∀ {d : Nat} {l : Lay} {B : Int} {M : Nat}, Good B M d l → ∀ r c w h, (l.boxes r c w h).map Box.p = l.panes := by
  intro d
  induction d with
  | zero => intro l B M g r c w h; cases g; rfl
  | succ d ih =>
    intro l B M g r c w h
    cases g with
    | pane n => rfl
    | node hl h2 hm hs hg =>
      rename_i b ls ss
      rw [Lay.panes_node]
      have key : ∀ (ks : List Lay) (ts : List Int) (r c : Int), (∀ k ∈ ks, k ∈ ls) → (boxess b ks ts r c w h).map Box.p = ks.flatMap Lay.panes := by
        intro ks
        induction ks with
        | nil => intro _ _ _ _; rfl
        | cons k ks ihk =>
          intro ts r c hk
          simp only [boxess, List.map_append, List.flatMap_cons]
          rw [ih (hg k (hk k (List.mem_cons_self ..))), ihk _ _ _ fun l m => hk l (List.mem_cons_of_mem _ m)]
      exact key ls ss r c fun _ m => m
def Lay.allBoxes (l : Lay) (w h : Int) : List Box := (l.fit w h).boxes 0 0 (l.W w) (l.H h)
def roomOf (bs : List Box) (p : Int) (b : Bool) : Int := match bs with
  | [] => 0
  | x :: bs => if x.p = p then (if b = true then x.h else x.w) else roomOf bs p b
/-! ## a new pane -/
def isP : Lay → Int → Bool
  | .pane n, p => decide (n = p)
  | _, _ => false
theorem isP_is {l : Lay} {p : Int} : isP l p = true ↔ l.d = .int p := by
  cases l with
  | pane n => simp [isP, Lay.d]
  | node b ls ss => simp [isP, Lay.d]
theorem dEq_isP {l : Lay} {p : Int} (h : l.d.Fine) : PV.dEq l.d (.int p) = some (.bl (isP l p)) := PV.dEq_is h (PV.fine_int p) isP_is
def half1 (z : Int) : Int := z - 1 - (z - 1) / 2
def half2 (z : Int) : Int := (z - 1) / 2
mutual
def Lay.withNew (p : Int) (b : Bool) (nw z : Int) : Lay → Lay
  | .pane n => if n = p then .node b [.pane p, .pane nw] [half1 z, half2 z] else .pane n
  | .node b' ls ss => .node b' (newL p b nw z b' ls) (newS p b z b' ls ss)
def newL (p : Int) (b : Bool) (nw z : Int) (b' : Bool) : List Lay → List Lay
  | [] => []
  | l :: ls => if isP l p = true ∧ b' = b then .pane p :: .pane nw :: newL p b nw z b' ls else l.withNew p b nw z :: newL p b nw z b' ls
def newS (p : Int) (b : Bool) (z : Int) (b' : Bool) : List Lay → List Int → List Int
  | [], _ => []
  | l :: ls, ss => if isP l p = true ∧ b' = b then half1 z :: half2 z :: newS p b z b' ls ss.tail else ss.headD 0 :: newS p b z b' ls ss.tail
end
theorem newL_len {p : Int} {b : Bool} {nw z : Int} {b' : Bool} : ∀ (ls : List Lay) (ss : List Int), ls.length = ss.length → (newL p b nw z b' ls).length = (newS p b z b' ls ss).length ∧ ls.length ≤ (newL p b nw z b' ls).length ∧ (newL p b nw z b' ls).length ≤ 2 * ls.length
  | [], [], _ => by simp [newL, newS]
  | [], _ :: _, h => by simp at h
  | _ :: _, [], h => by simp at h
  | l :: ls, s :: ss, h => by
    have ih := newL_len (p := p) (b := b) (nw := nw) (z := z) (b' := b') ls ss (by simpa using h)
    unfold newL newS
    split <;> simp only [List.length_cons, List.tail_cons] <;> omega
theorem withNew_good {B : Int} {M : Nat} {p : Int} {b : Bool} {nw z : Int} (hz : 1 ≤ z ∧ z ≤ B) : ∀ {d : Nat} {l : Lay}, Good B M d l → 2 ≤ 2 * M → Good B (2 * M) (d + 1) (l.withNew p b nw z) := by
  intro d
  have hh : 0 ≤ half1 z ∧ half1 z ≤ B ∧ 0 ≤ half2 z ∧ half2 z ≤ B := by unfold half1 half2; omega
  have pane : ∀ (d : Nat) (n : Int), 2 ≤ 2 * M → Good B (2 * M) (d + 1) (Lay.withNew p b nw z (.pane n)) := fun d n hM => by
    unfold Lay.withNew
    split
    · refine .node rfl (by simp) (by simpa using hM) (fun s m => ?_) fun l m => ?_
      · have e : s = half1 z ∨ s = half2 z := by simpa using m
        rcases e with e | e <;> subst e <;> omega
      · have e : l = .pane p ∨ l = .pane nw := by simpa using m
        rcases e with e | e <;> subst e <;> exact .pane _
    · exact .pane _
  induction d with
  | zero => intro l g hM; cases g; exact pane 0 _ hM
  | succ d ih =>
    intro l g hM
    cases g with
    | pane n => exact pane _ n hM
    | node hl h2 hm hs hg =>
      rename_i b' ls ss
      have nl := newL_len (p := p) (b := b) (nw := nw) (z := z) (b' := b') ls ss hl
      have hS : ∀ (ks : List Lay) (ts : List Int), ks.length = ts.length → (∀ t ∈ ts, 0 ≤ t ∧ t ≤ B) → ∀ s ∈ newS p b z b' ks ts, 0 ≤ s ∧ s ≤ B := by
        intro ks
        induction ks with
        | nil => intro ts _ _ s m; unfold newS at m; cases m
        | cons k ks ihk =>
          intro ts h ht s m
          cases ts with
          | nil => simp at h
          | cons t ts =>
            unfold newS at m
            have r := ihk ts (by simpa using h) fun t m => ht t (List.mem_cons_of_mem _ m)
            split at m
            · rcases List.mem_cons.mp m with e | m
              · subst e; omega
              · rcases List.mem_cons.mp m with e | m
                · subst e; omega
                · exact r s m
            · rcases List.mem_cons.mp m with e | m
              · subst e; exact ht _ (List.mem_cons_self ..)
              · exact r s m
      have hL : ∀ (ks : List Lay), (∀ k ∈ ks, Good B M d k) → ∀ l ∈ newL p b nw z b' ks, Good B (2 * M) (d + 1) l := by
        intro ks
        induction ks with
        | nil => intro _ l m; unfold newL at m; cases m
        | cons k ks ihk =>
          intro hk l m
          unfold newL at m
          have r := ihk fun l m => hk l (List.mem_cons_of_mem _ m)
          split at m
          · rcases List.mem_cons.mp m with e | m
            · subst e; exact .pane _
            · rcases List.mem_cons.mp m with e | m
              · subst e; exact .pane _
              · exact r l m
          · rcases List.mem_cons.mp m with e | m
            · subst e; exact ih (hk k (List.mem_cons_self ..)) hM
            · exact r l m
      unfold Lay.withNew
      exact .node nl.1 (by omega) (by omega) (hS ls ss hl hs) (hL ls hg)
theorem withNew_panes {B : Int} {M : Nat} {p : Int} {b : Bool} {nw z : Int} : ∀ {d : Nat} {l : Lay}, Good B M d l → (l.withNew p b nw z).panes = l.panes.flatMap fun x => if x = p then [p, nw] else [x] := by
  intro d
  have pane : ∀ n : Int, (Lay.withNew p b nw z (.pane n)).panes = (Lay.pane n).panes.flatMap fun x => if x = p then [p, nw] else [x] := fun n => by
    unfold Lay.withNew
    by_cases c : n = p <;> simp [c, Lay.panes, paness]
  induction d with
  | zero => intro l g; cases g; exact pane _
  | succ d ih =>
    intro l g
    cases g with
    | pane n => exact pane n
    | node hl h2 hm hs hg =>
      rename_i b' ls ss
      unfold Lay.withNew
      rw [Lay.panes_node, Lay.panes_node]
      have key : ∀ (ks : List Lay), (∀ k ∈ ks, k ∈ ls) → (newL p b nw z b' ks).flatMap Lay.panes = (ks.flatMap Lay.panes).flatMap fun x => if x = p then [p, nw] else [x] := by
        intro ks
        induction ks with
        | nil => intro _; rfl
        | cons k ks ihk =>
          intro hk
          have r := ihk fun l m => hk l (List.mem_cons_of_mem _ m)
          unfold newL
          rw [List.flatMap_cons, List.flatMap_append]
          split
          · rename_i c
            cases k with
            | pane n =>
              have e : n = p := by simpa [isP] using c.1
              subst e
              simp [Lay.panes, r]
            | node _ _ _ => simp [isP] at c
          · rw [List.flatMap_cons, ih (hg k (hk k (List.mem_cons_self ..))), r]
      exact key ls fun _ m => m
theorem flat_len {p nw : Int} : ∀ l : List Int, (l.flatMap fun x => if x = p then [p, nw] else [x]).length ≤ 2 * l.length
  | [] => by simp
  | a :: l => by
    have := flat_len (p := p) (nw := nw) l
    rw [List.flatMap_cons, List.length_append, List.length_cons]
    split <;> simp only [List.length_cons, List.length_nil] <;> omega
def pairD (p nw z : Int) : PV.D := .tup [.tup [.int p, .int (half1 z)], .tup [.int nw, .int (half2 z)]]
/-! ## splitting -/
theorem Ex.boxes : ∀ {d : Nat} {l : Lay} {w h : Int}, Ex d l w h → ∀ r c, ∀ x ∈ l.boxes r c w h, 2 ≤ x.w ∧ x.w ≤ w ∧ 1 ≤ x.h ∧ x.h ≤ h := by
  intro d
  induction d with
  | zero => intro l w h e r c x m; cases e with | pane n hw hh => ?_
            have : x = ⟨n, r, c, w, h⟩ := by simpa [Lay.boxes] using m
            subst this
            exact ⟨hw, Int.le_refl _, hh, Int.le_refl _⟩
  | succ d ih =>
    intro l w h e r c x m
    have sz := fun (b : Bool) (ls : List Lay) (ss : List Int) (eq : l = .node b ls ss) => Ex.sizes (eq ▸ e)
    cases e with
    | pane n hw hh =>
      have : x = ⟨n, r, c, w, h⟩ := by simpa [Lay.boxes] using m
      subst this
      exact ⟨hw, Int.le_refl _, hh, Int.le_refl _⟩
    | node hl h2 hs hg =>
      rename_i b ls ss
      have sz := sz b ls ss rfl
      have key : ∀ (ks : List Lay) (ts : List Int) (r c : Int), ks.length = ts.length → (∀ t ∈ ts, t ≤ al b (w, h) - 1) → (∀ (i : Nat) (hi : i < ks.length), Ex d ks[i] (if b = true then w else ts.getD i 0) (if b = true then ts.getD i 0 else h)) →
          ∀ x ∈ boxess b ks ts r c w h, 2 ≤ x.w ∧ x.w ≤ w ∧ 1 ≤ x.h ∧ x.h ≤ h := by
        intro ks
        induction ks with
        | nil => intro ts r c _ _ _ x m; unfold boxess at m; cases m
        | cons k ks ihk =>
          intro ts r c hl ht hk x m
          cases ts with
          | nil => simp at hl
          | cons t ts =>
            unfold boxess at m
            rcases List.mem_append.mp m with m | m
            · have e0 := hk 0 (by simp)
              have t0 := ht t (List.mem_cons_self ..)
              simp only [List.getElem_cons_zero, List.getD_cons_zero] at e0
              simp only [List.headD_cons] at m
              have := ih e0 _ _ x m
              unfold al at t0
              split at t0 <;> simp_all <;> omega
            · exact ihk ts _ _ (by simpa using hl) (fun t m => ht t (List.mem_cons_of_mem _ m)) (fun i hi => by
                have z := hk (i + 1) (by simpa using hi)
                simp only [List.getElem_cons_succ, List.getD_cons_succ] at z
                exact z) x m
      exact key ls ss r c hl (fun t m => (sz t m).2) hg x m
/-- a layout as the building has it -/
def Stg (k : Nat) (l : Lay) : Prop := Good 200000 (2 ^ k) k l ∧ l.panes.length ≤ 2 ^ k
theorem two_pow {k : Nat} (h : k ≤ 15) : 2 ^ k ≤ 32768 ∧ 1 ≤ 2 ^ k := by
  have := Nat.pow_le_pow_right (n := 2) (by decide) h
  have := Nat.one_le_two_pow (n := k)
  omega
theorem Stg.fitEx {k : Nat} {l : Lay} (g : Stg k l) (w h : Int) : Ex k (l.fit w h) (l.W w) (l.H h) := fit_ex g.1 w h
theorem fit_stg {B : Int} {M d k : Nat} {l : Lay} (g : Good B M d l) (hd : d ≤ k) (hp : l.panes.length ≤ 2 ^ k) (hk : k ≤ 15) {w h : Int} (hw : w ≤ 1000) (hh : h ≤ 1000) : Stg k (l.fit w h) := by
  have gl := g.least
  have e := fit_ex g w h
  have p2 := two_pow hk
  have ep : (l.fit w h).panes.length = l.panes.length := by rw [fit_panes g]
  have := (e.good (B := 200000) (M := 2 ^ k) (by unfold Lay.W; omega) (by unfold Lay.H; omega) (by omega)).1
  exact ⟨this.mono (Int.le_refl _) (Nat.le_refl _) hd, by omega⟩
theorem roomOf_in {p : Int} {b : Bool} {W H : Int} : ∀ (bs : List Box), (∀ x ∈ bs, 2 ≤ x.w ∧ x.w ≤ W ∧ 1 ≤ x.h ∧ x.h ≤ H) → roomOf bs p b = 0 ∨ (1 ≤ roomOf bs p b ∧ roomOf bs p b ≤ max W H)
  | [], _ => .inl rfl
  | x :: bs, h => by
    have hx := h x (List.mem_cons_self ..)
    unfold roomOf
    split
    · right; split <;> omega
    · exact roomOf_in bs fun y m => h y (List.mem_cons_of_mem _ m)
def Lay.room (l : Lay) (w h p : Int) (b : Bool) : Int := roomOf (l.allBoxes w h) p b
def Lay.divided (l : Lay) (w h p : Int) (b : Bool) (nw : Int) : Option Lay := if l.room w h p b < (if b = true then 3 else 5) then none else some (((l.fit w h).withNew p b nw (l.room w h p b)).fit w h)
def optD : Option Lay → PV.D
  | none => .non
  | some l => l.d
theorem Stg.room {k : Nat} {l : Lay} (g : Stg k l) (hk : k ≤ 15) {w h : Int} (hw : w ≤ 1000) (hh : h ≤ 1000) (p : Int) (b : Bool) : l.room w h p b = 0 ∨ (1 ≤ l.room w h p b ∧ l.room w h p b ≤ 200000) := by
  have gl := g.1.least
  have hp := g.2
  have p2 := two_pow hk
  have := roomOf_in (p := p) (b := b) _ ((g.fitEx w h).boxes 0 0)
  unfold Lay.room Lay.allBoxes
  rcases this with e | e
  · exact .inl e
  · refine .inr ⟨e.1, Int.le_trans e.2 ?_⟩
    unfold Lay.W Lay.H
    omega
/-! ## a pane is removed -/
/-- a part, or its parts where it has the direction -/
def partL (b : Bool) (l : Lay) : List Lay := match l with
  | .pane n => [.pane n]
  | .node b' ks ts => if b' = b then ks else [.node b' ks ts]
def partS (b : Bool) (l : Lay) (s : Int) : List Int := match l with
  | .pane _ => [s]
  | .node b' _ ts => if b' = b then ts else [s]
/-- the last place of a pane -/
def goneI (p : Int) : List Lay → Int → Int → Int
  | [], _, g => g
  | l :: ls, i, g => goneI p ls (i + 1) (if isP l p = true then i else g)
theorem goneI_app {p : Int} {l : Lay} : ∀ (xs : List Lay) (i g : Int), goneI p (xs ++ [l]) i g = if isP l p = true then i + xs.length else goneI p xs i g
  | [], i, g => by simp [goneI]
  | x :: xs, i, g => by
    simp only [List.cons_append, goneI]
    rw [goneI_app xs]
    split
    · simp only [List.length_cons]; omega
    · rfl
/-- the heir takes the room -/
def heirS (g : Int) (S ss : List Int) : List Int := if 0 ≤ g then S.set (max 0 (g - 1)).toNat (S.getD (max 0 (g - 1)).toNat 0 + ss.getD g.toNat 0 + 1) else S
def oneOr (b : Bool) (L : List Lay) (S : List Int) : Lay := match L with
  | [l] => l
  | L => .node b L S
mutual
def Lay.taken (p : Int) : Lay → Lay
  | .pane n => .pane n
  | .node b ls ss => oneOr b (takL p b ls) (heirS (goneI p ls 0 (-1)) (takS p b ls ss) ss)
def takL (p : Int) (b : Bool) : List Lay → List Lay
  | [] => []
  | l :: ls => if isP l p = true then takL p b ls else partL b (l.taken p) ++ takL p b ls
def takS (p : Int) (b : Bool) : List Lay → List Int → List Int
  | [], _ => []
  | l :: ls, ss => if isP l p = true then takS p b ls ss.tail else partS b (l.taken p) (ss.headD 0) ++ takS p b ls ss.tail
end
theorem takL_app {p : Int} {b : Bool} : ∀ (xs ys : List Lay), takL p b (xs ++ ys) = takL p b xs ++ takL p b ys
  | [], ys => by simp [takL]
  | x :: xs, ys => by
    simp only [List.cons_append, takL]
    split <;> simp [takL_app xs ys]
theorem takS_app {p : Int} {b : Bool} : ∀ (xs ys : List Lay) (ss ts : List Int), xs.length = ss.length → takS p b (xs ++ ys) (ss ++ ts) = takS p b xs ss ++ takS p b ys ts
  | [], ys, [], ts, _ => by simp [takS]
  | [], _, _ :: _, _, h => by simp at h
  | _ :: _, _, [], _, h => by simp at h
  | x :: xs, ys, s :: ss, ts, h => by
    simp only [List.cons_append, takS, List.tail_cons, List.headD_cons]
    rw [takS_app xs ys ss ts (by simpa using h)]
    split <;> simp
theorem part_len {B : Int} {M d : Nat} {b : Bool} {l : Lay} {s : Int} (g : Good B M d l) : (partL b l).length = (partS b l s).length ∧ 1 ≤ (partL b l).length ∧ (partL b l).length ≤ M + 1 := by
  cases g with
  | pane n => simp [partL, partS]
  | node hl h2 hm hs hg =>
    unfold partL partS
    dsimp only
    split
    · omega
    · simp
theorem part_good {B : Int} {M d : Nat} {b : Bool} {l : Lay} (g : Good B M d l) : ∀ k ∈ partL b l, Good B M d k := by
  intro k m
  have gg := g
  cases g with
  | pane n =>
    have : k = .pane n := by simpa [partL] using m
    subst this; exact gg
  | node hl h2 hm hs hg =>
    unfold partL at m
    dsimp only at m
    split at m
    · exact (hg k m).mono (Int.le_refl _) (Nat.le_refl _) (by omega)
    · have := List.mem_singleton.mp m
      subst this; exact gg
theorem part_sz {B : Int} {M d : Nat} {b : Bool} {l : Lay} {s : Int} (g : Good B M d l) (h : 0 ≤ s ∧ s ≤ B) : ∀ t ∈ partS b l s, 0 ≤ t ∧ t ≤ B := by
  intro t m
  cases g with
  | pane n =>
    have : t = s := by simpa [partS] using m
    subst this; exact h
  | node hl h2 hm hs hg =>
    unfold partS at m
    dsimp only at m
    split at m
    · exact hs t m
    · have := List.mem_singleton.mp m
      subst this; exact h
theorem ptsD_one {l : Lay} {s : Int} : ptsD [l] [s] = [pt l.d s] := rfl
/-- an occurrence apart from the places at which the pane itself stands -/
theorem isP_panes {l : Lay} {p : Int} (h : isP l p = true) : p ∈ l.panes := by
  cases l with
  | pane n => simpa [isP, Lay.panes, eq_comm] using h
  | node _ _ _ => simp [isP] at h
structure TakenOk (B : Int) (M d : Nat) (p : Int) (l : Lay) : Prop where
  good : Good (2 * B + 1) (2 * M) d (l.taken p)
theorem oneOr_d {b : Bool} {L : List Lay} {S : List Int} (h : 2 ≤ L.length) : oneOr b L S = .node b L S := by
  match L, h with
  | [], h => simp at h
  | [_], h => simp at h
  | a :: c :: L, _ => rfl
theorem goneI_spec {p : Int} : ∀ (ls : List Lay) (i : Nat) (g : Int), goneI p ls i g = g ∨ ∃ j, ∃ h : j < ls.length, isP ls[j] p = true ∧ goneI p ls i g = ((i + j : Nat) : Int)
  | [], i, g => .inl rfl
  | l :: ls, i, g => by
    unfold goneI
    have e : ((i : Int) + 1) = ((i + 1 : Nat) : Int) := by omega
    rw [e]
    rcases goneI_spec ls (i + 1) (if isP l p = true then (i : Int) else g) with h | ⟨j, hj, h1, h2⟩
    · rw [h]
      by_cases c : isP l p = true
      · rw [if_pos c]
        exact .inr ⟨0, by simp, by simpa using c, by simp⟩
      · rw [if_neg c]; exact .inl rfl
    · exact .inr ⟨j + 1, by simpa using hj, by simpa using h1, by rw [h2]; congr 1; omega⟩
theorem goneI_spec0 {p : Int} (ls : List Lay) : goneI p ls 0 (-1) = -1 ∨ ∃ j, ∃ h : j < ls.length, isP ls[j] p = true ∧ goneI p ls 0 (-1) = (j : Int) := by
  have := goneI_spec (p := p) ls 0 (-1)
  simpa using this
theorem zip_set {α β : Type} {f : Lay → Int → α} : ∀ (L : List Lay) (S : List Int) (i : Nat) (z : Int) (hi : i < L.length), L.length = S.length → (List.zipWith f L S).set i (f L[i] z) = List.zipWith f L (S.set i z)
  | [], _, _, _, hi, _ => by simp at hi
  | _ :: _, [], _, _, _, h => by simp at h
  | l :: L, s :: S, 0, z, _, _ => rfl
  | l :: L, s :: S, i + 1, z, hi, h => by
    have := zip_set (α := α) (β := β) (f := f) L S i z (by simpa using hi) (by simpa using h)
    simp only [List.zipWith_cons_cons, List.set_cons_succ, List.getElem_cons_succ, this]
theorem ptsD_set {L : List Lay} {S : List Int} {i : Nat} {z : Int} (hl : L.length = S.length) (hi : i < L.length) : (ptsD L S).set i (pt L[i].d z) = ptsD L (S.set i z) := zip_set (β := Unit) (f := fun l s => pt l.d s) L S i z hi hl
theorem part_panes {b : Bool} : ∀ {l : Lay}, (partL b l).flatMap Lay.panes = l.panes
  | .pane n => by simp [partL, Lay.panes]
  | .node b' ks ts => by
    unfold partL
    dsimp only
    split
    · rw [Lay.panes_node]
    · simp
theorem oneOr_panes {b : Bool} : ∀ {L : List Lay} {S : List Int}, (oneOr b L S).panes = L.flatMap Lay.panes
  | [], S => by simp [oneOr, Lay.panes_node]
  | [l], S => by simp [oneOr]
  | l :: k :: L, S => by rw [oneOr, Lay.panes_node]; intro a h; cases h
/-- what is left -/
theorem taken_panes {p : Int} {B : Int} {M : Nat} : ∀ {d : Nat} {l : Lay}, Good B M d l → isP l p = false → (l.taken p).panes = l.panes.filter fun x => decide (x ≠ p) := by
  intro d
  have pane : ∀ n : Int, isP (.pane n) p = false → (Lay.taken p (.pane n)).panes = (Lay.pane n).panes.filter fun x => decide (x ≠ p) := fun n h => by
    have : n ≠ p := by simpa [isP] using h
    simp [Lay.taken, Lay.panes, this]
  induction d with
  | zero => intro l g h; cases g; exact pane _ h
  | succ d ih =>
    intro l g h
    cases g with
    | pane n => exact pane n h
    | node hl h2 hm hs hg =>
      rename_i b ls ss
      unfold Lay.taken
      rw [oneOr_panes, Lay.panes_node]
      have key : ∀ ks : List Lay, (∀ k ∈ ks, Good B M d k) → (takL p b ks).flatMap Lay.panes = (ks.flatMap Lay.panes).filter fun x => decide (x ≠ p) := by
        intro ks
        induction ks with
        | nil => intro _; simp [takL]
        | cons k ks ihk =>
          intro hk
          have r := ihk fun l m => hk l (List.mem_cons_of_mem _ m)
          unfold takL
          rw [List.flatMap_cons, List.filter_append]
          split
          · rename_i c
            cases k with
            | pane n =>
              have e : n = p := by simpa [isP] using c
              subst e
              simp [Lay.panes]; simpa using r
            | node _ _ _ => simp [isP] at c
          · rename_i c
            rw [List.flatMap_append, part_panes, ih (hk k (List.mem_cons_self ..)) (by simpa using c), r]
      exact key ls hg
theorem takL_panes {p : Int} {B : Int} {M d : Nat} {b : Bool} : ∀ ks : List Lay, (∀ k ∈ ks, Good B M d k) → (takL p b ks).flatMap Lay.panes = (ks.flatMap Lay.panes).filter fun x => decide (x ≠ p) := by
  intro ks
  induction ks with
  | nil => intro _; simp [takL]
  | cons k ks ihk =>
    intro hk
    have r := ihk fun l m => hk l (List.mem_cons_of_mem _ m)
    unfold takL
    rw [List.flatMap_cons, List.filter_append]
    split
    · rename_i c
      cases k with
      | pane n =>
        have e : n = p := by simpa [isP] using c
        subst e
        simp [Lay.panes]; simpa using r
      | node _ _ _ => simp [isP] at c
    · rename_i c
      rw [List.flatMap_append, part_panes, taken_panes (hk k (List.mem_cons_self ..)) (by simpa using c), r]
theorem lays_len : ∀ ks : List Lay, (∀ l ∈ ks, 0 < l.panes.length) → ks.length ≤ (ks.flatMap Lay.panes).length
  | [], _ => by simp
  | k :: ks, h => by
    have := lays_len ks fun l m => h l (List.mem_cons_of_mem _ m)
    have := h k (List.mem_cons_self ..)
    simp only [List.length_cons, List.flatMap_cons, List.length_append]
    omega
def capB (B : Int) (d : Nat) : Int := (d + 1) * (B + 1)
theorem capB_succ {B : Int} {d : Nat} : capB B (d + 1) = capB B d + (B + 1) := by
  unfold capB
  rw [show (((d + 1 : Nat) : Int) + 1) * (B + 1) = ((d : Int) + 1) * (B + 1) + 1 * (B + 1) by rw [← Int.add_mul]; congr 1]
  omega
theorem capB_ge {B : Int} (hB : 0 ≤ B) : ∀ {d : Nat}, B + 1 ≤ capB B d
  | 0 => by unfold capB; simp
  | d + 1 => by rw [capB_succ]; have := capB_ge hB (d := d); omega
theorem nodup_two {p : Int} : ∀ {ls : List Lay}, (ls.flatMap Lay.panes).Nodup → ls.length ≤ (ls.filter fun l => !isP l p).length + 1
  | [], _ => by simp
  | l :: ls, h => by
    rw [List.flatMap_cons] at h
    have h1 := (List.nodup_append.mp h).2.1
    have h2 := (List.nodup_append.mp h).2.2
    rw [List.filter_cons]
    cases c : isP l p with
    | false =>
      have := nodup_two (p := p) h1
      simp only [Bool.not_false, if_true, List.length_cons]
      omega
    | true =>
      have hp := isP_panes c
      have : (ls.filter fun l => !isP l p) = ls := by
        rw [List.filter_eq_self]
        intro k hk
        cases c2 : isP k p with
        | false => rfl
        | true => exact (h2 p hp p (List.mem_flatMap.mpr ⟨k, hk, isP_panes c2⟩) rfl).elim
      simp [this]
theorem takL_len {p : Int} {b : Bool} : ∀ {ls : List Lay}, (∀ l ∈ ls, 1 ≤ (partL b (l.taken p)).length) → (ls.filter fun l => !isP l p).length ≤ (takL p b ls).length
  | [], _ => by simp
  | l :: ls, h => by
    have ih := takL_len (p := p) (b := b) fun k m => h k (List.mem_cons_of_mem _ m)
    have := h l (List.mem_cons_self ..)
    rw [List.filter_cons]
    unfold takL
    cases c : isP l p with
    | false => simp only [Bool.not_false, if_true, List.length_cons, Bool.false_eq_true, if_false, List.length_append]; omega
    | true => simpa using ih
/-- the parts that are left are as they should be -/
theorem takLS {p : Int} {b : Bool} {B C : Int} {P d : Nat} (hBC : B ≤ C) : ∀ (ls : List Lay) (ss : List Int), ls.length = ss.length → (∀ l ∈ ls, Good C P d (l.taken p)) → (∀ s ∈ ss, 0 ≤ s ∧ s ≤ B) →
    (takL p b ls).length = (takS p b ls ss).length ∧ (∀ k ∈ takL p b ls, Good C P d k) ∧ ∀ s ∈ takS p b ls ss, 0 ≤ s ∧ s ≤ C
  | [], [], _, _, _ => by simp [takL, takS]
  | [], _ :: _, h, _, _ => by simp at h
  | _ :: _, [], h, _, _ => by simp at h
  | l :: ls, s :: ss, h, hg, hs => by
    obtain ⟨i1, i2, i3⟩ := takLS (b := b) hBC ls ss (by simpa using h) (fun k m => hg k (List.mem_cons_of_mem _ m)) fun t m => hs t (List.mem_cons_of_mem _ m)
    have g := hg l (List.mem_cons_self ..)
    have s0 := hs s (List.mem_cons_self ..)
    have pl := part_len (b := b) (s := s) g
    unfold takL takS
    split
    · exact ⟨i1, i2, i3⟩
    · simp only [List.headD_cons, List.tail_cons]
      refine ⟨by rw [List.length_append, List.length_append]; omega, fun k m => ?_, fun t m => ?_⟩
      · rcases List.mem_append.mp m with m | m
        · exact part_good g k m
        · exact i2 k m
      · rcases List.mem_append.mp m with m | m
        · exact part_sz g (by omega) t m
        · exact i3 t m
theorem heir_in {g C B : Int} {S ss : List Int} (h0 : 0 ≤ B) (hS : ∀ s ∈ S, 0 ≤ s ∧ s ≤ C) (hs : ∀ s ∈ ss, 0 ≤ s ∧ s ≤ B) : ∀ s ∈ heirS g S ss, 0 ≤ s ∧ s ≤ C + (B + 1) := by
  intro s m
  unfold heirS at m
  split at m
  · obtain ⟨i, hi⟩ := List.getElem?_of_mem m
    obtain ⟨h1, h2⟩ := List.getElem?_eq_some_iff.mp hi
    rw [List.length_set] at h1
    have hg : 0 ≤ ss.getD g.toNat 0 ∧ ss.getD g.toNat 0 ≤ B := by
      by_cases c : g.toNat < ss.length
      · rw [getD_get c]; exact hs _ (List.getElem_mem c)
      · rw [List.getD_eq_getElem?_getD, List.getElem?_eq_none (by omega)]; simp; exact h0
    by_cases c : (max 0 (g - 1)).toNat = i
    · subst c
      rw [List.getElem_set_self, getD_get h1] at h2
      have := hS _ (List.getElem_mem h1)
      omega
    · rw [List.getElem_set_ne c] at h2
      have := hS _ (List.getElem_mem h1)
      omega
  · have := hS s m
    omega
theorem taken_good {p : Int} {B : Int} {M P : Nat} (hB : 0 ≤ B) : ∀ {d : Nat} {l : Lay}, Good B M d l → l.panes.Nodup → l.panes.length ≤ P → Good (capB B d) P d (l.taken p) := by
  intro d
  induction d with
  | zero => intro l g _ _; cases g; exact .pane _
  | succ d ih =>
    intro l g hn hp
    cases g with
    | pane n => exact .pane n
    | node hl h2 hm hs hg =>
      rename_i b ls ss
      rw [Lay.panes_node] at hn hp
      have nd : ∀ l ∈ ls, l.panes.Nodup := fun l m => by
        have := List.pairwise_flatMap.mp hn
        exact this.1 l m
      have kid : ∀ l ∈ ls, Good (capB B d) P d (l.taken p) := fun l m => ih (hg l m) (nd l m) (Nat.le_trans (panes_sub m) hp)
      obtain ⟨t1, t2, t3⟩ := takLS (p := p) (b := b) (B := B) (C := capB B d) (P := P) (d := d) (by have := capB_ge hB (d := d); omega) ls ss hl kid hs
      have tl := takL_len (p := p) (b := b) (ls := ls) fun l m => (part_len (b := b) (s := 0) (kid l m)).2.1
      have n2 := nodup_two (p := p) hn
      have hL : (takL p b ls).length ≤ P := by
        have a := lays_len (takL p b ls) fun l m => (t2 l m).least.2.2.1
        rw [takL_panes ls hg] at a
        have := List.length_filter_le (fun x => decide (x ≠ p)) (ls.flatMap Lay.panes)
        omega
      unfold Lay.taken
      by_cases c : 2 ≤ (takL p b ls).length
      · rw [oneOr_d c, capB_succ]
        refine .node ?_ c hL (heir_in hB t3 hs) fun l m => (t2 l m).mono (by omega) (Nat.le_refl _) (Nat.le_refl _)
        unfold heirS
        split
        · rw [List.length_set, t1]
        · exact t1
      · match hT : takL p b ls with
        | [] => rw [hT, List.length_nil] at tl; omega
        | [k] =>
          have := t2 k (by rw [hT]; simp)
          exact this.mono (by rw [capB_succ]; omega) (Nat.le_refl _) (by omega)
        | _ :: _ :: _ => rw [hT] at c; simp at c

def Lay.without (l : Lay) (w h p : Int) : Lay := ((l.fit w h).taken p).fit w h
theorem capB_le {d : Nat} (h : d ≤ 15) : capB 200000 d ≤ 1000000000 := by
  unfold capB
  have : ((d : Int) + 1) ≤ 16 := by omega
  have := Int.mul_le_mul_of_nonneg_right this (show (0 : Int) ≤ 200000 + 1 by decide)
  omega
/-! ## a border is moved -/
def chg (b : Bool) (l l2 : Lay) (s s2 a : Int) : Int := max (al b l.least - s) (min (s2 - al b l2.least) a)
mutual
def Lay.shift (p : Int) (b : Bool) (a : Int) : Lay → Lay × Bool
  | .pane n => (.pane n, false)
  | .node b' ls ss => (.node b' (shiftL p b a b' ls ss).1 (shiftL p b a b' ls ss).2.1, (shiftL p b a b' ls ss).2.2)
def shiftL (p : Int) (b : Bool) (a : Int) (b' : Bool) : List Lay → List Int → List Lay × List Int × Bool
  | [], ss => ([], ss, false)
  | l :: ls, ss => if p ∈ l.panes then
      (if (l.shift p b a).2 = false ∧ b' = b ∧ ls ≠ [] then
        ((l.shift p b a).1 :: ls, (ss.headD 0 + chg b (l.shift p b a).1 (ls.headD (.pane 0)) (ss.headD 0) (ss.tail.headD 0) a) :: (ss.tail.headD 0 - chg b (l.shift p b a).1 (ls.headD (.pane 0)) (ss.headD 0) (ss.tail.headD 0) a) :: ss.tail.tail, true)
      else ((l.shift p b a).1 :: ls, ss, (l.shift p b a).2))
    else (l :: (shiftL p b a b' ls ss.tail).1, ss.headD 0 :: (shiftL p b a b' ls ss.tail).2.1, (shiftL p b a b' ls ss.tail).2.2)
end
theorem shiftL_none {p : Int} {b : Bool} {a : Int} {b' : Bool} : ∀ (ls : List Lay) (ss : List Int), ls.length = ss.length → (∀ l ∈ ls, p ∉ l.panes) → shiftL p b a b' ls ss = (ls, ss, false)
  | [], ss, h, _ => by simp [shiftL]
  | l :: ls, [], h, _ => by simp at h
  | l :: ls, s :: ss, h, hn => by
    unfold shiftL
    rw [if_neg (hn l (List.mem_cons_self ..))]
    simp only [List.tail_cons, List.headD_cons]
    rw [shiftL_none ls ss (by simpa using h) fun k m => hn k (List.mem_cons_of_mem _ m)]
theorem shiftL_at {p : Int} {b : Bool} {a : Int} {b' : Bool} : ∀ (ls : List Lay) (ss : List Int) (k : Nat) (hk : k < ls.length), ls.length = ss.length → (∀ (i : Nat) (hi : i < ls.length), i < k → p ∉ ls[i].panes) → p ∈ ls[k].panes →
    shiftL p b a b' ls ss = if (ls[k].shift p b a).2 = false ∧ b' = b ∧ k + 1 < ls.length then
      (ls.set k (ls[k].shift p b a).1, (ss.set k (ss.getD k 0 + chg b (ls[k].shift p b a).1 (ls.getD (k + 1) (.pane 0)) (ss.getD k 0) (ss.getD (k + 1) 0) a)).set (k + 1) (ss.getD (k + 1) 0 - chg b (ls[k].shift p b a).1 (ls.getD (k + 1) (.pane 0)) (ss.getD k 0) (ss.getD (k + 1) 0) a), true)
      else (ls.set k (ls[k].shift p b a).1, ss, (ls[k].shift p b a).2)
  | [], _, _, hk, _, _, _ => by simp at hk
  | l :: ls, [], _, _, h, _, _ => by simp at h
  | l :: ls, s :: ss, 0, hk, h, hn, hp => by
    simp only [List.getElem_cons_zero] at hp
    unfold shiftL
    rw [if_pos hp]
    have e : ls ≠ [] ↔ 0 + 1 < (l :: ls).length := by cases ls <;> simp
    simp only [e, List.getElem_cons_zero, List.headD_cons, List.tail_cons, List.set_cons_zero, List.getD_cons_zero, List.getD_cons_succ, List.set_cons_succ]
    have e2 : ls.headD (.pane 0) = ls.getD 0 (.pane 0) := by cases ls <;> rfl
    rw [e2, headD_getD]
    split
    · cases ss with
      | nil => cases ls with
        | nil => rename_i c; simp at c
        | cons _ _ => simp at h
      | cons s2 ss => rfl
    · rfl
  | l :: ls, s :: ss, k + 1, hk, h, hn, hp => by
    have h0 := hn 0 (by simp) (by omega)
    simp only [List.getElem_cons_zero] at h0
    simp only [List.getElem_cons_succ] at hp
    unfold shiftL
    rw [if_neg h0]
    simp only [List.tail_cons, List.headD_cons]
    rw [shiftL_at ls ss k (by simpa using hk) (by simpa using h) (fun i hi hik => by
      have := hn (i + 1) (by simpa using hi) (by omega)
      simpa using this) hp]
    have e : k + 1 + 1 < (l :: ls).length ↔ k + 1 < ls.length := by simp
    simp only [e, List.getElem_cons_succ, List.getD_cons_succ, List.set_cons_succ]
    split <;> rfl
theorem shiftL_cases {p : Int} {b : Bool} {a : Int} {b' : Bool} (ls : List Lay) (ss : List Int) (h : ls.length = ss.length) :
    (∀ l ∈ ls, p ∉ l.panes) ∨ ∃ k, ∃ hk : k < ls.length, (∀ (i : Nat) (hi : i < ls.length), i < k → p ∉ ls[i].panes) ∧ p ∈ ls[k].panes := by
  clear h ss
  induction ls with
  | nil => exact .inl fun _ m => by cases m
  | cons l ls ih =>
    by_cases c : p ∈ l.panes
    · exact .inr ⟨0, by simp, fun i hi h => by omega, by simpa using c⟩
    · rcases ih with h | ⟨k, hk, h1, h2⟩
      · refine .inl fun k m => ?_
        rcases List.mem_cons.mp m with e | m
        · subst e; exact c
        · exact h k m
      · refine .inr ⟨k + 1, by simpa using hk, fun i hi hik => ?_, by simpa using h2⟩
        cases i with
        | zero => simpa using c
        | succ i => simpa using h1 i (by simpa using hi) (by omega)
theorem shift_same {p : Int} {b : Bool} {a : Int} {B : Int} {M : Nat} : ∀ {d : Nat} {l : Lay}, Good B M d l → (l.shift p b a).2 = false → (l.shift p b a).1 = l := by
  intro d
  induction d with
  | zero => intro l g _; cases g; rfl
  | succ d ih =>
    intro l g h
    cases g with
    | pane n => rfl
    | node hl h2 hm hs hg =>
      rename_i b' ls ss
      unfold Lay.shift at h ⊢
      rcases shiftL_cases (p := p) (b := b) (a := a) (b' := b') ls ss hl with hn | ⟨k, hk, h1, hp⟩
      · rw [shiftL_none ls ss hl hn]
      · rw [shiftL_at ls ss k hk hl h1 hp] at h ⊢
        split at h
        · cases h
        · rename_i c
          rw [if_neg c]
          dsimp only at h ⊢
          rw [ih (hg _ (List.getElem_mem hk)) h]
          simp
theorem chg_in {b : Bool} {l l2 : Lay} {s s2 a : Int} (h1 : al b l.least ≤ s) (h2 : al b l2.least ≤ s2) (p1 : 1 ≤ al b l.least) (p2 : 1 ≤ al b l2.least) : 1 ≤ s + chg b l l2 s s2 a ∧ s + chg b l l2 s s2 a ≤ s + s2 ∧ 1 ≤ s2 - chg b l l2 s s2 a ∧ s2 - chg b l l2 s s2 a ≤ s + s2 := by
  unfold chg
  omega
theorem getD_lay {ls : List Lay} {i : Nat} {z : Lay} (h : i < ls.length) : ls.getD i z = ls[i] := by rw [List.getD_eq_getElem?_getD, List.getElem?_eq_getElem h]; rfl
theorem al_dims {b : Bool} {l : Lay} {w h s : Int} {d : Nat} (e : Ex d l (if b = true then w else s) (if b = true then s else h)) : al b l.least ≤ s := by
  have := e.least
  unfold al
  cases b
  · simpa using this.1
  · simpa using this.2
theorem shift_good {p : Int} {b : Bool} {a : Int} {B : Int} {M : Nat} : ∀ {d : Nat} {l : Lay} {w h : Int}, Ex d l w h → w ≤ B → h ≤ B → l.panes.length ≤ M → Good (2 * B) M d (l.shift p b a).1 := by
  intro d
  induction d with
  | zero => intro l w h e _ _ _; cases e; exact .pane _
  | succ d ih =>
    intro l w h e hw hh hp
    have ge := (e.good hw hh hp).1
    have sz := fun (b : Bool) (ls : List Lay) (ss : List Int) (eq : l = .node b ls ss) => Ex.sizes (eq ▸ e)
    cases e with
    | pane n _ _ => exact .pane n
    | node hl h2 hs hg =>
      rename_i b' ls ss
      have sz := sz b' ls ss rfl
      cases ge with | node _ _ hm gs gg => ?_
      have hB : al b' (w, h) ≤ B := by unfold al; split <;> (dsimp only; omega)
      have up : ∀ l ∈ ls, Good (2 * B) M d l := fun l m => (gg l m).mono (by
        have h0 : 0 < ss.length := by omega
        have := gs _ (List.getElem_mem h0)
        omega) (Nat.le_refl _) (Nat.le_refl _)
      rw [Lay.panes_node] at hp
      unfold Lay.shift
      rcases shiftL_cases (p := p) (b := b) (a := a) (b' := b') ls ss hl with hn | ⟨k, hk, h1, hpk⟩
      · rw [shiftL_none ls ss hl hn]
        exact .node hl h2 hm (fun s m => by have := gs s m; omega) up
      · have ek := hg k hk
        have sk := sz _ (List.getElem_mem (show k < ss.length by omega))
        have kid : Good (2 * B) M d (ls[k].shift p b a).1 := ih ek (by
          rw [getD_get (show k < ss.length by omega)]
          split
          · exact hw
          · omega) (by
          rw [getD_get (show k < ss.length by omega)]
          split
          · omega
          · exact hh) (Nat.le_trans (panes_sub (List.getElem_mem hk)) hp)
        have kids : ∀ l ∈ ls.set k (ls[k].shift p b a).1, Good (2 * B) M d l := fun l m => by
          rcases List.mem_or_eq_of_mem_set m with m | m
          · exact up l m
          · subst m; exact kid
        rw [shiftL_at ls ss k hk hl h1 hpk]
        split
        · rename_i c
          obtain ⟨c1, rfl, c3⟩ := c
          rw [shift_same (gg _ (List.getElem_mem hk)) c1]
          have e2 := hg (k + 1) c3
          have a1 := al_dims ek
          have a2 := al_dims e2
          have p1 := al_pos (gg _ (List.getElem_mem hk)) b'
          have p2 := al_pos (gg _ (List.getElem_mem c3)) b'
          rw [getD_lay c3]
          have ci := chg_in (a := a) a1 a2 p1.1 p2.1
          have s1 := sz _ (List.getElem_mem (show k < ss.length by omega))
          have s2 := sz _ (List.getElem_mem (show k + 1 < ss.length by omega))
          rw [getD_get (show k < ss.length by omega), getD_get (show k + 1 < ss.length by omega)] at *
          refine .node (by simp [hl]) (by simpa using h2) (by simpa using hm) (fun s m => ?_) fun l m => ?_
          · rcases List.mem_or_eq_of_mem_set m with m | m
            · rcases List.mem_or_eq_of_mem_set m with m | m
              · have := gs s m; omega
              · subst m; omega
            · subst m; omega
          · have : ls.set k ls[k] = ls := by simp
            rw [this] at m
            exact up l m
        · exact .node (by simp [hl]) (by simpa using h2) (by simpa using hm) (fun s m => by have := gs s m; omega) kids
theorem flat_set {ls : List Lay} {k : Nat} {l : Lay} (hk : k < ls.length) (h : l.panes = ls[k].panes) : (ls.set k l).flatMap Lay.panes = ls.flatMap Lay.panes := by
  induction ls generalizing k with
  | nil => simp at hk
  | cons x ls ih =>
    cases k with
    | zero => simp only [List.getElem_cons_zero] at h; simp [h]
    | succ k =>
      simp only [List.set_cons_succ, List.flatMap_cons]
      rw [ih (by simpa using hk) (by simpa using h)]
theorem shift_panes {p : Int} {b : Bool} {a : Int} {B : Int} {M : Nat} : ∀ {d : Nat} {l : Lay}, Good B M d l → (l.shift p b a).1.panes = l.panes := by
  intro d
  induction d with
  | zero => intro l g; cases g; rfl
  | succ d ih =>
    intro l g
    cases g with
    | pane n => rfl
    | node hl h2 hm hs hg =>
      rename_i b' ls ss
      unfold Lay.shift
      rw [Lay.panes_node, Lay.panes_node]
      rcases shiftL_cases (p := p) (b := b) (a := a) (b' := b') ls ss hl with hn | ⟨k, hk, h1, hp⟩
      · rw [shiftL_none ls ss hl hn]
      · rw [shiftL_at ls ss k hk hl h1 hp]
        have := flat_set hk (ih (hg _ (List.getElem_mem hk)))
        split <;> exact this

theorem ptsD_setL {l : Lay} : ∀ {L : List Lay} {S : List Int} {i : Nat} (hl : L.length = S.length) (hi : i < L.length), (ptsD L S).set i (pt l.d (S.getD i 0)) = ptsD (L.set i l) S
  | [], _, _, _, hi => by simp at hi
  | _ :: _, [], _, h, _ => by simp at h
  | x :: L, s :: S, 0, _, _ => rfl
  | x :: L, s :: S, i + 1, h, hi => by
    have := ptsD_setL (l := l) (L := L) (S := S) (i := i) (by simpa using h) (by simpa using hi)
    simp only [ptsD, List.zipWith_cons_cons, List.set_cons_succ, List.getD_cons_succ] at this ⊢
    rw [this]
def Lay.moved (l : Lay) (w h p : Int) (b : Bool) (a : Int) : Lay := ((l.fit w h).shift p b a).1.fit w h
/-! ## directions change from a part to its parts -/
def isB (b : Bool) : Lay → Bool
  | .pane _ => false
  | .node b' _ _ => b' == b
mutual
def Lay.alt : Lay → Prop
  | .pane _ => True
  | .node b ls _ => altL b ls
def altL (b : Bool) : List Lay → Prop
  | [] => True
  | l :: ls => (isB b l = false ∧ l.alt) ∧ altL b ls
end
theorem altL_is {b : Bool} : ∀ {ls : List Lay}, altL b ls ↔ ∀ l ∈ ls, isB b l = false ∧ l.alt
  | [] => by simp [altL]
  | l :: ls => by simp [altL, altL_is (ls := ls)]
theorem isB_fit {b : Bool} {l : Lay} {w h : Int} : isB b (l.fit w h) = isB b l := by
  cases l with
  | pane n => rfl
  | node b' ls ss => rw [Lay.fit_node]; rfl
mutual
theorem fit_alt : ∀ (l : Lay) (w h : Int), l.alt → (l.fit w h).alt
  | .pane n, _, _, _ => by simp [Lay.fit, Lay.alt]
  | .node b ls ss, w, h, g => by
    rw [Lay.fit_node, Lay.alt]
    exact fits_alt ls _ _ _ (by simpa [Lay.alt] using g)
theorem fits_alt {b b' : Bool} : ∀ (ls : List Lay) (zs : List Int) (w h : Int), altL b ls → altL b (fits b' w h ls zs)
  | [], _, _, _, _ => by simp [fits, altL]
  | l :: ls, zs, w, h, g => by
    simp only [altL] at g
    simp only [fits, altL]
    exact ⟨⟨by rw [isB_fit]; exact g.1.1, fit_alt l _ _ g.1.2⟩, fits_alt ls _ _ _ g.2⟩
end
mutual
theorem withNew_alt {p : Int} {b : Bool} {nw z : Int} : ∀ (l : Lay), l.alt → (l.withNew p b nw z).alt
  | .pane n, _ => by
    unfold Lay.withNew
    split <;> simp [Lay.alt, altL, isB]
  | .node b' ls ss, g => by
    unfold Lay.withNew
    rw [Lay.alt]
    exact newL_alt ls (by simpa [Lay.alt] using g)
theorem newL_alt {p : Int} {b : Bool} {nw z : Int} {b' : Bool} : ∀ (ls : List Lay), altL b' ls → altL b' (newL p b nw z b' ls)
  | [], _ => by simp [newL, altL]
  | l :: ls, g => by
    simp only [altL] at g
    unfold newL
    split
    · simp only [altL, isB, Lay.alt]
      exact ⟨⟨trivial, trivial⟩, ⟨trivial, trivial⟩, newL_alt ls g.2⟩
    · rename_i c
      simp only [altL]
      refine ⟨⟨?_, withNew_alt l g.1.2⟩, newL_alt ls g.2⟩
      cases l with
      | pane n =>
        unfold Lay.withNew
        split
        · rename_i e
          simp only [isB]
          cases b <;> cases b' <;> simp [isP, e] at c ⊢
        · rfl
      | node b2 ks ts => exact g.1.1
end
theorem part_alt {b : Bool} {l : Lay} (g : l.alt) : altL b (partL b l) := by
  cases l with
  | pane n => simp [partL, altL, isB, Lay.alt]
  | node b' ks ts =>
    unfold partL
    dsimp only
    split
    · rename_i e; subst e; simpa [Lay.alt] using g
    · rename_i e
      simp only [altL, isB]
      exact ⟨⟨by simpa using e, g⟩, trivial⟩
theorem altL_app {b : Bool} {xs ys : List Lay} (h : altL b xs) (k : altL b ys) : altL b (xs ++ ys) := by
  rw [altL_is] at *
  intro l m
  rcases List.mem_append.mp m with m | m
  · exact h l m
  · exact k l m
theorem oneOr_alt {b : Bool} {L : List Lay} {S : List Int} (h : altL b L) : (oneOr b L S).alt := by
  unfold oneOr
  split
  · simp only [altL] at h; exact h.1.2
  · rw [Lay.alt]; exact h
mutual
theorem taken_alt {p : Int} : ∀ (l : Lay), l.alt → (l.taken p).alt
  | .pane n, _ => by simp [Lay.taken, Lay.alt]
  | .node b ls ss, g => by
    unfold Lay.taken
    exact oneOr_alt (takL_alt ls (by simpa [Lay.alt] using g))
theorem takL_alt {p : Int} {b : Bool} : ∀ (ls : List Lay), altL b ls → altL b (takL p b ls)
  | [], _ => by simp [takL, altL]
  | l :: ls, g => by
    simp only [altL] at g
    unfold takL
    split
    · exact takL_alt ls g.2
    · exact altL_app (part_alt (taken_alt l g.1.2)) (takL_alt ls g.2)
end
theorem isB_shift {b : Bool} {l : Lay} {p : Int} {b2 : Bool} {a : Int} : isB b (l.shift p b2 a).1 = isB b l := by
  cases l with
  | pane n => unfold Lay.shift; rfl
  | node b' ls ss => unfold Lay.shift; rfl
mutual
theorem shift_alt {p : Int} {b : Bool} {a : Int} : ∀ (l : Lay), l.alt → (l.shift p b a).1.alt
  | .pane n, _ => by simp [Lay.shift, Lay.alt]
  | .node b' ls ss, g => by
    unfold Lay.shift
    rw [Lay.alt]
    exact shiftL_alt ls ss (by simpa [Lay.alt] using g)
theorem shiftL_alt {p : Int} {b : Bool} {a : Int} {b' : Bool} : ∀ (ls : List Lay) (ss : List Int), altL b' ls → altL b' (shiftL p b a b' ls ss).1
  | [], _, _ => by simp [shiftL, altL]
  | l :: ls, ss, g => by
    simp only [altL] at g
    have h1 := shift_alt (p := p) (b := b) (a := a) l g.1.2
    have h2 : isB b' (l.shift p b a).1 = false := by rw [isB_shift]; exact g.1.1
    unfold shiftL
    split
    · split
      · simp only [altL]; exact ⟨⟨h2, h1⟩, g.2⟩
      · simp only [altL]; exact ⟨⟨h2, h1⟩, g.2⟩
    · simp only [altL]; exact ⟨g.1, shiftL_alt ls _ g.2⟩
end
theorem divided_alt {l l' : Lay} (g : l.alt) {w h p : Int} {b : Bool} {nw : Int} (e : l.divided w h p b nw = some l') : l'.alt := by
  unfold Lay.divided at e
  by_cases c : l.room w h p b < (if b = true then 3 else 5)
  · rw [if_pos c] at e; cases e
  · rw [if_neg c] at e
    cases e; exact fit_alt _ _ _ (withNew_alt _ (fit_alt _ _ _ g))
theorem moved_alt {l : Lay} (g : l.alt) {w h p : Int} {b : Bool} {a : Int} : (l.moved w h p b a).alt := by
  unfold Lay.moved
  exact fit_alt _ _ _ (shift_alt _ (fit_alt _ _ _ g))
theorem without_alt {l : Lay} (g : l.alt) {w h p : Int} : (l.without w h p).alt := by
  unfold Lay.without
  exact fit_alt _ _ _ (taken_alt _ (fit_alt _ _ _ g))

/-! ## drawing -/
theorem law_cell_ok {ns : List Int} {k : Int} (h : 0 ≤ k) : f_law_cell [.fro (ns.map .int), .int k] = some (.int (ns.getD k.toNat 0)) := by
  rw [run_law_cell]
  unfold e_law_cell
  by_cases c : k < (ns.length : Int)
  · have hk : k.toNat < ns.length := by omega
    have a1 : atI (ns.map PV.D.int) k = some (.int ns[k.toNat]) := PV.atI_of h (by rw [List.getElem?_map, List.getElem?_eq_getElem hk]; rfl)
    have c' : decide (k < (ns.length : Int)) = true := decide_eq_true c
    simp only [List.length_map, c', a1, getD_get hk, PV.fin, PV.dSeq, PV.dIf, PV.dAsg, PV.dAsgO, PV.dRet, PV.dRetN, PV.dNext, PV.dBreak, PV.dCont, PV.dDrop, PV.dApp, PV.dExt, PV.dSetI, PV.dPop, PV.dAug, PV.dAugI, PV.dFrz, PV.onOwn, PV.gN, PV.gT, PV.gC, PV.gNs, PV.dVar, PV.vVar, PV.dC, PV.dOp, PV.fOp, PV.dNeg, PV.dNot, PV.dAnd, PV.dOr, PV.dIfE, PV.dNil, PV.dCons, PV.dTup, PV.fLst, PV.dLst, PV.dCall, PV.fCall, PV.dTest, PV.tst, PV.dTru, PV.tru, PV.dAndT, PV.dOrT, PV.dNotT, PV.dYes, PV.dChain, PV.dIsi, PV.isi, PV.tyn, PV.dPart, PV.dNoPart, PV.fSl, PV.lItems, PV.iOf, PV.dItems, PV.iBy, PV.sItems, PV.dwipe, PV.bMax2, PV.bMin2, PV.bAbs, PV.bInt, PV.bLen, PV.bTup, PV.bList, PV.dAdd, PV.dSub, PV.dLt, PV.dLe, PV.dGt, PV.dGe, PV.dIsN, PV.dNotN, PV.isNon_non, PV.isNon_int, PV.fAdd, PV.dIx_l, PV.dIx_t, PV.dIx_f, PV.at0, PV.at1, PV.at2, PV.at3, PV.at4, Option.bind_some, Option.map_some, Option.bind_none, Option.map_none, List.getElem?_cons_zero, List.getElem?_cons_succ, List.set_cons_zero, List.set_cons_succ, if_true, if_false, PV.kit_ii, PV.kit_ti, PV.kit_tt, PV.kit_ib, PV.kit_it, PV.kit_ll, PV.kit_li, Bool.not_true, Bool.not_false, Bool.false_eq_true, Bool.not_eq_true, reduceIte, List.length_cons, List.length_nil, Nat.reduceAdd, Nat.zero_add, PV.most_0, PV.most_1, PV.most_2, PV.most_3, PV.most_4, PV.most_5, PV.most_6, PV.most_7, decide_true, decide_false, List.nil_append, List.cons_append]
  · have c' : decide (k < (ns.length : Int)) = false := decide_eq_false c
    have e : ns.getD k.toNat 0 = 0 := by rw [List.getD_eq_getElem?_getD, List.getElem?_eq_none (by omega)]; rfl
    simp only [List.length_map, c', e, PV.fin, PV.dSeq, PV.dIf, PV.dAsg, PV.dAsgO, PV.dRet, PV.dRetN, PV.dNext, PV.dBreak, PV.dCont, PV.dDrop, PV.dApp, PV.dExt, PV.dSetI, PV.dPop, PV.dAug, PV.dAugI, PV.dFrz, PV.onOwn, PV.gN, PV.gT, PV.gC, PV.gNs, PV.dVar, PV.vVar, PV.dC, PV.dOp, PV.fOp, PV.dNeg, PV.dNot, PV.dAnd, PV.dOr, PV.dIfE, PV.dNil, PV.dCons, PV.dTup, PV.fLst, PV.dLst, PV.dCall, PV.fCall, PV.dTest, PV.tst, PV.dTru, PV.tru, PV.dAndT, PV.dOrT, PV.dNotT, PV.dYes, PV.dChain, PV.dIsi, PV.isi, PV.tyn, PV.dPart, PV.dNoPart, PV.fSl, PV.lItems, PV.iOf, PV.dItems, PV.iBy, PV.sItems, PV.dwipe, PV.bMax2, PV.bMin2, PV.bAbs, PV.bInt, PV.bLen, PV.bTup, PV.bList, PV.dAdd, PV.dSub, PV.dLt, PV.dLe, PV.dGt, PV.dGe, PV.dIsN, PV.dNotN, PV.isNon_non, PV.isNon_int, PV.fAdd, PV.dIx_l, PV.dIx_t, PV.dIx_f, PV.at0, PV.at1, PV.at2, PV.at3, PV.at4, Option.bind_some, Option.map_some, Option.bind_none, Option.map_none, List.getElem?_cons_zero, List.getElem?_cons_succ, List.set_cons_zero, List.set_cons_succ, if_true, if_false, PV.kit_ii, PV.kit_ti, PV.kit_tt, PV.kit_ib, PV.kit_it, PV.kit_ll, PV.kit_li, Bool.not_true, Bool.not_false, Bool.false_eq_true, Bool.not_eq_true, reduceIte, List.length_cons, List.length_nil, Nat.reduceAdd, Nat.zero_add, PV.most_0, PV.most_1, PV.most_2, PV.most_3, PV.most_4, PV.most_5, PV.most_6, PV.most_7, decide_true, decide_false, List.nil_append, List.cons_append]
theorem law_row_step {cell count bound rest mixed : Int} {xs : List Int} (hb : 0 < bound ∧ bound < 4294967296) (hm : 0 ≤ mixed ∧ mixed ≤ 2147483647) {k : Nat} (hk : k < 1000) (hl : xs.length ≤ 1000) (hx : ∀ x ∈ xs, 0 ≤ x ∧ x < bound) (y6 : Option PV.DV) :
    ∃ rest' mixed' x, e_law_row_t1 (.int (k : Int)) [some (.dat (.int cell)), some (.dat (.int count)), some (.dat (.int bound)), some (.dat (.int rest)), some (.dat (.int mixed)), some (.own (xs.map .int)), y6] =
      some (.nx [some (.dat (.int cell)), some (.dat (.int count)), some (.dat (.int bound)), some (.dat (.int rest')), some (.dat (.int mixed')), some (.own ((xs ++ [x]).map .int)), some (.dat (.int (k : Int)))]) ∧ 0 ≤ mixed' ∧ mixed' ≤ 2147483647 ∧ 0 ≤ x ∧ x < bound := by
  have len : ((xs.map PV.D.int).length < PV.most) = True := PV.lt_most (by rw [List.length_map]; omega)
  by_cases c : bound ≤ rest
  · have c' : decide (bound ≤ rest) = true := decide_eq_true c
    have m1 : PV.dMod (.int rest) (.int bound) = some (.int (rest % bound)) := PV.dMod_ok hb.1
    have m2 : PV.dDiv (.int rest) (.int bound) = some (.int (rest / bound)) := PV.dDiv_ok hb.1 (by omega)
    refine ⟨rest / bound, mixed, rest % bound, ?_, hm.1, hm.2, Int.emod_nonneg _ (by omega), Int.emod_lt_of_pos _ hb.1⟩
    simp only [e_law_row_t1, e_law_row_b1, c', m1, m2, len, List.map_append, List.map_cons, List.map_nil, PV.fin, PV.dSeq, PV.dIf, PV.dAsg, PV.dAsgO, PV.dRet, PV.dRetN, PV.dNext, PV.dBreak, PV.dCont, PV.dDrop, PV.dApp, PV.dExt, PV.dSetI, PV.dPop, PV.dAug, PV.dAugI, PV.dFrz, PV.onOwn, PV.gN, PV.gT, PV.gC, PV.gNs, PV.dVar, PV.vVar, PV.dC, PV.dOp, PV.fOp, PV.dNeg, PV.dNot, PV.dAnd, PV.dOr, PV.dIfE, PV.dNil, PV.dCons, PV.dTup, PV.fLst, PV.dLst, PV.dCall, PV.fCall, PV.dTest, PV.tst, PV.dTru, PV.tru, PV.dAndT, PV.dOrT, PV.dNotT, PV.dYes, PV.dChain, PV.dIsi, PV.isi, PV.tyn, PV.dPart, PV.dNoPart, PV.fSl, PV.lItems, PV.iOf, PV.dItems, PV.iBy, PV.sItems, PV.dwipe, PV.bMax2, PV.bMin2, PV.bAbs, PV.bInt, PV.bLen, PV.bTup, PV.bList, PV.dAdd, PV.dSub, PV.dLt, PV.dLe, PV.dGt, PV.dGe, PV.dIsN, PV.dNotN, PV.isNon_non, PV.isNon_int, PV.fAdd, PV.dIx_l, PV.dIx_t, PV.dIx_f, PV.at0, PV.at1, PV.at2, PV.at3, PV.at4, Option.bind_some, Option.map_some, Option.bind_none, Option.map_none, List.getElem?_cons_zero, List.getElem?_cons_succ, List.set_cons_zero, List.set_cons_succ, if_true, if_false, PV.kit_ii, PV.kit_ti, PV.kit_tt, PV.kit_ib, PV.kit_it, PV.kit_ll, PV.kit_li, Bool.not_true, Bool.not_false, Bool.false_eq_true, Bool.not_eq_true, reduceIte, List.length_cons, List.length_nil, Nat.reduceAdd, Nat.zero_add, PV.most_0, PV.most_1, PV.most_2, PV.most_3, PV.most_4, PV.most_5, PV.most_6, PV.most_7, decide_true, decide_false, List.nil_append, List.cons_append]
  · have c' : decide (bound ≤ rest) = false := decide_eq_false c
    have m1 : PV.dMul (.int mixed) (.int 48271) = some (.int (mixed * 48271)) := PV.dMul_ok (by omega) (by decide)
    have m2 : PV.dMul (.int 11) (.int (k : Int)) = some (.int (11 * (k : Int))) := PV.dMul_ok (by decide) (by omega)
    have m3 : PV.dMod (.int (mixed * 48271 + 11 * (k : Int) + 7)) (.int 2147483647) = some (.int ((mixed * 48271 + 11 * (k : Int) + 7) % 2147483647)) := PV.dMod_ok (by decide)
    have b1 := Int.emod_nonneg (mixed * 48271 + 11 * (k : Int) + 7) (show (2147483647 : Int) ≠ 0 by decide)
    have b2 := Int.emod_lt_of_pos (mixed * 48271 + 11 * (k : Int) + 7) (show (0 : Int) < 2147483647 by decide)
    generalize hz : (mixed * 48271 + 11 * (k : Int) + 7) % 2147483647 = z at *
    have m4 : PV.dMul (.int z) (.int 2862933555777941757) = some (.int (z * 2862933555777941757)) := PV.dMul_ok (by omega) (by decide)
    have m5 : PV.dDiv (.int (z * 2862933555777941757)) (.int 1024) = some (.int (z * 2862933555777941757 / 1024)) := PV.dDiv_ok (by decide) (by decide)
    have m6 : PV.dMod (.int (z * 2862933555777941757 / 1024)) (.int bound) = some (.int (z * 2862933555777941757 / 1024 % bound)) := PV.dMod_ok hb.1
    refine ⟨rest, z, z * 2862933555777941757 / 1024 % bound, ?_, b1, by omega, Int.emod_nonneg _ (by omega), Int.emod_lt_of_pos _ hb.1⟩
    simp only [e_law_row_t1, e_law_row_b1, c', m1, m2, m3, m4, m5, m6, len, List.map_append, List.map_cons, List.map_nil, PV.fin, PV.dSeq, PV.dIf, PV.dAsg, PV.dAsgO, PV.dRet, PV.dRetN, PV.dNext, PV.dBreak, PV.dCont, PV.dDrop, PV.dApp, PV.dExt, PV.dSetI, PV.dPop, PV.dAug, PV.dAugI, PV.dFrz, PV.onOwn, PV.gN, PV.gT, PV.gC, PV.gNs, PV.dVar, PV.vVar, PV.dC, PV.dOp, PV.fOp, PV.dNeg, PV.dNot, PV.dAnd, PV.dOr, PV.dIfE, PV.dNil, PV.dCons, PV.dTup, PV.fLst, PV.dLst, PV.dCall, PV.fCall, PV.dTest, PV.tst, PV.dTru, PV.tru, PV.dAndT, PV.dOrT, PV.dNotT, PV.dYes, PV.dChain, PV.dIsi, PV.isi, PV.tyn, PV.dPart, PV.dNoPart, PV.fSl, PV.lItems, PV.iOf, PV.dItems, PV.iBy, PV.sItems, PV.dwipe, PV.bMax2, PV.bMin2, PV.bAbs, PV.bInt, PV.bLen, PV.bTup, PV.bList, PV.dAdd, PV.dSub, PV.dLt, PV.dLe, PV.dGt, PV.dGe, PV.dIsN, PV.dNotN, PV.isNon_non, PV.isNon_int, PV.fAdd, PV.dIx_l, PV.dIx_t, PV.dIx_f, PV.at0, PV.at1, PV.at2, PV.at3, PV.at4, Option.bind_some, Option.map_some, Option.bind_none, Option.map_none, List.getElem?_cons_zero, List.getElem?_cons_succ, List.set_cons_zero, List.set_cons_succ, if_true, if_false, PV.kit_ii, PV.kit_ti, PV.kit_tt, PV.kit_ib, PV.kit_it, PV.kit_ll, PV.kit_li, Bool.not_true, Bool.not_false, Bool.false_eq_true, Bool.not_eq_true, reduceIte, List.length_cons, List.length_nil, Nat.reduceAdd, Nat.zero_add, PV.most_0, PV.most_1, PV.most_2, PV.most_3, PV.most_4, PV.most_5, PV.most_6, PV.most_7, decide_true, decide_false, List.nil_append, List.cons_append]
theorem law_row_ok {cell bound : Int} {n : Nat} (hb : 0 < bound ∧ bound < 4294967296) (hn : n ≤ 1000) : ∃ xs : List Int, f_law_row [.int cell, .int (n : Int), .int bound] = some (.lst (xs.map .int)) ∧ xs.length = n ∧ ∀ x ∈ xs, 0 ≤ x ∧ x < bound := by
  have m0 : PV.dMod (.int cell) (.int 1000003) = some (.int (cell % 1000003)) := PV.dMod_ok (by decide)
  have b1 := Int.emod_nonneg cell (show (1000003 : Int) ≠ 0 by decide)
  have b2 := Int.emod_lt_of_pos cell (show (0 : Int) < 1000003 by decide)
  have r1 : PV.dRng1 [.int (n : Int)] = some (PV.span 0 n) := PV.rng1 (by unfold PV.most; omega)
  obtain ⟨δ', h1, h2⟩ := PV.dLoop_inv (step := e_law_row_t1) (fun i δ => i ≤ n → ∃ rest mixed xs y6, δ = [some (.dat (.int cell)), some (.dat (.int (n : Int))), some (.dat (.int bound)), some (.dat (.int rest)), some (.dat (.int mixed)), some (.own (List.map .int xs)), y6] ∧ 0 ≤ mixed ∧ mixed ≤ 2147483647 ∧ xs.length = i ∧ ∀ x ∈ xs, 0 ≤ x ∧ x < bound)
    (PV.span 0 n) 0 [some (.dat (.int cell)), some (.dat (.int (n : Int))), some (.dat (.int bound)), some (.dat (.int (if cell < 0 then -cell else cell))), some (.dat (.int (cell % 1000003 + 1))), some (.own []), none] (fun _ => ⟨_, _, [], none, rfl, by omega, by omega, rfl, fun _ m => by cases m⟩) (fun i d δ hi hp => by
      obtain ⟨hk, rfl⟩ := PV.span_get hi
      obtain ⟨rest, mixed, xs, y6, rfl, p1, p2, p3, p4⟩ := hp (by omega)
      obtain ⟨rest', mixed', x, e, q1, q2, q3, q4⟩ := law_row_step (cell := cell) (count := (n : Int)) (rest := rest) hb ⟨p1, p2⟩ (k := i) (by omega) (by omega) p4 y6
      refine ⟨_, e, fun _ => ⟨rest', mixed', xs ++ [x], _, rfl, q1, q2, by simp; omega, fun y m => ?_⟩⟩
      rcases List.mem_append.mp m with m | m
      · exact p4 y m
      · have := List.mem_singleton.mp m
        subst this; exact ⟨q3, q4⟩)
  obtain ⟨rest, mixed, xs, y6, rfl, p1, p2, p3, p4⟩ := h2 (by simp [PV.span_len])
  refine ⟨xs, ?_, by rw [p3, PV.span_len]; omega, p4⟩
  rw [run_law_row]
  unfold e_law_row
  simp only [PV.iBy, m0, e_law_row_l1_is, r1, h1, PV.fin, PV.dSeq, PV.dIf, PV.dAsg, PV.dAsgO, PV.dRet, PV.dRetN, PV.dNext, PV.dBreak, PV.dCont, PV.dDrop, PV.dApp, PV.dExt, PV.dSetI, PV.dPop, PV.dAug, PV.dAugI, PV.dFrz, PV.onOwn, PV.gN, PV.gT, PV.gC, PV.gNs, PV.dVar, PV.vVar, PV.dC, PV.dOp, PV.fOp, PV.dNeg, PV.dNot, PV.dAnd, PV.dOr, PV.dIfE, PV.dNil, PV.dCons, PV.dTup, PV.fLst, PV.dLst, PV.dCall, PV.fCall, PV.dTest, PV.tst, PV.dTru, PV.tru, PV.dAndT, PV.dOrT, PV.dNotT, PV.dYes, PV.dChain, PV.dIsi, PV.isi, PV.tyn, PV.dPart, PV.dNoPart, PV.fSl, PV.lItems, PV.iOf, PV.dItems, PV.iBy, PV.sItems, PV.dwipe, PV.bMax2, PV.bMin2, PV.bAbs, PV.bInt, PV.bLen, PV.bTup, PV.bList, PV.dAdd, PV.dSub, PV.dLt, PV.dLe, PV.dGt, PV.dGe, PV.dIsN, PV.dNotN, PV.isNon_non, PV.isNon_int, PV.fAdd, PV.dIx_l, PV.dIx_t, PV.dIx_f, PV.at0, PV.at1, PV.at2, PV.at3, PV.at4, Option.bind_some, Option.map_some, Option.bind_none, Option.map_none, List.getElem?_cons_zero, List.getElem?_cons_succ, List.set_cons_zero, List.set_cons_succ, if_true, if_false, PV.kit_ii, PV.kit_ti, PV.kit_tt, PV.kit_ib, PV.kit_it, PV.kit_ll, PV.kit_li, Bool.not_true, Bool.not_false, Bool.false_eq_true, Bool.not_eq_true, reduceIte, List.length_cons, List.length_nil, Nat.reduceAdd, Nat.zero_add, PV.most_0, PV.most_1, PV.most_2, PV.most_3, PV.most_4, PV.most_5, PV.most_6, PV.most_7, decide_true, decide_false, List.nil_append, List.cons_append]
/-! ## layouts that are built -/
def Bld (i : Nat) (l : Lay) (o : Int) : Prop := Stg i l ∧ l.panes.Nodup ∧ (∀ x ∈ l.panes, 1 ≤ x ∧ x ≤ o) ∧ (1 ≤ o ∧ o ≤ (i : Int) + 1) ∧ l.alt ∧ l.panes.length ≤ i + 1
theorem nodup_new {p nw : Int} : ∀ {l : List Int}, l.Nodup → nw ∉ l → (l.flatMap fun x => if x = p then [p, nw] else [x]).Nodup ∧ ∀ y ∈ (l.flatMap fun x => if x = p then [p, nw] else [x]), y ∈ l ∨ (y = nw ∧ p ∈ l)
  | [], _, _ => by simp
  | a :: l, h, hn => by
    obtain ⟨h1, h2⟩ := List.nodup_cons.mp h
    have hn2 : nw ∉ l := fun z => hn (List.mem_cons_of_mem _ z)
    have hna : nw ≠ a := fun z => hn (z ▸ List.mem_cons_self ..)
    obtain ⟨i1, i2⟩ := nodup_new (p := p) h2 hn2
    rw [List.flatMap_cons]
    have back : ∀ y ∈ (l.flatMap fun x => if x = p then [p, nw] else [x]), y ∈ a :: l ∨ (y = nw ∧ p ∈ a :: l) := fun y m => by
      rcases i2 y m with z | ⟨z1, z2⟩
      · exact .inl (List.mem_cons_of_mem _ z)
      · exact .inr ⟨z1, List.mem_cons_of_mem _ z2⟩
    by_cases c : a = p
    · subst c
      rw [if_pos rfl]
      have no : ∀ y ∈ (l.flatMap fun x => if x = a then [a, nw] else [x]), y ≠ a ∧ y ≠ nw := fun y m => by
        rcases i2 y m with z | ⟨z1, z2⟩
        · exact ⟨fun e => h1 (e ▸ z), fun e => hn2 (e ▸ z)⟩
        · exact (h1 z2).elim
      refine ⟨?_, fun y m => ?_⟩
      · rw [List.nodup_append]
        refine ⟨by simp [Ne.symm hna], i1, fun x hx y hy e => ?_⟩
        have := no y hy
        have hx' : x = a ∨ x = nw := by simpa using hx
        rcases hx' with z | z <;> subst z <;> simp_all
      · rcases List.mem_append.mp m with m | m
        · have hx' : y = a ∨ y = nw := by simpa using m
          rcases hx' with z | z
          · exact .inl (z ▸ List.mem_cons_self ..)
          · exact .inr ⟨z, List.mem_cons_self ..⟩
        · exact back y m
    · rw [if_neg c]
      refine ⟨?_, fun y m => ?_⟩
      · rw [List.nodup_append]
        refine ⟨by simp, i1, fun x hx y hy e => ?_⟩
        have hx' : x = a := by simpa using hx
        subst hx' e
        rcases i2 x hy with z | ⟨z1, z2⟩
        · exact h1 z
        · exact hna z1.symm
      · rcases List.mem_append.mp m with m | m
        · exact .inl ((List.mem_singleton.mp m) ▸ List.mem_cons_self ..)
        · exact back y m
theorem divided_panes {k : Nat} {l l' : Lay} (g : Stg k l) (hk : k ≤ 14) {w h : Int} (hw : w ≤ 1000) (hh : h ≤ 1000) {p : Int} {b : Bool} {nw : Int} (e : l.divided w h p b nw = some l') : l'.panes = l.panes.flatMap fun x => if x = p then [p, nw] else [x] := by
  have p2 := two_pow (k := k) (by omega)
  have fs := fit_stg g.1 (Nat.le_refl _) g.2 (by omega) hw hh
  have rin := g.room (by omega) hw hh p b
  unfold Lay.divided at e
  by_cases c : l.room w h p b < (if b = true then 3 else 5)
  · rw [if_pos c] at e; cases e
  · rw [if_neg c] at e
    have r1 : 1 ≤ l.room w h p b ∧ l.room w h p b ≤ 200000 := by
      rcases rin with z | z
      · rw [z] at c; exfalso; apply c; split <;> omega
      · exact z
    cases e
    have wg := withNew_good (p := p) (b := b) (nw := nw) r1 fs.1 (by omega)
    rw [fit_panes wg, withNew_panes fs.1, fit_panes g.1]
theorem moved_panes {k : Nat} {l : Lay} (g : Stg k l) (hk : k ≤ 15) {w h : Int} (hw : w ≤ 1000) (hh : h ≤ 1000) {p : Int} {b : Bool} {a : Int} : (l.moved w h p b a).panes = l.panes := by
  have p2 := two_pow hk
  have hpp := g.2
  have gl := g.1.least
  have fs := fit_stg g.1 (Nat.le_refl _) g.2 hk hw hh
  have fs2 := fs.2
  have fp : (l.fit w h).panes = l.panes := fit_panes g.1 w h
  have sg := shift_good (p := p) (b := b) (a := a) (B := 200000) (M := 2 ^ k) (g.fitEx w h) (by unfold Lay.W; omega) (by unfold Lay.H; omega) (by omega)
  unfold Lay.moved
  rw [fit_panes sg, shift_panes fs.1, fp]
theorem without_panes {k : Nat} {l : Lay} (g : Stg k l) (hk : k ≤ 15) (hn : l.panes.Nodup) {w h : Int} (hw : w ≤ 1000) (hh : h ≤ 1000) {p : Int} (h1 : l.panes ≠ [p]) : (l.without w h p).panes = l.panes.filter fun x => decide (x ≠ p) := by
  have fs := fit_stg g.1 (Nat.le_refl _) g.2 hk hw hh
  have fp : (l.fit w h).panes = l.panes := fit_panes g.1 w h
  have tg := taken_good (p := p) (P := 2 ^ k) (by decide) fs.1 (by rw [fp]; exact hn) fs.2
  have c : isP (l.fit w h) p = false := by
    cases hl : l.fit w h with
    | pane n =>
      rw [hl] at fp
      simp only [Lay.panes] at fp
      cases z : isP (.pane n) p with
      | false => rfl
      | true =>
        have : n = p := by simpa [isP] using z
        subst this
        exact (h1 fp.symm).elim
    | node _ _ _ => rfl
  unfold Lay.without
  rw [fit_panes tg, taken_panes fs.1 c, fp]
theorem isNon_d (l : Lay) : PV.isNon l.d = false := by cases l <;> rfl
theorem flat_none {p nw : Int} : ∀ {l : List Int}, p ∉ l → (l.flatMap fun x => if x = p then [p, nw] else [x]) = l
  | [], _ => rfl
  | a :: l, h => by
    have h1 : ¬a = p := fun e => h (e ▸ List.mem_cons_self ..)
    rw [List.flatMap_cons, if_neg h1, flat_none fun m => h (List.mem_cons_of_mem _ m)]
    rfl
theorem flat_one {p nw : Int} : ∀ {l : List Int}, l.Nodup → (l.flatMap fun x => if x = p then [p, nw] else [x]).length ≤ l.length + 1
  | [], _ => by simp
  | a :: l, h => by
    obtain ⟨h1, h2⟩ := List.nodup_cons.mp h
    rw [List.flatMap_cons, List.length_append, List.length_cons]
    by_cases c : a = p
    · subst c
      rw [if_pos rfl, flat_none h1]
      simp
      omega
    · rw [if_neg c]
      have := flat_one (nw := nw) (p := p) h2
      rw [List.length_singleton]
      omega

theorem Bld.mono {i : Nat} {l : Lay} {o : Int} (g : Bld i l o) : Bld (i + 1) l o := by
  have := Nat.pow_le_pow_right (n := 2) (by decide) (show i ≤ i + 1 by omega)
  exact ⟨⟨g.1.1.mono (Int.le_refl _) this (by omega), Nat.le_trans g.1.2 this⟩, g.2.1, g.2.2.1, ⟨g.2.2.2.1.1, by have := g.2.2.2.1.2; omega⟩, g.2.2.2.2.1, Nat.le_succ_of_le g.2.2.2.2.2⟩
/-! ## the program's sharing -/
/-! sharing -/
def pr2 (a b : Int) : PV.D := .tup [.int a, .int b]
theorem zip_ints : ∀ (xs ys : List Int), List.zipWith (fun x y => PV.D.tup [x, y]) (xs.map PV.D.int) (ys.map PV.D.int) = List.zipWith pr2 xs ys
  | [], _ => rfl
  | _ :: _, [] => rfl
  | x :: xs, y :: ys => by simp [pr2, zip_ints xs ys]
theorem comp_zip {step : PV.D → Option (Option PV.D)} {f : Int → Int → PV.D} : ∀ (xs ys : List Int) (acc : List PV.D), (∀ x ∈ xs, ∀ y ∈ ys, step (pr2 x y) = some (some (f x y))) → acc.length + xs.length ≤ 1000000 →
    PV.dComp step (List.zipWith pr2 xs ys) acc = some (acc ++ List.zipWith f xs ys)
  | [], _, acc, _, _ => by simp [PV.dComp]
  | _ :: _, [], acc, _, _ => by simp [PV.dComp]
  | x :: xs, y :: ys, acc, h, hl => by
    simp only [List.length_cons] at hl
    rw [List.zipWith_cons_cons]
    unfold PV.dComp
    rw [h x (List.mem_cons_self ..) y (List.mem_cons_self ..)]
    show (if acc.length < PV.most then PV.dComp step (List.zipWith pr2 xs ys) (acc ++ [f x y]) else none) = _
    rw [if_pos (show acc.length < PV.most from by unfold PV.most; omega), comp_zip xs ys _ (fun a ha b hb => h a (List.mem_cons_of_mem _ ha) b (List.mem_cons_of_mem _ hb)) (by rw [List.length_append]; simp; omega)]
    simp
theorem sum_zero {ms ss : List Int} : (ex0 ms ss).sum = 0 ↔ PV.lmax (ex0 ms ss) = 0 := by
  have hx : ∀ e ∈ ex0 ms ss, 0 ≤ e := fun e m => by
    obtain ⟨a, _, b, _, rfl⟩ := mem_zip m
    omega
  constructor
  · intro h
    by_cases c : ex0 ms ss = []
    · rw [c]; rfl
    · have h1 := lmax_mem c
      have h2 := (sum_ge hx).2 _ h1
      have h3 := hx _ h1
      omega
  · intro h
    have z : ∀ e ∈ ex0 ms ss, e = 0 := fun e m => by
      have := hx e m
      have := lmax_ge e m
      omega
    have : ∀ l : List Int, (∀ e ∈ l, e = 0) → l.sum = 0 := by
      intro l
      induction l with
      | nil => intro _; rfl
      | cons a l ih => intro h; rw [List.sum_cons, h a (List.mem_cons_self ..), ih fun e m => h e (List.mem_cons_of_mem _ m)]; rfl
    exact this _ z
theorem share_c1 {ms ss : List Int} (hl : ms.length ≤ 1000000) (δ0 δ1 δ2 δ3 δ4 δ5 δ6 δ7 δ8 δ9 δ10 δ11 δ12 δ13 : Option PV.DV) : PV.dComp (e_share_s1 [δ0, δ1, δ2, δ3, δ4, δ5, δ6, δ7, δ8, δ9, δ10, δ11, δ12, δ13]) (List.zipWith pr2 ms ss) [] = some ((ex0 ms ss).map .int) := by
  rw [comp_zip (f := fun m s => .int (max 0 (s - m))) ms ss [] (fun m _ s _ => ?_) (by simpa using hl)]
  · simp [ex0, List.map_zipWith]
  · simp only [e_share_s1, PV.cStep, pr2, PV.fin, PV.dSeq, PV.dIf, PV.dAsg, PV.dAsgO, PV.dRet, PV.dRetN, PV.dNext, PV.dBreak, PV.dCont, PV.dDrop, PV.dApp, PV.dExt, PV.dSetI, PV.dPop, PV.dAug, PV.dAugI, PV.dFrz, PV.onOwn, PV.gN, PV.gT, PV.gC, PV.gNs, PV.dVar, PV.vVar, PV.dC, PV.dOp, PV.fOp, PV.dNeg, PV.dNot, PV.dAnd, PV.dOr, PV.dIfE, PV.dNil, PV.dCons, PV.dTup, PV.fLst, PV.dLst, PV.dCall, PV.fCall, PV.dTest, PV.tst, PV.dTru, PV.tru, PV.dAndT, PV.dOrT, PV.dNotT, PV.dYes, PV.dChain, PV.dIsi, PV.isi, PV.tyn, PV.dPart, PV.dNoPart, PV.fSl, PV.lItems, PV.iOf, PV.dItems, PV.iBy, PV.sItems, PV.dwipe, PV.bMax2, PV.bMin2, PV.bAbs, PV.bInt, PV.bLen, PV.bTup, PV.bList, PV.dAdd, PV.dSub, PV.dLt, PV.dLe, PV.dGt, PV.dGe, PV.dIsN, PV.dNotN, PV.isNon_non, PV.isNon_int, PV.fAdd, PV.dIx_l, PV.dIx_t, PV.dIx_f, PV.at0, PV.at1, PV.at2, PV.at3, PV.at4, Option.bind_some, Option.map_some, Option.bind_none, Option.map_none, List.getElem?_cons_zero, List.getElem?_cons_succ, List.set_cons_zero, List.set_cons_succ, if_true, if_false, PV.kit_ii, PV.kit_ti, PV.kit_tt, PV.kit_ib, PV.kit_it, PV.kit_ll, PV.kit_li, Bool.not_true, Bool.not_false, Bool.false_eq_true, Bool.not_eq_true, reduceIte, List.length_cons, List.length_nil, Nat.reduceAdd, Nat.zero_add, PV.most_0, PV.most_1, PV.most_2, PV.most_3, PV.most_4, PV.most_5, PV.most_6, PV.most_7, decide_true, decide_false, List.nil_append, List.cons_append]
theorem share_c3 {t : Int} {ms ss : List Int} (h : ShOk t ms ss) (δ0 δ1 δ2 δ3 δ5 δ7 δ8 δ9 δ10 δ11 δ12 δ13 : Option PV.DV) : PV.dComp (e_share_s3 [δ0, δ1, δ2, δ3, some (.dat (.int (spareOf t ms))), δ5, some (.dat (.int (exs ms ss).sum)), δ7, δ8, δ9, δ10, δ11, δ12, δ13]) (List.zipWith pr2 ms (exs ms ss)) [] = some ((news t ms ss).map .int) := by
  have hsum := h.sum
  have hsp := h.spare
  have hl := h.l
  rw [comp_zip (f := fun m e => .int (m + spareOf t ms * e / (exs ms ss).sum)) ms (exs ms ss) [] (fun m _ e he => ?_) (by simp; omega)]
  · simp [news, List.map_zipWith]
  · have e1 := exs_in (C := 1000000000) (by decide) h.m h.s e he
    have m1 : PV.dMul (.int (spareOf t ms)) (.int e) = some (.int (spareOf t ms * e)) := PV.dMul_ok (by omega) (by omega)
    have m2 : PV.dDiv (.int (spareOf t ms * e)) (.int (exs ms ss).sum) = some (.int (spareOf t ms * e / (exs ms ss).sum)) := PV.dDiv_ok hsum.1 (by omega)
    simp only [e_share_s3, PV.cStep, pr2, m1, m2, PV.fin, PV.dSeq, PV.dIf, PV.dAsg, PV.dAsgO, PV.dRet, PV.dRetN, PV.dNext, PV.dBreak, PV.dCont, PV.dDrop, PV.dApp, PV.dExt, PV.dSetI, PV.dPop, PV.dAug, PV.dAugI, PV.dFrz, PV.onOwn, PV.gN, PV.gT, PV.gC, PV.gNs, PV.dVar, PV.vVar, PV.dC, PV.dOp, PV.fOp, PV.dNeg, PV.dNot, PV.dAnd, PV.dOr, PV.dIfE, PV.dNil, PV.dCons, PV.dTup, PV.fLst, PV.dLst, PV.dCall, PV.fCall, PV.dTest, PV.tst, PV.dTru, PV.tru, PV.dAndT, PV.dOrT, PV.dNotT, PV.dYes, PV.dChain, PV.dIsi, PV.isi, PV.tyn, PV.dPart, PV.dNoPart, PV.fSl, PV.lItems, PV.iOf, PV.dItems, PV.iBy, PV.sItems, PV.dwipe, PV.bMax2, PV.bMin2, PV.bAbs, PV.bInt, PV.bLen, PV.bTup, PV.bList, PV.dAdd, PV.dSub, PV.dLt, PV.dLe, PV.dGt, PV.dGe, PV.dIsN, PV.dNotN, PV.isNon_non, PV.isNon_int, PV.fAdd, PV.dIx_l, PV.dIx_t, PV.dIx_f, PV.at0, PV.at1, PV.at2, PV.at3, PV.at4, Option.bind_some, Option.map_some, Option.bind_none, Option.map_none, List.getElem?_cons_zero, List.getElem?_cons_succ, List.set_cons_zero, List.set_cons_succ, if_true, if_false, PV.kit_ii, PV.kit_ti, PV.kit_tt, PV.kit_ib, PV.kit_it, PV.kit_ll, PV.kit_li, Bool.not_true, Bool.not_false, Bool.false_eq_true, Bool.not_eq_true, reduceIte, List.length_cons, List.length_nil, Nat.reduceAdd, Nat.zero_add, PV.most_0, PV.most_1, PV.most_2, PV.most_3, PV.most_4, PV.most_5, PV.most_6, PV.most_7, decide_true, decide_false, List.nil_append, List.cons_append]
theorem enum_get {xs : List PV.D} {i : Nat} {d : PV.D} (h : (List.zipWith (fun (k : Nat) d => PV.D.tup [.int k, d]) (List.range xs.length) xs)[i]? = some d) : ∃ hi : i < xs.length, d = .tup [.int (i : Int), xs[i]] := by
  rw [List.getElem?_zipWith] at h
  cases hk : (List.range xs.length)[i]? with
  | none => rw [hk] at h; cases h
  | some k =>
    cases hx : xs[i]? with
    | none => rw [hk, hx] at h; cases h
    | some x =>
      rw [hk, hx] at h
      cases h
      obtain ⟨l1, l2⟩ := List.getElem?_eq_some_iff.mp hk
      rw [List.getElem_range] at l2
      subst l2
      obtain ⟨l3, l4⟩ := List.getElem?_eq_some_iff.mp hx
      exact ⟨l3, by rw [l4]⟩
theorem share_l4 {ex ns : List Int} {left : Int} (hn : ns.length = ex.length) (x0 x1 x2 x3 x4 x5 x6 x11 x12 x13 : Option PV.DV) : ∃ y8 y9 y10, PV.dLoop e_share_t4 (List.zipWith (fun (k : Nat) d => PV.D.tup [.int k, d]) (List.range (ex.map PV.D.int).length) (ex.map PV.D.int)) [x0, x1, x2, x3, x4, x5, x6, some (.own (ns.map .int)), some (.dat (.int left)), none, none, x11, x12, x13] =
      some (.nx [x0, x1, x2, x3, x4, x5, x6, some (.own ((gv ex ns left ex.length).1.map .int)), y8, y9, y10, x11, x12, x13]) := by
  obtain ⟨δ', h1, h2⟩ := PV.dLoop_inv (step := e_share_t4) (fun i δ => i ≤ ex.length → ∃ y9 y10, δ = [x0, x1, x2, x3, x4, x5, x6, some (.own ((gv ex ns left i).1.map .int)), some (.dat (.int (gv ex ns left i).2)), y9, y10, x11, x12, x13])
      (List.zipWith (fun (k : Nat) d => PV.D.tup [.int k, d]) (List.range (ex.map PV.D.int).length) (ex.map PV.D.int)) 0 [x0, x1, x2, x3, x4, x5, x6, some (.own (ns.map .int)), some (.dat (.int left)), none, none, x11, x12, x13] (fun _ => ⟨none, none, rfl⟩) (fun i d δ hi hp => by
        obtain ⟨hk0, rfl⟩ := enum_get hi
        have hk : i < ex.length := by simpa using hk0
        obtain ⟨y9, y10, rfl⟩ := hp (by omega)
        rw [Nat.zero_add, List.getElem_map]
        have hg : i < (gv ex ns left i).1.length := by rw [gv_len, hn]; exact hk
        have a2 : (List.map PV.D.int (gv ex ns left i).1)[i]? = some (.int (gv ex ns left i).1[i]) := by rw [List.getElem?_map, List.getElem?_eq_getElem hg]; rfl
        have a3 : ixN (List.map PV.D.int (gv ex ns left i).1).length (i : Int) = some i := PV.ix_nat (by rw [List.length_map]; exact hg)
        by_cases c : 0 < ex[i]
        · by_cases c2 : 0 < (gv ex ns left i).2
          · refine ⟨_, ?_, fun _ => ⟨some (.dat (.int i)), some (.dat (.int (ex[i]'hk))), rfl⟩⟩
            simp only [e_share_t4, e_share_b4, a2, a3, c, c2, PV.fin, PV.dSeq, PV.dIf, PV.dAsg, PV.dAsgO, PV.dRet, PV.dRetN, PV.dNext, PV.dBreak, PV.dCont, PV.dDrop, PV.dApp, PV.dExt, PV.dSetI, PV.dPop, PV.dAug, PV.dAugI, PV.dFrz, PV.onOwn, PV.gN, PV.gT, PV.gC, PV.gNs, PV.dVar, PV.vVar, PV.dC, PV.dOp, PV.fOp, PV.dNeg, PV.dNot, PV.dAnd, PV.dOr, PV.dIfE, PV.dNil, PV.dCons, PV.dTup, PV.fLst, PV.dLst, PV.dCall, PV.fCall, PV.dTest, PV.tst, PV.dTru, PV.tru, PV.dAndT, PV.dOrT, PV.dNotT, PV.dYes, PV.dChain, PV.dIsi, PV.isi, PV.tyn, PV.dPart, PV.dNoPart, PV.fSl, PV.lItems, PV.iOf, PV.dItems, PV.iBy, PV.sItems, PV.dwipe, PV.bMax2, PV.bMin2, PV.bAbs, PV.bInt, PV.bLen, PV.bTup, PV.bList, PV.dAdd, PV.dSub, PV.dLt, PV.dLe, PV.dGt, PV.dGe, PV.dIsN, PV.dNotN, PV.isNon_non, PV.isNon_int, PV.fAdd, PV.dIx_l, PV.dIx_t, PV.dIx_f, PV.at0, PV.at1, PV.at2, PV.at3, PV.at4, Option.bind_some, Option.map_some, Option.bind_none, Option.map_none, List.getElem?_cons_zero, List.getElem?_cons_succ, List.set_cons_zero, List.set_cons_succ, if_true, if_false, PV.kit_ii, PV.kit_ti, PV.kit_tt, PV.kit_ib, PV.kit_it, PV.kit_ll, PV.kit_li, Bool.not_true, Bool.not_false, Bool.false_eq_true, Bool.not_eq_true, reduceIte, List.length_cons, List.length_nil, Nat.reduceAdd, Nat.zero_add, PV.most_0, PV.most_1, PV.most_2, PV.most_3, PV.most_4, PV.most_5, PV.most_6, PV.most_7, decide_true, decide_false, List.nil_append, List.cons_append]
            rw [gv, if_pos ⟨by rw [getD_get hk]; exact c, c2⟩, getD_get hg]
            simp
          · refine ⟨_, ?_, fun _ => ⟨some (.dat (.int i)), some (.dat (.int (ex[i]'hk))), rfl⟩⟩
            simp only [e_share_t4, e_share_b4, a2, a3, c, c2, PV.fin, PV.dSeq, PV.dIf, PV.dAsg, PV.dAsgO, PV.dRet, PV.dRetN, PV.dNext, PV.dBreak, PV.dCont, PV.dDrop, PV.dApp, PV.dExt, PV.dSetI, PV.dPop, PV.dAug, PV.dAugI, PV.dFrz, PV.onOwn, PV.gN, PV.gT, PV.gC, PV.gNs, PV.dVar, PV.vVar, PV.dC, PV.dOp, PV.fOp, PV.dNeg, PV.dNot, PV.dAnd, PV.dOr, PV.dIfE, PV.dNil, PV.dCons, PV.dTup, PV.fLst, PV.dLst, PV.dCall, PV.fCall, PV.dTest, PV.tst, PV.dTru, PV.tru, PV.dAndT, PV.dOrT, PV.dNotT, PV.dYes, PV.dChain, PV.dIsi, PV.isi, PV.tyn, PV.dPart, PV.dNoPart, PV.fSl, PV.lItems, PV.iOf, PV.dItems, PV.iBy, PV.sItems, PV.dwipe, PV.bMax2, PV.bMin2, PV.bAbs, PV.bInt, PV.bLen, PV.bTup, PV.bList, PV.dAdd, PV.dSub, PV.dLt, PV.dLe, PV.dGt, PV.dGe, PV.dIsN, PV.dNotN, PV.isNon_non, PV.isNon_int, PV.fAdd, PV.dIx_l, PV.dIx_t, PV.dIx_f, PV.at0, PV.at1, PV.at2, PV.at3, PV.at4, Option.bind_some, Option.map_some, Option.bind_none, Option.map_none, List.getElem?_cons_zero, List.getElem?_cons_succ, List.set_cons_zero, List.set_cons_succ, if_true, if_false, PV.kit_ii, PV.kit_ti, PV.kit_tt, PV.kit_ib, PV.kit_it, PV.kit_ll, PV.kit_li, Bool.not_true, Bool.not_false, Bool.false_eq_true, Bool.not_eq_true, reduceIte, List.length_cons, List.length_nil, Nat.reduceAdd, Nat.zero_add, PV.most_0, PV.most_1, PV.most_2, PV.most_3, PV.most_4, PV.most_5, PV.most_6, PV.most_7, decide_true, decide_false, List.nil_append, List.cons_append]
            rw [gv, if_neg (fun z => c2 z.2)]
        · refine ⟨_, ?_, fun _ => ⟨some (.dat (.int i)), some (.dat (.int (ex[i]'hk))), rfl⟩⟩
          simp only [e_share_t4, e_share_b4, a2, a3, c, PV.fin, PV.dSeq, PV.dIf, PV.dAsg, PV.dAsgO, PV.dRet, PV.dRetN, PV.dNext, PV.dBreak, PV.dCont, PV.dDrop, PV.dApp, PV.dExt, PV.dSetI, PV.dPop, PV.dAug, PV.dAugI, PV.dFrz, PV.onOwn, PV.gN, PV.gT, PV.gC, PV.gNs, PV.dVar, PV.vVar, PV.dC, PV.dOp, PV.fOp, PV.dNeg, PV.dNot, PV.dAnd, PV.dOr, PV.dIfE, PV.dNil, PV.dCons, PV.dTup, PV.fLst, PV.dLst, PV.dCall, PV.fCall, PV.dTest, PV.tst, PV.dTru, PV.tru, PV.dAndT, PV.dOrT, PV.dNotT, PV.dYes, PV.dChain, PV.dIsi, PV.isi, PV.tyn, PV.dPart, PV.dNoPart, PV.fSl, PV.lItems, PV.iOf, PV.dItems, PV.iBy, PV.sItems, PV.dwipe, PV.bMax2, PV.bMin2, PV.bAbs, PV.bInt, PV.bLen, PV.bTup, PV.bList, PV.dAdd, PV.dSub, PV.dLt, PV.dLe, PV.dGt, PV.dGe, PV.dIsN, PV.dNotN, PV.isNon_non, PV.isNon_int, PV.fAdd, PV.dIx_l, PV.dIx_t, PV.dIx_f, PV.at0, PV.at1, PV.at2, PV.at3, PV.at4, Option.bind_some, Option.map_some, Option.bind_none, Option.map_none, List.getElem?_cons_zero, List.getElem?_cons_succ, List.set_cons_zero, List.set_cons_succ, if_true, if_false, PV.kit_ii, PV.kit_ti, PV.kit_tt, PV.kit_ib, PV.kit_it, PV.kit_ll, PV.kit_li, Bool.not_true, Bool.not_false, Bool.false_eq_true, Bool.not_eq_true, reduceIte, List.length_cons, List.length_nil, Nat.reduceAdd, Nat.zero_add, PV.most_0, PV.most_1, PV.most_2, PV.most_3, PV.most_4, PV.most_5, PV.most_6, PV.most_7, decide_true, decide_false, List.nil_append, List.cons_append]
          rw [gv, if_neg (fun z => c (by rw [getD_get hk] at z; exact z.1))])
  have hlen : (List.zipWith (fun (k : Nat) d => PV.D.tup [.int k, d]) (List.range (ex.map PV.D.int).length) (ex.map PV.D.int)).length = ex.length := by simp
  obtain ⟨y9, y10, rfl⟩ := h2 (by rw [hlen]; omega)
  rw [Nat.zero_add, hlen] at h1
  exact ⟨_, y9, y10, h1⟩
theorem share_ok {t : Int} {ms ss : List Int} (h : ShOk t ms ss) : f_share [.int t, .lst (ms.map .int), .lst (ss.map .int)] = some (.lst ((share t ms ss).map .int)) := by
  have hl : ms.length ≤ 1000000 := Nat.le_trans h.l (by decide)
  have hle : (ex0 ms ss).length ≤ PV.most := by rw [ex0_len h.n]; exact hl
  have c1 := share_c1 (ms := ms) (ss := ss) hl
  have c3 := share_c3 h
  have hq : PV.dEq (.int (ex0 ms ss).sum) (.int 0) = some (.bl (decide ((ex0 ms ss).sum = 0))) := PV.dEq_int
  have sp : max 0 (t - ((ms.length : Int) - 1) - ms.sum) = spareOf t ms := by unfold spareOf; congr 1; omega
  obtain ⟨y8, y9, y10, l4⟩ := share_l4 (ex := exs ms ss) (ns := news t ms ss) (left := leftOf t ms ss) (by rw [exs_len h.n, news_len h.n]) (some (.dat (.int t))) (some (.dat (.lst (ms.map .int)))) (some (.dat (.lst (ss.map .int)))) (some (.dat (.int ((ms.length : Int) - 1)))) (some (.dat (.int (spareOf t ms)))) (some (.dat (.lst ((exs ms ss).map .int)))) (some (.dat (.int (exs ms ss).sum))) none none none
  have en : PV.dEn [.lst ((exs ms ss).map .int)] = some (List.zipWith (fun (k : Nat) d => PV.D.tup [.int k, d]) (List.range ((exs ms ss).map PV.D.int).length) ((exs ms ss).map PV.D.int)) := rfl
  have zp : ∀ xs ys : List Int, PV.dZp [.lst (xs.map .int), .lst (ys.map .int)] = some (List.zipWith pr2 xs ys) := fun xs ys => by rw [← zip_ints]; rfl
  have fin : ∀ x, x = exs ms ss → PV.fin (PV.dSeq (PV.dAsg (PV.dCall PV.bSum (PV.dCons (PV.vVar 5) PV.dNil)) (PV.gN 6)) (PV.dSeq (PV.dAsgO 7 e_share_c3) (PV.dSeq (PV.dAsg (PV.dOp PV.dSub (PV.dOp PV.dAdd (PV.vVar 4) (PV.dCall PV.bSum (PV.dCons (PV.vVar 1) PV.dNil))) (PV.dCall PV.bSum (PV.dCons (PV.vVar 7) PV.dNil))) (PV.gN 8)) (PV.dSeq e_share_l4 (PV.dFrz 7 (PV.dRet (PV.dVar 7))))))
      [some (.dat (.int t)), some (.dat (.lst (ms.map .int))), some (.dat (.lst (ss.map .int))), some (.dat (.int ((ms.length : Int) - 1))), some (.dat (.int (spareOf t ms))), some (.dat (.lst (x.map .int))), none, none, none, none, none, none, none, none]) = some (.lst ((share t ms ss).map .int)) := fun x hx => by
    subst hx
    simp only [PV.iBy, PV.bSum_ints, e_share_c3_is, zp, c3, PV.fin, PV.dSeq, PV.dIf, PV.dAsg, PV.dAsgO, PV.dRet, PV.dRetN, PV.dNext, PV.dBreak, PV.dCont, PV.dDrop, PV.dApp, PV.dExt, PV.dSetI, PV.dPop, PV.dAug, PV.dAugI, PV.dFrz, PV.onOwn, PV.gN, PV.gT, PV.gC, PV.gNs, PV.dVar, PV.vVar, PV.dC, PV.dOp, PV.fOp, PV.dNeg, PV.dNot, PV.dAnd, PV.dOr, PV.dIfE, PV.dNil, PV.dCons, PV.dTup, PV.fLst, PV.dLst, PV.dCall, PV.fCall, PV.dTest, PV.tst, PV.dTru, PV.tru, PV.dAndT, PV.dOrT, PV.dNotT, PV.dYes, PV.dChain, PV.dIsi, PV.isi, PV.tyn, PV.dPart, PV.dNoPart, PV.fSl, PV.lItems, PV.iOf, PV.dItems, PV.iBy, PV.sItems, PV.dwipe, PV.bMax2, PV.bMin2, PV.bAbs, PV.bInt, PV.bLen, PV.bTup, PV.bList, PV.dAdd, PV.dSub, PV.dLt, PV.dLe, PV.dGt, PV.dGe, PV.dIsN, PV.dNotN, PV.isNon_non, PV.isNon_int, PV.fAdd, PV.dIx_l, PV.dIx_t, PV.dIx_f, PV.at0, PV.at1, PV.at2, PV.at3, PV.at4, Option.bind_some, Option.map_some, Option.bind_none, Option.map_none, List.getElem?_cons_zero, List.getElem?_cons_succ, List.set_cons_zero, List.set_cons_succ, if_true, if_false, PV.kit_ii, PV.kit_ti, PV.kit_tt, PV.kit_ib, PV.kit_it, PV.kit_ll, PV.kit_li, Bool.not_true, Bool.not_false, Bool.false_eq_true, Bool.not_eq_true, reduceIte, List.length_cons, List.length_nil, Nat.reduceAdd, Nat.zero_add, PV.most_0, PV.most_1, PV.most_2, PV.most_3, PV.most_4, PV.most_5, PV.most_6, PV.most_7, decide_true, decide_false, List.nil_append, List.cons_append]
    rw [show spareOf t ms + ms.sum - (news t ms ss).sum = leftOf t ms ss from rfl]
    simp only [PV.iBy, e_share_l4_is, en, l4, PV.fin, PV.dSeq, PV.dIf, PV.dAsg, PV.dAsgO, PV.dRet, PV.dRetN, PV.dNext, PV.dBreak, PV.dCont, PV.dDrop, PV.dApp, PV.dExt, PV.dSetI, PV.dPop, PV.dAug, PV.dAugI, PV.dFrz, PV.onOwn, PV.gN, PV.gT, PV.gC, PV.gNs, PV.dVar, PV.vVar, PV.dC, PV.dOp, PV.fOp, PV.dNeg, PV.dNot, PV.dAnd, PV.dOr, PV.dIfE, PV.dNil, PV.dCons, PV.dTup, PV.fLst, PV.dLst, PV.dCall, PV.fCall, PV.dTest, PV.tst, PV.dTru, PV.tru, PV.dAndT, PV.dOrT, PV.dNotT, PV.dYes, PV.dChain, PV.dIsi, PV.isi, PV.tyn, PV.dPart, PV.dNoPart, PV.fSl, PV.lItems, PV.iOf, PV.dItems, PV.iBy, PV.sItems, PV.dwipe, PV.bMax2, PV.bMin2, PV.bAbs, PV.bInt, PV.bLen, PV.bTup, PV.bList, PV.dAdd, PV.dSub, PV.dLt, PV.dLe, PV.dGt, PV.dGe, PV.dIsN, PV.dNotN, PV.isNon_non, PV.isNon_int, PV.fAdd, PV.dIx_l, PV.dIx_t, PV.dIx_f, PV.at0, PV.at1, PV.at2, PV.at3, PV.at4, Option.bind_some, Option.map_some, Option.bind_none, Option.map_none, List.getElem?_cons_zero, List.getElem?_cons_succ, List.set_cons_zero, List.set_cons_succ, if_true, if_false, PV.kit_ii, PV.kit_ti, PV.kit_tt, PV.kit_ib, PV.kit_it, PV.kit_ll, PV.kit_li, Bool.not_true, Bool.not_false, Bool.false_eq_true, Bool.not_eq_true, reduceIte, List.length_cons, List.length_nil, Nat.reduceAdd, Nat.zero_add, PV.most_0, PV.most_1, PV.most_2, PV.most_3, PV.most_4, PV.most_5, PV.most_6, PV.most_7, decide_true, decide_false, List.nil_append, List.cons_append]
    rw [share, exs_len h.n]
  rw [run_share]
  unfold e_share
  by_cases c : (ex0 ms ss).sum = 0
  · have f := fin ((ex0 ms ss).map fun _ => (1 : Int)) (by unfold exs; rw [if_pos (sum_zero.mp c)])
    have c2 : ∀ δ0 δ1 δ2 δ3 δ4 δ5 δ6 δ7 δ8 δ9 δ10 δ11 δ12 δ13, PV.dComp (e_share_s2 [δ0, δ1, δ2, δ3, δ4, δ5, δ6, δ7, δ8, δ9, δ10, δ11, δ12, δ13]) ((ex0 ms ss).map .int) [] = some (((ex0 ms ss).map fun _ => (1 : Int)).map .int) := fun δ0 δ1 δ2 δ3 δ4 δ5 δ6 δ7 δ8 δ9 δ10 δ11 δ12 δ13 => by
      rw [PV.dComp_map (f := fun _ => .int 1) _ _ (fun d _ => ?_) (by rw [List.length_map, List.length_nil, Nat.zero_add]; exact hle)]
      · simp [List.map_map, Function.comp_def]
      · simp only [e_share_s2, PV.cStep, PV.fin, PV.dSeq, PV.dIf, PV.dAsg, PV.dAsgO, PV.dRet, PV.dRetN, PV.dNext, PV.dBreak, PV.dCont, PV.dDrop, PV.dApp, PV.dExt, PV.dSetI, PV.dPop, PV.dAug, PV.dAugI, PV.dFrz, PV.onOwn, PV.gN, PV.gT, PV.gC, PV.gNs, PV.dVar, PV.vVar, PV.dC, PV.dOp, PV.fOp, PV.dNeg, PV.dNot, PV.dAnd, PV.dOr, PV.dIfE, PV.dNil, PV.dCons, PV.dTup, PV.fLst, PV.dLst, PV.dCall, PV.fCall, PV.dTest, PV.tst, PV.dTru, PV.tru, PV.dAndT, PV.dOrT, PV.dNotT, PV.dYes, PV.dChain, PV.dIsi, PV.isi, PV.tyn, PV.dPart, PV.dNoPart, PV.fSl, PV.lItems, PV.iOf, PV.dItems, PV.iBy, PV.sItems, PV.dwipe, PV.bMax2, PV.bMin2, PV.bAbs, PV.bInt, PV.bLen, PV.bTup, PV.bList, PV.dAdd, PV.dSub, PV.dLt, PV.dLe, PV.dGt, PV.dGe, PV.dIsN, PV.dNotN, PV.isNon_non, PV.isNon_int, PV.fAdd, PV.dIx_l, PV.dIx_t, PV.dIx_f, PV.at0, PV.at1, PV.at2, PV.at3, PV.at4, Option.bind_some, Option.map_some, Option.bind_none, Option.map_none, List.getElem?_cons_zero, List.getElem?_cons_succ, List.set_cons_zero, List.set_cons_succ, if_true, if_false, PV.kit_ii, PV.kit_ti, PV.kit_tt, PV.kit_ib, PV.kit_it, PV.kit_ll, PV.kit_li, Bool.not_true, Bool.not_false, Bool.false_eq_true, Bool.not_eq_true, reduceIte, List.length_cons, List.length_nil, Nat.reduceAdd, Nat.zero_add, PV.most_0, PV.most_1, PV.most_2, PV.most_3, PV.most_4, PV.most_5, PV.most_6, PV.most_7, decide_true, decide_false, List.nil_append, List.cons_append]
    refine Eq.trans (congrArg PV.fin ?_) f
    rw [decide_eq_true c] at hq
    rw [PV.dSeq]
    simp only [PV.iBy, PV.bSum_ints, List.length_map, sp, e_share_c1_is, zp, c1, hq, e_share_c2_is, c2, PV.fin, PV.dSeq, PV.dIf, PV.dAsg, PV.dAsgO, PV.dRet, PV.dRetN, PV.dNext, PV.dBreak, PV.dCont, PV.dDrop, PV.dApp, PV.dExt, PV.dSetI, PV.dPop, PV.dAug, PV.dAugI, PV.dFrz, PV.onOwn, PV.gN, PV.gT, PV.gC, PV.gNs, PV.dVar, PV.vVar, PV.dC, PV.dOp, PV.fOp, PV.dNeg, PV.dNot, PV.dAnd, PV.dOr, PV.dIfE, PV.dNil, PV.dCons, PV.dTup, PV.fLst, PV.dLst, PV.dCall, PV.fCall, PV.dTest, PV.tst, PV.dTru, PV.tru, PV.dAndT, PV.dOrT, PV.dNotT, PV.dYes, PV.dChain, PV.dIsi, PV.isi, PV.tyn, PV.dPart, PV.dNoPart, PV.fSl, PV.lItems, PV.iOf, PV.dItems, PV.iBy, PV.sItems, PV.dwipe, PV.bMax2, PV.bMin2, PV.bAbs, PV.bInt, PV.bLen, PV.bTup, PV.bList, PV.dAdd, PV.dSub, PV.dLt, PV.dLe, PV.dGt, PV.dGe, PV.dIsN, PV.dNotN, PV.isNon_non, PV.isNon_int, PV.fAdd, PV.dIx_l, PV.dIx_t, PV.dIx_f, PV.at0, PV.at1, PV.at2, PV.at3, PV.at4, Option.bind_some, Option.map_some, Option.bind_none, Option.map_none, List.getElem?_cons_zero, List.getElem?_cons_succ, List.set_cons_zero, List.set_cons_succ, if_true, if_false, PV.kit_ii, PV.kit_ti, PV.kit_tt, PV.kit_ib, PV.kit_it, PV.kit_ll, PV.kit_li, Bool.not_true, Bool.not_false, Bool.false_eq_true, Bool.not_eq_true, reduceIte, List.length_cons, List.length_nil, Nat.reduceAdd, Nat.zero_add, PV.most_0, PV.most_1, PV.most_2, PV.most_3, PV.most_4, PV.most_5, PV.most_6, PV.most_7, decide_true, decide_false, List.nil_append, List.cons_append]
  · have f := fin (ex0 ms ss) (by unfold exs; rw [if_neg (fun z => c (sum_zero.mpr z))])
    refine Eq.trans (congrArg PV.fin ?_) f
    rw [decide_eq_false c] at hq
    rw [PV.dSeq]
    simp only [PV.iBy, PV.bSum_ints, List.length_map, sp, e_share_c1_is, zp, c1, hq, PV.fin, PV.dSeq, PV.dIf, PV.dAsg, PV.dAsgO, PV.dRet, PV.dRetN, PV.dNext, PV.dBreak, PV.dCont, PV.dDrop, PV.dApp, PV.dExt, PV.dSetI, PV.dPop, PV.dAug, PV.dAugI, PV.dFrz, PV.onOwn, PV.gN, PV.gT, PV.gC, PV.gNs, PV.dVar, PV.vVar, PV.dC, PV.dOp, PV.fOp, PV.dNeg, PV.dNot, PV.dAnd, PV.dOr, PV.dIfE, PV.dNil, PV.dCons, PV.dTup, PV.fLst, PV.dLst, PV.dCall, PV.fCall, PV.dTest, PV.tst, PV.dTru, PV.tru, PV.dAndT, PV.dOrT, PV.dNotT, PV.dYes, PV.dChain, PV.dIsi, PV.isi, PV.tyn, PV.dPart, PV.dNoPart, PV.fSl, PV.lItems, PV.iOf, PV.dItems, PV.iBy, PV.sItems, PV.dwipe, PV.bMax2, PV.bMin2, PV.bAbs, PV.bInt, PV.bLen, PV.bTup, PV.bList, PV.dAdd, PV.dSub, PV.dLt, PV.dLe, PV.dGt, PV.dGe, PV.dIsN, PV.dNotN, PV.isNon_non, PV.isNon_int, PV.fAdd, PV.dIx_l, PV.dIx_t, PV.dIx_f, PV.at0, PV.at1, PV.at2, PV.at3, PV.at4, Option.bind_some, Option.map_some, Option.bind_none, Option.map_none, List.getElem?_cons_zero, List.getElem?_cons_succ, List.set_cons_zero, List.set_cons_succ, if_true, if_false, PV.kit_ii, PV.kit_ti, PV.kit_tt, PV.kit_ib, PV.kit_it, PV.kit_ll, PV.kit_li, Bool.not_true, Bool.not_false, Bool.false_eq_true, Bool.not_eq_true, reduceIte, List.length_cons, List.length_nil, Nat.reduceAdd, Nat.zero_add, PV.most_0, PV.most_1, PV.most_2, PV.most_3, PV.most_4, PV.most_5, PV.most_6, PV.most_7, decide_true, decide_false, List.nil_append, List.cons_append]

/-! ## small things of the laws -/
theorem dSeq_nx {f h : PV.DS → Option PV.Out} {δ δ' : PV.DS} (e : f δ = some (.nx δ')) : PV.dSeq f h δ = h δ' := by unfold PV.dSeq; rw [e]
theorem bls_map {α : Type} (f : α → Bool) : ∀ xs : List α, PV.bls (xs.map fun x => PV.D.bl (f x)) = some (xs.map f)
  | [] => rfl
  | x :: xs => by simp [PV.bls, bls_map f xs]
theorem bAll_map {α : Type} {f : α → Bool} {xs : List α} (h : ∀ x ∈ xs, f x = true) : PV.bAll [.lst (xs.map fun x => PV.D.bl (f x))] = some (.bl true) := by
  simp only [PV.bAll, bls_map, Option.map_some, Option.some.injEq, PV.D.bl.injEq]
  rw [List.all_eq_true]
  intro b hb
  obtain ⟨x, hx, rfl⟩ := List.mem_map.mp hb
  exact h x hx
theorem cut_ints (ns : List Int) (a b : Nat) : ∃ cs : List Int, PV.cut (ns.map PV.D.int) (some (a : Int)) (some (b : Int)) = cs.map .int ∧ cs.length ≤ b - a := by
  refine ⟨(ns.drop (min a ns.length)).take (min b ns.length - min a ns.length), ?_, ?_⟩
  · unfold PV.cut
    rw [PB.sIx_some (by omega), PB.sIx_some (by omega), List.length_map]
    simp only [Int.toNat_natCast, List.map_drop, List.map_take]
  · rw [List.length_take]; omega
theorem Lay.fit_WH (m : Lay) (w h : Int) : m.fit (m.W w) (m.H h) = m.fit w h := by
  cases m with
  | pane n => rfl
  | node b ls ss =>
    have e1 : (Lay.node b ls ss).W ((Lay.node b ls ss).W w) = (Lay.node b ls ss).W w := by unfold Lay.W; omega
    have e2 : (Lay.node b ls ss).H ((Lay.node b ls ss).H h) = (Lay.node b ls ss).H h := by unfold Lay.H; omega
    rw [Lay.fit_node, Lay.fit_node]
    unfold zsOf
    rw [e1, e2]
theorem fit_fit {B : Int} {M d : Nat} {l : Lay} (g : Good B M d l) (w h : Int) : (l.fit w h).fit w h = l.fit w h := by
  have ex := (fit_ex g w h).fit
  have e1 : (l.fit w h).W w = l.W w := by unfold Lay.W; rw [fit_least g]
  have e2 : (l.fit w h).H h = l.H h := by unfold Lay.H; rw [fit_least g]
  rw [← Lay.fit_WH, e1, e2]
  exact ex

/-! ## where a pane isn't -/
theorem isP_of {l : Lay} {p : Int} (h : isP l p = true) : l = .pane p := by
  cases l with
  | pane n => have : n = p := by simpa [isP] using h
              rw [this]
  | node _ _ _ => simp [isP] at h
theorem isP_no {l : Lay} {p : Int} (h : p ∉ l.panes) : isP l p = false := by
  cases z : isP l p with
  | false => rfl
  | true => exact (h (isP_panes z)).elim
theorem partL_no {b : Bool} {l : Lay} (h : isB b l = false) : partL b l = [l] := by
  cases l with
  | pane n => rfl
  | node b' ks ts =>
    have : ¬b' = b := by simpa [isB] using h
    unfold partL; dsimp only; rw [if_neg this]
theorem partS_no {b : Bool} {l : Lay} {s : Int} (h : isB b l = false) : partS b l s = [s] := by
  cases l with
  | pane n => rfl
  | node b' ks ts =>
    have : ¬b' = b := by simpa [isB] using h
    unfold partS; dsimp only; rw [if_neg this]
theorem takL_no {p : Int} {b : Bool} : ∀ (ls : List Lay), (∀ l ∈ ls, isB b l = false ∧ isP l p = false ∧ l.taken p = l) → takL p b ls = ls
  | [], _ => rfl
  | l :: ls, h => by
    obtain ⟨h1, h2, h3⟩ := h l (List.mem_cons_self ..)
    unfold takL
    rw [if_neg (by rw [h2]; simp), h3, partL_no h1, takL_no ls fun k m => h k (List.mem_cons_of_mem _ m)]
    rfl
theorem takS_no {p : Int} {b : Bool} : ∀ (ls : List Lay) (ss : List Int), ls.length = ss.length → (∀ l ∈ ls, isB b l = false ∧ isP l p = false ∧ l.taken p = l) → takS p b ls ss = ss
  | [], [], _, _ => rfl
  | [], _ :: _, h, _ => by simp at h
  | _ :: _, [], h, _ => by simp at h
  | l :: ls, s :: ss, hl, h => by
    obtain ⟨h1, h2, h3⟩ := h l (List.mem_cons_self ..)
    unfold takS
    rw [if_neg (by rw [h2]; simp), h3, partS_no h1, List.tail_cons, takS_no ls ss (by simpa using hl) fun k m => h k (List.mem_cons_of_mem _ m)]
    rfl
theorem goneI_no {p : Int} : ∀ (ls : List Lay) (i g : Int), (∀ l ∈ ls, isP l p = false) → goneI p ls i g = g
  | [], _, _, _ => rfl
  | l :: ls, i, g, h => by
    unfold goneI
    rw [h l (List.mem_cons_self ..)]
    exact goneI_no ls _ g fun k m => h k (List.mem_cons_of_mem _ m)
theorem heirS_no {S ss : List Int} : heirS (-1) S ss = S := by unfold heirS; rw [if_neg (by decide)]
theorem taken_no {p : Int} {B : Int} {M : Nat} : ∀ {d : Nat} {l : Lay}, Good B M d l → l.alt → p ∉ l.panes → l.taken p = l := by
  intro d
  induction d with
  | zero => intro l g _ _; cases g; rfl
  | succ d ih =>
    intro l g a hn
    cases g with
    | pane n => rfl
    | node hl h2 hm hs hg =>
      rename_i b ls ss
      rw [Lay.alt, altL_is] at a
      rw [Lay.panes_node] at hn
      have no : ∀ l ∈ ls, p ∉ l.panes := fun l m z => hn (List.mem_flatMap.mpr ⟨l, m, z⟩)
      have k : ∀ l ∈ ls, isB b l = false ∧ isP l p = false ∧ l.taken p = l := fun l m => ⟨(a l m).1, isP_no (no l m), ih (hg l m) (a l m).2 (no l m)⟩
      unfold Lay.taken
      rw [takL_no ls k, takS_no ls ss hl k, goneI_no ls 0 (-1) fun l m => (k l m).2.1, heirS_no, oneOr_d h2]
theorem goneI_at {p : Int} {as bs : List Lay} (h : ∀ l ∈ bs, isP l p = false) : goneI p (as ++ .pane p :: bs) 0 (-1) = (as.length : Int) := by
  have e : as ++ Lay.pane p :: bs = (as ++ [.pane p]) ++ bs := by simp
  have app : ∀ (xs ys : List Lay) (i g : Int), goneI p (xs ++ ys) i g = goneI p ys (i + xs.length) (goneI p xs i g) := by
    intro xs
    induction xs with
    | nil => intro ys i g; simp [goneI]
    | cons x xs ih =>
      intro ys i g
      simp only [List.cons_append, goneI, ih, List.length_cons]
      congr 1
      omega
  rw [e, app, goneI_no bs _ _ h, goneI_app]
  have : isP (.pane p) p = true := by simp [isP]
  rw [if_pos this]; omega
theorem heirS_zero {s : Int} {sb : List Int} {t : Int} : heirS 0 (t :: sb) (s :: t :: sb) = (t + s + 1) :: sb := by
  unfold heirS
  rw [if_pos (by decide)]
  rfl
theorem heirS_at {sa sb : List Int} {t s : Int} : heirS ((sa.length + 1 : Nat) : Int) (sa ++ t :: sb) (sa ++ t :: s :: sb) = sa ++ (t + s + 1) :: sb := by
  unfold heirS
  rw [if_pos (by omega)]
  have e1 : (max 0 (((sa.length + 1 : Nat) : Int) - 1)).toNat = sa.length := by omega
  have e2 : ((sa.length + 1 : Nat) : Int).toNat = sa.length + 1 := by omega
  rw [e1, e2]
  have g1 : (sa ++ t :: sb).getD sa.length 0 = t := by simp [List.getD_eq_getElem?_getD]
  have g2 : (sa ++ t :: s :: sb).getD (sa.length + 1) 0 = s := by
    rw [List.getD_eq_getElem?_getD, List.getElem?_append_right (by omega)]
    simp
  rw [g1, g2]
  simp
theorem dEq_nm (b b' : Bool) : PV.dEq (.str (nm b')) (.str (nm b)) = some (.bl (decide (b' = b))) := by
  rw [PV.dEq_str (nm_ok b') (nm_ok b)]
  congr 2
  simp [nm_inj]

/-! the program's panes -/
theorem panes_loop {n : Nat} {x0 : Option PV.DV} : ∀ (ls : List Lay) (ss : List Int) (acc : List Int) (x2 x3 : Option PV.DV), ls.length = ss.length → acc.length + (ls.flatMap Lay.panes).length ≤ 1000000 →
    (∀ l ∈ ls, f_panes n [l.d] = some (.lst (l.panes.map .int))) →
    ∃ y2 y3, PV.dLoop (e_panes_t1 (f_panes n)) (ptsD ls ss) [x0, some (.own (acc.map .int)), x2, x3] = some (.nx [x0, some (.own ((acc ++ ls.flatMap Lay.panes).map .int)), y2, y3])
  | [], _, acc, x2, x3, _, _, _ => ⟨x2, x3, by simp [ptsD, PV.dLoop]⟩
  | l :: ls, [], _, _, _, h, _, _ => by simp at h
  | l :: ls, s :: ss, acc, x2, x3, h, hm, hr => by
    simp only [List.length_cons] at h
    rw [List.flatMap_cons, List.length_append] at hm
    obtain ⟨y2, y3, e⟩ := panes_loop (x0 := x0) ls ss (acc ++ l.panes) (some (.dat l.d)) (some (.dat (.int s))) (by omega) (by rw [List.length_append]; omega) fun l m => hr l (List.mem_cons_of_mem _ m)
    refine ⟨y2, y3, ?_⟩
    have hl := hr l (List.mem_cons_self ..)
    have k3 : ((List.map PV.D.int acc).length + (List.map PV.D.int l.panes).length ≤ PV.most) = True := PV.le_most (by rw [List.length_map, List.length_map]; omega)
    have hs : ptsD (l :: ls) (s :: ss) = pt l.d s :: ptsD ls ss := rfl
    rw [hs, PV.dLoop_nx, e]
    · simp
    · simp only [e_panes_t1, e_panes_b1, pt, hl, k3, PV.fin, PV.dSeq, PV.dIf, PV.dAsg, PV.dAsgO, PV.dRet, PV.dRetN, PV.dNext, PV.dBreak, PV.dCont, PV.dDrop, PV.dApp, PV.dExt, PV.dSetI, PV.dPop, PV.dAug, PV.dAugI, PV.dFrz, PV.onOwn, PV.gN, PV.gT, PV.gC, PV.gNs, PV.dVar, PV.vVar, PV.dC, PV.dOp, PV.fOp, PV.dNeg, PV.dNot, PV.dAnd, PV.dOr, PV.dIfE, PV.dNil, PV.dCons, PV.dTup, PV.fLst, PV.dLst, PV.dCall, PV.fCall, PV.dTest, PV.tst, PV.dTru, PV.tru, PV.dAndT, PV.dOrT, PV.dNotT, PV.dYes, PV.dChain, PV.dIsi, PV.isi, PV.tyn, PV.dPart, PV.dNoPart, PV.fSl, PV.lItems, PV.iOf, PV.dItems, PV.iBy, PV.sItems, PV.dwipe, PV.bMax2, PV.bMin2, PV.bAbs, PV.bInt, PV.bLen, PV.bTup, PV.bList, PV.dAdd, PV.dSub, PV.dLt, PV.dLe, PV.dGt, PV.dGe, PV.dIsN, PV.dNotN, PV.isNon_non, PV.isNon_int, PV.fAdd, PV.dIx_l, PV.dIx_t, PV.dIx_f, PV.at0, PV.at1, PV.at2, PV.at3, PV.at4, Option.bind_some, Option.map_some, Option.bind_none, Option.map_none, List.getElem?_cons_zero, List.getElem?_cons_succ, List.set_cons_zero, List.set_cons_succ, if_true, if_false, PV.kit_ii, PV.kit_ti, PV.kit_tt, PV.kit_ib, PV.kit_it, PV.kit_ll, PV.kit_li, Bool.not_true, Bool.not_false, Bool.false_eq_true, Bool.not_eq_true, reduceIte, List.length_cons, List.length_nil, Nat.reduceAdd, Nat.zero_add, PV.most_0, PV.most_1, PV.most_2, PV.most_3, PV.most_4, PV.most_5, PV.most_6, PV.most_7, decide_true, decide_false, List.nil_append, List.cons_append]
      simp
theorem panes_ok {B : Int} {M : Nat} : ∀ (d : Nat) {l : Lay}, Good B M d l → l.panes.length ≤ 1000000 → ∀ n, d < n → f_panes n [l.d] = some (.lst (l.panes.map .int)) := by
  intro d
  induction d with
  | zero =>
    intro l h _ n hn
    obtain ⟨m, rfl⟩ : ∃ m, n = m + 1 := ⟨n - 1, by omega⟩
    cases h
    rfl
  | succ d ih =>
    intro l h hp n hn
    obtain ⟨m, rfl⟩ : ∃ m, n = m + 1 := ⟨n - 1, by omega⟩
    cases h with
    | pane k => rfl
    | node hl h2 hm hs hg =>
      rename_i b ls ss
      rw [Lay.panes_node] at hp ⊢
      obtain ⟨y2, y3, e⟩ := panes_loop (n := m) (x0 := some (.dat (Lay.node b ls ss).d)) ls ss [] none none hl (by simpa using hp) fun l ml => ih (hg l ml) (Nat.le_trans (panes_sub ml) hp) m (by omega)
      rw [Lay.d_node] at e ⊢
      rw [run_panes]
      unfold e_panes
      simp only [List.map_nil, List.nil_append] at e
      simp only [e_panes_l1_is, e, PV.fin, PV.dSeq, PV.dIf, PV.dAsg, PV.dAsgO, PV.dRet, PV.dRetN, PV.dNext, PV.dBreak, PV.dCont, PV.dDrop, PV.dApp, PV.dExt, PV.dSetI, PV.dPop, PV.dAug, PV.dAugI, PV.dFrz, PV.onOwn, PV.gN, PV.gT, PV.gC, PV.gNs, PV.dVar, PV.vVar, PV.dC, PV.dOp, PV.fOp, PV.dNeg, PV.dNot, PV.dAnd, PV.dOr, PV.dIfE, PV.dNil, PV.dCons, PV.dTup, PV.fLst, PV.dLst, PV.dCall, PV.fCall, PV.dTest, PV.tst, PV.dTru, PV.tru, PV.dAndT, PV.dOrT, PV.dNotT, PV.dYes, PV.dChain, PV.dIsi, PV.isi, PV.tyn, PV.dPart, PV.dNoPart, PV.fSl, PV.lItems, PV.iOf, PV.dItems, PV.iBy, PV.sItems, PV.dwipe, PV.bMax2, PV.bMin2, PV.bAbs, PV.bInt, PV.bLen, PV.bTup, PV.bList, PV.dAdd, PV.dSub, PV.dLt, PV.dLe, PV.dGt, PV.dGe, PV.dIsN, PV.dNotN, PV.isNon_non, PV.isNon_int, PV.fAdd, PV.dIx_l, PV.dIx_t, PV.dIx_f, PV.at0, PV.at1, PV.at2, PV.at3, PV.at4, Option.bind_some, Option.map_some, Option.bind_none, Option.map_none, List.getElem?_cons_zero, List.getElem?_cons_succ, List.set_cons_zero, List.set_cons_succ, if_true, if_false, PV.kit_ii, PV.kit_ti, PV.kit_tt, PV.kit_ib, PV.kit_it, PV.kit_ll, PV.kit_li, Bool.not_true, Bool.not_false, Bool.false_eq_true, Bool.not_eq_true, reduceIte, List.length_cons, List.length_nil, Nat.reduceAdd, Nat.zero_add, PV.most_0, PV.most_1, PV.most_2, PV.most_3, PV.most_4, PV.most_5, PV.most_6, PV.most_7, decide_true, decide_false, List.nil_append, List.cons_append]

def N_along : List Str := ["direction", "width", "height"]
def e_along : PV.DS → Option PV.Out := PV.dSeq (PV.dIf (PV.dTest (PV.dOp PV.dEq (PV.vVar 0) (PV.dC (.str "beside")))) (PV.dRet (PV.dVar 1)) (PV.dNext)) (
  PV.dRet (PV.dVar 2))
def f_along : List PV.D → Option PV.D := PV.run 3 3 e_along
theorem run_along (a0 a1 a2 : PV.D) : f_along [a0, a1, a2] = PV.fin (e_along [some (.dat a0), some (.dat a1), some (.dat a2)]) := rfl
abbrev sp_along (K : PySem.W.Frag) : Sp := PV.spV K f_along
def t_along (K : PySem.W.Frag) : TS := C8.tCut (tIfS (PB.mTest (tOp (PB.mEq K) (PB.mVar 0) (tC (.str "beside")))) (tRet (PB.mVar 1)) (tNext)) (
  tRet (PB.mVar 2))
theorem snd_along (K : PySem.W.Frag) : PV.SS K (t_along K) e_along := by
  unfold t_along e_along
  exact PV.s_cut (PV.s_if (PV.t_test ((PV.s_op PV.r_eq (PV.v_var) ((PV.s_str).v)).v)) (PV.s_ret (PV.s_var)) (PV.s_next)) (
  PV.s_ret (PV.s_var))
theorem len_along {K : PySem.W.Frag} : PB.Len 3 (sp_along K) := PV.len_run
theorem pure_along (K : PySem.W.Frag) : PB.Pure N_along (sp_along K) (t_along K) := PV.pure_run rfl (snd_along K)

def N_least_along : List Str := ["direction", "layout", "width", "height"]
def e_least_along : PV.DS → Option PV.Out := PV.dSeq (PV.dAsg (PV.dCall (f_least 24) (PV.dCons (PV.dVar 1) (PV.dNil))) (PV.gT 2 (PV.gC (PV.gN 2) (PV.gC (PV.gN 3) (PV.gNs))))) (
  PV.dRet (PV.dCall f_along (PV.dCons (PV.dVar 0) (PV.dCons (PV.dVar 2) (PV.dCons (PV.dVar 3) (PV.dNil))))))
def f_least_along : List PV.D → Option PV.D := PV.run 4 2 e_least_along
theorem run_least_along (a0 a1 : PV.D) : f_least_along [a0, a1] = PV.fin (e_least_along [some (.dat a0), some (.dat a1), none, none]) := rfl
abbrev sp_least_along (K : PySem.W.Frag) : Sp := PV.spV K f_least_along
def t_least_along (K : PySem.W.Frag) : TS := tSeq (tAsg (PB.mCall (sp_least K 24) (tCons (PB.mVar 1) (tNil))) (gTup K 2 (gCons (gName 2) (gCons (gName 3) (gNil))))) (
  tRet (PB.mCall (sp_along K) (tCons (PB.mVar 0) (tCons (PB.mVar 2) (tCons (PB.mVar 3) (tNil))))))
theorem snd_least_along (K : PySem.W.Frag) : PV.SS K (t_least_along K) e_least_along := by
  unfold t_least_along e_least_along
  exact PV.s_seq (PV.s_asg (vs := [2, 3]) (PV.s_call (PV.a_cons (PV.s_var) (PV.a_nil))) (PV.g_tup (PV.g_cons (PV.g_nm (by decide)) (PV.g_cons (PV.g_nm (by decide)) (PV.g_nil))))) (
  PV.s_ret (PV.s_call (PV.a_cons (PV.s_var) (PV.a_cons (PV.s_var) (PV.a_cons (PV.s_var) (PV.a_nil))))))
theorem len_least_along {K : PySem.W.Frag} : PB.Len 2 (sp_least_along K) := PV.len_run
theorem pure_least_along (K : PySem.W.Frag) : PB.Pure N_least_along (sp_least_along K) (t_least_along K) := PV.pure_run rfl (snd_least_along K)

def N_enough : List Str := ["layout", "width", "height", "least_width", "least_height"]
def e_enough : PV.DS → Option PV.Out := PV.dSeq (PV.dAsg (PV.dCall (f_least 24) (PV.dCons (PV.dVar 0) (PV.dNil))) (PV.gT 2 (PV.gC (PV.gN 3) (PV.gC (PV.gN 4) (PV.gNs))))) (
  PV.dRet (PV.dTup (PV.dCons (PV.dCall PV.bMax2 (PV.dCons (PV.vVar 1) (PV.dCons (PV.vVar 3) (PV.dNil)))) (PV.dCons (PV.dCall PV.bMax2 (PV.dCons (PV.vVar 2) (PV.dCons (PV.vVar 4) (PV.dNil)))) (PV.dNil)))))
def f_enough : List PV.D → Option PV.D := PV.run 5 3 e_enough
theorem run_enough (a0 a1 a2 : PV.D) : f_enough [a0, a1, a2] = PV.fin (e_enough [some (.dat a0), some (.dat a1), some (.dat a2), none, none]) := rfl
abbrev sp_enough (K : PySem.W.Frag) : Sp := PV.spV K f_enough
def t_enough (K : PySem.W.Frag) : TS := tSeq (tAsg (PB.mCall (sp_least K 24) (tCons (PB.mVar 0) (tNil))) (gTup K 2 (gCons (gName 3) (gCons (gName 4) (gNil))))) (
  tRet (tTup (tCons (tCB (PB.mMax2) (tCons (PB.mVar 1) (tCons (PB.mVar 3) (tNil)))) (tCons (tCB (PB.mMax2) (tCons (PB.mVar 2) (tCons (PB.mVar 4) (tNil)))) (tNil)))))
theorem snd_enough (K : PySem.W.Frag) : PV.SS K (t_enough K) e_enough := by
  unfold t_enough e_enough
  exact PV.s_seq (PV.s_asg (vs := [3, 4]) (PV.s_call (PV.a_cons (PV.s_var) (PV.a_nil))) (PV.g_tup (PV.g_cons (PV.g_nm (by decide)) (PV.g_cons (PV.g_nm (by decide)) (PV.g_nil))))) (
  PV.s_ret (PV.s_tup (PV.a_cons (PV.s_cb PV.c_max2 (PV.av_cons (PV.v_var) (PV.av_cons (PV.v_var) (PV.av_nil)))) (PV.a_cons (PV.s_cb PV.c_max2 (PV.av_cons (PV.v_var) (PV.av_cons (PV.v_var) (PV.av_nil)))) (PV.a_nil)))))
theorem len_enough {K : PySem.W.Frag} : PB.Len 3 (sp_enough K) := PV.len_run
theorem pure_enough (K : PySem.W.Frag) : PB.Pure N_enough (sp_enough K) (t_enough K) := PV.pure_run rfl (snd_enough K)

def N_size_of_part : List Str := ["direction", "size", "width", "height"]
def e_size_of_part : PV.DS → Option PV.Out := PV.dSeq (PV.dIf (PV.dTest (PV.dOp PV.dEq (PV.vVar 0) (PV.dC (.str "beside")))) (PV.dRet (PV.dTup (PV.dCons (PV.dVar 1) (PV.dCons (PV.dVar 3) (PV.dNil))))) (PV.dNext)) (
  PV.dRet (PV.dTup (PV.dCons (PV.dVar 2) (PV.dCons (PV.dVar 1) (PV.dNil)))))
def f_size_of_part : List PV.D → Option PV.D := PV.run 4 4 e_size_of_part
theorem run_size_of_part (a0 a1 a2 a3 : PV.D) : f_size_of_part [a0, a1, a2, a3] = PV.fin (e_size_of_part [some (.dat a0), some (.dat a1), some (.dat a2), some (.dat a3)]) := rfl
abbrev sp_size_of_part (K : PySem.W.Frag) : Sp := PV.spV K f_size_of_part
def t_size_of_part (K : PySem.W.Frag) : TS := C8.tCut (tIfS (PB.mTest (tOp (PB.mEq K) (PB.mVar 0) (tC (.str "beside")))) (tRet (tTup (tCons (PB.mVar 1) (tCons (PB.mVar 3) (tNil))))) (tNext)) (
  tRet (tTup (tCons (PB.mVar 2) (tCons (PB.mVar 1) (tNil)))))
theorem snd_size_of_part (K : PySem.W.Frag) : PV.SS K (t_size_of_part K) e_size_of_part := by
  unfold t_size_of_part e_size_of_part
  exact PV.s_cut (PV.s_if (PV.t_test ((PV.s_op PV.r_eq (PV.v_var) ((PV.s_str).v)).v)) (PV.s_ret (PV.s_tup (PV.a_cons (PV.s_var) (PV.a_cons (PV.s_var) (PV.a_nil))))) (PV.s_next)) (
  PV.s_ret (PV.s_tup (PV.a_cons (PV.s_var) (PV.a_cons (PV.s_var) (PV.a_nil)))))
theorem len_size_of_part {K : PySem.W.Frag} : PB.Len 4 (sp_size_of_part K) := PV.len_run
theorem pure_size_of_part (K : PySem.W.Frag) : PB.Pure N_size_of_part (sp_size_of_part K) (t_size_of_part K) := PV.pure_run rfl (snd_size_of_part K)

def N_fitted : List Str := ["layout", "width", "height", "direction", "parts", "smallest", "sizes", "fresh", "part", "_", "size", "part_width", "part_height"]
def e_fitted_s1 (self : List PV.D → Option PV.D) : PV.DS → PV.D → Option (Option PV.D) := fun δ => PV.cStep (PV.gT 2 (PV.gC (PV.gN 8) (PV.gC (PV.gN 9) (PV.gNs)))) (PV.dYes) (PV.dCall f_least_along (PV.dCons (PV.dVar 3) (PV.dCons (PV.dVar 8) (PV.dNil)))) (PV.dwipe δ [8, 9])
def e_fitted_c1 (self : List PV.D → Option PV.D) : PV.DS → Option (List PV.D) := PV.fLc (PV.iOf (PV.dVar 4)) (PV.gT 2 (PV.gC (PV.gN 8) (PV.gC (PV.gN 9) (PV.gNs)))) (PV.dYes) (PV.dCall f_least_along (PV.dCons (PV.dVar 3) (PV.dCons (PV.dVar 8) (PV.dNil)))) [8, 9]
theorem e_fitted_c1_is (self : List PV.D → Option PV.D) (δ : PV.DS) : e_fitted_c1 self δ = ((PV.iOf (PV.dVar 4)) δ).bind fun ds => PV.dComp (e_fitted_s1 self δ) ds [] := rfl
def e_fitted_s2 (self : List PV.D → Option PV.D) : PV.DS → PV.D → Option (Option PV.D) := fun δ => PV.cStep (PV.gT 2 (PV.gC (PV.gN 9) (PV.gC (PV.gN 10) (PV.gNs)))) (PV.dYes) (PV.dVar 10) (PV.dwipe δ [9, 10])
def e_fitted_c2 (self : List PV.D → Option PV.D) : PV.DS → Option (List PV.D) := PV.fLc (PV.iOf (PV.dVar 4)) (PV.gT 2 (PV.gC (PV.gN 9) (PV.gC (PV.gN 10) (PV.gNs)))) (PV.dYes) (PV.dVar 10) [9, 10]
theorem e_fitted_c2_is (self : List PV.D → Option PV.D) (δ : PV.DS) : e_fitted_c2 self δ = ((PV.iOf (PV.dVar 4)) δ).bind fun ds => PV.dComp (e_fitted_s2 self δ) ds [] := rfl
def e_fitted_b3 (self : List PV.D → Option PV.D) : PV.DS → Option PV.Out := PV.dSeq (PV.dAsg (PV.dCall f_size_of_part (PV.dCons (PV.dVar 3) (PV.dCons (PV.dVar 10) (PV.dCons (PV.dVar 1) (PV.dCons (PV.dVar 2) (PV.dNil)))))) (PV.gT 2 (PV.gC (PV.gN 11) (PV.gC (PV.gN 12) (PV.gNs))))) (
  PV.dApp 7 (PV.dTup (PV.dCons (PV.dCall self (PV.dCons (PV.dVar 8) (PV.dCons (PV.dVar 11) (PV.dCons (PV.dVar 12) (PV.dNil))))) (PV.dCons (PV.dVar 10) (PV.dNil)))))
def e_fitted_t3 (self : List PV.D → Option PV.D) : PV.D → PV.DS → Option PV.Out := fun d δ => ((PV.gT 2 (PV.gC (PV.gT 2 (PV.gC (PV.gN 8) (PV.gC (PV.gN 9) (PV.gNs)))) (PV.gC (PV.gN 10) (PV.gNs)))) d δ).bind (e_fitted_b3 self)
def e_fitted_l3 (self : List PV.D → Option PV.D) : PV.DS → Option PV.Out := PV.dFor (PV.iBy PV.dZp (PV.dCons (PV.dVar 4) (PV.dCons (PV.dVar 6) (PV.dNil)))) (PV.gT 2 (PV.gC (PV.gT 2 (PV.gC (PV.gN 8) (PV.gC (PV.gN 9) (PV.gNs)))) (PV.gC (PV.gN 10) (PV.gNs)))) (e_fitted_b3 self)
theorem e_fitted_l3_is (self : List PV.D → Option PV.D) (δ : PV.DS) : e_fitted_l3 self δ = ((PV.iBy PV.dZp (PV.dCons (PV.dVar 4) (PV.dCons (PV.dVar 6) (PV.dNil)))) δ).bind fun ds => PV.dLoop (e_fitted_t3 self) ds δ := rfl
def e_fitted (self : List PV.D → Option PV.D) : PV.DS → Option PV.Out := PV.dSeq (PV.dIf (PV.dTru (PV.dIsi "int" (PV.vVar 0))) (PV.dRet (PV.dVar 0)) (PV.dNext)) (
  PV.dSeq (PV.dAsg (PV.dVar 0) (PV.gT 2 (PV.gC (PV.gN 3) (PV.gC (PV.gN 4) (PV.gNs))))) (
  PV.dSeq (PV.dAsg (PV.dCall f_enough (PV.dCons (PV.dVar 0) (PV.dCons (PV.dVar 1) (PV.dCons (PV.dVar 2) (PV.dNil))))) (PV.gT 2 (PV.gC (PV.gN 1) (PV.gC (PV.gN 2) (PV.gNs))))) (
  PV.dSeq (PV.dAsg (PV.dLst (e_fitted_c1 self)) (PV.gN 5)) (
  PV.dSeq (PV.dAsg (PV.dCall f_share (PV.dCons (PV.dCall f_along (PV.dCons (PV.dVar 3) (PV.dCons (PV.dVar 1) (PV.dCons (PV.dVar 2) (PV.dNil))))) (PV.dCons (PV.dVar 5) (PV.dCons (PV.dLst (e_fitted_c2 self)) (PV.dNil))))) (PV.gN 6)) (
  PV.dSeq (PV.dAsgO 7 (PV.fLst (PV.dNil))) (
  PV.dSeq (e_fitted_l3 self) (
  PV.dRet (PV.dTup (PV.dCons (PV.dVar 3) (PV.dCons (PV.dCall PV.bTup (PV.dCons (PV.vVar 7) (PV.dNil))) (PV.dNil)))))))))))
def f_fitted : Nat → List PV.D → Option PV.D
  | 0, _ => none
  | n + 1, ds => PV.run 13 3 (e_fitted (f_fitted n)) ds
theorem run_fitted (n : Nat) (a0 a1 a2 : PV.D) : f_fitted (n + 1) [a0, a1, a2] = PV.fin (e_fitted (f_fitted n) [some (.dat a0), some (.dat a1), some (.dat a2), none, none, none, none, none, none, none, none, none, none]) := rfl
abbrev sp_fitted (K : PySem.W.Frag) (n : Nat) : Sp := PV.spV K (f_fitted n)
def t_fitted (K : PySem.W.Frag) (n : Nat) : TS := C8.tCut (tIfS (PB.mTru K (tCB (rIsi K) (tCons (PB.mVar 0) (tCons (tC (.ty "int")) (tNil))))) (tRet (PB.mVar 0)) (tNext)) (
  tSeq (tAsg (PB.mVar 0) (gTup K 2 (gCons (gName 3) (gCons (gName 4) (gNil))))) (
  tSeq (tAsg (PB.mCall (sp_enough K) (tCons (PB.mVar 0) (tCons (PB.mVar 1) (tCons (PB.mVar 2) (tNil))))) (gTup K 2 (gCons (gName 1) (gCons (gName 2) (gNil))))) (
  tSeq (tAsg (tLc (PV.iSq K (PB.mVar 4)) (gTup K 2 (gCons (gName 8) (gCons (gName 9) (gNil)))) (tYes) (PB.mCall (sp_least_along K) (tCons (PB.mVar 3) (tCons (PB.mVar 8) (tNil)))) [8, 9]) (gName 5)) (
  tSeq (tAsg (PB.mCall (sp_share K) (tCons (PB.mCall (sp_along K) (tCons (PB.mVar 3) (tCons (PB.mVar 1) (tCons (PB.mVar 2) (tNil))))) (tCons (PB.mVar 5) (tCons (tLc (PV.iSq K (PB.mVar 4)) (gTup K 2 (gCons (gName 9) (gCons (gName 10) (gNil)))) (tYes) (PB.mVar 10) [9, 10]) (tNil))))) (gName 6)) (
  tSeq (tAsg (tLst (tNil)) (gName 7)) (
  tSeq (tFor (PV.iZp K (tCons (PB.mVar 4) (tCons (PB.mVar 6) (tNil)))) (gTup K 2 (gCons (gTup K 2 (gCons (gName 8) (gCons (gName 9) (gNil)))) (gCons (gName 10) (gNil)))) (tSeq (tAsg (PB.mCall (sp_size_of_part K) (tCons (PB.mVar 3) (tCons (PB.mVar 10) (tCons (PB.mVar 1) (tCons (PB.mVar 2) (tNil)))))) (gTup K 2 (gCons (gName 11) (gCons (gName 12) (gNil))))) (
  tDrop (PB.mLM (PB.mAppend) (PB.mVar 7) (tCons (tTup (tCons (PB.mCall (sp_fitted K n) (tCons (PB.mVar 8) (tCons (PB.mVar 11) (tCons (PB.mVar 12) (tNil))))) (tCons (PB.mVar 10) (tNil)))) (tNil)))))) (
  tRet (tTup (tCons (PB.mVar 3) (tCons (tCB (PB.mTup K) (tCons (PB.mVar 7) (tNil))) (tNil)))))))))))
theorem snd_fitted (K : PySem.W.Frag) (n : Nat) : PV.SS K (t_fitted K n) (e_fitted (f_fitted n)) := by
  unfold t_fitted e_fitted e_fitted_l3 e_fitted_b3 e_fitted_c2 e_fitted_c1
  exact PV.s_cut (PV.s_if (PV.t_tru ((PV.s_isi (PV.v_var)).v)) (PV.s_ret (PV.s_var)) (PV.s_next)) (
  PV.s_seq (PV.s_asg (vs := [3, 4]) (PV.s_var) (PV.g_tup (PV.g_cons (PV.g_nm (by decide)) (PV.g_cons (PV.g_nm (by decide)) (PV.g_nil))))) (
  PV.s_seq (PV.s_asg (vs := [1, 2]) (PV.s_call (PV.a_cons (PV.s_var) (PV.a_cons (PV.s_var) (PV.a_cons (PV.s_var) (PV.a_nil))))) (PV.g_tup (PV.g_cons (PV.g_nm (by decide)) (PV.g_cons (PV.g_nm (by decide)) (PV.g_nil))))) (
  PV.s_seq (PV.s_asg (vs := [5]) (PV.SF.e (PV.f_lc (vs := [8, 9]) (PV.i_sq (PV.s_var)) (PV.g_tup (PV.g_cons (PV.g_nm (by decide)) (PV.g_cons (PV.g_nm (by decide)) (PV.g_nil)))) (PV.t_yes) (PV.s_call (PV.a_cons (PV.s_var) (PV.a_cons (PV.s_var) (PV.a_nil)))))) (PV.g_nm (by decide))) (
  PV.s_seq (PV.s_asg (vs := [6]) (PV.s_call (PV.a_cons (PV.s_call (PV.a_cons (PV.s_var) (PV.a_cons (PV.s_var) (PV.a_cons (PV.s_var) (PV.a_nil))))) (PV.a_cons (PV.s_var) (PV.a_cons (PV.SF.e (PV.f_lc (vs := [9, 10]) (PV.i_sq (PV.s_var)) (PV.g_tup (PV.g_cons (PV.g_nm (by decide)) (PV.g_cons (PV.g_nm (by decide)) (PV.g_nil)))) (PV.t_yes) (PV.s_var))) (PV.a_nil))))) (PV.g_nm (by decide))) (
  PV.s_seq (PV.s_asgO (PV.f_lst (PV.a_nil))) (
  PV.s_seq (PV.s_for (vs := [8, 9, 10]) (PV.i_zp (PV.a_cons (PV.s_var) (PV.a_cons (PV.s_var) (PV.a_nil)))) (PV.g_tup (PV.g_cons (PV.g_tup (PV.g_cons (PV.g_nm (by decide)) (PV.g_cons (PV.g_nm (by decide)) (PV.g_nil)))) (PV.g_cons (PV.g_nm (by decide)) (PV.g_nil)))) (PV.s_seq (PV.s_asg (vs := [11, 12]) (PV.s_call (PV.a_cons (PV.s_var) (PV.a_cons (PV.s_var) (PV.a_cons (PV.s_var) (PV.a_cons (PV.s_var) (PV.a_nil)))))) (PV.g_tup (PV.g_cons (PV.g_nm (by decide)) (PV.g_cons (PV.g_nm (by decide)) (PV.g_nil))))) (
  PV.s_app (PV.s_tup (PV.a_cons (PV.s_call (PV.a_cons (PV.s_var) (PV.a_cons (PV.s_var) (PV.a_cons (PV.s_var) (PV.a_nil))))) (PV.a_cons (PV.s_var) (PV.a_nil))))))) (
  PV.s_ret (PV.s_tup (PV.a_cons (PV.s_var) (PV.a_cons (PV.s_cb PV.c_tup (PV.av_cons (PV.v_var) (PV.av_nil))) (PV.a_nil)))))))))))
theorem len_fitted {K : PySem.W.Frag} : ∀ n, PB.Len 3 (sp_fitted K n)
  | 0 => fun _ _ _ _ ⟨_, _, _, _, _, e, _⟩ => by cases e
  | _ + 1 => PV.len_run
theorem pure_fitted (K : PySem.W.Frag) (n : Nat) : PB.Pure N_fitted (sp_fitted K (n + 1)) (t_fitted K n) := PV.pure_run rfl (snd_fitted K n)

def N_placed_parts : List Str := ["layout", "row", "column", "width", "height", "direction", "parts", "found", "part", "size", "part_width", "part_height"]
def e_placed_parts_b1 : PV.DS → Option PV.Out := PV.dSeq (PV.dAsg (PV.dCall f_size_of_part (PV.dCons (PV.dVar 5) (PV.dCons (PV.dVar 9) (PV.dCons (PV.dVar 3) (PV.dCons (PV.dVar 4) (PV.dNil)))))) (PV.gT 2 (PV.gC (PV.gN 10) (PV.gC (PV.gN 11) (PV.gNs))))) (
  PV.dSeq (PV.dApp 7 (PV.dTup (PV.dCons (PV.dVar 8) (PV.dCons (PV.dVar 1) (PV.dCons (PV.dVar 2) (PV.dCons (PV.dVar 10) (PV.dCons (PV.dVar 11) (PV.dNil)))))))) (
  PV.dIf (PV.dTest (PV.dOp PV.dEq (PV.vVar 5) (PV.dC (.str "beside")))) (PV.dAug 2 (PV.dOp PV.dAdd (PV.vVar 9) (PV.dC (.int 1))) (fun i j => i + j)) (PV.dAug 1 (PV.dOp PV.dAdd (PV.vVar 9) (PV.dC (.int 1))) (fun i j => i + j))))
def e_placed_parts_t1 : PV.D → PV.DS → Option PV.Out := fun d δ => ((PV.gT 2 (PV.gC (PV.gN 8) (PV.gC (PV.gN 9) (PV.gNs)))) d δ).bind (e_placed_parts_b1)
def e_placed_parts_l1 : PV.DS → Option PV.Out := PV.dFor (PV.iOf (PV.dVar 6)) (PV.gT 2 (PV.gC (PV.gN 8) (PV.gC (PV.gN 9) (PV.gNs)))) (e_placed_parts_b1)
theorem e_placed_parts_l1_is (δ : PV.DS) : e_placed_parts_l1 δ = ((PV.iOf (PV.dVar 6)) δ).bind fun ds => PV.dLoop (e_placed_parts_t1) ds δ := rfl
def e_placed_parts : PV.DS → Option PV.Out := PV.dSeq (PV.dAsg (PV.dVar 0) (PV.gT 2 (PV.gC (PV.gN 5) (PV.gC (PV.gN 6) (PV.gNs))))) (
  PV.dSeq (PV.dAsgO 7 (PV.fLst (PV.dNil))) (
  PV.dSeq (e_placed_parts_l1) (
  PV.dFrz 7 (PV.dRet (PV.dVar 7)))))
def f_placed_parts : List PV.D → Option PV.D := PV.run 12 5 e_placed_parts
theorem run_placed_parts (a0 a1 a2 a3 a4 : PV.D) : f_placed_parts [a0, a1, a2, a3, a4] = PV.fin (e_placed_parts [some (.dat a0), some (.dat a1), some (.dat a2), some (.dat a3), some (.dat a4), none, none, none, none, none, none, none]) := rfl
abbrev sp_placed_parts (K : PySem.W.Frag) : Sp := PV.spV K f_placed_parts
def t_placed_parts (K : PySem.W.Frag) : TS := tSeq (tAsg (PB.mVar 0) (gTup K 2 (gCons (gName 5) (gCons (gName 6) (gNil))))) (
  tSeq (tAsg (tLst (tNil)) (gName 7)) (
  tSeq (tFor (PV.iSq K (PB.mVar 6)) (gTup K 2 (gCons (gName 8) (gCons (gName 9) (gNil)))) (tSeq (tAsg (PB.mCall (sp_size_of_part K) (tCons (PB.mVar 5) (tCons (PB.mVar 9) (tCons (PB.mVar 3) (tCons (PB.mVar 4) (tNil)))))) (gTup K 2 (gCons (gName 10) (gCons (gName 11) (gNil))))) (
  tSeq (tDrop (PB.mLM (PB.mAppend) (PB.mVar 7) (tCons (tTup (tCons (PB.mVar 8) (tCons (PB.mVar 1) (tCons (PB.mVar 2) (tCons (PB.mVar 10) (tCons (PB.mVar 11) (tNil))))))) (tNil)))) (
  tIfS (PB.mTest (tOp (PB.mEq K) (PB.mVar 5) (tC (.str "beside")))) (PB.mAug 2 (tOp (PB.mAdd K) (PB.mVar 9) (tC (.int 1))) (fun i j => i + j)) (PB.mAug 1 (tOp (PB.mAdd K) (PB.mVar 9) (tC (.int 1))) (fun i j => i + j)))))) (
  tRet (PB.mVar 7))))
theorem snd_placed_parts (K : PySem.W.Frag) : PV.SS K (t_placed_parts K) e_placed_parts := by
  unfold t_placed_parts e_placed_parts e_placed_parts_l1 e_placed_parts_b1
  exact PV.s_seq (PV.s_asg (vs := [5, 6]) (PV.s_var) (PV.g_tup (PV.g_cons (PV.g_nm (by decide)) (PV.g_cons (PV.g_nm (by decide)) (PV.g_nil))))) (
  PV.s_seq (PV.s_asgO (PV.f_lst (PV.a_nil))) (
  PV.s_seq (PV.s_for (vs := [8, 9]) (PV.i_sq (PV.s_var)) (PV.g_tup (PV.g_cons (PV.g_nm (by decide)) (PV.g_cons (PV.g_nm (by decide)) (PV.g_nil)))) (PV.s_seq (PV.s_asg (vs := [10, 11]) (PV.s_call (PV.a_cons (PV.s_var) (PV.a_cons (PV.s_var) (PV.a_cons (PV.s_var) (PV.a_cons (PV.s_var) (PV.a_nil)))))) (PV.g_tup (PV.g_cons (PV.g_nm (by decide)) (PV.g_cons (PV.g_nm (by decide)) (PV.g_nil))))) (
  PV.s_seq (PV.s_app (PV.s_tup (PV.a_cons (PV.s_var) (PV.a_cons (PV.s_var) (PV.a_cons (PV.s_var) (PV.a_cons (PV.s_var) (PV.a_cons (PV.s_var) (PV.a_nil)))))))) (
  PV.s_if (PV.t_test ((PV.s_op PV.r_eq (PV.v_var) ((PV.s_str).v)).v)) (PV.s_aug ((PV.s_op PV.r_add (PV.v_var) ((PV.s_int).v)).v)) (PV.s_aug ((PV.s_op PV.r_add (PV.v_var) ((PV.s_int).v)).v)))))) (
  PV.s_frz (i := 7) (PV.s_ret (PV.s_var)))))
theorem len_placed_parts {K : PySem.W.Frag} : PB.Len 5 (sp_placed_parts K) := PV.len_run
theorem pure_placed_parts (K : PySem.W.Frag) : PB.Pure N_placed_parts (sp_placed_parts K) (t_placed_parts K) := PV.pure_run rfl (snd_placed_parts K)

def N_boxes_at : List Str := ["layout", "row", "column", "width", "height", "found", "part", "top", "left", "part_width", "part_height"]
def e_boxes_at_b1 (self : List PV.D → Option PV.D) : PV.DS → Option PV.Out := PV.dExt 5 (PV.dCall self (PV.dCons (PV.dVar 6) (PV.dCons (PV.dVar 7) (PV.dCons (PV.dVar 8) (PV.dCons (PV.dVar 9) (PV.dCons (PV.dVar 10) (PV.dNil)))))))
def e_boxes_at_t1 (self : List PV.D → Option PV.D) : PV.D → PV.DS → Option PV.Out := fun d δ => ((PV.gT 5 (PV.gC (PV.gN 6) (PV.gC (PV.gN 7) (PV.gC (PV.gN 8) (PV.gC (PV.gN 9) (PV.gC (PV.gN 10) (PV.gNs))))))) d δ).bind (e_boxes_at_b1 self)
def e_boxes_at_l1 (self : List PV.D → Option PV.D) : PV.DS → Option PV.Out := PV.dFor (PV.iOf (PV.dCall f_placed_parts (PV.dCons (PV.dVar 0) (PV.dCons (PV.dVar 1) (PV.dCons (PV.dVar 2) (PV.dCons (PV.dVar 3) (PV.dCons (PV.dVar 4) (PV.dNil)))))))) (PV.gT 5 (PV.gC (PV.gN 6) (PV.gC (PV.gN 7) (PV.gC (PV.gN 8) (PV.gC (PV.gN 9) (PV.gC (PV.gN 10) (PV.gNs))))))) (e_boxes_at_b1 self)
theorem e_boxes_at_l1_is (self : List PV.D → Option PV.D) (δ : PV.DS) : e_boxes_at_l1 self δ = ((PV.iOf (PV.dCall f_placed_parts (PV.dCons (PV.dVar 0) (PV.dCons (PV.dVar 1) (PV.dCons (PV.dVar 2) (PV.dCons (PV.dVar 3) (PV.dCons (PV.dVar 4) (PV.dNil)))))))) δ).bind fun ds => PV.dLoop (e_boxes_at_t1 self) ds δ := rfl
def e_boxes_at (self : List PV.D → Option PV.D) : PV.DS → Option PV.Out := PV.dSeq (PV.dIf (PV.dTru (PV.dIsi "int" (PV.vVar 0))) (PV.dRet (PV.dLst (PV.fLst (PV.dCons (PV.dTup (PV.dCons (PV.dVar 0) (PV.dCons (PV.dVar 1) (PV.dCons (PV.dVar 2) (PV.dCons (PV.dVar 3) (PV.dCons (PV.dVar 4) (PV.dNil))))))) (PV.dNil))))) (PV.dNext)) (
  PV.dSeq (PV.dAsgO 5 (PV.fLst (PV.dNil))) (
  PV.dSeq (e_boxes_at_l1 self) (
  PV.dFrz 5 (PV.dRet (PV.dVar 5)))))
def f_boxes_at : Nat → List PV.D → Option PV.D
  | 0, _ => none
  | n + 1, ds => PV.run 11 5 (e_boxes_at (f_boxes_at n)) ds
theorem run_boxes_at (n : Nat) (a0 a1 a2 a3 a4 : PV.D) : f_boxes_at (n + 1) [a0, a1, a2, a3, a4] = PV.fin (e_boxes_at (f_boxes_at n) [some (.dat a0), some (.dat a1), some (.dat a2), some (.dat a3), some (.dat a4), none, none, none, none, none, none]) := rfl
abbrev sp_boxes_at (K : PySem.W.Frag) (n : Nat) : Sp := PV.spV K (f_boxes_at n)
def t_boxes_at (K : PySem.W.Frag) (n : Nat) : TS := C8.tCut (tIfS (PB.mTru K (tCB (rIsi K) (tCons (PB.mVar 0) (tCons (tC (.ty "int")) (tNil))))) (tRet (tLst (tCons (tTup (tCons (PB.mVar 0) (tCons (PB.mVar 1) (tCons (PB.mVar 2) (tCons (PB.mVar 3) (tCons (PB.mVar 4) (tNil))))))) (tNil)))) (tNext)) (
  tSeq (tAsg (tLst (tNil)) (gName 5)) (
  tSeq (tFor (PV.iSq K (PB.mCall (sp_placed_parts K) (tCons (PB.mVar 0) (tCons (PB.mVar 1) (tCons (PB.mVar 2) (tCons (PB.mVar 3) (tCons (PB.mVar 4) (tNil)))))))) (gTup K 5 (gCons (gName 6) (gCons (gName 7) (gCons (gName 8) (gCons (gName 9) (gCons (gName 10) (gNil))))))) (tDrop (PB.mLM (PV.rExtV K) (PB.mVar 5) (tCons (PB.mCall (sp_boxes_at K n) (tCons (PB.mVar 6) (tCons (PB.mVar 7) (tCons (PB.mVar 8) (tCons (PB.mVar 9) (tCons (PB.mVar 10) (tNil))))))) (tNil))))) (
  tRet (PB.mVar 5))))
theorem snd_boxes_at (K : PySem.W.Frag) (n : Nat) : PV.SS K (t_boxes_at K n) (e_boxes_at (f_boxes_at n)) := by
  unfold t_boxes_at e_boxes_at e_boxes_at_l1 e_boxes_at_b1
  exact PV.s_cut (PV.s_if (PV.t_tru ((PV.s_isi (PV.v_var)).v)) (PV.s_ret (PV.SF.e (PV.f_lst (PV.a_cons (PV.s_tup (PV.a_cons (PV.s_var) (PV.a_cons (PV.s_var) (PV.a_cons (PV.s_var) (PV.a_cons (PV.s_var) (PV.a_cons (PV.s_var) (PV.a_nil))))))) (PV.a_nil))))) (PV.s_next)) (
  PV.s_seq (PV.s_asgO (PV.f_lst (PV.a_nil))) (
  PV.s_seq (PV.s_for (vs := [6, 7, 8, 9, 10]) (PV.i_sq (PV.s_call (PV.a_cons (PV.s_var) (PV.a_cons (PV.s_var) (PV.a_cons (PV.s_var) (PV.a_cons (PV.s_var) (PV.a_cons (PV.s_var) (PV.a_nil)))))))) (PV.g_tup (PV.g_cons (PV.g_nm (by decide)) (PV.g_cons (PV.g_nm (by decide)) (PV.g_cons (PV.g_nm (by decide)) (PV.g_cons (PV.g_nm (by decide)) (PV.g_cons (PV.g_nm (by decide)) (PV.g_nil))))))) (PV.s_ext ((PV.s_call (PV.a_cons (PV.s_var) (PV.a_cons (PV.s_var) (PV.a_cons (PV.s_var) (PV.a_cons (PV.s_var) (PV.a_cons (PV.s_var) (PV.a_nil))))))).v))) (
  PV.s_frz (i := 5) (PV.s_ret (PV.s_var)))))
theorem len_boxes_at {K : PySem.W.Frag} : ∀ n, PB.Len 5 (sp_boxes_at K n)
  | 0 => fun _ _ _ _ ⟨_, _, _, _, _, e, _⟩ => by cases e
  | _ + 1 => PV.len_run
theorem pure_boxes_at (K : PySem.W.Frag) (n : Nat) : PB.Pure N_boxes_at (sp_boxes_at K (n + 1)) (t_boxes_at K n) := PV.pure_run rfl (snd_boxes_at K n)

def N_boxes : List Str := ["layout", "width", "height", "full_width", "full_height"]
def e_boxes : PV.DS → Option PV.Out := PV.dSeq (PV.dAsg (PV.dCall f_enough (PV.dCons (PV.dVar 0) (PV.dCons (PV.dVar 1) (PV.dCons (PV.dVar 2) (PV.dNil))))) (PV.gT 2 (PV.gC (PV.gN 3) (PV.gC (PV.gN 4) (PV.gNs))))) (
  PV.dRet (PV.dCall (f_boxes_at 24) (PV.dCons (PV.dCall (f_fitted 24) (PV.dCons (PV.dVar 0) (PV.dCons (PV.dVar 1) (PV.dCons (PV.dVar 2) (PV.dNil))))) (PV.dCons (PV.dC (.int 0)) (PV.dCons (PV.dC (.int 0)) (PV.dCons (PV.dVar 3) (PV.dCons (PV.dVar 4) (PV.dNil))))))))
def f_boxes : List PV.D → Option PV.D := PV.run 5 3 e_boxes
theorem run_boxes (a0 a1 a2 : PV.D) : f_boxes [a0, a1, a2] = PV.fin (e_boxes [some (.dat a0), some (.dat a1), some (.dat a2), none, none]) := rfl
abbrev sp_boxes (K : PySem.W.Frag) : Sp := PV.spV K f_boxes
def t_boxes (K : PySem.W.Frag) : TS := tSeq (tAsg (PB.mCall (sp_enough K) (tCons (PB.mVar 0) (tCons (PB.mVar 1) (tCons (PB.mVar 2) (tNil))))) (gTup K 2 (gCons (gName 3) (gCons (gName 4) (gNil))))) (
  tRet (PB.mCall (sp_boxes_at K 24) (tCons (PB.mCall (sp_fitted K 24) (tCons (PB.mVar 0) (tCons (PB.mVar 1) (tCons (PB.mVar 2) (tNil))))) (tCons (tC (.int 0)) (tCons (tC (.int 0)) (tCons (PB.mVar 3) (tCons (PB.mVar 4) (tNil))))))))
theorem snd_boxes (K : PySem.W.Frag) : PV.SS K (t_boxes K) e_boxes := by
  unfold t_boxes e_boxes
  exact PV.s_seq (PV.s_asg (vs := [3, 4]) (PV.s_call (PV.a_cons (PV.s_var) (PV.a_cons (PV.s_var) (PV.a_cons (PV.s_var) (PV.a_nil))))) (PV.g_tup (PV.g_cons (PV.g_nm (by decide)) (PV.g_cons (PV.g_nm (by decide)) (PV.g_nil))))) (
  PV.s_ret (PV.s_call (PV.a_cons (PV.s_call (PV.a_cons (PV.s_var) (PV.a_cons (PV.s_var) (PV.a_cons (PV.s_var) (PV.a_nil))))) (PV.a_cons (PV.s_int) (PV.a_cons (PV.s_int) (PV.a_cons (PV.s_var) (PV.a_cons (PV.s_var) (PV.a_nil))))))))
theorem len_boxes {K : PySem.W.Frag} : PB.Len 3 (sp_boxes K) := PV.len_run
theorem pure_boxes (K : PySem.W.Frag) : PB.Pure N_boxes (sp_boxes K) (t_boxes K) := PV.pure_run rfl (snd_boxes K)

def N_size_of_pane : List Str := ["layout", "width", "height", "pane", "direction", "sizes", "box"]
def e_size_of_pane_s1 : PV.DS → PV.D → Option (Option PV.D) := fun δ => PV.cStep (PV.gN 6) (PV.dTest (PV.dOp PV.dEq (PV.dOp PV.dIx (PV.vVar 6) (PV.dC (.int 0))) (PV.vVar 3))) (PV.dCall f_along (PV.dCons (PV.dVar 4) (PV.dCons (PV.dOp PV.dIx (PV.vVar 6) (PV.dC (.int 3))) (PV.dCons (PV.dOp PV.dIx (PV.vVar 6) (PV.dC (.int 4))) (PV.dNil))))) (PV.dwipe δ [6])
def e_size_of_pane_c1 : PV.DS → Option (List PV.D) := PV.fLc (PV.iOf (PV.dCall f_boxes (PV.dCons (PV.dVar 0) (PV.dCons (PV.dVar 1) (PV.dCons (PV.dVar 2) (PV.dNil)))))) (PV.gN 6) (PV.dTest (PV.dOp PV.dEq (PV.dOp PV.dIx (PV.vVar 6) (PV.dC (.int 0))) (PV.vVar 3))) (PV.dCall f_along (PV.dCons (PV.dVar 4) (PV.dCons (PV.dOp PV.dIx (PV.vVar 6) (PV.dC (.int 3))) (PV.dCons (PV.dOp PV.dIx (PV.vVar 6) (PV.dC (.int 4))) (PV.dNil))))) [6]
theorem e_size_of_pane_c1_is (δ : PV.DS) : e_size_of_pane_c1 δ = ((PV.iOf (PV.dCall f_boxes (PV.dCons (PV.dVar 0) (PV.dCons (PV.dVar 1) (PV.dCons (PV.dVar 2) (PV.dNil)))))) δ).bind fun ds => PV.dComp (e_size_of_pane_s1 δ) ds [] := rfl
def e_size_of_pane : PV.DS → Option PV.Out := PV.dSeq (PV.dAsg (PV.dLst (e_size_of_pane_c1)) (PV.gN 5)) (
  PV.dRet (PV.dOp PV.dIx (PV.vVar 5) (PV.dC (.int 0))))
def f_size_of_pane : List PV.D → Option PV.D := PV.run 7 5 e_size_of_pane
theorem run_size_of_pane (a0 a1 a2 a3 a4 : PV.D) : f_size_of_pane [a0, a1, a2, a3, a4] = PV.fin (e_size_of_pane [some (.dat a0), some (.dat a1), some (.dat a2), some (.dat a3), some (.dat a4), none, none]) := rfl
abbrev sp_size_of_pane (K : PySem.W.Frag) : Sp := PV.spV K f_size_of_pane
def t_size_of_pane (K : PySem.W.Frag) : TS := tSeq (tAsg (tLc (PV.iSq K (PB.mCall (sp_boxes K) (tCons (PB.mVar 0) (tCons (PB.mVar 1) (tCons (PB.mVar 2) (tNil)))))) (gName 6) (PB.mTest (tOp (PB.mEq K) (tOp (PB.mIx K) (PB.mVar 6) (tC (.int 0))) (PB.mVar 3))) (PB.mCall (sp_along K) (tCons (PB.mVar 4) (tCons (tOp (PB.mIx K) (PB.mVar 6) (tC (.int 3))) (tCons (tOp (PB.mIx K) (PB.mVar 6) (tC (.int 4))) (tNil))))) [6]) (gName 5)) (
  tRet (tOp (PB.mIx K) (PB.mVar 5) (tC (.int 0))))
theorem snd_size_of_pane (K : PySem.W.Frag) : PV.SS K (t_size_of_pane K) e_size_of_pane := by
  unfold t_size_of_pane e_size_of_pane e_size_of_pane_c1
  exact PV.s_seq (PV.s_asg (vs := [5]) (PV.SF.e (PV.f_lc (vs := [6]) (PV.i_sq (PV.s_call (PV.a_cons (PV.s_var) (PV.a_cons (PV.s_var) (PV.a_cons (PV.s_var) (PV.a_nil)))))) (PV.g_nm (by decide)) (PV.t_test ((PV.s_op PV.r_eq ((PV.s_op PV.r_ix (PV.v_var) ((PV.s_int).v)).v) (PV.v_var)).v)) (PV.s_call (PV.a_cons (PV.s_var) (PV.a_cons (PV.s_op PV.r_ix (PV.v_var) ((PV.s_int).v)) (PV.a_cons (PV.s_op PV.r_ix (PV.v_var) ((PV.s_int).v)) (PV.a_nil))))))) (PV.g_nm (by decide))) (
  PV.s_ret (PV.s_op PV.r_ix (PV.v_var) ((PV.s_int).v)))
theorem len_size_of_pane {K : PySem.W.Frag} : PB.Len 5 (sp_size_of_pane K) := PV.len_run
theorem pure_size_of_pane (K : PySem.W.Frag) : PB.Pure N_size_of_pane (sp_size_of_pane K) (t_size_of_pane K) := PV.pure_run rfl (snd_size_of_pane K)

def N_replaced : List Str := ["layout", "direction", "pair", "pane", "around", "parts", "fresh", "part", "size"]
def e_replaced_b1 (self : List PV.D → Option PV.D) : PV.DS → Option PV.Out := PV.dIf (PV.dAndT (PV.dTest (PV.dOp PV.dEq (PV.vVar 7) (PV.vVar 3))) (PV.dTest (PV.dOp PV.dEq (PV.vVar 4) (PV.vVar 1)))) (PV.dExt 6 (PV.vVar 2)) (PV.dApp 6 (PV.dTup (PV.dCons (PV.dCall self (PV.dCons (PV.dVar 7) (PV.dCons (PV.dVar 1) (PV.dCons (PV.dVar 2) (PV.dNil))))) (PV.dCons (PV.dVar 8) (PV.dNil)))))
def e_replaced_t1 (self : List PV.D → Option PV.D) : PV.D → PV.DS → Option PV.Out := fun d δ => ((PV.gT 2 (PV.gC (PV.gN 7) (PV.gC (PV.gN 8) (PV.gNs)))) d δ).bind (e_replaced_b1 self)
def e_replaced_l1 (self : List PV.D → Option PV.D) : PV.DS → Option PV.Out := PV.dFor (PV.iOf (PV.dVar 5)) (PV.gT 2 (PV.gC (PV.gN 7) (PV.gC (PV.gN 8) (PV.gNs)))) (e_replaced_b1 self)
theorem e_replaced_l1_is (self : List PV.D → Option PV.D) (δ : PV.DS) : e_replaced_l1 self δ = ((PV.iOf (PV.dVar 5)) δ).bind fun ds => PV.dLoop (e_replaced_t1 self) ds δ := rfl
def e_replaced (self : List PV.D → Option PV.D) : PV.DS → Option PV.Out := PV.dSeq (PV.dAsg (PV.dOp PV.dIx (PV.dOp PV.dIx (PV.vVar 2) (PV.dC (.int 0))) (PV.dC (.int 0))) (PV.gN 3)) (
  PV.dSeq (PV.dIf (PV.dTru (PV.dIsi "int" (PV.vVar 0))) (PV.dSeq (PV.dIf (PV.dTest (PV.dOp PV.dEq (PV.vVar 0) (PV.vVar 3))) (PV.dRet (PV.dTup (PV.dCons (PV.dVar 1) (PV.dCons (PV.dVar 2) (PV.dNil))))) (PV.dNext)) (
  PV.dRet (PV.dVar 0))) (PV.dNext)) (
  PV.dSeq (PV.dAsg (PV.dVar 0) (PV.gT 2 (PV.gC (PV.gN 4) (PV.gC (PV.gN 5) (PV.gNs))))) (
  PV.dSeq (PV.dAsgO 6 (PV.fLst (PV.dNil))) (
  PV.dSeq (e_replaced_l1 self) (
  PV.dRet (PV.dTup (PV.dCons (PV.dVar 4) (PV.dCons (PV.dCall PV.bTup (PV.dCons (PV.vVar 6) (PV.dNil))) (PV.dNil)))))))))
def f_replaced : Nat → List PV.D → Option PV.D
  | 0, _ => none
  | n + 1, ds => PV.run 9 3 (e_replaced (f_replaced n)) ds
theorem run_replaced (n : Nat) (a0 a1 a2 : PV.D) : f_replaced (n + 1) [a0, a1, a2] = PV.fin (e_replaced (f_replaced n) [some (.dat a0), some (.dat a1), some (.dat a2), none, none, none, none, none, none]) := rfl
abbrev sp_replaced (K : PySem.W.Frag) (n : Nat) : Sp := PV.spV K (f_replaced n)
def t_replaced (K : PySem.W.Frag) (n : Nat) : TS := tSeq (tAsg (tOp (PB.mIx K) (tOp (PB.mIx K) (PB.mVar 2) (tC (.int 0))) (tC (.int 0))) (gName 3)) (
  C8.tCut (tIfS (PB.mTru K (tCB (rIsi K) (tCons (PB.mVar 0) (tCons (tC (.ty "int")) (tNil))))) (C8.tCut (tIfS (PB.mTest (tOp (PB.mEq K) (PB.mVar 0) (PB.mVar 3))) (tRet (tTup (tCons (PB.mVar 1) (tCons (PB.mVar 2) (tNil))))) (tNext)) (
  tRet (PB.mVar 0))) (tNext)) (
  tSeq (tAsg (PB.mVar 0) (gTup K 2 (gCons (gName 4) (gCons (gName 5) (gNil))))) (
  tSeq (tAsg (tLst (tNil)) (gName 6)) (
  tSeq (tFor (PV.iSq K (PB.mVar 5)) (gTup K 2 (gCons (gName 7) (gCons (gName 8) (gNil)))) (tIfS (tAnd (PB.mTest (tOp (PB.mEq K) (PB.mVar 7) (PB.mVar 3))) (PB.mTest (tOp (PB.mEq K) (PB.mVar 4) (PB.mVar 1)))) (tDrop (PB.mLM (PV.rExtV K) (PB.mVar 6) (tCons (PB.mVar 2) (tNil)))) (tDrop (PB.mLM (PB.mAppend) (PB.mVar 6) (tCons (tTup (tCons (PB.mCall (sp_replaced K n) (tCons (PB.mVar 7) (tCons (PB.mVar 1) (tCons (PB.mVar 2) (tNil))))) (tCons (PB.mVar 8) (tNil)))) (tNil)))))) (
  tRet (tTup (tCons (PB.mVar 4) (tCons (tCB (PB.mTup K) (tCons (PB.mVar 6) (tNil))) (tNil)))))))))
theorem snd_replaced (K : PySem.W.Frag) (n : Nat) : PV.SS K (t_replaced K n) (e_replaced (f_replaced n)) := by
  unfold t_replaced e_replaced e_replaced_l1 e_replaced_b1
  exact PV.s_seq (PV.s_asg (vs := [3]) (PV.s_op PV.r_ix ((PV.s_op PV.r_ix (PV.v_var) ((PV.s_int).v)).v) ((PV.s_int).v)) (PV.g_nm (by decide))) (
  PV.s_cut (PV.s_if (PV.t_tru ((PV.s_isi (PV.v_var)).v)) (PV.s_cut (PV.s_if (PV.t_test ((PV.s_op PV.r_eq (PV.v_var) (PV.v_var)).v)) (PV.s_ret (PV.s_tup (PV.a_cons (PV.s_var) (PV.a_cons (PV.s_var) (PV.a_nil))))) (PV.s_next)) (
  PV.s_ret (PV.s_var))) (PV.s_next)) (
  PV.s_seq (PV.s_asg (vs := [4, 5]) (PV.s_var) (PV.g_tup (PV.g_cons (PV.g_nm (by decide)) (PV.g_cons (PV.g_nm (by decide)) (PV.g_nil))))) (
  PV.s_seq (PV.s_asgO (PV.f_lst (PV.a_nil))) (
  PV.s_seq (PV.s_for (vs := [7, 8]) (PV.i_sq (PV.s_var)) (PV.g_tup (PV.g_cons (PV.g_nm (by decide)) (PV.g_cons (PV.g_nm (by decide)) (PV.g_nil)))) (PV.s_if (PV.t_and (PV.t_test ((PV.s_op PV.r_eq (PV.v_var) (PV.v_var)).v)) (PV.t_test ((PV.s_op PV.r_eq (PV.v_var) (PV.v_var)).v))) (PV.s_ext (PV.v_var)) (PV.s_app (PV.s_tup (PV.a_cons (PV.s_call (PV.a_cons (PV.s_var) (PV.a_cons (PV.s_var) (PV.a_cons (PV.s_var) (PV.a_nil))))) (PV.a_cons (PV.s_var) (PV.a_nil))))))) (
  PV.s_ret (PV.s_tup (PV.a_cons (PV.s_var) (PV.a_cons (PV.s_cb PV.c_tup (PV.av_cons (PV.v_var) (PV.av_nil))) (PV.a_nil)))))))))
theorem len_replaced {K : PySem.W.Frag} : ∀ n, PB.Len 3 (sp_replaced K n)
  | 0 => fun _ _ _ _ ⟨_, _, _, _, _, e, _⟩ => by cases e
  | _ + 1 => PV.len_run
theorem pure_replaced (K : PySem.W.Frag) (n : Nat) : PB.Pure N_replaced (sp_replaced K (n + 1)) (t_replaced K n) := PV.pure_run rfl (snd_replaced K n)

def N_divided : List Str := ["layout", "width", "height", "pane", "direction", "new", "size", "fresh", "pair"]
def e_divided : PV.DS → Option PV.Out := PV.dSeq (PV.dAsg (PV.dCall f_size_of_pane (PV.dCons (PV.dVar 0) (PV.dCons (PV.dVar 1) (PV.dCons (PV.dVar 2) (PV.dCons (PV.dVar 3) (PV.dCons (PV.dVar 4) (PV.dNil))))))) (PV.gN 6)) (
  PV.dSeq (PV.dIf (PV.dTest (PV.dOp PV.dLt (PV.vVar 6) (PV.dCall f_along (PV.dCons (PV.dVar 4) (PV.dCons (PV.dC (.int 5)) (PV.dCons (PV.dC (.int 3)) (PV.dNil))))))) (PV.dNo) (PV.dNext)) (
  PV.dSeq (PV.dAsg (PV.dOp PV.dDiv (PV.dOp PV.dSub (PV.vVar 6) (PV.dC (.int 1))) (PV.dC (.int 2))) (PV.gN 7)) (
  PV.dSeq (PV.dAsg (PV.dTup (PV.dCons (PV.dTup (PV.dCons (PV.dVar 3) (PV.dCons (PV.dOp PV.dSub (PV.dOp PV.dSub (PV.vVar 6) (PV.dC (.int 1))) (PV.vVar 7)) (PV.dNil)))) (PV.dCons (PV.dTup (PV.dCons (PV.dVar 5) (PV.dCons (PV.dVar 7) (PV.dNil)))) (PV.dNil)))) (PV.gN 8)) (
  PV.dRet (PV.dCall (f_replaced 24) (PV.dCons (PV.dCall (f_fitted 24) (PV.dCons (PV.dVar 0) (PV.dCons (PV.dVar 1) (PV.dCons (PV.dVar 2) (PV.dNil))))) (PV.dCons (PV.dVar 4) (PV.dCons (PV.dVar 8) (PV.dNil)))))))))
def f_divided : List PV.D → Option PV.D := PV.run 9 6 e_divided
theorem run_divided (a0 a1 a2 a3 a4 a5 : PV.D) : f_divided [a0, a1, a2, a3, a4, a5] = PV.fin (e_divided [some (.dat a0), some (.dat a1), some (.dat a2), some (.dat a3), some (.dat a4), some (.dat a5), none, none, none]) := rfl
def x_divided : PV.DS → Bool := PV.xSeq (PV.dAsg (PV.dCall f_size_of_pane (PV.dCons (PV.dVar 0) (PV.dCons (PV.dVar 1) (PV.dCons (PV.dVar 2) (PV.dCons (PV.dVar 3) (PV.dCons (PV.dVar 4) (PV.dNil))))))) (PV.gN 6)) (PV.xNo) (PV.xSeq (PV.dIf (PV.dTest (PV.dOp PV.dLt (PV.vVar 6) (PV.dCall f_along (PV.dCons (PV.dVar 4) (PV.dCons (PV.dC (.int 5)) (PV.dCons (PV.dC (.int 3)) (PV.dNil))))))) (PV.dNo) (PV.dNext)) (PV.xIf (PV.dTest (PV.dOp PV.dLt (PV.vVar 6) (PV.dCall f_along (PV.dCons (PV.dVar 4) (PV.dCons (PV.dC (.int 5)) (PV.dCons (PV.dC (.int 3)) (PV.dNil))))))) (PV.nJ (PV.dC (.str "pane ") :: (PV.vVar 3) :: PV.dC (.str " has no room for another pane ") :: (PV.vVar 4) :: PV.dC (.str " it") :: [])) (PV.xNo)) (PV.xSeq (PV.dAsg (PV.dOp PV.dDiv (PV.dOp PV.dSub (PV.vVar 6) (PV.dC (.int 1))) (PV.dC (.int 2))) (PV.gN 7)) (PV.xNo) (PV.xSeq (PV.dAsg (PV.dTup (PV.dCons (PV.dTup (PV.dCons (PV.dVar 3) (PV.dCons (PV.dOp PV.dSub (PV.dOp PV.dSub (PV.vVar 6) (PV.dC (.int 1))) (PV.vVar 7)) (PV.dNil)))) (PV.dCons (PV.dTup (PV.dCons (PV.dVar 5) (PV.dCons (PV.dVar 7) (PV.dNil)))) (PV.dNil)))) (PV.gN 8)) (PV.xNo) (PV.xNo))))
def g_divided : List PV.D → Bool := PV.runX 9 6 x_divided
theorem ran_divided (a0 a1 a2 a3 a4 a5 : PV.D) : g_divided [a0, a1, a2, a3, a4, a5] = x_divided [some (.dat a0), some (.dat a1), some (.dat a2), some (.dat a3), some (.dat a4), some (.dat a5), none, none, none] := Bool.true_and _
abbrev sp_divided (K : PySem.W.Frag) : Sp := PV.spR K (He.ga K "NoRoom") f_divided g_divided
def t_divided (K : PySem.W.Frag) (E : XK) : TS := tSeq (tAsg (PB.mCall (sp_size_of_pane K) (tCons (PB.mVar 0) (tCons (PB.mVar 1) (tCons (PB.mVar 2) (tCons (PB.mVar 3) (tCons (PB.mVar 4) (tNil))))))) (gName 6)) (
  C8.tCut (tIfS (PB.mTest (tOp (PB.mLt) (PB.mVar 6) (PB.mCall (sp_along K) (tCons (PB.mVar 4) (tCons (tC (.int (5))) (tCons (tC (.int (3))) (tNil))))))) (PV.tRse (PB.mJoin ((tC (.str "pane ")) :: (tFmt (PB.mVar 3)) :: (tC (.str " has no room for another pane ")) :: (tFmt (PB.mVar 4)) :: (tC (.str " it")) :: [])) E (He.ga K "NoRoom")) (tNext)) (
  tSeq (tAsg (tOp (PB.mDiv) (tOp (PB.mSub) (PB.mVar 6) (tC (.int 1))) (tC (.int 2))) (gName 7)) (
  tSeq (tAsg (tTup (tCons (tTup (tCons (PB.mVar 3) (tCons (tOp (PB.mSub) (tOp (PB.mSub) (PB.mVar 6) (tC (.int 1))) (PB.mVar 7)) (tNil)))) (tCons (tTup (tCons (PB.mVar 5) (tCons (PB.mVar 7) (tNil)))) (tNil)))) (gName 8)) (
  tRet (PB.mCall (sp_replaced K 24) (tCons (PB.mCall (sp_fitted K 24) (tCons (PB.mVar 0) (tCons (PB.mVar 1) (tCons (PB.mVar 2) (tNil))))) (tCons (PB.mVar 4) (tCons (PB.mVar 8) (tNil)))))))))
theorem snd_divided (K : PySem.W.Frag) (E : XK) : PV.SS K (t_divided K E) e_divided := by
  unfold t_divided e_divided
  exact PV.s_seq (PV.s_asg (vs := [6]) (PV.s_call (PV.a_cons (PV.s_var) (PV.a_cons (PV.s_var) (PV.a_cons (PV.s_var) (PV.a_cons (PV.s_var) (PV.a_cons (PV.s_var) (PV.a_nil))))))) (PV.g_nm (by decide))) (
  PV.s_cut (PV.s_if (PV.t_test ((PV.s_op PV.r_lt (PV.v_var) ((PV.s_call (PV.a_cons (PV.s_var) (PV.a_cons (PV.s_int) (PV.a_cons (PV.s_int) (PV.a_nil))))).v)).v)) (PV.s_no) (PV.s_next)) (
  PV.s_seq (PV.s_asg (vs := [7]) (PV.s_op PV.r_div ((PV.s_op PV.r_sub (PV.v_var) ((PV.s_int).v)).v) ((PV.s_int).v)) (PV.g_nm (by decide))) (
  PV.s_seq (PV.s_asg (vs := [8]) (PV.s_tup (PV.a_cons (PV.s_tup (PV.a_cons (PV.s_var) (PV.a_cons (PV.s_op PV.r_sub ((PV.s_op PV.r_sub (PV.v_var) ((PV.s_int).v)).v) (PV.v_var)) (PV.a_nil)))) (PV.a_cons (PV.s_tup (PV.a_cons (PV.s_var) (PV.a_cons (PV.s_var) (PV.a_nil)))) (PV.a_nil)))) (PV.g_nm (by decide))) (
  PV.s_ret (PV.s_call (PV.a_cons (PV.s_call (PV.a_cons (PV.s_var) (PV.a_cons (PV.s_var) (PV.a_cons (PV.s_var) (PV.a_nil))))) (PV.a_cons (PV.s_var) (PV.a_cons (PV.s_var) (PV.a_nil)))))))))
theorem snx_divided (K : PySem.W.Frag) : PV.SX K (He.ga K "NoRoom") (t_divided K) x_divided := by
  unfold t_divided x_divided
  exact PV.x_seq (fun E => PV.s_asg (vs := [6]) (PV.s_call (PV.a_cons (PV.s_var) (PV.a_cons (PV.s_var) (PV.a_cons (PV.s_var) (PV.a_cons (PV.s_var) (PV.a_cons (PV.s_var) (PV.a_nil))))))) (PV.g_nm (by decide))) (PV.x_no) (PV.x_cut (fun E => PV.s_if (PV.t_test ((PV.s_op PV.r_lt (PV.v_var) ((PV.s_call (PV.a_cons (PV.s_var) (PV.a_cons (PV.s_int) (PV.a_cons (PV.s_int) (PV.a_nil))))).v)).v)) (PV.s_no) (PV.s_next)) (PV.x_if (PV.t_test ((PV.s_op PV.r_lt (PV.v_var) ((PV.s_call (PV.a_cons (PV.s_var) (PV.a_cons (PV.s_int) (PV.a_cons (PV.s_int) (PV.a_nil))))).v)).v)) (PV.x_rse (PV.n_join (PV.j_str (by decide +kernel) (PV.j_fmt (PV.v_var) (PV.j_str (by decide +kernel) (PV.j_fmt (PV.v_var) (PV.j_str (by decide +kernel) (PV.j_nil)))))) (by decide))) (PV.x_no)) (PV.x_seq (fun E => PV.s_asg (vs := [7]) (PV.s_op PV.r_div ((PV.s_op PV.r_sub (PV.v_var) ((PV.s_int).v)).v) ((PV.s_int).v)) (PV.g_nm (by decide))) (PV.x_no) (PV.x_seq (fun E => PV.s_asg (vs := [8]) (PV.s_tup (PV.a_cons (PV.s_tup (PV.a_cons (PV.s_var) (PV.a_cons (PV.s_op PV.r_sub ((PV.s_op PV.r_sub (PV.v_var) ((PV.s_int).v)).v) (PV.v_var)) (PV.a_nil)))) (PV.a_cons (PV.s_tup (PV.a_cons (PV.s_var) (PV.a_cons (PV.s_var) (PV.a_nil)))) (PV.a_nil)))) (PV.g_nm (by decide))) (PV.x_no) (PV.x_no))))
theorem len_divided {K : PySem.W.Frag} : PB.Len 6 (sp_divided K) := PV.lenX
theorem pure_divided (K : PySem.W.Frag) : PV.PureX N_divided (sp_divided K) (t_divided K) := PV.pureX_run rfl (snd_divided K) (snx_divided K)

def N_kept_parts : List Str := ["parts", "pane", "kept", "room", "part", "size", "before", "size_before"]
def e_kept_parts_b1 : PV.DS → Option PV.Out := PV.dIf (PV.dTest (PV.dOp PV.dNe (PV.vVar 4) (PV.vVar 1))) (PV.dSeq (PV.dApp 2 (PV.dTup (PV.dCons (PV.dVar 4) (PV.dCons (PV.dOp PV.dAdd (PV.vVar 5) (PV.vVar 3)) (PV.dNil))))) (
  PV.dAsg (PV.dC (.int 0)) (PV.gN 3))) (PV.dIf (PV.dTru (PV.vVar 2)) (PV.dSeq (PV.dPop 2 (PV.gT 2 (PV.gC (PV.gN 6) (PV.gC (PV.gN 7) (PV.gNs))))) (
  PV.dApp 2 (PV.dTup (PV.dCons (PV.dVar 6) (PV.dCons (PV.dOp PV.dAdd (PV.dOp PV.dAdd (PV.vVar 7) (PV.vVar 5)) (PV.dC (.int 1))) (PV.dNil)))))) (PV.dAsg (PV.dOp PV.dAdd (PV.vVar 5) (PV.dC (.int 1))) (PV.gN 3)))
def e_kept_parts_t1 : PV.D → PV.DS → Option PV.Out := fun d δ => ((PV.gT 2 (PV.gC (PV.gN 4) (PV.gC (PV.gN 5) (PV.gNs)))) d δ).bind (e_kept_parts_b1)
def e_kept_parts_l1 : PV.DS → Option PV.Out := PV.dFor (PV.iOf (PV.dVar 0)) (PV.gT 2 (PV.gC (PV.gN 4) (PV.gC (PV.gN 5) (PV.gNs)))) (e_kept_parts_b1)
theorem e_kept_parts_l1_is (δ : PV.DS) : e_kept_parts_l1 δ = ((PV.iOf (PV.dVar 0)) δ).bind fun ds => PV.dLoop (e_kept_parts_t1) ds δ := rfl
def e_kept_parts : PV.DS → Option PV.Out := PV.dSeq (PV.dAsgO 2 (PV.fLst (PV.dNil))) (
  PV.dSeq (PV.dAsg (PV.dC (.int 0)) (PV.gN 3)) (
  PV.dSeq (e_kept_parts_l1) (
  PV.dFrz 2 (PV.dRet (PV.dVar 2)))))
def f_kept_parts : List PV.D → Option PV.D := PV.run 8 2 e_kept_parts
theorem run_kept_parts (a0 a1 : PV.D) : f_kept_parts [a0, a1] = PV.fin (e_kept_parts [some (.dat a0), some (.dat a1), none, none, none, none, none, none]) := rfl
abbrev sp_kept_parts (K : PySem.W.Frag) : Sp := PV.spV K f_kept_parts
def t_kept_parts (K : PySem.W.Frag) : TS := tSeq (tAsg (tLst (tNil)) (gName 2)) (
  tSeq (tAsg (tC (.int 0)) (gName 3)) (
  tSeq (tFor (PV.iSq K (PB.mVar 0)) (gTup K 2 (gCons (gName 4) (gCons (gName 5) (gNil)))) (tIfS (PB.mTest (tOp (PB.mNe K) (PB.mVar 4) (PB.mVar 1))) (tSeq (tDrop (PB.mLM (PB.mAppend) (PB.mVar 2) (tCons (tTup (tCons (PB.mVar 4) (tCons (tOp (PB.mAdd K) (PB.mVar 5) (PB.mVar 3)) (tNil)))) (tNil)))) (
  tAsg (tC (.int 0)) (gName 3))) (tIfS (PB.mTru K (PB.mVar 2)) (tSeq (tAsg (PB.mLM (rPop) (PB.mVar 2) tNil) (gTup K 2 (gCons (gName 6) (gCons (gName 7) (gNil))))) (
  tDrop (PB.mLM (PB.mAppend) (PB.mVar 2) (tCons (tTup (tCons (PB.mVar 6) (tCons (tOp (PB.mAdd K) (tOp (PB.mAdd K) (PB.mVar 7) (PB.mVar 5)) (tC (.int 1))) (tNil)))) (tNil))))) (tAsg (tOp (PB.mAdd K) (PB.mVar 5) (tC (.int 1))) (gName 3))))) (
  tRet (PB.mVar 2))))
theorem snd_kept_parts (K : PySem.W.Frag) : PV.SS K (t_kept_parts K) e_kept_parts := by
  unfold t_kept_parts e_kept_parts e_kept_parts_l1 e_kept_parts_b1
  exact PV.s_seq (PV.s_asgO (PV.f_lst (PV.a_nil))) (
  PV.s_seq (PV.s_asg (vs := [3]) (PV.s_int) (PV.g_nm (by decide))) (
  PV.s_seq (PV.s_for (vs := [4, 5]) (PV.i_sq (PV.s_var)) (PV.g_tup (PV.g_cons (PV.g_nm (by decide)) (PV.g_cons (PV.g_nm (by decide)) (PV.g_nil)))) (PV.s_if (PV.t_test ((PV.s_op PV.r_ne (PV.v_var) (PV.v_var)).v)) (PV.s_seq (PV.s_app (PV.s_tup (PV.a_cons (PV.s_var) (PV.a_cons (PV.s_op PV.r_add (PV.v_var) (PV.v_var)) (PV.a_nil))))) (
  PV.s_asg (vs := [3]) (PV.s_int) (PV.g_nm (by decide)))) (PV.s_if (PV.t_tru (PV.v_var)) (PV.s_seq (PV.s_pop (vs := [6, 7]) (PV.g_tup (PV.g_cons (PV.g_nm (by decide)) (PV.g_cons (PV.g_nm (by decide)) (PV.g_nil))))) (
  PV.s_app (PV.s_tup (PV.a_cons (PV.s_var) (PV.a_cons (PV.s_op PV.r_add ((PV.s_op PV.r_add (PV.v_var) (PV.v_var)).v) ((PV.s_int).v)) (PV.a_nil)))))) (PV.s_asg (vs := [3]) (PV.s_op PV.r_add (PV.v_var) ((PV.s_int).v)) (PV.g_nm (by decide)))))) (
  PV.s_frz (i := 2) (PV.s_ret (PV.s_var)))))
theorem len_kept_parts {K : PySem.W.Frag} : PB.Len 2 (sp_kept_parts K) := PV.len_run
theorem pure_kept_parts (K : PySem.W.Frag) : PB.Pure N_kept_parts (sp_kept_parts K) (t_kept_parts K) := PV.pure_run rfl (snd_kept_parts K)

def N_removed : List Str := ["layout", "pane", "direction", "parts", "kept", "fresh", "part", "size", "left"]
def e_removed_b1 (self : List PV.D → Option PV.D) : PV.DS → Option PV.Out := PV.dSeq (PV.dAsg (PV.dCall self (PV.dCons (PV.dVar 6) (PV.dCons (PV.dVar 1) (PV.dNil)))) (PV.gN 8)) (
  PV.dIf (PV.dAndT (PV.dNotT (PV.dTru (PV.dIsi "int" (PV.vVar 8)))) (PV.dTest (PV.dOp PV.dEq (PV.dOp PV.dIx (PV.vVar 8) (PV.dC (.int 0))) (PV.vVar 2)))) (PV.dExt 5 (PV.dOp PV.dIx (PV.vVar 8) (PV.dC (.int 1)))) (PV.dApp 5 (PV.dTup (PV.dCons (PV.dVar 8) (PV.dCons (PV.dVar 7) (PV.dNil))))))
def e_removed_t1 (self : List PV.D → Option PV.D) : PV.D → PV.DS → Option PV.Out := fun d δ => ((PV.gT 2 (PV.gC (PV.gN 6) (PV.gC (PV.gN 7) (PV.gNs)))) d δ).bind (e_removed_b1 self)
def e_removed_l1 (self : List PV.D → Option PV.D) : PV.DS → Option PV.Out := PV.dFor (PV.iOf (PV.dVar 4)) (PV.gT 2 (PV.gC (PV.gN 6) (PV.gC (PV.gN 7) (PV.gNs)))) (e_removed_b1 self)
theorem e_removed_l1_is (self : List PV.D → Option PV.D) (δ : PV.DS) : e_removed_l1 self δ = ((PV.iOf (PV.dVar 4)) δ).bind fun ds => PV.dLoop (e_removed_t1 self) ds δ := rfl
def e_removed (self : List PV.D → Option PV.D) : PV.DS → Option PV.Out := PV.dSeq (PV.dIf (PV.dTru (PV.dIsi "int" (PV.vVar 0))) (PV.dRet (PV.dVar 0)) (PV.dNext)) (
  PV.dSeq (PV.dAsg (PV.dVar 0) (PV.gT 2 (PV.gC (PV.gN 2) (PV.gC (PV.gN 3) (PV.gNs))))) (
  PV.dSeq (PV.dAsg (PV.dCall f_kept_parts (PV.dCons (PV.dVar 3) (PV.dCons (PV.dVar 1) (PV.dNil)))) (PV.gN 4)) (
  PV.dSeq (PV.dIf (PV.dTest (PV.dOp PV.dEq (PV.dCall PV.bLen (PV.dCons (PV.vVar 4) (PV.dNil))) (PV.dC (.int 1)))) (PV.dRet (PV.dOp PV.dIx (PV.dOp PV.dIx (PV.vVar 4) (PV.dC (.int 0))) (PV.dC (.int 0)))) (PV.dNext)) (
  PV.dSeq (PV.dAsgO 5 (PV.fLst (PV.dNil))) (
  PV.dSeq (e_removed_l1 self) (
  PV.dRet (PV.dTup (PV.dCons (PV.dVar 2) (PV.dCons (PV.dCall PV.bTup (PV.dCons (PV.vVar 5) (PV.dNil))) (PV.dNil))))))))))
def f_removed : Nat → List PV.D → Option PV.D
  | 0, _ => none
  | n + 1, ds => PV.run 9 2 (e_removed (f_removed n)) ds
theorem run_removed (n : Nat) (a0 a1 : PV.D) : f_removed (n + 1) [a0, a1] = PV.fin (e_removed (f_removed n) [some (.dat a0), some (.dat a1), none, none, none, none, none, none, none]) := rfl
abbrev sp_removed (K : PySem.W.Frag) (n : Nat) : Sp := PV.spV K (f_removed n)
def t_removed (K : PySem.W.Frag) (n : Nat) : TS := C8.tCut (tIfS (PB.mTru K (tCB (rIsi K) (tCons (PB.mVar 0) (tCons (tC (.ty "int")) (tNil))))) (tRet (PB.mVar 0)) (tNext)) (
  tSeq (tAsg (PB.mVar 0) (gTup K 2 (gCons (gName 2) (gCons (gName 3) (gNil))))) (
  tSeq (tAsg (PB.mCall (sp_kept_parts K) (tCons (PB.mVar 3) (tCons (PB.mVar 1) (tNil)))) (gName 4)) (
  C8.tCut (tIfS (PB.mTest (tOp (PB.mEq K) (tCB (PB.mLen K) (tCons (PB.mVar 4) (tNil))) (tC (.int 1)))) (tRet (tOp (PB.mIx K) (tOp (PB.mIx K) (PB.mVar 4) (tC (.int 0))) (tC (.int 0)))) (tNext)) (
  tSeq (tAsg (tLst (tNil)) (gName 5)) (
  tSeq (tFor (PV.iSq K (PB.mVar 4)) (gTup K 2 (gCons (gName 6) (gCons (gName 7) (gNil)))) (tSeq (tAsg (PB.mCall (sp_removed K n) (tCons (PB.mVar 6) (tCons (PB.mVar 1) (tNil)))) (gName 8)) (
  tIfS (tAnd (tNot (PB.mTru K (tCB (rIsi K) (tCons (PB.mVar 8) (tCons (tC (.ty "int")) (tNil)))))) (PB.mTest (tOp (PB.mEq K) (tOp (PB.mIx K) (PB.mVar 8) (tC (.int 0))) (PB.mVar 2)))) (tDrop (PB.mLM (PV.rExtV K) (PB.mVar 5) (tCons (tOp (PB.mIx K) (PB.mVar 8) (tC (.int 1))) (tNil)))) (tDrop (PB.mLM (PB.mAppend) (PB.mVar 5) (tCons (tTup (tCons (PB.mVar 8) (tCons (PB.mVar 7) (tNil)))) (tNil))))))) (
  tRet (tTup (tCons (PB.mVar 2) (tCons (tCB (PB.mTup K) (tCons (PB.mVar 5) (tNil))) (tNil))))))))))
theorem snd_removed (K : PySem.W.Frag) (n : Nat) : PV.SS K (t_removed K n) (e_removed (f_removed n)) := by
  unfold t_removed e_removed e_removed_l1 e_removed_b1
  exact PV.s_cut (PV.s_if (PV.t_tru ((PV.s_isi (PV.v_var)).v)) (PV.s_ret (PV.s_var)) (PV.s_next)) (
  PV.s_seq (PV.s_asg (vs := [2, 3]) (PV.s_var) (PV.g_tup (PV.g_cons (PV.g_nm (by decide)) (PV.g_cons (PV.g_nm (by decide)) (PV.g_nil))))) (
  PV.s_seq (PV.s_asg (vs := [4]) (PV.s_call (PV.a_cons (PV.s_var) (PV.a_cons (PV.s_var) (PV.a_nil)))) (PV.g_nm (by decide))) (
  PV.s_cut (PV.s_if (PV.t_test ((PV.s_op PV.r_eq ((PV.s_cb PV.c_len (PV.av_cons (PV.v_var) (PV.av_nil))).v) ((PV.s_int).v)).v)) (PV.s_ret (PV.s_op PV.r_ix ((PV.s_op PV.r_ix (PV.v_var) ((PV.s_int).v)).v) ((PV.s_int).v))) (PV.s_next)) (
  PV.s_seq (PV.s_asgO (PV.f_lst (PV.a_nil))) (
  PV.s_seq (PV.s_for (vs := [6, 7]) (PV.i_sq (PV.s_var)) (PV.g_tup (PV.g_cons (PV.g_nm (by decide)) (PV.g_cons (PV.g_nm (by decide)) (PV.g_nil)))) (PV.s_seq (PV.s_asg (vs := [8]) (PV.s_call (PV.a_cons (PV.s_var) (PV.a_cons (PV.s_var) (PV.a_nil)))) (PV.g_nm (by decide))) (
  PV.s_if (PV.t_and (PV.t_not (PV.t_tru ((PV.s_isi (PV.v_var)).v))) (PV.t_test ((PV.s_op PV.r_eq ((PV.s_op PV.r_ix (PV.v_var) ((PV.s_int).v)).v) (PV.v_var)).v))) (PV.s_ext ((PV.s_op PV.r_ix (PV.v_var) ((PV.s_int).v)).v)) (PV.s_app (PV.s_tup (PV.a_cons (PV.s_var) (PV.a_cons (PV.s_var) (PV.a_nil)))))))) (
  PV.s_ret (PV.s_tup (PV.a_cons (PV.s_var) (PV.a_cons (PV.s_cb PV.c_tup (PV.av_cons (PV.v_var) (PV.av_nil))) (PV.a_nil))))))))))
theorem len_removed {K : PySem.W.Frag} : ∀ n, PB.Len 2 (sp_removed K n)
  | 0 => fun _ _ _ _ ⟨_, _, _, _, _, e, _⟩ => by cases e
  | _ + 1 => PV.len_run
theorem pure_removed (K : PySem.W.Frag) (n : Nat) : PB.Pure N_removed (sp_removed K (n + 1)) (t_removed K n) := PV.pure_run rfl (snd_removed K n)

def N_without : List Str := ["layout", "width", "height", "pane"]
def e_without : PV.DS → Option PV.Out := PV.dRet (PV.dCall (f_fitted 24) (PV.dCons (PV.dCall (f_removed 24) (PV.dCons (PV.dCall (f_fitted 24) (PV.dCons (PV.dVar 0) (PV.dCons (PV.dVar 1) (PV.dCons (PV.dVar 2) (PV.dNil))))) (PV.dCons (PV.dVar 3) (PV.dNil)))) (PV.dCons (PV.dVar 1) (PV.dCons (PV.dVar 2) (PV.dNil)))))
def f_without : List PV.D → Option PV.D := PV.run 4 4 e_without
theorem run_without (a0 a1 a2 a3 : PV.D) : f_without [a0, a1, a2, a3] = PV.fin (e_without [some (.dat a0), some (.dat a1), some (.dat a2), some (.dat a3)]) := rfl
abbrev sp_without (K : PySem.W.Frag) : Sp := PV.spV K f_without
def t_without (K : PySem.W.Frag) : TS := tRet (PB.mCall (sp_fitted K 24) (tCons (PB.mCall (sp_removed K 24) (tCons (PB.mCall (sp_fitted K 24) (tCons (PB.mVar 0) (tCons (PB.mVar 1) (tCons (PB.mVar 2) (tNil))))) (tCons (PB.mVar 3) (tNil)))) (tCons (PB.mVar 1) (tCons (PB.mVar 2) (tNil)))))
theorem snd_without (K : PySem.W.Frag) : PV.SS K (t_without K) e_without := by
  unfold t_without e_without
  exact PV.s_ret (PV.s_call (PV.a_cons (PV.s_call (PV.a_cons (PV.s_call (PV.a_cons (PV.s_var) (PV.a_cons (PV.s_var) (PV.a_cons (PV.s_var) (PV.a_nil))))) (PV.a_cons (PV.s_var) (PV.a_nil)))) (PV.a_cons (PV.s_var) (PV.a_cons (PV.s_var) (PV.a_nil)))))
theorem len_without {K : PySem.W.Frag} : PB.Len 4 (sp_without K) := PV.len_run
theorem pure_without (K : PySem.W.Frag) : PB.Pure N_without (sp_without K) (t_without K) := PV.pure_run rfl (snd_without K)

def N_path_to_border : List Str := ["layout", "pane", "direction", "around", "parts", "at", "part", "_", "path"]
def e_path_to_border_b1 (self : List PV.D → Option PV.D) : PV.DS → Option PV.Out := PV.dIf (PV.dTest (PV.dOp PV.dIn (PV.vVar 1) (PV.dCall (f_panes 24) (PV.dCons (PV.dVar 6) (PV.dNil))))) (PV.dSeq (PV.dAsg (PV.dCall self (PV.dCons (PV.dVar 6) (PV.dCons (PV.dVar 1) (PV.dCons (PV.dVar 2) (PV.dNil))))) (PV.gN 8)) (
  PV.dSeq (PV.dIf (PV.dTest (PV.dOp PV.dNotN (PV.vVar 8) (PV.dC .non))) (PV.dRet (PV.dOp PV.dAdd (PV.dLst (PV.fLst (PV.dCons (PV.dVar 5) (PV.dNil)))) (PV.vVar 8))) (PV.dNext)) (
  PV.dIf (PV.dAndT (PV.dTest (PV.dOp PV.dEq (PV.vVar 3) (PV.vVar 2))) (PV.dTest (PV.dOp PV.dLt (PV.vVar 5) (PV.dOp PV.dSub (PV.dCall PV.bLen (PV.dCons (PV.vVar 4) (PV.dNil))) (PV.dC (.int 1)))))) (PV.dRet (PV.dLst (PV.fLst (PV.dCons (PV.dVar 5) (PV.dNil))))) (PV.dNext)))) (PV.dNext)
def e_path_to_border_t1 (self : List PV.D → Option PV.D) : PV.D → PV.DS → Option PV.Out := fun d δ => ((PV.gT 2 (PV.gC (PV.gN 5) (PV.gC (PV.gT 2 (PV.gC (PV.gN 6) (PV.gC (PV.gN 7) (PV.gNs)))) (PV.gNs)))) d δ).bind (e_path_to_border_b1 self)
def e_path_to_border_l1 (self : List PV.D → Option PV.D) : PV.DS → Option PV.Out := PV.dFor (PV.iBy PV.dEn (PV.dCons (PV.dVar 4) (PV.dNil))) (PV.gT 2 (PV.gC (PV.gN 5) (PV.gC (PV.gT 2 (PV.gC (PV.gN 6) (PV.gC (PV.gN 7) (PV.gNs)))) (PV.gNs)))) (e_path_to_border_b1 self)
theorem e_path_to_border_l1_is (self : List PV.D → Option PV.D) (δ : PV.DS) : e_path_to_border_l1 self δ = ((PV.iBy PV.dEn (PV.dCons (PV.dVar 4) (PV.dNil))) δ).bind fun ds => PV.dLoop (e_path_to_border_t1 self) ds δ := rfl
def e_path_to_border (self : List PV.D → Option PV.D) : PV.DS → Option PV.Out := PV.dSeq (PV.dIf (PV.dTru (PV.dIsi "int" (PV.vVar 0))) (PV.dRet (PV.dC .non)) (PV.dNext)) (
  PV.dSeq (PV.dAsg (PV.dVar 0) (PV.gT 2 (PV.gC (PV.gN 3) (PV.gC (PV.gN 4) (PV.gNs))))) (
  PV.dSeq (e_path_to_border_l1 self) (
  PV.dRet (PV.dC .non))))
def f_path_to_border : Nat → List PV.D → Option PV.D
  | 0, _ => none
  | n + 1, ds => PV.run 9 3 (e_path_to_border (f_path_to_border n)) ds
theorem run_path_to_border (n : Nat) (a0 a1 a2 : PV.D) : f_path_to_border (n + 1) [a0, a1, a2] = PV.fin (e_path_to_border (f_path_to_border n) [some (.dat a0), some (.dat a1), some (.dat a2), none, none, none, none, none, none]) := rfl
abbrev sp_path_to_border (K : PySem.W.Frag) (n : Nat) : Sp := PV.spV K (f_path_to_border n)
def t_path_to_border (K : PySem.W.Frag) (n : Nat) : TS := C8.tCut (tIfS (PB.mTru K (tCB (rIsi K) (tCons (PB.mVar 0) (tCons (tC (.ty "int")) (tNil))))) (tRet (tC .non)) (tNext)) (
  tSeq (tAsg (PB.mVar 0) (gTup K 2 (gCons (gName 3) (gCons (gName 4) (gNil))))) (
  tSeq (tFor (PV.iEn K (tCons (PB.mVar 4) (tNil))) (gTup K 2 (gCons (gName 5) (gCons (gTup K 2 (gCons (gName 6) (gCons (gName 7) (gNil)))) (gNil)))) (tIfS (PB.mTest (tOp (PB.mIn K) (PB.mVar 1) (PB.mCall (sp_panes K 24) (tCons (PB.mVar 6) (tNil))))) (tSeq (tAsg (PB.mCall (sp_path_to_border K n) (tCons (PB.mVar 6) (tCons (PB.mVar 1) (tCons (PB.mVar 2) (tNil))))) (gName 8)) (
  C8.tCut (tIfS (PB.mTest (tOp PB.mNotN (PB.mVar 8) (tC .non))) (tRet (tOp (PB.mAdd K) (tLst (tCons (PB.mVar 5) (tNil))) (PB.mVar 8))) (tNext)) (
  tIfS (tAnd (PB.mTest (tOp (PB.mEq K) (PB.mVar 3) (PB.mVar 2))) (PB.mTest (tOp (PB.mLt) (PB.mVar 5) (tOp (PB.mSub) (tCB (PB.mLen K) (tCons (PB.mVar 4) (tNil))) (tC (.int 1)))))) (tRet (tLst (tCons (PB.mVar 5) (tNil)))) (tNext)))) (tNext))) (
  tRet (tC .non))))
theorem snd_path_to_border (K : PySem.W.Frag) (n : Nat) : PV.SS K (t_path_to_border K n) (e_path_to_border (f_path_to_border n)) := by
  unfold t_path_to_border e_path_to_border e_path_to_border_l1 e_path_to_border_b1
  exact PV.s_cut (PV.s_if (PV.t_tru ((PV.s_isi (PV.v_var)).v)) (PV.s_ret (PV.s_non)) (PV.s_next)) (
  PV.s_seq (PV.s_asg (vs := [3, 4]) (PV.s_var) (PV.g_tup (PV.g_cons (PV.g_nm (by decide)) (PV.g_cons (PV.g_nm (by decide)) (PV.g_nil))))) (
  PV.s_seq (PV.s_for (vs := [5, 6, 7]) (PV.i_en (PV.a_cons (PV.s_var) (PV.a_nil))) (PV.g_tup (PV.g_cons (PV.g_nm (by decide)) (PV.g_cons (PV.g_tup (PV.g_cons (PV.g_nm (by decide)) (PV.g_cons (PV.g_nm (by decide)) (PV.g_nil)))) (PV.g_nil)))) (PV.s_if (PV.t_test ((PV.s_op PV.r_in (PV.v_var) ((PV.s_call (PV.a_cons (PV.s_var) (PV.a_nil))).v)).v)) (PV.s_seq (PV.s_asg (vs := [8]) (PV.s_call (PV.a_cons (PV.s_var) (PV.a_cons (PV.s_var) (PV.a_cons (PV.s_var) (PV.a_nil))))) (PV.g_nm (by decide))) (
  PV.s_cut (PV.s_if (PV.t_test ((PV.s_op PV.r_notN (PV.v_var) ((PV.s_non).v)).v)) (PV.s_ret (PV.s_op PV.r_add ((PV.SF.e (PV.f_lst (PV.a_cons (PV.s_var) (PV.a_nil)))).v) (PV.v_var))) (PV.s_next)) (
  PV.s_if (PV.t_and (PV.t_test ((PV.s_op PV.r_eq (PV.v_var) (PV.v_var)).v)) (PV.t_test ((PV.s_op PV.r_lt (PV.v_var) ((PV.s_op PV.r_sub ((PV.s_cb PV.c_len (PV.av_cons (PV.v_var) (PV.av_nil))).v) ((PV.s_int).v)).v)).v))) (PV.s_ret (PV.SF.e (PV.f_lst (PV.a_cons (PV.s_var) (PV.a_nil))))) (PV.s_next)))) (PV.s_next))) (
  PV.s_ret (PV.s_non))))
theorem len_path_to_border {K : PySem.W.Frag} : ∀ n, PB.Len 3 (sp_path_to_border K n)
  | 0 => fun _ _ _ _ ⟨_, _, _, _, _, e, _⟩ => by cases e
  | _ + 1 => PV.len_run
theorem pure_path_to_border (K : PySem.W.Frag) (n : Nat) : PB.Pure N_path_to_border (sp_path_to_border K (n + 1)) (t_path_to_border K n) := PV.pure_run rfl (snd_path_to_border K n)

def N_shifted : List Str := ["layout", "path", "amount", "direction", "parts", "at", "part", "size", "fresh", "following", "size_following"]
def e_shifted (self : List PV.D → Option PV.D) : PV.DS → Option PV.Out := PV.dSeq (PV.dAsg (PV.dVar 0) (PV.gT 2 (PV.gC (PV.gN 3) (PV.gC (PV.gN 4) (PV.gNs))))) (
  PV.dSeq (PV.dAsg (PV.dOp PV.dIx (PV.vVar 1) (PV.dC (.int 0))) (PV.gN 5)) (
  PV.dSeq (PV.dAsg (PV.dOp PV.dIx (PV.vVar 4) (PV.vVar 5)) (PV.gT 2 (PV.gC (PV.gN 6) (PV.gC (PV.gN 7) (PV.gNs))))) (
  PV.dSeq (PV.dAsgO 8 (PV.fCall PV.bList (PV.dCons (PV.vVar 4) (PV.dNil)))) (
  PV.dSeq (PV.dIf (PV.dTest (PV.dOp PV.dGt (PV.dCall PV.bLen (PV.dCons (PV.vVar 1) (PV.dNil))) (PV.dC (.int 1)))) (PV.dSeq (PV.dSetI 8 (PV.dTup (PV.dCons (PV.dCall self (PV.dCons (PV.dVar 6) (PV.dCons (PV.dLst (PV.fSl (PV.vVar 1) (PV.dPart (PV.dC (.int 1))) (PV.dNoPart))) (PV.dCons (PV.dVar 2) (PV.dNil))))) (PV.dCons (PV.dVar 7) (PV.dNil)))) (PV.vVar 5)) (
  PV.dRet (PV.dTup (PV.dCons (PV.dVar 3) (PV.dCons (PV.dCall PV.bTup (PV.dCons (PV.vVar 8) (PV.dNil))) (PV.dNil)))))) (PV.dNext)) (
  PV.dSeq (PV.dAsg (PV.dOp PV.dIx (PV.vVar 4) (PV.dOp PV.dAdd (PV.vVar 5) (PV.dC (.int 1)))) (PV.gT 2 (PV.gC (PV.gN 9) (PV.gC (PV.gN 10) (PV.gNs))))) (
  PV.dSeq (PV.dAsg (PV.dCall PV.bMin2 (PV.dCons (PV.vVar 2) (PV.dCons (PV.dOp PV.dSub (PV.vVar 10) (PV.dCall f_least_along (PV.dCons (PV.dVar 3) (PV.dCons (PV.dVar 9) (PV.dNil))))) (PV.dNil)))) (PV.gN 2)) (
  PV.dSeq (PV.dAsg (PV.dCall PV.bMax2 (PV.dCons (PV.vVar 2) (PV.dCons (PV.dOp PV.dSub (PV.dCall f_least_along (PV.dCons (PV.dVar 3) (PV.dCons (PV.dVar 6) (PV.dNil)))) (PV.vVar 7)) (PV.dNil)))) (PV.gN 2)) (
  PV.dSeq (PV.dSetI 8 (PV.dTup (PV.dCons (PV.dVar 6) (PV.dCons (PV.dOp PV.dAdd (PV.vVar 7) (PV.vVar 2)) (PV.dNil)))) (PV.vVar 5)) (
  PV.dSeq (PV.dSetI 8 (PV.dTup (PV.dCons (PV.dVar 9) (PV.dCons (PV.dOp PV.dSub (PV.vVar 10) (PV.vVar 2)) (PV.dNil)))) (PV.dOp PV.dAdd (PV.vVar 5) (PV.dC (.int 1)))) (
  PV.dRet (PV.dTup (PV.dCons (PV.dVar 3) (PV.dCons (PV.dCall PV.bTup (PV.dCons (PV.vVar 8) (PV.dNil))) (PV.dNil))))))))))))))
def f_shifted : Nat → List PV.D → Option PV.D
  | 0, _ => none
  | n + 1, ds => PV.run 11 3 (e_shifted (f_shifted n)) ds
theorem run_shifted (n : Nat) (a0 a1 a2 : PV.D) : f_shifted (n + 1) [a0, a1, a2] = PV.fin (e_shifted (f_shifted n) [some (.dat a0), some (.dat a1), some (.dat a2), none, none, none, none, none, none, none, none]) := rfl
abbrev sp_shifted (K : PySem.W.Frag) (n : Nat) : Sp := PV.spV K (f_shifted n)
def t_shifted (K : PySem.W.Frag) (n : Nat) : TS := tSeq (tAsg (PB.mVar 0) (gTup K 2 (gCons (gName 3) (gCons (gName 4) (gNil))))) (
  tSeq (tAsg (tOp (PB.mIx K) (PB.mVar 1) (tC (.int 0))) (gName 5)) (
  tSeq (tAsg (tOp (PB.mIx K) (PB.mVar 4) (PB.mVar 5)) (gTup K 2 (gCons (gName 6) (gCons (gName 7) (gNil))))) (
  tSeq (tAsg (tCB (PB.mList K) (tCons (PB.mVar 4) (tNil))) (gName 8)) (
  C8.tCut (tIfS (PB.mTest (tOp (PB.mGt) (tCB (PB.mLen K) (tCons (PB.mVar 1) (tNil))) (tC (.int 1)))) (tSeq (tAsg (tTup (tCons (PB.mCall (sp_shifted K n) (tCons (PB.mVar 6) (tCons (tSl (PB.mSl K) (PB.mVar 1) (PB.mPart (tC (.int 1))) (tNoPart)) (tCons (PB.mVar 2) (tNil))))) (tCons (PB.mVar 7) (tNil)))) (gSub (PB.mVar 8) (PB.mVar 5) PB.mSet)) (
  tRet (tTup (tCons (PB.mVar 3) (tCons (tCB (PB.mTup K) (tCons (PB.mVar 8) (tNil))) (tNil)))))) (tNext)) (
  tSeq (tAsg (tOp (PB.mIx K) (PB.mVar 4) (tOp (PB.mAdd K) (PB.mVar 5) (tC (.int 1)))) (gTup K 2 (gCons (gName 9) (gCons (gName 10) (gNil))))) (
  tSeq (tAsg (tCB (PB.mMin2) (tCons (PB.mVar 2) (tCons (tOp (PB.mSub) (PB.mVar 10) (PB.mCall (sp_least_along K) (tCons (PB.mVar 3) (tCons (PB.mVar 9) (tNil))))) (tNil)))) (gName 2)) (
  tSeq (tAsg (tCB (PB.mMax2) (tCons (PB.mVar 2) (tCons (tOp (PB.mSub) (PB.mCall (sp_least_along K) (tCons (PB.mVar 3) (tCons (PB.mVar 6) (tNil)))) (PB.mVar 7)) (tNil)))) (gName 2)) (
  tSeq (tAsg (tTup (tCons (PB.mVar 6) (tCons (tOp (PB.mAdd K) (PB.mVar 7) (PB.mVar 2)) (tNil)))) (gSub (PB.mVar 8) (PB.mVar 5) PB.mSet)) (
  tSeq (tAsg (tTup (tCons (PB.mVar 9) (tCons (tOp (PB.mSub) (PB.mVar 10) (PB.mVar 2)) (tNil)))) (gSub (PB.mVar 8) (tOp (PB.mAdd K) (PB.mVar 5) (tC (.int 1))) PB.mSet)) (
  tRet (tTup (tCons (PB.mVar 3) (tCons (tCB (PB.mTup K) (tCons (PB.mVar 8) (tNil))) (tNil))))))))))))))
theorem snd_shifted (K : PySem.W.Frag) (n : Nat) : PV.SS K (t_shifted K n) (e_shifted (f_shifted n)) := by
  unfold t_shifted e_shifted
  exact PV.s_seq (PV.s_asg (vs := [3, 4]) (PV.s_var) (PV.g_tup (PV.g_cons (PV.g_nm (by decide)) (PV.g_cons (PV.g_nm (by decide)) (PV.g_nil))))) (
  PV.s_seq (PV.s_asg (vs := [5]) (PV.s_op PV.r_ix (PV.v_var) ((PV.s_int).v)) (PV.g_nm (by decide))) (
  PV.s_seq (PV.s_asg (vs := [6, 7]) (PV.s_op PV.r_ix (PV.v_var) (PV.v_var)) (PV.g_tup (PV.g_cons (PV.g_nm (by decide)) (PV.g_cons (PV.g_nm (by decide)) (PV.g_nil))))) (
  PV.s_seq (PV.s_asgO (PV.f_cb PV.cf_list (PV.av_cons (PV.v_var) (PV.av_nil)))) (
  PV.s_cut (PV.s_if (PV.t_test ((PV.s_op PV.r_gt ((PV.s_cb PV.c_len (PV.av_cons (PV.v_var) (PV.av_nil))).v) ((PV.s_int).v)).v)) (PV.s_seq (PV.s_setI (PV.s_tup (PV.a_cons (PV.s_call (PV.a_cons (PV.s_var) (PV.a_cons (PV.SF.e (PV.f_sl (PV.v_var) (PV.o_part ((PV.s_int).v)) (PV.o_none))) (PV.a_cons (PV.s_var) (PV.a_nil))))) (PV.a_cons (PV.s_var) (PV.a_nil)))) (PV.v_var)) (
  PV.s_ret (PV.s_tup (PV.a_cons (PV.s_var) (PV.a_cons (PV.s_cb PV.c_tup (PV.av_cons (PV.v_var) (PV.av_nil))) (PV.a_nil)))))) (PV.s_next)) (
  PV.s_seq (PV.s_asg (vs := [9, 10]) (PV.s_op PV.r_ix (PV.v_var) ((PV.s_op PV.r_add (PV.v_var) ((PV.s_int).v)).v)) (PV.g_tup (PV.g_cons (PV.g_nm (by decide)) (PV.g_cons (PV.g_nm (by decide)) (PV.g_nil))))) (
  PV.s_seq (PV.s_asg (vs := [2]) (PV.s_cb PV.c_min2 (PV.av_cons (PV.v_var) (PV.av_cons ((PV.s_op PV.r_sub (PV.v_var) ((PV.s_call (PV.a_cons (PV.s_var) (PV.a_cons (PV.s_var) (PV.a_nil)))).v)).v) (PV.av_nil)))) (PV.g_nm (by decide))) (
  PV.s_seq (PV.s_asg (vs := [2]) (PV.s_cb PV.c_max2 (PV.av_cons (PV.v_var) (PV.av_cons ((PV.s_op PV.r_sub ((PV.s_call (PV.a_cons (PV.s_var) (PV.a_cons (PV.s_var) (PV.a_nil)))).v) (PV.v_var)).v) (PV.av_nil)))) (PV.g_nm (by decide))) (
  PV.s_seq (PV.s_setI (PV.s_tup (PV.a_cons (PV.s_var) (PV.a_cons (PV.s_op PV.r_add (PV.v_var) (PV.v_var)) (PV.a_nil)))) (PV.v_var)) (
  PV.s_seq (PV.s_setI (PV.s_tup (PV.a_cons (PV.s_var) (PV.a_cons (PV.s_op PV.r_sub (PV.v_var) (PV.v_var)) (PV.a_nil)))) ((PV.s_op PV.r_add (PV.v_var) ((PV.s_int).v)).v)) (
  PV.s_ret (PV.s_tup (PV.a_cons (PV.s_var) (PV.a_cons (PV.s_cb PV.c_tup (PV.av_cons (PV.v_var) (PV.av_nil))) (PV.a_nil))))))))))))))
theorem len_shifted {K : PySem.W.Frag} : ∀ n, PB.Len 3 (sp_shifted K n)
  | 0 => fun _ _ _ _ ⟨_, _, _, _, _, e, _⟩ => by cases e
  | _ + 1 => PV.len_run
theorem pure_shifted (K : PySem.W.Frag) (n : Nat) : PB.Pure N_shifted (sp_shifted K (n + 1)) (t_shifted K n) := PV.pure_run rfl (snd_shifted K n)

def N_moved : List Str := ["layout", "width", "height", "pane", "direction", "amount", "path"]
def e_moved : PV.DS → Option PV.Out := PV.dSeq (PV.dAsg (PV.dCall (f_fitted 24) (PV.dCons (PV.dVar 0) (PV.dCons (PV.dVar 1) (PV.dCons (PV.dVar 2) (PV.dNil))))) (PV.gN 0)) (
  PV.dSeq (PV.dAsg (PV.dCall (f_path_to_border 24) (PV.dCons (PV.dVar 0) (PV.dCons (PV.dVar 3) (PV.dCons (PV.dVar 4) (PV.dNil))))) (PV.gN 6)) (
  PV.dSeq (PV.dIf (PV.dTest (PV.dOp PV.dIsN (PV.vVar 6) (PV.dC .non))) (PV.dRet (PV.dVar 0)) (PV.dNext)) (
  PV.dRet (PV.dCall (f_fitted 24) (PV.dCons (PV.dCall (f_shifted 24) (PV.dCons (PV.dVar 0) (PV.dCons (PV.dVar 6) (PV.dCons (PV.dVar 5) (PV.dNil))))) (PV.dCons (PV.dVar 1) (PV.dCons (PV.dVar 2) (PV.dNil))))))))
def f_moved : List PV.D → Option PV.D := PV.run 7 6 e_moved
theorem run_moved (a0 a1 a2 a3 a4 a5 : PV.D) : f_moved [a0, a1, a2, a3, a4, a5] = PV.fin (e_moved [some (.dat a0), some (.dat a1), some (.dat a2), some (.dat a3), some (.dat a4), some (.dat a5), none]) := rfl
abbrev sp_moved (K : PySem.W.Frag) : Sp := PV.spV K f_moved
def t_moved (K : PySem.W.Frag) : TS := tSeq (tAsg (PB.mCall (sp_fitted K 24) (tCons (PB.mVar 0) (tCons (PB.mVar 1) (tCons (PB.mVar 2) (tNil))))) (gName 0)) (
  tSeq (tAsg (PB.mCall (sp_path_to_border K 24) (tCons (PB.mVar 0) (tCons (PB.mVar 3) (tCons (PB.mVar 4) (tNil))))) (gName 6)) (
  C8.tCut (tIfS (PB.mTest (tOp PB.mIsN (PB.mVar 6) (tC .non))) (tRet (PB.mVar 0)) (tNext)) (
  tRet (PB.mCall (sp_fitted K 24) (tCons (PB.mCall (sp_shifted K 24) (tCons (PB.mVar 0) (tCons (PB.mVar 6) (tCons (PB.mVar 5) (tNil))))) (tCons (PB.mVar 1) (tCons (PB.mVar 2) (tNil))))))))
theorem snd_moved (K : PySem.W.Frag) : PV.SS K (t_moved K) e_moved := by
  unfold t_moved e_moved
  exact PV.s_seq (PV.s_asg (vs := [0]) (PV.s_call (PV.a_cons (PV.s_var) (PV.a_cons (PV.s_var) (PV.a_cons (PV.s_var) (PV.a_nil))))) (PV.g_nm (by decide))) (
  PV.s_seq (PV.s_asg (vs := [6]) (PV.s_call (PV.a_cons (PV.s_var) (PV.a_cons (PV.s_var) (PV.a_cons (PV.s_var) (PV.a_nil))))) (PV.g_nm (by decide))) (
  PV.s_cut (PV.s_if (PV.t_test ((PV.s_op PV.r_isN (PV.v_var) ((PV.s_non).v)).v)) (PV.s_ret (PV.s_var)) (PV.s_next)) (
  PV.s_ret (PV.s_call (PV.a_cons (PV.s_call (PV.a_cons (PV.s_var) (PV.a_cons (PV.s_var) (PV.a_cons (PV.s_var) (PV.a_nil))))) (PV.a_cons (PV.s_var) (PV.a_cons (PV.s_var) (PV.a_nil))))))))
theorem len_moved {K : PySem.W.Frag} : PB.Len 6 (sp_moved K) := PV.len_run
theorem pure_moved (K : PySem.W.Frag) : PB.Pure N_moved (sp_moved K) (t_moved K) := PV.pure_run rfl (snd_moved K)

/-! ## the program's fitting -/
theorem along_ok (b : Bool) (w h : PV.D) : f_along [.str (nm b), w, h] = some (if b = true then h else w) := by
  rw [run_along]
  unfold e_along
  have hb := dEq_beside b
  cases b <;> simp only [hb, PV.fin, PV.dSeq, PV.dIf, PV.dAsg, PV.dAsgO, PV.dRet, PV.dRetN, PV.dNext, PV.dBreak, PV.dCont, PV.dDrop, PV.dApp, PV.dExt, PV.dSetI, PV.dPop, PV.dAug, PV.dAugI, PV.dFrz, PV.onOwn, PV.gN, PV.gT, PV.gC, PV.gNs, PV.dVar, PV.vVar, PV.dC, PV.dOp, PV.fOp, PV.dNeg, PV.dNot, PV.dAnd, PV.dOr, PV.dIfE, PV.dNil, PV.dCons, PV.dTup, PV.fLst, PV.dLst, PV.dCall, PV.fCall, PV.dTest, PV.tst, PV.dTru, PV.tru, PV.dAndT, PV.dOrT, PV.dNotT, PV.dYes, PV.dChain, PV.dIsi, PV.isi, PV.tyn, PV.dPart, PV.dNoPart, PV.fSl, PV.lItems, PV.iOf, PV.dItems, PV.iBy, PV.sItems, PV.dwipe, PV.bMax2, PV.bMin2, PV.bAbs, PV.bInt, PV.bLen, PV.bTup, PV.bList, PV.dAdd, PV.dSub, PV.dLt, PV.dLe, PV.dGt, PV.dGe, PV.dIsN, PV.dNotN, PV.isNon_non, PV.isNon_int, PV.fAdd, PV.dIx_l, PV.dIx_t, PV.dIx_f, PV.at0, PV.at1, PV.at2, PV.at3, PV.at4, Option.bind_some, Option.map_some, Option.bind_none, Option.map_none, List.getElem?_cons_zero, List.getElem?_cons_succ, List.set_cons_zero, List.set_cons_succ, if_true, if_false, PV.kit_ii, PV.kit_ti, PV.kit_tt, PV.kit_ib, PV.kit_it, PV.kit_ll, PV.kit_li, Bool.not_true, Bool.not_false, Bool.false_eq_true, Bool.not_eq_true, reduceIte, List.length_cons, List.length_nil, Nat.reduceAdd, Nat.zero_add, PV.most_0, PV.most_1, PV.most_2, PV.most_3, PV.most_4, PV.most_5, PV.most_6, PV.most_7, decide_true, decide_false, List.nil_append, List.cons_append]
theorem least_along_ok {B : Int} {M : Nat} (hM : M ≤ 100000) {d : Nat} {l : Lay} (g : Good B M d l) (hd : d < 24) (b : Bool) : f_least_along [.str (nm b), l.d] = some (.int (al b l.least)) := by
  have h := least_ok hM d g 24 hd
  rw [run_least_along]
  unfold e_least_along
  simp only [h, along_ok, PV.fin, PV.dSeq, PV.dIf, PV.dAsg, PV.dAsgO, PV.dRet, PV.dRetN, PV.dNext, PV.dBreak, PV.dCont, PV.dDrop, PV.dApp, PV.dExt, PV.dSetI, PV.dPop, PV.dAug, PV.dAugI, PV.dFrz, PV.onOwn, PV.gN, PV.gT, PV.gC, PV.gNs, PV.dVar, PV.vVar, PV.dC, PV.dOp, PV.fOp, PV.dNeg, PV.dNot, PV.dAnd, PV.dOr, PV.dIfE, PV.dNil, PV.dCons, PV.dTup, PV.fLst, PV.dLst, PV.dCall, PV.fCall, PV.dTest, PV.tst, PV.dTru, PV.tru, PV.dAndT, PV.dOrT, PV.dNotT, PV.dYes, PV.dChain, PV.dIsi, PV.isi, PV.tyn, PV.dPart, PV.dNoPart, PV.fSl, PV.lItems, PV.iOf, PV.dItems, PV.iBy, PV.sItems, PV.dwipe, PV.bMax2, PV.bMin2, PV.bAbs, PV.bInt, PV.bLen, PV.bTup, PV.bList, PV.dAdd, PV.dSub, PV.dLt, PV.dLe, PV.dGt, PV.dGe, PV.dIsN, PV.dNotN, PV.isNon_non, PV.isNon_int, PV.fAdd, PV.dIx_l, PV.dIx_t, PV.dIx_f, PV.at0, PV.at1, PV.at2, PV.at3, PV.at4, Option.bind_some, Option.map_some, Option.bind_none, Option.map_none, List.getElem?_cons_zero, List.getElem?_cons_succ, List.set_cons_zero, List.set_cons_succ, if_true, if_false, PV.kit_ii, PV.kit_ti, PV.kit_tt, PV.kit_ib, PV.kit_it, PV.kit_ll, PV.kit_li, Bool.not_true, Bool.not_false, Bool.false_eq_true, Bool.not_eq_true, reduceIte, List.length_cons, List.length_nil, Nat.reduceAdd, Nat.zero_add, PV.most_0, PV.most_1, PV.most_2, PV.most_3, PV.most_4, PV.most_5, PV.most_6, PV.most_7, decide_true, decide_false, List.nil_append, List.cons_append]
  cases b <;> rfl
theorem enough_ok {B : Int} {M : Nat} (hM : M ≤ 100000) {d : Nat} {l : Lay} (g : Good B M d l) (hd : d < 24) (w h : Int) : f_enough [l.d, .int w, .int h] = some (.tup [.int (l.W w), .int (l.H h)]) := by
  have k := least_ok hM d g 24 hd
  rw [run_enough]
  unfold e_enough
  simp only [k, PV.fin, PV.dSeq, PV.dIf, PV.dAsg, PV.dAsgO, PV.dRet, PV.dRetN, PV.dNext, PV.dBreak, PV.dCont, PV.dDrop, PV.dApp, PV.dExt, PV.dSetI, PV.dPop, PV.dAug, PV.dAugI, PV.dFrz, PV.onOwn, PV.gN, PV.gT, PV.gC, PV.gNs, PV.dVar, PV.vVar, PV.dC, PV.dOp, PV.fOp, PV.dNeg, PV.dNot, PV.dAnd, PV.dOr, PV.dIfE, PV.dNil, PV.dCons, PV.dTup, PV.fLst, PV.dLst, PV.dCall, PV.fCall, PV.dTest, PV.tst, PV.dTru, PV.tru, PV.dAndT, PV.dOrT, PV.dNotT, PV.dYes, PV.dChain, PV.dIsi, PV.isi, PV.tyn, PV.dPart, PV.dNoPart, PV.fSl, PV.lItems, PV.iOf, PV.dItems, PV.iBy, PV.sItems, PV.dwipe, PV.bMax2, PV.bMin2, PV.bAbs, PV.bInt, PV.bLen, PV.bTup, PV.bList, PV.dAdd, PV.dSub, PV.dLt, PV.dLe, PV.dGt, PV.dGe, PV.dIsN, PV.dNotN, PV.isNon_non, PV.isNon_int, PV.fAdd, PV.dIx_l, PV.dIx_t, PV.dIx_f, PV.at0, PV.at1, PV.at2, PV.at3, PV.at4, Option.bind_some, Option.map_some, Option.bind_none, Option.map_none, List.getElem?_cons_zero, List.getElem?_cons_succ, List.set_cons_zero, List.set_cons_succ, if_true, if_false, PV.kit_ii, PV.kit_ti, PV.kit_tt, PV.kit_ib, PV.kit_it, PV.kit_ll, PV.kit_li, Bool.not_true, Bool.not_false, Bool.false_eq_true, Bool.not_eq_true, reduceIte, List.length_cons, List.length_nil, Nat.reduceAdd, Nat.zero_add, PV.most_0, PV.most_1, PV.most_2, PV.most_3, PV.most_4, PV.most_5, PV.most_6, PV.most_7, decide_true, decide_false, List.nil_append, List.cons_append]
  rfl
theorem size_of_part_ok (b : Bool) (s w h : Int) : f_size_of_part [.str (nm b), .int s, .int w, .int h] = some (.tup [.int (if b = true then w else s), .int (if b = true then s else h)]) := by
  rw [run_size_of_part]
  unfold e_size_of_part
  have hb := dEq_beside b
  cases b <;> simp only [hb, PV.fin, PV.dSeq, PV.dIf, PV.dAsg, PV.dAsgO, PV.dRet, PV.dRetN, PV.dNext, PV.dBreak, PV.dCont, PV.dDrop, PV.dApp, PV.dExt, PV.dSetI, PV.dPop, PV.dAug, PV.dAugI, PV.dFrz, PV.onOwn, PV.gN, PV.gT, PV.gC, PV.gNs, PV.dVar, PV.vVar, PV.dC, PV.dOp, PV.fOp, PV.dNeg, PV.dNot, PV.dAnd, PV.dOr, PV.dIfE, PV.dNil, PV.dCons, PV.dTup, PV.fLst, PV.dLst, PV.dCall, PV.fCall, PV.dTest, PV.tst, PV.dTru, PV.tru, PV.dAndT, PV.dOrT, PV.dNotT, PV.dYes, PV.dChain, PV.dIsi, PV.isi, PV.tyn, PV.dPart, PV.dNoPart, PV.fSl, PV.lItems, PV.iOf, PV.dItems, PV.iBy, PV.sItems, PV.dwipe, PV.bMax2, PV.bMin2, PV.bAbs, PV.bInt, PV.bLen, PV.bTup, PV.bList, PV.dAdd, PV.dSub, PV.dLt, PV.dLe, PV.dGt, PV.dGe, PV.dIsN, PV.dNotN, PV.isNon_non, PV.isNon_int, PV.fAdd, PV.dIx_l, PV.dIx_t, PV.dIx_f, PV.at0, PV.at1, PV.at2, PV.at3, PV.at4, Option.bind_some, Option.map_some, Option.bind_none, Option.map_none, List.getElem?_cons_zero, List.getElem?_cons_succ, List.set_cons_zero, List.set_cons_succ, if_true, if_false, PV.kit_ii, PV.kit_ti, PV.kit_tt, PV.kit_ib, PV.kit_it, PV.kit_ll, PV.kit_li, Bool.not_true, Bool.not_false, Bool.false_eq_true, Bool.not_eq_true, reduceIte, List.length_cons, List.length_nil, Nat.reduceAdd, Nat.zero_add, PV.most_0, PV.most_1, PV.most_2, PV.most_3, PV.most_4, PV.most_5, PV.most_6, PV.most_7, decide_true, decide_false, List.nil_append, List.cons_append]
def trD (ls : List Lay) (ss zs : List Int) : List PV.D := List.zipWith (fun x y => PV.D.tup [x, y]) (ptsD ls ss) (zs.map PV.D.int)
theorem tr_len {ls : List Lay} {ss zs : List Int} (hl : ls.length = ss.length) (hz : zs.length = ls.length) : (trD ls ss zs).length = ls.length := by
  simp [trD, ptsD_len hl, hz]
theorem tr_get {ls : List Lay} {ss zs : List Int} (hl : ls.length = ss.length) (hz : zs.length = ls.length) {i : Nat} {d : PV.D} (h : (trD ls ss zs)[i]? = some d) : ∃ hi : i < ls.length, d = .tup [pt ls[i].d (ss.getD i 0), .int (zs.getD i 0)] := by
  have hi : i < ls.length := by
    have := (List.getElem?_eq_some_iff.mp h).1
    rwa [tr_len hl hz] at this
  refine ⟨hi, ?_⟩
  have h2 : i < ss.length := by omega
  have h3 : i < zs.length := by omega
  unfold trD ptsD at h
  rw [List.getElem?_zipWith, List.getElem?_zipWith, List.getElem?_map, List.getElem?_eq_getElem hi, List.getElem?_eq_getElem h2, List.getElem?_eq_getElem h3] at h
  cases h
  rw [getD_get h2, getD_get h3]
theorem fitted_c1 {B : Int} {M d m : Nat} {b : Bool} {ls : List Lay} {ss : List Int} (hM : M ≤ 100000) (hl : ls.length = ss.length) (hm : ls.length ≤ M) (hg : ∀ l ∈ ls, Good B M d l) (hd : d < 24) (x0 x1 x2 x4 x5 x6 x7 x8 x9 x10 x11 x12 : Option PV.DV) :
    PV.dComp (e_fitted_s1 (f_fitted m) [x0, x1, x2, some (.dat (.str (nm b))), x4, x5, x6, x7, x8, x9, x10, x11, x12]) (ptsD ls ss) [] = some ((lows b ls).map .int) := by
  rw [comp_pts (f := fun l => .int (al b l.least)) ls ss [] hl (fun l ml s => ?_) (by simp; omega)]
  · simp [lows, List.map_map, Function.comp_def]
  · have hr := least_along_ok hM (hg l ml) hd b
    simp only [e_fitted_s1, PV.cStep, pt, hr, PV.fin, PV.dSeq, PV.dIf, PV.dAsg, PV.dAsgO, PV.dRet, PV.dRetN, PV.dNext, PV.dBreak, PV.dCont, PV.dDrop, PV.dApp, PV.dExt, PV.dSetI, PV.dPop, PV.dAug, PV.dAugI, PV.dFrz, PV.onOwn, PV.gN, PV.gT, PV.gC, PV.gNs, PV.dVar, PV.vVar, PV.dC, PV.dOp, PV.fOp, PV.dNeg, PV.dNot, PV.dAnd, PV.dOr, PV.dIfE, PV.dNil, PV.dCons, PV.dTup, PV.fLst, PV.dLst, PV.dCall, PV.fCall, PV.dTest, PV.tst, PV.dTru, PV.tru, PV.dAndT, PV.dOrT, PV.dNotT, PV.dYes, PV.dChain, PV.dIsi, PV.isi, PV.tyn, PV.dPart, PV.dNoPart, PV.fSl, PV.lItems, PV.iOf, PV.dItems, PV.iBy, PV.sItems, PV.dwipe, PV.bMax2, PV.bMin2, PV.bAbs, PV.bInt, PV.bLen, PV.bTup, PV.bList, PV.dAdd, PV.dSub, PV.dLt, PV.dLe, PV.dGt, PV.dGe, PV.dIsN, PV.dNotN, PV.isNon_non, PV.isNon_int, PV.fAdd, PV.dIx_l, PV.dIx_t, PV.dIx_f, PV.at0, PV.at1, PV.at2, PV.at3, PV.at4, Option.bind_some, Option.map_some, Option.bind_none, Option.map_none, List.getElem?_cons_zero, List.getElem?_cons_succ, List.set_cons_zero, List.set_cons_succ, if_true, if_false, PV.kit_ii, PV.kit_ti, PV.kit_tt, PV.kit_ib, PV.kit_it, PV.kit_ll, PV.kit_li, Bool.not_true, Bool.not_false, Bool.false_eq_true, Bool.not_eq_true, reduceIte, List.length_cons, List.length_nil, Nat.reduceAdd, Nat.zero_add, PV.most_0, PV.most_1, PV.most_2, PV.most_3, PV.most_4, PV.most_5, PV.most_6, PV.most_7, decide_true, decide_false, List.nil_append, List.cons_append]
theorem fitted_c2 {m : Nat} {ls : List Lay} {ss : List Int} (hl : ls.length = ss.length) (hm : ls.length ≤ 100000) (x0 x1 x2 x3 x4 x5 x6 x7 x8 x9 x10 x11 x12 : Option PV.DV) :
    PV.dComp (e_fitted_s2 (f_fitted m) [x0, x1, x2, x3, x4, x5, x6, x7, x8, x9, x10, x11, x12]) (ptsD ls ss) [] = some (ss.map .int) := by
  rw [comp_pts2 (f := fun s => .int s) ls ss [] hl (fun l s => ?_) (by simp; omega)]
  · simp
  · simp only [e_fitted_s2, PV.cStep, pt, PV.fin, PV.dSeq, PV.dIf, PV.dAsg, PV.dAsgO, PV.dRet, PV.dRetN, PV.dNext, PV.dBreak, PV.dCont, PV.dDrop, PV.dApp, PV.dExt, PV.dSetI, PV.dPop, PV.dAug, PV.dAugI, PV.dFrz, PV.onOwn, PV.gN, PV.gT, PV.gC, PV.gNs, PV.dVar, PV.vVar, PV.dC, PV.dOp, PV.fOp, PV.dNeg, PV.dNot, PV.dAnd, PV.dOr, PV.dIfE, PV.dNil, PV.dCons, PV.dTup, PV.fLst, PV.dLst, PV.dCall, PV.fCall, PV.dTest, PV.tst, PV.dTru, PV.tru, PV.dAndT, PV.dOrT, PV.dNotT, PV.dYes, PV.dChain, PV.dIsi, PV.isi, PV.tyn, PV.dPart, PV.dNoPart, PV.fSl, PV.lItems, PV.iOf, PV.dItems, PV.iBy, PV.sItems, PV.dwipe, PV.bMax2, PV.bMin2, PV.bAbs, PV.bInt, PV.bLen, PV.bTup, PV.bList, PV.dAdd, PV.dSub, PV.dLt, PV.dLe, PV.dGt, PV.dGe, PV.dIsN, PV.dNotN, PV.isNon_non, PV.isNon_int, PV.fAdd, PV.dIx_l, PV.dIx_t, PV.dIx_f, PV.at0, PV.at1, PV.at2, PV.at3, PV.at4, Option.bind_some, Option.map_some, Option.bind_none, Option.map_none, List.getElem?_cons_zero, List.getElem?_cons_succ, List.set_cons_zero, List.set_cons_succ, if_true, if_false, PV.kit_ii, PV.kit_ti, PV.kit_tt, PV.kit_ib, PV.kit_it, PV.kit_ll, PV.kit_li, Bool.not_true, Bool.not_false, Bool.false_eq_true, Bool.not_eq_true, reduceIte, List.length_cons, List.length_nil, Nat.reduceAdd, Nat.zero_add, PV.most_0, PV.most_1, PV.most_2, PV.most_3, PV.most_4, PV.most_5, PV.most_6, PV.most_7, decide_true, decide_false, List.nil_append, List.cons_append]
theorem fitted_l3 {m : Nat} {b : Bool} {ls : List Lay} {ss zs : List Int} {W H : Int} (hl : ls.length = ss.length) (hz : zs.length = ls.length) (hm : ls.length ≤ 100000)
    (hr : ∀ (i : Nat) (hi : i < ls.length), f_fitted m [ls[i].d, .int (if b = true then W else zs.getD i 0), .int (if b = true then zs.getD i 0 else H)] = some ((fits b W H ls zs)[i]'(by rw [fits_len]; exact hi)).d)
    (x0 x4 x5 x6 : Option PV.DV) :
    ∃ y8 y9 y10 y11 y12, PV.dLoop (e_fitted_t3 (f_fitted m)) (trD ls ss zs) [x0, some (.dat (.int W)), some (.dat (.int H)), some (.dat (.str (nm b))), x4, x5, x6, some (.own []), none, none, none, none, none] =
      some (.nx [x0, some (.dat (.int W)), some (.dat (.int H)), some (.dat (.str (nm b))), x4, x5, x6, some (.own (ptsD (fits b W H ls zs) zs)), y8, y9, y10, y11, y12]) := by
  have hfz : (fits b W H ls zs).length = zs.length := by rw [fits_len, hz]
  obtain ⟨δ', h1, h2⟩ := PV.dLoop_inv (step := e_fitted_t3 (f_fitted m)) (fun i δ => i ≤ ls.length → ∃ y8 y9 y10 y11 y12, δ = [x0, some (.dat (.int W)), some (.dat (.int H)), some (.dat (.str (nm b))), x4, x5, x6, some (.own ((ptsD (fits b W H ls zs) zs).take i)), y8, y9, y10, y11, y12])
    (trD ls ss zs) 0 [x0, some (.dat (.int W)), some (.dat (.int H)), some (.dat (.str (nm b))), x4, x5, x6, some (.own []), none, none, none, none, none] (fun _ => ⟨none, none, none, none, none, rfl⟩) (fun i d δ hi hp => by
      obtain ⟨hk, rfl⟩ := tr_get hl hz hi
      obtain ⟨y8, y9, y10, y11, y12, rfl⟩ := hp (by omega)
      rw [Nat.zero_add]
      have r := hr i hk
      have len : ((ptsD (fits b W H ls zs) zs).take i).length < PV.most := by
        rw [List.length_take, ptsD_len hfz, fits_len]
        unfold PV.most
        omega
      have tk := take_pts (ls := fits b W H ls zs) (ss := zs) hfz (i := i) (by rw [fits_len]; exact hk)
      have sp := size_of_part_ok b (zs.getD i 0) W H
      refine ⟨[x0, some (.dat (.int W)), some (.dat (.int H)), some (.dat (.str (nm b))), x4, x5, x6, some (.own ((ptsD (fits b W H ls zs) zs).take (i + 1))), some (.dat ls[i].d), some (.dat (.int (ss.getD i 0))), some (.dat (.int (zs.getD i 0))), some (.dat (.int (if b = true then W else zs.getD i 0))), some (.dat (.int (if b = true then zs.getD i 0 else H)))], ?_, fun _ => ⟨_, _, _, _, _, rfl⟩⟩
      simp only [e_fitted_t3, e_fitted_b3, pt, sp, r, len, tk, PV.fin, PV.dSeq, PV.dIf, PV.dAsg, PV.dAsgO, PV.dRet, PV.dRetN, PV.dNext, PV.dBreak, PV.dCont, PV.dDrop, PV.dApp, PV.dExt, PV.dSetI, PV.dPop, PV.dAug, PV.dAugI, PV.dFrz, PV.onOwn, PV.gN, PV.gT, PV.gC, PV.gNs, PV.dVar, PV.vVar, PV.dC, PV.dOp, PV.fOp, PV.dNeg, PV.dNot, PV.dAnd, PV.dOr, PV.dIfE, PV.dNil, PV.dCons, PV.dTup, PV.fLst, PV.dLst, PV.dCall, PV.fCall, PV.dTest, PV.tst, PV.dTru, PV.tru, PV.dAndT, PV.dOrT, PV.dNotT, PV.dYes, PV.dChain, PV.dIsi, PV.isi, PV.tyn, PV.dPart, PV.dNoPart, PV.fSl, PV.lItems, PV.iOf, PV.dItems, PV.iBy, PV.sItems, PV.dwipe, PV.bMax2, PV.bMin2, PV.bAbs, PV.bInt, PV.bLen, PV.bTup, PV.bList, PV.dAdd, PV.dSub, PV.dLt, PV.dLe, PV.dGt, PV.dGe, PV.dIsN, PV.dNotN, PV.isNon_non, PV.isNon_int, PV.fAdd, PV.dIx_l, PV.dIx_t, PV.dIx_f, PV.at0, PV.at1, PV.at2, PV.at3, PV.at4, Option.bind_some, Option.map_some, Option.bind_none, Option.map_none, List.getElem?_cons_zero, List.getElem?_cons_succ, List.set_cons_zero, List.set_cons_succ, if_true, if_false, PV.kit_ii, PV.kit_ti, PV.kit_tt, PV.kit_ib, PV.kit_it, PV.kit_ll, PV.kit_li, Bool.not_true, Bool.not_false, Bool.false_eq_true, Bool.not_eq_true, reduceIte, List.length_cons, List.length_nil, Nat.reduceAdd, Nat.zero_add, PV.most_0, PV.most_1, PV.most_2, PV.most_3, PV.most_4, PV.most_5, PV.most_6, PV.most_7, decide_true, decide_false, List.nil_append, List.cons_append])
  obtain ⟨y8, y9, y10, y11, y12, rfl⟩ := h2 (by rw [tr_len hl hz]; omega)
  rw [Nat.zero_add, tr_len hl hz, List.take_of_length_le (by rw [ptsD_len hfz, fits_len]; exact Nat.le_refl _)] at h1
  exact ⟨y8, y9, y10, y11, y12, h1⟩
theorem fitted_ok {B : Int} {M : Nat} (hB : B ≤ 1000000000) (hM : M ≤ 100000) : ∀ (d : Nat) {l : Lay}, Good B M d l → l.panes.length ≤ 1000000 → d < 24 → ∀ n, d < n → ∀ w h : Int, w ≤ 900000000 → h ≤ 900000000 → f_fitted n [l.d, .int w, .int h] = some (l.fit w h).d := by
  intro d
  induction d with
  | zero =>
    intro l g _ _ n hn w h _ _
    obtain ⟨m, rfl⟩ : ∃ m, n = m + 1 := ⟨n - 1, by omega⟩
    cases g
    rfl
  | succ d ih =>
    intro l g hp hd n hn w h hw hh
    obtain ⟨m, rfl⟩ : ∃ m, n = m + 1 := ⟨n - 1, by omega⟩
    have gl := g.least
    have gg := g
    cases g with
    | pane k => rfl
    | node hl h2 hm hs hg =>
      rename_i b ls ss
      have hml : ls.length ≤ 100000 := Nat.le_trans hm hM
      have en := enough_ok hM gg hd w h
      have sh := law_fit_share gg hB hM hp hw hh
      have shok := share_ok sh
      have c1 := fitted_c1 (m := m) (b := b) (ls := ls) (ss := ss) hM hl hm hg (by omega)
      have c2 := fitted_c2 (m := m) (ls := ls) (ss := ss) hl hml
      have e0 := al_node (b := b) (ls := ls) (ss := ss)
      have lows0 : 0 ≤ (lows b ls).sum := (sum_ge fun x hx => (sh.m x hx).1).1
      have WB : (Lay.node b ls ss).W w ≤ 900000000 ∧ (Lay.node b ls ss).H h ≤ 900000000 := by unfold Lay.W Lay.H; omega
      have zl : (zsOf b ls ss w h).length = ls.length := by unfold zsOf; rw [share_len sh.n, lows_len]
      have zB : ∀ z ∈ zsOf b ls ss w h, z ≤ 900000000 := fun z hz => by
        have := (share_mem sh.n sh.ne (fun m hm => (sh.m m hm).1) z hz).2
        unfold spareOf at this
        rw [lows_len] at this
        have : al b ((Lay.node b ls ss).W w, (Lay.node b ls ss).H h) ≤ 900000000 := by unfold al; split <;> (dsimp only; omega)
        have : al b (Lay.node b ls ss).least ≤ 900000000 := by unfold al; split <;> omega
        omega
      have l3 := fitted_l3 (m := m) (b := b) (ls := ls) (ss := ss) (zs := zsOf b ls ss w h) (W := (Lay.node b ls ss).W w) (H := (Lay.node b ls ss).H h) hl zl hml (fun i hi => by
        rw [fits_get _ _ _ hi]
        have hz : (zsOf b ls ss w h).getD i 0 ≤ 900000000 := by
          have hi2 : i < (zsOf b ls ss w h).length := by omega
          rw [getD_get hi2]
          exact zB _ (List.getElem_mem hi2)
        refine ih (hg _ (List.getElem_mem hi)) ?_ (by omega) m (by omega) _ _ ?_ ?_
        · rw [Lay.panes_node] at hp
          exact Nat.le_trans (panes_sub (List.getElem_mem hi)) hp
        · split <;> omega
        · split <;> omega)
      have plen : (ptsD (fits b ((Lay.node b ls ss).W w) ((Lay.node b ls ss).H h) ls (zsOf b ls ss w h)) (zsOf b ls ss w h)).length ≤ PV.most := by
        rw [ptsD_len (by rw [fits_len, zl]), fits_len]; unfold PV.most; omega
      have zp : PV.dZp [.tup (ptsD ls ss), .lst ((zsOf b ls ss w h).map .int)] = some (trD ls ss (zsOf b ls ss w h)) := by
        unfold PV.dZp
        simp only []
        rw [if_pos (by rw [ptsD_len hl, List.length_map, zl])]
        rfl
      have an := along_ok b (.int ((Lay.node b ls ss).W w)) (.int ((Lay.node b ls ss).H h))
      have an' : (if b = true then PV.D.int ((Lay.node b ls ss).H h) else PV.D.int ((Lay.node b ls ss).W w)) = PV.D.int (al b ((Lay.node b ls ss).W w, (Lay.node b ls ss).H h)) := by cases b <;> rfl
      rw [an'] at an
      have shok' : f_share [.int (al b ((Lay.node b ls ss).W w, (Lay.node b ls ss).H h)), .lst ((lows b ls).map .int), .lst (ss.map .int)] = some (.lst ((zsOf b ls ss w h).map .int)) := shok
      rw [Lay.fit_node, Lay.d_node (ls := fits _ _ _ _ _)]
      rw [Lay.d_node] at en ⊢
      obtain ⟨y8, y9, y10, y11, y12, l3⟩ := l3 (some (.dat (.tup [.str (nm b), .tup (ptsD ls ss)]))) (some (.dat (.tup (ptsD ls ss)))) (some (.dat (.lst ((lows b ls).map .int)))) (some (.dat (.lst ((zsOf b ls ss w h).map .int))))
      rw [run_fitted]
      unfold e_fitted
      simp only [PV.iBy, en, e_fitted_c1_is, c1, e_fitted_c2_is, c2, an, shok', e_fitted_l3_is, zp, l3, plen, PV.fin, PV.dSeq, PV.dIf, PV.dAsg, PV.dAsgO, PV.dRet, PV.dRetN, PV.dNext, PV.dBreak, PV.dCont, PV.dDrop, PV.dApp, PV.dExt, PV.dSetI, PV.dPop, PV.dAug, PV.dAugI, PV.dFrz, PV.onOwn, PV.gN, PV.gT, PV.gC, PV.gNs, PV.dVar, PV.vVar, PV.dC, PV.dOp, PV.fOp, PV.dNeg, PV.dNot, PV.dAnd, PV.dOr, PV.dIfE, PV.dNil, PV.dCons, PV.dTup, PV.fLst, PV.dLst, PV.dCall, PV.fCall, PV.dTest, PV.tst, PV.dTru, PV.tru, PV.dAndT, PV.dOrT, PV.dNotT, PV.dYes, PV.dChain, PV.dIsi, PV.isi, PV.tyn, PV.dPart, PV.dNoPart, PV.fSl, PV.lItems, PV.iOf, PV.dItems, PV.iBy, PV.sItems, PV.dwipe, PV.bMax2, PV.bMin2, PV.bAbs, PV.bInt, PV.bLen, PV.bTup, PV.bList, PV.dAdd, PV.dSub, PV.dLt, PV.dLe, PV.dGt, PV.dGe, PV.dIsN, PV.dNotN, PV.isNon_non, PV.isNon_int, PV.fAdd, PV.dIx_l, PV.dIx_t, PV.dIx_f, PV.at0, PV.at1, PV.at2, PV.at3, PV.at4, Option.bind_some, Option.map_some, Option.bind_none, Option.map_none, List.getElem?_cons_zero, List.getElem?_cons_succ, List.set_cons_zero, List.set_cons_succ, if_true, if_false, PV.kit_ii, PV.kit_ti, PV.kit_tt, PV.kit_ib, PV.kit_it, PV.kit_ll, PV.kit_li, Bool.not_true, Bool.not_false, Bool.false_eq_true, Bool.not_eq_true, reduceIte, List.length_cons, List.length_nil, Nat.reduceAdd, Nat.zero_add, PV.most_0, PV.most_1, PV.most_2, PV.most_3, PV.most_4, PV.most_5, PV.most_6, PV.most_7, decide_true, decide_false, List.nil_append, List.cons_append]

/-! ## a new pane keeps a layout exact -/
theorem Ex.mono : ∀ {d d' : Nat} {l : Lay} {w h : Int}, Ex d l w h → d ≤ d' → Ex d' l w h := by
  intro d
  induction d with
  | zero => intro d' l w h e _; cases e with | pane n hw hh => exact .pane n hw hh
  | succ d ih =>
    intro d' l w h e hd
    cases e with
    | pane n hw hh => exact .pane n hw hh
    | node hl h2 hs hg =>
      obtain ⟨e', rfl⟩ : ∃ e', d' = e' + 1 := ⟨d' - 1, by omega⟩
      exact .node hl h2 hs fun i hi => ih (hg i hi) (by omega)
def ExL (d : Nat) (b : Bool) (w h : Int) : List Lay → List Int → Prop
  | l :: ls, s :: ss => Ex d l (if b = true then w else s) (if b = true then s else h) ∧ ExL d b w h ls ss
  | [], [] => True
  | _, _ => False
theorem exL_of {d : Nat} {b : Bool} {w h : Int} : ∀ {ls : List Lay} {ss : List Int}, ls.length = ss.length → (∀ (i : Nat) (hi : i < ls.length), Ex d ls[i] (if b = true then w else ss.getD i 0) (if b = true then ss.getD i 0 else h)) → ExL d b w h ls ss
  | [], [], _, _ => trivial
  | [], _ :: _, h, _ => by simp at h
  | _ :: _, [], h, _ => by simp at h
  | l :: ls, s :: ss, hl, hg => by
    have h0 := hg 0 (by simp)
    simp only [List.getElem_cons_zero, List.getD_cons_zero] at h0
    refine ⟨h0, exL_of (by simpa using hl) fun i hi => ?_⟩
    have := hg (i + 1) (by simpa using hi)
    simpa only [List.getElem_cons_succ, List.getD_cons_succ] using this
theorem ExL.at {d : Nat} {b : Bool} {w h : Int} : ∀ {ls : List Lay} {ss : List Int}, ExL d b w h ls ss → ls.length = ss.length ∧ ∀ (i : Nat) (hi : i < ls.length), Ex d ls[i] (if b = true then w else ss.getD i 0) (if b = true then ss.getD i 0 else h)
  | [], [], _ => ⟨rfl, fun i hi => by simp at hi⟩
  | [], _ :: _, h => h.elim
  | _ :: _, [], h => h.elim
  | l :: ls, s :: ss, ⟨h0, h1⟩ => by
    obtain ⟨i1, i2⟩ := ExL.at h1
    refine ⟨by simp [i1], fun i hi => ?_⟩
    cases i with
    | zero => simpa only [List.getElem_cons_zero, List.getD_cons_zero] using h0
    | succ i => simpa only [List.getElem_cons_succ, List.getD_cons_succ] using i2 i (by simpa using hi)
theorem ExL.mono {d d' : Nat} (hd : d ≤ d') {b : Bool} {w h : Int} : ∀ {ls : List Lay} {ss : List Int}, ExL d b w h ls ss → ExL d' b w h ls ss
  | [], [], _ => trivial
  | [], _ :: _, h => h.elim
  | _ :: _, [], h => h.elim
  | _ :: _, _ :: _, ⟨h0, h1⟩ => ⟨h0.mono hd, ExL.mono hd h1⟩
theorem newLS_no {p : Int} {b : Bool} {nw z : Int} {b' : Bool} : ∀ (ls : List Lay) (ss : List Int), ls.length = ss.length → (∀ l ∈ ls, p ∉ l.panes ∧ l.withNew p b nw z = l) → newL p b nw z b' ls = ls ∧ newS p b z b' ls ss = ss
  | [], [], _, _ => ⟨rfl, rfl⟩
  | [], _ :: _, h, _ => by simp at h
  | _ :: _, [], h, _ => by simp at h
  | l :: ls, s :: ss, hl, hn => by
    obtain ⟨h1, h2⟩ := hn l (List.mem_cons_self ..)
    obtain ⟨i1, i2⟩ := newLS_no (p := p) (b := b) (nw := nw) (z := z) (b' := b') ls ss (by simpa using hl) fun k m => hn k (List.mem_cons_of_mem _ m)
    have c : ¬ (isP l p = true ∧ b' = b) := fun c => h1 (isP_panes c.1)
    unfold newL newS
    rw [if_neg c, if_neg c, h2, i1, List.tail_cons, i2]
    exact ⟨rfl, rfl⟩
theorem withNew_no {p : Int} {b : Bool} {nw z : Int} : ∀ {d : Nat} {l : Lay} {w h : Int}, Ex d l w h → p ∉ l.panes → l.withNew p b nw z = l := by
  intro d
  have pane : ∀ n : Int, p ∉ (Lay.pane n).panes → (Lay.pane n).withNew p b nw z = .pane n := fun n hn => by
    have : ¬ n = p := fun e => hn (by simp [Lay.panes, e])
    unfold Lay.withNew
    rw [if_neg this]
  induction d with
  | zero => intro l w h e hn; cases e; exact pane _ hn
  | succ d ih =>
    intro l w h e hn
    cases e with
    | pane n _ _ => exact pane n hn
    | node hl h2 hs hg =>
      rename_i b' ls ss
      rw [Lay.panes_node] at hn
      obtain ⟨i1, i2⟩ := newLS_no (p := p) (b := b) (nw := nw) (z := z) (b' := b') ls ss hl fun l m => by
        have hp : p ∉ l.panes := fun z => hn (List.mem_flatMap.mpr ⟨l, m, z⟩)
        obtain ⟨i, hi, rfl⟩ := List.getElem_of_mem m
        exact ⟨hp, ih (hg i hi) hp⟩
      unfold Lay.withNew
      rw [i1, i2]
theorem roomOf_app {p : Int} {b : Bool} : ∀ (xs ys : List Box), roomOf (xs ++ ys) p b = if p ∈ xs.map Box.p then roomOf xs p b else roomOf ys p b
  | [], ys => by simp
  | x :: xs, ys => by
    have := roomOf_app (p := p) (b := b) xs ys
    simp only [List.cons_append, roomOf, List.map_cons, List.mem_cons]
    by_cases c : x.p = p
    · simp [c]
    · rw [if_neg c, this]
      have e : (p = x.p ∨ p ∈ xs.map Box.p) ↔ p ∈ xs.map Box.p := ⟨fun h => h.resolve_left fun z => c z.symm, .inr⟩
      simp only [e, if_neg c]
theorem Ex.boxP {d : Nat} {l : Lay} {w h : Int} (e : Ex d l w h) (r c w' h' : Int) : (l.boxes r c w' h').map Box.p = l.panes :=
  Lay.boxes_len (e.good (B := max w h) (M := l.panes.length) (Int.le_max_left ..) (Int.le_max_right ..) (Nat.le_refl _)).1 r c w' h'
theorem halves (z : Int) : half1 z + half2 z + 1 = z ∧ half2 z ≤ half1 z := by unfold half1 half2; omega
theorem half_ge {b : Bool} {z : Int} (h : (if b = true then 3 else 5) ≤ z) : (if b = true then 1 else 2) ≤ half2 z := by
  unfold half2
  cases b <;> simp at h ⊢ <;> omega
theorem new_ex {p : Int} {b : Bool} {nw : Int} : ∀ {d : Nat} {l : Lay} {w h : Int}, Ex d l w h → l.panes.Nodup → p ∈ l.panes → ∀ r c z, z = roomOf (l.boxes r c w h) p b → (if b = true then 3 else 5) ≤ z → Ex (d + 1) (l.withNew p b nw z) w h := by
  intro d
  have pane : ∀ (d : Nat) (n w h : Int), 2 ≤ w → 1 ≤ h → p ∈ (Lay.pane n).panes → ∀ r c z, z = roomOf ((Lay.pane n).boxes r c w h) p b → (if b = true then 3 else 5) ≤ z → Ex (d + 1) ((Lay.pane n).withNew p b nw z) w h := fun d n w h hw hh hp r c z hz h3 => by
    have e : n = p := by simpa [Lay.panes, eq_comm] using hp
    subst e
    have z1 : z = if b = true then h else w := by simpa [Lay.boxes, roomOf] using hz
    have hs := halves z
    have hg := half_ge h3
    unfold Lay.withNew
    rw [if_pos rfl]
    refine .node rfl (by simp) ?_ fun i hi => ?_
    · unfold al
      cases b <;> simp at z1 ⊢ <;> omega
    · have : i = 0 ∨ i = 1 := by simp at hi; omega
      rcases this with e | e <;> subst e
      · cases b <;> simp at hg ⊢ <;> exact .pane _ (by omega) (by omega)
      · cases b <;> simp at hg ⊢ <;> exact .pane _ (by omega) (by omega)
  induction d with
  | zero => intro l w h e _ hp r c z hz h3; cases e with | pane n hw hh => exact pane 0 n w h hw hh hp r c z hz h3
  | succ d ih =>
    intro l w h e hno hp r c z hz h3
    cases e with
    | pane n hw hh => exact pane _ n w h hw hh hp r c z hz h3
    | node hl h2 hs hg =>
      rename_i b' ls ss
      rw [Lay.panes_node] at hno hp
      have hh := halves z
      have hge := half_ge h3
      have key : ∀ (ks : List Lay) (ts : List Int) (r c : Int), ExL d b' w h ks ts → (ks.flatMap Lay.panes).Nodup → p ∈ ks.flatMap Lay.panes → z = roomOf (boxess b' ks ts r c w h) p b →
          ExL (d + 1) b' w h (newL p b nw z b' ks) (newS p b z b' ks ts) ∧ (newS p b z b' ks ts).sum + ((newL p b nw z b' ks).length : Int) = ts.sum + (ks.length : Int) := by
        intro ks
        induction ks with
        | nil => intro ts r c _ _ hp; simp at hp
        | cons k ks ihk =>
          intro ts r c he hno hp hz
          cases ts with
          | nil => exact he.elim
          | cons t ts =>
            obtain ⟨e0, e1⟩ := he
            obtain ⟨el, eg⟩ := e1.at
            rw [List.flatMap_cons] at hno hp
            obtain ⟨n1, n2, n3⟩ := List.nodup_append.mp hno
            unfold boxess at hz
            simp only [List.headD_cons, List.tail_cons] at hz
            rw [roomOf_app, e0.boxP] at hz
            by_cases cp : p ∈ k.panes
            · rw [if_pos cp] at hz
              have no : ∀ l ∈ ks, p ∉ l.panes := fun l m y => n3 p cp p (List.mem_flatMap.mpr ⟨l, m, y⟩) rfl
              obtain ⟨f1, f2⟩ := newLS_no (p := p) (b := b) (nw := nw) (z := z) (b' := b') ks ts el fun l m => by
                obtain ⟨i, hi, rfl⟩ := List.getElem_of_mem m
                exact ⟨no _ m, withNew_no (eg i hi) (no _ m)⟩
              by_cases cs : isP k p = true ∧ b' = b
              · obtain ⟨c1, rfl⟩ := cs
                have := isP_of c1
                subst this
                have z1 : z = t := by
                  rw [hz]
                  cases b' <;> simp [Lay.boxes, roomOf]
                unfold newL newS
                rw [if_pos ⟨c1, rfl⟩, if_pos ⟨c1, rfl⟩, List.tail_cons, f1, f2]
                have e0' := e0.pos
                refine ⟨⟨?_, ?_, e1.mono (by omega)⟩, ?_⟩
                · cases b' <;> simp at hge e0' ⊢ <;> exact .pane _ (by omega) (by omega)
                · cases b' <;> simp at hge e0' ⊢ <;> exact .pane _ (by omega) (by omega)
                · simp only [List.sum_cons, List.length_cons]; omega
              · unfold newL newS
                rw [if_neg cs, if_neg cs, List.tail_cons, List.headD_cons, f1, f2]
                exact ⟨⟨ih e0 n1 cp _ _ z hz h3, e1.mono (by omega)⟩, by simp only [List.sum_cons, List.length_cons]⟩
            · rw [if_neg cp] at hz
              have cs : ¬ (isP k p = true ∧ b' = b) := fun y => cp (isP_panes y.1)
              obtain ⟨i1, i2⟩ := ihk ts _ _ e1 n2 ((List.mem_append.mp hp).resolve_left cp) hz
              unfold newL newS
              rw [if_neg cs, if_neg cs, List.tail_cons, List.headD_cons, withNew_no e0 cp]
              exact ⟨⟨e0.mono (by omega), i1⟩, by simp only [List.sum_cons, List.length_cons]; omega⟩
      obtain ⟨k1, k2⟩ := key ls ss r c (exL_of hl hg) hno hp (by rw [hz]; rfl)
      obtain ⟨g1, g2⟩ := k1.at
      have nl := newL_len (p := p) (b := b) (nw := nw) (z := z) (b' := b') ls ss hl
      unfold Lay.withNew
      exact .node g1 (by omega) (by omega) g2

/-! ## the program's boxes -/
def placedD (b : Bool) (w h : Int) : List Lay → List Int → Int → Int → List PV.D
  | [], _, _, _ => []
  | l :: ls, ss, r, c => .tup [l.d, .int r, .int c, .int (if b = true then w else ss.headD 0), .int (if b = true then ss.headD 0 else h)] :: placedD b w h ls ss.tail (if b = true then r + ss.headD 0 + 1 else r) (if b = true then c else c + ss.headD 0 + 1)
theorem placed_len {b : Bool} {w h : Int} : ∀ (ls : List Lay) (ss : List Int) (r c : Int), (placedD b w h ls ss r c).length = ls.length
  | [], _, _, _ => rfl
  | _ :: ls, ss, _, _ => by simp [placedD, placed_len ls]
theorem placed_loop {b : Bool} {x0 x6 : Option PV.DV} {w h : Int} : ∀ (ls : List Lay) (ss : List Int) (r c : Int) (acc : List PV.D) (x8 x9 x10 x11 : Option PV.DV), ls.length = ss.length → acc.length + ls.length ≤ 1000000 →
    ∃ y1 y2 y8 y9 y10 y11, PV.dLoop e_placed_parts_t1 (ptsD ls ss) [x0, some (.dat (.int r)), some (.dat (.int c)), some (.dat (.int w)), some (.dat (.int h)), some (.dat (.str (nm b))), x6, some (.own acc), x8, x9, x10, x11] =
      some (.nx [x0, y1, y2, some (.dat (.int w)), some (.dat (.int h)), some (.dat (.str (nm b))), x6, some (.own (acc ++ placedD b w h ls ss r c)), y8, y9, y10, y11])
  | [], _, r, c, acc, x8, x9, x10, x11, _, _ => ⟨_, _, x8, x9, x10, x11, by simp [ptsD, PV.dLoop, placedD]; exact ⟨rfl, rfl⟩⟩
  | l :: ls, [], _, _, _, _, _, _, _, h, _ => by simp at h
  | l :: ls, s :: ss, r, c, acc, x8, x9, x10, x11, hl, hm => by
    simp only [List.length_cons] at hl hm
    obtain ⟨y1, y2, y8, y9, y10, y11, e⟩ := placed_loop (b := b) (x0 := x0) (x6 := x6) (w := w) (h := h) ls ss (if b = true then r + s + 1 else r) (if b = true then c else c + s + 1) (acc ++ [.tup [l.d, .int r, .int c, .int (if b = true then w else s), .int (if b = true then s else h)]])
      (some (.dat l.d)) (some (.dat (.int s))) (some (.dat (.int (if b = true then w else s)))) (some (.dat (.int (if b = true then s else h)))) (by omega) (by simp; omega)
    refine ⟨y1, y2, y8, y9, y10, y11, ?_⟩
    have k3 : (acc.length < PV.most) = True := PV.lt_most (by omega)
    have hs : ptsD (l :: ls) (s :: ss) = pt l.d s :: ptsD ls ss := rfl
    have hb := dEq_beside b
    have sp := size_of_part_ok b s w h
    rw [hs, PV.dLoop_nx, e]
    · simp [placedD]
    · cases b
      · simp only [Bool.false_eq_true, if_false] at sp ⊢
        simp only [e_placed_parts_t1, e_placed_parts_b1, pt, sp, hb, k3, PV.fin, PV.dSeq, PV.dIf, PV.dAsg, PV.dAsgO, PV.dRet, PV.dRetN, PV.dNext, PV.dBreak, PV.dCont, PV.dDrop, PV.dApp, PV.dExt, PV.dSetI, PV.dPop, PV.dAug, PV.dAugI, PV.dFrz, PV.onOwn, PV.gN, PV.gT, PV.gC, PV.gNs, PV.dVar, PV.vVar, PV.dC, PV.dOp, PV.fOp, PV.dNeg, PV.dNot, PV.dAnd, PV.dOr, PV.dIfE, PV.dNil, PV.dCons, PV.dTup, PV.fLst, PV.dLst, PV.dCall, PV.fCall, PV.dTest, PV.tst, PV.dTru, PV.tru, PV.dAndT, PV.dOrT, PV.dNotT, PV.dYes, PV.dChain, PV.dIsi, PV.isi, PV.tyn, PV.dPart, PV.dNoPart, PV.fSl, PV.lItems, PV.iOf, PV.dItems, PV.iBy, PV.sItems, PV.dwipe, PV.bMax2, PV.bMin2, PV.bAbs, PV.bInt, PV.bLen, PV.bTup, PV.bList, PV.dAdd, PV.dSub, PV.dLt, PV.dLe, PV.dGt, PV.dGe, PV.dIsN, PV.dNotN, PV.isNon_non, PV.isNon_int, PV.fAdd, PV.dIx_l, PV.dIx_t, PV.dIx_f, PV.at0, PV.at1, PV.at2, PV.at3, PV.at4, Option.bind_some, Option.map_some, Option.bind_none, Option.map_none, List.getElem?_cons_zero, List.getElem?_cons_succ, List.set_cons_zero, List.set_cons_succ, if_true, if_false, PV.kit_ii, PV.kit_ti, PV.kit_tt, PV.kit_ib, PV.kit_it, PV.kit_ll, PV.kit_li, Bool.not_true, Bool.not_false, Bool.false_eq_true, Bool.not_eq_true, reduceIte, List.length_cons, List.length_nil, Nat.reduceAdd, Nat.zero_add, PV.most_0, PV.most_1, PV.most_2, PV.most_3, PV.most_4, PV.most_5, PV.most_6, PV.most_7, decide_true, decide_false, List.nil_append, List.cons_append]
        all_goals (simp only [Int.add_assoc])
      · simp only [if_true] at sp ⊢
        simp only [e_placed_parts_t1, e_placed_parts_b1, pt, sp, hb, k3, PV.fin, PV.dSeq, PV.dIf, PV.dAsg, PV.dAsgO, PV.dRet, PV.dRetN, PV.dNext, PV.dBreak, PV.dCont, PV.dDrop, PV.dApp, PV.dExt, PV.dSetI, PV.dPop, PV.dAug, PV.dAugI, PV.dFrz, PV.onOwn, PV.gN, PV.gT, PV.gC, PV.gNs, PV.dVar, PV.vVar, PV.dC, PV.dOp, PV.fOp, PV.dNeg, PV.dNot, PV.dAnd, PV.dOr, PV.dIfE, PV.dNil, PV.dCons, PV.dTup, PV.fLst, PV.dLst, PV.dCall, PV.fCall, PV.dTest, PV.tst, PV.dTru, PV.tru, PV.dAndT, PV.dOrT, PV.dNotT, PV.dYes, PV.dChain, PV.dIsi, PV.isi, PV.tyn, PV.dPart, PV.dNoPart, PV.fSl, PV.lItems, PV.iOf, PV.dItems, PV.iBy, PV.sItems, PV.dwipe, PV.bMax2, PV.bMin2, PV.bAbs, PV.bInt, PV.bLen, PV.bTup, PV.bList, PV.dAdd, PV.dSub, PV.dLt, PV.dLe, PV.dGt, PV.dGe, PV.dIsN, PV.dNotN, PV.isNon_non, PV.isNon_int, PV.fAdd, PV.dIx_l, PV.dIx_t, PV.dIx_f, PV.at0, PV.at1, PV.at2, PV.at3, PV.at4, Option.bind_some, Option.map_some, Option.bind_none, Option.map_none, List.getElem?_cons_zero, List.getElem?_cons_succ, List.set_cons_zero, List.set_cons_succ, if_true, if_false, PV.kit_ii, PV.kit_ti, PV.kit_tt, PV.kit_ib, PV.kit_it, PV.kit_ll, PV.kit_li, Bool.not_true, Bool.not_false, Bool.false_eq_true, Bool.not_eq_true, reduceIte, List.length_cons, List.length_nil, Nat.reduceAdd, Nat.zero_add, PV.most_0, PV.most_1, PV.most_2, PV.most_3, PV.most_4, PV.most_5, PV.most_6, PV.most_7, decide_true, decide_false, List.nil_append, List.cons_append]
        all_goals (simp only [Int.add_assoc])
theorem placed_parts_ok {b : Bool} {ls : List Lay} {ss : List Int} {r c w h : Int} (hl : ls.length = ss.length) (hm : ls.length ≤ 1000000) : f_placed_parts [(Lay.node b ls ss).d, .int r, .int c, .int w, .int h] = some (.lst (placedD b w h ls ss r c)) := by
  obtain ⟨y1, y2, y8, y9, y10, y11, e⟩ := placed_loop (b := b) (x0 := some (.dat (.tup [.str (nm b), .tup (ptsD ls ss)]))) (x6 := some (.dat (.tup (ptsD ls ss)))) (w := w) (h := h) ls ss r c [] none none none none hl (by simpa using hm)
  rw [Lay.d_node]
  rw [run_placed_parts]
  unfold e_placed_parts
  simp only [e_placed_parts_l1_is, e, PV.fin, PV.dSeq, PV.dIf, PV.dAsg, PV.dAsgO, PV.dRet, PV.dRetN, PV.dNext, PV.dBreak, PV.dCont, PV.dDrop, PV.dApp, PV.dExt, PV.dSetI, PV.dPop, PV.dAug, PV.dAugI, PV.dFrz, PV.onOwn, PV.gN, PV.gT, PV.gC, PV.gNs, PV.dVar, PV.vVar, PV.dC, PV.dOp, PV.fOp, PV.dNeg, PV.dNot, PV.dAnd, PV.dOr, PV.dIfE, PV.dNil, PV.dCons, PV.dTup, PV.fLst, PV.dLst, PV.dCall, PV.fCall, PV.dTest, PV.tst, PV.dTru, PV.tru, PV.dAndT, PV.dOrT, PV.dNotT, PV.dYes, PV.dChain, PV.dIsi, PV.isi, PV.tyn, PV.dPart, PV.dNoPart, PV.fSl, PV.lItems, PV.iOf, PV.dItems, PV.iBy, PV.sItems, PV.dwipe, PV.bMax2, PV.bMin2, PV.bAbs, PV.bInt, PV.bLen, PV.bTup, PV.bList, PV.dAdd, PV.dSub, PV.dLt, PV.dLe, PV.dGt, PV.dGe, PV.dIsN, PV.dNotN, PV.isNon_non, PV.isNon_int, PV.fAdd, PV.dIx_l, PV.dIx_t, PV.dIx_f, PV.at0, PV.at1, PV.at2, PV.at3, PV.at4, Option.bind_some, Option.map_some, Option.bind_none, Option.map_none, List.getElem?_cons_zero, List.getElem?_cons_succ, List.set_cons_zero, List.set_cons_succ, if_true, if_false, PV.kit_ii, PV.kit_ti, PV.kit_tt, PV.kit_ib, PV.kit_it, PV.kit_ll, PV.kit_li, Bool.not_true, Bool.not_false, Bool.false_eq_true, Bool.not_eq_true, reduceIte, List.length_cons, List.length_nil, Nat.reduceAdd, Nat.zero_add, PV.most_0, PV.most_1, PV.most_2, PV.most_3, PV.most_4, PV.most_5, PV.most_6, PV.most_7, decide_true, decide_false, List.nil_append, List.cons_append]
theorem boxes_loop {n : Nat} {b : Bool} {x0 x1 x2 x3 x4 : Option PV.DV} {w h : Int} : ∀ (ls : List Lay) (ss : List Int) (r c : Int) (acc : List Box) (x6 x7 x8 x9 x10 : Option PV.DV), acc.length + (ls.flatMap Lay.panes).length ≤ 1000000 →
    (∀ l ∈ ls, ∀ r c w h : Int, f_boxes_at n [l.d, .int r, .int c, .int w, .int h] = some (.lst ((l.boxes r c w h).map Box.d)) ∧ (l.boxes r c w h).length = l.panes.length) →
    ∃ y6 y7 y8 y9 y10, PV.dLoop (e_boxes_at_t1 (f_boxes_at n)) (placedD b w h ls ss r c) [x0, x1, x2, x3, x4, some (.own (acc.map Box.d)), x6, x7, x8, x9, x10] =
      some (.nx [x0, x1, x2, x3, x4, some (.own ((acc ++ boxess b ls ss r c w h).map Box.d)), y6, y7, y8, y9, y10])
  | [], _, r, c, acc, x6, x7, x8, x9, x10, _, _ => ⟨x6, x7, x8, x9, x10, by simp [placedD, PV.dLoop, boxess]⟩
  | l :: ls, ss, r, c, acc, x6, x7, x8, x9, x10, hm, hr => by
    rw [List.flatMap_cons, List.length_append] at hm
    obtain ⟨e1, e2⟩ := hr l (List.mem_cons_self ..) r c (if b = true then w else ss.headD 0) (if b = true then ss.headD 0 else h)
    obtain ⟨y6, y7, y8, y9, y10, e⟩ := boxes_loop (b := b) (x0 := x0) (x1 := x1) (x2 := x2) (x3 := x3) (x4 := x4) (w := w) (h := h) ls ss.tail (if b = true then r + ss.headD 0 + 1 else r) (if b = true then c else c + ss.headD 0 + 1) (acc ++ l.boxes r c (if b = true then w else ss.headD 0) (if b = true then ss.headD 0 else h))
      (some (.dat l.d)) (some (.dat (.int r))) (some (.dat (.int c))) (some (.dat (.int (if b = true then w else ss.headD 0)))) (some (.dat (.int (if b = true then ss.headD 0 else h)))) (by rw [List.length_append, e2]; omega) fun l m => hr l (List.mem_cons_of_mem _ m)
    refine ⟨y6, y7, y8, y9, y10, ?_⟩
    have k3 : ((acc.map Box.d).length + ((l.boxes r c (if b = true then w else ss.headD 0) (if b = true then ss.headD 0 else h)).map Box.d).length ≤ PV.most) = True := PV.le_most (by rw [List.length_map, List.length_map, e2]; omega)
    rw [placedD, PV.dLoop_nx, e]
    · simp [boxess]
    · simp only [e_boxes_at_t1, e_boxes_at_b1, e1, k3, PV.fin, PV.dSeq, PV.dIf, PV.dAsg, PV.dAsgO, PV.dRet, PV.dRetN, PV.dNext, PV.dBreak, PV.dCont, PV.dDrop, PV.dApp, PV.dExt, PV.dSetI, PV.dPop, PV.dAug, PV.dAugI, PV.dFrz, PV.onOwn, PV.gN, PV.gT, PV.gC, PV.gNs, PV.dVar, PV.vVar, PV.dC, PV.dOp, PV.fOp, PV.dNeg, PV.dNot, PV.dAnd, PV.dOr, PV.dIfE, PV.dNil, PV.dCons, PV.dTup, PV.fLst, PV.dLst, PV.dCall, PV.fCall, PV.dTest, PV.tst, PV.dTru, PV.tru, PV.dAndT, PV.dOrT, PV.dNotT, PV.dYes, PV.dChain, PV.dIsi, PV.isi, PV.tyn, PV.dPart, PV.dNoPart, PV.fSl, PV.lItems, PV.iOf, PV.dItems, PV.iBy, PV.sItems, PV.dwipe, PV.bMax2, PV.bMin2, PV.bAbs, PV.bInt, PV.bLen, PV.bTup, PV.bList, PV.dAdd, PV.dSub, PV.dLt, PV.dLe, PV.dGt, PV.dGe, PV.dIsN, PV.dNotN, PV.isNon_non, PV.isNon_int, PV.fAdd, PV.dIx_l, PV.dIx_t, PV.dIx_f, PV.at0, PV.at1, PV.at2, PV.at3, PV.at4, Option.bind_some, Option.map_some, Option.bind_none, Option.map_none, List.getElem?_cons_zero, List.getElem?_cons_succ, List.set_cons_zero, List.set_cons_succ, if_true, if_false, PV.kit_ii, PV.kit_ti, PV.kit_tt, PV.kit_ib, PV.kit_it, PV.kit_ll, PV.kit_li, Bool.not_true, Bool.not_false, Bool.false_eq_true, Bool.not_eq_true, reduceIte, List.length_cons, List.length_nil, Nat.reduceAdd, Nat.zero_add, PV.most_0, PV.most_1, PV.most_2, PV.most_3, PV.most_4, PV.most_5, PV.most_6, PV.most_7, decide_true, decide_false, List.nil_append, List.cons_append]
      simp
theorem boxes_at_ok {B : Int} {M : Nat} : ∀ (d : Nat) {l : Lay}, Good B M d l → l.panes.length ≤ 1000000 → ∀ n, d < n → ∀ r c w h : Int, f_boxes_at n [l.d, .int r, .int c, .int w, .int h] = some (.lst ((l.boxes r c w h).map Box.d)) := by
  intro d
  induction d with
  | zero =>
    intro l g _ n hn r c w h
    obtain ⟨m, rfl⟩ : ∃ m, n = m + 1 := ⟨n - 1, by omega⟩
    cases g
    rfl
  | succ d ih =>
    intro l g hp n hn r c w h
    obtain ⟨m, rfl⟩ : ∃ m, n = m + 1 := ⟨n - 1, by omega⟩
    have gg := g
    cases g with
    | pane k => rfl
    | node hl h2 hm hs hg =>
      rename_i b ls ss
      rw [Lay.panes_node] at hp
      have hk : ∀ l ∈ ls, 0 < l.panes.length := fun l m => (hg l m).least.2.2.1
      have hlen := lays_len ls hk
      obtain ⟨y6, y7, y8, y9, y10, e⟩ := boxes_loop (n := m) (b := b) (x0 := some (.dat (.tup [.str (nm b), .tup (ptsD ls ss)]))) (x1 := some (.dat (.int r))) (x2 := some (.dat (.int c))) (x3 := some (.dat (.int w))) (x4 := some (.dat (.int h))) (w := w) (h := h) ls ss r c [] none none none none none (by simpa using hp) fun l ml r c w h =>
        ⟨ih (hg l ml) (Nat.le_trans (panes_sub ml) hp) m (by omega) r c w h, by rw [← List.length_map (f := Box.p), Lay.boxes_len (hg l ml)]⟩
      have pp := placed_parts_ok (b := b) (ls := ls) (ss := ss) (r := r) (c := c) (w := w) (h := h) hl (by omega)
      rw [Lay.d_node] at pp ⊢
      rw [run_boxes_at]
      unfold e_boxes_at
      simp only [List.map_nil, List.nil_append] at e
      simp only [e_boxes_at_l1_is, pp, e, Lay.boxes, PV.fin, PV.dSeq, PV.dIf, PV.dAsg, PV.dAsgO, PV.dRet, PV.dRetN, PV.dNext, PV.dBreak, PV.dCont, PV.dDrop, PV.dApp, PV.dExt, PV.dSetI, PV.dPop, PV.dAug, PV.dAugI, PV.dFrz, PV.onOwn, PV.gN, PV.gT, PV.gC, PV.gNs, PV.dVar, PV.vVar, PV.dC, PV.dOp, PV.fOp, PV.dNeg, PV.dNot, PV.dAnd, PV.dOr, PV.dIfE, PV.dNil, PV.dCons, PV.dTup, PV.fLst, PV.dLst, PV.dCall, PV.fCall, PV.dTest, PV.tst, PV.dTru, PV.tru, PV.dAndT, PV.dOrT, PV.dNotT, PV.dYes, PV.dChain, PV.dIsi, PV.isi, PV.tyn, PV.dPart, PV.dNoPart, PV.fSl, PV.lItems, PV.iOf, PV.dItems, PV.iBy, PV.sItems, PV.dwipe, PV.bMax2, PV.bMin2, PV.bAbs, PV.bInt, PV.bLen, PV.bTup, PV.bList, PV.dAdd, PV.dSub, PV.dLt, PV.dLe, PV.dGt, PV.dGe, PV.dIsN, PV.dNotN, PV.isNon_non, PV.isNon_int, PV.fAdd, PV.dIx_l, PV.dIx_t, PV.dIx_f, PV.at0, PV.at1, PV.at2, PV.at3, PV.at4, Option.bind_some, Option.map_some, Option.bind_none, Option.map_none, List.getElem?_cons_zero, List.getElem?_cons_succ, List.set_cons_zero, List.set_cons_succ, if_true, if_false, PV.kit_ii, PV.kit_ti, PV.kit_tt, PV.kit_ib, PV.kit_it, PV.kit_ll, PV.kit_li, Bool.not_true, Bool.not_false, Bool.false_eq_true, Bool.not_eq_true, reduceIte, List.length_cons, List.length_nil, Nat.reduceAdd, Nat.zero_add, PV.most_0, PV.most_1, PV.most_2, PV.most_3, PV.most_4, PV.most_5, PV.most_6, PV.most_7, decide_true, decide_false, List.nil_append, List.cons_append]
theorem boxes_ok {B : Int} {M d : Nat} {l : Lay} (g : Good B M d l) (hB : B ≤ 1000000000) (hM : M ≤ 100000) (hp : l.panes.length ≤ M) (hd : d < 24) {w h : Int} (hw : w ≤ 900000000) (hh : h ≤ 900000000) :
    f_boxes [l.d, .int w, .int h] = some (.lst ((l.allBoxes w h).map Box.d)) := by
  have en := enough_ok hM g hd w h
  have ft := fitted_ok hB hM d g (by omega) hd 24 hd w h hw hh
  have gl := g.least
  have ex := fit_ex g w h
  have fg := (ex.good (B := 1000000000) (M := M) (by unfold Lay.W; omega) (by unfold Lay.H; omega) (by rw [fit_panes g]; exact hp)).1
  have bx := boxes_at_ok d fg (by rw [fit_panes g]; omega) 24 hd 0 0 (l.W w) (l.H h)
  rw [run_boxes]
  unfold e_boxes
  simp only [en, ft, bx, PV.fin, PV.dSeq, PV.dIf, PV.dAsg, PV.dAsgO, PV.dRet, PV.dRetN, PV.dNext, PV.dBreak, PV.dCont, PV.dDrop, PV.dApp, PV.dExt, PV.dSetI, PV.dPop, PV.dAug, PV.dAugI, PV.dFrz, PV.onOwn, PV.gN, PV.gT, PV.gC, PV.gNs, PV.dVar, PV.vVar, PV.dC, PV.dOp, PV.fOp, PV.dNeg, PV.dNot, PV.dAnd, PV.dOr, PV.dIfE, PV.dNil, PV.dCons, PV.dTup, PV.fLst, PV.dLst, PV.dCall, PV.fCall, PV.dTest, PV.tst, PV.dTru, PV.tru, PV.dAndT, PV.dOrT, PV.dNotT, PV.dYes, PV.dChain, PV.dIsi, PV.isi, PV.tyn, PV.dPart, PV.dNoPart, PV.fSl, PV.lItems, PV.iOf, PV.dItems, PV.iBy, PV.sItems, PV.dwipe, PV.bMax2, PV.bMin2, PV.bAbs, PV.bInt, PV.bLen, PV.bTup, PV.bList, PV.dAdd, PV.dSub, PV.dLt, PV.dLe, PV.dGt, PV.dGe, PV.dIsN, PV.dNotN, PV.isNon_non, PV.isNon_int, PV.fAdd, PV.dIx_l, PV.dIx_t, PV.dIx_f, PV.at0, PV.at1, PV.at2, PV.at3, PV.at4, Option.bind_some, Option.map_some, Option.bind_none, Option.map_none, List.getElem?_cons_zero, List.getElem?_cons_succ, List.set_cons_zero, List.set_cons_succ, if_true, if_false, PV.kit_ii, PV.kit_ti, PV.kit_tt, PV.kit_ib, PV.kit_it, PV.kit_ll, PV.kit_li, Bool.not_true, Bool.not_false, Bool.false_eq_true, Bool.not_eq_true, reduceIte, List.length_cons, List.length_nil, Nat.reduceAdd, Nat.zero_add, PV.most_0, PV.most_1, PV.most_2, PV.most_3, PV.most_4, PV.most_5, PV.most_6, PV.most_7, decide_true, decide_false, List.nil_append, List.cons_append]
  rfl

/-! ## the program splits a pane -/
theorem newL_ge {p : Int} {b : Bool} {nw z : Int} {b' : Bool} (f : Int × Int → Int) (f0 : 0 ≤ f (2, 1)) : ∀ (ls : List Lay), (∀ l ∈ ls, f l.least ≤ f (l.withNew p b nw z).least) →
    ((ls.map Lay.least).map f).sum + (ls.length : Int) ≤ (((newL p b nw z b' ls).map Lay.least).map f).sum + ((newL p b nw z b' ls).length : Int) ∧ (∀ y ∈ (ls.map Lay.least).map f, ∃ y' ∈ ((newL p b nw z b' ls).map Lay.least).map f, y ≤ y')
  | [], _ => ⟨Int.le_refl _, fun y m => by simp at m⟩
  | l :: ls, h => by
    obtain ⟨i1, i2⟩ := newL_ge (p := p) (b := b) (nw := nw) (z := z) (b' := b') f f0 ls fun k m => h k (List.mem_cons_of_mem _ m)
    have h0 := h l (List.mem_cons_self ..)
    unfold newL
    by_cases c : isP l p = true ∧ b' = b
    · rw [if_pos c]
      have := isP_of c.1
      subst this
      refine ⟨?_, fun y m => ?_⟩
      · simp only [List.map_cons, List.sum_cons, List.length_cons, Lay.least]; omega
      · simp only [List.map_cons, List.mem_cons] at m ⊢
        rcases m with m | m
        · exact ⟨y, .inl m, Int.le_refl _⟩
        · obtain ⟨y', m', hy⟩ := i2 y m
          exact ⟨y', .inr (.inr m'), hy⟩
    · rw [if_neg c]
      refine ⟨?_, fun y m => ?_⟩
      · simp only [List.map_cons, List.sum_cons, List.length_cons]; omega
      · simp only [List.map_cons, List.mem_cons] at m ⊢
        rcases m with m | m
        · exact ⟨_, .inl rfl, by rw [m]; exact h0⟩
        · obtain ⟨y', m', hy⟩ := i2 y m
          exact ⟨y', .inr m', hy⟩
theorem lmax_le {xs ys : List Int} (hx : xs ≠ []) (h : ∀ y ∈ xs, ∃ y' ∈ ys, y ≤ y') : PV.lmax xs ≤ PV.lmax ys := by
  obtain ⟨y', m, hy⟩ := h _ (lmax_mem hx)
  exact Int.le_trans hy (lmax_ge _ m)
theorem withNew_least {B : Int} {M : Nat} {p : Int} {b : Bool} {nw z : Int} : ∀ {d : Nat} {l : Lay}, Good B M d l → l.least.1 ≤ (l.withNew p b nw z).least.1 ∧ l.least.2 ≤ (l.withNew p b nw z).least.2 := by
  intro d
  have pane : ∀ n : Int, (Lay.pane n).least.1 ≤ ((Lay.pane n).withNew p b nw z).least.1 ∧ (Lay.pane n).least.2 ≤ ((Lay.pane n).withNew p b nw z).least.2 := fun n => by
    unfold Lay.withNew
    by_cases c : n = p
    · rw [if_pos c]
      cases b <;> simp [Lay.least, leasts, comb, PV.lmax]
    · rw [if_neg c]; exact ⟨Int.le_refl _, Int.le_refl _⟩
  induction d with
  | zero => intro l g; cases g; exact pane _
  | succ d ih =>
    intro l g
    cases g with
    | pane n => exact pane n
    | node hl h2 hm hs hg =>
      rename_i b' ls ss
      have ne : ls ≠ [] := fun z => by rw [z] at h2; simp at h2
      obtain ⟨s1, m1⟩ := newL_ge (p := p) (b := b) (nw := nw) (z := z) (b' := b') (·.1) (by decide) ls fun l m => (ih (hg l m)).1
      obtain ⟨s2, m2⟩ := newL_ge (p := p) (b := b) (nw := nw) (z := z) (b' := b') (·.2) (by decide) ls fun l m => (ih (hg l m)).2
      have l1 := lmax_le (by simp [ne]) m1
      have l2 := lmax_le (by simp [ne]) m2
      unfold Lay.withNew
      rw [Lay.least_node, Lay.least_node]
      unfold comb
      split
      · exact ⟨l1, by simp only [List.length_map]; omega⟩
      · exact ⟨by simp only [List.length_map]; omega, l2⟩
theorem divided_is {k : Nat} {l : Lay} (g : Stg k l) (hk : k ≤ 14) (hno : l.panes.Nodup) {w h : Int} (hw : w ≤ 1000) (hh : h ≤ 1000) {p : Int} (hp : p ∈ l.panes) (b : Bool) (nw : Int) :
    l.divided w h p b nw = if l.room w h p b < (if b = true then 3 else 5) then none else some ((l.fit w h).withNew p b nw (l.room w h p b)) := by
  unfold Lay.divided
  by_cases c : l.room w h p b < (if b = true then 3 else 5)
  · rw [if_pos c, if_pos c]
  · rw [if_neg c, if_neg c]
    have fs := fit_stg g.1 (Nat.le_refl _) g.2 (by omega) hw hh
    have fp : (l.fit w h).panes = l.panes := fit_panes g.1 w h
    have e := new_ex (p := p) (b := b) (nw := nw) (g.fitEx w h) (by rw [fp]; exact hno) (by rw [fp]; exact hp) 0 0 (l.room w h p b) rfl (by omega)
    have ge := withNew_least (p := p) (b := b) (nw := nw) (z := l.room w h p b) fs.1
    have el := e.least
    have fl := fit_least g.1 w h
    rw [fl] at ge
    have eW : ((l.fit w h).withNew p b nw (l.room w h p b)).W w = l.W w := by unfold Lay.W at el ⊢; omega
    have eH : ((l.fit w h).withNew p b nw (l.room w h p b)).H h = l.H h := by unfold Lay.H at el ⊢; omega
    rw [← Lay.fit_WH, eW, eH, e.fit]
theorem head_filter {p : Int} {b : Bool} : ∀ {bs : List Box}, p ∈ bs.map Box.p → ((bs.filter fun x => decide (x.p = p)).map fun x => PV.D.int (if b = true then x.h else x.w))[0]? = some (.int (roomOf bs p b))
  | [], h => by simp at h
  | x :: bs, h => by
    unfold roomOf
    by_cases c : x.p = p
    · simp [c]
    · have := head_filter (p := p) (b := b) (bs := bs) (by
        simp only [List.map_cons, List.mem_cons] at h
        exact h.resolve_left fun z => c z.symm)
      rw [if_neg c, ← this]
      simp [c]
theorem size_of_pane_c1 {p : Int} {b : Bool} {bs : List Box} (hl : bs.length ≤ 1000000) (x0 x1 x2 x5 x6 : Option PV.DV) :
    PV.dComp (e_size_of_pane_s1 [x0, x1, x2, some (.dat (.int p)), some (.dat (.str (nm b))), x5, x6]) (bs.map Box.d) [] = some ((bs.filter fun x => decide (x.p = p)).map fun x => PV.D.int (if b = true then x.h else x.w)) := by
  rw [PV.dComp_filter (p := fun d => match d with | .tup (.int q :: _) => decide (q = p) | _ => false) (f := fun d => match d with | .tup [_, _, _, .int w, .int h] => .int (if b = true then h else w) | _ => .non) _ _ (fun d hd => ?_) (by unfold PV.most; simp; omega)]
  · rw [List.filter_map, List.map_map]
    simp only [List.nil_append]
    rfl
  · obtain ⟨x, hx, rfl⟩ := List.mem_map.mp hd
    have hq := PV.dEq_int (i := x.p) (j := p)
    have al := along_ok b (.int x.w) (.int x.h)
    by_cases c : x.p = p
    · rw [decide_eq_true c] at hq
      simp only [e_size_of_pane_s1, PV.cStep, Box.d, hq, al, PV.fin, PV.dSeq, PV.dIf, PV.dAsg, PV.dAsgO, PV.dRet, PV.dRetN, PV.dNext, PV.dBreak, PV.dCont, PV.dDrop, PV.dApp, PV.dExt, PV.dSetI, PV.dPop, PV.dAug, PV.dAugI, PV.dFrz, PV.onOwn, PV.gN, PV.gT, PV.gC, PV.gNs, PV.dVar, PV.vVar, PV.dC, PV.dOp, PV.fOp, PV.dNeg, PV.dNot, PV.dAnd, PV.dOr, PV.dIfE, PV.dNil, PV.dCons, PV.dTup, PV.fLst, PV.dLst, PV.dCall, PV.fCall, PV.dTest, PV.tst, PV.dTru, PV.tru, PV.dAndT, PV.dOrT, PV.dNotT, PV.dYes, PV.dChain, PV.dIsi, PV.isi, PV.tyn, PV.dPart, PV.dNoPart, PV.fSl, PV.lItems, PV.iOf, PV.dItems, PV.iBy, PV.sItems, PV.dwipe, PV.bMax2, PV.bMin2, PV.bAbs, PV.bInt, PV.bLen, PV.bTup, PV.bList, PV.dAdd, PV.dSub, PV.dLt, PV.dLe, PV.dGt, PV.dGe, PV.dIsN, PV.dNotN, PV.isNon_non, PV.isNon_int, PV.fAdd, PV.dIx_l, PV.dIx_t, PV.dIx_f, PV.at0, PV.at1, PV.at2, PV.at3, PV.at4, Option.bind_some, Option.map_some, Option.bind_none, Option.map_none, List.getElem?_cons_zero, List.getElem?_cons_succ, List.set_cons_zero, List.set_cons_succ, if_true, if_false, PV.kit_ii, PV.kit_ti, PV.kit_tt, PV.kit_ib, PV.kit_it, PV.kit_ll, PV.kit_li, Bool.not_true, Bool.not_false, Bool.false_eq_true, Bool.not_eq_true, reduceIte, List.length_cons, List.length_nil, Nat.reduceAdd, Nat.zero_add, PV.most_0, PV.most_1, PV.most_2, PV.most_3, PV.most_4, PV.most_5, PV.most_6, PV.most_7, decide_true, decide_false, List.nil_append, List.cons_append]
      cases b <;> simp [c]
    · rw [decide_eq_false c] at hq
      simp only [e_size_of_pane_s1, PV.cStep, Box.d, hq, PV.fin, PV.dSeq, PV.dIf, PV.dAsg, PV.dAsgO, PV.dRet, PV.dRetN, PV.dNext, PV.dBreak, PV.dCont, PV.dDrop, PV.dApp, PV.dExt, PV.dSetI, PV.dPop, PV.dAug, PV.dAugI, PV.dFrz, PV.onOwn, PV.gN, PV.gT, PV.gC, PV.gNs, PV.dVar, PV.vVar, PV.dC, PV.dOp, PV.fOp, PV.dNeg, PV.dNot, PV.dAnd, PV.dOr, PV.dIfE, PV.dNil, PV.dCons, PV.dTup, PV.fLst, PV.dLst, PV.dCall, PV.fCall, PV.dTest, PV.tst, PV.dTru, PV.tru, PV.dAndT, PV.dOrT, PV.dNotT, PV.dYes, PV.dChain, PV.dIsi, PV.isi, PV.tyn, PV.dPart, PV.dNoPart, PV.fSl, PV.lItems, PV.iOf, PV.dItems, PV.iBy, PV.sItems, PV.dwipe, PV.bMax2, PV.bMin2, PV.bAbs, PV.bInt, PV.bLen, PV.bTup, PV.bList, PV.dAdd, PV.dSub, PV.dLt, PV.dLe, PV.dGt, PV.dGe, PV.dIsN, PV.dNotN, PV.isNon_non, PV.isNon_int, PV.fAdd, PV.dIx_l, PV.dIx_t, PV.dIx_f, PV.at0, PV.at1, PV.at2, PV.at3, PV.at4, Option.bind_some, Option.map_some, Option.bind_none, Option.map_none, List.getElem?_cons_zero, List.getElem?_cons_succ, List.set_cons_zero, List.set_cons_succ, if_true, if_false, PV.kit_ii, PV.kit_ti, PV.kit_tt, PV.kit_ib, PV.kit_it, PV.kit_ll, PV.kit_li, Bool.not_true, Bool.not_false, Bool.false_eq_true, Bool.not_eq_true, reduceIte, List.length_cons, List.length_nil, Nat.reduceAdd, Nat.zero_add, PV.most_0, PV.most_1, PV.most_2, PV.most_3, PV.most_4, PV.most_5, PV.most_6, PV.most_7, decide_true, decide_false, List.nil_append, List.cons_append]
      simp [c]
theorem size_of_pane_ok {k : Nat} {l : Lay} (g : Stg k l) (hk : k ≤ 15) {w h : Int} (hw : w ≤ 1000) (hh : h ≤ 1000) {p : Int} (hp : p ∈ l.panes) (b : Bool) :
    f_size_of_pane [l.d, .int w, .int h, .int p, .str (nm b)] = some (.int (l.room w h p b)) := by
  have p2 := two_pow hk
  have hpp := g.2
  have bx := boxes_ok g.1 (by decide) (by omega) g.2 (by omega) (w := w) (h := h) (by omega) (by omega)
  have bp : (l.allBoxes w h).map Box.p = l.panes := by
    have fp : (l.fit w h).panes = l.panes := fit_panes g.1 w h
    rw [← fp]
    exact (g.fitEx w h).boxP _ _ _ _
  have bl : (l.allBoxes w h).length = l.panes.length := by rw [← bp, List.length_map]
  have c1 := size_of_pane_c1 (p := p) (b := b) (bs := l.allBoxes w h) (by omega)
  have hd := head_filter (p := p) (b := b) (bs := l.allBoxes w h) (by rw [bp]; exact hp)
  have a0 : atI ((l.allBoxes w h |>.filter fun x => decide (x.p = p)).map fun x => PV.D.int (if b = true then x.h else x.w)) 0 = some (.int (roomOf (l.allBoxes w h) p b)) := PV.atI_of (Int.le_refl _) hd
  rw [run_size_of_pane]
  unfold e_size_of_pane Lay.room
  simp only [e_size_of_pane_c1_is, bx, c1, a0, PV.fin, PV.dSeq, PV.dIf, PV.dAsg, PV.dAsgO, PV.dRet, PV.dRetN, PV.dNext, PV.dBreak, PV.dCont, PV.dDrop, PV.dApp, PV.dExt, PV.dSetI, PV.dPop, PV.dAug, PV.dAugI, PV.dFrz, PV.onOwn, PV.gN, PV.gT, PV.gC, PV.gNs, PV.dVar, PV.vVar, PV.dC, PV.dOp, PV.fOp, PV.dNeg, PV.dNot, PV.dAnd, PV.dOr, PV.dIfE, PV.dNil, PV.dCons, PV.dTup, PV.fLst, PV.dLst, PV.dCall, PV.fCall, PV.dTest, PV.tst, PV.dTru, PV.tru, PV.dAndT, PV.dOrT, PV.dNotT, PV.dYes, PV.dChain, PV.dIsi, PV.isi, PV.tyn, PV.dPart, PV.dNoPart, PV.fSl, PV.lItems, PV.iOf, PV.dItems, PV.iBy, PV.sItems, PV.dwipe, PV.bMax2, PV.bMin2, PV.bAbs, PV.bInt, PV.bLen, PV.bTup, PV.bList, PV.dAdd, PV.dSub, PV.dLt, PV.dLe, PV.dGt, PV.dGe, PV.dIsN, PV.dNotN, PV.isNon_non, PV.isNon_int, PV.fAdd, PV.dIx_l, PV.dIx_t, PV.dIx_f, PV.at0, PV.at1, PV.at2, PV.at3, PV.at4, Option.bind_some, Option.map_some, Option.bind_none, Option.map_none, List.getElem?_cons_zero, List.getElem?_cons_succ, List.set_cons_zero, List.set_cons_succ, if_true, if_false, PV.kit_ii, PV.kit_ti, PV.kit_tt, PV.kit_ib, PV.kit_it, PV.kit_ll, PV.kit_li, Bool.not_true, Bool.not_false, Bool.false_eq_true, Bool.not_eq_true, reduceIte, List.length_cons, List.length_nil, Nat.reduceAdd, Nat.zero_add, PV.most_0, PV.most_1, PV.most_2, PV.most_3, PV.most_4, PV.most_5, PV.most_6, PV.most_7, decide_true, decide_false, List.nil_append, List.cons_append]
theorem replaced_loop {n : Nat} {p nw z : Int} {b b' : Bool} {x0 x5 : Option PV.DV} : ∀ (ls : List Lay) (ss : List Int) (acc : List PV.D) (x7 x8 : Option PV.DV), ls.length = ss.length → acc.length + 2 * ls.length ≤ 1000000 →
    (∀ l ∈ ls, l.d.Fine ∧ f_replaced n [l.d, .str (nm b), pairD p nw z] = some (l.withNew p b nw z).d) →
    ∃ y7 y8, PV.dLoop (e_replaced_t1 (f_replaced n)) (ptsD ls ss) [x0, some (.dat (.str (nm b))), some (.dat (pairD p nw z)), some (.dat (.int p)), some (.dat (.str (nm b'))), x5, some (.own acc), x7, x8] =
      some (.nx [x0, some (.dat (.str (nm b))), some (.dat (pairD p nw z)), some (.dat (.int p)), some (.dat (.str (nm b'))), x5, some (.own (acc ++ ptsD (newL p b nw z b' ls) (newS p b z b' ls ss))), y7, y8])
  | [], _, acc, x7, x8, _, _, _ => ⟨x7, x8, by simp [ptsD, PV.dLoop, newL]⟩
  | l :: ls, [], _, _, _, h, _, _ => by simp at h
  | l :: ls, s :: ss, acc, x7, x8, hl, hm, hr => by
    simp only [List.length_cons] at hl hm
    obtain ⟨fl, r⟩ := hr l (List.mem_cons_self ..)
    have hs : ptsD (l :: ls) (s :: ss) = pt l.d s :: ptsD ls ss := rfl
    have hq := dEq_isP (p := p) fl
    have hb := dEq_nm b b'
    by_cases c : isP l p = true ∧ b' = b
    · obtain ⟨y7, y8, e⟩ := replaced_loop (x0 := x0) (x5 := x5) (z := z) (b := b) (b' := b') ls ss (acc ++ [.tup [.int p, .int (half1 z)], .tup [.int nw, .int (half2 z)]]) (some (.dat l.d)) (some (.dat (.int s))) (by omega) (by rw [List.length_append]; simp; omega) fun l m => hr l (List.mem_cons_of_mem _ m)
      refine ⟨y7, y8, ?_⟩
      rw [c.1] at hq
      rw [decide_eq_true c.2] at hb
      have k3 : (acc.length + 2 ≤ PV.most) = True := PV.le_most (by omega)
      rw [hs, PV.dLoop_nx, e]
      · have e1 : newL p b nw z b' (l :: ls) = .pane p :: .pane nw :: newL p b nw z b' ls := by rw [newL, if_pos c]
        have e2 : newS p b z b' (l :: ls) (s :: ss) = half1 z :: half2 z :: newS p b z b' ls ss := by rw [newS, if_pos c]; rfl
        rw [e1, e2]
        simp [ptsD, pt, Lay.d]
      · simp only [e_replaced_t1, e_replaced_b1, pt, hb, hq, pairD, k3, PV.fin, PV.dSeq, PV.dIf, PV.dAsg, PV.dAsgO, PV.dRet, PV.dRetN, PV.dNext, PV.dBreak, PV.dCont, PV.dDrop, PV.dApp, PV.dExt, PV.dSetI, PV.dPop, PV.dAug, PV.dAugI, PV.dFrz, PV.onOwn, PV.gN, PV.gT, PV.gC, PV.gNs, PV.dVar, PV.vVar, PV.dC, PV.dOp, PV.fOp, PV.dNeg, PV.dNot, PV.dAnd, PV.dOr, PV.dIfE, PV.dNil, PV.dCons, PV.dTup, PV.fLst, PV.dLst, PV.dCall, PV.fCall, PV.dTest, PV.tst, PV.dTru, PV.tru, PV.dAndT, PV.dOrT, PV.dNotT, PV.dYes, PV.dChain, PV.dIsi, PV.isi, PV.tyn, PV.dPart, PV.dNoPart, PV.fSl, PV.lItems, PV.iOf, PV.dItems, PV.iBy, PV.sItems, PV.dwipe, PV.bMax2, PV.bMin2, PV.bAbs, PV.bInt, PV.bLen, PV.bTup, PV.bList, PV.dAdd, PV.dSub, PV.dLt, PV.dLe, PV.dGt, PV.dGe, PV.dIsN, PV.dNotN, PV.isNon_non, PV.isNon_int, PV.fAdd, PV.dIx_l, PV.dIx_t, PV.dIx_f, PV.at0, PV.at1, PV.at2, PV.at3, PV.at4, Option.bind_some, Option.map_some, Option.bind_none, Option.map_none, List.getElem?_cons_zero, List.getElem?_cons_succ, List.set_cons_zero, List.set_cons_succ, if_true, if_false, PV.kit_ii, PV.kit_ti, PV.kit_tt, PV.kit_ib, PV.kit_it, PV.kit_ll, PV.kit_li, Bool.not_true, Bool.not_false, Bool.false_eq_true, Bool.not_eq_true, reduceIte, List.length_cons, List.length_nil, Nat.reduceAdd, Nat.zero_add, PV.most_0, PV.most_1, PV.most_2, PV.most_3, PV.most_4, PV.most_5, PV.most_6, PV.most_7, decide_true, decide_false, List.nil_append, List.cons_append]
    · obtain ⟨y7, y8, e⟩ := replaced_loop (x0 := x0) (x5 := x5) (z := z) (b := b) (b' := b') ls ss (acc ++ [pt (l.withNew p b nw z).d s]) (some (.dat l.d)) (some (.dat (.int s))) (by omega) (by rw [List.length_append]; simp; omega) fun l m => hr l (List.mem_cons_of_mem _ m)
      refine ⟨y7, y8, ?_⟩
      have k3 : (acc.length < PV.most) = True := PV.lt_most (by omega)
      rw [hs, PV.dLoop_nx, e]
      · have e1 : newL p b nw z b' (l :: ls) = l.withNew p b nw z :: newL p b nw z b' ls := by rw [newL, if_neg c]
        have e2 : newS p b z b' (l :: ls) (s :: ss) = s :: newS p b z b' ls ss := by rw [newS, if_neg c]; rfl
        rw [e1, e2]
        simp [ptsD]
      · cases hi : isP l p with
        | false =>
          rw [hi] at hq
          simp only [e_replaced_t1, e_replaced_b1, pt, hb, hq, r, k3, PV.fin, PV.dSeq, PV.dIf, PV.dAsg, PV.dAsgO, PV.dRet, PV.dRetN, PV.dNext, PV.dBreak, PV.dCont, PV.dDrop, PV.dApp, PV.dExt, PV.dSetI, PV.dPop, PV.dAug, PV.dAugI, PV.dFrz, PV.onOwn, PV.gN, PV.gT, PV.gC, PV.gNs, PV.dVar, PV.vVar, PV.dC, PV.dOp, PV.fOp, PV.dNeg, PV.dNot, PV.dAnd, PV.dOr, PV.dIfE, PV.dNil, PV.dCons, PV.dTup, PV.fLst, PV.dLst, PV.dCall, PV.fCall, PV.dTest, PV.tst, PV.dTru, PV.tru, PV.dAndT, PV.dOrT, PV.dNotT, PV.dYes, PV.dChain, PV.dIsi, PV.isi, PV.tyn, PV.dPart, PV.dNoPart, PV.fSl, PV.lItems, PV.iOf, PV.dItems, PV.iBy, PV.sItems, PV.dwipe, PV.bMax2, PV.bMin2, PV.bAbs, PV.bInt, PV.bLen, PV.bTup, PV.bList, PV.dAdd, PV.dSub, PV.dLt, PV.dLe, PV.dGt, PV.dGe, PV.dIsN, PV.dNotN, PV.isNon_non, PV.isNon_int, PV.fAdd, PV.dIx_l, PV.dIx_t, PV.dIx_f, PV.at0, PV.at1, PV.at2, PV.at3, PV.at4, Option.bind_some, Option.map_some, Option.bind_none, Option.map_none, List.getElem?_cons_zero, List.getElem?_cons_succ, List.set_cons_zero, List.set_cons_succ, if_true, if_false, PV.kit_ii, PV.kit_ti, PV.kit_tt, PV.kit_ib, PV.kit_it, PV.kit_ll, PV.kit_li, Bool.not_true, Bool.not_false, Bool.false_eq_true, Bool.not_eq_true, reduceIte, List.length_cons, List.length_nil, Nat.reduceAdd, Nat.zero_add, PV.most_0, PV.most_1, PV.most_2, PV.most_3, PV.most_4, PV.most_5, PV.most_6, PV.most_7, decide_true, decide_false, List.nil_append, List.cons_append]
        | true =>
          rw [hi] at hq
          rw [decide_eq_false (fun z => c ⟨hi, z⟩)] at hb
          simp only [e_replaced_t1, e_replaced_b1, pt, hb, hq, r, k3, PV.fin, PV.dSeq, PV.dIf, PV.dAsg, PV.dAsgO, PV.dRet, PV.dRetN, PV.dNext, PV.dBreak, PV.dCont, PV.dDrop, PV.dApp, PV.dExt, PV.dSetI, PV.dPop, PV.dAug, PV.dAugI, PV.dFrz, PV.onOwn, PV.gN, PV.gT, PV.gC, PV.gNs, PV.dVar, PV.vVar, PV.dC, PV.dOp, PV.fOp, PV.dNeg, PV.dNot, PV.dAnd, PV.dOr, PV.dIfE, PV.dNil, PV.dCons, PV.dTup, PV.fLst, PV.dLst, PV.dCall, PV.fCall, PV.dTest, PV.tst, PV.dTru, PV.tru, PV.dAndT, PV.dOrT, PV.dNotT, PV.dYes, PV.dChain, PV.dIsi, PV.isi, PV.tyn, PV.dPart, PV.dNoPart, PV.fSl, PV.lItems, PV.iOf, PV.dItems, PV.iBy, PV.sItems, PV.dwipe, PV.bMax2, PV.bMin2, PV.bAbs, PV.bInt, PV.bLen, PV.bTup, PV.bList, PV.dAdd, PV.dSub, PV.dLt, PV.dLe, PV.dGt, PV.dGe, PV.dIsN, PV.dNotN, PV.isNon_non, PV.isNon_int, PV.fAdd, PV.dIx_l, PV.dIx_t, PV.dIx_f, PV.at0, PV.at1, PV.at2, PV.at3, PV.at4, Option.bind_some, Option.map_some, Option.bind_none, Option.map_none, List.getElem?_cons_zero, List.getElem?_cons_succ, List.set_cons_zero, List.set_cons_succ, if_true, if_false, PV.kit_ii, PV.kit_ti, PV.kit_tt, PV.kit_ib, PV.kit_it, PV.kit_ll, PV.kit_li, Bool.not_true, Bool.not_false, Bool.false_eq_true, Bool.not_eq_true, reduceIte, List.length_cons, List.length_nil, Nat.reduceAdd, Nat.zero_add, PV.most_0, PV.most_1, PV.most_2, PV.most_3, PV.most_4, PV.most_5, PV.most_6, PV.most_7, decide_true, decide_false, List.nil_append, List.cons_append]
theorem replaced_ok {B : Int} {M : Nat} (hM : M ≤ 100000) {p nw z : Int} {b : Bool} : ∀ (d : Nat) {l : Lay}, Good B M d l → d ≤ 21 → ∀ n, d < n → f_replaced n [l.d, .str (nm b), pairD p nw z] = some (l.withNew p b nw z).d := by
  intro d
  have pane : ∀ (m : Nat) (k : Int), f_replaced (m + 1) [(Lay.pane k).d, .str (nm b), pairD p nw z] = some (Lay.withNew p b nw z (.pane k)).d := fun m k => by
    rw [run_replaced]
    unfold e_replaced
    have hq : PV.dEq (.int k) (.int p) = some (.bl (decide (k = p))) := PV.dEq_int
    by_cases c : k = p
    · subst c
      have hq : PV.dEq (.int k) (.int k) = some (.bl true) := PV.dEq_refl (PV.fine_int k)
      have e : Lay.withNew k b nw z (.pane k) = .node b [.pane k, .pane nw] [half1 z, half2 z] := by unfold Lay.withNew; rw [if_pos rfl]
      rw [e]
      simp only [Lay.d, pairD, hq, lds, List.zipWith, pt, PV.fin, PV.dSeq, PV.dIf, PV.dAsg, PV.dAsgO, PV.dRet, PV.dRetN, PV.dNext, PV.dBreak, PV.dCont, PV.dDrop, PV.dApp, PV.dExt, PV.dSetI, PV.dPop, PV.dAug, PV.dAugI, PV.dFrz, PV.onOwn, PV.gN, PV.gT, PV.gC, PV.gNs, PV.dVar, PV.vVar, PV.dC, PV.dOp, PV.fOp, PV.dNeg, PV.dNot, PV.dAnd, PV.dOr, PV.dIfE, PV.dNil, PV.dCons, PV.dTup, PV.fLst, PV.dLst, PV.dCall, PV.fCall, PV.dTest, PV.tst, PV.dTru, PV.tru, PV.dAndT, PV.dOrT, PV.dNotT, PV.dYes, PV.dChain, PV.dIsi, PV.isi, PV.tyn, PV.dPart, PV.dNoPart, PV.fSl, PV.lItems, PV.iOf, PV.dItems, PV.iBy, PV.sItems, PV.dwipe, PV.bMax2, PV.bMin2, PV.bAbs, PV.bInt, PV.bLen, PV.bTup, PV.bList, PV.dAdd, PV.dSub, PV.dLt, PV.dLe, PV.dGt, PV.dGe, PV.dIsN, PV.dNotN, PV.isNon_non, PV.isNon_int, PV.fAdd, PV.dIx_l, PV.dIx_t, PV.dIx_f, PV.at0, PV.at1, PV.at2, PV.at3, PV.at4, Option.bind_some, Option.map_some, Option.bind_none, Option.map_none, List.getElem?_cons_zero, List.getElem?_cons_succ, List.set_cons_zero, List.set_cons_succ, if_true, if_false, PV.kit_ii, PV.kit_ti, PV.kit_tt, PV.kit_ib, PV.kit_it, PV.kit_ll, PV.kit_li, Bool.not_true, Bool.not_false, Bool.false_eq_true, Bool.not_eq_true, reduceIte, List.length_cons, List.length_nil, Nat.reduceAdd, Nat.zero_add, PV.most_0, PV.most_1, PV.most_2, PV.most_3, PV.most_4, PV.most_5, PV.most_6, PV.most_7, decide_true, decide_false, List.nil_append, List.cons_append]
    · rw [decide_eq_false c] at hq
      simp only [Lay.d, pairD, hq, Lay.withNew, c, PV.fin, PV.dSeq, PV.dIf, PV.dAsg, PV.dAsgO, PV.dRet, PV.dRetN, PV.dNext, PV.dBreak, PV.dCont, PV.dDrop, PV.dApp, PV.dExt, PV.dSetI, PV.dPop, PV.dAug, PV.dAugI, PV.dFrz, PV.onOwn, PV.gN, PV.gT, PV.gC, PV.gNs, PV.dVar, PV.vVar, PV.dC, PV.dOp, PV.fOp, PV.dNeg, PV.dNot, PV.dAnd, PV.dOr, PV.dIfE, PV.dNil, PV.dCons, PV.dTup, PV.fLst, PV.dLst, PV.dCall, PV.fCall, PV.dTest, PV.tst, PV.dTru, PV.tru, PV.dAndT, PV.dOrT, PV.dNotT, PV.dYes, PV.dChain, PV.dIsi, PV.isi, PV.tyn, PV.dPart, PV.dNoPart, PV.fSl, PV.lItems, PV.iOf, PV.dItems, PV.iBy, PV.sItems, PV.dwipe, PV.bMax2, PV.bMin2, PV.bAbs, PV.bInt, PV.bLen, PV.bTup, PV.bList, PV.dAdd, PV.dSub, PV.dLt, PV.dLe, PV.dGt, PV.dGe, PV.dIsN, PV.dNotN, PV.isNon_non, PV.isNon_int, PV.fAdd, PV.dIx_l, PV.dIx_t, PV.dIx_f, PV.at0, PV.at1, PV.at2, PV.at3, PV.at4, Option.bind_some, Option.map_some, Option.bind_none, Option.map_none, List.getElem?_cons_zero, List.getElem?_cons_succ, List.set_cons_zero, List.set_cons_succ, if_true, if_false, PV.kit_ii, PV.kit_ti, PV.kit_tt, PV.kit_ib, PV.kit_it, PV.kit_ll, PV.kit_li, Bool.not_true, Bool.not_false, Bool.false_eq_true, Bool.not_eq_true, reduceIte, List.length_cons, List.length_nil, Nat.reduceAdd, Nat.zero_add, PV.most_0, PV.most_1, PV.most_2, PV.most_3, PV.most_4, PV.most_5, PV.most_6, PV.most_7, decide_true, decide_false, List.nil_append, List.cons_append]
  induction d with
  | zero =>
    intro l g hd n hn
    obtain ⟨m, rfl⟩ : ∃ m, n = m + 1 := ⟨n - 1, by omega⟩
    cases g
    exact pane _ _
  | succ d ih =>
    intro l g hd n hn
    obtain ⟨m, rfl⟩ : ∃ m, n = m + 1 := ⟨n - 1, by omega⟩
    cases g with
    | pane k => exact pane _ k
    | node hl h2 hm hs hg =>
      rename_i b' ls ss
      obtain ⟨y7, y8, e⟩ := replaced_loop (n := m) (p := p) (nw := nw) (z := z) (b := b) (b' := b') (x0 := some (.dat (.tup [.str (nm b'), .tup (ptsD ls ss)]))) (x5 := some (.dat (.tup (ptsD ls ss)))) ls ss [] none none hl (by simp; omega) fun l ml =>
        ⟨(hg l ml).fine (by omega), ih (hg l ml) (by omega) m (by omega)⟩
      rw [Lay.d_node]
      rw [run_replaced]
      unfold e_replaced
      simp only [List.nil_append] at e
      unfold pairD at e ⊢
      simp only [e_replaced_l1_is, e, Lay.withNew, Lay.d_node, PV.fin, PV.dSeq, PV.dIf, PV.dAsg, PV.dAsgO, PV.dRet, PV.dRetN, PV.dNext, PV.dBreak, PV.dCont, PV.dDrop, PV.dApp, PV.dExt, PV.dSetI, PV.dPop, PV.dAug, PV.dAugI, PV.dFrz, PV.onOwn, PV.gN, PV.gT, PV.gC, PV.gNs, PV.dVar, PV.vVar, PV.dC, PV.dOp, PV.fOp, PV.dNeg, PV.dNot, PV.dAnd, PV.dOr, PV.dIfE, PV.dNil, PV.dCons, PV.dTup, PV.fLst, PV.dLst, PV.dCall, PV.fCall, PV.dTest, PV.tst, PV.dTru, PV.tru, PV.dAndT, PV.dOrT, PV.dNotT, PV.dYes, PV.dChain, PV.dIsi, PV.isi, PV.tyn, PV.dPart, PV.dNoPart, PV.fSl, PV.lItems, PV.iOf, PV.dItems, PV.iBy, PV.sItems, PV.dwipe, PV.bMax2, PV.bMin2, PV.bAbs, PV.bInt, PV.bLen, PV.bTup, PV.bList, PV.dAdd, PV.dSub, PV.dLt, PV.dLe, PV.dGt, PV.dGe, PV.dIsN, PV.dNotN, PV.isNon_non, PV.isNon_int, PV.fAdd, PV.dIx_l, PV.dIx_t, PV.dIx_f, PV.at0, PV.at1, PV.at2, PV.at3, PV.at4, Option.bind_some, Option.map_some, Option.bind_none, Option.map_none, List.getElem?_cons_zero, List.getElem?_cons_succ, List.set_cons_zero, List.set_cons_succ, if_true, if_false, PV.kit_ii, PV.kit_ti, PV.kit_tt, PV.kit_ib, PV.kit_it, PV.kit_ll, PV.kit_li, Bool.not_true, Bool.not_false, Bool.false_eq_true, Bool.not_eq_true, reduceIte, List.length_cons, List.length_nil, Nat.reduceAdd, Nat.zero_add, PV.most_0, PV.most_1, PV.most_2, PV.most_3, PV.most_4, PV.most_5, PV.most_6, PV.most_7, decide_true, decide_false, List.nil_append, List.cons_append]
theorem jInt {i : Int} (h : i.natAbs < 2 ^ 64) : PV.jPart (.int i) = true := decide_eq_true h
theorem jNm (b : Bool) : PV.jPart (.str (nm b)) = true := by cases b <;> decide +kernel
theorem divided_ok {k : Nat} {l : Lay} (g : Stg k l) (hk : k ≤ 14) (hno : l.panes.Nodup) {w h : Int} (hw : w ≤ 1000) (hh : h ≤ 1000) {p : Int} (hp : p ∈ l.panes) (b : Bool) (nw : Int) {l' : Lay} (hd : l.divided w h p b nw = some l') :
    f_divided [l.d, .int w, .int h, .int p, .str (nm b), .int nw] = some l'.d := by
  have p2 := two_pow (k := k) (by omega)
  have hpp := g.2
  have gl := g.1.least
  have sz := size_of_pane_ok g (by omega) hw hh hp b
  rw [divided_is g hk hno hw hh hp b nw] at hd
  by_cases c : l.room w h p b < (if b = true then 3 else 5)
  · rw [if_pos c] at hd; cases hd
  · rw [if_neg c] at hd
    cases hd
    have fs := fit_stg g.1 (Nat.le_refl _) g.2 (by omega) hw hh
    have ft := fitted_ok (by decide) (by omega) k g.1 (by omega) (by omega) 24 (by omega) w h (by omega) (by omega)
    have rp := replaced_ok (M := 2 ^ k) (by omega) (p := p) (nw := nw) (z := l.room w h p b) (b := b) k fs.1 (by omega) 24 (by omega)
    have al : f_along [.str (nm b), .int 5, .int 3] = some (.int (if b = true then 3 else 5)) := by rw [along_ok]; cases b <;> rfl
    have v2 : PV.dDiv (.int (l.room w h p b - 1)) (.int 2) = some (.int ((l.room w h p b - 1) / 2)) := PV.dDiv_ok (by decide) (by decide)
    unfold pairD half1 half2 at rp
    have lt : decide (l.room w h p b < (if b = true then 3 else 5)) = false := decide_eq_false c
    rw [run_divided]
    unfold e_divided
    simp only [sz, al, lt, v2, ft, rp, PV.fin, PV.dSeq, PV.dIf, PV.dAsg, PV.dAsgO, PV.dRet, PV.dRetN, PV.dNext, PV.dBreak, PV.dCont, PV.dDrop, PV.dApp, PV.dExt, PV.dSetI, PV.dPop, PV.dAug, PV.dAugI, PV.dFrz, PV.onOwn, PV.gN, PV.gT, PV.gC, PV.gNs, PV.dVar, PV.vVar, PV.dC, PV.dOp, PV.fOp, PV.dNeg, PV.dNot, PV.dAnd, PV.dOr, PV.dIfE, PV.dNil, PV.dCons, PV.dTup, PV.fLst, PV.dLst, PV.dCall, PV.fCall, PV.dTest, PV.tst, PV.dTru, PV.tru, PV.dAndT, PV.dOrT, PV.dNotT, PV.dYes, PV.dChain, PV.dIsi, PV.isi, PV.tyn, PV.dPart, PV.dNoPart, PV.fSl, PV.lItems, PV.iOf, PV.dItems, PV.iBy, PV.sItems, PV.dwipe, PV.bMax2, PV.bMin2, PV.bAbs, PV.bInt, PV.bLen, PV.bTup, PV.bList, PV.dAdd, PV.dSub, PV.dLt, PV.dLe, PV.dGt, PV.dGe, PV.dIsN, PV.dNotN, PV.isNon_non, PV.isNon_int, PV.fAdd, PV.dIx_l, PV.dIx_t, PV.dIx_f, PV.at0, PV.at1, PV.at2, PV.at3, PV.at4, Option.bind_some, Option.map_some, Option.bind_none, Option.map_none, List.getElem?_cons_zero, List.getElem?_cons_succ, List.set_cons_zero, List.set_cons_succ, if_true, if_false, PV.kit_ii, PV.kit_ti, PV.kit_tt, PV.kit_ib, PV.kit_it, PV.kit_ll, PV.kit_li, Bool.not_true, Bool.not_false, Bool.false_eq_true, Bool.not_eq_true, reduceIte, List.length_cons, List.length_nil, Nat.reduceAdd, Nat.zero_add, PV.most_0, PV.most_1, PV.most_2, PV.most_3, PV.most_4, PV.most_5, PV.most_6, PV.most_7, decide_true, decide_false, List.nil_append, List.cons_append]
theorem divided_no {k : Nat} {l : Lay} (g : Stg k l) (hk : k ≤ 14) (hno : l.panes.Nodup) {w h : Int} (hw : w ≤ 1000) (hh : h ≤ 1000) {p : Int} (hp : p ∈ l.panes) (b : Bool) (nw nw' : Int) (hb : p.natAbs < 2 ^ 64) (hd : l.divided w h p b nw = none) :
    g_divided [l.d, .int w, .int h, .int p, .str (nm b), .int nw'] = true := by
  have sz := size_of_pane_ok g (by omega) hw hh hp b
  rw [divided_is g hk hno hw hh hp b nw] at hd
  by_cases c : l.room w h p b < (if b = true then 3 else 5)
  · have al : f_along [.str (nm b), .int 5, .int 3] = some (.int (if b = true then 3 else 5)) := by rw [along_ok]; cases b <;> rfl
    have lt : decide (l.room w h p b < (if b = true then 3 else 5)) = true := decide_eq_true c
    have j1 : PV.jPart (.str "pane ") = true := by decide +kernel
    have j2 : PV.jPart (.str " has no room for another pane ") = true := by decide +kernel
    have j3 : PV.jPart (.str " it") = true := by decide +kernel
    rw [ran_divided]
    unfold x_divided
    simp only [PV.xSeq, PV.xIf, PV.xNo, PV.nJ, sz, al, lt, j1, j2, j3, jInt hb, jNm b, Bool.and_self, Bool.or_true, Bool.false_or, Bool.true_or, Bool.or_false, PV.fin, PV.dSeq, PV.dIf, PV.dAsg, PV.dAsgO, PV.dRet, PV.dRetN, PV.dNext, PV.dBreak, PV.dCont, PV.dDrop, PV.dApp, PV.dExt, PV.dSetI, PV.dPop, PV.dAug, PV.dAugI, PV.dFrz, PV.onOwn, PV.gN, PV.gT, PV.gC, PV.gNs, PV.dVar, PV.vVar, PV.dC, PV.dOp, PV.fOp, PV.dNeg, PV.dNot, PV.dAnd, PV.dOr, PV.dIfE, PV.dNil, PV.dCons, PV.dTup, PV.fLst, PV.dLst, PV.dCall, PV.fCall, PV.dTest, PV.tst, PV.dTru, PV.tru, PV.dAndT, PV.dOrT, PV.dNotT, PV.dYes, PV.dChain, PV.dIsi, PV.isi, PV.tyn, PV.dPart, PV.dNoPart, PV.fSl, PV.lItems, PV.iOf, PV.dItems, PV.iBy, PV.sItems, PV.dwipe, PV.bMax2, PV.bMin2, PV.bAbs, PV.bInt, PV.bLen, PV.bTup, PV.bList, PV.dAdd, PV.dSub, PV.dLt, PV.dLe, PV.dGt, PV.dGe, PV.dIsN, PV.dNotN, PV.isNon_non, PV.isNon_int, PV.fAdd, PV.dIx_l, PV.dIx_t, PV.dIx_f, PV.at0, PV.at1, PV.at2, PV.at3, PV.at4, Option.bind_some, Option.map_some, Option.bind_none, Option.map_none, List.getElem?_cons_zero, List.getElem?_cons_succ, List.set_cons_zero, List.set_cons_succ, if_true, if_false, PV.kit_ii, PV.kit_ti, PV.kit_tt, PV.kit_ib, PV.kit_it, PV.kit_ll, PV.kit_li, Bool.not_true, Bool.not_false, Bool.false_eq_true, Bool.not_eq_true, reduceIte, List.length_cons, List.length_nil, Nat.reduceAdd, Nat.zero_add, PV.most_0, PV.most_1, PV.most_2, PV.most_3, PV.most_4, PV.most_5, PV.most_6, PV.most_7, decide_true, decide_false, List.nil_append, List.cons_append]
  · rw [if_neg c] at hd; cases hd

/-! ## the program takes a pane out -/
theorem dNe_isP {l : Lay} {p : Int} (h : l.d.Fine) : PV.dNe l.d (.int p) = some (.bl (!isP l p)) := PV.dNe_is h (PV.fine_int p) (by
  cases z : isP l p with
  | true => simp [isP_is.mp z]
  | false =>
    simp only [Bool.not_false, true_iff]
    intro e
    rw [isP_is.mpr e] at z
    cases z)
def bump (room : Int) : List Int → List Int
  | [] => []
  | s :: ss => (s + room) :: ss
def roomAfter (room : Int) : List Lay → Int
  | [] => room
  | _ => 0
theorem bump_zero : ∀ ss : List Int, bump 0 ss = ss
  | [] => rfl
  | s :: ss => by simp [bump]
theorem room_zero : ∀ ls : List Lay, roomAfter 0 ls = 0
  | [] => rfl
  | _ :: _ => rfl
theorem ptsD_app {A B : List Lay} {a b : List Int} (h : A.length = a.length) : ptsD (A ++ B) (a ++ b) = ptsD A a ++ ptsD B b := by
  unfold ptsD
  rw [List.zipWith_append h]
theorem kept_run {p : Int} {x0 : Option PV.DV} : ∀ (ls : List Lay) (ss : List Int) (acc : List PV.D) (room : Int) (rest : List PV.D) (x4 x5 x6 x7 : Option PV.DV), ls.length = ss.length → acc.length + ls.length ≤ 1000000 → (∀ l ∈ ls, isP l p = false ∧ l.d.Fine) →
    ∃ y4 y5, PV.dLoop e_kept_parts_t1 (ptsD ls ss ++ rest) [x0, some (.dat (.int p)), some (.own acc), some (.dat (.int room)), x4, x5, x6, x7] =
      PV.dLoop e_kept_parts_t1 rest [x0, some (.dat (.int p)), some (.own (acc ++ ptsD ls (bump room ss))), some (.dat (.int (roomAfter room ls))), y4, y5, x6, x7]
  | [], ss, acc, room, rest, x4, x5, x6, x7, _, _, _ => ⟨x4, x5, by simp [ptsD, roomAfter]⟩
  | l :: ls, [], _, _, _, _, _, _, _, h, _, _ => by simp at h
  | l :: ls, s :: ss, acc, room, rest, x4, x5, x6, x7, hl, hm, hh => by
    simp only [List.length_cons] at hl hm
    obtain ⟨h1, h2⟩ := hh l (List.mem_cons_self ..)
    obtain ⟨y4, y5, e⟩ := kept_run (p := p) (x0 := x0) ls ss (acc ++ [pt l.d (s + room)]) 0 rest (some (.dat l.d)) (some (.dat (.int s))) x6 x7 (by omega) (by simp; omega) fun k m => hh k (List.mem_cons_of_mem _ m)
    refine ⟨y4, y5, ?_⟩
    have k3 : (acc.length < PV.most) = True := PV.lt_most (by omega)
    have hs : ptsD (l :: ls) (s :: ss) = pt l.d s :: ptsD ls ss := rfl
    have hs2 : ptsD (l :: ls) (bump room (s :: ss)) = pt l.d (s + room) :: ptsD ls ss := rfl
    have hq := dNe_isP (p := p) h2
    rw [h1] at hq
    rw [bump_zero, room_zero] at e
    rw [hs, List.cons_append, PV.dLoop_nx, e, hs2]
    · simp [roomAfter]
    · simp only [e_kept_parts_t1, e_kept_parts_b1, pt, hq, k3, PV.fin, PV.dSeq, PV.dIf, PV.dAsg, PV.dAsgO, PV.dRet, PV.dRetN, PV.dNext, PV.dBreak, PV.dCont, PV.dDrop, PV.dApp, PV.dExt, PV.dSetI, PV.dPop, PV.dAug, PV.dAugI, PV.dFrz, PV.onOwn, PV.gN, PV.gT, PV.gC, PV.gNs, PV.dVar, PV.vVar, PV.dC, PV.dOp, PV.fOp, PV.dNeg, PV.dNot, PV.dAnd, PV.dOr, PV.dIfE, PV.dNil, PV.dCons, PV.dTup, PV.fLst, PV.dLst, PV.dCall, PV.fCall, PV.dTest, PV.tst, PV.dTru, PV.tru, PV.dAndT, PV.dOrT, PV.dNotT, PV.dYes, PV.dChain, PV.dIsi, PV.isi, PV.tyn, PV.dPart, PV.dNoPart, PV.fSl, PV.lItems, PV.iOf, PV.dItems, PV.iBy, PV.sItems, PV.dwipe, PV.bMax2, PV.bMin2, PV.bAbs, PV.bInt, PV.bLen, PV.bTup, PV.bList, PV.dAdd, PV.dSub, PV.dLt, PV.dLe, PV.dGt, PV.dGe, PV.dIsN, PV.dNotN, PV.isNon_non, PV.isNon_int, PV.fAdd, PV.dIx_l, PV.dIx_t, PV.dIx_f, PV.at0, PV.at1, PV.at2, PV.at3, PV.at4, Option.bind_some, Option.map_some, Option.bind_none, Option.map_none, List.getElem?_cons_zero, List.getElem?_cons_succ, List.set_cons_zero, List.set_cons_succ, if_true, if_false, PV.kit_ii, PV.kit_ti, PV.kit_tt, PV.kit_ib, PV.kit_it, PV.kit_ll, PV.kit_li, Bool.not_true, Bool.not_false, Bool.false_eq_true, Bool.not_eq_true, reduceIte, List.length_cons, List.length_nil, Nat.reduceAdd, Nat.zero_add, PV.most_0, PV.most_1, PV.most_2, PV.most_3, PV.most_4, PV.most_5, PV.most_6, PV.most_7, decide_true, decide_false, List.nil_append, List.cons_append]
theorem dNe_own {p : Int} : PV.dNe (.int p) (.int p) = some (.bl false) := PV.dNe_refl (PV.fine_int p)
theorem kept_first {p : Int} {s : Int} {rest : List PV.D} {x0 x4 x5 x6 x7 : Option PV.DV} :
    ∃ y4 y5, PV.dLoop e_kept_parts_t1 (pt (.int p) s :: rest) [x0, some (.dat (.int p)), some (.own []), some (.dat (.int 0)), x4, x5, x6, x7] =
      PV.dLoop e_kept_parts_t1 rest [x0, some (.dat (.int p)), some (.own []), some (.dat (.int (s + 1))), y4, y5, x6, x7] := by
  refine ⟨some (.dat (.int p)), some (.dat (.int s)), ?_⟩
  have hq := dNe_own (p := p)
  rw [PV.dLoop_nx]
  simp only [e_kept_parts_t1, e_kept_parts_b1, pt, hq, List.isEmpty_nil, PV.fin, PV.dSeq, PV.dIf, PV.dAsg, PV.dAsgO, PV.dRet, PV.dRetN, PV.dNext, PV.dBreak, PV.dCont, PV.dDrop, PV.dApp, PV.dExt, PV.dSetI, PV.dPop, PV.dAug, PV.dAugI, PV.dFrz, PV.onOwn, PV.gN, PV.gT, PV.gC, PV.gNs, PV.dVar, PV.vVar, PV.dC, PV.dOp, PV.fOp, PV.dNeg, PV.dNot, PV.dAnd, PV.dOr, PV.dIfE, PV.dNil, PV.dCons, PV.dTup, PV.fLst, PV.dLst, PV.dCall, PV.fCall, PV.dTest, PV.tst, PV.dTru, PV.tru, PV.dAndT, PV.dOrT, PV.dNotT, PV.dYes, PV.dChain, PV.dIsi, PV.isi, PV.tyn, PV.dPart, PV.dNoPart, PV.fSl, PV.lItems, PV.iOf, PV.dItems, PV.iBy, PV.sItems, PV.dwipe, PV.bMax2, PV.bMin2, PV.bAbs, PV.bInt, PV.bLen, PV.bTup, PV.bList, PV.dAdd, PV.dSub, PV.dLt, PV.dLe, PV.dGt, PV.dGe, PV.dIsN, PV.dNotN, PV.isNon_non, PV.isNon_int, PV.fAdd, PV.dIx_l, PV.dIx_t, PV.dIx_f, PV.at0, PV.at1, PV.at2, PV.at3, PV.at4, Option.bind_some, Option.map_some, Option.bind_none, Option.map_none, List.getElem?_cons_zero, List.getElem?_cons_succ, List.set_cons_zero, List.set_cons_succ, if_true, if_false, PV.kit_ii, PV.kit_ti, PV.kit_tt, PV.kit_ib, PV.kit_it, PV.kit_ll, PV.kit_li, Bool.not_true, Bool.not_false, Bool.false_eq_true, Bool.not_eq_true, reduceIte, List.length_cons, List.length_nil, Nat.reduceAdd, Nat.zero_add, PV.most_0, PV.most_1, PV.most_2, PV.most_3, PV.most_4, PV.most_5, PV.most_6, PV.most_7, decide_true, decide_false, List.nil_append, List.cons_append]
theorem kept_next {p : Int} {s t : Int} {l : PV.D} {acc : List PV.D} (hm : acc.length ≤ 900000) {rest : List PV.D} {x0 x4 x5 x6 x7 : Option PV.DV} :
    ∃ y4 y5 y6 y7, PV.dLoop e_kept_parts_t1 (pt (.int p) s :: rest) [x0, some (.dat (.int p)), some (.own (acc ++ [pt l t])), some (.dat (.int 0)), x4, x5, x6, x7] =
      PV.dLoop e_kept_parts_t1 rest [x0, some (.dat (.int p)), some (.own (acc ++ [pt l (t + s + 1)])), some (.dat (.int 0)), y4, y5, y6, y7] := by
  refine ⟨some (.dat (.int p)), some (.dat (.int s)), some (.dat l), some (.dat (.int t)), ?_⟩
  have hq := dNe_own (p := p)
  have e1 : (acc ++ [PV.D.tup [l, .int t]]).isEmpty = false := by cases acc <;> rfl
  have e2 : (acc ++ [PV.D.tup [l, .int t]])[(acc ++ [PV.D.tup [l, .int t]]).length - 1]? = some (.tup [l, .int t]) := by simp
  have e3 : (acc ++ [PV.D.tup [l, .int t]]).dropLast = acc := by simp
  have k3 : (acc.length < PV.most) = True := PV.lt_most (by omega)
  rw [PV.dLoop_nx]
  simp only [e_kept_parts_t1, e_kept_parts_b1, pt, hq, e1, e2, e3, k3, PV.fin, PV.dSeq, PV.dIf, PV.dAsg, PV.dAsgO, PV.dRet, PV.dRetN, PV.dNext, PV.dBreak, PV.dCont, PV.dDrop, PV.dApp, PV.dExt, PV.dSetI, PV.dPop, PV.dAug, PV.dAugI, PV.dFrz, PV.onOwn, PV.gN, PV.gT, PV.gC, PV.gNs, PV.dVar, PV.vVar, PV.dC, PV.dOp, PV.fOp, PV.dNeg, PV.dNot, PV.dAnd, PV.dOr, PV.dIfE, PV.dNil, PV.dCons, PV.dTup, PV.fLst, PV.dLst, PV.dCall, PV.fCall, PV.dTest, PV.tst, PV.dTru, PV.tru, PV.dAndT, PV.dOrT, PV.dNotT, PV.dYes, PV.dChain, PV.dIsi, PV.isi, PV.tyn, PV.dPart, PV.dNoPart, PV.fSl, PV.lItems, PV.iOf, PV.dItems, PV.iBy, PV.sItems, PV.dwipe, PV.bMax2, PV.bMin2, PV.bAbs, PV.bInt, PV.bLen, PV.bTup, PV.bList, PV.dAdd, PV.dSub, PV.dLt, PV.dLe, PV.dGt, PV.dGe, PV.dIsN, PV.dNotN, PV.isNon_non, PV.isNon_int, PV.fAdd, PV.dIx_l, PV.dIx_t, PV.dIx_f, PV.at0, PV.at1, PV.at2, PV.at3, PV.at4, Option.bind_some, Option.map_some, Option.bind_none, Option.map_none, List.getElem?_cons_zero, List.getElem?_cons_succ, List.set_cons_zero, List.set_cons_succ, if_true, if_false, PV.kit_ii, PV.kit_ti, PV.kit_tt, PV.kit_ib, PV.kit_it, PV.kit_ll, PV.kit_li, Bool.not_true, Bool.not_false, Bool.false_eq_true, Bool.not_eq_true, reduceIte, List.length_cons, List.length_nil, Nat.reduceAdd, Nat.zero_add, PV.most_0, PV.most_1, PV.most_2, PV.most_3, PV.most_4, PV.most_5, PV.most_6, PV.most_7, decide_true, decide_false, List.nil_append, List.cons_append]
theorem kept_ok {p : Int} {ls : List Lay} {ss : List Int} (hl : ls.length = ss.length) (h2 : 2 ≤ ls.length) (hm : ls.length ≤ 100000) (hf : ∀ l ∈ ls, l.d.Fine) (hn : (ls.flatMap Lay.panes).Nodup) :
    ∃ K Z, f_kept_parts [.tup (ptsD ls ss), .int p] = some (.lst (ptsD K Z)) ∧ K.length = Z.length ∧ (∀ k ∈ K, k ∈ ls ∧ isP k p = false) ∧
      ((K = ls ∧ Z = ss) ∨ (K.length + 1 = ls.length ∧ (∀ k ∈ K, p ∉ k.panes) ∧ ∀ b, (∀ k ∈ K, isB b k = false ∧ isP k p = false ∧ k.taken p = k) → takL p b ls = K ∧ heirS (goneI p ls 0 (-1)) (takS p b ls ss) ss = Z)) := by
  by_cases c : Lay.pane p ∈ ls
  · obtain ⟨as, bs, rfl⟩ := List.append_of_mem c
    obtain ⟨sa, s, sb, rfl, la⟩ : ∃ sa s sb, ss = sa ++ s :: sb ∧ as.length = sa.length := by
      have hi : as.length < ss.length := by rw [← hl]; simp
      exact ⟨ss.take as.length, ss[as.length], ss.drop (as.length + 1), by rw [← List.drop_eq_getElem_cons hi, List.take_append_drop], by simp; omega⟩
    have lb : bs.length = sb.length := by simp at hl; omega
    simp only [List.length_append, List.length_cons] at h2 hm
    rw [List.flatMap_append, List.flatMap_cons] at hn
    have hpp : Lay.panes (.pane p) = [p] := rfl
    rw [hpp] at hn
    obtain ⟨n1, n2, n3⟩ := List.nodup_append.mp hn
    obtain ⟨n4, n5⟩ := List.nodup_cons.mp (show (p :: bs.flatMap Lay.panes).Nodup from n2)
    have na : ∀ l ∈ as, p ∉ l.panes := fun l m z => n3 p (List.mem_flatMap.mpr ⟨l, m, z⟩) p (by simp) rfl
    have nb : ∀ l ∈ bs, p ∉ l.panes := fun l m z => n4 (List.mem_flatMap.mpr ⟨l, m, z⟩)
    have pa : ∀ l ∈ as, isP l p = false ∧ l.d.Fine := fun l m => ⟨isP_no (na l m), hf l (by simp [m])⟩
    have pb : ∀ l ∈ bs, isP l p = false ∧ l.d.Fine := fun l m => ⟨isP_no (nb l m), hf l (by simp [m])⟩
    have pp : isP (.pane p) p = true := by simp [isP]
    have gone := goneI_at (p := p) (as := as) (bs := bs) fun l m => (pb l m).1
    have pts : ptsD (as ++ .pane p :: bs) (sa ++ s :: sb) = ptsD as sa ++ pt (.int p) s :: ptsD bs sb := by rw [ptsD_app la]; rfl
    have tl : ∀ b, (∀ k ∈ as ++ bs, isB b k = false ∧ isP k p = false ∧ k.taken p = k) → takL p b (as ++ .pane p :: bs) = as ++ bs ∧ takS p b (as ++ .pane p :: bs) (sa ++ s :: sb) = sa ++ sb := fun b hk => by
      have ka : ∀ k ∈ as, isB b k = false ∧ isP k p = false ∧ k.taken p = k := fun k m => hk k (by simp [m])
      have kb : ∀ k ∈ bs, isB b k = false ∧ isP k p = false ∧ k.taken p = k := fun k m => hk k (by simp [m])
      have t1 : takL p b (.pane p :: bs) = takL p b bs := by unfold takL; rw [if_pos pp]; cases bs <;> rfl
      have t2 : takS p b (.pane p :: bs) (s :: sb) = takS p b bs sb := by
        show (if isP (.pane p) p = true then takS p b bs sb else partS b ((Lay.pane p).taken p) s ++ takS p b bs sb) = _
        rw [if_pos pp]
      rw [takL_app, takS_app _ _ _ _ la, t1, t2, takL_no as ka, takL_no bs kb, takS_no as sa la ka, takS_no bs sb lb kb]
      exact ⟨rfl, rfl⟩
    have nk : ∀ k ∈ as ++ bs, p ∉ k.panes := fun k m => by
      rcases List.mem_append.mp m with m | m
      · exact na k m
      · exact nb k m
    have mem : ∀ k ∈ as ++ bs, k ∈ as ++ .pane p :: bs ∧ isP k p = false := fun k m => ⟨by
      rcases List.mem_append.mp m with m | m <;> simp [m], isP_no (nk k m)⟩
    rw [run_kept_parts]
    unfold e_kept_parts
    rw [pts]
    rcases List.eq_nil_or_concat as with has | ⟨as', a, has⟩
    · subst has
      have : sa = [] := List.eq_nil_of_length_eq_zero la.symm
      subst this
      cases sb with
      | nil => simp at lb h2; rw [lb] at h2; simp at h2
      | cons t sb =>
        obtain ⟨y4, y5, e1⟩ := kept_first (p := p) (s := s) (rest := ptsD bs (t :: sb)) (x0 := some (.dat (.tup (pt (.int p) s :: ptsD bs (t :: sb))))) (x4 := none) (x5 := none) (x6 := none) (x7 := none)
        obtain ⟨z4, z5, e2⟩ := kept_run (p := p) (x0 := some (.dat (.tup (pt (.int p) s :: ptsD bs (t :: sb))))) bs (t :: sb) [] (s + 1) [] y4 y5 none none lb (by simp; simp at hm; omega) pb
        rw [List.append_nil] at e2
        rw [e2, PV.dLoop_nil] at e1
        have hne : bs ≠ [] := by intro z; rw [z] at lb; simp at lb
        have hs : bump (s + 1) (t :: sb) = (t + s + 1) :: sb := by simp [bump, Int.add_assoc]
        refine ⟨bs, (t + s + 1) :: sb, ?_, by simpa using lb, by simpa using mem, .inr ⟨by simp, by simpa using nk, fun b hk => ?_⟩⟩
        · have p0 : ptsD [] [] ++ pt (.int p) s :: ptsD bs (t :: sb) = pt (.int p) s :: ptsD bs (t :: sb) := rfl
          rw [p0]
          simp only [e_kept_parts_l1_is, e1, hs, PV.fin, PV.dSeq, PV.dIf, PV.dAsg, PV.dAsgO, PV.dRet, PV.dRetN, PV.dNext, PV.dBreak, PV.dCont, PV.dDrop, PV.dApp, PV.dExt, PV.dSetI, PV.dPop, PV.dAug, PV.dAugI, PV.dFrz, PV.onOwn, PV.gN, PV.gT, PV.gC, PV.gNs, PV.dVar, PV.vVar, PV.dC, PV.dOp, PV.fOp, PV.dNeg, PV.dNot, PV.dAnd, PV.dOr, PV.dIfE, PV.dNil, PV.dCons, PV.dTup, PV.fLst, PV.dLst, PV.dCall, PV.fCall, PV.dTest, PV.tst, PV.dTru, PV.tru, PV.dAndT, PV.dOrT, PV.dNotT, PV.dYes, PV.dChain, PV.dIsi, PV.isi, PV.tyn, PV.dPart, PV.dNoPart, PV.fSl, PV.lItems, PV.iOf, PV.dItems, PV.iBy, PV.sItems, PV.dwipe, PV.bMax2, PV.bMin2, PV.bAbs, PV.bInt, PV.bLen, PV.bTup, PV.bList, PV.dAdd, PV.dSub, PV.dLt, PV.dLe, PV.dGt, PV.dGe, PV.dIsN, PV.dNotN, PV.isNon_non, PV.isNon_int, PV.fAdd, PV.dIx_l, PV.dIx_t, PV.dIx_f, PV.at0, PV.at1, PV.at2, PV.at3, PV.at4, Option.bind_some, Option.map_some, Option.bind_none, Option.map_none, List.getElem?_cons_zero, List.getElem?_cons_succ, List.set_cons_zero, List.set_cons_succ, if_true, if_false, PV.kit_ii, PV.kit_ti, PV.kit_tt, PV.kit_ib, PV.kit_it, PV.kit_ll, PV.kit_li, Bool.not_true, Bool.not_false, Bool.false_eq_true, Bool.not_eq_true, reduceIte, List.length_cons, List.length_nil, Nat.reduceAdd, Nat.zero_add, PV.most_0, PV.most_1, PV.most_2, PV.most_3, PV.most_4, PV.most_5, PV.most_6, PV.most_7, decide_true, decide_false, List.nil_append, List.cons_append]
        · obtain ⟨q1, q2⟩ := tl b (by simpa using hk)
          rw [gone, q1, q2]
          exact ⟨rfl, heirS_zero⟩
    · rw [List.concat_eq_append] at has
      subst has
      rcases List.eq_nil_or_concat sa with hsa | ⟨sa', t, hsa⟩
      · subst hsa; simp at la
      · rw [List.concat_eq_append] at hsa
        subst hsa
        have la' : as'.length = sa'.length := by simpa using la
        have e0 : ptsD (as' ++ [a]) (sa' ++ [t]) = ptsD as' sa' ++ [pt a.d t] := ptsD_app la'
        obtain ⟨u4, u5, e1⟩ := kept_run (p := p) (x0 := some (.dat (.tup (ptsD (as' ++ [a]) (sa' ++ [t]) ++ pt (.int p) s :: ptsD bs sb)))) (as' ++ [a]) (sa' ++ [t]) [] 0 (pt (.int p) s :: ptsD bs sb) none none none none la (by simp at hm ⊢; omega) pa
        have r0 : roomAfter 0 (as' ++ [a]) = 0 := room_zero _
        rw [bump_zero, r0, List.nil_append, e0] at e1
        obtain ⟨v4, v5, v6, v7, e2⟩ := kept_next (p := p) (s := s) (t := t) (l := a.d) (acc := ptsD as' sa') (by rw [ptsD_len la']; simp at hm; omega) (rest := ptsD bs sb) (x0 := some (.dat (.tup (ptsD as' sa' ++ [pt a.d t] ++ pt (.int p) s :: ptsD bs sb)))) (x4 := u4) (x5 := u5) (x6 := none) (x7 := none)
        obtain ⟨w4, w5, e3⟩ := kept_run (p := p) (x0 := some (.dat (.tup (ptsD as' sa' ++ [pt a.d t] ++ pt (.int p) s :: ptsD bs sb)))) bs sb (ptsD as' sa' ++ [pt a.d (t + s + 1)]) 0 [] v4 v5 v6 v7 lb (by simp [ptsD_len la']; simp at hm; omega) pb
        rw [List.append_nil, bump_zero, room_zero] at e3
        rw [e2, e3, PV.dLoop_nil] at e1
        have fin : ptsD (as' ++ [a] ++ bs) (sa' ++ (t + s + 1) :: sb) = ptsD as' sa' ++ [pt a.d (t + s + 1)] ++ ptsD bs sb := by
          have : sa' ++ (t + s + 1) :: sb = (sa' ++ [t + s + 1]) ++ sb := by simp
          rw [this, ptsD_app (by simpa using la'), ptsD_app la']
          rfl
        refine ⟨as' ++ [a] ++ bs, sa' ++ (t + s + 1) :: sb, ?_, by simp; omega, mem, .inr ⟨by simp; omega, nk, fun b hk => ?_⟩⟩
        · rw [fin, e0]
          simp only [e_kept_parts_l1_is, e1, PV.fin, PV.dSeq, PV.dIf, PV.dAsg, PV.dAsgO, PV.dRet, PV.dRetN, PV.dNext, PV.dBreak, PV.dCont, PV.dDrop, PV.dApp, PV.dExt, PV.dSetI, PV.dPop, PV.dAug, PV.dAugI, PV.dFrz, PV.onOwn, PV.gN, PV.gT, PV.gC, PV.gNs, PV.dVar, PV.vVar, PV.dC, PV.dOp, PV.fOp, PV.dNeg, PV.dNot, PV.dAnd, PV.dOr, PV.dIfE, PV.dNil, PV.dCons, PV.dTup, PV.fLst, PV.dLst, PV.dCall, PV.fCall, PV.dTest, PV.tst, PV.dTru, PV.tru, PV.dAndT, PV.dOrT, PV.dNotT, PV.dYes, PV.dChain, PV.dIsi, PV.isi, PV.tyn, PV.dPart, PV.dNoPart, PV.fSl, PV.lItems, PV.iOf, PV.dItems, PV.iBy, PV.sItems, PV.dwipe, PV.bMax2, PV.bMin2, PV.bAbs, PV.bInt, PV.bLen, PV.bTup, PV.bList, PV.dAdd, PV.dSub, PV.dLt, PV.dLe, PV.dGt, PV.dGe, PV.dIsN, PV.dNotN, PV.isNon_non, PV.isNon_int, PV.fAdd, PV.dIx_l, PV.dIx_t, PV.dIx_f, PV.at0, PV.at1, PV.at2, PV.at3, PV.at4, Option.bind_some, Option.map_some, Option.bind_none, Option.map_none, List.getElem?_cons_zero, List.getElem?_cons_succ, List.set_cons_zero, List.set_cons_succ, if_true, if_false, PV.kit_ii, PV.kit_ti, PV.kit_tt, PV.kit_ib, PV.kit_it, PV.kit_ll, PV.kit_li, Bool.not_true, Bool.not_false, Bool.false_eq_true, Bool.not_eq_true, reduceIte, List.length_cons, List.length_nil, Nat.reduceAdd, Nat.zero_add, PV.most_0, PV.most_1, PV.most_2, PV.most_3, PV.most_4, PV.most_5, PV.most_6, PV.most_7, decide_true, decide_false, List.nil_append, List.cons_append]
        · obtain ⟨q1, q2⟩ := tl b hk
          have h3 := heirS_at (sa := sa') (sb := sb) (t := t) (s := s)
          rw [gone, q1, q2]
          refine ⟨rfl, ?_⟩
          have g1 : (as' ++ [a]).length = sa'.length + 1 := by simp [la']
          rw [g1]
          simpa using h3
  · have no : ∀ l ∈ ls, isP l p = false ∧ l.d.Fine := fun l m => ⟨by
      cases z : isP l p with
      | false => rfl
      | true => exact (c (isP_of z ▸ m)).elim, hf l m⟩
    obtain ⟨y4, y5, e⟩ := kept_run (p := p) (x0 := some (.dat (.tup (ptsD ls ss)))) ls ss [] 0 [] none none none none hl (by simpa using (by omega : ls.length ≤ 1000000)) no
    rw [List.append_nil, List.nil_append, bump_zero, room_zero, PV.dLoop_nil] at e
    refine ⟨ls, ss, ?_, hl, fun k m => ⟨m, (no k m).1⟩, .inl ⟨rfl, rfl⟩⟩
    rw [run_kept_parts]
    unfold e_kept_parts
    simp only [e_kept_parts_l1_is, e, PV.fin, PV.dSeq, PV.dIf, PV.dAsg, PV.dAsgO, PV.dRet, PV.dRetN, PV.dNext, PV.dBreak, PV.dCont, PV.dDrop, PV.dApp, PV.dExt, PV.dSetI, PV.dPop, PV.dAug, PV.dAugI, PV.dFrz, PV.onOwn, PV.gN, PV.gT, PV.gC, PV.gNs, PV.dVar, PV.vVar, PV.dC, PV.dOp, PV.fOp, PV.dNeg, PV.dNot, PV.dAnd, PV.dOr, PV.dIfE, PV.dNil, PV.dCons, PV.dTup, PV.fLst, PV.dLst, PV.dCall, PV.fCall, PV.dTest, PV.tst, PV.dTru, PV.tru, PV.dAndT, PV.dOrT, PV.dNotT, PV.dYes, PV.dChain, PV.dIsi, PV.isi, PV.tyn, PV.dPart, PV.dNoPart, PV.fSl, PV.lItems, PV.iOf, PV.dItems, PV.iBy, PV.sItems, PV.dwipe, PV.bMax2, PV.bMin2, PV.bAbs, PV.bInt, PV.bLen, PV.bTup, PV.bList, PV.dAdd, PV.dSub, PV.dLt, PV.dLe, PV.dGt, PV.dGe, PV.dIsN, PV.dNotN, PV.isNon_non, PV.isNon_int, PV.fAdd, PV.dIx_l, PV.dIx_t, PV.dIx_f, PV.at0, PV.at1, PV.at2, PV.at3, PV.at4, Option.bind_some, Option.map_some, Option.bind_none, Option.map_none, List.getElem?_cons_zero, List.getElem?_cons_succ, List.set_cons_zero, List.set_cons_succ, if_true, if_false, PV.kit_ii, PV.kit_ti, PV.kit_tt, PV.kit_ib, PV.kit_it, PV.kit_ll, PV.kit_li, Bool.not_true, Bool.not_false, Bool.false_eq_true, Bool.not_eq_true, reduceIte, List.length_cons, List.length_nil, Nat.reduceAdd, Nat.zero_add, PV.most_0, PV.most_1, PV.most_2, PV.most_3, PV.most_4, PV.most_5, PV.most_6, PV.most_7, decide_true, decide_false, List.nil_append, List.cons_append]

theorem removed_loop {m : Nat} {p : Int} {b : Bool} {x0 x3 x4 : Option PV.DV} : ∀ (K : List Lay) (Z : List Int) (acc : List PV.D) (x6 x7 x8 : Option PV.DV), K.length = Z.length → acc.length + (K.flatMap Lay.panes).length ≤ 900000 →
    (∀ k ∈ K, isP k p = false ∧ f_removed m [k.d, .int p] = some (k.taken p).d ∧ (∀ s, (partL b (k.taken p)).length = (partS b (k.taken p) s).length) ∧ (partL b (k.taken p)).length ≤ k.panes.length ∧ 0 < k.panes.length) →
    ∃ y6 y7 y8, PV.dLoop (e_removed_t1 (f_removed m)) (ptsD K Z) [x0, some (.dat (.int p)), some (.dat (.str (nm b))), x3, x4, some (.own acc), x6, x7, x8] =
      some (.nx [x0, some (.dat (.int p)), some (.dat (.str (nm b))), x3, x4, some (.own (acc ++ ptsD (takL p b K) (takS p b K Z))), y6, y7, y8])
  | [], Z, acc, x6, x7, x8, _, _, _ => ⟨x6, x7, x8, by simp [ptsD, takL, PV.dLoop_nil]⟩
  | k :: K, [], _, _, _, _, h, _, _ => by simp at h
  | k :: K, s :: Z, acc, x6, x7, x8, hl, hm, hh => by
    simp only [List.length_cons] at hl
    rw [List.flatMap_cons, List.length_append] at hm
    obtain ⟨h1, h2, h3, h4, h5⟩ := hh k (List.mem_cons_self ..)
    have pl : (ptsD (partL b (k.taken p)) (partS b (k.taken p) s)).length = (partL b (k.taken p)).length := ptsD_len (h3 s)
    obtain ⟨y6, y7, y8, e⟩ := removed_loop (m := m) (p := p) (b := b) (x0 := x0) (x3 := x3) (x4 := x4) K Z (acc ++ ptsD (partL b (k.taken p)) (partS b (k.taken p) s)) (some (.dat k.d)) (some (.dat (.int s))) (some (.dat (k.taken p).d)) (by omega) (by rw [List.length_append, pl]; omega) fun k m => hh k (List.mem_cons_of_mem _ m)
    refine ⟨y6, y7, y8, ?_⟩
    have hs : ptsD (k :: K) (s :: Z) = pt k.d s :: ptsD K Z := rfl
    have t1 : takL p b (k :: K) = partL b (k.taken p) ++ takL p b K := by
      show (if isP k p = true then _ else _) = _
      rw [if_neg (by rw [h1]; simp)]
    have t2 : takS p b (k :: K) (s :: Z) = partS b (k.taken p) s ++ takS p b K Z := by
      show (if isP k p = true then _ else partS b (k.taken p) s ++ takS p b K Z) = _
      rw [if_neg (by rw [h1]; simp)]
    rw [hs, PV.dLoop_nx, e, t1, t2, ptsD_app (h3 s), List.append_assoc]
    cases ht : k.taken p with
    | pane n =>
      rw [ht] at h2 h4
      have k3 : (acc.length < PV.most) = True := PV.lt_most (by omega)
      simp only [e_removed_t1, e_removed_b1, pt, h2, Lay.d, k3, partL, partS, ptsD_one, PV.fin, PV.dSeq, PV.dIf, PV.dAsg, PV.dAsgO, PV.dRet, PV.dRetN, PV.dNext, PV.dBreak, PV.dCont, PV.dDrop, PV.dApp, PV.dExt, PV.dSetI, PV.dPop, PV.dAug, PV.dAugI, PV.dFrz, PV.onOwn, PV.gN, PV.gT, PV.gC, PV.gNs, PV.dVar, PV.vVar, PV.dC, PV.dOp, PV.fOp, PV.dNeg, PV.dNot, PV.dAnd, PV.dOr, PV.dIfE, PV.dNil, PV.dCons, PV.dTup, PV.fLst, PV.dLst, PV.dCall, PV.fCall, PV.dTest, PV.tst, PV.dTru, PV.tru, PV.dAndT, PV.dOrT, PV.dNotT, PV.dYes, PV.dChain, PV.dIsi, PV.isi, PV.tyn, PV.dPart, PV.dNoPart, PV.fSl, PV.lItems, PV.iOf, PV.dItems, PV.iBy, PV.sItems, PV.dwipe, PV.bMax2, PV.bMin2, PV.bAbs, PV.bInt, PV.bLen, PV.bTup, PV.bList, PV.dAdd, PV.dSub, PV.dLt, PV.dLe, PV.dGt, PV.dGe, PV.dIsN, PV.dNotN, PV.isNon_non, PV.isNon_int, PV.fAdd, PV.dIx_l, PV.dIx_t, PV.dIx_f, PV.at0, PV.at1, PV.at2, PV.at3, PV.at4, Option.bind_some, Option.map_some, Option.bind_none, Option.map_none, List.getElem?_cons_zero, List.getElem?_cons_succ, List.set_cons_zero, List.set_cons_succ, if_true, if_false, PV.kit_ii, PV.kit_ti, PV.kit_tt, PV.kit_ib, PV.kit_it, PV.kit_ll, PV.kit_li, Bool.not_true, Bool.not_false, Bool.false_eq_true, Bool.not_eq_true, reduceIte, List.length_cons, List.length_nil, Nat.reduceAdd, Nat.zero_add, PV.most_0, PV.most_1, PV.most_2, PV.most_3, PV.most_4, PV.most_5, PV.most_6, PV.most_7, decide_true, decide_false, List.nil_append, List.cons_append]
    | node b' ks ts =>
      rw [ht] at h2 h4
      rw [Lay.d_node] at h2
      have hb := dEq_nm b b'
      by_cases c : b' = b
      · rw [decide_eq_true c] at hb
        have e1 : partL b (.node b' ks ts) = ks := by unfold partL; dsimp only; rw [if_pos c]
        have e2 : partS b (.node b' ks ts) s = ts := by unfold partS; dsimp only; rw [if_pos c]
        rw [e1] at h4
        have k3 : (acc.length + (ptsD ks ts).length ≤ PV.most) = True := PV.le_most (by
          have : (ptsD ks ts).length ≤ ks.length := by unfold ptsD; rw [List.length_zipWith]; omega
          omega)
        simp only [e_removed_t1, e_removed_b1, pt, h2, hb, k3, e1, e2, Lay.d_node, PV.fin, PV.dSeq, PV.dIf, PV.dAsg, PV.dAsgO, PV.dRet, PV.dRetN, PV.dNext, PV.dBreak, PV.dCont, PV.dDrop, PV.dApp, PV.dExt, PV.dSetI, PV.dPop, PV.dAug, PV.dAugI, PV.dFrz, PV.onOwn, PV.gN, PV.gT, PV.gC, PV.gNs, PV.dVar, PV.vVar, PV.dC, PV.dOp, PV.fOp, PV.dNeg, PV.dNot, PV.dAnd, PV.dOr, PV.dIfE, PV.dNil, PV.dCons, PV.dTup, PV.fLst, PV.dLst, PV.dCall, PV.fCall, PV.dTest, PV.tst, PV.dTru, PV.tru, PV.dAndT, PV.dOrT, PV.dNotT, PV.dYes, PV.dChain, PV.dIsi, PV.isi, PV.tyn, PV.dPart, PV.dNoPart, PV.fSl, PV.lItems, PV.iOf, PV.dItems, PV.iBy, PV.sItems, PV.dwipe, PV.bMax2, PV.bMin2, PV.bAbs, PV.bInt, PV.bLen, PV.bTup, PV.bList, PV.dAdd, PV.dSub, PV.dLt, PV.dLe, PV.dGt, PV.dGe, PV.dIsN, PV.dNotN, PV.isNon_non, PV.isNon_int, PV.fAdd, PV.dIx_l, PV.dIx_t, PV.dIx_f, PV.at0, PV.at1, PV.at2, PV.at3, PV.at4, Option.bind_some, Option.map_some, Option.bind_none, Option.map_none, List.getElem?_cons_zero, List.getElem?_cons_succ, List.set_cons_zero, List.set_cons_succ, if_true, if_false, PV.kit_ii, PV.kit_ti, PV.kit_tt, PV.kit_ib, PV.kit_it, PV.kit_ll, PV.kit_li, Bool.not_true, Bool.not_false, Bool.false_eq_true, Bool.not_eq_true, reduceIte, List.length_cons, List.length_nil, Nat.reduceAdd, Nat.zero_add, PV.most_0, PV.most_1, PV.most_2, PV.most_3, PV.most_4, PV.most_5, PV.most_6, PV.most_7, decide_true, decide_false, List.nil_append, List.cons_append]
      · rw [decide_eq_false c] at hb
        have e1 : partL b (.node b' ks ts) = [.node b' ks ts] := by unfold partL; dsimp only; rw [if_neg c]
        have e2 : partS b (.node b' ks ts) s = [s] := by unfold partS; dsimp only; rw [if_neg c]
        have k3 : (acc.length < PV.most) = True := PV.lt_most (by omega)
        simp only [e_removed_t1, e_removed_b1, pt, h2, hb, k3, e1, e2, ptsD_one, Lay.d_node, PV.fin, PV.dSeq, PV.dIf, PV.dAsg, PV.dAsgO, PV.dRet, PV.dRetN, PV.dNext, PV.dBreak, PV.dCont, PV.dDrop, PV.dApp, PV.dExt, PV.dSetI, PV.dPop, PV.dAug, PV.dAugI, PV.dFrz, PV.onOwn, PV.gN, PV.gT, PV.gC, PV.gNs, PV.dVar, PV.vVar, PV.dC, PV.dOp, PV.fOp, PV.dNeg, PV.dNot, PV.dAnd, PV.dOr, PV.dIfE, PV.dNil, PV.dCons, PV.dTup, PV.fLst, PV.dLst, PV.dCall, PV.fCall, PV.dTest, PV.tst, PV.dTru, PV.tru, PV.dAndT, PV.dOrT, PV.dNotT, PV.dYes, PV.dChain, PV.dIsi, PV.isi, PV.tyn, PV.dPart, PV.dNoPart, PV.fSl, PV.lItems, PV.iOf, PV.dItems, PV.iBy, PV.sItems, PV.dwipe, PV.bMax2, PV.bMin2, PV.bAbs, PV.bInt, PV.bLen, PV.bTup, PV.bList, PV.dAdd, PV.dSub, PV.dLt, PV.dLe, PV.dGt, PV.dGe, PV.dIsN, PV.dNotN, PV.isNon_non, PV.isNon_int, PV.fAdd, PV.dIx_l, PV.dIx_t, PV.dIx_f, PV.at0, PV.at1, PV.at2, PV.at3, PV.at4, Option.bind_some, Option.map_some, Option.bind_none, Option.map_none, List.getElem?_cons_zero, List.getElem?_cons_succ, List.set_cons_zero, List.set_cons_succ, if_true, if_false, PV.kit_ii, PV.kit_ti, PV.kit_tt, PV.kit_ib, PV.kit_it, PV.kit_ll, PV.kit_li, Bool.not_true, Bool.not_false, Bool.false_eq_true, Bool.not_eq_true, reduceIte, List.length_cons, List.length_nil, Nat.reduceAdd, Nat.zero_add, PV.most_0, PV.most_1, PV.most_2, PV.most_3, PV.most_4, PV.most_5, PV.most_6, PV.most_7, decide_true, decide_false, List.nil_append, List.cons_append]

theorem removed_ok {p : Int} {B : Int} {M P : Nat} (hB : 0 ≤ B) (hM : M ≤ 100000) (hP : P ≤ 100000) : ∀ (d : Nat) {l : Lay}, Good B M d l → l.alt → l.panes.Nodup → l.panes.length ≤ P → d ≤ 21 → ∀ n, d < n → f_removed n [l.d, .int p] = some (l.taken p).d := by
  intro d
  induction d with
  | zero =>
    intro l g _ _ _ _ n hn
    obtain ⟨m, rfl⟩ : ∃ m, n = m + 1 := ⟨n - 1, by omega⟩
    cases g
    rfl
  | succ d ih =>
    intro l g al hn hp hd n hnn
    obtain ⟨m, rfl⟩ : ∃ m, n = m + 1 := ⟨n - 1, by omega⟩
    cases g with
    | pane k => rfl
    | node hl h2 hm hs hg =>
      rename_i b ls ss
      rw [Lay.panes_node] at hn hp
      rw [Lay.alt, altL_is] at al
      have nd : ∀ l ∈ ls, l.panes.Nodup := fun l m => (List.pairwise_flatMap.mp hn).1 l m
      have kid : ∀ l ∈ ls, Good (capB B d) P d (l.taken p) := fun l m => taken_good hB (hg l m) (nd l m) (Nat.le_trans (panes_sub m) hp)
      obtain ⟨K, Z, hk, kl, kin, kc⟩ := kept_ok (p := p) hl h2 (by omega) (fun l m => (hg l m).fine (by omega)) hn
      have each : ∀ k ∈ K, isP k p = false ∧ f_removed m [k.d, .int p] = some (k.taken p).d ∧ (∀ s, (partL b (k.taken p)).length = (partS b (k.taken p) s).length) ∧ (partL b (k.taken p)).length ≤ k.panes.length ∧ 0 < k.panes.length := fun k mk => by
        obtain ⟨ml, np⟩ := kin k mk
        refine ⟨np, ih (hg k ml) (al k ml).2 (nd k ml) (Nat.le_trans (panes_sub ml) hp) (by omega) m (by omega), fun s => (part_len (kid k ml)).1, ?_, (hg k ml).least.2.2.1⟩
        have a := lays_len (partL b (k.taken p)) fun l m => (part_good (kid k ml) l m).least.2.2.1
        rw [part_panes, taken_panes (hg k ml) np] at a
        exact Nat.le_trans a (List.length_filter_le _ _)
      have KP : ∀ Q : List Lay, (∀ k ∈ Q, k ∈ ls) → True := fun _ _ => trivial
      have len1 : (ptsD K Z).length = K.length := ptsD_len kl
      rw [Lay.d_node, run_removed]
      unfold e_removed
      rcases kc with ⟨rfl, rfl⟩ | ⟨k1, k2, k3⟩
      · obtain ⟨y6, y7, y8, e⟩ := removed_loop (m := m) (p := p) (b := b) (x0 := some (.dat (.tup [.str (nm b), .tup (ptsD K Z)]))) (x3 := some (.dat (.tup (ptsD K Z)))) (x4 := some (.dat (.lst (ptsD K Z)))) K Z [] none none none hl (by rw [List.length_nil]; omega) each
        rw [List.nil_append] at e
        obtain ⟨t1, t2, t3⟩ := takLS (p := p) (b := b) (B := B) (C := capB B d) (P := P) (d := d) (by have := capB_ge hB (d := d); omega) K Z hl kid hs
        have tl := takL_len (p := p) (b := b) (ls := K) fun l m => (part_len (b := b) (s := 0) (kid l m)).2.1
        have fl : (K.filter fun l => !isP l p) = K := List.filter_eq_self.mpr fun l m => by rw [(each l m).1]; rfl
        rw [fl] at tl
        have gn := goneI_no (p := p) K 0 (-1) fun l m => (each l m).1
        have e3 : (Lay.node b K Z).taken p = .node b (takL p b K) (takS p b K Z) := by
          unfold Lay.taken
          rw [gn, heirS_no, oneOr_d (by omega)]
        have len2 : (ptsD (takL p b K) (takS p b K Z)).length = (takL p b K).length := ptsD_len t1
        have tP : (takL p b K).length ≤ PV.most := by
          have a := lays_len (takL p b K) fun l m => (t2 l m).least.2.2.1
          rw [takL_panes _ fun l m => hg l m] at a
          have f1 := List.length_filter_le (fun x => decide (x ≠ p)) (K.flatMap Lay.panes)
          unfold PV.most
          omega
        have hq : PV.dEq (.int (K.length : Int)) (.int 1) = some (.bl false) := by rw [PV.dEq_int, decide_eq_false (by omega)]
        rw [e3, Lay.d_node]
        simp only [hk, len1, hq, e_removed_l1_is, e, len2, tP, PV.fin, PV.dSeq, PV.dIf, PV.dAsg, PV.dAsgO, PV.dRet, PV.dRetN, PV.dNext, PV.dBreak, PV.dCont, PV.dDrop, PV.dApp, PV.dExt, PV.dSetI, PV.dPop, PV.dAug, PV.dAugI, PV.dFrz, PV.onOwn, PV.gN, PV.gT, PV.gC, PV.gNs, PV.dVar, PV.vVar, PV.dC, PV.dOp, PV.fOp, PV.dNeg, PV.dNot, PV.dAnd, PV.dOr, PV.dIfE, PV.dNil, PV.dCons, PV.dTup, PV.fLst, PV.dLst, PV.dCall, PV.fCall, PV.dTest, PV.tst, PV.dTru, PV.tru, PV.dAndT, PV.dOrT, PV.dNotT, PV.dYes, PV.dChain, PV.dIsi, PV.isi, PV.tyn, PV.dPart, PV.dNoPart, PV.fSl, PV.lItems, PV.iOf, PV.dItems, PV.iBy, PV.sItems, PV.dwipe, PV.bMax2, PV.bMin2, PV.bAbs, PV.bInt, PV.bLen, PV.bTup, PV.bList, PV.dAdd, PV.dSub, PV.dLt, PV.dLe, PV.dGt, PV.dGe, PV.dIsN, PV.dNotN, PV.isNon_non, PV.isNon_int, PV.fAdd, PV.dIx_l, PV.dIx_t, PV.dIx_f, PV.at0, PV.at1, PV.at2, PV.at3, PV.at4, Option.bind_some, Option.map_some, Option.bind_none, Option.map_none, List.getElem?_cons_zero, List.getElem?_cons_succ, List.set_cons_zero, List.set_cons_succ, if_true, if_false, PV.kit_ii, PV.kit_ti, PV.kit_tt, PV.kit_ib, PV.kit_it, PV.kit_ll, PV.kit_li, Bool.not_true, Bool.not_false, Bool.false_eq_true, Bool.not_eq_true, reduceIte, List.length_cons, List.length_nil, Nat.reduceAdd, Nat.zero_add, PV.most_0, PV.most_1, PV.most_2, PV.most_3, PV.most_4, PV.most_5, PV.most_6, PV.most_7, decide_true, decide_false, List.nil_append, List.cons_append]
      · have no : ∀ k ∈ K, isB b k = false ∧ isP k p = false ∧ k.taken p = k := fun k mk => ⟨(al k (kin k mk).1).1, (kin k mk).2, taken_no (hg k (kin k mk).1) (al k (kin k mk).1).2 (k2 k mk)⟩
        obtain ⟨q1, q2⟩ := k3 b no
        have e3 : (Lay.node b ls ss).taken p = oneOr b K Z := by
          unfold Lay.taken
          rw [q1, q2]
        have Kls : (K.flatMap Lay.panes).length ≤ 100000 := by
          have a : K.flatMap Lay.panes = (ls.flatMap Lay.panes).filter fun x => decide (x ≠ p) := by
            rw [← takL_panes (p := p) (b := b) ls fun l m => hg l m, q1]
          rw [a]
          exact Nat.le_trans (List.length_filter_le _ _) (by omega)
        by_cases c : K.length = 1
        · match K, Z, kl, c with
          | [k], [z], _, _ =>
            have hq : PV.dEq (.int ((1 : Nat) : Int)) (.int 1) = some (.bl true) := PV.dEq_refl (PV.fine_int 1)
            rw [e3]
            simp only [hk, ptsD_one, pt, hq, oneOr, PV.fin, PV.dSeq, PV.dIf, PV.dAsg, PV.dAsgO, PV.dRet, PV.dRetN, PV.dNext, PV.dBreak, PV.dCont, PV.dDrop, PV.dApp, PV.dExt, PV.dSetI, PV.dPop, PV.dAug, PV.dAugI, PV.dFrz, PV.onOwn, PV.gN, PV.gT, PV.gC, PV.gNs, PV.dVar, PV.vVar, PV.dC, PV.dOp, PV.fOp, PV.dNeg, PV.dNot, PV.dAnd, PV.dOr, PV.dIfE, PV.dNil, PV.dCons, PV.dTup, PV.fLst, PV.dLst, PV.dCall, PV.fCall, PV.dTest, PV.tst, PV.dTru, PV.tru, PV.dAndT, PV.dOrT, PV.dNotT, PV.dYes, PV.dChain, PV.dIsi, PV.isi, PV.tyn, PV.dPart, PV.dNoPart, PV.fSl, PV.lItems, PV.iOf, PV.dItems, PV.iBy, PV.sItems, PV.dwipe, PV.bMax2, PV.bMin2, PV.bAbs, PV.bInt, PV.bLen, PV.bTup, PV.bList, PV.dAdd, PV.dSub, PV.dLt, PV.dLe, PV.dGt, PV.dGe, PV.dIsN, PV.dNotN, PV.isNon_non, PV.isNon_int, PV.fAdd, PV.dIx_l, PV.dIx_t, PV.dIx_f, PV.at0, PV.at1, PV.at2, PV.at3, PV.at4, Option.bind_some, Option.map_some, Option.bind_none, Option.map_none, List.getElem?_cons_zero, List.getElem?_cons_succ, List.set_cons_zero, List.set_cons_succ, if_true, if_false, PV.kit_ii, PV.kit_ti, PV.kit_tt, PV.kit_ib, PV.kit_it, PV.kit_ll, PV.kit_li, Bool.not_true, Bool.not_false, Bool.false_eq_true, Bool.not_eq_true, reduceIte, List.length_cons, List.length_nil, Nat.reduceAdd, Nat.zero_add, PV.most_0, PV.most_1, PV.most_2, PV.most_3, PV.most_4, PV.most_5, PV.most_6, PV.most_7, decide_true, decide_false, List.nil_append, List.cons_append]
        · obtain ⟨y6, y7, y8, e⟩ := removed_loop (m := m) (p := p) (b := b) (x0 := some (.dat (.tup [.str (nm b), .tup (ptsD ls ss)]))) (x3 := some (.dat (.tup (ptsD ls ss)))) (x4 := some (.dat (.lst (ptsD K Z)))) K Z [] none none none kl (by rw [List.length_nil]; omega) each
          rw [List.nil_append, takL_no K no, takS_no K Z kl no] at e
          have hq : PV.dEq (.int (K.length : Int)) (.int 1) = some (.bl false) := by rw [PV.dEq_int, decide_eq_false (by omega)]
          have tP : K.length ≤ PV.most := by unfold PV.most; omega
          rw [e3, oneOr_d (by omega), Lay.d_node]
          simp only [hk, len1, hq, e_removed_l1_is, e, tP, PV.fin, PV.dSeq, PV.dIf, PV.dAsg, PV.dAsgO, PV.dRet, PV.dRetN, PV.dNext, PV.dBreak, PV.dCont, PV.dDrop, PV.dApp, PV.dExt, PV.dSetI, PV.dPop, PV.dAug, PV.dAugI, PV.dFrz, PV.onOwn, PV.gN, PV.gT, PV.gC, PV.gNs, PV.dVar, PV.vVar, PV.dC, PV.dOp, PV.fOp, PV.dNeg, PV.dNot, PV.dAnd, PV.dOr, PV.dIfE, PV.dNil, PV.dCons, PV.dTup, PV.fLst, PV.dLst, PV.dCall, PV.fCall, PV.dTest, PV.tst, PV.dTru, PV.tru, PV.dAndT, PV.dOrT, PV.dNotT, PV.dYes, PV.dChain, PV.dIsi, PV.isi, PV.tyn, PV.dPart, PV.dNoPart, PV.fSl, PV.lItems, PV.iOf, PV.dItems, PV.iBy, PV.sItems, PV.dwipe, PV.bMax2, PV.bMin2, PV.bAbs, PV.bInt, PV.bLen, PV.bTup, PV.bList, PV.dAdd, PV.dSub, PV.dLt, PV.dLe, PV.dGt, PV.dGe, PV.dIsN, PV.dNotN, PV.isNon_non, PV.isNon_int, PV.fAdd, PV.dIx_l, PV.dIx_t, PV.dIx_f, PV.at0, PV.at1, PV.at2, PV.at3, PV.at4, Option.bind_some, Option.map_some, Option.bind_none, Option.map_none, List.getElem?_cons_zero, List.getElem?_cons_succ, List.set_cons_zero, List.set_cons_succ, if_true, if_false, PV.kit_ii, PV.kit_ti, PV.kit_tt, PV.kit_ib, PV.kit_it, PV.kit_ll, PV.kit_li, Bool.not_true, Bool.not_false, Bool.false_eq_true, Bool.not_eq_true, reduceIte, List.length_cons, List.length_nil, Nat.reduceAdd, Nat.zero_add, PV.most_0, PV.most_1, PV.most_2, PV.most_3, PV.most_4, PV.most_5, PV.most_6, PV.most_7, decide_true, decide_false, List.nil_append, List.cons_append]

theorem without_ok {k : Nat} {l : Lay} (g : Stg k l) (al : l.alt) (hk : k ≤ 15) (hn : l.panes.Nodup) {w h : Int} (hw : w ≤ 1000) (hh : h ≤ 1000) (p : Int) :
    f_without [l.d, .int w, .int h, .int p] = some (l.without w h p).d := by
  have p2 := two_pow (k := k) hk
  have gp := g.2
  have ft := fitted_ok (by decide) (by omega) k g.1 (by omega) (by omega) 24 (by omega) w h (by omega) (by omega)
  have fs := fit_stg g.1 (Nat.le_refl _) g.2 hk hw hh
  have fs2 := fs.2
  have fp : (l.fit w h).panes = l.panes := fit_panes g.1 w h
  have nf : (l.fit w h).panes.Nodup := by rw [fp]; exact hn
  have rm := removed_ok (p := p) (by decide) (by omega) (P := 2 ^ k) (by omega) k fs.1 (fit_alt _ _ _ al) nf fs2 (by omega) 24 (by omega)
  have tg := taken_good (p := p) (P := 2 ^ k) (by decide) fs.1 nf fs2
  have tp : ((l.fit w h).taken p).panes.length ≤ 2 ^ k := by
    cases z : isP (l.fit w h) p with
    | true => rw [isP_of z] at fs2 ⊢; exact fs2
    | false => rw [taken_panes fs.1 z]; exact Nat.le_trans (List.length_filter_le _ _) fs2
  have ft2 := fitted_ok (capB_le hk) (by omega) k tg (by omega) (by omega) 24 (by omega) w h (by omega) (by omega)
  rw [run_without]
  unfold e_without
  simp only [ft, rm, ft2, PV.fin, PV.dSeq, PV.dIf, PV.dAsg, PV.dAsgO, PV.dRet, PV.dRetN, PV.dNext, PV.dBreak, PV.dCont, PV.dDrop, PV.dApp, PV.dExt, PV.dSetI, PV.dPop, PV.dAug, PV.dAugI, PV.dFrz, PV.onOwn, PV.gN, PV.gT, PV.gC, PV.gNs, PV.dVar, PV.vVar, PV.dC, PV.dOp, PV.fOp, PV.dNeg, PV.dNot, PV.dAnd, PV.dOr, PV.dIfE, PV.dNil, PV.dCons, PV.dTup, PV.fLst, PV.dLst, PV.dCall, PV.fCall, PV.dTest, PV.tst, PV.dTru, PV.tru, PV.dAndT, PV.dOrT, PV.dNotT, PV.dYes, PV.dChain, PV.dIsi, PV.isi, PV.tyn, PV.dPart, PV.dNoPart, PV.fSl, PV.lItems, PV.iOf, PV.dItems, PV.iBy, PV.sItems, PV.dwipe, PV.bMax2, PV.bMin2, PV.bAbs, PV.bInt, PV.bLen, PV.bTup, PV.bList, PV.dAdd, PV.dSub, PV.dLt, PV.dLe, PV.dGt, PV.dGe, PV.dIsN, PV.dNotN, PV.isNon_non, PV.isNon_int, PV.fAdd, PV.dIx_l, PV.dIx_t, PV.dIx_f, PV.at0, PV.at1, PV.at2, PV.at3, PV.at4, Option.bind_some, Option.map_some, Option.bind_none, Option.map_none, List.getElem?_cons_zero, List.getElem?_cons_succ, List.set_cons_zero, List.set_cons_succ, if_true, if_false, PV.kit_ii, PV.kit_ti, PV.kit_tt, PV.kit_ib, PV.kit_it, PV.kit_ll, PV.kit_li, Bool.not_true, Bool.not_false, Bool.false_eq_true, Bool.not_eq_true, reduceIte, List.length_cons, List.length_nil, Nat.reduceAdd, Nat.zero_add, PV.most_0, PV.most_1, PV.most_2, PV.most_3, PV.most_4, PV.most_5, PV.most_6, PV.most_7, decide_true, decide_false, List.nil_append, List.cons_append]
  rfl
/-! plain layouts -/
/-! ## the program's path to a border -/
mutual
def Lay.path (p : Int) (b : Bool) : Lay → Option (List Nat)
  | .pane _ => none
  | .node b' ls _ => pathL p b b' 0 ls
def pathL (p : Int) (b b' : Bool) (i : Nat) : List Lay → Option (List Nat)
  | [] => none
  | l :: ls => if p ∈ l.panes then
      match l.path p b with
      | some q => some (i :: q)
      | none => if b' = b ∧ ls ≠ [] then some [i] else pathL p b b' (i + 1) ls
    else pathL p b b' (i + 1) ls
end
theorem pathL_none {p : Int} {b b' : Bool} : ∀ (ls : List Lay) (i : Nat), (∀ l ∈ ls, p ∉ l.panes) → pathL p b b' i ls = none
  | [], _, _ => by simp [pathL]
  | l :: ls, i, h => by
    unfold pathL
    rw [if_neg (h l (List.mem_cons_self ..))]
    exact pathL_none ls _ fun k m => h k (List.mem_cons_of_mem _ m)
def pathD : Option (List Nat) → PV.D
  | none => .non
  | some q => .lst (q.map fun (i : Nat) => PV.D.int (i : Int))

theorem isNon_lst {ds : List PV.D} : PV.isNon (.lst ds) = false := rfl
theorem path_loop {m : Nat} {p : Int} {b b' : Bool} {x0 : Option PV.DV} {ps : List PV.D} : ∀ (ls : List Lay) (ss : List Int) (i : Nat) (x5 x6 x7 x8 : Option PV.DV), ls.length = ss.length → ps.length = i + ls.length → ps.length ≤ 1000000 →
    (∀ l ∈ ls, f_panes 24 [l.d] = some (.lst (l.panes.map .int)) ∧ f_path_to_border m [l.d, .int p, .str (nm b)] = some (pathD (l.path p b)) ∧ ∀ q, l.path p b = some q → q.length ≤ 1000) →
    (∃ q, pathL p b b' i ls = some q ∧ PV.dLoop (e_path_to_border_t1 (f_path_to_border m)) ((List.range' i ls.length).zipWith (fun (k : Nat) d => PV.D.tup [.int k, d]) (ptsD ls ss)) [x0, some (.dat (.int p)), some (.dat (.str (nm b))), some (.dat (.str (nm b'))), some (.dat (.tup ps)), x5, x6, x7, x8] = some (.rt (pathD (some q)))) ∨
    (pathL p b b' i ls = none ∧ ∃ y5 y6 y7 y8, PV.dLoop (e_path_to_border_t1 (f_path_to_border m)) ((List.range' i ls.length).zipWith (fun (k : Nat) d => PV.D.tup [.int k, d]) (ptsD ls ss)) [x0, some (.dat (.int p)), some (.dat (.str (nm b))), some (.dat (.str (nm b'))), some (.dat (.tup ps)), x5, x6, x7, x8] = some (.nx [x0, some (.dat (.int p)), some (.dat (.str (nm b))), some (.dat (.str (nm b'))), some (.dat (.tup ps)), y5, y6, y7, y8]))
  | [], ss, i, x5, x6, x7, x8, _, _, _, _ => .inr ⟨by simp [pathL], x5, x6, x7, x8, by simp [ptsD, PV.dLoop_nil]⟩
  | l :: ls, [], _, _, _, _, _, h, _, _, _ => by simp at h
  | l :: ls, s :: ss, i, x5, x6, x7, x8, hl, hp, hm, hh => by
    simp only [List.length_cons] at hl hp
    obtain ⟨h1, h2, h3⟩ := hh l (List.mem_cons_self ..)
    have rest := fun (x8 : Option PV.DV) => path_loop (m := m) (p := p) (b := b) (b' := b') (x0 := x0) (ps := ps) ls ss (i + 1) (some (.dat (.int (i : Int)))) (some (.dat l.d)) (some (.dat (.int s))) x8 (by omega) (by omega) hm fun k mk => hh k (List.mem_cons_of_mem _ mk)
    have hs : (List.range' i (l :: ls).length).zipWith (fun (k : Nat) d => PV.D.tup [.int k, d]) (ptsD (l :: ls) (s :: ss)) = PV.D.tup [.int (i : Int), pt l.d s] :: (List.range' (i + 1) ls.length).zipWith (fun (k : Nat) d => PV.D.tup [.int k, d]) (ptsD ls ss) := by
      rw [List.length_cons, List.range'_succ]; rfl
    have hin := PV.dIn_ints (i := p) (ns := l.panes)
    have hb := dEq_nm b b'
    rw [hs]
    unfold pathL
    by_cases c : p ∈ l.panes
    · rw [decide_eq_true c] at hin
      rw [if_pos c]
      cases hq : l.path p b with
      | some q =>
        have hlen := h3 q hq
        rw [hq] at h2
        refine .inl ⟨i :: q, rfl, ?_⟩
        rw [PV.dLoop_rt]
        have k3 : (1 + (q.map fun (i : Nat) => PV.D.int (i : Int)).length ≤ PV.most) = True := PV.le_most (by simp; omega)
        simp only [e_path_to_border_t1, e_path_to_border_b1, pt, h1, hin, h2, pathD, isNon_lst, k3, List.map_cons, PV.fin, PV.dSeq, PV.dIf, PV.dAsg, PV.dAsgO, PV.dRet, PV.dRetN, PV.dNext, PV.dBreak, PV.dCont, PV.dDrop, PV.dApp, PV.dExt, PV.dSetI, PV.dPop, PV.dAug, PV.dAugI, PV.dFrz, PV.onOwn, PV.gN, PV.gT, PV.gC, PV.gNs, PV.dVar, PV.vVar, PV.dC, PV.dOp, PV.fOp, PV.dNeg, PV.dNot, PV.dAnd, PV.dOr, PV.dIfE, PV.dNil, PV.dCons, PV.dTup, PV.fLst, PV.dLst, PV.dCall, PV.fCall, PV.dTest, PV.tst, PV.dTru, PV.tru, PV.dAndT, PV.dOrT, PV.dNotT, PV.dYes, PV.dChain, PV.dIsi, PV.isi, PV.tyn, PV.dPart, PV.dNoPart, PV.fSl, PV.lItems, PV.iOf, PV.dItems, PV.iBy, PV.sItems, PV.dwipe, PV.bMax2, PV.bMin2, PV.bAbs, PV.bInt, PV.bLen, PV.bTup, PV.bList, PV.dAdd, PV.dSub, PV.dLt, PV.dLe, PV.dGt, PV.dGe, PV.dIsN, PV.dNotN, PV.isNon_non, PV.isNon_int, PV.fAdd, PV.dIx_l, PV.dIx_t, PV.dIx_f, PV.at0, PV.at1, PV.at2, PV.at3, PV.at4, Option.bind_some, Option.map_some, Option.bind_none, Option.map_none, List.getElem?_cons_zero, List.getElem?_cons_succ, List.set_cons_zero, List.set_cons_succ, if_true, if_false, PV.kit_ii, PV.kit_ti, PV.kit_tt, PV.kit_ib, PV.kit_it, PV.kit_ll, PV.kit_li, Bool.not_true, Bool.not_false, Bool.false_eq_true, Bool.not_eq_true, reduceIte, List.length_cons, List.length_nil, Nat.reduceAdd, Nat.zero_add, PV.most_0, PV.most_1, PV.most_2, PV.most_3, PV.most_4, PV.most_5, PV.most_6, PV.most_7, decide_true, decide_false, List.nil_append, List.cons_append]
      | none =>
        rw [hq] at h2
        dsimp only
        by_cases c2 : b' = b ∧ ls ≠ []
        · rw [if_pos c2]
          rw [decide_eq_true c2.1] at hb
          have : 0 < ls.length := List.length_pos_iff.mpr c2.2
          have hlt : decide ((i : Int) < (ps.length : Int) - 1) = true := decide_eq_true (by omega)
          refine .inl ⟨[i], rfl, ?_⟩
          rw [PV.dLoop_rt]
          simp only [e_path_to_border_t1, e_path_to_border_b1, pt, h1, hin, h2, pathD, hb, hlt, List.map_cons, List.map_nil, PV.fin, PV.dSeq, PV.dIf, PV.dAsg, PV.dAsgO, PV.dRet, PV.dRetN, PV.dNext, PV.dBreak, PV.dCont, PV.dDrop, PV.dApp, PV.dExt, PV.dSetI, PV.dPop, PV.dAug, PV.dAugI, PV.dFrz, PV.onOwn, PV.gN, PV.gT, PV.gC, PV.gNs, PV.dVar, PV.vVar, PV.dC, PV.dOp, PV.fOp, PV.dNeg, PV.dNot, PV.dAnd, PV.dOr, PV.dIfE, PV.dNil, PV.dCons, PV.dTup, PV.fLst, PV.dLst, PV.dCall, PV.fCall, PV.dTest, PV.tst, PV.dTru, PV.tru, PV.dAndT, PV.dOrT, PV.dNotT, PV.dYes, PV.dChain, PV.dIsi, PV.isi, PV.tyn, PV.dPart, PV.dNoPart, PV.fSl, PV.lItems, PV.iOf, PV.dItems, PV.iBy, PV.sItems, PV.dwipe, PV.bMax2, PV.bMin2, PV.bAbs, PV.bInt, PV.bLen, PV.bTup, PV.bList, PV.dAdd, PV.dSub, PV.dLt, PV.dLe, PV.dGt, PV.dGe, PV.dIsN, PV.dNotN, PV.isNon_non, PV.isNon_int, PV.fAdd, PV.dIx_l, PV.dIx_t, PV.dIx_f, PV.at0, PV.at1, PV.at2, PV.at3, PV.at4, Option.bind_some, Option.map_some, Option.bind_none, Option.map_none, List.getElem?_cons_zero, List.getElem?_cons_succ, List.set_cons_zero, List.set_cons_succ, if_true, if_false, PV.kit_ii, PV.kit_ti, PV.kit_tt, PV.kit_ib, PV.kit_it, PV.kit_ll, PV.kit_li, Bool.not_true, Bool.not_false, Bool.false_eq_true, Bool.not_eq_true, reduceIte, List.length_cons, List.length_nil, Nat.reduceAdd, Nat.zero_add, PV.most_0, PV.most_1, PV.most_2, PV.most_3, PV.most_4, PV.most_5, PV.most_6, PV.most_7, decide_true, decide_false, List.nil_append, List.cons_append]
        · rw [if_neg c2, PV.dLoop_nx]
          · exact rest (some (.dat .non))
          · by_cases c3 : b' = b
            · have hlt : decide ((i : Int) < (ps.length : Int) - 1) = false := decide_eq_false (by
                have : ls = [] := by
                  cases ls with
                  | nil => rfl
                  | cons _ _ => exact (c2 ⟨c3, by simp⟩).elim
                subst this
                simp at hp
                omega)
              rw [decide_eq_true c3] at hb
              simp only [e_path_to_border_t1, e_path_to_border_b1, pt, h1, hin, h2, pathD, hb, hlt, PV.fin, PV.dSeq, PV.dIf, PV.dAsg, PV.dAsgO, PV.dRet, PV.dRetN, PV.dNext, PV.dBreak, PV.dCont, PV.dDrop, PV.dApp, PV.dExt, PV.dSetI, PV.dPop, PV.dAug, PV.dAugI, PV.dFrz, PV.onOwn, PV.gN, PV.gT, PV.gC, PV.gNs, PV.dVar, PV.vVar, PV.dC, PV.dOp, PV.fOp, PV.dNeg, PV.dNot, PV.dAnd, PV.dOr, PV.dIfE, PV.dNil, PV.dCons, PV.dTup, PV.fLst, PV.dLst, PV.dCall, PV.fCall, PV.dTest, PV.tst, PV.dTru, PV.tru, PV.dAndT, PV.dOrT, PV.dNotT, PV.dYes, PV.dChain, PV.dIsi, PV.isi, PV.tyn, PV.dPart, PV.dNoPart, PV.fSl, PV.lItems, PV.iOf, PV.dItems, PV.iBy, PV.sItems, PV.dwipe, PV.bMax2, PV.bMin2, PV.bAbs, PV.bInt, PV.bLen, PV.bTup, PV.bList, PV.dAdd, PV.dSub, PV.dLt, PV.dLe, PV.dGt, PV.dGe, PV.dIsN, PV.dNotN, PV.isNon_non, PV.isNon_int, PV.fAdd, PV.dIx_l, PV.dIx_t, PV.dIx_f, PV.at0, PV.at1, PV.at2, PV.at3, PV.at4, Option.bind_some, Option.map_some, Option.bind_none, Option.map_none, List.getElem?_cons_zero, List.getElem?_cons_succ, List.set_cons_zero, List.set_cons_succ, if_true, if_false, PV.kit_ii, PV.kit_ti, PV.kit_tt, PV.kit_ib, PV.kit_it, PV.kit_ll, PV.kit_li, Bool.not_true, Bool.not_false, Bool.false_eq_true, Bool.not_eq_true, reduceIte, List.length_cons, List.length_nil, Nat.reduceAdd, Nat.zero_add, PV.most_0, PV.most_1, PV.most_2, PV.most_3, PV.most_4, PV.most_5, PV.most_6, PV.most_7, decide_true, decide_false, List.nil_append, List.cons_append]
            · rw [decide_eq_false c3] at hb
              simp only [e_path_to_border_t1, e_path_to_border_b1, pt, h1, hin, h2, pathD, hb, PV.fin, PV.dSeq, PV.dIf, PV.dAsg, PV.dAsgO, PV.dRet, PV.dRetN, PV.dNext, PV.dBreak, PV.dCont, PV.dDrop, PV.dApp, PV.dExt, PV.dSetI, PV.dPop, PV.dAug, PV.dAugI, PV.dFrz, PV.onOwn, PV.gN, PV.gT, PV.gC, PV.gNs, PV.dVar, PV.vVar, PV.dC, PV.dOp, PV.fOp, PV.dNeg, PV.dNot, PV.dAnd, PV.dOr, PV.dIfE, PV.dNil, PV.dCons, PV.dTup, PV.fLst, PV.dLst, PV.dCall, PV.fCall, PV.dTest, PV.tst, PV.dTru, PV.tru, PV.dAndT, PV.dOrT, PV.dNotT, PV.dYes, PV.dChain, PV.dIsi, PV.isi, PV.tyn, PV.dPart, PV.dNoPart, PV.fSl, PV.lItems, PV.iOf, PV.dItems, PV.iBy, PV.sItems, PV.dwipe, PV.bMax2, PV.bMin2, PV.bAbs, PV.bInt, PV.bLen, PV.bTup, PV.bList, PV.dAdd, PV.dSub, PV.dLt, PV.dLe, PV.dGt, PV.dGe, PV.dIsN, PV.dNotN, PV.isNon_non, PV.isNon_int, PV.fAdd, PV.dIx_l, PV.dIx_t, PV.dIx_f, PV.at0, PV.at1, PV.at2, PV.at3, PV.at4, Option.bind_some, Option.map_some, Option.bind_none, Option.map_none, List.getElem?_cons_zero, List.getElem?_cons_succ, List.set_cons_zero, List.set_cons_succ, if_true, if_false, PV.kit_ii, PV.kit_ti, PV.kit_tt, PV.kit_ib, PV.kit_it, PV.kit_ll, PV.kit_li, Bool.not_true, Bool.not_false, Bool.false_eq_true, Bool.not_eq_true, reduceIte, List.length_cons, List.length_nil, Nat.reduceAdd, Nat.zero_add, PV.most_0, PV.most_1, PV.most_2, PV.most_3, PV.most_4, PV.most_5, PV.most_6, PV.most_7, decide_true, decide_false, List.nil_append, List.cons_append]
    · rw [decide_eq_false c] at hin
      rw [if_neg c, PV.dLoop_nx]
      · exact rest x8
      · simp only [e_path_to_border_t1, e_path_to_border_b1, pt, h1, hin, PV.fin, PV.dSeq, PV.dIf, PV.dAsg, PV.dAsgO, PV.dRet, PV.dRetN, PV.dNext, PV.dBreak, PV.dCont, PV.dDrop, PV.dApp, PV.dExt, PV.dSetI, PV.dPop, PV.dAug, PV.dAugI, PV.dFrz, PV.onOwn, PV.gN, PV.gT, PV.gC, PV.gNs, PV.dVar, PV.vVar, PV.dC, PV.dOp, PV.fOp, PV.dNeg, PV.dNot, PV.dAnd, PV.dOr, PV.dIfE, PV.dNil, PV.dCons, PV.dTup, PV.fLst, PV.dLst, PV.dCall, PV.fCall, PV.dTest, PV.tst, PV.dTru, PV.tru, PV.dAndT, PV.dOrT, PV.dNotT, PV.dYes, PV.dChain, PV.dIsi, PV.isi, PV.tyn, PV.dPart, PV.dNoPart, PV.fSl, PV.lItems, PV.iOf, PV.dItems, PV.iBy, PV.sItems, PV.dwipe, PV.bMax2, PV.bMin2, PV.bAbs, PV.bInt, PV.bLen, PV.bTup, PV.bList, PV.dAdd, PV.dSub, PV.dLt, PV.dLe, PV.dGt, PV.dGe, PV.dIsN, PV.dNotN, PV.isNon_non, PV.isNon_int, PV.fAdd, PV.dIx_l, PV.dIx_t, PV.dIx_f, PV.at0, PV.at1, PV.at2, PV.at3, PV.at4, Option.bind_some, Option.map_some, Option.bind_none, Option.map_none, List.getElem?_cons_zero, List.getElem?_cons_succ, List.set_cons_zero, List.set_cons_succ, if_true, if_false, PV.kit_ii, PV.kit_ti, PV.kit_tt, PV.kit_ib, PV.kit_it, PV.kit_ll, PV.kit_li, Bool.not_true, Bool.not_false, Bool.false_eq_true, Bool.not_eq_true, reduceIte, List.length_cons, List.length_nil, Nat.reduceAdd, Nat.zero_add, PV.most_0, PV.most_1, PV.most_2, PV.most_3, PV.most_4, PV.most_5, PV.most_6, PV.most_7, decide_true, decide_false, List.nil_append, List.cons_append]

/-! ## the program's path and shift are the law's shift -/
theorem pathL_at {p : Int} {b b' : Bool} : ∀ (ls : List Lay) (i k : Nat) (hk : k < ls.length), (∀ (j : Nat) (hj : j < ls.length), j ≠ k → p ∉ ls[j].panes) → p ∈ ls[k].panes →
    pathL p b b' i ls = match ls[k].path p b with
      | some q => some ((i + k) :: q)
      | none => if b' = b ∧ k + 1 < ls.length then some [i + k] else none
  | [], _, _, hk, _, _ => by simp at hk
  | l :: ls, i, 0, hk, hn, hp => by
    simp only [List.getElem_cons_zero] at hp ⊢
    unfold pathL
    rw [if_pos hp]
    cases l.path p b with
    | some q => rfl
    | none =>
      dsimp only
      have e : ls ≠ [] ↔ 0 + 1 < (l :: ls).length := by cases ls <;> simp
      simp only [e]
      split
      · rfl
      · refine pathL_none ls _ fun m mm => ?_
        obtain ⟨j, hj, rfl⟩ := List.getElem_of_mem mm
        have := hn (j + 1) (by simpa using hj) (by omega)
        simpa using this
  | l :: ls, i, k + 1, hk, hn, hp => by
    have h0 := hn 0 (by simp) (by omega)
    simp only [List.getElem_cons_zero] at h0
    simp only [List.getElem_cons_succ] at hp ⊢
    unfold pathL
    rw [if_neg h0, pathL_at ls (i + 1) k (by simpa using hk) (fun j hj hne => by
      have := hn (j + 1) (by simpa using hj) (by omega)
      simpa using this) hp]
    have e : k + 1 + 1 < (l :: ls).length ↔ k + 1 < ls.length := by simp
    have e2 : i + 1 + k = i + (k + 1) := by omega
    simp only [e, e2]
theorem nodup_once {p : Int} : ∀ (ls : List Lay), (ls.flatMap Lay.panes).Nodup → ∀ (k : Nat) (hk : k < ls.length), p ∈ ls[k].panes → ∀ (j : Nat) (hj : j < ls.length), j ≠ k → p ∉ ls[j].panes
  | [], _, _, hk, _, _, _, _ => by simp at hk
  | l :: ls, hn, k, hk, hp, j, hj, hne => by
    rw [List.flatMap_cons] at hn
    obtain ⟨n1, n2, n3⟩ := List.nodup_append.mp hn
    intro z
    cases k with
    | zero =>
      cases j with
      | zero => exact hne rfl
      | succ j =>
        simp only [List.getElem_cons_zero, List.getElem_cons_succ] at hp z
        exact n3 p hp p (List.mem_flatMap.mpr ⟨_, List.getElem_mem (by simpa using hj), z⟩) rfl
    | succ k =>
      simp only [List.getElem_cons_succ] at hp
      cases j with
      | zero =>
        simp only [List.getElem_cons_zero] at z
        exact n3 p z p (List.mem_flatMap.mpr ⟨_, List.getElem_mem (by simpa using hk), hp⟩) rfl
      | succ j =>
        simp only [List.getElem_cons_succ] at z
        exact nodup_once ls n2 k (by simpa using hk) hp j (by simpa using hj) (by omega) z
theorem nodup_part {ls : List Lay} (hn : (ls.flatMap Lay.panes).Nodup) {k : Nat} (hk : k < ls.length) : ls[k].panes.Nodup := by
  induction ls generalizing k with
  | nil => simp at hk
  | cons l ls ih =>
    rw [List.flatMap_cons] at hn
    obtain ⟨n1, n2, _⟩ := List.nodup_append.mp hn
    cases k with
    | zero => exact n1
    | succ k => exact ih n2 (by simpa using hk)
theorem path_is {p : Int} {b : Bool} {a : Int} {B : Int} {M : Nat} : ∀ {d : Nat} {l : Lay}, Good B M d l → l.panes.Nodup → (l.shift p b a).2 = (l.path p b).isSome ∧ ∀ q, l.path p b = some q → q ≠ [] ∧ q.length ≤ d := by
  intro d
  induction d with
  | zero => intro l g _; cases g; exact ⟨rfl, fun q h => by simp [Lay.path] at h⟩
  | succ d ih =>
    intro l g hn
    cases g with
    | pane n => exact ⟨rfl, fun q h => by simp [Lay.path] at h⟩
    | node hl h2 hm hs hg =>
      rename_i b' ls ss
      rw [Lay.panes_node] at hn
      unfold Lay.shift Lay.path
      rcases shiftL_cases (p := p) (b := b) (a := a) (b' := b') ls ss hl with h0 | ⟨k, hk, h1, hp⟩
      · rw [shiftL_none ls ss hl h0, pathL_none ls 0 h0]
        exact ⟨rfl, fun q h => by cases h⟩
      · rw [shiftL_at ls ss k hk hl h1 hp, pathL_at ls 0 k hk (nodup_once ls hn k hk hp) hp]
        obtain ⟨i1, i2⟩ := ih (hg _ (List.getElem_mem hk)) (nodup_part hn hk)
        rw [i1]
        cases hq : ls[k].path p b with
        | some q =>
          refine ⟨?_, fun q' h => ?_⟩
          · simp
          · cases h
            have := (i2 q hq).2
            exact ⟨by simp, by simp; omega⟩
        | none =>
          simp only [Option.isSome_none, true_and]
          by_cases c : b' = b ∧ k + 1 < ls.length
          · rw [if_pos c, if_pos c]
            exact ⟨rfl, fun q' h => by cases h; exact ⟨by simp, by simp⟩⟩
          · rw [if_neg c, if_neg c]
            exact ⟨rfl, fun q' h => by cases h⟩
theorem path_to_border_ok {B : Int} {M : Nat} {p : Int} {b : Bool} : ∀ (d : Nat) {l : Lay}, Good B M d l → l.panes.Nodup → l.panes.length ≤ 1000000 → d < 24 → ∀ n, d < n → f_path_to_border n [l.d, .int p, .str (nm b)] = some (pathD (l.path p b)) := by
  intro d
  induction d with
  | zero =>
    intro l g _ _ _ n hn
    obtain ⟨m, rfl⟩ : ∃ m, n = m + 1 := ⟨n - 1, by omega⟩
    cases g
    rfl
  | succ d ih =>
    intro l g hno hp hd n hn
    obtain ⟨m, rfl⟩ : ∃ m, n = m + 1 := ⟨n - 1, by omega⟩
    cases g with
    | pane k => rfl
    | node hl h2 hm hs hg =>
      rename_i b' ls ss
      rw [Lay.panes_node] at hno hp
      have hk : ∀ l ∈ ls, 0 < l.panes.length := fun l m => (hg l m).least.2.2.1
      have hlen := lays_len ls hk
      have lp := path_loop (m := m) (p := p) (b := b) (b' := b') (x0 := some (.dat (.tup [.str (nm b'), .tup (ptsD ls ss)]))) (ps := ptsD ls ss) ls ss 0 none none none none hl (by rw [ptsD_len hl]; omega) (by rw [ptsD_len hl]; omega) fun l ml => by
        obtain ⟨j, hj, rfl⟩ := List.getElem_of_mem ml
        refine ⟨panes_ok d (hg _ ml) (Nat.le_trans (panes_sub ml) hp) 24 (by omega), ih (hg _ ml) (nodup_part hno hj) (Nat.le_trans (panes_sub ml) hp) (by omega) m (by omega), fun q hq => ?_⟩
        have := ((path_is (a := 0) (hg _ ml) (nodup_part hno hj)).2 q hq).2
        omega
      have en : PV.dEn [.tup (ptsD ls ss)] = some ((List.range' 0 ls.length).zipWith (fun (k : Nat) d => PV.D.tup [.int k, d]) (ptsD ls ss)) := by
        show some (PV.numbered _) = _
        unfold PV.numbered
        rw [ptsD_len hl, List.range_eq_range']
      have e0 : (Lay.node b' ls ss).path p b = pathL p b b' 0 ls := by unfold Lay.path; rfl
      rw [e0, Lay.d_node, run_path_to_border]
      unfold e_path_to_border
      rcases lp with ⟨q, e1, e2⟩ | ⟨e1, y5, y6, y7, y8, e2⟩
      · rw [e1]
        simp only [e_path_to_border_l1_is, en, e2, PV.fin, PV.dSeq, PV.dIf, PV.dAsg, PV.dAsgO, PV.dRet, PV.dRetN, PV.dNext, PV.dBreak, PV.dCont, PV.dDrop, PV.dApp, PV.dExt, PV.dSetI, PV.dPop, PV.dAug, PV.dAugI, PV.dFrz, PV.onOwn, PV.gN, PV.gT, PV.gC, PV.gNs, PV.dVar, PV.vVar, PV.dC, PV.dOp, PV.fOp, PV.dNeg, PV.dNot, PV.dAnd, PV.dOr, PV.dIfE, PV.dNil, PV.dCons, PV.dTup, PV.fLst, PV.dLst, PV.dCall, PV.fCall, PV.dTest, PV.tst, PV.dTru, PV.tru, PV.dAndT, PV.dOrT, PV.dNotT, PV.dYes, PV.dChain, PV.dIsi, PV.isi, PV.tyn, PV.dPart, PV.dNoPart, PV.fSl, PV.lItems, PV.iOf, PV.dItems, PV.iBy, PV.sItems, PV.dwipe, PV.bMax2, PV.bMin2, PV.bAbs, PV.bInt, PV.bLen, PV.bTup, PV.bList, PV.dAdd, PV.dSub, PV.dLt, PV.dLe, PV.dGt, PV.dGe, PV.dIsN, PV.dNotN, PV.isNon_non, PV.isNon_int, PV.fAdd, PV.dIx_l, PV.dIx_t, PV.dIx_f, PV.at0, PV.at1, PV.at2, PV.at3, PV.at4, Option.bind_some, Option.map_some, Option.bind_none, Option.map_none, List.getElem?_cons_zero, List.getElem?_cons_succ, List.set_cons_zero, List.set_cons_succ, if_true, if_false, PV.kit_ii, PV.kit_ti, PV.kit_tt, PV.kit_ib, PV.kit_it, PV.kit_ll, PV.kit_li, Bool.not_true, Bool.not_false, Bool.false_eq_true, Bool.not_eq_true, reduceIte, List.length_cons, List.length_nil, Nat.reduceAdd, Nat.zero_add, PV.most_0, PV.most_1, PV.most_2, PV.most_3, PV.most_4, PV.most_5, PV.most_6, PV.most_7, decide_true, decide_false, List.nil_append, List.cons_append]
      · rw [e1]
        simp only [e_path_to_border_l1_is, en, e2, pathD, PV.fin, PV.dSeq, PV.dIf, PV.dAsg, PV.dAsgO, PV.dRet, PV.dRetN, PV.dNext, PV.dBreak, PV.dCont, PV.dDrop, PV.dApp, PV.dExt, PV.dSetI, PV.dPop, PV.dAug, PV.dAugI, PV.dFrz, PV.onOwn, PV.gN, PV.gT, PV.gC, PV.gNs, PV.dVar, PV.vVar, PV.dC, PV.dOp, PV.fOp, PV.dNeg, PV.dNot, PV.dAnd, PV.dOr, PV.dIfE, PV.dNil, PV.dCons, PV.dTup, PV.fLst, PV.dLst, PV.dCall, PV.fCall, PV.dTest, PV.tst, PV.dTru, PV.tru, PV.dAndT, PV.dOrT, PV.dNotT, PV.dYes, PV.dChain, PV.dIsi, PV.isi, PV.tyn, PV.dPart, PV.dNoPart, PV.fSl, PV.lItems, PV.iOf, PV.dItems, PV.iBy, PV.sItems, PV.dwipe, PV.bMax2, PV.bMin2, PV.bAbs, PV.bInt, PV.bLen, PV.bTup, PV.bList, PV.dAdd, PV.dSub, PV.dLt, PV.dLe, PV.dGt, PV.dGe, PV.dIsN, PV.dNotN, PV.isNon_non, PV.isNon_int, PV.fAdd, PV.dIx_l, PV.dIx_t, PV.dIx_f, PV.at0, PV.at1, PV.at2, PV.at3, PV.at4, Option.bind_some, Option.map_some, Option.bind_none, Option.map_none, List.getElem?_cons_zero, List.getElem?_cons_succ, List.set_cons_zero, List.set_cons_succ, if_true, if_false, PV.kit_ii, PV.kit_ti, PV.kit_tt, PV.kit_ib, PV.kit_it, PV.kit_ll, PV.kit_li, Bool.not_true, Bool.not_false, Bool.false_eq_true, Bool.not_eq_true, reduceIte, List.length_cons, List.length_nil, Nat.reduceAdd, Nat.zero_add, PV.most_0, PV.most_1, PV.most_2, PV.most_3, PV.most_4, PV.most_5, PV.most_6, PV.most_7, decide_true, decide_false, List.nil_append, List.cons_append]
theorem pts_at0 {ls : List Lay} {ss : List Int} (hl : ls.length = ss.length) {k : Nat} (hk : k < ls.length) : atI (ptsD ls ss) (k : Int) = some (pt ls[k].d (ss.getD k 0)) := by
  refine atI_nat ?_
  have h2 : k < ss.length := by omega
  unfold ptsD
  rw [List.getElem?_zipWith, List.getElem?_eq_getElem hk, List.getElem?_eq_getElem h2, getD_get h2]
theorem ptsD_set0 : ∀ (ls : List Lay) (ss : List Int) (k : Nat) (l : Lay) (s : Int), (ptsD ls ss).set k (pt l.d s) = ptsD (ls.set k l) (ss.set k s)
  | [], ss, _, _, _ => by simp [ptsD]
  | _ :: ls, [], _, _, _ => by simp [ptsD]
  | l0 :: ls, s0 :: ss, 0, _, _ => by simp [ptsD]
  | l0 :: ls, s0 :: ss, k + 1, l, s => by
    have := ptsD_set0 ls ss k l s
    unfold ptsD at this ⊢
    simpa using this
theorem set_self {α : Type} {xs : List α} {k : Nat} (h : k < xs.length) : xs.set k xs[k] = xs := by simp
theorem cut_tail {d : PV.D} {ds : List PV.D} : PV.cut (d :: ds) (some 1) none = ds := by
  unfold PV.cut
  rw [HT.sIx_none, PB.sIx_some (by decide)]
  have e : min (1 : Int).toNat (d :: ds).length = 1 := by simp
  rw [e]
  simp
theorem shifted_ok {B : Int} {M : Nat} (hM : M ≤ 100000) {p : Int} {b : Bool} {a : Int} : ∀ (d : Nat) {l : Lay}, Good B M d l → l.panes.Nodup → d < 24 → ∀ n, d < n → ∀ q, l.path p b = some q →
    f_shifted n [l.d, .lst (q.map fun (i : Nat) => PV.D.int (i : Int)), .int a] = some (l.shift p b a).1.d := by
  intro d
  induction d with
  | zero => intro l g _ _ n _ q hq; cases g; simp [Lay.path] at hq
  | succ d ih =>
    intro l g hno hd n hn q hq
    obtain ⟨m, rfl⟩ : ∃ m, n = m + 1 := ⟨n - 1, by omega⟩
    cases g with
    | pane k => simp [Lay.path] at hq
    | node hl h2 hm hs hg =>
      rename_i b' ls ss
      rw [Lay.panes_node] at hno
      have e0 : (Lay.node b' ls ss).path p b = pathL p b b' 0 ls := by unfold Lay.path; rfl
      rw [e0] at hq
      rcases shiftL_cases (p := p) (b := b) (a := a) (b' := b') ls ss hl with h0 | ⟨k, hk, h1, hp⟩
      · rw [pathL_none ls 0 h0] at hq; cases hq
      · rw [pathL_at ls 0 k hk (nodup_once ls hno k hk hp) hp] at hq
        have e1 : ((Lay.node b' ls ss).shift p b a).1 = .node b' (shiftL p b a b' ls ss).1 (shiftL p b a b' ls ss).2.1 := by unfold Lay.shift; rfl
        rw [e1, shiftL_at ls ss k hk hl h1 hp, Lay.d_node, Lay.d_node]
        have i1 := (path_is (p := p) (b := b) (a := a) (hg _ (List.getElem_mem hk)) (nodup_part hno hk)).1
        have a1 := pts_at0 hl hk
        have x1 : ixN (ptsD ls ss).length (k : Int) = some k := PV.ix_nat (by rw [ptsD_len hl]; exact hk)
        have gk := hg _ (List.getElem_mem hk)
        cases hk2 : ls[k].path p b with
        | some q' =>
          rw [hk2] at hq i1
          simp only [Nat.zero_add, Option.some.injEq] at hq
          subst hq
          rw [i1, if_neg (by simp)]
          have qn := (path_is (p := p) (b := b) (a := a) gk (nodup_part hno hk)).2 q' hk2
          have ql : 0 < q'.length := List.length_pos_iff.mpr qn.1
          have hlt : decide ((1 : Int) < ((q'.length + 1 : Nat) : Int)) = true := decide_eq_true (by omega)
          have r := ih gk (nodup_part hno hk) (by omega) m (by omega) q' hk2
          have st : (ptsD ls ss).set k (.tup [(ls[k].shift p b a).1.d, .int (ss.getD k 0)]) = ptsD (ls.set k (ls[k].shift p b a).1) ss := by
            have := ptsD_set0 ls ss k (ls[k].shift p b a).1 (ss.getD k 0)
            rw [getD_get (show k < ss.length by omega), set_self (show k < ss.length by omega)] at this
            rw [getD_get (show k < ss.length by omega)]
            exact this
          have ct := cut_tail (d := .int (k : Int)) (ds := q'.map fun (i : Nat) => PV.D.int (i : Int))
          rw [run_shifted]
          unfold e_shifted
          simp only [List.map_cons, a1, pt, List.length_map, hlt, ct, r, x1, st, PV.fin, PV.dSeq, PV.dIf, PV.dAsg, PV.dAsgO, PV.dRet, PV.dRetN, PV.dNext, PV.dBreak, PV.dCont, PV.dDrop, PV.dApp, PV.dExt, PV.dSetI, PV.dPop, PV.dAug, PV.dAugI, PV.dFrz, PV.onOwn, PV.gN, PV.gT, PV.gC, PV.gNs, PV.dVar, PV.vVar, PV.dC, PV.dOp, PV.fOp, PV.dNeg, PV.dNot, PV.dAnd, PV.dOr, PV.dIfE, PV.dNil, PV.dCons, PV.dTup, PV.fLst, PV.dLst, PV.dCall, PV.fCall, PV.dTest, PV.tst, PV.dTru, PV.tru, PV.dAndT, PV.dOrT, PV.dNotT, PV.dYes, PV.dChain, PV.dIsi, PV.isi, PV.tyn, PV.dPart, PV.dNoPart, PV.fSl, PV.lItems, PV.iOf, PV.dItems, PV.iBy, PV.sItems, PV.dwipe, PV.bMax2, PV.bMin2, PV.bAbs, PV.bInt, PV.bLen, PV.bTup, PV.bList, PV.dAdd, PV.dSub, PV.dLt, PV.dLe, PV.dGt, PV.dGe, PV.dIsN, PV.dNotN, PV.isNon_non, PV.isNon_int, PV.fAdd, PV.dIx_l, PV.dIx_t, PV.dIx_f, PV.at0, PV.at1, PV.at2, PV.at3, PV.at4, Option.bind_some, Option.map_some, Option.bind_none, Option.map_none, List.getElem?_cons_zero, List.getElem?_cons_succ, List.set_cons_zero, List.set_cons_succ, if_true, if_false, PV.kit_ii, PV.kit_ti, PV.kit_tt, PV.kit_ib, PV.kit_it, PV.kit_ll, PV.kit_li, Bool.not_true, Bool.not_false, Bool.false_eq_true, Bool.not_eq_true, reduceIte, List.length_cons, List.length_nil, Nat.reduceAdd, Nat.zero_add, PV.most_0, PV.most_1, PV.most_2, PV.most_3, PV.most_4, PV.most_5, PV.most_6, PV.most_7, decide_true, decide_false, List.nil_append, List.cons_append]
        | none =>
          rw [hk2] at hq i1
          dsimp only at hq
          by_cases c : b' = b ∧ k + 1 < ls.length
          · rw [if_pos c] at hq
            simp only [Nat.zero_add, Option.some.injEq] at hq
            subst hq
            obtain ⟨rfl, c2⟩ := c
            rw [if_pos ⟨i1, rfl, c2⟩, shift_same gk i1, getD_lay c2]
            have a2 := pts_at0 hl c2
            have kk : ((k + 1 : Nat) : Int) = (k : Int) + 1 := by omega
            rw [kk] at a2
            have x2 : ixN (ptsD ls ss).length ((k : Int) + 1) = some (k + 1) := by
              rw [← kk]
              exact PV.ix_nat (by rw [ptsD_len hl]; exact c2)
            have l1 := least_along_ok hM gk (by omega) b'
            have l2 := least_along_ok hM (hg _ (List.getElem_mem c2)) (by omega) b'
            have hc : max (min a (ss.getD (k + 1) 0 - al b' ls[k + 1].least)) (al b' ls[k].least - ss.getD k 0) = chg b' ls[k] ls[k + 1] (ss.getD k 0) (ss.getD (k + 1) 0) a := by unfold chg; omega
            generalize chg b' ls[k] ls[k + 1] (ss.getD k 0) (ss.getD (k + 1) 0) a = z at hc
            have s1 := ptsD_set0 ls ss k ls[k] (ss.getD k 0 + z)
            rw [set_self hk] at s1
            have s2 := ptsD_set0 ls (ss.set k (ss.getD k 0 + z)) (k + 1) ls[k + 1] (ss.getD (k + 1) 0 - z)
            rw [set_self c2] at s2
            unfold pt at s1 s2
            have x3 : ixN (ptsD ls (ss.set k (ss.getD k 0 + z))).length ((k : Int) + 1) = some (k + 1) := by
              rw [← kk]
              exact PV.ix_nat (by rw [ptsD_len (by simpa using hl)]; exact c2)
            have hlt : decide ((1 : Int) < ((1 : Nat) : Int)) = false := rfl
            rw [set_self hk]
            rw [run_shifted]
            unfold e_shifted
            simp only [List.map_cons, List.map_nil, a1, a2, pt, hlt, l1, l2, x1, x2, hc, s1, x3, s2, PV.fin, PV.dSeq, PV.dIf, PV.dAsg, PV.dAsgO, PV.dRet, PV.dRetN, PV.dNext, PV.dBreak, PV.dCont, PV.dDrop, PV.dApp, PV.dExt, PV.dSetI, PV.dPop, PV.dAug, PV.dAugI, PV.dFrz, PV.onOwn, PV.gN, PV.gT, PV.gC, PV.gNs, PV.dVar, PV.vVar, PV.dC, PV.dOp, PV.fOp, PV.dNeg, PV.dNot, PV.dAnd, PV.dOr, PV.dIfE, PV.dNil, PV.dCons, PV.dTup, PV.fLst, PV.dLst, PV.dCall, PV.fCall, PV.dTest, PV.tst, PV.dTru, PV.tru, PV.dAndT, PV.dOrT, PV.dNotT, PV.dYes, PV.dChain, PV.dIsi, PV.isi, PV.tyn, PV.dPart, PV.dNoPart, PV.fSl, PV.lItems, PV.iOf, PV.dItems, PV.iBy, PV.sItems, PV.dwipe, PV.bMax2, PV.bMin2, PV.bAbs, PV.bInt, PV.bLen, PV.bTup, PV.bList, PV.dAdd, PV.dSub, PV.dLt, PV.dLe, PV.dGt, PV.dGe, PV.dIsN, PV.dNotN, PV.isNon_non, PV.isNon_int, PV.fAdd, PV.dIx_l, PV.dIx_t, PV.dIx_f, PV.at0, PV.at1, PV.at2, PV.at3, PV.at4, Option.bind_some, Option.map_some, Option.bind_none, Option.map_none, List.getElem?_cons_zero, List.getElem?_cons_succ, List.set_cons_zero, List.set_cons_succ, if_true, if_false, PV.kit_ii, PV.kit_ti, PV.kit_tt, PV.kit_ib, PV.kit_it, PV.kit_ll, PV.kit_li, Bool.not_true, Bool.not_false, Bool.false_eq_true, Bool.not_eq_true, reduceIte, List.length_cons, List.length_nil, Nat.reduceAdd, Nat.zero_add, PV.most_0, PV.most_1, PV.most_2, PV.most_3, PV.most_4, PV.most_5, PV.most_6, PV.most_7, decide_true, decide_false, List.nil_append, List.cons_append]
          · rw [if_neg c] at hq; cases hq

/-! ## the program moves a border -/
theorem moved_ok {k : Nat} {l : Lay} (g : Stg k l) (hk : k ≤ 15) (hno : l.panes.Nodup) {w h : Int} (hw : w ≤ 1000) (hh : h ≤ 1000) (p : Int) (b : Bool) (a : Int) :
    f_moved [l.d, .int w, .int h, .int p, .str (nm b), .int a] = some (l.moved w h p b a).d := by
  have p2 := two_pow hk
  have hpp := g.2
  have gl := g.1.least
  have ft := fitted_ok (by decide) (by omega) k g.1 (by omega) (by omega) 24 (by omega) w h (by omega) (by omega)
  have fs := fit_stg g.1 (Nat.le_refl _) g.2 (by omega) hw hh
  have fp : (l.fit w h).panes = l.panes := fit_panes g.1 w h
  have fs2 := fs.2
  have pa := path_to_border_ok (p := p) (b := b) k fs.1 (by rw [fp]; exact hno) (by omega) (by omega) 24 (by omega)
  have pi := (path_is (p := p) (b := b) (a := a) fs.1 (by rw [fp]; exact hno)).1
  rw [run_moved]
  unfold e_moved Lay.moved
  cases hq : (l.fit w h).path p b with
  | none =>
    rw [hq] at pa pi
    rw [shift_same fs.1 pi, fit_fit g.1]
    simp only [ft, pa, pathD, PV.fin, PV.dSeq, PV.dIf, PV.dAsg, PV.dAsgO, PV.dRet, PV.dRetN, PV.dNext, PV.dBreak, PV.dCont, PV.dDrop, PV.dApp, PV.dExt, PV.dSetI, PV.dPop, PV.dAug, PV.dAugI, PV.dFrz, PV.onOwn, PV.gN, PV.gT, PV.gC, PV.gNs, PV.dVar, PV.vVar, PV.dC, PV.dOp, PV.fOp, PV.dNeg, PV.dNot, PV.dAnd, PV.dOr, PV.dIfE, PV.dNil, PV.dCons, PV.dTup, PV.fLst, PV.dLst, PV.dCall, PV.fCall, PV.dTest, PV.tst, PV.dTru, PV.tru, PV.dAndT, PV.dOrT, PV.dNotT, PV.dYes, PV.dChain, PV.dIsi, PV.isi, PV.tyn, PV.dPart, PV.dNoPart, PV.fSl, PV.lItems, PV.iOf, PV.dItems, PV.iBy, PV.sItems, PV.dwipe, PV.bMax2, PV.bMin2, PV.bAbs, PV.bInt, PV.bLen, PV.bTup, PV.bList, PV.dAdd, PV.dSub, PV.dLt, PV.dLe, PV.dGt, PV.dGe, PV.dIsN, PV.dNotN, PV.isNon_non, PV.isNon_int, PV.fAdd, PV.dIx_l, PV.dIx_t, PV.dIx_f, PV.at0, PV.at1, PV.at2, PV.at3, PV.at4, Option.bind_some, Option.map_some, Option.bind_none, Option.map_none, List.getElem?_cons_zero, List.getElem?_cons_succ, List.set_cons_zero, List.set_cons_succ, if_true, if_false, PV.kit_ii, PV.kit_ti, PV.kit_tt, PV.kit_ib, PV.kit_it, PV.kit_ll, PV.kit_li, Bool.not_true, Bool.not_false, Bool.false_eq_true, Bool.not_eq_true, reduceIte, List.length_cons, List.length_nil, Nat.reduceAdd, Nat.zero_add, PV.most_0, PV.most_1, PV.most_2, PV.most_3, PV.most_4, PV.most_5, PV.most_6, PV.most_7, decide_true, decide_false, List.nil_append, List.cons_append]
  | some q =>
    rw [hq] at pa
    have sh := shifted_ok (M := 2 ^ k) (by omega) (p := p) (b := b) (a := a) k fs.1 (by rw [fp]; exact hno) (by omega) 24 (by omega) q hq
    have sg := shift_good (p := p) (b := b) (a := a) (B := 200000) (M := 2 ^ k) (g.fitEx w h) (by unfold Lay.W; omega) (by unfold Lay.H; omega) (by omega)
    have sp : ((l.fit w h).shift p b a).1.panes.length ≤ 2 ^ k := by rw [shift_panes fs.1, fp]; exact g.2
    have ft2 := fitted_ok (by decide) (by omega) k sg (by omega) (by omega) 24 (by omega) w h (by omega) (by omega)
    simp only [ft, pa, pathD, isNon_lst, sh, ft2, PV.fin, PV.dSeq, PV.dIf, PV.dAsg, PV.dAsgO, PV.dRet, PV.dRetN, PV.dNext, PV.dBreak, PV.dCont, PV.dDrop, PV.dApp, PV.dExt, PV.dSetI, PV.dPop, PV.dAug, PV.dAugI, PV.dFrz, PV.onOwn, PV.gN, PV.gT, PV.gC, PV.gNs, PV.dVar, PV.vVar, PV.dC, PV.dOp, PV.fOp, PV.dNeg, PV.dNot, PV.dAnd, PV.dOr, PV.dIfE, PV.dNil, PV.dCons, PV.dTup, PV.fLst, PV.dLst, PV.dCall, PV.fCall, PV.dTest, PV.tst, PV.dTru, PV.tru, PV.dAndT, PV.dOrT, PV.dNotT, PV.dYes, PV.dChain, PV.dIsi, PV.isi, PV.tyn, PV.dPart, PV.dNoPart, PV.fSl, PV.lItems, PV.iOf, PV.dItems, PV.iBy, PV.sItems, PV.dwipe, PV.bMax2, PV.bMin2, PV.bAbs, PV.bInt, PV.bLen, PV.bTup, PV.bList, PV.dAdd, PV.dSub, PV.dLt, PV.dLe, PV.dGt, PV.dGe, PV.dIsN, PV.dNotN, PV.isNon_non, PV.isNon_int, PV.fAdd, PV.dIx_l, PV.dIx_t, PV.dIx_f, PV.at0, PV.at1, PV.at2, PV.at3, PV.at4, Option.bind_some, Option.map_some, Option.bind_none, Option.map_none, List.getElem?_cons_zero, List.getElem?_cons_succ, List.set_cons_zero, List.set_cons_succ, if_true, if_false, PV.kit_ii, PV.kit_ti, PV.kit_tt, PV.kit_ib, PV.kit_it, PV.kit_ll, PV.kit_li, Bool.not_true, Bool.not_false, Bool.false_eq_true, Bool.not_eq_true, reduceIte, List.length_cons, List.length_nil, Nat.reduceAdd, Nat.zero_add, PV.most_0, PV.most_1, PV.most_2, PV.most_3, PV.most_4, PV.most_5, PV.most_6, PV.most_7, decide_true, decide_false, List.nil_append, List.cons_append]
/-! ## the law -/
/-! ## areas that panes and borders fill -/
def UpZ (g : Int → Int → Int) (W r c : Int) : Prop := 0 < c ∧ c < W - 1 ∧ g r (c - 1) ≠ 0 ∧ g r (c + 1) ≠ 0
def LvZ (g : Int → Int → Int) (H r c : Int) : Prop := 0 < r ∧ r < H - 1 ∧ g (r - 1) c ≠ 0 ∧ g (r + 1) c ≠ 0
def NrZ (g : Int → Int → Int) (W H r c : Int) : Prop := (0 < c ∧ g r (c - 1) = 0) ∨ (c + 1 < W ∧ g r (c + 1) = 0) ∨ (0 < r ∧ g (r - 1) c = 0) ∨ (r + 1 < H ∧ g (r + 1) c = 0)
/-- corners are panes; zeros on an edge stand alone; no two panes touch; every zero is a border's; no four zeros in a square -/
structure Nice (g : Int → Int → Int) (W H : Int) : Prop where
  w1 : 1 ≤ W
  h1 : 1 ≤ H
  c1 : g 0 0 ≠ 0
  c2 : g 0 (W - 1) ≠ 0
  c3 : g (H - 1) 0 ≠ 0
  c4 : g (H - 1) (W - 1) ≠ 0
  t : ∀ c, 0 ≤ c → c < W → g 0 c = 0 → UpZ g W 0 c
  b : ∀ c, 0 ≤ c → c < W → g (H - 1) c = 0 → UpZ g W (H - 1) c
  l : ∀ r, 0 ≤ r → r < H → g r 0 = 0 → LvZ g H r 0
  r : ∀ r, 0 ≤ r → r < H → g r (W - 1) = 0 → LvZ g H r (W - 1)
  x : ∀ r c, 0 ≤ r → r < H → 0 ≤ c → c + 1 < W → g r c ≠ 0 → g r (c + 1) ≠ 0 → g r (c + 1) = g r c
  y : ∀ r c, 0 ≤ r → r + 1 < H → 0 ≤ c → c < W → g r c ≠ 0 → g (r + 1) c ≠ 0 → g (r + 1) c = g r c
  z : ∀ r c, 0 ≤ r → r < H → 0 ≤ c → c < W → g r c = 0 → UpZ g W r c ∨ LvZ g H r c ∨ NrZ g W H r c
  q : ∀ r c, 0 ≤ r → r + 1 < H → 0 ≤ c → c + 1 < W → g r c = 0 → g (r + 1) c = 0 → g r (c + 1) = 0 → g (r + 1) (c + 1) = 0 → False
theorem Nice.flip {g : Int → Int → Int} {W H : Int} (n : Nice g W H) : Nice (fun r c => g c r) H W :=
  ⟨n.h1, n.w1, n.c1, n.c3, n.c2, n.c4, n.l, n.r, n.t, n.b, fun r c a b d e => n.y c r d e a b, fun r c a b d e => n.x c r d e a b,
   fun r c a b d e f => by
    rcases n.z c r d e a b f with h | h | h | h | h | h
    · exact .inr (.inl h)
    · exact .inl h
    · exact .inr (.inr (.inr (.inr (.inl h))))
    · exact .inr (.inr (.inr (.inr (.inr h))))
    · exact .inr (.inr (.inl h))
    · exact .inr (.inr (.inr (.inl h))),
   fun r c a b d e f1 f2 f3 f4 => n.q c r d e a b f1 f3 f2 f4⟩
/-- two areas beside each other, and a border between them -/
def bsd (g : Int → Int → Int) (s : Int) (g' : Int → Int → Int) : Int → Int → Int := fun r c => if c < s then g r c else if c = s then 0 else g' r (c - s - 1)
theorem bsd_l {g g' : Int → Int → Int} {s r c : Int} (h : c < s) : bsd g s g' r c = g r c := if_pos h
theorem bsd_m {g g' : Int → Int → Int} {s r c : Int} (h : c = s) : bsd g s g' r c = 0 := by
  unfold bsd
  rw [if_neg (by omega), if_pos h]
theorem bsd_r {g g' : Int → Int → Int} {s r c c' : Int} (h : s < c) (e : c' = c - s - 1) : bsd g s g' r c = g' r c' := by
  unfold bsd
  rw [if_neg (by omega), if_neg (by omega), e]
theorem Nice.beside {g g' : Int → Int → Int} {A B H : Int} (m : Nice g A H) (n : Nice g' B H) : Nice (bsd g A g') (A + 1 + B) H := by
  have a1 := m.w1
  have b1 := n.w1
  have h1 := m.h1
  have edge : ∀ r, g r (A - 1) ≠ 0 → g' r 0 ≠ 0 → UpZ (bsd g A g') (A + 1 + B) r A := fun r p q => ⟨by omega, by omega, by rw [bsd_l (by omega)]; exact p, by rw [bsd_r (c' := 0) (by omega) (by omega)]; exact q⟩
  have upL : ∀ r c, UpZ g A r c → UpZ (bsd g A g') (A + 1 + B) r c := fun r c ⟨p1, p2, p3, p4⟩ => ⟨p1, by omega, by rw [bsd_l (by omega)]; exact p3, by rw [bsd_l (by omega)]; exact p4⟩
  have upR : ∀ r c, A < c → UpZ g' B r (c - A - 1) → UpZ (bsd g A g') (A + 1 + B) r c := fun r c h ⟨p1, p2, p3, p4⟩ => ⟨by omega, by omega, by rw [bsd_r (c' := c - A - 1 - 1) (by omega) (by omega)]; exact p3, by rw [bsd_r (c' := c - A - 1 + 1) (by omega) (by omega)]; exact p4⟩
  have lvL : ∀ r c, c < A → LvZ g H r c → LvZ (bsd g A g') H r c := fun r c h ⟨p1, p2, p3, p4⟩ => ⟨p1, p2, by rw [bsd_l h]; exact p3, by rw [bsd_l h]; exact p4⟩
  have lvR : ∀ r c, A < c → LvZ g' H r (c - A - 1) → LvZ (bsd g A g') H r c := fun r c h ⟨p1, p2, p3, p4⟩ => ⟨p1, p2, by rw [bsd_r h rfl]; exact p3, by rw [bsd_r h rfl]; exact p4⟩
  have top : ∀ R, g R (A - 1) ≠ 0 → g' R 0 ≠ 0 → (∀ c, 0 ≤ c → c < A → g R c = 0 → UpZ g A R c) → (∀ c, 0 ≤ c → c < B → g' R c = 0 → UpZ g' B R c) → ∀ c, 0 ≤ c → c < A + 1 + B → bsd g A g' R c = 0 → UpZ (bsd g A g') (A + 1 + B) R c := fun R e1 e2 f1 f2 c p q z => by
    rcases Int.lt_trichotomy c A with k | k | k
    · rw [bsd_l k] at z
      exact upL R c (f1 c p k z)
    · rw [k]; exact edge R e1 e2
    · rw [bsd_r k rfl] at z
      exact upR R c k (f2 _ (by omega) (by omega) z)
  refine ⟨by omega, h1, ?_, ?_, ?_, ?_, top 0 m.c2 n.c1 m.t n.t, top (H - 1) m.c4 n.c3 m.b n.b, ?_, ?_, ?_, ?_, ?_, ?_⟩
  · rw [bsd_l (by omega)]; exact m.c1
  · rw [bsd_r (c' := B - 1) (by omega) (by omega)]; exact n.c2
  · rw [bsd_l (by omega)]; exact m.c3
  · rw [bsd_r (c' := B - 1) (by omega) (by omega)]; exact n.c4
  · intro r p q z
    rw [bsd_l (by omega)] at z
    exact lvL r 0 (by omega) (m.l r p q z)
  · intro r p q z
    rw [bsd_r (c' := B - 1) (by omega) (by omega)] at z
    have := n.r r p q z
    refine lvR r _ (by omega) ?_
    rw [show A + 1 + B - 1 - A - 1 = B - 1 by omega]
    exact this
  · intro r c p q s t z1 z2
    rcases Int.lt_trichotomy c A with k | k | k
    · rw [bsd_l k] at z1 ⊢
      by_cases k2 : c + 1 = A
      · exact absurd (bsd_m k2) z2
      · rw [bsd_l (by omega)] at z2 ⊢
        exact m.x r c p q s (by omega) z1 z2
    · exact absurd (bsd_m k) z1
    · rw [bsd_r k rfl] at z1 ⊢
      rw [bsd_r (c' := c - A - 1 + 1) (by omega) (by omega)] at z2 ⊢
      exact n.x r _ p q (by omega) (by omega) z1 z2
  · intro r c p q s t z1 z2
    rcases Int.lt_trichotomy c A with k | k | k
    · rw [bsd_l k] at z1 z2 ⊢
      rw [bsd_l k]
      exact m.y r c p q s k z1 z2
    · exact absurd (bsd_m k) z1
    · rw [bsd_r k rfl] at z1 z2 ⊢
      rw [bsd_r k rfl]
      exact n.y r _ p q (by omega) (by omega) z1 z2
  · intro r c p q s t z
    rcases Int.lt_trichotomy c A with k | k | k
    · rw [bsd_l k] at z
      rcases m.z r c p q s k z with h | h | h | h | h | h
      · exact .inl (upL r c h)
      · exact .inr (.inl (lvL r c k h))
      · exact .inr (.inr (.inl ⟨h.1, by rw [bsd_l (by omega)]; exact h.2⟩))
      · exact .inr (.inr (.inr (.inl ⟨by omega, by rw [bsd_l (by omega)]; exact h.2⟩)))
      · exact .inr (.inr (.inr (.inr (.inl ⟨h.1, by rw [bsd_l k]; exact h.2⟩))))
      · exact .inr (.inr (.inr (.inr (.inr ⟨h.1, by rw [bsd_l k]; exact h.2⟩))))
    · by_cases k2 : r + 1 < H
      · exact .inr (.inr (.inr (.inr (.inr ⟨k2, bsd_m k⟩))))
      · by_cases k3 : 0 < r
        · exact .inr (.inr (.inr (.inr (.inl ⟨k3, bsd_m k⟩))))
        · have r0 : r = 0 := by omega
          rw [r0, k]
          exact .inl (edge 0 m.c2 n.c1)
    · rw [bsd_r k rfl] at z
      rcases n.z r _ p q (by omega) (by omega) z with h | h | h | h | h | h
      · exact .inl (upR r c k h)
      · exact .inr (.inl (lvR r c k h))
      · exact .inr (.inr (.inl ⟨by omega, by rw [bsd_r (c' := c - A - 1 - 1) (by omega) (by omega)]; exact h.2⟩))
      · exact .inr (.inr (.inr (.inl ⟨by omega, by rw [bsd_r (c' := c - A - 1 + 1) (by omega) (by omega)]; exact h.2⟩)))
      · exact .inr (.inr (.inr (.inr (.inl ⟨h.1, by rw [bsd_r k rfl]; exact h.2⟩))))
      · exact .inr (.inr (.inr (.inr (.inr ⟨h.1, by rw [bsd_r k rfl]; exact h.2⟩))))
  · intro r c p q s t z1 z2 z3 z4
    rcases Int.lt_trichotomy c A with k | k | k
    · rw [bsd_l k] at z1 z2
      by_cases k2 : c + 1 = A
      · have e : c = A - 1 := by omega
        rw [e] at z1 z2
        exact (m.r r p (by omega) z1).2.2.2 z2
      · rw [bsd_l (by omega)] at z3 z4
        exact m.q r c p q s (by omega) z1 z2 z3 z4
    · rw [bsd_r (c' := 0) (by omega) (by omega)] at z3 z4
      exact (n.l r p (by omega) z3).2.2.2 z4
    · rw [bsd_r k rfl] at z1 z2
      rw [bsd_r (c' := c - A - 1 + 1) (by omega) (by omega)] at z3 z4
      exact n.q r _ p q (by omega) (by omega) z1 z2 z3 z4
theorem Nice.pane {n W H : Int} (h : n ≠ 0) (w1 : 1 ≤ W) (h1 : 1 ≤ H) : Nice (fun _ _ => n) W H :=
  ⟨w1, h1, h, h, h, h, fun _ _ _ z => absurd z h, fun _ _ _ z => absurd z h, fun _ _ _ z => absurd z h, fun _ _ _ z => absurd z h, fun _ _ _ _ _ _ _ _ => rfl, fun _ _ _ _ _ _ _ _ => rfl, fun _ _ _ _ _ _ z => absurd z h, fun _ _ _ _ _ _ z => absurd z h⟩

/-! ## the cells of a fitted layout -/
mutual
def Lay.cell : Lay → Int → Int → Int
  | .pane n, _, _ => n
  | .node b ls ss, r, c => cells b ls ss r c
def cells (b : Bool) : List Lay → List Int → Int → Int → Int
  | [], _, _, _ => 0
  | l :: ls, ss, r, c =>
    if ls.isEmpty = true then l.cell r c
    else if b = true then (if r < ss.headD 0 then l.cell r c else if r = ss.headD 0 then 0 else cells b ls ss.tail (r - ss.headD 0 - 1) c)
    else (if c < ss.headD 0 then l.cell r c else if c = ss.headD 0 then 0 else cells b ls ss.tail r (c - ss.headD 0 - 1))
end
theorem cells_one {b : Bool} {l : Lay} {ss : List Int} : cells b [l] ss = l.cell := by
  funext r c
  simp [cells]
theorem cells_beside {l k : Lay} {ls : List Lay} {s : Int} {ss : List Int} : cells false (l :: k :: ls) (s :: ss) = bsd l.cell s (cells false (k :: ls) ss) := by
  funext r c
  rw [cells]
  rfl
theorem cells_below {l k : Lay} {ls : List Lay} {s : Int} {ss : List Int} : (fun r c => cells true (l :: k :: ls) (s :: ss) c r) = bsd (fun r c => l.cell c r) s (fun r c => cells true (k :: ls) ss c r) := by
  funext r c
  rw [cells]
  rfl
theorem sum_one {s : Int} : [s].sum = s := by simp
theorem nice_list {b : Bool} {W H : Int} : ∀ (ls : List Lay) (ss : List Int), ls ≠ [] → ls.length = ss.length → (∀ (i : Nat) (hi : i < ls.length), Nice (ls[i]).cell (if b = true then W else ss.getD i 0) (if b = true then ss.getD i 0 else H)) →
    Nice (cells b ls ss) (if b = true then W else ss.sum + ((ls.length : Int) - 1)) (if b = true then ss.sum + ((ls.length : Int) - 1) else H)
  | [], _, h, _, _ => absurd rfl h
  | [l], [s], _, _, hg => by
    rw [cells_one]
    have := hg 0 (by simp)
    simp only [List.getElem_cons_zero, List.getD_cons_zero] at this
    rw [sum_one, show s + (([l].length : Int) - 1) = s by simp]
    exact this
  | [l], [], _, hl, _ => by simp at hl
  | [l], _ :: _ :: _, _, hl, _ => by simp at hl
  | l :: k :: ls, [], _, hl, _ => by simp at hl
  | l :: k :: ls, s :: ss, _, hl, hg => by
    have ih := nice_list (b := b) (W := W) (H := H) (k :: ls) ss (by simp) (by simpa using hl) fun i hi => by
      have := hg (i + 1) (by simp only [List.length_cons] at hi ⊢; omega)
      simpa using this
    have h0 := hg 0 (by simp)
    simp only [List.getElem_cons_zero, List.getD_cons_zero] at h0
    have es : (s :: ss).sum + (((l :: k :: ls).length : Int) - 1) = s + 1 + (ss.sum + (((k :: ls).length : Int) - 1)) := by
      simp only [List.sum_cons, List.length_cons]
      omega
    rw [es]
    cases b
    · simp only [Bool.false_eq_true, if_false] at h0 ih ⊢
      rw [cells_beside]
      exact h0.beside ih
    · simp only [if_true] at h0 ih ⊢
      have := (h0.flip.beside ih.flip)
      rw [← cells_below] at this
      exact this.flip
theorem ex_nice : ∀ {d : Nat} {l : Lay} {W H : Int}, Ex d l W H → (∀ p ∈ l.panes, p ≠ 0) → Nice l.cell W H := by
  intro d
  induction d with
  | zero =>
    intro l W H e hp
    cases e with
    | pane n hw hh =>
      have : (Lay.pane n).cell = fun _ _ => n := by funext r c; rfl
      rw [this]
      exact .pane (hp n (by simp [Lay.panes])) (by omega) hh
  | succ d ih =>
    intro l W H e hp
    cases e with
    | pane n hw hh =>
      have : (Lay.pane n).cell = fun _ _ => n := by funext r c; rfl
      rw [this]
      exact .pane (hp n (by simp [Lay.panes])) (by omega) hh
    | node hl h2 hs hg =>
      rename_i b ls ss
      have nl := nice_list (b := b) (W := W) (H := H) ls ss (by intro z; rw [z] at h2; simp at h2) hl fun i hi => ih (hg i hi) fun p m => hp p (by
        rw [Lay.panes_node]
        exact List.mem_flatMap.mpr ⟨_, List.getElem_mem hi, m⟩)
      rw [hs] at nl
      have : (Lay.node b ls ss).cell = cells b ls ss := by funext r c; rfl
      rw [this]
      cases b
      · exact nl
      · exact nl
/-- a box holds a cell -/
def Box.has (x : Box) (r c : Int) : Prop := x.r ≤ r ∧ r < x.r + x.h ∧ x.c ≤ c ∧ c < x.c + x.w
instance (x : Box) (r c : Int) : Decidable (x.has r c) := by unfold Box.has; exact inferInstance
/-- the boxes of a layout that lies at a place, and its cells -/
structure Tld (bs : List Box) (g : Int → Int → Int) (r0 c0 W H : Int) : Prop where
  i : ∀ x ∈ bs, r0 ≤ x.r ∧ x.r + x.h ≤ r0 + H ∧ c0 ≤ x.c ∧ x.c + x.w ≤ c0 + W ∧ 2 ≤ x.w ∧ 1 ≤ x.h
  p : ∀ x ∈ bs, ∀ r c, x.has r c → g (r - r0) (c - c0) = x.p
  o : ∀ r c, r0 ≤ r → r < r0 + H → c0 ≤ c → c < c0 + W → g (r - r0) (c - c0) ≠ 0 → ∃ x ∈ bs, x.has r c
theorem tld_list {b : Bool} {W H : Int} (w0 : 0 ≤ W) (h0 : 0 ≤ H) : ∀ (ls : List Lay) (ss : List Int) (r0 c0 : Int), ls ≠ [] → ls.length = ss.length → (∀ s ∈ ss, 0 ≤ s) →
    (∀ (i : Nat) (hi : i < ls.length) (r c : Int), Tld ((ls[i]).boxes r c (if b = true then W else ss.getD i 0) (if b = true then ss.getD i 0 else H)) (ls[i]).cell r c (if b = true then W else ss.getD i 0) (if b = true then ss.getD i 0 else H)) →
    Tld (boxess b ls ss r0 c0 W H) (cells b ls ss) r0 c0 (if b = true then W else ss.sum + ((ls.length : Int) - 1)) (if b = true then ss.sum + ((ls.length : Int) - 1) else H)
  | [], _, _, _, h, _, _, _ => absurd rfl h
  | [l], [s], r0, c0, _, _, _, hg => by
    rw [cells_one]
    have := hg 0 (by simp) r0 c0
    simp only [List.getElem_cons_zero, List.getD_cons_zero] at this
    rw [sum_one, show s + (([l].length : Int) - 1) = s by simp]
    have e : boxess b [l] [s] r0 c0 W H = l.boxes r0 c0 (if b = true then W else s) (if b = true then s else H) := by simp [boxess]
    rw [e]
    exact this
  | [l], [], _, _, _, hl, _, _ => by simp at hl
  | [l], _ :: _ :: _, _, _, _, hl, _, _ => by simp at hl
  | l :: k :: ls, [], _, _, _, hl, _, _ => by simp at hl
  | l :: k :: ls, s :: ss, r0, c0, _, hl, hs, hg => by
    have ih := tld_list (b := b) w0 h0 (k :: ls) ss (if b = true then r0 + s + 1 else r0) (if b = true then c0 else c0 + s + 1) (by simp) (by simpa using hl) (fun s m => hs s (List.mem_cons_of_mem _ m)) fun i hi r c => by
      have := hg (i + 1) (by simp only [List.length_cons] at hi ⊢; omega) r c
      simpa using this
    have h0' := hg 0 (by simp) r0 c0
    simp only [List.getElem_cons_zero, List.getD_cons_zero] at h0'
    have s0 := hs s (List.mem_cons_self ..)
    have sm : 0 ≤ ss.sum + (((k :: ls).length : Int) - 1) := by
      have : ∀ xs : List Int, (∀ x ∈ xs, 0 ≤ x) → 0 ≤ xs.sum := by
        intro xs
        induction xs with
        | nil => intro _; simp
        | cons x xs ih => intro h; rw [List.sum_cons]; have := ih fun y m => h y (List.mem_cons_of_mem _ m); have := h x (List.mem_cons_self ..); omega
      have := this ss fun x m => hs x (List.mem_cons_of_mem _ m)
      simp only [List.length_cons]
      omega
    have es : (s :: ss).sum + (((l :: k :: ls).length : Int) - 1) = s + 1 + (ss.sum + (((k :: ls).length : Int) - 1)) := by
      simp only [List.sum_cons, List.length_cons]
      omega
    have eb : boxess b (l :: k :: ls) (s :: ss) r0 c0 W H = l.boxes r0 c0 (if b = true then W else s) (if b = true then s else H) ++ boxess b (k :: ls) ss (if b = true then r0 + s + 1 else r0) (if b = true then c0 else c0 + s + 1) W H := rfl
    rw [es, eb]
    generalize ss.sum + (((k :: ls).length : Int) - 1) = T at *
    cases b
    · simp only [Bool.false_eq_true, if_false] at h0' ih ⊢
      rw [cells_beside]
      refine ⟨fun x m => ?_, fun x m r c hx => ?_, fun r c a1 a2 a3 a4 z => ?_⟩
      · rcases List.mem_append.mp m with m | m
        · have := h0'.i x m; omega
        · have := ih.i x m; omega
      · rcases List.mem_append.mp m with m | m
        · have i := h0'.i x m
          rw [bsd_l (by unfold Box.has at hx; omega)]
          exact h0'.p x m r c hx
        · have i := ih.i x m
          rw [bsd_r (c' := c - (c0 + s + 1)) (by unfold Box.has at hx; omega) (by omega)]
          exact ih.p x m r c hx
      · rcases Int.lt_trichotomy (c - c0) s with q | q | q
        · rw [bsd_l q] at z
          obtain ⟨x, m, h⟩ := h0'.o r c a1 a2 a3 (by omega) z
          exact ⟨x, List.mem_append_left _ m, h⟩
        · exact absurd (bsd_m q) z
        · rw [bsd_r (c' := c - (c0 + s + 1)) q (by omega)] at z
          obtain ⟨x, m, h⟩ := ih.o r c a1 a2 (by omega) (by omega) z
          exact ⟨x, List.mem_append_right _ m, h⟩
    · simp only [if_true] at h0' ih ⊢
      have cb : ∀ r c, cells true (l :: k :: ls) (s :: ss) r c = bsd (fun r c => l.cell c r) s (fun r c => cells true (k :: ls) ss c r) c r := fun r c => congrFun (congrFun cells_below c) r
      refine ⟨fun x m => ?_, fun x m r c hx => ?_, fun r c a1 a2 a3 a4 z => ?_⟩
      · rcases List.mem_append.mp m with m | m
        · have := h0'.i x m; omega
        · have := ih.i x m; omega
      · rw [cb]
        rcases List.mem_append.mp m with m | m
        · have i := h0'.i x m
          rw [bsd_l (by unfold Box.has at hx; omega)]
          exact h0'.p x m r c hx
        · have i := ih.i x m
          rw [bsd_r (c' := r - (r0 + s + 1)) (by unfold Box.has at hx; omega) (by omega)]
          exact ih.p x m r c hx
      · rw [cb] at z
        rcases Int.lt_trichotomy (r - r0) s with q | q | q
        · rw [bsd_l q] at z
          obtain ⟨x, m, h⟩ := h0'.o r c a1 (by omega) a3 a4 z
          exact ⟨x, List.mem_append_left _ m, h⟩
        · exact absurd (bsd_m q) z
        · rw [bsd_r (c' := r - (r0 + s + 1)) q (by omega)] at z
          obtain ⟨x, m, h⟩ := ih.o r c (by omega) (by omega) a3 a4 z
          exact ⟨x, List.mem_append_right _ m, h⟩
theorem ex_pos : ∀ {d : Nat} {l : Lay} {W H : Int}, Ex d l W H → (∀ p ∈ l.panes, p ≠ 0) → 1 ≤ W ∧ 1 ≤ H := fun e hp => ⟨(ex_nice e hp).w1, (ex_nice e hp).h1⟩
theorem ex_tld : ∀ {d : Nat} {l : Lay} {W H : Int}, Ex d l W H → (∀ p ∈ l.panes, p ≠ 0) → ∀ r0 c0, Tld (l.boxes r0 c0 W H) l.cell r0 c0 W H := by
  intro d
  have one : ∀ {n W H : Int}, 2 ≤ W → 1 ≤ H → ∀ r0 c0, Tld ((Lay.pane n).boxes r0 c0 W H) (Lay.pane n).cell r0 c0 W H := fun {n W H} hw hh r0 c0 => by
    refine ⟨fun x m => ?_, fun x m r c hx => ?_, fun r c a1 a2 a3 a4 z => ⟨_, List.mem_singleton.mpr rfl, a1, a2, a3, a4⟩⟩
    · have : x = ⟨n, r0, c0, W, H⟩ := by simpa [Lay.boxes] using m
      subst this
      exact ⟨Int.le_refl _, Int.le_refl _, Int.le_refl _, Int.le_refl _, hw, hh⟩
    · have : x = ⟨n, r0, c0, W, H⟩ := by simpa [Lay.boxes] using m
      subst this
      rfl
  induction d with
  | zero =>
    intro l W H e hp r0 c0
    cases e with
    | pane n hw hh => exact one hw hh r0 c0
  | succ d ih =>
    intro l W H e hp r0 c0
    have ps := ex_pos e hp
    cases e with
    | pane n hw hh => exact one hw hh r0 c0
    | node hl h2 hs hg =>
      rename_i b ls ss
      have sub : ∀ (i : Nat) (hi : i < ls.length), ∀ p ∈ (ls[i]).panes, p ≠ 0 := fun i hi p m => hp p (by
        rw [Lay.panes_node]
        exact List.mem_flatMap.mpr ⟨_, List.getElem_mem hi, m⟩)
      have s0 : ∀ s ∈ ss, 0 ≤ s := fun s m => by
        obtain ⟨i, hi, rfl⟩ := List.getElem_of_mem m
        have := ex_pos (hg i (by omega)) (sub i (by omega))
        rw [getD_get hi] at this
        cases b
        · simp only [Bool.false_eq_true, if_false] at this; omega
        · simp only [if_true] at this; omega
      have nl := tld_list (b := b) (W := W) (H := H) (by omega) (by omega) ls ss r0 c0 (by intro z; rw [z] at h2; simp at h2) hl s0 fun i hi r c => ih (hg i hi) (sub i hi) r c
      rw [hs] at nl
      have : (Lay.node b ls ss).cell = cells b ls ss := by funext r c; rfl
      rw [this]
      cases b
      · exact nl
      · exact nl

/-! ## the borders, looked at cell by cell -/
def N_law_borders_right : List Str := ["sheet", "w", "h", "r", "c", "here", "upright", "level", "near"]
def e_law_borders_right_b1 : PV.DS → Option PV.Out := PV.dSeq (PV.dAsg (PV.dOp PV.dIx (PV.dOp PV.dIx (PV.vVar 0) (PV.vVar 3)) (PV.vVar 4)) (PV.gN 5)) (
  PV.dSeq (PV.dIf (PV.dAndT (PV.dTest (PV.dOp PV.dNe (PV.vVar 5) (PV.dC (.int 0)))) (PV.dAndT (PV.dTest (PV.dOp PV.dLt (PV.dOp PV.dAdd (PV.vVar 4) (PV.dC (.int 1))) (PV.vVar 1))) (PV.dTest (PV.dOp PV.dNotIn (PV.dOp PV.dIx (PV.dOp PV.dIx (PV.vVar 0) (PV.vVar 3)) (PV.dOp PV.dAdd (PV.vVar 4) (PV.dC (.int 1)))) (PV.dLst (PV.fLst (PV.dCons (PV.dC (.int 0)) (PV.dCons (PV.dVar 5) (PV.dNil))))))))) (PV.dRet (PV.dC (.bl false))) (PV.dNext)) (
  PV.dSeq (PV.dIf (PV.dAndT (PV.dTest (PV.dOp PV.dNe (PV.vVar 5) (PV.dC (.int 0)))) (PV.dAndT (PV.dTest (PV.dOp PV.dLt (PV.dOp PV.dAdd (PV.vVar 3) (PV.dC (.int 1))) (PV.vVar 2))) (PV.dTest (PV.dOp PV.dNotIn (PV.dOp PV.dIx (PV.dOp PV.dIx (PV.vVar 0) (PV.dOp PV.dAdd (PV.vVar 3) (PV.dC (.int 1)))) (PV.vVar 4)) (PV.dLst (PV.fLst (PV.dCons (PV.dC (.int 0)) (PV.dCons (PV.dVar 5) (PV.dNil))))))))) (PV.dRet (PV.dC (.bl false))) (PV.dNext)) (
  PV.dSeq (PV.dAsg (PV.dAnd (PV.dChain PV.dLt PV.dLt (PV.dC (.int 0)) (PV.vVar 4) (PV.dOp PV.dSub (PV.vVar 1) (PV.dC (.int 1)))) (PV.dAnd (PV.dOp PV.dNe (PV.dOp PV.dIx (PV.dOp PV.dIx (PV.vVar 0) (PV.vVar 3)) (PV.dOp PV.dSub (PV.vVar 4) (PV.dC (.int 1)))) (PV.dC (.int 0))) (PV.dOp PV.dNe (PV.dOp PV.dIx (PV.dOp PV.dIx (PV.vVar 0) (PV.vVar 3)) (PV.dOp PV.dAdd (PV.vVar 4) (PV.dC (.int 1)))) (PV.dC (.int 0))))) (PV.gN 6)) (
  PV.dSeq (PV.dAsg (PV.dAnd (PV.dChain PV.dLt PV.dLt (PV.dC (.int 0)) (PV.vVar 3) (PV.dOp PV.dSub (PV.vVar 2) (PV.dC (.int 1)))) (PV.dAnd (PV.dOp PV.dNe (PV.dOp PV.dIx (PV.dOp PV.dIx (PV.vVar 0) (PV.dOp PV.dSub (PV.vVar 3) (PV.dC (.int 1)))) (PV.vVar 4)) (PV.dC (.int 0))) (PV.dOp PV.dNe (PV.dOp PV.dIx (PV.dOp PV.dIx (PV.vVar 0) (PV.dOp PV.dAdd (PV.vVar 3) (PV.dC (.int 1)))) (PV.vVar 4)) (PV.dC (.int 0))))) (PV.gN 7)) (
  PV.dSeq (PV.dAsg (PV.dOr (PV.dAnd (PV.dOp PV.dLt (PV.dC (.int 0)) (PV.vVar 4)) (PV.dOp PV.dEq (PV.dOp PV.dIx (PV.dOp PV.dIx (PV.vVar 0) (PV.vVar 3)) (PV.dOp PV.dSub (PV.vVar 4) (PV.dC (.int 1)))) (PV.dC (.int 0)))) (PV.dAnd (PV.dOp PV.dLt (PV.dOp PV.dAdd (PV.vVar 4) (PV.dC (.int 1))) (PV.vVar 1)) (PV.dOp PV.dEq (PV.dOp PV.dIx (PV.dOp PV.dIx (PV.vVar 0) (PV.vVar 3)) (PV.dOp PV.dAdd (PV.vVar 4) (PV.dC (.int 1)))) (PV.dC (.int 0))))) (PV.gN 8)) (
  PV.dSeq (PV.dAsg (PV.dOr (PV.vVar 8) (PV.dOr (PV.dAnd (PV.dOp PV.dLt (PV.dC (.int 0)) (PV.vVar 3)) (PV.dOp PV.dEq (PV.dOp PV.dIx (PV.dOp PV.dIx (PV.vVar 0) (PV.dOp PV.dSub (PV.vVar 3) (PV.dC (.int 1)))) (PV.vVar 4)) (PV.dC (.int 0)))) (PV.dAnd (PV.dOp PV.dLt (PV.dOp PV.dAdd (PV.vVar 3) (PV.dC (.int 1))) (PV.vVar 2)) (PV.dOp PV.dEq (PV.dOp PV.dIx (PV.dOp PV.dIx (PV.vVar 0) (PV.dOp PV.dAdd (PV.vVar 3) (PV.dC (.int 1)))) (PV.vVar 4)) (PV.dC (.int 0)))))) (PV.gN 8)) (
  PV.dSeq (PV.dIf (PV.dAndT (PV.dTest (PV.dOp PV.dEq (PV.vVar 5) (PV.dC (.int 0)))) (PV.dAndT (PV.dNotT (PV.dTru (PV.vVar 6))) (PV.dAndT (PV.dNotT (PV.dTru (PV.vVar 7))) (PV.dNotT (PV.dTru (PV.vVar 8)))))) (PV.dRet (PV.dC (.bl false))) (PV.dNext)) (
  PV.dSeq (PV.dIf (PV.dAndT (PV.dTest (PV.dOp PV.dEq (PV.vVar 5) (PV.dC (.int 0)))) (PV.dOrT (PV.dAndT (PV.dTest (PV.dOp PV.dIn (PV.vVar 3) (PV.dLst (PV.fLst (PV.dCons (PV.dC (.int 0)) (PV.dCons (PV.dOp PV.dSub (PV.vVar 2) (PV.dC (.int 1))) (PV.dNil))))))) (PV.dNotT (PV.dTru (PV.vVar 6)))) (PV.dAndT (PV.dTest (PV.dOp PV.dIn (PV.vVar 4) (PV.dLst (PV.fLst (PV.dCons (PV.dC (.int 0)) (PV.dCons (PV.dOp PV.dSub (PV.vVar 1) (PV.dC (.int 1))) (PV.dNil))))))) (PV.dNotT (PV.dTru (PV.vVar 7)))))) (PV.dRet (PV.dC (.bl false))) (PV.dNext)) (
  PV.dIf (PV.dAndT (PV.dTest (PV.dOp PV.dEq (PV.vVar 5) (PV.dC (.int 0)))) (PV.dAndT (PV.dTest (PV.dOp PV.dLt (PV.dOp PV.dAdd (PV.vVar 3) (PV.dC (.int 1))) (PV.vVar 2))) (PV.dAndT (PV.dTest (PV.dOp PV.dLt (PV.dOp PV.dAdd (PV.vVar 4) (PV.dC (.int 1))) (PV.vVar 1))) (PV.dTest (PV.dChain3 PV.dEq PV.dEq PV.dEq (PV.dOp PV.dIx (PV.dOp PV.dIx (PV.vVar 0) (PV.dOp PV.dAdd (PV.vVar 3) (PV.dC (.int 1)))) (PV.vVar 4)) (PV.dOp PV.dIx (PV.dOp PV.dIx (PV.vVar 0) (PV.vVar 3)) (PV.dOp PV.dAdd (PV.vVar 4) (PV.dC (.int 1)))) (PV.dOp PV.dIx (PV.dOp PV.dIx (PV.vVar 0) (PV.dOp PV.dAdd (PV.vVar 3) (PV.dC (.int 1)))) (PV.dOp PV.dAdd (PV.vVar 4) (PV.dC (.int 1)))) (PV.dC (.int 0))))))) (PV.dRet (PV.dC (.bl false))) (PV.dNext))))))))))
def e_law_borders_right_t1 : PV.D → PV.DS → Option PV.Out := fun d δ => ((PV.gN 4) d δ).bind (e_law_borders_right_b1)
def e_law_borders_right_l1 : PV.DS → Option PV.Out := PV.dFor (PV.iBy PV.dRng1 (PV.dCons (PV.vVar 1) (PV.dNil))) (PV.gN 4) (e_law_borders_right_b1)
theorem e_law_borders_right_l1_is (δ : PV.DS) : e_law_borders_right_l1 δ = ((PV.iBy PV.dRng1 (PV.dCons (PV.vVar 1) (PV.dNil))) δ).bind fun ds => PV.dLoop (e_law_borders_right_t1) ds δ := rfl
def e_law_borders_right_b2 : PV.DS → Option PV.Out := e_law_borders_right_l1
def e_law_borders_right_t2 : PV.D → PV.DS → Option PV.Out := fun d δ => ((PV.gN 3) d δ).bind (e_law_borders_right_b2)
def e_law_borders_right_l2 : PV.DS → Option PV.Out := PV.dFor (PV.iBy PV.dRng1 (PV.dCons (PV.vVar 2) (PV.dNil))) (PV.gN 3) (e_law_borders_right_b2)
theorem e_law_borders_right_l2_is (δ : PV.DS) : e_law_borders_right_l2 δ = ((PV.iBy PV.dRng1 (PV.dCons (PV.vVar 2) (PV.dNil))) δ).bind fun ds => PV.dLoop (e_law_borders_right_t2) ds δ := rfl
def e_law_borders_right : PV.DS → Option PV.Out := PV.dSeq (e_law_borders_right_l2) (
  PV.dRet (PV.dC (.bl true)))
def f_law_borders_right : List PV.D → Option PV.D := PV.run 9 3 e_law_borders_right
theorem run_law_borders_right (a0 a1 a2 : PV.D) : f_law_borders_right [a0, a1, a2] = PV.fin (e_law_borders_right [some (.dat a0), some (.dat a1), some (.dat a2), none, none, none, none, none, none]) := rfl
abbrev sp_law_borders_right (K : PySem.W.Frag) : Sp := PV.spV K f_law_borders_right
def t_law_borders_right (K : PySem.W.Frag) : TS := tSeq (tFor (iRng1 (tCons (PB.mVar 2) (tNil))) (gName 3) (tFor (iRng1 (tCons (PB.mVar 1) (tNil))) (gName 4) (tSeq (tAsg (tOp (PB.mIx K) (tOp (PB.mIx K) (PB.mVar 0) (PB.mVar 3)) (PB.mVar 4)) (gName 5)) (
  C8.tCut (tIfS (tAnd (PB.mTest (tOp (PB.mNe K) (PB.mVar 5) (tC (.int 0)))) (tAnd (PB.mTest (tOp (PB.mLt) (tOp (PB.mAdd K) (PB.mVar 4) (tC (.int 1))) (PB.mVar 1))) (PB.mTest (tOp (PB.mNotIn K) (tOp (PB.mIx K) (tOp (PB.mIx K) (PB.mVar 0) (PB.mVar 3)) (tOp (PB.mAdd K) (PB.mVar 4) (tC (.int 1)))) (tLst (tCons (tC (.int 0)) (tCons (PB.mVar 5) (tNil)))))))) (tRet (tC (.bl false))) (tNext)) (
  C8.tCut (tIfS (tAnd (PB.mTest (tOp (PB.mNe K) (PB.mVar 5) (tC (.int 0)))) (tAnd (PB.mTest (tOp (PB.mLt) (tOp (PB.mAdd K) (PB.mVar 3) (tC (.int 1))) (PB.mVar 2))) (PB.mTest (tOp (PB.mNotIn K) (tOp (PB.mIx K) (tOp (PB.mIx K) (PB.mVar 0) (tOp (PB.mAdd K) (PB.mVar 3) (tC (.int 1)))) (PB.mVar 4)) (tLst (tCons (tC (.int 0)) (tCons (PB.mVar 5) (tNil)))))))) (tRet (tC (.bl false))) (tNext)) (
  tSeq (tAsg (PB.mAndV (PB.mChain (PB.mLt) (PB.mLt) (tC (.int 0)) (PB.mVar 4) (tOp (PB.mSub) (PB.mVar 1) (tC (.int 1)))) (PB.mAndV (tOp (PB.mNe K) (tOp (PB.mIx K) (tOp (PB.mIx K) (PB.mVar 0) (PB.mVar 3)) (tOp (PB.mSub) (PB.mVar 4) (tC (.int 1)))) (tC (.int 0))) (tOp (PB.mNe K) (tOp (PB.mIx K) (tOp (PB.mIx K) (PB.mVar 0) (PB.mVar 3)) (tOp (PB.mAdd K) (PB.mVar 4) (tC (.int 1)))) (tC (.int 0))))) (gName 6)) (
  tSeq (tAsg (PB.mAndV (PB.mChain (PB.mLt) (PB.mLt) (tC (.int 0)) (PB.mVar 3) (tOp (PB.mSub) (PB.mVar 2) (tC (.int 1)))) (PB.mAndV (tOp (PB.mNe K) (tOp (PB.mIx K) (tOp (PB.mIx K) (PB.mVar 0) (tOp (PB.mSub) (PB.mVar 3) (tC (.int 1)))) (PB.mVar 4)) (tC (.int 0))) (tOp (PB.mNe K) (tOp (PB.mIx K) (tOp (PB.mIx K) (PB.mVar 0) (tOp (PB.mAdd K) (PB.mVar 3) (tC (.int 1)))) (PB.mVar 4)) (tC (.int 0))))) (gName 7)) (
  tSeq (tAsg (PB.mOrV (PB.mAndV (tOp (PB.mLt) (tC (.int 0)) (PB.mVar 4)) (tOp (PB.mEq K) (tOp (PB.mIx K) (tOp (PB.mIx K) (PB.mVar 0) (PB.mVar 3)) (tOp (PB.mSub) (PB.mVar 4) (tC (.int 1)))) (tC (.int 0)))) (PB.mAndV (tOp (PB.mLt) (tOp (PB.mAdd K) (PB.mVar 4) (tC (.int 1))) (PB.mVar 1)) (tOp (PB.mEq K) (tOp (PB.mIx K) (tOp (PB.mIx K) (PB.mVar 0) (PB.mVar 3)) (tOp (PB.mAdd K) (PB.mVar 4) (tC (.int 1)))) (tC (.int 0))))) (gName 8)) (
  tSeq (tAsg (PB.mOrV (PB.mVar 8) (PB.mOrV (PB.mAndV (tOp (PB.mLt) (tC (.int 0)) (PB.mVar 3)) (tOp (PB.mEq K) (tOp (PB.mIx K) (tOp (PB.mIx K) (PB.mVar 0) (tOp (PB.mSub) (PB.mVar 3) (tC (.int 1)))) (PB.mVar 4)) (tC (.int 0)))) (PB.mAndV (tOp (PB.mLt) (tOp (PB.mAdd K) (PB.mVar 3) (tC (.int 1))) (PB.mVar 2)) (tOp (PB.mEq K) (tOp (PB.mIx K) (tOp (PB.mIx K) (PB.mVar 0) (tOp (PB.mAdd K) (PB.mVar 3) (tC (.int 1)))) (PB.mVar 4)) (tC (.int 0)))))) (gName 8)) (
  C8.tCut (tIfS (tAnd (PB.mTest (tOp (PB.mEq K) (PB.mVar 5) (tC (.int 0)))) (tAnd (tNot (PB.mTru K (PB.mVar 6))) (tAnd (tNot (PB.mTru K (PB.mVar 7))) (tNot (PB.mTru K (PB.mVar 8)))))) (tRet (tC (.bl false))) (tNext)) (
  C8.tCut (tIfS (tAnd (PB.mTest (tOp (PB.mEq K) (PB.mVar 5) (tC (.int 0)))) (tOr (tAnd (PB.mTest (tOp (PB.mIn K) (PB.mVar 3) (tLst (tCons (tC (.int 0)) (tCons (tOp (PB.mSub) (PB.mVar 2) (tC (.int 1))) (tNil)))))) (tNot (PB.mTru K (PB.mVar 6)))) (tAnd (PB.mTest (tOp (PB.mIn K) (PB.mVar 4) (tLst (tCons (tC (.int 0)) (tCons (tOp (PB.mSub) (PB.mVar 1) (tC (.int 1))) (tNil)))))) (tNot (PB.mTru K (PB.mVar 7)))))) (tRet (tC (.bl false))) (tNext)) (
  tIfS (tAnd (PB.mTest (tOp (PB.mEq K) (PB.mVar 5) (tC (.int 0)))) (tAnd (PB.mTest (tOp (PB.mLt) (tOp (PB.mAdd K) (PB.mVar 3) (tC (.int 1))) (PB.mVar 2))) (tAnd (PB.mTest (tOp (PB.mLt) (tOp (PB.mAdd K) (PB.mVar 4) (tC (.int 1))) (PB.mVar 1))) (PB.mTest (PB.mChain3 (PB.mEq K) (PB.mEq K) (PB.mEq K) (tOp (PB.mIx K) (tOp (PB.mIx K) (PB.mVar 0) (tOp (PB.mAdd K) (PB.mVar 3) (tC (.int 1)))) (PB.mVar 4)) (tOp (PB.mIx K) (tOp (PB.mIx K) (PB.mVar 0) (PB.mVar 3)) (tOp (PB.mAdd K) (PB.mVar 4) (tC (.int 1)))) (tOp (PB.mIx K) (tOp (PB.mIx K) (PB.mVar 0) (tOp (PB.mAdd K) (PB.mVar 3) (tC (.int 1)))) (tOp (PB.mAdd K) (PB.mVar 4) (tC (.int 1)))) (tC (.int 0))))))) (tRet (tC (.bl false))) (tNext))))))))))))) (
  tRet (tC (.bl true)))
theorem snd_law_borders_right (K : PySem.W.Frag) : PV.SS K (t_law_borders_right K) e_law_borders_right := by
  unfold t_law_borders_right e_law_borders_right e_law_borders_right_l2 e_law_borders_right_b2 e_law_borders_right_l1 e_law_borders_right_b1
  exact PV.s_seq (PV.s_for (vs := [3]) (PV.i_rng1 (PV.av_cons (PV.v_var) (PV.av_nil))) (PV.g_nm (by decide)) (PV.s_for (vs := [4]) (PV.i_rng1 (PV.av_cons (PV.v_var) (PV.av_nil))) (PV.g_nm (by decide)) (PV.s_seq (PV.s_asg (vs := [5]) (PV.s_op PV.r_ix ((PV.s_op PV.r_ix (PV.v_var) (PV.v_var)).v) (PV.v_var)) (PV.g_nm (by decide))) (
  PV.s_cut (PV.s_if (PV.t_and (PV.t_test ((PV.s_op PV.r_ne (PV.v_var) ((PV.s_int).v)).v)) (PV.t_and (PV.t_test ((PV.s_op PV.r_lt ((PV.s_op PV.r_add (PV.v_var) ((PV.s_int).v)).v) (PV.v_var)).v)) (PV.t_test ((PV.s_op PV.r_notIn ((PV.s_op PV.r_ix ((PV.s_op PV.r_ix (PV.v_var) (PV.v_var)).v) ((PV.s_op PV.r_add (PV.v_var) ((PV.s_int).v)).v)).v) ((PV.SF.e (PV.f_lst (PV.a_cons (PV.s_int) (PV.a_cons (PV.s_var) (PV.a_nil))))).v)).v)))) (PV.s_ret (PV.s_bl)) (PV.s_next)) (
  PV.s_cut (PV.s_if (PV.t_and (PV.t_test ((PV.s_op PV.r_ne (PV.v_var) ((PV.s_int).v)).v)) (PV.t_and (PV.t_test ((PV.s_op PV.r_lt ((PV.s_op PV.r_add (PV.v_var) ((PV.s_int).v)).v) (PV.v_var)).v)) (PV.t_test ((PV.s_op PV.r_notIn ((PV.s_op PV.r_ix ((PV.s_op PV.r_ix (PV.v_var) ((PV.s_op PV.r_add (PV.v_var) ((PV.s_int).v)).v)).v) (PV.v_var)).v) ((PV.SF.e (PV.f_lst (PV.a_cons (PV.s_int) (PV.a_cons (PV.s_var) (PV.a_nil))))).v)).v)))) (PV.s_ret (PV.s_bl)) (PV.s_next)) (
  PV.s_seq (PV.s_asg (vs := [6]) (PV.s_and ((PV.s_chain PV.r_lt PV.r_lt ((PV.s_int).v) (PV.v_var) ((PV.s_op PV.r_sub (PV.v_var) ((PV.s_int).v)).v)).v) (PV.s_and ((PV.s_op PV.r_ne ((PV.s_op PV.r_ix ((PV.s_op PV.r_ix (PV.v_var) (PV.v_var)).v) ((PV.s_op PV.r_sub (PV.v_var) ((PV.s_int).v)).v)).v) ((PV.s_int).v)).v) (PV.s_op PV.r_ne ((PV.s_op PV.r_ix ((PV.s_op PV.r_ix (PV.v_var) (PV.v_var)).v) ((PV.s_op PV.r_add (PV.v_var) ((PV.s_int).v)).v)).v) ((PV.s_int).v)))) (PV.g_nm (by decide))) (
  PV.s_seq (PV.s_asg (vs := [7]) (PV.s_and ((PV.s_chain PV.r_lt PV.r_lt ((PV.s_int).v) (PV.v_var) ((PV.s_op PV.r_sub (PV.v_var) ((PV.s_int).v)).v)).v) (PV.s_and ((PV.s_op PV.r_ne ((PV.s_op PV.r_ix ((PV.s_op PV.r_ix (PV.v_var) ((PV.s_op PV.r_sub (PV.v_var) ((PV.s_int).v)).v)).v) (PV.v_var)).v) ((PV.s_int).v)).v) (PV.s_op PV.r_ne ((PV.s_op PV.r_ix ((PV.s_op PV.r_ix (PV.v_var) ((PV.s_op PV.r_add (PV.v_var) ((PV.s_int).v)).v)).v) (PV.v_var)).v) ((PV.s_int).v)))) (PV.g_nm (by decide))) (
  PV.s_seq (PV.s_asg (vs := [8]) (PV.s_or ((PV.s_and ((PV.s_op PV.r_lt ((PV.s_int).v) (PV.v_var)).v) (PV.s_op PV.r_eq ((PV.s_op PV.r_ix ((PV.s_op PV.r_ix (PV.v_var) (PV.v_var)).v) ((PV.s_op PV.r_sub (PV.v_var) ((PV.s_int).v)).v)).v) ((PV.s_int).v))).v) (PV.s_and ((PV.s_op PV.r_lt ((PV.s_op PV.r_add (PV.v_var) ((PV.s_int).v)).v) (PV.v_var)).v) (PV.s_op PV.r_eq ((PV.s_op PV.r_ix ((PV.s_op PV.r_ix (PV.v_var) (PV.v_var)).v) ((PV.s_op PV.r_add (PV.v_var) ((PV.s_int).v)).v)).v) ((PV.s_int).v)))) (PV.g_nm (by decide))) (
  PV.s_seq (PV.s_asg (vs := [8]) (PV.s_or (PV.v_var) (PV.s_or ((PV.s_and ((PV.s_op PV.r_lt ((PV.s_int).v) (PV.v_var)).v) (PV.s_op PV.r_eq ((PV.s_op PV.r_ix ((PV.s_op PV.r_ix (PV.v_var) ((PV.s_op PV.r_sub (PV.v_var) ((PV.s_int).v)).v)).v) (PV.v_var)).v) ((PV.s_int).v))).v) (PV.s_and ((PV.s_op PV.r_lt ((PV.s_op PV.r_add (PV.v_var) ((PV.s_int).v)).v) (PV.v_var)).v) (PV.s_op PV.r_eq ((PV.s_op PV.r_ix ((PV.s_op PV.r_ix (PV.v_var) ((PV.s_op PV.r_add (PV.v_var) ((PV.s_int).v)).v)).v) (PV.v_var)).v) ((PV.s_int).v))))) (PV.g_nm (by decide))) (
  PV.s_cut (PV.s_if (PV.t_and (PV.t_test ((PV.s_op PV.r_eq (PV.v_var) ((PV.s_int).v)).v)) (PV.t_and (PV.t_not (PV.t_tru (PV.v_var))) (PV.t_and (PV.t_not (PV.t_tru (PV.v_var))) (PV.t_not (PV.t_tru (PV.v_var)))))) (PV.s_ret (PV.s_bl)) (PV.s_next)) (
  PV.s_cut (PV.s_if (PV.t_and (PV.t_test ((PV.s_op PV.r_eq (PV.v_var) ((PV.s_int).v)).v)) (PV.t_or (PV.t_and (PV.t_test ((PV.s_op PV.r_in (PV.v_var) ((PV.SF.e (PV.f_lst (PV.a_cons (PV.s_int) (PV.a_cons (PV.s_op PV.r_sub (PV.v_var) ((PV.s_int).v)) (PV.a_nil))))).v)).v)) (PV.t_not (PV.t_tru (PV.v_var)))) (PV.t_and (PV.t_test ((PV.s_op PV.r_in (PV.v_var) ((PV.SF.e (PV.f_lst (PV.a_cons (PV.s_int) (PV.a_cons (PV.s_op PV.r_sub (PV.v_var) ((PV.s_int).v)) (PV.a_nil))))).v)).v)) (PV.t_not (PV.t_tru (PV.v_var)))))) (PV.s_ret (PV.s_bl)) (PV.s_next)) (
  PV.s_if (PV.t_and (PV.t_test ((PV.s_op PV.r_eq (PV.v_var) ((PV.s_int).v)).v)) (PV.t_and (PV.t_test ((PV.s_op PV.r_lt ((PV.s_op PV.r_add (PV.v_var) ((PV.s_int).v)).v) (PV.v_var)).v)) (PV.t_and (PV.t_test ((PV.s_op PV.r_lt ((PV.s_op PV.r_add (PV.v_var) ((PV.s_int).v)).v) (PV.v_var)).v)) (PV.t_test ((PV.s_chain3 PV.r_eq PV.r_eq PV.r_eq ((PV.s_op PV.r_ix ((PV.s_op PV.r_ix (PV.v_var) ((PV.s_op PV.r_add (PV.v_var) ((PV.s_int).v)).v)).v) (PV.v_var)).v) ((PV.s_op PV.r_ix ((PV.s_op PV.r_ix (PV.v_var) (PV.v_var)).v) ((PV.s_op PV.r_add (PV.v_var) ((PV.s_int).v)).v)).v) ((PV.s_op PV.r_ix ((PV.s_op PV.r_ix (PV.v_var) ((PV.s_op PV.r_add (PV.v_var) ((PV.s_int).v)).v)).v) ((PV.s_op PV.r_add (PV.v_var) ((PV.s_int).v)).v)).v) ((PV.s_int).v)).v))))) (PV.s_ret (PV.s_bl)) (PV.s_next))))))))))))) (
  PV.s_ret (PV.s_bl))
theorem len_law_borders_right {K : PySem.W.Frag} : PB.Len 3 (sp_law_borders_right K) := PV.len_run
theorem pure_law_borders_right (K : PySem.W.Frag) : PB.Pure N_law_borders_right (sp_law_borders_right K) (t_law_borders_right K) := PV.pure_run rfl (snd_law_borders_right K)

def TTr (f : PV.DS → Option Bool) (δ : PV.DS) (p : Prop) : Prop := ∃ b, f δ = some b ∧ (b = true ↔ p)
def EE (f : PV.DS → Option PV.D) (δ : PV.DS) (p : Prop) : Prop := ∃ b, f δ = some (.bl b) ∧ (b = true ↔ p)
def VI (f : PV.DS → Option PV.D) (δ : PV.DS) (i : Int) : Prop := f δ = some (.int i)
theorem TTr.and {f g : PV.DS → Option Bool} {δ : PV.DS} {p q : Prop} (h : TTr f δ p) (k : p → TTr g δ q) : TTr (PV.dAndT f g) δ (p ∧ q) := by
  obtain ⟨b, e, i⟩ := h
  cases b with
  | true =>
    have hp := i.mp rfl
    obtain ⟨b', e', i'⟩ := k hp
    exact ⟨b', by unfold PV.dAndT; rw [e]; exact e', by rw [i']; exact ⟨fun z => ⟨hp, z⟩, fun z => z.2⟩⟩
  | false => exact ⟨false, by unfold PV.dAndT; rw [e]; rfl, ⟨fun z => absurd z (by decide), fun z => absurd (i.mpr z.1) (by decide)⟩⟩
theorem TTr.or {f g : PV.DS → Option Bool} {δ : PV.DS} {p q : Prop} (h : TTr f δ p) (k : TTr g δ q) : TTr (PV.dOrT f g) δ (p ∨ q) := by
  obtain ⟨b, e, i⟩ := h
  cases b with
  | true => exact ⟨true, by unfold PV.dOrT; rw [e]; rfl, ⟨fun _ => .inl (i.mp rfl), fun _ => rfl⟩⟩
  | false =>
    obtain ⟨b', e', i'⟩ := k
    refine ⟨b', by unfold PV.dOrT; rw [e]; exact e', ?_⟩
    rw [i']
    exact ⟨.inr, fun z => z.elim (fun y => absurd (i.mpr y) (by decide)) id⟩
theorem TTr.not {f : PV.DS → Option Bool} {δ : PV.DS} {p : Prop} (h : TTr f δ p) : TTr (PV.dNotT f) δ (¬ p) := by
  obtain ⟨b, e, i⟩ := h
  refine ⟨!b, by unfold PV.dNotT; rw [e]; rfl, ?_⟩
  rw [← i]; cases b <;> simp
theorem EE.test {f : PV.DS → Option PV.D} {δ : PV.DS} {p : Prop} (h : EE f δ p) : TTr (PV.dTest f) δ p := by
  obtain ⟨b, e, i⟩ := h
  exact ⟨b, by unfold PV.dTest; rw [e]; rfl, i⟩
theorem TTr.tru {f : PV.DS → Option PV.D} {δ : PV.DS} {p : Prop} (h : EE f δ p) : TTr (PV.dTru f) δ p := by
  obtain ⟨b, e, i⟩ := h
  exact ⟨b, by unfold PV.dTru; rw [e]; rfl, i⟩
theorem EE.and {f g : PV.DS → Option PV.D} {δ : PV.DS} {p q : Prop} (h : EE f δ p) (k : p → EE g δ q) : EE (PV.dAnd f g) δ (p ∧ q) := by
  obtain ⟨b, e, i⟩ := h
  cases b with
  | true =>
    have hp := i.mp rfl
    obtain ⟨b', e', i'⟩ := k hp
    exact ⟨b', by unfold PV.dAnd; rw [e]; exact e', by rw [i']; exact ⟨fun z => ⟨hp, z⟩, fun z => z.2⟩⟩
  | false => exact ⟨false, by unfold PV.dAnd; rw [e], ⟨fun z => absurd z (by decide), fun z => absurd (i.mpr z.1) (by decide)⟩⟩
theorem EE.or {f g : PV.DS → Option PV.D} {δ : PV.DS} {p q : Prop} (h : EE f δ p) (k : EE g δ q) : EE (PV.dOr f g) δ (p ∨ q) := by
  obtain ⟨b, e, i⟩ := h
  cases b with
  | true => exact ⟨true, by unfold PV.dOr; rw [e], ⟨fun _ => .inl (i.mp rfl), fun _ => rfl⟩⟩
  | false =>
    obtain ⟨b', e', i'⟩ := k
    refine ⟨b', by unfold PV.dOr; rw [e]; exact e', ?_⟩
    rw [i']
    exact ⟨.inr, fun z => z.elim (fun y => absurd (i.mpr y) (by decide)) id⟩
theorem EE.chain {r r' : PV.D → PV.D → Option PV.D} {a b c : PV.DS → Option PV.D} {δ : PV.DS} {i j k : Int} {p q : Prop} (ha : VI a δ i) (hb : VI b δ j) (hc : VI c δ k)
    (h : ∃ x, r (.int i) (.int j) = some (.bl x) ∧ (x = true ↔ p)) (h' : ∃ x, r' (.int j) (.int k) = some (.bl x) ∧ (x = true ↔ q)) : EE (PV.dChain r r' a b c) δ (p ∧ q) := by
  obtain ⟨x, e, u⟩ := h
  obtain ⟨y, e', u'⟩ := h'
  unfold EE PV.dChain
  rw [show a δ = _ from ha, show b δ = _ from hb, show c δ = _ from hc]
  simp only [Option.bind_some]
  rw [e]
  cases x with
  | true => exact ⟨y, e', by rw [u']; exact ⟨fun z => ⟨u.mp rfl, z⟩, fun z => z.2⟩⟩
  | false => exact ⟨false, rfl, ⟨fun z => absurd z (by decide), fun z => absurd (u.mpr z.1) (by decide)⟩⟩
theorem EE.chain3 {a b c d : PV.DS → Option PV.D} {δ : PV.DS} {i j k l : Int} (ha : VI a δ i) (hb : VI b δ j) (hc : VI c δ k) (hd : VI d δ l) :
    EE (PV.dChain3 PV.dEq PV.dEq PV.dEq a b c d) δ (i = j ∧ j = k ∧ k = l) := by
  unfold EE PV.dChain3
  rw [show a δ = _ from ha, show b δ = _ from hb, show c δ = _ from hc, show d δ = _ from hd]
  simp only [Option.bind_some, PV.dEq_int]
  by_cases e1 : i = j
  · by_cases e2 : j = k
    · by_cases e3 : k = l
      · simp [e1, e2, e3]
      · simp [e1, e2, e3]
    · simp [e1, e2]
  · simp [e1]
theorem VI.op {r : PV.D → PV.D → Option PV.D} {a b : PV.DS → Option PV.D} {δ : PV.DS} {i j : Int} (ha : VI a δ i) (hb : VI b δ j) : PV.dOp r a b δ = r (.int i) (.int j) := by
  unfold PV.dOp
  rw [show a δ = _ from ha, show b δ = _ from hb]
  rfl
theorem VI.add {a b : PV.DS → Option PV.D} {δ : PV.DS} {i j : Int} (ha : VI a δ i) (hb : VI b δ j) : VI (PV.dOp PV.dAdd a b) δ (i + j) := by
  unfold VI; rw [ha.op hb]; rfl
theorem VI.sub {a b : PV.DS → Option PV.D} {δ : PV.DS} {i j : Int} (ha : VI a δ i) (hb : VI b δ j) : VI (PV.dOp PV.dSub a b) δ (i - j) := by
  unfold VI; rw [ha.op hb]; rfl
theorem VI.lt {a b : PV.DS → Option PV.D} {δ : PV.DS} {i j : Int} (ha : VI a δ i) (hb : VI b δ j) : EE (PV.dOp PV.dLt a b) δ (i < j) :=
  ⟨decide (i < j), by rw [ha.op hb]; rfl, decide_eq_true_iff⟩
theorem VI.eq {a b : PV.DS → Option PV.D} {δ : PV.DS} {i j : Int} (ha : VI a δ i) (hb : VI b δ j) : EE (PV.dOp PV.dEq a b) δ (i = j) :=
  ⟨decide (i = j), by rw [ha.op hb, PV.dEq_int], decide_eq_true_iff⟩
theorem VI.ne {a b : PV.DS → Option PV.D} {δ : PV.DS} {i j : Int} (ha : VI a δ i) (hb : VI b δ j) : EE (PV.dOp PV.dNe a b) δ (i ≠ j) :=
  ⟨decide (i ≠ j), by rw [ha.op hb, PV.dNe_int], decide_eq_true_iff⟩
theorem lt_is {i j : Int} : ∃ x, PV.dLt (.int i) (.int j) = some (.bl x) ∧ (x = true ↔ i < j) := ⟨decide (i < j), rfl, decide_eq_true_iff⟩
theorem VI.two {a b : PV.DS → Option PV.D} {δ : PV.DS} {i j : Int} (ha : VI a δ i) (hb : VI b δ j) : PV.dLst (PV.fLst (PV.dCons a (PV.dCons b PV.dNil))) δ = some (.lst ([i, j].map PV.D.int)) := by
  unfold PV.dLst PV.fLst PV.dCons
  rw [show a δ = _ from ha, show b δ = _ from hb]
  simp only [Option.bind_some, PV.dNil, Option.map_some, List.length_cons, List.length_nil]
  rw [if_pos (by unfold PV.most; simp)]
  rfl
theorem VI.inn {a : PV.DS → Option PV.D} {l : PV.DS → Option PV.D} {δ : PV.DS} {i : Int} {ns : List Int} (ha : VI a δ i) (hl : l δ = some (.lst (ns.map PV.D.int))) : EE (PV.dOp PV.dIn a l) δ (i ∈ ns) :=
  ⟨decide (i ∈ ns), by unfold PV.dOp; rw [show a δ = _ from ha, hl]; exact PV.dIn_ints, decide_eq_true_iff⟩
theorem VI.notin {a : PV.DS → Option PV.D} {l : PV.DS → Option PV.D} {δ : PV.DS} {i : Int} {ns : List Int} (ha : VI a δ i) (hl : l δ = some (.lst (ns.map PV.D.int))) : EE (PV.dOp PV.dNotIn a l) δ (¬ i ∈ ns) := by
  refine ⟨decide (¬ i ∈ ns), ?_, decide_eq_true_iff⟩
  unfold PV.dOp
  rw [show a δ = _ from ha, hl]
  show PV.dNotIn (.int i) (.lst (ns.map PV.D.int)) = _
  unfold PV.dNotIn
  simp only [(PV.fine_int i).shaped, (PV.fine_ints ns).shaped, and_self, if_true]
  congr 2
  rw [Bool.eq_iff_iff, Bool.not_eq_true', ← Bool.not_eq_true, PV.pys_any (PV.fine_int i).1 _ (by simpa [PV.D.plain] using (PV.fine_ints ns).1)]
  simp
theorem VI.c {δ : PV.DS} {i : Int} : VI (PV.dC (.int i)) δ i := rfl
/-- what a statement makes of it -/
theorem no_ret {t : PV.DS → Option Bool} {h f : PV.DS → Option PV.Out} {δ : PV.DS} {p : Prop} (k : TTr t δ p) (n : ¬ p) : PV.dSeq (PV.dIf t f PV.dNext) h δ = h δ := by
  obtain ⟨b, e, i⟩ := k
  unfold PV.dSeq PV.dIf
  rw [e]
  cases b with
  | true => exact absurd (i.mp rfl) n
  | false => rfl
theorem no_ret' {t : PV.DS → Option Bool} {f : PV.DS → Option PV.Out} {δ : PV.DS} {p : Prop} (k : TTr t δ p) (n : ¬ p) : PV.dIf t f PV.dNext δ = some (.nx δ) := by
  obtain ⟨b, e, i⟩ := k
  unfold PV.dIf
  rw [e]
  cases b with
  | true => exact absurd (i.mp rfl) n
  | false => rfl
theorem set_to {a : PV.DS → Option PV.D} {h : PV.DS → Option PV.Out} {δ : PV.DS} {p : Prop} {i : Nat} (k : EE a δ p) : ∃ b : Bool, (b = true ↔ p) ∧ PV.dSeq (PV.dAsg a (PV.gN i)) h δ = h (δ.set i (some (.dat (.bl b)))) := by
  obtain ⟨b, e, u⟩ := k
  refine ⟨b, u, ?_⟩
  unfold PV.dSeq PV.dAsg
  rw [e]
  rfl
theorem set_in {a : PV.DS → Option PV.D} {h : PV.DS → Option PV.Out} {δ : PV.DS} {z : Int} {i : Nat} (k : VI a δ z) : PV.dSeq (PV.dAsg a (PV.gN i)) h δ = h (δ.set i (some (.dat (.int z)))) := by
  unfold PV.dSeq PV.dAsg
  rw [show a δ = _ from k]
  rfl
theorem EE.b {f : PV.DS → Option PV.D} {δ : PV.DS} {b : Bool} {p : Prop} (e : f δ = some (.bl b)) (h : b = true ↔ p) : EE f δ p := ⟨b, e, h⟩
/-- the loop goes on -/
def Gd (a b c d e : Option PV.DV) (x : Option PV.Out) : Prop := ∃ y5 y6 y7 y8, x = some (.nx [a, b, c, d, e, y5, y6, y7, y8])
theorem Gd.no {a b c d e : Option PV.DV} {t : PV.DS → Option Bool} {h f : PV.DS → Option PV.Out} {δ : PV.DS} {p : Prop} (k : TTr t δ p) (n : ¬ p) (g : Gd a b c d e (h δ)) : Gd a b c d e (PV.dSeq (PV.dIf t f PV.dNext) h δ) := by
  rw [no_ret k n]; exact g
theorem Gd.fin {a b c d e y5 y6 y7 y8 : Option PV.DV} {t : PV.DS → Option Bool} {f : PV.DS → Option PV.Out} {p : Prop} (k : TTr t [a, b, c, d, e, y5, y6, y7, y8] p) (n : ¬ p) : Gd a b c d e (PV.dIf t f PV.dNext [a, b, c, d, e, y5, y6, y7, y8]) :=
  ⟨_, _, _, _, no_ret' k n⟩
theorem Gd.b {a b c d e : Option PV.DV} {t : PV.DS → Option PV.D} {h : PV.DS → Option PV.Out} {δ : PV.DS} {p : Prop} {i : Nat} (k : EE t δ p) (g : ∀ x : Bool, (x = true ↔ p) → Gd a b c d e (h (δ.set i (some (.dat (.bl x)))))) : Gd a b c d e (PV.dSeq (PV.dAsg t (PV.gN i)) h δ) := by
  obtain ⟨x, u, z⟩ := set_to (i := i) (h := h) k
  rw [z]; exact g x u
theorem Gd.i {a b c d e : Option PV.DV} {t : PV.DS → Option PV.D} {h : PV.DS → Option PV.Out} {δ : PV.DS} {x : Int} {i : Nat} (k : VI t δ x) (g : Gd a b c d e (h (δ.set i (some (.dat (.int x)))))) : Gd a b c d e (PV.dSeq (PV.dAsg t (PV.gN i)) h δ) := by
  rw [set_in k]; exact g
/-- an area as a list of rows -/
def rowD (g : Int → Int → Int) (W : Nat) (r : Int) : List PV.D := (List.range W).map fun c => PV.D.int (g r (c : Nat))
def sheetD (g : Int → Int → Int) (W H : Nat) : List PV.D := (List.range H).map fun r => PV.D.lst (rowD g W (r : Nat))
theorem sh_row {g : Int → Int → Int} {W H : Nat} {r : Int} (h0 : 0 ≤ r) (h1 : r < H) : atI (sheetD g W H) r = some (.lst (rowD g W r)) := PV.atI_of h0 (by
  unfold sheetD
  rw [List.getElem?_map, List.getElem?_range (by omega)]
  show some (PV.D.lst (rowD g W ((r.toNat : Nat) : Int))) = _
  rw [Int.toNat_of_nonneg h0])
theorem sh_cel {g : Int → Int → Int} {W : Nat} {r c : Int} (h0 : 0 ≤ c) (h1 : c < W) : atI (rowD g W r) c = some (.int (g r c)) := PV.atI_of h0 (by
  unfold rowD
  rw [List.getElem?_map, List.getElem?_range (by omega)]
  show some (PV.D.int (g r ((c.toNat : Nat) : Int))) = _
  rw [Int.toNat_of_nonneg h0])
theorem VI.cel {g : Int → Int → Int} {W H : Nat} {s fr fc : PV.DS → Option PV.D} {δ : PV.DS} {r c : Int} (e : s δ = some (.lst (sheetD g W H))) (hr : VI fr δ r) (hc : VI fc δ c) (r0 : 0 ≤ r) (r1 : r < H) (c0 : 0 ≤ c) (c1 : c < W) :
    VI (PV.dOp PV.dIx (PV.dOp PV.dIx s fr) fc) δ (g r c) := by
  unfold VI PV.dOp
  rw [e, show fr δ = _ from hr, show fc δ = _ from hc]
  simp only [Option.bind_some]
  rw [PV.dIx_l, sh_row r0 r1]
  simp only [Option.bind_some]
  rw [PV.dIx_l, sh_cel c0 c1]
theorem border_step {g : Int → Int → Int} {W H : Nat} (n : Nice g W H) {r c : Int} (r0 : 0 ≤ r) (r1 : r < H) (c0 : 0 ≤ c) (c1 : c < W) (x4 x5 x6 x7 x8 : Option PV.DV) :
    Gd (some (.dat (.lst (sheetD g W H)))) (some (.dat (.int (W : Nat)))) (some (.dat (.int (H : Nat)))) (some (.dat (.int r))) (some (.dat (.int c)))
      (e_law_borders_right_t1 (.int c) [some (.dat (.lst (sheetD g W H))), some (.dat (.int (W : Nat))), some (.dat (.int (H : Nat))), some (.dat (.int r)), x4, x5, x6, x7, x8]) := by
  show Gd _ _ _ _ _ (e_law_borders_right_b1 [some (.dat (.lst (sheetD g W H))), some (.dat (.int (W : Nat))), some (.dat (.int (H : Nat))), some (.dat (.int r)), some (.dat (.int c)), x5, x6, x7, x8])
  unfold e_law_borders_right_b1
  refine Gd.i (x := g r c) (VI.cel (g := g) (W := W) (H := H) rfl rfl rfl r0 r1 c0 c1) ?_
  simp only [List.set_cons_succ, List.set_cons_zero]
  refine Gd.no (p := g r c ≠ 0 ∧ c + 1 < W ∧ ¬ g r (c + 1) ∈ [0, g r c]) (TTr.and (EE.test (VI.ne rfl VI.c)) fun _ => TTr.and (EE.test (VI.lt (VI.add rfl VI.c) rfl)) fun h => EE.test (VI.notin (VI.cel (g := g) (W := W) (H := H) rfl rfl (VI.add rfl VI.c) r0 r1 (by omega) h) (VI.two VI.c rfl)))
    (fun ⟨h1, h2, h3⟩ => by
      simp only [List.mem_cons, List.not_mem_nil, or_false, not_or] at h3
      exact h3.2 (n.x r c r0 r1 c0 h2 h1 h3.1)) ?_
  refine Gd.no (p := g r c ≠ 0 ∧ r + 1 < H ∧ ¬ g (r + 1) c ∈ [0, g r c]) (TTr.and (EE.test (VI.ne rfl VI.c)) fun _ => TTr.and (EE.test (VI.lt (VI.add rfl VI.c) rfl)) fun h => EE.test (VI.notin (VI.cel (g := g) (W := W) (H := H) rfl (VI.add rfl VI.c) rfl (by omega) h c0 c1) (VI.two VI.c rfl)))
    (fun ⟨h1, h2, h3⟩ => by
      simp only [List.mem_cons, List.not_mem_nil, or_false, not_or] at h3
      exact h3.2 (n.y r c r0 h2 c0 c1 h1 h3.1)) ?_
  refine Gd.b (p := (0 < c ∧ c < (W : Int) - 1) ∧ g r (c - 1) ≠ 0 ∧ g r (c + 1) ≠ 0) (EE.and (EE.chain VI.c rfl (VI.sub rfl VI.c) lt_is lt_is) fun h =>
    EE.and (VI.ne (VI.cel (g := g) (W := W) (H := H) rfl rfl (VI.sub rfl VI.c) r0 r1 (by omega) (by omega)) VI.c) fun _ =>
      VI.ne (VI.cel (g := g) (W := W) (H := H) rfl rfl (VI.add rfl VI.c) r0 r1 (by omega) (by omega)) VI.c) fun up hup => ?_
  simp only [List.set_cons_succ, List.set_cons_zero]
  refine Gd.b (p := (0 < r ∧ r < (H : Int) - 1) ∧ g (r - 1) c ≠ 0 ∧ g (r + 1) c ≠ 0) (EE.and (EE.chain VI.c rfl (VI.sub rfl VI.c) lt_is lt_is) fun h =>
    EE.and (VI.ne (VI.cel (g := g) (W := W) (H := H) rfl (VI.sub rfl VI.c) rfl (by omega) (by omega) c0 c1) VI.c) fun _ =>
      VI.ne (VI.cel (g := g) (W := W) (H := H) rfl (VI.add rfl VI.c) rfl (by omega) (by omega) c0 c1) VI.c) fun lv hlv => ?_
  simp only [List.set_cons_succ, List.set_cons_zero]
  refine Gd.b (p := (0 < c ∧ g r (c - 1) = 0) ∨ (c + 1 < W ∧ g r (c + 1) = 0)) (EE.or (EE.and (VI.lt VI.c rfl) fun h =>
      VI.eq (VI.cel (g := g) (W := W) (H := H) rfl rfl (VI.sub rfl VI.c) r0 r1 (by omega) (by omega)) VI.c)
    (EE.and (VI.lt (VI.add rfl VI.c) rfl) fun h =>
      VI.eq (VI.cel (g := g) (W := W) (H := H) rfl rfl (VI.add rfl VI.c) r0 r1 (by omega) h) VI.c)) fun n1 hn1 => ?_
  simp only [List.set_cons_succ, List.set_cons_zero]
  refine Gd.b (p := ((0 < c ∧ g r (c - 1) = 0) ∨ (c + 1 < W ∧ g r (c + 1) = 0)) ∨ (0 < r ∧ g (r - 1) c = 0) ∨ (r + 1 < H ∧ g (r + 1) c = 0)) (EE.or (EE.b (b := n1) rfl hn1) (EE.or (EE.and (VI.lt VI.c rfl) fun h =>
      VI.eq (VI.cel (g := g) (W := W) (H := H) rfl (VI.sub rfl VI.c) rfl (by omega) (by omega) c0 c1) VI.c)
    (EE.and (VI.lt (VI.add rfl VI.c) rfl) fun h =>
      VI.eq (VI.cel (g := g) (W := W) (H := H) rfl (VI.add rfl VI.c) rfl (by omega) h c0 c1) VI.c))) fun nr hnr => ?_
  simp only [List.set_cons_succ, List.set_cons_zero]
  have hup' : up = true ↔ UpZ g W r c := by rw [hup]; unfold UpZ; exact ⟨fun ⟨⟨a, b⟩, d, e⟩ => ⟨a, b, d, e⟩, fun ⟨a, b, d, e⟩ => ⟨⟨a, b⟩, d, e⟩⟩
  have hlv' : lv = true ↔ LvZ g H r c := by rw [hlv]; unfold LvZ; exact ⟨fun ⟨⟨a, b⟩, d, e⟩ => ⟨a, b, d, e⟩, fun ⟨a, b, d, e⟩ => ⟨⟨a, b⟩, d, e⟩⟩
  have hnr' : nr = true ↔ NrZ g W H r c := by rw [hnr]; unfold NrZ; rw [or_assoc]
  refine Gd.no (p := g r c = 0 ∧ ¬ UpZ g W r c ∧ ¬ LvZ g H r c ∧ ¬ NrZ g W H r c) (TTr.and (EE.test (VI.eq rfl VI.c)) fun _ => TTr.and (TTr.not (TTr.tru (EE.b (b := up) rfl hup'))) fun _ => TTr.and (TTr.not (TTr.tru (EE.b (b := lv) rfl hlv'))) fun _ => TTr.not (TTr.tru (EE.b (b := nr) rfl hnr')))
    (fun ⟨h1, h2, h3, h4⟩ => by
      rcases n.z r c r0 r1 c0 c1 h1 with h | h | h
      · exact h2 h
      · exact h3 h
      · exact h4 h) ?_
  refine Gd.no (p := g r c = 0 ∧ ((r ∈ [0, (H : Int) - 1] ∧ ¬ UpZ g W r c) ∨ (c ∈ [0, (W : Int) - 1] ∧ ¬ LvZ g H r c))) (TTr.and (EE.test (VI.eq rfl VI.c)) fun _ => TTr.or (TTr.and (EE.test (VI.inn rfl (VI.two VI.c (VI.sub rfl VI.c)))) fun _ => TTr.not (TTr.tru (EE.b (b := up) rfl hup'))) (TTr.and (EE.test (VI.inn rfl (VI.two VI.c (VI.sub rfl VI.c)))) fun _ => TTr.not (TTr.tru (EE.b (b := lv) rfl hlv'))))
    (fun ⟨h1, h2⟩ => by
      simp only [List.mem_cons, List.not_mem_nil, or_false] at h2
      rcases h2 with ⟨h | h, k⟩ | ⟨h | h, k⟩
      · rw [h] at h1 k; exact k (n.t c c0 c1 h1)
      · rw [h] at h1 k; exact k (n.b c c0 c1 h1)
      · rw [h] at h1 k; exact k (n.l r r0 r1 h1)
      · rw [h] at h1 k; exact k (n.r r r0 r1 h1)) ?_
  refine Gd.fin (p := g r c = 0 ∧ r + 1 < H ∧ c + 1 < W ∧ g (r + 1) c = g r (c + 1) ∧ g r (c + 1) = g (r + 1) (c + 1) ∧ g (r + 1) (c + 1) = 0) (TTr.and (EE.test (VI.eq rfl VI.c)) fun _ => TTr.and (EE.test (VI.lt (VI.add rfl VI.c) rfl)) fun h => TTr.and (EE.test (VI.lt (VI.add rfl VI.c) rfl)) fun h' =>
    EE.test (EE.chain3 (VI.cel (g := g) (W := W) (H := H) rfl (VI.add rfl VI.c) rfl (by omega) h c0 c1) (VI.cel (g := g) (W := W) (H := H) rfl rfl (VI.add rfl VI.c) r0 r1 (by omega) h')
      (VI.cel (g := g) (W := W) (H := H) rfl (VI.add rfl VI.c) (VI.add rfl VI.c) (by omega) h (by omega) h') VI.c)) (fun ⟨h1, h2, h3, h4, h5, h6⟩ => ?_)
  exact n.q r c r0 h2 c0 h3 h1 (h4.trans (h5.trans h6)) (h5.trans h6) h6
theorem span_at {n i : Nat} {d : PV.D} (h : (PV.span 0 n)[i]? = some d) : d = .int (i : Nat) ∧ i < n := by
  unfold PV.span at h
  rw [List.getElem?_map] at h
  by_cases c : i < n
  · rw [List.getElem?_range c] at h
    simp at h
    exact ⟨h.symm, c⟩
  · rw [List.getElem?_eq_none (by simp; omega)] at h
    cases h
theorem border_row {g : Int → Int → Int} {W H : Nat} (n : Nice g W H) (hW : W ≤ PV.most) {r : Int} (r0 : 0 ≤ r) (r1 : r < H) (x3 x4 x5 x6 x7 x8 : Option PV.DV) :
    ∃ y4 y5 y6 y7 y8, e_law_borders_right_t2 (.int r) [some (.dat (.lst (sheetD g W H))), some (.dat (.int (W : Nat))), some (.dat (.int (H : Nat))), x3, x4, x5, x6, x7, x8] =
      some (.nx [some (.dat (.lst (sheetD g W H))), some (.dat (.int (W : Nat))), some (.dat (.int (H : Nat))), some (.dat (.int r)), y4, y5, y6, y7, y8]) := by
  show ∃ y4 y5 y6 y7 y8, e_law_borders_right_l1 [some (.dat (.lst (sheetD g W H))), some (.dat (.int (W : Nat))), some (.dat (.int (H : Nat))), some (.dat (.int r)), x4, x5, x6, x7, x8] = _
  rw [e_law_borders_right_l1_is]
  have e : (PV.iBy PV.dRng1 (PV.dCons (PV.vVar 1) (PV.dNil))) [some (.dat (.lst (sheetD g W H))), some (.dat (.int (W : Nat))), some (.dat (.int (H : Nat))), some (.dat (.int r)), x4, x5, x6, x7, x8] = some (PV.span 0 W) := PV.rng1 hW
  rw [e]
  obtain ⟨δ', h1, y4, y5, y6, y7, y8, h2⟩ := PV.dLoop_inv (step := e_law_borders_right_t1) (fun _ δ => ∃ y4 y5 y6 y7 y8, δ = [some (.dat (.lst (sheetD g W H))), some (.dat (.int (W : Nat))), some (.dat (.int (H : Nat))), some (.dat (.int r)), y4, y5, y6, y7, y8]) (PV.span 0 W) 0 _ ⟨x4, x5, x6, x7, x8, rfl⟩ fun i d δ hi hp => by
    obtain ⟨z4, z5, z6, z7, z8, rfl⟩ := hp
    obtain ⟨rfl, hiW⟩ := span_at hi
    obtain ⟨y5, y6, y7, y8, e⟩ := border_step n r0 r1 (c := (i : Nat)) (by omega) (by omega) z4 z5 z6 z7 z8
    exact ⟨_, e, _, _, _, _, _, rfl⟩
  exact ⟨y4, y5, y6, y7, y8, by rw [← h2]; exact h1⟩
theorem borders_are {g : Int → Int → Int} {W H : Nat} (n : Nice g W H) (hW : W ≤ PV.most) (hH : H ≤ PV.most) : f_law_borders_right [.lst (sheetD g W H), .int (W : Nat), .int (H : Nat)] = some (.bl true) := by
  rw [run_law_borders_right]
  have e : (PV.iBy PV.dRng1 (PV.dCons (PV.vVar 2) (PV.dNil))) [some (.dat (.lst (sheetD g W H))), some (.dat (.int (W : Nat))), some (.dat (.int (H : Nat))), none, none, none, none, none, none] = some (PV.span 0 H) := PV.rng1 hH
  obtain ⟨δ', h1, x3, y4, y5, y6, y7, y8, h2⟩ := PV.dLoop_inv (step := e_law_borders_right_t2) (fun _ δ => ∃ x3 y4 y5 y6 y7 y8, δ = [some (.dat (.lst (sheetD g W H))), some (.dat (.int (W : Nat))), some (.dat (.int (H : Nat))), x3, y4, y5, y6, y7, y8]) (PV.span 0 H) 0 _ ⟨none, none, none, none, none, none, rfl⟩ fun i d δ hi hp => by
    obtain ⟨x3, z4, z5, z6, z7, z8, rfl⟩ := hp
    obtain ⟨rfl, hiH⟩ := span_at hi
    obtain ⟨y4, y5, y6, y7, y8, e⟩ := border_row n hW (r := (i : Nat)) (by omega) (by omega) x3 z4 z5 z6 z7 z8
    exact ⟨_, e, _, _, _, _, _, _, rfl⟩
  unfold e_law_borders_right PV.dSeq
  rw [e_law_borders_right_l2_is, e]
  show PV.fin (match PV.dLoop e_law_borders_right_t2 (PV.span 0 H) _ with | some (PV.Out.nx δ') => _ | r => r) = _
  rw [h1]
  rfl

/-! ## a list of lists that is painted in place -/
theorem wipe_get {σ : L2.St} {i : Nat} : ∀ {vs : List Nat}, i ∉ vs → (wipe σ vs)[i]? = σ[i]?
  | [], _ => rfl
  | v :: vs, h => by
    show ((wipe σ vs).set v none)[i]? = _
    rw [List.getElem?_set_ne (by intro e; subst e; exact h (List.mem_cons_self ..))]
    exact wipe_get fun m => h (List.mem_cons_of_mem _ m)
def noOwn (δ : PV.DS) : Bool := δ.all fun x => match x with
  | some (.own _) => false
  | _ => true
theorem noOwn_at {δ : PV.DS} (h : noOwn δ = true) {i : Nat} {ds : List PV.D} (e : δ[i]? = some (some (.own ds))) : False := by
  have := List.all_eq_true.mp h _ (List.mem_of_getElem? e)
  cases this
def rowV (g : Int → Int → Int) (W : Nat) (r : Int) : List V := (List.range W).map fun c => V.int (g r (c : Nat))
/-- a variable holds a list of rows, all the def's own -/
def ShAt (H0 S H : Hp) (σ : L2.St) (i W Hh : Nat) (g : Int → Int → Int) : Prop :=
  ∃ (p : Addr) (qs : List Addr), σ[i]? = some (some (V.ref p)) ∧ H p = some (.lst (qs.map V.ref)) ∧ qs.length = Hh ∧ (∀ (k : Nat) (q : Addr), qs[k]? = some q → H q = some (.lst (rowV g W (k : Nat)))) ∧
    S p = none ∧ H0 p = none ∧ (∀ q ∈ qs, S q = none ∧ H0 q = none) ∧ qs.Nodup ∧ p ∉ qs
structure RX (K : PySem.W.Frag) (S0 H0 S H : Hp) (σ : L2.St) (δ : PV.DS) (i W Hh : Nat) (g : Int → Int → Int) : Prop where
  r : PV.Rel K S0 H0 S H σ δ
  n : noOwn δ = true
  s : ShAt H0 S H σ i W Hh g
section
variable {K : PySem.W.Frag} {S0 H0 S H S' H' : Hp} {σ : L2.St} {δ : PV.DS} {i W Hh : Nat} {g : Int → Int → Int}
theorem nn_of {H : Hp} {a : Addr} {o : HO} (h : H a = some o) : H a ≠ none := by rw [h]; exact fun z => by cases z
theorem ShAt.grow (s : ShAt H0 S H σ i W Hh g) (e : PV.Grow S H S' H') : ShAt H0 S' H' σ i W Hh g := by
  obtain ⟨p, qs, h1, h2, h3, h4, h5, h6, h7, h8, h9⟩ := s
  refine ⟨p, qs, h1, e.h _ _ h2, h3, fun k q hk => e.h _ _ (h4 k q hk), (e.k p (nn_of h2)).trans h5, h6, fun q m => ?_, h8, h9⟩
  obtain ⟨k, hk⟩ := List.getElem?_of_mem m
  exact ⟨(e.k q (nn_of (h4 k q hk))).trans (h7 q m).1, (h7 q m).2⟩
theorem RX.grow (R : RX K S0 H0 S H σ δ i W Hh g) (e : PV.Grow S H S' H') : RX K S0 H0 S' H' σ δ i W Hh g := ⟨R.r.grow e, R.n, R.s.grow e⟩
theorem ShAt.same {σ' : L2.St} (s : ShAt H0 S H σ i W Hh g) (e : σ'[i]? = σ[i]?) : ShAt H0 S H σ' i W Hh g := by
  obtain ⟨p, qs, h1, h2⟩ := s
  exact ⟨p, qs, e.trans h1, h2⟩
theorem row_at {r c : Int} (c0 : 0 ≤ c) (c1 : c < W) : atI (rowV g W r) c = some (.int (g r c)) := PV.atI_of c0 (by
  unfold rowV
  rw [List.getElem?_map, List.getElem?_range (by omega)]
  show some (V.int (g r ((c.toNat : Nat) : Int))) = _
  rw [Int.toNat_of_nonneg c0])
/-- a cell is read -/
theorem RX.read (R : RX K S0 H0 S H σ δ i W Hh g) {a b : Nat} {r c : Int} (ha : σ[a]? = some (some (.int r))) (hb : σ[b]? = some (some (.int c))) (r0 : 0 ≤ r) (r1 : r < Hh) (c0 : 0 ≤ c) (c1 : c < W) {Q : VK} (q : Q (.int (g r c)) H) :
    tOp (PB.mIx K) (tOp (PB.mIx K) (PB.mVar i) (PB.mVar a)) (PB.mVar b) σ H Q := by
  obtain ⟨p, qs, h1, h2, h3, h4, h5, h6, h7, h8, h9⟩ := R.s
  have hk : r.toNat < qs.length := by omega
  have hq : qs[r.toNat]? = some qs[r.toNat] := List.getElem?_eq_getElem hk
  have hr := h4 _ _ hq
  rw [Int.toNat_of_nonneg r0] at hr
  unfold tOp
  refine PB.p_var h1 _ ?_
  refine PB.p_var ha _ ?_
  refine ⟨qs.map V.ref, V.ref qs[r.toNat], .inl (SqL.of h2), PV.atI_of r0 (by rw [List.getElem?_map, hq]; rfl), ?_⟩
  refine PB.p_var hb _ ?_
  exact ⟨_, _, .inl (SqL.of hr), row_at c0 c1, q⟩
/-- a cell is written -/
def put (g : Int → Int → Int) (r c v : Int) : Int → Int → Int := fun x y => if x = r ∧ y = c then v else g x y
theorem row_put {r c v : Int} (c0 : 0 ≤ c) : (rowV g W r).set c.toNat (.int v) = rowV (put g r c v) W r := by
  unfold rowV
  apply List.ext_getElem?
  intro j
  by_cases e : c.toNat = j
  · subst e
    by_cases l : c.toNat < W
    · rw [List.getElem?_set_self (by simpa using l), List.getElem?_map, List.getElem?_range l]
      simp only [Option.map_some, put, true_and]
      rw [if_pos (by omega)]
    · rw [List.getElem?_eq_none (by simp; omega), List.getElem?_eq_none (by simp; omega)]
  · rw [List.getElem?_set_ne e, List.getElem?_map, List.getElem?_map]
    by_cases l : j < W
    · rw [List.getElem?_range l]
      simp only [Option.map_some, put, true_and]
      rw [if_neg (by omega)]
    · rw [List.getElem?_eq_none (by simp; omega)]; rfl
theorem row_other {r c v k : Int} (h : k ≠ r) : rowV (put g r c v) W k = rowV g W k := by
  unfold rowV put
  congr 1
  funext x
  rw [if_neg (fun e => h e.1)]
theorem RX.write (R : RX K S0 H0 S H σ δ i W Hh g) {a b z : Nat} {r c v : Int} (ha : σ[a]? = some (some (.int r))) (hb : σ[b]? = some (some (.int c))) (hz : σ[z]? = some (some (.int v))) (r0 : 0 ≤ r) (r1 : r < Hh) (c0 : 0 ≤ c) (c1 : c < W) {E : Ends}
    (q : ∀ H', RX K S0 H0 S H' σ δ i W Hh (put g r c v) → E.nx σ H') :
    tAsg (PB.mVar z) (gSub (tOp (PB.mIx K) (PB.mVar i) (PB.mVar a)) (PB.mVar b) PB.mSet) E σ H := by
  obtain ⟨p, qs, h1, h2, h3, h4, h5, h6, h7, h8, h9⟩ := R.s
  have hk : r.toNat < qs.length := by omega
  have hq : qs[r.toNat]? = some qs[r.toNat] := List.getElem?_eq_getElem hk
  have hr := h4 _ _ hq
  rw [Int.toNat_of_nonneg r0] at hr
  unfold tAsg gSub tOp
  refine PB.p_var hz _ ?_
  refine PB.p_var h1 _ ?_
  refine PB.p_var ha _ ?_
  refine ⟨qs.map V.ref, V.ref qs[r.toNat], .inl (SqL.of h2), PV.atI_of r0 (by rw [List.getElem?_map, hq]; rfl), ?_⟩
  refine PB.p_var hb _ ?_
  have hl : (rowV g W r).length = W := by unfold rowV; simp
  show PB.mSet (.ref qs[r.toNat]) (.int c) (.int v) H _
  unfold PB.mSet
  simp only [hr, hl, PV.ixN_of c0 c1]
  rw [row_put c0]
  have mq : qs[r.toNat] ∈ qs := List.getElem_mem hk
  have np : p ≠ qs[r.toNat] := fun e => h9 (e ▸ mq)
  obtain ⟨sq, zq⟩ := h7 _ mq
  refine q _ ⟨⟨⟨R.r.g.s, fun a o h => ?_, fun a o h => ?_, R.r.g.k⟩, R.r.n, R.r.d, fun j ds h => (noOwn_at R.n h).elim, R.r.j⟩, R.n, p, qs, h1, by rw [upd_ne np]; exact h2, h3, fun k q' hk' => ?_, h5, h6, h7, h8, h9⟩
  · rw [upd_ne (by intro c; subst c; rw [zq] at h; cases h)]; exact R.r.g.h a o h
  · rw [upd_ne (by intro c; subst c; rw [sq] at h; cases h)]; exact R.r.g.m a o h
  · by_cases e : k = r.toNat
    · subst e
      rw [hq] at hk'
      cases hk'
      rw [upd_same, Int.toNat_of_nonneg r0]
    · have kl : k < qs.length := (List.getElem?_eq_some_iff.mp hk').1
      have ne : q' ≠ qs[r.toNat] := fun c => e (by
        have e1 := (List.getElem?_eq_some_iff.mp hk').2
        rw [← e1] at c
        exact (List.getElem_inj h8).mp c)
      rw [upd_ne ne, h4 k q' hk', row_other (by omega)]
/-- it is handed out -/
theorem RX.out (R : RX K S0 H0 S H σ δ i W Hh g) : ∃ S' v, σ[i]? = some (some v) ∧ PB.Ext S S' ∧ PV.Grow S0 H0 S' H ∧ PV.Dv K S' v (.lst (sheetD g W Hh)) := by
  obtain ⟨p, qs, h1, h2, h3, h4, h5, h6, h7, h8, h9⟩ := R.s
  refine ⟨fun a => if a = p ∨ a ∈ qs then H a else S a, _, h1, ?_, ?_, ?_⟩
  · intro a o h
    show (if a = p ∨ a ∈ qs then H a else S a) = _
    rw [if_neg (fun e => by
      rcases e with e | e
      · rw [e, h5] at h; cases h
      · rw [(h7 a e).1] at h; cases h)]
    exact h
  · refine ⟨fun a o h => ?_, R.r.g.h, fun a o h => ?_, fun a h => ?_⟩
    · have h' := R.r.g.s a o h
      show (if a = p ∨ a ∈ qs then H a else S a) = _
      rw [if_neg (fun e => by
        rcases e with e | e
        · rw [e, h5] at h'; cases h'
        · rw [(h7 a e).1] at h'; cases h')]
      exact h'
    · have h' : (if a = p ∨ a ∈ qs then H a else S a) = some o := h
      by_cases e : a = p ∨ a ∈ qs
      · rw [if_pos e] at h'; exact h'
      · rw [if_neg e] at h'; exact R.r.g.m a o h'
    · show (if a = p ∨ a ∈ qs then H a else S a) = _
      rw [if_neg (fun e => by
        rcases e with e | e
        · rw [e] at h; exact h h6
        · exact h (h7 a e).2)]
      exact R.r.g.k a h
  · have key : ∀ (T : Hp), (∀ (k : Nat) (q : Addr), qs[k]? = some q → T q = some (.lst (rowV g W (k : Nat)))) → PV.DvA K T (qs.map V.ref) (sheetD g W Hh) := by
      intro T hT
      have gen : ∀ (us : List Addr) (lo : Nat), (∀ (k : Nat) (q : Addr), us[k]? = some q → T q = some (.lst (rowV g W ((lo + k : Nat) : Int)))) → PV.DvA K T (us.map V.ref) ((List.range' lo us.length).map fun r => PV.D.lst (rowD g W (r : Nat))) := by
        intro us
        induction us with
        | nil => intro lo _; exact .nil
        | cons u us ih =>
          intro lo h
          have h0 := h 0 u rfl
          refine .cons (.lst h0 ?_) ?_
          · have : rowV g W ((lo + 0 : Nat) : Int) = ((List.range W).map fun c => g (lo : Nat) (c : Nat)).map V.int := by unfold rowV; rw [List.map_map]; rfl
            rw [this]
            have e2 : rowD g W ((lo : Nat) : Int) = ((List.range W).map fun c => g (lo : Nat) (c : Nat)).map PV.D.int := by unfold rowD; rw [List.map_map]; rfl
            rw [e2]
            exact PV.DvA.ofInts _
          · exact ih (lo + 1) fun k q hk => by
              have := h (k + 1) q (by simpa using hk)
              rw [show lo + 1 + k = lo + (k + 1) by omega]
              exact this
      have := gen qs 0 fun k q hk => by rw [Nat.zero_add]; exact hT k q hk
      rw [h3, ← List.range_eq_range'] at this
      exact this
    refine .lst (xs := qs.map V.ref) (by show (if p = p ∨ p ∈ qs then H p else S p) = _; rw [if_pos (.inl rfl)]; exact h2) (key _ fun k q hk => ?_)
    show (if q = p ∨ q ∈ qs then H q else S q) = _
    rw [if_pos (.inr (List.mem_of_getElem? hk))]
    exact h4 k q hk
/-- a loop around it -/
theorem RX.loop {wi : TI} {it : PV.DS → Option (List PV.D)} {gt : TG} {gf : PV.D → PV.DS → Option PV.DS} {t : TS} {vs : List Nat} {E : Ends} {ds : List PV.D} (hi : PV.SI K wi it) (hg : PV.SG K vs gt gf) (nv : i ∉ vs)
    (R : RX K S0 H0 S H σ δ i W Hh g) (ed : it δ = some ds) (P : Nat → PV.DS → (Int → Int → Int) → Prop) (p0 : P 0 δ g)
    (turn : ∀ k d δ1 g1, ds[k]? = some d → P k δ1 g1 → ∃ δ2, gf d δ1 = some δ2 ∧ noOwn δ2 = true ∧ ∀ S1 H1 σ2, PB.Ext S S1 → RX K S0 H0 S1 H1 σ2 δ2 i W Hh g1 → ∀ E' : Ends, (∀ S3 H3 σ3 δ3 g3, PB.Ext S1 S3 → P (k + 1) δ3 g3 → RX K S0 H0 S3 H3 σ3 δ3 i W Hh g3 → E'.nx σ3 H3) → t E' σ2 H1)
    (fin : ∀ S1 H1 σ1 δ1 g1, PB.Ext S S1 → P ds.length δ1 g1 → RX K S0 H0 S1 H1 σ1 δ1 i W Hh g1 → E.nx σ1 H1) : tFor wi gt t E σ H := by
  refine hi S0 H0 S H σ δ ds R.r ed _ fun S1 H1 J e1 jk => ?_
  refine ⟨fun k m σ H => ∃ S' δ' g', PB.Ext S1 S' ∧ RX K S0 H0 S' H σ δ' i W Hh g' ∧ P k δ' g' ∧ k ≤ ds.length ∧ m = ds.length - k, ⟨_, S1, δ, g, PB.Ext.refl _, R.grow e1, p0, Nat.zero_le _, rfl⟩, ?_⟩
  rintro k m σ2 H2 ⟨S2, δ2, g2, x2, R2, p2, hle, rfl⟩
  have J2 := jk S2 H2 k x2 R2.r.g.m
  by_cases hlt : k < ds.length
  · refine .inr ?_
    have hget : ds[k]? = some ds[k] := List.getElem?_eq_getElem hlt
    obtain ⟨go, yl⟩ := J2.1 _ hget
    refine ⟨go, fun σ H => ∃ S' δ' g', PB.Ext S1 S' ∧ RX K S0 H0 S' H σ δ' i W Hh g' ∧ P (k + 1) δ' g', fun σ' H' ⟨S', δ', g', a, b, c⟩ => ⟨_, ?_, S', δ', g', a, b, c, hlt, rfl⟩, fun v H3 y => ?_⟩
    · omega
    · obtain ⟨S3, g3, d3⟩ := yl v H3 y
      obtain ⟨δ4, e4, n4, go4⟩ := turn k _ δ2 g2 hget p2
      have R3 := R2.grow g3
      refine hg S0 H0 S3 H3 σ2 δ2 v _ δ4 R3.r d3 e4 _ fun σ4 R4 w4 => ?_
      have sm : σ4[i]? = σ2[i]? := by rw [← wipe_get (σ := σ4) nv, w4, wipe_get nv]
      exact go4 S3 H3 σ4 (e1.s.trans (x2.trans g3.s)) ⟨R4, n4, R3.s.same sm⟩ _ fun S5 H5 σ5 δ5 g5 x5 p5 R5 => ⟨S5, δ5, g5, (x2.trans g3.s).trans x5, R5, p5⟩
  · obtain rfl : k = ds.length := by omega
    exact .inl ⟨J2.2 rfl, fin S2 H2 σ2 δ2 g2 (e1.s.trans x2) p2 R2⟩
end

/-! ## a list of lists is made -/
theorem noOwn_set {δ : PV.DS} {i : Nat} {x : Option PV.DV} (h : noOwn δ = true) (hx : ∀ ds, x ≠ some (.own ds)) : noOwn (δ.set i x) = true := by
  refine List.all_eq_true.mpr fun y hy => ?_
  rcases List.mem_or_eq_of_mem_set hy with m | e
  · exact List.all_eq_true.mp h y m
  · subst e
    cases y with
    | none => rfl
    | some z => cases z with
      | dat d => rfl
      | own ds => exact (hx ds rfl).elim
section
variable {K : PySem.W.Frag} {S0 H0 S H S' H' : Hp} {σ : L2.St} {δ : PV.DS} {i W Hh : Nat} {g : Int → Int → Int}
theorem rel_blot (R : PV.Rel K S0 H0 S H σ δ) (n : noOwn δ = true) {v : Option V} : PV.Rel K S0 H0 S H (σ.set i v) (δ.set i none) := by
  have n' : noOwn (δ.set i none) = true := noOwn_set n fun _ => by simp
  refine ⟨R.g, by rw [List.length_set, List.length_set, R.n], fun j d h => ?_, fun j ds h => (noOwn_at n' h).elim, fun a b ds es p h1 _ _ _ => (noOwn_at n' h1).elim⟩
  have ne : i ≠ j := fun e => by
    subst e
    by_cases l : i < δ.length
    · rw [List.getElem?_set_self l] at h; cases h
    · rw [List.getElem?_eq_none (by rw [List.length_set]; omega)] at h; cases h
  rw [List.getElem?_set_ne ne] at h ⊢
  exact R.d j d h
theorem zeros_are {T : Hp} {vs : List V} (h : PV.DvA K T vs (List.replicate W (.int 0))) : vs = rowV (fun _ _ => 0) W (0 : Nat) := by
  have e : (List.replicate W (PV.D.int 0)) = ((List.replicate W (0 : Int)).map PV.D.int) := by simp
  rw [e] at h
  rw [h.dint (PV.ints_map _)]
  unfold rowV
  apply List.ext_getElem?
  intro j
  by_cases l : j < W
  · rw [List.getElem?_map, List.getElem?_map, List.getElem?_range l, List.getElem?_replicate]
    simp [l]
  · rw [List.getElem?_eq_none (by simp; omega), List.getElem?_eq_none (by simp; omega)]
theorem RX.make {wi : TI} {it : PV.DS → Option (List PV.D)} {gt : TG} {gf : PV.D → PV.DS → Option PV.DS} {te : TE} {fe : PV.DS → Option (List PV.D)} {vs : List Nat} {E : Ends} {ds : List PV.D} (hi : PV.SI K wi it) (hg : PV.SG K vs gt gf) (he : PV.SF K te fe)
    (R : PV.Rel K S0 H0 S H σ δ) (n : noOwn δ = true) (li : i < σ.length) (ed : it δ = some ds) (hm : ds.length ≤ PV.most) (turn : ∀ d ∈ ds, ∃ δ2, gf d (PV.dwipe δ vs) = some δ2 ∧ fe δ2 = some (List.replicate W (.int 0)))
    (fin : ∀ S1 H1 v, PB.Ext S S1 → RX K S0 H0 S1 H1 (σ.set i v) (δ.set i none) i W ds.length (fun _ _ => 0) → E.nx (σ.set i v) H1) : tAsg (tLc wi gt tYes te vs) (gName i) E σ H := by
  show tLc wi gt tYes te vs σ H _
  refine hi S0 H0 S H σ δ ds R ed _ fun S1 H1 J g1 jk D hD => ?_
  have R1 := R.grow g1
  have Rw := R1.wipe vs
  have hDS : S1 D = none := PV.Ext.none g1.m hD
  have gD : PV.Grow S1 H1 S1 (upd H1 D (.lst [])) := PV.Grow.fresh g1.m hD
  have xD0 : H0 D = none := PV.Ext.none R1.g.h hD
  refine ⟨fun k m H2 => ∃ (S2 : Hp) (qs : List Addr), PV.Grow S1 H1 S2 H2 ∧ H2 D = some (.lst (qs.map V.ref)) ∧ S2 D = none ∧ qs.length = k ∧ (∀ q ∈ qs, H2 q = some (.lst (rowV (fun _ _ => 0) W (0 : Nat))) ∧ S2 q = none ∧ H0 q = none) ∧ qs.Nodup ∧ D ∉ qs ∧ k ≤ ds.length ∧ m = ds.length - k,
    ⟨_, S1, [], gD, upd_same, hDS, rfl, fun q m => (List.not_mem_nil m).elim, List.nodup_nil, List.not_mem_nil, Nat.zero_le _, rfl⟩, ?_⟩
  rintro k m H2 ⟨S2, qs, g2, hd2, sd2, lk, rows, nd, nm, hle, rfl⟩
  have R2 : PV.Rel K S0 H0 S2 H2 (L2.wipe σ vs) (PV.dwipe δ vs) := Rw.grow g2
  have J2 := jk S2 H2 k g2.s g2.m
  by_cases hlt : k < ds.length
  · refine .inr ?_
    have hget := List.getElem?_eq_getElem hlt
    obtain ⟨go, yl⟩ := J2.1 _ hget
    refine ⟨go, fun H' => ∃ (S2 : Hp) (qs : List Addr), PV.Grow S1 H1 S2 H' ∧ H' D = some (.lst (qs.map V.ref)) ∧ S2 D = none ∧ qs.length = k + 1 ∧ (∀ q ∈ qs, H' q = some (.lst (rowV (fun _ _ => 0) W (0 : Nat))) ∧ S2 q = none ∧ H0 q = none) ∧ qs.Nodup ∧ D ∉ qs, fun H' ⟨S', q', h1, h2, h3, h4, h5, h6, h7⟩ => ⟨_, ?_, S', q', h1, h2, h3, h4, h5, h6, h7, hlt, rfl⟩, fun v H3 y => ?_⟩
    · omega
    · obtain ⟨S3, g3, d3⟩ := yl v H3 y
      obtain ⟨δ4, e4, e5⟩ := turn _ (List.getElem_mem hlt)
      have R3 := R2.grow g3
      refine hg S0 H0 S3 H3 _ _ v _ δ4 R3 d3 e4 _ fun σ4 R4 w4 => ⟨by rw [w4, PV.wipe_wipe vs vs fun _ h => h], ?_⟩
      unfold tYes
      dsimp only
      rw [if_pos rfl]
      refine he S0 H0 S3 H3 σ4 δ4 _ R4 e5 _ fun S6 H6 p us hp g6 h6 sp d6 => ?_
      have g36 := g3.trans g6
      have g16 := g2.trans g36
      have nD : H6 D = some (.lst (qs.map V.ref)) := g36.h _ _ hd2
      have sD : S6 D = none := (g36.k D (nn_of hd2)).trans sd2
      have hD3 : H3 D = some (.lst (qs.map V.ref)) := g3.h _ _ hd2
      have pD : p ≠ D := fun e => by rw [e, hD3] at hp; cases hp
      have pq : p ∉ qs := fun m => by
        have := g3.h _ _ (rows p m).1
        rw [this] at hp; cases hp
      have p0 : H0 p = none := PV.Ext.none (R4.g.h) hp
      refine ⟨_, nD, by rw [List.length_map, lk]; exact Nat.lt_of_lt_of_le hlt (PV.most_le hm), S6, qs ++ [p], ⟨g16.s, fun a o h => ?_, fun a o h => ?_, g16.k⟩, by rw [upd_same, List.map_append]; rfl, sD, by rw [List.length_append, lk]; rfl, fun q mq => ?_, ?_, ?_⟩
      · rw [upd_ne (by intro c; subst c; rw [hD] at h; cases h)]; exact g16.h a o h
      · rw [upd_ne (by intro c; subst c; rw [sD] at h; cases h)]; exact g16.m a o h
      · rcases List.mem_append.mp mq with m | m
        · obtain ⟨r1, r2, r3⟩ := rows q m
          have qD : q ≠ D := fun e => nm (e ▸ m)
          exact ⟨by rw [upd_ne qD]; exact g36.h _ _ r1, (g36.k q (nn_of r1)).trans r2, r3⟩
        · obtain rfl : q = p := by simpa using m
          exact ⟨by rw [upd_ne pD, h6, zeros_are d6], sp, p0⟩
      · rw [List.nodup_append]
        exact ⟨nd, by simp, fun a ha b hb e => pq (by rw [List.mem_singleton.mp hb] at e; exact e ▸ ha)⟩
      · exact fun m => (List.mem_append.mp m).elim nm fun m => pD (List.mem_singleton.mp m).symm
  · obtain rfl : k = ds.length := by omega
    refine .inl ⟨J2.2 rfl, ?_⟩
    refine fin S2 H2 _ (g1.s.trans g2.s) ⟨rel_blot (R1.grow g2) n, noOwn_set n fun _ => by simp, D, qs, List.getElem?_set_self li, hd2, lk, fun k q hk => ?_, sd2, xD0, fun q m => (rows q m).2, nd, nm⟩
    exact (rows q (List.mem_of_getElem? hk)).1
end

/-! ## the sheet, painted box by box -/
def dBx : PV.D → Option Box
  | .tup [.int p, .int r, .int c, .int w, .int h] => some ⟨p, r, c, w, h⟩
  | _ => none
def dBxs : List PV.D → Option (List Box)
  | [] => some []
  | d :: ds => (dBx d).bind fun b => (dBxs ds).map (b :: ·)
theorem dBx_is {d : PV.D} {b : Box} (h : dBx d = some b) : d = b.d := by
  unfold dBx at h
  split at h
  · cases h; rfl
  · cases h
theorem dBxs_is : ∀ {ds : List PV.D} {bs : List Box}, dBxs ds = some bs → ds = bs.map Box.d
  | [], _, h => by cases h; rfl
  | d :: ds, _, h => by
    obtain ⟨b, e1, h⟩ := Option.bind_eq_some_iff.mp h
    obtain ⟨bs, e2, rfl⟩ := Option.map_eq_some_iff.mp h
    rw [dBx_is e1, dBxs_is e2]; rfl
theorem dBxs_map : ∀ bs : List Box, dBxs (bs.map Box.d) = some bs
  | [] => rfl
  | b :: bs => by
    show (dBx b.d).bind _ = _
    rw [show dBx b.d = some b from rfl, Option.bind_some, dBxs_map bs]; rfl
/-- one box lies beside, above or below the other -/
def Sep (a b : Box) : Prop := a.r + a.h ≤ b.r ∨ b.r + b.h ≤ a.r ∨ a.c + a.w ≤ b.c ∨ b.c + b.w ≤ a.c
instance (a b : Box) : Decidable (Sep a b) := by unfold Sep; exact inferInstance
theorem Sep.no {a b : Box} (h : Sep a b) (r c : Int) : ¬ (a.has r c ∧ b.has r c) := by
  unfold Sep at h
  unfold Box.has
  omega
theorem Sep.of {a b : Box} (ha : 1 ≤ a.w ∧ 1 ≤ a.h) (hb : 1 ≤ b.w ∧ 1 ≤ b.h) (h : ∀ r c, ¬ (a.has r c ∧ b.has r c)) : Sep a b := by
  have := h (max a.r b.r) (max a.c b.c)
  unfold Box.has at this
  unfold Sep
  omega
/-- boxes in an area, none over another -/
structure Lie (bs : List Box) (W H : Nat) : Prop where
  i : ∀ x ∈ bs, 2 ≤ x.w ∧ 1 ≤ x.h ∧ 0 ≤ x.r ∧ 0 ≤ x.c ∧ x.r + x.h ≤ H ∧ x.c + x.w ≤ W
  d : bs.Pairwise Sep
  w : W ≤ PV.most
  h : H ≤ PV.most
instance (bs : List Box) (W H : Nat) : Decidable (Lie bs W H) :=
  decidable_of_iff ((∀ x ∈ bs, 2 ≤ x.w ∧ 1 ≤ x.h ∧ 0 ≤ x.r ∧ 0 ≤ x.c ∧ x.r + x.h ≤ H ∧ x.c + x.w ≤ W) ∧ bs.Pairwise Sep ∧ W ≤ PV.most ∧ H ≤ PV.most) ⟨fun ⟨a, b, c, d⟩ => ⟨a, b, c, d⟩, fun ⟨a, b, c, d⟩ => ⟨a, b, c, d⟩⟩
def paint (bs : List Box) (r c : Int) : Int := match bs.find? fun x => decide (x.has r c) with
  | some x => x.p
  | none => 0
def f_law_sheet : List PV.D → Option PV.D
  | [.lst ds, .int w, .int h] => (dBxs ds).bind fun bs => if Lie bs w.toNat h.toNat ∧ 0 ≤ w ∧ 0 ≤ h then some (.lst (sheetD (paint bs) w.toNat h.toNat)) else none
  | _ => none
theorem sheet_is {bs : List Box} {W H : Nat} (l : Lie bs W H) : f_law_sheet [.lst (bs.map Box.d), .int (W : Nat), .int (H : Nat)] = some (.lst (sheetD (paint bs) W H)) := by
  unfold f_law_sheet
  dsimp only
  rw [dBxs_map, Option.bind_some]
  simp only [Int.toNat_natCast]
  rw [if_pos ⟨l, by omega, by omega⟩]
theorem sheet_inv {ds : List PV.D} {r : PV.D} (h : f_law_sheet ds = some r) : ∃ bs W H, Lie bs W H ∧ ds = [.lst (bs.map Box.d), .int (W : Nat), .int (H : Nat)] ∧ r = .lst (sheetD (paint bs) W H) := by
  unfold f_law_sheet at h
  split at h
  · rename_i ds w hh
    obtain ⟨bs, e, h⟩ := Option.bind_eq_some_iff.mp h
    split at h
    · rename_i c
      cases h
      refine ⟨bs, w.toNat, hh.toNat, c.1, ?_, rfl⟩
      rw [dBxs_is e, Int.toNat_of_nonneg c.2.1, Int.toNat_of_nonneg c.2.2]
    · cases h
  · cases h
theorem paint_take {bs : List Box} {W H k : Nat} {x : Box} (l : Lie bs W H) (hx : bs[k]? = some x) (r c : Int) : paint (bs.take (k + 1)) r c = if x.has r c then x.p else paint (bs.take k) r c := by
  unfold paint
  rw [List.take_succ, hx, List.find?_append]
  by_cases e : x.has r c
  · rw [if_pos e]
    have : (bs.take k).find? (fun x => decide (x.has r c)) = none := by
      rw [List.find?_eq_none]
      intro y hy hd
      have hd' : y.has r c := by simpa using hd
      obtain ⟨j, hj, rfl⟩ := List.mem_take_iff_getElem.mp hy
      have kl := (List.getElem?_eq_some_iff.mp hx).1
      have hp := List.pairwise_iff_getElem.mp l.d j k (by omega) kl (by omega)
      rw [(List.getElem?_eq_some_iff.mp hx).2] at hp
      exact hp.no r c ⟨hd', e⟩
    rw [this]
    simp [e]
  · rw [if_neg e]
    simp only [Option.toList, List.find?_cons, decide_eq_true_eq, e, List.find?_nil, Option.or_none, decide_false]
theorem paint_free {bs : List Box} {W H k : Nat} {x : Box} (l : Lie bs W H) (hx : bs[k]? = some x) {r c : Int} (e : x.has r c) : paint (bs.take k) r c = 0 := by
  unfold paint
  have : (bs.take k).find? (fun x => decide (x.has r c)) = none := by
    rw [List.find?_eq_none]
    intro y hy hd
    have hd' : y.has r c := by simpa using hd
    obtain ⟨j, hj, rfl⟩ := List.mem_take_iff_getElem.mp hy
    have kl := (List.getElem?_eq_some_iff.mp hx).1
    have hp := List.pairwise_iff_getElem.mp l.d j k (by omega) kl (by omega)
    rw [(List.getElem?_eq_some_iff.mp hx).2] at hp
    exact hp.no r c ⟨hd', e⟩
  rw [this]

abbrev sp_law_sheet (K : PySem.W.Frag) : Sp := PV.spV K f_law_sheet
def N_law_sheet : List Str := ["told", "w", "h", "sheet", "pane", "r", "c", "wide", "high", "i", "j"]
def t_law_sheet (K : PySem.W.Frag) : TS := tSeq (tAsg (tLc (iRng1 (tCons (PB.mVar 2) (tNil))) (gName 5) (tYes) (tOp (PB.mMul) (tLst (tCons (tC (.int 0)) (tNil))) (PB.mVar 1)) [5]) (gName 3)) (
  tSeq (tFor (iList K (PB.mVar 0)) (gTup K 5 (gCons (gName 4) (gCons (gName 5) (gCons (gName 6) (gCons (gName 7) (gCons (gName 8) (gNil))))))) (C8.tCut (tIfS (tOr (PB.mTest (tOp (PB.mLt) (PB.mVar 7) (tC (.int 2)))) (tOr (PB.mTest (tOp (PB.mLt) (PB.mVar 8) (tC (.int 1)))) (tOr (PB.mTest (tOp (PB.mLt) (PB.mVar 5) (tC (.int 0)))) (tOr (PB.mTest (tOp (PB.mLt) (PB.mVar 6) (tC (.int 0)))) (tOr (PB.mTest (tOp (PB.mGt) (tOp (PB.mAdd K) (PB.mVar 5) (PB.mVar 8)) (PB.mVar 2))) (PB.mTest (tOp (PB.mGt) (tOp (PB.mAdd K) (PB.mVar 6) (PB.mVar 7)) (PB.mVar 1)))))))) (tRet (tC .non)) (tNext)) (
  tFor (iRng2 (tCons (PB.mVar 5) (tCons (tOp (PB.mAdd K) (PB.mVar 5) (PB.mVar 8)) (tNil)))) (gName 9) (tFor (iRng2 (tCons (PB.mVar 6) (tCons (tOp (PB.mAdd K) (PB.mVar 6) (PB.mVar 7)) (tNil)))) (gName 10) (C8.tCut (tIfS (PB.mTest (tOp (PB.mNe K) (tOp (PB.mIx K) (tOp (PB.mIx K) (PB.mVar 3) (PB.mVar 9)) (PB.mVar 10)) (tC (.int 0)))) (tRet (tC .non)) (tNext)) (
  tAsg (PB.mVar 4) (gSub (tOp (PB.mIx K) (PB.mVar 3) (PB.mVar 9)) (PB.mVar 10) PB.mSet))))))) (
  tRet (PB.mVar 3)))

theorem len_law_sheet {K : PySem.W.Frag} : PB.Len 3 (sp_law_sheet K) := fun vs H Q E ⟨S, ds, r, _, h, e, _⟩ => by
  obtain ⟨bs, W, Hh, _, rfl, _⟩ := sheet_inv e
  rw [h.len]; rfl
def iOfL (fe : PV.DS → Option PV.D) : PV.DS → Option (List PV.D) := fun δ => (fe δ).bind fun d => match d with
  | .lst ds => some ds
  | _ => none
section
variable {K : PySem.W.Frag} {S0 H0 S H S' H' : Hp} {σ : L2.St} {δ : PV.DS} {i W Hh : Nat} {g : Int → Int → Int}
theorem i_li {te : TE} {fe : PV.DS → Option PV.D} (ha : PV.SE K te fe) : PV.SI K (iList K te) (iOfL fe) := fun S0 H0 S H σ δ ds R e Q q => by
  obtain ⟨d, ed, e⟩ := Option.bind_eq_some_iff.mp e
  refine ha S0 H0 S H σ δ d R ed _ fun S1 H1 v g1 d1 => ?_
  cases d with
  | lst es =>
    cases e
    cases d1 with
    | lst h1 h2 =>
      rename_i a xs
      refine ⟨_, rfl, ⟨_, SqL.of (g1.m _ _ h1)⟩, q S1 H1 _ g1 fun S' H' i x m => ?_⟩
      have h1' := SqL.of (K := K) (m _ _ (x _ _ h1))
      refine ⟨fun d hd => ?_, fun e => ⟨xs, h1', by rw [h2.len]; omega⟩⟩
      obtain ⟨v, hv, dv⟩ := h2.get hd
      refine ⟨⟨xs, v, h1', hv⟩, fun w H2 ⟨e1, e2⟩ => ?_⟩
      subst e1
      have e3 := e2 xs h1'
      rw [hv] at e3
      cases e3
      exact ⟨S', .refl m, dv.mono x⟩
  | _ => cases e
theorem no_if {p : Prop} {tt : L2.TT} {ft : PV.DS → Option Bool} {t : TS} (hc : PV.ST K tt ft) (R : RX K S0 H0 S H σ δ i W Hh g) (k : TTr ft δ p) (np : ¬ p) {E : Ends} (q : ∀ S1 H1, PB.Ext S S1 → RX K S0 H0 S1 H1 σ δ i W Hh g → E.nx σ H1) : tIfS tt t tNext E σ H := by
  obtain ⟨b, e, u⟩ := k
  refine hc S0 H0 S H σ δ b R.r e _ fun S1 H1 g1 => ?_
  cases b with
  | true => exact absurd (u.mp rfl) np
  | false => exact q S1 H1 g1.s (R.grow g1)
theorem no_if0 {t : TS} {a b : Nat} {r c : Int} (R : RX K S0 H0 S H σ δ i W Hh g) (ha : σ[a]? = some (some (.int r))) (hb : σ[b]? = some (some (.int c))) (r0 : 0 ≤ r) (r1 : r < Hh) (c0 : 0 ≤ c) (c1 : c < W) (z : g r c = 0) {E : Ends}
    (q : ∀ S1 H1, PB.Ext S S1 → RX K S0 H0 S1 H1 σ δ i W Hh g → E.nx σ H1) :
    tIfS (PB.mTest (tOp (PB.mNe K) (tOp (PB.mIx K) (tOp (PB.mIx K) (PB.mVar i) (PB.mVar a)) (PB.mVar b)) (tC (.int 0)))) t tNext E σ H := by
  show tOp (PB.mIx K) (tOp (PB.mIx K) (PB.mVar i) (PB.mVar a)) (PB.mVar b) σ H _
  refine R.read ha hb r0 r1 c0 c1 ?_
  refine PB.p_c _ ?_
  refine PV.r_ne S H _ _ (.int (g r c)) (.int 0) (.bl false) R.r.g.m (.dat (.int _)) (.dat (.int _)) (by rw [PV.dNe_int, z]; rfl) _ fun S1 H1 v g1 d1 => ?_
  cases d1
  exact q S1 H1 g1.s (R.grow g1)
end

/-! ## the sheet's code -/
def shp (T : PV.D) (W Hh : Int) (x : Box) (y9 y10 : Option PV.D) : PV.DS :=
  [some (.dat T), some (.dat (.int W)), some (.dat (.int Hh)), none, some (.dat (.int x.p)), some (.dat (.int x.r)), some (.dat (.int x.c)), some (.dat (.int x.w)), some (.dat (.int x.h)), y9.map .dat, y10.map .dat]
theorem shp_no {T : PV.D} {W Hh : Int} {x : Box} {y9 y10 : Option PV.D} : noOwn (shp T W Hh x y9 y10) = true := by cases y9 <;> cases y10 <;> rfl
def shq (T : PV.D) (W Hh : Int) (y4 y5 y6 y7 y8 y9 y10 : Option PV.D) : PV.DS :=
  [some (.dat T), some (.dat (.int W)), some (.dat (.int Hh)), none, y4.map .dat, y5.map .dat, y6.map .dat, y7.map .dat, y8.map .dat, y9.map .dat, y10.map .dat]
theorem span_of {n k : Nat} {lo : Int} {d : PV.D} (h : (PV.span lo n)[k]? = some d) : d = .int (lo + (k : Nat)) ∧ k < n := by
  unfold PV.span at h
  rw [List.getElem?_map] at h
  by_cases c : k < n
  · rw [List.getElem?_range c] at h
    simp at h
    exact ⟨h.symm, c⟩
  · rw [List.getElem?_eq_none (by simp; omega)] at h
    cases h
theorem rng2_is {a b : Int} (h1 : 0 ≤ a) (h2 : a ≤ 1000000) (h3 : 0 ≤ b) (h4 : b ≤ 1000000) : PV.dRng2 [.int a, .int (a + b)] = some (PV.span a b.toNat) := by
  simp only [PV.dRng2]
  rw [if_pos (by omega), show a + b - a = b by omega]
section
variable {K : PySem.W.Frag} {S0 H0 S H S' H' : Hp} {σ : L2.St} {δ : PV.DS} {i W Hh : Nat} {g : Int → Int → Int}
theorem RX.int (R : RX K S0 H0 S H σ δ i W Hh g) {a : Nat} {n : Int} (h : δ[a]? = some (some (.dat (.int n)))) : σ[a]? = some (some (.int n)) := by
  obtain ⟨v, e, d⟩ := R.r.d a _ h
  cases d
  exact e
def tCell (K : PySem.W.Frag) : TS := C8.tCut (tIfS (PB.mTest (tOp (PB.mNe K) (tOp (PB.mIx K) (tOp (PB.mIx K) (PB.mVar 3) (PB.mVar 9)) (PB.mVar 10)) (tC (.int 0)))) (tRet (tC .non)) (tNext)) (
  tAsg (PB.mVar 4) (gSub (tOp (PB.mIx K) (PB.mVar 3) (PB.mVar 9)) (PB.mVar 10) PB.mSet))
theorem cell_go {T : PV.D} {x : Box} {r c : Int} (R : RX K S0 H0 S H σ (shp T W Hh x (some (.int r)) (some (.int c))) 3 W Hh g) (r0 : 0 ≤ r) (r1 : r < Hh) (c0 : 0 ≤ c) (c1 : c < W) (z : g r c = 0) {E : Ends}
    (q : ∀ S' H', PB.Ext S S' → RX K S0 H0 S' H' σ (shp T W Hh x (some (.int r)) (some (.int c))) 3 W Hh (put g r c x.p) → E.nx σ H') : tCell K E σ H := by
  refine PB.w_cut ?_
  refine no_if0 R (R.int rfl) (R.int rfl) r0 r1 c0 c1 z fun S1 H1 x1 R1 => ?_
  exact R1.write (R1.int rfl) (R1.int rfl) (R1.int rfl) r0 r1 c0 c1 fun H2 R2 => q _ _ x1 R2
def tCells (K : PySem.W.Frag) : TS := tFor (iRng2 (tCons (PB.mVar 6) (tCons (tOp (PB.mAdd K) (PB.mVar 6) (PB.mVar 7)) (tNil)))) (gName 10) (tCell K)
theorem cells_go {T : PV.D} {x : Box} {r : Int} {y10 : Option PV.D} (R : RX K S0 H0 S H σ (shp T W Hh x (some (.int r)) y10) 3 W Hh g) (hW : W ≤ PV.most) (r0 : 0 ≤ r) (r1 : r < Hh) (c0 : 0 ≤ x.c) (w0 : 0 ≤ x.w) (c1 : x.c + x.w ≤ W)
    (z : ∀ c, x.c ≤ c → c < x.c + x.w → g r c = 0) {E : Ends}
    (q : ∀ S' H' σ' y10, PB.Ext S S' → RX K S0 H0 S' H' σ' (shp T W Hh x (some (.int r)) y10) 3 W Hh (fun a b => if a = r ∧ x.c ≤ b ∧ b < x.c + x.w then x.p else g a b) → E.nx σ' H') : tCells K E σ H := by
  have hm : PV.most = 1000000 := rfl
  refine RX.loop (it := PV.iBy PV.dRng2 (PV.dCons (PV.vVar 6) (PV.dCons (PV.dOp PV.dAdd (PV.vVar 6) (PV.vVar 7)) PV.dNil))) (PV.i_rng2 (PV.av_cons PV.v_var (PV.av_cons (PV.s_op PV.r_add PV.v_var PV.v_var).v PV.av_nil))) (PV.g_nm (vs := [10]) (i := 10) (by decide)) (by decide) R
    (ds := PV.span x.c x.w.toNat) (rng2_is c0 (by omega) w0 (by omega)) (fun k δ g' => (∃ y10, δ = shp T W Hh x (some (.int r)) y10) ∧ g' = fun a b => if a = r ∧ x.c ≤ b ∧ b < x.c + (k : Nat) then x.p else g a b)
    ⟨⟨y10, rfl⟩, by funext a b; rw [if_neg (by omega)]⟩ ?_ ?_
  · rintro k d δ1 g1 hd ⟨⟨y, rfl⟩, rfl⟩
    obtain ⟨rfl, kl⟩ := span_of hd
    refine ⟨shp T W Hh x (some (.int r)) (some (.int (x.c + (k : Nat)))), rfl, shp_no, fun S1 H1 σ2 x1 R1 E' nx => ?_⟩
    refine cell_go R1 r0 r1 (by omega) (by omega) (by rw [if_neg (by omega)]; exact z _ (by omega) (by omega)) fun S2 H2 x2 R2 => ?_
    refine nx S2 H2 σ2 _ _ x2 ⟨⟨_, rfl⟩, ?_⟩ R2
    funext a b
    unfold put
    dsimp only
    by_cases e1 : a = r
    · by_cases e2 : b = x.c + (k : Nat)
      · rw [if_pos ⟨e1, e2⟩, if_pos (by omega)]
      · rw [if_neg (by omega)]
        by_cases e3 : x.c ≤ b ∧ b < x.c + (k : Nat)
        · rw [if_pos (by omega), if_pos (by omega)]
        · rw [if_neg (by omega), if_neg (by omega)]
    · rw [if_neg (by omega), if_neg (by omega), if_neg (by omega)]
  · rintro S1 H1 σ1 δ1 g1 x1 ⟨⟨y, rfl⟩, rfl⟩ R1
    rw [PV.span_len, Int.toNat_of_nonneg w0] at R1
    exact q S1 H1 σ1 y x1 R1
def tRows (K : PySem.W.Frag) : TS := tFor (iRng2 (tCons (PB.mVar 5) (tCons (tOp (PB.mAdd K) (PB.mVar 5) (PB.mVar 8)) (tNil)))) (gName 9) (tCells K)
theorem rows_go {T : PV.D} {x : Box} {y9 y10 : Option PV.D} (R : RX K S0 H0 S H σ (shp T W Hh x y9 y10) 3 W Hh g) (hW : W ≤ PV.most) (hH : Hh ≤ PV.most) (r0 : 0 ≤ x.r) (h0 : 0 ≤ x.h) (r1 : x.r + x.h ≤ Hh) (c0 : 0 ≤ x.c) (w0 : 0 ≤ x.w) (c1 : x.c + x.w ≤ W)
    (z : ∀ r c, x.has r c → g r c = 0) {E : Ends}
    (q : ∀ S' H' σ' y9 y10, PB.Ext S S' → RX K S0 H0 S' H' σ' (shp T W Hh x y9 y10) 3 W Hh (fun a b => if x.has a b then x.p else g a b) → E.nx σ' H') : tRows K E σ H := by
  have hm : PV.most = 1000000 := rfl
  refine RX.loop (it := PV.iBy PV.dRng2 (PV.dCons (PV.vVar 5) (PV.dCons (PV.dOp PV.dAdd (PV.vVar 5) (PV.vVar 8)) PV.dNil))) (PV.i_rng2 (PV.av_cons PV.v_var (PV.av_cons (PV.s_op PV.r_add PV.v_var PV.v_var).v PV.av_nil))) (PV.g_nm (vs := [9]) (i := 9) (by decide)) (by decide) R
    (ds := PV.span x.r x.h.toNat) (rng2_is r0 (by omega) h0 (by omega)) (fun k δ g' => (∃ y9 y10, δ = shp T W Hh x y9 y10) ∧ g' = fun a b => if x.r ≤ a ∧ a < x.r + (k : Nat) ∧ x.c ≤ b ∧ b < x.c + x.w then x.p else g a b)
    ⟨⟨y9, y10, rfl⟩, by funext a b; rw [if_neg (by omega)]⟩ ?_ ?_
  · rintro k d δ1 g1 hd ⟨⟨y9, y, rfl⟩, rfl⟩
    obtain ⟨rfl, kl⟩ := span_of hd
    refine ⟨shp T W Hh x (some (.int (x.r + (k : Nat)))) y, rfl, shp_no, fun S1 H1 σ2 x1 R1 E' nx => ?_⟩
    refine cells_go R1 hW (by omega) (by omega) c0 w0 c1 (fun c h1 h2 => by rw [if_neg (by omega)]; exact z _ _ ⟨by omega, by omega, by omega, by omega⟩) fun S2 H2 σ3 y10 x2 R2 => ?_
    refine nx S2 H2 σ3 _ _ x2 ⟨⟨_, _, rfl⟩, ?_⟩ R2
    funext a b
    by_cases e1 : a = x.r + (k : Nat)
    · by_cases e2 : x.c ≤ b ∧ b < x.c + x.w
      · rw [if_pos ⟨e1, e2⟩, if_pos (by omega)]
      · rw [if_neg (by omega), if_neg (by omega), if_neg (by omega)]
    · rw [if_neg (by omega)]
      by_cases e3 : x.r ≤ a ∧ a < x.r + (k : Nat) ∧ x.c ≤ b ∧ b < x.c + x.w
      · rw [if_pos e3, if_pos (by omega)]
      · rw [if_neg e3, if_neg (by omega)]
  · rintro S1 H1 σ1 δ1 g1 x1 ⟨⟨y9, y, rfl⟩, rfl⟩ R1
    rw [PV.span_len, Int.toNat_of_nonneg h0] at R1
    exact q S1 H1 σ1 y9 y x1 R1
end

/-! ## the sheet's code, whole -/
section
variable {K : PySem.W.Frag} {S0 H0 S H S' H' : Hp} {σ : L2.St} {δ : PV.DS} {i W Hh : Nat} {g : Int → Int → Int}
def tOut (K : PySem.W.Frag) : L2.TT := tOr (PB.mTest (tOp (PB.mLt) (PB.mVar 7) (tC (.int 2)))) (tOr (PB.mTest (tOp (PB.mLt) (PB.mVar 8) (tC (.int 1)))) (tOr (PB.mTest (tOp (PB.mLt) (PB.mVar 5) (tC (.int 0)))) (tOr (PB.mTest (tOp (PB.mLt) (PB.mVar 6) (tC (.int 0)))) (tOr (PB.mTest (tOp (PB.mGt) (tOp (PB.mAdd K) (PB.mVar 5) (PB.mVar 8)) (PB.mVar 2))) (PB.mTest (tOp (PB.mGt) (tOp (PB.mAdd K) (PB.mVar 6) (PB.mVar 7)) (PB.mVar 1)))))))
def dOut : PV.DS → Option Bool := PV.dOrT (PV.dTest (PV.dOp PV.dLt (PV.vVar 7) (PV.dC (.int 2)))) (PV.dOrT (PV.dTest (PV.dOp PV.dLt (PV.vVar 8) (PV.dC (.int 1)))) (PV.dOrT (PV.dTest (PV.dOp PV.dLt (PV.vVar 5) (PV.dC (.int 0)))) (PV.dOrT (PV.dTest (PV.dOp PV.dLt (PV.vVar 6) (PV.dC (.int 0)))) (PV.dOrT (PV.dTest (PV.dOp PV.dGt (PV.dOp PV.dAdd (PV.vVar 5) (PV.vVar 8)) (PV.vVar 2))) (PV.dTest (PV.dOp PV.dGt (PV.dOp PV.dAdd (PV.vVar 6) (PV.vVar 7)) (PV.vVar 1)))))))
theorem out_st : PV.ST K (tOut K) dOut :=
  PV.t_or (PV.t_test (PV.s_op PV.r_lt PV.v_var PV.s_int.v).v) (PV.t_or (PV.t_test (PV.s_op PV.r_lt PV.v_var PV.s_int.v).v) (PV.t_or (PV.t_test (PV.s_op PV.r_lt PV.v_var PV.s_int.v).v) (PV.t_or (PV.t_test (PV.s_op PV.r_lt PV.v_var PV.s_int.v).v) (PV.t_or (PV.t_test (PV.s_op PV.r_gt (PV.s_op PV.r_add PV.v_var PV.v_var).v PV.v_var).v) (PV.t_test (PV.s_op PV.r_gt (PV.s_op PV.r_add PV.v_var PV.v_var).v PV.v_var).v)))))
theorem VI.gt {a b : PV.DS → Option PV.D} {δ : PV.DS} {i j : Int} (ha : VI a δ i) (hb : VI b δ j) : EE (PV.dOp PV.dGt a b) δ (j < i) :=
  ⟨decide (j < i), by rw [ha.op hb]; rfl, decide_eq_true_iff⟩
theorem out_no {T : PV.D} {x : Box} {y9 y10 : Option PV.D} : TTr dOut (shp T W Hh x y9 y10) (x.w < 2 ∨ x.h < 1 ∨ x.r < 0 ∨ x.c < 0 ∨ (Hh : Int) < x.r + x.h ∨ (W : Int) < x.c + x.w) :=
  TTr.or (EE.test (VI.lt rfl VI.c)) (TTr.or (EE.test (VI.lt rfl VI.c)) (TTr.or (EE.test (VI.lt rfl VI.c)) (TTr.or (EE.test (VI.lt rfl VI.c)) (TTr.or (EE.test (VI.gt (VI.add rfl rfl) rfl)) (EE.test (VI.gt (VI.add rfl rfl) rfl))))))
def tBox (K : PySem.W.Frag) : TS := C8.tCut (tIfS (tOut K) (tRet (tC .non)) tNext) (tRows K)
def tBoxes (K : PySem.W.Frag) : TS := tFor (iList K (PB.mVar 0)) (gTup K 5 (gCons (gName 4) (gCons (gName 5) (gCons (gName 6) (gCons (gName 7) (gCons (gName 8) (gNil))))))) (tBox K)
theorem shq_of {T : PV.D} {x : Box} {y9 y10 : Option PV.D} : shp T W Hh x y9 y10 = shq T W Hh (some (.int x.p)) (some (.int x.r)) (some (.int x.c)) (some (.int x.w)) (some (.int x.h)) y9 y10 := rfl
theorem boxes_go {bs : List Box} (l : Lie bs W Hh) {y4 y5 y6 y7 y8 y9 y10 : Option PV.D} (R : RX K S0 H0 S H σ (shq (.lst (bs.map Box.d)) W Hh y4 y5 y6 y7 y8 y9 y10) 3 W Hh (fun _ _ => 0)) {E : Ends}
    (q : ∀ S' H' σ' δ', PB.Ext S S' → RX K S0 H0 S' H' σ' δ' 3 W Hh (paint bs) → E.nx σ' H') : tBoxes K E σ H := by
  refine RX.loop (it := iOfL (PV.dVar 0)) (i_li PV.s_var) (PV.g_tup (vs := [4, 5, 6, 7, 8]) (PV.g_cons (PV.g_nm (i := 4) (by decide)) (PV.g_cons (PV.g_nm (i := 5) (by decide)) (PV.g_cons (PV.g_nm (i := 6) (by decide)) (PV.g_cons (PV.g_nm (i := 7) (by decide)) (PV.g_cons (PV.g_nm (i := 8) (by decide)) PV.g_nil)))))) (by decide) R
    (ds := bs.map Box.d) rfl (fun k δ g' => (∃ y4 y5 y6 y7 y8 y9 y10, δ = shq (.lst (bs.map Box.d)) W Hh y4 y5 y6 y7 y8 y9 y10) ∧ g' = paint (bs.take k))
    ⟨⟨y4, y5, y6, y7, y8, y9, y10, rfl⟩, rfl⟩ ?_ ?_
  · rintro k d δ1 g1 hd ⟨⟨y4, y5, y6, y7, y8, y9, y10, rfl⟩, rfl⟩
    rw [List.getElem?_map] at hd
    obtain ⟨x, hx, rfl⟩ := Option.map_eq_some_iff.mp hd
    have lx := l.i x (List.mem_of_getElem? hx)
    refine ⟨shp (.lst (bs.map Box.d)) W Hh x y9 y10, rfl, shp_no, fun S1 H1 σ2 x1 R1 E' nx => ?_⟩
    refine PB.w_cut ?_
    refine no_if out_st R1 out_no (by omega) fun S2 H2 x2 R2 => ?_
    refine rows_go R2 l.w l.h (by omega) (by omega) (by omega) (by omega) (by omega) (by omega) (fun r c h => paint_free l hx h) fun S3 H3 σ3 z9 z10 x3 R3 => ?_
    refine nx S3 H3 σ3 _ _ (x2.trans x3) ⟨⟨_, _, _, _, _, z9, z10, shq_of⟩, ?_⟩ R3
    funext a b
    rw [paint_take l hx]
  · rintro S1 H1 σ1 δ1 g1 x1 ⟨_, rfl⟩ R1
    rw [List.length_map, List.take_length] at R1
    exact q S1 H1 σ1 δ1 x1 R1
end
theorem mul_zeros {W : Nat} (h : W ≤ PV.most) : PV.fMul (.lst [.int 0]) (.int (W : Nat)) = some (List.replicate W (.int 0)) := by
  have hm : PV.most = 1000000 := rfl
  unfold PV.fMul
  dsimp only
  rw [if_pos ⟨by omega, by simp only [List.length_cons, List.length_nil, Int.toNat_natCast]; omega⟩, Int.toNat_natCast]
  congr 1
  exact List.flatten_replicate_singleton
theorem pure_law_sheet (K : PySem.W.Frag) : PB.Pure N_law_sheet (sp_law_sheet K) (t_law_sheet K) := fun vs H Q E ⟨S, ds, r, x, hd, e, q⟩ => by
  obtain ⟨bs, W, Hh, l, rfl, rfl⟩ := sheet_inv e
  have R : PV.Rel K S H S H (L2.start N_law_sheet vs) (PV.startD N_law_sheet.length [.lst (bs.map Box.d), .int (W : Nat), .int (Hh : Nat)]) := by
    refine ⟨.refl x, ?_, fun i d hi => ?_, fun i es hi => (PV.startD_own hi).elim, fun i j es _ _ hi => (PV.startD_own hi).elim⟩
    · unfold L2.start PV.startD; rw [List.length_append, List.length_append, List.length_map, List.length_map, List.length_replicate, List.length_replicate, hd.len]
    · unfold L2.start
      unfold PV.startD at hi
      rw [hd.len]
      exact hd.start i d _ hi
  show tSeq (tAsg (tLc (iRng1 (tCons (PB.mVar 2) (tNil))) (gName 5) (tYes) (tOp (PB.mMul) (tLst (tCons (tC (.int 0)) (tNil))) (PB.mVar 1)) [5]) (gName 3)) (tSeq (tBoxes K) (tRet (PB.mVar 3))) _ _ _
  refine RX.make (W := W) (i := 3) (it := PV.iBy PV.dRng1 (PV.dCons (PV.vVar 2) PV.dNil)) (ds := PV.span 0 Hh) (fe := PV.fOp PV.fMul (PV.dLst (PV.fLst (PV.dCons (PV.dC (.int 0)) PV.dNil))) (PV.vVar 1)) (vs := [5]) (PV.i_rng1 (PV.av_cons PV.v_var PV.av_nil)) (PV.g_nm (i := 5) (by decide)) (PV.f_op PV.rf_mul (PV.SF.e (PV.f_lst (PV.a_cons PV.s_int PV.a_nil))).v PV.v_var) R rfl ?_ (PV.rng1 l.h) (by rw [PV.span_len]; exact l.h) (fun d hd => ⟨_, rfl, ?_⟩) fun S1 H1 v x1 R1 => ?_
  · have := R.n
    rw [this]
    exact (by decide : 3 < 11)
  · exact mul_zeros l.w
  · rw [PV.span_len] at R1
    refine boxes_go (y4 := none) (y5 := none) (y6 := none) (y7 := none) (y8 := none) (y9 := none) (y10 := none) l R1 fun S2 H2 σ2 δ2 x2 R2 => ?_
    obtain ⟨S3, v, hv, x3, g3, d3⟩ := R2.out
    exact PB.p_var hv _ (q S3 H2 v g3 d3)

/-! ## a step of the law -/
def N_law_step : List Str := ["layout", "w", "h", "cell", "new", "known", "pane", "way", "kind", "one"]
def e_law_step_s1 : PV.DS → PV.D → Option (Option PV.D) := fun δ => PV.cStep (PV.gN 9) (PV.dTest (PV.dOp PV.dNe (PV.vVar 9) (PV.vVar 6))) (PV.dVar 9) (PV.dwipe δ [9])
def e_law_step_c1 : PV.DS → Option (List PV.D) := PV.fLc (PV.iOf (PV.dVar 5)) (PV.gN 9) (PV.dTest (PV.dOp PV.dNe (PV.vVar 9) (PV.vVar 6))) (PV.dVar 9) [9]
theorem e_law_step_c1_is (δ : PV.DS) : e_law_step_c1 δ = ((PV.iOf (PV.dVar 5)) δ).bind fun ds => PV.dComp (e_law_step_s1 δ) ds [] := rfl
def e_law_step : PV.DS → Option PV.Out := PV.dSeq (PV.dAsg (PV.dCall (f_panes 24) (PV.dCons (PV.dVar 0) (PV.dNil))) (PV.gN 5)) (
  PV.dSeq (PV.dAsg (PV.dOp PV.dIx (PV.vVar 5) (PV.dOp PV.dMod (PV.vVar 3) (PV.dCall PV.bLen (PV.dCons (PV.vVar 5) (PV.dNil))))) (PV.gN 6)) (
  PV.dSeq (PV.dAsg (PV.dOp PV.dIx (PV.dLst (PV.fLst (PV.dCons (PV.dC (.str "beside")) (PV.dCons (PV.dC (.str "below")) (PV.dNil))))) (PV.dOp PV.dMod (PV.dOp PV.dDiv (PV.vVar 3) (PV.dC (.int 11))) (PV.dC (.int 2)))) (PV.gN 7)) (
  PV.dSeq (PV.dAsg (PV.dOp PV.dMod (PV.dOp PV.dDiv (PV.vVar 3) (PV.dC (.int 22))) (PV.dC (.int 6))) (PV.gN 8)) (
  PV.dSeq (PV.dIf (PV.dTest (PV.dOp PV.dLt (PV.vVar 8) (PV.dC (.int 4)))) (PV.dTryR f_divided g_divided (PV.dCons (PV.dVar 0) (PV.dCons (PV.dVar 1) (PV.dCons (PV.dVar 2) (PV.dCons (PV.dVar 6) (PV.dCons (PV.dVar 7) (PV.dCons (PV.dVar 4) (PV.dNil))))))) (PV.dCons (PV.dOp PV.dAdd (PV.vVar 5) (PV.dLst (PV.fLst (PV.dCons (PV.dVar 4) (PV.dNil))))) (PV.dNil)) (PV.dRet (PV.dTup (PV.dCons (PV.dVar 0) (PV.dCons (PV.dVar 5) (PV.dNil)))))) (PV.dNext)) (
  PV.dSeq (PV.dIf (PV.dOrT (PV.dTest (PV.dOp PV.dEq (PV.vVar 8) (PV.dC (.int 4)))) (PV.dTest (PV.dOp PV.dEq (PV.dCall PV.bLen (PV.dCons (PV.vVar 5) (PV.dNil))) (PV.dC (.int 1))))) (PV.dRet (PV.dTup (PV.dCons (PV.dCall f_moved (PV.dCons (PV.dVar 0) (PV.dCons (PV.dVar 1) (PV.dCons (PV.dVar 2) (PV.dCons (PV.dVar 6) (PV.dCons (PV.dVar 7) (PV.dCons (PV.dOp PV.dSub (PV.dOp PV.dMod (PV.dOp PV.dDiv (PV.vVar 3) (PV.dC (.int 132))) (PV.dC (.int 41))) (PV.dC (.int 20))) (PV.dNil)))))))) (PV.dCons (PV.dVar 5) (PV.dNil))))) (PV.dNext)) (
  PV.dRet (PV.dTup (PV.dCons (PV.dCall f_without (PV.dCons (PV.dVar 0) (PV.dCons (PV.dVar 1) (PV.dCons (PV.dVar 2) (PV.dCons (PV.dVar 6) (PV.dNil)))))) (PV.dCons (PV.dLst (e_law_step_c1)) (PV.dNil))))))))))
def f_law_step : List PV.D → Option PV.D := PV.run 10 5 e_law_step
theorem run_law_step (a0 a1 a2 a3 a4 : PV.D) : f_law_step [a0, a1, a2, a3, a4] = PV.fin (e_law_step [some (.dat a0), some (.dat a1), some (.dat a2), some (.dat a3), some (.dat a4), none, none, none, none, none]) := rfl
abbrev sp_law_step (K : PySem.W.Frag) : Sp := PV.spV K f_law_step
def t_law_step (K : PySem.W.Frag) : TS := tSeq (tAsg (PB.mCall (sp_panes K 24) (tCons (PB.mVar 0) (tNil))) (gName 5)) (
  tSeq (tAsg (tOp (PB.mIx K) (PB.mVar 5) (tOp (PB.mMod) (PB.mVar 3) (tCB (PB.mLen K) (tCons (PB.mVar 5) (tNil))))) (gName 6)) (
  tSeq (tAsg (tOp (PB.mIx K) (tLst (tCons (tC (.str "beside")) (tCons (tC (.str "below")) (tNil)))) (tOp (PB.mMod) (tOp (PB.mDiv) (PB.mVar 3) (tC (.int 11))) (tC (.int 2)))) (gName 7)) (
  tSeq (tAsg (tOp (PB.mMod) (tOp (PB.mDiv) (PB.mVar 3) (tC (.int 22))) (tC (.int 6))) (gName 8)) (
  C8.tCut (tIfS (PB.mTest (tOp (PB.mLt) (PB.mVar 8) (tC (.int 4)))) (fun D σ H => (fun W : WX => tRet (tTup (tCons (tCallS (sp_divided K) (WE W) (tCons (PB.mVar 0) (tCons (PB.mVar 1) (tCons (PB.mVar 2) (tCons (PB.mVar 6) (tCons (PB.mVar 7) (tCons (PB.mVar 4) (tNil)))))))) (tCons (tOp (PB.mAdd K) (PB.mVar 5) (tLst (tCons (PB.mVar 4) (tNil)))) (tNil))))) (wOnly K (.ref (He.ga K "NoRoom")) (fun a cls d D σ H => (cls = .ref (He.ga K "NoRoom") ∧ d = none) ∧ (tRet (tTup (tCons (PB.mVar 0) (tCons (PB.mVar 5) (tNil))))) D σ H) (fun _ _ _ _ => False) D) D σ H) (tNext)) (
  C8.tCut (tIfS (tOr (PB.mTest (tOp (PB.mEq K) (PB.mVar 8) (tC (.int 4)))) (PB.mTest (tOp (PB.mEq K) (tCB (PB.mLen K) (tCons (PB.mVar 5) (tNil))) (tC (.int 1))))) (tRet (tTup (tCons (PB.mCall (sp_moved K) (tCons (PB.mVar 0) (tCons (PB.mVar 1) (tCons (PB.mVar 2) (tCons (PB.mVar 6) (tCons (PB.mVar 7) (tCons (tOp (PB.mSub) (tOp (PB.mMod) (tOp (PB.mDiv) (PB.mVar 3) (tC (.int 132))) (tC (.int 41))) (tC (.int 20))) (tNil)))))))) (tCons (PB.mVar 5) (tNil))))) (tNext)) (
  tRet (tTup (tCons (PB.mCall (sp_without K) (tCons (PB.mVar 0) (tCons (PB.mVar 1) (tCons (PB.mVar 2) (tCons (PB.mVar 6) (tNil)))))) (tCons (tLc (PV.iSq K (PB.mVar 5)) (gName 9) (PB.mTest (tOp (PB.mNe K) (PB.mVar 9) (PB.mVar 6))) (PB.mVar 9) [9]) (tNil))))))))))
theorem snd_law_step (K : PySem.W.Frag) (exm : PySem.W.exmOne K (.ref (He.ga K "NoRoom")) (.ref (He.ga K "NoRoom")) = some true) : PV.SS K (t_law_step K) e_law_step := by
  unfold t_law_step e_law_step e_law_step_c1
  exact PV.s_seq (PV.s_asg (vs := [5]) (PV.s_call (PV.a_cons (PV.s_var) (PV.a_nil))) (PV.g_nm (by decide))) (
  PV.s_seq (PV.s_asg (vs := [6]) (PV.s_op PV.r_ix (PV.v_var) ((PV.s_op PV.r_mod (PV.v_var) ((PV.s_cb PV.c_len (PV.av_cons (PV.v_var) (PV.av_nil))).v)).v)) (PV.g_nm (by decide))) (
  PV.s_seq (PV.s_asg (vs := [7]) (PV.s_op PV.r_ix ((PV.SF.e (PV.f_lst (PV.a_cons (PV.s_str) (PV.a_cons (PV.s_str) (PV.a_nil))))).v) ((PV.s_op PV.r_mod ((PV.s_op PV.r_div (PV.v_var) ((PV.s_int).v)).v) ((PV.s_int).v)).v)) (PV.g_nm (by decide))) (
  PV.s_seq (PV.s_asg (vs := [8]) (PV.s_op PV.r_mod ((PV.s_op PV.r_div (PV.v_var) ((PV.s_int).v)).v) ((PV.s_int).v)) (PV.g_nm (by decide))) (
  PV.s_cut (PV.s_if (PV.t_test ((PV.s_op PV.r_lt (PV.v_var) ((PV.s_int).v)).v)) (PV.s_tryR exm (PV.a_cons (PV.s_var) (PV.a_cons (PV.s_var) (PV.a_cons (PV.s_var) (PV.a_cons (PV.s_var) (PV.a_cons (PV.s_var) (PV.a_cons (PV.s_var) (PV.a_nil))))))) (PV.a_cons (PV.s_op PV.r_add (PV.v_var) ((PV.SF.e (PV.f_lst (PV.a_cons (PV.s_var) (PV.a_nil)))).v)) (PV.a_nil)) (PV.s_ret (PV.s_tup (PV.a_cons (PV.s_var) (PV.a_cons (PV.s_var) (PV.a_nil)))))) (PV.s_next)) (
  PV.s_cut (PV.s_if (PV.t_or (PV.t_test ((PV.s_op PV.r_eq (PV.v_var) ((PV.s_int).v)).v)) (PV.t_test ((PV.s_op PV.r_eq ((PV.s_cb PV.c_len (PV.av_cons (PV.v_var) (PV.av_nil))).v) ((PV.s_int).v)).v))) (PV.s_ret (PV.s_tup (PV.a_cons (PV.s_call (PV.a_cons (PV.s_var) (PV.a_cons (PV.s_var) (PV.a_cons (PV.s_var) (PV.a_cons (PV.s_var) (PV.a_cons (PV.s_var) (PV.a_cons (PV.s_op PV.r_sub ((PV.s_op PV.r_mod ((PV.s_op PV.r_div (PV.v_var) ((PV.s_int).v)).v) ((PV.s_int).v)).v) ((PV.s_int).v)) (PV.a_nil)))))))) (PV.a_cons (PV.s_var) (PV.a_nil))))) (PV.s_next)) (
  PV.s_ret (PV.s_tup (PV.a_cons (PV.s_call (PV.a_cons (PV.s_var) (PV.a_cons (PV.s_var) (PV.a_cons (PV.s_var) (PV.a_cons (PV.s_var) (PV.a_nil)))))) (PV.a_cons (PV.SF.e (PV.f_lc (vs := [9]) (PV.i_sq (PV.s_var)) (PV.g_nm (by decide)) (PV.t_test ((PV.s_op PV.r_ne (PV.v_var) (PV.v_var)).v)) (PV.s_var))) (PV.a_nil))))))))))
theorem len_law_step {K : PySem.W.Frag} : PB.Len 5 (sp_law_step K) := PV.len_run
theorem pure_law_step (K : PySem.W.Frag) (exm : PySem.W.exmOne K (.ref (He.ga K "NoRoom")) (.ref (He.ga K "NoRoom")) = some true) : PB.Pure N_law_step (sp_law_step K) (t_law_step K) := PV.pure_run rfl (snd_law_step K exm)


/-! ## the law -/
def N_law : List Str := ["script", "w", "h", "layout", "new", "cell", "known", "told", "low", "sheet", "covered", "box"]
def e_law_s1 : PV.DS → PV.D → Option (Option PV.D) := fun δ => PV.cStep (PV.gN 11) (PV.dYes) (PV.dOp PV.dIx (PV.vVar 11) (PV.dC (.int 0))) (PV.dwipe δ [11])
def e_law_c1 : PV.DS → Option (List PV.D) := PV.fLc (PV.iOf (PV.dVar 7)) (PV.gN 11) (PV.dYes) (PV.dOp PV.dIx (PV.vVar 11) (PV.dC (.int 0))) [11]
theorem e_law_c1_is (δ : PV.DS) : e_law_c1 δ = ((PV.iOf (PV.dVar 7)) δ).bind fun ds => PV.dComp (e_law_s1 δ) ds [] := rfl
def e_law_s2 : PV.DS → PV.D → Option (Option PV.D) := fun δ => PV.cStep (PV.gN 11) (PV.dYes) (PV.dOp PV.dMul (PV.dOp PV.dIx (PV.vVar 11) (PV.dC (.int 3))) (PV.dOp PV.dIx (PV.vVar 11) (PV.dC (.int 4)))) (PV.dwipe δ [11])
def e_law_c2 : PV.DS → Option (List PV.D) := PV.fLc (PV.iOf (PV.dVar 7)) (PV.gN 11) (PV.dYes) (PV.dOp PV.dMul (PV.dOp PV.dIx (PV.vVar 11) (PV.dC (.int 3))) (PV.dOp PV.dIx (PV.vVar 11) (PV.dC (.int 4)))) [11]
theorem e_law_c2_is (δ : PV.DS) : e_law_c2 δ = ((PV.iOf (PV.dVar 7)) δ).bind fun ds => PV.dComp (e_law_s2 δ) ds [] := rfl
def e_law_b3 : PV.DS → Option PV.Out := PV.dSeq (PV.dIf (PV.dTest (PV.dOp PV.dEq (PV.dOp PV.dMod (PV.dOp PV.dDiv (PV.dCall PV.bInt (PV.dCons (PV.vVar 5) (PV.dNil))) (PV.dC (.int 5412))) (PV.dC (.int 5))) (PV.dC (.int 1)))) (PV.dSeq (PV.dAsg (PV.dOp PV.dAdd (PV.dC (.int 2)) (PV.dOp PV.dMod (PV.dOp PV.dDiv (PV.dCall PV.bInt (PV.dCons (PV.vVar 5) (PV.dNil))) (PV.dC (.int 27060))) (PV.dC (.int 39)))) (PV.gN 1)) (
  PV.dAsg (PV.dOp PV.dAdd (PV.dC (.int 1)) (PV.dOp PV.dMod (PV.dOp PV.dDiv (PV.dCall PV.bInt (PV.dCons (PV.vVar 5) (PV.dNil))) (PV.dC (.int 1055340))) (PV.dC (.int 20)))) (PV.gN 2))) (PV.dNext)) (
  PV.dSeq (PV.dAsg (PV.dOp PV.dAdd (PV.vVar 4) (PV.dC (.int 1))) (PV.gN 4)) (
  PV.dSeq (PV.dAsg (PV.dCall f_law_step (PV.dCons (PV.dVar 3) (PV.dCons (PV.dVar 1) (PV.dCons (PV.dVar 2) (PV.dCons (PV.dCall PV.bInt (PV.dCons (PV.vVar 5) (PV.dNil))) (PV.dCons (PV.dVar 4) (PV.dNil))))))) (PV.gT 2 (PV.gC (PV.gN 3) (PV.gC (PV.gN 6) (PV.gNs))))) (
  PV.dSeq (PV.dIf (PV.dTest (PV.dOp PV.dNe (PV.dLst (PV.fCall PV.bSorted (PV.dCons (PV.dCall (f_panes 24) (PV.dCons (PV.dVar 3) (PV.dNil))) (PV.dNil)))) (PV.dLst (PV.fCall PV.bSorted (PV.dCons (PV.vVar 6) (PV.dNil)))))) (PV.dRet (PV.dC (.bl false))) (PV.dNext)) (
  PV.dSeq (PV.dAsg (PV.dCall f_boxes (PV.dCons (PV.dVar 3) (PV.dCons (PV.dVar 1) (PV.dCons (PV.dVar 2) (PV.dNil))))) (PV.gN 7)) (
  PV.dSeq (PV.dAsg (PV.dCall (f_least 24) (PV.dCons (PV.dVar 3) (PV.dNil))) (PV.gN 8)) (
  PV.dSeq (PV.dAsg (PV.dCall f_law_sheet (PV.dCons (PV.dVar 7) (PV.dCons (PV.dCall PV.bMax2 (PV.dCons (PV.vVar 1) (PV.dCons (PV.dOp PV.dIx (PV.vVar 8) (PV.dC (.int 0))) (PV.dNil)))) (PV.dCons (PV.dCall PV.bMax2 (PV.dCons (PV.vVar 2) (PV.dCons (PV.dOp PV.dIx (PV.vVar 8) (PV.dC (.int 1))) (PV.dNil)))) (PV.dNil))))) (PV.gN 9)) (
  PV.dSeq (PV.dIf (PV.dOrT (PV.dTest (PV.dOp PV.dIsN (PV.vVar 9) (PV.dC .non))) (PV.dTest (PV.dOp PV.dNe (PV.dLst (e_law_c1)) (PV.dCall (f_panes 24) (PV.dCons (PV.dVar 3) (PV.dNil)))))) (PV.dRet (PV.dC (.bl false))) (PV.dNext)) (
  PV.dSeq (PV.dIf (PV.dNotT (PV.dTru (PV.dCall f_law_borders_right (PV.dCons (PV.dVar 9) (PV.dCons (PV.dCall PV.bMax2 (PV.dCons (PV.vVar 1) (PV.dCons (PV.dOp PV.dIx (PV.vVar 8) (PV.dC (.int 0))) (PV.dNil)))) (PV.dCons (PV.dCall PV.bMax2 (PV.dCons (PV.vVar 2) (PV.dCons (PV.dOp PV.dIx (PV.vVar 8) (PV.dC (.int 1))) (PV.dNil)))) (PV.dNil))))))) (PV.dRet (PV.dC (.bl false))) (PV.dNext)) (
  PV.dSeq (PV.dAsg (PV.dCall PV.bSum (PV.dCons (PV.dLst (e_law_c2)) (PV.dNil))) (PV.gN 10)) (
  PV.dIf (PV.dAndT (PV.dTest (PV.dOp PV.dEq (PV.dCall PV.bLen (PV.dCons (PV.vVar 7) (PV.dNil))) (PV.dC (.int 1)))) (PV.dTest (PV.dOp PV.dNe (PV.vVar 10) (PV.dOp PV.dMul (PV.dCall PV.bMax2 (PV.dCons (PV.vVar 1) (PV.dCons (PV.dOp PV.dIx (PV.vVar 8) (PV.dC (.int 0))) (PV.dNil)))) (PV.dCall PV.bMax2 (PV.dCons (PV.vVar 2) (PV.dCons (PV.dOp PV.dIx (PV.vVar 8) (PV.dC (.int 1))) (PV.dNil)))))))) (PV.dRet (PV.dC (.bl false))) (PV.dNext)))))))))))
def e_law_t3 : PV.D → PV.DS → Option PV.Out := fun d δ => ((PV.gN 5) d δ).bind (e_law_b3)
def e_law_l3 : PV.DS → Option PV.Out := PV.dFor (PV.iOf (PV.dLst (PV.fSl (PV.vVar 0) (PV.dPart (PV.dC (.int 1))) (PV.dPart (PV.dC (.int 16)))))) (PV.gN 5) (e_law_b3)
theorem e_law_l3_is (δ : PV.DS) : e_law_l3 δ = ((PV.iOf (PV.dLst (PV.fSl (PV.vVar 0) (PV.dPart (PV.dC (.int 1))) (PV.dPart (PV.dC (.int 16)))))) δ).bind fun ds => PV.dLoop (e_law_t3) ds δ := rfl
def e_law : PV.DS → Option PV.Out := PV.dSeq (PV.dAsg (PV.dOp PV.dAdd (PV.dC (.int 2)) (PV.dOp PV.dMod (PV.dCall f_law_cell (PV.dCons (PV.dVar 0) (PV.dCons (PV.dC (.int 0)) (PV.dNil)))) (PV.dC (.int 39)))) (PV.gN 1)) (
  PV.dSeq (PV.dAsg (PV.dOp PV.dAdd (PV.dC (.int 1)) (PV.dOp PV.dMod (PV.dOp PV.dDiv (PV.dCall f_law_cell (PV.dCons (PV.dVar 0) (PV.dCons (PV.dC (.int 0)) (PV.dNil)))) (PV.dC (.int 39))) (PV.dC (.int 20)))) (PV.gN 2)) (
  PV.dSeq (PV.dAsg (PV.dC (.int 1)) (PV.gN 3)) (
  PV.dSeq (PV.dAsg (PV.dC (.int 1)) (PV.gN 4)) (
  PV.dSeq (e_law_l3) (
  PV.dRet (PV.dOp PV.dEq (PV.dCall (f_fitted 24) (PV.dCons (PV.dVar 3) (PV.dCons (PV.dVar 1) (PV.dCons (PV.dVar 2) (PV.dNil))))) (PV.dCall (f_fitted 24) (PV.dCons (PV.dCall (f_fitted 24) (PV.dCons (PV.dVar 3) (PV.dCons (PV.dVar 1) (PV.dCons (PV.dVar 2) (PV.dNil))))) (PV.dCons (PV.dVar 1) (PV.dCons (PV.dVar 2) (PV.dNil)))))))))))
def f_law : List PV.D → Option PV.D := PV.run 12 1 e_law
theorem run_law (a0 : PV.D) : f_law [a0] = PV.fin (e_law [some (.dat a0), none, none, none, none, none, none, none, none, none, none, none]) := rfl
abbrev sp_law (K : PySem.W.Frag) : Sp := PV.spV K f_law
def t_law (K : PySem.W.Frag) : TS := tSeq (tAsg (tOp (PB.mAdd K) (tC (.int 2)) (tOp (PB.mMod) (PB.mCall (sp_law_cell K) (tCons (PB.mVar 0) (tCons (tC (.int 0)) (tNil)))) (tC (.int 39)))) (gName 1)) (
  tSeq (tAsg (tOp (PB.mAdd K) (tC (.int 1)) (tOp (PB.mMod) (tOp (PB.mDiv) (PB.mCall (sp_law_cell K) (tCons (PB.mVar 0) (tCons (tC (.int 0)) (tNil)))) (tC (.int 39))) (tC (.int 20)))) (gName 2)) (
  tSeq (tAsg (tC (.int 1)) (gName 3)) (
  tSeq (tAsg (tC (.int 1)) (gName 4)) (
  tSeq (tFor (PV.iSq K (tSl (PB.mSl K) (PB.mVar 0) (PB.mPart (tC (.int 1))) (PB.mPart (tC (.int 16))))) (gName 5) (C8.tCut (tIfS (PB.mTest (tOp (PB.mEq K) (tOp (PB.mMod) (tOp (PB.mDiv) (tCB (PB.mInt) (tCons (PB.mVar 5) (tNil))) (tC (.int 5412))) (tC (.int 5))) (tC (.int 1)))) (tSeq (tAsg (tOp (PB.mAdd K) (tC (.int 2)) (tOp (PB.mMod) (tOp (PB.mDiv) (tCB (PB.mInt) (tCons (PB.mVar 5) (tNil))) (tC (.int 27060))) (tC (.int 39)))) (gName 1)) (
  tAsg (tOp (PB.mAdd K) (tC (.int 1)) (tOp (PB.mMod) (tOp (PB.mDiv) (tCB (PB.mInt) (tCons (PB.mVar 5) (tNil))) (tC (.int 1055340))) (tC (.int 20)))) (gName 2))) (tNext)) (
  tSeq (tAsg (tOp (PB.mAdd K) (PB.mVar 4) (tC (.int 1))) (gName 4)) (
  tSeq (tAsg (PB.mCall (sp_law_step K) (tCons (PB.mVar 3) (tCons (PB.mVar 1) (tCons (PB.mVar 2) (tCons (tCB (PB.mInt) (tCons (PB.mVar 5) (tNil))) (tCons (PB.mVar 4) (tNil))))))) (gTup K 2 (gCons (gName 3) (gCons (gName 6) (gNil))))) (
  C8.tCut (tIfS (PB.mTest (tOp (PB.mNe K) (tCB (rSortedI K) (tCons (PB.mCall (sp_panes K 24) (tCons (PB.mVar 3) (tNil))) (tNil))) (tCB (rSortedI K) (tCons (PB.mVar 6) (tNil))))) (tRet (tC (.bl false))) (tNext)) (
  tSeq (tAsg (PB.mCall (sp_boxes K) (tCons (PB.mVar 3) (tCons (PB.mVar 1) (tCons (PB.mVar 2) (tNil))))) (gName 7)) (
  tSeq (tAsg (PB.mCall (sp_least K 24) (tCons (PB.mVar 3) (tNil))) (gName 8)) (
  tSeq (tAsg (PB.mCall (sp_law_sheet K) (tCons (PB.mVar 7) (tCons (tCB (PB.mMax2) (tCons (PB.mVar 1) (tCons (tOp (PB.mIx K) (PB.mVar 8) (tC (.int 0))) (tNil)))) (tCons (tCB (PB.mMax2) (tCons (PB.mVar 2) (tCons (tOp (PB.mIx K) (PB.mVar 8) (tC (.int 1))) (tNil)))) (tNil))))) (gName 9)) (
  C8.tCut (tIfS (tOr (PB.mTest (tOp PB.mIsN (PB.mVar 9) (tC .non))) (PB.mTest (tOp (PB.mNe K) (tLc (PV.iSq K (PB.mVar 7)) (gName 11) (tYes) (tOp (PB.mIx K) (PB.mVar 11) (tC (.int 0))) [11]) (PB.mCall (sp_panes K 24) (tCons (PB.mVar 3) (tNil)))))) (tRet (tC (.bl false))) (tNext)) (
  C8.tCut (tIfS (tNot (PB.mTru K (PB.mCall (sp_law_borders_right K) (tCons (PB.mVar 9) (tCons (tCB (PB.mMax2) (tCons (PB.mVar 1) (tCons (tOp (PB.mIx K) (PB.mVar 8) (tC (.int 0))) (tNil)))) (tCons (tCB (PB.mMax2) (tCons (PB.mVar 2) (tCons (tOp (PB.mIx K) (PB.mVar 8) (tC (.int 1))) (tNil)))) (tNil))))))) (tRet (tC (.bl false))) (tNext)) (
  tSeq (tAsg (tCB (rSum K) (tCons (tLc (PV.iSq K (PB.mVar 7)) (gName 11) (tYes) (tOp (PB.mMul) (tOp (PB.mIx K) (PB.mVar 11) (tC (.int 3))) (tOp (PB.mIx K) (PB.mVar 11) (tC (.int 4)))) [11]) (tNil))) (gName 10)) (
  tIfS (tAnd (PB.mTest (tOp (PB.mEq K) (tCB (PB.mLen K) (tCons (PB.mVar 7) (tNil))) (tC (.int 1)))) (PB.mTest (tOp (PB.mNe K) (PB.mVar 10) (tOp (PB.mMul) (tCB (PB.mMax2) (tCons (PB.mVar 1) (tCons (tOp (PB.mIx K) (PB.mVar 8) (tC (.int 0))) (tNil)))) (tCB (PB.mMax2) (tCons (PB.mVar 2) (tCons (tOp (PB.mIx K) (PB.mVar 8) (tC (.int 1))) (tNil)))))))) (tRet (tC (.bl false))) (tNext))))))))))))) (
  tRet (tOp (PB.mEq K) (PB.mCall (sp_fitted K 24) (tCons (PB.mVar 3) (tCons (PB.mVar 1) (tCons (PB.mVar 2) (tNil))))) (PB.mCall (sp_fitted K 24) (tCons (PB.mCall (sp_fitted K 24) (tCons (PB.mVar 3) (tCons (PB.mVar 1) (tCons (PB.mVar 2) (tNil))))) (tCons (PB.mVar 1) (tCons (PB.mVar 2) (tNil)))))))))))
theorem snd_law (K : PySem.W.Frag) : PV.SS K (t_law K) e_law := by
  unfold t_law e_law e_law_l3 e_law_b3 e_law_c2 e_law_c1
  exact PV.s_seq (PV.s_asg (vs := [1]) (PV.s_op PV.r_add ((PV.s_int).v) ((PV.s_op PV.r_mod ((PV.s_call (PV.a_cons (PV.s_var) (PV.a_cons (PV.s_int) (PV.a_nil)))).v) ((PV.s_int).v)).v)) (PV.g_nm (by decide))) (
  PV.s_seq (PV.s_asg (vs := [2]) (PV.s_op PV.r_add ((PV.s_int).v) ((PV.s_op PV.r_mod ((PV.s_op PV.r_div ((PV.s_call (PV.a_cons (PV.s_var) (PV.a_cons (PV.s_int) (PV.a_nil)))).v) ((PV.s_int).v)).v) ((PV.s_int).v)).v)) (PV.g_nm (by decide))) (
  PV.s_seq (PV.s_asg (vs := [3]) (PV.s_int) (PV.g_nm (by decide))) (
  PV.s_seq (PV.s_asg (vs := [4]) (PV.s_int) (PV.g_nm (by decide))) (
  PV.s_seq (PV.s_for (vs := [5]) (PV.i_sq (PV.SF.e (PV.f_sl (PV.v_var) (PV.o_part ((PV.s_int).v)) (PV.o_part ((PV.s_int).v))))) (PV.g_nm (by decide)) (PV.s_cut (PV.s_if (PV.t_test ((PV.s_op PV.r_eq ((PV.s_op PV.r_mod ((PV.s_op PV.r_div ((PV.s_cb PV.c_int (PV.av_cons (PV.v_var) (PV.av_nil))).v) ((PV.s_int).v)).v) ((PV.s_int).v)).v) ((PV.s_int).v)).v)) (PV.s_seq (PV.s_asg (vs := [1]) (PV.s_op PV.r_add ((PV.s_int).v) ((PV.s_op PV.r_mod ((PV.s_op PV.r_div ((PV.s_cb PV.c_int (PV.av_cons (PV.v_var) (PV.av_nil))).v) ((PV.s_int).v)).v) ((PV.s_int).v)).v)) (PV.g_nm (by decide))) (
  PV.s_asg (vs := [2]) (PV.s_op PV.r_add ((PV.s_int).v) ((PV.s_op PV.r_mod ((PV.s_op PV.r_div ((PV.s_cb PV.c_int (PV.av_cons (PV.v_var) (PV.av_nil))).v) ((PV.s_int).v)).v) ((PV.s_int).v)).v)) (PV.g_nm (by decide)))) (PV.s_next)) (
  PV.s_seq (PV.s_asg (vs := [4]) (PV.s_op PV.r_add (PV.v_var) ((PV.s_int).v)) (PV.g_nm (by decide))) (
  PV.s_seq (PV.s_asg (vs := [3, 6]) (PV.s_call (PV.a_cons (PV.s_var) (PV.a_cons (PV.s_var) (PV.a_cons (PV.s_var) (PV.a_cons (PV.s_cb PV.c_int (PV.av_cons (PV.v_var) (PV.av_nil))) (PV.a_cons (PV.s_var) (PV.a_nil))))))) (PV.g_tup (PV.g_cons (PV.g_nm (by decide)) (PV.g_cons (PV.g_nm (by decide)) (PV.g_nil))))) (
  PV.s_cut (PV.s_if (PV.t_test ((PV.s_op PV.r_ne ((PV.SF.e (PV.f_cb PV.cf_sorted (PV.av_cons ((PV.s_call (PV.a_cons (PV.s_var) (PV.a_nil))).v) (PV.av_nil)))).v) ((PV.SF.e (PV.f_cb PV.cf_sorted (PV.av_cons (PV.v_var) (PV.av_nil)))).v)).v)) (PV.s_ret (PV.s_bl)) (PV.s_next)) (
  PV.s_seq (PV.s_asg (vs := [7]) (PV.s_call (PV.a_cons (PV.s_var) (PV.a_cons (PV.s_var) (PV.a_cons (PV.s_var) (PV.a_nil))))) (PV.g_nm (by decide))) (
  PV.s_seq (PV.s_asg (vs := [8]) (PV.s_call (PV.a_cons (PV.s_var) (PV.a_nil))) (PV.g_nm (by decide))) (
  PV.s_seq (PV.s_asg (vs := [9]) (PV.s_call (PV.a_cons (PV.s_var) (PV.a_cons (PV.s_cb PV.c_max2 (PV.av_cons (PV.v_var) (PV.av_cons ((PV.s_op PV.r_ix (PV.v_var) ((PV.s_int).v)).v) (PV.av_nil)))) (PV.a_cons (PV.s_cb PV.c_max2 (PV.av_cons (PV.v_var) (PV.av_cons ((PV.s_op PV.r_ix (PV.v_var) ((PV.s_int).v)).v) (PV.av_nil)))) (PV.a_nil))))) (PV.g_nm (by decide))) (
  PV.s_cut (PV.s_if (PV.t_or (PV.t_test ((PV.s_op PV.r_isN (PV.v_var) ((PV.s_non).v)).v)) (PV.t_test ((PV.s_op PV.r_ne ((PV.SF.e (PV.f_lc (vs := [11]) (PV.i_sq (PV.s_var)) (PV.g_nm (by decide)) (PV.t_yes) (PV.s_op PV.r_ix (PV.v_var) ((PV.s_int).v)))).v) ((PV.s_call (PV.a_cons (PV.s_var) (PV.a_nil))).v)).v))) (PV.s_ret (PV.s_bl)) (PV.s_next)) (
  PV.s_cut (PV.s_if (PV.t_not (PV.t_tru ((PV.s_call (PV.a_cons (PV.s_var) (PV.a_cons (PV.s_cb PV.c_max2 (PV.av_cons (PV.v_var) (PV.av_cons ((PV.s_op PV.r_ix (PV.v_var) ((PV.s_int).v)).v) (PV.av_nil)))) (PV.a_cons (PV.s_cb PV.c_max2 (PV.av_cons (PV.v_var) (PV.av_cons ((PV.s_op PV.r_ix (PV.v_var) ((PV.s_int).v)).v) (PV.av_nil)))) (PV.a_nil))))).v))) (PV.s_ret (PV.s_bl)) (PV.s_next)) (
  PV.s_seq (PV.s_asg (vs := [10]) (PV.s_cb PV.c_sum (PV.av_cons ((PV.SF.e (PV.f_lc (vs := [11]) (PV.i_sq (PV.s_var)) (PV.g_nm (by decide)) (PV.t_yes) (PV.s_op PV.r_mul ((PV.s_op PV.r_ix (PV.v_var) ((PV.s_int).v)).v) ((PV.s_op PV.r_ix (PV.v_var) ((PV.s_int).v)).v)))).v) (PV.av_nil))) (PV.g_nm (by decide))) (
  PV.s_if (PV.t_and (PV.t_test ((PV.s_op PV.r_eq ((PV.s_cb PV.c_len (PV.av_cons (PV.v_var) (PV.av_nil))).v) ((PV.s_int).v)).v)) (PV.t_test ((PV.s_op PV.r_ne (PV.v_var) ((PV.s_op PV.r_mul ((PV.s_cb PV.c_max2 (PV.av_cons (PV.v_var) (PV.av_cons ((PV.s_op PV.r_ix (PV.v_var) ((PV.s_int).v)).v) (PV.av_nil)))).v) ((PV.s_cb PV.c_max2 (PV.av_cons (PV.v_var) (PV.av_cons ((PV.s_op PV.r_ix (PV.v_var) ((PV.s_int).v)).v) (PV.av_nil)))).v)).v)).v))) (PV.s_ret (PV.s_bl)) (PV.s_next))))))))))))) (
  PV.s_ret (PV.s_op PV.r_eq ((PV.s_call (PV.a_cons (PV.s_var) (PV.a_cons (PV.s_var) (PV.a_cons (PV.s_var) (PV.a_nil))))).v) ((PV.s_call (PV.a_cons (PV.s_call (PV.a_cons (PV.s_var) (PV.a_cons (PV.s_var) (PV.a_cons (PV.s_var) (PV.a_nil))))) (PV.a_cons (PV.s_var) (PV.a_cons (PV.s_var) (PV.a_nil))))).v)))))))
theorem len_law {K : PySem.W.Frag} : PB.Len 1 (sp_law K) := PV.len_run
theorem pure_law (K : PySem.W.Frag) : PB.Pure N_law (sp_law K) (t_law K) := PV.pure_run rfl (snd_law K)


/-! ## a step of the law makes a layout of its panes -/
theorem divided_stg {k : Nat} {l : Lay} (g : Stg k l) (hk : k ≤ 14) {w h : Int} (hw : w ≤ 1000) (hh : h ≤ 1000) {p : Int} {b : Bool} {nw : Int} {l' : Lay} (e : l.divided w h p b nw = some l') : Stg (k + 1) l' := by
  have p2 := two_pow (k := k) (by omega)
  have hpp := g.2
  have fs := fit_stg g.1 (Nat.le_refl _) g.2 (by omega) hw hh
  have rin := g.room (by omega) hw hh p b
  unfold Lay.divided at e
  by_cases c : l.room w h p b < (if b = true then 3 else 5)
  · rw [if_pos c] at e; cases e
  · rw [if_neg c] at e
    have r1 : 1 ≤ l.room w h p b ∧ l.room w h p b ≤ 200000 := by
      rcases rin with z | z
      · rw [z] at c; exfalso; apply c; split <;> omega
      · exact z
    have wg := withNew_good (p := p) (b := b) (nw := nw) r1 fs.1 (by omega)
    have wp : ((l.fit w h).withNew p b nw (l.room w h p b)).panes.length ≤ 2 ^ (k + 1) := by
      rw [withNew_panes fs.1]
      have := flat_len (p := p) (nw := nw) (l.fit w h).panes
      have := fs.2
      rw [Nat.pow_succ]; omega
    cases e
    exact fit_stg wg (Nat.le_refl _) wp (by omega) hw hh
theorem without_stg {k : Nat} {l : Lay} (g : Stg k l) (hk : k ≤ 15) (hn : l.panes.Nodup) {w h : Int} (hw : w ≤ 1000) (hh : h ≤ 1000) (p : Int) : Stg k (l.without w h p) := by
  have p2 := two_pow hk
  have hpp := g.2
  have fs := fit_stg g.1 (Nat.le_refl _) g.2 (by omega) hw hh
  have fp : (l.fit w h).panes = l.panes := fit_panes g.1 w h
  have tg := taken_good (p := p) (P := 2 ^ k) (by decide) fs.1 (by rw [fp]; exact hn) fs.2
  have tp : ((l.fit w h).taken p).panes.length ≤ 2 ^ k := by
    cases c : isP (l.fit w h) p with
    | false =>
      rw [taken_panes fs.1 c]
      have := List.length_filter_le (fun x => decide (x ≠ p)) (l.fit w h).panes
      have := fs.2
      omega
    | true =>
      cases hl : l.fit w h with
      | pane n => simp only [Lay.taken, Lay.panes, List.length_singleton]; omega
      | node _ _ _ => rw [hl] at c; simp [isP] at c
  unfold Lay.without
  exact fit_stg tg (Nat.le_refl _) tp (by omega) hw hh
theorem moved_stg {k : Nat} {l : Lay} (g : Stg k l) (hk : k ≤ 15) {w h : Int} (hw : w ≤ 1000) (hh : h ≤ 1000) (p : Int) (b : Bool) (a : Int) : Stg k (l.moved w h p b a) := by
  have p2 := two_pow hk
  have hpp := g.2
  have gl := g.1.least
  have fs := fit_stg g.1 (Nat.le_refl _) g.2 (by omega) hw hh
  have fp : (l.fit w h).panes = l.panes := fit_panes g.1 w h
  have fs2 := fs.2
  have sg := shift_good (p := p) (b := b) (a := a) (B := 200000) (M := 2 ^ k) (g.fitEx w h) (by unfold Lay.W; omega) (by unfold Lay.H; omega) (by omega)
  have sp : ((l.fit w h).shift p b a).1.panes.length ≤ 2 ^ k := by rw [shift_panes fs.1, fp]; exact g.2
  unfold Lay.moved
  exact fit_stg sg (Nat.le_refl _) sp (by omega) hw hh
theorem divided_none {k : Nat} {l : Lay} (g : Stg k l) (hk : k ≤ 14) (hno : l.panes.Nodup) {w h : Int} (hw : w ≤ 1000) (hh : h ≤ 1000) {p : Int} (hp : p ∈ l.panes) (b : Bool) (nw : Int) (hd : l.divided w h p b nw = none) :
    f_divided [l.d, .int w, .int h, .int p, .str (nm b), .int nw] = none := by
  have sz := size_of_pane_ok g (by omega) hw hh hp b
  rw [divided_is g hk hno hw hh hp b nw] at hd
  by_cases c : l.room w h p b < (if b = true then 3 else 5)
  · have al : f_along [.str (nm b), .int 5, .int 3] = some (.int (if b = true then 3 else 5)) := by rw [along_ok]; cases b <;> rfl
    have lt : decide (l.room w h p b < (if b = true then 3 else 5)) = true := decide_eq_true c
    rw [run_divided]
    unfold e_divided
    simp only [sz, al, lt, PV.dNo, PV.fin, PV.dSeq, PV.dIf, PV.dAsg, PV.dAsgO, PV.dRet, PV.dRetN, PV.dNext, PV.dBreak, PV.dCont, PV.dDrop, PV.dApp, PV.dExt, PV.dSetI, PV.dPop, PV.dAug, PV.dAugI, PV.dFrz, PV.onOwn, PV.gN, PV.gT, PV.gC, PV.gNs, PV.dVar, PV.vVar, PV.dC, PV.dOp, PV.fOp, PV.dNeg, PV.dNot, PV.dAnd, PV.dOr, PV.dIfE, PV.dNil, PV.dCons, PV.dTup, PV.fLst, PV.dLst, PV.dCall, PV.fCall, PV.dTest, PV.tst, PV.dTru, PV.tru, PV.dAndT, PV.dOrT, PV.dNotT, PV.dYes, PV.dChain, PV.dIsi, PV.isi, PV.tyn, PV.dPart, PV.dNoPart, PV.fSl, PV.lItems, PV.iOf, PV.dItems, PV.iBy, PV.sItems, PV.dwipe, PV.bMax2, PV.bMin2, PV.bAbs, PV.bInt, PV.bLen, PV.bTup, PV.bList, PV.dAdd, PV.dSub, PV.dLt, PV.dLe, PV.dGt, PV.dGe, PV.dIsN, PV.dNotN, PV.isNon_non, PV.isNon_int, PV.fAdd, PV.dIx_l, PV.dIx_t, PV.dIx_f, PV.at0, PV.at1, PV.at2, PV.at3, PV.at4, Option.bind_some, Option.map_some, Option.bind_none, Option.map_none, List.getElem?_cons_zero, List.getElem?_cons_succ, List.set_cons_zero, List.set_cons_succ, if_true, if_false, PV.kit_ii, PV.kit_ti, PV.kit_tt, PV.kit_ib, PV.kit_it, PV.kit_ll, PV.kit_li, Bool.not_true, Bool.not_false, Bool.false_eq_true, Bool.not_eq_true, reduceIte, List.length_cons, List.length_nil, Nat.reduceAdd, Nat.zero_add, PV.most_0, PV.most_1, PV.most_2, PV.most_3, PV.most_4, PV.most_5, PV.most_6, PV.most_7, decide_true, decide_false, List.nil_append, List.cons_append]
  · rw [if_neg c] at hd; cases hd
structure Inv25 (k : Nat) (m : Int) (l : Lay) : Prop where
  g : Stg k l
  n : l.panes.Nodup
  r : ∀ x ∈ l.panes, 1 ≤ x ∧ x ≤ m
  a : l.alt
theorem Stg.up {k : Nat} {l : Lay} (s : Stg k l) : Stg (k + 1) l := by
  have := Nat.pow_le_pow_right (n := 2) (by decide) (show k ≤ k + 1 by omega)
  exact ⟨s.1.mono (Int.le_refl _) this (by omega), Nat.le_trans s.2 this⟩
theorem step_c1 {x0 x1 x2 x3 x4 x7 x8 x9 : Option PV.DV} {ns : List Int} {p : Int} (hl : ns.length ≤ 100000) :
    PV.dComp (e_law_step_s1 [x0, x1, x2, x3, x4, some (.dat (.lst (ns.map .int))), some (.dat (.int p)), x7, x8, x9]) (ns.map PV.D.int) [] = some ((ns.filter fun x => decide (x ≠ p)).map PV.D.int) := by
  rw [PV.dComp_filter (p := fun d => match d with | .int x => decide (x ≠ p) | _ => false) (f := fun d => d) _ _ (fun d hd => ?_) (by unfold PV.most; simp; omega)]
  · rw [List.filter_map]
    simp [Function.comp_def]
  · obtain ⟨x, hx, rfl⟩ := List.mem_map.mp hd
    have hq := PV.dNe_int (i := x) (j := p)
    by_cases c : x = p
    · rw [decide_eq_false (by simpa using c)] at hq
      simp only [e_law_step_s1, PV.cStep, hq, PV.fin, PV.dSeq, PV.dIf, PV.dAsg, PV.dAsgO, PV.dRet, PV.dRetN, PV.dNext, PV.dBreak, PV.dCont, PV.dDrop, PV.dApp, PV.dExt, PV.dSetI, PV.dPop, PV.dAug, PV.dAugI, PV.dFrz, PV.onOwn, PV.gN, PV.gT, PV.gC, PV.gNs, PV.dVar, PV.vVar, PV.dC, PV.dOp, PV.fOp, PV.dNeg, PV.dNot, PV.dAnd, PV.dOr, PV.dIfE, PV.dNil, PV.dCons, PV.dTup, PV.fLst, PV.dLst, PV.dCall, PV.fCall, PV.dTest, PV.tst, PV.dTru, PV.tru, PV.dAndT, PV.dOrT, PV.dNotT, PV.dYes, PV.dChain, PV.dIsi, PV.isi, PV.tyn, PV.dPart, PV.dNoPart, PV.fSl, PV.lItems, PV.iOf, PV.dItems, PV.iBy, PV.sItems, PV.dwipe, PV.bMax2, PV.bMin2, PV.bAbs, PV.bInt, PV.bLen, PV.bTup, PV.bList, PV.dAdd, PV.dSub, PV.dLt, PV.dLe, PV.dGt, PV.dGe, PV.dIsN, PV.dNotN, PV.isNon_non, PV.isNon_int, PV.fAdd, PV.dIx_l, PV.dIx_t, PV.dIx_f, PV.at0, PV.at1, PV.at2, PV.at3, PV.at4, Option.bind_some, Option.map_some, Option.bind_none, Option.map_none, List.getElem?_cons_zero, List.getElem?_cons_succ, List.set_cons_zero, List.set_cons_succ, if_true, if_false, PV.kit_ii, PV.kit_ti, PV.kit_tt, PV.kit_ib, PV.kit_it, PV.kit_ll, PV.kit_li, Bool.not_true, Bool.not_false, Bool.false_eq_true, Bool.not_eq_true, reduceIte, List.length_cons, List.length_nil, Nat.reduceAdd, Nat.zero_add, PV.most_0, PV.most_1, PV.most_2, PV.most_3, PV.most_4, PV.most_5, PV.most_6, PV.most_7, decide_true, decide_false, List.nil_append, List.cons_append]
      simp [c]
    · rw [decide_eq_true (by simpa using c)] at hq
      simp only [e_law_step_s1, PV.cStep, hq, PV.fin, PV.dSeq, PV.dIf, PV.dAsg, PV.dAsgO, PV.dRet, PV.dRetN, PV.dNext, PV.dBreak, PV.dCont, PV.dDrop, PV.dApp, PV.dExt, PV.dSetI, PV.dPop, PV.dAug, PV.dAugI, PV.dFrz, PV.onOwn, PV.gN, PV.gT, PV.gC, PV.gNs, PV.dVar, PV.vVar, PV.dC, PV.dOp, PV.fOp, PV.dNeg, PV.dNot, PV.dAnd, PV.dOr, PV.dIfE, PV.dNil, PV.dCons, PV.dTup, PV.fLst, PV.dLst, PV.dCall, PV.fCall, PV.dTest, PV.tst, PV.dTru, PV.tru, PV.dAndT, PV.dOrT, PV.dNotT, PV.dYes, PV.dChain, PV.dIsi, PV.isi, PV.tyn, PV.dPart, PV.dNoPart, PV.fSl, PV.lItems, PV.iOf, PV.dItems, PV.iBy, PV.sItems, PV.dwipe, PV.bMax2, PV.bMin2, PV.bAbs, PV.bInt, PV.bLen, PV.bTup, PV.bList, PV.dAdd, PV.dSub, PV.dLt, PV.dLe, PV.dGt, PV.dGe, PV.dIsN, PV.dNotN, PV.isNon_non, PV.isNon_int, PV.fAdd, PV.dIx_l, PV.dIx_t, PV.dIx_f, PV.at0, PV.at1, PV.at2, PV.at3, PV.at4, Option.bind_some, Option.map_some, Option.bind_none, Option.map_none, List.getElem?_cons_zero, List.getElem?_cons_succ, List.set_cons_zero, List.set_cons_succ, if_true, if_false, PV.kit_ii, PV.kit_ti, PV.kit_tt, PV.kit_ib, PV.kit_it, PV.kit_ll, PV.kit_li, Bool.not_true, Bool.not_false, Bool.false_eq_true, Bool.not_eq_true, reduceIte, List.length_cons, List.length_nil, Nat.reduceAdd, Nat.zero_add, PV.most_0, PV.most_1, PV.most_2, PV.most_3, PV.most_4, PV.most_5, PV.most_6, PV.most_7, decide_true, decide_false, List.nil_append, List.cons_append]
      simp [c]
theorem perm_new {p nw : Int} : ∀ {l : List Int}, l.Nodup → p ∈ l → (l ++ [nw]).Perm (l.flatMap fun x => if x = p then [p, nw] else [x])
  | [], _, h => by cases h
  | a :: l, h, hm => by
    obtain ⟨h1, h2⟩ := List.nodup_cons.mp h
    rw [List.flatMap_cons]
    by_cases c : a = p
    · subst c
      rw [if_pos rfl, flat_none h1]
      exact List.Perm.cons _ (List.perm_append_singleton _ _)
    · rw [if_neg c]
      exact List.Perm.cons _ (perm_new h2 ((List.mem_cons.mp hm).resolve_left (Ne.symm c)))
theorem step_ok {k : Nat} {l : Lay} {m : Int} (v : Inv25 k m l) (hk : k ≤ 14) (m0 : 1 ≤ m) (hm : m ≤ 100) {w h : Int} (hw : w ≤ 1000) (hh : h ≤ 1000) (c : Int) :
    ∃ (l' : Lay) (ks : List Int), f_law_step [l.d, .int w, .int h, .int c, .int (m + 1)] = some (.tup [l'.d, .lst (ks.map .int)]) ∧ ks.Perm l'.panes ∧ Inv25 (k + 1) (m + 1) l' := by
  obtain ⟨st, nd, rg, al⟩ := v
  have p2 := two_pow (k := k) (by omega)
  have gp := st.2
  have gl := st.1.least
  have pn := panes_ok k st.1 (by omega) 24 (by omega)
  have lp : (l.panes.map PV.D.int).length = l.panes.length := List.length_map ..
  have ne0 : 1 ≤ l.panes.length := gl.2.2.1
  have m1 : PV.dMod (.int c) (.int (l.panes.length : Int)) = some (.int (c % (l.panes.length : Int))) := PV.dMod_ok (by omega)
  have b1 := Int.emod_nonneg c (show (l.panes.length : Int) ≠ 0 by omega)
  have b2 := Int.emod_lt_of_pos c (show (0 : Int) < (l.panes.length : Int) by omega)
  have hk2 : (c % (l.panes.length : Int)).toNat < l.panes.length := by omega
  have a1 : atI (l.panes.map PV.D.int) (c % (l.panes.length : Int)) = some (.int l.panes[(c % (l.panes.length : Int)).toNat]) := PV.atI_of b1 (by rw [List.getElem?_map, List.getElem?_eq_getElem hk2]; rfl)
  have hp : l.panes[(c % (l.panes.length : Int)).toNat] ∈ l.panes := List.getElem_mem hk2
  generalize l.panes[(c % (l.panes.length : Int)).toNat] = p at a1 hp
  have v1 : PV.dDiv (.int c) (.int 11) = some (.int (c / 11)) := PV.dDiv_ok (by decide) (by decide)
  have v2 : PV.dMod (.int (c / 11)) (.int 2) = some (.int (c / 11 % 2)) := PV.dMod_ok (by decide)
  have v3 : PV.dDiv (.int c) (.int 22) = some (.int (c / 22)) := PV.dDiv_ok (by decide) (by decide)
  have v4 : PV.dMod (.int (c / 22)) (.int 6) = some (.int (c / 22 % 6)) := PV.dMod_ok (by decide)
  have v5 : PV.dDiv (.int c) (.int 132) = some (.int (c / 132)) := PV.dDiv_ok (by decide) (by decide)
  have v6 : PV.dMod (.int (c / 132)) (.int 41) = some (.int (c / 132 % 41)) := PV.dMod_ok (by decide)
  obtain ⟨b, wy⟩ : ∃ b, atI [PV.D.str "beside", PV.D.str "below"] (c / 11 % 2) = some (.str (nm b)) := by
    have : c / 11 % 2 = 0 ∨ c / 11 % 2 = 1 := by omega
    rcases this with e | e
    · exact ⟨false, by rw [e]; rfl⟩
    · exact ⟨true, by rw [e]; rfl⟩
  rw [run_law_step]
  unfold e_law_step
  by_cases k4 : c / 22 % 6 < 4
  · have d4 : decide (c / 22 % 6 < 4) = true := decide_eq_true k4
    cases hd : l.divided w h p b (m + 1) with
    | none =>
      have rp := rg p hp
      have no := divided_no st (by omega) nd hw hh hp b (m + 1) (m + 1) (by omega) hd
      have nn := divided_none st (by omega) nd hw hh hp b (m + 1) hd
      refine ⟨l, l.panes, ?_, List.Perm.refl _, st.up, nd, fun x hx => by have := rg x hx; omega, al⟩
      simp only [pn, lp, m1, a1, v1, v2, v3, v4, wy, d4, PV.dTryR, no, nn, PV.fin, PV.dSeq, PV.dIf, PV.dAsg, PV.dAsgO, PV.dRet, PV.dRetN, PV.dNext, PV.dBreak, PV.dCont, PV.dDrop, PV.dApp, PV.dExt, PV.dSetI, PV.dPop, PV.dAug, PV.dAugI, PV.dFrz, PV.onOwn, PV.gN, PV.gT, PV.gC, PV.gNs, PV.dVar, PV.vVar, PV.dC, PV.dOp, PV.fOp, PV.dNeg, PV.dNot, PV.dAnd, PV.dOr, PV.dIfE, PV.dNil, PV.dCons, PV.dTup, PV.fLst, PV.dLst, PV.dCall, PV.fCall, PV.dTest, PV.tst, PV.dTru, PV.tru, PV.dAndT, PV.dOrT, PV.dNotT, PV.dYes, PV.dChain, PV.dIsi, PV.isi, PV.tyn, PV.dPart, PV.dNoPart, PV.fSl, PV.lItems, PV.iOf, PV.dItems, PV.iBy, PV.sItems, PV.dwipe, PV.bMax2, PV.bMin2, PV.bAbs, PV.bInt, PV.bLen, PV.bTup, PV.bList, PV.dAdd, PV.dSub, PV.dLt, PV.dLe, PV.dGt, PV.dGe, PV.dIsN, PV.dNotN, PV.isNon_non, PV.isNon_int, PV.fAdd, PV.dIx_l, PV.dIx_t, PV.dIx_f, PV.at0, PV.at1, PV.at2, PV.at3, PV.at4, Option.bind_some, Option.map_some, Option.bind_none, Option.map_none, List.getElem?_cons_zero, List.getElem?_cons_succ, List.set_cons_zero, List.set_cons_succ, if_true, if_false, PV.kit_ii, PV.kit_ti, PV.kit_tt, PV.kit_ib, PV.kit_it, PV.kit_ll, PV.kit_li, Bool.not_true, Bool.not_false, Bool.false_eq_true, Bool.not_eq_true, reduceIte, List.length_cons, List.length_nil, Nat.reduceAdd, Nat.zero_add, PV.most_0, PV.most_1, PV.most_2, PV.most_3, PV.most_4, PV.most_5, PV.most_6, PV.most_7, decide_true, decide_false, List.nil_append, List.cons_append]
    | some l' =>
      have ok := divided_ok st (by omega) nd hw hh hp b (m + 1) hd
      have ep := divided_panes st (by omega) hw hh hd
      obtain ⟨n1, n2⟩ := nodup_new (p := p) (nw := m + 1) nd (fun z => by have := rg _ z; omega)
      refine ⟨l', l.panes ++ [m + 1], ?_, by rw [ep]; exact perm_new nd hp, divided_stg st hk hw hh hd, by rw [ep]; exact n1, fun x hx => ?_, divided_alt al hd⟩
      · have le : (l.panes.length + 1 ≤ PV.most) = True := eq_true (by unfold PV.most; omega)
        have ma : (l.panes ++ [m + 1]).map PV.D.int = l.panes.map PV.D.int ++ [PV.D.int (m + 1)] := by rw [List.map_append]; rfl
        rw [ma]
        simp only [pn, lp, m1, a1, v1, v2, v3, v4, wy, d4, PV.dTryR, ok, PV.dAdd, le, PV.fin, PV.dSeq, PV.dIf, PV.dAsg, PV.dAsgO, PV.dRet, PV.dRetN, PV.dNext, PV.dBreak, PV.dCont, PV.dDrop, PV.dApp, PV.dExt, PV.dSetI, PV.dPop, PV.dAug, PV.dAugI, PV.dFrz, PV.onOwn, PV.gN, PV.gT, PV.gC, PV.gNs, PV.dVar, PV.vVar, PV.dC, PV.dOp, PV.fOp, PV.dNeg, PV.dNot, PV.dAnd, PV.dOr, PV.dIfE, PV.dNil, PV.dCons, PV.dTup, PV.fLst, PV.dLst, PV.dCall, PV.fCall, PV.dTest, PV.tst, PV.dTru, PV.tru, PV.dAndT, PV.dOrT, PV.dNotT, PV.dYes, PV.dChain, PV.dIsi, PV.isi, PV.tyn, PV.dPart, PV.dNoPart, PV.fSl, PV.lItems, PV.iOf, PV.dItems, PV.iBy, PV.sItems, PV.dwipe, PV.bMax2, PV.bMin2, PV.bAbs, PV.bInt, PV.bLen, PV.bTup, PV.bList, PV.dAdd, PV.dSub, PV.dLt, PV.dLe, PV.dGt, PV.dGe, PV.dIsN, PV.dNotN, PV.isNon_non, PV.isNon_int, PV.fAdd, PV.dIx_l, PV.dIx_t, PV.dIx_f, PV.at0, PV.at1, PV.at2, PV.at3, PV.at4, Option.bind_some, Option.map_some, Option.bind_none, Option.map_none, List.getElem?_cons_zero, List.getElem?_cons_succ, List.set_cons_zero, List.set_cons_succ, if_true, if_false, PV.kit_ii, PV.kit_ti, PV.kit_tt, PV.kit_ib, PV.kit_it, PV.kit_ll, PV.kit_li, Bool.not_true, Bool.not_false, Bool.false_eq_true, Bool.not_eq_true, reduceIte, List.length_cons, List.length_nil, Nat.reduceAdd, Nat.zero_add, PV.most_0, PV.most_1, PV.most_2, PV.most_3, PV.most_4, PV.most_5, PV.most_6, PV.most_7, decide_true, decide_false, List.nil_append, List.cons_append]
      · rw [ep] at hx
        rcases n2 x hx with z | ⟨z, _⟩
        · have := rg x z; omega
        · omega
  · have d4 : decide (c / 22 % 6 < 4) = false := decide_eq_false k4
    by_cases k5 : c / 22 % 6 = 4 ∨ l.panes.length = 1
    · have mv := moved_ok st (by omega) nd hw hh p b (c / 132 % 41 - 20)
      refine ⟨l.moved w h p b (c / 132 % 41 - 20), l.panes, ?_, by rw [moved_panes st (by omega) hw hh], (moved_stg st (by omega) hw hh p b _).up, by rw [moved_panes st (by omega) hw hh]; exact nd, fun x hx => ?_, moved_alt al⟩
      · have e4 : PV.dEq (.int (c / 22 % 6)) (.int 4) = some (.bl (decide (c / 22 % 6 = 4))) := PV.dEq_int
        have e5 : PV.dEq (.int (l.panes.length : Int)) (.int 1) = some (.bl (decide ((l.panes.length : Int) = 1))) := PV.dEq_int
        by_cases c4 : c / 22 % 6 = 4
        · rw [decide_eq_true c4] at e4
          simp only [pn, lp, m1, a1, v1, v2, v3, v4, wy, d4, e4, v5, v6, mv, PV.fin, PV.dSeq, PV.dIf, PV.dAsg, PV.dAsgO, PV.dRet, PV.dRetN, PV.dNext, PV.dBreak, PV.dCont, PV.dDrop, PV.dApp, PV.dExt, PV.dSetI, PV.dPop, PV.dAug, PV.dAugI, PV.dFrz, PV.onOwn, PV.gN, PV.gT, PV.gC, PV.gNs, PV.dVar, PV.vVar, PV.dC, PV.dOp, PV.fOp, PV.dNeg, PV.dNot, PV.dAnd, PV.dOr, PV.dIfE, PV.dNil, PV.dCons, PV.dTup, PV.fLst, PV.dLst, PV.dCall, PV.fCall, PV.dTest, PV.tst, PV.dTru, PV.tru, PV.dAndT, PV.dOrT, PV.dNotT, PV.dYes, PV.dChain, PV.dIsi, PV.isi, PV.tyn, PV.dPart, PV.dNoPart, PV.fSl, PV.lItems, PV.iOf, PV.dItems, PV.iBy, PV.sItems, PV.dwipe, PV.bMax2, PV.bMin2, PV.bAbs, PV.bInt, PV.bLen, PV.bTup, PV.bList, PV.dAdd, PV.dSub, PV.dLt, PV.dLe, PV.dGt, PV.dGe, PV.dIsN, PV.dNotN, PV.isNon_non, PV.isNon_int, PV.fAdd, PV.dIx_l, PV.dIx_t, PV.dIx_f, PV.at0, PV.at1, PV.at2, PV.at3, PV.at4, Option.bind_some, Option.map_some, Option.bind_none, Option.map_none, List.getElem?_cons_zero, List.getElem?_cons_succ, List.set_cons_zero, List.set_cons_succ, if_true, if_false, PV.kit_ii, PV.kit_ti, PV.kit_tt, PV.kit_ib, PV.kit_it, PV.kit_ll, PV.kit_li, Bool.not_true, Bool.not_false, Bool.false_eq_true, Bool.not_eq_true, reduceIte, List.length_cons, List.length_nil, Nat.reduceAdd, Nat.zero_add, PV.most_0, PV.most_1, PV.most_2, PV.most_3, PV.most_4, PV.most_5, PV.most_6, PV.most_7, decide_true, decide_false, List.nil_append, List.cons_append]
        · have c5 : (l.panes.length : Int) = 1 := by omega
          rw [decide_eq_false c4] at e4
          rw [decide_eq_true c5] at e5
          simp only [pn, lp, m1, a1, v1, v2, v3, v4, wy, d4, e4, e5, v5, v6, mv, PV.fin, PV.dSeq, PV.dIf, PV.dAsg, PV.dAsgO, PV.dRet, PV.dRetN, PV.dNext, PV.dBreak, PV.dCont, PV.dDrop, PV.dApp, PV.dExt, PV.dSetI, PV.dPop, PV.dAug, PV.dAugI, PV.dFrz, PV.onOwn, PV.gN, PV.gT, PV.gC, PV.gNs, PV.dVar, PV.vVar, PV.dC, PV.dOp, PV.fOp, PV.dNeg, PV.dNot, PV.dAnd, PV.dOr, PV.dIfE, PV.dNil, PV.dCons, PV.dTup, PV.fLst, PV.dLst, PV.dCall, PV.fCall, PV.dTest, PV.tst, PV.dTru, PV.tru, PV.dAndT, PV.dOrT, PV.dNotT, PV.dYes, PV.dChain, PV.dIsi, PV.isi, PV.tyn, PV.dPart, PV.dNoPart, PV.fSl, PV.lItems, PV.iOf, PV.dItems, PV.iBy, PV.sItems, PV.dwipe, PV.bMax2, PV.bMin2, PV.bAbs, PV.bInt, PV.bLen, PV.bTup, PV.bList, PV.dAdd, PV.dSub, PV.dLt, PV.dLe, PV.dGt, PV.dGe, PV.dIsN, PV.dNotN, PV.isNon_non, PV.isNon_int, PV.fAdd, PV.dIx_l, PV.dIx_t, PV.dIx_f, PV.at0, PV.at1, PV.at2, PV.at3, PV.at4, Option.bind_some, Option.map_some, Option.bind_none, Option.map_none, List.getElem?_cons_zero, List.getElem?_cons_succ, List.set_cons_zero, List.set_cons_succ, if_true, if_false, PV.kit_ii, PV.kit_ti, PV.kit_tt, PV.kit_ib, PV.kit_it, PV.kit_ll, PV.kit_li, Bool.not_true, Bool.not_false, Bool.false_eq_true, Bool.not_eq_true, reduceIte, List.length_cons, List.length_nil, Nat.reduceAdd, Nat.zero_add, PV.most_0, PV.most_1, PV.most_2, PV.most_3, PV.most_4, PV.most_5, PV.most_6, PV.most_7, decide_true, decide_false, List.nil_append, List.cons_append]
      · rw [moved_panes st (by omega) hw hh] at hx
        have := rg x hx; omega
    · have wo := without_ok st al (by omega) nd hw hh p
      have ep := without_panes st (by omega) nd hw hh (p := p) (fun z => k5 (.inr (by rw [z]; rfl)))
      refine ⟨l.without w h p, l.panes.filter fun x => decide (x ≠ p), ?_, by rw [ep], (without_stg st (by omega) nd hw hh p).up, by rw [ep]; exact nd.filter _, fun x hx => ?_, without_alt al⟩
      · have e4 : PV.dEq (.int (c / 22 % 6)) (.int 4) = some (.bl (decide (c / 22 % 6 = 4))) := PV.dEq_int
        have e5 : PV.dEq (.int (l.panes.length : Int)) (.int 1) = some (.bl (decide ((l.panes.length : Int) = 1))) := PV.dEq_int
        rw [decide_eq_false (fun z => k5 (.inl z))] at e4
        rw [decide_eq_false (fun z => k5 (.inr (by omega)))] at e5
        have sc := step_c1 (x0 := some (.dat l.d)) (x1 := some (.dat (.int w))) (x2 := some (.dat (.int h))) (x3 := some (.dat (.int c))) (x4 := some (.dat (.int (m + 1)))) (x7 := some (.dat (.str (nm b)))) (x8 := some (.dat (.int (c / 22 % 6)))) (x9 := none) (ns := l.panes) (p := p) (by omega)
        simp only [pn, lp, m1, a1, v1, v2, v3, v4, wy, d4, e4, e5, wo, e_law_step_c1_is, sc, PV.fin, PV.dSeq, PV.dIf, PV.dAsg, PV.dAsgO, PV.dRet, PV.dRetN, PV.dNext, PV.dBreak, PV.dCont, PV.dDrop, PV.dApp, PV.dExt, PV.dSetI, PV.dPop, PV.dAug, PV.dAugI, PV.dFrz, PV.onOwn, PV.gN, PV.gT, PV.gC, PV.gNs, PV.dVar, PV.vVar, PV.dC, PV.dOp, PV.fOp, PV.dNeg, PV.dNot, PV.dAnd, PV.dOr, PV.dIfE, PV.dNil, PV.dCons, PV.dTup, PV.fLst, PV.dLst, PV.dCall, PV.fCall, PV.dTest, PV.tst, PV.dTru, PV.tru, PV.dAndT, PV.dOrT, PV.dNotT, PV.dYes, PV.dChain, PV.dIsi, PV.isi, PV.tyn, PV.dPart, PV.dNoPart, PV.fSl, PV.lItems, PV.iOf, PV.dItems, PV.iBy, PV.sItems, PV.dwipe, PV.bMax2, PV.bMin2, PV.bAbs, PV.bInt, PV.bLen, PV.bTup, PV.bList, PV.dAdd, PV.dSub, PV.dLt, PV.dLe, PV.dGt, PV.dGe, PV.dIsN, PV.dNotN, PV.isNon_non, PV.isNon_int, PV.fAdd, PV.dIx_l, PV.dIx_t, PV.dIx_f, PV.at0, PV.at1, PV.at2, PV.at3, PV.at4, Option.bind_some, Option.map_some, Option.bind_none, Option.map_none, List.getElem?_cons_zero, List.getElem?_cons_succ, List.set_cons_zero, List.set_cons_succ, if_true, if_false, PV.kit_ii, PV.kit_ti, PV.kit_tt, PV.kit_ib, PV.kit_it, PV.kit_ll, PV.kit_li, Bool.not_true, Bool.not_false, Bool.false_eq_true, Bool.not_eq_true, reduceIte, List.length_cons, List.length_nil, Nat.reduceAdd, Nat.zero_add, PV.most_0, PV.most_1, PV.most_2, PV.most_3, PV.most_4, PV.most_5, PV.most_6, PV.most_7, decide_true, decide_false, List.nil_append, List.cons_append]
      · rw [ep] at hx
        have := rg x (List.mem_filter.mp hx).1; omega

/-! ## the sheet of a layout -/
theorem paint_is {bs : List Box} {g : Int → Int → Int} {W H : Int} (t : Tld bs g 0 0 W H) {r c : Int} (r0 : 0 ≤ r) (r1 : r < H) (c0 : 0 ≤ c) (c1 : c < W) : paint bs r c = g r c := by
  unfold paint
  cases hf : bs.find? (fun x => decide (x.has r c)) with
  | some x =>
    have hx := List.mem_of_find?_eq_some hf
    have hp : x.has r c := by simpa using List.find?_some hf
    have := t.p x hx r c hp
    rw [Int.sub_zero, Int.sub_zero] at this
    exact this.symm
  | none =>
    show 0 = g r c
    by_cases z : g r c = 0
    · exact z.symm
    · obtain ⟨x, hx, hp⟩ := t.o r c r0 (by omega) c0 (by omega) (by rw [Int.sub_zero, Int.sub_zero]; exact z)
      have := List.find?_eq_none.mp hf x hx
      simp [hp] at this
theorem sheet_same {g g' : Int → Int → Int} {W H : Nat} (h : ∀ r c : Int, 0 ≤ r → r < H → 0 ≤ c → c < W → g r c = g' r c) : sheetD g W H = sheetD g' W H := by
  unfold sheetD
  apply List.map_congr_left
  intro r hr
  have hr' := List.mem_range.mp hr
  congr 1
  unfold rowD
  apply List.map_congr_left
  intro c hc
  have hc' := List.mem_range.mp hc
  rw [h r c (by omega) (by omega) (by omega) (by omega)]
theorem lie_of {bs : List Box} {g : Int → Int → Int} {W H : Nat} (t : Tld bs g 0 0 W H) (nd : (bs.map Box.p).Nodup) (hW : W ≤ PV.most) (hH : H ≤ PV.most) : Lie bs W H := by
  refine ⟨fun x hx => by have := t.i x hx; omega, ?_, hW, hH⟩
  rw [List.pairwise_iff_getElem]
  intro i j hi hj hij
  have mi : bs[i] ∈ bs := List.getElem_mem hi
  have mj : bs[j] ∈ bs := List.getElem_mem hj
  have ii := t.i _ mi
  have ij := t.i _ mj
  refine Sep.of (by omega) (by omega) fun r c ⟨h1, h2⟩ => ?_
  have e1 := t.p _ mi r c h1
  have e2 := t.p _ mj r c h2
  have e : bs[i].p = bs[j].p := e1.symm.trans e2
  have : (bs.map Box.p)[i]'(by simpa using hi) = (bs.map Box.p)[j]'(by simpa using hj) := by simpa using e
  have := (List.getElem_inj nd).mp this
  omega
/-- what the law looks at, for a layout at a size -/
structure Seen (l : Lay) (w h : Int) (W H : Nat) : Prop where
  ew : l.W w = (W : Int)
  eh : l.H h = (H : Int)
  s : ∃ g : Int → Int → Int, f_law_sheet [.lst ((l.allBoxes w h).map Box.d), .int (W : Nat), .int (H : Nat)] = some (.lst (sheetD g W H)) ∧ f_law_borders_right [.lst (sheetD g W H), .int (W : Nat), .int (H : Nat)] = some (.bl true)
  p : (l.allBoxes w h).map Box.p = l.panes
  b : ∀ x ∈ l.allBoxes w h, x.w.natAbs < 2 ^ 64 ∧ x.h.natAbs < 2 ^ 64
  sz : W ≤ 1000000 ∧ H ≤ 1000000
  o : (l.allBoxes w h).length = 1 → ((l.allBoxes w h).map fun x => x.w * x.h).sum = (W : Int) * (H : Int)
theorem one_box {bs : List Box} {g : Int → Int → Int} {W H : Int} (t : Tld bs g 0 0 W H) (n : Nice g W H) (h : bs.length = 1) : (bs.map fun x => x.w * x.h).sum = W * H := by
  obtain ⟨x, rfl⟩ := List.length_eq_one_iff.mp h
  have w1 := n.w1
  have h1 := n.h1
  have i := t.i x (List.mem_singleton.mpr rfl)
  obtain ⟨y, my, hy⟩ := t.o 0 0 (Int.le_refl _) (by omega) (Int.le_refl _) (by omega) (by rw [Int.sub_zero]; exact n.c1)
  obtain ⟨z, mz, hz⟩ := t.o (H - 1) (W - 1) (by omega) (by omega) (by omega) (by omega) (by rw [Int.sub_zero, Int.sub_zero]; exact n.c4)
  obtain rfl := List.mem_singleton.mp my
  obtain rfl := List.mem_singleton.mp mz
  unfold Box.has at hy hz
  have e1 : z.w = W := by omega
  have e2 : z.h = H := by omega
  simp [e1, e2]
theorem seen {k : Nat} {l : Lay} {m : Int} (v : Inv25 k m l) (hk : k ≤ 15) {w h : Int} (hw : w ≤ 1000) (hh : h ≤ 1000) : ∃ W H, Seen l w h W H := by
  have hm : PV.most = 1000000 := rfl
  have p2 := two_pow hk
  have gp := v.g.2
  have gl := v.g.1.least
  have ex := v.g.fitEx w h
  have fp : (l.fit w h).panes = l.panes := fit_panes v.g.1 w h
  have pz : ∀ p ∈ (l.fit w h).panes, p ≠ 0 := fun p m => by
    rw [fp] at m
    have := v.r p m; omega
  have eW : l.W w = ((l.W w).toNat : Int) := by unfold Lay.W; omega
  have eH : l.H h = ((l.H h).toNat : Int) := by unfold Lay.H; omega
  have hW : (l.W w).toNat ≤ PV.most := by unfold Lay.W; omega
  have hH : (l.H h).toNat ≤ PV.most := by unfold Lay.H; omega
  have t := ex_tld ex pz 0 0
  have bp : (l.allBoxes w h).map Box.p = l.panes := (ex.boxP 0 0 _ _).trans fp
  have nc := ex_nice ex pz
  unfold Lay.allBoxes at bp
  refine ⟨(l.W w).toNat, (l.H h).toNat, eW, eH, ⟨(l.fit w h).cell, ?_, ?_⟩, bp, fun x hx => ?_, by omega, fun h1 => ?_⟩
  · unfold Lay.allBoxes
    generalize hb : (l.fit w h).boxes 0 0 (l.W w) (l.H h) = bs at t bp
    rw [eW, eH] at t
    rw [sheet_is (lie_of t (by rw [bp]; exact v.n) hW hH)]
    congr 2
    exact sheet_same fun r c r0 r1 c0 c1 => paint_is t r0 r1 c0 c1
  · rw [eW, eH] at nc
    exact borders_are nc hW hH
  · have := t.i x hx
    omega
  · rw [← eW, ← eH]
    exact one_box t nc h1

/-! ## a turn of the law -/
/-- what follows the choice of a size -/
def e_rest : PV.DS → Option PV.Out := PV.dSeq (PV.dAsg (PV.dOp PV.dAdd (PV.vVar 4) (PV.dC (.int 1))) (PV.gN 4)) (
  PV.dSeq (PV.dAsg (PV.dCall f_law_step (PV.dCons (PV.dVar 3) (PV.dCons (PV.dVar 1) (PV.dCons (PV.dVar 2) (PV.dCons (PV.dCall PV.bInt (PV.dCons (PV.vVar 5) (PV.dNil))) (PV.dCons (PV.dVar 4) (PV.dNil))))))) (PV.gT 2 (PV.gC (PV.gN 3) (PV.gC (PV.gN 6) (PV.gNs))))) (
  PV.dSeq (PV.dIf (PV.dTest (PV.dOp PV.dNe (PV.dLst (PV.fCall PV.bSorted (PV.dCons (PV.dCall (f_panes 24) (PV.dCons (PV.dVar 3) (PV.dNil))) (PV.dNil)))) (PV.dLst (PV.fCall PV.bSorted (PV.dCons (PV.vVar 6) (PV.dNil)))))) (PV.dRet (PV.dC (.bl false))) (PV.dNext)) (
  PV.dSeq (PV.dAsg (PV.dCall f_boxes (PV.dCons (PV.dVar 3) (PV.dCons (PV.dVar 1) (PV.dCons (PV.dVar 2) (PV.dNil))))) (PV.gN 7)) (
  PV.dSeq (PV.dAsg (PV.dCall (f_least 24) (PV.dCons (PV.dVar 3) (PV.dNil))) (PV.gN 8)) (
  PV.dSeq (PV.dAsg (PV.dCall f_law_sheet (PV.dCons (PV.dVar 7) (PV.dCons (PV.dCall PV.bMax2 (PV.dCons (PV.vVar 1) (PV.dCons (PV.dOp PV.dIx (PV.vVar 8) (PV.dC (.int 0))) (PV.dNil)))) (PV.dCons (PV.dCall PV.bMax2 (PV.dCons (PV.vVar 2) (PV.dCons (PV.dOp PV.dIx (PV.vVar 8) (PV.dC (.int 1))) (PV.dNil)))) (PV.dNil))))) (PV.gN 9)) (
  PV.dSeq (PV.dIf (PV.dOrT (PV.dTest (PV.dOp PV.dIsN (PV.vVar 9) (PV.dC .non))) (PV.dTest (PV.dOp PV.dNe (PV.dLst (e_law_c1)) (PV.dCall (f_panes 24) (PV.dCons (PV.dVar 3) (PV.dNil)))))) (PV.dRet (PV.dC (.bl false))) (PV.dNext)) (
  PV.dSeq (PV.dIf (PV.dNotT (PV.dTru (PV.dCall f_law_borders_right (PV.dCons (PV.dVar 9) (PV.dCons (PV.dCall PV.bMax2 (PV.dCons (PV.vVar 1) (PV.dCons (PV.dOp PV.dIx (PV.vVar 8) (PV.dC (.int 0))) (PV.dNil)))) (PV.dCons (PV.dCall PV.bMax2 (PV.dCons (PV.vVar 2) (PV.dCons (PV.dOp PV.dIx (PV.vVar 8) (PV.dC (.int 1))) (PV.dNil)))) (PV.dNil))))))) (PV.dRet (PV.dC (.bl false))) (PV.dNext)) (
  PV.dSeq (PV.dAsg (PV.dCall PV.bSum (PV.dCons (PV.dLst (e_law_c2)) (PV.dNil))) (PV.gN 10)) (
  PV.dIf (PV.dAndT (PV.dTest (PV.dOp PV.dEq (PV.dCall PV.bLen (PV.dCons (PV.vVar 7) (PV.dNil))) (PV.dC (.int 1)))) (PV.dTest (PV.dOp PV.dNe (PV.vVar 10) (PV.dOp PV.dMul (PV.dCall PV.bMax2 (PV.dCons (PV.vVar 1) (PV.dCons (PV.dOp PV.dIx (PV.vVar 8) (PV.dC (.int 0))) (PV.dNil)))) (PV.dCall PV.bMax2 (PV.dCons (PV.vVar 2) (PV.dCons (PV.dOp PV.dIx (PV.vVar 8) (PV.dC (.int 1))) (PV.dNil)))))))) (PV.dRet (PV.dC (.bl false))) (PV.dNext))))))))))
def e_size : PV.DS → Option PV.Out := (PV.dIf (PV.dTest (PV.dOp PV.dEq (PV.dOp PV.dMod (PV.dOp PV.dDiv (PV.dCall PV.bInt (PV.dCons (PV.vVar 5) (PV.dNil))) (PV.dC (.int 5412))) (PV.dC (.int 5))) (PV.dC (.int 1)))) (PV.dSeq (PV.dAsg (PV.dOp PV.dAdd (PV.dC (.int 2)) (PV.dOp PV.dMod (PV.dOp PV.dDiv (PV.dCall PV.bInt (PV.dCons (PV.vVar 5) (PV.dNil))) (PV.dC (.int 27060))) (PV.dC (.int 39)))) (PV.gN 1)) (
  PV.dAsg (PV.dOp PV.dAdd (PV.dC (.int 1)) (PV.dOp PV.dMod (PV.dOp PV.dDiv (PV.dCall PV.bInt (PV.dCons (PV.vVar 5) (PV.dNil))) (PV.dC (.int 1055340))) (PV.dC (.int 20)))) (PV.gN 2))) (PV.dNext))
theorem b3_is : e_law_b3 = PV.dSeq e_size e_rest := rfl
def Srt (ns : List Int) : List Int := ns.mergeSort (fun a b => decide (a ≤ b))
theorem sorted_is (ns : List Int) : PV.bSorted [.lst (ns.map .int)] = some ((Srt ns).map .int) := by
  unfold PV.bSorted Srt
  dsimp only
  rw [PV.ints_map]
  rfl
theorem srt_same {as bs : List Int} (h : as.Perm bs) : Srt as = Srt bs := by
  refine PV.sort_one (((List.mergeSort_perm as _).trans h)) ?_
  have s := List.pairwise_mergeSort (le := fun a b : Int => decide (a ≤ b)) (fun a b c h1 h2 => by simp only [decide_eq_true_eq] at *; omega) (fun a b => by simp only [Bool.or_eq_true, decide_eq_true_eq]; omega) as
  exact s.imp fun h => by simpa using h
theorem law_s1 {bs : List Box} (hl : bs.length ≤ 1000000) (x0 x1 x2 x3 x4 x5 x6 x7 x8 x9 x10 x11 : Option PV.DV) :
    PV.dComp (e_law_s1 [x0, x1, x2, x3, x4, x5, x6, x7, x8, x9, x10, x11]) (bs.map Box.d) [] = some ((bs.map Box.p).map PV.D.int) := by
  rw [PV.dComp_map (f := fun d => match d with | .tup [.int p, _, _, _, _] => .int p | _ => .non) _ _ (fun d hd => ?_) (by unfold PV.most; simp; omega)]
  · rw [List.map_map, List.map_map]; rfl
  · obtain ⟨x, hx, rfl⟩ := List.mem_map.mp hd
    simp only [e_law_s1, PV.cStep, Box.d, PV.fin, PV.dSeq, PV.dIf, PV.dAsg, PV.dAsgO, PV.dRet, PV.dRetN, PV.dNext, PV.dBreak, PV.dCont, PV.dDrop, PV.dApp, PV.dExt, PV.dSetI, PV.dPop, PV.dAug, PV.dAugI, PV.dFrz, PV.onOwn, PV.gN, PV.gT, PV.gC, PV.gNs, PV.dVar, PV.vVar, PV.dC, PV.dOp, PV.fOp, PV.dNeg, PV.dNot, PV.dAnd, PV.dOr, PV.dIfE, PV.dNil, PV.dCons, PV.dTup, PV.fLst, PV.dLst, PV.dCall, PV.fCall, PV.dTest, PV.tst, PV.dTru, PV.tru, PV.dAndT, PV.dOrT, PV.dNotT, PV.dYes, PV.dChain, PV.dIsi, PV.isi, PV.tyn, PV.dPart, PV.dNoPart, PV.fSl, PV.lItems, PV.iOf, PV.dItems, PV.iBy, PV.sItems, PV.dwipe, PV.bMax2, PV.bMin2, PV.bAbs, PV.bInt, PV.bLen, PV.bTup, PV.bList, PV.dAdd, PV.dSub, PV.dLt, PV.dLe, PV.dGt, PV.dGe, PV.dIsN, PV.dNotN, PV.isNon_non, PV.isNon_int, PV.fAdd, PV.dIx_l, PV.dIx_t, PV.dIx_f, PV.at0, PV.at1, PV.at2, PV.at3, PV.at4, Option.bind_some, Option.map_some, Option.bind_none, Option.map_none, List.getElem?_cons_zero, List.getElem?_cons_succ, List.set_cons_zero, List.set_cons_succ, if_true, if_false, PV.kit_ii, PV.kit_ti, PV.kit_tt, PV.kit_ib, PV.kit_it, PV.kit_ll, PV.kit_li, Bool.not_true, Bool.not_false, Bool.false_eq_true, Bool.not_eq_true, reduceIte, List.length_cons, List.length_nil, Nat.reduceAdd, Nat.zero_add, PV.most_0, PV.most_1, PV.most_2, PV.most_3, PV.most_4, PV.most_5, PV.most_6, PV.most_7, decide_true, decide_false, List.nil_append, List.cons_append]
    all_goals rfl
theorem law_s2 {bs : List Box} (hl : bs.length ≤ 1000000) (hb : ∀ x ∈ bs, x.w.natAbs < 2 ^ 64 ∧ x.h.natAbs < 2 ^ 64) (x0 x1 x2 x3 x4 x5 x6 x7 x8 x9 x10 x11 : Option PV.DV) :
    PV.dComp (e_law_s2 [x0, x1, x2, x3, x4, x5, x6, x7, x8, x9, x10, x11]) (bs.map Box.d) [] = some ((bs.map fun x => x.w * x.h).map PV.D.int) := by
  rw [PV.dComp_map (f := fun d => match d with | .tup [_, _, _, .int w, .int h] => .int (w * h) | _ => .non) _ _ (fun d hd => ?_) (by unfold PV.most; simp; omega)]
  · rw [List.map_map, List.map_map]; rfl
  · obtain ⟨x, hx, rfl⟩ := List.mem_map.mp hd
    have e := PV.dMul_ok (hb x hx).1 (hb x hx).2
    simp only [e_law_s2, PV.cStep, Box.d, e, PV.fin, PV.dSeq, PV.dIf, PV.dAsg, PV.dAsgO, PV.dRet, PV.dRetN, PV.dNext, PV.dBreak, PV.dCont, PV.dDrop, PV.dApp, PV.dExt, PV.dSetI, PV.dPop, PV.dAug, PV.dAugI, PV.dFrz, PV.onOwn, PV.gN, PV.gT, PV.gC, PV.gNs, PV.dVar, PV.vVar, PV.dC, PV.dOp, PV.fOp, PV.dNeg, PV.dNot, PV.dAnd, PV.dOr, PV.dIfE, PV.dNil, PV.dCons, PV.dTup, PV.fLst, PV.dLst, PV.dCall, PV.fCall, PV.dTest, PV.tst, PV.dTru, PV.tru, PV.dAndT, PV.dOrT, PV.dNotT, PV.dYes, PV.dChain, PV.dIsi, PV.isi, PV.tyn, PV.dPart, PV.dNoPart, PV.fSl, PV.lItems, PV.iOf, PV.dItems, PV.iBy, PV.sItems, PV.dwipe, PV.bMax2, PV.bMin2, PV.bAbs, PV.bInt, PV.bLen, PV.bTup, PV.bList, PV.dAdd, PV.dSub, PV.dLt, PV.dLe, PV.dGt, PV.dGe, PV.dIsN, PV.dNotN, PV.isNon_non, PV.isNon_int, PV.fAdd, PV.dIx_l, PV.dIx_t, PV.dIx_f, PV.at0, PV.at1, PV.at2, PV.at3, PV.at4, Option.bind_some, Option.map_some, Option.bind_none, Option.map_none, List.getElem?_cons_zero, List.getElem?_cons_succ, List.set_cons_zero, List.set_cons_succ, if_true, if_false, PV.kit_ii, PV.kit_ti, PV.kit_tt, PV.kit_ib, PV.kit_it, PV.kit_ll, PV.kit_li, Bool.not_true, Bool.not_false, Bool.false_eq_true, Bool.not_eq_true, reduceIte, List.length_cons, List.length_nil, Nat.reduceAdd, Nat.zero_add, PV.most_0, PV.most_1, PV.most_2, PV.most_3, PV.most_4, PV.most_5, PV.most_6, PV.most_7, decide_true, decide_false, List.nil_append, List.cons_append]
    all_goals rfl
theorem law_size {x0 x3 x4 x6 x7 x8 x9 x10 x11 : Option PV.DV} {w h : Int} (hw : w ≤ 100) (hh : h ≤ 100) (c : Int) :
    ∃ w' h', w' ≤ 100 ∧ h' ≤ 100 ∧ e_size [x0, some (.dat (.int w)), some (.dat (.int h)), x3, x4, some (.dat (.int c)), x6, x7, x8, x9, x10, x11] =
      some (.nx [x0, some (.dat (.int w')), some (.dat (.int h')), x3, x4, some (.dat (.int c)), x6, x7, x8, x9, x10, x11]) := by
  have v1 : PV.dDiv (.int c) (.int 5412) = some (.int (c / 5412)) := PV.dDiv_ok (by decide) (by decide)
  have v2 : PV.dMod (.int (c / 5412)) (.int 5) = some (.int (c / 5412 % 5)) := PV.dMod_ok (by decide)
  have v3 : PV.dDiv (.int c) (.int 27060) = some (.int (c / 27060)) := PV.dDiv_ok (by decide) (by decide)
  have v4 : PV.dMod (.int (c / 27060)) (.int 39) = some (.int (c / 27060 % 39)) := PV.dMod_ok (by decide)
  have v5 : PV.dDiv (.int c) (.int 1055340) = some (.int (c / 1055340)) := PV.dDiv_ok (by decide) (by decide)
  have v6 : PV.dMod (.int (c / 1055340)) (.int 20) = some (.int (c / 1055340 % 20)) := PV.dMod_ok (by decide)
  have b1 := Int.emod_lt_of_pos (c / 27060) (show (0 : Int) < 39 by decide)
  have b2 := Int.emod_lt_of_pos (c / 1055340) (show (0 : Int) < 20 by decide)
  have e := PV.dEq_int (i := c / 5412 % 5) (j := 1)
  by_cases k : c / 5412 % 5 = 1
  · rw [decide_eq_true k] at e
    refine ⟨2 + c / 27060 % 39, 1 + c / 1055340 % 20, by omega, by omega, ?_⟩
    simp only [e_size, v1, v2, e, v3, v4, v5, v6, PV.fin, PV.dSeq, PV.dIf, PV.dAsg, PV.dAsgO, PV.dRet, PV.dRetN, PV.dNext, PV.dBreak, PV.dCont, PV.dDrop, PV.dApp, PV.dExt, PV.dSetI, PV.dPop, PV.dAug, PV.dAugI, PV.dFrz, PV.onOwn, PV.gN, PV.gT, PV.gC, PV.gNs, PV.dVar, PV.vVar, PV.dC, PV.dOp, PV.fOp, PV.dNeg, PV.dNot, PV.dAnd, PV.dOr, PV.dIfE, PV.dNil, PV.dCons, PV.dTup, PV.fLst, PV.dLst, PV.dCall, PV.fCall, PV.dTest, PV.tst, PV.dTru, PV.tru, PV.dAndT, PV.dOrT, PV.dNotT, PV.dYes, PV.dChain, PV.dIsi, PV.isi, PV.tyn, PV.dPart, PV.dNoPart, PV.fSl, PV.lItems, PV.iOf, PV.dItems, PV.iBy, PV.sItems, PV.dwipe, PV.bMax2, PV.bMin2, PV.bAbs, PV.bInt, PV.bLen, PV.bTup, PV.bList, PV.dAdd, PV.dSub, PV.dLt, PV.dLe, PV.dGt, PV.dGe, PV.dIsN, PV.dNotN, PV.isNon_non, PV.isNon_int, PV.fAdd, PV.dIx_l, PV.dIx_t, PV.dIx_f, PV.at0, PV.at1, PV.at2, PV.at3, PV.at4, Option.bind_some, Option.map_some, Option.bind_none, Option.map_none, List.getElem?_cons_zero, List.getElem?_cons_succ, List.set_cons_zero, List.set_cons_succ, if_true, if_false, PV.kit_ii, PV.kit_ti, PV.kit_tt, PV.kit_ib, PV.kit_it, PV.kit_ll, PV.kit_li, Bool.not_true, Bool.not_false, Bool.false_eq_true, Bool.not_eq_true, reduceIte, List.length_cons, List.length_nil, Nat.reduceAdd, Nat.zero_add, PV.most_0, PV.most_1, PV.most_2, PV.most_3, PV.most_4, PV.most_5, PV.most_6, PV.most_7, decide_true, decide_false, List.nil_append, List.cons_append]
  · rw [decide_eq_false k] at e
    refine ⟨w, h, hw, hh, ?_⟩
    simp only [e_size, v1, v2, e, PV.fin, PV.dSeq, PV.dIf, PV.dAsg, PV.dAsgO, PV.dRet, PV.dRetN, PV.dNext, PV.dBreak, PV.dCont, PV.dDrop, PV.dApp, PV.dExt, PV.dSetI, PV.dPop, PV.dAug, PV.dAugI, PV.dFrz, PV.onOwn, PV.gN, PV.gT, PV.gC, PV.gNs, PV.dVar, PV.vVar, PV.dC, PV.dOp, PV.fOp, PV.dNeg, PV.dNot, PV.dAnd, PV.dOr, PV.dIfE, PV.dNil, PV.dCons, PV.dTup, PV.fLst, PV.dLst, PV.dCall, PV.fCall, PV.dTest, PV.tst, PV.dTru, PV.tru, PV.dAndT, PV.dOrT, PV.dNotT, PV.dYes, PV.dChain, PV.dIsi, PV.isi, PV.tyn, PV.dPart, PV.dNoPart, PV.fSl, PV.lItems, PV.iOf, PV.dItems, PV.iBy, PV.sItems, PV.dwipe, PV.bMax2, PV.bMin2, PV.bAbs, PV.bInt, PV.bLen, PV.bTup, PV.bList, PV.dAdd, PV.dSub, PV.dLt, PV.dLe, PV.dGt, PV.dGe, PV.dIsN, PV.dNotN, PV.isNon_non, PV.isNon_int, PV.fAdd, PV.dIx_l, PV.dIx_t, PV.dIx_f, PV.at0, PV.at1, PV.at2, PV.at3, PV.at4, Option.bind_some, Option.map_some, Option.bind_none, Option.map_none, List.getElem?_cons_zero, List.getElem?_cons_succ, List.set_cons_zero, List.set_cons_succ, if_true, if_false, PV.kit_ii, PV.kit_ti, PV.kit_tt, PV.kit_ib, PV.kit_it, PV.kit_ll, PV.kit_li, Bool.not_true, Bool.not_false, Bool.false_eq_true, Bool.not_eq_true, reduceIte, List.length_cons, List.length_nil, Nat.reduceAdd, Nat.zero_add, PV.most_0, PV.most_1, PV.most_2, PV.most_3, PV.most_4, PV.most_5, PV.most_6, PV.most_7, decide_true, decide_false, List.nil_append, List.cons_append]
theorem law_turn {x0 : Option PV.DV} {k : Nat} {l : Lay} {m : Int} (v : Inv25 k m l) (hk : k ≤ 14) (m0 : 1 ≤ m) (hm : m ≤ 100) {w h : Int} (hw : w ≤ 100) (hh : h ≤ 100) (c : Int) (x5 x6 x7 x8 x9 x10 x11 : Option PV.DV) :
    ∃ (l' : Lay) (w' h' : Int) (y5 y6 y7 y8 y9 y10 y11 : Option PV.DV), Inv25 (k + 1) (m + 1) l' ∧ w' ≤ 100 ∧ h' ≤ 100 ∧ e_law_t3 (.int c) [x0, some (.dat (.int w)), some (.dat (.int h)), some (.dat l.d), some (.dat (.int m)), x5, x6, x7, x8, x9, x10, x11] =
      some (.nx [x0, some (.dat (.int w')), some (.dat (.int h')), some (.dat l'.d), some (.dat (.int (m + 1))), y5, y6, y7, y8, y9, y10, y11]) := by
  obtain ⟨w', h', hw', hh', es⟩ := law_size (x0 := x0) (x3 := some (.dat l.d)) (x4 := some (.dat (.int m))) (x6 := x6) (x7 := x7) (x8 := x8) (x9 := x9) (x10 := x10) (x11 := x11) hw hh c
  obtain ⟨l', ks, st, pm, v'⟩ := step_ok v hk m0 hm (w := w') (h := h') (by omega) (by omega) c
  obtain ⟨W, H, s⟩ := seen v' (by omega) (w := w') (h := h') (by omega) (by omega)
  obtain ⟨g, sh, bo⟩ := s.s
  have p2 := two_pow (k := k + 1) (by omega)
  have gp := v'.g.2
  have gl := v'.g.1.least
  have pn := panes_ok (k + 1) v'.g.1 (by omega) 24 (by omega)
  have bx := boxes_ok v'.g.1 (by decide) (by omega) gp (by omega) (w := w') (h := h') (by omega) (by omega)
  have lo := least_ok (by omega) (k + 1) v'.g.1 24 (by omega)
  have ew : max w' l'.least.1 = (W : Int) := s.ew
  have eh : max h' l'.least.2 = (H : Int) := s.eh
  have bl : (l'.allBoxes w' h').length = l'.panes.length := by
    have := congrArg List.length s.p
    rwa [List.length_map] at this
  have bl2 : ((l'.allBoxes w' h').map Box.d).length = l'.panes.length := by rw [List.length_map, bl]
  have s1 := sorted_is l'.panes
  have s2 := sorted_is ks
  rw [srt_same pm] at s2
  have n1 := PV.dNe_refl (PV.fine_ints (Srt l'.panes))
  have c1 := law_s1 (bs := l'.allBoxes w' h') (by omega)
  rw [s.p] at c1
  have n2 := PV.dNe_refl (PV.fine_ints l'.panes)
  have c2 := law_s2 (bs := l'.allBoxes w' h') (by omega) s.b
  have su := PV.bSum_ints (ns := (l'.allBoxes w' h').map fun x => x.w * x.h)
  have sl := s.sz
  have mu : PV.dMul (.int (W : Nat)) (.int (H : Nat)) = some (.int ((W : Int) * (H : Int))) := PV.dMul_ok (by omega) (by omega)
  have e1 := PV.dEq_int (i := (l'.panes.length : Int)) (j := 1)
  show ∃ (l' : Lay) (w' h' : Int) (y5 y6 y7 y8 y9 y10 y11 : Option PV.DV), Inv25 (k + 1) (m + 1) l' ∧ w' ≤ 100 ∧ h' ≤ 100 ∧ e_law_b3 [x0, some (.dat (.int w)), some (.dat (.int h)), some (.dat l.d), some (.dat (.int m)), some (.dat (.int c)), x6, x7, x8, x9, x10, x11] = _
  rw [b3_is, dSeq_nx es]
  refine ⟨l', w', h', some (.dat (.int c)), some (.dat (.lst (ks.map .int))), some (.dat (.lst ((l'.allBoxes w' h').map Box.d))), some (.dat (.tup [.int l'.least.1, .int l'.least.2])), some (.dat (.lst (sheetD g W H))), some (.dat (.int ((l'.allBoxes w' h').map fun x => x.w * x.h).sum)), x11, v', hw', hh', ?_⟩
  by_cases one : l'.panes.length = 1
  · rw [decide_eq_true (by omega)] at e1
    have so := s.o (by omega)
    have n3 := PV.dNe_refl (PV.fine_int ((W : Int) * (H : Int)))
    rw [so] at su
    simp only [e_rest, st, pn, s1, s2, n1, bx, lo, ew, eh, sh, isNon_lst, e_law_c1_is, c1, n2, bo, e_law_c2_is, c2, su, so, bl2, e1, mu, n3, PV.fin, PV.dSeq, PV.dIf, PV.dAsg, PV.dAsgO, PV.dRet, PV.dRetN, PV.dNext, PV.dBreak, PV.dCont, PV.dDrop, PV.dApp, PV.dExt, PV.dSetI, PV.dPop, PV.dAug, PV.dAugI, PV.dFrz, PV.onOwn, PV.gN, PV.gT, PV.gC, PV.gNs, PV.dVar, PV.vVar, PV.dC, PV.dOp, PV.fOp, PV.dNeg, PV.dNot, PV.dAnd, PV.dOr, PV.dIfE, PV.dNil, PV.dCons, PV.dTup, PV.fLst, PV.dLst, PV.dCall, PV.fCall, PV.dTest, PV.tst, PV.dTru, PV.tru, PV.dAndT, PV.dOrT, PV.dNotT, PV.dYes, PV.dChain, PV.dIsi, PV.isi, PV.tyn, PV.dPart, PV.dNoPart, PV.fSl, PV.lItems, PV.iOf, PV.dItems, PV.iBy, PV.sItems, PV.dwipe, PV.bMax2, PV.bMin2, PV.bAbs, PV.bInt, PV.bLen, PV.bTup, PV.bList, PV.dAdd, PV.dSub, PV.dLt, PV.dLe, PV.dGt, PV.dGe, PV.dIsN, PV.dNotN, PV.isNon_non, PV.isNon_int, PV.fAdd, PV.dIx_l, PV.dIx_t, PV.dIx_f, PV.at0, PV.at1, PV.at2, PV.at3, PV.at4, Option.bind_some, Option.map_some, Option.bind_none, Option.map_none, List.getElem?_cons_zero, List.getElem?_cons_succ, List.set_cons_zero, List.set_cons_succ, if_true, if_false, PV.kit_ii, PV.kit_ti, PV.kit_tt, PV.kit_ib, PV.kit_it, PV.kit_ll, PV.kit_li, Bool.not_true, Bool.not_false, Bool.false_eq_true, Bool.not_eq_true, reduceIte, List.length_cons, List.length_nil, Nat.reduceAdd, Nat.zero_add, PV.most_0, PV.most_1, PV.most_2, PV.most_3, PV.most_4, PV.most_5, PV.most_6, PV.most_7, decide_true, decide_false, List.nil_append, List.cons_append]
  · rw [decide_eq_false (by omega)] at e1
    simp only [e_rest, st, pn, s1, s2, n1, bx, lo, ew, eh, sh, isNon_lst, e_law_c1_is, c1, n2, bo, e_law_c2_is, c2, su, bl2, e1, mu, PV.fin, PV.dSeq, PV.dIf, PV.dAsg, PV.dAsgO, PV.dRet, PV.dRetN, PV.dNext, PV.dBreak, PV.dCont, PV.dDrop, PV.dApp, PV.dExt, PV.dSetI, PV.dPop, PV.dAug, PV.dAugI, PV.dFrz, PV.onOwn, PV.gN, PV.gT, PV.gC, PV.gNs, PV.dVar, PV.vVar, PV.dC, PV.dOp, PV.fOp, PV.dNeg, PV.dNot, PV.dAnd, PV.dOr, PV.dIfE, PV.dNil, PV.dCons, PV.dTup, PV.fLst, PV.dLst, PV.dCall, PV.fCall, PV.dTest, PV.tst, PV.dTru, PV.tru, PV.dAndT, PV.dOrT, PV.dNotT, PV.dYes, PV.dChain, PV.dIsi, PV.isi, PV.tyn, PV.dPart, PV.dNoPart, PV.fSl, PV.lItems, PV.iOf, PV.dItems, PV.iBy, PV.sItems, PV.dwipe, PV.bMax2, PV.bMin2, PV.bAbs, PV.bInt, PV.bLen, PV.bTup, PV.bList, PV.dAdd, PV.dSub, PV.dLt, PV.dLe, PV.dGt, PV.dGe, PV.dIsN, PV.dNotN, PV.isNon_non, PV.isNon_int, PV.fAdd, PV.dIx_l, PV.dIx_t, PV.dIx_f, PV.at0, PV.at1, PV.at2, PV.at3, PV.at4, Option.bind_some, Option.map_some, Option.bind_none, Option.map_none, List.getElem?_cons_zero, List.getElem?_cons_succ, List.set_cons_zero, List.set_cons_succ, if_true, if_false, PV.kit_ii, PV.kit_ti, PV.kit_tt, PV.kit_ib, PV.kit_it, PV.kit_ll, PV.kit_li, Bool.not_true, Bool.not_false, Bool.false_eq_true, Bool.not_eq_true, reduceIte, List.length_cons, List.length_nil, Nat.reduceAdd, Nat.zero_add, PV.most_0, PV.most_1, PV.most_2, PV.most_3, PV.most_4, PV.most_5, PV.most_6, PV.most_7, decide_true, decide_false, List.nil_append, List.cons_append]

/-! ## the law, whole -/
theorem law_loop {x0 : Option PV.DV} : ∀ (cs : List Int) {k : Nat} {l : Lay} {m w h : Int}, k + cs.length ≤ 15 → m = 1 + (k : Int) → Inv25 k m l → w ≤ 100 → h ≤ 100 → ∀ (x5 x6 x7 x8 x9 x10 x11 : Option PV.DV),
    ∃ (k' : Nat) (l' : Lay) (m' w' h' : Int) (y5 y6 y7 y8 y9 y10 y11 : Option PV.DV), k' ≤ 15 ∧ Inv25 k' m' l' ∧ w' ≤ 100 ∧ h' ≤ 100 ∧
      PV.dLoop e_law_t3 (cs.map PV.D.int) [x0, some (.dat (.int w)), some (.dat (.int h)), some (.dat l.d), some (.dat (.int m)), x5, x6, x7, x8, x9, x10, x11] =
        some (.nx [x0, some (.dat (.int w')), some (.dat (.int h')), some (.dat l'.d), some (.dat (.int m')), y5, y6, y7, y8, y9, y10, y11]) := by
  intro cs
  induction cs with
  | nil => intro k l m w h hk hm v hw hh x5 x6 x7 x8 x9 x10 x11; exact ⟨k, l, m, w, h, x5, x6, x7, x8, x9, x10, x11, by simpa using hk, v, hw, hh, rfl⟩
  | cons c cs ih =>
    intro k l m w h hk hm v hw hh x5 x6 x7 x8 x9 x10 x11
    rw [List.length_cons] at hk
    obtain ⟨l', w', h', y5, y6, y7, y8, y9, y10, y11, v', hw', hh', e⟩ := law_turn (x0 := x0) v (by omega) (by omega) (by omega) hw hh c x5 x6 x7 x8 x9 x10 x11
    rw [List.map_cons, PV.dLoop_nx e]
    exact ih (by omega) (by omega) v' hw' hh' _ _ _ _ _ _ _
theorem inv_start : Inv25 0 1 (.pane 1) := by
  refine ⟨⟨.pane _, ?_⟩, ?_, ?_, ?_⟩
  · simp [Lay.panes]
  · simp [Lay.panes]
  · intro x hx
    have : x = 1 := by simpa [Lay.panes] using hx
    omega
  · simp [Lay.alt]
theorem law_true (ns : List Int) (hns : ns.length ≤ 63) : f_law [.fro (ns.map .int)] = some (.bl true) := by
  have c0 := law_cell_ok (ns := ns) (k := 0) (by decide)
  generalize ns.getD (0 : Int).toNat 0 = first at c0
  have m1 : PV.dMod (.int first) (.int 39) = some (.int (first % 39)) := PV.dMod_ok (by decide)
  have m2 : PV.dDiv (.int first) (.int 39) = some (.int (first / 39)) := PV.dDiv_ok (by decide) (by decide)
  have m3 : PV.dMod (.int (first / 39)) (.int 20) = some (.int (first / 39 % 20)) := PV.dMod_ok (by decide)
  have b1 := Int.emod_lt_of_pos first (show (0 : Int) < 39 by decide)
  have b2 := Int.emod_lt_of_pos (first / 39) (show (0 : Int) < 20 by decide)
  obtain ⟨cs, hcs, lcs⟩ := cut_ints ns 1 16
  have hcs' : PV.cut (ns.map PV.D.int) (some 1) (some 16) = cs.map .int := hcs
  obtain ⟨k, l, m, w, h, y5, y6, y7, y8, y9, y10, y11, hk, v, hw, hh, lp⟩ := law_loop (x0 := some (.dat (.fro (ns.map .int)))) cs (k := 0) (l := .pane 1) (m := 1) (w := 2 + first % 39) (h := 1 + first / 39 % 20) (by omega) (by omega) inv_start (by omega) (by omega) none none none none none none none
  have ld : (Lay.pane 1).d = .int 1 := rfl
  rw [ld] at lp
  have p2 := two_pow hk
  have gp := v.g.2
  have pf := fitted_ok (by decide) (by omega) k v.g.1 (by omega) (by omega) 24 (by omega) w h (by omega) (by omega)
  have sg := fit_stg v.g.1 (Nat.le_refl _) gp hk (w := w) (h := h) (by omega) (by omega)
  have pf2 := fitted_ok (by decide) (by omega) k sg.1 (by have := sg.2; omega) (by omega) 24 (by omega) w h (by omega) (by omega)
  rw [fit_fit v.g.1 w h] at pf2
  have eq := PV.dEq_refl (sg.1.fine (by omega))
  rw [run_law]
  unfold e_law
  simp only [c0, m1, m2, m3, e_law_l3_is, hcs', lp, pf, pf2, eq, PV.fin, PV.dSeq, PV.dIf, PV.dAsg, PV.dAsgO, PV.dRet, PV.dRetN, PV.dNext, PV.dBreak, PV.dCont, PV.dDrop, PV.dApp, PV.dExt, PV.dSetI, PV.dPop, PV.dAug, PV.dAugI, PV.dFrz, PV.onOwn, PV.gN, PV.gT, PV.gC, PV.gNs, PV.dVar, PV.vVar, PV.dC, PV.dOp, PV.fOp, PV.dNeg, PV.dNot, PV.dAnd, PV.dOr, PV.dIfE, PV.dNil, PV.dCons, PV.dTup, PV.fLst, PV.dLst, PV.dCall, PV.fCall, PV.dTest, PV.tst, PV.dTru, PV.tru, PV.dAndT, PV.dOrT, PV.dNotT, PV.dYes, PV.dChain, PV.dIsi, PV.isi, PV.tyn, PV.dPart, PV.dNoPart, PV.fSl, PV.lItems, PV.iOf, PV.dItems, PV.iBy, PV.sItems, PV.dwipe, PV.bMax2, PV.bMin2, PV.bAbs, PV.bInt, PV.bLen, PV.bTup, PV.bList, PV.dAdd, PV.dSub, PV.dLt, PV.dLe, PV.dGt, PV.dGe, PV.dIsN, PV.dNotN, PV.isNon_non, PV.isNon_int, PV.fAdd, PV.dIx_l, PV.dIx_t, PV.dIx_f, PV.at0, PV.at1, PV.at2, PV.at3, PV.at4, Option.bind_some, Option.map_some, Option.bind_none, Option.map_none, List.getElem?_cons_zero, List.getElem?_cons_succ, List.set_cons_zero, List.set_cons_succ, if_true, if_false, PV.kit_ii, PV.kit_ti, PV.kit_tt, PV.kit_ib, PV.kit_it, PV.kit_ll, PV.kit_li, Bool.not_true, Bool.not_false, Bool.false_eq_true, Bool.not_eq_true, reduceIte, List.length_cons, List.length_nil, Nat.reduceAdd, Nat.zero_add, PV.most_0, PV.most_1, PV.most_2, PV.most_3, PV.most_4, PV.most_5, PV.most_6, PV.most_7, decide_true, decide_false, List.nil_append, List.cons_append]

def top (i : Nat) : Stmt := PySem.Challenge.pw_manypanes_k25_whole_layouts_tile_the_are.main.body.getD i (.Pass ⟨0, 0, 0, 0⟩)
abbrev s_least : Stmt := top 9
abbrev s_share : Stmt := top 10
abbrev s_law_cell : Stmt := top 30
abbrev s_law_row : Stmt := top 31
abbrev s_panes : Stmt := top 16
abbrev s_along : Stmt := top 17
abbrev s_least_along : Stmt := top 18
abbrev s_enough : Stmt := top 19
abbrev s_size_of_part : Stmt := top 20
abbrev s_fitted : Stmt := top 11
abbrev s_placed_parts : Stmt := top 22
abbrev s_boxes_at : Stmt := top 23
abbrev s_boxes : Stmt := top 12
abbrev s_size_of_pane : Stmt := top 21
abbrev s_replaced : Stmt := top 24
abbrev s_divided : Stmt := top 13
abbrev s_kept_parts : Stmt := top 26
abbrev s_removed : Stmt := top 25
abbrev s_without : Stmt := top 14
abbrev s_path_to_border : Stmt := top 27
abbrev s_shifted : Stmt := top 28
abbrev s_moved : Stmt := top 15
abbrev s_law_borders_right : Stmt := top 35
abbrev s_law_sheet : Stmt := top 34
abbrev s_law_step : Stmt := top 33
abbrev s_law : Stmt := top 36
def d_least : He.DefD := ⟨("least", none), "least", "least", defArgs s_least, defBody s_least, defScope s_least, [], []⟩
def d_share : He.DefD := ⟨("share", none), "share", "share", defArgs s_share, defBody s_share, defScope s_share, [], []⟩
def d_law_cell : He.DefD := ⟨("_law_cell", none), "_law_cell", "_law_cell", defArgs s_law_cell, defBody s_law_cell, defScope s_law_cell, [], []⟩
def d_law_row : He.DefD := ⟨("_law_row", none), "_law_row", "_law_row", defArgs s_law_row, defBody s_law_row, defScope s_law_row, [], []⟩
def d_panes : He.DefD := ⟨("panes", none), "panes", "panes", defArgs s_panes, defBody s_panes, defScope s_panes, [], []⟩
def d_along : He.DefD := ⟨("along", none), "along", "along", defArgs s_along, defBody s_along, defScope s_along, [], []⟩
def d_least_along : He.DefD := ⟨("least_along", none), "least_along", "least_along", defArgs s_least_along, defBody s_least_along, defScope s_least_along, [], []⟩
def d_enough : He.DefD := ⟨("enough", none), "enough", "enough", defArgs s_enough, defBody s_enough, defScope s_enough, [], []⟩
def d_size_of_part : He.DefD := ⟨("size_of_part", none), "size_of_part", "size_of_part", defArgs s_size_of_part, defBody s_size_of_part, defScope s_size_of_part, [], []⟩
def d_fitted : He.DefD := ⟨("fitted", none), "fitted", "fitted", defArgs s_fitted, defBody s_fitted, defScope s_fitted, [], []⟩
def d_placed_parts : He.DefD := ⟨("placed_parts", none), "placed_parts", "placed_parts", defArgs s_placed_parts, defBody s_placed_parts, defScope s_placed_parts, [], []⟩
def d_boxes_at : He.DefD := ⟨("boxes_at", none), "boxes_at", "boxes_at", defArgs s_boxes_at, defBody s_boxes_at, defScope s_boxes_at, [], []⟩
def d_boxes : He.DefD := ⟨("boxes", none), "boxes", "boxes", defArgs s_boxes, defBody s_boxes, defScope s_boxes, [], []⟩
def d_size_of_pane : He.DefD := ⟨("size_of_pane", none), "size_of_pane", "size_of_pane", defArgs s_size_of_pane, defBody s_size_of_pane, defScope s_size_of_pane, [], []⟩
def d_replaced : He.DefD := ⟨("replaced", none), "replaced", "replaced", defArgs s_replaced, defBody s_replaced, defScope s_replaced, [], []⟩
def d_divided : He.DefD := ⟨("divided", none), "divided", "divided", defArgs s_divided, defBody s_divided, defScope s_divided, [], []⟩
def d_kept_parts : He.DefD := ⟨("kept_parts", none), "kept_parts", "kept_parts", defArgs s_kept_parts, defBody s_kept_parts, defScope s_kept_parts, [], []⟩
def d_removed : He.DefD := ⟨("removed", none), "removed", "removed", defArgs s_removed, defBody s_removed, defScope s_removed, [], []⟩
def d_without : He.DefD := ⟨("without", none), "without", "without", defArgs s_without, defBody s_without, defScope s_without, [], []⟩
def d_path_to_border : He.DefD := ⟨("path_to_border", none), "path_to_border", "path_to_border", defArgs s_path_to_border, defBody s_path_to_border, defScope s_path_to_border, [], []⟩
def d_shifted : He.DefD := ⟨("shifted", none), "shifted", "shifted", defArgs s_shifted, defBody s_shifted, defScope s_shifted, [], []⟩
def d_moved : He.DefD := ⟨("moved", none), "moved", "moved", defArgs s_moved, defBody s_moved, defScope s_moved, [], []⟩
def d_law_borders_right : He.DefD := ⟨("_law_borders_right", none), "_law_borders_right", "_law_borders_right", defArgs s_law_borders_right, defBody s_law_borders_right, defScope s_law_borders_right, [], []⟩
def d_law_sheet : He.DefD := ⟨("_law_sheet", none), "_law_sheet", "_law_sheet", defArgs s_law_sheet, defBody s_law_sheet, defScope s_law_sheet, [], []⟩
def d_law_step : He.DefD := ⟨("_law_step", none), "_law_step", "_law_step", defArgs s_law_step, defBody s_law_step, defScope s_law_step, [], []⟩
def d_law : He.DefD := ⟨("law", none), "law", "law", defArgs s_law, defBody s_law, defScope s_law, [], []⟩
def fa : List He.Fa := [.free "int", .free "isinstance", .int "LEAST_HEIGHT" (1), .int "LEAST_WIDTH" (2), .free "len", .str "BESIDE" "beside", .free "max", .free "sum", .free "zip", .free "enumerate", .free "abs", .free "range", .free "tuple", .int "LEAST_HEIGHT_DIVIDED" (3), .int "LEAST_WIDTH_DIVIDED" (5), .glo "NoRoom", .exc "NoRoom", .free "list", .free "min", .free "sorted", .glo "least", .glo "share", .glo "_law_cell", .glo "_law_row", .glo "panes", .glo "along", .glo "least_along", .glo "enough", .glo "size_of_part", .glo "fitted", .glo "placed_parts", .glo "boxes_at", .glo "boxes", .glo "size_of_pane", .glo "replaced", .glo "divided", .glo "kept_parts", .glo "removed", .glo "without", .glo "path_to_border", .glo "shifted", .glo "moved", .glo "_law_borders_right", .glo "_law_sheet", .glo "_law_step", .glo "law"]
def fn : List He.DefD := [d_least, d_share, d_law_cell, d_law_row, d_panes, d_along, d_least_along, d_enough, d_size_of_part, d_fitted, d_placed_parts, d_boxes_at, d_boxes, d_size_of_pane, d_replaced, d_divided, d_kept_parts, d_removed, d_without, d_path_to_border, d_shifted, d_moved, d_law_borders_right, d_law_sheet, d_law_step, d_law]
def ex (K : PySem.W.Frag) : Bool := decide (PySem.W.exmOne K (.ref (He.ga K "NoRoom")) (.ref (He.ga K "NoRoom")) = some true)
def loose0 : List PySem.Str := ["PaneError", "NoRoom", "BESIDE", "LEAST_WIDTH", "LEAST_HEIGHT", "LEAST_WIDTH_DIVIDED", "LEAST_HEIGHT_DIVIDED", "least", "share", "fitted", "boxes", "divided", "without", "moved", "panes", "along", "least_along", "enough", "size_of_part", "size_of_pane", "placed_parts", "boxes_at", "replaced", "removed", "kept_parts", "path_to_border", "shifted", "_law_cell", "_law_row", "_law_integer"]
def loose1 : List PySem.Str := ["_law_step", "_law_sheet", "_law_borders_right"]
def loose : List PySem.Str := loose0 ++ loose1
abbrev Rw : PySem.W.OpenRow := PySem.W.OpenLaw.row PySem.Challenge.rw_manypanes_k25_whole_layouts_tile_the_are
abbrev hk : PySem.W.Hook := PB.hookP 6 fa fn ex
def ob (s : PySem.W.SharedT) : PB.AlP := PB.obsP 6 fa fn ex (HandSHeadRun.getT s)
theorem ob_is (s : PySem.W.SharedT) : ob s = hk.obs s.abs := PB.obsP_eq (HandSHeadRun.getT_eq s)
theorem runs (w : World) : HandSHeadRun.RunEq Rw (PySem.W.view Rw.prog [36]) hk ob 6000 loose w := by
  intro os
  kernel_rfl
structure Tx (K : PySem.W.Frag) (mg : Str → Option Value) : Prop where
  c : He.SaysD fa fn K
  x : ex K = true
  n : ∃ h : Heap, K.In h ∧ h.Ns mainGlobals mg
section
variable {P : Program} {w : World} {K : PySem.W.Frag} {mg : Str → Option Value} {base : Heap}
theorem Tx.free_int (T : Tx K mg) : mg "int" = none := by obtain ⟨h, X, G⟩ := T.n; exact He.free_ok X G (T.c.fact 0 (f := .free "int") rfl)
theorem Tx.free_isinstance (T : Tx K mg) : mg "isinstance" = none := by obtain ⟨h, X, G⟩ := T.n; exact He.free_ok X G (T.c.fact 1 (f := .free "isinstance") rfl)
theorem Tx.int_LEAST_HEIGHT (T : Tx K mg) : ∃ t, mg "LEAST_HEIGHT" = some (.int (1) t) := by obtain ⟨h, X, G⟩ := T.n; exact He.int_ok X G (T.c.fact 2 (f := .int "LEAST_HEIGHT" (1)) rfl)
theorem Tx.int_LEAST_WIDTH (T : Tx K mg) : ∃ t, mg "LEAST_WIDTH" = some (.int (2) t) := by obtain ⟨h, X, G⟩ := T.n; exact He.int_ok X G (T.c.fact 3 (f := .int "LEAST_WIDTH" (2)) rfl)
theorem Tx.free_len (T : Tx K mg) : mg "len" = none := by obtain ⟨h, X, G⟩ := T.n; exact He.free_ok X G (T.c.fact 4 (f := .free "len") rfl)
theorem Tx.str_BESIDE (T : Tx K mg) : ∃ t, mg "BESIDE" = some (.str "beside" t) := by obtain ⟨h, X, G⟩ := T.n; exact He.str_ok X G (T.c.fact 5 (f := .str "BESIDE" "beside") rfl)
theorem Tx.free_max (T : Tx K mg) : mg "max" = none := by obtain ⟨h, X, G⟩ := T.n; exact He.free_ok X G (T.c.fact 6 (f := .free "max") rfl)
theorem Tx.free_sum (T : Tx K mg) : mg "sum" = none := by obtain ⟨h, X, G⟩ := T.n; exact He.free_ok X G (T.c.fact 7 (f := .free "sum") rfl)
theorem Tx.free_zip (T : Tx K mg) : mg "zip" = none := by obtain ⟨h, X, G⟩ := T.n; exact He.free_ok X G (T.c.fact 8 (f := .free "zip") rfl)
theorem Tx.free_enumerate (T : Tx K mg) : mg "enumerate" = none := by obtain ⟨h, X, G⟩ := T.n; exact He.free_ok X G (T.c.fact 9 (f := .free "enumerate") rfl)
theorem Tx.free_abs (T : Tx K mg) : mg "abs" = none := by obtain ⟨h, X, G⟩ := T.n; exact He.free_ok X G (T.c.fact 10 (f := .free "abs") rfl)
theorem Tx.free_range (T : Tx K mg) : mg "range" = none := by obtain ⟨h, X, G⟩ := T.n; exact He.free_ok X G (T.c.fact 11 (f := .free "range") rfl)
theorem Tx.free_tuple (T : Tx K mg) : mg "tuple" = none := by obtain ⟨h, X, G⟩ := T.n; exact He.free_ok X G (T.c.fact 12 (f := .free "tuple") rfl)
theorem Tx.int_LEAST_HEIGHT_DIVIDED (T : Tx K mg) : ∃ t, mg "LEAST_HEIGHT_DIVIDED" = some (.int (3) t) := by obtain ⟨h, X, G⟩ := T.n; exact He.int_ok X G (T.c.fact 13 (f := .int "LEAST_HEIGHT_DIVIDED" (3)) rfl)
theorem Tx.int_LEAST_WIDTH_DIVIDED (T : Tx K mg) : ∃ t, mg "LEAST_WIDTH_DIVIDED" = some (.int (5) t) := by obtain ⟨h, X, G⟩ := T.n; exact He.int_ok X G (T.c.fact 14 (f := .int "LEAST_WIDTH_DIVIDED" (5)) rfl)
theorem Tx.glo_NoRoom (T : Tx K mg) : mg "NoRoom" = some (.ref (He.ga K "NoRoom")) := by obtain ⟨h, X, G⟩ := T.n; exact He.glo_ok X G (T.c.fact 15 (f := .glo "NoRoom") rfl)
theorem Tx.exc_NoRoom (T : Tx K mg) : (He.Fa.exc "NoRoom").ok K = true := (T.c.fact 16 (f := .exc "NoRoom") rfl)
theorem Tx.free_list (T : Tx K mg) : mg "list" = none := by obtain ⟨h, X, G⟩ := T.n; exact He.free_ok X G (T.c.fact 17 (f := .free "list") rfl)
theorem Tx.free_min (T : Tx K mg) : mg "min" = none := by obtain ⟨h, X, G⟩ := T.n; exact He.free_ok X G (T.c.fact 18 (f := .free "min") rfl)
theorem Tx.free_sorted (T : Tx K mg) : mg "sorted" = none := by obtain ⟨h, X, G⟩ := T.n; exact He.free_ok X G (T.c.fact 19 (f := .free "sorted") rfl)
theorem Tx.glo_least (T : Tx K mg) : mg "least" = some (.ref (He.ga K "least")) := by obtain ⟨h, X, G⟩ := T.n; exact He.glo_ok X G (T.c.fact 20 (f := .glo "least") rfl)
theorem Tx.glo_share (T : Tx K mg) : mg "share" = some (.ref (He.ga K "share")) := by obtain ⟨h, X, G⟩ := T.n; exact He.glo_ok X G (T.c.fact 21 (f := .glo "share") rfl)
theorem Tx.glo__law_cell (T : Tx K mg) : mg "_law_cell" = some (.ref (He.ga K "_law_cell")) := by obtain ⟨h, X, G⟩ := T.n; exact He.glo_ok X G (T.c.fact 22 (f := .glo "_law_cell") rfl)
theorem Tx.glo__law_row (T : Tx K mg) : mg "_law_row" = some (.ref (He.ga K "_law_row")) := by obtain ⟨h, X, G⟩ := T.n; exact He.glo_ok X G (T.c.fact 23 (f := .glo "_law_row") rfl)
theorem Tx.glo_panes (T : Tx K mg) : mg "panes" = some (.ref (He.ga K "panes")) := by obtain ⟨h, X, G⟩ := T.n; exact He.glo_ok X G (T.c.fact 24 (f := .glo "panes") rfl)
theorem Tx.glo_along (T : Tx K mg) : mg "along" = some (.ref (He.ga K "along")) := by obtain ⟨h, X, G⟩ := T.n; exact He.glo_ok X G (T.c.fact 25 (f := .glo "along") rfl)
theorem Tx.glo_least_along (T : Tx K mg) : mg "least_along" = some (.ref (He.ga K "least_along")) := by obtain ⟨h, X, G⟩ := T.n; exact He.glo_ok X G (T.c.fact 26 (f := .glo "least_along") rfl)
theorem Tx.glo_enough (T : Tx K mg) : mg "enough" = some (.ref (He.ga K "enough")) := by obtain ⟨h, X, G⟩ := T.n; exact He.glo_ok X G (T.c.fact 27 (f := .glo "enough") rfl)
theorem Tx.glo_size_of_part (T : Tx K mg) : mg "size_of_part" = some (.ref (He.ga K "size_of_part")) := by obtain ⟨h, X, G⟩ := T.n; exact He.glo_ok X G (T.c.fact 28 (f := .glo "size_of_part") rfl)
theorem Tx.glo_fitted (T : Tx K mg) : mg "fitted" = some (.ref (He.ga K "fitted")) := by obtain ⟨h, X, G⟩ := T.n; exact He.glo_ok X G (T.c.fact 29 (f := .glo "fitted") rfl)
theorem Tx.glo_placed_parts (T : Tx K mg) : mg "placed_parts" = some (.ref (He.ga K "placed_parts")) := by obtain ⟨h, X, G⟩ := T.n; exact He.glo_ok X G (T.c.fact 30 (f := .glo "placed_parts") rfl)
theorem Tx.glo_boxes_at (T : Tx K mg) : mg "boxes_at" = some (.ref (He.ga K "boxes_at")) := by obtain ⟨h, X, G⟩ := T.n; exact He.glo_ok X G (T.c.fact 31 (f := .glo "boxes_at") rfl)
theorem Tx.glo_boxes (T : Tx K mg) : mg "boxes" = some (.ref (He.ga K "boxes")) := by obtain ⟨h, X, G⟩ := T.n; exact He.glo_ok X G (T.c.fact 32 (f := .glo "boxes") rfl)
theorem Tx.glo_size_of_pane (T : Tx K mg) : mg "size_of_pane" = some (.ref (He.ga K "size_of_pane")) := by obtain ⟨h, X, G⟩ := T.n; exact He.glo_ok X G (T.c.fact 33 (f := .glo "size_of_pane") rfl)
theorem Tx.glo_replaced (T : Tx K mg) : mg "replaced" = some (.ref (He.ga K "replaced")) := by obtain ⟨h, X, G⟩ := T.n; exact He.glo_ok X G (T.c.fact 34 (f := .glo "replaced") rfl)
theorem Tx.glo_divided (T : Tx K mg) : mg "divided" = some (.ref (He.ga K "divided")) := by obtain ⟨h, X, G⟩ := T.n; exact He.glo_ok X G (T.c.fact 35 (f := .glo "divided") rfl)
theorem Tx.glo_kept_parts (T : Tx K mg) : mg "kept_parts" = some (.ref (He.ga K "kept_parts")) := by obtain ⟨h, X, G⟩ := T.n; exact He.glo_ok X G (T.c.fact 36 (f := .glo "kept_parts") rfl)
theorem Tx.glo_removed (T : Tx K mg) : mg "removed" = some (.ref (He.ga K "removed")) := by obtain ⟨h, X, G⟩ := T.n; exact He.glo_ok X G (T.c.fact 37 (f := .glo "removed") rfl)
theorem Tx.glo_without (T : Tx K mg) : mg "without" = some (.ref (He.ga K "without")) := by obtain ⟨h, X, G⟩ := T.n; exact He.glo_ok X G (T.c.fact 38 (f := .glo "without") rfl)
theorem Tx.glo_path_to_border (T : Tx K mg) : mg "path_to_border" = some (.ref (He.ga K "path_to_border")) := by obtain ⟨h, X, G⟩ := T.n; exact He.glo_ok X G (T.c.fact 39 (f := .glo "path_to_border") rfl)
theorem Tx.glo_shifted (T : Tx K mg) : mg "shifted" = some (.ref (He.ga K "shifted")) := by obtain ⟨h, X, G⟩ := T.n; exact He.glo_ok X G (T.c.fact 40 (f := .glo "shifted") rfl)
theorem Tx.glo_moved (T : Tx K mg) : mg "moved" = some (.ref (He.ga K "moved")) := by obtain ⟨h, X, G⟩ := T.n; exact He.glo_ok X G (T.c.fact 41 (f := .glo "moved") rfl)
theorem Tx.glo__law_borders_right (T : Tx K mg) : mg "_law_borders_right" = some (.ref (He.ga K "_law_borders_right")) := by obtain ⟨h, X, G⟩ := T.n; exact He.glo_ok X G (T.c.fact 42 (f := .glo "_law_borders_right") rfl)
theorem Tx.glo__law_sheet (T : Tx K mg) : mg "_law_sheet" = some (.ref (He.ga K "_law_sheet")) := by obtain ⟨h, X, G⟩ := T.n; exact He.glo_ok X G (T.c.fact 43 (f := .glo "_law_sheet") rfl)
theorem Tx.glo__law_step (T : Tx K mg) : mg "_law_step" = some (.ref (He.ga K "_law_step")) := by obtain ⟨h, X, G⟩ := T.n; exact He.glo_ok X G (T.c.fact 44 (f := .glo "_law_step") rfl)
theorem Tx.glo_law (T : Tx K mg) : mg "law" = some (.ref (He.ga K "law")) := by obtain ⟨h, X, G⟩ := T.n; exact He.glo_ok X G (T.c.fact 45 (f := .glo "law") rfl)
theorem Tx.ex_exm_NoRoom (T : Tx K mg) : PySem.W.exmOne K (.ref (He.ga K "NoRoom")) (.ref (He.ga K "NoRoom")) = some true := of_decide_eq_true T.x
theorem sc_least : FnScope N_least ["layout"] (defScope s_least) := ⟨rfl, rfl, rfl, by decide +kernel, rfl, by decide +kernel, by decide +kernel⟩
theorem b_least (T : Tx K mg) (n : Nat) (ih : C8.Cal P w K mg base (0 + n) "least" (sp_least K n) []) : PB.Body P w K mg base (0 + n) N_least "least" s_least (t_least K n) := by
  intro f cdv A outer s H E hr
  exact C8.pss_cut (ps_if (PB.pt_tru (pe_callB call_isi rfl T.free_isinstance (by decide +kernel) (pa_cons (PB.pe_v 0) (pa_cons (pe_bltn rfl T.free_int (by decide +kernel) rfl) (pa_nil))))) (pss_one (ps_ret (pe_tup (pa_cons (PB.pe_gint rfl T.int_LEAST_WIDTH) (pa_cons (PB.pe_gint rfl T.int_LEAST_HEIGHT) (pa_nil)))))) (pss_nil)) (
  pss_cons (ps_asg (PB.pe_v 0) (pg_tup (by rfl) (pgs_cons (pg_name (i := 1) sc_least.nd rfl (Or.inl rfl)) (pgs_cons (pg_name (i := 2) sc_least.nd rfl (Or.inl rfl)) (pgs_nil))))) (
  pss_cons (ps_set (i := 3) sc_least.nd rfl (Or.inl rfl) (pe_lst (pa_nil))) (
  pss_cons (ps_set (i := 4) sc_least.nd rfl (Or.inl rfl) (pe_lst (pa_nil))) (
  pss_cons (ps_for PassesOwn.never rfl (PV.pi_sq (PB.pe_v 2)) (pg_tup (by rfl) (pgs_cons (pg_name (i := 5) sc_least.nd rfl (Or.inl rfl)) (pgs_cons (pg_name (i := 6) sc_least.nd rfl (Or.inl rfl)) (pgs_nil)))) (pss_cons (ps_asg (PB.pe_mc ih hr (by omega) rfl (pa_cons (PB.pe_v 5) (pa_nil))) (pg_tup (by rfl) (pgs_cons (pg_name (i := 7) sc_least.nd rfl (Or.inl rfl)) (pgs_cons (pg_name (i := 8) sc_least.nd rfl (Or.inl rfl)) (pgs_nil))))) (
  pss_cons (ps_expr (PB.pe_mlm PySem.F.slot_list_append PySem.F.type_list_append PB.mt_mAppend (PB.pe_v 3) (pa_cons (PB.pe_v 7) (pa_nil)))) (
  pss_one (ps_expr (PB.pe_mlm PySem.F.slot_list_append PySem.F.type_list_append PB.mt_mAppend (PB.pe_v 4) (pa_cons (PB.pe_v 8) (pa_nil)))))))) (
  pss_cons (ps_set (i := 9) sc_least.nd rfl (Or.inl rfl) (pe_op PB.op_mSub (pe_callB PB.call_mLen rfl T.free_len (by decide +kernel) (pa_cons (PB.pe_v 2) (pa_nil))) (pe_int))) (
  C8.pss_cut (ps_if (PB.pt_m (PB.op_mEq (PB.hu64 hr)) (PB.pe_v 1) (PV.pe_gstr rfl T.str_BESIDE) (nomark _)) (pss_one (ps_ret (pe_tup (pa_cons (pe_op PB.op_mAdd (pe_callB (cr_sum rfl) rfl T.free_sum (by decide +kernel) (pa_cons (PB.pe_v 3) (pa_nil))) (PB.pe_v 9)) (pa_cons (pe_callB (cr_max rfl) rfl T.free_max (by decide +kernel) (pa_cons (PB.pe_v 4) (pa_nil))) (pa_nil)))))) (pss_nil)) (
  pss_one (ps_ret (pe_tup (pa_cons (pe_callB (cr_max rfl) rfl T.free_max (by decide +kernel) (pa_cons (PB.pe_v 3) (pa_nil))) (pa_cons (pe_op PB.op_mAdd (pe_callB (cr_sum rfl) rfl T.free_sum (by decide +kernel) (pa_cons (PB.pe_v 4) (pa_nil))) (PB.pe_v 9)) (pa_nil))))))))))))
theorem Tx.ok_least (T : Tx K mg) (n : Nat) : C8.Cal P w K mg base (0 + n) "least" (sp_least K n) [] := PV.cal_rec (st := s_least) (sp := sp_least K) (t := t_least K) (T.c.def_ 0 (d := d_least) rfl) T.glo_least sc_least (fun _ _ _ _ ⟨_, _, _, _, _, e, _⟩ => by cases e) len_least (fun _ _ _ _ _ _ us hl => match us, hl with | [_], _ => rfl) (b_least T) (pure_least K) n
theorem sc_share : FnScope N_share ["total", "smallest", "sizes"] (defScope s_share) := ⟨rfl, rfl, rfl, by decide +kernel, rfl, by decide +kernel, by decide +kernel⟩
theorem b_share (T : Tx K mg) : PB.Body P w K mg base 0 N_share "share" s_share (t_share K) := by
  intro f cdv A outer s H E hr
  exact pss_cons (ps_set (i := 3) sc_share.nd rfl (Or.inl rfl) (pe_op PB.op_mSub (pe_callB PB.call_mLen rfl T.free_len (by decide +kernel) (pa_cons (PB.pe_v 1) (pa_nil))) (pe_int))) (
  pss_cons (ps_set (i := 4) sc_share.nd rfl (Or.inr rfl) (pe_callB (PB.call_mMax2 rfl) rfl T.free_max (by decide +kernel) (pa_cons (pe_int) (pa_cons (pe_op PB.op_mSub (pe_op PB.op_mSub (PB.pe_v 0) (PB.pe_v 3)) (pe_callB (cr_sum rfl) rfl T.free_sum (by decide +kernel) (pa_cons (PB.pe_v 1) (pa_nil)))) (pa_nil))))) (
  pss_cons (ps_setLc (i := 5) (own := [("low", 11), ("size", 12)]) rfl sc_share.nd rfl rfl (sw_true rfl rfl rfl (by decide +kernel)) (PV.pi_zp rfl T.free_zip (pa_cons (PB.pe_v 1) (pa_cons (PB.pe_v 2) (pa_nil)))) (blkOk_by (own := [("low", 11), ("size", 12)]) (N := N_share) (sc := defScope s_share) (by decide +kernel)) (fun _ _ _ _ _ => pg_tup (by rfl) (pgs_cons (pg_name (i := 11) sc_share.nd rfl (Or.inl rfl)) (pgs_cons (pg_name (i := 12) sc_share.nd rfl (Or.inl rfl)) (pgs_nil)))) (fun _ _ _ _ _ => pts_nil) (fun _ _ _ _ _ => pe_callB (PB.call_mMax2 rfl) rfl T.free_max (by decide +kernel) (pa_cons (pe_int) (pa_cons (pe_op PB.op_mSub (PB.pe_v 12) (PB.pe_v 11)) (pa_nil))))) (
  C8.pss_cut (ps_if (PB.pt_m (PB.op_mEq (PB.hu64 hr)) (pe_callB (cr_sum rfl) rfl T.free_sum (by decide +kernel) (pa_cons (PB.pe_v 5) (pa_nil))) (pe_int) (nomark _)) (pss_one (ps_setLc (i := 5) (own := [("_", 13)]) rfl sc_share.nd rfl rfl (sw_true rfl rfl rfl (by decide +kernel)) (PV.pi_sq (PB.pe_v 5)) (blkOk_by (own := [("_", 13)]) (N := N_share) (sc := defScope s_share) (by decide +kernel)) (fun _ _ _ _ _ => pg_name (i := 13) sc_share.nd rfl (Or.inl rfl)) (fun _ _ _ _ _ => pts_nil) (fun _ _ _ _ _ => pe_int))) (pss_nil)) (
  pss_cons (ps_set (i := 6) sc_share.nd rfl (Or.inr rfl) (pe_callB (cr_sum rfl) rfl T.free_sum (by decide +kernel) (pa_cons (PB.pe_v 5) (pa_nil)))) (
  pss_cons (ps_setLc (i := 7) (own := [("low", 11), ("extra", 10)]) rfl sc_share.nd rfl rfl (sw_true rfl rfl rfl (by decide +kernel)) (PV.pi_zp rfl T.free_zip (pa_cons (PB.pe_v 1) (pa_cons (PB.pe_v 5) (pa_nil)))) (blkOk_by (own := [("low", 11), ("extra", 10)]) (N := N_share) (sc := defScope s_share) (by decide +kernel)) (fun _ _ _ _ _ => pg_tup (by rfl) (pgs_cons (pg_name (i := 11) sc_share.nd rfl (Or.inl rfl)) (pgs_cons (pg_name (i := 10) sc_share.nd rfl (Or.inl rfl)) (pgs_nil)))) (fun _ _ _ _ _ => pts_nil) (fun _ _ _ _ _ => pe_op PB.op_mAdd (PB.pe_v 11) (pe_op PB.op_mDiv (pe_op PB.op_mMul (PB.pe_v 4) (PB.pe_v 10)) (PB.pe_v 6)))) (
  pss_cons (ps_set (i := 8) sc_share.nd rfl (Or.inl rfl) (pe_op PB.op_mSub (pe_op PB.op_mAdd (PB.pe_v 4) (pe_callB (cr_sum rfl) rfl T.free_sum (by decide +kernel) (pa_cons (PB.pe_v 1) (pa_nil)))) (pe_callB (cr_sum rfl) rfl T.free_sum (by decide +kernel) (pa_cons (PB.pe_v 7) (pa_nil))))) (
  pss_cons (ps_for PassesOwn.never rfl (PV.pi_en rfl T.free_enumerate (pa_cons (PB.pe_v 5) (pa_nil))) (pg_tup (by rfl) (pgs_cons (pg_name (i := 9) sc_share.nd rfl (Or.inl rfl)) (pgs_cons (pg_name (i := 10) sc_share.nd rfl (Or.inl rfl)) (pgs_nil)))) (pss_one (ps_if (PW.pt (pw_and (PB.pt_m PB.op_mGt (PB.pe_v 10) (pe_int) (nomark _)) (pw_and1 (PB.pt_m PB.op_mGt (PB.pe_v 8) (pe_int) (nomark _))))) (pss_cons (ps_augS (PB.pe_v 7) (PB.pe_v 9) PV.get_l (pe_int) ip_add PB.set_m) (
  pss_one (PB.ps_maug (i := 8) sc_share.nd rfl (Or.inl rfl) (pe_int) ip_sub))) (pss_nil)))) (
  pss_one (ps_ret (PB.pe_v 7))))))))))
theorem Tx.ok_share (T : Tx K mg) : C8.Cal P w K mg base 1 "share" (sp_share K) [] := PB.cal_ok (st := s_share) (T.c.def_ 1 (d := d_share) rfl) T.glo_share sc_share len_share (fun _ _ _ _ _ _ us hl => match us, hl with | [_, _, _], _ => rfl) (b_share T) (pure_share K)
theorem sc_law_cell : FnScope N_law_cell ["script", "k"] (defScope s_law_cell) := ⟨rfl, rfl, rfl, by decide +kernel, rfl, by decide +kernel, by decide +kernel⟩
theorem b_law_cell (T : Tx K mg) : PB.Body P w K mg base 0 N_law_cell "_law_cell" s_law_cell (t_law_cell K) := by
  intro f cdv A outer s H E hr
  exact C8.pss_cut (ps_if (PB.pt_m PB.op_mLt (PB.pe_v 1) (pe_callB PB.call_mLen rfl T.free_len (by decide +kernel) (pa_cons (PB.pe_v 0) (pa_nil))) (nomark _)) (pss_one (ps_ret (pe_callTy PB.call_mInt rfl T.free_int (by decide +kernel) (pa_cons (pe_ix PB.ix_m (PB.pe_v 0) (PB.pe_v 1) (fun _ _ => rfl)) (pa_nil))))) (pss_nil)) (
  pss_one (ps_ret (pe_int)))
theorem Tx.ok_law_cell (T : Tx K mg) : C8.Cal P w K mg base 1 "_law_cell" (sp_law_cell K) [] := PB.cal_ok (st := s_law_cell) (T.c.def_ 2 (d := d_law_cell) rfl) T.glo__law_cell sc_law_cell len_law_cell (fun _ _ _ _ _ _ us hl => match us, hl with | [_, _], _ => rfl) (b_law_cell T) (pure_law_cell K)
theorem sc_law_row : FnScope N_law_row ["cell", "count", "bound"] (defScope s_law_row) := ⟨rfl, rfl, rfl, by decide +kernel, rfl, by decide +kernel, by decide +kernel⟩
theorem b_law_row (T : Tx K mg) : PB.Body P w K mg base 0 N_law_row "_law_row" s_law_row (t_law_row K) := by
  intro f cdv A outer s H E hr
  exact pss_cons (ps_set (i := 3) sc_law_row.nd rfl (Or.inl rfl) (pe_callB PB.call_mAbs rfl T.free_abs (by decide +kernel) (pa_cons (pe_callTy PB.call_mInt rfl T.free_int (by decide +kernel) (pa_cons (PB.pe_v 0) (pa_nil))) (pa_nil)))) (
  pss_cons (ps_set (i := 4) sc_law_row.nd rfl (Or.inl rfl) (pe_op PB.op_mAdd (pe_op PB.op_mMod (pe_callTy PB.call_mInt rfl T.free_int (by decide +kernel) (pa_cons (PB.pe_v 0) (pa_nil))) (pe_int)) (pe_int))) (
  pss_cons (ps_set (i := 5) sc_law_row.nd rfl (Or.inl rfl) (pe_lst (pa_nil))) (
  pss_cons (ps_for PassesOwn.never rfl (pi_range1 rfl T.free_range (pa_cons (PB.pe_v 1) (pa_nil))) (pg_name (i := 6) sc_law_row.nd rfl (Or.inl rfl)) (pss_one (ps_if (PB.pt_m PB.op_mGe (PB.pe_v 3) (PB.pe_v 2) (nomark _)) (pss_cons (ps_expr (PB.pe_mlm PySem.F.slot_list_append PySem.F.type_list_append PB.mt_mAppend (PB.pe_v 5) (pa_cons (pe_op PB.op_mMod (pe_callTy PB.call_mInt rfl T.free_int (by decide +kernel) (pa_cons (PB.pe_v 3) (pa_nil))) (PB.pe_v 2)) (pa_nil)))) (
  pss_one (ps_set (i := 3) sc_law_row.nd rfl (Or.inl rfl) (pe_op PB.op_mDiv (PB.pe_v 3) (PB.pe_v 2))))) (pss_cons (ps_set (i := 4) sc_law_row.nd rfl (Or.inl rfl) (pe_op PB.op_mMod (pe_callTy PB.call_mInt rfl T.free_int (by decide +kernel) (pa_cons (pe_op PB.op_mAdd (pe_op PB.op_mAdd (pe_op PB.op_mMul (PB.pe_v 4) (pe_int)) (pe_op PB.op_mMul (pe_int) (PB.pe_v 6))) (pe_int)) (pa_nil))) (pe_int))) (
  pss_one (ps_expr (PB.pe_mlm PySem.F.slot_list_append PySem.F.type_list_append PB.mt_mAppend (PB.pe_v 5) (pa_cons (pe_op PB.op_mMod (pe_callTy PB.call_mInt rfl T.free_int (by decide +kernel) (pa_cons (pe_op PB.op_mDiv (pe_op PB.op_mMul (PB.pe_v 4) (pe_int)) (pe_int)) (pa_nil))) (PB.pe_v 2)) (pa_nil))))))))) (
  pss_one (ps_ret (PB.pe_v 5))))))
theorem Tx.ok_law_row (T : Tx K mg) : C8.Cal P w K mg base 1 "_law_row" (sp_law_row K) [] := PB.cal_ok (st := s_law_row) (T.c.def_ 3 (d := d_law_row) rfl) T.glo__law_row sc_law_row len_law_row (fun _ _ _ _ _ _ us hl => match us, hl with | [_, _, _], _ => rfl) (b_law_row T) (pure_law_row K)
theorem sc_panes : FnScope N_panes ["layout"] (defScope s_panes) := ⟨rfl, rfl, rfl, by decide +kernel, rfl, by decide +kernel, by decide +kernel⟩
theorem b_panes (T : Tx K mg) (n : Nat) (ih : C8.Cal P w K mg base (0 + n) "panes" (sp_panes K n) []) : PB.Body P w K mg base (0 + n) N_panes "panes" s_panes (t_panes K n) := by
  intro f cdv A outer s H E hr
  exact C8.pss_cut (ps_if (PB.pt_tru (pe_callB call_isi rfl T.free_isinstance (by decide +kernel) (pa_cons (PB.pe_v 0) (pa_cons (pe_bltn rfl T.free_int (by decide +kernel) rfl) (pa_nil))))) (pss_one (ps_ret (pe_lst (pa_cons (PB.pe_v 0) (pa_nil))))) (pss_nil)) (
  pss_cons (ps_set (i := 1) sc_panes.nd rfl (Or.inl rfl) (pe_lst (pa_nil))) (
  pss_cons (ps_for PassesOwn.never rfl (PV.pi_sq (pe_ix PB.ix_m (PB.pe_v 0) (pe_int) (fun _ _ => rfl))) (pg_tup (by rfl) (pgs_cons (pg_name (i := 2) sc_panes.nd rfl (Or.inl rfl)) (pgs_cons (pg_name (i := 3) sc_panes.nd rfl (Or.inl rfl)) (pgs_nil)))) (pss_one (ps_expr (PB.pe_mlm PySem.F.slot_list_extend PySem.F.type_list_extend PV.mt_extV (PB.pe_v 1) (pa_cons (PB.pe_mc ih hr (by omega) rfl (pa_cons (PB.pe_v 2) (pa_nil))) (pa_nil)))))) (
  pss_one (ps_ret (PB.pe_v 1)))))
theorem Tx.ok_panes (T : Tx K mg) (n : Nat) : C8.Cal P w K mg base (0 + n) "panes" (sp_panes K n) [] := PV.cal_rec (st := s_panes) (sp := sp_panes K) (t := t_panes K) (T.c.def_ 4 (d := d_panes) rfl) T.glo_panes sc_panes (fun _ _ _ _ ⟨_, _, _, _, _, e, _⟩ => by cases e) len_panes (fun _ _ _ _ _ _ us hl => match us, hl with | [_], _ => rfl) (b_panes T) (pure_panes K) n
theorem sc_along : FnScope N_along ["direction", "width", "height"] (defScope s_along) := ⟨rfl, rfl, rfl, by decide +kernel, rfl, by decide +kernel, by decide +kernel⟩
theorem b_along (T : Tx K mg) : PB.Body P w K mg base 0 N_along "along" s_along (t_along K) := by
  intro f cdv A outer s H E hr
  exact C8.pss_cut (ps_if (PB.pt_m (PB.op_mEq (PB.hu64 hr)) (PB.pe_v 0) (PV.pe_gstr rfl T.str_BESIDE) (nomark _)) (pss_one (ps_ret (PB.pe_v 1))) (pss_nil)) (
  pss_one (ps_ret (PB.pe_v 2)))
theorem Tx.ok_along (T : Tx K mg) : C8.Cal P w K mg base 1 "along" (sp_along K) [] := PB.cal_ok (st := s_along) (T.c.def_ 5 (d := d_along) rfl) T.glo_along sc_along len_along (fun _ _ _ _ _ _ us hl => match us, hl with | [_, _, _], _ => rfl) (b_along T) (pure_along K)
theorem sc_least_along : FnScope N_least_along ["direction", "layout"] (defScope s_least_along) := ⟨rfl, rfl, rfl, by decide +kernel, rfl, by decide +kernel, by decide +kernel⟩
theorem b_least_along (T : Tx K mg) : PB.Body P w K mg base 24 N_least_along "least_along" s_least_along (t_least_along K) := by
  intro f cdv A outer s H E hr
  exact pss_cons (ps_asg (PB.pe_mc (T.ok_least 24) hr (by omega) rfl (pa_cons (PB.pe_v 1) (pa_nil))) (pg_tup (by rfl) (pgs_cons (pg_name (i := 2) sc_least_along.nd rfl (Or.inl rfl)) (pgs_cons (pg_name (i := 3) sc_least_along.nd rfl (Or.inl rfl)) (pgs_nil))))) (
  pss_one (ps_ret (PB.pe_mc T.ok_along hr (by decide) rfl (pa_cons (PB.pe_v 0) (pa_cons (PB.pe_v 2) (pa_cons (PB.pe_v 3) (pa_nil)))))))
theorem Tx.ok_least_along (T : Tx K mg) : C8.Cal P w K mg base 25 "least_along" (sp_least_along K) [] := PB.cal_ok (st := s_least_along) (T.c.def_ 6 (d := d_least_along) rfl) T.glo_least_along sc_least_along len_least_along (fun _ _ _ _ _ _ us hl => match us, hl with | [_, _], _ => rfl) (b_least_along T) (pure_least_along K)
theorem sc_enough : FnScope N_enough ["layout", "width", "height"] (defScope s_enough) := ⟨rfl, rfl, rfl, by decide +kernel, rfl, by decide +kernel, by decide +kernel⟩
theorem b_enough (T : Tx K mg) : PB.Body P w K mg base 24 N_enough "enough" s_enough (t_enough K) := by
  intro f cdv A outer s H E hr
  exact pss_cons (ps_asg (PB.pe_mc (T.ok_least 24) hr (by omega) rfl (pa_cons (PB.pe_v 0) (pa_nil))) (pg_tup (by rfl) (pgs_cons (pg_name (i := 3) sc_enough.nd rfl (Or.inl rfl)) (pgs_cons (pg_name (i := 4) sc_enough.nd rfl (Or.inl rfl)) (pgs_nil))))) (
  pss_one (ps_ret (pe_tup (pa_cons (pe_callB (PB.call_mMax2 rfl) rfl T.free_max (by decide +kernel) (pa_cons (PB.pe_v 1) (pa_cons (PB.pe_v 3) (pa_nil)))) (pa_cons (pe_callB (PB.call_mMax2 rfl) rfl T.free_max (by decide +kernel) (pa_cons (PB.pe_v 2) (pa_cons (PB.pe_v 4) (pa_nil)))) (pa_nil))))))
theorem Tx.ok_enough (T : Tx K mg) : C8.Cal P w K mg base 25 "enough" (sp_enough K) [] := PB.cal_ok (st := s_enough) (T.c.def_ 7 (d := d_enough) rfl) T.glo_enough sc_enough len_enough (fun _ _ _ _ _ _ us hl => match us, hl with | [_, _, _], _ => rfl) (b_enough T) (pure_enough K)
theorem sc_size_of_part : FnScope N_size_of_part ["direction", "size", "width", "height"] (defScope s_size_of_part) := ⟨rfl, rfl, rfl, by decide +kernel, rfl, by decide +kernel, by decide +kernel⟩
theorem b_size_of_part (T : Tx K mg) : PB.Body P w K mg base 0 N_size_of_part "size_of_part" s_size_of_part (t_size_of_part K) := by
  intro f cdv A outer s H E hr
  exact C8.pss_cut (ps_if (PB.pt_m (PB.op_mEq (PB.hu64 hr)) (PB.pe_v 0) (PV.pe_gstr rfl T.str_BESIDE) (nomark _)) (pss_one (ps_ret (pe_tup (pa_cons (PB.pe_v 1) (pa_cons (PB.pe_v 3) (pa_nil)))))) (pss_nil)) (
  pss_one (ps_ret (pe_tup (pa_cons (PB.pe_v 2) (pa_cons (PB.pe_v 1) (pa_nil))))))
theorem Tx.ok_size_of_part (T : Tx K mg) : C8.Cal P w K mg base 1 "size_of_part" (sp_size_of_part K) [] := PB.cal_ok (st := s_size_of_part) (T.c.def_ 8 (d := d_size_of_part) rfl) T.glo_size_of_part sc_size_of_part len_size_of_part (fun _ _ _ _ _ _ us hl => match us, hl with | [_, _, _, _], _ => rfl) (b_size_of_part T) (pure_size_of_part K)
theorem sc_fitted : FnScope N_fitted ["layout", "width", "height"] (defScope s_fitted) := ⟨rfl, rfl, rfl, by decide +kernel, rfl, by decide +kernel, by decide +kernel⟩
theorem b_fitted (T : Tx K mg) (n : Nat) (ih : C8.Cal P w K mg base (25 + n) "fitted" (sp_fitted K n) []) : PB.Body P w K mg base (25 + n) N_fitted "fitted" s_fitted (t_fitted K n) := by
  intro f cdv A outer s H E hr
  exact C8.pss_cut (ps_if (PB.pt_tru (pe_callB call_isi rfl T.free_isinstance (by decide +kernel) (pa_cons (PB.pe_v 0) (pa_cons (pe_bltn rfl T.free_int (by decide +kernel) rfl) (pa_nil))))) (pss_one (ps_ret (PB.pe_v 0))) (pss_nil)) (
  pss_cons (ps_asg (PB.pe_v 0) (pg_tup (by rfl) (pgs_cons (pg_name (i := 3) sc_fitted.nd rfl (Or.inr rfl)) (pgs_cons (pg_name (i := 4) sc_fitted.nd rfl (Or.inl rfl)) (pgs_nil))))) (
  pss_cons (ps_asg (PB.pe_mc T.ok_enough hr (by omega) rfl (pa_cons (PB.pe_v 0) (pa_cons (PB.pe_v 1) (pa_cons (PB.pe_v 2) (pa_nil))))) (pg_tup (by rfl) (pgs_cons (pg_name (i := 1) sc_fitted.nd rfl (Or.inl rfl)) (pgs_cons (pg_name (i := 2) sc_fitted.nd rfl (Or.inl rfl)) (pgs_nil))))) (
  pss_cons (ps_setLc (i := 5) (own := [("part", 8), ("_", 9)]) rfl sc_fitted.nd rfl rfl (sw_true rfl rfl rfl (by decide +kernel)) (PV.pi_sq (PB.pe_v 4)) (blkOk_by (own := [("part", 8), ("_", 9)]) (N := N_fitted) (sc := defScope s_fitted) (by decide +kernel)) (fun _ _ _ _ _ => pg_tup (by rfl) (pgs_cons (pg_name (i := 8) sc_fitted.nd rfl (Or.inl rfl)) (pgs_cons (pg_name (i := 9) sc_fitted.nd rfl (Or.inl rfl)) (pgs_nil)))) (fun _ _ _ _ _ => pts_nil) (fun _ _ _ _ _ => PB.pe_mc T.ok_least_along hr (by omega) rfl (pa_cons (PB.pe_v 3) (pa_cons (PB.pe_v 8) (pa_nil))))) (
  pss_cons (ps_set (i := 6) sc_fitted.nd rfl (Or.inl rfl) (PB.pe_mc T.ok_share hr (by omega) rfl (pa_cons (PB.pe_mc T.ok_along hr (by omega) rfl (pa_cons (PB.pe_v 3) (pa_cons (PB.pe_v 1) (pa_cons (PB.pe_v 2) (pa_nil))))) (pa_cons (PB.pe_v 5) (pa_cons (pe_lc (own := [("_", 9), ("size", 10)]) rfl sc_fitted.nd (PV.pi_sq (PB.pe_v 4)) (blkOk_by (own := [("_", 9), ("size", 10)]) (N := N_fitted) (sc := defScope s_fitted) (by decide +kernel)) (fun _ _ _ _ _ => pg_tup (by rfl) (pgs_cons (pg_name (i := 9) sc_fitted.nd rfl (Or.inl rfl)) (pgs_cons (pg_name (i := 10) sc_fitted.nd rfl (Or.inl rfl)) (pgs_nil)))) (fun _ _ _ _ _ => pts_nil) (fun _ _ _ _ _ => PB.pe_v 10)) (pa_nil)))))) (
  pss_cons (ps_set (i := 7) sc_fitted.nd rfl (Or.inl rfl) (pe_lst (pa_nil))) (
  pss_cons (ps_for PassesOwn.never rfl (PV.pi_zp rfl T.free_zip (pa_cons (PB.pe_v 4) (pa_cons (PB.pe_v 6) (pa_nil)))) (pg_tup (by rfl) (pgs_cons (pg_tup (by rfl) (pgs_cons (pg_name (i := 8) sc_fitted.nd rfl (Or.inl rfl)) (pgs_cons (pg_name (i := 9) sc_fitted.nd rfl (Or.inl rfl)) (pgs_nil)))) (pgs_cons (pg_name (i := 10) sc_fitted.nd rfl (Or.inl rfl)) (pgs_nil)))) (pss_cons (ps_asg (PB.pe_mc T.ok_size_of_part hr (by omega) rfl (pa_cons (PB.pe_v 3) (pa_cons (PB.pe_v 10) (pa_cons (PB.pe_v 1) (pa_cons (PB.pe_v 2) (pa_nil)))))) (pg_tup (by rfl) (pgs_cons (pg_name (i := 11) sc_fitted.nd rfl (Or.inl rfl)) (pgs_cons (pg_name (i := 12) sc_fitted.nd rfl (Or.inl rfl)) (pgs_nil))))) (
  pss_one (ps_expr (PB.pe_mlm PySem.F.slot_list_append PySem.F.type_list_append PB.mt_mAppend (PB.pe_v 7) (pa_cons (pe_tup (pa_cons (PB.pe_mc ih hr (by omega) rfl (pa_cons (PB.pe_v 8) (pa_cons (PB.pe_v 11) (pa_cons (PB.pe_v 12) (pa_nil))))) (pa_cons (PB.pe_v 10) (pa_nil)))) (pa_nil))))))) (
  pss_one (ps_ret (pe_tup (pa_cons (PB.pe_v 3) (pa_cons (pe_callTy PB.call_mTup rfl T.free_tuple (by decide +kernel) (pa_cons (PB.pe_v 7) (pa_nil))) (pa_nil))))))))))))
theorem Tx.ok_fitted (T : Tx K mg) (n : Nat) : C8.Cal P w K mg base (25 + n) "fitted" (sp_fitted K n) [] := PV.cal_rec (st := s_fitted) (sp := sp_fitted K) (t := t_fitted K) (T.c.def_ 9 (d := d_fitted) rfl) T.glo_fitted sc_fitted (fun _ _ _ _ ⟨_, _, _, _, _, e, _⟩ => by cases e) len_fitted (fun _ _ _ _ _ _ us hl => match us, hl with | [_, _, _], _ => rfl) (b_fitted T) (pure_fitted K) n
theorem sc_placed_parts : FnScope N_placed_parts ["layout", "row", "column", "width", "height"] (defScope s_placed_parts) := ⟨rfl, rfl, rfl, by decide +kernel, rfl, by decide +kernel, by decide +kernel⟩
theorem b_placed_parts (T : Tx K mg) : PB.Body P w K mg base 1 N_placed_parts "placed_parts" s_placed_parts (t_placed_parts K) := by
  intro f cdv A outer s H E hr
  exact pss_cons (ps_asg (PB.pe_v 0) (pg_tup (by rfl) (pgs_cons (pg_name (i := 5) sc_placed_parts.nd rfl (Or.inl rfl)) (pgs_cons (pg_name (i := 6) sc_placed_parts.nd rfl (Or.inl rfl)) (pgs_nil))))) (
  pss_cons (ps_set (i := 7) sc_placed_parts.nd rfl (Or.inl rfl) (pe_lst (pa_nil))) (
  pss_cons (ps_for PassesOwn.never rfl (PV.pi_sq (PB.pe_v 6)) (pg_tup (by rfl) (pgs_cons (pg_name (i := 8) sc_placed_parts.nd rfl (Or.inl rfl)) (pgs_cons (pg_name (i := 9) sc_placed_parts.nd rfl (Or.inl rfl)) (pgs_nil)))) (pss_cons (ps_asg (PB.pe_mc T.ok_size_of_part hr (by decide) rfl (pa_cons (PB.pe_v 5) (pa_cons (PB.pe_v 9) (pa_cons (PB.pe_v 3) (pa_cons (PB.pe_v 4) (pa_nil)))))) (pg_tup (by rfl) (pgs_cons (pg_name (i := 10) sc_placed_parts.nd rfl (Or.inl rfl)) (pgs_cons (pg_name (i := 11) sc_placed_parts.nd rfl (Or.inl rfl)) (pgs_nil))))) (
  pss_cons (ps_expr (PB.pe_mlm PySem.F.slot_list_append PySem.F.type_list_append PB.mt_mAppend (PB.pe_v 7) (pa_cons (pe_tup (pa_cons (PB.pe_v 8) (pa_cons (PB.pe_v 1) (pa_cons (PB.pe_v 2) (pa_cons (PB.pe_v 10) (pa_cons (PB.pe_v 11) (pa_nil))))))) (pa_nil)))) (
  pss_one (ps_if (PB.pt_m (PB.op_mEq (PB.hu64 hr)) (PB.pe_v 5) (PV.pe_gstr rfl T.str_BESIDE) (nomark _)) (pss_one (PB.ps_maug (i := 2) sc_placed_parts.nd rfl (Or.inl rfl) (pe_op PB.op_mAdd (PB.pe_v 9) (pe_int)) ip_add)) (pss_one (PB.ps_maug (i := 1) sc_placed_parts.nd rfl (Or.inl rfl) (pe_op PB.op_mAdd (PB.pe_v 9) (pe_int)) ip_add))))))) (
  pss_one (ps_ret (PB.pe_v 7)))))
theorem Tx.ok_placed_parts (T : Tx K mg) : C8.Cal P w K mg base 2 "placed_parts" (sp_placed_parts K) [] := PB.cal_ok (st := s_placed_parts) (T.c.def_ 10 (d := d_placed_parts) rfl) T.glo_placed_parts sc_placed_parts len_placed_parts (fun _ _ _ _ _ _ us hl => match us, hl with | [_, _, _, _, _], _ => rfl) (b_placed_parts T) (pure_placed_parts K)
theorem sc_boxes_at : FnScope N_boxes_at ["layout", "row", "column", "width", "height"] (defScope s_boxes_at) := ⟨rfl, rfl, rfl, by decide +kernel, rfl, by decide +kernel, by decide +kernel⟩
theorem b_boxes_at (T : Tx K mg) (n : Nat) (ih : C8.Cal P w K mg base (2 + n) "boxes_at" (sp_boxes_at K n) []) : PB.Body P w K mg base (2 + n) N_boxes_at "boxes_at" s_boxes_at (t_boxes_at K n) := by
  intro f cdv A outer s H E hr
  exact C8.pss_cut (ps_if (PB.pt_tru (pe_callB call_isi rfl T.free_isinstance (by decide +kernel) (pa_cons (PB.pe_v 0) (pa_cons (pe_bltn rfl T.free_int (by decide +kernel) rfl) (pa_nil))))) (pss_one (ps_ret (pe_lst (pa_cons (pe_tup (pa_cons (PB.pe_v 0) (pa_cons (PB.pe_v 1) (pa_cons (PB.pe_v 2) (pa_cons (PB.pe_v 3) (pa_cons (PB.pe_v 4) (pa_nil))))))) (pa_nil))))) (pss_nil)) (
  pss_cons (ps_set (i := 5) sc_boxes_at.nd rfl (Or.inl rfl) (pe_lst (pa_nil))) (
  pss_cons (ps_for PassesOwn.never rfl (PV.pi_sq (PB.pe_mc T.ok_placed_parts hr (by omega) rfl (pa_cons (PB.pe_v 0) (pa_cons (PB.pe_v 1) (pa_cons (PB.pe_v 2) (pa_cons (PB.pe_v 3) (pa_cons (PB.pe_v 4) (pa_nil)))))))) (pg_tup (by rfl) (pgs_cons (pg_name (i := 6) sc_boxes_at.nd rfl (Or.inl rfl)) (pgs_cons (pg_name (i := 7) sc_boxes_at.nd rfl (Or.inl rfl)) (pgs_cons (pg_name (i := 8) sc_boxes_at.nd rfl (Or.inl rfl)) (pgs_cons (pg_name (i := 9) sc_boxes_at.nd rfl (Or.inl rfl)) (pgs_cons (pg_name (i := 10) sc_boxes_at.nd rfl (Or.inl rfl)) (pgs_nil))))))) (pss_one (ps_expr (PB.pe_mlm PySem.F.slot_list_extend PySem.F.type_list_extend PV.mt_extV (PB.pe_v 5) (pa_cons (PB.pe_mc ih hr (by omega) rfl (pa_cons (PB.pe_v 6) (pa_cons (PB.pe_v 7) (pa_cons (PB.pe_v 8) (pa_cons (PB.pe_v 9) (pa_cons (PB.pe_v 10) (pa_nil))))))) (pa_nil)))))) (
  pss_one (ps_ret (PB.pe_v 5)))))
theorem Tx.ok_boxes_at (T : Tx K mg) (n : Nat) : C8.Cal P w K mg base (2 + n) "boxes_at" (sp_boxes_at K n) [] := PV.cal_rec (st := s_boxes_at) (sp := sp_boxes_at K) (t := t_boxes_at K) (T.c.def_ 11 (d := d_boxes_at) rfl) T.glo_boxes_at sc_boxes_at (fun _ _ _ _ ⟨_, _, _, _, _, e, _⟩ => by cases e) len_boxes_at (fun _ _ _ _ _ _ us hl => match us, hl with | [_, _, _, _, _], _ => rfl) (b_boxes_at T) (pure_boxes_at K) n
theorem sc_boxes : FnScope N_boxes ["layout", "width", "height"] (defScope s_boxes) := ⟨rfl, rfl, rfl, by decide +kernel, rfl, by decide +kernel, by decide +kernel⟩
theorem b_boxes (T : Tx K mg) : PB.Body P w K mg base 49 N_boxes "boxes" s_boxes (t_boxes K) := by
  intro f cdv A outer s H E hr
  exact pss_cons (ps_asg (PB.pe_mc T.ok_enough hr (by decide) rfl (pa_cons (PB.pe_v 0) (pa_cons (PB.pe_v 1) (pa_cons (PB.pe_v 2) (pa_nil))))) (pg_tup (by rfl) (pgs_cons (pg_name (i := 3) sc_boxes.nd rfl (Or.inl rfl)) (pgs_cons (pg_name (i := 4) sc_boxes.nd rfl (Or.inl rfl)) (pgs_nil))))) (
  pss_one (ps_ret (PB.pe_mc (T.ok_boxes_at 24) hr (by omega) rfl (pa_cons (PB.pe_mc (T.ok_fitted 24) hr (by omega) rfl (pa_cons (PB.pe_v 0) (pa_cons (PB.pe_v 1) (pa_cons (PB.pe_v 2) (pa_nil))))) (pa_cons (pe_int) (pa_cons (pe_int) (pa_cons (PB.pe_v 3) (pa_cons (PB.pe_v 4) (pa_nil)))))))))
theorem Tx.ok_boxes (T : Tx K mg) : C8.Cal P w K mg base 50 "boxes" (sp_boxes K) [] := PB.cal_ok (st := s_boxes) (T.c.def_ 12 (d := d_boxes) rfl) T.glo_boxes sc_boxes len_boxes (fun _ _ _ _ _ _ us hl => match us, hl with | [_, _, _], _ => rfl) (b_boxes T) (pure_boxes K)
theorem sc_size_of_pane : FnScope N_size_of_pane ["layout", "width", "height", "pane", "direction"] (defScope s_size_of_pane) := ⟨rfl, rfl, rfl, by decide +kernel, rfl, by decide +kernel, by decide +kernel⟩
theorem b_size_of_pane (T : Tx K mg) : PB.Body P w K mg base 50 N_size_of_pane "size_of_pane" s_size_of_pane (t_size_of_pane K) := by
  intro f cdv A outer s H E hr
  exact pss_cons (ps_setLc (i := 5) (own := [("box", 6)]) rfl sc_size_of_pane.nd rfl rfl (sw_true rfl rfl rfl (by decide +kernel)) (PV.pi_sq (PB.pe_mc T.ok_boxes hr (by decide) rfl (pa_cons (PB.pe_v 0) (pa_cons (PB.pe_v 1) (pa_cons (PB.pe_v 2) (pa_nil)))))) (blkOk_by (own := [("box", 6)]) (N := N_size_of_pane) (sc := defScope s_size_of_pane) (by decide +kernel)) (fun _ _ _ _ _ => pg_name (i := 6) sc_size_of_pane.nd rfl (Or.inl rfl)) (fun _ _ _ _ _ => pts_one (PB.pt_m (PB.op_mEq (PB.hu64 hr)) (pe_ix PB.ix_m (PB.pe_v 6) (pe_int) (fun _ _ => rfl)) (PB.pe_v 3) (nomark _))) (fun _ _ _ _ _ => PB.pe_mc T.ok_along hr (by decide) rfl (pa_cons (PB.pe_v 4) (pa_cons (pe_ix PB.ix_m (PB.pe_v 6) (pe_int) (fun _ _ => rfl)) (pa_cons (pe_ix PB.ix_m (PB.pe_v 6) (pe_int) (fun _ _ => rfl)) (pa_nil)))))) (
  pss_one (ps_ret (pe_ix PB.ix_m (PB.pe_v 5) (pe_int) (fun _ _ => rfl))))
theorem Tx.ok_size_of_pane (T : Tx K mg) : C8.Cal P w K mg base 51 "size_of_pane" (sp_size_of_pane K) [] := PB.cal_ok (st := s_size_of_pane) (T.c.def_ 13 (d := d_size_of_pane) rfl) T.glo_size_of_pane sc_size_of_pane len_size_of_pane (fun _ _ _ _ _ _ us hl => match us, hl with | [_, _, _, _, _], _ => rfl) (b_size_of_pane T) (pure_size_of_pane K)
theorem sc_replaced : FnScope N_replaced ["layout", "direction", "pair"] (defScope s_replaced) := ⟨rfl, rfl, rfl, by decide +kernel, rfl, by decide +kernel, by decide +kernel⟩
theorem b_replaced (T : Tx K mg) (n : Nat) (ih : C8.Cal P w K mg base (0 + n) "replaced" (sp_replaced K n) []) : PB.Body P w K mg base (0 + n) N_replaced "replaced" s_replaced (t_replaced K n) := by
  intro f cdv A outer s H E hr
  exact pss_cons (ps_set (i := 3) sc_replaced.nd rfl (Or.inl rfl) (pe_ix PB.ix_m (pe_ix PB.ix_m (PB.pe_v 2) (pe_int) (fun _ _ => rfl)) (pe_int) (fun _ _ => rfl))) (
  C8.pss_cut (ps_if (PB.pt_tru (pe_callB call_isi rfl T.free_isinstance (by decide +kernel) (pa_cons (PB.pe_v 0) (pa_cons (pe_bltn rfl T.free_int (by decide +kernel) rfl) (pa_nil))))) (C8.pss_cut (ps_if (PB.pt_m (PB.op_mEq (PB.hu64 hr)) (PB.pe_v 0) (PB.pe_v 3) (nomark _)) (pss_one (ps_ret (pe_tup (pa_cons (PB.pe_v 1) (pa_cons (PB.pe_v 2) (pa_nil)))))) (pss_nil)) (
  pss_one (ps_ret (PB.pe_v 0)))) (pss_nil)) (
  pss_cons (ps_asg (PB.pe_v 0) (pg_tup (by rfl) (pgs_cons (pg_name (i := 4) sc_replaced.nd rfl (Or.inl rfl)) (pgs_cons (pg_name (i := 5) sc_replaced.nd rfl (Or.inl rfl)) (pgs_nil))))) (
  pss_cons (ps_set (i := 6) sc_replaced.nd rfl (Or.inl rfl) (pe_lst (pa_nil))) (
  pss_cons (ps_for PassesOwn.never rfl (PV.pi_sq (PB.pe_v 5)) (pg_tup (by rfl) (pgs_cons (pg_name (i := 7) sc_replaced.nd rfl (Or.inl rfl)) (pgs_cons (pg_name (i := 8) sc_replaced.nd rfl (Or.inl rfl)) (pgs_nil)))) (pss_one (ps_if (PW.pt (pw_and (PB.pt_m (PB.op_mEq (PB.hu64 hr)) (PB.pe_v 7) (PB.pe_v 3) (nomark _)) (pw_and1 (PB.pt_m (PB.op_mEq (PB.hu64 hr)) (PB.pe_v 4) (PB.pe_v 1) (nomark _))))) (pss_one (ps_expr (PB.pe_mlm PySem.F.slot_list_extend PySem.F.type_list_extend PV.mt_extV (PB.pe_v 6) (pa_cons (PB.pe_v 2) (pa_nil))))) (pss_one (ps_expr (PB.pe_mlm PySem.F.slot_list_append PySem.F.type_list_append PB.mt_mAppend (PB.pe_v 6) (pa_cons (pe_tup (pa_cons (PB.pe_mc ih hr (by omega) rfl (pa_cons (PB.pe_v 7) (pa_cons (PB.pe_v 1) (pa_cons (PB.pe_v 2) (pa_nil))))) (pa_cons (PB.pe_v 8) (pa_nil)))) (pa_nil)))))))) (
  pss_one (ps_ret (pe_tup (pa_cons (PB.pe_v 4) (pa_cons (pe_callTy PB.call_mTup rfl T.free_tuple (by decide +kernel) (pa_cons (PB.pe_v 6) (pa_nil))) (pa_nil))))))))))
theorem Tx.ok_replaced (T : Tx K mg) (n : Nat) : C8.Cal P w K mg base (0 + n) "replaced" (sp_replaced K n) [] := PV.cal_rec (st := s_replaced) (sp := sp_replaced K) (t := t_replaced K) (T.c.def_ 14 (d := d_replaced) rfl) T.glo_replaced sc_replaced (fun _ _ _ _ ⟨_, _, _, _, _, e, _⟩ => by cases e) len_replaced (fun _ _ _ _ _ _ us hl => match us, hl with | [_, _, _], _ => rfl) (b_replaced T) (pure_replaced K) n
theorem sc_divided : FnScope N_divided ["layout", "width", "height", "pane", "direction", "new"] (defScope s_divided) := ⟨rfl, rfl, rfl, by decide +kernel, rfl, by decide +kernel, by decide +kernel⟩
theorem b_divided (T : Tx K mg) : PV.BodyX P w K mg base 51 N_divided "divided" s_divided (t_divided K) := by
  intro f cdv A outer s H E hr
  exact pss_cons (ps_set (i := 6) sc_divided.nd rfl (Or.inl rfl) (PB.pe_mc T.ok_size_of_pane hr (by decide) rfl (pa_cons (PB.pe_v 0) (pa_cons (PB.pe_v 1) (pa_cons (PB.pe_v 2) (pa_cons (PB.pe_v 3) (pa_cons (PB.pe_v 4) (pa_nil)))))))) (
  C8.pss_cut (ps_if (PB.pt_m PB.op_mLt (PB.pe_v 6) (PB.pe_mc T.ok_along hr (by decide) rfl (pa_cons (PB.pe_v 4) (pa_cons (PB.pe_gint rfl T.int_LEAST_WIDTH_DIVIDED) (pa_cons (PB.pe_gint rfl T.int_LEAST_HEIGHT_DIVIDED) (pa_nil))))) (nomark _)) (pss_one (PV.ps_rse rfl (L2.takes_of rfl rfl rfl rfl) T.exc_NoRoom T.glo_NoRoom rfl (pe_joined (.cons (pe_str) (.cons (pe_fmt (PB.pe_v 3)) (.cons (pe_str) (.cons (pe_fmt (PB.pe_v 4)) (.cons (pe_str) (.nil))))))))) (pss_nil)) (
  pss_cons (ps_set (i := 7) sc_divided.nd rfl (Or.inl rfl) (pe_op PB.op_mDiv (pe_op PB.op_mSub (PB.pe_v 6) (pe_int)) (pe_int))) (
  pss_cons (ps_set (i := 8) sc_divided.nd rfl (Or.inl rfl) (pe_tup (pa_cons (pe_tup (pa_cons (PB.pe_v 3) (pa_cons (pe_op PB.op_mSub (pe_op PB.op_mSub (PB.pe_v 6) (pe_int)) (PB.pe_v 7)) (pa_nil)))) (pa_cons (pe_tup (pa_cons (PB.pe_v 5) (pa_cons (PB.pe_v 7) (pa_nil)))) (pa_nil))))) (
  pss_one (ps_ret (PB.pe_mc (T.ok_replaced 24) hr (by omega) rfl (pa_cons (PB.pe_mc (T.ok_fitted 24) hr (by omega) rfl (pa_cons (PB.pe_v 0) (pa_cons (PB.pe_v 1) (pa_cons (PB.pe_v 2) (pa_nil))))) (pa_cons (PB.pe_v 4) (pa_cons (PB.pe_v 8) (pa_nil))))))))))
theorem Tx.ok_divided (T : Tx K mg) : PV.CalX P w K mg base 52 "divided" (sp_divided K) := PV.calX_ok (st := s_divided) (T.c.def_ 15 (d := d_divided) rfl) T.glo_divided sc_divided len_divided (fun _ _ _ _ _ _ us hl => match us, hl with | [_, _, _, _, _, _], _ => rfl) (b_divided T) (pure_divided K)
theorem sc_kept_parts : FnScope N_kept_parts ["parts", "pane"] (defScope s_kept_parts) := ⟨rfl, rfl, rfl, by decide +kernel, rfl, by decide +kernel, by decide +kernel⟩
theorem b_kept_parts (T : Tx K mg) : PB.Body P w K mg base 0 N_kept_parts "kept_parts" s_kept_parts (t_kept_parts K) := by
  intro f cdv A outer s H E hr
  exact pss_cons (ps_set (i := 2) sc_kept_parts.nd rfl (Or.inl rfl) (pe_lst (pa_nil))) (
  pss_cons (ps_set (i := 3) sc_kept_parts.nd rfl (Or.inl rfl) (pe_int)) (
  pss_cons (ps_for PassesOwn.never rfl (PV.pi_sq (PB.pe_v 0)) (pg_tup (by rfl) (pgs_cons (pg_name (i := 4) sc_kept_parts.nd rfl (Or.inl rfl)) (pgs_cons (pg_name (i := 5) sc_kept_parts.nd rfl (Or.inl rfl)) (pgs_nil)))) (pss_one (ps_if (PB.pt_m (PB.op_mNe (PB.hu64 hr)) (PB.pe_v 4) (PB.pe_v 1) (nomark _)) (pss_cons (ps_expr (PB.pe_mlm PySem.F.slot_list_append PySem.F.type_list_append PB.mt_mAppend (PB.pe_v 2) (pa_cons (pe_tup (pa_cons (PB.pe_v 4) (pa_cons (pe_op PB.op_mAdd (PB.pe_v 5) (PB.pe_v 3)) (pa_nil)))) (pa_nil)))) (
  pss_one (ps_set (i := 3) sc_kept_parts.nd rfl (Or.inl rfl) (pe_int)))) (pss_one (ps_if (PB.pt_tru (PB.pe_v 2)) (pss_cons (ps_asg (PB.pe_mlm0 PySem.F.slot_list_pop PySem.F.type_list_pop mt_pop (PB.pe_v 2)) (pg_tup (by rfl) (pgs_cons (pg_name (i := 6) sc_kept_parts.nd rfl (Or.inl rfl)) (pgs_cons (pg_name (i := 7) sc_kept_parts.nd rfl (Or.inl rfl)) (pgs_nil))))) (
  pss_one (ps_expr (PB.pe_mlm PySem.F.slot_list_append PySem.F.type_list_append PB.mt_mAppend (PB.pe_v 2) (pa_cons (pe_tup (pa_cons (PB.pe_v 6) (pa_cons (pe_op PB.op_mAdd (pe_op PB.op_mAdd (PB.pe_v 7) (PB.pe_v 5)) (pe_int)) (pa_nil)))) (pa_nil)))))) (pss_one (ps_set (i := 3) sc_kept_parts.nd rfl (Or.inl rfl) (pe_op PB.op_mAdd (PB.pe_v 5) (pe_int))))))))) (
  pss_one (ps_ret (PB.pe_v 2)))))
theorem Tx.ok_kept_parts (T : Tx K mg) : C8.Cal P w K mg base 1 "kept_parts" (sp_kept_parts K) [] := PB.cal_ok (st := s_kept_parts) (T.c.def_ 16 (d := d_kept_parts) rfl) T.glo_kept_parts sc_kept_parts len_kept_parts (fun _ _ _ _ _ _ us hl => match us, hl with | [_, _], _ => rfl) (b_kept_parts T) (pure_kept_parts K)
theorem sc_removed : FnScope N_removed ["layout", "pane"] (defScope s_removed) := ⟨rfl, rfl, rfl, by decide +kernel, rfl, by decide +kernel, by decide +kernel⟩
theorem b_removed (T : Tx K mg) (n : Nat) (ih : C8.Cal P w K mg base (1 + n) "removed" (sp_removed K n) []) : PB.Body P w K mg base (1 + n) N_removed "removed" s_removed (t_removed K n) := by
  intro f cdv A outer s H E hr
  exact C8.pss_cut (ps_if (PB.pt_tru (pe_callB call_isi rfl T.free_isinstance (by decide +kernel) (pa_cons (PB.pe_v 0) (pa_cons (pe_bltn rfl T.free_int (by decide +kernel) rfl) (pa_nil))))) (pss_one (ps_ret (PB.pe_v 0))) (pss_nil)) (
  pss_cons (ps_asg (PB.pe_v 0) (pg_tup (by rfl) (pgs_cons (pg_name (i := 2) sc_removed.nd rfl (Or.inl rfl)) (pgs_cons (pg_name (i := 3) sc_removed.nd rfl (Or.inl rfl)) (pgs_nil))))) (
  pss_cons (ps_set (i := 4) sc_removed.nd rfl (Or.inl rfl) (PB.pe_mc T.ok_kept_parts hr (by omega) rfl (pa_cons (PB.pe_v 3) (pa_cons (PB.pe_v 1) (pa_nil))))) (
  C8.pss_cut (ps_if (PB.pt_m (PB.op_mEq (PB.hu64 hr)) (pe_callB PB.call_mLen rfl T.free_len (by decide +kernel) (pa_cons (PB.pe_v 4) (pa_nil))) (pe_int) (nomark _)) (pss_one (ps_ret (pe_ix PB.ix_m (pe_ix PB.ix_m (PB.pe_v 4) (pe_int) (fun _ _ => rfl)) (pe_int) (fun _ _ => rfl)))) (pss_nil)) (
  pss_cons (ps_set (i := 5) sc_removed.nd rfl (Or.inl rfl) (pe_lst (pa_nil))) (
  pss_cons (ps_for PassesOwn.never rfl (PV.pi_sq (PB.pe_v 4)) (pg_tup (by rfl) (pgs_cons (pg_name (i := 6) sc_removed.nd rfl (Or.inl rfl)) (pgs_cons (pg_name (i := 7) sc_removed.nd rfl (Or.inl rfl)) (pgs_nil)))) (pss_cons (ps_set (i := 8) sc_removed.nd rfl (Or.inl rfl) (PB.pe_mc ih hr (by omega) rfl (pa_cons (PB.pe_v 6) (pa_cons (PB.pe_v 1) (pa_nil))))) (
  pss_one (ps_if (PW.pt (pw_and (pt_not (PB.pt_tru (pe_callB call_isi rfl T.free_isinstance (by decide +kernel) (pa_cons (PB.pe_v 8) (pa_cons (pe_bltn rfl T.free_int (by decide +kernel) rfl) (pa_nil)))))) (pw_and1 (PB.pt_m (PB.op_mEq (PB.hu64 hr)) (pe_ix PB.ix_m (PB.pe_v 8) (pe_int) (fun _ _ => rfl)) (PB.pe_v 2) (nomark _))))) (pss_one (ps_expr (PB.pe_mlm PySem.F.slot_list_extend PySem.F.type_list_extend PV.mt_extV (PB.pe_v 5) (pa_cons (pe_ix PB.ix_m (PB.pe_v 8) (pe_int) (fun _ _ => rfl)) (pa_nil))))) (pss_one (ps_expr (PB.pe_mlm PySem.F.slot_list_append PySem.F.type_list_append PB.mt_mAppend (PB.pe_v 5) (pa_cons (pe_tup (pa_cons (PB.pe_v 8) (pa_cons (PB.pe_v 7) (pa_nil)))) (pa_nil))))))))) (
  pss_one (ps_ret (pe_tup (pa_cons (PB.pe_v 2) (pa_cons (pe_callTy PB.call_mTup rfl T.free_tuple (by decide +kernel) (pa_cons (PB.pe_v 5) (pa_nil))) (pa_nil)))))))))))
theorem Tx.ok_removed (T : Tx K mg) (n : Nat) : C8.Cal P w K mg base (1 + n) "removed" (sp_removed K n) [] := PV.cal_rec (st := s_removed) (sp := sp_removed K) (t := t_removed K) (T.c.def_ 17 (d := d_removed) rfl) T.glo_removed sc_removed (fun _ _ _ _ ⟨_, _, _, _, _, e, _⟩ => by cases e) len_removed (fun _ _ _ _ _ _ us hl => match us, hl with | [_, _], _ => rfl) (b_removed T) (pure_removed K) n
theorem sc_without : FnScope N_without ["layout", "width", "height", "pane"] (defScope s_without) := ⟨rfl, rfl, rfl, by decide +kernel, rfl, by decide +kernel, by decide +kernel⟩
theorem b_without (T : Tx K mg) : PB.Body P w K mg base 49 N_without "without" s_without (t_without K) := by
  intro f cdv A outer s H E hr
  exact pss_one (ps_ret (PB.pe_mc (T.ok_fitted 24) hr (by omega) rfl (pa_cons (PB.pe_mc (T.ok_removed 24) hr (by omega) rfl (pa_cons (PB.pe_mc (T.ok_fitted 24) hr (by omega) rfl (pa_cons (PB.pe_v 0) (pa_cons (PB.pe_v 1) (pa_cons (PB.pe_v 2) (pa_nil))))) (pa_cons (PB.pe_v 3) (pa_nil)))) (pa_cons (PB.pe_v 1) (pa_cons (PB.pe_v 2) (pa_nil))))))
theorem Tx.ok_without (T : Tx K mg) : C8.Cal P w K mg base 50 "without" (sp_without K) [] := PB.cal_ok (st := s_without) (T.c.def_ 18 (d := d_without) rfl) T.glo_without sc_without len_without (fun _ _ _ _ _ _ us hl => match us, hl with | [_, _, _, _], _ => rfl) (b_without T) (pure_without K)
theorem sc_path_to_border : FnScope N_path_to_border ["layout", "pane", "direction"] (defScope s_path_to_border) := ⟨rfl, rfl, rfl, by decide +kernel, rfl, by decide +kernel, by decide +kernel⟩
theorem b_path_to_border (T : Tx K mg) (n : Nat) (ih : C8.Cal P w K mg base (24 + n) "path_to_border" (sp_path_to_border K n) []) : PB.Body P w K mg base (24 + n) N_path_to_border "path_to_border" s_path_to_border (t_path_to_border K n) := by
  intro f cdv A outer s H E hr
  exact C8.pss_cut (ps_if (PB.pt_tru (pe_callB call_isi rfl T.free_isinstance (by decide +kernel) (pa_cons (PB.pe_v 0) (pa_cons (pe_bltn rfl T.free_int (by decide +kernel) rfl) (pa_nil))))) (pss_one (ps_ret (pe_non))) (pss_nil)) (
  pss_cons (ps_asg (PB.pe_v 0) (pg_tup (by rfl) (pgs_cons (pg_name (i := 3) sc_path_to_border.nd rfl (Or.inl rfl)) (pgs_cons (pg_name (i := 4) sc_path_to_border.nd rfl (Or.inl rfl)) (pgs_nil))))) (
  pss_cons (ps_for PassesOwn.never rfl (PV.pi_en rfl T.free_enumerate (pa_cons (PB.pe_v 4) (pa_nil))) (pg_tup (by rfl) (pgs_cons (pg_name (i := 5) sc_path_to_border.nd rfl (Or.inl rfl)) (pgs_cons (pg_tup (by rfl) (pgs_cons (pg_name (i := 6) sc_path_to_border.nd rfl (Or.inl rfl)) (pgs_cons (pg_name (i := 7) sc_path_to_border.nd rfl (Or.inl rfl)) (pgs_nil)))) (pgs_nil)))) (pss_one (ps_if (PB.pt_m (PB.op_mIn (PB.hu65 hr)) (PB.pe_v 1) (PB.pe_mc (T.ok_panes 24) hr (by omega) rfl (pa_cons (PB.pe_v 6) (pa_nil))) (by with_unfolding_all rfl)) (pss_cons (ps_set (i := 8) sc_path_to_border.nd rfl (Or.inl rfl) (PB.pe_mc ih hr (by omega) rfl (pa_cons (PB.pe_v 6) (pa_cons (PB.pe_v 1) (pa_cons (PB.pe_v 2) (pa_nil)))))) (
  C8.pss_cut (ps_if (PB.pt_m PB.op_mNotN (PB.pe_v 8) pe_non (nomark _)) (pss_one (ps_ret (pe_op PB.op_mAdd (pe_lst (pa_cons (PB.pe_v 5) (pa_nil))) (PB.pe_v 8)))) (pss_nil)) (
  pss_one (ps_if (PW.pt (pw_and (PB.pt_m (PB.op_mEq (PB.hu64 hr)) (PB.pe_v 3) (PB.pe_v 2) (nomark _)) (pw_and1 (PB.pt_m PB.op_mLt (PB.pe_v 5) (pe_op PB.op_mSub (pe_callB PB.call_mLen rfl T.free_len (by decide +kernel) (pa_cons (PB.pe_v 4) (pa_nil))) (pe_int)) (nomark _))))) (pss_one (ps_ret (pe_lst (pa_cons (PB.pe_v 5) (pa_nil))))) (pss_nil))))) (pss_nil)))) (
  pss_one (ps_ret (pe_non)))))
theorem Tx.ok_path_to_border (T : Tx K mg) (n : Nat) : C8.Cal P w K mg base (24 + n) "path_to_border" (sp_path_to_border K n) [] := PV.cal_rec (st := s_path_to_border) (sp := sp_path_to_border K) (t := t_path_to_border K) (T.c.def_ 19 (d := d_path_to_border) rfl) T.glo_path_to_border sc_path_to_border (fun _ _ _ _ ⟨_, _, _, _, _, e, _⟩ => by cases e) len_path_to_border (fun _ _ _ _ _ _ us hl => match us, hl with | [_, _, _], _ => rfl) (b_path_to_border T) (pure_path_to_border K) n
theorem sc_shifted : FnScope N_shifted ["layout", "path", "amount"] (defScope s_shifted) := ⟨rfl, rfl, rfl, by decide +kernel, rfl, by decide +kernel, by decide +kernel⟩
theorem b_shifted (T : Tx K mg) (n : Nat) (ih : C8.Cal P w K mg base (25 + n) "shifted" (sp_shifted K n) []) : PB.Body P w K mg base (25 + n) N_shifted "shifted" s_shifted (t_shifted K n) := by
  intro f cdv A outer s H E hr
  exact pss_cons (ps_asg (PB.pe_v 0) (pg_tup (by rfl) (pgs_cons (pg_name (i := 3) sc_shifted.nd rfl (Or.inl rfl)) (pgs_cons (pg_name (i := 4) sc_shifted.nd rfl (Or.inl rfl)) (pgs_nil))))) (
  pss_cons (ps_set (i := 5) sc_shifted.nd rfl (Or.inl rfl) (pe_ix PB.ix_m (PB.pe_v 1) (pe_int) (fun _ _ => rfl))) (
  pss_cons (ps_asg (pe_ix PB.ix_m (PB.pe_v 4) (PB.pe_v 5) (fun _ _ => rfl)) (pg_tup (by rfl) (pgs_cons (pg_name (i := 6) sc_shifted.nd rfl (Or.inl rfl)) (pgs_cons (pg_name (i := 7) sc_shifted.nd rfl (Or.inl rfl)) (pgs_nil))))) (
  pss_cons (ps_set (i := 8) sc_shifted.nd rfl (Or.inl rfl) (pe_callTy PB.call_mList rfl T.free_list (by decide +kernel) (pa_cons (PB.pe_v 4) (pa_nil)))) (
  C8.pss_cut (ps_if (PB.pt_m PB.op_mGt (pe_callB PB.call_mLen rfl T.free_len (by decide +kernel) (pa_cons (PB.pe_v 1) (pa_nil))) (pe_int) (nomark _)) (pss_cons (ps_asg (pe_tup (pa_cons (PB.pe_mc ih hr (by omega) rfl (pa_cons (PB.pe_v 6) (pa_cons (pe_slice PB.sl_m (PB.pe_v 1) (PB.po_m (pe_int)) (po_none)) (pa_cons (PB.pe_v 2) (pa_nil))))) (pa_cons (PB.pe_v 7) (pa_nil)))) (pg_sub (PB.pe_v 8) (PB.pe_v 5) PB.set_m)) (
  pss_one (ps_ret (pe_tup (pa_cons (PB.pe_v 3) (pa_cons (pe_callTy PB.call_mTup rfl T.free_tuple (by decide +kernel) (pa_cons (PB.pe_v 8) (pa_nil))) (pa_nil))))))) (pss_nil)) (
  pss_cons (ps_asg (pe_ix PB.ix_m (PB.pe_v 4) (pe_op PB.op_mAdd (PB.pe_v 5) (pe_int)) (fun _ _ => rfl)) (pg_tup (by rfl) (pgs_cons (pg_name (i := 9) sc_shifted.nd rfl (Or.inl rfl)) (pgs_cons (pg_name (i := 10) sc_shifted.nd rfl (Or.inl rfl)) (pgs_nil))))) (
  pss_cons (ps_set (i := 2) sc_shifted.nd rfl (Or.inl rfl) (pe_callB (PB.call_mMin2 rfl) rfl T.free_min (by decide +kernel) (pa_cons (PB.pe_v 2) (pa_cons (pe_op PB.op_mSub (PB.pe_v 10) (PB.pe_mc T.ok_least_along hr (by omega) rfl (pa_cons (PB.pe_v 3) (pa_cons (PB.pe_v 9) (pa_nil))))) (pa_nil))))) (
  pss_cons (ps_set (i := 2) sc_shifted.nd rfl (Or.inl rfl) (pe_callB (PB.call_mMax2 rfl) rfl T.free_max (by decide +kernel) (pa_cons (PB.pe_v 2) (pa_cons (pe_op PB.op_mSub (PB.pe_mc T.ok_least_along hr (by omega) rfl (pa_cons (PB.pe_v 3) (pa_cons (PB.pe_v 6) (pa_nil)))) (PB.pe_v 7)) (pa_nil))))) (
  pss_cons (ps_asg (pe_tup (pa_cons (PB.pe_v 6) (pa_cons (pe_op PB.op_mAdd (PB.pe_v 7) (PB.pe_v 2)) (pa_nil)))) (pg_sub (PB.pe_v 8) (PB.pe_v 5) PB.set_m)) (
  pss_cons (ps_asg (pe_tup (pa_cons (PB.pe_v 9) (pa_cons (pe_op PB.op_mSub (PB.pe_v 10) (PB.pe_v 2)) (pa_nil)))) (pg_sub (PB.pe_v 8) (pe_op PB.op_mAdd (PB.pe_v 5) (pe_int)) PB.set_m)) (
  pss_one (ps_ret (pe_tup (pa_cons (PB.pe_v 3) (pa_cons (pe_callTy PB.call_mTup rfl T.free_tuple (by decide +kernel) (pa_cons (PB.pe_v 8) (pa_nil))) (pa_nil)))))))))))))))
theorem Tx.ok_shifted (T : Tx K mg) (n : Nat) : C8.Cal P w K mg base (25 + n) "shifted" (sp_shifted K n) [] := PV.cal_rec (st := s_shifted) (sp := sp_shifted K) (t := t_shifted K) (T.c.def_ 20 (d := d_shifted) rfl) T.glo_shifted sc_shifted (fun _ _ _ _ ⟨_, _, _, _, _, e, _⟩ => by cases e) len_shifted (fun _ _ _ _ _ _ us hl => match us, hl with | [_, _, _], _ => rfl) (b_shifted T) (pure_shifted K) n
theorem sc_moved : FnScope N_moved ["layout", "width", "height", "pane", "direction", "amount"] (defScope s_moved) := ⟨rfl, rfl, rfl, by decide +kernel, rfl, by decide +kernel, by decide +kernel⟩
theorem b_moved (T : Tx K mg) : PB.Body P w K mg base 49 N_moved "moved" s_moved (t_moved K) := by
  intro f cdv A outer s H E hr
  exact pss_cons (ps_set (i := 0) sc_moved.nd rfl (Or.inl rfl) (PB.pe_mc (T.ok_fitted 24) hr (by omega) rfl (pa_cons (PB.pe_v 0) (pa_cons (PB.pe_v 1) (pa_cons (PB.pe_v 2) (pa_nil)))))) (
  pss_cons (ps_set (i := 6) sc_moved.nd rfl (Or.inl rfl) (PB.pe_mc (T.ok_path_to_border 24) hr (by omega) rfl (pa_cons (PB.pe_v 0) (pa_cons (PB.pe_v 3) (pa_cons (PB.pe_v 4) (pa_nil)))))) (
  C8.pss_cut (ps_if (PB.pt_m PB.op_mIsN (PB.pe_v 6) pe_non (nomark _)) (pss_one (ps_ret (PB.pe_v 0))) (pss_nil)) (
  pss_one (ps_ret (PB.pe_mc (T.ok_fitted 24) hr (by omega) rfl (pa_cons (PB.pe_mc (T.ok_shifted 24) hr (by omega) rfl (pa_cons (PB.pe_v 0) (pa_cons (PB.pe_v 6) (pa_cons (PB.pe_v 5) (pa_nil))))) (pa_cons (PB.pe_v 1) (pa_cons (PB.pe_v 2) (pa_nil)))))))))
theorem Tx.ok_moved (T : Tx K mg) : C8.Cal P w K mg base 50 "moved" (sp_moved K) [] := PB.cal_ok (st := s_moved) (T.c.def_ 21 (d := d_moved) rfl) T.glo_moved sc_moved len_moved (fun _ _ _ _ _ _ us hl => match us, hl with | [_, _, _, _, _, _], _ => rfl) (b_moved T) (pure_moved K)
theorem sc_law_borders_right : FnScope N_law_borders_right ["sheet", "w", "h"] (defScope s_law_borders_right) := ⟨rfl, rfl, rfl, by decide +kernel, rfl, by decide +kernel, by decide +kernel⟩
theorem b_law_borders_right (T : Tx K mg) : PB.Body P w K mg base 0 N_law_borders_right "_law_borders_right" s_law_borders_right (t_law_borders_right K) := by
  intro f cdv A outer s H E hr
  exact pss_cons (ps_for PassesOwn.never rfl (pi_range1 rfl T.free_range (pa_cons (PB.pe_v 2) (pa_nil))) (pg_name (i := 3) sc_law_borders_right.nd rfl (Or.inl rfl)) (pss_one (ps_for PassesOwn.never rfl (pi_range1 rfl T.free_range (pa_cons (PB.pe_v 1) (pa_nil))) (pg_name (i := 4) sc_law_borders_right.nd rfl (Or.inl rfl)) (pss_cons (ps_set (i := 5) sc_law_borders_right.nd rfl (Or.inl rfl) (pe_ix PB.ix_m (pe_ix PB.ix_m (PB.pe_v 0) (PB.pe_v 3) (fun _ _ => rfl)) (PB.pe_v 4) (fun _ _ => rfl))) (
  C8.pss_cut (ps_if (PW.pt (pw_and (PB.pt_m (PB.op_mNe (PB.hu64 hr)) (PB.pe_v 5) (pe_int) (nomark _)) (pw_and (PB.pt_m PB.op_mLt (pe_op PB.op_mAdd (PB.pe_v 4) (pe_int)) (PB.pe_v 1) (nomark _)) (pw_and1 (PB.pt_m (PB.op_mNotIn (PB.hu65 hr)) (pe_ix PB.ix_m (pe_ix PB.ix_m (PB.pe_v 0) (PB.pe_v 3) (fun _ _ => rfl)) (pe_op PB.op_mAdd (PB.pe_v 4) (pe_int)) (fun _ _ => rfl)) (pe_lst (pa_cons (pe_int) (pa_cons (PB.pe_v 5) (pa_nil)))) (by with_unfolding_all rfl)))))) (pss_one (ps_ret (pe_bl))) (pss_nil)) (
  C8.pss_cut (ps_if (PW.pt (pw_and (PB.pt_m (PB.op_mNe (PB.hu64 hr)) (PB.pe_v 5) (pe_int) (nomark _)) (pw_and (PB.pt_m PB.op_mLt (pe_op PB.op_mAdd (PB.pe_v 3) (pe_int)) (PB.pe_v 2) (nomark _)) (pw_and1 (PB.pt_m (PB.op_mNotIn (PB.hu65 hr)) (pe_ix PB.ix_m (pe_ix PB.ix_m (PB.pe_v 0) (pe_op PB.op_mAdd (PB.pe_v 3) (pe_int)) (fun _ _ => rfl)) (PB.pe_v 4) (fun _ _ => rfl)) (pe_lst (pa_cons (pe_int) (pa_cons (PB.pe_v 5) (pa_nil)))) (by with_unfolding_all rfl)))))) (pss_one (ps_ret (pe_bl))) (pss_nil)) (
  pss_cons (ps_set (i := 6) sc_law_borders_right.nd rfl (Or.inl rfl) (PB.pe_mand (PB.pe_mch PB.op_mLt PB.op_mLt (pe_int) (PB.pe_v 4) (pe_op PB.op_mSub (PB.pe_v 1) (pe_int))) (PB.pe_mand (pe_cmpR (PB.op_mNe (PB.hu64 hr)) (pe_ix PB.ix_m (pe_ix PB.ix_m (PB.pe_v 0) (PB.pe_v 3) (fun _ _ => rfl)) (pe_op PB.op_mSub (PB.pe_v 4) (pe_int)) (fun _ _ => rfl)) (pe_int) (nomark _)) (pe_one (pe_cmpR (PB.op_mNe (PB.hu64 hr)) (pe_ix PB.ix_m (pe_ix PB.ix_m (PB.pe_v 0) (PB.pe_v 3) (fun _ _ => rfl)) (pe_op PB.op_mAdd (PB.pe_v 4) (pe_int)) (fun _ _ => rfl)) (pe_int) (nomark _)))))) (
  pss_cons (ps_set (i := 7) sc_law_borders_right.nd rfl (Or.inl rfl) (PB.pe_mand (PB.pe_mch PB.op_mLt PB.op_mLt (pe_int) (PB.pe_v 3) (pe_op PB.op_mSub (PB.pe_v 2) (pe_int))) (PB.pe_mand (pe_cmpR (PB.op_mNe (PB.hu64 hr)) (pe_ix PB.ix_m (pe_ix PB.ix_m (PB.pe_v 0) (pe_op PB.op_mSub (PB.pe_v 3) (pe_int)) (fun _ _ => rfl)) (PB.pe_v 4) (fun _ _ => rfl)) (pe_int) (nomark _)) (pe_one (pe_cmpR (PB.op_mNe (PB.hu64 hr)) (pe_ix PB.ix_m (pe_ix PB.ix_m (PB.pe_v 0) (pe_op PB.op_mAdd (PB.pe_v 3) (pe_int)) (fun _ _ => rfl)) (PB.pe_v 4) (fun _ _ => rfl)) (pe_int) (nomark _)))))) (
  pss_cons (ps_set (i := 8) sc_law_borders_right.nd rfl (Or.inl rfl) (PB.pe_mor (PB.pe_mand (pe_cmpR PB.op_mLt (pe_int) (PB.pe_v 4) (nomark _)) (pe_one (pe_cmpR (PB.op_mEq (PB.hu64 hr)) (pe_ix PB.ix_m (pe_ix PB.ix_m (PB.pe_v 0) (PB.pe_v 3) (fun _ _ => rfl)) (pe_op PB.op_mSub (PB.pe_v 4) (pe_int)) (fun _ _ => rfl)) (pe_int) (nomark _)))) (pe_one (PB.pe_mand (pe_cmpR PB.op_mLt (pe_op PB.op_mAdd (PB.pe_v 4) (pe_int)) (PB.pe_v 1) (nomark _)) (pe_one (pe_cmpR (PB.op_mEq (PB.hu64 hr)) (pe_ix PB.ix_m (pe_ix PB.ix_m (PB.pe_v 0) (PB.pe_v 3) (fun _ _ => rfl)) (pe_op PB.op_mAdd (PB.pe_v 4) (pe_int)) (fun _ _ => rfl)) (pe_int) (nomark _))))))) (
  pss_cons (ps_set (i := 8) sc_law_borders_right.nd rfl (Or.inl rfl) (PB.pe_mor (PB.pe_v 8) (PB.pe_mor (PB.pe_mand (pe_cmpR PB.op_mLt (pe_int) (PB.pe_v 3) (nomark _)) (pe_one (pe_cmpR (PB.op_mEq (PB.hu64 hr)) (pe_ix PB.ix_m (pe_ix PB.ix_m (PB.pe_v 0) (pe_op PB.op_mSub (PB.pe_v 3) (pe_int)) (fun _ _ => rfl)) (PB.pe_v 4) (fun _ _ => rfl)) (pe_int) (nomark _)))) (pe_one (PB.pe_mand (pe_cmpR PB.op_mLt (pe_op PB.op_mAdd (PB.pe_v 3) (pe_int)) (PB.pe_v 2) (nomark _)) (pe_one (pe_cmpR (PB.op_mEq (PB.hu64 hr)) (pe_ix PB.ix_m (pe_ix PB.ix_m (PB.pe_v 0) (pe_op PB.op_mAdd (PB.pe_v 3) (pe_int)) (fun _ _ => rfl)) (PB.pe_v 4) (fun _ _ => rfl)) (pe_int) (nomark _)))))))) (
  C8.pss_cut (ps_if (PW.pt (pw_and (PB.pt_m (PB.op_mEq (PB.hu64 hr)) (PB.pe_v 5) (pe_int) (nomark _)) (pw_and (pt_not (PB.pt_tru (PB.pe_v 6))) (pw_and (pt_not (PB.pt_tru (PB.pe_v 7))) (pw_and1 (pt_not (PB.pt_tru (PB.pe_v 8)))))))) (pss_one (ps_ret (pe_bl))) (pss_nil)) (
  C8.pss_cut (ps_if (PW.pt (pw_and (PB.pt_m (PB.op_mEq (PB.hu64 hr)) (PB.pe_v 5) (pe_int) (nomark _)) (pw_and1 (PW.pt (pw_or (PW.pt (pw_and (PB.pt_m (PB.op_mIn (PB.hu65 hr)) (PB.pe_v 3) (pe_lst (pa_cons (pe_int) (pa_cons (pe_op PB.op_mSub (PB.pe_v 2) (pe_int)) (pa_nil)))) (by with_unfolding_all rfl)) (pw_and1 (pt_not (PB.pt_tru (PB.pe_v 6)))))) (pw_or1 (PW.pt (pw_and (PB.pt_m (PB.op_mIn (PB.hu65 hr)) (PB.pe_v 4) (pe_lst (pa_cons (pe_int) (pa_cons (pe_op PB.op_mSub (PB.pe_v 1) (pe_int)) (pa_nil)))) (by with_unfolding_all rfl)) (pw_and1 (pt_not (PB.pt_tru (PB.pe_v 7)))))))))))) (pss_one (ps_ret (pe_bl))) (pss_nil)) (
  pss_one (ps_if (PW.pt (pw_and (PB.pt_m (PB.op_mEq (PB.hu64 hr)) (PB.pe_v 5) (pe_int) (nomark _)) (pw_and (PB.pt_m PB.op_mLt (pe_op PB.op_mAdd (PB.pe_v 3) (pe_int)) (PB.pe_v 2) (nomark _)) (pw_and (PB.pt_m PB.op_mLt (pe_op PB.op_mAdd (PB.pe_v 4) (pe_int)) (PB.pe_v 1) (nomark _)) (pw_and1 (PB.pt_mch3 (PB.op_mEq (PB.hu64 hr)) (PB.op_mEq (PB.hu64 hr)) (PB.op_mEq (PB.hu64 hr)) (pe_ix PB.ix_m (pe_ix PB.ix_m (PB.pe_v 0) (pe_op PB.op_mAdd (PB.pe_v 3) (pe_int)) (fun _ _ => rfl)) (PB.pe_v 4) (fun _ _ => rfl)) (pe_ix PB.ix_m (pe_ix PB.ix_m (PB.pe_v 0) (PB.pe_v 3) (fun _ _ => rfl)) (pe_op PB.op_mAdd (PB.pe_v 4) (pe_int)) (fun _ _ => rfl)) (pe_ix PB.ix_m (pe_ix PB.ix_m (PB.pe_v 0) (pe_op PB.op_mAdd (PB.pe_v 3) (pe_int)) (fun _ _ => rfl)) (pe_op PB.op_mAdd (PB.pe_v 4) (pe_int)) (fun _ _ => rfl)) (pe_int))))))) (pss_one (ps_ret (pe_bl))) (pss_nil))))))))))))))) (
  pss_one (ps_ret (pe_bl)))
theorem Tx.ok_law_borders_right (T : Tx K mg) : C8.Cal P w K mg base 1 "_law_borders_right" (sp_law_borders_right K) [] := PB.cal_ok (st := s_law_borders_right) (T.c.def_ 22 (d := d_law_borders_right) rfl) T.glo__law_borders_right sc_law_borders_right len_law_borders_right (fun _ _ _ _ _ _ us hl => match us, hl with | [_, _, _], _ => rfl) (b_law_borders_right T) (pure_law_borders_right K)
theorem sc_law_sheet : FnScope N_law_sheet ["told", "w", "h"] (defScope s_law_sheet) := ⟨rfl, rfl, rfl, by decide +kernel, rfl, by decide +kernel, by decide +kernel⟩
theorem b_law_sheet (T : Tx K mg) : PB.Body P w K mg base 0 N_law_sheet "_law_sheet" s_law_sheet (t_law_sheet K) := by
  intro f cdv A outer s H E hr
  exact pss_cons (ps_setLc (i := 3) (own := [("r", 5)]) rfl sc_law_sheet.nd rfl rfl (sw_true rfl rfl rfl (by decide +kernel)) (pi_range1 rfl T.free_range (pa_cons (PB.pe_v 2) (pa_nil))) (blkOk_by (own := [("r", 5)]) (N := N_law_sheet) (sc := defScope s_law_sheet) (by decide +kernel)) (fun _ _ _ _ _ => pg_name (i := 5) sc_law_sheet.nd rfl (Or.inl rfl)) (fun _ _ _ _ _ => pts_nil) (fun _ _ _ _ _ => pe_op PB.op_mMul (pe_lst (pa_cons (pe_int) (pa_nil))) (PB.pe_v 1))) (
  pss_cons (ps_for PassesOwn.never rfl (pi_list (PB.pe_v 0)) (pg_tup (by rfl) (pgs_cons (pg_name (i := 4) sc_law_sheet.nd rfl (Or.inl rfl)) (pgs_cons (pg_name (i := 5) sc_law_sheet.nd rfl (Or.inl rfl)) (pgs_cons (pg_name (i := 6) sc_law_sheet.nd rfl (Or.inl rfl)) (pgs_cons (pg_name (i := 7) sc_law_sheet.nd rfl (Or.inl rfl)) (pgs_cons (pg_name (i := 8) sc_law_sheet.nd rfl (Or.inl rfl)) (pgs_nil))))))) (C8.pss_cut (ps_if (PW.pt (pw_or (PB.pt_m PB.op_mLt (PB.pe_v 7) (pe_int) (nomark _)) (pw_or (PB.pt_m PB.op_mLt (PB.pe_v 8) (pe_int) (nomark _)) (pw_or (PB.pt_m PB.op_mLt (PB.pe_v 5) (pe_int) (nomark _)) (pw_or (PB.pt_m PB.op_mLt (PB.pe_v 6) (pe_int) (nomark _)) (pw_or (PB.pt_m PB.op_mGt (pe_op PB.op_mAdd (PB.pe_v 5) (PB.pe_v 8)) (PB.pe_v 2) (nomark _)) (pw_or1 (PB.pt_m PB.op_mGt (pe_op PB.op_mAdd (PB.pe_v 6) (PB.pe_v 7)) (PB.pe_v 1) (nomark _))))))))) (pss_one (ps_ret (pe_non))) (pss_nil)) (
  pss_one (ps_for PassesOwn.never rfl (pi_range2 rfl T.free_range (pa_cons (PB.pe_v 5) (pa_cons (pe_op PB.op_mAdd (PB.pe_v 5) (PB.pe_v 8)) (pa_nil)))) (pg_name (i := 9) sc_law_sheet.nd rfl (Or.inl rfl)) (pss_one (ps_for PassesOwn.never rfl (pi_range2 rfl T.free_range (pa_cons (PB.pe_v 6) (pa_cons (pe_op PB.op_mAdd (PB.pe_v 6) (PB.pe_v 7)) (pa_nil)))) (pg_name (i := 10) sc_law_sheet.nd rfl (Or.inl rfl)) (C8.pss_cut (ps_if (PB.pt_m (PB.op_mNe (PB.hu64 hr)) (pe_ix PB.ix_m (pe_ix PB.ix_m (PB.pe_v 3) (PB.pe_v 9) (fun _ _ => rfl)) (PB.pe_v 10) (fun _ _ => rfl)) (pe_int) (nomark _)) (pss_one (ps_ret (pe_non))) (pss_nil)) (
  pss_one (ps_asg (PB.pe_v 4) (pg_sub (pe_ix PB.ix_m (PB.pe_v 3) (PB.pe_v 9) (fun _ _ => rfl)) (PB.pe_v 10) PB.set_m)))))))))) (
  pss_one (ps_ret (PB.pe_v 3))))
theorem Tx.ok_law_sheet (T : Tx K mg) : C8.Cal P w K mg base 1 "_law_sheet" (sp_law_sheet K) [] := PB.cal_ok (st := s_law_sheet) (T.c.def_ 23 (d := d_law_sheet) rfl) T.glo__law_sheet sc_law_sheet len_law_sheet (fun _ _ _ _ _ _ us hl => match us, hl with | [_, _, _], _ => rfl) (b_law_sheet T) (pure_law_sheet K)
theorem sc_law_step : FnScope N_law_step ["layout", "w", "h", "cell", "new"] (defScope s_law_step) := ⟨rfl, rfl, rfl, by decide +kernel, rfl, by decide +kernel, by decide +kernel⟩
theorem b_law_step (T : Tx K mg) : PB.Body P w K mg base 52 N_law_step "_law_step" s_law_step (t_law_step K) := by
  intro f cdv A outer s H E hr
  exact pss_cons (ps_set (i := 5) sc_law_step.nd rfl (Or.inl rfl) (PB.pe_mc (T.ok_panes 24) hr (by omega) rfl (pa_cons (PB.pe_v 0) (pa_nil)))) (
  pss_cons (ps_set (i := 6) sc_law_step.nd rfl (Or.inr rfl) (pe_ix PB.ix_m (PB.pe_v 5) (pe_op PB.op_mMod (PB.pe_v 3) (pe_callB PB.call_mLen rfl T.free_len (by decide +kernel) (pa_cons (PB.pe_v 5) (pa_nil)))) (fun _ _ => rfl))) (
  pss_cons (ps_set (i := 7) sc_law_step.nd rfl (Or.inl rfl) (pe_ix PB.ix_m (pe_lst (pa_cons (pe_str) (pa_cons (pe_str) (pa_nil)))) (pe_op PB.op_mMod (pe_op PB.op_mDiv (PB.pe_v 3) (pe_int)) (pe_int)) (fun _ _ => rfl))) (
  pss_cons (ps_set (i := 8) sc_law_step.nd rfl (Or.inl rfl) (pe_op PB.op_mMod (pe_op PB.op_mDiv (PB.pe_v 3) (pe_int)) (pe_int))) (
  C8.pss_cut (ps_if (PB.pt_m PB.op_mLt (PB.pe_v 8) (pe_int) (nomark _)) (pss_one (ps_try_only (tb := fun W : WX => tRet (tTup (tCons (tCallS (sp_divided K) (WE W) (tCons (PB.mVar 0) (tCons (PB.mVar 1) (tCons (PB.mVar 2) (tCons (PB.mVar 6) (tCons (PB.mVar 7) (tCons (PB.mVar 4) (tNil)))))))) (tCons (tOp (PB.mAdd K) (PB.mVar 5) (tLst (tCons (PB.mVar 4) (tNil)))) (tNil))))) (ts := (fun a cls d D σ H => (cls = .ref (He.ga K "NoRoom") ∧ d = none) ∧ (tRet (tTup (tCons (PB.mVar 0) (tCons (PB.mVar 5) (tNil))))) D σ H)) rfl rfl ⟨rfl, by decide, .inl T.glo_NoRoom⟩ takes0 (fun W pn xe tk _ => pss_one (ps_ret (pe_tup (pa_cons (PV.pe_mcS T.ok_divided hr (by omega) rfl (fun σ => passAt tk σ) (pa_cons (PB.pe_v 0) (pa_cons (PB.pe_v 1) (pa_cons (PB.pe_v 2) (pa_cons (PB.pe_v 6) (pa_cons (PB.pe_v 7) (pa_cons (PB.pe_v 4) (pa_nil)))))))) (pa_cons (pe_op PB.op_mAdd (PB.pe_v 5) (pe_lst (pa_cons (PB.pe_v 4) (pa_nil)))) (pa_nil)))))) (fun a oe cls d pn hz hf => PV.pss_given fun g => by obtain ⟨rfl, rfl⟩ := g; exact pss_one (ps_ret (pe_tup (pa_cons (PB.pe_v 0) (pa_cons (PB.pe_v 5) (pa_nil)))))))) (pss_nil)) (
  C8.pss_cut (ps_if (PW.pt (pw_or (PB.pt_m (PB.op_mEq (PB.hu64 hr)) (PB.pe_v 8) (pe_int) (nomark _)) (pw_or1 (PB.pt_m (PB.op_mEq (PB.hu64 hr)) (pe_callB PB.call_mLen rfl T.free_len (by decide +kernel) (pa_cons (PB.pe_v 5) (pa_nil))) (pe_int) (nomark _))))) (pss_one (ps_ret (pe_tup (pa_cons (PB.pe_mc T.ok_moved hr (by decide) rfl (pa_cons (PB.pe_v 0) (pa_cons (PB.pe_v 1) (pa_cons (PB.pe_v 2) (pa_cons (PB.pe_v 6) (pa_cons (PB.pe_v 7) (pa_cons (pe_op PB.op_mSub (pe_op PB.op_mMod (pe_op PB.op_mDiv (PB.pe_v 3) (pe_int)) (pe_int)) (pe_int)) (pa_nil)))))))) (pa_cons (PB.pe_v 5) (pa_nil)))))) (pss_nil)) (
  pss_one (ps_ret (pe_tup (pa_cons (PB.pe_mc T.ok_without hr (by decide) rfl (pa_cons (PB.pe_v 0) (pa_cons (PB.pe_v 1) (pa_cons (PB.pe_v 2) (pa_cons (PB.pe_v 6) (pa_nil)))))) (pa_cons (pe_lc (own := [("one", 9)]) rfl sc_law_step.nd (PV.pi_sq (PB.pe_v 5)) (blkOk_by (own := [("one", 9)]) (N := N_law_step) (sc := defScope s_law_step) (by decide +kernel)) (fun _ _ _ _ _ => pg_name (i := 9) sc_law_step.nd rfl (Or.inl rfl)) (fun _ _ _ _ _ => pts_one (PB.pt_m (PB.op_mNe (PB.hu64 hr)) (PB.pe_v 9) (PB.pe_v 6) (nomark _))) (fun _ _ _ _ _ => PB.pe_v 9)) (pa_nil)))))))))))
theorem Tx.ok_law_step (T : Tx K mg) : C8.Cal P w K mg base 53 "_law_step" (sp_law_step K) [] := PB.cal_ok (st := s_law_step) (T.c.def_ 24 (d := d_law_step) rfl) T.glo__law_step sc_law_step len_law_step (fun _ _ _ _ _ _ us hl => match us, hl with | [_, _, _, _, _], _ => rfl) (b_law_step T) (pure_law_step K T.ex_exm_NoRoom)
theorem sc_law : FnScope N_law ["script"] (defScope s_law) := ⟨rfl, rfl, rfl, by decide +kernel, rfl, by decide +kernel, by decide +kernel⟩
theorem b_law (T : Tx K mg) : PB.Body P w K mg base 53 N_law "law" s_law (t_law K) := by
  intro f cdv A outer s H E hr
  exact pss_cons (ps_set (i := 1) sc_law.nd rfl (Or.inl rfl) (pe_op PB.op_mAdd (pe_int) (pe_op PB.op_mMod (PB.pe_mc T.ok_law_cell hr (by decide) rfl (pa_cons (PB.pe_v 0) (pa_cons (pe_int) (pa_nil)))) (pe_int)))) (
  pss_cons (ps_set (i := 2) sc_law.nd rfl (Or.inl rfl) (pe_op PB.op_mAdd (pe_int) (pe_op PB.op_mMod (pe_op PB.op_mDiv (PB.pe_mc T.ok_law_cell hr (by decide) rfl (pa_cons (PB.pe_v 0) (pa_cons (pe_int) (pa_nil)))) (pe_int)) (pe_int)))) (
  pss_cons (ps_set (i := 3) sc_law.nd rfl (Or.inl rfl) (pe_int)) (
  pss_cons (ps_set (i := 4) sc_law.nd rfl (Or.inl rfl) (pe_int)) (
  pss_cons (ps_for PassesOwn.never rfl (PV.pi_sq (pe_slice PB.sl_m (PB.pe_v 0) (PB.po_m (pe_int)) (PB.po_m (pe_int)))) (pg_name (i := 5) sc_law.nd rfl (Or.inl rfl)) (C8.pss_cut (ps_if (PB.pt_m (PB.op_mEq (PB.hu64 hr)) (pe_op PB.op_mMod (pe_op PB.op_mDiv (pe_callTy PB.call_mInt rfl T.free_int (by decide +kernel) (pa_cons (PB.pe_v 5) (pa_nil))) (pe_int)) (pe_int)) (pe_int) (nomark _)) (pss_cons (ps_set (i := 1) sc_law.nd rfl (Or.inl rfl) (pe_op PB.op_mAdd (pe_int) (pe_op PB.op_mMod (pe_op PB.op_mDiv (pe_callTy PB.call_mInt rfl T.free_int (by decide +kernel) (pa_cons (PB.pe_v 5) (pa_nil))) (pe_int)) (pe_int)))) (
  pss_one (ps_set (i := 2) sc_law.nd rfl (Or.inl rfl) (pe_op PB.op_mAdd (pe_int) (pe_op PB.op_mMod (pe_op PB.op_mDiv (pe_callTy PB.call_mInt rfl T.free_int (by decide +kernel) (pa_cons (PB.pe_v 5) (pa_nil))) (pe_int)) (pe_int)))))) (pss_nil)) (
  pss_cons (ps_set (i := 4) sc_law.nd rfl (Or.inl rfl) (pe_op PB.op_mAdd (PB.pe_v 4) (pe_int))) (
  pss_cons (ps_asg (PB.pe_mc T.ok_law_step hr (by decide) rfl (pa_cons (PB.pe_v 3) (pa_cons (PB.pe_v 1) (pa_cons (PB.pe_v 2) (pa_cons (pe_callTy PB.call_mInt rfl T.free_int (by decide +kernel) (pa_cons (PB.pe_v 5) (pa_nil))) (pa_cons (PB.pe_v 4) (pa_nil))))))) (pg_tup (by rfl) (pgs_cons (pg_name (i := 3) sc_law.nd rfl (Or.inl rfl)) (pgs_cons (pg_name (i := 6) sc_law.nd rfl (Or.inl rfl)) (pgs_nil))))) (
  C8.pss_cut (ps_if (PB.pt_m (PB.op_mNe (PB.hu64 hr)) (pe_callB cr_sortedI rfl T.free_sorted (by decide +kernel) (pa_cons (PB.pe_mc (T.ok_panes 24) hr (by omega) rfl (pa_cons (PB.pe_v 3) (pa_nil))) (pa_nil))) (pe_callB cr_sortedI rfl T.free_sorted (by decide +kernel) (pa_cons (PB.pe_v 6) (pa_nil))) (nomark _)) (pss_one (ps_ret (pe_bl))) (pss_nil)) (
  pss_cons (ps_set (i := 7) sc_law.nd rfl (Or.inl rfl) (PB.pe_mc T.ok_boxes hr (by decide) rfl (pa_cons (PB.pe_v 3) (pa_cons (PB.pe_v 1) (pa_cons (PB.pe_v 2) (pa_nil)))))) (
  pss_cons (ps_set (i := 8) sc_law.nd rfl (Or.inl rfl) (PB.pe_mc (T.ok_least 24) hr (by omega) rfl (pa_cons (PB.pe_v 3) (pa_nil)))) (
  pss_cons (ps_set (i := 9) sc_law.nd rfl (Or.inl rfl) (PB.pe_mc T.ok_law_sheet hr (by decide) rfl (pa_cons (PB.pe_v 7) (pa_cons (pe_callB (PB.call_mMax2 rfl) rfl T.free_max (by decide +kernel) (pa_cons (PB.pe_v 1) (pa_cons (pe_ix PB.ix_m (PB.pe_v 8) (pe_int) (fun _ _ => rfl)) (pa_nil)))) (pa_cons (pe_callB (PB.call_mMax2 rfl) rfl T.free_max (by decide +kernel) (pa_cons (PB.pe_v 2) (pa_cons (pe_ix PB.ix_m (PB.pe_v 8) (pe_int) (fun _ _ => rfl)) (pa_nil)))) (pa_nil)))))) (
  C8.pss_cut (ps_if (PW.pt (pw_or (PB.pt_m PB.op_mIsN (PB.pe_v 9) pe_non (nomark _)) (pw_or1 (PB.pt_m (PB.op_mNe (PB.hu64 hr)) (pe_lc (own := [("box", 11)]) rfl sc_law.nd (PV.pi_sq (PB.pe_v 7)) (blkOk_by (own := [("box", 11)]) (N := N_law) (sc := defScope s_law) (by decide +kernel)) (fun _ _ _ _ _ => pg_name (i := 11) sc_law.nd rfl (Or.inl rfl)) (fun _ _ _ _ _ => pts_nil) (fun _ _ _ _ _ => pe_ix PB.ix_m (PB.pe_v 11) (pe_int) (fun _ _ => rfl))) (PB.pe_mc (T.ok_panes 24) hr (by omega) rfl (pa_cons (PB.pe_v 3) (pa_nil))) (nomark _))))) (pss_one (ps_ret (pe_bl))) (pss_nil)) (
  C8.pss_cut (ps_if (pt_not (PB.pt_tru (PB.pe_mc T.ok_law_borders_right hr (by decide) rfl (pa_cons (PB.pe_v 9) (pa_cons (pe_callB (PB.call_mMax2 rfl) rfl T.free_max (by decide +kernel) (pa_cons (PB.pe_v 1) (pa_cons (pe_ix PB.ix_m (PB.pe_v 8) (pe_int) (fun _ _ => rfl)) (pa_nil)))) (pa_cons (pe_callB (PB.call_mMax2 rfl) rfl T.free_max (by decide +kernel) (pa_cons (PB.pe_v 2) (pa_cons (pe_ix PB.ix_m (PB.pe_v 8) (pe_int) (fun _ _ => rfl)) (pa_nil)))) (pa_nil))))))) (pss_one (ps_ret (pe_bl))) (pss_nil)) (
  pss_cons (ps_set (i := 10) sc_law.nd rfl (Or.inl rfl) (pe_callB (cr_sum rfl) rfl T.free_sum (by decide +kernel) (pa_cons (pe_lc (own := [("box", 11)]) rfl sc_law.nd (PV.pi_sq (PB.pe_v 7)) (blkOk_by (own := [("box", 11)]) (N := N_law) (sc := defScope s_law) (by decide +kernel)) (fun _ _ _ _ _ => pg_name (i := 11) sc_law.nd rfl (Or.inl rfl)) (fun _ _ _ _ _ => pts_nil) (fun _ _ _ _ _ => pe_op PB.op_mMul (pe_ix PB.ix_m (PB.pe_v 11) (pe_int) (fun _ _ => rfl)) (pe_ix PB.ix_m (PB.pe_v 11) (pe_int) (fun _ _ => rfl)))) (pa_nil)))) (
  pss_one (ps_if (PW.pt (pw_and (PB.pt_m (PB.op_mEq (PB.hu64 hr)) (pe_callB PB.call_mLen rfl T.free_len (by decide +kernel) (pa_cons (PB.pe_v 7) (pa_nil))) (pe_int) (nomark _)) (pw_and1 (PB.pt_m (PB.op_mNe (PB.hu64 hr)) (PB.pe_v 10) (pe_op PB.op_mMul (pe_callB (PB.call_mMax2 rfl) rfl T.free_max (by decide +kernel) (pa_cons (PB.pe_v 1) (pa_cons (pe_ix PB.ix_m (PB.pe_v 8) (pe_int) (fun _ _ => rfl)) (pa_nil)))) (pe_callB (PB.call_mMax2 rfl) rfl T.free_max (by decide +kernel) (pa_cons (PB.pe_v 2) (pa_cons (pe_ix PB.ix_m (PB.pe_v 8) (pe_int) (fun _ _ => rfl)) (pa_nil))))) (nomark _))))) (pss_one (ps_ret (pe_bl))) (pss_nil)))))))))))))) (
  pss_one (ps_ret (pe_cmpR (PB.op_mEq (PB.hu64 hr)) (PB.pe_mc (T.ok_fitted 24) hr (by omega) rfl (pa_cons (PB.pe_v 3) (pa_cons (PB.pe_v 1) (pa_cons (PB.pe_v 2) (pa_nil))))) (PB.pe_mc (T.ok_fitted 24) hr (by omega) rfl (pa_cons (PB.pe_mc (T.ok_fitted 24) hr (by omega) rfl (pa_cons (PB.pe_v 3) (pa_cons (PB.pe_v 1) (pa_cons (PB.pe_v 2) (pa_nil))))) (pa_cons (PB.pe_v 1) (pa_cons (PB.pe_v 2) (pa_nil))))) (nomark _))))))))
theorem Tx.ok_law (T : Tx K mg) : C8.Cal P w K mg base 54 "law" (sp_law K) [] := PB.cal_ok (st := s_law) (T.c.def_ 25 (d := d_law) rfl) T.glo_law sc_law len_law (fun _ _ _ _ _ _ us hl => match us, hl with | [_], _ => rfl) (b_law T) (pure_law K)
end
theorem last {P : Program} {w : World} {K : PySem.W.Frag} {h : Heap} {mg : Str → Option Value} {f : Addr} (X : K.In h) (G : h.Ns mainGlobals mg) (hfa : mg ("law" : Str) = some (.ref f)) (c : He.SaysD fa fn K) (x : ex K = true) :
    ∃ fd : FuncData, (∀ (s : Shared) (v : Value), BindsTo s fd ⟨[v], []⟩ [("script", v)]) ∧ ∀ base : Heap, K.In base → base.Ns mainGlobals mg → FnOk P w K mg base CX0 54 f fd ["script"] (sp_law K) := by
  have T : Tx K mg := ⟨c, x, h, X, G⟩
  obtain ⟨fd, F⟩ := c.def_ 25 (d := d_law) rfl
  have e := hfa.symm.trans T.glo_law
  cases e
  have b := FunD.bindsA (ps := ["script"]) F fun _ _ _ _ _ _ us hl => match us, hl with | [_], _ => rfl
  exact ⟨fd, fun s v => b s [v] rfl, fun base _ _ => PB.fn_ok F sc_law len_law (b_law T) (pure_law K)⟩
end PG
open PySem PySem.W PySem.Calls PyProof.Rows
set_option maxHeartbeats 0 in
theorem PySem.Challenge.cw_manypanes_k25_whole_layouts_tile_the_are_holds : PySem.Challenge.rw_manypanes_k25_whole_layouts_tile_the_are.Holds := by
  w_on; o_law
  refine HandSHeadRun.head_any (r := PG.Rw) (q := PySem.W.view PG.Rw.prog [36]) (H := PG.hk) (ob := PG.ob) (M := 6000) (loose := PG.loose) (d := HandSHeadRun.topDef PG.Rw.prog 36) (kwd := []) PG.ob_is
    (by kernel_rfl) (fun s => by kernel_rfl) PG.runs (by kernel_rfl) (by kernel_rfl) (by kernel_rfl) (by rfl) (by first | assumption | decide +kernel) (by decide +kernel) ⟨rfl, rfl, rfl, rfl, rfl, by decide +kernel⟩ ?hw ?hc
  case hw => w_witness2
  case hc =>
    refine L2.walk_ofE (l := PySem.Challenge.rw_manypanes_k25_whole_layouts_tile_the_are) (n := 63) (k := 54) (x := "script") (CX := L2.CX0) rfl (by decide) (by kernel_rfl) ⟨rfl, by decide, by decide⟩ ?F (fun _ _ _ _ z => z)
    intro w mg fa h Y G hmg0
    obtain ⟨K, KX, c, x⟩ := Y
    have hmg : mg ("law" : PySem.Str) = some (.ref fa) := by
      have e : (HandSHeadRun.topDef PG.Rw.prog 36).name = ("law" : PySem.Str) := by kernel_rfl
      rw [← e]
      exact hmg0
    obtain ⟨fd, hb, hF⟩ := PG.last (P := (PySem.Challenge.rw_manypanes_k25_whole_layouts_tile_the_are).prog) (w := w) KX G hmg c x
    exact ⟨K, fd, PG.sp_law K, KX, hb, fun H a ns hl _ hS => ⟨H, [.fro (ns.map .int)], .bl true, PB.Ext.refl _, .cons (.fro hS (PV.DvA.ofInts ns)) .nil, PG.law_true ns hl, fun S' H' v _ h => by cases h; rfl⟩, hF⟩
namespace PG
end PG
