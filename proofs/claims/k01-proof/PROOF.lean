import PyProof.Rows.All
import Wide.All
import OpenK.AllK
import Wide.FinOn
import HandS.Base
import HandS.Call
import HandS.List
import HandS.Comp
import HandS.Dict
import HandS.Iter
import HandS.Text
import HandS.Ends
import HandS.Words
import HandS.WordsList
import PySem.Challenge.RW_answerpiles_k01_errors
import HandS.IsInst
import HandS.Walk
import HandS.Exc
import HandS.ExcOwn
import HandS.ExcInit
import HandS.ExcField
import HandS.ExcIs
import HandS.WordsExc
import HandS.Defaults
import HandS.MakeKwOnly
import HandS.ExcValue
import PyProof.ExcBaseAll.OverflowError
import PyProof.ExcBaseAll.LookupError
import KE.KExcInit
import KE.KIsAll
import KE.KTryMore
import PyProof.ReprRoads
import PyProof.ReprLen
import HandS.HeadEnd
set_option Elab.async false
set_option linter.all false
set_option maxRecDepth 100000
set_option maxHeartbeats 2000000
namespace My
open PySem PySem.Spec PyProof.Rows L2
def topOf (nm : Str) : List Stmt → Stmt
  | [] => .Pass ⟨0, 0, 0, 0⟩
  | s :: r => match s with
    | .FunctionDef n _ _ _ _ _ _ _ _ _ => if n = nm then s else topOf nm r
    | .ClassDef n _ _ _ _ _ _ _ _ _ _ => if n = nm then s else topOf nm r
    | _ => topOf nm r
def topI (i : Nat) : Stmt := PySem.Challenge.pw_answerpiles_k01_errors.main.body.getD i (.Pass ⟨0, 0, 0, 0⟩)
/-- built-in names that the module leaves alone -/
structure Bn (mg : Str → Option Value) : Prop where
  max : mg "max" = none
  min : mg "min" = none
  int : mg "int" = none
  str : mg "str" = none
  bool : mg "bool" = none
  len : mg "len" = none
  all : mg "all" = none
  range : mg "range" = none
  dict : mg "dict" = none
  enumerate : mg "enumerate" = none
  isinstance : mg "isinstance" = none
  repr : mg "repr" = none
  list : mg "list" = none
  tuple : mg "tuple" = none
  set : mg "set" = none
  sorted : mg "sorted" = none
end My

set_option Elab.async false
set_option linter.all false
set_option maxRecDepth 100000
set_option maxHeartbeats 2000000
namespace My
open PySem PySem.Spec PyProof.Rows L2
/-! ### what a reading says, as equations -/
section
variable {σ : L2.St} {H : Hp} {Q : VK} {D : Ends} {ta tb tc te : TE} {t u : TS} {tt tu : TT} {i j : Nat} {v x y : V} {g : TG}
theorem rd_seq : tSeq t u D σ H = t { D with nx := u D } σ H := rfl
theorem rd_next : tNext D σ H = D.nx σ H := rfl
theorem rd_brk : tBreak D σ H = D.bk σ H := rfl
theorem rd_cont : tCont D σ H = D.ct σ H := rfl
theorem rd_asg : tAsg te g D σ H = te σ H fun x H1 => g x σ H1 D.nx := rfl
theorem rd_gname {Q : L2.St → Hp → Prop} : gName i v σ H Q = Q (σ.set i (some v)) H := rfl
theorem rd_var : tVar i σ H Q = ∃ v, σ[i]? = some (some v) ∧ Q v H := rfl
theorem rd_c : tC v σ H Q = Q v H := rfl
theorem rd_op {r : R2} : tOp r ta tb σ H Q = ta σ H fun x H1 => tb σ H1 fun y H2 => r x y H2 Q := rfl
theorem rd_un {r : V → Hp → VK → Prop} : tUn r ta σ H Q = ta σ H fun x H1 => r x H1 Q := rfl
theorem rd_rI0 {f : Int → Int → V} {a b : Int} : rI0 f (.int a) (.int b) H Q = Q (f a b) H := by
  simp [rI0]
theorem rd_rI {C : Int → Int → Prop} {f : Int → Int → V} {a b : Int} : rI C f (.int a) (.int b) H Q = (C a b ∧ Q (f a b) H) := by
  simp [rI]
theorem rd_rU {f : Int → V} {a : Int} : rU f (.int a) H Q = Q (f a) H := by
  simp [rU]
theorem rd_test {Q : Bool → Hp → Prop} : tTest te σ H Q = te σ H fun x H' => ∃ k, x = .bl k ∧ Q k H' := rfl
theorem rd_B {Q : Bool → Hp → Prop} : tB te σ H Q = te σ H fun x H' => ∃ k, x = .bl k ∧ Q k H' := rfl
theorem rd_and {Q : Bool → Hp → Prop} : tAnd tt tu σ H Q = tt σ H fun c H1 => if c = true then tu σ H1 Q else Q false H1 := rfl
theorem rd_or {Q : Bool → Hp → Prop} : tOr tt tu σ H Q = tt σ H fun c H1 => if c = true then Q true H1 else tu σ H1 Q := rfl
theorem rd_not {Q : Bool → Hp → Prop} : tNot tt σ H Q = tt σ H fun c H1 => Q (!c) H1 := rfl
theorem rd_andV : tAndV ta tb σ H Q = ta σ H fun x H1 => ∃ c, x = .bl c ∧ if c = true then tb σ H1 Q else Q (.bl false) H1 := rfl
theorem rd_orV : tOrV ta tb σ H Q = ta σ H fun x H1 => ∃ c, x = .bl c ∧ if c = true then Q (.bl true) H1 else tb σ H1 Q := rfl
theorem rd_notV : tNotV ta σ H Q = ta σ H fun x H1 => ∃ c, x = .bl c ∧ Q (.bl (!c)) H1 := rfl
theorem rd_ifx : tIf tt ta tb σ H Q = tt σ H fun c H1 => if c = true then ta σ H1 Q else tb σ H1 Q := rfl
theorem rd_ifs : tIfS tt t u D σ H = tt σ H fun b H1 => if b = true then t D σ H1 else u D σ H1 := rfl
theorem rd_drop : tDrop te D σ H = te σ H fun _ H1 => D.nx σ H1 := rfl
theorem rd_ret : tRet te D σ H = te σ H D.rt := rfl
theorem rd_nil {Q : List V → Hp → Prop} : tNil σ H Q = Q [] H := rfl
theorem rd_cons {tr : TA} {Q : List V → Hp → Prop} : tCons ta tr σ H Q = ta σ H fun x H1 => tr σ H1 fun xs H2 => Q (x :: xs) H2 := rfl
theorem rd_cb {r : List V → Hp → VK → Prop} {tr : TA} : tCB r tr σ H Q = tr σ H fun vs H1 => r vs H1 Q := rfl
theorem rd_tup {tr : TA} : tTup tr σ H Q = tr σ H fun xs H1 => xs.length ≤ sizeLine ∧ ∀ p, H1 p = none → Q (.ref p) (upd H1 p (.tup xs)) := rfl
theorem rd_lst {tr : TA} : tLst tr σ H Q = tr σ H fun xs H1 => xs.length ≤ sizeLine ∧ ∀ p, H1 p = none → Q (.ref p) (upd H1 p (.lst xs)) := rfl
theorem rd_call {sp : Sp} {dvs : List V} {E : XK} {tr : TA} : tCall sp dvs E tr σ H Q = tr σ H fun vs H1 => sp (vs ++ dvs) H1 Q E := rfl
theorem rd_bm {K : PySem.W.Frag} {T : String} {r : V → List V → Hp → VK → Prop} {tr : TA} : tBM K T r ta tr σ H Q = ta σ H fun x H1 => tyV K T x H1 ∧ tr σ H1 fun xs H2 => r x xs H2 Q := rfl
/-- a new thing -/
theorem tyL {K : PySem.W.Frag} {a : Addr} {xs : List V} (h : SqL K H a xs) : tyV K "list" (.ref a) H := Or.inl ⟨rfl, _, h⟩
end
theorem sz {n : Nat} (h : n ≤ 100000) : n ≤ sizeLine := Nat.le_trans h (by decide)
theorem szl {n : Nat} (h : n < 100000) : n < sizeLine := Nat.lt_of_lt_of_le h (by decide)
theorem Same.new {H H' : Hp} {p : Addr} {o : HO} (e : Same H H') (h : H p = none) : Same H (upd H' p o) := fun a u ha => by
  rw [upd_ne (ne_of_none ha h)]
  exact e a u ha
theorem Same.new' {H H' : Hp} {p : Addr} {o : HO} (e : Same H H') (h : H' p = none) : Same H (upd H' p o) := fun a u ha => by
  rw [upd_ne (ne_of_none (e a u ha) h)]
  exact e a u ha
theorem ex_bl {P : Bool → Prop} {b : Bool} : (∃ k, V.bl b = V.bl k ∧ P k) = P b := by simp
end My
namespace My
open PySem PySem.Spec PyProof.Rows L2
section
variable {σ : L2.St} {H : Hp} {Q : VK} {D : Ends} {tb : TS} {j : Nat}
/-- for x in range(m) -/
theorem for_r1 {ta : TA} {m : Int} (hm : 0 ≤ m ∧ m ≤ 100000) (h : ∀ Q : List V → Hp → Prop, Q [.int m] H → ta σ H Q) (Pv : Nat → L2.St → Hp → Prop) (h0 : Pv 0 σ H)
    (hs : ∀ (i : Nat) (σ' : L2.St) (H' : Hp), (i : Int) < m → Pv i σ' H' → tb { D with nx := Pv (i + 1), ct := Pv (i + 1), bk := D.nx } (σ'.set j (some (.int (i : Int)))) H') (hd : ∀ σ' H', Pv m.toNat σ' H' → D.nx σ' H') : tFor (iRng1 ta) (gName j) tb D σ H :=
  h _ ⟨m, rfl, by omega, by omega, for_range (lo := 0) (n := m.toNat) Pv h0 (fun i σ' H' hi p => by
    have e0 : (0 : Int) + (i : Int) = (i : Int) := Int.zero_add _
    show tb { D with nx := Pv (i + 1), ct := Pv (i + 1), bk := D.nx } (σ'.set j (some (.int ((0 : Int) + (i : Int))))) H'
    rw [e0]
    exact hs i σ' H' (by omega) p) hd⟩
end
end My

namespace L2
theorem PE.imp {X : Cx} {e : PySem.Expr} {t t' : TE} (h : PE X e t) (k : ∀ σ H Q, t' σ H Q → t σ H Q) : PE X e t' := ⟨fun pins s σ H Q I q => h.run pins s σ H Q I (k σ H Q q)⟩
theorem PT.imp {X : Cx} {e : PySem.Expr} {t t' : TT} (h : PT X e t) (k : ∀ σ H Q, t' σ H Q → t σ H Q) : PT X e t' := ⟨fun pins s σ H Q I q => h.run pins s σ H Q I (k σ H Q q)⟩
theorem PS.imp {X : Cx} {e : PySem.Stmt} {t t' : TS} (h : PS X e t) (k : ∀ D σ H, t' D σ H → t D σ H) : PS X e t' := ⟨fun pins s σ H D I q => h.run pins s σ H D I (k D σ H q)⟩
theorem OpR.imp {X : Cx} {f : PySem.Value → PySem.Value → PySem.Sem PySem.Value} {r r' : R2} (h : OpR X f r) (k : ∀ x y H Q, r' x y H Q → r x y H Q) : OpR X f r' := fun pins s σ H x y v u Q I rx ry q => h pins s σ H x y v u Q I rx ry (k x y H Q q)
theorem IxR.imp {X : Cx} {r r' : R2} (h : IxR X r) (k : ∀ x y H Q, r' x y H Q → r x y H Q) : IxR X r' := fun e1 e2 pins s σ H x y v u Q I rx ry q hs => h e1 e2 pins s σ H x y v u Q I rx ry (k x y H Q q) hs
theorem CallR.imp {X : Cx} {f : PySem.Value} {r r' : List V → Hp → VK → Prop} (h : CallR X f r) (k : ∀ xs H Q, r' xs H Q → r xs H Q) : CallR X f r' := fun pins s σ H xs us Q I rx q => h pins s σ H xs us Q I rx (k xs H Q q)
/-- a reading, closed upward -/
def Mon (t : TE) : TE := fun σ H Q => ∃ R : VK, t σ H R ∧ ∀ v H', R v H' → Q v H'
theorem PE.mon {X : Cx} {e : PySem.Expr} {t : TE} (h : PE X e t) : PE X e (Mon t) := ⟨fun pins s σ H Q I ⟨R, q, k⟩ => thn (h.run pins s σ H R I q) fun v s' ⟨x, H', I', r, q'⟩ => ⟨x, H', I', r, k x H' q'⟩⟩
end L2
namespace My
open PySem PySem.Spec PyProof.Rows L2
/-- xs.append(e), xs a list that stands in H -/
def tApp (ta te : TE) : TE := fun σ H Q => ta σ H fun x H1 => ∃ l, x = .ref l ∧ (∃ xs, H1 l = some (.lst xs)) ∧ te σ H1 fun y H2 => ∃ xs, H2 l = some (.lst xs) ∧ xs.length < sizeLine ∧ Q .non (upd H2 l (.lst (xs ++ [y])))
theorem rd_app {σ : L2.St} {H : Hp} {Q : VK} {ta te : TE} : tApp ta te σ H Q = ta σ H fun x H1 => ∃ l, x = .ref l ∧ (∃ xs, H1 l = some (.lst xs)) ∧ te σ H1 fun y H2 => ∃ xs, H2 l = some (.lst xs) ∧ xs.length < sizeLine ∧ Q .non (upd H2 l (.lst (xs ++ [y]))) := rfl
theorem pe_app {X : Cx} {o e : Expr} {ta te : TE} {apos cpos : Pos} (ho : PE X o ta) (he : PE X e te)
    (hbase : attributeBase o "append" X.env (eval o X.env) = eval o X.env := by rfl)
    (hfew : ((backTo cpos (starEach (e :: []) X.env)).all (fun x => !x.1) && (backToKw cpos (keywordEach [] X.env)).all (fun x => x.1.isSome)
      && decide ((e :: []).length + ([] : List Keyword).length + (if ([] : List Keyword).isEmpty then 0 else 1) < 30)) = true := by rfl)
    (hline : (apos.endLine == cpos.line) = true := by rfl) (hs : starEach (e :: []) X.env = (false, eval e X.env) :: starEach [] X.env := by rfl) (hplain : (backTo cpos (starEach [] X.env)).any (·.1) = false := by rfl) :
    PE X (.Call (.Attribute o "append" apos) [e] [] cpos) (tApp ta te) :=
  (pe_bm PySem.F.plainAttrs_list PySem.F.slot_list_append PySem.F.type_list_append mt_append ho.mon (pa_cons he.mon pa_nil hs) hbase hfew hline hs hplain).imp fun σ H Q q =>
    ⟨_, q, fun x H1 ⟨l, ex, ⟨xs, hl⟩, q1⟩ => ⟨by subst ex; exact tyL (SqL.of hl), _, q1, fun y H2 ⟨ys, hl2, hz, q2⟩ => ⟨l, ys, y, ex, rfl, hl2, hz, q2⟩⟩⟩
theorem fmod_r {a m : Int} (h : 0 < m) : 0 ≤ a.fmod m ∧ a.fmod m < m := ⟨Int.fmod_nonneg_of_pos a h, Int.fmod_lt_of_pos a h⟩
end My

set_option Elab.async false
set_option linter.all false
set_option maxRecDepth 100000
set_option maxHeartbeats 2000000
namespace My
open PySem PySem.Spec PyProof.Rows L2
section
variable {X : Cx}
/-! ### lists that stand in H -/
def rIxLst : R2 := fun x y H Q => ∃ p i, x = .ref p ∧ y = .int i ∧ ∃ xs, H p = some (.lst xs) ∧ 0 ≤ i ∧ ∃ v, xs[i.toNat]? = some v ∧ Q v H
theorem rd_ixLst {x y : V} {H : Hp} {Q : VK} : rIxLst x y H Q = ∃ p i, x = .ref p ∧ y = .int i ∧ ∃ xs, H p = some (.lst xs) ∧ 0 ≤ i ∧ ∃ v, xs[i.toNat]? = some v ∧ Q v H := rfl
theorem atI_pos {xs : List V} {i : Int} {v : V} (h0 : 0 ≤ i) (h : xs[i.toNat]? = some v) : atI xs i = some v := by
  have e : i = (i.toNat : Int) := (Int.toNat_of_nonneg h0).symm
  rw [e]
  exact atI_nat h
theorem ix_lst : IxR X rIxLst := ix_list.imp fun _ _ _ _ ⟨p, i, ex, ey, xs, hp, h0, v, hv, q⟩ => ⟨p, xs, i, v, ex, ey, SqL.of hp, atI_pos h0 hv, q⟩
/-- the script, or another list that is read -/
def rIxSq (K : PySem.W.Frag) : R2 := fun x y H Q => ∃ p i, x = .ref p ∧ y = .int i ∧ ∃ xs, SqL K H p xs ∧ 0 ≤ i ∧ ∃ v, xs[i.toNat]? = some v ∧ Q v H
theorem rd_ixSq {K : PySem.W.Frag} {x y : V} {H : Hp} {Q : VK} : rIxSq K x y H Q = ∃ p i, x = .ref p ∧ y = .int i ∧ ∃ xs, SqL K H p xs ∧ 0 ≤ i ∧ ∃ v, xs[i.toNat]? = some v ∧ Q v H := rfl
theorem ix_sq : IxR X (rIxSq X.K) := ix_list.imp fun _ _ _ _ ⟨p, i, ex, ey, xs, hp, h0, v, hv, q⟩ => ⟨p, xs, i, v, ex, ey, hp, atI_pos h0 hv, q⟩
def rLenL : List V → Hp → VK → Prop := fun vs H Q => ∃ p, vs = [.ref p] ∧ ∃ xs, H p = some (.lst xs) ∧ Q (.int (xs.length : Int)) H
theorem rd_lenL {vs : List V} {H : Hp} {Q : VK} : rLenL vs H Q = ∃ p, vs = [.ref p] ∧ ∃ xs, H p = some (.lst xs) ∧ Q (.int (xs.length : Int)) H := rfl
theorem call_lenL : CallR X (.builtin "len") rLenL := call_len_seq.imp fun _ _ _ ⟨p, e, xs, hp, q⟩ => ⟨p, xs, e, .inl (SqL.of hp), q⟩
def rLenSq (K : PySem.W.Frag) : List V → Hp → VK → Prop := fun vs H Q => ∃ p, vs = [.ref p] ∧ ∃ xs, SqL K H p xs ∧ Q (.int (xs.length : Int)) H
theorem rd_lenSq {K : PySem.W.Frag} {vs : List V} {H : Hp} {Q : VK} : rLenSq K vs H Q = ∃ p, vs = [.ref p] ∧ ∃ xs, SqL K H p xs ∧ Q (.int (xs.length : Int)) H := rfl
theorem call_lenSq : CallR X (.builtin "len") (rLenSq X.K) := call_len_seq.imp fun _ _ _ ⟨p, e, xs, hp, q⟩ => ⟨p, xs, e, .inl hp, q⟩
def rSetLst : V → V → V → Hp → (Hp → Prop) → Prop := fun o i v H Q => ∃ p k, o = .ref p ∧ i = .int k ∧ ∃ xs, H p = some (.lst xs) ∧ 0 ≤ k ∧ k.toNat < xs.length ∧ Q (upd H p (.lst (xs.set k.toNat v)))
theorem rd_setLst {o i v : V} {H : Hp} {Q : Hp → Prop} : rSetLst o i v H Q = ∃ p k, o = .ref p ∧ i = .int k ∧ ∃ xs, H p = some (.lst xs) ∧ 0 ≤ k ∧ k.toNat < xs.length ∧ Q (upd H p (.lst (xs.set k.toNat v))) := rfl
theorem set_lst : PSet X rSetLst := fun pins s σ H o i y vo vi vy Q I ro ri ry ⟨p, k, eo, ei, xs, hp, h0, hk, q⟩ => set_list pins s σ H o i y vo vi vy Q I ro ri ry ⟨p, xs, k, k.toNat, eo, ei, hp, by
  unfold ixN
  rw [if_pos h0, if_pos (by omega)], q⟩
theorem rd_sub {to ti : TE} {t : TSet} {v : V} {σ : L2.St} {H : Hp} {Q : L2.St → Hp → Prop} : gSub to ti t v σ H Q = to σ H fun o H1 => ti σ H1 fun i H2 => t o i v H2 fun H3 => Q σ H3 := rfl
/-- script != [] -/
def rNeNil (K : PySem.W.Frag) : R2 := fun x y H Q => ∃ a b, x = .ref a ∧ y = .ref b ∧ ∃ ns : List Int, SqL K H a (ns.map V.int) ∧ H b = some (.lst []) ∧ Q (.bl (!ns.isEmpty)) H
theorem rd_neNil {K : PySem.W.Frag} {x y : V} {H : Hp} {Q : VK} : rNeNil K x y H Q = ∃ a b, x = .ref a ∧ y = .ref b ∧ ∃ ns : List Int, SqL K H a (ns.map V.int) ∧ H b = some (.lst []) ∧ Q (.bl (!ns.isEmpty)) H := rfl
theorem dpInts {K : PySem.W.Frag} {H : Hp} : ∀ ns : List Int, DpAll K H (ns.map V.int) (ns.map PyData.int)
  | [] => .nil
  | _ :: r => .cons (.int _) (dpInts r)
theorem canInts : ∀ ns : List Int, PyData.canLayAll0 (ns.map PyData.int) = true
  | [] => by simp [PyData.canLayAll0]
  | _ :: r => by simp [PyData.canLayAll0, PyData.canLay0, canInts r]
theorem depInts : ∀ ns : List Int, PyData.depthAll (ns.map PyData.int) = 0
  | [] => by simp [PyData.depthAll]
  | _ :: r => by simp [PyData.depthAll, PyData.depth, depInts r]
theorem shInts (ns : List Int) : SeqAt.shaped (.list (ns.map PyData.int)) = true := by
  unfold SeqAt.shaped
  simp [PyData.canLay0, PyData.depth, canInts, depInts]
theorem op_neNil (hu : X.A.units + 64 < cLine) : OpR X (compareOp .NotEq) (rNeNil X.K) := (op_neD hu).imp fun x y H Q ⟨a, b, ex, ey, ns, ha, hb, q⟩ => by
  subst ex ey
  refine ⟨.list (ns.map .int), .list [], .lst ha (dpInts ns), .lst (SqL.of hb) .nil, shInts ns, by decide, ?_⟩
  cases ns with
  | nil => exact q
  | cons n r => exact q
end
end My

set_option Elab.async false
set_option linter.all false
set_option maxRecDepth 100000
set_option maxHeartbeats 2000000
namespace My
open PySem PySem.Spec PyProof.Rows L2
/-- a def of the module as it stands behind the top -/
structure Df (K : PySem.W.Frag) (mg : Str → Option Value) (nm : Str) (st : Stmt) (ps : List Str) where
  f : Addr
  fd : FuncData
  F : Fun K nm nm st f fd
  g : mg nm = some (.ref f)
  b : Binds K fd ps []
/-- a call of such a def, nothing raised -/
theorem pc {X : Cx} {nm : Str} {st : Stmt} {ps : List Str} {sp : Sp} {k : Nat} {p pos : Pos} {e : Expr} {es : List Expr} {t : TA} (D : Df X.K X.mg nm st ps) (G : FnOk X.prog X.w X.K X.mg X.base CX0 k D.f D.fd ps sp) (hr : Room k X.A) (ha : PA X (e :: es) t)
    (hg : Gl X nm := by rfl) (hd : (nm == ("__debug__" : Str)) = false := by decide +kernel)
    (he : starEach (e :: es) X.env = (false, eval e X.env) :: starEach es X.env := by rfl) (hpl : (backTo pos (starEach es X.env)).any (·.1) = false := by rfl) :
    PE X (.Call (.Name nm p) (e :: es) [] pos) (tCall sp [] E0 t) := pe_call G hr hg D.g D.F.kp D.b .nil pass0 ha hd he hpl
end My

set_option Elab.async false
set_option linter.all false
set_option maxRecDepth 100000
set_option maxHeartbeats 2000000
namespace My
open PySem PySem.Spec PyProof.Rows L2
/-! ### types of values -/
def tyO : Option HO → Option String
  | some (.lst _) => some "list"
  | some (.tup _) => some "tuple"
  | some (.dK _) => some "dict"
  | _ => none
def tyS (H : Hp) : V → Option String
  | .non => some "NoneType"
  | .bl _ => some "bool"
  | .int _ => some "int"
  | .str _ => some "str"
  | .ref a => tyO (H a)
  | _ => none
theorem tyO_cases {o : Option HO} {t : String} (h : tyO o = some t) : (∃ xs, o = some (.lst xs) ∧ t = "list") ∨ (∃ xs, o = some (.tup xs) ∧ t = "tuple") ∨ ∃ xs, o = some (.dK xs) ∧ t = "dict" := by
  cases o with
  | none => cases h
  | some o =>
    cases o <;> first | (cases h; exact .inl ⟨_, rfl, rfl⟩) | (cases h; exact .inr (.inl ⟨_, rfl, rfl⟩)) | (cases h; exact .inr (.inr ⟨_, rfl, rfl⟩)) | cases h
theorem tyX_of {K : PySem.W.Frag} {H : Hp} : ∀ {v : V} {t : String}, tyS H v = some t → TyX K H v (.type t)
  | .non, _, h => by cases h; exact .base .non
  | .bl b, _, h => by cases h; exact .base (.bl b)
  | .int i, _, h => by cases h; exact .base (.int i)
  | .str x, _, h => by cases h; exact .base (.str x)
  | .ref a, t, h => by
    rcases tyO_cases (show tyO (H a) = some t from h) with ⟨xs, e, rfl⟩ | ⟨xs, e, rfl⟩ | ⟨xs, e, rfl⟩
    · exact .base (.lst e)
    · exact .base (.tup e)
    · exact .base (.dK e)
def isStr : V → Bool
  | .str _ => true
  | _ => false
def isBl : V → Bool
  | .bl _ => true
  | _ => false
theorem k1 : kitB "NoneType" "str" = some false ∧ kitB "bool" "str" = some false ∧ kitB "int" "str" = some false ∧ kitB "str" "str" = some true ∧ kitB "list" "str" = some false ∧ kitB "tuple" "str" = some false ∧ kitB "dict" "str" = some false := by decide +kernel
theorem k2 : kitB "NoneType" "bool" = some false ∧ kitB "bool" "bool" = some true ∧ kitB "int" "bool" = some false ∧ kitB "str" "bool" = some false ∧ kitB "list" "bool" = some false ∧ kitB "tuple" "bool" = some false ∧ kitB "dict" "bool" = some false := by decide +kernel
theorem kitStr {H : Hp} : ∀ {v : V} {t : String}, tyS H v = some t → kitB t "str" = some (isStr v)
  | .non, _, h => by cases h; exact k1.1
  | .bl b, _, h => by cases h; exact k1.2.1
  | .int i, _, h => by cases h; exact k1.2.2.1
  | .str x, _, h => by cases h; exact k1.2.2.2.1
  | .ref a, t, h => by
    rcases tyO_cases (show tyO (H a) = some t from h) with ⟨xs, e, rfl⟩ | ⟨xs, e, rfl⟩ | ⟨xs, e, rfl⟩
    · exact k1.2.2.2.2.1
    · exact k1.2.2.2.2.2.1
    · exact k1.2.2.2.2.2.2
theorem kitBl {H : Hp} : ∀ {v : V} {t : String}, tyS H v = some t → kitB t "bool" = some (isBl v)
  | .non, _, h => by cases h; exact k2.1
  | .bl b, _, h => by cases h; exact k2.2.1
  | .int i, _, h => by cases h; exact k2.2.2.1
  | .str x, _, h => by cases h; exact k2.2.2.2.1
  | .ref a, t, h => by
    rcases tyO_cases (show tyO (H a) = some t from h) with ⟨xs, e, rfl⟩ | ⟨xs, e, rfl⟩ | ⟨xs, e, rfl⟩
    · exact k2.2.2.2.2.1
    · exact k2.2.2.2.2.2.1
    · exact k2.2.2.2.2.2.2
section
variable {X : Cx}
/-- isinstance(v, str), isinstance(v, bool) -/
def rIsStr : List V → Hp → VK → Prop := fun vs H Q => ∃ v, vs = [v, .ty "str"] ∧ (tyS H v).isSome = true ∧ Q (.bl (isStr v)) H
def rIsBl : List V → Hp → VK → Prop := fun vs H Q => ∃ v, vs = [v, .ty "bool"] ∧ (tyS H v).isSome = true ∧ Q (.bl (isBl v)) H
theorem rd_isStr {v c : V} {H : Hp} {Q : VK} : rIsStr [v, c] H Q = (c = .ty "str" ∧ (tyS H v).isSome = true ∧ Q (.bl (isStr v)) H) := by
  simp [rIsStr, and_assoc]
theorem rd_isBl {v c : V} {H : Hp} {Q : VK} : rIsBl [v, c] H Q = (c = .ty "bool" ∧ (tyS H v).isSome = true ∧ Q (.bl (isBl v)) H) := by
  simp [rIsBl, and_assoc]
theorem call_isStr : CallR X (.builtin "isinstance") rIsStr := call_isi.imp fun _ _ _ ⟨v, e, h, q⟩ => by
  obtain ⟨t, ht⟩ := Option.isSome_iff_exists.mp h
  exact ⟨v, .ty "str", .type t, .type "str", isStr v, e, .ty "str", tyX_of ht, kit_ty (kitStr ht), q⟩
theorem call_isBl : CallR X (.builtin "isinstance") rIsBl := call_isi.imp fun _ _ _ ⟨v, e, h, q⟩ => by
  obtain ⟨t, ht⟩ := Option.isSome_iff_exists.mp h
  exact ⟨v, .ty "bool", .type t, .type "bool", isBl v, e, .ty "bool", tyX_of ht, kit_ty (kitBl ht), q⟩
/-! ### x in a tuple of texts -/
def hasS (ws : List Str) : V → Bool
  | .str x => ws.contains x
  | _ => false
theorem inV_strs (x : Str) : ∀ ws : List Str, inV (.str x) (ws.map V.str) = ws.contains x
  | [] => rfl
  | w :: r => by
    have ih := inV_strs x r
    unfold inV at ih ⊢
    rw [List.map_cons, List.any_cons, ih, List.contains_cons]
    congr 1
    show (w == x) = (x == w)
    exact Bool.eq_iff_iff.mpr ⟨fun h => beq_iff_eq.mpr (beq_iff_eq.mp h).symm, fun h => beq_iff_eq.mpr (beq_iff_eq.mp h).symm⟩
theorem flat_strs : ∀ ws : List Str, (ws.map V.str).all flatV = true
  | [] => rfl
  | _ :: r => by rw [List.map_cons, List.all_cons, flat_strs r]; rfl
def rInS (K : PySem.W.Frag) : R2 := fun x y H Q => ∃ a, y = .ref a ∧ isStr x = true ∧ ∃ ws : List Str, SqT K H a (ws.map V.str) ∧ Q (.bl (hasS ws x)) H
theorem rd_inS {K : PySem.W.Frag} {x y : V} {H : Hp} {Q : VK} : rInS K x y H Q = ∃ a, y = .ref a ∧ isStr x = true ∧ ∃ ws : List Str, SqT K H a (ws.map V.str) ∧ Q (.bl (hasS ws x)) H := rfl
theorem op_inS : OpR X (compareOp .In) (rInS X.K) := op_in_seq.imp fun x _ _ _ ⟨a, ey, hx, ws, hs, q⟩ => by
  cases x with
  | str x =>
    refine ⟨a, ws.map V.str, ey, .inr hs, rfl, flat_strs ws, ?_⟩
    show _ 
    rw [if_neg Bool.false_ne_true, inV_strs]
    exact q
  | _ => cases hx
end
/-! ### words -/
def letters : Str := "abcdefghijklmnopqrstuvwxyz"
def isWord : V → Bool
  | .str x => (decide (1 ≤ x.length) && decide (x.length ≤ 8)) && x.cps.toList.all fun c => decide (c ∈ letters.cps.toList)
  | _ => false
theorem rd_chain {σ : L2.St} {H : Hp} {Q : Bool → Hp → Prop} {r r' : R2} {ta tb tc : TE} : tTest (tChain r r' ta tb tc) σ H Q = tChain r r' ta tb tc σ H fun x H' => ∃ k, x = .bl k ∧ Q k H' := rfl
theorem rd_chain' {σ : L2.St} {H : Hp} {Q : VK} {r r' : R2} {ta tb tc : TE} : tChain r r' ta tb tc σ H Q = ta σ H fun x H1 => tb σ H1 fun y H2 => r x y H2 fun z H3 => ∃ k, z = .bl k ∧ (if k = true then tc σ H3 fun w' H4 => r' y w' H4 Q else Q (.bl false) H3) := rfl
end My
namespace My
open PySem PySem.Spec PyProof.Rows L2
section
variable {X : Cx} {pos : Pos}
theorem pe_tyStr (hm : X.mg "str" = none) (hg : Gl X "str" := by rfl) : PE X (.Name "str" pos) (tC (.ty "str")) := pe_bltn (v := .ty "str") (u := .type "str") hg hm (by decide +kernel) rfl
theorem pe_tyBool (hm : X.mg "bool" = none) (hg : Gl X "bool" := by rfl) : PE X (.Name "bool" pos) (tC (.ty "bool")) := pe_bltn (v := .ty "bool") (u := .type "bool") hg hm (by decide +kernel) rfl
theorem pe_gS {x z : Str} {t : Tok} (hm : X.mg x = some (.str z t)) (hg : Gl X x := by rfl) (hd : (x == ("__debug__" : Str)) = false := by decide) : PE X (.Name x pos) (tC (.str z)) := pe_glob (v := .str z) hg hm ⟨t, rfl⟩ hd
theorem pe_gR {x : Str} {a : Addr} (hm : X.mg x = some (.ref a)) (hg : Gl X x := by rfl) (hd : (x == ("__debug__" : Str)) = false := by decide) : PE X (.Name x pos) (tC (.ref a)) := pe_glob (v := .ref a) hg hm rfl hd
end
end My

set_option Elab.async false
set_option linter.all false
set_option maxRecDepth 100000
set_option maxHeartbeats 2000000
namespace My
open PySem PySem.Spec PyProof.Rows L2
theorem take_more {α : Type} : ∀ {l : List α} {i : Nat} {x : α}, l[i]? = some x → l.take (i + 1) = l.take i ++ [x]
  | [], i, x, h => by simp at h
  | a :: l, 0, x, h => by
    have e : a = x := Option.some.inj h
    subst e
    rfl
  | a :: l, i + 1, x, h => by
    have ih := take_more (l := l) (i := i) (x := x) h
    show a :: l.take (i + 1) = a :: l.take i ++ [x]
    rw [ih]
    rfl
/-- [e for c in text], e leaving the heap as it is -/
theorem lc_str {tl te : TE} {σ : L2.St} {H : Hp} {Q : VK} {j : Nat} {vs : List Nat} {z : Str} (f : Nat → V) (hz : z.length ≤ 100000) (hl : ∀ Q : VK, Q (.str z) H → tl σ H Q) (hw : ∀ x, wipe ((wipe σ vs).set j (some x)) vs = wipe σ vs)
    (he : ∀ (c : Nat) (H' : Hp) (R : VK), Same H H' → R (f c) H' → te ((wipe σ vs).set j (some (.str ⟨#[c]⟩))) H' R)
    (hq : ∀ (D : Addr) (H' : Hp), H D = none → Same H H' → H' D = some (.lst (z.cps.toList.map f)) → Q (.ref D) H') : tLc (iStr tl) (gName j) tYes te vs σ H Q := by
  refine hl _ ⟨z, rfl, fun D hD => lc_it (walk_str (z := z)) (fun i H' => Same H H' ∧ H' D = some (.lst ((z.cps.toList.take i).map f))) ⟨My.Same.new (Same.refl H) hD, upd_same⟩ (fun _ _ _ _ => trivial) ?_ ?_⟩
  · rintro i x H' H2 hi ⟨sm, hl'⟩ ⟨rfl, c, hc, rfl⟩
    refine ⟨hw _, ?_⟩
    simp only [tYes, if_true]
    refine he c _ _ sm ⟨_, hl', szl ?_, My.Same.new sm hD, ?_⟩
    · have hz' : z.cps.size ≤ 100000 := hz
      rw [List.length_map, List.length_take]
      omega
    · rw [upd_same]
      have hc' : z.cps.toList[i]? = some c := by rw [Array.getElem?_toList]; exact hc
      rw [take_more hc', List.map_append]
      rfl
  · rintro H' ⟨sm, hl'⟩
    have e : z.cps.toList.take z.cps.size = z.cps.toList := List.take_of_length_le (by simp)
    rw [e] at hl'
    exact hq D H' hD sm hl'
def rAllB : List V → Hp → VK → Prop := fun vs H Q => ∃ a, vs = [.ref a] ∧ ∃ bs : List Bool, H a = some (.lst (bs.map V.bl)) ∧ Q (.bl (bs.all id)) H
theorem rd_allB {a : Addr} {H : Hp} {Q : VK} : rAllB [.ref a] H Q = ∃ bs : List Bool, H a = some (.lst (bs.map V.bl)) ∧ Q (.bl (bs.all id)) H := by
  simp [rAllB]
theorem cr_allB {X : Cx} (hc : X.calm = true) : CallR X (.builtin "all") rAllB := (cr_all hc).imp fun _ _ _ ⟨a, e, bs, h, q⟩ => ⟨a, bs, e, SqL.of h, q⟩
end My

set_option Elab.async false
set_option linter.all false
set_option maxRecDepth 100000
set_option maxHeartbeats 2000000
namespace My
open PySem PySem.Spec PyProof.Rows L2
/-- an error class of the module with one field, made by its own __init__ at fI -/
structure Xc (K : PySem.W.Frag) (mg : Str → Option Value) (nm fld qual : Str) (st : Stmt) where
  C : Addr
  fI : Addr
  fd : FuncData
  oex : OexC K C
  iC : PySem.W.findIn K (.ref C) "__init__" = some (some (.ref fI))
  tI : PySem.W.typeIn K (.ref fI) = some (.type "function")
  F : Fun K "__init__" qual st fI fd
  b : Binds K fd ["self", fld] []
  g : mg nm = some (.ref C)
  no : PySem.W.findIn K (.ref C) fld = some none
  xf : XfC K C
/-- what its __init__ promises -/
def spXi (C : Addr) (fld : Str) : Sp := fun vs H Q _ => ∃ (a : Addr) (v : V), vs = [.ref a, v] ∧ H a = some (exo a C none) ∧ ∀ dx, H dx = none → dx ≠ a → Q .non (upd (upd H dx (exd dx [(fld, v)])) a (exo a C (some dx)))
/-- raise C(text): E is wished of the class, the new dict d that holds the field, and a heap in which all else is as it was -/
def tRz (C : Addr) (fld m : Str) (W : WX) : TS := fun _ σ H => ∀ d H', H d = none → Same H H' → H' d = some (.xd [(fld, .str m)]) → W (.ref C) (some d) σ H'
theorem ps_rz {X : Cx} {nm fld qual m : Str} {st : Stmt} {W : WX} {k j : Nat} {p p2 pos pos2 : Pos} (T : Xc X.K X.mg nm fld qual st) (F1 : FnOk X.prog X.w X.K X.mg X.base CX0 k T.fI T.fd ["self", fld] (spXi T.C fld)) (hc : X.calm = true) (hr : Room (k + 1) X.A) (tk : Takes X W)
    (hg : Gl X nm := by rfl) (hdb : (nm == ("__debug__" : Str)) = false := by decide +kernel)
    (he : starEach (.Constant (.str m) j p2 :: []) X.env = (false, eval (.Constant (.str m) j p2) X.env) :: starEach [] X.env := by rfl) (hpl : (backTo pos (starEach [] X.env)).any (·.1) = false := by rfl) :
    PS X (.Raise (some (.Call (.Name nm p) [.Constant (.str m) j p2] [] pos)) none pos2) (tRz T.C fld m W) := by
  refine PS.imp (ps_raise hc tk (pmk_oex T.oex T.iC T.tI F1 hr T.b .nil pass0 hg T.g (pa_cons pe_str pa_nil) hdb he hpl)) fun D σ H q => ?_
  show _ ∧ _
  refine ⟨by show 1 ≤ 1000; decide, fun a ha => ⟨a, .str m, rfl, upd_same, fun dx hdx hne => ?_⟩⟩
  have hdx' : H dx = none := by rw [upd_ne hne] at hdx; exact hdx
  refine ⟨rfl, dx, [(fld, .str m)], upd_same, by rw [upd_ne hne, upd_same], hdx', ?_⟩
  refine q dx _ hdx' (fun b o e => ?_) upd_same
  have h1 : b ≠ dx := ne_of_none e hdx'
  have h2 : b ≠ a := ne_of_none e ha
  rw [upd_ne h1, del_ne h2, upd_ne h2, upd_ne h1, upd_ne h2]
  exact e
/-- what a call in a try's body may let out: wished at all slots -/
theorem passAll {X : Cx} {W : WX} (tk : Takes X W) : Passes (L2.CX X.prog X.w) X (fun cls d H => ∀ σ : L2.St, σ.length = X.N.length → W cls d σ H) := fun pins σ H s e s' I c => tk e s' (XE.of_call I (fun _ _ _ h => h σ I.len) c)
end My

set_option Elab.async false
set_option linter.all false
set_option maxRecDepth 100000
set_option maxHeartbeats 4000000
namespace My
open PySem PySem.Spec PyProof.Rows L2
open Builtin Builtin.ObjectAttr
/-! ### classes of errors of one's own, above any built-in one: made as values, their field, isinstance -/
/-- what is known of a built-in base -/
structure Bse (B newId initId : String) (bm : List Value) : Prop where
  f : ExcBaseFacts B newId initId bm
  p : ∀ self : Value, refuseLoop self "__setattr__" bm = pure ()
  o : bm.contains (.type "object") = true
theorem bse_value : Bse "ValueError" "ValueError.__new__" "ValueError.__init__" [.type "ValueError", .type "Exception", .type "BaseException", .type "object"] := ⟨F.excBase_ValueError, F.store_ValueError.passes, by decide +kernel⟩
theorem bse_over : Bse "OverflowError" "OverflowError.__new__" "OverflowError.__init__" [.type "OverflowError", .type "ArithmeticError", .type "Exception", .type "BaseException", .type "object"] := ⟨F.excBase_OverflowError, F.store_OverflowError.passes, by decide +kernel⟩
theorem bse_look : Bse "LookupError" "LookupError.__new__" "LookupError.__init__" [.type "LookupError", .type "Exception", .type "BaseException", .type "object"] := ⟨F.excBase_LookupError, F.store_LookupError.passes, by decide +kernel⟩
abbrev mroG (rs : List Addr) (bm : List Value) : List Value := rs.map Value.ref ++ bm
theorem mroG_pass (self : Value) {bm : List Value} (h : ∀ self : Value, refuseLoop self "__setattr__" bm = pure ()) : ∀ rs : List Addr, refuseLoop self "__setattr__" (mroG rs bm) = pure ()
  | [] => h self
  | c :: rs => by
    show refuseLoop self "__setattr__" (Value.ref c :: mroG rs bm) = pure ()
    rw [refuseLoop_ref]
    exact mroG_pass self h rs
theorem mroG_has (X : String) (bm : List Value) : ∀ rs : List Addr, (mroG rs bm).contains (.type X) = bm.contains (.type X)
  | [] => rfl
  | c :: rs => by
    show (Value.ref c :: mroG rs bm).contains (.type X) = _
    rw [List.contains_cons, mroG_has X bm rs]
    rfl
theorem mroG_ref (c : Addr) (bm : List Value) (hb : bm.contains (.ref c) = false) : ∀ rs : List Addr, (mroG rs bm).contains (.ref c) = decide (c ∈ rs)
  | [] => by rw [show mroG [] bm = bm from rfl, hb]; rfl
  | d :: rs => by
    show (Value.ref d :: mroG rs bm).contains (.ref c) = _
    rw [List.contains_cons, mroG_ref c bm hb rs]
    by_cases e : c = d
    · subst e; simp
    · have : (Value.ref c == Value.ref d) = false := by simpa using e
      simp [this, e]
/-- what the written part says of such a class: rs its own classes above it, bm the built-in ones -/
structure OexG (K : PySem.W.Frag) (C : Addr) (rs : List Addr) (bm : List Value) : Prop where
  cls : ∃ nm q N bs sn sub ab col dd k0 k1 k2 k3 k5 B newId initId, Bse B newId initId bm ∧ K.lookup C = some (excClassObj nm q C N bs (mroG rs bm) true sn sub ab col dd k0 k1 k2 k3 k5 newId)
  sa : PySem.W.findIn K (.ref C) "__setattr__" = some (some (.builtin "object.__setattr__"))
  exC : PySem.W.subIn K (.ref C) (.type "BaseException") = some true
  tyC : PySem.W.typeIn K (.ref C) = some (.type "type")
  kC : PySem.W.keepIn K (.ref C) = true
section
variable {prog : Program} {w : World} {A : Around} {R : Result → Shared → Prop} {hp : Heap} {g : Array GenState} {d : Drawn} {t : Nat} {os : OsState}
/-- self.f = v, the first one: the dict is new -/
theorem osaG {K : PySem.W.Frag} {name : Str} {tk : Tok} {v : Value} {x C : Addr} {fv : Array Value} {cd : ClassData} {rs : List Addr} {bm : List Value}
    (X : K.In hp) (hx : hp.get? x = some { cls := .ref C, data := .fields fv }) (hcd : PySem.W.clsIn K C = some cd) (hm : cd.mro = .ref C :: mroG rs bm) (hps : ∀ self : Value, refuseLoop self "__setattr__" bm = pure ()) (hbo : bm.contains (.type "object") = true) (hh : cd.hasDict = true)
    (ha : PySem.W.findIn K (.ref C) name = some none)
    (hq : ∀ h' tk' dx, (∀ b o, b ≠ x → hp.get? b = some o → h'.get? b = some o) → hp.objs.size ≤ dx → dx ≠ x → h'.get? x = some { cls := .ref C, dict := some dx, data := .fields fv } → h'.Ns1 dx (fun y => if y = name then some v else none) → R (.ok (.ret .none)) ⟨h', g, d, tk', os⟩) :
    codeAny (model prog w) A (.call (.builtin "object.__setattr__") ⟨[.ref x, .str name tk, v], []⟩) R ⟨hp, g, d, t, os⟩ := by
  have I : PySem.W.InstAt hp x { cls := .ref C, data := .fields fv } C none := ⟨hx, rfl, rfl, trivial⟩
  have S := F.store_object
  have m1 : cd.mro.isEmpty = false := by rw [hm]; rfl
  have m2 : cd.mro.contains (.type "object") = true := by
    rw [hm]; exact (mroG_has "object" bm (C :: rs)).trans hbo
  have m3 : refuseLoop (.ref x) "__setattr__" cd.mro = pure () := by
    rw [hm]; exact mroG_pass (.ref x) hps (C :: rs)
  have xs : x ≠ hp.objs.size := Nat.ne_of_lt (Heap.lt_size hx)
  have mi : PySem.W.mroIn K C (.type "object") = some true := by unfold PySem.W.mroIn; rw [hcd, Option.bind_some, if_neg (by rw [m1]; decide), m2]
  refine codeAny_call_builtin S.slot.plain S.entry (@PySem.W.check_slot (model prog w) _ _ ⟨hp, g, d, t, os⟩ "object.__setattr__" "object" "__setattr__" (.ref x) [.str name tk, v] [] _ S.kind S.split (I.type.andThen (PySem.W.looks_mroIn X mi)) (S.args (.ref x) (.str name tk) v) ?_)
  have k1 : PySem.W.Looks (model prog w) hp (mroOf (.ref C)) cd.mro := (PySem.W.looks_clsIn X hcd).andThen .now
  have k2 : PySem.W.Looks (model prog w) hp (storeTaker? none) none := .now
  have k3 : PySem.W.Looks (model prog w) hp (classData C) cd := PySem.W.looks_clsIn X hcd
  rw [PySem.W.osa_eq, refuse_eq]
  refine wpAny_bind (wpAny_bind (I.type.at (wpAny_bind (k1.at ?_)))); rw [m3]
  refine wpAny_pure (wpAny_bind (I.type.at (wpAny_bind ((PySem.W.looks_findIn X ha).at (wpAny_bind (k2.at ?_))))))
  show wpAny _ _ (storeInOwnDict (.ref x) (.ref C) (.str name tk) name v false) _ _ _
  obtain ⟨nm, bs, mro, ns, qn, hd, sn, sb, ab, col, del⟩ := cd
  dsimp only at hh; subst hh
  unfold storeInOwnDict ownDictForStores
  repeat (first | with_reducible refine HandSPX.store_in_new ?_ ?_ | with_reducible refine wpAny_loadPart_at hx ?_ | with_reducible refine k3.at ?_ | wp_step)
  · exact ⟨_, #[], _, (Heap.get?_update_ne _ _ _ _ xs.symm).trans (Heap.get?_push_at rfl rfl), rfl, fun e he => absurd he (by simp), fun _ => rfl⟩
  · intro h' tk' n1 n2
    have z : (hp.push { cls := .type "dict", data := .dict #[] }).get? x = some { cls := .ref C, data := .fields fv } := Heap.get?_push_of_some _ hx
    refine hq h' tk' hp.objs.size (fun b o hb ho => ?_) (Nat.le_refl _) xs.symm ((n2.2 x xs).trans (Heap.get?_update_self _ z rfl)) n1
    exact (n2.2 b (Nat.ne_of_lt (Heap.lt_size ho))).trans ((Heap.get?_update_ne _ _ _ _ hb).trans (Heap.get?_push_of_some _ ho))
end
section
variable {X : Cx} {pins : List (Addr × Obj)} {σ : L2.St} {H : Hp} {s : Shared} {a C : Addr} {f : Str} {y : V} {u : Value} {rs : List Addr} {bm : List Value}
theorem clsG (T : OexG X.K C rs bm) : ∃ cd B newId initId, PySem.W.clsIn X.K C = some cd ∧ cd.mro = .ref C :: mroG rs bm ∧ cd.hasDict = true ∧ Bse B newId initId bm := by
  obtain ⟨nm, q, N, bs, sn, sub, ab, col, dd, k0, k1, k2, k3, k5, B, ni, ii, hb, hC⟩ := T.cls
  refine ⟨{ name := nm, bases := bs, mro := .ref C :: mroG rs bm, ns := N, qualname := q, hasDict := true, slotNames := sn, subclasses := sub, abstract := ab, collection := col, hasDel := false }, B, ni, ii, ?_, rfl, rfl, hb⟩
  unfold PySem.W.clsIn; rw [hC] <;> rfl
/-- self.f = y, the first one -/
theorem ostG {Q : Unit → Shared → Prop} {E : Value → Shared → Prop} {A : Around} (T : OexG X.K C rs bm) (I : Inv X pins σ H s) (e : H a = some (exo a C none)) (hno : PySem.W.findIn X.K (.ref C) f = some none) (ry : RelV y u)
    (h : ∀ dx s', H dx = none → dx ≠ a → Inv X pins σ (upd (upd H dx (exd dx [(f, y)])) a (exo a C (some dx))) s' → Q () s') : wpAny (model X.prog X.w) A (setAttr (.ref a) f u) Q E s := by
  obtain ⟨cd, B, ni, ii, hcd, hmr, hdi, hb⟩ := clsG T
  obtain ⟨t1, ho⟩ := exo_at I.hok e
  obtain ⟨hp, g, d, t, os⟩ := s
  refine PySem.W.set_plain I.kIn (ox := { cls := .ref C, dict := none, data := .fields #[.ref t1, .none, .none, .none, .bool false, .none] }) (od := none) ⟨ho, rfl, rfl, trivial⟩ T.sa ?_
  refine osaG I.kIn ho hcd hmr hb.p hb.o hdi hno (fun h' tk' dx k dn dne hx hn => ?_)
  have hnd : H dx = none := I.hok.fresh dn
  have nd : ∀ {b : Addr} {o : Obj}, hp.get? b = some o → b ≠ dx := fun {b o} q => Nat.ne_of_lt (Nat.lt_of_lt_of_le (Heap.lt_size q) dn)
  have na : ∀ {b : Addr}, H b = none → b ≠ a := fun {b} n z => by rw [z, e] at n; cases n
  have U : Un X.fs [] H (upd (upd H dx (exd dx [(f, y)])) a (exo a C (some dx))) hp h' :=
    ⟨fun b o q n _ _ => k b o (na n) q, fun b o q n _ _ => ⟨o.slots, k b o (na n) q⟩, fun b o q n _ => (by rw [upd_ne (na n), upd_ne (nd q)]; exact n),
     fun b o q _ => (by
      by_cases hb : b = a
      · exact ⟨_, (by rw [hb]; exact hx)⟩
      · exact ⟨o, k b o hb q⟩),
     fun b xs q => (by rw [upd_ne (at_ne e q exo_tup), upd_ne (ne_of_none q hnd)]; exact q), fun b o v q => (by rw [upd_ne (at_ne e q exo_frz), upd_ne (ne_of_none q hnd)]; exact q),
     fun b ps q => ⟨#[], (by rw [upd_ne (at_ne e q exo_tbl), upd_ne (ne_of_none q hnd), q]; simp)⟩⟩
  refine h dx _ hnd dne (I.un (t' := tk') U fun b o q => ?_)
  by_cases hb : b = a
  · subst hb; rw [upd_same] at q; cases q
    exact exo_ok hx
  · rw [upd_ne hb] at q
    by_cases hd : b = dx
    · subst hd; rw [upd_same] at q; cases q
      exact exd_ok hn (relO_put (fs := []) ry fun g => True.intro)
    · rw [upd_ne hd] at q
      refine (I.hok b o q).stay (fun c v hc z => k c v (hc.elim (fun hc => by rw [hc]; exact hb) (fun hc => at_ne e hc exo_own)) z) (fun c hc => ?_) (fun c xs hc => ?_)
      · rw [upd_ne (at_ne e hc exo_own), upd_ne (ne_of_none hc hnd)]; exact hc
      · rw [upd_ne (at_ne e hc exo_tup), upd_ne (ne_of_none hc hnd)]; exact hc
/-- the reading of self.f = e in an error's __init__ -/
def tOstG (K : PySem.W.Frag) (f : Str) (to te : TE) : TS := fun D σ H => te σ H fun y H1 => to σ H1 fun x H2 => ∃ (a C : Addr) (rs : List Addr) (bm : List Value), x = .ref a ∧ OexG K C rs bm ∧ PySem.W.findIn K (.ref C) f = some none ∧
  H2 a = some (exo a C none) ∧ ∀ dx, H2 dx = none → dx ≠ a → D.nx σ (upd (upd H2 dx (exd dx [(f, y)])) a (exo a C (some dx)))
theorem ps_ostG {o e : Expr} {to te : TE} {p' pos : Pos} (ho : PE X o to) (he : PE X e te) (hs : swapsWith e (some (.Attribute o f p')) pos.line X.env = pure false := by rfl) : PS X (.Assign [.Attribute o f p'] e pos) (tOstG X.K f to te) := by
  refine ⟨fun pins s σ H D I h => ?_⟩
  refine plainObj_wpAny_Assign_Attribute (thn (he.run pins s σ H _ I h) fun v s1 ⟨y, H1, I1, r1, q1⟩ => thn (ho.run pins s1 σ H1 _ I1 q1) fun u s2 ⟨x, H2, I2, r2, a, C, rs, bm, ex, T, hno, ea, q⟩ => ?_) hs
  subst ex
  obtain rfl : u = Value.ref a := r2
  exact ostG T I2 ea hno r1 fun dx s' n ne J => ⟨σ, _, J, q dx n ne⟩
/-- X(e), as a value -/
def tMkG (C : Addr) (fld : Str) (te : TE) : TE := fun σ H Q => te σ H fun v H1 => ∀ a dx, H1 a = none → H1 dx = none → dx ≠ a → Q (.ref a) (upd (upd H1 dx (exd dx [(fld, v)])) a (exo a C (some dx)))
/-- what its __init__ promises -/
def spXg (C : Addr) (fld : Str) : Sp := fun vs H Q _ => ∃ (a : Addr) (v : V), vs = [.ref a, v] ∧ H a = some (exo a C none) ∧ ∀ dx, H dx = none → dx ≠ a → Q .non (upd (upd H dx (exd dx [(fld, v)])) a (exo a C (some dx)))
end
end My

set_option Elab.async false
set_option linter.all false
set_option maxRecDepth 100000
set_option maxHeartbeats 2000000
namespace My
open PySem PySem.Spec PyProof.Rows L2
theorem rd_fldS {K : PySem.W.Frag} {ta tv : TE} {f : Str} {D : Ends} {σ : L2.St} {H : Hp} : sFld K ta tv f D σ H = tv σ H fun y H1 => ta σ H1 fun x H2 => ∃ a C dx fs, x = .ref a ∧ H2 a = some (.ins C dx fs) ∧ Cls K C ∧ NoAttr K C f ∧ fs.length < 1000 ∧ D.nx σ (upd H2 a (.ins C dx (putF f y fs))) := by
  unfold sFld
  rfl
theorem rd_fldE {K : PySem.W.Frag} {ta : TE} {f : Str} {σ : L2.St} {H : Hp} {Q : VK} : tFld K ta f σ H Q = ta σ H fun x H1 => ∃ a C dx fs v, x = .ref a ∧ H1 a = some (.ins C dx fs) ∧ Cls K C ∧ NoAttr K C f ∧ fs.lookup f = some v ∧ Q v H1 := rfl
theorem rd_eq {x y : V} {H : Hp} {Q : VK} : L2.rEq x y H Q = (scal x y = true ∧ Q (.bl (decide (x = y))) H) := rfl
theorem rd_ne {x y : V} {H : Hp} {Q : VK} : L2.rNe x y H Q = (scal x y = true ∧ Q (.bl (!decide (x = y))) H) := rfl
theorem rd_rz {C : Addr} {fld m : Str} {W : WX} {D : Ends} {σ : L2.St} {H : Hp} : tRz C fld m W D σ H = ∀ d H', H d = none → Same H H' → H' d = some (.xd [(fld, .str m)]) → W (.ref C) (some d) σ H' := rfl
theorem tyS_same {H H' : Hp} {v : V} (e : Same H H') (h : (tyS H v).isSome = true) : (tyS H' v).isSome = true := by
  cases v with
  | ref a =>
    obtain ⟨t, ht⟩ := Option.isSome_iff_exists.mp h
    rcases tyO_cases (show tyO (H a) = some t from ht) with ⟨xs, z, _⟩ | ⟨xs, z, _⟩ | ⟨xs, z, _⟩
    all_goals
      show (tyO (H' a)).isSome = true
      rw [e a _ z]
      rfl
  | _ => exact h
/-- a value whose type is known; a text is short -/
def Ty (H : Hp) (v : V) : Prop := (tyS H v).isSome = true ∧ ∀ x, v = .str x → x.length ≤ 1000
theorem Ty.same {H H' : Hp} {v : V} (h : Ty H v) (e : Same H H') : Ty H' v := ⟨tyS_same e h.1, h.2⟩
end My

set_option Elab.async false
set_option linter.all false
set_option maxRecDepth 100000
set_option maxHeartbeats 4000000
namespace PySem.W
open PySem PySem.Spec PySem.Calls PyProof.Rows
/-- isinstance says True by the type alone: nothing else is asked of the object -/
theorem ans_yes {K : Frag} {x t c : Value} {G : Heap → Prop}
    (ty : ∀ (M : Model) (h : Heap), K.In h → G h → Looks M h (typeOf x) t)
    (ne : (t == c) = false) (e : kitCls K t c = some true) :
    Answers (fun s => K.In s.heap ∧ G s.heap) x c true := by
  intro dep tk prog w A R ⟨h0, g, d, tt, os⟩ ⟨⟨KX, p⟩, fin⟩
  have L1 := ty (model prog w) h0 KX p
  have L2 := kit_cls (M := model prog w) KX e
  unfold Builtin.«isinstance.nested»
  refine wpAny_bind (L1.at ?_)
  rw [ne]
  rw [if_neg Bool.false_ne_true]
  refine wpAny_bind (L2.1.at ?_)
  rw [if_pos (by decide)]
  k_delta "plainIsInstance"
  refine wpAny_bind ?_
  refine wpAny_bind (L2.2.1.at ?_)
  simp only [Bool.not_true, Bool.false_eq_true, if_false]
  have L3 : Looks (model prog w) h0 (isInstance x c) true := L1.andThen L2.2.2
  refine wpAny_bind (L3.at ?_)
  have done := fin tt
  first
    | exact wpAny_pure (wpAny_pure done)
    | (simp only [if_true]; exact wpAny_pure (wpAny_pure done))
    | (simp only [if_true]; exact wpAny_pure done)
    | (simp only [if_true]; exact wpAny_bind (wpAny_pure (wpAny_pure done)))
end PySem.W
namespace My
open PySem PySem.Spec PyProof.Rows L2
/-- isinstance(e, c), e the caught error, its class another one below c -/
def rIsUp (D a : Addr) : List V → Hp → VK → Prop := fun vs H Q => ∃ c : Addr, vs = [.ref a, .ref c] ∧ Q (.bl true) H
theorem call_isUp {X : Cx} {a D c : Addr} {oe : Obj} {pn : List (Addr × Obj)} {d : Option Addr} {cls : Value} (hz : Zc cls d oe) (hne : D ≠ c) (e : PySem.W.kitCls X.K (.ref D) (.ref c) = some true) :
    CallR (X.suite a ((a, oe) :: pn)) (.builtin "isinstance") (fun vs H Q => cls = .ref D ∧ vs = [.ref a, .ref c] ∧ Q (.bl true) H) := by
  intro pins s σ H xs us Q I r h
  obtain ⟨ec, rfl, q⟩ := h
  subst ec
  obtain ⟨u1, u2, rfl, r1, r2⟩ := vals2 r
  cases (show u1 = Value.ref a from r1)
  cases (show u2 = Value.ref c from r2)
  obtain ⟨hget, _⟩ := I.pin (a, oe) (List.mem_append.mpr (.inl List.mem_cons_self))
  have ty : ∀ (M : Model) (h : Heap), X.K.In h → h.get? a = some oe → PySem.W.Looks M h (typeOf (.ref a)) (.ref D) := fun M h _ ho A Q E s k q => wpAny_typeOf_ref (k _ _ ho) (by rw [hz.1]; exact q)
  have ne : (Value.ref D == Value.ref c) = false := by simpa using hne
  exact PySem.call_isinstance (S := fun _ R s' => (X.K.In s'.heap ∧ s'.heap.get? a = some oe) ∧ ∀ tk, R (.ok (.ret (.bool true))) { s' with toks := tk })
    (fun prog w A R s' hs => PySem.isinstance_outer (PySem.W.ans_yes (K := X.K) (G := fun h => h.get? a = some oe) ty ne e 0 _ prog w A R s' hs) (fun z => nomatch z)) ⟨⟨I.kIn, hget⟩, fun tk => ⟨.bl true, H, I.kept (t' := tk) fun _ _ z => z, rfl, q⟩⟩
end My

set_option Elab.async false
set_option linter.all false
set_option maxRecDepth 100000
set_option maxHeartbeats 4000000
namespace My
open PySem PySem.Spec PyProof.Rows L2
/-- an error class of the module with one field, made by its own __init__ -/
structure Xg (K : PySem.W.Frag) (mg : Str → Option Value) (nm fld qual : Str) (st : Stmt) where
  C : Addr
  fI : Addr
  fd : FuncData
  rs : List Addr
  bm : List Value
  oex : OexG K C rs bm
  iC : PySem.W.findIn K (.ref C) "__init__" = some (some (.ref fI))
  tI : PySem.W.typeIn K (.ref fI) = some (.type "function")
  F : Fun K "__init__" qual st fI fd
  b : Binds K fd ["self", fld] []
  g : mg nm = some (.ref C)
  no : PySem.W.findIn K (.ref C) fld = some none
  xf : XfC K C
theorem upd_exo {H : Hp} {a d : Addr} {x y z : HO} (h : d ≠ a) : upd (upd (upd H a x) d y) a z = upd (upd H d y) a z := by
  funext b
  by_cases h1 : b = a
  · rw [h1, upd_same, upd_same]
  · rw [upd_ne h1, upd_ne h1]
    by_cases h2 : b = d
    · rw [h2, upd_same, upd_same]
    · rw [upd_ne h2, upd_ne h2, upd_ne h1]
section
variable {X : Cx} {pins : List (Addr × Obj)} {σ : L2.St} {H : Hp} {s : Shared}
/-- what is wanted of the arguments -/
def mkQ (C : Addr) (fld : Str) (Q : VK) : List V → Hp → Prop := fun vs H1 => match vs with
  | [v] => ∀ a dx, H1 a = none → H1 dx = none → dx ≠ a → Q (.ref a) (upd (upd H1 dx (exd dx [(fld, v)])) a (exo a C (some dx)))
  | _ => False
/-- what is done with the arguments -/
theorem mk_after {nm fld qual : Str} {st : Stmt} {k : Nat} {us : List Value} {vs : List V} {Q : VK} (T : Xg X.K X.mg nm fld qual st) (F1 : FnOk X.prog X.w X.K X.mg X.base CX0 k T.fI T.fd ["self", fld] (spXg T.C fld)) (hr : Room (k + 1) X.A)
    (I1 : Inv X pins σ H s) (r1 : Vals vs us) (q1 : mkQ T.C fld Q vs H) : wpAny (model X.prog X.w) X.A (call (.ref T.C) us) (EP X pins σ Q) X.xe s := by
  obtain ⟨nm', q, N, bs, sn, sub, ab, col, dd, k0, k1, k2, k3, k5, B, ni, ii, hB, hC⟩ := T.oex.cls
  obtain ⟨v, rfl⟩ : ∃ v, vs = [v] := by
    match vs, q1 with
    | [v], _ => exact ⟨v, rfl⟩
  have q1 : ∀ a dx, H a = none → H dx = none → dx ≠ a → Q (.ref a) (upd (upd H dx (exd dx [(fld, v)])) a (exo a T.C (some dx))) := q1
  obtain ⟨hp, g, dr, tk, os⟩ := s
  have hsz : hp.objs.size ≤ hp.objs.size + 1 := Nat.le_succ _
  have hn : H (hp.objs.size + 1) = none := I1.hok.fresh hsz
  have kk : ∀ b o, hp.get? b = some o → ((hp.push (PySem.W.kdv_tup us)).push (PySem.HandSPX.excO T.C hp.objs.size)).get? b = some o := fun b o e => Heap.get?_push_of_some _ (Heap.get?_push_of_some _ e)
  have hget : ((hp.push (PySem.W.kdv_tup us)).push (PySem.HandSPX.excO T.C hp.objs.size)).get? (hp.objs.size + 1) = some (PySem.HandSPX.excO T.C hp.objs.size) := by heap_get
  have I2 : Inv X pins σ (upd H (hp.objs.size + 1) (exo (hp.objs.size + 1) T.C none)) ⟨(hp.push (PySem.W.kdv_tup us)).push (PySem.HandSPX.excO T.C hp.objs.size), g, dr, tk, os⟩ :=
    I1.laid (t' := tk) (a := hp.objs.size + 1) (o := exo (hp.objs.size + 1) T.C none) kk hsz (exo_ok hget)
  have r2 : Vals [V.ref (hp.objs.size + 1), v] (Value.ref (hp.objs.size + 1) :: us) := .cons rfl r1
  have hus : us.length = 1 := (Paired.length r1).symm
  have hus' : us.length ≤ sizeLine := by rw [hus, sizeLine_eq]; omega
  have hl : (Value.ref (hp.objs.size + 1) :: us ++ []).length = (["self", fld] : List Str).length := by simp [hus]
  have sp : spXg T.C fld [V.ref (hp.objs.size + 1), v] (upd H (hp.objs.size + 1) (exo (hp.objs.size + 1) T.C none)) (fun v H2 => v = .non ∧ Q (.ref (hp.objs.size + 1)) H2) (fun _ _ _ => False) := by
    refine ⟨_, v, rfl, upd_same, fun dx h1 h2 => ⟨rfl, ?_⟩⟩
    rw [upd_exo h2]
    exact q1 _ dx hn (by rw [upd_ne h2] at h1; exact h1) h2
  refine wpAny_call (PySem.HandSPX.call_own hB.f (fun Y => mroG_has Y T.bm T.rs) (I1.kIn _ _ hC) (PySem.W.looks_findIn I1.kIn T.iC) (fun self => PySem.W.bind_fn I1.kIn self T.tI) hus' ?_)
  refine codeAny_mono (F1.run _ X.stack _ _ ⟨Value.ref (hp.objs.size + 1) :: us, []⟩ (Value.ref (hp.objs.size + 1) :: us) _ _ (fun _ _ _ => False) (hr.make T.C us []) (I2.env0.make T.C us []) (by simpa using T.b _ (Value.ref (hp.objs.size + 1) :: us) I2.kIn hl) r2 sp) fun r s' hq' => ?_
  cases r with
  | error er => exact pass0 pins σ _ _ er s' I2 hq'
  | ok fl =>
    cases fl with
    | ret u =>
      obtain ⟨v', H', I3, rv, ev, q3⟩ := I2.after hq'
      subst ev
      exact ⟨rv, .ref (hp.objs.size + 1), H', I3, rfl, q3⟩
    | next => exact False.elim hq'
    | brk => exact False.elim hq'
    | cont => exact False.elim hq'
/-- X(e) -/
theorem pe_mkG {nm fld qual : Str} {st : Stmt} {k : Nat} {e : Expr} {te : TE} {p pos : Pos} (T : Xg X.K X.mg nm fld qual st) (F1 : FnOk X.prog X.w X.K X.mg X.base CX0 k T.fI T.fd ["self", fld] (spXg T.C fld)) (hr : Room (k + 1) X.A) (he : PE X e te)
    (hg : Gl X nm := by rfl) (hdb : (nm == ("__debug__" : Str)) = false := by decide +kernel)
    (hs : starEach [e] X.env = (false, eval e X.env) :: starEach [] X.env := by rfl) (hpl : (backTo pos (starEach [] X.env)).any (·.1) = false := by rfl) :
    PE X (.Call (.Name nm p) [e] [] pos) (tMkG T.C fld te) := by
  refine ⟨fun pins s σ H Q I h => ?_⟩
  refine wpAny_Call_Name_kw (ld_glob I hg T.g ?_ hdb)
  exact PySem.W.callWith_K (h₀ := X.base) I.ok.mod.kin T.oex.kC (thn ((pa_cons he pa_nil hs).run pos pins s σ H (mkQ T.C fld Q) I h) fun us s1 ⟨vs, H1, I1, r1, q1⟩ => ⟨I1.kIn, mk_after T F1 hr I1 r1 q1⟩) hs hpl
end
end My

set_option Elab.async false
set_option linter.all false
set_option maxRecDepth 100000
set_option maxHeartbeats 4000000
namespace My
open PySem PySem.Spec PyProof.Rows L2
/-! ### X(f = e): the same by keyword -/
section
variable {prog : Program} {w : World} {A : Around} {E : Value → Shared → Prop} {R : Result → Shared → Prop} {h : Heap} {g : Array GenState} {d : Drawn} {t : Nat} {os : OsState}
variable {nm q : Str} {C N : Addr} {bs bm bmB : List Value} {hdct : Bool} {sn : List Str} {sub : List Value} {ab : Bool} {col : Option Bool} {dd : Option Addr} {k0 k1 k2 k3 k5 : Option Value} {B newId initId : String}
theorem check_newK {M : Model} (F : ExcBaseFacts B newId initId bmB) (hT : ∀ X : String, bm.contains (.type X) = bmB.contains (.type X)) {kw : List (Str × Value)} {Q : Unit → Shared → Prop}
    (hC : h.get? C = some (excClassObj nm q C N bs bm hdct sn sub ab col dd k0 k1 k2 k3 k5 newId)) (hq : Q () ⟨h, g, d, t, os⟩) : wpAny M A (checkBuiltinCall newId ⟨[.ref C], kw⟩) Q E ⟨h, g, d, t, os⟩ := by
  have c1 : (Value.ref C :: bm).contains (.type B) = true := by rw [List.contains_cons, hT, F.hasB, Bool.or_true]
  have c2 := F.noStar
  simp only [checkBuiltinCall, F.newKind, F.newSplit, F.newRow]
  repeat (first | refine wpAny_loadPart_at hC ?_ | (refine wpAny_isSubtype_exc hC ?_; rw [c1]) | refine wpAny_staticBase_exc hC ?_ | refine wpAny_madeBy_exc hC ?_ | simp only [bne_self_eq_false, Bool.false_eq_true, if_false] | wp_step)
  exact hq
theorem newK (F : ExcBaseFacts B newId initId bmB) (hT : ∀ X : String, bm.contains (.type X) = bmB.contains (.type X)) {kw : List (Str × Value)}
    (hC : h.get? C = some (excClassObj nm q C N bs bm hdct sn sub ab col dd k0 k1 k2 k3 k5 newId))
    (hq : R (.ok (.ret (.ref (h.objs.size + 1)))) ⟨(h.push (PySem.W.kdv_tup [])).push (HandSPX.excO C h.objs.size), g, d, t, os⟩) :
    codeAny (model prog w) A (.builtin newId ⟨[.ref C], kw⟩) R ⟨h, g, d, t, os⟩ := by
  have hends := F.ends
  have c1 : (Value.ref C :: bm).contains (.type B) = true := by rw [List.contains_cons, hT, F.hasB, Bool.or_true]
  have c2 : (Value.ref C :: bm).contains (.type "AttributeError") = false := by rw [List.contains_cons, hT, F.noAttr]; rfl
  have c3 : (Value.ref C :: bm).contains (.type "NameError") = false := by rw [List.contains_cons, hT, F.noName]; rfl
  refine codeAny_builtinAt F.entry ?_
  unfold Builtin.«BaseException.__new__»
  refine PySem.wpAt_bind ?_
  show PySem.wpAt _ _ _ (stack >>= _) _ _ _
  refine PySem.wpAt_bind (PySem.wpAt_stack fun p below => PySem.wpAt_of_wpAny ?_)
  wp_walk
  refine PySem.wpAt_of_wpAny ?_
  rw [F.owner]
  repeat (first | with_reducible refine wpAny_madeHere_exc F.canon hC ?_ | with_reducible refine wpAny_loadPart_at hC ?_ | (with_reducible refine wpAny_isSubtype_exc hC ?_; first | rw [c1] | rw [c2] | rw [c3]) | wp_step)
  show R _ _
  rw [Heap.size_push]
  exact hq
theorem type_callK (F : ExcBaseFacts B newId initId bmB) (hT : ∀ X : String, bm.contains (.type X) = bmB.contains (.type X)) {kw : List (Str × Value)} {fI : Addr} {Q : Fin → Shared → Prop}
    (hC : h.get? C = some (excClassObj nm q C N bs bm hdct sn sub ab col dd k0 k1 k2 k3 k5 newId))
    (hi : PySem.W.Looks (model prog w) h (typeLookup (.ref C) "__init__") (some (.ref fI))) (hb : ∀ self, PySem.W.Looks (model prog w) h (bindSpecial (.ref fI) self) (.ref fI, [self]))
    (hq : codeAny (model prog w) A (.call (.ref fI) ⟨[.ref (h.objs.size + 1)], kw⟩)
      (fun r s' => match r with | .ok (.ret v) => v = .none ∧ Q (.done (.ret (.ref (h.objs.size + 1)))) s' | .ok _ => False | .error e => E e s')
      ⟨(h.push (PySem.W.kdv_tup [])).push (HandSPX.excO C h.objs.size), g, d, t, os⟩) :
    wpAny (model prog w) A (Builtin.«type.__call__» ⟨[.ref C], kw⟩) Q E ⟨h, g, d, t, os⟩ := by
  repeat (first | with_reducible refine wpAny_loadPart_at hC ?_ | with_reducible refine wpAny_madeBy_exc hC ?_ | wp_step)
  refine codeAny_call_builtin_code (Code.quiet_builtin _ F.quiet) (check_newK F hT hC (newK F hT hC ?_))
  show wpAny _ _ _ _ _ _
  have k : ∀ b o, h.get? b = some o → ((h.push (PySem.W.kdv_tup [])).push (HandSPX.excO C h.objs.size)).get? b = some o := fun b o e => Heap.get?_push_of_some _ (Heap.get?_push_of_some _ e)
  have z1 := k _ _ hC
  have z2 : ((h.push (PySem.W.kdv_tup [])).push (HandSPX.excO C h.objs.size)).get? (h.objs.size + 1) = some (HandSPX.excO C h.objs.size) := by heap_get
  have z3 : (Value.ref C :: bm).contains (.ref C) = true := by simp
  have i1 := hi.keeps k
  have b1 := (hb (.ref (h.objs.size + 1))).keeps k
  unfold isInstance
  repeat (first | with_reducible refine wpAny_loadPart_at z2 ?_ | (with_reducible refine wpAny_isSubtype_exc z1 ?_; rw [z3]) | wp_step)
  show wpAny _ _ (typeLookup (.ref C) _) _ _ _
  refine i1.at (wpAny_holding (wpAny_bind (b1.at (wpAny_bind (wpAny_call (codeAny_mono hq fun r s' z => ?_))))))
  rcases r with e | (v | _ | _ | _) <;> first | exact z | exact z.elim | skip
  obtain ⟨rfl, z⟩ := z
  first
    | exact wpAny_pure (wpAny_pure z)
    | (wp_walk; exact z)
theorem callK (F : ExcBaseFacts B newId initId bmB) (hT : ∀ X : String, bm.contains (.type X) = bmB.contains (.type X)) {kw : List (Str × Value)} {fI : Addr}
    (hC : h.get? C = some (excClassObj nm q C N bs bm hdct sn sub ab col dd k0 k1 k2 k3 k5 newId))
    (hi : PySem.W.Looks (model prog w) h (typeLookup (.ref C) "__init__") (some (.ref fI))) (hb : ∀ self, PySem.W.Looks (model prog w) h (bindSpecial (.ref fI) self) (.ref fI, [self]))
    (hq : codeAny (model prog w) (A.under (.builtin "type.__call__" ⟨[.ref C], kw⟩)) (.call (.ref fI) ⟨[.ref (h.objs.size + 1)], kw⟩) (PySem.W.InitBack (h.objs.size + 1) R)
      ⟨(h.push (PySem.W.kdv_tup [])).push (HandSPX.excO C h.objs.size), g, d, t, os⟩) :
    codeAny (model prog w) A (.call (.ref C) ⟨[], kw⟩) R ⟨h, g, d, t, os⟩ := by
  have f1 := tc_lookup
  have f2 := tc_bind (.ref C)
  have f3 : (⟨h, g, d, t, os⟩ : Shared).TypeIs (.ref C) "type" := ⟨_, hC, rfl⟩
  refine codeAny_of_tree ?_
  show wpAny _ _ (callAny (.ref C) _) _ _ _
  repeat (any_goals (first | assumption | with_reducible refine wpAny_loadPart_at hC ?_ | wp_step))
  refine ⟨rfl, ?_⟩
  refine codeAny_call_builtin_at (Code.quiet_builtin _ (by decide +kernel)) entry_typeCall (wpAny_check_type_call_sub hC (type_callK F hT hC hi hb (codeAny_mono hq fun r s' z => ?_)))
  rcases r with e | (v | _ | _ | _) <;> exact z
end
end My

set_option Elab.async false
set_option linter.all false
set_option maxRecDepth 100000
set_option maxHeartbeats 4000000
namespace My
open PySem PySem.Spec PyProof.Rows L2
section
variable {X : Cx} {pins : List (Addr × Obj)} {σ : L2.St} {H : Hp} {s : Shared}
/-- a keyword call binds its one value to the field's parameter -/
def KwB (K : PySem.W.Frag) (fd : FuncData) (fld : Str) : Prop := ∀ (s : Shared) (a v : Value), K.In s.heap → BindsTo s fd ⟨[a], [(fld, v)]⟩ ((["self", fld] : List Str).zip [a, v])
theorem mk_afterK {nm fld qual : Str} {st : Stmt} {k : Nat} {us : List Value} {vs : List V} {Q : VK} (T : Xg X.K X.mg nm fld qual st) (hkb : KwB X.K T.fd fld) (F1 : FnOk X.prog X.w X.K X.mg X.base CX0 k T.fI T.fd ["self", fld] (spXg T.C fld)) (hr : Room (k + 1) X.A)
    (I1 : Inv X pins σ H s) (r1 : Vals vs us) (q1 : mkQ T.C fld Q vs H) : wpAny (model X.prog X.w) X.A (call (.ref T.C) [] (([fld] : List Str).zip us)) (EP X pins σ Q) X.xe s := by
  obtain ⟨nm', q, N, bs, sn, sub, ab, col, dd, k0, k1, k2, k3, k5, B, ni, ii, hB, hC⟩ := T.oex.cls
  obtain ⟨v, rfl⟩ : ∃ v, vs = [v] := by
    match vs, q1 with
    | [v], _ => exact ⟨v, rfl⟩
  have q1 : ∀ a dx, H a = none → H dx = none → dx ≠ a → Q (.ref a) (upd (upd H dx (exd dx [(fld, v)])) a (exo a T.C (some dx))) := q1
  cases r1 with
  | @cons _ u _ _ ru r2 =>
  cases r2
  obtain ⟨hp, g, dr, tk, os⟩ := s
  have hsz : hp.objs.size ≤ hp.objs.size + 1 := Nat.le_succ _
  have hn : H (hp.objs.size + 1) = none := I1.hok.fresh hsz
  have kk : ∀ b o, hp.get? b = some o → ((hp.push (PySem.W.kdv_tup [])).push (PySem.HandSPX.excO T.C hp.objs.size)).get? b = some o := fun b o e => Heap.get?_push_of_some _ (Heap.get?_push_of_some _ e)
  have hget : ((hp.push (PySem.W.kdv_tup [])).push (PySem.HandSPX.excO T.C hp.objs.size)).get? (hp.objs.size + 1) = some (PySem.HandSPX.excO T.C hp.objs.size) := by heap_get
  have I2 : Inv X pins σ (upd H (hp.objs.size + 1) (exo (hp.objs.size + 1) T.C none)) ⟨(hp.push (PySem.W.kdv_tup [])).push (PySem.HandSPX.excO T.C hp.objs.size), g, dr, tk, os⟩ :=
    I1.laid (t' := tk) (a := hp.objs.size + 1) (o := exo (hp.objs.size + 1) T.C none) kk hsz (exo_ok hget)
  have r2 : Vals [V.ref (hp.objs.size + 1), v] [Value.ref (hp.objs.size + 1), u] := .cons rfl (.cons ru .nil)
  have sp : spXg T.C fld [V.ref (hp.objs.size + 1), v] (upd H (hp.objs.size + 1) (exo (hp.objs.size + 1) T.C none)) (fun v H2 => v = .non ∧ Q (.ref (hp.objs.size + 1)) H2) (fun _ _ _ => False) := by
    refine ⟨_, v, rfl, upd_same, fun dx h1 h2 => ⟨rfl, ?_⟩⟩
    rw [upd_exo h2]
    exact q1 _ dx hn (by rw [upd_ne h2] at h1; exact h1) h2
  refine wpAny_call (callK hB.f (fun Y => mroG_has Y T.bm T.rs) (I1.kIn _ _ hC) (PySem.W.looks_findIn I1.kIn T.iC) (fun self => PySem.W.bind_fn I1.kIn self T.tI) ?_)
  refine codeAny_mono (F1.run _ X.stack _ _ ⟨[Value.ref (hp.objs.size + 1)], [(fld, u)]⟩ [Value.ref (hp.objs.size + 1), u] _ _ (fun _ _ _ => False) (hr.make T.C [] [(fld, u)]) (I2.env0.make T.C [] [(fld, u)]) (hkb _ _ _ I2.kIn) r2 sp) fun r s' hq' => ?_
  cases r with
  | error er => exact pass0 pins σ _ _ er s' I2 hq'
  | ok fl =>
    cases fl with
    | ret u =>
      obtain ⟨v', H', I3, rv, ev, q3⟩ := I2.after hq'
      subst ev
      exact ⟨rv, .ref (hp.objs.size + 1), H', I3, rfl, q3⟩
    | next => exact False.elim hq'
    | brk => exact False.elim hq'
    | cont => exact False.elim hq'
/-- X(f = e) -/
theorem pe_mkKG {nm fld qual : Str} {st : Stmt} {k : Nat} {e : Expr} {te : TE} {p pos kp : Pos} (T : Xg X.K X.mg nm fld qual st) (hkb : KwB X.K T.fd fld) (F1 : FnOk X.prog X.w X.K X.mg X.base CX0 k T.fI T.fd ["self", fld] (spXg T.C fld)) (hr : Room (k + 1) X.A) (he : PE X e te)
    (hg : Gl X nm := by rfl) (hdb : (nm == ("__debug__" : Str)) = false := by decide +kernel)
    (hall : (backToKw pos (keywordEach [⟨some fld, e, kp⟩] X.env)).all (·.1.isSome) = true := by rfl) (hks : (backToKw pos (keywordEach [⟨some fld, e, kp⟩] X.env)).filterMap (·.1) = [fld] := by rfl)
    (hpl : ((backTo pos (starEach [] X.env)).any (·.1) || (backToKw pos (keywordEach [⟨some fld, e, kp⟩] X.env)).any (·.1.isNone)) = false := by rfl) :
    PE X (.Call (.Name nm p) [] [⟨some fld, e, kp⟩] pos) (tMkG T.C fld te) := by
  refine ⟨fun pins s σ H Q I h => ?_⟩
  refine wpAny_Call_Name_kw (ld_glob I hg T.g ?_ hdb)
  refine PySem.W.callWith_KW0 (h₀ := X.base) I.ok.mod.kin T.oex.kC hall (thn ((pk_cons he pk_nil).run pos pins s σ H (mkQ T.C fld Q) I h) fun ws s2 ⟨zs, H2, I2, rz, q2⟩ => ⟨I2.kIn, ?_⟩) hpl
  rw [hks]
  exact mk_afterK T hkb F1 hr I2 rz q2
end
/-- an error at a, its field f is v -/
def ErrAt (H : Hp) (a C : Addr) (f : Str) (v : V) : Prop := ∃ dx, H a = some (exo a C (some dx)) ∧ H dx = some (exd dx [(f, v)])
theorem ErrAt.same {H H' : Hp} {a C : Addr} {f : Str} {v : V} (s : Same H H') (h : ErrAt H a C f v) : ErrAt H' a C f v := let ⟨d, h1, h2⟩ := h; ⟨d, s _ _ h1, s _ _ h2⟩
theorem ErrAt.new {H : Hp} {a dx C : Addr} {f : Str} {v : V} (h : H a = none) (hd : H dx = none) (n : dx ≠ a) : ErrAt (upd (upd H dx (exd dx [(f, v)])) a (exo a C (some dx))) a C f v ∧ Same H (upd (upd H dx (exd dx [(f, v)])) a (exo a C (some dx))) :=
  ⟨⟨dx, upd_same, by rw [upd_ne n, upd_same]⟩, fun b u z => by rw [upd_ne (ne_of_none z h), upd_ne (ne_of_none z hd)]; exact z⟩
section
variable {X : Cx} {σ : L2.St} {H : Hp} {s : Shared}
/-- e.f, e an error -/
def tXfG (K : PySem.W.Frag) (f : Str) (te : TE) : TE := fun σ H Q => te σ H fun x H1 => ∃ (a C : Addr) (v : V), x = .ref a ∧ XfC K C ∧ PySem.W.findIn K (.ref C) f = some none ∧ ErrAt H1 a C f v ∧ Q v H1
theorem pe_xfG {e : Expr} {te : TE} {pos : Pos} {n : Str} (he : PE X e te) (hb : attributeBase e n X.env (eval e X.env) = eval e X.env := by rfl) : PE X (.Attribute e n pos) (tXfG X.K n te) := by
  refine ⟨fun pins s σ H Q I h => ?_⟩
  refine attr_of hb (thn (he.run pins s σ H _ I h) fun u s1 ⟨x, H1, I1, rx, a, C, v, ex, T, hno, ⟨dd, ha, hd⟩, q⟩ => ?_)
  subst ex
  obtain rfl : u = Value.ref a := rx
  obtain ⟨t1, ho⟩ := exo_at I1.hok ha
  obtain ⟨mA, hns, hr⟩ := exd_at I1.hok hd
  obtain ⟨od, hod, hl⟩ := lookIn_ns hns
  have hl1 : (([(n, v)] : List (Str × V)).lookup n) = some v := by simp
  obtain ⟨u, hu, ru⟩ := RelO.some_of (v := v) (o := mA n) (by rw [← hl1]; exact hr n)
  have J : PySem.W.InstAt s1.heap a _ C (some od) := ⟨ho, rfl, rfl, hod⟩
  exact HandSPX.exc_get I1.kIn J T.ga T.gg T.exC (PySem.W.findObj_own T.hdC hno rfl (by rw [hl, hu])) (handed_of ru) ⟨v, H1, I1.tok _, ru, q⟩
end
end My

set_option Elab.async false
set_option linter.all false
set_option maxRecDepth 100000
set_option maxHeartbeats 4000000
namespace PySem.W
open PySem PySem.Spec PySem.Calls PyProof.Rows
section
variable {prog : Program} {w : World} {A : Around} {E : Value → Shared → Prop} {s : Shared} {K : Frag} {x D : Addr} {ox : Obj} {od : Obj}
/-- an error with a dict of its own is asked for its class -/
theorem kin_classD {Q : Option Value → Shared → Prop} (C : L2.ExcC K D) (X : K.In s.heap) (I : InstAt s.heap x ox D (some od)) (h : Q (some (.ref D)) { s with toks := s.toks + 1 }) : wpAny (model prog w) A (getAttr? (.ref x) "__class__") Q E s := by
  have kc : (clsIn K D).isSome = true := by obtain ⟨cd, hc, _⟩ := any_some C.hd; rw [hc]; rfl
  have hf : findObj K D (some od) "__class__" = some (.bind (.builtin "getset_descriptor.__get__") (.builtin "object.__class__")) := findObj_data kc C.ha C.hn C.ht
  obtain ⟨hp, g, d, t, os⟩ := s
  have M0 := I.type (M := model prog w)
  have M1 := looks_findIn (M := model prog w) X C.hg
  have M2 := looks_findIn (M := model prog w) X C.hk
  have M3 := looks_find (M := model prog w) X I hf
  have sb : Looks (model prog w) hp (isInstance (.ref x) (.type "BaseException")) true := M0.andThen (looks_subIn X C.hs)
  have x0 : (false && onTheHeap (Value.builtin "BaseException.__getattribute__")) = false := rfl
  have x1 : (onTheHeap (Value.ref D) && Value.builtin "BaseException.__getattribute__" == Value.builtin "object.__getattribute__") = false := by
    rw [show (Value.builtin "BaseException.__getattribute__" == Value.builtin "object.__getattribute__") = false from by decide +kernel]; rfl
  unfold getAttr? getAttrBy? getAttrBy
  refine wpAny_bind (wpAny_mkText (wpAny_bind (wpAny_attempt (wpAny_holding (wpAny_bind (M0.at (wpAny_bind (M1.at ?_)))))))); show wpAny _ _ (if (onTheHeap (Value.ref D) && Value.builtin "BaseException.__getattribute__" == Value.builtin "object.__getattribute__") = true then _ else _) _ _ _
  rw [x1, if_neg Bool.false_ne_true]
  unfold getAttrByItsOwn hookBefore
  refine wpAny_bind ?_; rw [if_pos (show onTheHeap (Value.ref D) = true from rfl)]
  refine M2.at (wpAny_bind (wpAny_attempt (wpAny_holding ?_)))
  unfold callGetattribute; rw [x0, if_neg Bool.false_ne_true]
  unfold boundAndCalled; rw [PySem.F.excAttr_ValueError.ga.bind (.ref x)]
  refine wpAny_bind (wpAny_pure ?_); show wpAny _ _ (call (.builtin "BaseException.__getattribute__") [.ref x, .str "__class__" t]) _ _ _
  refine wpAny_call (codeAny_call_builtin PySem.F.excAttr_ValueError.ga.plain PySem.F.entry_bexc_ga (@check_slot (model prog w) _ _ ⟨hp, g, d, t + 1, os⟩ "BaseException.__getattribute__" "BaseException" "__getattribute__" (.ref x) [.str "__class__" t] [] _ (by decide +kernel) (by decide +kernel) sb (PySem.F.args_bexc_ga (.ref x) (.str "__class__" t)) ?_))
  unfold Builtin.«object.__getattribute__»
  refine wpAny_bind (wpAny_of_eq (a := ((Value.ref x : Value), [Value.str "__class__" t])) (by first | rfl | (simp only [slotArgs]; rfl)) (wpAny_bind (wpAny_pure (wpAny_bind (M0.at (wpAny_bind (M3.at ?_)))))))
  show wpAny _ _ (holding [Value.builtin "object.__class__"] (call (.builtin "getset_descriptor.__get__") [.builtin "object.__class__", .ref x, .ref D]) >>= ret) _ _ _
  refine wpAny_bind (wpAny_holding (wpAny_call (class_get (s := ⟨hp, g, d, t + 1, os⟩) (ox := ox) (od := some od) X I C.hm (wpAny_pure ?_)))); show wpAny _ _ (handedOut (.ref D)) _ _ _
  rw [handedOut_of (v := .ref D) rfl]
  first
    | exact wpAny_pure (wpAny_pure h)
    | exact wpAny_pure h
    | exact wpAny_pure (wpAny_bind (wpAny_pure (wpAny_pure h)))
theorem kitx_excD (C : L2.ExcC K D) (x : Addr) : KitX K (.ref x) (.ref D) (fun h => ∃ ox od, InstAt h x ox D (some od)) where
  ty := fun _ _ _ ⟨_, _, I⟩ => I.type
  it := fun _ _ X _ => by
    obtain ⟨cdD, hcD, _⟩ := any_some C.hd
    unfold clsIn at hcD
    split at hcD
    · rename_i c' d' cd' sl' ho
      intro A' Q' E' s' k q
      unfold isType loadHead; exact wpAny_bind (wpAny_loadPart (k _ _ (X _ _ ho)) (wpAny_pure q))
    · cases hcD
  ne := fun h tp dd its n sl X htp => by
    obtain ⟨cdD, hcD, _⟩ := any_some C.hd
    refine Bool.eq_false_iff.mpr fun q => ?_
    obtain rfl : D = tp := Value.ref.inj (beq_iff_eq.mp q)
    unfold clsIn at hcD
    split at hcD
    · rename_i c' d' cd' sl' ho
      exact nomatch (X _ _ ho).symm.trans htp
    · cases hcD
  ca := fun X ⟨_, _, I⟩ k => kin_classD C X I k
end
end PySem.W
namespace My
open PySem PySem.Spec PyProof.Rows L2
section
variable {X : Cx}
/-- isinstance(e, c), e an error of one's own -/
def rIsG (K : PySem.W.Frag) (cv : Value) (c : V) : List V → Hp → VK → Prop := fun vs H Q => ∃ (a D : Addr) (b : Bool) (f : Str) (v : V), vs = [.ref a, c] ∧ ErrAt H a D f v ∧ ExcC K D ∧ PySem.W.kitOne K (.ref D) cv = some b ∧ Q (.bl b) H
theorem call_isG {c : V} {cv : Value} (hcv : ∀ u, RelV c u → u = cv) : CallR X (.builtin "isinstance") (rIsG X.K cv c) := by
  intro pins s σ H xs us Q I r h
  obtain ⟨a, D, b, f, v, rfl, ⟨dx, ha, hd⟩, C, e, q⟩ := h
  obtain ⟨u1, u2, rfl, r1, r2⟩ := vals2 r
  cases (show u1 = Value.ref a from r1)
  obtain rfl := hcv _ r2
  obtain ⟨t1, ho⟩ := exo_at I.hok ha
  obtain ⟨mA, hns, hr⟩ := exd_at I.hok hd
  obtain ⟨od, hod, hl⟩ := lookIn_ns hns
  have J : PySem.W.InstAt s.heap a _ D (some od) := ⟨ho, rfl, rfl, hod⟩
  exact PySem.W.kia_one (PySem.W.kitx_excD C a) I.kIn ⟨_, _, J⟩ e (fun z => nomatch z) fun tk => ⟨.bl b, H, I.kept (t' := tk) fun _ _ z => z, rfl, q⟩
/-- of an error without one: a class without __init__ -/
def rIsO (K : PySem.W.Frag) (cv : Value) (c : V) : List V → Hp → VK → Prop := fun vs H Q => ∃ (a D : Addr) (b : Bool), vs = [.ref a, c] ∧ H a = some (ExO (.ref D) a) ∧ ExcC K D ∧ PySem.W.kitOne K (.ref D) cv = some b ∧ Q (.bl b) H
theorem call_isO {c : V} {cv : Value} (hcv : ∀ u, RelV c u → u = cv) : CallR X (.builtin "isinstance") (rIsO X.K cv c) := by
  intro pins s σ H xs us Q I r h
  obtain ⟨a, D, b, rfl, ha, C, e, q⟩ := h
  obtain ⟨u1, u2, rfl, r1, r2⟩ := vals2 r
  cases (show u1 = Value.ref a from r1)
  obtain rfl := hcv _ r2
  obtain ⟨⟨oe, vs, ho, ⟨z1, z2⟩, hdat, _⟩, _, _⟩ := I.hok a _ ha
  have J : PySem.W.InstAt s.heap a oe D none := ⟨ho, z1, by unfold PySem.W.notCls; rw [hdat] <;> rfl, by rw [z2]; trivial⟩
  exact PySem.W.kia_one (PySem.W.handS_kitx_exc C.hg C.hk C.hs C.hd C.ha C.hn C.ht C.hm) I.kIn J e (fun z => nomatch z) fun tk => ⟨.bl b, H, I.kept (t' := tk) fun _ _ z => z, rfl, q⟩
end
end My

set_option Elab.async false
set_option linter.all false
set_option maxRecDepth 100000
set_option maxHeartbeats 2000000
namespace My
open PySem PySem.Spec PyProof.Rows L2
section
variable {X : Cx}
/-- d[k], d a dict that stands in H, k a text that is there -/
def tDg (td ty : TE) : TE := fun σ H Q => td σ H fun x H1 => ty σ H1 fun y H2 => ∃ a k, x = .ref a ∧ y = .str k ∧ ∃ kvs : List (Key × V), H2 a = some (.dK kvs) ∧ ∃ v, valV kvs (Sum.inr k) = some v ∧ Q v H2
theorem rd_dg {td ty : TE} {σ : L2.St} {H : Hp} {Q : VK} : tDg td ty σ H Q = td σ H fun x H1 => ty σ H1 fun y H2 => ∃ a k, x = .ref a ∧ y = .str k ∧ ∃ kvs : List (Key × V), H2 a = some (.dK kvs) ∧ ∃ v, valV kvs (Sum.inr k) = some v ∧ Q v H2 := rfl
theorem pe_dg {o i : Expr} {td ty : TE} {pos : Pos} (hu : X.A.units + 64 < cLine) (ho : PE X o td) (hi : PE X i ty) (hs : NoSl i := by exact fun _ _ => rfl) : PE X (.Subscript o i pos) (tDg td ty) :=
  (pe_dget (by omega) ho.mon hi.mon hs).imp fun σ H Q q => ⟨_, q, fun x H1 q1 => ⟨_, q1, fun y H2 ⟨a, k, ex, ey, kvs, ha, v, hv, q2⟩ => ⟨a, v, ex, .inl ⟨kvs, Sum.inr k, .inl ha, ey, hv.symm⟩, q2⟩⟩⟩
/-- d[k] = v -/
def sDp (td ty tv : TE) : TS := fun D σ H => tv σ H fun v H1 => td σ H1 fun x H2 => ty σ H2 fun y H3 => ∃ a k, x = .ref a ∧ y = .str k ∧ ∃ kvs : List (Key × V), H3 a = some (.dK kvs) ∧ kvs.length < sizeLine ∧ D.nx σ (upd H3 a (.dK (putK kvs (Sum.inr k) v)))
theorem rd_dp {td ty tv : TE} {σ : L2.St} {H : Hp} {D : Ends} : sDp td ty tv D σ H = tv σ H fun v H1 => td σ H1 fun x H2 => ty σ H2 fun y H3 => ∃ a k, x = .ref a ∧ y = .str k ∧ ∃ kvs : List (Key × V), H3 a = some (.dK kvs) ∧ kvs.length < sizeLine ∧ D.nx σ (upd H3 a (.dK (putK kvs (Sum.inr k) v))) := rfl
theorem ps_dp {o i value : Expr} {td ty tv : TE} {pos pos' : Pos} (hu : X.A.units + 64 < cLine) (ho : PE X o td) (hi : PE X i ty) (hv : PE X value tv) (hs : swapsWith value (some (.Subscript o i pos')) pos.line X.env = pure false := by rfl) : PS X (.Assign [.Subscript o i pos'] value pos) (sDp td ty tv) :=
  (ps_dput (by omega) ho.mon hi.mon hv.mon hs).imp fun D σ H q => ⟨_, q, fun v H1 q1 => ⟨_, q1, fun x H2 q2 => ⟨_, q2, fun y H3 ⟨a, k, ex, ey, kvs, ha, hz, q3⟩ => ⟨a, _, ex, .inl ⟨kvs, Sum.inr k, ha, ey, hz, rfl⟩, q3⟩⟩⟩⟩
end
theorem put_len (kvs : List (Key × V)) (k : Key) (v : V) : (putK kvs k v).length ≤ kvs.length + 1 := by
  unfold putK
  split
  · rw [List.length_map]; omega
  · rw [List.length_append]; exact Nat.le_refl _
end My

set_option Elab.async false
set_option linter.all false
set_option maxRecDepth 100000
set_option maxHeartbeats 2000000
namespace My
open PySem PySem.Spec PyProof.Rows L2
/-- repr(a), a a list or tuple of plain values (the caller writes no text at the time: guards) -/
def rRepr (K : PySem.W.Frag) : List V → Hp → VK → Prop := fun vs H Q => ∃ (a : Addr) (d : PyData), vs = [.ref a] ∧ Dp K H (.ref a) d ∧ d.showable = true ∧ d.hasDict = false ∧ d.depth ≤ 3 ∧ d.shown.length ≤ 100000 ∧ Q (.str d.shown) H
theorem rd_repr {K : PySem.W.Frag} {a : Addr} {H : Hp} {Q : VK} : rRepr K [.ref a] H Q = ∃ (d : PyData), Dp K H (.ref a) d ∧ d.showable = true ∧ d.hasDict = false ∧ d.depth ≤ 3 ∧ d.shown.length ≤ 100000 ∧ Q (.str d.shown) H := by
  simp [rRepr]
theorem call_repr {X : Cx} (hg : X.A.guards = some []) (hu : X.A.units + 64 < cLine) : CallR X (.builtin "repr") (rRepr X.K) := by
  intro pins s σ H xs us Q I r h
  obtain ⟨a, d, rfl, hd, hs, hn, hp, hl, q⟩ := h
  cases r with
  | cons r1 r2 =>
    cases r2
    cases r1
    obtain ⟨as, rr⟩ := Dp.reads I d _ _ hd rfl
    exact repr_of_reads' rr hs (fun z => by rw [hn] at z; cases z) hg (by omega) (fun _ _ e => e) (fun h' u tk hk => ⟨.str d.shown, H, I.kept hk, ⟨u, rfl⟩, q⟩) (sz hl)
/-! ### the law's def, called by the judge alone: nothing is being written as text -/
/-- the promise of a def at the one place where the law is called -/
def AtTop (P : Program) (w : World) (K : PySem.W.Frag) (mg : Str → Option Value) (base : Heap) (f : Addr) (fd : FuncData) (ps : List Str) (sp : Sp) : Prop :=
  ∀ (s : Shared) (H : Hp) (as : Args) (us : List Value) (vs : List V) (Q : VK) (E : XK), Env0 P w K mg base callerA [] s H → BindsTo s fd as (ps.zip us) → Vals vs us → sp vs H Q E → codeAny (model P w) callerA (.call (.ref f) as) (CR CX0 [] P w H s Q E) s
theorem top_ok {P : Program} {w : World} {K : PySem.W.Frag} {mg : Str → Option Value} {base : Heap} {nm qual : Str} {st : Stmt} {f : Addr} {fd : FuncData} {N ps : List Str} {sp : Sp} {k : Nat} (F : Fun K nm qual st f fd) (S : FnScope N ps (defScope st))
    (rm : Room (k + 1) callerA) (ln : ∀ vs H Q E, sp vs H Q E → vs.length = ps.length)
    (bd : ∀ (cdv : Value) (s : Shared) (H : Hp) (vs : List V) (Q : VK) (E : XK), Room k (callerA.deeper (envOfC qual (defScope st) s.heap.objs.size f cdv)) → sp vs H Q E →
      ∃ t, PSs (cxOf CX0 P w K mg base N qual (defScope st) f cdv callerA [] s H E).nox (defBody st) t ∧ t { nx := fun _ H' => Q .non H', rt := Q } (start N vs) H) : AtTop P w K mg base f fd ps sp := by
  intro s H as us vs Q E env bt rv hs
  have hX := F.ex
  obtain ⟨oc, od, kV, doc, pm, an, cdv, ct, osl, efd, hlk, hcode⟩ := hX
  subst efd
  have nvs := ln _ _ _ _ hs
  have old := fun b o e => (env.bs b o e).1
  have inK : K.In s.heap := env.mod.kin.keeps old
  have lims : s.heap.NoLimit := env.mod.nolimit.keeps old
  have kinds : ∀ z ∈ ps.zip us, (defScope st).names.lookup z.1 = some .local ∨ ((defScope st).names.lookup z.1 = some .cell ∧ ((cellsFrom (s.heap.objs.size + 1) (defScope st).names []).lookup z.1).isSome = true) := by
    intro z hz
    have zin := (List.of_mem_zip (a := z.1) (b := z.2) hz).1
    exact (S.par z.1 zin).imp id fun c => ⟨c, PySem.W.cellsFrom_some _ _ _ (.inl c)⟩
  refine codeAny_call_function rm.depth (inK _ _ hlk) rfl S.co S.gen rfl (PySem.W.codeRec_of inK hcode) ?body
  refine bt _ _ _ _ ?bound
  refine wpAny_newFunctionEnv_cells S.kind kinds ?made
  intro env1 e1 st1 made
  subst e1
  obtain ⟨t, ht, hq⟩ := bd cdv s H vs Q E (rm.deeper _) hs
  have I := inv_start (CX := CX0) (E := E) S rm.hd env nvs rv made
  refine ⟨lims.keeps made.toInCall.keep, codeAny_func (wpAny_mono ((ht.nox).run [] st1 (start N vs) H _ I hq) ?_ fun _ _ z => z)⟩
  intro fl s' out
  cases fl with
  | brk => exact out.elim fun _ z => z.elim fun _ z => z.2.elim
  | cont => exact out.elim fun _ z => z.elim fun _ z => z.2.elim
  | next =>
    obtain ⟨_, H', J, q⟩ := out
    exact ⟨V.non, H', J.os, J.bare, J.base, J.hok, rfl, q⟩
  | ret u =>
    obtain ⟨v, _, H', J, rv', q⟩ := out
    exact ⟨v, H', J.os, J.bare, J.base, J.hok, rv', q⟩
end My

set_option Elab.async false
set_option linter.all false
set_option maxRecDepth 100000
set_option maxHeartbeats 4000000
/-! repr of data with dicts, where only a dict must not be the machine's own -/
namespace PySem
open Sem (wp)
mutual
inductive Rz (h : Heap) : Value → PyData → Prop
  | non : Rz h .none .none
  | bl (b) : Rz h (.bool b) (.bool b)
  | nu (i t) : Rz h (.int i t) (.int i)
  | tx (x t) : Rz h (.str x t) (.str x)
  | li {a o vs n xs} : h.get? a = some o → o.cls = .type "list" → o.data = .seq vs n → RzA h vs.toList xs → Rz h (.ref a) (.list xs)
  | tu {a o vs n xs} : h.get? a = some o → o.cls = .type "tuple" → o.data = .seq vs n → RzA h vs.toList xs → Rz h (.ref a) (.tuple xs)
  | di {a o es n kvs} : (a == sysModules) = false → h.get? a = some o → o.cls = .type "dict" → o.data = .dict es n → RzA h (es.toList.map (·.key)) (kvs.map (·.1)) → RzA h (es.toList.map (·.val)) (kvs.map (·.2)) → Rz h (.ref a) (.dict kvs)
inductive RzA (h : Heap) : List Value → List PyData → Prop
  | nil : RzA h [] []
  | cons {v vs d ds} : Rz h v d → RzA h vs ds → RzA h (v :: vs) (d :: ds)
end
section
variable {prog : Program} {w : World} {h₀ : Heap}
mutual
theorem Rz.rd : ∀ {v : Value} {d : PyData}, Rz h₀ v d → ∃ as, Reads h₀ v d as
  | _, _, .non => ⟨_, .none⟩
  | _, _, .bl b => ⟨_, .bool b⟩
  | _, _, .nu i t => ⟨_, .int i t⟩
  | _, _, .tx x t => ⟨_, .str x t⟩
  | _, _, .li q1 q2 q3 q4 => let ⟨_, z⟩ := RzA.rd q4; ⟨_, .list q1 q2 q3 z⟩
  | _, _, .tu q1 q2 q3 q4 => let ⟨_, z⟩ := RzA.rd q4; ⟨_, .tuple q1 q2 q3 z⟩
  | _, _, .di _ q1 q2 q3 q4 q5 => let ⟨_, z⟩ := RzA.rd q4; let ⟨_, y⟩ := RzA.rd q5; ⟨_, .dict q1 q2 q3 z y⟩
theorem RzA.rd : ∀ {v : List Value} {d : List PyData}, RzA h₀ v d → ∃ as, ReadsAll h₀ v d as
  | _, _, .nil => ⟨_, .nil⟩
  | _, _, .cons q1 q2 => let ⟨_, z⟩ := Rz.rd q1; let ⟨_, y⟩ := RzA.rd q2; ⟨_, .cons z y⟩
end
mutual
theorem Rz.rk : ∀ {v : Value} {d : PyData}, Rz h₀ v d → d.showable = true → d.shown.length ≤ sizeLine → ∃ bs, ReadAtMost h₀ d.depth bs ∧ ReprK prog w bs h₀ d.depth v d.shown
  | _, _, .non, _, _ => ⟨[], (fun _ h => nomatch h), (by simp only [PyData.shown]; exact .of_is ReprIs.none _ _ _)⟩
  | _, _, .bl b, _, _ => ⟨[], (fun _ h => nomatch h), (by simp only [PyData.shown]; exact .of_is (ReprIs.bool b) _ _ _)⟩
  | _, _, .nu i t, hs, _ => ⟨[], (fun _ h => nomatch h), (by simp only [PyData.shown]; exact .of_is (ReprIs.int t (by simpa [PyData.showable] using hs)) _ _ _)⟩
  | _, _, .tx x t, _, hz => ⟨[], (fun _ h => nomatch h), (by simp only [PyData.shown]; exact .of_is (ReprIs.str x t (by simpa only [PyData.shown] using hz)) _ _ _)⟩
  | _, _, .li (a := a) (vs := us) (xs := ds) q1 q2 q3 q4, hs, hz => by
    have z1 : (listText (PyData.shownAll ds)).length ≤ sizeLine := (by simpa only [PyData.shown] using hz)
    obtain ⟨bs, z2, z3⟩ := RzA.rk q4 (by simpa [PyData.showable] using hs) (fun t ht => Nat.le_trans (listText_mem_le ht) z1)
    obtain ⟨as, r0⟩ := RzA.rd q4
    have r : Reads h₀ (.ref a) (.list ds) _ := .list q1 q2 q3 r0
    have z4 : a ∉ bs := not_mem_of_deeper r (by simp only [PyData.depth]; omega) z2
    refine ⟨a :: bs, .cons r (by simp only [PyData.depth]; omega) z2, ?_⟩; simp only [PyData.depth, PyData.shown]
    obtain ⟨l⟩ := us
    match l, ds, q4, z3 with
    | [], _, .nil, _ => rw [PyData.shownAll, listText_nil]; exact ReprK.listEmpty q1 q2 q3
    | x :: l, _, _, z3 => exact ReprK.list q1 q2 q3 z4 (by simpa using z3.length_eq) (fun i y e => z3.item i y (by simpa using e))
  | _, _, .tu (a := a) (xs := ds) q1 q2 q3 q4, hs, hz => by
    have z1 : (tupleText (PyData.shownAll ds)).length ≤ sizeLine := (by simpa only [PyData.shown] using hz)
    obtain ⟨bs, z2, z3⟩ := RzA.rk q4 (by simpa [PyData.showable] using hs) (fun t ht => Nat.le_trans (tupleText_mem_le ht) z1)
    obtain ⟨as, r0⟩ := RzA.rd q4
    have r : Reads h₀ (.ref a) (.tuple ds) _ := .tuple q1 q2 q3 r0
    refine ⟨a :: bs, .cons r (by simp only [PyData.depth]; omega) z2, ?_⟩; simp only [PyData.depth, PyData.shown]
    exact ReprK.tuple q1 q2 q3 (not_mem_of_deeper r (by simp only [PyData.depth]; omega) z2) z3
  | _, _, .di (a := a) (es := es) (kvs := kvs) q0 q1 q2 q3 q4 q5, hs, hz => by
    have z1 : (dictText (PyData.shownKv kvs)).length ≤ sizeLine := (by simpa only [PyData.shown] using hz)
    obtain ⟨s1, s2⟩ := PyData.showableKv_split kvs (by simpa [PyData.showable] using hs)
    obtain ⟨b1, y1, k1⟩ := RzA.rk q4 s1 (fun t ht => let ⟨p, hp, hl⟩ := PyData.shownKv_key_le kvs t ht; Nat.le_trans hl (Nat.le_trans (dictText_mem_le hp) z1))
    obtain ⟨b2, y2, k2⟩ := RzA.rk q5 s2 (fun t ht => let ⟨p, hp, hl⟩ := PyData.shownKv_val_le kvs t ht; Nat.le_trans hl (Nat.le_trans (dictText_mem_le hp) z1))
    obtain ⟨as, r1⟩ := RzA.rd q4
    obtain ⟨cs, r2⟩ := RzA.rd q5
    have r : Reads h₀ (.ref a) (.dict kvs) _ := .dict q1 q2 q3 r1 r2
    have y3 : ReadAtMost h₀ (PyData.depthKv kvs) (b1 ++ b2) := (y1.mono (PyData.depthAll_keys_le kvs)).append (y2.mono (PyData.depthAll_vals_le kvs))
    have y4 : a ∉ b1 ++ b2 := not_mem_of_deeper r (by simp only [PyData.depth]; omega) y3
    refine ⟨a :: (b1 ++ b2), .cons r (by simp only [PyData.depth]; omega) y3, ?_⟩; simp only [PyData.depth, PyData.shown, PyData.shownKv_eq]
    exact ReprK.dict q1 q2 q3 q0 y4 (ReprEntriesK.of_two es.toList _ _ (k1.more_le (fun b hb => List.mem_append_left _ hb) (PyData.depthAll_keys_le kvs)) (k2.more_le (fun b hb => List.mem_append_right _ hb) (PyData.depthAll_vals_le kvs)))
theorem RzA.rk : ∀ {v : List Value} {d : List PyData}, RzA h₀ v d → PyData.showableAll d = true → (∀ t ∈ PyData.shownAll d, t.length ≤ sizeLine) → ∃ bs, ReadAtMost h₀ (PyData.depthAll d) bs ∧ ReprAllK prog w bs h₀ (PyData.depthAll d) v (PyData.shownAll d)
  | _, _, .nil, _, _ => ⟨[], (fun _ h => nomatch h), (by simp only [PyData.shownAll]; exact .nil)⟩
  | _, _, .cons (d := d) (ds := ds) r rs, hs, hz => by
    have s0 : d.showable = true ∧ PyData.showableAll ds = true := (by simpa [PyData.showableAll] using hs)
    obtain ⟨b1, y1, k1⟩ := Rz.rk r s0.1 (hz _ (by simp only [PyData.shownAll]; exact List.mem_cons_self ..))
    obtain ⟨b2, y2, k2⟩ := RzA.rk rs s0.2 (fun t ht => hz t (by simp only [PyData.shownAll]; exact List.mem_cons_of_mem _ ht))
    have e1 : PyData.depthAll (d :: ds) = max d.depth (PyData.depthAll ds) := (by simp only [PyData.depthAll])
    refine ⟨b1 ++ b2, fun b hm => ?_, ?_⟩
    · rw [e1]; rcases List.mem_append.mp hm with hm | hm
      · obtain ⟨d', as', r', hd'⟩ := y1 b hm; exact ⟨d', as', r', Nat.le_trans hd' (Nat.le_max_left _ _)⟩
      · obtain ⟨d', as', r', hd'⟩ := y2 b hm; exact ⟨d', as', r', Nat.le_trans hd' (Nat.le_max_right _ _)⟩
    · rw [e1]; simp only [PyData.shownAll]
      exact .cons ((k1.more fun b hb => List.mem_append_left _ hb).level_le (Nat.le_max_left _ _)) (k2.more_le (fun b hb => List.mem_append_right _ hb) (Nat.le_max_right _ _))
end
theorem Rz.shows {a : Addr} {d : PyData} (r : Rz h₀ (.ref a) d) (hs : d.showable = true) (hsz : d.shown.length ≤ sizeLine) : ∃ T idr, ShowsBy prog w h₀ a d T idr := by
  cases r with
  | @li _ o us n ds q1 q2 q3 q4 =>
    have z1 : (listText (PyData.shownAll ds)).length ≤ sizeLine := (by simpa only [PyData.shown] using hsz)
    obtain ⟨bs, z2, z3⟩ := RzA.rk (prog := prog) (w := w) q4 (by simpa [PyData.showable] using hs) (fun t ht => Nat.le_trans (listText_mem_le ht) z1)
    obtain ⟨as, r0⟩ := RzA.rd q4
    have z4 : a ∉ bs := not_mem_of_deeper (.list q1 q2 q3 r0) (by simp only [PyData.depth]; omega) z2
    refine ⟨"list", "list.__repr__", F.slot_list_repr.toG, F.slot_list_str, F.slot_list_format, fun s k0 => ⟨o, k0 _ _ q1, q2⟩, fun A E s Q hg hu k0 hQ => ?_⟩
    simp only [PyData.depth] at hu; simp only [PyData.shown] at hQ
    obtain ⟨l⟩ := us
    match l, ds, q4, z3 with
    | [], _, .nil, _ =>
      rw [PyData.shownAll, listText_nil] at hQ
      exact call_list_repr_empty ⟨o, k0 _ _ q1, q2⟩ (k0 _ _ q1) q3 (hQ s.heap _ _ fun _ _ e => e)
    | x :: l, _, _, z3 => exact call_list_reprK q1 q2 q3 z4 (by simpa using z3.length_eq) (fun i y e => z3.item i y (by simpa using e)) hg (fun b _ => Clear.nil b) hu k0 hQ z1
  | @tu _ o us n ds q1 q2 q3 q4 =>
    have z1 : (tupleText (PyData.shownAll ds)).length ≤ sizeLine := (by simpa only [PyData.shown] using hsz)
    obtain ⟨bs, z2, z3⟩ := RzA.rk (prog := prog) (w := w) q4 (by simpa [PyData.showable] using hs) (fun t ht => Nat.le_trans (tupleText_mem_le ht) z1)
    obtain ⟨as, r0⟩ := RzA.rd q4
    refine ⟨"tuple", "tuple.__repr__", F.slot_tuple_repr, F.slot_tuple_str, F.slot_tuple_format, fun s k0 => ⟨o, k0 _ _ q1, q2⟩, fun A E s Q hg hu k0 hQ => ?_⟩
    simp only [PyData.depth] at hu; simp only [PyData.shown] at hQ
    exact call_tuple_reprK q1 q2 q3 (not_mem_of_deeper (.tuple q1 q2 q3 r0) (by simp only [PyData.depth]; omega) z2) z3 hg (fun b _ => Clear.nil b) hu k0 hQ z1
  | @di _ o es n kvs q0 q1 q2 q3 q4 q5 =>
    have z1 : (dictText (PyData.shownKv kvs)).length ≤ sizeLine := (by simpa only [PyData.shown] using hsz)
    obtain ⟨s1, s2⟩ := PyData.showableKv_split kvs (by simpa [PyData.showable] using hs)
    obtain ⟨b1, y1, k1⟩ := RzA.rk (prog := prog) (w := w) q4 s1 (fun t ht => let ⟨p, hp, hl⟩ := PyData.shownKv_key_le kvs t ht; Nat.le_trans hl (Nat.le_trans (dictText_mem_le hp) z1))
    obtain ⟨b2, y2, k2⟩ := RzA.rk (prog := prog) (w := w) q5 s2 (fun t ht => let ⟨p, hp, hl⟩ := PyData.shownKv_val_le kvs t ht; Nat.le_trans hl (Nat.le_trans (dictText_mem_le hp) z1))
    obtain ⟨as, r1⟩ := RzA.rd q4
    obtain ⟨cs, r2⟩ := RzA.rd q5
    have y3 : ReadAtMost h₀ (PyData.depthKv kvs) (b1 ++ b2) := (y1.mono (PyData.depthAll_keys_le kvs)).append (y2.mono (PyData.depthAll_vals_le kvs))
    have y4 : a ∉ b1 ++ b2 := not_mem_of_deeper (.dict q1 q2 q3 r1 r2) (by simp only [PyData.depth]; omega) y3
    refine ⟨"dict", "dict.__repr__", F.slot_dict_repr, F.slot_dict_str, F.slot_dict_format, fun s k0 => ⟨o, k0 _ _ q1, q2⟩, fun A E s Q hg hu k0 hQ => ?_⟩
    simp only [PyData.depth] at hu; simp only [PyData.shown, PyData.shownKv_eq] at hQ
    exact call_dict_reprK q1 q2 q3 q0 y4 (ReprEntriesK.of_two es.toList _ _ (k1.more_le (fun b hb => List.mem_append_left _ hb) (PyData.depthAll_keys_le kvs)) (k2.more_le (fun b hb => List.mem_append_right _ hb) (PyData.depthAll_vals_le kvs))) hg (fun b _ => Clear.nil b) hu k0 hQ (by rw [← PyData.shownKv_eq]; exact z1)
theorem Rz.repr {a : Addr} {d : PyData} {A : Around} {E : Value → Shared → Prop} {s : Shared} {Q : Value → Shared → Prop} (r : Rz h₀ (.ref a) d) (hs : d.showable = true) (hsz : d.shown.length ≤ sizeLine) (hg : A.guards = some []) (hu : A.units + (d.depth + 1) < cLine) (k0 : ∀ b o, h₀.get? b = some o → s.heap.get? b = some o)
    (hQ : ∀ h' u tk, (∀ b o, s.heap.get? b = some o → h'.get? b = some o) → Q (.str d.shown u) { s with heap := h', toks := tk }) : wpAny (model prog w) A (call (.builtin "repr") [.ref a]) Q E s := by
  obtain ⟨T, idr, S⟩ := Rz.shows (prog := prog) (w := w) r hs hsz
  exact call_repr_slot (by omega) (S.typeIs s k0) S.slotRepr (S.call A.in1 E s _ hg (by show A.units + 1 + d.depth < cLine; omega) k0 fun h' u tk hk => ⟨_, _, rfl, hQ h' u tk hk⟩)
end
end PySem

set_option Elab.async false
set_option linter.all false
set_option maxRecDepth 100000
set_option maxHeartbeats 2000000
namespace My
open PySem PySem.Spec PyProof.Rows L2
/-! ### data with dicts (keys: texts and whole numbers) -/
def kD : Key → PyData
  | .inl i => .int i
  | .inr x => .str x
mutual
inductive Dq (K : PySem.W.Frag) (H : Hp) : V → PyData → Prop
  | non : Dq K H .non .none
  | bl (b : Bool) : Dq K H (.bl b) (.bool b)
  | int (i : Int) : Dq K H (.int i) (.int i)
  | str (x : Str) : Dq K H (.str x) (.str x)
  | lst {a : Addr} {xs : List V} {ds : List PyData} : SqL K H a xs → DqAll K H xs ds → Dq K H (.ref a) (.list ds)
  | tup {a : Addr} {xs : List V} {ds : List PyData} : SqT K H a xs → DqAll K H xs ds → Dq K H (.ref a) (.tuple ds)
  | dic {a : Addr} {kvs : List (Key × V)} {ds : List (PyData × PyData)} : H a = some (.dK kvs) → DqKv K H kvs ds → Dq K H (.ref a) (.dict ds)
inductive DqAll (K : PySem.W.Frag) (H : Hp) : List V → List PyData → Prop
  | nil : DqAll K H [] []
  | cons {v : V} {vs : List V} {d : PyData} {ds : List PyData} : Dq K H v d → DqAll K H vs ds → DqAll K H (v :: vs) (d :: ds)
inductive DqKv (K : PySem.W.Frag) (H : Hp) : List (Key × V) → List (PyData × PyData) → Prop
  | nil : DqKv K H [] []
  | cons {k : Key} {v : V} {kvs : List (Key × V)} {d : PyData} {ds : List (PyData × PyData)} : Dq K H v d → DqKv K H kvs ds → DqKv K H ((k, v) :: kvs) ((kD k, d) :: ds)
end
section
variable {X : Cx} {pins : List (Addr × Obj)} {σ : L2.St} {H : Hp} {s : Shared}
mutual
theorem Dq.rz (I : Inv X pins σ H s) : ∀ (d : PyData) (v : V) (u : Value), Dq X.K H v d → RelV v u → Rz s.heap u d
  | .none, _, _, h, r => by
    cases h
    cases r
    exact .non
  | .bool b, _, _, h, r => by
    cases h
    cases r
    exact .bl b
  | .int i, _, _, h, r => by
    cases h
    obtain ⟨t, rfl⟩ := r
    exact .nu i t
  | .str x, _, _, h, r => by
    cases h
    obtain ⟨t, rfl⟩ := r
    exact .tx x t
  | .list ds, _, _, h, r => by
    cases h with
    | lst hs ha =>
      cases r
      obtain ⟨its, rv, ⟨o, n, ho, hc, _, hd⟩, _⟩ := I.list hs
      exact .li ho hc hd (Dq.rzAll I ds _ its ha rv)
  | .tuple ds, _, _, h, r => by
    cases h with
    | tup hs ha =>
      cases r
      obtain ⟨its, rv, ⟨o, ho, hc, n, hd⟩, _⟩ := I.tuple hs
      exact .tu ho hc hd (Dq.rzAll I ds _ its ha rv)
  | .dict ds, _, _, h, r => by
    cases h with
    | dic hs ha =>
      cases r
      obtain ⟨z, nsm, vs, kv, o, es, ep, ho, hx, hd, _, hp, _⟩ := dk_of I.hok hs
      obtain ⟨hr, hr2⟩ := Dq.rzKv I ds _ vs es.toList ha kv hp
      exact .di nsm ho hx.1 hd hr hr2
theorem Dq.rzAll (I : Inv X pins σ H s) : ∀ (ds : List PyData) (vs : List V) (us : List Value), DqAll X.K H vs ds → Vals vs us → RzA s.heap us ds
  | [], _, _, h, r => by
    cases h
    cases r
    exact .nil
  | d :: ds, _, _, h, r => by
    cases h with
    | cons h1 h2 =>
      cases r with
      | cons r1 r2 => exact .cons (Dq.rz I d _ _ h1 r1) (Dq.rzAll I ds _ _ h2 r2)
theorem Dq.rzKv (I : Inv X pins σ H s) : ∀ (ds : List (PyData × PyData)) (kvs : List (Key × V)) (vs : List (Key × Value)) (es : List DictEntry), DqKv X.K H kvs ds → KV kvs vs → Pairs (mixKind X.prog X.w) es vs →
    RzA s.heap (es.map (·.key)) (ds.map (·.1)) ∧ RzA s.heap (es.map (·.val)) (ds.map (·.2))
  | [], _, _, _, h, r, p => by
    cases h
    cases r
    cases p
    exact ⟨.nil, .nil⟩
  | (c, d) :: ds, kvs, vs, es, h, r, p => by
    cases h with
    | @cons k v kvs' _ _ h1 h2 =>
      cases r with
      | @cons _ q _ vs' r1 r2 =>
        cases p with
        | @cons e _ es' _ p1 p2 p3 =>
          obtain ⟨rk, rv⟩ := r1
          have q1 := Dq.rz I d v q.2 h1 rv
          obtain ⟨q2, q3⟩ := Dq.rzKv I ds kvs' vs' es' h2 r2 p3
          have kk : Rz s.heap e.key (kD k) := by
            have rk' : k = q.1 := rk
            rw [rk']
            rcases keyIs_shape (show keyIs q.1 e.key = true from p1) with ⟨i, t, e1, e2⟩ | ⟨x, t, e1, e2⟩
            · rw [e1, e2]
              exact .nu i t
            · rw [e1, e2]
              exact .tx x t
          exact ⟨.cons kk q2, .cons (by show Rz s.heap e.val d; rw [p2]; exact q1) q3⟩
end
end
/-- repr(a), a a list, a tuple or a dict of data -/
def rReprQ (K : PySem.W.Frag) : List V → Hp → VK → Prop := fun vs H Q => ∃ (a : Addr) (d : PyData), vs = [.ref a] ∧ Dq K H (.ref a) d ∧ d.showable = true ∧ d.depth ≤ 6 ∧ d.shown.length ≤ 100000 ∧ Q (.str d.shown) H
theorem rd_reprQ {K : PySem.W.Frag} {v : V} {H : Hp} {Q : VK} : rReprQ K [v] H Q = ∃ (a : Addr) (d : PyData), v = .ref a ∧ Dq K H (.ref a) d ∧ d.showable = true ∧ d.depth ≤ 6 ∧ d.shown.length ≤ 100000 ∧ Q (.str d.shown) H := by
  simp [rReprQ]
theorem call_reprQ {X : Cx} (hg : X.A.guards = some []) (hu : X.A.units + 64 < cLine) : CallR X (.builtin "repr") (rReprQ X.K) := by
  intro pins s σ H xs us Q I r h
  obtain ⟨a, d, rfl, hd, hs, hp, hl, q⟩ := h
  cases r with
  | cons r1 r2 =>
    cases r2
    cases r1
    exact (Dq.rz I d _ _ hd rfl).repr hs (sz hl) hg (by omega) (fun _ _ e => e) (fun h' u tk hk => ⟨.str d.shown, H, I.kept hk, ⟨u, rfl⟩, q⟩)
/-! ### data stands while things that are known stand -/
mutual
theorem Dq.same {K : PySem.W.Frag} {H H' : Hp} (s : Same H H') : ∀ {v : V} {d : PyData}, Dq K H v d → Dq K H' v d
  | _, _, .non => .non
  | _, _, .bl b => .bl b
  | _, _, .int b => .int b
  | _, _, .str b => .str b
  | _, _, .lst h1 h2 => .lst (s.seq h1) (DqAll.same s h2)
  | _, _, .tup h1 h2 => .tup (h1.imp (fun h => h.imp (s _ _) fun ⟨o, h⟩ => ⟨o, s _ _ h⟩) id) (DqAll.same s h2)
  | _, _, .dic h1 h2 => .dic (s _ _ h1) (DqKv.same s h2)
theorem DqAll.same {K : PySem.W.Frag} {H H' : Hp} (s : Same H H') : ∀ {v : List V} {d : List PyData}, DqAll K H v d → DqAll K H' v d
  | _, _, .nil => .nil
  | _, _, .cons h1 h2 => .cons (Dq.same s h1) (DqAll.same s h2)
theorem DqKv.same {K : PySem.W.Frag} {H H' : Hp} (s : Same H H') : ∀ {v : List (Key × V)} {d : List (PyData × PyData)}, DqKv K H v d → DqKv K H' v d
  | _, _, .nil => .nil
  | _, _, .cons h1 h2 => .cons (Dq.same s h1) (DqKv.same s h2)
end
end My

set_option Elab.async false
set_option linter.all false
set_option maxRecDepth 100000
set_option maxHeartbeats 4000000
namespace My
open PySem PySem.Spec PyProof.Rows L2
section
variable {X : Cx}
/-- X(), an own exception class without own __init__, as a value -/
theorem pe_exc0 {C : Addr} {bmB : List Value} {B newId initId : String} {x : Str} {p pos : Pos} (F : ExcBaseFacts B newId initId bmB) (q : PySem.W.excIn X.K C bmB newId = true) (gC : X.mg x = some (.ref C)) (kC : PySem.W.keepIn X.K (.ref C) = true) (hg : Gl X x) (hdb : (x == ("__debug__" : Str)) = false := by decide) :
    PE X (.Call (.Name x p) [] [] pos) (fun σ H Q => ∀ a, H a = none → Q (.ref a) (upd H a (ExO (.ref C) a))) := by
  refine ⟨fun pins s σ H Q I h => ?_⟩
  refine wpAny_Call_Name_kw (ld_glob I hg gC ?_ hdb)
  refine PySem.W.callWith_K0 I.kIn kC ?_
  obtain ⟨bm, N, nm, qn, bs, hdct, sn, sub, ab, col, dd, k0, k1, k2, k3, k5, mN, hC, hN, hni, T⟩ := exc_obj I.kIn q
  refine wpAny_call_exc_subT F T hC hN hni (fun h' a hm => ?_) (by show 0 ≤ sizeLine; omega)
  have hn : H a = none := I.hok.gone hm.new
  obtain ⟨t, ht, _, _⟩ := hm.there
  exact ⟨.ref a, upd H a (ExO (.ref C) a), I.laidN hm.keeps hm.new hn (exO_ok ht ⟨rfl, rfl⟩ rfl rfl rfl (show 4 < 6 by decide)), rfl, h a hn⟩
theorem pe_tyN {n : String} {x : Str} {pos : Pos} (hm : X.mg x = none) (hb : bootBuiltins x = some (.type n)) (hg : Gl X x := by rfl) (h1 : x ≠ "__name__" := by decide) (hd : (x == ("__debug__" : Str)) = false := by decide) : PE X (.Name x pos) (tC (.ty n)) := pe_bltn (v := .ty n) (u := .type n) hg hm hb rfl h1 hd
end
theorem cv_ref {a : Addr} : ∀ u, RelV (.ref a) u → u = .ref a := fun u r => r
theorem cv_ty {n : String} : ∀ u, RelV (.ty n) u → u = .type n := fun u r => r
end My

set_option Elab.async false
set_option linter.all false
set_option maxRecDepth 100000
set_option maxHeartbeats 4000000
namespace My
open PySem PySem.Spec PyProof.Rows L2

/-- X(e): a new error, all else as it was -/
def tMkE (C : Addr) (fld : Str) (te : TE) : TE := fun σ H Q => te σ H fun v H1 => ∀ a H2, Same H1 H2 → ErrAt H2 a C fld v → Q (.ref a) H2
theorem rd_mkE {C : Addr} {fld : Str} {te : TE} {σ : L2.St} {H : Hp} {Q : VK} : tMkE C fld te σ H Q = te σ H fun v H1 => ∀ a H2, Same H1 H2 → ErrAt H2 a C fld v → Q (.ref a) H2 := rfl
theorem rd_xfG {K : PySem.W.Frag} {f : Str} {te : TE} {σ : L2.St} {H : Hp} {Q : VK} : tXfG K f te σ H Q = te σ H fun x H1 => ∃ (a C : Addr) (v : V), x = .ref a ∧ XfC K C ∧ PySem.W.findIn K (.ref C) f = some none ∧ ErrAt H1 a C f v ∧ Q v H1 := rfl
theorem rd_rep {x y : V} {H : Hp} {Q : VK} : rRep x y H Q = ∃ l k xs, x = .ref l ∧ y = .int k ∧ H l = some (.lst xs) ∧ -(2 ^ 63) ≤ k ∧ k < 2 ^ 63 ∧ xs.length * k.toNat ≤ sizeLine ∧ ∀ p, H p = none → Q (.ref p) (upd H p (.lst (List.replicate k.toNat xs).flatten)) := rfl
theorem rd_neD {K : PySem.W.Frag} {x y : V} {H : Hp} {Q : VK} : rNeD K x y H Q = ∃ d e, Dp K H x d ∧ Dp K H y e ∧ SeqAt.shaped d = true ∧ SeqAt.shaped e = true ∧ Q (.bl (!PyData.eqv d e)) H := rfl
section
variable {X : Cx}
theorem pe_mkE {nm fld qual : Str} {st : Stmt} {k : Nat} {e : Expr} {te : TE} {p pos : Pos} (T : Xg X.K X.mg nm fld qual st) (F1 : FnOk X.prog X.w X.K X.mg X.base CX0 k T.fI T.fd ["self", fld] (spXg T.C fld)) (hr : Room (k + 1) X.A) (he : PE X e te)
    (hg : Gl X nm := by rfl) (hdb : (nm == ("__debug__" : Str)) = false := by decide +kernel)
    (hs : starEach [e] X.env = (false, eval e X.env) :: starEach [] X.env := by rfl) (hpl : (backTo pos (starEach [] X.env)).any (·.1) = false := by rfl) :
    PE X (.Call (.Name nm p) [e] [] pos) (tMkE T.C fld te) :=
  (pe_mkG T F1 hr he.mon hg hdb hs hpl).imp fun σ H Q q => ⟨_, q, fun v H1 q1 a dx h hd n => q1 a _ (ErrAt.new h hd n).2 (ErrAt.new h hd n).1⟩
theorem pe_mkKE {nm fld qual : Str} {st : Stmt} {k : Nat} {e : Expr} {te : TE} {p pos kp : Pos} (T : Xg X.K X.mg nm fld qual st) (hkb : KwB X.K T.fd fld) (F1 : FnOk X.prog X.w X.K X.mg X.base CX0 k T.fI T.fd ["self", fld] (spXg T.C fld)) (hr : Room (k + 1) X.A) (he : PE X e te)
    (hg : Gl X nm := by rfl) (hdb : (nm == ("__debug__" : Str)) = false := by decide +kernel)
    (hall : (backToKw pos (keywordEach [⟨some fld, e, kp⟩] X.env)).all (·.1.isSome) = true := by rfl) (hks : (backToKw pos (keywordEach [⟨some fld, e, kp⟩] X.env)).filterMap (·.1) = [fld] := by rfl)
    (hpl : ((backTo pos (starEach [] X.env)).any (·.1) || (backToKw pos (keywordEach [⟨some fld, e, kp⟩] X.env)).any (·.1.isNone)) = false := by rfl) :
    PE X (.Call (.Name nm p) [] [⟨some fld, e, kp⟩] pos) (tMkE T.C fld te) :=
  (pe_mkKG T hkb F1 hr he.mon hg hdb hall hks hpl).imp fun σ H Q q => ⟨_, q, fun v H1 q1 a dx h hd n => q1 a _ (ErrAt.new h hd n).2 (ErrAt.new h hd n).1⟩
/-- an error at a of the class at D: one with a field, or one without -/
def AnyErr (H : Hp) (a D : Addr) : Prop := (∃ f v, ErrAt H a D f v) ∨ H a = some (ExO (.ref D) a)
theorem AnyErr.same {H H' : Hp} {a D : Addr} (s : Same H H') (h : AnyErr H a D) : AnyErr H' a D := h.imp (fun ⟨f, v, h⟩ => ⟨f, v, h.same s⟩) (s _ _)
def rIsA (K : PySem.W.Frag) (cv : Value) (c : V) : List V → Hp → VK → Prop := fun vs H Q => ∃ (a D : Addr) (b : Bool), vs = [.ref a, c] ∧ AnyErr H a D ∧ ExcC K D ∧ PySem.W.kitOne K (.ref D) cv = some b ∧ Q (.bl b) H
theorem rd_isA {K : PySem.W.Frag} {cv : Value} {c y v : V} {H : Hp} {Q : VK} : rIsA K cv c [v, y] H Q = (y = c ∧ ∃ (a D : Addr) (b : Bool), v = .ref a ∧ AnyErr H a D ∧ ExcC K D ∧ PySem.W.kitOne K (.ref D) cv = some b ∧ Q (.bl b) H) := by
  unfold rIsA
  simp only [List.cons.injEq, and_true]
  exact propext ⟨fun ⟨a, D, b, ⟨h1, h2⟩, h⟩ => ⟨h2, a, D, b, h1, h⟩, fun ⟨h2, a, D, b, h1, h⟩ => ⟨a, D, b, ⟨h1, h2⟩, h⟩⟩
theorem call_isA {c : V} {cv : Value} (hcv : ∀ u, RelV c u → u = cv) : CallR X (.builtin "isinstance") (rIsA X.K cv c) := by
  intro pins s σ H xs us Q I r h
  obtain ⟨a, D, b, e, h1, C, k, q⟩ := h
  rcases h1 with ⟨f, v, h1⟩ | h1
  · exact call_isG hcv pins s σ H xs us Q I r ⟨a, D, b, f, v, e, h1, C, k, q⟩
  · exact call_isO hcv pins s σ H xs us Q I r ⟨a, D, b, e, h1, C, k, q⟩
end

abbrev sX0 : Stmt := inClass (topI 2) 0
abbrev sX1 : Stmt := inClass (topI 3) 0
abbrev sX2 : Stmt := inClass (topI 4) 0
abbrev sX3 : Stmt := inClass (topI 5) 0
abbrev sX4 : Stmt := inClass (topI 6) 0
abbrev sX5 : Stmt := inClass (topI 7) 0
abbrev sX6 : Stmt := inClass (topI 8) 0
abbrev sX7 : Stmt := inClass (topI 9) 0
abbrev sX8 : Stmt := inClass (topI 10) 0
abbrev sX9 : Stmt := inClass (topI 11) 0
abbrev sX10 : Stmt := inClass (topI 12) 0
abbrev sX11 : Stmt := inClass (topI 13) 0
abbrev sX12 : Stmt := inClass (topI 14) 0
abbrev sX13 : Stmt := inClass (topI 15) 0
abbrev sX14 : Stmt := inClass (topI 16) 0
abbrev sX15 : Stmt := inClass (topI 17) 0
/-- the errors of the module -/
structure Er (P : Program) (w : World) (K : PySem.W.Frag) (mg : Str → Option Value) (base : Heap) where
  t0 : Xg K mg "BadDeed" "part" "BadDeed.__init__" sX0
  t1 : Xg K mg "BadWaking" "part" "BadWaking.__init__" sX1
  t2 : Xg K mg "BadRules" "part" "BadRules.__init__" sX2
  t3 : Xg K mg "BadTable" "table" "BadTable.__init__" sX3
  t4 : Xg K mg "BadEntry" "entry" "BadEntry.__init__" sX4
  t5 : Xg K mg "BadHands" "value" "BadHands.__init__" sX5
  t6 : Xg K mg "BadMove" "move" "BadMove.__init__" sX6
  t7 : Xg K mg "BadPlace" "place" "BadPlace.__init__" sX7
  t8 : Xg K mg "BadText" "line" "BadText.__init__" sX8
  t9 : Xg K mg "BadSeat" "seat" "BadSeat.__init__" sX9
  t10 : Xg K mg "BadNumber" "number" "BadNumber.__init__" sX10
  t11 : Xg K mg "BadArgument" "value" "BadArgument.__init__" sX11
  t12 : Xg K mg "BadChange" "value" "BadChange.__init__" sX12
  t13 : Xg K mg "BadCommand" "command" "BadCommand.__init__" sX13
  t14 : Xg K mg "TooMany" "most" "TooMany.__init__" sX14
  t15 : Xg K mg "NotThere" "word" "NotThere.__init__" sX15
  g0 : FnOk P w K mg base CX0 1 t0.fI t0.fd ["self", "part"] (spXg t0.C "part")
  k0 : KwB K t0.fd "part"
  g1 : FnOk P w K mg base CX0 1 t1.fI t1.fd ["self", "part"] (spXg t1.C "part")
  k1 : KwB K t1.fd "part"
  g2 : FnOk P w K mg base CX0 1 t2.fI t2.fd ["self", "part"] (spXg t2.C "part")
  k2 : KwB K t2.fd "part"
  g3 : FnOk P w K mg base CX0 1 t3.fI t3.fd ["self", "table"] (spXg t3.C "table")
  k3 : KwB K t3.fd "table"
  g4 : FnOk P w K mg base CX0 1 t4.fI t4.fd ["self", "entry"] (spXg t4.C "entry")
  k4 : KwB K t4.fd "entry"
  g5 : FnOk P w K mg base CX0 1 t5.fI t5.fd ["self", "value"] (spXg t5.C "value")
  k5 : KwB K t5.fd "value"
  g6 : FnOk P w K mg base CX0 1 t6.fI t6.fd ["self", "move"] (spXg t6.C "move")
  k6 : KwB K t6.fd "move"
  g7 : FnOk P w K mg base CX0 1 t7.fI t7.fd ["self", "place"] (spXg t7.C "place")
  k7 : KwB K t7.fd "place"
  g8 : FnOk P w K mg base CX0 1 t8.fI t8.fd ["self", "line"] (spXg t8.C "line")
  k8 : KwB K t8.fd "line"
  g9 : FnOk P w K mg base CX0 1 t9.fI t9.fd ["self", "seat"] (spXg t9.C "seat")
  k9 : KwB K t9.fd "seat"
  g10 : FnOk P w K mg base CX0 1 t10.fI t10.fd ["self", "number"] (spXg t10.C "number")
  k10 : KwB K t10.fd "number"
  g11 : FnOk P w K mg base CX0 1 t11.fI t11.fd ["self", "value"] (spXg t11.C "value")
  k11 : KwB K t11.fd "value"
  g12 : FnOk P w K mg base CX0 1 t12.fI t12.fd ["self", "value"] (spXg t12.C "value")
  k12 : KwB K t12.fd "value"
  g13 : FnOk P w K mg base CX0 1 t13.fI t13.fd ["self", "command"] (spXg t13.C "command")
  k13 : KwB K t13.fd "command"
  g14 : FnOk P w K mg base CX0 1 t14.fI t14.fd ["self", "most"] (spXg t14.C "most")
  k14 : KwB K t14.fd "most"
  g15 : FnOk P w K mg base CX0 1 t15.fI t15.fd ["self", "word"] (spXg t15.C "word")
  k15 : KwB K t15.fd "word"
  CP : Addr
  CN : Addr
  nPileError : mg "PileError" = some (.ref CP)
  nNothingLeft : mg "NothingLeft" = some (.ref CN)
  eN : PySem.W.excIn K CN [.type "LookupError", .type "Exception", .type "BaseException", .type "object"] "LookupError.__new__" = true
  eP : PySem.W.excIn K CP [.type "ValueError", .type "Exception", .type "BaseException", .type "object"] "ValueError.__new__" = true
  kN : PySem.W.keepIn K (.ref CN) = true
  kP : PySem.W.keepIn K (.ref CP) = true
  nValueError : mg "ValueError" = none
  nOverflowError : mg "OverflowError" = none
  nLookupError : mg "LookupError" = none
def Er.nBadDeed {P : Program} {w : World} {K : PySem.W.Frag} {mg : Str → Option Value} {base : Heap} (T : Er P w K mg base) := T.t0.g
def Er.nBadWaking {P : Program} {w : World} {K : PySem.W.Frag} {mg : Str → Option Value} {base : Heap} (T : Er P w K mg base) := T.t1.g
def Er.nBadRules {P : Program} {w : World} {K : PySem.W.Frag} {mg : Str → Option Value} {base : Heap} (T : Er P w K mg base) := T.t2.g
def Er.nBadTable {P : Program} {w : World} {K : PySem.W.Frag} {mg : Str → Option Value} {base : Heap} (T : Er P w K mg base) := T.t3.g
def Er.nBadEntry {P : Program} {w : World} {K : PySem.W.Frag} {mg : Str → Option Value} {base : Heap} (T : Er P w K mg base) := T.t4.g
def Er.nBadHands {P : Program} {w : World} {K : PySem.W.Frag} {mg : Str → Option Value} {base : Heap} (T : Er P w K mg base) := T.t5.g
def Er.nBadMove {P : Program} {w : World} {K : PySem.W.Frag} {mg : Str → Option Value} {base : Heap} (T : Er P w K mg base) := T.t6.g
def Er.nBadPlace {P : Program} {w : World} {K : PySem.W.Frag} {mg : Str → Option Value} {base : Heap} (T : Er P w K mg base) := T.t7.g
def Er.nBadText {P : Program} {w : World} {K : PySem.W.Frag} {mg : Str → Option Value} {base : Heap} (T : Er P w K mg base) := T.t8.g
def Er.nBadSeat {P : Program} {w : World} {K : PySem.W.Frag} {mg : Str → Option Value} {base : Heap} (T : Er P w K mg base) := T.t9.g
def Er.nBadNumber {P : Program} {w : World} {K : PySem.W.Frag} {mg : Str → Option Value} {base : Heap} (T : Er P w K mg base) := T.t10.g
def Er.nBadArgument {P : Program} {w : World} {K : PySem.W.Frag} {mg : Str → Option Value} {base : Heap} (T : Er P w K mg base) := T.t11.g
def Er.nBadChange {P : Program} {w : World} {K : PySem.W.Frag} {mg : Str → Option Value} {base : Heap} (T : Er P w K mg base) := T.t12.g
def Er.nBadCommand {P : Program} {w : World} {K : PySem.W.Frag} {mg : Str → Option Value} {base : Heap} (T : Er P w K mg base) := T.t13.g
def Er.nTooMany {P : Program} {w : World} {K : PySem.W.Frag} {mg : Str → Option Value} {base : Heap} (T : Er P w K mg base) := T.t14.g
def Er.nNotThere {P : Program} {w : World} {K : PySem.W.Frag} {mg : Str → Option Value} {base : Heap} (T : Er P w K mg base) := T.t15.g
section
variable {P : Program} {w : World} {K : PySem.W.Frag} {mg : Str → Option Value} {base : Heap}
/-- the classes and their fields -/
def Er.tab (T : Er P w K mg base) : List (Addr × Str) := [(T.t0.C, "part"), (T.t1.C, "part"), (T.t2.C, "part"), (T.t3.C, "table"), (T.t4.C, "entry"), (T.t5.C, "value"), (T.t6.C, "move"), (T.t7.C, "place"), (T.t8.C, "line"), (T.t9.C, "seat"), (T.t10.C, "number"), (T.t11.C, "value"), (T.t12.C, "value"), (T.t13.C, "command"), (T.t14.C, "most"), (T.t15.C, "word")]
/-- errors at es, one of each class, with the field v -/
def Es (H : Hp) (es : List Addr) (v : V) (tab : List (Addr × Str)) : Prop := Paired (fun a c => ErrAt H a c.1 c.2 v) es tab
theorem Es.same {H H' : Hp} {es : List Addr} {v : V} {tab : List (Addr × Str)} (s : Same H H') (h : Es H es v tab) : Es H' es v tab := Paired.mono (fun a b h => h.same s) h
end
end My

set_option Elab.async false
set_option linter.all false
set_option maxRecDepth 100000
set_option maxHeartbeats 4000000
namespace My
open PySem PySem.Spec PyProof.Rows L2

section
variable {P : Program} {w : World} {K : PySem.W.Frag} {mg : Str → Option Value} {base : Heap}
theorem scX0 : FnScope ["self", "part"] ["self", "part"] (defScope sX0) := ⟨rfl, rfl, rfl, by decide +kernel, rfl, by decide +kernel, by decide +kernel⟩
theorem ok_x0 (T : Xg K mg "BadDeed" "part" "BadDeed.__init__" sX0) : FnOk P w K mg base CX0 1 T.fI T.fd ["self", "part"] (spXg T.C "part") := by
  refine T.F.ok scX0 (fun vs H Q E h => ?_) (fun cdv A outer s H vs Q E hr h => ?_)
  · obtain ⟨a, v, rfl, _⟩ := h
    rfl
  · obtain ⟨a, v, rfl, ha, q⟩ := h
    exact ⟨_, pss_one (ps_ostG (pv 0) (pv 1)), v, rfl, .ref a, rfl, a, T.C, T.rs, T.bm, rfl, T.oex, T.no, ha, fun dx h1 h2 => q dx h1 h2⟩
theorem scX1 : FnScope ["self", "part"] ["self", "part"] (defScope sX1) := ⟨rfl, rfl, rfl, by decide +kernel, rfl, by decide +kernel, by decide +kernel⟩
theorem ok_x1 (T : Xg K mg "BadWaking" "part" "BadWaking.__init__" sX1) : FnOk P w K mg base CX0 1 T.fI T.fd ["self", "part"] (spXg T.C "part") := by
  refine T.F.ok scX1 (fun vs H Q E h => ?_) (fun cdv A outer s H vs Q E hr h => ?_)
  · obtain ⟨a, v, rfl, _⟩ := h
    rfl
  · obtain ⟨a, v, rfl, ha, q⟩ := h
    exact ⟨_, pss_one (ps_ostG (pv 0) (pv 1)), v, rfl, .ref a, rfl, a, T.C, T.rs, T.bm, rfl, T.oex, T.no, ha, fun dx h1 h2 => q dx h1 h2⟩
theorem scX2 : FnScope ["self", "part"] ["self", "part"] (defScope sX2) := ⟨rfl, rfl, rfl, by decide +kernel, rfl, by decide +kernel, by decide +kernel⟩
theorem ok_x2 (T : Xg K mg "BadRules" "part" "BadRules.__init__" sX2) : FnOk P w K mg base CX0 1 T.fI T.fd ["self", "part"] (spXg T.C "part") := by
  refine T.F.ok scX2 (fun vs H Q E h => ?_) (fun cdv A outer s H vs Q E hr h => ?_)
  · obtain ⟨a, v, rfl, _⟩ := h
    rfl
  · obtain ⟨a, v, rfl, ha, q⟩ := h
    exact ⟨_, pss_one (ps_ostG (pv 0) (pv 1)), v, rfl, .ref a, rfl, a, T.C, T.rs, T.bm, rfl, T.oex, T.no, ha, fun dx h1 h2 => q dx h1 h2⟩
theorem scX3 : FnScope ["self", "table"] ["self", "table"] (defScope sX3) := ⟨rfl, rfl, rfl, by decide +kernel, rfl, by decide +kernel, by decide +kernel⟩
theorem ok_x3 (T : Xg K mg "BadTable" "table" "BadTable.__init__" sX3) : FnOk P w K mg base CX0 1 T.fI T.fd ["self", "table"] (spXg T.C "table") := by
  refine T.F.ok scX3 (fun vs H Q E h => ?_) (fun cdv A outer s H vs Q E hr h => ?_)
  · obtain ⟨a, v, rfl, _⟩ := h
    rfl
  · obtain ⟨a, v, rfl, ha, q⟩ := h
    exact ⟨_, pss_one (ps_ostG (pv 0) (pv 1)), v, rfl, .ref a, rfl, a, T.C, T.rs, T.bm, rfl, T.oex, T.no, ha, fun dx h1 h2 => q dx h1 h2⟩
theorem scX4 : FnScope ["self", "entry"] ["self", "entry"] (defScope sX4) := ⟨rfl, rfl, rfl, by decide +kernel, rfl, by decide +kernel, by decide +kernel⟩
theorem ok_x4 (T : Xg K mg "BadEntry" "entry" "BadEntry.__init__" sX4) : FnOk P w K mg base CX0 1 T.fI T.fd ["self", "entry"] (spXg T.C "entry") := by
  refine T.F.ok scX4 (fun vs H Q E h => ?_) (fun cdv A outer s H vs Q E hr h => ?_)
  · obtain ⟨a, v, rfl, _⟩ := h
    rfl
  · obtain ⟨a, v, rfl, ha, q⟩ := h
    exact ⟨_, pss_one (ps_ostG (pv 0) (pv 1)), v, rfl, .ref a, rfl, a, T.C, T.rs, T.bm, rfl, T.oex, T.no, ha, fun dx h1 h2 => q dx h1 h2⟩
theorem scX5 : FnScope ["self", "value"] ["self", "value"] (defScope sX5) := ⟨rfl, rfl, rfl, by decide +kernel, rfl, by decide +kernel, by decide +kernel⟩
theorem ok_x5 (T : Xg K mg "BadHands" "value" "BadHands.__init__" sX5) : FnOk P w K mg base CX0 1 T.fI T.fd ["self", "value"] (spXg T.C "value") := by
  refine T.F.ok scX5 (fun vs H Q E h => ?_) (fun cdv A outer s H vs Q E hr h => ?_)
  · obtain ⟨a, v, rfl, _⟩ := h
    rfl
  · obtain ⟨a, v, rfl, ha, q⟩ := h
    exact ⟨_, pss_one (ps_ostG (pv 0) (pv 1)), v, rfl, .ref a, rfl, a, T.C, T.rs, T.bm, rfl, T.oex, T.no, ha, fun dx h1 h2 => q dx h1 h2⟩
theorem scX6 : FnScope ["self", "move"] ["self", "move"] (defScope sX6) := ⟨rfl, rfl, rfl, by decide +kernel, rfl, by decide +kernel, by decide +kernel⟩
theorem ok_x6 (T : Xg K mg "BadMove" "move" "BadMove.__init__" sX6) : FnOk P w K mg base CX0 1 T.fI T.fd ["self", "move"] (spXg T.C "move") := by
  refine T.F.ok scX6 (fun vs H Q E h => ?_) (fun cdv A outer s H vs Q E hr h => ?_)
  · obtain ⟨a, v, rfl, _⟩ := h
    rfl
  · obtain ⟨a, v, rfl, ha, q⟩ := h
    exact ⟨_, pss_one (ps_ostG (pv 0) (pv 1)), v, rfl, .ref a, rfl, a, T.C, T.rs, T.bm, rfl, T.oex, T.no, ha, fun dx h1 h2 => q dx h1 h2⟩
theorem scX7 : FnScope ["self", "place"] ["self", "place"] (defScope sX7) := ⟨rfl, rfl, rfl, by decide +kernel, rfl, by decide +kernel, by decide +kernel⟩
theorem ok_x7 (T : Xg K mg "BadPlace" "place" "BadPlace.__init__" sX7) : FnOk P w K mg base CX0 1 T.fI T.fd ["self", "place"] (spXg T.C "place") := by
  refine T.F.ok scX7 (fun vs H Q E h => ?_) (fun cdv A outer s H vs Q E hr h => ?_)
  · obtain ⟨a, v, rfl, _⟩ := h
    rfl
  · obtain ⟨a, v, rfl, ha, q⟩ := h
    exact ⟨_, pss_one (ps_ostG (pv 0) (pv 1)), v, rfl, .ref a, rfl, a, T.C, T.rs, T.bm, rfl, T.oex, T.no, ha, fun dx h1 h2 => q dx h1 h2⟩
theorem scX8 : FnScope ["self", "line"] ["self", "line"] (defScope sX8) := ⟨rfl, rfl, rfl, by decide +kernel, rfl, by decide +kernel, by decide +kernel⟩
theorem ok_x8 (T : Xg K mg "BadText" "line" "BadText.__init__" sX8) : FnOk P w K mg base CX0 1 T.fI T.fd ["self", "line"] (spXg T.C "line") := by
  refine T.F.ok scX8 (fun vs H Q E h => ?_) (fun cdv A outer s H vs Q E hr h => ?_)
  · obtain ⟨a, v, rfl, _⟩ := h
    rfl
  · obtain ⟨a, v, rfl, ha, q⟩ := h
    exact ⟨_, pss_one (ps_ostG (pv 0) (pv 1)), v, rfl, .ref a, rfl, a, T.C, T.rs, T.bm, rfl, T.oex, T.no, ha, fun dx h1 h2 => q dx h1 h2⟩
theorem scX9 : FnScope ["self", "seat"] ["self", "seat"] (defScope sX9) := ⟨rfl, rfl, rfl, by decide +kernel, rfl, by decide +kernel, by decide +kernel⟩
theorem ok_x9 (T : Xg K mg "BadSeat" "seat" "BadSeat.__init__" sX9) : FnOk P w K mg base CX0 1 T.fI T.fd ["self", "seat"] (spXg T.C "seat") := by
  refine T.F.ok scX9 (fun vs H Q E h => ?_) (fun cdv A outer s H vs Q E hr h => ?_)
  · obtain ⟨a, v, rfl, _⟩ := h
    rfl
  · obtain ⟨a, v, rfl, ha, q⟩ := h
    exact ⟨_, pss_one (ps_ostG (pv 0) (pv 1)), v, rfl, .ref a, rfl, a, T.C, T.rs, T.bm, rfl, T.oex, T.no, ha, fun dx h1 h2 => q dx h1 h2⟩
theorem scX10 : FnScope ["self", "number"] ["self", "number"] (defScope sX10) := ⟨rfl, rfl, rfl, by decide +kernel, rfl, by decide +kernel, by decide +kernel⟩
theorem ok_x10 (T : Xg K mg "BadNumber" "number" "BadNumber.__init__" sX10) : FnOk P w K mg base CX0 1 T.fI T.fd ["self", "number"] (spXg T.C "number") := by
  refine T.F.ok scX10 (fun vs H Q E h => ?_) (fun cdv A outer s H vs Q E hr h => ?_)
  · obtain ⟨a, v, rfl, _⟩ := h
    rfl
  · obtain ⟨a, v, rfl, ha, q⟩ := h
    exact ⟨_, pss_one (ps_ostG (pv 0) (pv 1)), v, rfl, .ref a, rfl, a, T.C, T.rs, T.bm, rfl, T.oex, T.no, ha, fun dx h1 h2 => q dx h1 h2⟩
theorem scX11 : FnScope ["self", "value"] ["self", "value"] (defScope sX11) := ⟨rfl, rfl, rfl, by decide +kernel, rfl, by decide +kernel, by decide +kernel⟩
theorem ok_x11 (T : Xg K mg "BadArgument" "value" "BadArgument.__init__" sX11) : FnOk P w K mg base CX0 1 T.fI T.fd ["self", "value"] (spXg T.C "value") := by
  refine T.F.ok scX11 (fun vs H Q E h => ?_) (fun cdv A outer s H vs Q E hr h => ?_)
  · obtain ⟨a, v, rfl, _⟩ := h
    rfl
  · obtain ⟨a, v, rfl, ha, q⟩ := h
    exact ⟨_, pss_one (ps_ostG (pv 0) (pv 1)), v, rfl, .ref a, rfl, a, T.C, T.rs, T.bm, rfl, T.oex, T.no, ha, fun dx h1 h2 => q dx h1 h2⟩
theorem scX12 : FnScope ["self", "value"] ["self", "value"] (defScope sX12) := ⟨rfl, rfl, rfl, by decide +kernel, rfl, by decide +kernel, by decide +kernel⟩
theorem ok_x12 (T : Xg K mg "BadChange" "value" "BadChange.__init__" sX12) : FnOk P w K mg base CX0 1 T.fI T.fd ["self", "value"] (spXg T.C "value") := by
  refine T.F.ok scX12 (fun vs H Q E h => ?_) (fun cdv A outer s H vs Q E hr h => ?_)
  · obtain ⟨a, v, rfl, _⟩ := h
    rfl
  · obtain ⟨a, v, rfl, ha, q⟩ := h
    exact ⟨_, pss_one (ps_ostG (pv 0) (pv 1)), v, rfl, .ref a, rfl, a, T.C, T.rs, T.bm, rfl, T.oex, T.no, ha, fun dx h1 h2 => q dx h1 h2⟩
theorem scX13 : FnScope ["self", "command"] ["self", "command"] (defScope sX13) := ⟨rfl, rfl, rfl, by decide +kernel, rfl, by decide +kernel, by decide +kernel⟩
theorem ok_x13 (T : Xg K mg "BadCommand" "command" "BadCommand.__init__" sX13) : FnOk P w K mg base CX0 1 T.fI T.fd ["self", "command"] (spXg T.C "command") := by
  refine T.F.ok scX13 (fun vs H Q E h => ?_) (fun cdv A outer s H vs Q E hr h => ?_)
  · obtain ⟨a, v, rfl, _⟩ := h
    rfl
  · obtain ⟨a, v, rfl, ha, q⟩ := h
    exact ⟨_, pss_one (ps_ostG (pv 0) (pv 1)), v, rfl, .ref a, rfl, a, T.C, T.rs, T.bm, rfl, T.oex, T.no, ha, fun dx h1 h2 => q dx h1 h2⟩
theorem scX14 : FnScope ["self", "most"] ["self", "most"] (defScope sX14) := ⟨rfl, rfl, rfl, by decide +kernel, rfl, by decide +kernel, by decide +kernel⟩
theorem ok_x14 (T : Xg K mg "TooMany" "most" "TooMany.__init__" sX14) : FnOk P w K mg base CX0 1 T.fI T.fd ["self", "most"] (spXg T.C "most") := by
  refine T.F.ok scX14 (fun vs H Q E h => ?_) (fun cdv A outer s H vs Q E hr h => ?_)
  · obtain ⟨a, v, rfl, _⟩ := h
    rfl
  · obtain ⟨a, v, rfl, ha, q⟩ := h
    exact ⟨_, pss_one (ps_ostG (pv 0) (pv 1)), v, rfl, .ref a, rfl, a, T.C, T.rs, T.bm, rfl, T.oex, T.no, ha, fun dx h1 h2 => q dx h1 h2⟩
theorem scX15 : FnScope ["self", "word"] ["self", "word"] (defScope sX15) := ⟨rfl, rfl, rfl, by decide +kernel, rfl, by decide +kernel, by decide +kernel⟩
theorem ok_x15 (T : Xg K mg "NotThere" "word" "NotThere.__init__" sX15) : FnOk P w K mg base CX0 1 T.fI T.fd ["self", "word"] (spXg T.C "word") := by
  refine T.F.ok scX15 (fun vs H Q E h => ?_) (fun cdv A outer s H vs Q E hr h => ?_)
  · obtain ⟨a, v, rfl, _⟩ := h
    rfl
  · obtain ⟨a, v, rfl, ha, q⟩ := h
    exact ⟨_, pss_one (ps_ostG (pv 0) (pv 1)), v, rfl, .ref a, rfl, a, T.C, T.rs, T.bm, rfl, T.oex, T.no, ha, fun dx h1 h2 => q dx h1 h2⟩
end
end My

set_option Elab.async false
set_option linter.all false
set_option maxRecDepth 100000
set_option maxHeartbeats 2000000
namespace My
open PySem PySem.Spec PyProof.Rows L2
section
variable {P : Program} {w : World} {K : PySem.W.Frag} {mg mb : Str → Option Value} {lawA scr : Addr} {fd : FuncData} {par : Str} {sp : Sp} {st : Shared} {its : List Value} {nums : List Int}
/-- what the judge's call tells -/
abbrev Told (st : Shared) (r : Result) (st' : Shared) : Prop := r = .ok (.ret (.bool true)) ∧ OldK st.heap st'.heap ∧ st'.os = st.os ∧ AllBare st'.gens
/-- from any abstract heap that holds no more than the script -/
theorem top_at (inK : K.In st.heap) (gl : st.heap.Ns mainGlobals mg) (bn : st.heap.Ns builtinsNs mb) (boot : ∀ n : Str, n ≠ "__name__" → mb n = bootBuiltins n) (free : st.heap.NoLimit) (noGen : st.gens = #[])
    (scrO : st.heap.get? scr = some { cls := .type "list", data := .seq its.toArray }) (F : ∀ base : Heap, K.In base → base.Ns mainGlobals mg → AtTop P w K mg base lawA fd [par] sp) (bnd : ∀ (s : Shared) (u : Value), BindsTo s fd ⟨[u], []⟩ [(par, u)])
    {H : Hp} (few : ∀ b, H b = none ∨ (b = scr ∧ ∃ o xs, H b = some (.frz o (.lst xs)))) (apart : ∀ b, H b ≠ none → K.lookup b = none) (good : HOk P w H st.heap) (hsp : sp [.ref scr] H (fun v _ => v = .bl true) fun _ _ _ => False) :
    codeAny (model P w) callerA (.call (.ref lawA) ⟨[.ref scr], []⟩) (Told st) st := by
  have sees := fun {b : Addr} {o : Obj} (e : st.heap.get? b = some o) (z : H b = none) => hidT_get (H := H) e z
  have kIn : K.In (hidT st.heap H) := by
    intro b o e
    refine sees (inK b o e) (Classical.byContradiction fun z => ?_)
    rw [apart b z] at e
    cases e
  have nsIn : ∀ {b : Addr} {m : Str → Option Value}, st.heap.Ns b m → (hidT st.heap H).Ns b m := by
    rintro b m ⟨o, es, ep, e, d, r⟩
    refine ⟨o, es, ep, sees e ?_, d, r⟩
    rcases few b with z | ⟨rfl, _⟩
    · exact z
    · obtain rfl := Option.some.inj (e.symm.trans scrO)
      have d2 : Data.seq its.toArray _ = Data.dict es ep := d
      cases d2
  obtain ⟨ml, fr1, fr2⟩ := free
  have env : Env0 P w K mg (hidT st.heap H) callerA [] st H := by
    refine ⟨rfl, ⟨kIn, nsIn gl, ⟨mb, nsIn bn, boot⟩, ⟨ml, nsIn fr1, fr2⟩⟩, fun _ _ e => of_hidT e, Nat.le_of_eq (hidT_size _ _), trivial, ?_, good, .of_eq noGen⟩
    intro b hb
    have hb' : b ∈ ([] : List Addr) := hb
    cases hb'
  have run := F _ kIn (nsIn gl) st H ⟨[.ref scr], []⟩ [.ref scr] [.ref scr] _ _ env (bnd st _) (.cons rfl .nil) hsp
  refine codeAny_mono run fun r st' out => ?_
  match r, out with
  | .ok (.ret u), ⟨v, H2, os, bare, un, good2, rel, q⟩ =>
    have ev : v = .bl true := q
    rw [ev] at rel
    have eu : u = Value.bool true := rel
    refine ⟨by rw [eu], OldK.of_keep fun b o e => ?_, os, bare⟩
    rcases few b with z | ⟨_, ob, xs, z⟩
    · refine un.keep b o e z (fun m => ?_) (fun m => ?_)
      · have m' : b ∈ ([] : List Addr) := m
        cases m'
      · simp at m
    · have kept := (good2 b _ (un.frzs b ob _ z)).1
      have was := (good b _ z).1
      exact (e.symm.trans was) ▸ kept
theorem top_call (inK : K.In st.heap) (gl : st.heap.Ns mainGlobals mg) (bn : st.heap.Ns builtinsNs mb) (boot : ∀ n : Str, n ≠ "__name__" → mb n = bootBuiltins n) (free : st.heap.NoLimit) (noGen : st.gens = #[])
    (scrO : st.heap.get? scr = some { cls := .type "list", data := .seq its.toArray }) (nrs : IntsAre its nums) (short : nums.length ≤ sizeLine) (F : ∀ base : Heap, K.In base → base.Ns mainGlobals mg → AtTop P w K mg base lawA fd [par] sp)
    (bnd : ∀ (s : Shared) (u : Value), BindsTo s fd ⟨[u], []⟩ [(par, u)]) (hsp : ∀ H : Hp, SqL K H scr (nums.map V.int) → sp [.ref scr] H (fun v _ => v = .bl true) fun _ _ _ => False) :
    codeAny (model P w) callerA (.call (.ref lawA) ⟨[.ref scr], []⟩) (Told st) st := by
  have vals := vals_ints nrs
  cases look : K.lookup scr with
  | some o =>
    obtain rfl := Option.some.inj ((inK scr o look).symm.trans scrO)
    refine top_at (H := fun _ => none) inK gl bn boot free noGen scrO F bnd (fun _ => .inl rfl) (fun _ z => absurd rfl z) (fun b u z => ?_) (hsp _ (.inr ⟨_, its.toArray, _, look, rfl, rfl, rfl, ?_, ?_⟩))
    · have z2 : (none : Option HO) = some u := z
      cases z2
    · rw [List.size_toArray, nrs.length]
      exact short
    · exact (by simpa using vals)
  | none =>
    let only : Hp := fun b => if b = scr then some (.frz { cls := .type "list", data := .seq its.toArray } (.lst (nums.map V.int))) else none
    have on : only scr = some (.frz { cls := .type "list", data := .seq its.toArray } (.lst (nums.map V.int))) := if_pos rfl
    have off : ∀ b, b ≠ scr → only b = none := fun b z => if_neg z
    refine top_at (H := only) inK gl bn boot free noGen scrO F bnd (fun b => ?_) (fun b z => ?_) (fun b u z => ?_) (hsp _ (.inl (.inr ⟨_, on⟩)))
    · by_cases e : b = scr
      · exact .inr ⟨e, _, _, e ▸ on⟩
      · exact .inl (off b e)
    · by_cases e : b = scr
      · rw [e]
        exact look
      · exact absurd (off b e) z
    · by_cases e : b = scr
      · subst e
        obtain rfl := Option.some.inj (on.symm.trans z)
        exact ⟨scrO, by rw [List.length_map]; exact short, its, _, vals, scrO⟩
      · rw [off b e] at z
        cases z
end
/-- the head's goal, from the law's promise at the top -/
theorem top_walk {l : PySem.W.OpenLaw} {n : Nat} {q : Program} {loose : List Str} {XP : (Str → Option Value) → Heap → Prop} {YP : World → Heap → Prop} {d : DefRec} {K : Params → PySem.W.Frag} {sp : PySem.W.Frag → Sp} {par : Str} (most : l.most = some n) (few : n ≤ sizeLine) (nod : d.params.defaults = [])
    (yk : ∀ (w : World) (h : Heap), YP w h → (K w.params).In h)
    (F : ∀ (w : World) (mg : Str → Option Value) (fa : Addr) (h : Heap), (K w.params).In h → h.Ns mainGlobals mg → mg d.name = some (.ref fa) →
      ∃ fd : FuncData, (∀ (s : Shared) (u : Value), BindsTo s fd ⟨[u], []⟩ [(par, u)]) ∧ ∀ base : Heap, (K w.params).In base → base.Ns mainGlobals mg → AtTop l.prog w (K w.params) mg base fa fd [par] (sp (K w.params)))
    (hsp : ∀ (K : PySem.W.Frag) (H : Hp) (a : Addr) (ns : List Int), ns.length ≤ n → SqL K H a (ns.map V.int) → sp K [.ref a] H (fun v _ => v = .bl true) fun _ _ _ => False) :
    PySem.W.WalkO q loose XP YP l.row.toRowW d [] (fun f vs => PySem.call f vs) :=
  Att.attach_call most nod fun w _ s₁ mg mb fa _ _ _ _ a vs ns G Y _ _ _ name obj nrs len none => by
    obtain ⟨fd, bnd, run⟩ := F w mg fa _ (yk w _ Y) G.T.g name
    exact top_call (yk w _ Y) G.T.g G.T.b G.T.builtins G.T.nolimit none obj nrs (Nat.le_trans len few) run bnd fun H sq => hsp _ H a ns len sq
end My

set_option Elab.async false
set_option linter.all false
set_option maxRecDepth 100000
set_option maxHeartbeats 2000000
namespace My
open PySem PySem.Spec PyProof.Rows L2
/-- a comprehension's list, its source known -/
def lcB (J : It) (g : TG) (tt : TT) (te : TE) (vs : List Nat) : TE := fun σ H1 Q => ∀ D, H1 D = none → ∃ W : Nat → Nat → Hp → Prop, (∃ m, W 0 m (upd H1 D (.lst []))) ∧ ∀ i m H, W i m H →
  (J.stop i H ∧ Q (.ref D) H) ∨ (J.go i H ∧ ∃ Nx : Hp → Prop, (∀ H', Nx H' → ∃ m', m' < m ∧ W (i + 1) m' H') ∧ ∀ x H', J.yld i H x H' → g x (wipe σ vs) H' fun σ2 H2 => wipe σ2 vs = wipe σ vs ∧ tt σ2 H2 fun b H3 =>
    if b = true then te σ2 H3 fun y H4 => ∃ acc, H4 D = some (.lst acc) ∧ acc.length < sizeLine ∧ Nx (upd H4 D (.lst (acc ++ [y]))) else Nx H3)
section
variable {K : PySem.W.Frag} {tl : TE} {ta : TA} {g : TG} {tt : TT} {te : TE} {vs : List Nat} {σ : L2.St} {H : Hp} {Q : VK}
theorem rd_lcL : tLc (iList K tl) g tt te vs σ H Q = tl σ H fun x H1 => ∃ a, x = .ref a ∧ (∃ xs, SqL K H1 a xs) ∧ lcB (Itl K a) g tt te vs σ H1 Q := rfl
theorem rd_lcE : tLc (iEnum K ta) g tt te vs σ H Q = ta σ H fun us H1 => ∃ a xs, us = [.ref a] ∧ SqL K H1 a xs ∧ lcB (Ite K a) g tt te vs σ H1 Q := rfl
theorem rd_mk {C : Addr} {sp : Sp} {dvs : List V} {E : XK} {t : TA} : tMake C sp dvs E t σ H Q = t σ H fun vs H1 => ∀ x dx, H1 x = none → H1 dx = none → dx ≠ x → sp (.ref x :: (vs ++ dvs)) (upd (upd H1 dx (.own x)) x (.ins C dx [])) (fun v H2 => v = .non ∧ Q (.ref x) H2) E := rfl
theorem rd_sl {r : V → Option Int → Option Int → Hp → VK → Prop} {l h : TO} : tSl r te l h σ H Q = te σ H fun x H1 => l σ H1 fun i H2 => h σ H2 fun u H3 => r x i u H3 Q := rfl
theorem rd_noP {Q : Option Int → Hp → Prop} : tNoPart σ H Q = Q none H := rfl
theorem rd_part {Q : Option Int → Hp → Prop} : tPart te σ H Q = te σ H fun x H1 => ∃ i, x = .int i ∧ Q (some i) H1 := rfl
theorem rd_slL {x : V} {lo hi : Option Int} : rSlL K x lo hi H Q = ∃ a xs, x = .ref a ∧ SqL K H a xs ∧ ∀ p, H p = none → Q (.ref p) (upd H p (.lst (cutV xs lo hi))) := rfl
theorem rd_cat {x y : V} : rCat x y H Q = ∃ l b xs zs, x = .ref l ∧ y = .ref b ∧ H l = some (.lst xs) ∧ H b = some (.lst zs) ∧ xs.length + zs.length ≤ sizeLine ∧ ∀ p, H p = none → Q (.ref p) (upd H p (.lst (xs ++ zs))) := rfl
end
end My

set_option Elab.async false
set_option linter.all false
set_option maxRecDepth 100000
set_option maxHeartbeats 4000000
namespace My
open PySem PySem.Spec PyProof.Rows L2

local macro_rules | `(tactic| walk_at "rd") => `(tactic| simp only [rd_seq, rd_next, rd_brk, rd_cont, rd_asg, rd_gname, rd_var, rd_c, rd_op, rd_un, rd_rI0, rd_rI, rd_rU, rd_test, rd_B, rd_and, rd_or, rd_not, rd_andV, rd_orV, rd_notV, rd_ifx, rd_ifs, rd_drop, rd_ret, rd_nil, rd_cons, rd_cb, rd_tup, rd_lst, rd_call, rd_bm, rd_app, rd_ixLst, rd_ixSq, rd_lenL, rd_lenSq, rd_setLst, rd_sub, rd_neNil, rd_mkE, rd_xfG, rd_isA, rd_cat, rd_rep, rd_lcL, rd_lcE, rd_reprQ, rd_neD, rd_eq, rd_ne, L2.wipe, Int.reduceToNat, Int.reduceLE, Int.reduceLT, Nat.reduceLT, Nat.reduceLeDiff, Int.reduceNeg, Int.toNat_natCast, Int.reduceAdd, L2.start, and_assoc, exists_and_left, List.map_cons, List.map_nil, List.length_cons, List.length_nil, List.cons_append, List.nil_append, List.append_nil, List.replicate_succ, List.replicate_zero, List.replicate, List.set_cons_zero, List.set_cons_succ, List.getElem?_cons_zero, List.getElem?_cons_succ, Option.some.injEq, exists_eq_left', exists_eq_left, exists_eq, V.int.injEq, V.ref.injEq, V.str.injEq, V.bl.injEq, HO.lst.injEq, HO.tup.injEq, ex_bl, List.cons.injEq, and_true, true_and, Nat.reduceAdd, Nat.reduceSub, reduceCtorEq, false_and, or_false, exists_false, false_or, decide_eq_true_eq, if_true, if_false, Bool.false_eq_true, Bool.not_true, Bool.not_false, upd_same])
local macro_rules | `(tactic| walk_at "rdh") => `(tactic| simp only [rd_seq, rd_next, rd_brk, rd_cont, rd_asg, rd_gname, rd_var, rd_c, rd_op, rd_un, rd_rI0, rd_rI, rd_rU, rd_test, rd_B, rd_and, rd_or, rd_not, rd_andV, rd_orV, rd_notV, rd_ifx, rd_ifs, rd_drop, rd_ret, rd_nil, rd_cons, rd_cb, rd_tup, rd_lst, rd_call, rd_bm, rd_app, rd_ixLst, rd_ixSq, rd_lenL, rd_lenSq, rd_setLst, rd_sub, rd_neNil, rd_mkE, rd_xfG, rd_isA, rd_cat, rd_rep, rd_lcL, rd_lcE, rd_reprQ, rd_neD, rd_eq, rd_ne, L2.wipe, Int.reduceToNat, Int.reduceLE, Int.reduceLT, Nat.reduceLT, Nat.reduceLeDiff, Int.reduceNeg, Int.toNat_natCast, Int.reduceAdd, L2.start, and_assoc, exists_and_left, List.map_cons, List.map_nil, List.length_cons, List.length_nil, List.cons_append, List.nil_append, List.append_nil, List.replicate_succ, List.replicate_zero, List.replicate, List.set_cons_zero, List.set_cons_succ, List.getElem?_cons_zero, List.getElem?_cons_succ, Option.some.injEq, exists_eq_left', exists_eq_left, exists_eq, V.int.injEq, V.ref.injEq, V.str.injEq, V.bl.injEq, HO.lst.injEq, HO.tup.injEq, ex_bl, List.cons.injEq, and_true, true_and, Nat.reduceAdd, Nat.reduceSub, reduceCtorEq, false_and, or_false, exists_false, false_or, decide_eq_true_eq, if_true, if_false, Bool.false_eq_true, Bool.not_true, Bool.not_false, upd_same, *])

/-- what the makers of errors promise -/
def spMade (tab : List (Addr × Str)) : Sp := fun vs H Q _ => ∃ v, vs = [v] ∧ ∀ (l : Addr) (H' : Hp) (es : List Addr), Same H H' → H' l = some (.lst (es.map V.ref)) → Es H' es v tab → Q (.ref l) H'
section
variable {P : Program} {w : World} {K : PySem.W.Frag} {mg : Str → Option Value} {base : Heap}
abbrev sMade : Stmt := topI 23
abbrev NMade : List Str := ["thing", "rows"]
theorem scMade : FnScope NMade ["thing"] (defScope sMade) := ⟨rfl, rfl, rfl, by decide +kernel, rfl, by decide +kernel, by decide +kernel⟩
theorem ok_Made {f : Addr} {fd : FuncData} (F : Fun K "_law_made_errors" "_law_made_errors" sMade f fd) (T : Er P w K mg base) : FnOk P w K mg base CX0 3 f fd ["thing"] (spMade T.tab) := by
  refine F.ok scMade (fun vs H Q E h => ?_) (fun cdv A outer s H vs Q E hr h => ?_)
  · obtain ⟨v, rfl, _⟩ := h
    rfl
  obtain ⟨v, rfl, q⟩ := h
  have hr2 := hr
  refine ⟨_, (pss_cons (ps_set (i := 1) scMade.nd rfl (Or.inl rfl) (pe_lst (pa_cons (pe_mkE T.t0 (by exact T.g0) hr2 (pv 0)) (pa_cons (pe_mkE T.t1 (by exact T.g1) hr2 (pv 0)) (pa_cons (pe_mkE T.t2 (by exact T.g2) hr2 (pv 0)) (pa_cons (pe_mkE T.t3 (by exact T.g3) hr2 (pv 0)) (pa_cons (pe_mkE T.t4 (by exact T.g4) hr2 (pv 0)) (pa_cons (pe_mkE T.t5 (by exact T.g5) hr2 (pv 0)) pa_nil))))))))
      (pss_cons (ps_set (i := 1) scMade.nd rfl (Or.inl rfl) (pe_op op_cat (pv 1) (pe_lst (pa_cons (pe_mkE T.t6 (by exact T.g6) hr2 (pv 0)) (pa_cons (pe_mkE T.t7 (by exact T.g7) hr2 (pv 0)) (pa_cons (pe_mkE T.t8 (by exact T.g8) hr2 (pv 0)) (pa_cons (pe_mkE T.t9 (by exact T.g9) hr2 (pv 0)) (pa_cons (pe_mkE T.t10 (by exact T.g10) hr2 (pv 0)) pa_nil))))))))
      (pss_one (ps_ret (pe_op op_cat (pv 1) (pe_lst (pa_cons (pe_mkE T.t11 (by exact T.g11) hr2 (pv 0)) (pa_cons (pe_mkE T.t12 (by exact T.g12) hr2 (pv 0)) (pa_cons (pe_mkE T.t13 (by exact T.g13) hr2 (pv 0)) (pa_cons (pe_mkE T.t14 (by exact T.g14) hr2 (pv 0)) (pa_cons (pe_mkE T.t15 (by exact T.g15) hr2 (pv 0)) pa_nil))))))))))), ?_⟩
  walk_at "rd"
  intro a0 H0 s0 e0
  intro a1 H1 s1 e1
  intro a2 H2 s2 e2
  intro a3 H3 s3 e3
  intro a4 H4 s4 e4
  intro a5 H5 s5 e5
  refine ⟨sz (by decide), fun p6 hp6 => ?_⟩
  have lp6 : upd H5 p6 (.lst [V.ref a0, V.ref a1, V.ref a2, V.ref a3, V.ref a4, V.ref a5]) p6 = some (.lst [V.ref a0, V.ref a1, V.ref a2, V.ref a3, V.ref a4, V.ref a5]) := upd_same
  have np6 := My.Same.new (o := .lst [V.ref a0, V.ref a1, V.ref a2, V.ref a3, V.ref a4, V.ref a5]) (Same.refl H5) hp6
  generalize upd H5 p6 (.lst [V.ref a0, V.ref a1, V.ref a2, V.ref a3, V.ref a4, V.ref a5]) = G6 at *
  intro a6 H6 s6 e6
  intro a7 H7 s7 e7
  intro a8 H8 s8 e8
  intro a9 H9 s9 e9
  intro a10 H10 s10 e10
  refine ⟨sz (by decide), fun p11 hp11 => ?_⟩
  have lp11 : upd H10 p11 (.lst [V.ref a6, V.ref a7, V.ref a8, V.ref a9, V.ref a10]) p11 = some (.lst [V.ref a6, V.ref a7, V.ref a8, V.ref a9, V.ref a10]) := upd_same
  have np11 := My.Same.new (o := .lst [V.ref a6, V.ref a7, V.ref a8, V.ref a9, V.ref a10]) (Same.refl H10) hp11
  generalize upd H10 p11 (.lst [V.ref a6, V.ref a7, V.ref a8, V.ref a9, V.ref a10]) = F11 at *
  refine ⟨_, ((((((s6).trans s7).trans s8).trans s9).trans s10).trans np11) _ _ lp6, sz (by exact (by decide : 11 ≤ 100000)), fun r11 hr11 => ?_⟩
  have lr11 : upd F11 r11 (.lst [V.ref a0, V.ref a1, V.ref a2, V.ref a3, V.ref a4, V.ref a5, V.ref a6, V.ref a7, V.ref a8, V.ref a9, V.ref a10]) r11 = some (.lst [V.ref a0, V.ref a1, V.ref a2, V.ref a3, V.ref a4, V.ref a5, V.ref a6, V.ref a7, V.ref a8, V.ref a9, V.ref a10]) := upd_same
  have nr11 := My.Same.new (o := .lst [V.ref a0, V.ref a1, V.ref a2, V.ref a3, V.ref a4, V.ref a5, V.ref a6, V.ref a7, V.ref a8, V.ref a9, V.ref a10]) (Same.refl F11) hr11
  simp only [List.cons_append, List.nil_append]
  generalize upd F11 r11 (.lst [V.ref a0, V.ref a1, V.ref a2, V.ref a3, V.ref a4, V.ref a5, V.ref a6, V.ref a7, V.ref a8, V.ref a9, V.ref a10]) = G11 at *
  intro a11 H11 s11 e11
  intro a12 H12 s12 e12
  intro a13 H13 s13 e13
  intro a14 H14 s14 e14
  intro a15 H15 s15 e15
  refine ⟨sz (by decide), fun p16 hp16 => ?_⟩
  have lp16 : upd H15 p16 (.lst [V.ref a11, V.ref a12, V.ref a13, V.ref a14, V.ref a15]) p16 = some (.lst [V.ref a11, V.ref a12, V.ref a13, V.ref a14, V.ref a15]) := upd_same
  have np16 := My.Same.new (o := .lst [V.ref a11, V.ref a12, V.ref a13, V.ref a14, V.ref a15]) (Same.refl H15) hp16
  generalize upd H15 p16 (.lst [V.ref a11, V.ref a12, V.ref a13, V.ref a14, V.ref a15]) = F16 at *
  refine ⟨_, ((((((s11).trans s12).trans s13).trans s14).trans s15).trans np16) _ _ lr11, sz (by exact (by decide : 16 ≤ 100000)), fun r16 hr16 => ?_⟩
  have lr16 : upd F16 r16 (.lst [V.ref a0, V.ref a1, V.ref a2, V.ref a3, V.ref a4, V.ref a5, V.ref a6, V.ref a7, V.ref a8, V.ref a9, V.ref a10, V.ref a11, V.ref a12, V.ref a13, V.ref a14, V.ref a15]) r16 = some (.lst [V.ref a0, V.ref a1, V.ref a2, V.ref a3, V.ref a4, V.ref a5, V.ref a6, V.ref a7, V.ref a8, V.ref a9, V.ref a10, V.ref a11, V.ref a12, V.ref a13, V.ref a14, V.ref a15]) := upd_same
  have nr16 := My.Same.new (o := .lst [V.ref a0, V.ref a1, V.ref a2, V.ref a3, V.ref a4, V.ref a5, V.ref a6, V.ref a7, V.ref a8, V.ref a9, V.ref a10, V.ref a11, V.ref a12, V.ref a13, V.ref a14, V.ref a15]) (Same.refl F16) hr16
  simp only [List.cons_append, List.nil_append]
  generalize upd F16 r16 (.lst [V.ref a0, V.ref a1, V.ref a2, V.ref a3, V.ref a4, V.ref a5, V.ref a6, V.ref a7, V.ref a8, V.ref a9, V.ref a10, V.ref a11, V.ref a12, V.ref a13, V.ref a14, V.ref a15]) = G16 at *
  have S21 := Same.refl G16
  have S20 := nr16.trans S21
  have S19 := np16.trans S20
  have S18 := s15.trans S19
  have S17 := s14.trans S18
  have S16 := s13.trans S17
  have S15 := s12.trans S16
  have S14 := s11.trans S15
  have S13 := nr11.trans S14
  have S12 := np11.trans S13
  have S11 := s10.trans S12
  have S10 := s9.trans S11
  have S9 := s8.trans S10
  have S8 := s7.trans S9
  have S7 := s6.trans S8
  have S6 := np6.trans S7
  have S5 := s5.trans S6
  have S4 := s4.trans S5
  have S3 := s3.trans S4
  have S2 := s2.trans S3
  have S1 := s1.trans S2
  have S0 := s0.trans S1
  exact q r16 G16 [a0, a1, a2, a3, a4, a5, a6, a7, a8, a9, a10, a11, a12, a13, a14, a15] S0 lr16 (.cons (e0.same S1) (.cons (e1.same S2) (.cons (e2.same S3) (.cons (e3.same S4) (.cons (e4.same S5) (.cons (e5.same S6) (.cons (e6.same S8) (.cons (e7.same S9) (.cons (e8.same S10) (.cons (e9.same S11) (.cons (e10.same S12) (.cons (e11.same S15) (.cons (e12.same S16) (.cons (e13.same S17) (.cons (e14.same S18) (.cons (e15.same S19) .nil))))))))))))))))
abbrev sNamed : Stmt := topI 24
abbrev NNamed : List Str := ["thing", "rows"]
theorem scNamed : FnScope NNamed ["thing"] (defScope sNamed) := ⟨rfl, rfl, rfl, by decide +kernel, rfl, by decide +kernel, by decide +kernel⟩
theorem ok_Named {f : Addr} {fd : FuncData} (F : Fun K "_law_named_errors" "_law_named_errors" sNamed f fd) (T : Er P w K mg base) : FnOk P w K mg base CX0 3 f fd ["thing"] (spMade T.tab) := by
  refine F.ok scNamed (fun vs H Q E h => ?_) (fun cdv A outer s H vs Q E hr h => ?_)
  · obtain ⟨v, rfl, _⟩ := h
    rfl
  obtain ⟨v, rfl, q⟩ := h
  have hr2 := hr
  refine ⟨_, (pss_cons (ps_set (i := 1) scNamed.nd rfl (Or.inl rfl) (pe_lst (pa_cons (pe_mkKE T.t0 (by exact T.k0) (by exact T.g0) hr2 (pv 0)) (pa_cons (pe_mkKE T.t1 (by exact T.k1) (by exact T.g1) hr2 (pv 0)) (pa_cons (pe_mkKE T.t2 (by exact T.k2) (by exact T.g2) hr2 (pv 0)) (pa_cons (pe_mkKE T.t3 (by exact T.k3) (by exact T.g3) hr2 (pv 0)) pa_nil))))))
      (pss_cons (ps_set (i := 1) scNamed.nd rfl (Or.inl rfl) (pe_op op_cat (pv 1) (pe_lst (pa_cons (pe_mkKE T.t4 (by exact T.k4) (by exact T.g4) hr2 (pv 0)) (pa_cons (pe_mkKE T.t5 (by exact T.k5) (by exact T.g5) hr2 (pv 0)) (pa_cons (pe_mkKE T.t6 (by exact T.k6) (by exact T.g6) hr2 (pv 0)) (pa_cons (pe_mkKE T.t7 (by exact T.k7) (by exact T.g7) hr2 (pv 0)) pa_nil)))))))
      (pss_cons (ps_set (i := 1) scNamed.nd rfl (Or.inl rfl) (pe_op op_cat (pv 1) (pe_lst (pa_cons (pe_mkKE T.t8 (by exact T.k8) (by exact T.g8) hr2 (pv 0)) (pa_cons (pe_mkKE T.t9 (by exact T.k9) (by exact T.g9) hr2 (pv 0)) (pa_cons (pe_mkKE T.t10 (by exact T.k10) (by exact T.g10) hr2 (pv 0)) (pa_cons (pe_mkKE T.t11 (by exact T.k11) (by exact T.g11) hr2 (pv 0)) pa_nil)))))))
      (pss_one (ps_ret (pe_op op_cat (pv 1) (pe_lst (pa_cons (pe_mkKE T.t12 (by exact T.k12) (by exact T.g12) hr2 (pv 0)) (pa_cons (pe_mkKE T.t13 (by exact T.k13) (by exact T.g13) hr2 (pv 0)) (pa_cons (pe_mkKE T.t14 (by exact T.k14) (by exact T.g14) hr2 (pv 0)) (pa_cons (pe_mkKE T.t15 (by exact T.k15) (by exact T.g15) hr2 (pv 0)) pa_nil))))))))))), ?_⟩
  walk_at "rd"
  intro a0 H0 s0 e0
  intro a1 H1 s1 e1
  intro a2 H2 s2 e2
  intro a3 H3 s3 e3
  refine ⟨sz (by decide), fun p4 hp4 => ?_⟩
  have lp4 : upd H3 p4 (.lst [V.ref a0, V.ref a1, V.ref a2, V.ref a3]) p4 = some (.lst [V.ref a0, V.ref a1, V.ref a2, V.ref a3]) := upd_same
  have np4 := My.Same.new (o := .lst [V.ref a0, V.ref a1, V.ref a2, V.ref a3]) (Same.refl H3) hp4
  generalize upd H3 p4 (.lst [V.ref a0, V.ref a1, V.ref a2, V.ref a3]) = G4 at *
  intro a4 H4 s4 e4
  intro a5 H5 s5 e5
  intro a6 H6 s6 e6
  intro a7 H7 s7 e7
  refine ⟨sz (by decide), fun p8 hp8 => ?_⟩
  have lp8 : upd H7 p8 (.lst [V.ref a4, V.ref a5, V.ref a6, V.ref a7]) p8 = some (.lst [V.ref a4, V.ref a5, V.ref a6, V.ref a7]) := upd_same
  have np8 := My.Same.new (o := .lst [V.ref a4, V.ref a5, V.ref a6, V.ref a7]) (Same.refl H7) hp8
  generalize upd H7 p8 (.lst [V.ref a4, V.ref a5, V.ref a6, V.ref a7]) = F8 at *
  refine ⟨_, (((((s4).trans s5).trans s6).trans s7).trans np8) _ _ lp4, sz (by exact (by decide : 8 ≤ 100000)), fun r8 hr8 => ?_⟩
  have lr8 : upd F8 r8 (.lst [V.ref a0, V.ref a1, V.ref a2, V.ref a3, V.ref a4, V.ref a5, V.ref a6, V.ref a7]) r8 = some (.lst [V.ref a0, V.ref a1, V.ref a2, V.ref a3, V.ref a4, V.ref a5, V.ref a6, V.ref a7]) := upd_same
  have nr8 := My.Same.new (o := .lst [V.ref a0, V.ref a1, V.ref a2, V.ref a3, V.ref a4, V.ref a5, V.ref a6, V.ref a7]) (Same.refl F8) hr8
  simp only [List.cons_append, List.nil_append]
  generalize upd F8 r8 (.lst [V.ref a0, V.ref a1, V.ref a2, V.ref a3, V.ref a4, V.ref a5, V.ref a6, V.ref a7]) = G8 at *
  intro a8 H8 s8 e8
  intro a9 H9 s9 e9
  intro a10 H10 s10 e10
  intro a11 H11 s11 e11
  refine ⟨sz (by decide), fun p12 hp12 => ?_⟩
  have lp12 : upd H11 p12 (.lst [V.ref a8, V.ref a9, V.ref a10, V.ref a11]) p12 = some (.lst [V.ref a8, V.ref a9, V.ref a10, V.ref a11]) := upd_same
  have np12 := My.Same.new (o := .lst [V.ref a8, V.ref a9, V.ref a10, V.ref a11]) (Same.refl H11) hp12
  generalize upd H11 p12 (.lst [V.ref a8, V.ref a9, V.ref a10, V.ref a11]) = F12 at *
  refine ⟨_, (((((s8).trans s9).trans s10).trans s11).trans np12) _ _ lr8, sz (by exact (by decide : 12 ≤ 100000)), fun r12 hr12 => ?_⟩
  have lr12 : upd F12 r12 (.lst [V.ref a0, V.ref a1, V.ref a2, V.ref a3, V.ref a4, V.ref a5, V.ref a6, V.ref a7, V.ref a8, V.ref a9, V.ref a10, V.ref a11]) r12 = some (.lst [V.ref a0, V.ref a1, V.ref a2, V.ref a3, V.ref a4, V.ref a5, V.ref a6, V.ref a7, V.ref a8, V.ref a9, V.ref a10, V.ref a11]) := upd_same
  have nr12 := My.Same.new (o := .lst [V.ref a0, V.ref a1, V.ref a2, V.ref a3, V.ref a4, V.ref a5, V.ref a6, V.ref a7, V.ref a8, V.ref a9, V.ref a10, V.ref a11]) (Same.refl F12) hr12
  simp only [List.cons_append, List.nil_append]
  generalize upd F12 r12 (.lst [V.ref a0, V.ref a1, V.ref a2, V.ref a3, V.ref a4, V.ref a5, V.ref a6, V.ref a7, V.ref a8, V.ref a9, V.ref a10, V.ref a11]) = G12 at *
  intro a12 H12 s12 e12
  intro a13 H13 s13 e13
  intro a14 H14 s14 e14
  intro a15 H15 s15 e15
  refine ⟨sz (by decide), fun p16 hp16 => ?_⟩
  have lp16 : upd H15 p16 (.lst [V.ref a12, V.ref a13, V.ref a14, V.ref a15]) p16 = some (.lst [V.ref a12, V.ref a13, V.ref a14, V.ref a15]) := upd_same
  have np16 := My.Same.new (o := .lst [V.ref a12, V.ref a13, V.ref a14, V.ref a15]) (Same.refl H15) hp16
  generalize upd H15 p16 (.lst [V.ref a12, V.ref a13, V.ref a14, V.ref a15]) = F16 at *
  refine ⟨_, (((((s12).trans s13).trans s14).trans s15).trans np16) _ _ lr12, sz (by exact (by decide : 16 ≤ 100000)), fun r16 hr16 => ?_⟩
  have lr16 : upd F16 r16 (.lst [V.ref a0, V.ref a1, V.ref a2, V.ref a3, V.ref a4, V.ref a5, V.ref a6, V.ref a7, V.ref a8, V.ref a9, V.ref a10, V.ref a11, V.ref a12, V.ref a13, V.ref a14, V.ref a15]) r16 = some (.lst [V.ref a0, V.ref a1, V.ref a2, V.ref a3, V.ref a4, V.ref a5, V.ref a6, V.ref a7, V.ref a8, V.ref a9, V.ref a10, V.ref a11, V.ref a12, V.ref a13, V.ref a14, V.ref a15]) := upd_same
  have nr16 := My.Same.new (o := .lst [V.ref a0, V.ref a1, V.ref a2, V.ref a3, V.ref a4, V.ref a5, V.ref a6, V.ref a7, V.ref a8, V.ref a9, V.ref a10, V.ref a11, V.ref a12, V.ref a13, V.ref a14, V.ref a15]) (Same.refl F16) hr16
  simp only [List.cons_append, List.nil_append]
  generalize upd F16 r16 (.lst [V.ref a0, V.ref a1, V.ref a2, V.ref a3, V.ref a4, V.ref a5, V.ref a6, V.ref a7, V.ref a8, V.ref a9, V.ref a10, V.ref a11, V.ref a12, V.ref a13, V.ref a14, V.ref a15]) = G16 at *
  have S23 := Same.refl G16
  have S22 := nr16.trans S23
  have S21 := np16.trans S22
  have S20 := s15.trans S21
  have S19 := s14.trans S20
  have S18 := s13.trans S19
  have S17 := s12.trans S18
  have S16 := nr12.trans S17
  have S15 := np12.trans S16
  have S14 := s11.trans S15
  have S13 := s10.trans S14
  have S12 := s9.trans S13
  have S11 := s8.trans S12
  have S10 := nr8.trans S11
  have S9 := np8.trans S10
  have S8 := s7.trans S9
  have S7 := s6.trans S8
  have S6 := s5.trans S7
  have S5 := s4.trans S6
  have S4 := np4.trans S5
  have S3 := s3.trans S4
  have S2 := s2.trans S3
  have S1 := s1.trans S2
  have S0 := s0.trans S1
  exact q r16 G16 [a0, a1, a2, a3, a4, a5, a6, a7, a8, a9, a10, a11, a12, a13, a14, a15] S0 lr16 (.cons (e0.same S1) (.cons (e1.same S2) (.cons (e2.same S3) (.cons (e3.same S4) (.cons (e4.same S6) (.cons (e5.same S7) (.cons (e6.same S8) (.cons (e7.same S9) (.cons (e8.same S12) (.cons (e9.same S13) (.cons (e10.same S14) (.cons (e11.same S15) (.cons (e12.same S18) (.cons (e13.same S19) (.cons (e14.same S20) (.cons (e15.same S21) .nil))))))))))))))))
end
end My

set_option Elab.async false
set_option linter.all false
set_option maxRecDepth 100000
set_option maxHeartbeats 4000000
namespace My
open PySem PySem.Spec PyProof.Rows L2

local macro_rules | `(tactic| walk_at "rd") => `(tactic| simp only [rd_seq, rd_next, rd_brk, rd_cont, rd_asg, rd_gname, rd_var, rd_c, rd_op, rd_un, rd_rI0, rd_rI, rd_rU, rd_test, rd_B, rd_and, rd_or, rd_not, rd_andV, rd_orV, rd_notV, rd_ifx, rd_ifs, rd_drop, rd_ret, rd_nil, rd_cons, rd_cb, rd_tup, rd_lst, rd_call, rd_bm, rd_app, rd_ixLst, rd_ixSq, rd_lenL, rd_lenSq, rd_setLst, rd_sub, rd_neNil, rd_mkE, rd_xfG, rd_isA, rd_cat, rd_rep, rd_lcL, rd_lcE, rd_reprQ, rd_neD, rd_eq, rd_ne, L2.wipe, Int.reduceToNat, Int.reduceLE, Int.reduceLT, Nat.reduceLT, Nat.reduceLeDiff, Int.reduceNeg, Int.toNat_natCast, Int.reduceAdd, L2.start, and_assoc, exists_and_left, List.map_cons, List.map_nil, List.length_cons, List.length_nil, List.cons_append, List.nil_append, List.append_nil, List.replicate_succ, List.replicate_zero, List.replicate, List.set_cons_zero, List.set_cons_succ, List.getElem?_cons_zero, List.getElem?_cons_succ, Option.some.injEq, exists_eq_left', exists_eq_left, exists_eq, V.int.injEq, V.ref.injEq, V.str.injEq, V.bl.injEq, HO.lst.injEq, HO.tup.injEq, ex_bl, List.cons.injEq, and_true, true_and, Nat.reduceAdd, Nat.reduceSub, reduceCtorEq, false_and, or_false, exists_false, false_or, decide_eq_true_eq, if_true, if_false, Bool.false_eq_true, Bool.not_true, Bool.not_false, upd_same])
local macro_rules | `(tactic| walk_at "rdh") => `(tactic| simp only [rd_seq, rd_next, rd_brk, rd_cont, rd_asg, rd_gname, rd_var, rd_c, rd_op, rd_un, rd_rI0, rd_rI, rd_rU, rd_test, rd_B, rd_and, rd_or, rd_not, rd_andV, rd_orV, rd_notV, rd_ifx, rd_ifs, rd_drop, rd_ret, rd_nil, rd_cons, rd_cb, rd_tup, rd_lst, rd_call, rd_bm, rd_app, rd_ixLst, rd_ixSq, rd_lenL, rd_lenSq, rd_setLst, rd_sub, rd_neNil, rd_mkE, rd_xfG, rd_isA, rd_cat, rd_rep, rd_lcL, rd_lcE, rd_reprQ, rd_neD, rd_eq, rd_ne, L2.wipe, Int.reduceToNat, Int.reduceLE, Int.reduceLT, Nat.reduceLT, Nat.reduceLeDiff, Int.reduceNeg, Int.toNat_natCast, Int.reduceAdd, L2.start, and_assoc, exists_and_left, List.map_cons, List.map_nil, List.length_cons, List.length_nil, List.cons_append, List.nil_append, List.append_nil, List.replicate_succ, List.replicate_zero, List.replicate, List.set_cons_zero, List.set_cons_succ, List.getElem?_cons_zero, List.getElem?_cons_succ, Option.some.injEq, exists_eq_left', exists_eq_left, exists_eq, V.int.injEq, V.ref.injEq, V.str.injEq, V.bl.injEq, HO.lst.injEq, HO.tup.injEq, ex_bl, List.cons.injEq, and_true, true_and, Nat.reduceAdd, Nat.reduceSub, reduceCtorEq, false_and, or_false, exists_false, false_or, decide_eq_true_eq, if_true, if_false, Bool.false_eq_true, Bool.not_true, Bool.not_false, upd_same, *])

theorem Paired.un {α β : Type} {R : α → β → Prop} {xs : List α} {y : β} {ys : List β} (h : Paired R xs (y :: ys)) : ∃ x xs', xs = x :: xs' ∧ R x y ∧ Paired R xs' ys := by
  cases h with
  | cons h1 h2 => exact ⟨_, _, rfl, h1, h2⟩
theorem Paired.un0 {α β : Type} {R : α → β → Prop} {xs : List α} (h : Paired R xs ([] : List β)) : xs = [] := by
  cases h
  rfl
/-- rows[j].f -/
def tRF (K : PySem.W.Frag) (j : Nat) (f : Str) : TE := fun σ H Q => ∃ (l : Addr) (xs : List V) (a C : Addr) (v : V), σ[0]? = some (some (.ref l)) ∧ H l = some (.lst xs) ∧ xs[j]? = some (.ref a) ∧ XfC K C ∧ PySem.W.findIn K (.ref C) f = some none ∧ ErrAt H a C f v ∧ Q v H
theorem rf_imp {K : PySem.W.Frag} (j : Nat) (f : Str) (σ : L2.St) (H : Hp) (Q : VK) (h : tRF K j f σ H Q) : tXfG K f (tOp rIxLst (tVar 0) (tC (.int (j : Int)))) σ H Q := by
  obtain ⟨l, xs, a, C, v, h1, h2, h3, h4, h5, h6, h7⟩ := h
  exact ⟨_, h1, l, j, rfl, rfl, xs, h2, Int.natCast_nonneg j, .ref a, h3, a, C, v, rfl, h4, h5, h6, h7⟩
theorem rf_go {K : PySem.W.Frag} {j : Nat} {f : Str} {σ : L2.St} {H : Hp} {Q : VK} {l a C : Addr} {xs : List V} {v : V} (h1 : σ[0]? = some (some (.ref l))) (h2 : H l = some (.lst xs)) (h3 : xs[j]? = some (.ref a)) (h4 : XfC K C) (h5 : PySem.W.findIn K (.ref C) f = some none) (h6 : ErrAt H a C f v) (h7 : Q v H) : tRF K j f σ H Q :=
  ⟨l, xs, a, C, v, h1, h2, h3, h4, h5, h6, h7⟩
abbrev sFld : Stmt := topI 25
abbrev NFld : List Str := ["rows", "found"]
theorem scFld : FnScope NFld ["rows"] (defScope sFld) := ⟨rfl, rfl, rfl, by decide +kernel, rfl, by decide +kernel, by decide +kernel⟩
def spFld (tab : List (Addr × Str)) : Sp := fun vs H Q _ => ∃ (l : Addr) (es : List Addr) (v : V), vs = [.ref l] ∧ H l = some (.lst (es.map V.ref)) ∧ Es H es v tab ∧ ∀ (p : Addr) (H' : Hp), Same H H' → H' p = some (.lst (List.replicate 16 v)) → Q (.ref p) H'
section
variable {P : Program} {w : World} {K : PySem.W.Frag} {mg : Str → Option Value} {base : Heap}
theorem ok_Fld {f : Addr} {fd : FuncData} (F : Fun K "_law_fields" "_law_fields" sFld f fd) (T : Er P w K mg base) : FnOk P w K mg base CX0 1 f fd ["rows"] (spFld T.tab) := by
  refine F.ok scFld (fun vs H Q E h => ?_) (fun cdv A outer s H vs Q E hr h => ?_)
  · obtain ⟨l, es, v, rfl, _⟩ := h
    rfl
  obtain ⟨l, es, v, rfl, hl, hE, q⟩ := h
  unfold Er.tab at hE
  obtain ⟨a0, es0, rfl, e0, hE⟩ := Paired.un hE
  obtain ⟨a1, es1, rfl, e1, hE⟩ := Paired.un hE
  obtain ⟨a2, es2, rfl, e2, hE⟩ := Paired.un hE
  obtain ⟨a3, es3, rfl, e3, hE⟩ := Paired.un hE
  obtain ⟨a4, es4, rfl, e4, hE⟩ := Paired.un hE
  obtain ⟨a5, es5, rfl, e5, hE⟩ := Paired.un hE
  obtain ⟨a6, es6, rfl, e6, hE⟩ := Paired.un hE
  obtain ⟨a7, es7, rfl, e7, hE⟩ := Paired.un hE
  obtain ⟨a8, es8, rfl, e8, hE⟩ := Paired.un hE
  obtain ⟨a9, es9, rfl, e9, hE⟩ := Paired.un hE
  obtain ⟨a10, es10, rfl, e10, hE⟩ := Paired.un hE
  obtain ⟨a11, es11, rfl, e11, hE⟩ := Paired.un hE
  obtain ⟨a12, es12, rfl, e12, hE⟩ := Paired.un hE
  obtain ⟨a13, es13, rfl, e13, hE⟩ := Paired.un hE
  obtain ⟨a14, es14, rfl, e14, hE⟩ := Paired.un hE
  obtain ⟨a15, es15, rfl, e15, hE⟩ := Paired.un hE
  obtain rfl := Paired.un0 hE
  refine ⟨_, (pss_cons (ps_set (i := 1) scFld.nd rfl (Or.inl rfl) (pe_lst (pa_cons ((pe_xfG (pe_ix ix_lst (pv 0) pe_int (fun _ _ => rfl))).imp (rf_imp (K := K) 0 "part")) (pa_cons ((pe_xfG (pe_ix ix_lst (pv 0) pe_int (fun _ _ => rfl))).imp (rf_imp (K := K) 1 "part")) (pa_cons ((pe_xfG (pe_ix ix_lst (pv 0) pe_int (fun _ _ => rfl))).imp (rf_imp (K := K) 2 "part")) (pa_cons ((pe_xfG (pe_ix ix_lst (pv 0) pe_int (fun _ _ => rfl))).imp (rf_imp (K := K) 3 "table")) (pa_cons ((pe_xfG (pe_ix ix_lst (pv 0) pe_int (fun _ _ => rfl))).imp (rf_imp (K := K) 4 "entry")) (pa_cons ((pe_xfG (pe_ix ix_lst (pv 0) pe_int (fun _ _ => rfl))).imp (rf_imp (K := K) 5 "value")) (pa_cons ((pe_xfG (pe_ix ix_lst (pv 0) pe_int (fun _ _ => rfl))).imp (rf_imp (K := K) 6 "move")) pa_nil)))))))))
      (pss_cons (ps_set (i := 1) scFld.nd rfl (Or.inl rfl) (pe_op op_cat (pv 1) (pe_lst (pa_cons ((pe_xfG (pe_ix ix_lst (pv 0) pe_int (fun _ _ => rfl))).imp (rf_imp (K := K) 7 "place")) (pa_cons ((pe_xfG (pe_ix ix_lst (pv 0) pe_int (fun _ _ => rfl))).imp (rf_imp (K := K) 8 "line")) (pa_cons ((pe_xfG (pe_ix ix_lst (pv 0) pe_int (fun _ _ => rfl))).imp (rf_imp (K := K) 9 "seat")) (pa_cons ((pe_xfG (pe_ix ix_lst (pv 0) pe_int (fun _ _ => rfl))).imp (rf_imp (K := K) 10 "number")) (pa_cons ((pe_xfG (pe_ix ix_lst (pv 0) pe_int (fun _ _ => rfl))).imp (rf_imp (K := K) 11 "value")) (pa_cons ((pe_xfG (pe_ix ix_lst (pv 0) pe_int (fun _ _ => rfl))).imp (rf_imp (K := K) 12 "value")) pa_nil)))))))))
      (pss_one (ps_ret (pe_op op_cat (pv 1) (pe_lst (pa_cons ((pe_xfG (pe_ix ix_lst (pv 0) pe_int (fun _ _ => rfl))).imp (rf_imp (K := K) 13 "command")) (pa_cons ((pe_xfG (pe_ix ix_lst (pv 0) pe_int (fun _ _ => rfl))).imp (rf_imp (K := K) 14 "most")) (pa_cons ((pe_xfG (pe_ix ix_lst (pv 0) pe_int (fun _ _ => rfl))).imp (rf_imp (K := K) 15 "word")) pa_nil))))))))), ?_⟩
  walk_at "rd"
  simp only [List.map_cons, List.map_nil] at hl
  refine rf_go rfl hl rfl T.t0.xf T.t0.no e0 ?_
  refine rf_go rfl hl rfl T.t1.xf T.t1.no e1 ?_
  refine rf_go rfl hl rfl T.t2.xf T.t2.no e2 ?_
  refine rf_go rfl hl rfl T.t3.xf T.t3.no e3 ?_
  refine rf_go rfl hl rfl T.t4.xf T.t4.no e4 ?_
  refine rf_go rfl hl rfl T.t5.xf T.t5.no e5 ?_
  refine rf_go rfl hl rfl T.t6.xf T.t6.no e6 ?_
  refine ⟨sz (by exact (by decide : 7 ≤ 100000)), fun p1 hp1 => ?_⟩
  have l1 : upd H p1 (.lst [v, v, v, v, v, v, v]) p1 = some (.lst [v, v, v, v, v, v, v]) := upd_same
  have n1 := My.Same.new (o := .lst [v, v, v, v, v, v, v]) (Same.refl H) hp1
  generalize upd H p1 (.lst [v, v, v, v, v, v, v]) = G1 at *
  have hl1 := n1 _ _ hl
  refine rf_go rfl hl1 rfl T.t7.xf T.t7.no (e7.same n1) ?_
  refine rf_go rfl hl1 rfl T.t8.xf T.t8.no (e8.same n1) ?_
  refine rf_go rfl hl1 rfl T.t9.xf T.t9.no (e9.same n1) ?_
  refine rf_go rfl hl1 rfl T.t10.xf T.t10.no (e10.same n1) ?_
  refine rf_go rfl hl1 rfl T.t11.xf T.t11.no (e11.same n1) ?_
  refine rf_go rfl hl1 rfl T.t12.xf T.t12.no (e12.same n1) ?_
  refine ⟨sz (by exact (by decide : 6 ≤ 100000)), fun p2 hp2 => ?_⟩
  have l2 : upd G1 p2 (.lst [v, v, v, v, v, v]) p2 = some (.lst [v, v, v, v, v, v]) := upd_same
  have n2 := My.Same.new (o := .lst [v, v, v, v, v, v]) (Same.refl G1) hp2
  generalize upd G1 p2 (.lst [v, v, v, v, v, v]) = F2 at *
  refine ⟨_, n2 _ _ l1, sz (by exact (by decide : 13 ≤ 100000)), fun p3 hp3 => ?_⟩
  have l3 : upd F2 p3 (.lst [v, v, v, v, v, v, v, v, v, v, v, v, v]) p3 = some (.lst [v, v, v, v, v, v, v, v, v, v, v, v, v]) := upd_same
  have n3 := My.Same.new (o := .lst [v, v, v, v, v, v, v, v, v, v, v, v, v]) (Same.refl F2) hp3
  simp only [List.cons_append, List.nil_append]
  generalize upd F2 p3 (.lst [v, v, v, v, v, v, v, v, v, v, v, v, v]) = G3 at *
  have hl3 := n3 _ _ (n2 _ _ hl1)
  refine rf_go rfl hl3 rfl T.t13.xf T.t13.no (e13.same ((n1.trans n2).trans n3)) ?_
  refine rf_go rfl hl3 rfl T.t14.xf T.t14.no (e14.same ((n1.trans n2).trans n3)) ?_
  refine rf_go rfl hl3 rfl T.t15.xf T.t15.no (e15.same ((n1.trans n2).trans n3)) ?_
  refine ⟨sz (by exact (by decide : 3 ≤ 100000)), fun p4 hp4 => ?_⟩
  have l4 : upd G3 p4 (.lst [v, v, v]) p4 = some (.lst [v, v, v]) := upd_same
  have n4 := My.Same.new (o := .lst [v, v, v]) (Same.refl G3) hp4
  generalize upd G3 p4 (.lst [v, v, v]) = F4 at *
  refine ⟨_, n4 _ _ l3, sz (by exact (by decide : 16 ≤ 100000)), fun p5 hp5 => ?_⟩
  exact q p5 _ (My.Same.new' (((n1.trans n2).trans n3).trans n4) hp5) upd_same
end
end My

set_option Elab.async false
set_option linter.all false
set_option maxRecDepth 100000
set_option maxHeartbeats 4000000
namespace My
open PySem PySem.Spec PyProof.Rows L2

local macro_rules | `(tactic| walk_at "rd") => `(tactic| simp only [rd_seq, rd_next, rd_brk, rd_cont, rd_asg, rd_gname, rd_var, rd_c, rd_op, rd_un, rd_rI0, rd_rI, rd_rU, rd_test, rd_B, rd_and, rd_or, rd_not, rd_andV, rd_orV, rd_notV, rd_ifx, rd_ifs, rd_drop, rd_ret, rd_nil, rd_cons, rd_cb, rd_tup, rd_lst, rd_call, rd_bm, rd_app, rd_ixLst, rd_ixSq, rd_lenL, rd_lenSq, rd_setLst, rd_sub, rd_neNil, rd_mkE, rd_xfG, rd_isA, rd_cat, rd_rep, rd_lcL, rd_lcE, rd_reprQ, rd_neD, rd_eq, rd_ne, L2.wipe, Int.reduceToNat, Int.reduceLE, Int.reduceLT, Nat.reduceLT, Nat.reduceLeDiff, Int.reduceNeg, Int.toNat_natCast, Int.reduceAdd, L2.start, and_assoc, exists_and_left, List.map_cons, List.map_nil, List.length_cons, List.length_nil, List.cons_append, List.nil_append, List.append_nil, List.replicate_succ, List.replicate_zero, List.replicate, List.set_cons_zero, List.set_cons_succ, List.getElem?_cons_zero, List.getElem?_cons_succ, Option.some.injEq, exists_eq_left', exists_eq_left, exists_eq, V.int.injEq, V.ref.injEq, V.str.injEq, V.bl.injEq, HO.lst.injEq, HO.tup.injEq, ex_bl, List.cons.injEq, and_true, true_and, Nat.reduceAdd, Nat.reduceSub, reduceCtorEq, false_and, or_false, exists_false, false_or, decide_eq_true_eq, if_true, if_false, Bool.false_eq_true, Bool.not_true, Bool.not_false, upd_same])
local macro_rules | `(tactic| walk_at "rdh") => `(tactic| simp only [rd_seq, rd_next, rd_brk, rd_cont, rd_asg, rd_gname, rd_var, rd_c, rd_op, rd_un, rd_rI0, rd_rI, rd_rU, rd_test, rd_B, rd_and, rd_or, rd_not, rd_andV, rd_orV, rd_notV, rd_ifx, rd_ifs, rd_drop, rd_ret, rd_nil, rd_cons, rd_cb, rd_tup, rd_lst, rd_call, rd_bm, rd_app, rd_ixLst, rd_ixSq, rd_lenL, rd_lenSq, rd_setLst, rd_sub, rd_neNil, rd_mkE, rd_xfG, rd_isA, rd_cat, rd_rep, rd_lcL, rd_lcE, rd_reprQ, rd_neD, rd_eq, rd_ne, L2.wipe, Int.reduceToNat, Int.reduceLE, Int.reduceLT, Nat.reduceLT, Nat.reduceLeDiff, Int.reduceNeg, Int.toNat_natCast, Int.reduceAdd, L2.start, and_assoc, exists_and_left, List.map_cons, List.map_nil, List.length_cons, List.length_nil, List.cons_append, List.nil_append, List.append_nil, List.replicate_succ, List.replicate_zero, List.replicate, List.set_cons_zero, List.set_cons_succ, List.getElem?_cons_zero, List.getElem?_cons_succ, Option.some.injEq, exists_eq_left', exists_eq_left, exists_eq, V.int.injEq, V.ref.injEq, V.str.injEq, V.bl.injEq, HO.lst.injEq, HO.tup.injEq, ex_bl, List.cons.injEq, and_true, true_and, Nat.reduceAdd, Nat.reduceSub, reduceCtorEq, false_and, or_false, exists_false, false_or, decide_eq_true_eq, if_true, if_false, Bool.false_eq_true, Bool.not_true, Bool.not_false, upd_same, *])

abbrev sKnd : Stmt := topI 26
abbrev sBas : Stmt := topI 27
abbrev NKnd : List Str := ["one", "found"]
theorem scKnd : FnScope NKnd ["one"] (defScope sKnd) := ⟨rfl, rfl, rfl, by decide +kernel, rfl, by decide +kernel, by decide +kernel⟩
abbrev NBas : List Str := ["one", "found"]
theorem scBas : FnScope NBas ["one"] (defScope sBas) := ⟨rfl, rfl, rfl, by decide +kernel, rfl, by decide +kernel, by decide +kernel⟩
/-- the classes, and how isinstance tells them -/
structure Kit (K : PySem.W.Frag) (cs : List Addr) (D : Addr) : Prop where
  x : ExcC K D
  k : ∀ c ∈ cs, PySem.W.kitOne K (.ref D) (.ref c) = some (decide (D = c))
structure Kib (K : PySem.W.Frag) (CP CN : Addr) (bs : List Bool) (D : Addr) : Prop where
  x : ExcC K D
  b : ∃ b0 b1 b2 b3 b4, bs = [b0, b1, b2, b3, b4] ∧ PySem.W.kitOne K (.ref D) (.ref CP) = some b0 ∧ PySem.W.kitOne K (.ref D) (.type "ValueError") = some b1 ∧ PySem.W.kitOne K (.ref D) (.type "OverflowError") = some b2 ∧ PySem.W.kitOne K (.ref D) (.type "LookupError") = some b3 ∧ PySem.W.kitOne K (.ref D) (.ref CN) = some b4
/-- isinstance(one, c) -/
def tIC (K : PySem.W.Frag) (cv : Value) : TE := fun σ H Q => ∃ (a D : Addr) (b : Bool), σ[0]? = some (some (.ref a)) ∧ AnyErr H a D ∧ ExcC K D ∧ PySem.W.kitOne K (.ref D) cv = some b ∧ Q (.bl b) H
theorem ic_imp {K : PySem.W.Frag} {cv : Value} {c : V} (σ : L2.St) (H : Hp) (Q : VK) (h : tIC K cv σ H Q) : tCB (rIsA K cv c) (tCons (tVar 0) (tCons (tC c) tNil)) σ H Q := by
  obtain ⟨a, D, b, h1, h2, h3, h4, h5⟩ := h
  exact ⟨_, h1, a, D, b, rfl, h2, h3, h4, h5⟩
theorem ic_go {K : PySem.W.Frag} {cv : Value} {σ : L2.St} {H : Hp} {Q : VK} {a D : Addr} {b : Bool} (h1 : σ[0]? = some (some (.ref a))) (h2 : AnyErr H a D) (h3 : ExcC K D) (h4 : PySem.W.kitOne K (.ref D) cv = some b) (h5 : Q (.bl b) H) : tIC K cv σ H Q := ⟨a, D, b, h1, h2, h3, h4, h5⟩
def Er.cs {P : Program} {w : World} {K : PySem.W.Frag} {mg : Str → Option Value} {base : Heap} (T : Er P w K mg base) : List Addr := [T.t0.C, T.t1.C, T.t2.C, T.t3.C, T.t4.C, T.t5.C, T.t6.C, T.t7.C, T.t8.C, T.t9.C, T.t10.C, T.t11.C, T.t12.C, T.t13.C, T.t14.C, T.t15.C]
def spKnd (K : PySem.W.Frag) (cs : List Addr) : Sp := fun vs H Q _ => ∃ (a D : Addr), vs = [.ref a] ∧ AnyErr H a D ∧ Kit K cs D ∧ ∀ (p : Addr) (H' : Hp), H p = none → Same H H' → H' p = some (.lst (cs.map fun c => .bl (decide (D = c)))) → Q (.ref p) H'
def spBas (K : PySem.W.Frag) (CP CN : Addr) : Sp := fun vs H Q _ => ∃ (a D : Addr) (bs : List Bool), vs = [.ref a] ∧ AnyErr H a D ∧ Kib K CP CN bs D ∧ ∀ (p : Addr) (H' : Hp), H p = none → Same H H' → H' p = some (.lst (bs.map V.bl)) → Q (.ref p) H'
section
variable {P : Program} {w : World} {K : PySem.W.Frag} {mg : Str → Option Value} {base : Heap}

theorem ok_Bas {f : Addr} {fd : FuncData} (F : Fun K "_law_bases" "_law_bases" sBas f fd) (B : Bn mg) (T : Er P w K mg base) : FnOk P w K mg base CX0 1 f fd ["one"] (spBas K T.CP T.CN) := by
  refine F.ok scBas (fun vs H Q E h => ?_) (fun cdv A outer s H vs Q E hr h => ?_)
  · obtain ⟨a, D, bs, rfl, _⟩ := h
    rfl
  obtain ⟨a, D, _, rfl, hE, ⟨hx, b0, b1, b2, b3, b4, rfl, k0, k1, k2, k3, k4⟩, q⟩ := h
  refine ⟨_, (pss_cons (ps_set (i := 1) scBas.nd rfl (Or.inl rfl) (pe_lst (pa_cons ((pe_callB (call_isA cv_ref) (by rfl) B.isinstance (by decide +kernel) (pa_cons (pv 0) (pa_cons (pe_gR T.nPileError) pa_nil))).imp (ic_imp (K := K))) (pa_cons ((pe_callB (call_isA cv_ty) (by rfl) B.isinstance (by decide +kernel) (pa_cons (pv 0) (pa_cons (pe_tyN (n := "ValueError") T.nValueError (by decide +kernel)) pa_nil))).imp (ic_imp (K := K))) (pa_cons ((pe_callB (call_isA cv_ty) (by rfl) B.isinstance (by decide +kernel) (pa_cons (pv 0) (pa_cons (pe_tyN (n := "OverflowError") T.nOverflowError (by decide +kernel)) pa_nil))).imp (ic_imp (K := K))) pa_nil)))))
      (pss_one (ps_ret (pe_op op_cat (pv 1) (pe_lst (pa_cons ((pe_callB (call_isA cv_ty) (by rfl) B.isinstance (by decide +kernel) (pa_cons (pv 0) (pa_cons (pe_tyN (n := "LookupError") T.nLookupError (by decide +kernel)) pa_nil))).imp (ic_imp (K := K))) (pa_cons ((pe_callB (call_isA cv_ref) (by rfl) B.isinstance (by decide +kernel) (pa_cons (pv 0) (pa_cons (pe_gR T.nNothingLeft) pa_nil))).imp (ic_imp (K := K))) pa_nil))))))), ?_⟩
  walk_at "rd"
  refine ic_go rfl hE hx k0 (ic_go rfl hE hx k1 (ic_go rfl hE hx k2 ?_))
  refine ⟨sz (by exact (by decide : 3 ≤ 100000)), fun p1 hp1 => ?_⟩
  have l1 : upd H p1 (.lst [.bl b0, .bl b1, .bl b2]) p1 = some (.lst [.bl b0, .bl b1, .bl b2]) := upd_same
  have n1 := My.Same.new (o := .lst [.bl b0, .bl b1, .bl b2]) (Same.refl H) hp1
  generalize upd H p1 (.lst [.bl b0, .bl b1, .bl b2]) = G1 at *
  have hE1 := hE.same n1
  refine ic_go rfl hE1 hx k3 (ic_go rfl hE1 hx k4 ?_)
  refine ⟨sz (by exact (by decide : 2 ≤ 100000)), fun p2 hp2 => ?_⟩
  have n2 := My.Same.new (o := .lst [.bl b3, .bl b4]) (Same.refl G1) hp2
  refine ⟨_, n2 _ _ l1, sz (by exact (by decide : 5 ≤ 100000)), fun p3 hp3 => ?_⟩
  exact q p3 _ ((n1.trans n2).free hp3) (My.Same.new' (n1.trans n2) hp3) upd_same
theorem ok_Knd {f : Addr} {fd : FuncData} (F : Fun K "_law_kinds" "_law_kinds" sKnd f fd) (B : Bn mg) (T : Er P w K mg base) : FnOk P w K mg base CX0 1 f fd ["one"] (spKnd K T.cs) := by
  refine F.ok scKnd (fun vs H Q E h => ?_) (fun cdv A outer s H vs Q E hr h => ?_)
  · obtain ⟨a, D, rfl, _⟩ := h
    rfl
  obtain ⟨a, D, rfl, hE, ⟨hx, kc⟩, q⟩ := h
  unfold Er.cs at kc q
  have k0 := kc T.t0.C (by simp)
  have k1 := kc T.t1.C (by simp)
  have k2 := kc T.t2.C (by simp)
  have k3 := kc T.t3.C (by simp)
  have k4 := kc T.t4.C (by simp)
  have k5 := kc T.t5.C (by simp)
  have k6 := kc T.t6.C (by simp)
  have k7 := kc T.t7.C (by simp)
  have k8 := kc T.t8.C (by simp)
  have k9 := kc T.t9.C (by simp)
  have k10 := kc T.t10.C (by simp)
  have k11 := kc T.t11.C (by simp)
  have k12 := kc T.t12.C (by simp)
  have k13 := kc T.t13.C (by simp)
  have k14 := kc T.t14.C (by simp)
  have k15 := kc T.t15.C (by simp)
  refine ⟨_, (pss_cons (ps_set (i := 1) scKnd.nd rfl (Or.inl rfl) (pe_lst (pa_cons ((pe_callB (call_isA cv_ref) (by rfl) B.isinstance (by decide +kernel) (pa_cons (pv 0) (pa_cons (pe_gR T.nBadDeed) pa_nil))).imp (ic_imp (K := K))) (pa_cons ((pe_callB (call_isA cv_ref) (by rfl) B.isinstance (by decide +kernel) (pa_cons (pv 0) (pa_cons (pe_gR T.nBadWaking) pa_nil))).imp (ic_imp (K := K))) (pa_cons ((pe_callB (call_isA cv_ref) (by rfl) B.isinstance (by decide +kernel) (pa_cons (pv 0) (pa_cons (pe_gR T.nBadRules) pa_nil))).imp (ic_imp (K := K))) pa_nil)))))
      (pss_cons (ps_set (i := 1) scKnd.nd rfl (Or.inl rfl) (pe_op op_cat (pv 1) (pe_lst (pa_cons ((pe_callB (call_isA cv_ref) (by rfl) B.isinstance (by decide +kernel) (pa_cons (pv 0) (pa_cons (pe_gR T.nBadTable) pa_nil))).imp (ic_imp (K := K))) (pa_cons ((pe_callB (call_isA cv_ref) (by rfl) B.isinstance (by decide +kernel) (pa_cons (pv 0) (pa_cons (pe_gR T.nBadEntry) pa_nil))).imp (ic_imp (K := K))) (pa_cons ((pe_callB (call_isA cv_ref) (by rfl) B.isinstance (by decide +kernel) (pa_cons (pv 0) (pa_cons (pe_gR T.nBadHands) pa_nil))).imp (ic_imp (K := K))) pa_nil))))))
      (pss_cons (ps_set (i := 1) scKnd.nd rfl (Or.inl rfl) (pe_op op_cat (pv 1) (pe_lst (pa_cons ((pe_callB (call_isA cv_ref) (by rfl) B.isinstance (by decide +kernel) (pa_cons (pv 0) (pa_cons (pe_gR T.nBadMove) pa_nil))).imp (ic_imp (K := K))) (pa_cons ((pe_callB (call_isA cv_ref) (by rfl) B.isinstance (by decide +kernel) (pa_cons (pv 0) (pa_cons (pe_gR T.nBadPlace) pa_nil))).imp (ic_imp (K := K))) (pa_cons ((pe_callB (call_isA cv_ref) (by rfl) B.isinstance (by decide +kernel) (pa_cons (pv 0) (pa_cons (pe_gR T.nBadText) pa_nil))).imp (ic_imp (K := K))) pa_nil))))))
      (pss_cons (ps_set (i := 1) scKnd.nd rfl (Or.inl rfl) (pe_op op_cat (pv 1) (pe_lst (pa_cons ((pe_callB (call_isA cv_ref) (by rfl) B.isinstance (by decide +kernel) (pa_cons (pv 0) (pa_cons (pe_gR T.nBadSeat) pa_nil))).imp (ic_imp (K := K))) (pa_cons ((pe_callB (call_isA cv_ref) (by rfl) B.isinstance (by decide +kernel) (pa_cons (pv 0) (pa_cons (pe_gR T.nBadNumber) pa_nil))).imp (ic_imp (K := K))) (pa_cons ((pe_callB (call_isA cv_ref) (by rfl) B.isinstance (by decide +kernel) (pa_cons (pv 0) (pa_cons (pe_gR T.nBadArgument) pa_nil))).imp (ic_imp (K := K))) pa_nil))))))
      (pss_cons (ps_set (i := 1) scKnd.nd rfl (Or.inl rfl) (pe_op op_cat (pv 1) (pe_lst (pa_cons ((pe_callB (call_isA cv_ref) (by rfl) B.isinstance (by decide +kernel) (pa_cons (pv 0) (pa_cons (pe_gR T.nBadChange) pa_nil))).imp (ic_imp (K := K))) (pa_cons ((pe_callB (call_isA cv_ref) (by rfl) B.isinstance (by decide +kernel) (pa_cons (pv 0) (pa_cons (pe_gR T.nBadCommand) pa_nil))).imp (ic_imp (K := K))) (pa_cons ((pe_callB (call_isA cv_ref) (by rfl) B.isinstance (by decide +kernel) (pa_cons (pv 0) (pa_cons (pe_gR T.nTooMany) pa_nil))).imp (ic_imp (K := K))) pa_nil))))))
      (pss_one (ps_ret (pe_op op_cat (pv 1) (pe_lst (pa_cons ((pe_callB (call_isA cv_ref) (by rfl) B.isinstance (by decide +kernel) (pa_cons (pv 0) (pa_cons (pe_gR T.nNotThere) pa_nil))).imp (ic_imp (K := K))) pa_nil)))))))))), ?_⟩
  walk_at "rd" 
  refine (ic_go rfl hE hx k0 (ic_go rfl hE hx k1 (ic_go rfl hE hx k2 ?_)))
  refine ⟨sz (by exact (by decide : 3 ≤ 100000)), fun p0 hp0 => ?_⟩
  have l0 : upd H p0 (.lst [.bl (decide (D = T.t0.C)), .bl (decide (D = T.t1.C)), .bl (decide (D = T.t2.C))]) p0 = some (.lst [.bl (decide (D = T.t0.C)), .bl (decide (D = T.t1.C)), .bl (decide (D = T.t2.C))]) := upd_same
  have n0 := My.Same.new (o := (.lst [.bl (decide (D = T.t0.C)), .bl (decide (D = T.t1.C)), .bl (decide (D = T.t2.C))])) (Same.refl H) hp0
  generalize upd H p0 (.lst [.bl (decide (D = T.t0.C)), .bl (decide (D = T.t1.C)), .bl (decide (D = T.t2.C))]) = G0 at *
  have m0 := n0
  have hE0 := hE.same m0
  refine (ic_go rfl hE0 hx k3 (ic_go rfl hE0 hx k4 (ic_go rfl hE0 hx k5 ?_)))
  refine ⟨sz (by exact (by decide : 3 ≤ 100000)), fun p1 hp1 => ?_⟩
  have n1 := My.Same.new (o := (.lst [.bl (decide (D = T.t3.C)), .bl (decide (D = T.t4.C)), .bl (decide (D = T.t5.C))])) (Same.refl G0) hp1
  refine ⟨_, n1 _ _ l0, sz (by exact (by decide : 6 ≤ 100000)), fun r1 hr1 => ?_⟩
  have l1 : upd (upd G0 p1 (.lst [.bl (decide (D = T.t3.C)), .bl (decide (D = T.t4.C)), .bl (decide (D = T.t5.C))])) r1 (.lst [.bl (decide (D = T.t0.C)), .bl (decide (D = T.t1.C)), .bl (decide (D = T.t2.C)), .bl (decide (D = T.t3.C)), .bl (decide (D = T.t4.C)), .bl (decide (D = T.t5.C))]) r1 = some (.lst [.bl (decide (D = T.t0.C)), .bl (decide (D = T.t1.C)), .bl (decide (D = T.t2.C)), .bl (decide (D = T.t3.C)), .bl (decide (D = T.t4.C)), .bl (decide (D = T.t5.C))]) := upd_same
  have m1 := My.Same.new' (o := (.lst [.bl (decide (D = T.t0.C)), .bl (decide (D = T.t1.C)), .bl (decide (D = T.t2.C)), .bl (decide (D = T.t3.C)), .bl (decide (D = T.t4.C)), .bl (decide (D = T.t5.C))])) (m0.trans n1) hr1
  simp only [List.cons_append, List.nil_append]
  generalize upd (upd G0 p1 (.lst [.bl (decide (D = T.t3.C)), .bl (decide (D = T.t4.C)), .bl (decide (D = T.t5.C))])) r1 (.lst [.bl (decide (D = T.t0.C)), .bl (decide (D = T.t1.C)), .bl (decide (D = T.t2.C)), .bl (decide (D = T.t3.C)), .bl (decide (D = T.t4.C)), .bl (decide (D = T.t5.C))]) = G1 at *
  have hE1 := hE.same m1
  refine (ic_go rfl hE1 hx k6 (ic_go rfl hE1 hx k7 (ic_go rfl hE1 hx k8 ?_)))
  refine ⟨sz (by exact (by decide : 3 ≤ 100000)), fun p2 hp2 => ?_⟩
  have n2 := My.Same.new (o := (.lst [.bl (decide (D = T.t6.C)), .bl (decide (D = T.t7.C)), .bl (decide (D = T.t8.C))])) (Same.refl G1) hp2
  refine ⟨_, n2 _ _ l1, sz (by exact (by decide : 9 ≤ 100000)), fun r2 hr2 => ?_⟩
  have l2 : upd (upd G1 p2 (.lst [.bl (decide (D = T.t6.C)), .bl (decide (D = T.t7.C)), .bl (decide (D = T.t8.C))])) r2 (.lst [.bl (decide (D = T.t0.C)), .bl (decide (D = T.t1.C)), .bl (decide (D = T.t2.C)), .bl (decide (D = T.t3.C)), .bl (decide (D = T.t4.C)), .bl (decide (D = T.t5.C)), .bl (decide (D = T.t6.C)), .bl (decide (D = T.t7.C)), .bl (decide (D = T.t8.C))]) r2 = some (.lst [.bl (decide (D = T.t0.C)), .bl (decide (D = T.t1.C)), .bl (decide (D = T.t2.C)), .bl (decide (D = T.t3.C)), .bl (decide (D = T.t4.C)), .bl (decide (D = T.t5.C)), .bl (decide (D = T.t6.C)), .bl (decide (D = T.t7.C)), .bl (decide (D = T.t8.C))]) := upd_same
  have m2 := My.Same.new' (o := (.lst [.bl (decide (D = T.t0.C)), .bl (decide (D = T.t1.C)), .bl (decide (D = T.t2.C)), .bl (decide (D = T.t3.C)), .bl (decide (D = T.t4.C)), .bl (decide (D = T.t5.C)), .bl (decide (D = T.t6.C)), .bl (decide (D = T.t7.C)), .bl (decide (D = T.t8.C))])) (m1.trans n2) hr2
  simp only [List.cons_append, List.nil_append]
  generalize upd (upd G1 p2 (.lst [.bl (decide (D = T.t6.C)), .bl (decide (D = T.t7.C)), .bl (decide (D = T.t8.C))])) r2 (.lst [.bl (decide (D = T.t0.C)), .bl (decide (D = T.t1.C)), .bl (decide (D = T.t2.C)), .bl (decide (D = T.t3.C)), .bl (decide (D = T.t4.C)), .bl (decide (D = T.t5.C)), .bl (decide (D = T.t6.C)), .bl (decide (D = T.t7.C)), .bl (decide (D = T.t8.C))]) = G2 at *
  have hE2 := hE.same m2
  refine (ic_go rfl hE2 hx k9 (ic_go rfl hE2 hx k10 (ic_go rfl hE2 hx k11 ?_)))
  refine ⟨sz (by exact (by decide : 3 ≤ 100000)), fun p3 hp3 => ?_⟩
  have n3 := My.Same.new (o := (.lst [.bl (decide (D = T.t9.C)), .bl (decide (D = T.t10.C)), .bl (decide (D = T.t11.C))])) (Same.refl G2) hp3
  refine ⟨_, n3 _ _ l2, sz (by exact (by decide : 12 ≤ 100000)), fun r3 hr3 => ?_⟩
  have l3 : upd (upd G2 p3 (.lst [.bl (decide (D = T.t9.C)), .bl (decide (D = T.t10.C)), .bl (decide (D = T.t11.C))])) r3 (.lst [.bl (decide (D = T.t0.C)), .bl (decide (D = T.t1.C)), .bl (decide (D = T.t2.C)), .bl (decide (D = T.t3.C)), .bl (decide (D = T.t4.C)), .bl (decide (D = T.t5.C)), .bl (decide (D = T.t6.C)), .bl (decide (D = T.t7.C)), .bl (decide (D = T.t8.C)), .bl (decide (D = T.t9.C)), .bl (decide (D = T.t10.C)), .bl (decide (D = T.t11.C))]) r3 = some (.lst [.bl (decide (D = T.t0.C)), .bl (decide (D = T.t1.C)), .bl (decide (D = T.t2.C)), .bl (decide (D = T.t3.C)), .bl (decide (D = T.t4.C)), .bl (decide (D = T.t5.C)), .bl (decide (D = T.t6.C)), .bl (decide (D = T.t7.C)), .bl (decide (D = T.t8.C)), .bl (decide (D = T.t9.C)), .bl (decide (D = T.t10.C)), .bl (decide (D = T.t11.C))]) := upd_same
  have m3 := My.Same.new' (o := (.lst [.bl (decide (D = T.t0.C)), .bl (decide (D = T.t1.C)), .bl (decide (D = T.t2.C)), .bl (decide (D = T.t3.C)), .bl (decide (D = T.t4.C)), .bl (decide (D = T.t5.C)), .bl (decide (D = T.t6.C)), .bl (decide (D = T.t7.C)), .bl (decide (D = T.t8.C)), .bl (decide (D = T.t9.C)), .bl (decide (D = T.t10.C)), .bl (decide (D = T.t11.C))])) (m2.trans n3) hr3
  simp only [List.cons_append, List.nil_append]
  generalize upd (upd G2 p3 (.lst [.bl (decide (D = T.t9.C)), .bl (decide (D = T.t10.C)), .bl (decide (D = T.t11.C))])) r3 (.lst [.bl (decide (D = T.t0.C)), .bl (decide (D = T.t1.C)), .bl (decide (D = T.t2.C)), .bl (decide (D = T.t3.C)), .bl (decide (D = T.t4.C)), .bl (decide (D = T.t5.C)), .bl (decide (D = T.t6.C)), .bl (decide (D = T.t7.C)), .bl (decide (D = T.t8.C)), .bl (decide (D = T.t9.C)), .bl (decide (D = T.t10.C)), .bl (decide (D = T.t11.C))]) = G3 at *
  have hE3 := hE.same m3
  refine (ic_go rfl hE3 hx k12 (ic_go rfl hE3 hx k13 (ic_go rfl hE3 hx k14 ?_)))
  refine ⟨sz (by exact (by decide : 3 ≤ 100000)), fun p4 hp4 => ?_⟩
  have n4 := My.Same.new (o := (.lst [.bl (decide (D = T.t12.C)), .bl (decide (D = T.t13.C)), .bl (decide (D = T.t14.C))])) (Same.refl G3) hp4
  refine ⟨_, n4 _ _ l3, sz (by exact (by decide : 15 ≤ 100000)), fun r4 hr4 => ?_⟩
  have l4 : upd (upd G3 p4 (.lst [.bl (decide (D = T.t12.C)), .bl (decide (D = T.t13.C)), .bl (decide (D = T.t14.C))])) r4 (.lst [.bl (decide (D = T.t0.C)), .bl (decide (D = T.t1.C)), .bl (decide (D = T.t2.C)), .bl (decide (D = T.t3.C)), .bl (decide (D = T.t4.C)), .bl (decide (D = T.t5.C)), .bl (decide (D = T.t6.C)), .bl (decide (D = T.t7.C)), .bl (decide (D = T.t8.C)), .bl (decide (D = T.t9.C)), .bl (decide (D = T.t10.C)), .bl (decide (D = T.t11.C)), .bl (decide (D = T.t12.C)), .bl (decide (D = T.t13.C)), .bl (decide (D = T.t14.C))]) r4 = some (.lst [.bl (decide (D = T.t0.C)), .bl (decide (D = T.t1.C)), .bl (decide (D = T.t2.C)), .bl (decide (D = T.t3.C)), .bl (decide (D = T.t4.C)), .bl (decide (D = T.t5.C)), .bl (decide (D = T.t6.C)), .bl (decide (D = T.t7.C)), .bl (decide (D = T.t8.C)), .bl (decide (D = T.t9.C)), .bl (decide (D = T.t10.C)), .bl (decide (D = T.t11.C)), .bl (decide (D = T.t12.C)), .bl (decide (D = T.t13.C)), .bl (decide (D = T.t14.C))]) := upd_same
  have m4 := My.Same.new' (o := (.lst [.bl (decide (D = T.t0.C)), .bl (decide (D = T.t1.C)), .bl (decide (D = T.t2.C)), .bl (decide (D = T.t3.C)), .bl (decide (D = T.t4.C)), .bl (decide (D = T.t5.C)), .bl (decide (D = T.t6.C)), .bl (decide (D = T.t7.C)), .bl (decide (D = T.t8.C)), .bl (decide (D = T.t9.C)), .bl (decide (D = T.t10.C)), .bl (decide (D = T.t11.C)), .bl (decide (D = T.t12.C)), .bl (decide (D = T.t13.C)), .bl (decide (D = T.t14.C))])) (m3.trans n4) hr4
  simp only [List.cons_append, List.nil_append]
  generalize upd (upd G3 p4 (.lst [.bl (decide (D = T.t12.C)), .bl (decide (D = T.t13.C)), .bl (decide (D = T.t14.C))])) r4 (.lst [.bl (decide (D = T.t0.C)), .bl (decide (D = T.t1.C)), .bl (decide (D = T.t2.C)), .bl (decide (D = T.t3.C)), .bl (decide (D = T.t4.C)), .bl (decide (D = T.t5.C)), .bl (decide (D = T.t6.C)), .bl (decide (D = T.t7.C)), .bl (decide (D = T.t8.C)), .bl (decide (D = T.t9.C)), .bl (decide (D = T.t10.C)), .bl (decide (D = T.t11.C)), .bl (decide (D = T.t12.C)), .bl (decide (D = T.t13.C)), .bl (decide (D = T.t14.C))]) = G4 at *
  have hE4 := hE.same m4
  refine (ic_go rfl hE4 hx k15 ?_)
  refine ⟨sz (by exact (by decide : 1 ≤ 100000)), fun p5 hp5 => ?_⟩
  have n5 := My.Same.new (o := (.lst [.bl (decide (D = T.t15.C))])) (Same.refl G4) hp5
  refine ⟨_, n5 _ _ l4, sz (by exact (by decide : 16 ≤ 100000)), fun r5 hr5 => ?_⟩
  exact q r5 _ ((m4.trans n5).free hr5) (My.Same.new' (m4.trans n5) hr5) upd_same
end
end My

set_option Elab.async false
set_option linter.all false
set_option maxRecDepth 100000
set_option maxHeartbeats 4000000
namespace My
open PySem PySem.Spec PyProof.Rows L2

local macro_rules | `(tactic| walk_at "rd") => `(tactic| simp only [rd_seq, rd_next, rd_brk, rd_cont, rd_asg, rd_gname, rd_var, rd_c, rd_op, rd_un, rd_rI0, rd_rI, rd_rU, rd_test, rd_B, rd_and, rd_or, rd_not, rd_andV, rd_orV, rd_notV, rd_ifx, rd_ifs, rd_drop, rd_ret, rd_nil, rd_cons, rd_cb, rd_tup, rd_lst, rd_call, rd_bm, rd_app, rd_ixLst, rd_ixSq, rd_lenL, rd_lenSq, rd_setLst, rd_sub, rd_neNil, rd_mkE, rd_xfG, rd_isA, rd_cat, rd_rep, rd_lcL, rd_lcE, rd_reprQ, rd_neD, rd_eq, rd_ne, L2.wipe, Int.reduceToNat, Int.reduceLE, Int.reduceLT, Nat.reduceLT, Nat.reduceLeDiff, Int.reduceNeg, Int.toNat_natCast, Int.reduceAdd, L2.start, and_assoc, exists_and_left, List.map_cons, List.map_nil, List.length_cons, List.length_nil, List.cons_append, List.nil_append, List.append_nil, List.replicate_succ, List.replicate_zero, List.replicate, List.set_cons_zero, List.set_cons_succ, List.getElem?_cons_zero, List.getElem?_cons_succ, Option.some.injEq, exists_eq_left', exists_eq_left, exists_eq, V.int.injEq, V.ref.injEq, V.str.injEq, V.bl.injEq, HO.lst.injEq, HO.tup.injEq, ex_bl, List.cons.injEq, and_true, true_and, Nat.reduceAdd, Nat.reduceSub, reduceCtorEq, false_and, or_false, exists_false, false_or, decide_eq_true_eq, if_true, if_false, Bool.false_eq_true, Bool.not_true, Bool.not_false, upd_same])
local macro_rules | `(tactic| walk_at "rdh") => `(tactic| simp only [rd_seq, rd_next, rd_brk, rd_cont, rd_asg, rd_gname, rd_var, rd_c, rd_op, rd_un, rd_rI0, rd_rI, rd_rU, rd_test, rd_B, rd_and, rd_or, rd_not, rd_andV, rd_orV, rd_notV, rd_ifx, rd_ifs, rd_drop, rd_ret, rd_nil, rd_cons, rd_cb, rd_tup, rd_lst, rd_call, rd_bm, rd_app, rd_ixLst, rd_ixSq, rd_lenL, rd_lenSq, rd_setLst, rd_sub, rd_neNil, rd_mkE, rd_xfG, rd_isA, rd_cat, rd_rep, rd_lcL, rd_lcE, rd_reprQ, rd_neD, rd_eq, rd_ne, L2.wipe, Int.reduceToNat, Int.reduceLE, Int.reduceLT, Nat.reduceLT, Nat.reduceLeDiff, Int.reduceNeg, Int.toNat_natCast, Int.reduceAdd, L2.start, and_assoc, exists_and_left, List.map_cons, List.map_nil, List.length_cons, List.length_nil, List.cons_append, List.nil_append, List.append_nil, List.replicate_succ, List.replicate_zero, List.replicate, List.set_cons_zero, List.set_cons_succ, List.getElem?_cons_zero, List.getElem?_cons_succ, Option.some.injEq, exists_eq_left', exists_eq_left, exists_eq, V.int.injEq, V.ref.injEq, V.str.injEq, V.bl.injEq, HO.lst.injEq, HO.tup.injEq, ex_bl, List.cons.injEq, and_true, true_and, Nat.reduceAdd, Nat.reduceSub, reduceCtorEq, false_and, or_false, exists_false, false_or, decide_eq_true_eq, if_true, if_false, Bool.false_eq_true, Bool.not_true, Bool.not_false, upd_same, *])

abbrev sOpn : Stmt := topI 20
abbrev sDrw : Stmt := topI 21
abbrev sPck : Stmt := topI 22
abbrev NOpn : List Str := ["script", "k", "cell", "great"]
theorem scOpn : FnScope NOpn ["script", "k"] (defScope sOpn) := ⟨rfl, rfl, rfl, by decide +kernel, rfl, by decide +kernel, by decide +kernel⟩
abbrev NDrw : List Str := ["pool", "many", "found"]
theorem scDrw : FnScope NDrw ["pool", "many"] (defScope sDrw) := ⟨rfl, rfl, rfl, by decide +kernel, rfl, by decide +kernel, by decide +kernel⟩
abbrev NPck : List Str := ["pool", "some"]
theorem scPck : FnScope NPck ["pool", "some"] (defScope sPck) := ⟨rfl, rfl, rfl, by decide +kernel, rfl, by decide +kernel, by decide +kernel⟩
/-- a pool: two whole numbers, the second one small -/
def Pool (H : Hp) (p : Addr) : Prop := ∃ a b : Int, H p = some (.lst [.int a, .int b]) ∧ 0 ≤ b ∧ b < 2147483647
/-- all but p stands -/
def But (p : Addr) (H H' : Hp) : Prop := ∀ a u, a ≠ p → H a = some u → H' a = some u
def spOpn (K : PySem.W.Frag) : Sp := fun vs H Q _ => ∃ (a : Addr) (ns : List Int) (k : Int), vs = [.ref a, .int k] ∧ SqL K H a (ns.map V.int) ∧ 0 ≤ k ∧ k ≤ 1000 ∧ ∀ (p : Addr) (H' : Hp), H p = none → Same H H' → Pool H' p → Q (.ref p) H'
def spDrw : Sp := fun vs H Q _ => ∃ (p : Addr) (m : Int), vs = [.ref p, .int m] ∧ Pool H p ∧ 0 < m ∧ m ≤ 100000 ∧ ∀ (n : Int) (H' : Hp), But p H H' → Pool H' p → 0 ≤ n → n < m → Q (.int n) H'
def spPck : Sp := fun vs H Q _ => ∃ (p l : Addr) (xs : List V), vs = [.ref p, .ref l] ∧ Pool H p ∧ l ≠ p ∧ H l = some (.lst xs) ∧ xs ≠ [] ∧ xs.length ≤ 1000 ∧ ∀ (v : V) (H' : Hp), But p H H' → v ∈ xs → Q v H'
section
variable {P : Program} {w : World} {K : PySem.W.Frag} {mg : Str → Option Value} {base : Heap}

theorem ok_Opn {f : Addr} {fd : FuncData} (F : Fun K "_law_opened" "_law_opened" sOpn f fd) (B : Bn mg) : FnOk P w K mg base CX0 1 f fd ["script", "k"] (spOpn K) := by
  refine F.ok scOpn (fun vs H Q E h => ?_) (fun cdv A outer s H vs Q E hr h => ?_)
  · obtain ⟨a, ns, k, rfl, _⟩ := h
    rfl
  obtain ⟨a, ns, k, rfl, hS, k0, k1, q⟩ := h
  refine ⟨_, (pss_cons (ps_set (i := 2) scOpn.nd rfl (Or.inl rfl) (pe_ifExp (pt_cmpR op_lt (pv 1) (pe_callB call_lenSq (by rfl) B.len (by decide +kernel) (pa_cons (pv 0) pa_nil)) (nomark _)) (pe_ix ix_sq (pv 0) (pv 1) (fun _ _ => rfl)) pe_int))
      (pss_cons (ps_set (i := 3) scOpn.nd rfl (Or.inl rfl) (pe_callB (call_max2 rfl) (by rfl) B.max (by decide +kernel) (pa_cons (pe_callTy call_int1 (by rfl) B.int (by decide +kernel) (pa_cons (pv 2) pa_nil)) (pa_cons (pe_callTy call_int1 (by rfl) B.int (by decide +kernel) (pa_cons (pe_op op_sub (pe_un un_neg pe_int) (pv 2)) pa_nil)) pa_nil))))
      (pss_one (ps_ret (pe_lst (pa_cons (pe_op op_mul (pv 3) (pe_callTy call_int1 (by rfl) B.int (by decide +kernel) (pa_cons (pe_cmpR op_ge (pv 3) (pe_op op_pow pe_int pe_int) (nomark _)) pa_nil))) (pa_cons (pe_op op_modN (pe_callTy call_int1 (by rfl) B.int (by decide +kernel) (pa_cons (pe_op op_mul (pe_op op_add (pe_op op_add (pe_op op_modN (pv 3) pe_int) (pe_op op_mul pe_int (pv 1))) pe_int) pe_int) pa_nil)) pe_int) pa_nil))))))), ?_⟩
  walk_at "rd"
  have fin : ∀ c m : Int, CPow 10 18 ∧ CMul m (if 10 ^ 18 ≤ m then 1 else 0) ∧ (2147483629 : Int) ≠ 0 ∧ CMul 7919 k ∧ CMul (m.fmod 2147483629 + 7919 * k + 17) 48271 ∧ (2147483647 : Int) ≠ 0 ∧ 2 ≤ sizeLine ∧ ∀ (p : Addr), H p = none →
      Q (V.ref p) (upd H p (HO.lst [V.int (m * if 10 ^ 18 ≤ m then 1 else 0), V.int (((m.fmod 2147483629 + 7919 * k + 17) * 48271).fmod 2147483647)])) := by
    intro c m
    refine ⟨⟨by decide, by decide, by decide⟩, .inr ?_, by decide, .inl ⟨by decide, by decide⟩, .inr ⟨by decide, by decide⟩, by decide, sz (by decide), fun p hp => ?_⟩
    · split
      · exact ⟨by decide, by decide⟩
      · exact ⟨by decide, by decide⟩
    · have z := fmod_r (a := (m.fmod 2147483629 + 7919 * k + 17) * 48271) (m := 2147483647) (by decide)
      exact q p _ hp (My.Same.new (Same.refl H) hp) ⟨_, _, upd_same, z.1, z.2⟩
  refine ⟨_, hS, ?_⟩
  split
  · rename_i hlt
    rw [List.length_map] at hlt
    have hk : k.toNat < ns.length := by omega
    refine ⟨_, hS, k0, .int (ns[k.toNat]), by rw [List.getElem?_map, List.getElem?_eq_getElem hk]; rfl, .inl ⟨_, rfl, ?_⟩⟩
    rw [rd_rI0]
    exact .inl ⟨_, rfl, fin 0 _⟩
  · exact fin 0 _
theorem ok_Drw {f : Addr} {fd : FuncData} (F : Fun K "_law_draw" "_law_draw" sDrw f fd) (B : Bn mg) : FnOk P w K mg base CX0 1 f fd ["pool", "many"] spDrw := by
  refine F.ok scDrw (fun vs H Q E h => ?_) (fun cdv A outer s H vs Q E hr h => ?_)
  · obtain ⟨p, m, rfl, _⟩ := h
    rfl
  obtain ⟨p, m, rfl, ⟨a, b, hp, b0, b1⟩, m0, m1, q⟩ := h
  refine ⟨_, (pss_cons (ps_if (pt_cmpR op_gt (pe_ix ix_lst (pv 0) pe_int (fun _ _ => rfl)) pe_int (nomark _))
        (pss_cons (ps_set (i := 2) scDrw.nd rfl (Or.inl rfl) (pe_op op_modN (pe_callTy call_int1 (by rfl) B.int (by decide +kernel) (pa_cons (pe_ix ix_lst (pv 0) pe_int (fun _ _ => rfl)) pa_nil)) (pv 1)))
        (pss_cons (ps_asg (pe_op op_fdivN (pe_ix ix_lst (pv 0) pe_int (fun _ _ => rfl)) (pv 1)) (pg_sub (pv 0) pe_int set_lst))
        (pss_one (ps_ret (pv 2)))))
        pss_nil)
      (pss_cons (ps_asg (pe_op op_modN (pe_callTy call_int1 (by rfl) B.int (by decide +kernel) (pa_cons (pe_op op_add (pe_op op_mul (pe_ix ix_lst (pv 0) pe_int (fun _ _ => rfl)) pe_int) pe_int) pa_nil)) pe_int) (pg_sub (pv 0) pe_int set_lst))
      (pss_one (ps_ret (pe_op op_modN (pe_op op_fdivN (pe_op op_modN (pe_callTy call_int1 (by rfl) B.int (by decide +kernel) (pa_cons (pe_op op_mul (pe_ix ix_lst (pv 0) pe_int (fun _ _ => rfl)) (pe_ix ix_lst (pv 0) pe_int (fun _ _ => rfl))) pa_nil)) pe_int) pe_int) (pv 1)))))), ?_⟩
  walk_at "rd"
  simp only [hp]
  walk_at "rd"
  have but : ∀ o, But p H (upd H p o) := fun o x u n h => by rw [upd_ne n]; exact h
  split
  · refine ⟨_, hp, .int a, rfl, .inl ⟨a, rfl, by omega, _, hp, .int a, rfl, ?_⟩⟩
    rw [rd_rI]
    refine ⟨⟨by omega, by omega⟩, _, hp, by exact (by decide : 0 < 2), ?_⟩
    have z := fmod_r (a := a) (m := m) m0
    exact q _ _ (but _) ⟨_, b, upd_same, b0, b1⟩ z.1 z.2
  · refine ⟨_, hp, .int b, rfl, ?_⟩
    rw [rd_rI]
    refine ⟨.inr ⟨by decide, by decide⟩, ?_⟩
    rw [rd_rI0]
    have y := fmod_r (a := b * 39373 + 7) (m := 2147483647) (by decide)
    refine .inl ⟨_, rfl, by decide, _, hp, by exact (by decide : 1 < 2), _, rfl, _, rfl, ?_⟩
    rw [rd_rI]
    refine ⟨.inl ⟨by omega, by omega⟩, .inl ⟨_, rfl, by decide, ⟨by decide, by decide⟩, by omega, ?_⟩⟩
    have z := fmod_r (a := ((((b * 39373 + 7).fmod 2147483647) * ((b * 39373 + 7).fmod 2147483647)).fmod 2147483629).fdiv 32) (m := m) m0
    exact q _ _ (but _) ⟨a, _, upd_same, y.1, y.2⟩ z.1 z.2
theorem ok_Pck {f : Addr} {fd : FuncData} (F : Fun K "_law_pick" "_law_pick" sPck f fd) (B : Bn mg) (D_draw : Df K mg "_law_draw" sDrw ["pool", "many"]) (G_draw : FnOk P w K mg base CX0 1 D_draw.f D_draw.fd ["pool", "many"] spDrw) : FnOk P w K mg base CX0 2 f fd ["pool", "some"] spPck := by
  refine F.ok scPck (fun vs H Q E h => ?_) (fun cdv A outer s H vs Q E hr h => ?_)
  · obtain ⟨p, l, xs, rfl, _⟩ := h
    rfl
  obtain ⟨p, l, xs, rfl, hp, np, hl, hx, hz, q⟩ := h
  have hr1 := hr
  refine ⟨_, (pss_one (ps_ret (pe_ix ix_lst (pv 1) (pc D_draw G_draw hr1 (pa_cons (pv 0) (pa_cons (pe_callB call_lenL (by rfl) B.len (by decide +kernel) (pa_cons (pv 1) pa_nil)) pa_nil))) (fun _ _ => rfl)))), ?_⟩
  walk_at "rd"
  have h0 : 0 < xs.length := List.length_pos_iff.mpr hx
  simp only [hl]
  walk_at "rd"
  refine ⟨p, (xs.length : Int), rfl, hp, by omega, by omega, fun n H' bt hp' n0 n1 => ?_⟩
  have hl' := bt l _ np hl
  have hk : n.toNat < xs.length := by omega
  exact ⟨n, rfl, _, hl', n0, xs[n.toNat], List.getElem?_eq_getElem hk, q _ _ bt (List.getElem_mem hk)⟩
end
end My

set_option Elab.async false
set_option linter.all false
set_option maxRecDepth 100000
set_option maxHeartbeats 4000000
namespace My
open PySem PySem.Spec PyProof.Rows L2

section
variable {K : PySem.W.Frag} {σ : L2.St} {H : Hp} {Q : VK} {D : Ends}
theorem step_asg {te : TE} {t : TS} {j : Nat} (h : te σ H fun x H1 => t D (σ.set j (some x)) H1) : tSeq (tAsg te (gName j)) t D σ H := h
theorem step_seq {t u : TS} (h : t { D with nx := u D } σ H) : tSeq t u D σ H := h
/-! ### lists of truths -/
theorem dp_bls {p : Addr} {bs : List Bool} (h : H p = some (.lst (bs.map V.bl))) : Dp K H (.ref p) (.list (bs.map .bool)) := by
  refine .lst (SqL.of h) ?_
  clear h
  induction bs with
  | nil => exact .nil
  | cons b bs ih => exact .cons (.bl b) ih
theorem lay_bls : ∀ bs : List Bool, PyData.canLayAll0 (bs.map PyData.bool) = true ∧ PyData.depthAll (bs.map PyData.bool) = 0
  | [] => by simp [PyData.canLayAll0, PyData.depthAll]
  | b :: bs => by simp [PyData.canLayAll0, PyData.canLay0, PyData.depthAll, PyData.depth, lay_bls bs]
theorem sh_bls (bs : List Bool) : SeqAt.shaped (.list (bs.map .bool)) = true := by
  unfold SeqAt.shaped
  simp [PyData.canLay0, PyData.depth, lay_bls]
theorem eqv_bls (bs : List Bool) : PyData.eqv (.list (bs.map .bool)) (.list (bs.map .bool)) = true := SeqAt.eqv_refl _ (by simp [PyData.canLay0, lay_bls])
/-- lists of lists of truths -/
def dBB (bss : List (List Bool)) : PyData := .list (bss.map fun bs => .list (bs.map .bool))
theorem dp_bbs {p : Addr} {ps : List Addr} {bss : List (List Bool)} (h : H p = some (.lst (ps.map V.ref))) (hp : Paired (fun p bs => H p = some (.lst (bs.map V.bl))) ps bss) : Dp K H (.ref p) (dBB bss) := by
  refine .lst (SqL.of h) ?_
  clear h
  induction hp with
  | nil => exact .nil
  | cons h _ ih => exact .cons (dp_bls h) ih
theorem bl_more {H : Hp} {D : Addr} {xs : List V} {o : HO} {ps : List Addr} {bss : List (List Bool)} {p : Addr} {bs : List Bool} (hD : H D = some (.lst (xs.map fun x => x))) (hn : ∀ b ∈ ps, b ≠ D) (hpD : p ≠ D) (hp : H p = some (.lst (bs.map V.bl))) (h : Paired (fun p bs => H p = some (.lst (bs.map V.bl))) ps bss) :
    Paired (fun p bs => upd H D o p = some (.lst (bs.map V.bl))) (ps ++ [p]) (bss ++ [bs]) := by
  refine Paired.snoc ?_ (by rw [upd_ne hpD]; exact hp)
  clear hpD hp hD
  induction h with
  | nil => exact .nil
  | @cons b c l r h1 _ ih => exact .cons (by rw [upd_ne (hn b (List.mem_cons_self ..))]; exact h1) (ih fun b hb => hn b (List.mem_cons_of_mem _ hb))
/-- [_law_bases(one) for one in rows] -/
theorem lc_bases {CP CN l : Addr} {es : List Addr} {bss : List (List Bool)} (hl : H l = some (.lst (es.map V.ref))) (hE : ∀ (i : Nat) (a : Addr) (bs : List Bool), es[i]? = some a → bss[i]? = some bs → ∃ D, AnyErr H a D ∧ Kib K CP CN bs D) (hlen : es.length = bss.length) (hz : es.length ≤ 20)
    (hw : ∀ x, wipe ((wipe σ [7]).set 7 (some x)) [7] = wipe σ [7]) (h2 : ∀ x, ((wipe σ [7]).set 7 (some x))[7]? = some (some x))
    (hq : ∀ (D : Addr) (ps : List Addr) (H' : Hp), Same H H' → H' D = some (.lst (ps.map V.ref)) → Paired (fun p bs => H' p = some (.lst (bs.map V.bl))) ps bss → Q (.ref D) H') :
    lcB (Itl K l) (gName 7) tYes (tCall (spBas K CP CN) [] E0 (tCons (tVar 7) tNil)) [7] σ H Q := by
  intro D hD
  refine lc_it (walk_list (xs := es.map V.ref)) (fun i H' => Same H H' ∧ ∃ ps : List Addr, ps.length = i ∧ H' D = some (.lst (ps.map V.ref)) ∧ (∀ b ∈ ps, b ≠ D) ∧ Paired (fun p bs => H' p = some (.lst (bs.map V.bl))) ps (bss.take i))
    ⟨My.Same.new (Same.refl H) hD, [], rfl, upd_same, (fun b hb => nomatch hb), .nil⟩ (fun i H' _ h => SqL.of (h.1 _ _ hl)) ?_ ?_
  · rintro i x H' H2 hi ⟨sm, ps, hpl, hl1, hn, hpr⟩ ⟨rfl, hx⟩
    rw [List.getElem?_map] at hx
    obtain ⟨a, ha, rfl⟩ := Option.map_eq_some_iff.mp hx
    rw [List.length_map] at hi
    have hb : i < bss.length := by omega
    obtain ⟨DC, hA, hK⟩ := hE i a bss[i] ha (List.getElem?_eq_getElem hb)
    refine ⟨hw _, ?_⟩
    simp only [tYes, if_true]
    refine ⟨_, h2 _, a, DC, bss[i], rfl, hA.same sm, hK, fun p H3 np s3 hp => ?_⟩
    have hl3 := s3 _ _ hl1
    have npD : p ≠ D := Ne.symm (ne_of_none hl1 np)
    refine ⟨_, hl3, szl (by rw [List.length_map]; omega), My.Same.new (sm.trans s3) hD, ps ++ [p], by rw [List.length_append, hpl]; rfl, by rw [upd_same, List.map_append]; rfl, fun b hb => ?_, ?_⟩
    · rcases List.mem_append.mp hb with h | h
      · exact hn b h
      · rw [List.mem_singleton.mp h]; exact npD
    · rw [take_more (List.getElem?_eq_getElem hb)]
      exact bl_more (xs := ps.map V.ref) (by rw [List.map_id']; exact hl3) hn npD hp (Paired.mono (fun a b h => s3 _ _ h) hpr)
  · rintro H' ⟨sm, ps, _, hl1, _, hpr⟩
    rw [List.length_map, hlen, List.take_length] at hpr
    exact hq D ps H' sm hl1 hpr
end
end My

set_option Elab.async false
set_option linter.all false
set_option maxRecDepth 100000
set_option maxHeartbeats 4000000
namespace My
open PySem PySem.Spec PyProof.Rows L2
/-- what is drawn -/
def things : List PyData := [.none, .int 0, .int (-5), .int (10 ^ 30), .bool true, .str "", .str "word", .tuple [], .tuple [.str "a", .int 1], .list [], .list [.list [.int 2]], .dict [], .dict [(.str "m", .int 1)]]
theorem things_ok : ∀ d ∈ things, (PyData.list (List.replicate 16 d)).showable = true ∧ (PyData.list (List.replicate 16 d)).depth ≤ 6 ∧ (PyData.list (List.replicate 16 d)).shown.length ≤ 100000 := by decide +kernel
def Thing (K : PySem.W.Frag) (H : Hp) (v : V) : Prop := ∃ d ∈ things, Dq K H v d
theorem Thing.same {K : PySem.W.Frag} {H H' : Hp} {v : V} (s : Same H H') (h : Thing K H v) : Thing K H' v := let ⟨d, h1, h2⟩ := h; ⟨d, h1, h2.same s⟩
def bT : List Bool := [true, true, false, false, false]
def bO : List Bool := [false, false, true, false, false]
def bL : List Bool := [false, false, false, true, false]
def bss : List (List Bool) := List.replicate 14 bT ++ [bO, bL]
/-- the due list of lists -/
def BB (H : Hp) (a : Addr) (bs : List (List Bool)) : Prop := ∃ ps : List Addr, H a = some (.lst (ps.map V.ref)) ∧ Paired (fun p bs => H p = some (.lst (bs.map V.bl))) ps bs
theorem BB.same {H H' : Hp} {a : Addr} {bs : List (List Bool)} (s : Same H H') (h : BB H a bs) : BB H' a bs := let ⟨ps, h1, h2⟩ := h; ⟨ps, s _ _ h1, Paired.mono (fun _ _ h => s _ _ h) h2⟩
theorem BB.dp {K : PySem.W.Frag} {H : Hp} {a : Addr} {bs : List (List Bool)} (h : BB H a bs) : Dp K H (.ref a) (dBB bs) := let ⟨_, h1, h2⟩ := h; dp_bbs h1 h2
theorem sh_bss : SeqAt.shaped (dBB bss) = true := by decide +kernel
theorem eqv_bss : PyData.eqv (dBB bss) (dBB bss) = true := by decide +kernel
theorem dq_rep {K : PySem.W.Frag} {H : Hp} {v : V} {d : PyData} (h : Dq K H v d) : ∀ n, DqAll K H (List.replicate n v) (List.replicate n d)
  | 0 => .nil
  | n + 1 => .cons h (dq_rep h n)
section
variable {K : PySem.W.Frag} {H : Hp} {D : Ends} {tab : List (Addr × Str)} {CP CN rl du : Addr} {es cs : List Addr} {v : V} {w0 w1 w2 w3 w7 w8 w9 : Option V}
theorem es_len {H : Hp} {es : List Addr} {v : V} {tab : List (Addr × Str)} (h : Es H es v tab) : es.length = tab.length := Paired.length h
theorem es_at {H : Hp} {es : List Addr} {v : V} {tab : List (Addr × Str)} (h : Es H es v tab) : ∀ (i : Nat) (a : Addr), es[i]? = some a → ∃ c, tab[i]? = some c ∧ ErrAt H a c.1 c.2 v := by
  induction h with
  | nil => intro i a h; simp at h
  | @cons x y l r h _ ih =>
    intro i a e
    cases i with
    | zero => simp at e; subst e; exact ⟨y, rfl, h⟩
    | succ i => simpa using ih i a (by simpa using e)
/-- the if's test: never true -/
theorem rows_test (hl : H rl = some (.lst (es.map V.ref))) (hE : Es H es v tab) (hv : Thing K H v) (hdu : BB H du bss) (ht : tab.length = 16) (hk : ∀ (i : Nat) (c : Addr × Str) (bs : List Bool), tab[i]? = some c → bss[i]? = some bs → Kib K CP CN bs c.1)
    {R : Bool → Hp → Prop} (q : ∀ H', Same H H' → R false H') :
    tOr (tTest (tOp L2.rNe (tCB (rReprQ K) (tCons (tCall (spFld tab) [] E0 (tCons (tVar 6) tNil)) tNil)) (tCB (rReprQ K) (tCons (tOp rRep (tLst (tCons (tVar 4) tNil)) (tC (.int 16))) tNil))))
      (tTest (tOp (rNeD K) (tLc (iList K (tVar 6)) (gName 7) tYes (tCall (spBas K CP CN) [] E0 (tCons (tVar 7) tNil)) [7]) (tVar 5)))
      [w0, w1, w2, w3, some v, some (.ref du), some (.ref rl), w7, w8, w9] H R := by
  obtain ⟨d, hd, hq⟩ := hv
  obtain ⟨k1, k2, k3⟩ := things_ok d hd
  refine ⟨_, rfl, rl, es, v, rfl, hl, hE, fun p1 H1 s1 h1 => ?_⟩
  have d1 : Dq K H1 (.ref p1) (.list (List.replicate 16 d)) := .lst (SqL.of h1) (dq_rep (hq.same s1) 16)
  refine ⟨p1, _, rfl, d1, k1, k2, k3, _, rfl, sz (by exact (by decide : 1 ≤ 100000)), fun p2 hp2 => ⟨p2, 16, [v], rfl, rfl, upd_same, by decide, by decide, sz (by exact (by decide : 16 ≤ 100000)), fun p3 hp3 => ?_⟩⟩
  have s2 := My.Same.new (o := .lst [v]) (Same.refl H1) hp2
  have s3 := My.Same.new' (o := .lst (List.replicate (16 : Int).toNat [v]).flatten) s2 hp3
  have h3 : upd (upd H1 p2 (.lst [v])) p3 (.lst (List.replicate (16 : Int).toNat [v]).flatten) p3 = some (.lst (List.replicate 16 v)) := upd_same
  generalize upd (upd H1 p2 (.lst [v])) p3 (.lst (List.replicate (16 : Int).toNat [v]).flatten) = H3 at *
  have d3 : Dq K H3 (.ref p3) (.list (List.replicate 16 d)) := .lst (SqL.of h3) (dq_rep ((hq.same s1).same s3) 16)
  have sm := s1.trans s3
  refine ⟨p3, _, rfl, d3, k1, k2, k3, rfl, _, rfl, ?_⟩
  refine (if_neg (by simp) : (if (!decide (V.str (PyData.list (List.replicate 16 d)).shown = V.str (PyData.list (List.replicate 16 d)).shown)) = true then R true H3 else _) = _).mpr ?_
  refine ⟨_, rfl, rl, rfl, ⟨_, SqL.of (sm _ _ hl)⟩, ?_⟩
  have hlen : es.length = bss.length := by rw [es_len hE, ht]; rfl
  show lcB (Itl K rl) (gName 7) tYes (tCall (spBas K CP CN) [] E0 (tCons (tVar 7) tNil)) [7] [w0, w1, w2, w3, some v, some (V.ref du), some (V.ref rl), w7, w8, w9] H3 (fun x H1 => tVar 5 [w0, w1, w2, w3, some v, some (V.ref du), some (V.ref rl), w7, w8, w9] H1 fun y H2 => rNeD K x y H2 fun x H' => ∃ k, x = V.bl k ∧ R k H')
  refine lc_bases (σ := [w0, w1, w2, w3, some v, some (.ref du), some (.ref rl), w7, w8, w9]) (CP := CP) (CN := CN) (bss := bss) (sm _ _ hl) (fun i a bs e1 e2 => ?_) hlen (by rw [es_len hE, ht]; decide) (fun _ => rfl) (fun _ => rfl) fun DD ps H4 s4 h4 hp4 => ?_
  · obtain ⟨c, e3, e4⟩ := es_at hE i a e1
    exact ⟨c.1, (Or.inl ⟨_, _, e4.same sm⟩), hk i c bs e3 e2⟩
  · have b4 : BB H4 DD bss := ⟨ps, h4, hp4⟩
    have b5 := hdu.same (sm.trans s4)
    refine ⟨_, rfl, dBB bss, dBB bss, b4.dp, b5.dp, sh_bss, sh_bss, _, rfl, ?_⟩
    rw [eqv_bss]
    exact q H4 (sm.trans s4)
/-- the loop over the rows -/
theorem rows_loop (hl : H rl = some (.lst (es.map V.ref))) (hE : Es H es v tab) (ht : tab.length = 16) (hcs : cs = tab.map (·.1)) (hn : cs.Nodup) (hk : ∀ c ∈ cs, Kit K cs c) (w4 w5 : Option V) (tb : TS)
    (q : ∀ w7 w8 w9 H', Same H H' → D.nx [w0, w1, w2, w3, w4, w5, some (.ref rl), w7, w8, w9] H') :
    tFor (iEnum K (tCons (tVar 6) tNil)) (gTup K 2 (gCons (gName 8) (gCons (gName 7) gNil)))
      (tIfS (tTest (tOp (rNeD K) (tCall (spKnd K cs) [] E0 (tCons (tVar 7) tNil)) (tLc (iRng1 (tCons (tC (.int 16)) tNil)) (gName 9) tYes (tOp L2.rEq (tVar 9) (tVar 8)) [9]))) tb tNext)
      D [w0, w1, w2, w3, w4, w5, some (.ref rl), w7, w8, w9] H := by
  refine ⟨_, rfl, rl, _, rfl, SqL.of hl, ?_⟩
  refine for_it (walk_enum (xs := es.map V.ref)) (fun i σ H' => Same H H' ∧ ∃ w7 w8 w9, σ = [w0, w1, w2, w3, w4, w5, some (.ref rl), w7, w8, w9]) ⟨Same.refl H, _, _, _, rfl⟩ (fun i σ H' _ h => SqL.of (h.1 _ _ hl)) ?_ ?_
  · rintro i x _ H' H2 hi ⟨sm, w7, w8, w9, rfl⟩ ⟨T, x0, y0, rfl, hT, rfl, e1, e2⟩
    have e2' : (es.map V.ref)[i]? = some y0 := e2
    rw [List.getElem?_map] at e2'
    obtain ⟨a, ha, rfl⟩ := Option.map_eq_some_iff.mp e2'
    obtain rfl : V.int (i : Nat) = x0 := Option.some.inj e1
    obtain ⟨c, hc, hA⟩ := es_at hE i a ha
    have hi16 : i < 16 := by
      have := (List.getElem?_eq_some_iff.mp hc).1
      omega
    have s1 := My.Same.new' (o := .tup [.int (i : Nat), .ref a]) sm hT
    have hT1 : upd H' T (.tup [.int (i : Nat), .ref a]) T = some (.tup [.int (i : Nat), .ref a]) := upd_same
    generalize upd H' T (.tup [.int (i : Nat), .ref a]) = H1 at *
    refine ⟨T, [.int (i : Nat), .ref a], rfl, SqT.of hT1, rfl, _, _, rfl, _, _, rfl, rfl, ?_⟩
    have hci : cs[i]? = some c.1 := by rw [hcs, List.getElem?_map, hc]; rfl
    have hcl : cs.length = 16 := by rw [hcs, List.length_map, ht]
    refine ⟨_, rfl, a, c.1, rfl, Or.inl ⟨_, _, hA.same s1⟩, hk _ (List.mem_of_getElem? hci), fun p H3 np s3 hp => ?_⟩
    refine ⟨16, rfl, by decide, by decide, fun LD hLD => ?_⟩
    refine lc_it (walk_range (lo := 0) (n := 16)) (fun j H' => Same H3 H' ∧ H' LD = some (.lst (((List.range 16).take j).map fun j => V.bl (decide (j = i))))) ⟨My.Same.new (Same.refl H3) hLD, upd_same⟩ (fun _ _ _ _ => trivial) ?_ ?_
    · rintro j x H4 H5 hj ⟨s4, h4⟩ ⟨rfl, rfl⟩
      refine ⟨rfl, ?_⟩
      simp only [tYes, if_true]
      refine ⟨_, rfl, _, rfl, rfl, _, h4, szl (by rw [List.length_map, List.length_take]; omega), My.Same.new s4 hLD, ?_⟩
      rw [upd_same]
      have e3 : (List.range 16)[j]? = some j := by simp [hj]
      rw [take_more e3, List.map_append]
      have e4 : decide (V.int ((0 : Int) + (j : Int)) = V.int (i : Int)) = decide (j = i) := by
        by_cases z : j = i
        · subst z; simp
        · rw [decide_eq_false z]
          refine decide_eq_false fun y => z ?_
          have := V.int.inj y
          omega
      show some (HO.lst (_ ++ [V.bl (decide (V.int ((0 : Int) + (j : Int)) = V.int (i : Int)))])) = _
      rw [e4]
      rfl
    · rintro H4 ⟨s4, h4⟩
      have eb : cs.map (fun c' => V.bl (decide (c.1 = c'))) = ((List.range 16).map fun j => decide (j = i)).map V.bl := by
        rw [List.map_map]
        refine List.ext_getElem (by simp [hcl]) fun j h1 h2 => ?_
        simp only [List.getElem_map, List.getElem_range, Function.comp]
        congr 1
        have hj : j < cs.length := by simpa using h1
        have hic : cs[i]'(by omega) = c.1 := by
          have := List.getElem?_eq_getElem (l := cs) (i := i) (by omega)
          rw [hci] at this
          exact (Option.some.inj this).symm
        by_cases z : j = i
        · subst z; rw [hic]; simp
        · rw [decide_eq_false z]
          refine decide_eq_false fun y => z ?_
          have y2 : cs[i]'(by omega) = cs[j] := hic.trans y
          have hp := List.pairwise_iff_getElem.mp hn
          rcases Nat.lt_or_gt_of_ne z with h | h
          · exact absurd y2.symm (hp j i hj (by omega) h)
          · exact absurd y2 (hp i j (by omega) hj h)
      have h5 := s4 _ _ hp
      rw [eb] at h5
      have h6 : H4 LD = some (.lst (((List.range 16).map fun j => decide (j = i)).map V.bl)) := by
        rw [h4, List.map_map]; rfl
      refine ⟨_, _, dp_bls h5, dp_bls h6, sh_bls _, sh_bls _, _, rfl, ?_⟩
      rw [eqv_bls]
      exact iteF ⟨(s1.trans s3).trans s4, _, _, _, rfl⟩
  · rintro _ H' ⟨sm, w7, w8, w9, rfl⟩
    exact q w7 w8 w9 H' sm
end
end My

set_option Elab.async false
set_option linter.all false
set_option maxRecDepth 100000
set_option maxHeartbeats 4000000
namespace My
open PySem PySem.Spec PyProof.Rows L2

theorem step_if {tt : TT} {x y : TS} {D : Ends} {σ : L2.St} {H : Hp} (h : tt σ H fun c H1 => if c = true then x D σ H1 else y D σ H1) : tIfS tt x y D σ H := h
theorem But.same {p : Addr} {H H1 H2 : Hp} (s : Same H H1) (n : H p = none) (b : But p H1 H2) : Same H H2 := fun a u h => b a u (ne_of_none h n) (s a u h)
theorem Pool.same {H H1 : Hp} {p : Addr} (s : Same H H1) (h : Pool H p) : Pool H1 p := let ⟨x, y, h1, h2⟩ := h; ⟨x, y, s _ _ h1, h2⟩
theorem Paired.rep {α β : Type} {R : α → β → Prop} {x : α} {y : β} (h : R x y) : ∀ n, Paired R (List.replicate n x) (List.replicate n y)
  | 0 => .nil
  | n + 1 => .cons h (Paired.rep h n)
theorem Paired.app {α β : Type} {R : α → β → Prop} {a c : List α} {b d : List β} (h : Paired R a b) (k : Paired R c d) : Paired R (a ++ c) (b ++ d) := by
  induction h with
  | nil => exact k
  | cons h _ ih => exact .cons h ih
abbrev sLaw : Stmt := topI 28
abbrev NLaw : List Str := ["script", "k", "pool", "menu", "thing", "due", "rows", "one", "at", "where"]
theorem scLaw : FnScope NLaw ["script"] (defScope sLaw) := ⟨rfl, rfl, rfl, by decide +kernel, rfl, by decide +kernel, by decide +kernel⟩
/-- all that the law calls -/
structure Lw (P : Program) (w : World) (K : PySem.W.Frag) (mg : Str → Option Value) (base : Heap) where
  B : Bn mg
  T : Er P w K mg base
  D_made : Df K mg "_law_made_errors" sMade ["thing"]
  D_named : Df K mg "_law_named_errors" sNamed ["thing"]
  D_fields : Df K mg "_law_fields" sFld ["rows"]
  D_kinds : Df K mg "_law_kinds" sKnd ["one"]
  D_bases : Df K mg "_law_bases" sBas ["one"]
  D_opened : Df K mg "_law_opened" sOpn ["script", "k"]
  D_pick : Df K mg "_law_pick" sPck ["pool", "some"]
  G_made : FnOk P w K mg base CX0 3 D_made.f D_made.fd ["thing"] (spMade T.tab)
  G_named : FnOk P w K mg base CX0 3 D_named.f D_named.fd ["thing"] (spMade T.tab)
  G_fields : FnOk P w K mg base CX0 1 D_fields.f D_fields.fd ["rows"] (spFld T.tab)
  G_kinds : FnOk P w K mg base CX0 1 D_kinds.f D_kinds.fd ["one"] (spKnd K T.cs)
  G_bases : FnOk P w K mg base CX0 1 D_bases.f D_bases.fd ["one"] (spBas K T.CP T.CN)
  G_opened : FnOk P w K mg base CX0 1 D_opened.f D_opened.fd ["script", "k"] (spOpn K)
  G_pick : FnOk P w K mg base CX0 2 D_pick.f D_pick.fd ["pool", "some"] spPck
  kit : ∀ c ∈ T.cs, Kit K T.cs c
  nod : T.cs.Nodup
  kib : ∀ (i : Nat) (c : Addr) (bs : List Bool), T.cs[i]? = some c → bss[i]? = some bs → Kib K T.CP T.CN bs c
  kbN : Kib K T.CP T.CN [false, false, false, true, true] T.CN
  kbP : Kib K T.CP T.CN [true, true, false, false, false] T.CP
def spLaw (K : PySem.W.Frag) : Sp := fun vs H Q _ => ∃ (a : Addr) (ns : List Int), vs = [.ref a] ∧ SqL K H a (ns.map V.int) ∧ ns.length ≤ 63 ∧ ∀ H', Q (.bl true) H'
section
variable {P : Program} {w : World} {K : PySem.W.Frag} {mg : Str → Option Value} {base : Heap}
theorem ok_law {f : Addr} {fd : FuncData} (F : Fun K "law" "law" sLaw f fd) (L : Lw P w K mg base) : AtTop P w K mg base f fd ["script"] (spLaw K) := by
  refine top_ok (k := 3) F scLaw ⟨rfl, by decide, by decide⟩ (fun vs H Q E h => ?_) (fun cdv s H vs Q E hr h => ?_)
  · obtain ⟨a, ns, rfl, _⟩ := h
    rfl
  obtain ⟨a, ns, rfl, hS, hn, q⟩ := h
  have B := L.B
  have hu64 := hr.units
  have hgu : (callerA.deeper (envOfC "law" (defScope sLaw) s.heap.objs.size f cdv)).guards = some [] := rfl
  have hr3 := hr
  have hr2 := hr.mono (by decide : 2 ≤ 3)
  have hr1 := hr.mono (by decide : 1 ≤ 3)
  refine ⟨_, (pss_cons (ps_for PassesOwn.never rfl (pi_range1 (by rfl) B.range (pa_cons (pe_callB (call_max2 rfl) (by rfl) B.max (by decide +kernel) (pa_cons pe_int (pa_cons (pe_callB (call_min2 rfl) (by rfl) B.min (by decide +kernel) (pa_cons (pe_callB call_lenSq (by rfl) B.len (by decide +kernel) (pa_cons (pv 0) pa_nil)) (pa_cons pe_int pa_nil))) pa_nil))) pa_nil)) (pg_name (i := 1) scLaw.nd rfl (Or.inl rfl))
        (pss_cons (ps_set (i := 2) scLaw.nd rfl (Or.inl rfl) (pc L.D_opened L.G_opened hr1 (pa_cons (pv 0) (pa_cons (pv 1) pa_nil))))
        (pss_cons (ps_set (i := 3) scLaw.nd rfl (Or.inl rfl) (pe_lst (pa_cons pe_non (pa_cons pe_int (pa_cons (pe_un un_neg pe_int) (pa_cons (pe_op op_pow pe_int pe_int) (pa_cons pe_bl (pa_cons pe_str (pa_cons pe_str (pa_cons (pe_tup pa_nil) (pa_cons (pe_tup (pa_cons pe_str (pa_cons pe_int pa_nil))) (pa_cons (pe_lst pa_nil) (pa_cons (pe_lst (pa_cons (pe_lst (pa_cons pe_int pa_nil)) pa_nil)) (pa_cons pe_dnewK (pa_cons (pe_disp (pps_cons pe_str pe_int pps_nil) (by rfl) (by rfl) (fun z => by cases z) (by decide)) pa_nil)))))))))))))))
        (pss_cons (ps_set (i := 4) scLaw.nd rfl (Or.inl rfl) (pc L.D_pick L.G_pick hr2 (pa_cons (pv 2) (pa_cons (pv 3) pa_nil))))
        (pss_cons (ps_set (i := 5) scLaw.nd rfl (Or.inl rfl) (pe_op op_rep (pe_lst (pa_cons (pe_lst (pa_cons pe_bl (pa_cons pe_bl (pa_cons pe_bl (pa_cons pe_bl (pa_cons pe_bl pa_nil)))))) pa_nil)) pe_int))
        (pss_cons (ps_set (i := 5) scLaw.nd rfl (Or.inl rfl) (pe_op op_cat (pv 5) (pe_lst (pa_cons (pe_lst (pa_cons pe_bl (pa_cons pe_bl (pa_cons pe_bl (pa_cons pe_bl (pa_cons pe_bl pa_nil)))))) (pa_cons (pe_lst (pa_cons pe_bl (pa_cons pe_bl (pa_cons pe_bl (pa_cons pe_bl (pa_cons pe_bl pa_nil)))))) pa_nil)))))
        (pss_cons (ps_for PassesOwn.never rfl (pi_list (pe_lst (pa_cons (pc L.D_made L.G_made hr3 (pa_cons (pv 4) pa_nil)) (pa_cons (pc L.D_named L.G_named hr3 (pa_cons (pv 4) pa_nil)) pa_nil)))) (pg_name (i := 6) scLaw.nd rfl (Or.inl rfl))
          (pss_cons (ps_if (PW.pt (pw_or (pt_cmpR op_ne (pe_callB (call_reprQ hgu hu64) (by rfl) B.repr (by decide +kernel) (pa_cons (pc L.D_fields L.G_fields hr1 (pa_cons (pv 6) pa_nil)) pa_nil)) (pe_callB (call_reprQ hgu hu64) (by rfl) B.repr (by decide +kernel) (pa_cons (pe_op op_rep (pe_lst (pa_cons (pv 4) pa_nil)) pe_int) pa_nil)) (nomark _)) (pw_or1 (pt_cmpR (op_neD hu64) (pe_lc (own := [("one", 7)]) (g := gName 7) rfl scLaw.nd (pi_list (pv 6)) (blkOk_by (own := [("one", 7)]) (N := NLaw) (sc := defScope sLaw) (by decide +kernel)) (fun _ _ _ _ _ => pg_name (i := 7) scLaw.nd rfl (Or.inl rfl)) (fun _ _ _ _ _ => pts_nil) (fun _ _ _ _ _ => (pc L.D_bases L.G_bases hr1 (pa_cons (pv 7) pa_nil)))) (pv 5) (nomark _)))))
            (pss_one (ps_ret pe_bl))
            pss_nil)
          (pss_one (ps_for PassesOwn.never rfl (pi_enum (by rfl) B.enumerate (pa_cons (pv 6) pa_nil)) (pg_tup rfl (pgs_cons (pg_name (i := 8) scLaw.nd rfl (Or.inr rfl)) (pgs_cons (pg_name (i := 7) scLaw.nd rfl (Or.inl rfl)) pgs_nil)))
            (pss_one (ps_if (pt_cmpR (op_neD hu64) (pc L.D_kinds L.G_kinds hr1 (pa_cons (pv 7) pa_nil)) (pe_lc (own := [("where", 9)]) (g := gName 9) rfl scLaw.nd (pi_range1 (by rfl) B.range (pa_cons pe_int pa_nil)) (blkOk_by (own := [("where", 9)]) (N := NLaw) (sc := defScope sLaw) (by decide +kernel)) (fun _ _ _ _ _ => pg_name (i := 9) scLaw.nd rfl (Or.inl rfl)) (fun _ _ _ _ _ => pts_nil) (fun _ _ _ _ _ => (pe_cmpR op_eq (pv 9) (pv 8) (nomark _)))) (nomark _))
              (pss_one (ps_ret pe_bl))
              pss_nil))))))
        (pss_cons (ps_if (pt_cmpR (op_neD hu64) (pc L.D_bases L.G_bases hr1 (pa_cons (pe_exc0 PySem.F.excBase_LookupError L.T.eN L.T.nNothingLeft L.T.kN rfl) pa_nil)) (pe_lst (pa_cons pe_bl (pa_cons pe_bl (pa_cons pe_bl (pa_cons pe_bl (pa_cons pe_bl pa_nil)))))) (nomark _))
          (pss_one (ps_ret pe_bl))
          pss_nil)
        (pss_one (ps_if (pt_cmpR (op_neD hu64) (pc L.D_bases L.G_bases hr1 (pa_cons (pe_exc1 PySem.F.excBase_ValueError L.T.eP L.T.nPileError L.T.kP rfl pe_str) pa_nil)) (pe_lst (pa_cons pe_bl (pa_cons pe_bl (pa_cons pe_bl (pa_cons pe_bl (pa_cons pe_bl pa_nil)))))) (nomark _))
          (pss_one (ps_ret pe_bl))
          pss_nil))))))))))
      (pss_one (ps_ret pe_bl))), ?_⟩
  refine step_seq ?_
  have hL : ((ns.map V.int).length : Int) = (ns.length : Int) := by rw [List.length_map]
  generalize hL2 : ((ns.map V.int).length : Int) = len at hL
  refine for_r1 (m := if (if (3 : Int) < len then 3 else len) > 1 then (if (3 : Int) < len then 3 else len) else 1) ?_ (fun Q q => ?_) (fun i σ' H' => ∃ w1 w2 w3 w4 w5 w6 w7 w8 w9 : Option V, σ' = [some (.ref a), w1, w2, w3, w4, w5, w6, w7, w8, w9] ∧ Same H H')
    ⟨_, _, _, _, _, _, _, _, _, rfl, Same.refl H⟩ ?_ ?_
  · split <;> split <;> omega
  · subst hL2
    exact ⟨_, rfl, a, rfl, _, hS, _, 3, rfl, 1, _, rfl, q⟩
  · rintro i _ H' hi ⟨w1, w2, w3, w4, w5, w6, w7, w8, w9, rfl, sm⟩
    have hi' : i < 4 := by
      split at hi <;> (try split at hi) <;> omega
    refine step_asg ⟨_, rfl, _, rfl, a, ns, (i : Int), rfl, sm.seq hS, Int.natCast_nonneg i, by omega, fun p H1 hp s1 pp => ?_⟩
    refine step_asg ?_
    refine ⟨_, rfl, ?_⟩
    refine ⟨_, _, rfl, rfl, ⟨by decide, by decide, by decide⟩, ?_⟩
    refine ⟨sz (by simp), fun t1 ht1 => ?_⟩
    have nt1 := My.Same.new (o := .tup []) (Same.refl H1) ht1
    have lt1 : upd H1 t1 (.tup []) t1 = some (.tup []) := upd_same
    generalize upd H1 t1 (.tup []) = F1 at *
    refine ⟨sz (by simp), fun t2 ht2 => ?_⟩
    have nt2 := My.Same.new (o := .tup [.str "a", .int 1]) (Same.refl F1) ht2
    have lt2 : upd F1 t2 (.tup [.str "a", .int 1]) t2 = some (.tup [.str "a", .int 1]) := upd_same
    generalize upd F1 t2 (.tup [.str "a", .int 1]) = F2 at *
    refine ⟨sz (by simp), fun l1 hl1 => ?_⟩
    have nl1 := My.Same.new (o := .lst []) (Same.refl F2) hl1
    have ll1 : upd F2 l1 (.lst []) l1 = some (.lst []) := upd_same
    generalize upd F2 l1 (.lst []) = F3 at *
    refine ⟨sz (by simp), fun l2 hl2 => ?_⟩
    have nl2 := My.Same.new (o := .lst [.int 2]) (Same.refl F3) hl2
    have ll2 : upd F3 l2 (.lst [.int 2]) l2 = some (.lst [.int 2]) := upd_same
    generalize upd F3 l2 (.lst [.int 2]) = F4 at *
    refine ⟨sz (by simp), fun l3 hl3 => ?_⟩
    have nl3 := My.Same.new (o := .lst [.ref l2]) (Same.refl F4) hl3
    have ll3 : upd F4 l3 (.lst [.ref l2]) l3 = some (.lst [.ref l2]) := upd_same
    generalize upd F4 l3 (.lst [.ref l2]) = F5 at *
    refine fun d1 hd1 => ?_
    have nd1 := My.Same.new (o := .dK []) (Same.refl F5) hd1
    have ld1 : upd F5 d1 (.dK []) d1 = some (.dK []) := upd_same
    generalize upd F5 d1 (.dK []) = F6 at *
    refine fun d2 hd2 => ⟨upd_same, [(Sum.inr "m", .int 1)], rfl, by decide, ?_⟩
    rw [upd_upd]
    have nd2 := My.Same.new (o := .dK (mergeK [] [(Sum.inr "m", V.int 1)])) (Same.refl F6) hd2
    have ld2 : upd F6 d2 (.dK (mergeK [] [(Sum.inr "m", V.int 1)])) d2 = some (.dK [(Sum.inr "m", V.int 1)]) := upd_same
    generalize upd F6 d2 (.dK (mergeK [] [(Sum.inr "m", V.int 1)])) = F7 at *
    refine ⟨sz (by exact (by decide : 13 ≤ 100000)), fun mn hmn => ?_⟩
    have nmn := My.Same.new (o := .lst [.non, .int 0, .int (-5), .int (10 ^ Int.toNat 30), .bl true, .str "", .str "word", .ref t1, .ref t2, .ref l1, .ref l3, .ref d1, .ref d2]) (Same.refl F7) hmn
    have lmn : upd F7 mn (.lst [.non, .int 0, .int (-5), .int (10 ^ Int.toNat 30), .bl true, .str "", .str "word", .ref t1, .ref t2, .ref l1, .ref l3, .ref d1, .ref d2]) mn = some (.lst [.non, .int 0, .int (-5), .int (10 ^ Int.toNat 30), .bl true, .str "", .str "word", .ref t1, .ref t2, .ref l1, .ref l3, .ref d1, .ref d2]) := upd_same
    generalize upd F7 mn (.lst [.non, .int 0, .int (-5), .int (10 ^ Int.toNat 30), .bl true, .str "", .str "word", .ref t1, .ref t2, .ref l1, .ref l3, .ref d1, .ref d2]) = F8 at *
    have z7 := nmn
    have z6 := nd2.trans z7
    have z5 := nd1.trans z6
    have z4 := nl3.trans z5
    have z3 := nl2.trans z4
    have z2 := nl1.trans z3
    have z1 := nt2.trans z2
    have z0 := nt1.trans z1
    have pp8 := pp.same z0
    obtain ⟨pa, pb, pl, pb0, pb1⟩ := pp8
    refine step_asg ⟨_, rfl, _, rfl, p, mn, _, rfl, ⟨pa, pb, pl, pb0, pb1⟩, ne_of lmn pl (by intro z; cases z), lmn, by simp, by exact (by decide : 13 ≤ 1000), fun v H9 bt hv => ?_⟩
    have s9 : Same H' H9 := But.same (s1.trans z0) hp bt
    have hth : Thing K H9 v := by
      have e1 := bt _ _ (ne_of (z1 _ _ lt1) pl (by intro z; cases z)) (z1 _ _ lt1)
      have e2 := bt _ _ (ne_of (z2 _ _ lt2) pl (by intro z; cases z)) (z2 _ _ lt2)
      have e3 := bt _ _ (ne_of (z3 _ _ ll1) pl (by intro z; cases z)) (z3 _ _ ll1)
      have e4 := bt _ _ (ne_of (z4 _ _ ll2) pl (by intro z; cases z)) (z4 _ _ ll2)
      have e5 := bt _ _ (ne_of (z5 _ _ ll3) pl (by intro z; cases z)) (z5 _ _ ll3)
      have e6 := bt _ _ (ne_of (z6 _ _ ld1) pl (by intro z; cases z)) (z6 _ _ ld1)
      have e7 := bt _ _ (ne_of (z7 _ _ ld2) pl (by intro z; cases z)) (z7 _ _ ld2)
      simp only [List.mem_cons, List.not_mem_nil, or_false] at hv
      rcases hv with rfl | rfl | rfl | rfl | rfl | rfl | rfl | rfl | rfl | rfl | rfl | rfl | rfl
      · exact ⟨.none, by simp [things], .non⟩
      · exact ⟨.int 0, by simp [things], .int _⟩
      · exact ⟨.int (-5), by simp [things], .int _⟩
      · exact ⟨.int (10 ^ 30), by simp [things], .int _⟩
      · exact ⟨.bool true, by simp [things], .bl _⟩
      · exact ⟨.str "", by simp [things], .str _⟩
      · exact ⟨.str "word", by simp [things], .str _⟩
      · exact ⟨.tuple [], by simp [things], .tup (SqT.of e1) .nil⟩
      · exact ⟨.tuple [.str "a", .int 1], by simp [things], .tup (SqT.of e2) (.cons (.str _) (.cons (.int _) .nil))⟩
      · exact ⟨.list [], by simp [things], .lst (SqL.of e3) .nil⟩
      · exact ⟨.list [.list [.int 2]], by simp [things], .lst (SqL.of e5) (.cons (.lst (SqL.of e4) (.cons (.int _) .nil)) .nil)⟩
      · exact ⟨.dict [], by simp [things], .dic e6 .nil⟩
      · exact ⟨.dict [(.str "m", .int 1)], by simp [things], .dic e7 (.cons (k := Sum.inr "m") (.int _) .nil)⟩
    clear bt hv z0 z1 z2 z3 z4 z5 z6 z7 nt1 nt2 nl1 nl2 nl3 nd1 nd2 nmn lt1 lt2 ll1 ll2 ll3 ld1 ld2 lmn pl
    refine step_asg ?_
    refine ⟨sz (by simp), fun b1 hb1 => ?_⟩
    have nb1 := My.Same.new (o := .lst [.bl true, .bl true, .bl false, .bl false, .bl false]) (Same.refl H9) hb1
    have lb1 : upd H9 b1 (.lst [.bl true, .bl true, .bl false, .bl false, .bl false]) b1 = some (.lst [.bl true, .bl true, .bl false, .bl false, .bl false]) := upd_same
    generalize upd H9 b1 (.lst [.bl true, .bl true, .bl false, .bl false, .bl false]) = G1 at *
    refine ⟨sz (by simp), fun o1 ho1 => ?_⟩
    have no1 := My.Same.new (o := .lst [.ref b1]) (Same.refl G1) ho1
    have lo1 : upd G1 o1 (.lst [.ref b1]) o1 = some (.lst [.ref b1]) := upd_same
    generalize upd G1 o1 (.lst [.ref b1]) = G2 at *
    refine ⟨o1, 14, [.ref b1], rfl, rfl, lo1, by decide, by decide, sz (by exact (by decide : 14 ≤ 100000)), fun o2 ho2 => ?_⟩
    have no2 := My.Same.new (o := .lst (List.replicate (14 : Int).toNat [V.ref b1]).flatten) (Same.refl G2) ho2
    have lo2 : upd G2 o2 (.lst (List.replicate (14 : Int).toNat [V.ref b1]).flatten) o2 = some (.lst ((List.replicate 14 b1).map V.ref)) := upd_same
    generalize upd G2 o2 (.lst (List.replicate (14 : Int).toNat [V.ref b1]).flatten) = G3 at *
    refine step_asg ⟨_, rfl, ?_⟩
    refine ⟨sz (by simp), fun b2 hb2 => ?_⟩
    have nb2 := My.Same.new (o := .lst [.bl false, .bl false, .bl true, .bl false, .bl false]) (Same.refl G3) hb2
    have lb2 : upd G3 b2 (.lst [.bl false, .bl false, .bl true, .bl false, .bl false]) b2 = some (.lst [.bl false, .bl false, .bl true, .bl false, .bl false]) := upd_same
    generalize upd G3 b2 (.lst [.bl false, .bl false, .bl true, .bl false, .bl false]) = G4 at *
    refine ⟨sz (by simp), fun b3 hb3 => ?_⟩
    have nb3 := My.Same.new (o := .lst [.bl false, .bl false, .bl false, .bl true, .bl false]) (Same.refl G4) hb3
    have lb3 : upd G4 b3 (.lst [.bl false, .bl false, .bl false, .bl true, .bl false]) b3 = some (.lst [.bl false, .bl false, .bl false, .bl true, .bl false]) := upd_same
    generalize upd G4 b3 (.lst [.bl false, .bl false, .bl false, .bl true, .bl false]) = G5 at *
    refine ⟨sz (by simp), fun o3 ho3 => ?_⟩
    have no3 := My.Same.new (o := .lst [.ref b2, .ref b3]) (Same.refl G5) ho3
    have lo3 : upd G5 o3 (.lst [.ref b2, .ref b3]) o3 = some (.lst [.ref b2, .ref b3]) := upd_same
    generalize upd G5 o3 (.lst [.ref b2, .ref b3]) = G6 at *
    refine ⟨o2, o3, _, _, rfl, rfl, ((nb2.trans nb3).trans no3) _ _ lo2, lo3, sz (by exact (by decide : 16 ≤ 100000)), fun du hdu => ?_⟩
    have ndu := My.Same.new (o := .lst ((List.replicate 14 b1).map V.ref ++ [.ref b2, .ref b3])) (Same.refl G6) hdu
    have ldu : upd G6 du (.lst ((List.replicate 14 b1).map V.ref ++ [.ref b2, .ref b3])) du = some (.lst ((List.replicate 14 b1 ++ [b2, b3]).map V.ref)) := upd_same
    generalize upd G6 du (.lst ((List.replicate 14 b1).map V.ref ++ [.ref b2, .ref b3])) = G7 at *
    have y6 := no3.trans ndu
    have y5 := nb3.trans y6
    have y4 := nb2.trans y5
    have y1 := (no1.trans no2).trans y4
    have y0 := nb1.trans y1
    have hbb : BB G7 du bss := ⟨List.replicate 14 b1 ++ [b2, b3], ldu, My.Paired.app (My.Paired.rep (R := fun p (bs : List Bool) => G7 p = some (.lst (bs.map V.bl))) (y := bT) (y1 _ _ lb1) 14) (.cons (y5 _ _ lb2) (.cons (y6 _ _ lb3) .nil))⟩
    have hth7 := hth.same y0
    have s7 := s9.trans y0
    refine step_seq ?_
    refine ⟨_, rfl, v, rfl, fun r1 H10 es1 s10 h10 E1 => ⟨_, rfl, v, rfl, fun r2 H11 es2 s11 h11 E2 => ⟨sz (by simp), fun rr hrr => ?_⟩⟩⟩
    have nrr := My.Same.new (o := .lst [.ref r1, .ref r2]) (Same.refl H11) hrr
    have lrr : upd H11 rr (.lst [.ref r1, .ref r2]) rr = some (.lst [.ref r1, .ref r2]) := upd_same
    generalize upd H11 rr (.lst [.ref r1, .ref r2]) = H12 at *
    have x10 := s11.trans nrr
    have x7 := s10.trans x10
    have hbb12 := hbb.same x7
    have hth12 := hth7.same x7
    have hrows : ∀ (j : Nat) (x : V), [V.ref r1, V.ref r2][j]? = some x → ∃ (rl : Addr) (es : List Addr), x = .ref rl ∧ H12 rl = some (.lst (es.map V.ref)) ∧ Es H12 es v L.T.tab := by
      intro j x e
      match j, e with
      | 0, e => exact ⟨r1, es1, (Option.some.inj e).symm, x10 _ _ h10, E1.same x10⟩
      | 1, e => exact ⟨r2, es2, (Option.some.inj e).symm, nrr _ _ h11, E2.same nrr⟩
      | j + 2, e => cases e
    refine ⟨rr, rfl, ⟨_, SqL.of lrr⟩, for_it (walk_list (xs := [V.ref r1, V.ref r2])) (fun j σ' H' => Same H12 H' ∧ ∃ w6 w7 w8 w9, σ' = [some (V.ref a), some (V.int (i : Int)), some (V.ref p), some (V.ref mn), some v, some (V.ref du), w6, w7, w8, w9]) ⟨Same.refl _, _, _, _, _, rfl⟩ (fun _ _ _ _ h => SqL.of (h.1 _ _ lrr)) ?_ ?_⟩
    · rintro j x _ H13 H14 hj ⟨s13, w6, w7, w8, w9, rfl⟩ ⟨rfl, hx⟩
      obtain ⟨rl, es, rfl, hl, hE⟩ := hrows j x hx
      refine step_seq (step_if ?_)
      refine rows_test (CP := L.T.CP) (CN := L.T.CN) (s13 _ _ hl) (hE.same s13) (hth12.same s13) (hbb12.same s13) rfl (fun i c bs h1 h2 => L.kib i c.1 bs (by show (L.T.tab.map (·.1))[i]? = _; rw [List.getElem?_map, h1]; rfl) h2) fun H15 s15 => iteF ?_
      have s15' := s13.trans s15
      exact rows_loop (s15' _ _ hl) (hE.same s15') rfl rfl L.nod L.kit _ _ _ fun w7 w8 w9 H16 s16 => ⟨s15'.trans s16, _, _, _, _, rfl⟩
    · rintro _ H13 ⟨s13, w6, w7, w8, w9, rfl⟩
      have s0 : Same H H13 := ((sm.trans s7).trans x7).trans s13
      dsimp only
      refine step_seq (step_if ?_)
      refine fun e he => ⟨e, L.T.CN, _, rfl, Or.inr upd_same, L.kbN, fun k1 H14 _ s14 h14 => ⟨sz (by simp), fun k2 hk2 => ?_⟩⟩
      have n14 := (My.Same.new (o := ExO (.ref L.T.CN) e) (Same.refl H13) he).trans s14
      have m14 := My.Same.new (o := .lst [.bl false, .bl false, .bl false, .bl true, .bl true]) (Same.refl H14) hk2
      refine ⟨_, _, dp_bls (bs := [false, false, false, true, true]) (m14 _ _ h14), dp_bls (bs := [false, false, false, true, true]) upd_same, sh_bls _, sh_bls _, _, rfl, ?_⟩
      rw [eqv_bls]
      refine iteF ?_
      generalize upd H14 k2 (.lst [.bl false, .bl false, .bl false, .bl true, .bl true]) = H15 at *
      rw [rd_next]
      dsimp only
      refine step_if ?_
      refine fun e he => ⟨e, L.T.CP, _, rfl, Or.inr upd_same, L.kbP, fun k3 H16 _ s16 h16 => ⟨sz (by simp), fun k4 hk4 => ?_⟩⟩
      have n16 := (My.Same.new (o := ExO (.ref L.T.CP) e) (Same.refl H15) he).trans s16
      have m16 := My.Same.new (o := .lst [.bl true, .bl true, .bl false, .bl false, .bl false]) (Same.refl H16) hk4
      refine ⟨_, _, dp_bls (bs := [true, true, false, false, false]) (m16 _ _ h16), dp_bls (bs := [true, true, false, false, false]) upd_same, sh_bls _, sh_bls _, _, rfl, ?_⟩
      rw [eqv_bls]
      refine iteF ?_
      exact ⟨_, _, _, _, _, _, _, _, _, rfl, (((s0.trans n14).trans m14).trans n16).trans m16⟩
  · rintro _ H' ⟨_, _, _, _, _, _, _, _, _, rfl, _⟩
    exact q H'
end
end My

set_option Elab.async false
set_option linter.all false
set_option maxRecDepth 100000
set_option maxHeartbeats 4000000
namespace My
open PySem PySem.Spec PyProof.Rows L2

theorem clsO {K : PySem.W.Frag} {nm q : Str} {C N : Addr} {bs m : List Value} {sn : List Str} {sub : List Value} {ab : Bool} {col : Option Bool} {dd : Option Addr} {k0 k1 k2 k3 k5 : Option Value} {ni : String} (h : K.lookup C = some (excClassObj nm q C N bs m true sn sub ab col dd k0 k1 k2 k3 k5 ni)) : ∃ cd, PySem.W.clsIn K C = some cd ∧ cd.mro = .ref C :: m := by
  refine ⟨{ name := nm, bases := bs, mro := .ref C :: m, ns := N, qualname := q, hasDict := true, slotNames := sn, subclasses := sub, abstract := ab, collection := col, hasDel := false }, ?_, rfl⟩
  unfold PySem.W.clsIn; rw [h] <;> rfl
theorem sub_cls {K : PySem.W.Frag} {D : Addr} {cd : ClassData} {m : List Value} {c : Value} (h : PySem.W.clsIn K D = some cd) (hm : cd.mro = .ref D :: m) : PySem.W.subIn K (.ref D) c = some ((Value.ref D :: m).contains c) := by
  show PySem.W.mroIn K D c = _
  unfold PySem.W.mroIn
  rw [h, Option.bind_some, hm]
  rfl
theorem kit_own {K : PySem.W.Frag} {D c : Addr} {cd cc : ClassData} {rs : List Addr} {bm : List Value} (h : PySem.W.clsIn K D = some cd) (hm : cd.mro = .ref D :: mroG rs bm) (hb : bm.contains (.ref c) = false) (hc : PySem.W.clsIn K c = some cc) (ht : PySem.W.typeIn K (.ref c) = some (.type "type")) :
    PySem.W.kitOne K (.ref D) (.ref c) = some (decide (c ∈ D :: rs)) := by
  unfold PySem.W.kitOne
  by_cases e : D = c
  · subst e
    rw [if_pos (by simp), decide_eq_true (List.mem_cons_self ..)]
  · rw [if_neg (by simpa using e)]
    unfold PySem.W.kitCls
    simp only [hc, ht, Option.isSome_some, Bool.true_and]
    rw [if_pos (by simp), sub_cls h hm]
    exact congrArg some (mroG_ref c bm hb (D :: rs))
theorem kit_ty {K : PySem.W.Frag} {D : Addr} {cd : ClassData} {rs : List Addr} {bm : List Value} {n : String} (h : PySem.W.clsIn K D = some cd) (hm : cd.mro = .ref D :: mroG rs bm) (hk : PySem.W.kitMeta n = true) : PySem.W.kitOne K (.ref D) (.type n) = some (bm.contains (.type n)) := by
  unfold PySem.W.kitOne
  rw [if_neg (by simp)]
  show (if PySem.W.kitMeta n = true then PySem.W.subIn K (.ref D) (.type n) else none) = _
  rw [if_pos hk, sub_cls h hm]
  exact congrArg some (mroG_has n bm (D :: rs))
theorem zip_at {α β : Type} {l : List α} {m : List β} {i : Nat} {a : α} {b : β} (h1 : l[i]? = some a) (h2 : m[i]? = some b) : (a, b) ∈ l.zip m := by
  refine List.mem_of_getElem? (i := i) ?_
  rw [List.getElem?_zip_eq_some]
  exact ⟨h1, h2⟩
/-- the facts of the module behind its top, and the law's promise from them -/
theorem all_mk {P : Program} {w : World} {K : PySem.W.Frag} {h : Heap} {mg : Str → Option Value} {fa : Addr} (X : K.In h) (G : h.Ns mainGlobals mg) (hfa : mg "law" = some (.ref fa))
    {CP CN f_opn f_drw f_pck f_mad f_nam f_fld f_knd f_bas f_law C0 g0 C1 g1 C2 g2 C3 g3 C4 g4 C5 g5 C6 g6 C7 g7 C8 g8 C9 g9 C10 g10 C11 g11 C12 g12 C13 g13 C14 g14 C15 g15 : Addr} {oc_opn kV_opn dc_opn pm_opn cd_opn ct_opn oc_drw kV_drw dc_drw pm_drw cd_drw ct_drw oc_pck kV_pck dc_pck pm_pck cd_pck ct_pck oc_mad kV_mad dc_mad pm_mad cd_mad ct_mad oc_nam kV_nam dc_nam pm_nam cd_nam ct_nam oc_fld kV_fld dc_fld pm_fld cd_fld ct_fld oc_knd kV_knd dc_knd pm_knd cd_knd ct_knd oc_bas kV_bas dc_bas pm_bas cd_bas ct_bas oc_law kV_law dc_law pm_law cd_law ct_law oc0 kV0 dc0 pm0 cd0 ct0 oc1 kV1 dc1 pm1 cd1 ct1 oc2 kV2 dc2 pm2 cd2 ct2 oc3 kV3 dc3 pm3 cd3 ct3 oc4 kV4 dc4 pm4 cd4 ct4 oc5 kV5 dc5 pm5 cd5 ct5 oc6 kV6 dc6 pm6 cd6 ct6 oc7 kV7 dc7 pm7 cd7 ct7 oc8 kV8 dc8 pm8 cd8 ct8 oc9 kV9 dc9 pm9 cd9 ct9 oc10 kV10 dc10 pm10 cd10 ct10 oc11 kV11 dc11 pm11 cd11 ct11 oc12 kV12 dc12 pm12 cd12 ct12 oc13 kV13 dc13 pm13 cd13 ct13 oc14 kV14 dc14 pm14 cd14 ct14 oc15 kV15 dc15 pm15 cd15 ct15 : Value} {od_opn an_opn od_drw an_drw od_pck an_pck od_mad an_mad od_nam an_nam od_fld an_fld od_knd an_knd od_bas an_bas od_law an_law od0 an0 od1 an1 od2 an2 od3 an3 od4 an4 od5 an5 od6 an6 od7 an7 od8 an8 od9 an9 od10 an10 od11 an11 od12 an12 od13 an13 od14 an14 od15 an15 : Option Addr} {sl_opn sl_drw sl_pck sl_mad sl_nam sl_fld sl_knd sl_bas sl_law sl0 sl1 sl2 sl3 sl4 sl5 sl6 sl7 sl8 sl9 sl10 sl11 sl12 sl13 sl14 sl15 : Array (Option Value)} {nm0 q0 nm1 q1 nm2 q2 nm3 q3 nm4 q4 nm5 q5 nm6 q6 nm7 q7 nm8 q8 nm9 q9 nm10 q10 nm11 q11 nm12 q12 nm13 q13 nm14 q14 nm15 q15 nm16 q16 nm17 q17 : Str} {N0 N1 N2 N3 N4 N5 N6 N7 N8 N9 N10 N11 N12 N13 N14 N15 N16 N17 : Addr} {bs0 su0 bs1 su1 bs2 su2 bs3 su3 bs4 su4 bs5 su5 bs6 su6 bs7 su7 bs8 su8 bs9 su9 bs10 su10 bs11 su11 bs12 su12 bs13 su13 bs14 su14 bs15 su15 bs16 su16 bs17 su17 : List Value} {sn0 sn1 sn2 sn3 sn4 sn5 sn6 sn7 sn8 sn9 sn10 sn11 sn12 sn13 sn14 sn15 sn16 sn17 : List Str} {ab0 ab1 ab2 ab3 ab4 ab5 ab6 ab7 ab8 ab9 ab10 ab11 ab12 ab13 ab14 ab15 ab16 ab17 : Bool} {co0 co1 co2 co3 co4 co5 co6 co7 co8 co9 co10 co11 co12 co13 co14 co15 co16 co17 : Option Bool} {dd0 dd1 dd2 dd3 dd4 dd5 dd6 dd7 dd8 dd9 dd10 dd11 dd12 dd13 dd14 dd15 dd16 dd17 : Option Addr} {y00 y10 y20 y30 y50 y01 y11 y21 y31 y51 y02 y12 y22 y32 y52 y03 y13 y23 y33 y53 y04 y14 y24 y34 y54 y05 y15 y25 y35 y55 y06 y16 y26 y36 y56 y07 y17 y27 y37 y57 y08 y18 y28 y38 y58 y09 y19 y29 y39 y59 y010 y110 y210 y310 y510 y011 y111 y211 y311 y511 y012 y112 y212 y312 y512 y013 y113 y213 y313 y513 y014 y114 y214 y314 y514 y015 y115 y215 y315 y515 y016 y116 y216 y316 y516 y017 y117 y217 y317 y517 : Option Value}
    (aP : PySem.W.nsIn K mainGlobals "PileError" = some (some (.ref CP)))
    (aN : PySem.W.nsIn K mainGlobals "NothingLeft" = some (some (.ref CN)))
    (a_opn : PySem.W.nsIn K mainGlobals "_law_opened" = some (some (.ref f_opn)))
    (l_opn : K.lookup f_opn = some ⟨oc_opn, od_opn, .func (PySem.W.fnOf "_law_opened" "_law_opened" (defArgs sOpn) (defBody sOpn) (defScope sOpn) .none kV_opn dc_opn pm_opn an_opn cd_opn ct_opn), sl_opn⟩)
    (c_opn : PySem.W.codeIn K cd_opn "_law_opened" = true)
    (k_opn : PySem.W.keepIn K (.ref f_opn) = true)
    (a_drw : PySem.W.nsIn K mainGlobals "_law_draw" = some (some (.ref f_drw)))
    (l_drw : K.lookup f_drw = some ⟨oc_drw, od_drw, .func (PySem.W.fnOf "_law_draw" "_law_draw" (defArgs sDrw) (defBody sDrw) (defScope sDrw) .none kV_drw dc_drw pm_drw an_drw cd_drw ct_drw), sl_drw⟩)
    (c_drw : PySem.W.codeIn K cd_drw "_law_draw" = true)
    (k_drw : PySem.W.keepIn K (.ref f_drw) = true)
    (a_pck : PySem.W.nsIn K mainGlobals "_law_pick" = some (some (.ref f_pck)))
    (l_pck : K.lookup f_pck = some ⟨oc_pck, od_pck, .func (PySem.W.fnOf "_law_pick" "_law_pick" (defArgs sPck) (defBody sPck) (defScope sPck) .none kV_pck dc_pck pm_pck an_pck cd_pck ct_pck), sl_pck⟩)
    (c_pck : PySem.W.codeIn K cd_pck "_law_pick" = true)
    (k_pck : PySem.W.keepIn K (.ref f_pck) = true)
    (a_mad : PySem.W.nsIn K mainGlobals "_law_made_errors" = some (some (.ref f_mad)))
    (l_mad : K.lookup f_mad = some ⟨oc_mad, od_mad, .func (PySem.W.fnOf "_law_made_errors" "_law_made_errors" (defArgs sMade) (defBody sMade) (defScope sMade) .none kV_mad dc_mad pm_mad an_mad cd_mad ct_mad), sl_mad⟩)
    (c_mad : PySem.W.codeIn K cd_mad "_law_made_errors" = true)
    (k_mad : PySem.W.keepIn K (.ref f_mad) = true)
    (a_nam : PySem.W.nsIn K mainGlobals "_law_named_errors" = some (some (.ref f_nam)))
    (l_nam : K.lookup f_nam = some ⟨oc_nam, od_nam, .func (PySem.W.fnOf "_law_named_errors" "_law_named_errors" (defArgs sNamed) (defBody sNamed) (defScope sNamed) .none kV_nam dc_nam pm_nam an_nam cd_nam ct_nam), sl_nam⟩)
    (c_nam : PySem.W.codeIn K cd_nam "_law_named_errors" = true)
    (k_nam : PySem.W.keepIn K (.ref f_nam) = true)
    (a_fld : PySem.W.nsIn K mainGlobals "_law_fields" = some (some (.ref f_fld)))
    (l_fld : K.lookup f_fld = some ⟨oc_fld, od_fld, .func (PySem.W.fnOf "_law_fields" "_law_fields" (defArgs sFld) (defBody sFld) (defScope sFld) .none kV_fld dc_fld pm_fld an_fld cd_fld ct_fld), sl_fld⟩)
    (c_fld : PySem.W.codeIn K cd_fld "_law_fields" = true)
    (k_fld : PySem.W.keepIn K (.ref f_fld) = true)
    (a_knd : PySem.W.nsIn K mainGlobals "_law_kinds" = some (some (.ref f_knd)))
    (l_knd : K.lookup f_knd = some ⟨oc_knd, od_knd, .func (PySem.W.fnOf "_law_kinds" "_law_kinds" (defArgs sKnd) (defBody sKnd) (defScope sKnd) .none kV_knd dc_knd pm_knd an_knd cd_knd ct_knd), sl_knd⟩)
    (c_knd : PySem.W.codeIn K cd_knd "_law_kinds" = true)
    (k_knd : PySem.W.keepIn K (.ref f_knd) = true)
    (a_bas : PySem.W.nsIn K mainGlobals "_law_bases" = some (some (.ref f_bas)))
    (l_bas : K.lookup f_bas = some ⟨oc_bas, od_bas, .func (PySem.W.fnOf "_law_bases" "_law_bases" (defArgs sBas) (defBody sBas) (defScope sBas) .none kV_bas dc_bas pm_bas an_bas cd_bas ct_bas), sl_bas⟩)
    (c_bas : PySem.W.codeIn K cd_bas "_law_bases" = true)
    (k_bas : PySem.W.keepIn K (.ref f_bas) = true)
    (a_law : PySem.W.nsIn K mainGlobals "law" = some (some (.ref f_law)))
    (l_law : K.lookup f_law = some ⟨oc_law, od_law, .func (PySem.W.fnOf "law" "law" (defArgs sLaw) (defBody sLaw) (defScope sLaw) .none kV_law dc_law pm_law an_law cd_law ct_law), sl_law⟩)
    (c_law : PySem.W.codeIn K cd_law "law" = true)
    (k_law : PySem.W.keepIn K (.ref f_law) = true)
    (aC0 : PySem.W.nsIn K mainGlobals "BadDeed" = some (some (.ref C0)))
    (x0 : K.lookup C0 = some (excClassObj nm0 q0 C0 N0 bs0 (mroG [CP] [.type "ValueError", .type "Exception", .type "BaseException", .type "object"]) true sn0 su0 ab0 co0 dd0 y00 y10 y20 y30 y50 "ValueError.__new__"))
    (ex0 : PySem.W.subIn K (.ref C0) (.type "BaseException") = some true)
    (ty0 : PySem.W.typeIn K (.ref C0) = some (.type "type"))
    (kk0 : PySem.W.keepIn K (.ref C0) = true)
    (ga0 : PySem.W.findIn K (.ref C0) "__getattribute__" = some (some (.builtin "BaseException.__getattribute__")))
    (gg0 : PySem.W.findIn K (.ref C0) "__getattr__" = some none)
    (hd0 : PySem.W.hasDictIn K C0 = true)
    (cl0 : PySem.W.findIn K (.ref C0) "__class__" = some (some (.builtin "object.__class__")))
    (hm0 : PySem.W.mroIn K C0 (.type "object") = some true)
    (sa0 : PySem.W.findIn K (.ref C0) "__setattr__" = some (some (.builtin "object.__setattr__")))
    (no0 : PySem.W.findIn K (.ref C0) "part" = some none)
    (iC0 : PySem.W.findIn K (.ref C0) "__init__" = some (some (.ref g0)))
    (tI0 : PySem.W.typeIn K (.ref g0) = some (.type "function"))
    (l0 : K.lookup g0 = some ⟨oc0, od0, .func (PySem.W.fnOf "__init__" "BadDeed.__init__" (defArgs sX0) (defBody sX0) (defScope sX0) .none kV0 dc0 pm0 an0 cd0 ct0), sl0⟩)
    (c0 : PySem.W.codeIn K cd0 "BadDeed.__init__" = true)
    (k0 : PySem.W.keepIn K (.ref g0) = true)
    (aC1 : PySem.W.nsIn K mainGlobals "BadWaking" = some (some (.ref C1)))
    (x1 : K.lookup C1 = some (excClassObj nm1 q1 C1 N1 bs1 (mroG [CP] [.type "ValueError", .type "Exception", .type "BaseException", .type "object"]) true sn1 su1 ab1 co1 dd1 y01 y11 y21 y31 y51 "ValueError.__new__"))
    (ex1 : PySem.W.subIn K (.ref C1) (.type "BaseException") = some true)
    (ty1 : PySem.W.typeIn K (.ref C1) = some (.type "type"))
    (kk1 : PySem.W.keepIn K (.ref C1) = true)
    (ga1 : PySem.W.findIn K (.ref C1) "__getattribute__" = some (some (.builtin "BaseException.__getattribute__")))
    (gg1 : PySem.W.findIn K (.ref C1) "__getattr__" = some none)
    (hd1 : PySem.W.hasDictIn K C1 = true)
    (cl1 : PySem.W.findIn K (.ref C1) "__class__" = some (some (.builtin "object.__class__")))
    (hm1 : PySem.W.mroIn K C1 (.type "object") = some true)
    (sa1 : PySem.W.findIn K (.ref C1) "__setattr__" = some (some (.builtin "object.__setattr__")))
    (no1 : PySem.W.findIn K (.ref C1) "part" = some none)
    (iC1 : PySem.W.findIn K (.ref C1) "__init__" = some (some (.ref g1)))
    (tI1 : PySem.W.typeIn K (.ref g1) = some (.type "function"))
    (l1 : K.lookup g1 = some ⟨oc1, od1, .func (PySem.W.fnOf "__init__" "BadWaking.__init__" (defArgs sX1) (defBody sX1) (defScope sX1) .none kV1 dc1 pm1 an1 cd1 ct1), sl1⟩)
    (c1 : PySem.W.codeIn K cd1 "BadWaking.__init__" = true)
    (k1 : PySem.W.keepIn K (.ref g1) = true)
    (aC2 : PySem.W.nsIn K mainGlobals "BadRules" = some (some (.ref C2)))
    (x2 : K.lookup C2 = some (excClassObj nm2 q2 C2 N2 bs2 (mroG [CP] [.type "ValueError", .type "Exception", .type "BaseException", .type "object"]) true sn2 su2 ab2 co2 dd2 y02 y12 y22 y32 y52 "ValueError.__new__"))
    (ex2 : PySem.W.subIn K (.ref C2) (.type "BaseException") = some true)
    (ty2 : PySem.W.typeIn K (.ref C2) = some (.type "type"))
    (kk2 : PySem.W.keepIn K (.ref C2) = true)
    (ga2 : PySem.W.findIn K (.ref C2) "__getattribute__" = some (some (.builtin "BaseException.__getattribute__")))
    (gg2 : PySem.W.findIn K (.ref C2) "__getattr__" = some none)
    (hd2 : PySem.W.hasDictIn K C2 = true)
    (cl2 : PySem.W.findIn K (.ref C2) "__class__" = some (some (.builtin "object.__class__")))
    (hm2 : PySem.W.mroIn K C2 (.type "object") = some true)
    (sa2 : PySem.W.findIn K (.ref C2) "__setattr__" = some (some (.builtin "object.__setattr__")))
    (no2 : PySem.W.findIn K (.ref C2) "part" = some none)
    (iC2 : PySem.W.findIn K (.ref C2) "__init__" = some (some (.ref g2)))
    (tI2 : PySem.W.typeIn K (.ref g2) = some (.type "function"))
    (l2 : K.lookup g2 = some ⟨oc2, od2, .func (PySem.W.fnOf "__init__" "BadRules.__init__" (defArgs sX2) (defBody sX2) (defScope sX2) .none kV2 dc2 pm2 an2 cd2 ct2), sl2⟩)
    (c2 : PySem.W.codeIn K cd2 "BadRules.__init__" = true)
    (k2 : PySem.W.keepIn K (.ref g2) = true)
    (aC3 : PySem.W.nsIn K mainGlobals "BadTable" = some (some (.ref C3)))
    (x3 : K.lookup C3 = some (excClassObj nm3 q3 C3 N3 bs3 (mroG [CP] [.type "ValueError", .type "Exception", .type "BaseException", .type "object"]) true sn3 su3 ab3 co3 dd3 y03 y13 y23 y33 y53 "ValueError.__new__"))
    (ex3 : PySem.W.subIn K (.ref C3) (.type "BaseException") = some true)
    (ty3 : PySem.W.typeIn K (.ref C3) = some (.type "type"))
    (kk3 : PySem.W.keepIn K (.ref C3) = true)
    (ga3 : PySem.W.findIn K (.ref C3) "__getattribute__" = some (some (.builtin "BaseException.__getattribute__")))
    (gg3 : PySem.W.findIn K (.ref C3) "__getattr__" = some none)
    (hd3 : PySem.W.hasDictIn K C3 = true)
    (cl3 : PySem.W.findIn K (.ref C3) "__class__" = some (some (.builtin "object.__class__")))
    (hm3 : PySem.W.mroIn K C3 (.type "object") = some true)
    (sa3 : PySem.W.findIn K (.ref C3) "__setattr__" = some (some (.builtin "object.__setattr__")))
    (no3 : PySem.W.findIn K (.ref C3) "table" = some none)
    (iC3 : PySem.W.findIn K (.ref C3) "__init__" = some (some (.ref g3)))
    (tI3 : PySem.W.typeIn K (.ref g3) = some (.type "function"))
    (l3 : K.lookup g3 = some ⟨oc3, od3, .func (PySem.W.fnOf "__init__" "BadTable.__init__" (defArgs sX3) (defBody sX3) (defScope sX3) .none kV3 dc3 pm3 an3 cd3 ct3), sl3⟩)
    (c3 : PySem.W.codeIn K cd3 "BadTable.__init__" = true)
    (k3 : PySem.W.keepIn K (.ref g3) = true)
    (aC4 : PySem.W.nsIn K mainGlobals "BadEntry" = some (some (.ref C4)))
    (x4 : K.lookup C4 = some (excClassObj nm4 q4 C4 N4 bs4 (mroG [CP] [.type "ValueError", .type "Exception", .type "BaseException", .type "object"]) true sn4 su4 ab4 co4 dd4 y04 y14 y24 y34 y54 "ValueError.__new__"))
    (ex4 : PySem.W.subIn K (.ref C4) (.type "BaseException") = some true)
    (ty4 : PySem.W.typeIn K (.ref C4) = some (.type "type"))
    (kk4 : PySem.W.keepIn K (.ref C4) = true)
    (ga4 : PySem.W.findIn K (.ref C4) "__getattribute__" = some (some (.builtin "BaseException.__getattribute__")))
    (gg4 : PySem.W.findIn K (.ref C4) "__getattr__" = some none)
    (hd4 : PySem.W.hasDictIn K C4 = true)
    (cl4 : PySem.W.findIn K (.ref C4) "__class__" = some (some (.builtin "object.__class__")))
    (hm4 : PySem.W.mroIn K C4 (.type "object") = some true)
    (sa4 : PySem.W.findIn K (.ref C4) "__setattr__" = some (some (.builtin "object.__setattr__")))
    (no4 : PySem.W.findIn K (.ref C4) "entry" = some none)
    (iC4 : PySem.W.findIn K (.ref C4) "__init__" = some (some (.ref g4)))
    (tI4 : PySem.W.typeIn K (.ref g4) = some (.type "function"))
    (l4 : K.lookup g4 = some ⟨oc4, od4, .func (PySem.W.fnOf "__init__" "BadEntry.__init__" (defArgs sX4) (defBody sX4) (defScope sX4) .none kV4 dc4 pm4 an4 cd4 ct4), sl4⟩)
    (c4 : PySem.W.codeIn K cd4 "BadEntry.__init__" = true)
    (k4 : PySem.W.keepIn K (.ref g4) = true)
    (aC5 : PySem.W.nsIn K mainGlobals "BadHands" = some (some (.ref C5)))
    (x5 : K.lookup C5 = some (excClassObj nm5 q5 C5 N5 bs5 (mroG [CP] [.type "ValueError", .type "Exception", .type "BaseException", .type "object"]) true sn5 su5 ab5 co5 dd5 y05 y15 y25 y35 y55 "ValueError.__new__"))
    (ex5 : PySem.W.subIn K (.ref C5) (.type "BaseException") = some true)
    (ty5 : PySem.W.typeIn K (.ref C5) = some (.type "type"))
    (kk5 : PySem.W.keepIn K (.ref C5) = true)
    (ga5 : PySem.W.findIn K (.ref C5) "__getattribute__" = some (some (.builtin "BaseException.__getattribute__")))
    (gg5 : PySem.W.findIn K (.ref C5) "__getattr__" = some none)
    (hd5 : PySem.W.hasDictIn K C5 = true)
    (cl5 : PySem.W.findIn K (.ref C5) "__class__" = some (some (.builtin "object.__class__")))
    (hm5 : PySem.W.mroIn K C5 (.type "object") = some true)
    (sa5 : PySem.W.findIn K (.ref C5) "__setattr__" = some (some (.builtin "object.__setattr__")))
    (no5 : PySem.W.findIn K (.ref C5) "value" = some none)
    (iC5 : PySem.W.findIn K (.ref C5) "__init__" = some (some (.ref g5)))
    (tI5 : PySem.W.typeIn K (.ref g5) = some (.type "function"))
    (l5 : K.lookup g5 = some ⟨oc5, od5, .func (PySem.W.fnOf "__init__" "BadHands.__init__" (defArgs sX5) (defBody sX5) (defScope sX5) .none kV5 dc5 pm5 an5 cd5 ct5), sl5⟩)
    (c5 : PySem.W.codeIn K cd5 "BadHands.__init__" = true)
    (k5 : PySem.W.keepIn K (.ref g5) = true)
    (aC6 : PySem.W.nsIn K mainGlobals "BadMove" = some (some (.ref C6)))
    (x6 : K.lookup C6 = some (excClassObj nm6 q6 C6 N6 bs6 (mroG [CP] [.type "ValueError", .type "Exception", .type "BaseException", .type "object"]) true sn6 su6 ab6 co6 dd6 y06 y16 y26 y36 y56 "ValueError.__new__"))
    (ex6 : PySem.W.subIn K (.ref C6) (.type "BaseException") = some true)
    (ty6 : PySem.W.typeIn K (.ref C6) = some (.type "type"))
    (kk6 : PySem.W.keepIn K (.ref C6) = true)
    (ga6 : PySem.W.findIn K (.ref C6) "__getattribute__" = some (some (.builtin "BaseException.__getattribute__")))
    (gg6 : PySem.W.findIn K (.ref C6) "__getattr__" = some none)
    (hd6 : PySem.W.hasDictIn K C6 = true)
    (cl6 : PySem.W.findIn K (.ref C6) "__class__" = some (some (.builtin "object.__class__")))
    (hm6 : PySem.W.mroIn K C6 (.type "object") = some true)
    (sa6 : PySem.W.findIn K (.ref C6) "__setattr__" = some (some (.builtin "object.__setattr__")))
    (no6 : PySem.W.findIn K (.ref C6) "move" = some none)
    (iC6 : PySem.W.findIn K (.ref C6) "__init__" = some (some (.ref g6)))
    (tI6 : PySem.W.typeIn K (.ref g6) = some (.type "function"))
    (l6 : K.lookup g6 = some ⟨oc6, od6, .func (PySem.W.fnOf "__init__" "BadMove.__init__" (defArgs sX6) (defBody sX6) (defScope sX6) .none kV6 dc6 pm6 an6 cd6 ct6), sl6⟩)
    (c6 : PySem.W.codeIn K cd6 "BadMove.__init__" = true)
    (k6 : PySem.W.keepIn K (.ref g6) = true)
    (aC7 : PySem.W.nsIn K mainGlobals "BadPlace" = some (some (.ref C7)))
    (x7 : K.lookup C7 = some (excClassObj nm7 q7 C7 N7 bs7 (mroG [CP] [.type "ValueError", .type "Exception", .type "BaseException", .type "object"]) true sn7 su7 ab7 co7 dd7 y07 y17 y27 y37 y57 "ValueError.__new__"))
    (ex7 : PySem.W.subIn K (.ref C7) (.type "BaseException") = some true)
    (ty7 : PySem.W.typeIn K (.ref C7) = some (.type "type"))
    (kk7 : PySem.W.keepIn K (.ref C7) = true)
    (ga7 : PySem.W.findIn K (.ref C7) "__getattribute__" = some (some (.builtin "BaseException.__getattribute__")))
    (gg7 : PySem.W.findIn K (.ref C7) "__getattr__" = some none)
    (hd7 : PySem.W.hasDictIn K C7 = true)
    (cl7 : PySem.W.findIn K (.ref C7) "__class__" = some (some (.builtin "object.__class__")))
    (hm7 : PySem.W.mroIn K C7 (.type "object") = some true)
    (sa7 : PySem.W.findIn K (.ref C7) "__setattr__" = some (some (.builtin "object.__setattr__")))
    (no7 : PySem.W.findIn K (.ref C7) "place" = some none)
    (iC7 : PySem.W.findIn K (.ref C7) "__init__" = some (some (.ref g7)))
    (tI7 : PySem.W.typeIn K (.ref g7) = some (.type "function"))
    (l7 : K.lookup g7 = some ⟨oc7, od7, .func (PySem.W.fnOf "__init__" "BadPlace.__init__" (defArgs sX7) (defBody sX7) (defScope sX7) .none kV7 dc7 pm7 an7 cd7 ct7), sl7⟩)
    (c7 : PySem.W.codeIn K cd7 "BadPlace.__init__" = true)
    (k7 : PySem.W.keepIn K (.ref g7) = true)
    (aC8 : PySem.W.nsIn K mainGlobals "BadText" = some (some (.ref C8)))
    (x8 : K.lookup C8 = some (excClassObj nm8 q8 C8 N8 bs8 (mroG [CP] [.type "ValueError", .type "Exception", .type "BaseException", .type "object"]) true sn8 su8 ab8 co8 dd8 y08 y18 y28 y38 y58 "ValueError.__new__"))
    (ex8 : PySem.W.subIn K (.ref C8) (.type "BaseException") = some true)
    (ty8 : PySem.W.typeIn K (.ref C8) = some (.type "type"))
    (kk8 : PySem.W.keepIn K (.ref C8) = true)
    (ga8 : PySem.W.findIn K (.ref C8) "__getattribute__" = some (some (.builtin "BaseException.__getattribute__")))
    (gg8 : PySem.W.findIn K (.ref C8) "__getattr__" = some none)
    (hd8 : PySem.W.hasDictIn K C8 = true)
    (cl8 : PySem.W.findIn K (.ref C8) "__class__" = some (some (.builtin "object.__class__")))
    (hm8 : PySem.W.mroIn K C8 (.type "object") = some true)
    (sa8 : PySem.W.findIn K (.ref C8) "__setattr__" = some (some (.builtin "object.__setattr__")))
    (no8 : PySem.W.findIn K (.ref C8) "line" = some none)
    (iC8 : PySem.W.findIn K (.ref C8) "__init__" = some (some (.ref g8)))
    (tI8 : PySem.W.typeIn K (.ref g8) = some (.type "function"))
    (l8 : K.lookup g8 = some ⟨oc8, od8, .func (PySem.W.fnOf "__init__" "BadText.__init__" (defArgs sX8) (defBody sX8) (defScope sX8) .none kV8 dc8 pm8 an8 cd8 ct8), sl8⟩)
    (c8 : PySem.W.codeIn K cd8 "BadText.__init__" = true)
    (k8 : PySem.W.keepIn K (.ref g8) = true)
    (aC9 : PySem.W.nsIn K mainGlobals "BadSeat" = some (some (.ref C9)))
    (x9 : K.lookup C9 = some (excClassObj nm9 q9 C9 N9 bs9 (mroG [CP] [.type "ValueError", .type "Exception", .type "BaseException", .type "object"]) true sn9 su9 ab9 co9 dd9 y09 y19 y29 y39 y59 "ValueError.__new__"))
    (ex9 : PySem.W.subIn K (.ref C9) (.type "BaseException") = some true)
    (ty9 : PySem.W.typeIn K (.ref C9) = some (.type "type"))
    (kk9 : PySem.W.keepIn K (.ref C9) = true)
    (ga9 : PySem.W.findIn K (.ref C9) "__getattribute__" = some (some (.builtin "BaseException.__getattribute__")))
    (gg9 : PySem.W.findIn K (.ref C9) "__getattr__" = some none)
    (hd9 : PySem.W.hasDictIn K C9 = true)
    (cl9 : PySem.W.findIn K (.ref C9) "__class__" = some (some (.builtin "object.__class__")))
    (hm9 : PySem.W.mroIn K C9 (.type "object") = some true)
    (sa9 : PySem.W.findIn K (.ref C9) "__setattr__" = some (some (.builtin "object.__setattr__")))
    (no9 : PySem.W.findIn K (.ref C9) "seat" = some none)
    (iC9 : PySem.W.findIn K (.ref C9) "__init__" = some (some (.ref g9)))
    (tI9 : PySem.W.typeIn K (.ref g9) = some (.type "function"))
    (l9 : K.lookup g9 = some ⟨oc9, od9, .func (PySem.W.fnOf "__init__" "BadSeat.__init__" (defArgs sX9) (defBody sX9) (defScope sX9) .none kV9 dc9 pm9 an9 cd9 ct9), sl9⟩)
    (c9 : PySem.W.codeIn K cd9 "BadSeat.__init__" = true)
    (k9 : PySem.W.keepIn K (.ref g9) = true)
    (aC10 : PySem.W.nsIn K mainGlobals "BadNumber" = some (some (.ref C10)))
    (x10 : K.lookup C10 = some (excClassObj nm10 q10 C10 N10 bs10 (mroG [CP] [.type "ValueError", .type "Exception", .type "BaseException", .type "object"]) true sn10 su10 ab10 co10 dd10 y010 y110 y210 y310 y510 "ValueError.__new__"))
    (ex10 : PySem.W.subIn K (.ref C10) (.type "BaseException") = some true)
    (ty10 : PySem.W.typeIn K (.ref C10) = some (.type "type"))
    (kk10 : PySem.W.keepIn K (.ref C10) = true)
    (ga10 : PySem.W.findIn K (.ref C10) "__getattribute__" = some (some (.builtin "BaseException.__getattribute__")))
    (gg10 : PySem.W.findIn K (.ref C10) "__getattr__" = some none)
    (hd10 : PySem.W.hasDictIn K C10 = true)
    (cl10 : PySem.W.findIn K (.ref C10) "__class__" = some (some (.builtin "object.__class__")))
    (hm10 : PySem.W.mroIn K C10 (.type "object") = some true)
    (sa10 : PySem.W.findIn K (.ref C10) "__setattr__" = some (some (.builtin "object.__setattr__")))
    (no10 : PySem.W.findIn K (.ref C10) "number" = some none)
    (iC10 : PySem.W.findIn K (.ref C10) "__init__" = some (some (.ref g10)))
    (tI10 : PySem.W.typeIn K (.ref g10) = some (.type "function"))
    (l10 : K.lookup g10 = some ⟨oc10, od10, .func (PySem.W.fnOf "__init__" "BadNumber.__init__" (defArgs sX10) (defBody sX10) (defScope sX10) .none kV10 dc10 pm10 an10 cd10 ct10), sl10⟩)
    (c10 : PySem.W.codeIn K cd10 "BadNumber.__init__" = true)
    (k10 : PySem.W.keepIn K (.ref g10) = true)
    (aC11 : PySem.W.nsIn K mainGlobals "BadArgument" = some (some (.ref C11)))
    (x11 : K.lookup C11 = some (excClassObj nm11 q11 C11 N11 bs11 (mroG [CP] [.type "ValueError", .type "Exception", .type "BaseException", .type "object"]) true sn11 su11 ab11 co11 dd11 y011 y111 y211 y311 y511 "ValueError.__new__"))
    (ex11 : PySem.W.subIn K (.ref C11) (.type "BaseException") = some true)
    (ty11 : PySem.W.typeIn K (.ref C11) = some (.type "type"))
    (kk11 : PySem.W.keepIn K (.ref C11) = true)
    (ga11 : PySem.W.findIn K (.ref C11) "__getattribute__" = some (some (.builtin "BaseException.__getattribute__")))
    (gg11 : PySem.W.findIn K (.ref C11) "__getattr__" = some none)
    (hd11 : PySem.W.hasDictIn K C11 = true)
    (cl11 : PySem.W.findIn K (.ref C11) "__class__" = some (some (.builtin "object.__class__")))
    (hm11 : PySem.W.mroIn K C11 (.type "object") = some true)
    (sa11 : PySem.W.findIn K (.ref C11) "__setattr__" = some (some (.builtin "object.__setattr__")))
    (no11 : PySem.W.findIn K (.ref C11) "value" = some none)
    (iC11 : PySem.W.findIn K (.ref C11) "__init__" = some (some (.ref g11)))
    (tI11 : PySem.W.typeIn K (.ref g11) = some (.type "function"))
    (l11 : K.lookup g11 = some ⟨oc11, od11, .func (PySem.W.fnOf "__init__" "BadArgument.__init__" (defArgs sX11) (defBody sX11) (defScope sX11) .none kV11 dc11 pm11 an11 cd11 ct11), sl11⟩)
    (c11 : PySem.W.codeIn K cd11 "BadArgument.__init__" = true)
    (k11 : PySem.W.keepIn K (.ref g11) = true)
    (aC12 : PySem.W.nsIn K mainGlobals "BadChange" = some (some (.ref C12)))
    (x12 : K.lookup C12 = some (excClassObj nm12 q12 C12 N12 bs12 (mroG [CP] [.type "ValueError", .type "Exception", .type "BaseException", .type "object"]) true sn12 su12 ab12 co12 dd12 y012 y112 y212 y312 y512 "ValueError.__new__"))
    (ex12 : PySem.W.subIn K (.ref C12) (.type "BaseException") = some true)
    (ty12 : PySem.W.typeIn K (.ref C12) = some (.type "type"))
    (kk12 : PySem.W.keepIn K (.ref C12) = true)
    (ga12 : PySem.W.findIn K (.ref C12) "__getattribute__" = some (some (.builtin "BaseException.__getattribute__")))
    (gg12 : PySem.W.findIn K (.ref C12) "__getattr__" = some none)
    (hd12 : PySem.W.hasDictIn K C12 = true)
    (cl12 : PySem.W.findIn K (.ref C12) "__class__" = some (some (.builtin "object.__class__")))
    (hm12 : PySem.W.mroIn K C12 (.type "object") = some true)
    (sa12 : PySem.W.findIn K (.ref C12) "__setattr__" = some (some (.builtin "object.__setattr__")))
    (no12 : PySem.W.findIn K (.ref C12) "value" = some none)
    (iC12 : PySem.W.findIn K (.ref C12) "__init__" = some (some (.ref g12)))
    (tI12 : PySem.W.typeIn K (.ref g12) = some (.type "function"))
    (l12 : K.lookup g12 = some ⟨oc12, od12, .func (PySem.W.fnOf "__init__" "BadChange.__init__" (defArgs sX12) (defBody sX12) (defScope sX12) .none kV12 dc12 pm12 an12 cd12 ct12), sl12⟩)
    (c12 : PySem.W.codeIn K cd12 "BadChange.__init__" = true)
    (k12 : PySem.W.keepIn K (.ref g12) = true)
    (aC13 : PySem.W.nsIn K mainGlobals "BadCommand" = some (some (.ref C13)))
    (x13 : K.lookup C13 = some (excClassObj nm13 q13 C13 N13 bs13 (mroG [CP] [.type "ValueError", .type "Exception", .type "BaseException", .type "object"]) true sn13 su13 ab13 co13 dd13 y013 y113 y213 y313 y513 "ValueError.__new__"))
    (ex13 : PySem.W.subIn K (.ref C13) (.type "BaseException") = some true)
    (ty13 : PySem.W.typeIn K (.ref C13) = some (.type "type"))
    (kk13 : PySem.W.keepIn K (.ref C13) = true)
    (ga13 : PySem.W.findIn K (.ref C13) "__getattribute__" = some (some (.builtin "BaseException.__getattribute__")))
    (gg13 : PySem.W.findIn K (.ref C13) "__getattr__" = some none)
    (hd13 : PySem.W.hasDictIn K C13 = true)
    (cl13 : PySem.W.findIn K (.ref C13) "__class__" = some (some (.builtin "object.__class__")))
    (hm13 : PySem.W.mroIn K C13 (.type "object") = some true)
    (sa13 : PySem.W.findIn K (.ref C13) "__setattr__" = some (some (.builtin "object.__setattr__")))
    (no13 : PySem.W.findIn K (.ref C13) "command" = some none)
    (iC13 : PySem.W.findIn K (.ref C13) "__init__" = some (some (.ref g13)))
    (tI13 : PySem.W.typeIn K (.ref g13) = some (.type "function"))
    (l13 : K.lookup g13 = some ⟨oc13, od13, .func (PySem.W.fnOf "__init__" "BadCommand.__init__" (defArgs sX13) (defBody sX13) (defScope sX13) .none kV13 dc13 pm13 an13 cd13 ct13), sl13⟩)
    (c13 : PySem.W.codeIn K cd13 "BadCommand.__init__" = true)
    (k13 : PySem.W.keepIn K (.ref g13) = true)
    (aC14 : PySem.W.nsIn K mainGlobals "TooMany" = some (some (.ref C14)))
    (x14 : K.lookup C14 = some (excClassObj nm14 q14 C14 N14 bs14 (mroG [] [.type "OverflowError", .type "ArithmeticError", .type "Exception", .type "BaseException", .type "object"]) true sn14 su14 ab14 co14 dd14 y014 y114 y214 y314 y514 "OverflowError.__new__"))
    (ex14 : PySem.W.subIn K (.ref C14) (.type "BaseException") = some true)
    (ty14 : PySem.W.typeIn K (.ref C14) = some (.type "type"))
    (kk14 : PySem.W.keepIn K (.ref C14) = true)
    (ga14 : PySem.W.findIn K (.ref C14) "__getattribute__" = some (some (.builtin "BaseException.__getattribute__")))
    (gg14 : PySem.W.findIn K (.ref C14) "__getattr__" = some none)
    (hd14 : PySem.W.hasDictIn K C14 = true)
    (cl14 : PySem.W.findIn K (.ref C14) "__class__" = some (some (.builtin "object.__class__")))
    (hm14 : PySem.W.mroIn K C14 (.type "object") = some true)
    (sa14 : PySem.W.findIn K (.ref C14) "__setattr__" = some (some (.builtin "object.__setattr__")))
    (no14 : PySem.W.findIn K (.ref C14) "most" = some none)
    (iC14 : PySem.W.findIn K (.ref C14) "__init__" = some (some (.ref g14)))
    (tI14 : PySem.W.typeIn K (.ref g14) = some (.type "function"))
    (l14 : K.lookup g14 = some ⟨oc14, od14, .func (PySem.W.fnOf "__init__" "TooMany.__init__" (defArgs sX14) (defBody sX14) (defScope sX14) .none kV14 dc14 pm14 an14 cd14 ct14), sl14⟩)
    (c14 : PySem.W.codeIn K cd14 "TooMany.__init__" = true)
    (k14 : PySem.W.keepIn K (.ref g14) = true)
    (aC15 : PySem.W.nsIn K mainGlobals "NotThere" = some (some (.ref C15)))
    (x15 : K.lookup C15 = some (excClassObj nm15 q15 C15 N15 bs15 (mroG [] [.type "LookupError", .type "Exception", .type "BaseException", .type "object"]) true sn15 su15 ab15 co15 dd15 y015 y115 y215 y315 y515 "LookupError.__new__"))
    (ex15 : PySem.W.subIn K (.ref C15) (.type "BaseException") = some true)
    (ty15 : PySem.W.typeIn K (.ref C15) = some (.type "type"))
    (kk15 : PySem.W.keepIn K (.ref C15) = true)
    (ga15 : PySem.W.findIn K (.ref C15) "__getattribute__" = some (some (.builtin "BaseException.__getattribute__")))
    (gg15 : PySem.W.findIn K (.ref C15) "__getattr__" = some none)
    (hd15 : PySem.W.hasDictIn K C15 = true)
    (cl15 : PySem.W.findIn K (.ref C15) "__class__" = some (some (.builtin "object.__class__")))
    (hm15 : PySem.W.mroIn K C15 (.type "object") = some true)
    (sa15 : PySem.W.findIn K (.ref C15) "__setattr__" = some (some (.builtin "object.__setattr__")))
    (no15 : PySem.W.findIn K (.ref C15) "word" = some none)
    (iC15 : PySem.W.findIn K (.ref C15) "__init__" = some (some (.ref g15)))
    (tI15 : PySem.W.typeIn K (.ref g15) = some (.type "function"))
    (l15 : K.lookup g15 = some ⟨oc15, od15, .func (PySem.W.fnOf "__init__" "NotThere.__init__" (defArgs sX15) (defBody sX15) (defScope sX15) .none kV15 dc15 pm15 an15 cd15 ct15), sl15⟩)
    (c15 : PySem.W.codeIn K cd15 "NotThere.__init__" = true)
    (k15 : PySem.W.keepIn K (.ref g15) = true)
    (x16 : K.lookup CP = some (excClassObj nm16 q16 CP N16 bs16 (mroG [] [.type "ValueError", .type "Exception", .type "BaseException", .type "object"]) true sn16 su16 ab16 co16 dd16 y016 y116 y216 y316 y516 "ValueError.__new__"))
    (ex16 : PySem.W.subIn K (.ref CP) (.type "BaseException") = some true)
    (ty16 : PySem.W.typeIn K (.ref CP) = some (.type "type"))
    (kk16 : PySem.W.keepIn K (.ref CP) = true)
    (ga16 : PySem.W.findIn K (.ref CP) "__getattribute__" = some (some (.builtin "BaseException.__getattribute__")))
    (gg16 : PySem.W.findIn K (.ref CP) "__getattr__" = some none)
    (hd16 : PySem.W.hasDictIn K CP = true)
    (cl16 : PySem.W.findIn K (.ref CP) "__class__" = some (some (.builtin "object.__class__")))
    (hm16 : PySem.W.mroIn K CP (.type "object") = some true)
    (x17 : K.lookup CN = some (excClassObj nm17 q17 CN N17 bs17 (mroG [] [.type "LookupError", .type "Exception", .type "BaseException", .type "object"]) true sn17 su17 ab17 co17 dd17 y017 y117 y217 y317 y517 "LookupError.__new__"))
    (ex17 : PySem.W.subIn K (.ref CN) (.type "BaseException") = some true)
    (ty17 : PySem.W.typeIn K (.ref CN) = some (.type "type"))
    (kk17 : PySem.W.keepIn K (.ref CN) = true)
    (ga17 : PySem.W.findIn K (.ref CN) "__getattribute__" = some (some (.builtin "BaseException.__getattribute__")))
    (gg17 : PySem.W.findIn K (.ref CN) "__getattr__" = some none)
    (hd17 : PySem.W.hasDictIn K CN = true)
    (cl17 : PySem.W.findIn K (.ref CN) "__class__" = some (some (.builtin "object.__class__")))
    (hm17 : PySem.W.mroIn K CN (.type "object") = some true)
    (eN : PySem.W.excIn K CN [.type "LookupError", .type "Exception", .type "BaseException", .type "object"] "LookupError.__new__" = true)
    (eP : PySem.W.excIn K CP [.type "ValueError", .type "Exception", .type "BaseException", .type "object"] "ValueError.__new__" = true)
    (i_n : PySem.W.specialIn K (.builtin "object.__class__") "__get__" = some (some (.builtin "getset_descriptor.__get__")))
    (i_t : PySem.W.takesIn K (.builtin "object.__class__") = some true)
    (nod : [C0, C1, C2, C3, C4, C5, C6, C7, C8, C9, C10, C11, C12, C13, C14, C15, CP, CN].Nodup)
    (z_max : PySem.W.nsIn K mainGlobals "max" = some none)
    (z_min : PySem.W.nsIn K mainGlobals "min" = some none)
    (z_int : PySem.W.nsIn K mainGlobals "int" = some none)
    (z_str : PySem.W.nsIn K mainGlobals "str" = some none)
    (z_bool : PySem.W.nsIn K mainGlobals "bool" = some none)
    (z_len : PySem.W.nsIn K mainGlobals "len" = some none)
    (z_all : PySem.W.nsIn K mainGlobals "all" = some none)
    (z_range : PySem.W.nsIn K mainGlobals "range" = some none)
    (z_dict : PySem.W.nsIn K mainGlobals "dict" = some none)
    (z_enumerate : PySem.W.nsIn K mainGlobals "enumerate" = some none)
    (z_isinstance : PySem.W.nsIn K mainGlobals "isinstance" = some none)
    (z_repr : PySem.W.nsIn K mainGlobals "repr" = some none)
    (z_list : PySem.W.nsIn K mainGlobals "list" = some none)
    (z_tuple : PySem.W.nsIn K mainGlobals "tuple" = some none)
    (z_set : PySem.W.nsIn K mainGlobals "set" = some none)
    (z_sorted : PySem.W.nsIn K mainGlobals "sorted" = some none)
    (z_ValueError : PySem.W.nsIn K mainGlobals "ValueError" = some none)
    (z_OverflowError : PySem.W.nsIn K mainGlobals "OverflowError" = some none)
    (z_LookupError : PySem.W.nsIn K mainGlobals "LookupError" = some none) :
    ∃ fd : FuncData, (∀ (s : Shared) (u : Value), BindsTo s fd ⟨[u], []⟩ [("script", u)]) ∧ ∀ base : Heap, K.In base → base.Ns mainGlobals mg → AtTop P w K mg base fa fd ["script"] (spLaw K) := by
  have ee := hfa.symm.trans (PySem.W.mg_of X G a_law)
  cases ee
  have B : Bn mg := ⟨PySem.W.mg_none_of X G z_max, PySem.W.mg_none_of X G z_min, PySem.W.mg_none_of X G z_int, PySem.W.mg_none_of X G z_str, PySem.W.mg_none_of X G z_bool, PySem.W.mg_none_of X G z_len, PySem.W.mg_none_of X G z_all, PySem.W.mg_none_of X G z_range, PySem.W.mg_none_of X G z_dict, PySem.W.mg_none_of X G z_enumerate, PySem.W.mg_none_of X G z_isinstance, PySem.W.mg_none_of X G z_repr, PySem.W.mg_none_of X G z_list, PySem.W.mg_none_of X G z_tuple, PySem.W.mg_none_of X G z_set, PySem.W.mg_none_of X G z_sorted⟩
  have gm := fun {n : Str} {v : Value} (e : PySem.W.nsIn K mainGlobals n = some (some v)) => PySem.W.mg_of X G e
  let D_opn : Df K mg "_law_opened" sOpn ["script", "k"] := ⟨f_opn, _, fun_mk (st := sOpn) l_opn c_opn k_opn, gm a_opn, Fun.binds (ps := ["script", "k"]) (fun_mk (st := sOpn) l_opn c_opn k_opn) (fun _ _ _ _ _ _ us hl => match us, hl with | [_, _], _ => rfl)⟩
  let D_drw : Df K mg "_law_draw" sDrw ["pool", "many"] := ⟨f_drw, _, fun_mk (st := sDrw) l_drw c_drw k_drw, gm a_drw, Fun.binds (ps := ["pool", "many"]) (fun_mk (st := sDrw) l_drw c_drw k_drw) (fun _ _ _ _ _ _ us hl => match us, hl with | [_, _], _ => rfl)⟩
  let D_pck : Df K mg "_law_pick" sPck ["pool", "some"] := ⟨f_pck, _, fun_mk (st := sPck) l_pck c_pck k_pck, gm a_pck, Fun.binds (ps := ["pool", "some"]) (fun_mk (st := sPck) l_pck c_pck k_pck) (fun _ _ _ _ _ _ us hl => match us, hl with | [_, _], _ => rfl)⟩
  let D_mad : Df K mg "_law_made_errors" sMade ["thing"] := ⟨f_mad, _, fun_mk (st := sMade) l_mad c_mad k_mad, gm a_mad, Fun.binds (ps := ["thing"]) (fun_mk (st := sMade) l_mad c_mad k_mad) (fun _ _ _ _ _ _ us hl => match us, hl with | [_], _ => rfl)⟩
  let D_nam : Df K mg "_law_named_errors" sNamed ["thing"] := ⟨f_nam, _, fun_mk (st := sNamed) l_nam c_nam k_nam, gm a_nam, Fun.binds (ps := ["thing"]) (fun_mk (st := sNamed) l_nam c_nam k_nam) (fun _ _ _ _ _ _ us hl => match us, hl with | [_], _ => rfl)⟩
  let D_fld : Df K mg "_law_fields" sFld ["rows"] := ⟨f_fld, _, fun_mk (st := sFld) l_fld c_fld k_fld, gm a_fld, Fun.binds (ps := ["rows"]) (fun_mk (st := sFld) l_fld c_fld k_fld) (fun _ _ _ _ _ _ us hl => match us, hl with | [_], _ => rfl)⟩
  let D_knd : Df K mg "_law_kinds" sKnd ["one"] := ⟨f_knd, _, fun_mk (st := sKnd) l_knd c_knd k_knd, gm a_knd, Fun.binds (ps := ["one"]) (fun_mk (st := sKnd) l_knd c_knd k_knd) (fun _ _ _ _ _ _ us hl => match us, hl with | [_], _ => rfl)⟩
  let D_bas : Df K mg "_law_bases" sBas ["one"] := ⟨f_bas, _, fun_mk (st := sBas) l_bas c_bas k_bas, gm a_bas, Fun.binds (ps := ["one"]) (fun_mk (st := sBas) l_bas c_bas k_bas) (fun _ _ _ _ _ _ us hl => match us, hl with | [_], _ => rfl)⟩
  let T0 : Xg K mg "BadDeed" "part" "BadDeed.__init__" sX0 := { C := C0, fI := g0, fd := _, rs := [CP], bm := [.type "ValueError", .type "Exception", .type "BaseException", .type "object"], oex := ⟨⟨_, _, _, _, _, _, _, _, _, _, _, _, _, _, _, _, _, bse_value, x0⟩, sa0, ex0, ty0, kk0⟩, iC := iC0, tI := tI0, F := fun_mk (st := sX0) l0 c0 k0, b := Fun.binds (ps := ["self", "part"]) (fun_mk (st := sX0) l0 c0 k0) (fun _ _ _ _ _ _ us hl => match us, hl with | [_, _], _ => rfl), g := gm aC0, no := no0, xf := ⟨ga0, gg0, ex0, hd0⟩ }
  let T1 : Xg K mg "BadWaking" "part" "BadWaking.__init__" sX1 := { C := C1, fI := g1, fd := _, rs := [CP], bm := [.type "ValueError", .type "Exception", .type "BaseException", .type "object"], oex := ⟨⟨_, _, _, _, _, _, _, _, _, _, _, _, _, _, _, _, _, bse_value, x1⟩, sa1, ex1, ty1, kk1⟩, iC := iC1, tI := tI1, F := fun_mk (st := sX1) l1 c1 k1, b := Fun.binds (ps := ["self", "part"]) (fun_mk (st := sX1) l1 c1 k1) (fun _ _ _ _ _ _ us hl => match us, hl with | [_, _], _ => rfl), g := gm aC1, no := no1, xf := ⟨ga1, gg1, ex1, hd1⟩ }
  let T2 : Xg K mg "BadRules" "part" "BadRules.__init__" sX2 := { C := C2, fI := g2, fd := _, rs := [CP], bm := [.type "ValueError", .type "Exception", .type "BaseException", .type "object"], oex := ⟨⟨_, _, _, _, _, _, _, _, _, _, _, _, _, _, _, _, _, bse_value, x2⟩, sa2, ex2, ty2, kk2⟩, iC := iC2, tI := tI2, F := fun_mk (st := sX2) l2 c2 k2, b := Fun.binds (ps := ["self", "part"]) (fun_mk (st := sX2) l2 c2 k2) (fun _ _ _ _ _ _ us hl => match us, hl with | [_, _], _ => rfl), g := gm aC2, no := no2, xf := ⟨ga2, gg2, ex2, hd2⟩ }
  let T3 : Xg K mg "BadTable" "table" "BadTable.__init__" sX3 := { C := C3, fI := g3, fd := _, rs := [CP], bm := [.type "ValueError", .type "Exception", .type "BaseException", .type "object"], oex := ⟨⟨_, _, _, _, _, _, _, _, _, _, _, _, _, _, _, _, _, bse_value, x3⟩, sa3, ex3, ty3, kk3⟩, iC := iC3, tI := tI3, F := fun_mk (st := sX3) l3 c3 k3, b := Fun.binds (ps := ["self", "table"]) (fun_mk (st := sX3) l3 c3 k3) (fun _ _ _ _ _ _ us hl => match us, hl with | [_, _], _ => rfl), g := gm aC3, no := no3, xf := ⟨ga3, gg3, ex3, hd3⟩ }
  let T4 : Xg K mg "BadEntry" "entry" "BadEntry.__init__" sX4 := { C := C4, fI := g4, fd := _, rs := [CP], bm := [.type "ValueError", .type "Exception", .type "BaseException", .type "object"], oex := ⟨⟨_, _, _, _, _, _, _, _, _, _, _, _, _, _, _, _, _, bse_value, x4⟩, sa4, ex4, ty4, kk4⟩, iC := iC4, tI := tI4, F := fun_mk (st := sX4) l4 c4 k4, b := Fun.binds (ps := ["self", "entry"]) (fun_mk (st := sX4) l4 c4 k4) (fun _ _ _ _ _ _ us hl => match us, hl with | [_, _], _ => rfl), g := gm aC4, no := no4, xf := ⟨ga4, gg4, ex4, hd4⟩ }
  let T5 : Xg K mg "BadHands" "value" "BadHands.__init__" sX5 := { C := C5, fI := g5, fd := _, rs := [CP], bm := [.type "ValueError", .type "Exception", .type "BaseException", .type "object"], oex := ⟨⟨_, _, _, _, _, _, _, _, _, _, _, _, _, _, _, _, _, bse_value, x5⟩, sa5, ex5, ty5, kk5⟩, iC := iC5, tI := tI5, F := fun_mk (st := sX5) l5 c5 k5, b := Fun.binds (ps := ["self", "value"]) (fun_mk (st := sX5) l5 c5 k5) (fun _ _ _ _ _ _ us hl => match us, hl with | [_, _], _ => rfl), g := gm aC5, no := no5, xf := ⟨ga5, gg5, ex5, hd5⟩ }
  let T6 : Xg K mg "BadMove" "move" "BadMove.__init__" sX6 := { C := C6, fI := g6, fd := _, rs := [CP], bm := [.type "ValueError", .type "Exception", .type "BaseException", .type "object"], oex := ⟨⟨_, _, _, _, _, _, _, _, _, _, _, _, _, _, _, _, _, bse_value, x6⟩, sa6, ex6, ty6, kk6⟩, iC := iC6, tI := tI6, F := fun_mk (st := sX6) l6 c6 k6, b := Fun.binds (ps := ["self", "move"]) (fun_mk (st := sX6) l6 c6 k6) (fun _ _ _ _ _ _ us hl => match us, hl with | [_, _], _ => rfl), g := gm aC6, no := no6, xf := ⟨ga6, gg6, ex6, hd6⟩ }
  let T7 : Xg K mg "BadPlace" "place" "BadPlace.__init__" sX7 := { C := C7, fI := g7, fd := _, rs := [CP], bm := [.type "ValueError", .type "Exception", .type "BaseException", .type "object"], oex := ⟨⟨_, _, _, _, _, _, _, _, _, _, _, _, _, _, _, _, _, bse_value, x7⟩, sa7, ex7, ty7, kk7⟩, iC := iC7, tI := tI7, F := fun_mk (st := sX7) l7 c7 k7, b := Fun.binds (ps := ["self", "place"]) (fun_mk (st := sX7) l7 c7 k7) (fun _ _ _ _ _ _ us hl => match us, hl with | [_, _], _ => rfl), g := gm aC7, no := no7, xf := ⟨ga7, gg7, ex7, hd7⟩ }
  let T8 : Xg K mg "BadText" "line" "BadText.__init__" sX8 := { C := C8, fI := g8, fd := _, rs := [CP], bm := [.type "ValueError", .type "Exception", .type "BaseException", .type "object"], oex := ⟨⟨_, _, _, _, _, _, _, _, _, _, _, _, _, _, _, _, _, bse_value, x8⟩, sa8, ex8, ty8, kk8⟩, iC := iC8, tI := tI8, F := fun_mk (st := sX8) l8 c8 k8, b := Fun.binds (ps := ["self", "line"]) (fun_mk (st := sX8) l8 c8 k8) (fun _ _ _ _ _ _ us hl => match us, hl with | [_, _], _ => rfl), g := gm aC8, no := no8, xf := ⟨ga8, gg8, ex8, hd8⟩ }
  let T9 : Xg K mg "BadSeat" "seat" "BadSeat.__init__" sX9 := { C := C9, fI := g9, fd := _, rs := [CP], bm := [.type "ValueError", .type "Exception", .type "BaseException", .type "object"], oex := ⟨⟨_, _, _, _, _, _, _, _, _, _, _, _, _, _, _, _, _, bse_value, x9⟩, sa9, ex9, ty9, kk9⟩, iC := iC9, tI := tI9, F := fun_mk (st := sX9) l9 c9 k9, b := Fun.binds (ps := ["self", "seat"]) (fun_mk (st := sX9) l9 c9 k9) (fun _ _ _ _ _ _ us hl => match us, hl with | [_, _], _ => rfl), g := gm aC9, no := no9, xf := ⟨ga9, gg9, ex9, hd9⟩ }
  let T10 : Xg K mg "BadNumber" "number" "BadNumber.__init__" sX10 := { C := C10, fI := g10, fd := _, rs := [CP], bm := [.type "ValueError", .type "Exception", .type "BaseException", .type "object"], oex := ⟨⟨_, _, _, _, _, _, _, _, _, _, _, _, _, _, _, _, _, bse_value, x10⟩, sa10, ex10, ty10, kk10⟩, iC := iC10, tI := tI10, F := fun_mk (st := sX10) l10 c10 k10, b := Fun.binds (ps := ["self", "number"]) (fun_mk (st := sX10) l10 c10 k10) (fun _ _ _ _ _ _ us hl => match us, hl with | [_, _], _ => rfl), g := gm aC10, no := no10, xf := ⟨ga10, gg10, ex10, hd10⟩ }
  let T11 : Xg K mg "BadArgument" "value" "BadArgument.__init__" sX11 := { C := C11, fI := g11, fd := _, rs := [CP], bm := [.type "ValueError", .type "Exception", .type "BaseException", .type "object"], oex := ⟨⟨_, _, _, _, _, _, _, _, _, _, _, _, _, _, _, _, _, bse_value, x11⟩, sa11, ex11, ty11, kk11⟩, iC := iC11, tI := tI11, F := fun_mk (st := sX11) l11 c11 k11, b := Fun.binds (ps := ["self", "value"]) (fun_mk (st := sX11) l11 c11 k11) (fun _ _ _ _ _ _ us hl => match us, hl with | [_, _], _ => rfl), g := gm aC11, no := no11, xf := ⟨ga11, gg11, ex11, hd11⟩ }
  let T12 : Xg K mg "BadChange" "value" "BadChange.__init__" sX12 := { C := C12, fI := g12, fd := _, rs := [CP], bm := [.type "ValueError", .type "Exception", .type "BaseException", .type "object"], oex := ⟨⟨_, _, _, _, _, _, _, _, _, _, _, _, _, _, _, _, _, bse_value, x12⟩, sa12, ex12, ty12, kk12⟩, iC := iC12, tI := tI12, F := fun_mk (st := sX12) l12 c12 k12, b := Fun.binds (ps := ["self", "value"]) (fun_mk (st := sX12) l12 c12 k12) (fun _ _ _ _ _ _ us hl => match us, hl with | [_, _], _ => rfl), g := gm aC12, no := no12, xf := ⟨ga12, gg12, ex12, hd12⟩ }
  let T13 : Xg K mg "BadCommand" "command" "BadCommand.__init__" sX13 := { C := C13, fI := g13, fd := _, rs := [CP], bm := [.type "ValueError", .type "Exception", .type "BaseException", .type "object"], oex := ⟨⟨_, _, _, _, _, _, _, _, _, _, _, _, _, _, _, _, _, bse_value, x13⟩, sa13, ex13, ty13, kk13⟩, iC := iC13, tI := tI13, F := fun_mk (st := sX13) l13 c13 k13, b := Fun.binds (ps := ["self", "command"]) (fun_mk (st := sX13) l13 c13 k13) (fun _ _ _ _ _ _ us hl => match us, hl with | [_, _], _ => rfl), g := gm aC13, no := no13, xf := ⟨ga13, gg13, ex13, hd13⟩ }
  let T14 : Xg K mg "TooMany" "most" "TooMany.__init__" sX14 := { C := C14, fI := g14, fd := _, rs := [], bm := [.type "OverflowError", .type "ArithmeticError", .type "Exception", .type "BaseException", .type "object"], oex := ⟨⟨_, _, _, _, _, _, _, _, _, _, _, _, _, _, _, _, _, bse_over, x14⟩, sa14, ex14, ty14, kk14⟩, iC := iC14, tI := tI14, F := fun_mk (st := sX14) l14 c14 k14, b := Fun.binds (ps := ["self", "most"]) (fun_mk (st := sX14) l14 c14 k14) (fun _ _ _ _ _ _ us hl => match us, hl with | [_, _], _ => rfl), g := gm aC14, no := no14, xf := ⟨ga14, gg14, ex14, hd14⟩ }
  let T15 : Xg K mg "NotThere" "word" "NotThere.__init__" sX15 := { C := C15, fI := g15, fd := _, rs := [], bm := [.type "LookupError", .type "Exception", .type "BaseException", .type "object"], oex := ⟨⟨_, _, _, _, _, _, _, _, _, _, _, _, _, _, _, _, _, bse_look, x15⟩, sa15, ex15, ty15, kk15⟩, iC := iC15, tI := tI15, F := fun_mk (st := sX15) l15 c15 k15, b := Fun.binds (ps := ["self", "word"]) (fun_mk (st := sX15) l15 c15 k15) (fun _ _ _ _ _ _ us hl => match us, hl with | [_, _], _ => rfl), g := gm aC15, no := no15, xf := ⟨ga15, gg15, ex15, hd15⟩ }
  refine ⟨PySem.W.fnOf "law" "law" (defArgs sLaw) (defBody sLaw) (defScope sLaw) .none kV_law dc_law pm_law an_law cd_law ct_law, fun s v => .of_eq rfl, fun base _ _ => ?_⟩
  let T : Er P w K mg base := { t0 := T0, g0 := ok_x0 T0, k0 := fun s a v _ => .of_eq rfl, t1 := T1, g1 := ok_x1 T1, k1 := fun s a v _ => .of_eq rfl, t2 := T2, g2 := ok_x2 T2, k2 := fun s a v _ => .of_eq rfl, t3 := T3, g3 := ok_x3 T3, k3 := fun s a v _ => .of_eq rfl, t4 := T4, g4 := ok_x4 T4, k4 := fun s a v _ => .of_eq rfl, t5 := T5, g5 := ok_x5 T5, k5 := fun s a v _ => .of_eq rfl, t6 := T6, g6 := ok_x6 T6, k6 := fun s a v _ => .of_eq rfl, t7 := T7, g7 := ok_x7 T7, k7 := fun s a v _ => .of_eq rfl, t8 := T8, g8 := ok_x8 T8, k8 := fun s a v _ => .of_eq rfl, t9 := T9, g9 := ok_x9 T9, k9 := fun s a v _ => .of_eq rfl, t10 := T10, g10 := ok_x10 T10, k10 := fun s a v _ => .of_eq rfl, t11 := T11, g11 := ok_x11 T11, k11 := fun s a v _ => .of_eq rfl, t12 := T12, g12 := ok_x12 T12, k12 := fun s a v _ => .of_eq rfl, t13 := T13, g13 := ok_x13 T13, k13 := fun s a v _ => .of_eq rfl, t14 := T14, g14 := ok_x14 T14, k14 := fun s a v _ => .of_eq rfl, t15 := T15, g15 := ok_x15 T15, k15 := fun s a v _ => .of_eq rfl, CP := CP, CN := CN, nPileError := gm aP, nNothingLeft := gm aN, eN := eN, eP := eP, kN := kk17, kP := kk16, nValueError := PySem.W.mg_none_of X G z_ValueError, nOverflowError := PySem.W.mg_none_of X G z_OverflowError, nLookupError := PySem.W.mg_none_of X G z_LookupError }
  have G_opn := ok_Opn (P := P) (w := w) (mg := mg) (base := base) D_opn.F B
  have G_drw := ok_Drw (P := P) (w := w) (mg := mg) (base := base) D_drw.F B
  have G_pck := ok_Pck (P := P) (w := w) (base := base) D_pck.F B D_drw G_drw
  have G_mad := ok_Made (P := P) (w := w) (base := base) D_mad.F T
  have G_nam := ok_Named (P := P) (w := w) (base := base) D_nam.F T
  have G_fld := ok_Fld (P := P) (w := w) (base := base) D_fld.F T
  have G_knd := ok_Knd (P := P) (w := w) (base := base) D_knd.F B T
  have G_bas := ok_Bas (P := P) (w := w) (base := base) D_bas.F B T
  obtain ⟨cd_0, e0, m0⟩ := clsO x0
  obtain ⟨cd_1, e1, m1⟩ := clsO x1
  obtain ⟨cd_2, e2, m2⟩ := clsO x2
  obtain ⟨cd_3, e3, m3⟩ := clsO x3
  obtain ⟨cd_4, e4, m4⟩ := clsO x4
  obtain ⟨cd_5, e5, m5⟩ := clsO x5
  obtain ⟨cd_6, e6, m6⟩ := clsO x6
  obtain ⟨cd_7, e7, m7⟩ := clsO x7
  obtain ⟨cd_8, e8, m8⟩ := clsO x8
  obtain ⟨cd_9, e9, m9⟩ := clsO x9
  obtain ⟨cd_10, e10, m10⟩ := clsO x10
  obtain ⟨cd_11, e11, m11⟩ := clsO x11
  obtain ⟨cd_12, e12, m12⟩ := clsO x12
  obtain ⟨cd_13, e13, m13⟩ := clsO x13
  obtain ⟨cd_14, e14, m14⟩ := clsO x14
  obtain ⟨cd_15, e15, m15⟩ := clsO x15
  obtain ⟨cd_16, e16, m16⟩ := clsO x16
  obtain ⟨cd_17, e17, m17⟩ := clsO x17
  have hne := List.pairwise_iff_getElem.mp nod
  have nod16 : [C0, C1, C2, C3, C4, C5, C6, C7, C8, C9, C10, C11, C12, C13, C14, C15].Nodup := (List.nodup_append.mp (show ([C0, C1, C2, C3, C4, C5, C6, C7, C8, C9, C10, C11, C12, C13, C14, C15] ++ [CP, CN]).Nodup from nod)).1
  have nP : ∀ c ∈ [C0, C1, C2, C3, C4, C5, C6, C7, C8, C9, C10, C11, C12, C13, C14, C15], CP ≠ c := fun c hc e => (List.nodup_append.mp (show ([C0, C1, C2, C3, C4, C5, C6, C7, C8, C9, C10, C11, C12, C13, C14, C15] ++ [CP, CN]).Nodup from nod)).2.2 c hc CP (by simp) e.symm
  have nN : ∀ c ∈ [C0, C1, C2, C3, C4, C5, C6, C7, C8, C9, C10, C11, C12, C13, C14, C15], CN ≠ c := fun c hc e => (List.nodup_append.mp (show ([C0, C1, C2, C3, C4, C5, C6, C7, C8, C9, C10, C11, C12, C13, C14, C15] ++ [CP, CN]).Nodup from nod)).2.2 c hc CN (by simp) e.symm
  have nPN : CP ≠ CN := hne 16 17 (by simp) (by simp) (by decide)
  have hcs : ∀ c ∈ [C0, C1, C2, C3, C4, C5, C6, C7, C8, C9, C10, C11, C12, C13, C14, C15], ∃ cc, PySem.W.clsIn K c = some cc ∧ PySem.W.typeIn K (.ref c) = some (.type "type") := by
    intro c hc
    simp only [List.mem_cons, List.not_mem_nil, or_false] at hc
    rcases hc with rfl | rfl | rfl | rfl | rfl | rfl | rfl | rfl | rfl | rfl | rfl | rfl | rfl | rfl | rfl | rfl
    · exact ⟨_, e0, ty0⟩
    · exact ⟨_, e1, ty1⟩
    · exact ⟨_, e2, ty2⟩
    · exact ⟨_, e3, ty3⟩
    · exact ⟨_, e4, ty4⟩
    · exact ⟨_, e5, ty5⟩
    · exact ⟨_, e6, ty6⟩
    · exact ⟨_, e7, ty7⟩
    · exact ⟨_, e8, ty8⟩
    · exact ⟨_, e9, ty9⟩
    · exact ⟨_, e10, ty10⟩
    · exact ⟨_, e11, ty11⟩
    · exact ⟨_, e12, ty12⟩
    · exact ⟨_, e13, ty13⟩
    · exact ⟨_, e14, ty14⟩
    · exact ⟨_, e15, ty15⟩
  have K0 : Kit K T.cs C0 := ⟨⟨ga0, gg0, ex0, hd0, cl0, i_n, i_t, hm0⟩, fun c hc => by
    obtain ⟨cc, h1, h2⟩ := hcs c hc
    rw [kit_own e0 m0 (by rfl) h1 h2]
    refine congrArg some (decide_eq_decide.mpr ⟨fun z => ?_, fun z => by rw [z]; exact List.mem_cons_self ..⟩)
    rcases List.mem_cons.mp z with z | z
    · exact z.symm
    · exact absurd (List.mem_singleton.mp z).symm (nP c hc)⟩
  have B0 : Kib K CP CN [true, true, false, false, false] C0 := ⟨⟨ga0, gg0, ex0, hd0, cl0, i_n, i_t, hm0⟩, _, _, _, _, _, rfl, by
    rw [kit_own e0 m0 (by rfl) e16 ty16]
    exact congrArg some (decide_eq_true (by simp)), kit_ty e0 m0 (by decide +kernel), kit_ty e0 m0 (by decide +kernel), kit_ty e0 m0 (by decide +kernel), by
    rw [kit_own e0 m0 (by rfl) e17 ty17]
    refine congrArg some (decide_eq_false fun z => ?_)
    rcases List.mem_cons.mp z with z | z
    · exact nN C0 (by simp) z
    · exact nPN (List.mem_singleton.mp z).symm⟩
  have K1 : Kit K T.cs C1 := ⟨⟨ga1, gg1, ex1, hd1, cl1, i_n, i_t, hm1⟩, fun c hc => by
    obtain ⟨cc, h1, h2⟩ := hcs c hc
    rw [kit_own e1 m1 (by rfl) h1 h2]
    refine congrArg some (decide_eq_decide.mpr ⟨fun z => ?_, fun z => by rw [z]; exact List.mem_cons_self ..⟩)
    rcases List.mem_cons.mp z with z | z
    · exact z.symm
    · exact absurd (List.mem_singleton.mp z).symm (nP c hc)⟩
  have B1 : Kib K CP CN [true, true, false, false, false] C1 := ⟨⟨ga1, gg1, ex1, hd1, cl1, i_n, i_t, hm1⟩, _, _, _, _, _, rfl, by
    rw [kit_own e1 m1 (by rfl) e16 ty16]
    exact congrArg some (decide_eq_true (by simp)), kit_ty e1 m1 (by decide +kernel), kit_ty e1 m1 (by decide +kernel), kit_ty e1 m1 (by decide +kernel), by
    rw [kit_own e1 m1 (by rfl) e17 ty17]
    refine congrArg some (decide_eq_false fun z => ?_)
    rcases List.mem_cons.mp z with z | z
    · exact nN C1 (by simp) z
    · exact nPN (List.mem_singleton.mp z).symm⟩
  have K2 : Kit K T.cs C2 := ⟨⟨ga2, gg2, ex2, hd2, cl2, i_n, i_t, hm2⟩, fun c hc => by
    obtain ⟨cc, h1, h2⟩ := hcs c hc
    rw [kit_own e2 m2 (by rfl) h1 h2]
    refine congrArg some (decide_eq_decide.mpr ⟨fun z => ?_, fun z => by rw [z]; exact List.mem_cons_self ..⟩)
    rcases List.mem_cons.mp z with z | z
    · exact z.symm
    · exact absurd (List.mem_singleton.mp z).symm (nP c hc)⟩
  have B2 : Kib K CP CN [true, true, false, false, false] C2 := ⟨⟨ga2, gg2, ex2, hd2, cl2, i_n, i_t, hm2⟩, _, _, _, _, _, rfl, by
    rw [kit_own e2 m2 (by rfl) e16 ty16]
    exact congrArg some (decide_eq_true (by simp)), kit_ty e2 m2 (by decide +kernel), kit_ty e2 m2 (by decide +kernel), kit_ty e2 m2 (by decide +kernel), by
    rw [kit_own e2 m2 (by rfl) e17 ty17]
    refine congrArg some (decide_eq_false fun z => ?_)
    rcases List.mem_cons.mp z with z | z
    · exact nN C2 (by simp) z
    · exact nPN (List.mem_singleton.mp z).symm⟩
  have K3 : Kit K T.cs C3 := ⟨⟨ga3, gg3, ex3, hd3, cl3, i_n, i_t, hm3⟩, fun c hc => by
    obtain ⟨cc, h1, h2⟩ := hcs c hc
    rw [kit_own e3 m3 (by rfl) h1 h2]
    refine congrArg some (decide_eq_decide.mpr ⟨fun z => ?_, fun z => by rw [z]; exact List.mem_cons_self ..⟩)
    rcases List.mem_cons.mp z with z | z
    · exact z.symm
    · exact absurd (List.mem_singleton.mp z).symm (nP c hc)⟩
  have B3 : Kib K CP CN [true, true, false, false, false] C3 := ⟨⟨ga3, gg3, ex3, hd3, cl3, i_n, i_t, hm3⟩, _, _, _, _, _, rfl, by
    rw [kit_own e3 m3 (by rfl) e16 ty16]
    exact congrArg some (decide_eq_true (by simp)), kit_ty e3 m3 (by decide +kernel), kit_ty e3 m3 (by decide +kernel), kit_ty e3 m3 (by decide +kernel), by
    rw [kit_own e3 m3 (by rfl) e17 ty17]
    refine congrArg some (decide_eq_false fun z => ?_)
    rcases List.mem_cons.mp z with z | z
    · exact nN C3 (by simp) z
    · exact nPN (List.mem_singleton.mp z).symm⟩
  have K4 : Kit K T.cs C4 := ⟨⟨ga4, gg4, ex4, hd4, cl4, i_n, i_t, hm4⟩, fun c hc => by
    obtain ⟨cc, h1, h2⟩ := hcs c hc
    rw [kit_own e4 m4 (by rfl) h1 h2]
    refine congrArg some (decide_eq_decide.mpr ⟨fun z => ?_, fun z => by rw [z]; exact List.mem_cons_self ..⟩)
    rcases List.mem_cons.mp z with z | z
    · exact z.symm
    · exact absurd (List.mem_singleton.mp z).symm (nP c hc)⟩
  have B4 : Kib K CP CN [true, true, false, false, false] C4 := ⟨⟨ga4, gg4, ex4, hd4, cl4, i_n, i_t, hm4⟩, _, _, _, _, _, rfl, by
    rw [kit_own e4 m4 (by rfl) e16 ty16]
    exact congrArg some (decide_eq_true (by simp)), kit_ty e4 m4 (by decide +kernel), kit_ty e4 m4 (by decide +kernel), kit_ty e4 m4 (by decide +kernel), by
    rw [kit_own e4 m4 (by rfl) e17 ty17]
    refine congrArg some (decide_eq_false fun z => ?_)
    rcases List.mem_cons.mp z with z | z
    · exact nN C4 (by simp) z
    · exact nPN (List.mem_singleton.mp z).symm⟩
  have K5 : Kit K T.cs C5 := ⟨⟨ga5, gg5, ex5, hd5, cl5, i_n, i_t, hm5⟩, fun c hc => by
    obtain ⟨cc, h1, h2⟩ := hcs c hc
    rw [kit_own e5 m5 (by rfl) h1 h2]
    refine congrArg some (decide_eq_decide.mpr ⟨fun z => ?_, fun z => by rw [z]; exact List.mem_cons_self ..⟩)
    rcases List.mem_cons.mp z with z | z
    · exact z.symm
    · exact absurd (List.mem_singleton.mp z).symm (nP c hc)⟩
  have B5 : Kib K CP CN [true, true, false, false, false] C5 := ⟨⟨ga5, gg5, ex5, hd5, cl5, i_n, i_t, hm5⟩, _, _, _, _, _, rfl, by
    rw [kit_own e5 m5 (by rfl) e16 ty16]
    exact congrArg some (decide_eq_true (by simp)), kit_ty e5 m5 (by decide +kernel), kit_ty e5 m5 (by decide +kernel), kit_ty e5 m5 (by decide +kernel), by
    rw [kit_own e5 m5 (by rfl) e17 ty17]
    refine congrArg some (decide_eq_false fun z => ?_)
    rcases List.mem_cons.mp z with z | z
    · exact nN C5 (by simp) z
    · exact nPN (List.mem_singleton.mp z).symm⟩
  have K6 : Kit K T.cs C6 := ⟨⟨ga6, gg6, ex6, hd6, cl6, i_n, i_t, hm6⟩, fun c hc => by
    obtain ⟨cc, h1, h2⟩ := hcs c hc
    rw [kit_own e6 m6 (by rfl) h1 h2]
    refine congrArg some (decide_eq_decide.mpr ⟨fun z => ?_, fun z => by rw [z]; exact List.mem_cons_self ..⟩)
    rcases List.mem_cons.mp z with z | z
    · exact z.symm
    · exact absurd (List.mem_singleton.mp z).symm (nP c hc)⟩
  have B6 : Kib K CP CN [true, true, false, false, false] C6 := ⟨⟨ga6, gg6, ex6, hd6, cl6, i_n, i_t, hm6⟩, _, _, _, _, _, rfl, by
    rw [kit_own e6 m6 (by rfl) e16 ty16]
    exact congrArg some (decide_eq_true (by simp)), kit_ty e6 m6 (by decide +kernel), kit_ty e6 m6 (by decide +kernel), kit_ty e6 m6 (by decide +kernel), by
    rw [kit_own e6 m6 (by rfl) e17 ty17]
    refine congrArg some (decide_eq_false fun z => ?_)
    rcases List.mem_cons.mp z with z | z
    · exact nN C6 (by simp) z
    · exact nPN (List.mem_singleton.mp z).symm⟩
  have K7 : Kit K T.cs C7 := ⟨⟨ga7, gg7, ex7, hd7, cl7, i_n, i_t, hm7⟩, fun c hc => by
    obtain ⟨cc, h1, h2⟩ := hcs c hc
    rw [kit_own e7 m7 (by rfl) h1 h2]
    refine congrArg some (decide_eq_decide.mpr ⟨fun z => ?_, fun z => by rw [z]; exact List.mem_cons_self ..⟩)
    rcases List.mem_cons.mp z with z | z
    · exact z.symm
    · exact absurd (List.mem_singleton.mp z).symm (nP c hc)⟩
  have B7 : Kib K CP CN [true, true, false, false, false] C7 := ⟨⟨ga7, gg7, ex7, hd7, cl7, i_n, i_t, hm7⟩, _, _, _, _, _, rfl, by
    rw [kit_own e7 m7 (by rfl) e16 ty16]
    exact congrArg some (decide_eq_true (by simp)), kit_ty e7 m7 (by decide +kernel), kit_ty e7 m7 (by decide +kernel), kit_ty e7 m7 (by decide +kernel), by
    rw [kit_own e7 m7 (by rfl) e17 ty17]
    refine congrArg some (decide_eq_false fun z => ?_)
    rcases List.mem_cons.mp z with z | z
    · exact nN C7 (by simp) z
    · exact nPN (List.mem_singleton.mp z).symm⟩
  have K8 : Kit K T.cs C8 := ⟨⟨ga8, gg8, ex8, hd8, cl8, i_n, i_t, hm8⟩, fun c hc => by
    obtain ⟨cc, h1, h2⟩ := hcs c hc
    rw [kit_own e8 m8 (by rfl) h1 h2]
    refine congrArg some (decide_eq_decide.mpr ⟨fun z => ?_, fun z => by rw [z]; exact List.mem_cons_self ..⟩)
    rcases List.mem_cons.mp z with z | z
    · exact z.symm
    · exact absurd (List.mem_singleton.mp z).symm (nP c hc)⟩
  have B8 : Kib K CP CN [true, true, false, false, false] C8 := ⟨⟨ga8, gg8, ex8, hd8, cl8, i_n, i_t, hm8⟩, _, _, _, _, _, rfl, by
    rw [kit_own e8 m8 (by rfl) e16 ty16]
    exact congrArg some (decide_eq_true (by simp)), kit_ty e8 m8 (by decide +kernel), kit_ty e8 m8 (by decide +kernel), kit_ty e8 m8 (by decide +kernel), by
    rw [kit_own e8 m8 (by rfl) e17 ty17]
    refine congrArg some (decide_eq_false fun z => ?_)
    rcases List.mem_cons.mp z with z | z
    · exact nN C8 (by simp) z
    · exact nPN (List.mem_singleton.mp z).symm⟩
  have K9 : Kit K T.cs C9 := ⟨⟨ga9, gg9, ex9, hd9, cl9, i_n, i_t, hm9⟩, fun c hc => by
    obtain ⟨cc, h1, h2⟩ := hcs c hc
    rw [kit_own e9 m9 (by rfl) h1 h2]
    refine congrArg some (decide_eq_decide.mpr ⟨fun z => ?_, fun z => by rw [z]; exact List.mem_cons_self ..⟩)
    rcases List.mem_cons.mp z with z | z
    · exact z.symm
    · exact absurd (List.mem_singleton.mp z).symm (nP c hc)⟩
  have B9 : Kib K CP CN [true, true, false, false, false] C9 := ⟨⟨ga9, gg9, ex9, hd9, cl9, i_n, i_t, hm9⟩, _, _, _, _, _, rfl, by
    rw [kit_own e9 m9 (by rfl) e16 ty16]
    exact congrArg some (decide_eq_true (by simp)), kit_ty e9 m9 (by decide +kernel), kit_ty e9 m9 (by decide +kernel), kit_ty e9 m9 (by decide +kernel), by
    rw [kit_own e9 m9 (by rfl) e17 ty17]
    refine congrArg some (decide_eq_false fun z => ?_)
    rcases List.mem_cons.mp z with z | z
    · exact nN C9 (by simp) z
    · exact nPN (List.mem_singleton.mp z).symm⟩
  have K10 : Kit K T.cs C10 := ⟨⟨ga10, gg10, ex10, hd10, cl10, i_n, i_t, hm10⟩, fun c hc => by
    obtain ⟨cc, h1, h2⟩ := hcs c hc
    rw [kit_own e10 m10 (by rfl) h1 h2]
    refine congrArg some (decide_eq_decide.mpr ⟨fun z => ?_, fun z => by rw [z]; exact List.mem_cons_self ..⟩)
    rcases List.mem_cons.mp z with z | z
    · exact z.symm
    · exact absurd (List.mem_singleton.mp z).symm (nP c hc)⟩
  have B10 : Kib K CP CN [true, true, false, false, false] C10 := ⟨⟨ga10, gg10, ex10, hd10, cl10, i_n, i_t, hm10⟩, _, _, _, _, _, rfl, by
    rw [kit_own e10 m10 (by rfl) e16 ty16]
    exact congrArg some (decide_eq_true (by simp)), kit_ty e10 m10 (by decide +kernel), kit_ty e10 m10 (by decide +kernel), kit_ty e10 m10 (by decide +kernel), by
    rw [kit_own e10 m10 (by rfl) e17 ty17]
    refine congrArg some (decide_eq_false fun z => ?_)
    rcases List.mem_cons.mp z with z | z
    · exact nN C10 (by simp) z
    · exact nPN (List.mem_singleton.mp z).symm⟩
  have K11 : Kit K T.cs C11 := ⟨⟨ga11, gg11, ex11, hd11, cl11, i_n, i_t, hm11⟩, fun c hc => by
    obtain ⟨cc, h1, h2⟩ := hcs c hc
    rw [kit_own e11 m11 (by rfl) h1 h2]
    refine congrArg some (decide_eq_decide.mpr ⟨fun z => ?_, fun z => by rw [z]; exact List.mem_cons_self ..⟩)
    rcases List.mem_cons.mp z with z | z
    · exact z.symm
    · exact absurd (List.mem_singleton.mp z).symm (nP c hc)⟩
  have B11 : Kib K CP CN [true, true, false, false, false] C11 := ⟨⟨ga11, gg11, ex11, hd11, cl11, i_n, i_t, hm11⟩, _, _, _, _, _, rfl, by
    rw [kit_own e11 m11 (by rfl) e16 ty16]
    exact congrArg some (decide_eq_true (by simp)), kit_ty e11 m11 (by decide +kernel), kit_ty e11 m11 (by decide +kernel), kit_ty e11 m11 (by decide +kernel), by
    rw [kit_own e11 m11 (by rfl) e17 ty17]
    refine congrArg some (decide_eq_false fun z => ?_)
    rcases List.mem_cons.mp z with z | z
    · exact nN C11 (by simp) z
    · exact nPN (List.mem_singleton.mp z).symm⟩
  have K12 : Kit K T.cs C12 := ⟨⟨ga12, gg12, ex12, hd12, cl12, i_n, i_t, hm12⟩, fun c hc => by
    obtain ⟨cc, h1, h2⟩ := hcs c hc
    rw [kit_own e12 m12 (by rfl) h1 h2]
    refine congrArg some (decide_eq_decide.mpr ⟨fun z => ?_, fun z => by rw [z]; exact List.mem_cons_self ..⟩)
    rcases List.mem_cons.mp z with z | z
    · exact z.symm
    · exact absurd (List.mem_singleton.mp z).symm (nP c hc)⟩
  have B12 : Kib K CP CN [true, true, false, false, false] C12 := ⟨⟨ga12, gg12, ex12, hd12, cl12, i_n, i_t, hm12⟩, _, _, _, _, _, rfl, by
    rw [kit_own e12 m12 (by rfl) e16 ty16]
    exact congrArg some (decide_eq_true (by simp)), kit_ty e12 m12 (by decide +kernel), kit_ty e12 m12 (by decide +kernel), kit_ty e12 m12 (by decide +kernel), by
    rw [kit_own e12 m12 (by rfl) e17 ty17]
    refine congrArg some (decide_eq_false fun z => ?_)
    rcases List.mem_cons.mp z with z | z
    · exact nN C12 (by simp) z
    · exact nPN (List.mem_singleton.mp z).symm⟩
  have K13 : Kit K T.cs C13 := ⟨⟨ga13, gg13, ex13, hd13, cl13, i_n, i_t, hm13⟩, fun c hc => by
    obtain ⟨cc, h1, h2⟩ := hcs c hc
    rw [kit_own e13 m13 (by rfl) h1 h2]
    refine congrArg some (decide_eq_decide.mpr ⟨fun z => ?_, fun z => by rw [z]; exact List.mem_cons_self ..⟩)
    rcases List.mem_cons.mp z with z | z
    · exact z.symm
    · exact absurd (List.mem_singleton.mp z).symm (nP c hc)⟩
  have B13 : Kib K CP CN [true, true, false, false, false] C13 := ⟨⟨ga13, gg13, ex13, hd13, cl13, i_n, i_t, hm13⟩, _, _, _, _, _, rfl, by
    rw [kit_own e13 m13 (by rfl) e16 ty16]
    exact congrArg some (decide_eq_true (by simp)), kit_ty e13 m13 (by decide +kernel), kit_ty e13 m13 (by decide +kernel), kit_ty e13 m13 (by decide +kernel), by
    rw [kit_own e13 m13 (by rfl) e17 ty17]
    refine congrArg some (decide_eq_false fun z => ?_)
    rcases List.mem_cons.mp z with z | z
    · exact nN C13 (by simp) z
    · exact nPN (List.mem_singleton.mp z).symm⟩
  have K14 : Kit K T.cs C14 := ⟨⟨ga14, gg14, ex14, hd14, cl14, i_n, i_t, hm14⟩, fun c hc => by
    obtain ⟨cc, h1, h2⟩ := hcs c hc
    rw [kit_own e14 m14 (by rfl) h1 h2]
    refine congrArg some (decide_eq_decide.mpr ⟨fun z => ?_, fun z => by rw [z]; exact List.mem_cons_self ..⟩)
    rcases List.mem_cons.mp z with z | z
    · exact z.symm
    · exact absurd z List.not_mem_nil⟩
  have B14 : Kib K CP CN [false, false, true, false, false] C14 := ⟨⟨ga14, gg14, ex14, hd14, cl14, i_n, i_t, hm14⟩, _, _, _, _, _, rfl, by
    rw [kit_own e14 m14 (by rfl) e16 ty16]
    exact congrArg some (decide_eq_false (fun z => nP C14 (by simp) (List.mem_singleton.mp z))), kit_ty e14 m14 (by decide +kernel), kit_ty e14 m14 (by decide +kernel), kit_ty e14 m14 (by decide +kernel), by
    rw [kit_own e14 m14 (by rfl) e17 ty17]
    refine congrArg some (decide_eq_false fun z => ?_)
    rcases List.mem_cons.mp z with z | z
    · exact nN C14 (by simp) z
    · exact absurd z List.not_mem_nil⟩
  have K15 : Kit K T.cs C15 := ⟨⟨ga15, gg15, ex15, hd15, cl15, i_n, i_t, hm15⟩, fun c hc => by
    obtain ⟨cc, h1, h2⟩ := hcs c hc
    rw [kit_own e15 m15 (by rfl) h1 h2]
    refine congrArg some (decide_eq_decide.mpr ⟨fun z => ?_, fun z => by rw [z]; exact List.mem_cons_self ..⟩)
    rcases List.mem_cons.mp z with z | z
    · exact z.symm
    · exact absurd z List.not_mem_nil⟩
  have B15 : Kib K CP CN [false, false, false, true, false] C15 := ⟨⟨ga15, gg15, ex15, hd15, cl15, i_n, i_t, hm15⟩, _, _, _, _, _, rfl, by
    rw [kit_own e15 m15 (by rfl) e16 ty16]
    exact congrArg some (decide_eq_false (fun z => nP C15 (by simp) (List.mem_singleton.mp z))), kit_ty e15 m15 (by decide +kernel), kit_ty e15 m15 (by decide +kernel), kit_ty e15 m15 (by decide +kernel), by
    rw [kit_own e15 m15 (by rfl) e17 ty17]
    refine congrArg some (decide_eq_false fun z => ?_)
    rcases List.mem_cons.mp z with z | z
    · exact nN C15 (by simp) z
    · exact absurd z List.not_mem_nil⟩
  have BN : Kib K CP CN [false, false, false, true, true] CN := ⟨⟨ga17, gg17, ex17, hd17, cl17, i_n, i_t, hm17⟩, _, _, _, _, _, rfl, by
    rw [kit_own e17 m17 (by rfl) e16 ty16]
    exact congrArg some (decide_eq_false fun z => nPN (List.mem_singleton.mp z)), kit_ty e17 m17 (by decide +kernel), kit_ty e17 m17 (by decide +kernel), kit_ty e17 m17 (by decide +kernel), by
    rw [kit_own e17 m17 (by rfl) e17 ty17]
    exact congrArg some (decide_eq_true (by simp))⟩
  have BP : Kib K CP CN [true, true, false, false, false] CP := ⟨⟨ga16, gg16, ex16, hd16, cl16, i_n, i_t, hm16⟩, _, _, _, _, _, rfl, by
    rw [kit_own e16 m16 (by rfl) e16 ty16]
    exact congrArg some (decide_eq_true (by simp)), kit_ty e16 m16 (by decide +kernel), kit_ty e16 m16 (by decide +kernel), kit_ty e16 m16 (by decide +kernel), by
    rw [kit_own e16 m16 (by rfl) e17 ty17]
    exact congrArg some (decide_eq_false fun z => nPN (List.mem_singleton.mp z).symm)⟩
  refine ok_law (fun_mk (st := sLaw) l_law c_law k_law) ⟨B, T, D_mad, D_nam, D_fld, D_knd, D_bas, D_opn, D_pck, G_mad, G_nam, G_fld, G_knd, G_bas, G_opn, G_pck, fun c hc => ?_, nod16, fun i c bs h1 h2 => ?_, BN, BP⟩
  · have hc' : c ∈ [C0, C1, C2, C3, C4, C5, C6, C7, C8, C9, C10, C11, C12, C13, C14, C15] := hc
    simp only [List.mem_cons, List.not_mem_nil, or_false] at hc'
    rcases hc' with rfl | rfl | rfl | rfl | rfl | rfl | rfl | rfl | rfl | rfl | rfl | rfl | rfl | rfl | rfl | rfl
    · exact K0
    · exact K1
    · exact K2
    · exact K3
    · exact K4
    · exact K5
    · exact K6
    · exact K7
    · exact K8
    · exact K9
    · exact K10
    · exact K11
    · exact K12
    · exact K13
    · exact K14
    · exact K15
  · have hz : (c, bs) ∈ ([(C0, [true, true, false, false, false]), (C1, [true, true, false, false, false]), (C2, [true, true, false, false, false]), (C3, [true, true, false, false, false]), (C4, [true, true, false, false, false]), (C5, [true, true, false, false, false]), (C6, [true, true, false, false, false]), (C7, [true, true, false, false, false]), (C8, [true, true, false, false, false]), (C9, [true, true, false, false, false]), (C10, [true, true, false, false, false]), (C11, [true, true, false, false, false]), (C12, [true, true, false, false, false]), (C13, [true, true, false, false, false]), (C14, [false, false, true, false, false]), (C15, [false, false, false, true, false])] : List (Addr × List Bool)) := zip_at (l := T.cs) (m := bss) h1 h2
    simp only [List.mem_cons, List.not_mem_nil, or_false, Prod.mk.injEq] at hz
    rcases hz with ⟨rfl, rfl⟩ | ⟨rfl, rfl⟩ | ⟨rfl, rfl⟩ | ⟨rfl, rfl⟩ | ⟨rfl, rfl⟩ | ⟨rfl, rfl⟩ | ⟨rfl, rfl⟩ | ⟨rfl, rfl⟩ | ⟨rfl, rfl⟩ | ⟨rfl, rfl⟩ | ⟨rfl, rfl⟩ | ⟨rfl, rfl⟩ | ⟨rfl, rfl⟩ | ⟨rfl, rfl⟩ | ⟨rfl, rfl⟩ | ⟨rfl, rfl⟩
    · exact B0
    · exact B1
    · exact B2
    · exact B3
    · exact B4
    · exact B5
    · exact B6
    · exact B7
    · exact B8
    · exact B9
    · exact B10
    · exact B11
    · exact B12
    · exact B13
    · exact B14
    · exact B15
end My

set_option Elab.async false
set_option linter.all false
open PySem PySem.W PyProof.Rows
set_option maxRecDepth 100000 in
set_option maxHeartbeats 0 in
theorem PySem.Challenge.cw_answerpiles_k01_errors_holds : PySem.Challenge.rw_answerpiles_k01_errors.Holds := by
  w_on; o_law; k_head; (case hw => w_witness2)
  k_fill
  refine My.top_walk (l := PySem.Challenge.rw_answerpiles_k01_errors) (n := 63) (par := "script") (sp := My.spLaw) rfl (by decide) rfl (fun w h Y => PySem.W.kIn_of Y) ?F (fun K H a ns hl hS => ⟨a, ns, rfl, hS, hl, fun _ => rfl⟩)
  case F =>
    intro w mg fa h KX G hmg
    refine' My.all_mk KX G hmg ?aP ?aN ?a_opn ?l_opn ?c_opn ?k_opn ?a_drw ?l_drw ?c_drw ?k_drw ?a_pck ?l_pck ?c_pck ?k_pck ?a_mad ?l_mad ?c_mad ?k_mad ?a_nam ?l_nam ?c_nam ?k_nam ?a_fld ?l_fld ?c_fld ?k_fld ?a_knd ?l_knd ?c_knd ?k_knd ?a_bas ?l_bas ?c_bas ?k_bas ?a_law ?l_law ?c_law ?k_law ?aC0 ?x0 ?ex0 ?ty0 ?kk0 ?ga0 ?gg0 ?hd0 ?cl0 ?hm0 ?sa0 ?no0 ?iC0 ?tI0 ?l0 ?c0 ?k0 ?aC1 ?x1 ?ex1 ?ty1 ?kk1 ?ga1 ?gg1 ?hd1 ?cl1 ?hm1 ?sa1 ?no1 ?iC1 ?tI1 ?l1 ?c1 ?k1 ?aC2 ?x2 ?ex2 ?ty2 ?kk2 ?ga2 ?gg2 ?hd2 ?cl2 ?hm2 ?sa2 ?no2 ?iC2 ?tI2 ?l2 ?c2 ?k2 ?aC3 ?x3 ?ex3 ?ty3 ?kk3 ?ga3 ?gg3 ?hd3 ?cl3 ?hm3 ?sa3 ?no3 ?iC3 ?tI3 ?l3 ?c3 ?k3 ?aC4 ?x4 ?ex4 ?ty4 ?kk4 ?ga4 ?gg4 ?hd4 ?cl4 ?hm4 ?sa4 ?no4 ?iC4 ?tI4 ?l4 ?c4 ?k4 ?aC5 ?x5 ?ex5 ?ty5 ?kk5 ?ga5 ?gg5 ?hd5 ?cl5 ?hm5 ?sa5 ?no5 ?iC5 ?tI5 ?l5 ?c5 ?k5 ?aC6 ?x6 ?ex6 ?ty6 ?kk6 ?ga6 ?gg6 ?hd6 ?cl6 ?hm6 ?sa6 ?no6 ?iC6 ?tI6 ?l6 ?c6 ?k6 ?aC7 ?x7 ?ex7 ?ty7 ?kk7 ?ga7 ?gg7 ?hd7 ?cl7 ?hm7 ?sa7 ?no7 ?iC7 ?tI7 ?l7 ?c7 ?k7 ?aC8 ?x8 ?ex8 ?ty8 ?kk8 ?ga8 ?gg8 ?hd8 ?cl8 ?hm8 ?sa8 ?no8 ?iC8 ?tI8 ?l8 ?c8 ?k8 ?aC9 ?x9 ?ex9 ?ty9 ?kk9 ?ga9 ?gg9 ?hd9 ?cl9 ?hm9 ?sa9 ?no9 ?iC9 ?tI9 ?l9 ?c9 ?k9 ?aC10 ?x10 ?ex10 ?ty10 ?kk10 ?ga10 ?gg10 ?hd10 ?cl10 ?hm10 ?sa10 ?no10 ?iC10 ?tI10 ?l10 ?c10 ?k10 ?aC11 ?x11 ?ex11 ?ty11 ?kk11 ?ga11 ?gg11 ?hd11 ?cl11 ?hm11 ?sa11 ?no11 ?iC11 ?tI11 ?l11 ?c11 ?k11 ?aC12 ?x12 ?ex12 ?ty12 ?kk12 ?ga12 ?gg12 ?hd12 ?cl12 ?hm12 ?sa12 ?no12 ?iC12 ?tI12 ?l12 ?c12 ?k12 ?aC13 ?x13 ?ex13 ?ty13 ?kk13 ?ga13 ?gg13 ?hd13 ?cl13 ?hm13 ?sa13 ?no13 ?iC13 ?tI13 ?l13 ?c13 ?k13 ?aC14 ?x14 ?ex14 ?ty14 ?kk14 ?ga14 ?gg14 ?hd14 ?cl14 ?hm14 ?sa14 ?no14 ?iC14 ?tI14 ?l14 ?c14 ?k14 ?aC15 ?x15 ?ex15 ?ty15 ?kk15 ?ga15 ?gg15 ?hd15 ?cl15 ?hm15 ?sa15 ?no15 ?iC15 ?tI15 ?l15 ?c15 ?k15 ?x16 ?ex16 ?ty16 ?kk16 ?ga16 ?gg16 ?hd16 ?cl16 ?hm16 ?x17 ?ex17 ?ty17 ?kk17 ?ga17 ?gg17 ?hd17 ?cl17 ?hm17 ?eN ?eP ?i_n ?i_t ?nod ?z_max ?z_min ?z_int ?z_str ?z_bool ?z_len ?z_all ?z_range ?z_dict ?z_enumerate ?z_isinstance ?z_repr ?z_list ?z_tuple ?z_set ?z_sorted ?z_ValueError ?z_OverflowError ?z_LookupError
    (case aP => k_is)
    (case aN => k_is)
    (case a_opn => k_is)
    (case l_opn => k_is)
    (case c_opn => k_is)
    (case k_opn => k_is)
    (case a_drw => k_is)
    (case l_drw => k_is)
    (case c_drw => k_is)
    (case k_drw => k_is)
    (case a_pck => k_is)
    (case l_pck => k_is)
    (case c_pck => k_is)
    (case k_pck => k_is)
    (case a_mad => k_is)
    (case l_mad => k_is)
    (case c_mad => k_is)
    (case k_mad => k_is)
    (case a_nam => k_is)
    (case l_nam => k_is)
    (case c_nam => k_is)
    (case k_nam => k_is)
    (case a_fld => k_is)
    (case l_fld => k_is)
    (case c_fld => k_is)
    (case k_fld => k_is)
    (case a_knd => k_is)
    (case l_knd => k_is)
    (case c_knd => k_is)
    (case k_knd => k_is)
    (case a_bas => k_is)
    (case l_bas => k_is)
    (case c_bas => k_is)
    (case k_bas => k_is)
    (case a_law => k_is)
    (case l_law => k_is)
    (case c_law => k_is)
    (case k_law => k_is)
    (case aC0 => k_is)
    (case x0 => k_is)
    (case ex0 => k_is)
    (case ty0 => k_is)
    (case kk0 => k_is)
    (case ga0 => k_is)
    (case gg0 => k_is)
    (case hd0 => k_is)
    (case cl0 => k_is)
    (case hm0 => k_is)
    (case sa0 => k_is)
    (case no0 => k_is)
    (case iC0 => k_is)
    (case tI0 => k_is)
    (case l0 => k_is)
    (case c0 => k_is)
    (case k0 => k_is)
    (case aC1 => k_is)
    (case x1 => k_is)
    (case ex1 => k_is)
    (case ty1 => k_is)
    (case kk1 => k_is)
    (case ga1 => k_is)
    (case gg1 => k_is)
    (case hd1 => k_is)
    (case cl1 => k_is)
    (case hm1 => k_is)
    (case sa1 => k_is)
    (case no1 => k_is)
    (case iC1 => k_is)
    (case tI1 => k_is)
    (case l1 => k_is)
    (case c1 => k_is)
    (case k1 => k_is)
    (case aC2 => k_is)
    (case x2 => k_is)
    (case ex2 => k_is)
    (case ty2 => k_is)
    (case kk2 => k_is)
    (case ga2 => k_is)
    (case gg2 => k_is)
    (case hd2 => k_is)
    (case cl2 => k_is)
    (case hm2 => k_is)
    (case sa2 => k_is)
    (case no2 => k_is)
    (case iC2 => k_is)
    (case tI2 => k_is)
    (case l2 => k_is)
    (case c2 => k_is)
    (case k2 => k_is)
    (case aC3 => k_is)
    (case x3 => k_is)
    (case ex3 => k_is)
    (case ty3 => k_is)
    (case kk3 => k_is)
    (case ga3 => k_is)
    (case gg3 => k_is)
    (case hd3 => k_is)
    (case cl3 => k_is)
    (case hm3 => k_is)
    (case sa3 => k_is)
    (case no3 => k_is)
    (case iC3 => k_is)
    (case tI3 => k_is)
    (case l3 => k_is)
    (case c3 => k_is)
    (case k3 => k_is)
    (case aC4 => k_is)
    (case x4 => k_is)
    (case ex4 => k_is)
    (case ty4 => k_is)
    (case kk4 => k_is)
    (case ga4 => k_is)
    (case gg4 => k_is)
    (case hd4 => k_is)
    (case cl4 => k_is)
    (case hm4 => k_is)
    (case sa4 => k_is)
    (case no4 => k_is)
    (case iC4 => k_is)
    (case tI4 => k_is)
    (case l4 => k_is)
    (case c4 => k_is)
    (case k4 => k_is)
    (case aC5 => k_is)
    (case x5 => k_is)
    (case ex5 => k_is)
    (case ty5 => k_is)
    (case kk5 => k_is)
    (case ga5 => k_is)
    (case gg5 => k_is)
    (case hd5 => k_is)
    (case cl5 => k_is)
    (case hm5 => k_is)
    (case sa5 => k_is)
    (case no5 => k_is)
    (case iC5 => k_is)
    (case tI5 => k_is)
    (case l5 => k_is)
    (case c5 => k_is)
    (case k5 => k_is)
    (case aC6 => k_is)
    (case x6 => k_is)
    (case ex6 => k_is)
    (case ty6 => k_is)
    (case kk6 => k_is)
    (case ga6 => k_is)
    (case gg6 => k_is)
    (case hd6 => k_is)
    (case cl6 => k_is)
    (case hm6 => k_is)
    (case sa6 => k_is)
    (case no6 => k_is)
    (case iC6 => k_is)
    (case tI6 => k_is)
    (case l6 => k_is)
    (case c6 => k_is)
    (case k6 => k_is)
    (case aC7 => k_is)
    (case x7 => k_is)
    (case ex7 => k_is)
    (case ty7 => k_is)
    (case kk7 => k_is)
    (case ga7 => k_is)
    (case gg7 => k_is)
    (case hd7 => k_is)
    (case cl7 => k_is)
    (case hm7 => k_is)
    (case sa7 => k_is)
    (case no7 => k_is)
    (case iC7 => k_is)
    (case tI7 => k_is)
    (case l7 => k_is)
    (case c7 => k_is)
    (case k7 => k_is)
    (case aC8 => k_is)
    (case x8 => k_is)
    (case ex8 => k_is)
    (case ty8 => k_is)
    (case kk8 => k_is)
    (case ga8 => k_is)
    (case gg8 => k_is)
    (case hd8 => k_is)
    (case cl8 => k_is)
    (case hm8 => k_is)
    (case sa8 => k_is)
    (case no8 => k_is)
    (case iC8 => k_is)
    (case tI8 => k_is)
    (case l8 => k_is)
    (case c8 => k_is)
    (case k8 => k_is)
    (case aC9 => k_is)
    (case x9 => k_is)
    (case ex9 => k_is)
    (case ty9 => k_is)
    (case kk9 => k_is)
    (case ga9 => k_is)
    (case gg9 => k_is)
    (case hd9 => k_is)
    (case cl9 => k_is)
    (case hm9 => k_is)
    (case sa9 => k_is)
    (case no9 => k_is)
    (case iC9 => k_is)
    (case tI9 => k_is)
    (case l9 => k_is)
    (case c9 => k_is)
    (case k9 => k_is)
    (case aC10 => k_is)
    (case x10 => k_is)
    (case ex10 => k_is)
    (case ty10 => k_is)
    (case kk10 => k_is)
    (case ga10 => k_is)
    (case gg10 => k_is)
    (case hd10 => k_is)
    (case cl10 => k_is)
    (case hm10 => k_is)
    (case sa10 => k_is)
    (case no10 => k_is)
    (case iC10 => k_is)
    (case tI10 => k_is)
    (case l10 => k_is)
    (case c10 => k_is)
    (case k10 => k_is)
    (case aC11 => k_is)
    (case x11 => k_is)
    (case ex11 => k_is)
    (case ty11 => k_is)
    (case kk11 => k_is)
    (case ga11 => k_is)
    (case gg11 => k_is)
    (case hd11 => k_is)
    (case cl11 => k_is)
    (case hm11 => k_is)
    (case sa11 => k_is)
    (case no11 => k_is)
    (case iC11 => k_is)
    (case tI11 => k_is)
    (case l11 => k_is)
    (case c11 => k_is)
    (case k11 => k_is)
    (case aC12 => k_is)
    (case x12 => k_is)
    (case ex12 => k_is)
    (case ty12 => k_is)
    (case kk12 => k_is)
    (case ga12 => k_is)
    (case gg12 => k_is)
    (case hd12 => k_is)
    (case cl12 => k_is)
    (case hm12 => k_is)
    (case sa12 => k_is)
    (case no12 => k_is)
    (case iC12 => k_is)
    (case tI12 => k_is)
    (case l12 => k_is)
    (case c12 => k_is)
    (case k12 => k_is)
    (case aC13 => k_is)
    (case x13 => k_is)
    (case ex13 => k_is)
    (case ty13 => k_is)
    (case kk13 => k_is)
    (case ga13 => k_is)
    (case gg13 => k_is)
    (case hd13 => k_is)
    (case cl13 => k_is)
    (case hm13 => k_is)
    (case sa13 => k_is)
    (case no13 => k_is)
    (case iC13 => k_is)
    (case tI13 => k_is)
    (case l13 => k_is)
    (case c13 => k_is)
    (case k13 => k_is)
    (case aC14 => k_is)
    (case x14 => k_is)
    (case ex14 => k_is)
    (case ty14 => k_is)
    (case kk14 => k_is)
    (case ga14 => k_is)
    (case gg14 => k_is)
    (case hd14 => k_is)
    (case cl14 => k_is)
    (case hm14 => k_is)
    (case sa14 => k_is)
    (case no14 => k_is)
    (case iC14 => k_is)
    (case tI14 => k_is)
    (case l14 => k_is)
    (case c14 => k_is)
    (case k14 => k_is)
    (case aC15 => k_is)
    (case x15 => k_is)
    (case ex15 => k_is)
    (case ty15 => k_is)
    (case kk15 => k_is)
    (case ga15 => k_is)
    (case gg15 => k_is)
    (case hd15 => k_is)
    (case cl15 => k_is)
    (case hm15 => k_is)
    (case sa15 => k_is)
    (case no15 => k_is)
    (case iC15 => k_is)
    (case tI15 => k_is)
    (case l15 => k_is)
    (case c15 => k_is)
    (case k15 => k_is)
    (case x16 => k_is)
    (case ex16 => k_is)
    (case ty16 => k_is)
    (case kk16 => k_is)
    (case ga16 => k_is)
    (case gg16 => k_is)
    (case hd16 => k_is)
    (case cl16 => k_is)
    (case hm16 => k_is)
    (case x17 => k_is)
    (case ex17 => k_is)
    (case ty17 => k_is)
    (case kk17 => k_is)
    (case ga17 => k_is)
    (case gg17 => k_is)
    (case hd17 => k_is)
    (case cl17 => k_is)
    (case hm17 => k_is)
    (case eN => first | k_exc | k_is)
    (case eP => first | k_exc | k_is)
    (case i_n => k_is)
    (case i_t => k_is)
    (case nod => decide +kernel)
    (case z_max => k_is)
    (case z_min => k_is)
    (case z_int => k_is)
    (case z_str => k_is)
    (case z_bool => k_is)
    (case z_len => k_is)
    (case z_all => k_is)
    (case z_range => k_is)
    (case z_dict => k_is)
    (case z_enumerate => k_is)
    (case z_isinstance => k_is)
    (case z_repr => k_is)
    (case z_list => k_is)
    (case z_tuple => k_is)
    (case z_set => k_is)
    (case z_sorted => k_is)
    (case z_ValueError => k_is)
    (case z_OverflowError => k_is)
    (case z_LookupError => k_is)
