import PyProof.Rows.All
import Wide.All
import OpenK.AllK
import Wide.FinOn
import HandS.Base
import HandS.Call
import HandS.List
import HandS.Comp
import HandS.Dict
import HandS.Iter
import HandS.Text
import HandS.Ends
import HandS.Words
import HandS.WordsList
import PySem.Challenge.RW_answerpiles_k03_deeds_refused
import HandS.IsInst
import HandS.Walk
import HandS.Exc
import HandS.ExcOwn
import HandS.ExcInit
import HandS.ExcField
import HandS.ExcIs
import HandS.WordsExc
import HandS.Defaults
import HandS.MakeKwOnly
import KE.KIsAll
import PyProof.ReprRoads
import PyProof.ReprLen
import HandS.Strs
import HandS.TupSets
import KE.GoesMore
import HandS.DictTup
import KE.KSortTupUse
import PyProof.Rows.SortStr
import PyProof.Rows.SortShellK
import HandS.WordsDict
import KE.KDictPairs
import PyProof.InstNe
import KE.KDictCopyH
import PyProof.ListStr
import PyProof.TupleOfStr
import HandS.Style
import HandS.Small
import HandS.SetTxt0
import HandS.SetFor
import PyProof.DictUpdate
import HandS.More
import HandS.HeadEnd
set_option Elab.async false
set_option linter.all false
set_option maxRecDepth 100000
set_option maxHeartbeats 2000000
namespace My
open PySem PySem.Spec PyProof.Rows L2
def topOf (nm : Str) : List Stmt → Stmt
  | [] => .Pass ⟨0, 0, 0, 0⟩
  | s :: r => match s with
    | .FunctionDef n _ _ _ _ _ _ _ _ _ => if n = nm then s else topOf nm r
    | .ClassDef n _ _ _ _ _ _ _ _ _ _ => if n = nm then s else topOf nm r
    | _ => topOf nm r
def topI (i : Nat) : Stmt := PySem.Challenge.pw_answerpiles_k03_deeds_refused.main.body.getD i (.Pass ⟨0, 0, 0, 0⟩)
/-- built-in names that the module leaves alone -/
structure Bn (mg : Str → Option Value) : Prop where
  max : mg "max" = none
  min : mg "min" = none
  int : mg "int" = none
  str : mg "str" = none
  bool : mg "bool" = none
  len : mg "len" = none
  all : mg "all" = none
  range : mg "range" = none
  dict : mg "dict" = none
  enumerate : mg "enumerate" = none
  isinstance : mg "isinstance" = none
  repr : mg "repr" = none
  list : mg "list" = none
  tuple : mg "tuple" = none
  set : mg "set" = none
  sorted : mg "sorted" = none
end My

set_option Elab.async false
set_option linter.all false
set_option maxRecDepth 100000
set_option maxHeartbeats 2000000
namespace My
open PySem PySem.Spec PyProof.Rows L2
/-! ### what a reading says, as equations -/
section
variable {σ : L2.St} {H : Hp} {Q : VK} {D : Ends} {ta tb tc te : TE} {t u : TS} {tt tu : TT} {i j : Nat} {v x y : V} {g : TG}
theorem rd_seq : tSeq t u D σ H = t { D with nx := u D } σ H := rfl
theorem rd_next : tNext D σ H = D.nx σ H := rfl
theorem rd_brk : tBreak D σ H = D.bk σ H := rfl
theorem rd_cont : tCont D σ H = D.ct σ H := rfl
theorem rd_asg : tAsg te g D σ H = te σ H fun x H1 => g x σ H1 D.nx := rfl
theorem rd_gname {Q : L2.St → Hp → Prop} : gName i v σ H Q = Q (σ.set i (some v)) H := rfl
theorem rd_var : tVar i σ H Q = ∃ v, σ[i]? = some (some v) ∧ Q v H := rfl
theorem rd_c : tC v σ H Q = Q v H := rfl
theorem rd_op {r : R2} : tOp r ta tb σ H Q = ta σ H fun x H1 => tb σ H1 fun y H2 => r x y H2 Q := rfl
theorem rd_un {r : V → Hp → VK → Prop} : tUn r ta σ H Q = ta σ H fun x H1 => r x H1 Q := rfl
theorem rd_rI0 {f : Int → Int → V} {a b : Int} : rI0 f (.int a) (.int b) H Q = Q (f a b) H := by
  simp [rI0]
theorem rd_rI {C : Int → Int → Prop} {f : Int → Int → V} {a b : Int} : rI C f (.int a) (.int b) H Q = (C a b ∧ Q (f a b) H) := by
  simp [rI]
theorem rd_rU {f : Int → V} {a : Int} : rU f (.int a) H Q = Q (f a) H := by
  simp [rU]
theorem rd_test {Q : Bool → Hp → Prop} : tTest te σ H Q = te σ H fun x H' => ∃ k, x = .bl k ∧ Q k H' := rfl
theorem rd_B {Q : Bool → Hp → Prop} : tB te σ H Q = te σ H fun x H' => ∃ k, x = .bl k ∧ Q k H' := rfl
theorem rd_and {Q : Bool → Hp → Prop} : tAnd tt tu σ H Q = tt σ H fun c H1 => if c = true then tu σ H1 Q else Q false H1 := rfl
theorem rd_or {Q : Bool → Hp → Prop} : tOr tt tu σ H Q = tt σ H fun c H1 => if c = true then Q true H1 else tu σ H1 Q := rfl
theorem rd_not {Q : Bool → Hp → Prop} : tNot tt σ H Q = tt σ H fun c H1 => Q (!c) H1 := rfl
theorem rd_andV : tAndV ta tb σ H Q = ta σ H fun x H1 => ∃ c, x = .bl c ∧ if c = true then tb σ H1 Q else Q (.bl false) H1 := rfl
theorem rd_orV : tOrV ta tb σ H Q = ta σ H fun x H1 => ∃ c, x = .bl c ∧ if c = true then Q (.bl true) H1 else tb σ H1 Q := rfl
theorem rd_notV : tNotV ta σ H Q = ta σ H fun x H1 => ∃ c, x = .bl c ∧ Q (.bl (!c)) H1 := rfl
theorem rd_ifx : tIf tt ta tb σ H Q = tt σ H fun c H1 => if c = true then ta σ H1 Q else tb σ H1 Q := rfl
theorem rd_ifs : tIfS tt t u D σ H = tt σ H fun b H1 => if b = true then t D σ H1 else u D σ H1 := rfl
theorem rd_drop : tDrop te D σ H = te σ H fun _ H1 => D.nx σ H1 := rfl
theorem rd_ret : tRet te D σ H = te σ H D.rt := rfl
theorem rd_nil {Q : List V → Hp → Prop} : tNil σ H Q = Q [] H := rfl
theorem rd_cons {tr : TA} {Q : List V → Hp → Prop} : tCons ta tr σ H Q = ta σ H fun x H1 => tr σ H1 fun xs H2 => Q (x :: xs) H2 := rfl
theorem rd_cb {r : List V → Hp → VK → Prop} {tr : TA} : tCB r tr σ H Q = tr σ H fun vs H1 => r vs H1 Q := rfl
theorem rd_tup {tr : TA} : tTup tr σ H Q = tr σ H fun xs H1 => xs.length ≤ sizeLine ∧ ∀ p, H1 p = none → Q (.ref p) (upd H1 p (.tup xs)) := rfl
theorem rd_lst {tr : TA} : tLst tr σ H Q = tr σ H fun xs H1 => xs.length ≤ sizeLine ∧ ∀ p, H1 p = none → Q (.ref p) (upd H1 p (.lst xs)) := rfl
theorem rd_call {sp : Sp} {dvs : List V} {E : XK} {tr : TA} : tCall sp dvs E tr σ H Q = tr σ H fun vs H1 => sp (vs ++ dvs) H1 Q E := rfl
theorem rd_bm {K : PySem.W.Frag} {T : String} {r : V → List V → Hp → VK → Prop} {tr : TA} : tBM K T r ta tr σ H Q = ta σ H fun x H1 => tyV K T x H1 ∧ tr σ H1 fun xs H2 => r x xs H2 Q := rfl
/-- a new thing -/
theorem tyL {K : PySem.W.Frag} {a : Addr} {xs : List V} (h : SqL K H a xs) : tyV K "list" (.ref a) H := Or.inl ⟨rfl, _, h⟩
end
theorem sz {n : Nat} (h : n ≤ 100000) : n ≤ sizeLine := Nat.le_trans h (by decide)
theorem szl {n : Nat} (h : n < 100000) : n < sizeLine := Nat.lt_of_lt_of_le h (by decide)
theorem Same.new {H H' : Hp} {p : Addr} {o : HO} (e : Same H H') (h : H p = none) : Same H (upd H' p o) := fun a u ha => by
  rw [upd_ne (ne_of_none ha h)]
  exact e a u ha
theorem Same.new' {H H' : Hp} {p : Addr} {o : HO} (e : Same H H') (h : H' p = none) : Same H (upd H' p o) := fun a u ha => by
  rw [upd_ne (ne_of_none (e a u ha) h)]
  exact e a u ha
theorem ex_bl {P : Bool → Prop} {b : Bool} : (∃ k, V.bl b = V.bl k ∧ P k) = P b := by simp
end My
namespace My
open PySem PySem.Spec PyProof.Rows L2
section
variable {σ : L2.St} {H : Hp} {Q : VK} {D : Ends} {tb : TS} {j : Nat}
/-- for x in range(m) -/
theorem for_r1 {ta : TA} {m : Int} (hm : 0 ≤ m ∧ m ≤ 100000) (h : ∀ Q : List V → Hp → Prop, Q [.int m] H → ta σ H Q) (Pv : Nat → L2.St → Hp → Prop) (h0 : Pv 0 σ H)
    (hs : ∀ (i : Nat) (σ' : L2.St) (H' : Hp), (i : Int) < m → Pv i σ' H' → tb { D with nx := Pv (i + 1), ct := Pv (i + 1), bk := D.nx } (σ'.set j (some (.int (i : Int)))) H') (hd : ∀ σ' H', Pv m.toNat σ' H' → D.nx σ' H') : tFor (iRng1 ta) (gName j) tb D σ H :=
  h _ ⟨m, rfl, by omega, by omega, for_range (lo := 0) (n := m.toNat) Pv h0 (fun i σ' H' hi p => by
    have e0 : (0 : Int) + (i : Int) = (i : Int) := Int.zero_add _
    show tb { D with nx := Pv (i + 1), ct := Pv (i + 1), bk := D.nx } (σ'.set j (some (.int ((0 : Int) + (i : Int))))) H'
    rw [e0]
    exact hs i σ' H' (by omega) p) hd⟩
end
end My

namespace L2
theorem PE.imp {X : Cx} {e : PySem.Expr} {t t' : TE} (h : PE X e t) (k : ∀ σ H Q, t' σ H Q → t σ H Q) : PE X e t' := ⟨fun pins s σ H Q I q => h.run pins s σ H Q I (k σ H Q q)⟩
theorem PT.imp {X : Cx} {e : PySem.Expr} {t t' : TT} (h : PT X e t) (k : ∀ σ H Q, t' σ H Q → t σ H Q) : PT X e t' := ⟨fun pins s σ H Q I q => h.run pins s σ H Q I (k σ H Q q)⟩
theorem PS.imp {X : Cx} {e : PySem.Stmt} {t t' : TS} (h : PS X e t) (k : ∀ D σ H, t' D σ H → t D σ H) : PS X e t' := ⟨fun pins s σ H D I q => h.run pins s σ H D I (k D σ H q)⟩
theorem OpR.imp {X : Cx} {f : PySem.Value → PySem.Value → PySem.Sem PySem.Value} {r r' : R2} (h : OpR X f r) (k : ∀ x y H Q, r' x y H Q → r x y H Q) : OpR X f r' := fun pins s σ H x y v u Q I rx ry q => h pins s σ H x y v u Q I rx ry (k x y H Q q)
theorem IxR.imp {X : Cx} {r r' : R2} (h : IxR X r) (k : ∀ x y H Q, r' x y H Q → r x y H Q) : IxR X r' := fun e1 e2 pins s σ H x y v u Q I rx ry q hs => h e1 e2 pins s σ H x y v u Q I rx ry (k x y H Q q) hs
theorem CallR.imp {X : Cx} {f : PySem.Value} {r r' : List V → Hp → VK → Prop} (h : CallR X f r) (k : ∀ xs H Q, r' xs H Q → r xs H Q) : CallR X f r' := fun pins s σ H xs us Q I rx q => h pins s σ H xs us Q I rx (k xs H Q q)
/-- a reading, closed upward -/
def Mon (t : TE) : TE := fun σ H Q => ∃ R : VK, t σ H R ∧ ∀ v H', R v H' → Q v H'
theorem PE.mon {X : Cx} {e : PySem.Expr} {t : TE} (h : PE X e t) : PE X e (Mon t) := ⟨fun pins s σ H Q I ⟨R, q, k⟩ => thn (h.run pins s σ H R I q) fun v s' ⟨x, H', I', r, q'⟩ => ⟨x, H', I', r, k x H' q'⟩⟩
end L2
namespace My
open PySem PySem.Spec PyProof.Rows L2
/-- xs.append(e), xs a list that stands in H -/
def tApp (ta te : TE) : TE := fun σ H Q => ta σ H fun x H1 => ∃ l, x = .ref l ∧ (∃ xs, H1 l = some (.lst xs)) ∧ te σ H1 fun y H2 => ∃ xs, H2 l = some (.lst xs) ∧ xs.length < sizeLine ∧ Q .non (upd H2 l (.lst (xs ++ [y])))
theorem rd_app {σ : L2.St} {H : Hp} {Q : VK} {ta te : TE} : tApp ta te σ H Q = ta σ H fun x H1 => ∃ l, x = .ref l ∧ (∃ xs, H1 l = some (.lst xs)) ∧ te σ H1 fun y H2 => ∃ xs, H2 l = some (.lst xs) ∧ xs.length < sizeLine ∧ Q .non (upd H2 l (.lst (xs ++ [y]))) := rfl
theorem pe_app {X : Cx} {o e : Expr} {ta te : TE} {apos cpos : Pos} (ho : PE X o ta) (he : PE X e te)
    (hbase : attributeBase o "append" X.env (eval o X.env) = eval o X.env := by rfl)
    (hfew : ((backTo cpos (starEach (e :: []) X.env)).all (fun x => !x.1) && (backToKw cpos (keywordEach [] X.env)).all (fun x => x.1.isSome)
      && decide ((e :: []).length + ([] : List Keyword).length + (if ([] : List Keyword).isEmpty then 0 else 1) < 30)) = true := by rfl)
    (hline : (apos.endLine == cpos.line) = true := by rfl) (hs : starEach (e :: []) X.env = (false, eval e X.env) :: starEach [] X.env := by rfl) (hplain : (backTo cpos (starEach [] X.env)).any (·.1) = false := by rfl) :
    PE X (.Call (.Attribute o "append" apos) [e] [] cpos) (tApp ta te) :=
  (pe_bm PySem.F.plainAttrs_list PySem.F.slot_list_append PySem.F.type_list_append mt_append ho.mon (pa_cons he.mon pa_nil hs) hbase hfew hline hs hplain).imp fun σ H Q q =>
    ⟨_, q, fun x H1 ⟨l, ex, ⟨xs, hl⟩, q1⟩ => ⟨by subst ex; exact tyL (SqL.of hl), _, q1, fun y H2 ⟨ys, hl2, hz, q2⟩ => ⟨l, ys, y, ex, rfl, hl2, hz, q2⟩⟩⟩
theorem fmod_r {a m : Int} (h : 0 < m) : 0 ≤ a.fmod m ∧ a.fmod m < m := ⟨Int.fmod_nonneg_of_pos a h, Int.fmod_lt_of_pos a h⟩
end My

set_option Elab.async false
set_option linter.all false
set_option maxRecDepth 100000
set_option maxHeartbeats 2000000
namespace My
open PySem PySem.Spec PyProof.Rows L2
section
variable {X : Cx}
/-! ### lists that stand in H -/
def rIxLst : R2 := fun x y H Q => ∃ p i, x = .ref p ∧ y = .int i ∧ ∃ xs, H p = some (.lst xs) ∧ 0 ≤ i ∧ ∃ v, xs[i.toNat]? = some v ∧ Q v H
theorem rd_ixLst {x y : V} {H : Hp} {Q : VK} : rIxLst x y H Q = ∃ p i, x = .ref p ∧ y = .int i ∧ ∃ xs, H p = some (.lst xs) ∧ 0 ≤ i ∧ ∃ v, xs[i.toNat]? = some v ∧ Q v H := rfl
theorem atI_pos {xs : List V} {i : Int} {v : V} (h0 : 0 ≤ i) (h : xs[i.toNat]? = some v) : atI xs i = some v := by
  have e : i = (i.toNat : Int) := (Int.toNat_of_nonneg h0).symm
  rw [e]
  exact atI_nat h
theorem ix_lst : IxR X rIxLst := ix_list.imp fun _ _ _ _ ⟨p, i, ex, ey, xs, hp, h0, v, hv, q⟩ => ⟨p, xs, i, v, ex, ey, SqL.of hp, atI_pos h0 hv, q⟩
/-- the script, or another list that is read -/
def rIxSq (K : PySem.W.Frag) : R2 := fun x y H Q => ∃ p i, x = .ref p ∧ y = .int i ∧ ∃ xs, SqL K H p xs ∧ 0 ≤ i ∧ ∃ v, xs[i.toNat]? = some v ∧ Q v H
theorem rd_ixSq {K : PySem.W.Frag} {x y : V} {H : Hp} {Q : VK} : rIxSq K x y H Q = ∃ p i, x = .ref p ∧ y = .int i ∧ ∃ xs, SqL K H p xs ∧ 0 ≤ i ∧ ∃ v, xs[i.toNat]? = some v ∧ Q v H := rfl
theorem ix_sq : IxR X (rIxSq X.K) := ix_list.imp fun _ _ _ _ ⟨p, i, ex, ey, xs, hp, h0, v, hv, q⟩ => ⟨p, xs, i, v, ex, ey, hp, atI_pos h0 hv, q⟩
def rLenL : List V → Hp → VK → Prop := fun vs H Q => ∃ p, vs = [.ref p] ∧ ∃ xs, H p = some (.lst xs) ∧ Q (.int (xs.length : Int)) H
theorem rd_lenL {vs : List V} {H : Hp} {Q : VK} : rLenL vs H Q = ∃ p, vs = [.ref p] ∧ ∃ xs, H p = some (.lst xs) ∧ Q (.int (xs.length : Int)) H := rfl
theorem call_lenL : CallR X (.builtin "len") rLenL := call_len_seq.imp fun _ _ _ ⟨p, e, xs, hp, q⟩ => ⟨p, xs, e, .inl (SqL.of hp), q⟩
def rLenSq (K : PySem.W.Frag) : List V → Hp → VK → Prop := fun vs H Q => ∃ p, vs = [.ref p] ∧ ∃ xs, SqL K H p xs ∧ Q (.int (xs.length : Int)) H
theorem rd_lenSq {K : PySem.W.Frag} {vs : List V} {H : Hp} {Q : VK} : rLenSq K vs H Q = ∃ p, vs = [.ref p] ∧ ∃ xs, SqL K H p xs ∧ Q (.int (xs.length : Int)) H := rfl
theorem call_lenSq : CallR X (.builtin "len") (rLenSq X.K) := call_len_seq.imp fun _ _ _ ⟨p, e, xs, hp, q⟩ => ⟨p, xs, e, .inl hp, q⟩
def rSetLst : V → V → V → Hp → (Hp → Prop) → Prop := fun o i v H Q => ∃ p k, o = .ref p ∧ i = .int k ∧ ∃ xs, H p = some (.lst xs) ∧ 0 ≤ k ∧ k.toNat < xs.length ∧ Q (upd H p (.lst (xs.set k.toNat v)))
theorem rd_setLst {o i v : V} {H : Hp} {Q : Hp → Prop} : rSetLst o i v H Q = ∃ p k, o = .ref p ∧ i = .int k ∧ ∃ xs, H p = some (.lst xs) ∧ 0 ≤ k ∧ k.toNat < xs.length ∧ Q (upd H p (.lst (xs.set k.toNat v))) := rfl
theorem set_lst : PSet X rSetLst := fun pins s σ H o i y vo vi vy Q I ro ri ry ⟨p, k, eo, ei, xs, hp, h0, hk, q⟩ => set_list pins s σ H o i y vo vi vy Q I ro ri ry ⟨p, xs, k, k.toNat, eo, ei, hp, by
  unfold ixN
  rw [if_pos h0, if_pos (by omega)], q⟩
theorem rd_sub {to ti : TE} {t : TSet} {v : V} {σ : L2.St} {H : Hp} {Q : L2.St → Hp → Prop} : gSub to ti t v σ H Q = to σ H fun o H1 => ti σ H1 fun i H2 => t o i v H2 fun H3 => Q σ H3 := rfl
/-- script != [] -/
def rNeNil (K : PySem.W.Frag) : R2 := fun x y H Q => ∃ a b, x = .ref a ∧ y = .ref b ∧ ∃ ns : List Int, SqL K H a (ns.map V.int) ∧ H b = some (.lst []) ∧ Q (.bl (!ns.isEmpty)) H
theorem rd_neNil {K : PySem.W.Frag} {x y : V} {H : Hp} {Q : VK} : rNeNil K x y H Q = ∃ a b, x = .ref a ∧ y = .ref b ∧ ∃ ns : List Int, SqL K H a (ns.map V.int) ∧ H b = some (.lst []) ∧ Q (.bl (!ns.isEmpty)) H := rfl
theorem dpInts {K : PySem.W.Frag} {H : Hp} : ∀ ns : List Int, DpAll K H (ns.map V.int) (ns.map PyData.int)
  | [] => .nil
  | _ :: r => .cons (.int _) (dpInts r)
theorem canInts : ∀ ns : List Int, PyData.canLayAll0 (ns.map PyData.int) = true
  | [] => by simp [PyData.canLayAll0]
  | _ :: r => by simp [PyData.canLayAll0, PyData.canLay0, canInts r]
theorem depInts : ∀ ns : List Int, PyData.depthAll (ns.map PyData.int) = 0
  | [] => by simp [PyData.depthAll]
  | _ :: r => by simp [PyData.depthAll, PyData.depth, depInts r]
theorem shInts (ns : List Int) : SeqAt.shaped (.list (ns.map PyData.int)) = true := by
  unfold SeqAt.shaped
  simp [PyData.canLay0, PyData.depth, canInts, depInts]
theorem op_neNil (hu : X.A.units + 64 < cLine) : OpR X (compareOp .NotEq) (rNeNil X.K) := (op_neD hu).imp fun x y H Q ⟨a, b, ex, ey, ns, ha, hb, q⟩ => by
  subst ex ey
  refine ⟨.list (ns.map .int), .list [], .lst ha (dpInts ns), .lst (SqL.of hb) .nil, shInts ns, by decide, ?_⟩
  cases ns with
  | nil => exact q
  | cons n r => exact q
end
end My

set_option Elab.async false
set_option linter.all false
set_option maxRecDepth 100000
set_option maxHeartbeats 2000000
namespace My
open PySem PySem.Spec PyProof.Rows L2
/-- a def of the module as it stands behind the top -/
structure Df (K : PySem.W.Frag) (mg : Str → Option Value) (nm : Str) (st : Stmt) (ps : List Str) where
  f : Addr
  fd : FuncData
  F : Fun K nm nm st f fd
  g : mg nm = some (.ref f)
  b : Binds K fd ps []
/-- a call of such a def, nothing raised -/
theorem pc {X : Cx} {nm : Str} {st : Stmt} {ps : List Str} {sp : Sp} {k : Nat} {p pos : Pos} {e : Expr} {es : List Expr} {t : TA} (D : Df X.K X.mg nm st ps) (G : FnOk X.prog X.w X.K X.mg X.base CX0 k D.f D.fd ps sp) (hr : Room k X.A) (ha : PA X (e :: es) t)
    (hg : Gl X nm := by rfl) (hd : (nm == ("__debug__" : Str)) = false := by decide +kernel)
    (he : starEach (e :: es) X.env = (false, eval e X.env) :: starEach es X.env := by rfl) (hpl : (backTo pos (starEach es X.env)).any (·.1) = false := by rfl) :
    PE X (.Call (.Name nm p) (e :: es) [] pos) (tCall sp [] E0 t) := pe_call G hr hg D.g D.F.kp D.b .nil pass0 ha hd he hpl
end My

set_option Elab.async false
set_option linter.all false
set_option maxRecDepth 100000
set_option maxHeartbeats 2000000
namespace My
open PySem PySem.Spec PyProof.Rows L2
/-! ### types of values -/
def tyO : Option HO → Option String
  | some (.lst _) => some "list"
  | some (.tup _) => some "tuple"
  | some (.dK _) => some "dict"
  | _ => none
def tyS (H : Hp) : V → Option String
  | .non => some "NoneType"
  | .bl _ => some "bool"
  | .int _ => some "int"
  | .str _ => some "str"
  | .ref a => tyO (H a)
  | _ => none
theorem tyO_cases {o : Option HO} {t : String} (h : tyO o = some t) : (∃ xs, o = some (.lst xs) ∧ t = "list") ∨ (∃ xs, o = some (.tup xs) ∧ t = "tuple") ∨ ∃ xs, o = some (.dK xs) ∧ t = "dict" := by
  cases o with
  | none => cases h
  | some o =>
    cases o <;> first | (cases h; exact .inl ⟨_, rfl, rfl⟩) | (cases h; exact .inr (.inl ⟨_, rfl, rfl⟩)) | (cases h; exact .inr (.inr ⟨_, rfl, rfl⟩)) | cases h
theorem tyX_of {K : PySem.W.Frag} {H : Hp} : ∀ {v : V} {t : String}, tyS H v = some t → TyX K H v (.type t)
  | .non, _, h => by cases h; exact .base .non
  | .bl b, _, h => by cases h; exact .base (.bl b)
  | .int i, _, h => by cases h; exact .base (.int i)
  | .str x, _, h => by cases h; exact .base (.str x)
  | .ref a, t, h => by
    rcases tyO_cases (show tyO (H a) = some t from h) with ⟨xs, e, rfl⟩ | ⟨xs, e, rfl⟩ | ⟨xs, e, rfl⟩
    · exact .base (.lst e)
    · exact .base (.tup e)
    · exact .base (.dK e)
def isStr : V → Bool
  | .str _ => true
  | _ => false
def isBl : V → Bool
  | .bl _ => true
  | _ => false
theorem k1 : kitB "NoneType" "str" = some false ∧ kitB "bool" "str" = some false ∧ kitB "int" "str" = some false ∧ kitB "str" "str" = some true ∧ kitB "list" "str" = some false ∧ kitB "tuple" "str" = some false ∧ kitB "dict" "str" = some false := by decide +kernel
theorem k2 : kitB "NoneType" "bool" = some false ∧ kitB "bool" "bool" = some true ∧ kitB "int" "bool" = some false ∧ kitB "str" "bool" = some false ∧ kitB "list" "bool" = some false ∧ kitB "tuple" "bool" = some false ∧ kitB "dict" "bool" = some false := by decide +kernel
theorem kitStr {H : Hp} : ∀ {v : V} {t : String}, tyS H v = some t → kitB t "str" = some (isStr v)
  | .non, _, h => by cases h; exact k1.1
  | .bl b, _, h => by cases h; exact k1.2.1
  | .int i, _, h => by cases h; exact k1.2.2.1
  | .str x, _, h => by cases h; exact k1.2.2.2.1
  | .ref a, t, h => by
    rcases tyO_cases (show tyO (H a) = some t from h) with ⟨xs, e, rfl⟩ | ⟨xs, e, rfl⟩ | ⟨xs, e, rfl⟩
    · exact k1.2.2.2.2.1
    · exact k1.2.2.2.2.2.1
    · exact k1.2.2.2.2.2.2
theorem kitBl {H : Hp} : ∀ {v : V} {t : String}, tyS H v = some t → kitB t "bool" = some (isBl v)
  | .non, _, h => by cases h; exact k2.1
  | .bl b, _, h => by cases h; exact k2.2.1
  | .int i, _, h => by cases h; exact k2.2.2.1
  | .str x, _, h => by cases h; exact k2.2.2.2.1
  | .ref a, t, h => by
    rcases tyO_cases (show tyO (H a) = some t from h) with ⟨xs, e, rfl⟩ | ⟨xs, e, rfl⟩ | ⟨xs, e, rfl⟩
    · exact k2.2.2.2.2.1
    · exact k2.2.2.2.2.2.1
    · exact k2.2.2.2.2.2.2
section
variable {X : Cx}
/-- isinstance(v, str), isinstance(v, bool) -/
def rIsStr : List V → Hp → VK → Prop := fun vs H Q => ∃ v, vs = [v, .ty "str"] ∧ (tyS H v).isSome = true ∧ Q (.bl (isStr v)) H
def rIsBl : List V → Hp → VK → Prop := fun vs H Q => ∃ v, vs = [v, .ty "bool"] ∧ (tyS H v).isSome = true ∧ Q (.bl (isBl v)) H
theorem rd_isStr {v c : V} {H : Hp} {Q : VK} : rIsStr [v, c] H Q = (c = .ty "str" ∧ (tyS H v).isSome = true ∧ Q (.bl (isStr v)) H) := by
  simp [rIsStr, and_assoc]
theorem rd_isBl {v c : V} {H : Hp} {Q : VK} : rIsBl [v, c] H Q = (c = .ty "bool" ∧ (tyS H v).isSome = true ∧ Q (.bl (isBl v)) H) := by
  simp [rIsBl, and_assoc]
theorem call_isStr : CallR X (.builtin "isinstance") rIsStr := call_isi.imp fun _ _ _ ⟨v, e, h, q⟩ => by
  obtain ⟨t, ht⟩ := Option.isSome_iff_exists.mp h
  exact ⟨v, .ty "str", .type t, .type "str", isStr v, e, .ty "str", tyX_of ht, kit_ty (kitStr ht), q⟩
theorem call_isBl : CallR X (.builtin "isinstance") rIsBl := call_isi.imp fun _ _ _ ⟨v, e, h, q⟩ => by
  obtain ⟨t, ht⟩ := Option.isSome_iff_exists.mp h
  exact ⟨v, .ty "bool", .type t, .type "bool", isBl v, e, .ty "bool", tyX_of ht, kit_ty (kitBl ht), q⟩
/-! ### x in a tuple of texts -/
def hasS (ws : List Str) : V → Bool
  | .str x => ws.contains x
  | _ => false
theorem inV_strs (x : Str) : ∀ ws : List Str, inV (.str x) (ws.map V.str) = ws.contains x
  | [] => rfl
  | w :: r => by
    have ih := inV_strs x r
    unfold inV at ih ⊢
    rw [List.map_cons, List.any_cons, ih, List.contains_cons]
    congr 1
    show (w == x) = (x == w)
    exact Bool.eq_iff_iff.mpr ⟨fun h => beq_iff_eq.mpr (beq_iff_eq.mp h).symm, fun h => beq_iff_eq.mpr (beq_iff_eq.mp h).symm⟩
theorem flat_strs : ∀ ws : List Str, (ws.map V.str).all flatV = true
  | [] => rfl
  | _ :: r => by rw [List.map_cons, List.all_cons, flat_strs r]; rfl
def rInS (K : PySem.W.Frag) : R2 := fun x y H Q => ∃ a, y = .ref a ∧ isStr x = true ∧ ∃ ws : List Str, SqT K H a (ws.map V.str) ∧ Q (.bl (hasS ws x)) H
theorem rd_inS {K : PySem.W.Frag} {x y : V} {H : Hp} {Q : VK} : rInS K x y H Q = ∃ a, y = .ref a ∧ isStr x = true ∧ ∃ ws : List Str, SqT K H a (ws.map V.str) ∧ Q (.bl (hasS ws x)) H := rfl
theorem op_inS : OpR X (compareOp .In) (rInS X.K) := op_in_seq.imp fun x _ _ _ ⟨a, ey, hx, ws, hs, q⟩ => by
  cases x with
  | str x =>
    refine ⟨a, ws.map V.str, ey, .inr hs, rfl, flat_strs ws, ?_⟩
    show _ 
    rw [if_neg Bool.false_ne_true, inV_strs]
    exact q
  | _ => cases hx
end
/-! ### words -/
def letters : Str := "abcdefghijklmnopqrstuvwxyz"
def isWord : V → Bool
  | .str x => (decide (1 ≤ x.length) && decide (x.length ≤ 8)) && x.cps.toList.all fun c => decide (c ∈ letters.cps.toList)
  | _ => false
theorem rd_chain {σ : L2.St} {H : Hp} {Q : Bool → Hp → Prop} {r r' : R2} {ta tb tc : TE} : tTest (tChain r r' ta tb tc) σ H Q = tChain r r' ta tb tc σ H fun x H' => ∃ k, x = .bl k ∧ Q k H' := rfl
theorem rd_chain' {σ : L2.St} {H : Hp} {Q : VK} {r r' : R2} {ta tb tc : TE} : tChain r r' ta tb tc σ H Q = ta σ H fun x H1 => tb σ H1 fun y H2 => r x y H2 fun z H3 => ∃ k, z = .bl k ∧ (if k = true then tc σ H3 fun w' H4 => r' y w' H4 Q else Q (.bl false) H3) := rfl
end My
namespace My
open PySem PySem.Spec PyProof.Rows L2
section
variable {X : Cx} {pos : Pos}
theorem pe_tyStr (hm : X.mg "str" = none) (hg : Gl X "str" := by rfl) : PE X (.Name "str" pos) (tC (.ty "str")) := pe_bltn (v := .ty "str") (u := .type "str") hg hm (by decide +kernel) rfl
theorem pe_tyBool (hm : X.mg "bool" = none) (hg : Gl X "bool" := by rfl) : PE X (.Name "bool" pos) (tC (.ty "bool")) := pe_bltn (v := .ty "bool") (u := .type "bool") hg hm (by decide +kernel) rfl
theorem pe_gS {x z : Str} {t : Tok} (hm : X.mg x = some (.str z t)) (hg : Gl X x := by rfl) (hd : (x == ("__debug__" : Str)) = false := by decide) : PE X (.Name x pos) (tC (.str z)) := pe_glob (v := .str z) hg hm ⟨t, rfl⟩ hd
theorem pe_gR {x : Str} {a : Addr} (hm : X.mg x = some (.ref a)) (hg : Gl X x := by rfl) (hd : (x == ("__debug__" : Str)) = false := by decide) : PE X (.Name x pos) (tC (.ref a)) := pe_glob (v := .ref a) hg hm rfl hd
end
end My

set_option Elab.async false
set_option linter.all false
set_option maxRecDepth 100000
set_option maxHeartbeats 2000000
namespace My
open PySem PySem.Spec PyProof.Rows L2
theorem take_more {α : Type} : ∀ {l : List α} {i : Nat} {x : α}, l[i]? = some x → l.take (i + 1) = l.take i ++ [x]
  | [], i, x, h => by simp at h
  | a :: l, 0, x, h => by
    have e : a = x := Option.some.inj h
    subst e
    rfl
  | a :: l, i + 1, x, h => by
    have ih := take_more (l := l) (i := i) (x := x) h
    show a :: l.take (i + 1) = a :: l.take i ++ [x]
    rw [ih]
    rfl
/-- [e for c in text], e leaving the heap as it is -/
theorem lc_str {tl te : TE} {σ : L2.St} {H : Hp} {Q : VK} {j : Nat} {vs : List Nat} {z : Str} (f : Nat → V) (hz : z.length ≤ 100000) (hl : ∀ Q : VK, Q (.str z) H → tl σ H Q) (hw : ∀ x, wipe ((wipe σ vs).set j (some x)) vs = wipe σ vs)
    (he : ∀ (c : Nat) (H' : Hp) (R : VK), Same H H' → R (f c) H' → te ((wipe σ vs).set j (some (.str ⟨#[c]⟩))) H' R)
    (hq : ∀ (D : Addr) (H' : Hp), H D = none → Same H H' → H' D = some (.lst (z.cps.toList.map f)) → Q (.ref D) H') : tLc (iStr tl) (gName j) tYes te vs σ H Q := by
  refine hl _ ⟨z, rfl, fun D hD => lc_it (walk_str (z := z)) (fun i H' => Same H H' ∧ H' D = some (.lst ((z.cps.toList.take i).map f))) ⟨My.Same.new (Same.refl H) hD, upd_same⟩ (fun _ _ _ _ => trivial) ?_ ?_⟩
  · rintro i x H' H2 hi ⟨sm, hl'⟩ ⟨rfl, c, hc, rfl⟩
    refine ⟨hw _, ?_⟩
    simp only [tYes, if_true]
    refine he c _ _ sm ⟨_, hl', szl ?_, My.Same.new sm hD, ?_⟩
    · have hz' : z.cps.size ≤ 100000 := hz
      rw [List.length_map, List.length_take]
      omega
    · rw [upd_same]
      have hc' : z.cps.toList[i]? = some c := by rw [Array.getElem?_toList]; exact hc
      rw [take_more hc', List.map_append]
      rfl
  · rintro H' ⟨sm, hl'⟩
    have e : z.cps.toList.take z.cps.size = z.cps.toList := List.take_of_length_le (by simp)
    rw [e] at hl'
    exact hq D H' hD sm hl'
def rAllB : List V → Hp → VK → Prop := fun vs H Q => ∃ a, vs = [.ref a] ∧ ∃ bs : List Bool, H a = some (.lst (bs.map V.bl)) ∧ Q (.bl (bs.all id)) H
theorem rd_allB {a : Addr} {H : Hp} {Q : VK} : rAllB [.ref a] H Q = ∃ bs : List Bool, H a = some (.lst (bs.map V.bl)) ∧ Q (.bl (bs.all id)) H := by
  simp [rAllB]
theorem cr_allB {X : Cx} (hc : X.calm = true) : CallR X (.builtin "all") rAllB := (cr_all hc).imp fun _ _ _ ⟨a, e, bs, h, q⟩ => ⟨a, bs, e, SqL.of h, q⟩
end My

set_option Elab.async false
set_option linter.all false
set_option maxRecDepth 100000
set_option maxHeartbeats 2000000
namespace My
open PySem PySem.Spec PyProof.Rows L2
local macro_rules | `(tactic| walk_at "rd") => `(tactic| simp only [rd_seq, rd_next, rd_brk, rd_cont, rd_asg, rd_gname, rd_var, rd_c, rd_op, rd_un, rd_rI0, rd_rI, rd_rU, rd_test, rd_B, rd_and, rd_or, rd_not, rd_andV, rd_orV, rd_notV, rd_ifx, rd_ifs, rd_drop, rd_ret, rd_nil, rd_cons, rd_cb, rd_tup, rd_lst, rd_call, rd_bm, rd_app, rd_ixLst, rd_ixSq, rd_lenL, rd_lenSq, rd_setLst, rd_sub, rd_neNil, rd_isStr, rd_allB, rd_isBl, rd_inS, rd_chain, rd_chain', L2.wipe, Int.reduceToNat, Int.reduceLE, Int.reduceLT, Nat.reduceLT, Nat.reduceLeDiff, Int.reduceNeg, Int.toNat_natCast, Int.reduceAdd, L2.start, and_assoc, exists_and_left, List.map_cons, List.map_nil, List.length_cons, List.length_nil, List.cons_append, List.nil_append, List.append_nil, List.replicate_succ, List.replicate_zero, List.replicate, List.set_cons_zero, List.set_cons_succ, List.getElem?_cons_zero, List.getElem?_cons_succ, Option.some.injEq, exists_eq_left', exists_eq_left, exists_eq, V.int.injEq, V.ref.injEq, V.str.injEq, V.bl.injEq, HO.lst.injEq, HO.tup.injEq, ex_bl, List.cons.injEq, and_true, true_and, Nat.reduceAdd, Nat.reduceSub, reduceCtorEq, false_and, or_false, exists_false, false_or, decide_eq_true_eq, if_true, if_false, Bool.false_eq_true, Bool.not_true, Bool.not_false, upd_same])
local macro_rules | `(tactic| walk_at "rdh") => `(tactic| simp only [rd_seq, rd_next, rd_brk, rd_cont, rd_asg, rd_gname, rd_var, rd_c, rd_op, rd_un, rd_rI0, rd_rI, rd_rU, rd_test, rd_B, rd_and, rd_or, rd_not, rd_andV, rd_orV, rd_notV, rd_ifx, rd_ifs, rd_drop, rd_ret, rd_nil, rd_cons, rd_cb, rd_tup, rd_lst, rd_call, rd_bm, rd_app, rd_ixLst, rd_ixSq, rd_lenL, rd_lenSq, rd_setLst, rd_sub, rd_neNil, rd_isStr, rd_allB, rd_isBl, rd_inS, rd_chain, rd_chain', L2.wipe, Int.reduceToNat, Int.reduceLE, Int.reduceLT, Nat.reduceLT, Nat.reduceLeDiff, Int.reduceNeg, Int.toNat_natCast, Int.reduceAdd, L2.start, and_assoc, exists_and_left, List.map_cons, List.map_nil, List.length_cons, List.length_nil, List.cons_append, List.nil_append, List.append_nil, List.replicate_succ, List.replicate_zero, List.replicate, List.set_cons_zero, List.set_cons_succ, List.getElem?_cons_zero, List.getElem?_cons_succ, Option.some.injEq, exists_eq_left', exists_eq_left, exists_eq, V.int.injEq, V.ref.injEq, V.str.injEq, V.bl.injEq, HO.lst.injEq, HO.tup.injEq, ex_bl, List.cons.injEq, and_true, true_and, Nat.reduceAdd, Nat.reduceSub, reduceCtorEq, false_and, or_false, exists_false, false_or, decide_eq_true_eq, if_true, if_false, Bool.false_eq_true, Bool.not_true, Bool.not_false, upd_same, *])
abbrev sOne : Stmt := topI 7
abbrev sWrd : Stmt := topI 12
abbrev NOne : List Str := ["value", "words"]
theorem scOne : FnScope NOne ["value", "words"] (defScope sOne) := ⟨rfl, rfl, rfl, by decide +kernel, rfl, by decide +kernel, by decide +kernel⟩
abbrev NWrd : List Str := ["value", "letter"]
theorem scWrd : FnScope NWrd ["value"] (defScope sWrd) := ⟨rfl, rfl, rfl, by decide +kernel, rfl, by decide +kernel, by decide +kernel⟩
def spOne (K : PySem.W.Frag) : Sp := fun vs H Q _ => ∃ (v : V) (a : Addr) (ws : List Str), vs = [v, .ref a] ∧ (tyS H v).isSome = true ∧ SqT K H a (ws.map V.str) ∧ Q (.bl (hasS ws v)) H
def spWrd : Sp := fun vs H Q _ => ∃ v : V, vs = [v] ∧ (tyS H v).isSome = true ∧ (∀ x, v = .str x → x.length ≤ 1000) ∧ ∀ H', Same H H' → Q (.bl (isWord v)) H'
section
variable {P : Program} {w : World} {K : PySem.W.Frag} {mg : Str → Option Value} {base : Heap}
theorem ok_one {f : Addr} {fd : FuncData} (F : Fun K "is_one_of" "is_one_of" sOne f fd) (B : Bn mg) : FnOk P w K mg base CX0 1 f fd ["value", "words"] (spOne K) := by
  refine F.ok scOne (fun vs H Q E h => ?_) (fun cdv A outer s H vs Q E hr h => ?_)
  · obtain ⟨v, a, ws, rfl, _⟩ := h
    rfl
  · obtain ⟨v, a, ws, rfl, ht, hS, q⟩ := h
    refine ⟨_, (pss_one (ps_ret (pe_and (pe_callB call_isStr (by rfl) B.isinstance (by decide +kernel) (pa_cons (pv 0) (pa_cons (pe_tyStr B.str) pa_nil))) (pe_one (pe_cmpR op_inS (pv 0) (pv 1) (by rfl)))))), ?_⟩
    walk_at "rd"
    refine ⟨ht, ?_⟩
    cases v with
    | str x => exact ⟨rfl, ws, hS, q⟩
    | _ => exact q
theorem ok_wrd {f : Addr} {fd : FuncData} (F : Fun K "is_word" "is_word" sWrd f fd) (B : Bn mg) {tk : Tok} (gL : mg "LETTERS" = some (.str letters tk)) : FnOk P w K mg base CX0 1 f fd ["value"] spWrd := by
  refine F.ok scWrd (fun vs H Q E h => ?_) (fun cdv A outer s H vs Q E hr h => ?_)
  · obtain ⟨v, rfl, _⟩ := h
    rfl
  · obtain ⟨v, rfl, ht, hlen, q⟩ := h
    refine ⟨_, (pss_cons (ps_if (PW.pt (pw_or (pt_not (pt_val (pe_callB call_isStr (by rfl) B.isinstance (by decide +kernel) (pa_cons (pv 0) (pa_cons (pe_tyStr B.str) pa_nil))))) (pw_or1 (pt_not (pt_chain op_le op_le pe_int (pe_callB call_len_str (by rfl) B.len (by decide +kernel) (pa_cons (pv 0) pa_nil)) pe_int)))))
        (pss_one (ps_ret pe_bl))
        pss_nil)
      (pss_one (ps_ret (pe_callB (cr_allB rfl) (by rfl) B.all (by decide +kernel) (pa_cons (pe_lc (own := [("letter", 1)]) (g := gName 1) rfl scWrd.nd (pi_str (pv 0)) (blkOk_by (own := [("letter", 1)]) (N := NWrd) (sc := defScope sWrd) (by decide +kernel)) (fun _ _ _ _ _ => pg_name (i := 1) scWrd.nd rfl (Or.inl rfl)) (fun _ _ _ _ _ => pts_nil) (fun _ _ _ _ _ => (pe_cmpR op_in_sign (pv 1) (pe_gS gL) (by rfl)))) pa_nil))))), ?_⟩
    walk_at "rd"
    refine ⟨ht, ?_⟩
    cases v with
    | str x =>
      have hx := hlen x rfl
      refine ⟨x, rfl, sz (by omega), ?_⟩
      have e : isWord (.str x) = ((decide (1 ≤ x.length) && decide (x.length ≤ 8)) && x.cps.toList.all fun c => decide (c ∈ letters.cps.toList)) := rfl
      split
      · rename_i h1
        split
        · rename_i h2
          have h2' : ¬ x.length ≤ 8 := by
            simp at h2
            omega
          have z := q H (Same.refl H)
          rw [e, decide_eq_false h2'] at z
          simpa using z
        · rename_i h2
          have h2' : x.length ≤ 8 := by
            simp at h2
            omega
          refine lc_str (fun c => .bl (decide (c ∈ letters.cps.toList))) (by omega) (fun Q q => ⟨_, rfl, q⟩) (fun _ => rfl) (fun c H' R sm r => ?_) (fun D H' hD sm hl => ?_)
          · walk_at "rd"
            exact ⟨c, rfl, r⟩
          · walk_at "rd"
            refine ⟨x.cps.toList.map fun c => decide (c ∈ letters.cps.toList), by rw [hl, List.map_map]; rfl, ?_⟩
            have z := q H' sm
            rw [e, decide_eq_true (show 1 ≤ x.length by omega), decide_eq_true h2'] at z
            rw [List.all_map]
            exact z
      · rename_i h1
        have h1' : ¬ 1 ≤ x.length := by omega
        have z := q H (Same.refl H)
        rw [e, decide_eq_false h1'] at z
        simpa using z
    | _ => exact q H (Same.refl H)
end
end My

set_option Elab.async false
set_option linter.all false
set_option maxRecDepth 100000
set_option maxHeartbeats 2000000
namespace My
open PySem PySem.Spec PyProof.Rows L2
/-- an error class of the module with one field, made by its own __init__ at fI -/
structure Xc (K : PySem.W.Frag) (mg : Str → Option Value) (nm fld qual : Str) (st : Stmt) where
  C : Addr
  fI : Addr
  fd : FuncData
  oex : OexC K C
  iC : PySem.W.findIn K (.ref C) "__init__" = some (some (.ref fI))
  tI : PySem.W.typeIn K (.ref fI) = some (.type "function")
  F : Fun K "__init__" qual st fI fd
  b : Binds K fd ["self", fld] []
  g : mg nm = some (.ref C)
  no : PySem.W.findIn K (.ref C) fld = some none
  xf : XfC K C
/-- what its __init__ promises -/
def spXi (C : Addr) (fld : Str) : Sp := fun vs H Q _ => ∃ (a : Addr) (v : V), vs = [.ref a, v] ∧ H a = some (exo a C none) ∧ ∀ dx, H dx = none → dx ≠ a → Q .non (upd (upd H dx (exd dx [(fld, v)])) a (exo a C (some dx)))
/-- raise C(text): E is wished of the class, the new dict d that holds the field, and a heap in which all else is as it was -/
def tRz (C : Addr) (fld m : Str) (W : WX) : TS := fun _ σ H => ∀ d H', H d = none → Same H H' → H' d = some (.xd [(fld, .str m)]) → W (.ref C) (some d) σ H'
theorem ps_rz {X : Cx} {nm fld qual m : Str} {st : Stmt} {W : WX} {k j : Nat} {p p2 pos pos2 : Pos} (T : Xc X.K X.mg nm fld qual st) (F1 : FnOk X.prog X.w X.K X.mg X.base CX0 k T.fI T.fd ["self", fld] (spXi T.C fld)) (hc : X.calm = true) (hr : Room (k + 1) X.A) (tk : Takes X W)
    (hg : Gl X nm := by rfl) (hdb : (nm == ("__debug__" : Str)) = false := by decide +kernel)
    (he : starEach (.Constant (.str m) j p2 :: []) X.env = (false, eval (.Constant (.str m) j p2) X.env) :: starEach [] X.env := by rfl) (hpl : (backTo pos (starEach [] X.env)).any (·.1) = false := by rfl) :
    PS X (.Raise (some (.Call (.Name nm p) [.Constant (.str m) j p2] [] pos)) none pos2) (tRz T.C fld m W) := by
  refine PS.imp (ps_raise hc tk (pmk_oex T.oex T.iC T.tI F1 hr T.b .nil pass0 hg T.g (pa_cons pe_str pa_nil) hdb he hpl)) fun D σ H q => ?_
  show _ ∧ _
  refine ⟨by show 1 ≤ 1000; decide, fun a ha => ⟨a, .str m, rfl, upd_same, fun dx hdx hne => ?_⟩⟩
  have hdx' : H dx = none := by rw [upd_ne hne] at hdx; exact hdx
  refine ⟨rfl, dx, [(fld, .str m)], upd_same, by rw [upd_ne hne, upd_same], hdx', ?_⟩
  refine q dx _ hdx' (fun b o e => ?_) upd_same
  have h1 : b ≠ dx := ne_of_none e hdx'
  have h2 : b ≠ a := ne_of_none e ha
  rw [upd_ne h1, del_ne h2, upd_ne h2, upd_ne h1, upd_ne h2]
  exact e
/-- what a call in a try's body may let out: wished at all slots -/
theorem passAll {X : Cx} {W : WX} (tk : Takes X W) : Passes (L2.CX X.prog X.w) X (fun cls d H => ∀ σ : L2.St, σ.length = X.N.length → W cls d σ H) := fun pins σ H s e s' I c => tk e s' (XE.of_call I (fun _ _ _ h => h σ I.len) c)
end My

set_option Elab.async false
set_option linter.all false
set_option maxRecDepth 100000
set_option maxHeartbeats 2000000
namespace My
open PySem PySem.Spec PyProof.Rows L2
theorem rd_fldS {K : PySem.W.Frag} {ta tv : TE} {f : Str} {D : Ends} {σ : L2.St} {H : Hp} : sFld K ta tv f D σ H = tv σ H fun y H1 => ta σ H1 fun x H2 => ∃ a C dx fs, x = .ref a ∧ H2 a = some (.ins C dx fs) ∧ Cls K C ∧ NoAttr K C f ∧ fs.length < 1000 ∧ D.nx σ (upd H2 a (.ins C dx (putF f y fs))) := by
  unfold sFld
  rfl
theorem rd_fldE {K : PySem.W.Frag} {ta : TE} {f : Str} {σ : L2.St} {H : Hp} {Q : VK} : tFld K ta f σ H Q = ta σ H fun x H1 => ∃ a C dx fs v, x = .ref a ∧ H1 a = some (.ins C dx fs) ∧ Cls K C ∧ NoAttr K C f ∧ fs.lookup f = some v ∧ Q v H1 := rfl
theorem rd_eq {x y : V} {H : Hp} {Q : VK} : L2.rEq x y H Q = (scal x y = true ∧ Q (.bl (decide (x = y))) H) := rfl
theorem rd_ne {x y : V} {H : Hp} {Q : VK} : L2.rNe x y H Q = (scal x y = true ∧ Q (.bl (!decide (x = y))) H) := rfl
theorem rd_rz {C : Addr} {fld m : Str} {W : WX} {D : Ends} {σ : L2.St} {H : Hp} : tRz C fld m W D σ H = ∀ d H', H d = none → Same H H' → H' d = some (.xd [(fld, .str m)]) → W (.ref C) (some d) σ H' := rfl
theorem tyS_same {H H' : Hp} {v : V} (e : Same H H') (h : (tyS H v).isSome = true) : (tyS H' v).isSome = true := by
  cases v with
  | ref a =>
    obtain ⟨t, ht⟩ := Option.isSome_iff_exists.mp h
    rcases tyO_cases (show tyO (H a) = some t from ht) with ⟨xs, z, _⟩ | ⟨xs, z, _⟩ | ⟨xs, z, _⟩
    all_goals
      show (tyO (H' a)).isSome = true
      rw [e a _ z]
      rfl
  | _ => exact h
/-- a value whose type is known; a text is short -/
def Ty (H : Hp) (v : V) : Prop := (tyS H v).isSome = true ∧ ∀ x, v = .str x → x.length ≤ 1000
theorem Ty.same {H H' : Hp} {v : V} (h : Ty H v) (e : Same H H') : Ty H' v := ⟨tyS_same e h.1, h.2⟩
end My

set_option Elab.async false
set_option linter.all false
set_option maxRecDepth 100000
set_option maxHeartbeats 4000000
namespace PySem.W
open PySem PySem.Spec PySem.Calls PyProof.Rows
/-- isinstance says True by the type alone: nothing else is asked of the object -/
theorem ans_yes {K : Frag} {x t c : Value} {G : Heap → Prop}
    (ty : ∀ (M : Model) (h : Heap), K.In h → G h → Looks M h (typeOf x) t)
    (ne : (t == c) = false) (e : kitCls K t c = some true) :
    Answers (fun s => K.In s.heap ∧ G s.heap) x c true := by
  intro dep tk prog w A R ⟨h0, g, d, tt, os⟩ ⟨⟨KX, p⟩, fin⟩
  have L1 := ty (model prog w) h0 KX p
  have L2 := kit_cls (M := model prog w) KX e
  unfold Builtin.«isinstance.nested»
  refine wpAny_bind (L1.at ?_)
  rw [ne]
  rw [if_neg Bool.false_ne_true]
  refine wpAny_bind (L2.1.at ?_)
  rw [if_pos (by decide)]
  k_delta "plainIsInstance"
  refine wpAny_bind ?_
  refine wpAny_bind (L2.2.1.at ?_)
  simp only [Bool.not_true, Bool.false_eq_true, if_false]
  have L3 : Looks (model prog w) h0 (isInstance x c) true := L1.andThen L2.2.2
  refine wpAny_bind (L3.at ?_)
  have done := fin tt
  first
    | exact wpAny_pure (wpAny_pure done)
    | (simp only [if_true]; exact wpAny_pure (wpAny_pure done))
    | (simp only [if_true]; exact wpAny_pure done)
    | (simp only [if_true]; exact wpAny_bind (wpAny_pure (wpAny_pure done)))
end PySem.W
namespace My
open PySem PySem.Spec PyProof.Rows L2
/-- isinstance(e, c), e the caught error, its class another one below c -/
def rIsUp (D a : Addr) : List V → Hp → VK → Prop := fun vs H Q => ∃ c : Addr, vs = [.ref a, .ref c] ∧ Q (.bl true) H
theorem call_isUp {X : Cx} {a D c : Addr} {oe : Obj} {pn : List (Addr × Obj)} {d : Option Addr} {cls : Value} (hz : Zc cls d oe) (hne : D ≠ c) (e : PySem.W.kitCls X.K (.ref D) (.ref c) = some true) :
    CallR (X.suite a ((a, oe) :: pn)) (.builtin "isinstance") (fun vs H Q => cls = .ref D ∧ vs = [.ref a, .ref c] ∧ Q (.bl true) H) := by
  intro pins s σ H xs us Q I r h
  obtain ⟨ec, rfl, q⟩ := h
  subst ec
  obtain ⟨u1, u2, rfl, r1, r2⟩ := vals2 r
  cases (show u1 = Value.ref a from r1)
  cases (show u2 = Value.ref c from r2)
  obtain ⟨hget, _⟩ := I.pin (a, oe) (List.mem_append.mpr (.inl List.mem_cons_self))
  have ty : ∀ (M : Model) (h : Heap), X.K.In h → h.get? a = some oe → PySem.W.Looks M h (typeOf (.ref a)) (.ref D) := fun M h _ ho A Q E s k q => wpAny_typeOf_ref (k _ _ ho) (by rw [hz.1]; exact q)
  have ne : (Value.ref D == Value.ref c) = false := by simpa using hne
  exact PySem.call_isinstance (S := fun _ R s' => (X.K.In s'.heap ∧ s'.heap.get? a = some oe) ∧ ∀ tk, R (.ok (.ret (.bool true))) { s' with toks := tk })
    (fun prog w A R s' hs => PySem.isinstance_outer (PySem.W.ans_yes (K := X.K) (G := fun h => h.get? a = some oe) ty ne e 0 _ prog w A R s' hs) (fun z => nomatch z)) ⟨⟨I.kIn, hget⟩, fun tk => ⟨.bl true, H, I.kept (t' := tk) fun _ _ z => z, rfl, q⟩⟩
end My

set_option Elab.async false
set_option linter.all false
set_option maxRecDepth 100000
set_option maxHeartbeats 2000000
namespace My
open PySem PySem.Spec PyProof.Rows L2
section
variable {X : Cx}
/-- d[k], d a dict that stands in H, k a text that is there -/
def tDg (td ty : TE) : TE := fun σ H Q => td σ H fun x H1 => ty σ H1 fun y H2 => ∃ a k, x = .ref a ∧ y = .str k ∧ ∃ kvs : List (Key × V), H2 a = some (.dK kvs) ∧ ∃ v, valV kvs (Sum.inr k) = some v ∧ Q v H2
theorem rd_dg {td ty : TE} {σ : L2.St} {H : Hp} {Q : VK} : tDg td ty σ H Q = td σ H fun x H1 => ty σ H1 fun y H2 => ∃ a k, x = .ref a ∧ y = .str k ∧ ∃ kvs : List (Key × V), H2 a = some (.dK kvs) ∧ ∃ v, valV kvs (Sum.inr k) = some v ∧ Q v H2 := rfl
theorem pe_dg {o i : Expr} {td ty : TE} {pos : Pos} (hu : X.A.units + 64 < cLine) (ho : PE X o td) (hi : PE X i ty) (hs : NoSl i := by exact fun _ _ => rfl) : PE X (.Subscript o i pos) (tDg td ty) :=
  (pe_dget (by omega) ho.mon hi.mon hs).imp fun σ H Q q => ⟨_, q, fun x H1 q1 => ⟨_, q1, fun y H2 ⟨a, k, ex, ey, kvs, ha, v, hv, q2⟩ => ⟨a, v, ex, .inl ⟨kvs, Sum.inr k, .inl ha, ey, hv.symm⟩, q2⟩⟩⟩
/-- d[k] = v -/
def sDp (td ty tv : TE) : TS := fun D σ H => tv σ H fun v H1 => td σ H1 fun x H2 => ty σ H2 fun y H3 => ∃ a k, x = .ref a ∧ y = .str k ∧ ∃ kvs : List (Key × V), H3 a = some (.dK kvs) ∧ kvs.length < sizeLine ∧ D.nx σ (upd H3 a (.dK (putK kvs (Sum.inr k) v)))
theorem rd_dp {td ty tv : TE} {σ : L2.St} {H : Hp} {D : Ends} : sDp td ty tv D σ H = tv σ H fun v H1 => td σ H1 fun x H2 => ty σ H2 fun y H3 => ∃ a k, x = .ref a ∧ y = .str k ∧ ∃ kvs : List (Key × V), H3 a = some (.dK kvs) ∧ kvs.length < sizeLine ∧ D.nx σ (upd H3 a (.dK (putK kvs (Sum.inr k) v))) := rfl
theorem ps_dp {o i value : Expr} {td ty tv : TE} {pos pos' : Pos} (hu : X.A.units + 64 < cLine) (ho : PE X o td) (hi : PE X i ty) (hv : PE X value tv) (hs : swapsWith value (some (.Subscript o i pos')) pos.line X.env = pure false := by rfl) : PS X (.Assign [.Subscript o i pos'] value pos) (sDp td ty tv) :=
  (ps_dput (by omega) ho.mon hi.mon hv.mon hs).imp fun D σ H q => ⟨_, q, fun v H1 q1 => ⟨_, q1, fun x H2 q2 => ⟨_, q2, fun y H3 ⟨a, k, ex, ey, kvs, ha, hz, q3⟩ => ⟨a, _, ex, .inl ⟨kvs, Sum.inr k, ha, ey, hz, rfl⟩, q3⟩⟩⟩⟩
end
theorem put_len (kvs : List (Key × V)) (k : Key) (v : V) : (putK kvs k v).length ≤ kvs.length + 1 := by
  unfold putK
  split
  · rw [List.length_map]; omega
  · rw [List.length_append]; exact Nat.le_refl _
end My

set_option Elab.async false
set_option linter.all false
set_option maxRecDepth 100000
set_option maxHeartbeats 2000000
namespace My
open PySem PySem.Spec PyProof.Rows L2
/-- repr(a), a a list or tuple of plain values (the caller writes no text at the time: guards) -/
def rRepr (K : PySem.W.Frag) : List V → Hp → VK → Prop := fun vs H Q => ∃ (a : Addr) (d : PyData), vs = [.ref a] ∧ Dp K H (.ref a) d ∧ d.showable = true ∧ d.hasDict = false ∧ d.depth ≤ 3 ∧ d.shown.length ≤ 100000 ∧ Q (.str d.shown) H
theorem rd_repr {K : PySem.W.Frag} {a : Addr} {H : Hp} {Q : VK} : rRepr K [.ref a] H Q = ∃ (d : PyData), Dp K H (.ref a) d ∧ d.showable = true ∧ d.hasDict = false ∧ d.depth ≤ 3 ∧ d.shown.length ≤ 100000 ∧ Q (.str d.shown) H := by
  simp [rRepr]
theorem call_repr {X : Cx} (hg : X.A.guards = some []) (hu : X.A.units + 64 < cLine) : CallR X (.builtin "repr") (rRepr X.K) := by
  intro pins s σ H xs us Q I r h
  obtain ⟨a, d, rfl, hd, hs, hn, hp, hl, q⟩ := h
  cases r with
  | cons r1 r2 =>
    cases r2
    cases r1
    obtain ⟨as, rr⟩ := Dp.reads I d _ _ hd rfl
    exact repr_of_reads' rr hs (fun z => by rw [hn] at z; cases z) hg (by omega) (fun _ _ e => e) (fun h' u tk hk => ⟨.str d.shown, H, I.kept hk, ⟨u, rfl⟩, q⟩) (sz hl)
/-! ### the law's def, called by the judge alone: nothing is being written as text -/
/-- the promise of a def at the one place where the law is called -/
def AtTop (P : Program) (w : World) (K : PySem.W.Frag) (mg : Str → Option Value) (base : Heap) (f : Addr) (fd : FuncData) (ps : List Str) (sp : Sp) : Prop :=
  ∀ (s : Shared) (H : Hp) (as : Args) (us : List Value) (vs : List V) (Q : VK) (E : XK), Env0 P w K mg base callerA [] s H → BindsTo s fd as (ps.zip us) → Vals vs us → sp vs H Q E → codeAny (model P w) callerA (.call (.ref f) as) (CR CX0 [] P w H s Q E) s
theorem top_ok {P : Program} {w : World} {K : PySem.W.Frag} {mg : Str → Option Value} {base : Heap} {nm qual : Str} {st : Stmt} {f : Addr} {fd : FuncData} {N ps : List Str} {sp : Sp} {k : Nat} (F : Fun K nm qual st f fd) (S : FnScope N ps (defScope st))
    (rm : Room (k + 1) callerA) (ln : ∀ vs H Q E, sp vs H Q E → vs.length = ps.length)
    (bd : ∀ (cdv : Value) (s : Shared) (H : Hp) (vs : List V) (Q : VK) (E : XK), Room k (callerA.deeper (envOfC qual (defScope st) s.heap.objs.size f cdv)) → sp vs H Q E →
      ∃ t, PSs (cxOf CX0 P w K mg base N qual (defScope st) f cdv callerA [] s H E).nox (defBody st) t ∧ t { nx := fun _ H' => Q .non H', rt := Q } (start N vs) H) : AtTop P w K mg base f fd ps sp := by
  intro s H as us vs Q E env bt rv hs
  have hX := F.ex
  obtain ⟨oc, od, kV, doc, pm, an, cdv, ct, osl, efd, hlk, hcode⟩ := hX
  subst efd
  have nvs := ln _ _ _ _ hs
  have old := fun b o e => (env.bs b o e).1
  have inK : K.In s.heap := env.mod.kin.keeps old
  have lims : s.heap.NoLimit := env.mod.nolimit.keeps old
  have kinds : ∀ z ∈ ps.zip us, (defScope st).names.lookup z.1 = some .local ∨ ((defScope st).names.lookup z.1 = some .cell ∧ ((cellsFrom (s.heap.objs.size + 1) (defScope st).names []).lookup z.1).isSome = true) := by
    intro z hz
    have zin := (List.of_mem_zip (a := z.1) (b := z.2) hz).1
    exact (S.par z.1 zin).imp id fun c => ⟨c, PySem.W.cellsFrom_some _ _ _ (.inl c)⟩
  refine codeAny_call_function rm.depth (inK _ _ hlk) rfl S.co S.gen rfl (PySem.W.codeRec_of inK hcode) ?body
  refine bt _ _ _ _ ?bound
  refine wpAny_newFunctionEnv_cells S.kind kinds ?made
  intro env1 e1 st1 made
  subst e1
  obtain ⟨t, ht, hq⟩ := bd cdv s H vs Q E (rm.deeper _) hs
  have I := inv_start (CX := CX0) (E := E) S rm.hd env nvs rv made
  refine ⟨lims.keeps made.toInCall.keep, codeAny_func (wpAny_mono ((ht.nox).run [] st1 (start N vs) H _ I hq) ?_ fun _ _ z => z)⟩
  intro fl s' out
  cases fl with
  | brk => exact out.elim fun _ z => z.elim fun _ z => z.2.elim
  | cont => exact out.elim fun _ z => z.elim fun _ z => z.2.elim
  | next =>
    obtain ⟨_, H', J, q⟩ := out
    exact ⟨V.non, H', J.os, J.bare, J.base, J.hok, rfl, q⟩
  | ret u =>
    obtain ⟨v, _, H', J, rv', q⟩ := out
    exact ⟨v, H', J.os, J.bare, J.base, J.hok, rv', q⟩
end My

set_option Elab.async false
set_option linter.all false
set_option maxRecDepth 100000
set_option maxHeartbeats 2000000
namespace My
open PySem PySem.Spec PyProof.Rows L2
section
variable {P : Program} {w : World} {K : PySem.W.Frag} {mg mb : Str → Option Value} {lawA scr : Addr} {fd : FuncData} {par : Str} {sp : Sp} {st : Shared} {its : List Value} {nums : List Int}
/-- what the judge's call tells -/
abbrev Told (st : Shared) (r : Result) (st' : Shared) : Prop := r = .ok (.ret (.bool true)) ∧ OldK st.heap st'.heap ∧ st'.os = st.os ∧ AllBare st'.gens
/-- from any abstract heap that holds no more than the script -/
theorem top_at (inK : K.In st.heap) (gl : st.heap.Ns mainGlobals mg) (bn : st.heap.Ns builtinsNs mb) (boot : ∀ n : Str, n ≠ "__name__" → mb n = bootBuiltins n) (free : st.heap.NoLimit) (noGen : st.gens = #[])
    (scrO : st.heap.get? scr = some { cls := .type "list", data := .seq its.toArray }) (F : ∀ base : Heap, K.In base → base.Ns mainGlobals mg → AtTop P w K mg base lawA fd [par] sp) (bnd : ∀ (s : Shared) (u : Value), BindsTo s fd ⟨[u], []⟩ [(par, u)])
    {H : Hp} (few : ∀ b, H b = none ∨ (b = scr ∧ ∃ o xs, H b = some (.frz o (.lst xs)))) (apart : ∀ b, H b ≠ none → K.lookup b = none) (good : HOk P w H st.heap) (hsp : sp [.ref scr] H (fun v _ => v = .bl true) fun _ _ _ => False) :
    codeAny (model P w) callerA (.call (.ref lawA) ⟨[.ref scr], []⟩) (Told st) st := by
  have sees := fun {b : Addr} {o : Obj} (e : st.heap.get? b = some o) (z : H b = none) => hidT_get (H := H) e z
  have kIn : K.In (hidT st.heap H) := by
    intro b o e
    refine sees (inK b o e) (Classical.byContradiction fun z => ?_)
    rw [apart b z] at e
    cases e
  have nsIn : ∀ {b : Addr} {m : Str → Option Value}, st.heap.Ns b m → (hidT st.heap H).Ns b m := by
    rintro b m ⟨o, es, ep, e, d, r⟩
    refine ⟨o, es, ep, sees e ?_, d, r⟩
    rcases few b with z | ⟨rfl, _⟩
    · exact z
    · obtain rfl := Option.some.inj (e.symm.trans scrO)
      have d2 : Data.seq its.toArray _ = Data.dict es ep := d
      cases d2
  obtain ⟨ml, fr1, fr2⟩ := free
  have env : Env0 P w K mg (hidT st.heap H) callerA [] st H := by
    refine ⟨rfl, ⟨kIn, nsIn gl, ⟨mb, nsIn bn, boot⟩, ⟨ml, nsIn fr1, fr2⟩⟩, fun _ _ e => of_hidT e, Nat.le_of_eq (hidT_size _ _), trivial, ?_, good, .of_eq noGen⟩
    intro b hb
    have hb' : b ∈ ([] : List Addr) := hb
    cases hb'
  have run := F _ kIn (nsIn gl) st H ⟨[.ref scr], []⟩ [.ref scr] [.ref scr] _ _ env (bnd st _) (.cons rfl .nil) hsp
  refine codeAny_mono run fun r st' out => ?_
  match r, out with
  | .ok (.ret u), ⟨v, H2, os, bare, un, good2, rel, q⟩ =>
    have ev : v = .bl true := q
    rw [ev] at rel
    have eu : u = Value.bool true := rel
    refine ⟨by rw [eu], OldK.of_keep fun b o e => ?_, os, bare⟩
    rcases few b with z | ⟨_, ob, xs, z⟩
    · refine un.keep b o e z (fun m => ?_) (fun m => ?_)
      · have m' : b ∈ ([] : List Addr) := m
        cases m'
      · simp at m
    · have kept := (good2 b _ (un.frzs b ob _ z)).1
      have was := (good b _ z).1
      exact (e.symm.trans was) ▸ kept
theorem top_call (inK : K.In st.heap) (gl : st.heap.Ns mainGlobals mg) (bn : st.heap.Ns builtinsNs mb) (boot : ∀ n : Str, n ≠ "__name__" → mb n = bootBuiltins n) (free : st.heap.NoLimit) (noGen : st.gens = #[])
    (scrO : st.heap.get? scr = some { cls := .type "list", data := .seq its.toArray }) (nrs : IntsAre its nums) (short : nums.length ≤ sizeLine) (F : ∀ base : Heap, K.In base → base.Ns mainGlobals mg → AtTop P w K mg base lawA fd [par] sp)
    (bnd : ∀ (s : Shared) (u : Value), BindsTo s fd ⟨[u], []⟩ [(par, u)]) (hsp : ∀ H : Hp, SqL K H scr (nums.map V.int) → sp [.ref scr] H (fun v _ => v = .bl true) fun _ _ _ => False) :
    codeAny (model P w) callerA (.call (.ref lawA) ⟨[.ref scr], []⟩) (Told st) st := by
  have vals := vals_ints nrs
  cases look : K.lookup scr with
  | some o =>
    obtain rfl := Option.some.inj ((inK scr o look).symm.trans scrO)
    refine top_at (H := fun _ => none) inK gl bn boot free noGen scrO F bnd (fun _ => .inl rfl) (fun _ z => absurd rfl z) (fun b u z => ?_) (hsp _ (.inr ⟨_, its.toArray, _, look, rfl, rfl, rfl, ?_, ?_⟩))
    · have z2 : (none : Option HO) = some u := z
      cases z2
    · rw [List.size_toArray, nrs.length]
      exact short
    · exact (by simpa using vals)
  | none =>
    let only : Hp := fun b => if b = scr then some (.frz { cls := .type "list", data := .seq its.toArray } (.lst (nums.map V.int))) else none
    have on : only scr = some (.frz { cls := .type "list", data := .seq its.toArray } (.lst (nums.map V.int))) := if_pos rfl
    have off : ∀ b, b ≠ scr → only b = none := fun b z => if_neg z
    refine top_at (H := only) inK gl bn boot free noGen scrO F bnd (fun b => ?_) (fun b z => ?_) (fun b u z => ?_) (hsp _ (.inl (.inr ⟨_, on⟩)))
    · by_cases e : b = scr
      · exact .inr ⟨e, _, _, e ▸ on⟩
      · exact .inl (off b e)
    · by_cases e : b = scr
      · rw [e]
        exact look
      · exact absurd (off b e) z
    · by_cases e : b = scr
      · subst e
        obtain rfl := Option.some.inj (on.symm.trans z)
        exact ⟨scrO, by rw [List.length_map]; exact short, its, _, vals, scrO⟩
      · rw [off b e] at z
        cases z
end
/-- the head's goal, from the law's promise at the top -/
theorem top_walk {l : PySem.W.OpenLaw} {n : Nat} {q : Program} {loose : List Str} {XP : (Str → Option Value) → Heap → Prop} {YP : World → Heap → Prop} {d : DefRec} {K : Params → PySem.W.Frag} {sp : PySem.W.Frag → Sp} {par : Str} (most : l.most = some n) (few : n ≤ sizeLine) (nod : d.params.defaults = [])
    (yk : ∀ (w : World) (h : Heap), YP w h → (K w.params).In h)
    (F : ∀ (w : World) (mg : Str → Option Value) (fa : Addr) (h : Heap), (K w.params).In h → h.Ns mainGlobals mg → mg d.name = some (.ref fa) →
      ∃ fd : FuncData, (∀ (s : Shared) (u : Value), BindsTo s fd ⟨[u], []⟩ [(par, u)]) ∧ ∀ base : Heap, (K w.params).In base → base.Ns mainGlobals mg → AtTop l.prog w (K w.params) mg base fa fd [par] (sp (K w.params)))
    (hsp : ∀ (K : PySem.W.Frag) (H : Hp) (a : Addr) (ns : List Int), ns.length ≤ n → SqL K H a (ns.map V.int) → sp K [.ref a] H (fun v _ => v = .bl true) fun _ _ _ => False) :
    PySem.W.WalkO q loose XP YP l.row.toRowW d [] (fun f vs => PySem.call f vs) :=
  Att.attach_call most nod fun w _ s₁ mg mb fa _ _ _ _ a vs ns G Y _ _ _ name obj nrs len none => by
    obtain ⟨fd, bnd, run⟩ := F w mg fa _ (yk w _ Y) G.T.g name
    exact top_call (yk w _ Y) G.T.g G.T.b G.T.builtins G.T.nolimit none obj nrs (Nat.le_trans len few) run bnd fun H sq => hsp _ H a ns len sq
end My

set_option Elab.async false
set_option linter.all false
set_option maxRecDepth 100000
namespace My
open PySem PySem.Spec PyProof.Rows
/-! ### len(set(texts)), any number of them -/
/-- how many unlike ones the first i are -/
def dn (xs : List Str) : Nat → Nat
  | 0 => 0
  | i + 1 => if (xs.take i).any (· == xs.getD i Str.empty) = true then dn xs i else dn xs i + 1
theorem dn_le (xs : List Str) : ∀ i, dn xs i ≤ i
  | 0 => Nat.le_refl _
  | i + 1 => by
    have h := dn_le xs i
    unfold dn
    split <;> omega
theorem seen_more {xs : List Str} {i : Nat} (h : i < xs.length) (k : Str) : ((xs.take i).any (· == k) || decide (k = xs.getD i Str.empty)) = (xs.take (i + 1)).any (· == k) := by
  have e : xs.getD i Str.empty = xs[i] := by rw [List.getD_eq_getElem?_getD, List.getElem?_eq_getElem h]; rfl
  rw [List.take_succ_eq_append_getElem h, List.any_append, e]
  congr 1
  simp only [List.any_cons, List.any_nil, Bool.or_false]
  exact Bool.eq_iff_iff.mpr ⟨fun z => beq_iff_eq.mpr (of_decide_eq_true z).symm, fun z => decide_eq_true (beq_iff_eq.mp z).symm⟩
section
variable {prog : Program} {w : World} {A : Around} {R : Result → Shared → Prop} {I : Addr} {fp wr : List Addr} {G : Array GenState → Array GenState → Prop} {n : Nat} {P : Nat → Value → Prop} {St : Nat → Shared → Prop}
theorem loopTx (W : WalksS prog w A.in1 I fp wr G n P St) (z : Addr) (out : z ∉ fp) (xs : List Str) (len : xs.length = n) (room : n + 1 < scanBound) (vals : ∀ i v, P i v → ∃ t, v = .str (xs.getD i Str.empty) t) :
    ∀ (left i : Nat) (s : Shared), n - i = left → i ≤ n → St i s → s.heap.SetOf (PySem.strKind prog w) z (fun k => (xs.take i).any (· == k)) (dn xs i) →
      (∀ s', Moved (z :: wr) G s s' → s'.heap.SetOf (PySem.strKind prog w) z (fun k => (xs.take n).any (· == k)) (dn xs n) → R (.ok (.ret .none)) s') →
      codeAny (model prog w) A (.builtin "set.update.loop" ⟨[.ref z, .ref I], []⟩) R s := by
  have outW : z ∉ wr := fun m => out (W.sub _ m)
  have wider : ∀ b ∈ wr, b ∈ z :: wr := fun b m => List.mem_cons_of_mem _ m
  have moved : ∀ {s1 s2 : Shared} {S : Str → Bool} {m : Nat}, Moved wr G s1 s2 → s1.heap.SetOf (PySem.strKind prog w) z S m → s2.heap.SetOf (PySem.strKind prog w) z S m := fun mv ⟨o, es, ep, t, at_, rest⟩ => ⟨o, es, ep, t, mv.heap z _ outW at_, rest⟩
  intro left
  induction left with
  | zero =>
    intro i s e1 e2 st set fin
    obtain rfl : i = n := by omega
    refine codeAny_builtin F.entry_set_update_loop ?_
    rw [Around.under_plainId F.plain_set_update_loop _]
    exact wpAny_bind (W.done s _ _ st fun s' mv => wpAny_pure (fin s' (mv.mono wider) (moved mv set)))
  | succ left ih =>
    intro i s e1 e2 st set fin
    have more : i < n := by omega
    refine codeAny_builtin F.entry_set_update_loop ?_
    rw [Around.under_plainId F.plain_set_update_loop _]
    refine wpAny_bind (W.item i s _ _ more st fun v s' pv st' mv => ?_)
    obtain ⟨t, rfl⟩ := vals i v pv
    refine wpAny_bind (wpAny_holding ?_)
    unfold setAdd
    refine wpAny_holding (wpAny_bind ((PySem.strKind prog w).pyHash (k := xs.getD i Str.empty) (strKind_is _ _ _ _) ?_))
    have set1 := moved mv set
    have fits : dn xs i + 1 < scanBound := by have := dn_le xs i; omega
    refine wpAny_setAddHashed_of (knd := PySem.strKind prog w) (s := { s' with toks := s'.toks + 1 }) (strKind_is _ _ _ _) rfl set1 fits fun h' same set2 => ?_
    have set3 : h'.SetOf (PySem.strKind prog w) z (fun k => (xs.take (i + 1)).any (· == k)) (dn xs (i + 1)) := by
      refine SetOf_congr set2 (fun k => seen_more (by omega) k) ?_
      show _ = if _ then _ else _
      rfl
    refine wpAny_pure ⟨plainId_quiet F.plain_set_update_loop _, ih (i + 1) _ (by omega) more (W.frame _ s' _ _ st' (Nat.le_succ _) fun b m o e => ?_) set3 fun s'' mv2 set4 => ?_⟩
    · rw [same.2 b (fun q : b = z => out (q ▸ m))]
      exact e
    · refine fin s'' (Moved.trans W.gtrans ((mv.mono wider).then_heap (Nat.le_succ _) fun b o m e => ?_) mv2) set4
      rw [same.2 b (fun q : b = z => m (q ▸ List.mem_cons_self))]
      exact e
end
end My

set_option Elab.async false
set_option linter.all false
set_option maxRecDepth 100000
set_option maxHeartbeats 2000000
namespace My
open PySem PySem.Spec PyProof.Rows L2
/-! ### a list or a tuple, walked -/
def iAny (K : PySem.W.Frag) (tl : TE) : TI := fun σ H R => tl σ H fun x H1 => ∃ a, x = .ref a ∧ (((∃ xs, SqL K H1 a xs) ∧ R (Itl K a) H1) ∨ ((∃ xs, SqT K H1 a xs) ∧ R (Itt K a) H1))
theorem pi_any {X : Cx} {tg l : Expr} {tl : TE} (hl : PE X l tl) : PI X tg l (iAny X.K tl) := by
  constructor
  intro pins s σ H R I h
  refine thn (hl.run pins s σ H _ I h) ?_
  rintro v st ⟨x, H1, J, rx, a, rfl, way⟩
  obtain rfl : v = Value.ref a := rx
  have fresh : ∀ b ∈ [st.heap.objs.size], FpOk X pins H1 b := fun b hb => by
    obtain rfl : b = st.heap.objs.size := by simpa using hb
    exact J.fpOk (Nat.le_refl _) (J.hok.fresh (Nat.le_refl _))
  rcases way with ⟨⟨xs, hq⟩, q⟩ | ⟨⟨xs, hq⟩, q⟩
  · obtain ⟨its, _, pl, _⟩ := J.list hq
    refine wpAny_pyIter_list pl.isList ⟨st.heap.objs.size, [st.heap.objs.size], _, _, H1, rfl, J.kept (t' := st.toks) fun b o e => Heap.get?_push_of_some _ e, turn_list a _, ⟨_, Heap.get?_push_size _ rfl, rfl, rfl⟩, fresh, q⟩
  · obtain ⟨its, _, pl, _⟩ := J.tuple hq
    refine wpAny_pyIter_tuple (show st.heap.IsTuple a its.toArray from pl) ⟨st.heap.objs.size, [st.heap.objs.size], _, _, H1, rfl, J.kept (t' := st.toks) fun b o e => Heap.get?_push_of_some _ e, turn_tuple a _, ⟨_, Heap.get?_push_size _ rfl, rfl, rfl⟩, fresh, q⟩
end My

set_option Elab.async false
set_option linter.all false
set_option maxRecDepth 100000
set_option maxHeartbeats 2000000
namespace PySem
open Sem (wp)
open AutoSeq1 (wpAny_loadPart')
/-- enumerate(t), t a tuple -/
theorem my_enum_new (t : Addr) (its : Array Value) (n : Nat) (od : Option Addr) (sl : Array (Option Value)) :
    Meets (Builtin.«enumerate.__new__» ⟨[.type "enumerate", .ref t], []⟩) (fun _ R s => s.heap.get? t = some { cls := .type "tuple", dict := od, data := .seq its n, slots := sl } ∧
      R (.ok (.ret (.ref (s.heap.push { cls := .type "tuple_iterator", data := .fields #[.ref t, .int 0 0] }).objs.size)))
        { s with heap := (s.heap.push { cls := .type "tuple_iterator", data := .fields #[.ref t, .int 0 0] }).push { cls := .type "enumerate", data := .fields #[.none, .bool false, .ref s.heap.objs.size, rawInt 0, .none, .none] } }) :=
  .of_wp fun prog w A R st got => by
    obtain ⟨hp, gg, dd, tk, os⟩ := st
    obtain ⟨at_, fin⟩ := got
    have sub := sub_enumerate
    have tup : Heap.IsTuple (Shared.heap ⟨hp, gg, dd, tk, os⟩) t its := ⟨_, at_, rfl, n, rfl⟩
    wp_walk using wpAny_loadPart' at_
    refine wpAny_stack_any fun _ => wpAny_pure ?_
    split
    · rename_i c _ _ _ _ _
      cases (c == Value.type "enumerate") <;>
      · wp_walk using wpAny_loadPart' at_, wpAny_pyIter_tuple tup
        exact ⟨_, rfl, fin⟩
    · wp_walk using wpAny_loadPart' at_, wpAny_pyIter_tuple tup
      exact ⟨_, rfl, fin⟩
theorem my_enum_call {prog : Program} {w : World} {A : Around} {E : Value → Shared → Prop} {s : Shared} {t : Addr} {its : Array Value} {Q : Value → Shared → Prop} (tup : s.heap.IsTuple t its)
    (fin : ∀ h2, IsEnum h2 (s.heap.objs.size + 1) s.heap.objs.size 0 .none → h2.get? s.heap.objs.size = some { cls := .type "tuple_iterator", data := .fields #[.ref t, .int 0 0] } → h2.objs.size = s.heap.objs.size + 2 →
      (∀ b o, s.heap.get? b = some o → h2.get? b = some o) → Q (.ref (s.heap.objs.size + 1)) { s with heap := h2 }) : wpAny (model prog w) A (call (.type "enumerate") [.ref t]) Q E s := by
  obtain ⟨⟨cl, od, dat, sl⟩, at_, hc, n, hd⟩ := tup
  obtain rfl : cl = .type "tuple" := hc
  obtain rfl : dat = .seq its n := hd
  refine callType_new F.called_enumerate (by decide) (F.typeCall_enumerate_1 _) (F.newCall_enumerate_1 _) (fun obj => F.args_object_init_2 obj _) F.entry_enumerate_new (my_enum_new t its n od sl) ⟨at_, ?_⟩
  let it : Obj := { cls := .type "tuple_iterator", data := .fields #[.ref t, .int 0 0] }
  let en : Obj := { cls := .type "enumerate", data := .fields #[.none, .bool false, .ref s.heap.objs.size, rawInt 0, .none, .none] }
  have size : (s.heap.push it).objs.size = s.heap.objs.size + 1 := Heap.size_push ..
  have atE : ((s.heap.push it).push en).get? (s.heap.objs.size + 1) = some en := by
    rw [← size]
    exact Heap.get?_push_size _ rfl
  show Shared.TypeIs _ (.ref (s.heap.push it).objs.size) "enumerate" ∧ Q (.ref (s.heap.push it).objs.size) _
  rw [size]
  exact ⟨⟨_, atE, rfl⟩, fin _ atE (Heap.get?_push_of_some _ (Heap.get?_push_size _ rfl)) (by rw [Heap.size_push, size]) fun b o z => Heap.get?_push_of_some _ (Heap.get?_push_of_some _ z)⟩
end PySem

set_option Elab.async false
set_option linter.all false
set_option maxRecDepth 100000
set_option maxHeartbeats 2000000
namespace My
open PySem PySem.Spec PyProof.Rows L2
/-- the tuple at a, each of its items in a new pair with its place -/
def Iet (K : PySem.W.Frag) (a : Addr) : It :=
  ⟨fun i H => ∃ (xs : List V) (x : V), SqT K H a xs ∧ xs[i]? = some x, fun i H v H' => ∃ T x, v = .ref T ∧ H T = none ∧ H' = upd H T (.tup [.int (i : Nat), x]) ∧ ∀ xs, SqT K H a xs → xs[i]? = some x, fun i H => ∃ xs : List V, SqT K H a xs ∧ xs.length ≤ i⟩
theorem enum_apart {h : Heap} {e it a : Addr} {i : Int} {old : Value} {its : Array Value} (he : IsEnum h e it i old) (ht : h.IsTuple a its) : e ≠ a := by
  rintro rfl
  obtain ⟨o, ho, hc, _⟩ := ht
  unfold IsEnum at he
  rw [ho] at he
  cases he
  exact absurd (show Value.type "enumerate" = Value.type "tuple" from hc) (by decide)
/-- a tuple's iterator that is through -/
theorem end_tup {prog : Program} {w : World} {A : Around} (hh : A.handled = none) (it t : Addr) (its : Array Value) (i : Nat) (hi : its.size ≤ i) : Draws prog w A it [it, t] i (fun _ _ => True) (fun j h => j = i ∧ h.IsTupleIter it t i ∧ h.IsTuple t its) where
  live := fun _ _ st => let ⟨o, ho, _⟩ := st.2.1; ⟨o, ho⟩
  frame := fun _ _ _ st k => ⟨st.1, st.2.1.at fun o e => k it (by simp) o e, st.2.2.at fun o e => k t (by simp) o e⟩
  item := fun j s Q E lt st _ => absurd st.1 (Nat.ne_of_lt lt)
  done := fun s Q E st hE => wpAny_nextOf_tuple_end hh st.2.1 st.2.2 (by simp [hi]) hE
theorem turn_enumT {P : Program} {w : World} {K : PySem.W.Frag} {elts : List Expr} {kk : Nat} {tpos : Pos} (a e it : Addr) :
    Turn P w K (.Tuple elts kk tpos) (Iet K a) [e, it] e (fun i h => (∃ old, IsEnum h e it ((i : Nat) : Int) old) ∧ h.IsTupleIter it a i ∧ e ≠ it ∧ a ≠ it) where
  mem := List.mem_cons_self ..
  obj := by
    rintro i h ⟨⟨old, he⟩, ⟨o, ho, _, hd⟩, _⟩ b hb
    rcases List.mem_cons.mp hb with rfl | hb
    · exact ⟨_, he, fun v q => nomatch q⟩
    · obtain rfl := List.mem_singleton.mp hb
      exact ⟨o, ho, fun v q => by rw [hd] at q; cases q⟩
  keep := by
    rintro i h h2 ⟨⟨old, he⟩, ti, n1, n2⟩ k
    exact ⟨⟨old, k e (List.mem_cons_self ..) _ he⟩, ti.at fun o q => k it (by simp) o q, n1, n2⟩
  item := by
    rintro X rfl rfl rfl calm i pins s σ H E J ok ⟨⟨old, he⟩, ti, n1, n2⟩ ⟨xs, x, hq, hx⟩
    obtain ⟨its, rv, tup, _⟩ := J.tuple hq
    obtain ⟨u, hu, ru⟩ := rv.get hx
    have tup' : s.heap.IsTuple a its.toArray := tup
    have lowE : e < s.heap.objs.size := Heap.lt_size he
    have lowI : it < s.heap.objs.size := by
      obtain ⟨_, q, _⟩ := ti
      exact Heap.lt_size q
    have lt : i < its.toArray.size := by
      have := (List.getElem?_eq_some_iff.mp hu).1
      simpa using this
    refine wpAny_pyNext_enum_itemD (Draws.tuple (show X.A.in1.handled = none from J.ok.hd calm) it a n2 its.toArray) he ⟨ti, tup'⟩ lt n1 (by simp only [List.mem_cons, List.not_mem_nil, or_false, not_or]; exact ⟨n1, enum_apart he tup'⟩) fun y h2 tk got out st2 new size kept => ?_
    obtain rfl : u = y := by
      have e1 : its.toArray[i]? = some u := by simpa using hu
      exact Option.some.inj (e1.symm.trans got)
    refine ⟨_, rfl, wpAny_letOwnedTupleGo_enum (s := { s with heap := h2, toks := tk + 1 }) out fun h3 he3 same => ?_⟩
    have at3 : h3.get? s.heap.objs.size = some { cls := .type "tuple", data := .seq #[.int i tk, u] } := (same.2 _ (Nat.ne_of_gt lowE)).trans new
    have obj : ObjOk X.prog X.w (upd H s.heap.objs.size (.tup [.int (i : Nat), x])) h3 s.heap.objs.size (.tup [.int (i : Nat), x]) := ⟨by show 2 ≤ sizeLine; decide, [.int i tk, u], .cons ⟨_, rfl⟩ (.cons ru .nil), ⟨_, at3, rfl, _, rfl⟩⟩
    have stay : ∀ b o, b ∉ [e, it] → s.heap.get? b = some o → h3.get? b = some o := fun b o nb q => by
      simp only [List.mem_cons, List.not_mem_nil, or_false, not_or] at nb
      exact (same.2 b nb.1).trans (kept b o nb.1 nb.2 q)
    have J1 : Inv X pins σ (upd H s.heap.objs.size (.tup [.int (i : Nat), x])) { s with heap := h3, toks := tk + 1 } := J.turnedNew (ch := [e, it]) stay ok (Nat.le_refl _) obj
    have next : IsEnum h3 e it (((i + 1 : Nat)) : Int) u := by
      have e1 : ((i + 1 : Nat) : Int) = (i : Int) + 1 := by omega
      rw [e1]
      exact he3
    refine ⟨.ref s.heap.objs.size, _, J1, rfl, ⟨_, x, rfl, J.hok.fresh (Nat.le_refl _), rfl, fun ys hy => by rw [J.tuple_inj hy hq]; exact hx⟩, ⟨⟨u, next⟩, st2.1.at fun o q => (same.2 it (Ne.symm n1)).trans q, n1, n2⟩, fun b hb => ?_⟩
    have low : b < s.heap.objs.size := by
      rcases List.mem_cons.mp hb with rfl | hb
      · exact lowE
      · rw [List.mem_singleton.mp hb]
        exact lowI
    rw [upd_ne (Nat.ne_of_lt low)]
    exact (ok b hb).1
  done := by
    rintro X rfl rfl rfl calm i pins s σ H E J ok ⟨⟨old, he⟩, ti, n1, n2⟩ ⟨xs, hq, hx⟩
    obtain ⟨its, rv, tup, _⟩ := J.tuple hq
    obtain ⟨f0, f1, f2, f3, f4, f5⟩ := ok it (by simp)
    have len := rv.length
    exact wpAny_pyNext_enum_endD (end_tup (show X.A.in1.handled = none from J.ok.hd calm) it a its.toArray i (by rw [List.size_toArray, ← len]; exact hx)) he ⟨rfl, ti, (show s.heap.IsTuple a its.toArray from tup)⟩ fun h2 eb => ⟨rfl, J.turned (t' := s.toks) (fun b o hb q => eb b o hb q) f0 f1 f3 f4 f5⟩
  self := fun A i s Q E st h => let ⟨⟨_, he⟩, _⟩ := st; wpAny_pyIter_enum he h
/-- enumerate of a list or a tuple -/
def iEnumAny (K : PySem.W.Frag) (ta : TA) : TI := fun σ H R => ta σ H fun vs H1 => ∃ a xs, vs = [.ref a] ∧ ((SqL K H1 a xs ∧ R (Ite K a) H1) ∨ (SqT K H1 a xs ∧ R (Iet K a) H1))
theorem pi_enumAny {X : Cx} {e : Expr} {ta : TA} {p pos tpos : Pos} {elts : List Expr} {kk : Nat} (hg : Gl X "enumerate") (hm : X.mg "enumerate" = none) (ha : PA X [e] ta) (hs : starEach [e] X.env = [(false, eval e X.env)] := by rfl) :
    PI X (.Tuple elts kk tpos) (.Call (.Name "enumerate" p) [e] [] pos) (iEnumAny X.K ta) := by
  constructor
  intro pins s σ H R I h
  refine Call_ (ld_blt I hg hm boot_enumerate (callWith_type1 (thn (ha.run pos pins s σ H _ I h) ?_) hs rfl))
  rintro us st ⟨vs, H1, J, rr, a, xs, rfl, way⟩
  obtain rfl := Vals.ref1 rr
  have new : ∀ b ∈ [st.heap.objs.size + 1, st.heap.objs.size], FpOk X pins H1 b := fun b hb => by
    have le : st.heap.objs.size ≤ b := by
      rcases List.mem_cons.mp hb with rfl | hb
      · exact Nat.le_succ _
      · rw [List.mem_singleton.mp hb]
        exact Nat.le_refl _
    exact J.fpOk le (J.hok.fresh le)
  rcases way with ⟨hq, q⟩ | ⟨hq, q⟩
  · obtain ⟨its, _, pl, _⟩ := J.list hq
    refine call_enumerate_list pl.isList fun h2 he ti _ kept => wpAny_pyIter_enum he ?_
    exact ⟨st.heap.objs.size + 1, [st.heap.objs.size + 1, st.heap.objs.size], _, _, H1, rfl, J.kept (t' := st.toks) kept, turn_enum a _ _, ⟨⟨.none, he⟩, ti, Nat.succ_ne_self _⟩, new, q⟩
  · obtain ⟨its, _, tup, _⟩ := J.tuple hq
    have tup' : st.heap.IsTuple a its.toArray := tup
    have low : a < st.heap.objs.size := by
      obtain ⟨o, ho, _⟩ := tup'
      exact Heap.lt_size ho
    refine my_enum_call tup' fun h2 he ti _ kept => wpAny_pyIter_enum he ?_
    exact ⟨st.heap.objs.size + 1, [st.heap.objs.size + 1, st.heap.objs.size], _, _, H1, rfl, J.kept (t' := st.toks) kept, turn_enumT a _ _, ⟨⟨.none, he⟩, ⟨_, ti, rfl, rfl⟩, Nat.succ_ne_self _, Nat.ne_of_lt low⟩, new, q⟩
theorem walk_enumT {K : PySem.W.Frag} {a : Addr} {xs : List V} : Walk (Iet K a) xs.length (fun H => SqT K H a xs) (YPair (fun i => some (.int (i : Nat))) (fun i => xs[i]?)) where
  goes := fun i _ hi q => ⟨xs, xs[i], q, List.getElem?_eq_getElem hi⟩
  stops := fun _ q => ⟨xs, q, Nat.le_refl _⟩
  yields := fun i H v H' _ q ⟨T, x, h1, h2, h3, h4⟩ => ⟨T, .int (i : Nat), x, h1, h2, h3, rfl, h4 xs q⟩
end My

set_option Elab.async false
set_option linter.all false
set_option maxRecDepth 100000
set_option maxHeartbeats 2000000
namespace My
open PySem PySem.Spec PyProof.Rows L2
/-- d.items(), a dict of texts and numbers as keys -/
def rItemsK : V → List V → Hp → VK → Prop := fun x xs H Q => ∃ (a : Addr) (kvs : List (Key × V)), x = .ref a ∧ xs = [] ∧ H a = some (.dK kvs) ∧ ∀ p, H p = none → Q (.ref p) (upd H p (DX.itemsO p a))
theorem mt_itemsK {X : Cx} : MtR X "dict.items" rItemsK := by
  rintro pins s σ H x xs v us Q I rx rxs ⟨a, kvs, rfl, rfl, ha, q⟩
  cases rx
  cases rxs
  obtain ⟨_, hd, vs, _, o, es, ep, ho, hx, hdat, _⟩ := dk_of I.hok ha
  refine DT.callItems (es := es) (ep := ep) hd ⟨o, ho, hx, hdat⟩ ?_
  exact ⟨.ref s.heap.objs.size, _, I.laid (t' := s.toks) (o := DX.itemsO s.heap.objs.size a) (fun b u e => Heap.get?_push_of_some _ e) (Nat.le_refl _) (DX.itemsO_ok (Heap.get?_push_size _ rfl)), rfl, q _ (I.hok.fresh (Nat.le_refl _))⟩
abbrev entK (p : Str × Int) : Key × V := (Sum.inr p.1, V.int p.2)
theorem ent_at {P : Program} {w : World} {l : List DictEntry} {vs : List (Key × Value)} (hp : Pairs (mixKind P w) l vs) : ∀ {ks : List (Str × Int)}, KV (ks.map entK) vs → ∀ (j : Nat) (en : DictEntry), l[j]? = some en →
    ∃ (e : Str × Int) (t u : Tok), ks[j]? = some e ∧ en.key = .str e.1 t ∧ en.val = .int e.2 u := by
  induction hp with
  | nil =>
    intro ks _ j en h
    simp at h
  | @cons e0 kv l vs h1 h2 hr ih =>
    intro ks h j en hj
    match ks, h with
    | k :: ks, h =>
      have hk : (Sum.inr k.1 : Key) = kv.1 ∧ RelV (V.int k.2) kv.2 ∧ KV (ks.map entK) vs := by
        have h' : Paired (fun (p : Key × V) (q : Key × Value) => p.1 = q.1 ∧ RelV p.2 q.2) (entK k :: ks.map entK) (kv :: vs) := h
        generalize hx : entK k = x at h'
        cases h' with
        | cons a b =>
          subst hx
          exact ⟨a.1, a.2, b⟩
      obtain ⟨z1, ⟨u, hu⟩, z3⟩ := hk
      cases j with
      | zero =>
        obtain rfl : e0 = en := Option.some.inj hj
        have hi : keyIs (Sum.inr k.1) e0.key = true := by
          rw [z1]
          exact h1
        rcases keyIs_shape hi with ⟨i, t, y1, _⟩ | ⟨x, t, y1, y2⟩
        · cases y1
        · cases y1
          exact ⟨k, t, u, rfl, y2, by rw [h2, hu]⟩
      | succ j => exact ih z3 j en hj
theorem tups_all {h : Heap} {shape : Nat → Bool} : ∀ {vs : List Value}, (∀ v ∈ vs, ∃ f, TupOf h shape v f) → ∃ fs, TupsOf h shape vs fs
  | [], _ => ⟨[], .nil⟩
  | v :: vs, k => by
    obtain ⟨f, hf⟩ := k v (List.mem_cons_self ..)
    obtain ⟨fs, hfs⟩ := tups_all (vs := vs) fun u hu => k u (List.mem_cons_of_mem _ hu)
    exact ⟨f :: fs, .cons hf hfs⟩
/-- a text first, then a number -/
def tn : Nat → Bool := fun i => i == 0
theorem tn_key {h : Heap} {b : Addr} {x : Str} {n : Int} {t u : Tok} (e : h.get? b = some { cls := .type "tuple", data := .seq #[.str x t, .int n u] }) : G.tupKeyC h tn (.ref b) = some [Sum.inr x.cps.toList, Sum.inl n] := G.tupKeyC_of e rfl rfl rfl
theorem tn_of {h : Heap} {b : Addr} {x : Str} {n : Int} {t u : Tok} (e : h.get? b = some { cls := .type "tuple", data := .seq #[.str x t, .int n u] }) : TupOf h tn (.ref b) (.str x t) := ⟨b, _, _, _, rfl, e, rfl, rfl, rfl, (fun z => by cases z), fun _ => ⟨x, t, rfl⟩⟩
theorem tn_le {x y : Str} {m n : Int} (h : (G.tupKindC hp tn).kle [Sum.inr x.cps.toList, Sum.inl m] [Sum.inr y.cps.toList, Sum.inl n]) : ltCps y.cps.toList x.cps.toList = false := by
  have h1 : (strKind.blt y.cps.toList x.cps.toList || _) = false := h
  have h2 := (Bool.or_eq_false_iff.mp h1).1
  rw [ltCps_eq]
  exact h2
/-- sorted(d.items()), d from texts to numbers -/
def rSortItK : List V → Hp → VK → Prop := fun vs H Q => ∃ (p a : Addr) (ks : List (Str × Int)), vs = [.ref p] ∧ H p = some (DX.itemsO p a) ∧ H a = some (.dK (ks.map entK)) ∧ ks.length < 64 ∧
  ∀ (H' : Hp) (l : Addr) (ps : List Addr) (ys : List (Str × Int)), Same H H' → H l = none → ys.Perm ks → ys.Pairwise (fun e f => ltCps f.1.cps.toList e.1.cps.toList = false) → H' l = some (.lst (ps.map V.ref)) →
    Paired (fun b e => H' b = some (.tup [.str e.1, .int e.2])) ps ys → Q (.ref l) H'
end My

set_option Elab.async false
set_option linter.all false
set_option maxRecDepth 100000
set_option maxHeartbeats 2000000
namespace My
open PySem PySem.Spec PyProof.Rows L2
theorem pair_maps {α β γ : Type} {F : β → γ → Prop} {f : α → β} {g : α → γ} : ∀ {zs : List α}, (∀ z ∈ zs, F (f z) (g z)) → Paired F (zs.map f) (zs.map g)
  | [], _ => .nil
  | z :: zs, h => .cons (h z (List.mem_cons_self ..)) (pair_maps fun y hy => h y (List.mem_cons_of_mem _ hy))
theorem cr_sortedItK {X : Cx} (calm : X.calm = true) : CallR X (.builtin "sorted") rSortItK := by
  rintro pins s σ H xs us Q I r ⟨p, a, ks, rfl, hp, ha, few, q⟩
  obtain rfl := Vals.ref1 r
  have view : s.heap.IsItemsView p a := (show ObjOk X.prog X.w H s.heap p (DX.itemsO p a) from I.hok p _ hp).1
  obtain ⟨_, hd, vs, rel, o, es, ep, ho, hx, hdat, _, prs, _⟩ := dk_of I.hok ha
  have len1 : es.size = ks.length := by
    have e1 := prs.length
    have e2 : (ks.map entK).length = vs.length := Paired.length rel
    rw [List.length_map] at e2
    rw [Array.length_toList] at e1
    omega
  refine DT.sortedI (es := es) (ep := ep) (I.ok.hd calm) view ⟨o, ho, hx, hdat⟩ (by rw [sizeLine_eq]; omega) fun h1 tk as kept grown lenA made => ?_
  have lenK : as.length = ks.length := by omega
  have nd : as.Nodup := List.Pairwise.imp (fun z => Nat.ne_of_lt z) made.rise
  have at1 : ∀ (j : Nat) (b : Addr), as[j]? = some b → ∃ (e : Str × Int) (t u : Tok), ks[j]? = some e ∧ h1.get? b = some { cls := .type "tuple", data := .seq #[.str e.1 t, .int e.2 u] } := by
    intro j b hj
    obtain ⟨en, he, hg⟩ := made.pairs j b hj
    obtain ⟨e, t, u, k1, k2, k3⟩ := ent_at prs rel j en (by rw [Array.getElem?_toList]; exact he)
    rw [k2, k3] at hg
    exact ⟨e, t, u, k1, hg⟩
  let lo : Obj := { cls := .type "list", data := .seq (as.map Value.ref).toArray }
  have own : (h1.push lo).get? h1.objs.size = some (seqObj "list" (as.map Value.ref).toArray 0) := Heap.get?_push_size _ rfl
  have on : ∀ b ob, h1.get? b = some ob → (h1.push lo).get? b = some ob := fun b ob e => Heap.get?_push_of_some _ e
  have off : ∀ b ob, h1.get? b = some ob → b ≠ h1.objs.size := fun b ob e => Nat.ne_of_lt (Heap.lt_size e)
  generalize e2 : h1.push lo = h2 at own on
  have at2 : ∀ v ∈ as.map Value.ref, ∃ (j : Nat) (b : Addr) (e : Str × Int) (t u : Tok), v = .ref b ∧ as[j]? = some b ∧ ks[j]? = some e ∧ h2.get? b = some { cls := .type "tuple", data := .seq #[.str e.1 t, .int e.2 u] } := by
    intro v hv
    obtain ⟨b, hb, rfl⟩ := List.mem_map.mp hv
    obtain ⟨j, hj⟩ := List.mem_iff_getElem?.mp hb
    obtain ⟨e, t, u, k1, k2⟩ := at1 j b hj
    exact ⟨j, b, e, t, u, rfl, hj, k1, on _ _ k2⟩
  obtain ⟨fs, hfs⟩ := tups_all (h := h2) (shape := tn) (vs := as.map Value.ref) fun v hv => by
    obtain ⟨j, b, e, t, u, rfl, _, _, k⟩ := at2 v hv
    exact ⟨_, tn_of k⟩
  refine wpAny_call_entry slot_list_sort ⟨_, own, rfl⟩ entry_list_sort (G.list_sort_tups (s := { s with heap := h2, toks := tk }) own hfs (fun v hv => ?_) (by rw [List.length_map, sizeLine_eq]; omega) fun st' b1 b2 _ => ⟨.none, rfl, ?_⟩) (args_list_sort _)
  · obtain ⟨j, b, e, t, u, rfl, _, _, k⟩ := at2 v hv
    exact ⟨_, tn_key k⟩
  · have perm : (arrOf st').toList.Perm ((as.map Value.ref).zip (as.map Value.ref)) := by
      rw [← pairsOf_toList]
      exact Array.perm_iff_toList_perm.mp b1
    obtain ⟨zs, zperm, zmap⟩ := perm_lift (fun z : Addr × Str × Int => (Value.ref z.1, Value.ref z.1)) perm (as.zip ks) (DX.zip_self Value.ref as ks lenK)
    have idx : ∀ z ∈ zs, ∃ j : Nat, as[j]? = some z.1 ∧ ks[j]? = some z.2 := fun z hz => by
      obtain ⟨j, hj⟩ := List.mem_iff_getElem?.mp (zperm.mem_iff.mp hz)
      exact ⟨j, List.getElem?_zip_eq_some.mp hj⟩
    have atZ : ∀ z ∈ zs, ∃ t u, h1.get? z.1 = some { cls := .type "tuple", data := .seq #[.str z.2.1 t, .int z.2.2 u] } := fun z hz => by
      obtain ⟨j, j1, j2⟩ := idx z hz
      obtain ⟨e, t, u, k1, k2⟩ := at1 j z.1 j1
      obtain rfl : e = z.2 := Option.some.inj (k1.symm.trans j2)
      exact ⟨t, u, k2⟩
    have size : (arrOf st').size = zs.length := by rw [← Array.length_toList, ← zmap, List.length_map]
    have atI : ∀ (i : Nat) (hi : i < zs.length), KK (G.tupKindC h2 tn) (arrOf st') i = [Sum.inr (zs[i]).2.1.cps.toList, Sum.inl (zs[i]).2.2] := fun i hi => by
      obtain ⟨t, u, k⟩ := atZ _ (List.getElem_mem hi)
      have e1 : (arrOf st')[i]? = some (Value.ref (zs[i]).1, Value.ref (zs[i]).1) := by
        rw [← Array.getElem?_toList, ← zmap, List.getElem?_map, List.getElem?_eq_getElem hi]
        rfl
      unfold KK
      rw [e1]
      show (G.tupKeyC h2 tn (.ref (zs[i]).1)).getD [] = _
      rw [tn_key (on _ _ k)]
      rfl
    have outL : ((arrOf st').map (·.2)).toList = zs.map fun z => Value.ref z.1 := by
      rw [Array.toList_map, ← zmap, List.map_map]
      rfl
    have ysPerm : (zs.map (·.2)).Perm ks := by
      have e1 := zperm.map (·.2)
      rwa [List.map_snd_zip (by rw [lenK]; exact Nat.le_refl _)] at e1
    have zlen : zs.length = ks.length := by
      have e1 := ysPerm.length_eq
      rwa [List.length_map] at e1
    have ysSort : (zs.map (·.2)).Pairwise (fun e f => ltCps f.1.cps.toList e.1.cps.toList = false) := by
      rw [List.pairwise_map, List.pairwise_iff_getElem]
      intro i j hi hj hij
      have z := b2 i j (Nat.le_of_lt hij) (by rw [pairsOf_size, List.length_map]; omega)
      rw [atI i hi, atI j hj] at z
      exact tn_le z
    generalize (arrOf st').map (·.2) = out at outL
    have keep2 : ∀ b ob, b ≠ h1.objs.size → h2.get? b = some ob → (sortedHeap h2 h1.objs.size (as.map Value.ref) out).get? b = some ob := fun b ob nb e => (sortedHeap_old nb (Heap.lt_size e)).trans e
    have keep1 : ∀ b ob, h1.get? b = some ob → (sortedHeap h2 h1.objs.size (as.map Value.ref) out).get? b = some ob := fun b ob e => keep2 b ob (off b ob e) (on b ob e)
    obtain ⟨eF, atF⟩ := sortedHeap_at (vs := as.map Value.ref) (out := out) own
    show EP X pins σ Q (.ref h1.objs.size) { s with heap := sortedHeap h2 h1.objs.size (as.map Value.ref) out, toks := tk }
    generalize sortedHeap h2 h1.objs.size (as.map Value.ref) out = hf at keep1 atF
    have J1 : Inv X pins σ H { s with heap := hf, toks := tk } := I.kept (t' := tk) fun b ob e => keep1 b ob (kept b ob e)
    have noL : H h1.objs.size = none := I.hok.fresh (Nat.le_of_lt grown)
    have vals : Vals ((zs.map (·.1)).map V.ref) out.toList := by
      rw [outL, List.map_map]
      exact vals_maps (fun z : Addr × Str × Int => V.ref z.1) (fun z => Value.ref z.1) zs fun _ _ => rfl
    have J2 : Inv X pins σ (upd H h1.objs.size (.lst ((zs.map (·.1)).map V.ref))) { s with heap := hf, toks := tk } :=
      J1.take (h' := hf) (t' := tk) (fun b ob _ e => e) (I.fpOk (Nat.le_of_lt grown) noL) ⟨by rw [List.length_map, List.length_map, sizeLine_eq]; omega, out.toList, eF, vals, atF⟩
    obtain ⟨H2, J3, up, tups⟩ := DX.takeT (P := fun b vs => ∃ (j : Nat) (e : Str × Int), as[j]? = some b ∧ ks[j]? = some e ∧ vs = [.str e.1, .int e.2]) I as _ J2 nd fun b hb => by
      obtain ⟨j, hj⟩ := List.mem_iff_getElem?.mp hb
      obtain ⟨e, t, u, k1, k2⟩ := at1 j b hj
      have above : s.heap.objs.size ≤ b := Nat.le_of_lt (made.above b hb)
      refine ⟨above, ?_, [.str e.1, .int e.2], ⟨j, e, hj, k1, rfl⟩, fun H3 => ⟨by rw [sizeLine_eq]; show 2 ≤ 16777216; omega, [.str e.1 t, .int e.2 u], .cons ⟨_, rfl⟩ (.cons ⟨_, rfl⟩ .nil), ⟨_, keep1 _ _ k2, rfl, 0, rfl⟩⟩⟩
      rw [upd_ne (off _ _ k2)]
      exact I.hok.fresh above
    have same : Same H H2 := fun b ob e => up b ob (by rw [upd_ne (ne_of_none e noL)]; exact e)
    refine ⟨.ref h1.objs.size, H2, J3, rfl, q H2 h1.objs.size (zs.map (·.1)) (zs.map (·.2)) same noL ysPerm ysSort (up _ _ upd_same) ?_⟩
    have each : ∀ z ∈ zs, H2 z.1 = some (.tup [.str z.2.1, .int z.2.2]) := fun z hz => by
      obtain ⟨i, i1, i2⟩ := idx z hz
      obtain ⟨vs2, ⟨j, e, j1, j2, rfl⟩, hH⟩ := tups z.1 (List.mem_of_getElem? i1)
      obtain rfl : i = j := (List.getElem?_inj (List.getElem?_eq_some_iff.mp i1).1 nd).mp (i1.trans j1.symm)
      obtain rfl : e = z.2 := Option.some.inj (j2.symm.trans i2)
      exact hH
    exact pair_maps each
end My

set_option Elab.async false
set_option linter.all false
set_option maxRecDepth 100000
set_option maxHeartbeats 2000000
namespace My
open PySem PySem.Spec PyProof.Rows L2
section
variable {X : Cx}
/-- isinstance(v, T), T a built-in type, v of a type that is known -/
def rIsTy (T : String) : List V → Hp → VK → Prop := fun vs H Q => ∃ (v : V) (t : String) (b : Bool), vs = [v, .ty T] ∧ tyS H v = some t ∧ kitB t T = some b ∧ Q (.bl b) H
theorem rd_isTy {T : String} {v c : V} {H : Hp} {Q : VK} : rIsTy T [v, c] H Q = (c = .ty T ∧ ∃ (t : String) (b : Bool), tyS H v = some t ∧ kitB t T = some b ∧ Q (.bl b) H) := by
  simp [rIsTy, and_assoc]
theorem call_isTy {T : String} : CallR X (.builtin "isinstance") (rIsTy T) := call_isi.imp fun _ _ _ ⟨v, t, b, e, h, k, q⟩ => ⟨v, .ty T, .type t, .type T, b, e, .ty T, tyX_of h, kit_ty k, q⟩
/-- isinstance(v, (list, tuple)) -/
def isRowT (t : String) : Bool := t == "list" || t == "tuple"
theorem k_row : ∀ t ∈ ["NoneType", "bool", "int", "str", "list", "tuple", "dict"], kitB t "list" = some (t == "list") ∧ kitB t "tuple" = some (t == "tuple") := by decide +kernel
/-- a tuple that stands among the module's constants -/
def KT (K : PySem.W.Frag) (a : Addr) (xs : List V) : Prop := ∃ (o : Obj) (its : Array Value) (n : Nat), K.lookup a = some o ∧ o.cls = .type "tuple" ∧ o.data = .seq its n ∧ its.size ≤ sizeLine ∧ Vals xs its.toList
theorem KT.sq {K : PySem.W.Frag} {H : Hp} {a : Addr} {xs : List V} (h : KT K a xs) : SqT K H a xs := .inr h
/-- whether a value is a list or a tuple -/
def RwV (K : PySem.W.Frag) (H : Hp) (v : V) (b : Bool) : Prop := (∃ t, tyS H v = some t ∧ isRowT t = b) ∨ (b = true ∧ ∃ a xs, v = .ref a ∧ KT K a xs)
def rIsRow (K : PySem.W.Frag) : List V → Hp → VK → Prop := fun vs H Q => ∃ (v : V) (p : Addr) (b : Bool), vs = [v, .ref p] ∧ H p = some (.tup [.ty "list", .ty "tuple"]) ∧ RwV K H v b ∧ Q (.bl b) H
theorem ty_names {H : Hp} : ∀ {v : V} {t : String}, tyS H v = some t → t ∈ ["NoneType", "bool", "int", "str", "list", "tuple", "dict"]
  | .non, _, h => by cases h; simp
  | .bl _, _, h => by cases h; simp
  | .int _, _, h => by cases h; simp
  | .str _, _, h => by cases h; simp
  | .ref a, t, h => by
    rcases tyO_cases (show tyO (H a) = some t from h) with ⟨_, _, rfl⟩ | ⟨_, _, rfl⟩ | ⟨_, _, rfl⟩ <;> simp
theorem k_rowT : kitB "tuple" "list" = some false ∧ kitB "tuple" "tuple" = some true := by decide +kernel
theorem call_isRow : CallR X (.builtin "isinstance") (rIsRow X.K) := call_isiT.imp fun _ _ _ ⟨v, p, b, e, hp, h, q⟩ => by
  rcases h with ⟨t, h, eb⟩ | ⟨eb, a, xs, ev, hk⟩
  · subst eb
    obtain ⟨k1, k2⟩ := k_row t (ty_names h)
    refine ⟨v, p, _, .type t, [.type "list", .type "tuple"], isRowT t, e, hp, .cons (.ty "list") (.cons (.ty "tuple") .nil), tyX_of h, ?_, q⟩
    refine kitAny_cons (kit_ty k1) (fun n1 => ?_) (fun y1 => by unfold isRowT; rw [y1]; rfl)
    refine kitAny_cons (kit_ty k2) (fun n2 => ?_) (fun y2 => by unfold isRowT; rw [y2]; simp)
    rw [kitAny_nil]
    unfold isRowT
    rw [n1, n2]
    rfl
  · subst eb ev
    obtain ⟨o, its, n, h1, h2, _⟩ := hk
    refine ⟨.ref a, p, _, .type "tuple", [.type "list", .type "tuple"], true, e, hp, .cons (.ty "list") (.cons (.ty "tuple") .nil), .kTuple h1 h2, ?_, q⟩
    refine kitAny_cons (kit_ty k_rowT.1) (fun _ => ?_) (fun _ => rfl)
    exact kitAny_cons (kit_ty k_rowT.2) (fun z => by cases z) (fun _ => rfl)
theorem pe_ty {T : String} {x : Str} {pos : Pos} (hm : X.mg x = none) (hb : bootBuiltins x = some (.type T)) (hg : Gl X x := by rfl) (hd : (x == ("__debug__" : Str)) = false := by decide) (hn : x ≠ "__name__" := by decide) : PE X (.Name x pos) (tC (.ty T)) := pe_bltn (v := .ty T) (u := .type T) hg hm hb rfl (hn := hn) (hd := hd)
end
end My

set_option Elab.async false
set_option linter.all false
set_option maxRecDepth 100000
set_option maxHeartbeats 2000000
namespace My
open PySem PySem.Spec PyProof.Rows L2
/-- a comprehension's list, its source known -/
def lcB (J : It) (g : TG) (tt : TT) (te : TE) (vs : List Nat) : TE := fun σ H1 Q => ∀ D, H1 D = none → ∃ W : Nat → Nat → Hp → Prop, (∃ m, W 0 m (upd H1 D (.lst []))) ∧ ∀ i m H, W i m H →
  (J.stop i H ∧ Q (.ref D) H) ∨ (J.go i H ∧ ∃ Nx : Hp → Prop, (∀ H', Nx H' → ∃ m', m' < m ∧ W (i + 1) m' H') ∧ ∀ x H', J.yld i H x H' → g x (wipe σ vs) H' fun σ2 H2 => wipe σ2 vs = wipe σ vs ∧ tt σ2 H2 fun b H3 =>
    if b = true then te σ2 H3 fun y H4 => ∃ acc, H4 D = some (.lst acc) ∧ acc.length < sizeLine ∧ Nx (upd H4 D (.lst (acc ++ [y]))) else Nx H3)
section
variable {K : PySem.W.Frag} {tl : TE} {ta : TA} {g : TG} {tt : TT} {te : TE} {vs : List Nat} {σ : L2.St} {H : Hp} {Q : VK}
theorem rd_lcL : tLc (iList K tl) g tt te vs σ H Q = tl σ H fun x H1 => ∃ a, x = .ref a ∧ (∃ xs, SqL K H1 a xs) ∧ lcB (Itl K a) g tt te vs σ H1 Q := rfl
theorem rd_lcE : tLc (iEnum K ta) g tt te vs σ H Q = ta σ H fun us H1 => ∃ a xs, us = [.ref a] ∧ SqL K H1 a xs ∧ lcB (Ite K a) g tt te vs σ H1 Q := rfl
theorem rd_mk {C : Addr} {sp : Sp} {dvs : List V} {E : XK} {t : TA} : tMake C sp dvs E t σ H Q = t σ H fun vs H1 => ∀ x dx, H1 x = none → H1 dx = none → dx ≠ x → sp (.ref x :: (vs ++ dvs)) (upd (upd H1 dx (.own x)) x (.ins C dx [])) (fun v H2 => v = .non ∧ Q (.ref x) H2) E := rfl
theorem rd_sl {r : V → Option Int → Option Int → Hp → VK → Prop} {l h : TO} : tSl r te l h σ H Q = te σ H fun x H1 => l σ H1 fun i H2 => h σ H2 fun u H3 => r x i u H3 Q := rfl
theorem rd_noP {Q : Option Int → Hp → Prop} : tNoPart σ H Q = Q none H := rfl
theorem rd_part {Q : Option Int → Hp → Prop} : tPart te σ H Q = te σ H fun x H1 => ∃ i, x = .int i ∧ Q (some i) H1 := rfl
theorem rd_slL {x : V} {lo hi : Option Int} : rSlL K x lo hi H Q = ∃ a xs, x = .ref a ∧ SqL K H a xs ∧ ∀ p, H p = none → Q (.ref p) (upd H p (.lst (cutV xs lo hi))) := rfl
theorem rd_cat {x y : V} : rCat x y H Q = ∃ l b xs zs, x = .ref l ∧ y = .ref b ∧ H l = some (.lst xs) ∧ H b = some (.lst zs) ∧ xs.length + zs.length ≤ sizeLine ∧ ∀ p, H p = none → Q (.ref p) (upd H p (.lst (xs ++ zs))) := rfl
end
theorem rd_lcA {K : PySem.W.Frag} {tl : TE} {g : TG} {tt : TT} {te : TE} {vs : List Nat} {σ : L2.St} {H : Hp} {Q : VK} : tLc (iAny K tl) g tt te vs σ H Q = tl σ H fun x H1 => ∃ a, x = .ref a ∧ (((∃ xs, SqL K H1 a xs) ∧ lcB (Itl K a) g tt te vs σ H1 Q) ∨ ((∃ xs, SqT K H1 a xs) ∧ lcB (Itt K a) g tt te vs σ H1 Q)) := rfl
theorem rd_lcEA {K : PySem.W.Frag} {ta : TA} {g : TG} {tt : TT} {te : TE} {vs : List Nat} {σ : L2.St} {H : Hp} {Q : VK} : tLc (iEnumAny K ta) g tt te vs σ H Q = ta σ H fun us H1 => ∃ a xs, us = [.ref a] ∧ ((SqL K H1 a xs ∧ lcB (Ite K a) g tt te vs σ H1 Q) ∨ (SqT K H1 a xs ∧ lcB (Iet K a) g tt te vs σ H1 Q)) := rfl
/-- [e for x in xs], e leaving what stands as it is -/
theorem lcB_map {J : It} {G : Hp → Prop} {xs : List V} {j : Nat} {te : TE} {σ : L2.St} {H : Hp} {Q : VK} (w : Walk J xs.length G (YAt xs)) (hG : ∀ H', Same H H' → G H') (hz : xs.length ≤ 1000) (f : V → V) (hw : ∀ x, wipe ((wipe σ [j]).set j (some x)) [j] = wipe σ [j])
    (he : ∀ (x : V) (H' : Hp) (R : VK), x ∈ xs → Same H H' → (∀ H2, Same H' H2 → R (f x) H2) → te ((wipe σ [j]).set j (some x)) H' R)
    (hq : ∀ (D : Addr) (H' : Hp), H D = none → Same H H' → H' D = some (.lst (xs.map f)) → Q (.ref D) H') : lcB J (gName j) tYes te [j] σ H Q := by
  intro D hD
  refine lc_it w (fun i H' => Same H H' ∧ H' D = some (.lst ((xs.take i).map f))) ⟨My.Same.new (Same.refl H) hD, upd_same⟩ (fun i H' _ h => hG H' h.1) ?_ ?_
  · rintro i x H' H2 hi ⟨sm, hl⟩ ⟨rfl, hx⟩
    refine ⟨hw _, ?_⟩
    simp only [tYes, if_true]
    refine he x _ _ (List.mem_of_getElem? hx) sm fun H3 s3 => ⟨_, s3 _ _ hl, szl ?_, My.Same.new (sm.trans s3) hD, ?_⟩
    · rw [List.length_map, List.length_take]
      omega
    · rw [upd_same, take_more hx, List.map_append]
      rfl
  · rintro H' ⟨sm, hl⟩
    rw [List.take_length] at hl
    exact hq D H' hD sm hl
/-- a list or a tuple of texts that stands -/
def Row (K : PySem.W.Frag) (H : Hp) (a : Addr) (xs : List V) : Prop := H a = some (.lst xs) ∨ H a = some (.tup xs) ∨ KT K a xs
theorem Row.same {K : PySem.W.Frag} {H H' : Hp} {a : Addr} {xs : List V} (h : Row K H a xs) (s : Same H H') : Row K H' a xs := h.imp (fun z => s _ _ z) fun z => z.imp (fun z => s _ _ z) id
/-- a tuple that stands, also a constant of the module -/
def Tp (K : PySem.W.Frag) (H : Hp) (a : Addr) (xs : List V) : Prop := H a = some (.tup xs) ∨ KT K a xs
theorem Tp.sq {K : PySem.W.Frag} {H : Hp} {a : Addr} {xs : List V} (h : Tp K H a xs) : SqT K H a xs := h.elim SqT.of KT.sq
theorem Tp.same {K : PySem.W.Frag} {H H' : Hp} {a : Addr} {xs : List V} (h : Tp K H a xs) (s : Same H H') : Tp K H' a xs := h.imp (fun z => s _ _ z) id
theorem Row.sq {K : PySem.W.Frag} {H : Hp} {a : Addr} {xs : List V} (h : Row K H a xs) : SqL K H a xs ∨ SqT K H a xs := h.imp SqL.of fun z => z.elim SqT.of KT.sq
theorem Row.ty {K : PySem.W.Frag} {H : Hp} {a : Addr} {xs : List V} (h : Row K H a xs) : RwV K H (.ref a) true := by
  rcases h with h | h | h
  · exact .inl ⟨"list", by show tyO (H a) = _; rw [h]; rfl, rfl⟩
  · exact .inl ⟨"tuple", by show tyO (H a) = _; rw [h]; rfl, rfl⟩
  · exact .inr ⟨rfl, a, xs, rfl, h⟩
/-- the comprehension over such -/
theorem rowLc {K : PySem.W.Frag} {a : Addr} {xs : List V} {j : Nat} {te : TE} {σ : L2.St} {H : Hp} {Q : VK} (h : Row K H a xs) (hz : xs.length ≤ 1000) (f : V → V) (hw : ∀ x, wipe ((wipe σ [j]).set j (some x)) [j] = wipe σ [j])
    (he : ∀ (x : V) (H' : Hp) (R : VK), x ∈ xs → Same H H' → (∀ H2, Same H' H2 → R (f x) H2) → te ((wipe σ [j]).set j (some x)) H' R)
    (hq : ∀ (D : Addr) (H' : Hp), H D = none → Same H H' → H' D = some (.lst (xs.map f)) → Q (.ref D) H') :
    ((∃ xs, SqL K H a xs) ∧ lcB (Itl K a) (gName j) tYes te [j] σ H Q) ∨ ((∃ xs, SqT K H a xs) ∧ lcB (Itt K a) (gName j) tYes te [j] σ H Q) := by
  rcases h with h | h | h
  · exact .inl ⟨⟨_, SqL.of h⟩, lcB_map walk_list (fun H' s => SqL.of (s _ _ h)) hz f hw he hq⟩
  · exact .inr ⟨⟨_, SqT.of h⟩, lcB_map walk_tup (fun H' s => SqT.of (s _ _ h)) hz f hw he hq⟩
  · exact .inr ⟨⟨_, h.sq⟩, lcB_map walk_tup (fun H' s => h.sq) hz f hw he hq⟩
end My

set_option Elab.async false
set_option linter.all false
set_option maxRecDepth 100000
namespace My
open PySem PySem.Spec PyProof.Rows
section
variable {prog : Program} {w : World} {A : Around} {E : Value → Shared → Prop} {s : Shared}

set_option maxHeartbeats 3200000 in
/-- set(xs), xs a list of texts -/
theorem set_lstTx {l : Addr} {its : Array Value} {xs : List Str} {Q : Value → Shared → Prop} (calm : A.handled = none) (src : s.heap.IsList l its) (txt : StrsAre its.toList xs) (room : xs.length + 1 < scanBound)
    (fin : ∀ (h2 : Heap) (tk2 : Nat), h2.SetOf (PySem.strKind prog w) s.heap.objs.size (fun k => (xs.take its.size).any (· == k)) (dn xs its.size) → (∀ b o, b < s.heap.objs.size → s.heap.get? b = some o → h2.get? b = some o) → Q (.ref s.heap.objs.size) { s with heap := h2, toks := tk2 }) :
    wpAny (model prog w) A (call (.type "set") [.ref l]) Q E s := by
  obtain ⟨cc, tl, hmro⟩ := PySem.F.called_set.mro
  have f1 := PySem.F.called_set.made
  have f2 := PySem.F.called_set.sub
  refine wpAny_call (codeAny_of_tree (?_ : wpAny _ _ (callAny (.type "set") _) _ _ _))
  refine wpAny_pure ⟨Code.quiet_builtin _ (by decide +kernel), codeAny_builtin PySem.F.entry_type_call ?_⟩
  rw [Around.under_plain (weight_type_call_type "set" [.ref l] []) rfl]
  have f3 := PySem.F.called_set.notType
  have f4 := PySem.F.called_set.canCreate
  have f5 := PySem.F.typeCall_set_1 (.ref l)
  repeat (any_goals (first | assumption | wp_step))
  let em : Bool → Obj := fun led => { cls := .type "set", dict := none, data := .set #[] 0 (.fresh 0 0 led) }
  refine codeAny_mono (code_set_new_1 (.ref l) (E := E) (Q₁ := fun o1 st1 => ∃ led : Bool, o1 = .ref s.heap.objs.size ∧ st1 = { s with heap := s.heap.push (em led) }) fun led => ⟨led, rfl, rfl⟩) fun res st1 got => ?_
  match res, got with
  | .error e, got => exact got
  | .ok (.ret o1), ⟨led, e1, e2⟩ =>
    subst e1 e2
    have atS : (s.heap.push (em led)).get? s.heap.objs.size = some (em led) := Heap.get?_push_size _ rfl
    have tyS : Shared.TypeIs { s with heap := s.heap.push (em led) } (.ref s.heap.objs.size) "set" := ⟨_, atS, rfl⟩
    have f6 := PySem.F.called_set.init.lookup
    have f7 := PySem.F.called_set.init.bind (.ref s.heap.objs.size)
    repeat (any_goals (first | assumption | wp_step))
    refine codeAny_mono (codeAny_call_builtin (R := wants (fun res st2 => res = .none ∧ ∃ h2 tk2, st2 = { s with heap := h2, toks := tk2 } ∧ h2.SetOf (PySem.strKind prog w) s.heap.objs.size (fun k => (xs.take its.size).any (· == k)) (dn xs its.size) ∧
      (∀ b o, b < s.heap.objs.size → s.heap.get? b = some o → h2.get? b = some o)) E) PySem.F.called_set.init.plain PySem.F.entry_set_init (check_set_init_1 tyS ?_)) fun res2 st2 got2 => ?_
    · obtain ⟨⟨ocls, odict, odata, oslots⟩, ho, hc, nl, hd⟩ := src
      simp only at hc hd
      subst hc hd
      have ho2 : (s.heap.push (em led)).get? l = some { cls := .type "list", dict := odict, data := .seq its nl, slots := oslots } := Heap.get?_push_of_some _ ho
      have g1 := PySem.F.sub_list_set
      have g2 := PySem.F.sub_list_frozenset
      have g3 : (Value.type "list" == Value.type "dict") = false := by decide
      have src2 : (s.heap.push (em led)).IsList l its := ⟨_, ho2, rfl, nl, rfl⟩
      unfold Builtin.«set.__init__» noKeywords Builtin.Frozenset.updateFrom
      generalize hPI : pyIter = PI
      wp_walk
      subst hPI
      refine wpAny_pyIter_list src2 (wpAny_bind (wpAny_runValue ?_))
      have low : l < s.heap.objs.size := Heap.lt_size ho
      have sz1 : (s.heap.push (em led)).objs.size = s.heap.objs.size + 1 := Heap.size_push ..
      have notI : l ≠ (s.heap.push (em led)).objs.size := by rw [sz1]; exact Nat.ne_of_lt (Nat.lt_succ_of_lt low)
      have notIn : s.heap.objs.size ∉ [(s.heap.push (em led)).objs.size, l] := by
        rw [sz1]
        simp only [List.mem_cons, List.not_mem_nil, or_false, not_or]
        exact ⟨Nat.ne_of_lt (Nat.lt_succ_self _), Nat.ne_of_gt low⟩
      have len : xs.length = its.size := by rw [← StrsAre.len_eq txt, Array.length_toList]
      refine loopTx ((Walks.list (by simp [calm]) _ l notI its).toS) s.heap.objs.size notIn xs len (by rw [← len]; exact room) (fun i v hv => SS.strs_at txt i v (by rw [Array.getElem?_toList]; exact hv)) (its.size - 0) 0 _ (by omega) (Nat.zero_le _) ⟨⟨_, Heap.get?_push_size _ rfl, rfl, rfl⟩, src2.push _⟩ ?_ ?_
      · exact SetOf_congr ((setObjOf_fresh (knd := PySem.strKind prog w) led).setOf (Heap.get?_push_of_some _ atS) (by unfold scanBound; omega)) (fun _ => rfl) rfl
      · rintro ⟨h2, g2, d2, tk2, os2⟩ mv set
        obtain rfl : g2 = s.gens := mv.gens
        obtain rfl : d2 = s.drawn := mv.drawn
        obtain rfl : os2 = s.os := mv.os
        refine wpAny_pure (wpAny_pure ⟨rfl, h2, tk2, rfl, set, fun b o hb e => ?_⟩)
        refine mv.heap b o ?_ (Heap.get?_push_of_some _ (Heap.get?_push_of_some _ e))
        rw [sz1]
        simp only [List.mem_cons, List.not_mem_nil, or_false, not_or]
        exact ⟨Nat.ne_of_lt hb, Nat.ne_of_lt (Nat.lt_succ_of_lt hb)⟩
    · match res2, got2 with
      | .error e, got2 => exact got2
      | .ok (.ret r2), ⟨e3, h2, tk2, e4, set, kept⟩ =>
        subst e3 e4
        repeat (any_goals (first | assumption | wp_step))
        exact fin _ _ set kept

set_option maxHeartbeats 3200000 in
/-- set(xs), xs a tuple of texts -/
theorem set_tupTx {l : Addr} {its : Array Value} {xs : List Str} {Q : Value → Shared → Prop} (calm : A.handled = none) (src : s.heap.IsTuple l its) (txt : StrsAre its.toList xs) (room : xs.length + 1 < scanBound)
    (fin : ∀ (h2 : Heap) (tk2 : Nat), h2.SetOf (PySem.strKind prog w) s.heap.objs.size (fun k => (xs.take its.size).any (· == k)) (dn xs its.size) → (∀ b o, b < s.heap.objs.size → s.heap.get? b = some o → h2.get? b = some o) → Q (.ref s.heap.objs.size) { s with heap := h2, toks := tk2 }) :
    wpAny (model prog w) A (call (.type "set") [.ref l]) Q E s := by
  obtain ⟨cc, tl, hmro⟩ := PySem.F.called_set.mro
  have f1 := PySem.F.called_set.made
  have f2 := PySem.F.called_set.sub
  refine wpAny_call (codeAny_of_tree (?_ : wpAny _ _ (callAny (.type "set") _) _ _ _))
  refine wpAny_pure ⟨Code.quiet_builtin _ (by decide +kernel), codeAny_builtin PySem.F.entry_type_call ?_⟩
  rw [Around.under_plain (weight_type_call_type "set" [.ref l] []) rfl]
  have f3 := PySem.F.called_set.notType
  have f4 := PySem.F.called_set.canCreate
  have f5 := PySem.F.typeCall_set_1 (.ref l)
  repeat (any_goals (first | assumption | wp_step))
  let em : Bool → Obj := fun led => { cls := .type "set", dict := none, data := .set #[] 0 (.fresh 0 0 led) }
  refine codeAny_mono (code_set_new_1 (.ref l) (E := E) (Q₁ := fun o1 st1 => ∃ led : Bool, o1 = .ref s.heap.objs.size ∧ st1 = { s with heap := s.heap.push (em led) }) fun led => ⟨led, rfl, rfl⟩) fun res st1 got => ?_
  match res, got with
  | .error e, got => exact got
  | .ok (.ret o1), ⟨led, e1, e2⟩ =>
    subst e1 e2
    have atS : (s.heap.push (em led)).get? s.heap.objs.size = some (em led) := Heap.get?_push_size _ rfl
    have tyS : Shared.TypeIs { s with heap := s.heap.push (em led) } (.ref s.heap.objs.size) "set" := ⟨_, atS, rfl⟩
    have f6 := PySem.F.called_set.init.lookup
    have f7 := PySem.F.called_set.init.bind (.ref s.heap.objs.size)
    repeat (any_goals (first | assumption | wp_step))
    refine codeAny_mono (codeAny_call_builtin (R := wants (fun res st2 => res = .none ∧ ∃ h2 tk2, st2 = { s with heap := h2, toks := tk2 } ∧ h2.SetOf (PySem.strKind prog w) s.heap.objs.size (fun k => (xs.take its.size).any (· == k)) (dn xs its.size) ∧
      (∀ b o, b < s.heap.objs.size → s.heap.get? b = some o → h2.get? b = some o)) E) PySem.F.called_set.init.plain PySem.F.entry_set_init (check_set_init_1 tyS ?_)) fun res2 st2 got2 => ?_
    · obtain ⟨⟨ocls, odict, odata, oslots⟩, ho, hc, nl, hd⟩ := src
      simp only at hc hd
      subst hc hd
      have ho2 : (s.heap.push (em led)).get? l = some { cls := .type "tuple", dict := odict, data := .seq its nl, slots := oslots } := Heap.get?_push_of_some _ ho
      have g1 := PySem.F.sub_tuple_set
      have g2 := PySem.F.sub_tuple_frozenset
      have g3 : (Value.type "tuple" == Value.type "dict") = false := by decide
      have src2 : (s.heap.push (em led)).IsTuple l its := ⟨_, ho2, rfl, nl, rfl⟩
      unfold Builtin.«set.__init__» noKeywords Builtin.Frozenset.updateFrom
      generalize hPI : pyIter = PI
      wp_walk
      subst hPI
      refine wpAny_pyIter_tuple src2 (wpAny_bind (wpAny_runValue ?_))
      have low : l < s.heap.objs.size := Heap.lt_size ho
      have sz1 : (s.heap.push (em led)).objs.size = s.heap.objs.size + 1 := Heap.size_push ..
      have notI : l ≠ (s.heap.push (em led)).objs.size := by rw [sz1]; exact Nat.ne_of_lt (Nat.lt_succ_of_lt low)
      have notIn : s.heap.objs.size ∉ [(s.heap.push (em led)).objs.size, l] := by
        rw [sz1]
        simp only [List.mem_cons, List.not_mem_nil, or_false, not_or]
        exact ⟨Nat.ne_of_lt (Nat.lt_succ_self _), Nat.ne_of_gt low⟩
      have len : xs.length = its.size := by rw [← StrsAre.len_eq txt, Array.length_toList]
      refine loopTx ((Walks.tuple (by simp [calm]) _ l notI its).toS) s.heap.objs.size notIn xs len (by rw [← len]; exact room) (fun i v hv => SS.strs_at txt i v (by rw [Array.getElem?_toList]; exact hv)) (its.size - 0) 0 _ (by omega) (Nat.zero_le _) ⟨⟨_, Heap.get?_push_size _ rfl, rfl, rfl⟩, src2.push _⟩ ?_ ?_
      · exact SetOf_congr ((setObjOf_fresh (knd := PySem.strKind prog w) led).setOf (Heap.get?_push_of_some _ atS) (by unfold scanBound; omega)) (fun _ => rfl) rfl
      · rintro ⟨h2, g2, d2, tk2, os2⟩ mv set
        obtain rfl : g2 = s.gens := mv.gens
        obtain rfl : d2 = s.drawn := mv.drawn
        obtain rfl : os2 = s.os := mv.os
        refine wpAny_pure (wpAny_pure ⟨rfl, h2, tk2, rfl, set, fun b o hb e => ?_⟩)
        refine mv.heap b o ?_ (Heap.get?_push_of_some _ (Heap.get?_push_of_some _ e))
        rw [sz1]
        simp only [List.mem_cons, List.not_mem_nil, or_false, not_or]
        exact ⟨Nat.ne_of_lt hb, Nat.ne_of_lt (Nat.lt_succ_of_lt hb)⟩
    · match res2, got2 with
      | .error e, got2 => exact got2
      | .ok (.ret r2), ⟨e3, h2, tk2, e4, set, kept⟩ =>
        subst e3 e4
        repeat (any_goals (first | assumption | wp_step))
        exact fin _ _ set kept

end
end My

set_option Elab.async false
set_option linter.all false
set_option maxRecDepth 100000
namespace My
open PySem PySem.Spec PyProof.Rows
section
variable {prog : Program} {w : World} {A : Around} {E : Value → Shared → Prop} {s : Shared}
/-- what the sorting of its own list leaves, for a tuple as for a list -/
theorem coll_tup {l : Addr} {us : List Value} {Q : List Value → Shared → Prop} (src : s.heap.IsTuple l us.toArray) (room : us.length ≤ sizeLine)
    (fin : Q us { s with heap := (s.heap.push (seqObj "list" #[] 0)).update s.heap.objs.size (Obj.mapSeq (· ++ us.toArray)) }) : wpAny (model prog w) A (collect (.ref l)) Q E s := by
  obtain ⟨o, at_, cl, n, dat⟩ := id src
  have at2 : (s.heap.push (seqObj "list" #[] 0)).get? l = some o := Heap.get?_push_of_some _ at_
  have new : (s.heap.push (seqObj "list" #[] 0)).get? s.heap.objs.size = some (seqObj "list" #[] 0) := Heap.get?_push_size _ rfl
  unfold collect
  refine wpAny_bind (wpAny_runValue (codeAny_builtin entry_proto_collect' (?_ : wpAny _ _ (do again (.builtin "list.__iadd__" ⟨[← newList [], .ref l], []⟩)) _ _ s)))
  refine wpAny_bind (wpAny_newList (wpAny_pure ⟨Code.quiet_builtin _ (by decide +kernel), codeAny_builtin entry_list_iadd' ?_⟩))
  show wpAny _ _ (Builtin.List.listExtendWith (.ref s.heap.objs.size) (.ref l) (.ref s.heap.objs.size)) _ _ { s with heap := s.heap.push (seqObj "list" #[] 0) }
  unfold Builtin.List.listExtendWith
  refine wpAny_bind (wpAny_typeOf (T := "tuple") ⟨o, at2, cl⟩ ?_)
  have yes : (Value.type "tuple" == Value.type "tuple") = true := by rfl
  rw [if_pos (by rw [yes]; simp)]
  refine wpAny_bind (listItems_at at2 dat (wpAny_bind (listItems_at (xs := #[]) (n := 0) new rfl ?_)))
  rw [if_neg (by simp)]
  refine wpAny_bind (listUpdate_at (xs := #[]) (n := 0) new rfl (wpAny_pure ?_) (Nat.zero_le _) (by show (#[] ++ us.toArray).size ≤ sizeLine + 1; simp only [Array.size_append, List.size_toArray, List.length_nil]; omega))
  refine wpAny_bind (wpAny_load (get?_update_seq new _) ?_)
  refine (?_ : wpAny _ _ (pure ((#[] : Array Value) ++ us.toArray).toList) Q E _)
  have e : ((#[] : Array Value) ++ us.toArray).toList = us := by simp
  rw [e]
  exact wpAny_pure fin
/-- sorted(xs), xs a tuple of texts -/
theorem sort_tupTx {l : Addr} {us : List Value} {xs : List Str} {Q : Value → Shared → Prop} (src : s.heap.IsTuple l us.toArray) (txt : StrsAre us xs) (few : us.length < 64)
    (fin : ∀ (out : Array Value) (ys : List Str), StrsAre out.toList ys → ys.Perm xs → sortedS ys = true → Q (.ref (s.heap.objs.size + 1)) { s with heap := sortedAll s.heap us out }) :
    wpAny (model prog w) A (call (.builtin "sorted") [.ref l]) Q E s := by
  refine Calls.call_function_entry kind_sorted plain_sorted entry_sorted (args_sorted1 _) ?_
  unfold Builtin.«sorted»
  refine wpAny_bind (m := checkCount "sorted" 1 1 _) (wpAny_pure (wpAny_bind (coll_tup src (by rw [sizeLine_eq]; omega) (wpAny_bind (wpAny_newList ?_)))))
  generalize hc : (s.heap.push (seqObj "list" #[] 0)).update s.heap.objs.size (Obj.mapSeq (· ++ us.toArray)) = hp
  have size : hp.objs.size = s.heap.objs.size + 1 := by rw [← hc, Heap.size_update, size_push']
  have own : (hp.push (seqObj "list" us.toArray 0)).get? (s.heap.objs.size + 1) = some (seqObj "list" us.toArray 0) := by
    rw [← size]
    exact Heap.get?_push_size _ rfl
  show wpAny _ _ _ _ _ { s with heap := hp.push (seqObj "list" us.toArray 0) }
  rw [size]
  refine wpAny_bind (wpAny_holding (wpAny_call_entry slot_list_sort ⟨_, own, rfl⟩ entry_list_sort (list_sort_treeK strKind_oneLt own txt.keysOf (fun v1 v2 r e => keyKind_strs (by rw [← e]; exact txt)) few fun st' a1 a2 => ⟨_, rfl, ?_⟩) (args_list_sort _)))
  obtain ⟨ys, b1, b2, b3⟩ := sorted_out_str txt a1 a2
  have done := fin _ ys b1 b2 b3
  subst hc
  exact wpAny_pure ⟨_, rfl, done⟩
end
end My
namespace My
open PySem PySem.Spec PyProof.Rows L2
/-- sorted(xs), xs a list or a tuple of texts -/
def rSortTx (K : PySem.W.Frag) : List V → Hp → VK → Prop := fun vs H Q => ∃ (a : Addr) (xs : List Str), vs = [.ref a] ∧ (SqL K H a (xs.map V.str) ∨ SqT K H a (xs.map V.str)) ∧ xs.length < 64 ∧
  ∀ (ys : List Str) (p : Addr), ys.Perm xs → sortedS ys = true → H p = none → Q (.ref p) (upd H p (.lst (ys.map V.str)))
theorem cr_sortTx {X : Cx} : CallR X (.builtin "sorted") (rSortTx X.K) := by
  intro pins s σ H vs us Q I r h
  obtain ⟨a, xs, rfl, way, few, q⟩ := h
  rcases way with hq | hq
  · exact cr_sortedS pins s σ H _ us Q I r ⟨a, xs, rfl, hq, few, q⟩
  · obtain ⟨its, rv, tup, _⟩ := I.tuple hq
    rw [Vals.ref1 r]
    have len := rv.length
    rw [List.length_map] at len
    refine sort_tupTx (show s.heap.IsTuple a its.toArray from tup) rv.strs (by omega) fun out ys b1 b2 b3 => ?_
    obtain ⟨ep, at_⟩ := sortedAll_at s.heap its out
    have short : (ys.map V.str).length ≤ sizeLine := by
      rw [List.length_map, b2.length_eq]
      exact small64 few
    exact ⟨.ref _, upd H (s.heap.objs.size + 1) (.lst (ys.map V.str)), I.laid (t' := s.toks) (fun _ _ => sortedAll_old) (Nat.le_succ _) ⟨short, out.toList, ep, vals_of_strs b1, at_⟩, rfl, q ys _ b2 b3 (I.hok.fresh (Nat.le_succ _))⟩
end My

set_option Elab.async false
set_option linter.all false
set_option maxRecDepth 100000
namespace My
open PySem PySem.Spec PyProof.Rows L2
/-- len(set(e)), e a list or a tuple of texts -/
def tLenUn (K : PySem.W.Frag) (te : TE) : TE := fun σ H Q => te σ H fun x H1 => ∃ (a : Addr) (xs : List Str), x = .ref a ∧ (SqL K H1 a (xs.map V.str) ∨ SqT K H1 a (xs.map V.str)) ∧ xs.length ≤ 1000 ∧ Q (.int (dn xs xs.length : Nat)) H1
theorem rd_lenUn {K : PySem.W.Frag} {te : TE} {σ : L2.St} {H : Hp} {Q : VK} : tLenUn K te σ H Q = te σ H fun x H1 => ∃ (a : Addr) (xs : List Str), x = .ref a ∧ (SqL K H1 a (xs.map V.str) ∨ SqT K H1 a (xs.map V.str)) ∧ xs.length ≤ 1000 ∧ Q (.int (dn xs xs.length : Nat)) H1 := rfl
theorem pe_lenUn {X : Cx} {e : Expr} {te : TE} {p p2 q pos : Pos} (calm : X.calm = true) (m1 : X.mg "len" = none) (m2 : X.mg "set" = none) (he : PE X e te) (g1 : Gl X "len" := by rfl) (g2 : Gl X "set" := by rfl)
    (na : starEach [e] X.env = (false, eval e X.env) :: starEach [] X.env := by rfl) : PE X (.Call (.Name "len" p) [.Call (.Name "set" p2) [e] [] q] [] pos) (tLenUn X.K te) := by
  constructor
  intro pins s σ H Q I h
  refine Call_ (ld_blt I g1 m1 boot_len (callWith_builtin1 (args_cons ?_ rfl) rfl rfl))
  refine Call_ (ld_blt I g2 m2 boot_set (callWith_type1 (args_cons (thn (he.run pins s σ H _ I h) ?_) na) na rfl))
  rintro v st ⟨x, H1, J, rx, a, xs, rfl, way, few, hq⟩
  obtain rfl : v = Value.ref a := rx
  refine args_nil ?_
  have big : xs.length + 1 < scanBound := by unfold scanBound; omega
  have done : ∀ (its : List Value), Vals (xs.map V.str) its → ∀ (h2 : Heap) (tk2 : Nat), h2.SetOf (PySem.strKind X.prog X.w) st.heap.objs.size (fun k => (xs.take its.toArray.size).any (· == k)) (dn xs its.toArray.size) →
      (∀ b o, b < st.heap.objs.size → st.heap.get? b = some o → h2.get? b = some o) →
      wpAny (model X.prog X.w) X.A (spliced (backTo pos (starEach [] X.env))) (fun vs s2 => wpAny (model X.prog X.w) X.A (call (.builtin "len") (Value.ref st.heap.objs.size :: vs)) (EP X pins σ Q) X.xe s2) X.xe { st with heap := h2, toks := tk2 } := by
    intro its rv h2 tk2 set kept
    refine args_nil ?_
    have len : its.toArray.size = xs.length := by rw [List.size_toArray, ← rv.length, List.length_map]
    rw [len] at set
    obtain ⟨o, es, ep, t, at_, ex, dat, _, _, _, fit, num⟩ := set
    have J2 : Inv X pins σ H1 { st with heap := h2, toks := tk2 } := J.kept fun b o z => kept b o (Heap.lt_size z) z
    have le := dn_le xs xs.length
    refine call_len_set at_ ex dat fit (by rw [num] <;> omega) ⟨.int (dn xs xs.length : Nat), H1, J2.tok _, ⟨_, by rw [num]⟩, hq⟩
  rcases way with hs | hs
  · obtain ⟨its, rv, pl, _⟩ := J.list hs
    exact set_lstTx (J.ok.hd calm) pl.isList (by simpa using strsAre_of rv) big fun h2 tk2 set kept => done its rv h2 tk2 set kept
  · obtain ⟨its, rv, pl, _⟩ := J.tuple hs
    exact set_tupTx (J.ok.hd calm) pl (by simpa using strsAre_of rv) big fun h2 tk2 set kept => done its rv h2 tk2 set kept
theorem dn_nodup {xs : List Str} (h : xs.Nodup) : ∀ i, i ≤ xs.length → dn xs i = i
  | 0, _ => rfl
  | i + 1, hi => by
    have lt : i < xs.length := hi
    have e : xs.getD i Str.empty = xs[i] := by rw [List.getD_eq_getElem?_getD, List.getElem?_eq_getElem lt]; rfl
    unfold dn
    rw [e, if_neg, dn_nodup h i (Nat.le_of_lt lt)]
    intro z
    obtain ⟨y, hy, hyi⟩ := List.any_eq_true.mp z
    obtain ⟨k, hk, hk2⟩ := List.getElem_of_mem hy
    rw [List.getElem_take] at hk2
    have kl : k < i := by rw [List.length_take] at hk; omega
    have same : xs[k] = xs[i] := hk2.trans (beq_iff_eq.mp hyi)
    have := (List.getElem_inj h).mp same
    omega
end My

set_option Elab.async false
set_option linter.all false
set_option maxRecDepth 100000
set_option maxHeartbeats 2000000
namespace My
open PySem PySem.Spec PyProof.Rows L2
local macro_rules | `(tactic| walk_at "rd") => `(tactic| simp only [rd_seq, rd_next, rd_brk, rd_cont, rd_asg, rd_gname, rd_var, rd_c, rd_op, rd_un, rd_rI0, rd_rI, rd_rU, rd_test, rd_B, rd_and, rd_or, rd_not, rd_andV, rd_orV, rd_notV, rd_ifx, rd_ifs, rd_drop, rd_ret, rd_nil, rd_cons, rd_cb, rd_tup, rd_lst, rd_call, rd_bm, rd_app, rd_ixLst, rd_ixSq, rd_lenL, rd_lenSq, rd_setLst, rd_sub, rd_neNil, rd_isStr, rd_dg, rd_dp, rd_mk, rd_sl, rd_noP, rd_part, rd_slL, rd_cat, rd_lcL, rd_lcE, rd_lcA, rd_lcEA, rd_isTy, rd_lenUn,  L2.valV_put, rd_fldS, rd_eq, rd_ne, rd_fldE, rd_allB, rd_isBl, rd_inS, rd_chain, rd_chain', L2.wipe, Int.reduceToNat, Int.reduceLE, Int.reduceLT, Nat.reduceLT, Nat.reduceLeDiff, Int.reduceNeg, Int.toNat_natCast, Int.reduceAdd, L2.start, and_assoc, exists_and_left, List.map_cons, List.map_nil, List.length_cons, List.length_nil, List.cons_append, List.nil_append, List.append_nil, List.replicate_succ, List.replicate_zero, List.replicate, List.set_cons_zero, List.set_cons_succ, List.getElem?_cons_zero, List.getElem?_cons_succ, Option.some.injEq, exists_eq_left', exists_eq_left, exists_eq, V.int.injEq, V.ref.injEq, V.str.injEq, V.bl.injEq, HO.lst.injEq, HO.tup.injEq, ex_bl, List.cons.injEq, and_true, true_and, Nat.reduceAdd, Nat.reduceSub, reduceCtorEq, false_and, or_false, exists_false, false_or, decide_eq_true_eq, if_true, if_false, Bool.false_eq_true, Bool.not_true, Bool.not_false, upd_same])
local macro_rules | `(tactic| walk_at "rdh") => `(tactic| simp only [rd_seq, rd_next, rd_brk, rd_cont, rd_asg, rd_gname, rd_var, rd_c, rd_op, rd_un, rd_rI0, rd_rI, rd_rU, rd_test, rd_B, rd_and, rd_or, rd_not, rd_andV, rd_orV, rd_notV, rd_ifx, rd_ifs, rd_drop, rd_ret, rd_nil, rd_cons, rd_cb, rd_tup, rd_lst, rd_call, rd_bm, rd_app, rd_ixLst, rd_ixSq, rd_lenL, rd_lenSq, rd_setLst, rd_sub, rd_neNil, rd_isStr, rd_dg, rd_dp, rd_mk, rd_sl, rd_noP, rd_part, rd_slL, rd_cat, rd_lcL, rd_lcE, rd_lcA, rd_lcEA, rd_isTy, rd_lenUn,  L2.valV_put, rd_fldS, rd_eq, rd_ne, rd_fldE, rd_allB, rd_isBl, rd_inS, rd_chain, rd_chain', L2.wipe, Int.reduceToNat, Int.reduceLE, Int.reduceLT, Nat.reduceLT, Nat.reduceLeDiff, Int.reduceNeg, Int.toNat_natCast, Int.reduceAdd, L2.start, and_assoc, exists_and_left, List.map_cons, List.map_nil, List.length_cons, List.length_nil, List.cons_append, List.nil_append, List.append_nil, List.replicate_succ, List.replicate_zero, List.replicate, List.set_cons_zero, List.set_cons_succ, List.getElem?_cons_zero, List.getElem?_cons_succ, Option.some.injEq, exists_eq_left', exists_eq_left, exists_eq, V.int.injEq, V.ref.injEq, V.str.injEq, V.bl.injEq, HO.lst.injEq, HO.tup.injEq, ex_bl, List.cons.injEq, and_true, true_and, Nat.reduceAdd, Nat.reduceSub, reduceCtorEq, false_and, or_false, exists_false, false_or, decide_eq_true_eq, if_true, if_false, Bool.false_eq_true, Bool.not_true, Bool.not_false, upd_same, *])
abbrev sNmb : Stmt := topI 5
abbrev sRow : Stmt := topI 6
abbrev sMrk : Stmt := topI 13
abbrev sWds : Stmt := topI 14
abbrev NNmb : List Str := ["value", "least", "most"]
theorem scNmb : FnScope NNmb ["value", "least", "most"] (defScope sNmb) := ⟨rfl, rfl, rfl, by decide +kernel, rfl, by decide +kernel, by decide +kernel⟩
abbrev NRow : List Str := ["value"]
theorem scRow : FnScope NRow ["value"] (defScope sRow) := ⟨rfl, rfl, rfl, by decide +kernel, rfl, by decide +kernel, by decide +kernel⟩
abbrev NMrk : List Str := ["value"]
theorem scMrk : FnScope NMrk ["value"] (defScope sMrk) := ⟨rfl, rfl, rfl, by decide +kernel, rfl, by decide +kernel, by decide +kernel⟩
abbrev NWds : List Str := ["value", "most", "word"]
theorem scWds : FnScope NWds ["value", "most"] (defScope sWds) := ⟨rfl, rfl, rfl, by decide +kernel, rfl, by decide +kernel, by decide +kernel⟩
def spNmb : Sp := fun vs H Q _ => ∃ n lo hi : Int, vs = [.int n, .int lo, .int hi] ∧ Q (.bl (decide (lo ≤ n) && decide (n ≤ hi))) H
def spRow (K : PySem.W.Frag) : Sp := fun vs H Q _ => ∃ (v : V) (b : Bool), vs = [v] ∧ RwV K H v b ∧ ∀ H', Same H H' → Q (.bl b) H'
def spMrk : Sp := fun vs H Q _ => ∃ x : Str, vs = [.str x] ∧ x.length ≤ 1000 ∧ ∀ H', Same H H' → Q (.bl (isWord (.str x) && !decide (x = "goal"))) H'
/-- are_words of a list or a tuple of texts -/
def spWds (K : PySem.W.Frag) : Sp := fun vs H Q _ => ∃ (a : Addr) (ws : List Str) (m : Int), vs = [.ref a, .int m] ∧ Row K H a (ws.map V.str) ∧ ws.length ≤ 1000 ∧ (∀ x ∈ ws, x.length ≤ 1000) ∧
  ∀ H', Same H H' → Q (.bl (decide ((ws.length : Int) ≤ m) && (ws.all (fun x => isWord (.str x)) && decide (dn ws ws.length = ws.length)))) H'
section
variable {P : Program} {w : World} {K : PySem.W.Frag} {mg : Str → Option Value} {base : Heap}
theorem tyS_keep {H H' : Hp} {v : V} {t : String} (e : Same H H') (h : tyS H v = some t) : tyS H' v = some t := by
  cases v with
  | ref a =>
    rcases tyO_cases (show tyO (H a) = some t from h) with ⟨xs, z, rfl⟩ | ⟨xs, z, rfl⟩ | ⟨xs, z, rfl⟩
    all_goals
      show tyO (H' a) = _
      rw [e a _ z]
      rfl
  | _ => exact h
theorem RwV.same {H H' : Hp} {v : V} {b : Bool} (h : RwV K H v b) (s : Same H H') : RwV K H' v b := h.imp (fun ⟨t, z, e⟩ => ⟨t, tyS_keep s z, e⟩) id
theorem ok_nmb {f : Addr} {fd : FuncData} (F : Fun K "is_number" "is_number" sNmb f fd) (B : Bn mg) : FnOk P w K mg base CX0 1 f fd ["value", "least", "most"] spNmb := by
  refine F.ok scNmb (fun vs H Q E h => ?_) (fun cdv A outer s H vs Q E hr h => ?_)
  · obtain ⟨n, lo, hi, rfl, _⟩ := h
    rfl
  · obtain ⟨n, lo, hi, rfl, q⟩ := h
    refine ⟨_, (pss_one (ps_ret (pe_and (pe_callB (call_isTy (T := "int")) (by rfl) B.isinstance (by decide +kernel) (pa_cons (pv 0) (pa_cons (pe_ty (T := "int") B.int (by decide +kernel)) pa_nil))) (pe_and (pe_not (pe_callB call_isBl (by rfl) B.isinstance (by decide +kernel) (pa_cons (pv 0) (pa_cons (pe_tyBool B.bool) pa_nil)))) (pe_one (pe_chain op_le op_le (pv 1) (pv 0) (pv 2))))))), ?_⟩
    walk_at "rd"
    refine ⟨"int", rfl, true, by decide +kernel, iteT ⟨rfl, iteT ?_⟩⟩
    by_cases h1 : lo ≤ n
    · rw [if_pos h1]
      rw [decide_eq_true h1, Bool.true_and] at q
      exact q
    · rw [if_neg h1]
      rw [decide_eq_false h1, Bool.false_and] at q
      exact q
theorem ok_row {f : Addr} {fd : FuncData} (F : Fun K "is_row" "is_row" sRow f fd) (B : Bn mg) : FnOk P w K mg base CX0 1 f fd ["value"] (spRow K) := by
  refine F.ok scRow (fun vs H Q E h => ?_) (fun cdv A outer s H vs Q E hr h => ?_)
  · obtain ⟨v, b, rfl, _⟩ := h
    rfl
  · obtain ⟨v, b, rfl, ht, q⟩ := h
    refine ⟨_, (pss_one (ps_ret (pe_callB call_isRow (by rfl) B.isinstance (by decide +kernel) (pa_cons (pv 0) (pa_cons (pe_tup (pa_cons (pe_ty (T := "list") B.list (by decide +kernel)) (pa_cons (pe_ty (T := "tuple") B.tuple (by decide +kernel)) pa_nil))) pa_nil))))), ?_⟩
    walk_at "rd"
    refine ⟨sz (by decide), fun p hp => ⟨v, p, b, rfl, upd_same, ht.same (My.Same.new (Same.refl H) hp), q _ (My.Same.new (Same.refl H) hp)⟩⟩
theorem ok_mrk {f : Addr} {fd : FuncData} (F : Fun K "is_mark" "is_mark" sMrk f fd) (B : Bn mg) (Dis_word : Df K mg "is_word" sWrd ["value"]) (Gis_word : FnOk P w K mg base CX0 1 Dis_word.f Dis_word.fd ["value"] spWrd) : FnOk P w K mg base CX0 2 f fd ["value"] spMrk := by
  refine F.ok scMrk (fun vs H Q E h => ?_) (fun cdv A outer s H vs Q E hr h => ?_)
  · obtain ⟨x, rfl, _⟩ := h
    rfl
  · obtain ⟨x, rfl, hx, q⟩ := h
    have hr1 := hr
    refine ⟨_, (pss_one (ps_ret (pe_and (pc Dis_word Gis_word hr1 (pa_cons (pv 0) pa_nil)) (pe_one (pe_cmpR op_ne (pv 0) pe_str (nomark _)))))), ?_⟩
    walk_at "rd"
    refine ⟨.str x, rfl, rfl, (fun y e => by cases e; exact hx), fun H' s => ⟨_, rfl, ?_⟩⟩
    have z := q H' s
    cases e : isWord (.str x) with
    | true =>
      rw [e, Bool.true_and] at z
      exact iteT ⟨rfl, z⟩
    | false =>
      rw [e, Bool.false_and] at z
      exact iteF z
theorem ok_wds {f : Addr} {fd : FuncData} (F : Fun K "are_words" "are_words" sWds f fd) (B : Bn mg) (Dis_word : Df K mg "is_word" sWrd ["value"]) (Gis_word : FnOk P w K mg base CX0 1 Dis_word.f Dis_word.fd ["value"] spWrd)
    (Dis_row : Df K mg "is_row" sRow ["value"]) (Gis_row : FnOk P w K mg base CX0 1 Dis_row.f Dis_row.fd ["value"] (spRow K)) : FnOk P w K mg base CX0 2 f fd ["value", "most"] (spWds K) := by
  refine F.ok scWds (fun vs H Q E h => ?_) (fun cdv A outer s H vs Q E hr h => ?_)
  · obtain ⟨a, ws, m, rfl, _⟩ := h
    rfl
  · obtain ⟨a, ws, m, rfl, ha, hz, hx, q⟩ := h
    have hr1 := hr
    refine ⟨_, (pss_cons (ps_if (PW.pt (pw_or (pt_not (pt_val (pc Dis_row Gis_row hr1 (pa_cons (pv 0) pa_nil)))) (pw_or1 (pt_cmpR op_gt (pe_callB call_len_seq (by rfl) B.len (by decide +kernel) (pa_cons (pv 0) pa_nil)) (pv 1) (nomark _)))))
        (pss_one (ps_ret pe_bl))
        pss_nil)
      (pss_one (ps_ret (pe_and (pe_callB (cr_allB rfl) (by rfl) B.all (by decide +kernel) (pa_cons (pe_lc (own := [("word", 2)]) (g := gName 2) rfl scWds.nd (pi_any (pv 0)) (blkOk_by (own := [("word", 2)]) (N := NWds) (sc := defScope sWds) (by decide +kernel)) (fun _ _ _ _ _ => pg_name (i := 2) scWds.nd rfl (Or.inl rfl)) (fun _ _ _ _ _ => pts_nil) (fun _ _ _ _ _ => (pc Dis_word Gis_word hr1 (pa_cons (pv 2) pa_nil)))) pa_nil)) (pe_one (pe_cmpR op_eq (pe_lenUn rfl B.len B.set (pv 0)) (pe_callB call_len_seq (by rfl) B.len (by decide +kernel) (pa_cons (pv 0) pa_nil)) (nomark _))))))), ?_⟩
    walk_at "rd"
    refine ⟨_, true, rfl, ha.ty, fun H1 s1 => ⟨_, rfl, ?_⟩⟩
    refine iteF ?_
    refine ⟨ws.map V.str, (ha.same s1).sq, ?_⟩
    rw [List.length_map]
    by_cases hm : m < (ws.length : Int)
    · rw [if_pos hm]
      have z := q H1 s1
      rw [decide_eq_false (by omega), Bool.false_and] at z
      exact z
    rw [if_neg hm]
    have hm' : decide ((ws.length : Int) ≤ m) = true := decide_eq_true (by omega)
    refine rowLc (ha.same s1) (by rw [List.length_map]; exact hz) (fun v => .bl (isWord v)) (fun _ => rfl) (fun x H' R hxm sm r => ?_) (fun D H2 hD s2 hl => ?_)
    · obtain ⟨y, hy, rfl⟩ := List.mem_map.mp hxm
      exact ⟨_, rfl, .str y, rfl, rfl, (fun z e => by cases e; exact hx _ hy), fun H3 s3 => r H3 s3⟩
    · have s12 := s1.trans s2
      refine ⟨D, rfl, ws.map fun x => isWord (.str x), by rw [hl, List.map_map, List.map_map]; rfl, _, rfl, ?_⟩
      have z := q H2 s12
      rw [hm', Bool.true_and] at z
      have ea : (ws.map fun x => isWord (V.str x)).all id = ws.all fun x => isWord (V.str x) := by rw [List.all_map]; rfl
      rw [ea]
      cases e : (ws.all fun x => isWord (V.str x)) with
      | false =>
        rw [e, Bool.false_and] at z
        exact iteF z
      | true =>
        rw [e, Bool.true_and] at z
        refine iteT ⟨ws, (ha.same s12).sq, hz, ws.map V.str, (ha.same s12).sq, rfl, ?_⟩
        rw [List.length_map]
        have ed : decide (((dn ws ws.length : Nat) : Int) = ((ws.length : Nat) : Int)) = decide (dn ws ws.length = ws.length) := by
          by_cases e2 : dn ws ws.length = ws.length
          · rw [decide_eq_true e2, e2]; simp
          · rw [decide_eq_false e2]
            exact decide_eq_false fun h => e2 (by omega)
        rw [ed]
        exact z
end
end My

set_option Elab.async false
set_option linter.all false
set_option maxRecDepth 100000
set_option maxHeartbeats 2000000
namespace My
open PySem PySem.Spec PyProof.Rows L2
def rIxTp : R2 := fun x y H Q => ∃ p i, x = .ref p ∧ y = .int i ∧ ∃ xs, H p = some (.tup xs) ∧ 0 ≤ i ∧ ∃ v, xs[i.toNat]? = some v ∧ Q v H
theorem rd_ixTp {x y : V} {H : Hp} {Q : VK} : rIxTp x y H Q = ∃ p i, x = .ref p ∧ y = .int i ∧ ∃ xs, H p = some (.tup xs) ∧ 0 ≤ i ∧ ∃ v, xs[i.toNat]? = some v ∧ Q v H := rfl
theorem ix_tp {X : Cx} : IxR X rIxTp := ix_tup.imp fun _ _ _ _ ⟨p, i, ex, ey, xs, hp, h0, v, hv, q⟩ => ⟨p, xs, i, v, ex, ey, SqT.of hp, atI_pos h0 hv, q⟩
/-- [e for i, x in enumerate(xs)], e leaving what stands as it is -/
theorem lcB_emap {K : PySem.W.Frag} {J : It} {G : Hp → Prop} {xs : List V} {j1 j2 : Nat} {te : TE} {σ : L2.St} {H : Hp} {Q : VK} (w : Walk J xs.length G (YPair (fun i => some (.int (i : Nat))) (fun i => xs[i]?))) (hG : ∀ H', Same H H' → G H') (hz : xs.length ≤ 1000) (f : Nat → V)
    (hw : ∀ x y, wipe (((wipe σ [j1, j2]).set j1 (some x)).set j2 (some y)) [j1, j2] = wipe σ [j1, j2])
    (he : ∀ (i : Nat) (x : V) (H' : Hp) (R : VK), xs[i]? = some x → Same H H' → (∀ H2, Same H' H2 → R (f i) H2) → te (((wipe σ [j1, j2]).set j1 (some (.int (i : Nat)))).set j2 (some x)) H' R)
    (hq : ∀ (D : Addr) (H' : Hp), H D = none → Same H H' → H' D = some (.lst ((List.range xs.length).map f)) → Q (.ref D) H') : lcB J (gTup K 2 (gCons (gName j1) (gCons (gName j2) gNil))) tYes te [j1, j2] σ H Q := by
  intro D hD
  refine lc_it w (fun i H' => Same H H' ∧ H' D = some (.lst ((List.range i).map f))) ⟨My.Same.new (Same.refl H) hD, upd_same⟩ (fun i H' _ h => hG H' h.1) ?_ ?_
  · rintro i x H' H2 hi ⟨sm, hl⟩ ⟨T, x0, y0, rfl, hT, rfl, e1, e2⟩
    obtain rfl : V.int (i : Nat) = x0 := Option.some.inj e1
    have hx : xs[i]? = some y0 := e2
    have s1 : Same H (upd H' T (.tup [.int (i : Nat), y0])) := My.Same.new' sm hT
    have hl1 : upd H' T (.tup [.int (i : Nat), y0]) D = some (.lst ((List.range i).map f)) := by
      rw [upd_ne (ne_of_none hl hT)]
      exact hl
    refine ⟨T, [.int (i : Nat), y0], rfl, SqT.of upd_same, rfl, _, _, rfl, _, _, rfl, rfl, hw _ _, ?_⟩
    simp only [tYes, if_true]
    refine he i y0 _ _ hx s1 fun H3 s3 => ⟨_, s3 _ _ hl1, szl ?_, My.Same.new (s1.trans s3) hD, ?_⟩
    · rw [List.length_map, List.length_range]
      omega
    · rw [upd_same, List.range_succ, List.map_append]
      rfl
  · rintro H' ⟨sm, hl⟩
    exact hq D H' hD sm hl
theorem rowLcE {K : PySem.W.Frag} {a : Addr} {xs : List V} {j1 j2 : Nat} {te : TE} {σ : L2.St} {H : Hp} {Q : VK} (h : Row K H a xs) (hz : xs.length ≤ 1000) (f : Nat → V) (hw : ∀ x y, wipe (((wipe σ [j1, j2]).set j1 (some x)).set j2 (some y)) [j1, j2] = wipe σ [j1, j2])
    (he : ∀ (i : Nat) (x : V) (H' : Hp) (R : VK), xs[i]? = some x → Same H H' → (∀ H2, Same H' H2 → R (f i) H2) → te (((wipe σ [j1, j2]).set j1 (some (.int (i : Nat)))).set j2 (some x)) H' R)
    (hq : ∀ (D : Addr) (H' : Hp), H D = none → Same H H' → H' D = some (.lst ((List.range xs.length).map f)) → Q (.ref D) H') :
    ∃ ys, (SqL K H a ys ∧ lcB (Ite K a) (gTup K 2 (gCons (gName j1) (gCons (gName j2) gNil))) tYes te [j1, j2] σ H Q) ∨ (SqT K H a ys ∧ lcB (Iet K a) (gTup K 2 (gCons (gName j1) (gCons (gName j2) gNil))) tYes te [j1, j2] σ H Q) := by
  rcases h with h | h | h
  · exact ⟨xs, .inl ⟨SqL.of h, lcB_emap walk_enum (fun H' s => SqL.of (s _ _ h)) hz f hw he hq⟩⟩
  · exact ⟨xs, .inr ⟨SqT.of h, lcB_emap walk_enumT (fun H' s => SqT.of (s _ _ h)) hz f hw he hq⟩⟩
  · exact ⟨xs, .inr ⟨h.sq, lcB_emap walk_enumT (fun H' s => h.sq) hz f hw he hq⟩⟩
end My

set_option Elab.async false
set_option linter.all false
set_option maxRecDepth 100000
set_option maxHeartbeats 2000000
namespace My
open PySem PySem.Spec PyProof.Rows L2
local macro_rules | `(tactic| walk_at "rd") => `(tactic| simp only [rd_seq, rd_next, rd_brk, rd_cont, rd_asg, rd_gname, rd_var, rd_c, rd_op, rd_un, rd_rI0, rd_rI, rd_rU, rd_test, rd_B, rd_and, rd_or, rd_not, rd_andV, rd_orV, rd_notV, rd_ifx, rd_ifs, rd_drop, rd_ret, rd_nil, rd_cons, rd_cb, rd_tup, rd_lst, rd_call, rd_bm, rd_app, rd_ixLst, rd_ixSq, rd_lenL, rd_lenSq, rd_setLst, rd_sub, rd_neNil, rd_isStr, rd_dg, rd_dp, rd_mk, rd_sl, rd_noP, rd_part, rd_slL, rd_cat, rd_lcL, rd_lcE, rd_lcA, rd_lcEA, rd_isTy, rd_ixTp, rd_lenUn,  L2.valV_put, rd_fldS, rd_eq, rd_ne, rd_fldE, rd_allB, rd_isBl, rd_inS, rd_chain, rd_chain', L2.wipe, Int.reduceToNat, Int.reduceLE, Int.reduceLT, Nat.reduceLT, Nat.reduceLeDiff, Int.reduceNeg, Int.toNat_natCast, Int.reduceAdd, L2.start, and_assoc, exists_and_left, List.map_cons, List.map_nil, List.length_cons, List.length_nil, List.cons_append, List.nil_append, List.append_nil, List.replicate_succ, List.replicate_zero, List.replicate, List.set_cons_zero, List.set_cons_succ, List.getElem?_cons_zero, List.getElem?_cons_succ, Option.some.injEq, exists_eq_left', exists_eq_left, exists_eq, V.int.injEq, V.ref.injEq, V.str.injEq, V.bl.injEq, HO.lst.injEq, HO.tup.injEq, ex_bl, List.cons.injEq, and_true, true_and, Nat.reduceAdd, Nat.reduceSub, reduceCtorEq, false_and, or_false, exists_false, false_or, decide_eq_true_eq, if_true, if_false, Bool.false_eq_true, Bool.not_true, Bool.not_false, upd_same])
local macro_rules | `(tactic| walk_at "rdh") => `(tactic| simp only [rd_seq, rd_next, rd_brk, rd_cont, rd_asg, rd_gname, rd_var, rd_c, rd_op, rd_un, rd_rI0, rd_rI, rd_rU, rd_test, rd_B, rd_and, rd_or, rd_not, rd_andV, rd_orV, rd_notV, rd_ifx, rd_ifs, rd_drop, rd_ret, rd_nil, rd_cons, rd_cb, rd_tup, rd_lst, rd_call, rd_bm, rd_app, rd_ixLst, rd_ixSq, rd_lenL, rd_lenSq, rd_setLst, rd_sub, rd_neNil, rd_isStr, rd_dg, rd_dp, rd_mk, rd_sl, rd_noP, rd_part, rd_slL, rd_cat, rd_lcL, rd_lcE, rd_lcA, rd_lcEA, rd_isTy, rd_ixTp, rd_lenUn,  L2.valV_put, rd_fldS, rd_eq, rd_ne, rd_fldE, rd_allB, rd_isBl, rd_inS, rd_chain, rd_chain', L2.wipe, Int.reduceToNat, Int.reduceLE, Int.reduceLT, Nat.reduceLT, Nat.reduceLeDiff, Int.reduceNeg, Int.toNat_natCast, Int.reduceAdd, L2.start, and_assoc, exists_and_left, List.map_cons, List.map_nil, List.length_cons, List.length_nil, List.cons_append, List.nil_append, List.append_nil, List.replicate_succ, List.replicate_zero, List.replicate, List.set_cons_zero, List.set_cons_succ, List.getElem?_cons_zero, List.getElem?_cons_succ, Option.some.injEq, exists_eq_left', exists_eq_left, exists_eq, V.int.injEq, V.ref.injEq, V.str.injEq, V.bl.injEq, HO.lst.injEq, HO.tup.injEq, ex_bl, List.cons.injEq, and_true, true_and, Nat.reduceAdd, Nat.reduceSub, reduceCtorEq, false_and, or_false, exists_false, false_or, decide_eq_true_eq, if_true, if_false, Bool.false_eq_true, Bool.not_true, Bool.not_false, upd_same, *])
abbrev sStp : Stmt := topI 16
abbrev sSts : Stmt := topI 17
abbrev NStp : List Str := ["value", "is_last", "has_goals"]
theorem scStp : FnScope NStp ["value", "is_last", "has_goals"] (defScope sStp) := ⟨rfl, rfl, rfl, by decide +kernel, rfl, by decide +kernel, by decide +kernel⟩
abbrev NSts : List Str := ["value", "has_goals", "last", "at", "step"]
theorem scSts : FnScope NSts ["value", "has_goals"] (defScope sSts) := ⟨rfl, rfl, rfl, by decide +kernel, rfl, by decide +kernel, by decide +kernel⟩
def acts : List Str := ["strike", "again", "turn"]
def isMark (x : Str) : Bool := isWord (.str x) && !decide (x = "goal")
/-- a step of the right form: an act, or more or less of a mark -/
inductive Stp where
  | act (a : Str)
  | move (d m : Str)
  deriving DecidableEq
def Stp.vs : Stp → List V
  | .act a => [.str a]
  | .move d m => [.str d, .str m]
def Stp.short : Stp → Prop
  | .act _ => True
  | .move _ m => m.length ≤ 1000
def Stp.ok (last goals : Bool) : Stp → Bool
  | .act a => last && hasS acts (.str a)
  | .move d m => hasS ["more", "less"] (.str d) && (isMark m || (goals && hasS ["goal"] (.str m)))
def spStp : Sp := fun vs H Q _ => ∃ (a : Addr) (st : Stp) (l g : Bool), vs = [.ref a, .bl l, .bl g] ∧ H a = some (.tup st.vs) ∧ st.short ∧ ∀ H', Same H H' → Q (.bl (st.ok l g)) H'
section
variable {P : Program} {w : World} {K : PySem.W.Frag} {mg : Str → Option Value} {base : Heap}
theorem ok_stp {f aA : Addr} {fd : FuncData} (F : Fun K "is_step" "is_step" sStp f fd) (B : Bn mg) (gA : mg "ACTS" = some (.ref aA)) (hA : ∀ H, SqT K H aA (acts.map V.str)) (Dis_one_of : Df K mg "is_one_of" sOne ["value", "words"]) (Gis_one_of : FnOk P w K mg base CX0 1 Dis_one_of.f Dis_one_of.fd ["value", "words"] (spOne K))
    (Dis_mark : Df K mg "is_mark" sMrk ["value"]) (Gis_mark : FnOk P w K mg base CX0 2 Dis_mark.f Dis_mark.fd ["value"] spMrk) : FnOk P w K mg base CX0 3 f fd ["value", "is_last", "has_goals"] spStp := by
  refine F.ok scStp (fun vs H Q E h => ?_) (fun cdv A outer s H vs Q E hr h => ?_)
  · obtain ⟨a, st, l, g, rfl, _⟩ := h
    rfl
  · obtain ⟨a, st, l, g, rfl, ha, hs, q⟩ := h
    have hr2 := hr
    have hr1 := hr.mono (by decide : 1 ≤ 2)
    refine ⟨_, (pss_cons (ps_if (pt_not (pt_val (pe_callB (call_isTy (T := "tuple")) (by rfl) B.isinstance (by decide +kernel) (pa_cons (pv 0) (pa_cons (pe_ty (T := "tuple") B.tuple (by decide +kernel)) pa_nil)))))
        (pss_one (ps_ret pe_bl))
        pss_nil)
      (pss_cons (ps_if (pt_cmpR op_eq (pe_callB call_len_seq (by rfl) B.len (by decide +kernel) (pa_cons (pv 0) pa_nil)) pe_int (nomark _))
        (pss_one (ps_ret (pe_and (pv 1) (pe_one (pc Dis_one_of Gis_one_of hr1 (pa_cons (pe_ix ix_tp (pv 0) pe_int (fun _ _ => rfl)) (pa_cons (pe_gR gA) pa_nil)))))))
        pss_nil)
      (pss_cons (ps_if (PW.pt (pw_or (pt_cmpR op_ne (pe_callB call_len_seq (by rfl) B.len (by decide +kernel) (pa_cons (pv 0) pa_nil)) pe_int (nomark _)) (pw_or1 (pt_not (pt_val (pc Dis_one_of Gis_one_of hr1 (pa_cons (pe_ix ix_tp (pv 0) pe_int (fun _ _ => rfl)) (pa_cons (pe_tup (pa_cons pe_str (pa_cons pe_str pa_nil))) pa_nil))))))))
        (pss_one (ps_ret pe_bl))
        pss_nil)
      (pss_one (ps_ret (pe_or (pc Dis_mark Gis_mark hr2 (pa_cons (pe_ix ix_tp (pv 0) pe_int (fun _ _ => rfl)) pa_nil)) (pe_one (pe_and (pv 2) (pe_one (pc Dis_one_of Gis_one_of hr1 (pa_cons (pe_ix ix_tp (pv 0) pe_int (fun _ _ => rfl)) (pa_cons (pe_tup (pa_cons pe_str pa_nil)) pa_nil)))))))))))), ?_⟩
    walk_at "rd"
    refine ⟨"tuple", (by show tyO (H a) = _; rw [ha]; rfl), true, by decide +kernel, iteF ?_⟩
    cases st with
    | act w =>
      refine ⟨[.str w], .inr (SqT.of ha), rfl, ?_⟩
      rw [if_pos (by rfl)]
      have z := q H (Same.refl H)
      cases l with
      | false => exact iteF z
      | true => exact iteT ⟨_, ha, .str w, rfl, .str w, aA, acts, rfl, rfl, hA H, z⟩
    | move d m =>
      refine ⟨[.str d, .str m], .inr (SqT.of ha), rfl, ?_⟩
      rw [if_neg (by show ¬ ((2 : Nat) : Int) = 1; decide)]
      refine ⟨[.str d, .str m], .inr (SqT.of ha), rfl, ?_⟩
      rw [if_neg (by show ¬ (!decide (((2 : Nat) : Int) = 2)) = true; decide)]
      refine ⟨_, ha, .str d, rfl, sz (by decide), fun p hp => ⟨.str d, p, ["more", "less"], rfl, rfl, SqT.of upd_same, _, rfl, ?_⟩⟩
      have s1 := My.Same.new (o := .tup [.str "more", .str "less"]) (Same.refl H) hp
      cases e1 : hasS ["more", "less"] (.str d) with
      | false =>
        have z := q _ s1
        simp only [Stp.ok, e1, Bool.false_and] at z
        exact iteT z
      | true =>
        refine iteF ⟨_, s1 _ _ ha, .str m, rfl, m, rfl, hs, fun H2 s2 => ⟨_, rfl, ?_⟩⟩
        have s12 := s1.trans s2
        cases e2 : (isWord (.str m) && !decide (m = "goal")) with
        | true =>
          have z := q _ s12
          simp only [Stp.ok, isMark, e1, e2, Bool.true_and, Bool.true_or] at z
          exact iteT z
        | false =>
          refine iteF ?_
          cases g with
          | false =>
            have z := q _ s12
            simp only [Stp.ok, isMark, e1, e2, Bool.true_and, Bool.false_or, Bool.false_and] at z
            exact iteF z
          | true =>
            refine iteT ⟨_, s12 _ _ ha, .str m, rfl, sz (by decide), fun p2 hp2 => ⟨.str m, p2, ["goal"], rfl, rfl, SqT.of upd_same, ?_⟩⟩
            have z := q _ (My.Same.new' (o := .tup [.str "goal"]) s12 hp2)
            simp only [Stp.ok, isMark, e1, e2, Bool.true_and, Bool.false_or] at z
            exact z
end
end My

set_option Elab.async false
set_option linter.all false
set_option maxRecDepth 100000
set_option maxHeartbeats 2000000
namespace My
open PySem PySem.Spec PyProof.Rows L2
local macro_rules | `(tactic| walk_at "rd") => `(tactic| simp only [rd_seq, rd_next, rd_brk, rd_cont, rd_asg, rd_gname, rd_var, rd_c, rd_op, rd_un, rd_rI0, rd_rI, rd_rU, rd_test, rd_B, rd_and, rd_or, rd_not, rd_andV, rd_orV, rd_notV, rd_ifx, rd_ifs, rd_drop, rd_ret, rd_nil, rd_cons, rd_cb, rd_tup, rd_lst, rd_call, rd_bm, rd_app, rd_ixLst, rd_ixSq, rd_lenL, rd_lenSq, rd_setLst, rd_sub, rd_neNil, rd_isStr, rd_dg, rd_dp, rd_mk, rd_sl, rd_noP, rd_part, rd_slL, rd_cat, rd_lcL, rd_lcE, rd_lcA, rd_lcEA, rd_isTy, rd_ixTp, rd_lenUn,  L2.valV_put, rd_fldS, rd_eq, rd_ne, rd_fldE, rd_allB, rd_isBl, rd_inS, rd_chain, rd_chain', L2.wipe, Int.reduceToNat, Int.reduceLE, Int.reduceLT, Nat.reduceLT, Nat.reduceLeDiff, Int.reduceNeg, Int.toNat_natCast, Int.reduceAdd, L2.start, and_assoc, exists_and_left, List.map_cons, List.map_nil, List.length_cons, List.length_nil, List.cons_append, List.nil_append, List.append_nil, List.replicate_succ, List.replicate_zero, List.replicate, List.set_cons_zero, List.set_cons_succ, List.getElem?_cons_zero, List.getElem?_cons_succ, Option.some.injEq, exists_eq_left', exists_eq_left, exists_eq, V.int.injEq, V.ref.injEq, V.str.injEq, V.bl.injEq, HO.lst.injEq, HO.tup.injEq, ex_bl, List.cons.injEq, and_true, true_and, Nat.reduceAdd, Nat.reduceSub, reduceCtorEq, false_and, or_false, exists_false, false_or, decide_eq_true_eq, if_true, if_false, Bool.false_eq_true, Bool.not_true, Bool.not_false, upd_same])
local macro_rules | `(tactic| walk_at "rdh") => `(tactic| simp only [rd_seq, rd_next, rd_brk, rd_cont, rd_asg, rd_gname, rd_var, rd_c, rd_op, rd_un, rd_rI0, rd_rI, rd_rU, rd_test, rd_B, rd_and, rd_or, rd_not, rd_andV, rd_orV, rd_notV, rd_ifx, rd_ifs, rd_drop, rd_ret, rd_nil, rd_cons, rd_cb, rd_tup, rd_lst, rd_call, rd_bm, rd_app, rd_ixLst, rd_ixSq, rd_lenL, rd_lenSq, rd_setLst, rd_sub, rd_neNil, rd_isStr, rd_dg, rd_dp, rd_mk, rd_sl, rd_noP, rd_part, rd_slL, rd_cat, rd_lcL, rd_lcE, rd_lcA, rd_lcEA, rd_isTy, rd_ixTp, rd_lenUn,  L2.valV_put, rd_fldS, rd_eq, rd_ne, rd_fldE, rd_allB, rd_isBl, rd_inS, rd_chain, rd_chain', L2.wipe, Int.reduceToNat, Int.reduceLE, Int.reduceLT, Nat.reduceLT, Nat.reduceLeDiff, Int.reduceNeg, Int.toNat_natCast, Int.reduceAdd, L2.start, and_assoc, exists_and_left, List.map_cons, List.map_nil, List.length_cons, List.length_nil, List.cons_append, List.nil_append, List.append_nil, List.replicate_succ, List.replicate_zero, List.replicate, List.set_cons_zero, List.set_cons_succ, List.getElem?_cons_zero, List.getElem?_cons_succ, Option.some.injEq, exists_eq_left', exists_eq_left, exists_eq, V.int.injEq, V.ref.injEq, V.str.injEq, V.bl.injEq, HO.lst.injEq, HO.tup.injEq, ex_bl, List.cons.injEq, and_true, true_and, Nat.reduceAdd, Nat.reduceSub, reduceCtorEq, false_and, or_false, exists_false, false_or, decide_eq_true_eq, if_true, if_false, Bool.false_eq_true, Bool.not_true, Bool.not_false, upd_same, *])
/-- the i-th step is right -/
def okAt (g : Bool) (sts : List Stp) (i : Nat) : Bool := match sts[i]? with
  | some st => st.ok (decide ((i : Int) = (sts.length : Int) - 1)) g
  | none => true
def stepsOk (g : Bool) (sts : List Stp) : Bool := (List.range sts.length).all (okAt g sts)
def StpAt (H : Hp) (p : Addr) (st : Stp) : Prop := H p = some (.tup st.vs) ∧ st.short
theorem paired_at {α β : Type} {F : α → β → Prop} : ∀ {l : List α} {r : List β} {i : Nat} {x : α}, Paired F l r → l[i]? = some x → ∃ y, r[i]? = some y ∧ F x y
  | _, _, i, x, .nil, h => by simp at h
  | _, _, 0, x, .cons (b := b) f _, h => by
    obtain rfl := Option.some.inj h
    exact ⟨b, rfl, f⟩
  | _, _, i + 1, x, .cons _ t, h => paired_at (i := i) t h
def spSts (K : PySem.W.Frag) : Sp := fun vs H Q _ => ∃ (a : Addr) (ps : List Addr) (sts : List Stp) (g : Bool), vs = [.ref a, .bl g] ∧ Row K H a (ps.map V.ref) ∧ ps.length ≤ 1000 ∧ Paired (StpAt H) ps sts ∧ ∀ H', Same H H' → Q (.bl (decide (sts.length ≤ 4) && stepsOk g sts)) H'
section
variable {P : Program} {w : World} {K : PySem.W.Frag} {mg : Str → Option Value} {base : Heap}
theorem ok_sts {f : Addr} {fd : FuncData} (F : Fun K "are_steps" "are_steps" sSts f fd) (B : Bn mg) (Dis_row : Df K mg "is_row" sRow ["value"]) (Gis_row : FnOk P w K mg base CX0 1 Dis_row.f Dis_row.fd ["value"] (spRow K))
    (Dis_step : Df K mg "is_step" sStp ["value", "is_last", "has_goals"]) (Gis_step : FnOk P w K mg base CX0 3 Dis_step.f Dis_step.fd ["value", "is_last", "has_goals"] spStp) : FnOk P w K mg base CX0 4 f fd ["value", "has_goals"] (spSts K) := by
  refine F.ok scSts (fun vs H Q E h => ?_) (fun cdv A outer s H vs Q E hr h => ?_)
  · obtain ⟨a, ps, sts, g, rfl, _⟩ := h
    rfl
  · obtain ⟨a, ps, sts, g, rfl, ha, hz, hp, q⟩ := h
    have hr3 := hr
    have hr1 := hr.mono (by decide : 1 ≤ 3)
    refine ⟨_, (pss_cons (ps_if (PW.pt (pw_or (pt_not (pt_val (pc Dis_row Gis_row hr1 (pa_cons (pv 0) pa_nil)))) (pw_or1 (pt_cmpR op_gt (pe_callB call_len_seq (by rfl) B.len (by decide +kernel) (pa_cons (pv 0) pa_nil)) pe_int (nomark _)))))
        (pss_one (ps_ret pe_bl))
        pss_nil)
      (pss_cons (ps_set (i := 2) scSts.nd rfl (Or.inr rfl) (pe_op op_sub (pe_callB call_len_seq (by rfl) B.len (by decide +kernel) (pa_cons (pv 0) pa_nil)) pe_int))
      (pss_one (ps_ret (pe_callB (cr_allB rfl) (by rfl) B.all (by decide +kernel) (pa_cons (pe_lc (own := [("at", 3), ("step", 4)]) (g := gTup K 2 (gCons (gName 3) (gCons (gName 4) gNil))) rfl scSts.nd (pi_enumAny (by rfl) B.enumerate (pa_cons (pv 0) pa_nil)) (blkOk_by (own := [("at", 3), ("step", 4)]) (N := NSts) (sc := defScope sSts) (by decide +kernel)) (fun _ _ _ _ _ => by exact (pg_tup rfl (pgs_cons (pg_name (i := 3) scSts.nd rfl (Or.inl rfl)) (pgs_cons (pg_name (i := 4) scSts.nd rfl (Or.inl rfl)) pgs_nil)))) (fun _ _ _ _ _ => pts_nil) (fun _ _ _ _ _ => (pc Dis_step Gis_step hr3 (pa_cons (pv 4) (pa_cons (pe_cmpR op_eq (pv 3) (pv 2) (nomark _)) (pa_cons (pv 1) pa_nil)))))) pa_nil)))))), ?_⟩
    walk_at "rd"
    have len : ps.length = sts.length := Paired.length hp
    refine ⟨_, true, rfl, ha.ty, fun H1 s1 => ⟨_, rfl, ?_⟩⟩
    refine iteF ?_
    refine ⟨ps.map V.ref, (ha.same s1).sq, ?_⟩
    rw [List.length_map, len]
    by_cases h4 : (4 : Int) < (sts.length : Int)
    · rw [if_pos h4]
      have z := q H1 s1
      rw [decide_eq_false (by omega), Bool.false_and] at z
      exact z
    rw [if_neg h4]
    refine ⟨ps.map V.ref, (ha.same s1).sq, ?_⟩
    rw [List.length_map, len]
    refine rowLcE (ha.same s1) (by rw [List.length_map]; exact hz) (fun i => .bl (okAt g sts i)) (fun _ _ => rfl) (fun i x H' R hx sm r => ?_) (fun D H2 hD s2 hl => ?_)
    · rw [List.getElem?_map] at hx
      obtain ⟨p, hpi, rfl⟩ := Option.map_eq_some_iff.mp hx
      obtain ⟨st, hst, hat, hsh⟩ := paired_at hp hpi
      have e : okAt g sts i = st.ok (decide ((i : Int) = (sts.length : Int) - 1)) g := by
        unfold okAt
        rw [hst]
      refine ⟨_, rfl, _, rfl, _, rfl, rfl, _, rfl, p, st, decide ((i : Int) = (sts.length : Int) - 1), g, ?_, sm _ _ (s1 _ _ hat), hsh, fun H3 s3 => ?_⟩
      · have e2 : decide (V.int (i : Nat) = V.int ((sts.length : Int) - 1)) = decide ((i : Int) = (sts.length : Int) - 1) := by
          by_cases h : (i : Int) = (sts.length : Int) - 1
          · rw [decide_eq_true h, h]; simp
          · rw [decide_eq_false h]
            exact decide_eq_false fun z => h (V.int.inj z)
        rw [← e2]
        rfl
      · have z := r H3 s3
        rw [e] at z
        exact z
    · refine ⟨D, rfl, (List.range sts.length).map (okAt g sts), by rw [hl, List.length_map, len, List.map_map]; rfl, ?_⟩
      have z := q H2 (s1.trans s2)
      rw [decide_eq_true (by omega), Bool.true_and] at z
      have ea : ((List.range sts.length).map (okAt g sts)).all id = stepsOk g sts := by
        rw [List.all_map]
        rfl
      rw [ea]
      exact z
end
end My

set_option Elab.async false
set_option linter.all false
set_option maxRecDepth 100000
set_option maxHeartbeats 2000000
namespace My
open PySem PySem.Spec PyProof.Rows L2
theorem rd_lockE {t : TE} {σ : L2.St} {H : Hp} {Q : VK} : tLockE t σ H Q = ∃ d u, H d = some u ∧ Mut (some u) ∧ ∀ od, t σ (upd H d (.frz od u)) fun v H' => H' d = some (.frz od u) ∧ Q v (upd H' d u) := rfl
theorem rd_lcK {td : TE} {g : TG} {tt : TT} {te : TE} {vs : List Nat} {σ : L2.St} {H : Hp} {Q : VK} : tLc (iKeys td) g tt te vs σ H Q = td σ H fun x H1 => ∃ d o, x = .ref d ∧ ((∃ kvs, H1 d = some (.frz o (.dK kvs)) ∧ lcB (Itk d o kvs) g tt te vs σ H1 Q) ∨ ∃ kvs, H1 d = some (.frz o (.dT kvs)) ∧ lcB (Itkt d o kvs) g tt te vs σ H1 Q) := rfl
theorem rd_dgetD {td ty : TE} {σ : L2.St} {H : Hp} {Q : VK} : tDGet td ty σ H Q = td σ H fun x H1 => ty σ H1 fun y H2 => ∃ a v, x = .ref a ∧ DGet H2 a y (some v) ∧ Q v H2 := rfl
theorem walk_keysAt {d : Addr} {o : Obj} {kvs : List (Key × V)} : Walk (Itk d o kvs) (kvs.map fun kv => kV kv.1).length (fun H => H d = some (.frz o (.dK kvs))) (YAt (kvs.map fun kv => kV kv.1)) := by
  have w := walk_keys (d := d) (o := o) (kvs := kvs)
  rw [List.length_map]
  refine w.mono (fun _ h => h) fun i H x H' _ _ ⟨e, k, v, hk, hx⟩ => ⟨e, ?_⟩
  rw [List.getElem?_map, hk, hx]
  rfl
/-- [e for x in xs] by places -/
theorem lcB_imap {J : It} {G : Hp → Prop} {xs : List V} {j : Nat} {te : TE} {σ : L2.St} {H : Hp} {Q : VK} (w : Walk J xs.length G (YAt xs)) (hG : ∀ H', Same H H' → G H') (hz : xs.length ≤ 1000) (f : Nat → V) (hw : ∀ x, wipe ((wipe σ [j]).set j (some x)) [j] = wipe σ [j])
    (he : ∀ (i : Nat) (x : V) (H' : Hp) (R : VK), xs[i]? = some x → Same H H' → (∀ H2, Same H' H2 → R (f i) H2) → te ((wipe σ [j]).set j (some x)) H' R)
    (hq : ∀ (D : Addr) (H' : Hp), H D = none → Same H H' → H' D = some (.lst ((List.range xs.length).map f)) → Q (.ref D) H') : lcB J (gName j) tYes te [j] σ H Q := by
  intro D hD
  refine lc_it w (fun i H' => Same H H' ∧ H' D = some (.lst ((List.range i).map f))) ⟨My.Same.new (Same.refl H) hD, upd_same⟩ (fun i H' _ h => hG H' h.1) ?_ ?_
  · rintro i x H' H2 hi ⟨sm, hl⟩ ⟨rfl, hx⟩
    refine ⟨hw _, ?_⟩
    simp only [tYes, if_true]
    refine he i x _ _ hx sm fun H3 s3 => ⟨_, s3 _ _ hl, szl ?_, My.Same.new (sm.trans s3) hD, ?_⟩
    · rw [List.length_map, List.length_range]
      omega
    · rw [upd_same, List.range_succ, List.map_append]
      rfl
  · rintro H' ⟨sm, hl⟩
    exact hq D H' hD sm hl
/-- behind a lock -/
theorem same_unlock {H H' : Hp} {d : Addr} {u : HO} {od : Obj} (h : H d = some u) (s : Same (upd H d (.frz od u)) H') : Same H (upd H' d u) := fun b o e => by
  by_cases hb : b = d
  · subst hb
    rw [upd_same, ← h]
    exact e
  · rw [upd_ne hb]
    exact s b o (by rw [upd_ne hb]; exact e)
theorem val_at : ∀ {ks : List (Str × Int)} {i : Nat} {e : Str × Int}, (ks.map (·.1)).Nodup → ks[i]? = some e → valV (ks.map entK) (Sum.inr e.1) = some (.int e.2)
  | [], i, e, _, h => by simp at h
  | k :: ks, 0, e, _, h => by
    obtain rfl : k = e := Option.some.inj h
    exact valV_pos rfl
  | k :: ks, i + 1, e, nd, h => by
    rw [List.map_cons, List.nodup_cons] at nd
    have ne : ¬ (entK k).1 = Sum.inr e.1 := fun z => nd.1 (by
      have z2 : k.1 = e.1 := Sum.inr.inj z
      rw [z2]
      exact List.mem_map_of_mem (List.mem_of_getElem? h))
    rw [List.map_cons, valV_neg ne]
    exact val_at nd.2 h
end My
namespace My
open PySem PySem.Spec PyProof.Rows L2
/-- x in xs, x a text, xs a list or a tuple of texts -/
def rInRow (K : PySem.W.Frag) : R2 := fun x y H Q => ∃ (a : Addr) (z : Str) (ws : List Str), y = .ref a ∧ x = .str z ∧ Row K H a (ws.map V.str) ∧ Q (.bl (ws.contains z)) H
theorem rd_inRow {K : PySem.W.Frag} {x y : V} {H : Hp} {Q : VK} : rInRow K x y H Q = ∃ (a : Addr) (z : Str) (ws : List Str), y = .ref a ∧ x = .str z ∧ Row K H a (ws.map V.str) ∧ Q (.bl (ws.contains z)) H := rfl
theorem op_inRow {X : Cx} : OpR X (compareOp .In) (rInRow X.K) := op_in_seq.imp fun x _ _ _ ⟨a, z, ws, ey, ex, hr, q⟩ => by
  subst ex
  refine ⟨a, ws.map V.str, ey, hr.sq, rfl, flat_strs ws, ?_⟩
  show _
  rw [if_neg Bool.false_ne_true, inV_strs]
  exact q
/-- sorted(d.items()), as one expression -/
def tItems (td : TE) : TE := fun σ H Q => td σ H fun x H1 => ∃ (a : Addr) (ks : List (Str × Int)), x = .ref a ∧ H1 a = some (.dK (ks.map entK)) ∧ ks.length < 64 ∧
  ∀ (H2 : Hp) (l : Addr) (ps : List Addr) (ys : List (Str × Int)), Same H1 H2 → ys.Perm ks → ys.Pairwise (fun e f => ltCps f.1.cps.toList e.1.cps.toList = false) → H2 l = some (.lst (ps.map V.ref)) → Paired (fun b e => H2 b = some (.tup [.str e.1, .int e.2])) ps ys → Q (.ref l) H2
theorem rd_items {td : TE} {σ : L2.St} {H : Hp} {Q : VK} : tItems td σ H Q = td σ H fun x H1 => ∃ (a : Addr) (ks : List (Str × Int)), x = .ref a ∧ H1 a = some (.dK (ks.map entK)) ∧ ks.length < 64 ∧
  ∀ (H2 : Hp) (l : Addr) (ps : List Addr) (ys : List (Str × Int)), Same H1 H2 → ys.Perm ks → ys.Pairwise (fun e f => ltCps f.1.cps.toList e.1.cps.toList = false) → H2 l = some (.lst (ps.map V.ref)) → Paired (fun b e => H2 b = some (.tup [.str e.1, .int e.2])) ps ys → Q (.ref l) H2 := rfl
end My

set_option Elab.async false
set_option linter.all false
set_option maxRecDepth 100000
set_option maxHeartbeats 2000000
namespace My
open PySem PySem.Spec PyProof.Rows L2
local macro_rules | `(tactic| walk_at "rd") => `(tactic| simp only [rd_seq, rd_next, rd_brk, rd_cont, rd_asg, rd_gname, rd_var, rd_c, rd_op, rd_un, rd_rI0, rd_rI, rd_rU, rd_test, rd_B, rd_and, rd_or, rd_not, rd_andV, rd_orV, rd_notV, rd_ifx, rd_ifs, rd_drop, rd_ret, rd_nil, rd_cons, rd_cb, rd_tup, rd_lst, rd_call, rd_bm, rd_app, rd_ixLst, rd_ixSq, rd_lenL, rd_lenSq, rd_setLst, rd_sub, rd_neNil, rd_isStr, rd_dg, rd_dp, rd_mk, rd_sl, rd_noP, rd_part, rd_slL, rd_cat, rd_lcL, rd_lcE, rd_lcA, rd_lcEA, rd_isTy, rd_lockE, rd_lcK, rd_dgetD, rd_ixTp, rd_lenUn,  L2.valV_put, rd_fldS, rd_eq, rd_ne, rd_fldE, rd_allB, rd_isBl, rd_inS, rd_chain, rd_chain', L2.wipe, Int.reduceToNat, Int.reduceLE, Int.reduceLT, Nat.reduceLT, Nat.reduceLeDiff, Int.reduceNeg, Int.toNat_natCast, Int.reduceAdd, L2.start, and_assoc, exists_and_left, List.map_cons, List.map_nil, List.length_cons, List.length_nil, List.cons_append, List.nil_append, List.append_nil, List.replicate_succ, List.replicate_zero, List.replicate, List.set_cons_zero, List.set_cons_succ, List.getElem?_cons_zero, List.getElem?_cons_succ, Option.some.injEq, exists_eq_left', exists_eq_left, exists_eq, V.int.injEq, V.ref.injEq, V.str.injEq, V.bl.injEq, HO.lst.injEq, HO.tup.injEq, ex_bl, List.cons.injEq, and_true, true_and, Nat.reduceAdd, Nat.reduceSub, reduceCtorEq, false_and, or_false, exists_false, false_or, decide_eq_true_eq, if_true, if_false, Bool.false_eq_true, Bool.not_true, Bool.not_false, upd_same])
local macro_rules | `(tactic| walk_at "rdh") => `(tactic| simp only [rd_seq, rd_next, rd_brk, rd_cont, rd_asg, rd_gname, rd_var, rd_c, rd_op, rd_un, rd_rI0, rd_rI, rd_rU, rd_test, rd_B, rd_and, rd_or, rd_not, rd_andV, rd_orV, rd_notV, rd_ifx, rd_ifs, rd_drop, rd_ret, rd_nil, rd_cons, rd_cb, rd_tup, rd_lst, rd_call, rd_bm, rd_app, rd_ixLst, rd_ixSq, rd_lenL, rd_lenSq, rd_setLst, rd_sub, rd_neNil, rd_isStr, rd_dg, rd_dp, rd_mk, rd_sl, rd_noP, rd_part, rd_slL, rd_cat, rd_lcL, rd_lcE, rd_lcA, rd_lcEA, rd_isTy, rd_lockE, rd_lcK, rd_dgetD, rd_ixTp, rd_lenUn,  L2.valV_put, rd_fldS, rd_eq, rd_ne, rd_fldE, rd_allB, rd_isBl, rd_inS, rd_chain, rd_chain', L2.wipe, Int.reduceToNat, Int.reduceLE, Int.reduceLT, Nat.reduceLT, Nat.reduceLeDiff, Int.reduceNeg, Int.toNat_natCast, Int.reduceAdd, L2.start, and_assoc, exists_and_left, List.map_cons, List.map_nil, List.length_cons, List.length_nil, List.cons_append, List.nil_append, List.append_nil, List.replicate_succ, List.replicate_zero, List.replicate, List.set_cons_zero, List.set_cons_succ, List.getElem?_cons_zero, List.getElem?_cons_succ, Option.some.injEq, exists_eq_left', exists_eq_left, exists_eq, V.int.injEq, V.ref.injEq, V.str.injEq, V.bl.injEq, HO.lst.injEq, HO.tup.injEq, ex_bl, List.cons.injEq, and_true, true_and, Nat.reduceAdd, Nat.reduceSub, reduceCtorEq, false_and, or_false, exists_false, false_or, decide_eq_true_eq, if_true, if_false, Bool.false_eq_true, Bool.not_true, Bool.not_false, upd_same, *])
abbrev sCnt : Stmt := topI 15
abbrev NCnt : List Str := ["value", "mark"]
theorem scCnt : FnScope NCnt ["value"] (defScope sCnt) := ⟨rfl, rfl, rfl, by decide +kernel, rfl, by decide +kernel, by decide +kernel⟩
def cntOk (e : Str × Int) : Bool := isMark e.1 && (decide (1 ≤ e.2) && decide (e.2 ≤ 3))
/-- asks and pays: None, or a dict from texts to numbers -/
def spCnt : Sp := fun vs H Q _ => (vs = [.non] ∧ Q (.bl true) H) ∨ ∃ (d : Addr) (ks : List (Str × Int)), vs = [.ref d] ∧ H d = some (.dK (ks.map entK)) ∧ ks.length ≤ 1000 ∧ (ks.map (·.1)).Nodup ∧ (∀ e ∈ ks, e.1.length ≤ 1000) ∧
  ∀ H', Same H H' → Q (.bl (decide (ks.length ≤ 3) && ks.all cntOk)) H'
def atF {α : Type} (l : List α) (f : α → Bool) (i : Nat) : Bool := match l[i]? with
  | some e => f e
  | none => true
theorem atF_at {α : Type} {l : List α} {f : α → Bool} {i : Nat} {e : α} (h : l[i]? = some e) : atF l f i = f e := by
  unfold atF
  rw [h]
theorem all_range {α : Type} (l : List α) (f : α → Bool) : ((List.range l.length).map (atF l f)).all id = l.all f := by
  rw [List.all_map]
  apply Bool.eq_iff_iff.mpr
  rw [List.all_eq_true, List.all_eq_true]
  constructor
  · intro h x hx
    obtain ⟨i, hi⟩ := List.mem_iff_getElem?.mp hx
    have lt := (List.getElem?_eq_some_iff.mp hi).1
    have z : atF l f i = true := h i (List.mem_range.mpr lt)
    rwa [atF_at hi] at z
  · intro h i hi
    have lt := List.mem_range.mp hi
    show atF l f i = true
    rw [atF_at (List.getElem?_eq_getElem lt)]
    exact h _ (List.getElem_mem lt)
section
variable {P : Program} {w : World} {K : PySem.W.Frag} {mg : Str → Option Value} {base : Heap}
theorem ok_cnt {f : Addr} {fd : FuncData} {tkM : Tok} (F : Fun K "are_counts" "are_counts" sCnt f fd) (B : Bn mg) (gM : mg "MOST_MARKS" = some (.int 3 tkM)) (Dis_mark : Df K mg "is_mark" sMrk ["value"]) (Gis_mark : FnOk P w K mg base CX0 2 Dis_mark.f Dis_mark.fd ["value"] spMrk)
    (Dis_number : Df K mg "is_number" sNmb ["value", "least", "most"]) (Gis_number : FnOk P w K mg base CX0 1 Dis_number.f Dis_number.fd ["value", "least", "most"] spNmb) : FnOk P w K mg base CX0 3 f fd ["value"] spCnt := by
  refine F.ok scCnt (fun vs H Q E h => ?_) (fun cdv A outer s H vs Q E hr h => ?_)
  · rcases h with ⟨rfl, _⟩ | ⟨d, ks, rfl, _⟩ <;> rfl
  · have hr2 := hr
    have hr1 := hr.mono (by decide : 1 ≤ 2)
    refine ⟨_, (pss_cons (ps_if (pt_cmpR op_isN (pv 0) pe_non (nomark _))
        (pss_one (ps_ret pe_bl))
        pss_nil)
      (pss_cons (ps_if (PW.pt (pw_or (pt_not (pt_val (pe_callB (call_isTy (T := "dict")) (by rfl) B.isinstance (by decide +kernel) (pa_cons (pv 0) (pa_cons (pe_ty (T := "dict") B.dict (by decide +kernel)) pa_nil))))) (pw_or1 (pt_cmpR op_gt (pe_callB call_lenD (by rfl) B.len (by decide +kernel) (pa_cons (pv 0) pa_nil)) (pe_glob (v := .int 3) rfl gM ⟨_, rfl⟩) (nomark _)))))
        (pss_one (ps_ret pe_bl))
        pss_nil)
      (pss_one (ps_ret (pe_lock (pe_callB (cr_allB rfl) (by rfl) B.all (by decide +kernel) (pa_cons (pe_lc (own := [("mark", 1)]) (g := gName 1) rfl scCnt.nd (pi_keys (pv 0)) (blkOk_by (own := [("mark", 1)]) (N := NCnt) (sc := defScope sCnt) (by decide +kernel)) (fun _ _ _ _ _ => pg_name (i := 1) scCnt.nd rfl (Or.inl rfl)) (fun _ _ _ _ _ => pts_nil) (fun _ _ _ _ _ => (pe_and (pc Dis_mark Gis_mark hr2 (pa_cons (pv 1) pa_nil)) (pe_one (pc Dis_number Gis_number hr1 (pa_cons (pe_dget (hu_of hr) (pv 0) (pv 1) (fun _ _ => rfl)) (pa_cons pe_int (pa_cons pe_int pa_nil)))))))) pa_nil))))))), ?_⟩
    rcases h with ⟨rfl, q⟩ | ⟨d, ks, rfl, hd, hz, nd, hx, q⟩
    · walk_at "rd"
      exact q
    · walk_at "rd"
      refine ⟨"dict", (by show tyO (H d) = _; rw [hd]; rfl), true, by decide +kernel, iteF ⟨_, hd, ?_⟩⟩
      rw [List.length_map]
      by_cases h3 : (3 : Int) < (ks.length : Int)
      · rw [if_pos h3]
        have z := q H (Same.refl H)
        rw [decide_eq_false (by omega), Bool.false_and] at z
        exact z
      rw [if_neg h3]
      refine ⟨d, _, hd, trivial, fun od => ⟨od, .inl ⟨_, upd_same, ?_⟩⟩⟩
      refine lcB_imap walk_keysAt (fun H' s => s _ _ upd_same) (by rw [List.length_map, List.length_map]; exact hz) (fun i => .bl (atF ks cntOk i)) (fun _ => rfl) (fun i x H' R hxi sm r => ?_) (fun D H2 hD s2 hl => ?_)
      · rw [List.getElem?_map, List.getElem?_map] at hxi
        obtain ⟨e0, he0, rfl⟩ := Option.map_eq_some_iff.mp hxi
        obtain ⟨e, he, rfl⟩ := Option.map_eq_some_iff.mp he0
        refine ⟨_, rfl, e.1, rfl, hx e (List.mem_of_getElem? he), fun H3 s3 => ⟨_, rfl, ?_⟩⟩
        have z := r H3 s3
        rw [atF_at he] at z
        have z2 : R (.bl (isMark e.1 && (decide (1 ≤ e.2) && decide (e.2 ≤ 3)))) H3 := z
        cases e1 : (isWord (.str e.1) && !decide (e.1 = "goal")) with
        | false =>
          have e2 : isMark e.1 = false := e1
          rw [e2, Bool.false_and] at z2
          exact iteF z2
        | true =>
          have e2 : isMark e.1 = true := e1
          rw [e2, Bool.true_and] at z2
          exact iteT ⟨_, rfl, _, rfl, d, .int e.2, rfl, .inl ⟨_, Sum.inr e.1, .inr ⟨od, s3 _ _ (sm _ _ upd_same)⟩, rfl, (val_at nd he).symm⟩, e.2, 1, 3, rfl, z2⟩
      · refine ⟨D, rfl, (List.range ks.length).map (atF ks cntOk), by rw [hl, List.length_map, List.length_map, List.map_map]; rfl, s2 _ _ upd_same, ?_⟩
        have z := q _ (same_unlock hd s2)
        rw [decide_eq_true (by omega), Bool.true_and] at z
        rw [all_range ks cntOk]
        exact z
end
end My

set_option Elab.async false
set_option linter.all false
set_option maxRecDepth 100000
set_option maxHeartbeats 2000000
namespace My
open PySem PySem.Spec PyProof.Rows L2
abbrev sNum : Stmt := topI 20
/-- all drawn numbers lie from 0 to 839 -/
def Dn (ns : List Int) : Prop := ∀ n ∈ ns, 0 ≤ n ∧ n < 840
/-- _law_numbers: a new list of drawn numbers -/
def spNum : Sp := fun vs H Q _ => ∃ (c k m : Int), vs = [.int c, .int k, .int m] ∧ 0 ≤ k ∧ k ≤ 1000 ∧ 0 ≤ m ∧ m ≤ 1000 ∧
  ∀ (p : Addr) (ns : List Int) (H' : Hp), H p = none → Same H H' → H' p = some (.lst (ns.map V.int)) → Dn ns → Q (.ref p) H'
theorem scNum : FnScope ["cell", "salt", "many", "whole", "left", "result", "k", "one"] ["cell", "salt", "many"] (defScope sNum) := ⟨rfl, rfl, rfl, by decide +kernel, rfl, by decide +kernel, by decide +kernel⟩
section
variable {P : Program} {w : World} {K : PySem.W.Frag} {mg : Str → Option Value} {base : Heap}
local macro_rules | `(tactic| walk_at "rd") => `(tactic| simp only [rd_seq, rd_next, rd_brk, rd_cont, rd_asg, rd_gname, rd_var, rd_c, rd_op, rd_un, rd_rI0, rd_rI, rd_rU, rd_test, rd_B, rd_and, rd_or, rd_not, rd_andV, rd_orV, rd_notV, rd_ifx, rd_ifs, rd_drop, rd_ret, rd_nil, rd_cons, rd_cb, rd_tup, rd_lst, rd_call, rd_bm, rd_app, L2.start, and_assoc, exists_and_left, List.map_cons, List.map_nil, List.length_cons, List.length_nil, List.cons_append, List.nil_append, List.append_nil, List.replicate_succ, List.replicate_zero, List.replicate, List.set_cons_zero, List.set_cons_succ, List.getElem?_cons_zero, List.getElem?_cons_succ, Option.some.injEq, exists_eq_left', exists_eq_left, exists_eq, V.int.injEq, V.ref.injEq, V.str.injEq, V.bl.injEq, HO.lst.injEq, HO.tup.injEq, ex_bl, List.cons.injEq, and_true, true_and, Nat.reduceAdd, Nat.reduceSub, reduceCtorEq, false_and, or_false, exists_false, false_or, decide_eq_true_eq, if_true, if_false, Bool.false_eq_true, Bool.not_true, Bool.not_false, upd_same])
theorem num_end {H H' : Hp} {p : Addr} {ns : List Int} {v : Int} {i : Nat} (hp : H p = none) (sm : Same H H') (dn : Dn ns) (len : ns.length = i) (hi : i < 1000) (hv : 0 ≤ v ∧ v < 840) :
    (ns.map V.int).length < sizeLine ∧ Same H (upd H' p (.lst (ns.map V.int ++ [.int v]))) ∧ ∃ x : List Int, ns.map V.int ++ [.int v] = x.map V.int ∧ Dn x ∧ x.length = i + 1 :=
  ⟨szl (by rw [List.length_map]; omega), My.Same.new sm hp, ns ++ [v], by rw [List.map_append]; rfl, fun n hn => by
    rcases List.mem_append.mp hn with h | h
    · exact dn n h
    · rw [List.mem_singleton.mp h]; exact hv, by rw [List.length_append, len]; rfl⟩
theorem num_math {w0 k : Int} {i : Nat} (k0 : 0 ≤ k) (k1 : k ≤ 1000) (hi : i < 1000) :
    CMul 7717 k ∧ CPow (w0.fmod 2147483629 + 7717 * k + 3) 3 ∧ CMul 99991 ((i : Int) + 1) ∧ CMul (((w0.fmod 2147483629 + 7717 * k + 3) ^ Int.toNat 3).fmod 2147483647 + 99991 * ((i : Int) + 1)) ((i : Int) + 5) ∧
    ∀ a : Int, CPow (a.fmod 2147483629) 5 ∧ ∀ b : Int, CMul (b.fmod 2147483647) 48271 := by
  have h1 := fmod_r (a := w0) (m := 2147483629) (by decide)
  have h2 := fmod_r (a := (w0.fmod 2147483629 + 7717 * k + 3) ^ Int.toNat 3) (m := 2147483647) (by decide)
  refine ⟨.inl ⟨by decide, by decide⟩, ⟨by decide, by decide, by omega⟩, .inl ⟨by decide, by decide⟩, .inr ⟨by omega, by omega⟩, fun a => ⟨⟨by decide, by decide, ?_⟩, fun b => .inr ⟨by decide, by decide⟩⟩⟩
  have h3 := fmod_r (a := a) (m := 2147483629) (by decide)
  omega
theorem cdiv (a : Int) {m : Int} (h : m ≠ 0 ∧ m.natAbs < 1073741824 := by decide) : CDivN a m := h
theorem ok_num {f : Addr} {fd : FuncData} (F : Fun K "_law_numbers" "_law_numbers" sNum f fd) (B : Bn mg) : FnOk P w K mg base CX0 1 f fd ["cell", "salt", "many"] spNum := by
  refine F.ok scNum (fun vs H Q E h => ?_) (fun cdv A outer s H vs Q E hr h => ?_)
  · obtain ⟨c, k, m, rfl, _⟩ := h
    rfl
  · obtain ⟨c, k, m, rfl, k0, k1, m0, m1, q⟩ := h
    refine ⟨_, pss_cons (ps_set (i := 3) scNum.nd rfl (Or.inl rfl) (pe_callB (call_max2 rfl) (by rfl) B.max (by decide +kernel) (pa_cons (pe_callTy call_int1 (by rfl) B.int (by decide +kernel) (pa_cons (pv 0) pa_nil)) (pa_cons (pe_callTy call_int1 (by rfl) B.int (by decide +kernel) (pa_cons (pe_op op_sub (pe_un un_neg pe_int) (pv 0)) pa_nil)) pa_nil))))
      (pss_cons (ps_set (i := 4) scNum.nd rfl (Or.inl rfl) (pv 3))
      (pss_cons (ps_set (i := 5) scNum.nd rfl (Or.inl rfl) (pe_lst pa_nil))
      (pss_cons (ps_for PassesOwn.never rfl (pi_range1 (by rfl) B.range (pa_cons (pv 2) pa_nil)) (pg_name (i := 6) scNum.nd rfl (Or.inl rfl))
        (pss_one (ps_if (PW.pt (pw_and (pt_cmpR op_ge (pv 3) (pe_op op_pow pe_int pe_int) (nomark _)) (pw_and1 (pt_cmpR op_gt (pv 4) pe_int (nomark _)))))
          (pss_cons (ps_expr (pe_app (pv 5) (pe_op op_modN (pe_callTy call_int1 (by rfl) B.int (by decide +kernel) (pa_cons (pv 4) pa_nil)) pe_int)))
            (pss_one (ps_set (i := 4) scNum.nd rfl (Or.inl rfl) (pe_op op_fdivN (pv 4) pe_int))))
          (pss_cons (ps_set (i := 7) scNum.nd rfl (Or.inl rfl) (pe_op op_modN (pe_callTy call_int1 (by rfl) B.int (by decide +kernel) (pa_cons (pe_op op_pow (pe_op op_add (pe_op op_add (pe_op op_modN (pe_callTy call_int1 (by rfl) B.int (by decide +kernel) (pa_cons (pv 3) pa_nil)) pe_int) (pe_op op_mul pe_int (pv 1))) pe_int) pe_int) pa_nil)) pe_int))
          (pss_cons (ps_set (i := 7) scNum.nd rfl (Or.inl rfl) (pe_op op_modN (pe_callTy call_int1 (by rfl) B.int (by decide +kernel) (pa_cons (pe_op op_mul (pe_op op_add (pv 7) (pe_op op_mul pe_int (pe_op op_add (pv 6) pe_int))) (pe_op op_add (pv 6) pe_int)) pa_nil)) pe_int))
          (pss_cons (ps_set (i := 7) scNum.nd rfl (Or.inl rfl) (pe_op op_modN (pe_callTy call_int1 (by rfl) B.int (by decide +kernel) (pa_cons (pe_op op_mul (pe_op op_modN (pe_callTy call_int1 (by rfl) B.int (by decide +kernel) (pa_cons (pe_op op_pow (pv 7) pe_int) pa_nil)) pe_int) pe_int) pa_nil)) pe_int))
          (pss_one (ps_expr (pe_app (pv 5) (pe_op op_modN (pe_callTy call_int1 (by rfl) B.int (by decide +kernel) (pa_cons (pe_op op_fdivN (pv 7) pe_int) pa_nil)) pe_int)))))))))
        )
      (pss_one (ps_ret (pv 5)))))), ?_⟩
    walk_at "rd"
    refine ⟨sz (by decide), fun p hp => ?_⟩
    generalize (if -1 - c > c then -1 - c else c) = w0
    refine for_r1 (m := m) ⟨m0, by omega⟩ (fun Q q => ?_) (fun i σ' H' => ∃ (left : Int) (ns : List Int) (kv ov : Option V), σ' = [some (.int c), some (.int k), some (.int m), some (.int w0), some (.int left), some (.ref p), kv, ov] ∧ Same H H' ∧ H' p = some (.lst (ns.map V.int)) ∧ Dn ns ∧ ns.length = i)
      ⟨w0, [], none, none, rfl, My.Same.new (Same.refl H) hp, upd_same, (fun n hn => nomatch hn), rfl⟩ ?_ ?_
    · walk_at "rd"
      exact q
    · rintro i _ H' hi ⟨left, ns, kv, ov, rfl, sm, hl, dn, len⟩
      walk_at "rd"
      simp only [hl]
      walk_at "rd"
      have hi' : i < 1000 := by omega
      obtain ⟨a1, a2, a3, a4, a5⟩ := num_math (w0 := w0) (i := i) k0 k1 hi'
      refine ⟨⟨by decide, by decide, by decide⟩, ?_⟩
      split
      · split
        · obtain ⟨b1, b2, b3⟩ := num_end hp sm dn len hi' (fmod_r (a := left) (m := 840) (by decide))
          exact ⟨⟨_, rfl⟩, by decide, b1, cdiv _, b2, b3⟩
        · refine ⟨by decide, a1, a2, by decide, a3, a4, by decide, (a5 _).1, by decide, (a5 0).2 _, by decide, ⟨_, rfl⟩, cdiv _, by decide, num_end hp sm dn len hi' (fmod_r (by decide))⟩
      · refine ⟨by decide, a1, a2, by decide, a3, a4, by decide, (a5 _).1, by decide, (a5 0).2 _, by decide, ⟨_, rfl⟩, cdiv _, by decide, num_end hp sm dn len hi' (fmod_r (by decide))⟩
    · rintro _ H' ⟨left, ns, kv, ov, rfl, sm, hl, dn, len⟩
      walk_at "rd"
      exact q p ns H' hp sm hl dn
end
end My

set_option Elab.async false
set_option linter.all false
set_option maxRecDepth 100000
set_option maxHeartbeats 2000000
namespace My
open PySem PySem.Spec PyProof.Rows L2
local macro_rules | `(tactic| walk_at "rd") => `(tactic| simp only [rd_seq, rd_next, rd_brk, rd_cont, rd_asg, rd_gname, rd_var, rd_c, rd_op, rd_un, rd_rI0, rd_rI, rd_rU, rd_test, rd_B, rd_and, rd_or, rd_not, rd_andV, rd_orV, rd_notV, rd_ifx, rd_ifs, rd_drop, rd_ret, rd_nil, rd_cons, rd_cb, rd_tup, rd_lst, rd_call, rd_bm, rd_app, rd_ixLst, rd_ixSq, rd_lenL, rd_lenSq, rd_setLst, rd_sub, rd_neNil, Int.reduceToNat, Int.reduceLE, Int.reduceLT, Nat.reduceLT, Nat.reduceLeDiff, Int.reduceNeg, Int.toNat_natCast, Int.reduceAdd, L2.start, and_assoc, exists_and_left, List.map_cons, List.map_nil, List.length_cons, List.length_nil, List.cons_append, List.nil_append, List.append_nil, List.replicate_succ, List.replicate_zero, List.replicate, List.set_cons_zero, List.set_cons_succ, List.getElem?_cons_zero, List.getElem?_cons_succ, Option.some.injEq, exists_eq_left', exists_eq_left, exists_eq, V.int.injEq, V.ref.injEq, V.str.injEq, V.bl.injEq, HO.lst.injEq, HO.tup.injEq, ex_bl, List.cons.injEq, and_true, true_and, Nat.reduceAdd, Nat.reduceSub, reduceCtorEq, false_and, or_false, exists_false, false_or, decide_eq_true_eq, if_true, if_false, Bool.false_eq_true, Bool.not_true, Bool.not_false, upd_same])
local macro_rules | `(tactic| walk_at "rdh") => `(tactic| simp only [rd_seq, rd_next, rd_brk, rd_cont, rd_asg, rd_gname, rd_var, rd_c, rd_op, rd_un, rd_rI0, rd_rI, rd_rU, rd_test, rd_B, rd_and, rd_or, rd_not, rd_andV, rd_orV, rd_notV, rd_ifx, rd_ifs, rd_drop, rd_ret, rd_nil, rd_cons, rd_cb, rd_tup, rd_lst, rd_call, rd_bm, rd_app, rd_ixLst, rd_ixSq, rd_lenL, rd_lenSq, rd_setLst, rd_sub, rd_neNil, Int.reduceToNat, Int.reduceLE, Int.reduceLT, Nat.reduceLT, Nat.reduceLeDiff, Int.reduceNeg, Int.toNat_natCast, Int.reduceAdd, L2.start, and_assoc, exists_and_left, List.map_cons, List.map_nil, List.length_cons, List.length_nil, List.cons_append, List.nil_append, List.append_nil, List.replicate_succ, List.replicate_zero, List.replicate, List.set_cons_zero, List.set_cons_succ, List.getElem?_cons_zero, List.getElem?_cons_succ, Option.some.injEq, exists_eq_left', exists_eq_left, exists_eq, V.int.injEq, V.ref.injEq, V.str.injEq, V.bl.injEq, HO.lst.injEq, HO.tup.injEq, ex_bl, List.cons.injEq, and_true, true_and, Nat.reduceAdd, Nat.reduceSub, reduceCtorEq, false_and, or_false, exists_false, false_or, decide_eq_true_eq, if_true, if_false, Bool.false_eq_true, Bool.not_true, Bool.not_false, upd_same, *])
abbrev sOpn : Stmt := topI 21
abbrev sDrw : Stmt := topI 22
abbrev sPck : Stmt := topI 23
abbrev NOpn : List Str := ["script", "k", "many", "cell"]
theorem scOpn : FnScope NOpn ["script", "k", "many"] (defScope sOpn) := ⟨rfl, rfl, rfl, by decide +kernel, rfl, by decide +kernel, by decide +kernel⟩
abbrev NDrw : List Str := ["pool", "many", "at"]
theorem scDrw : FnScope NDrw ["pool", "many"] (defScope sDrw) := ⟨rfl, rfl, rfl, by decide +kernel, rfl, by decide +kernel, by decide +kernel⟩
abbrev NPck : List Str := ["pool", "some"]
theorem scPck : FnScope NPck ["pool", "some"] (defScope sPck) := ⟨rfl, rfl, rfl, by decide +kernel, rfl, by decide +kernel, by decide +kernel⟩
/-- _law_opened: a new pool of drawn numbers -/
def spOpn (K : PySem.W.Frag) : Sp := fun vs H Q _ => ∃ (a : Addr) (ns : List Int) (k m : Int), vs = [.ref a, .int k, .int m] ∧ SqL K H a (ns.map V.int) ∧ 0 ≤ k ∧ k ≤ 1000 ∧ (ns ≠ [] → k.toNat < ns.length) ∧ 0 ≤ m ∧ m ≤ 1000 ∧
  ∀ (p q : Addr) (zs : List Int) (H' : Hp), H p = none → H q = none → p ≠ q → Same H H' → H' p = some (.lst [.ref q, .int 0]) → H' q = some (.lst (zs.map V.int)) → Q (.ref p) H'
/-- _law_draw: a number below many; the pool's place moves on -/
def spDrw : Sp := fun vs H Q _ => ∃ (p q : Addr) (at_ m : Int) (zs : List Int), vs = [.ref p, .int m] ∧ 0 < m ∧ H p = some (.lst [.ref q, .int at_]) ∧ 0 ≤ at_ ∧ H q = some (.lst (zs.map V.int)) ∧
  ∀ r : Int, 0 ≤ r → r < m → Q (.int r) (upd H p (.lst [.ref q, .int (at_ + 1)]))
/-- _law_pick: one of some -/
def spPck : Sp := fun vs H Q _ => ∃ (p q a : Addr) (at_ : Int) (zs : List Int) (xs : List V), vs = [.ref p, .ref a] ∧ H p = some (.lst [.ref q, .int at_]) ∧ 0 ≤ at_ ∧ H q = some (.lst (zs.map V.int)) ∧ H a = some (.lst xs) ∧ a ≠ p ∧ 0 < xs.length ∧
  ∀ (i : Nat) (x : V), xs[i]? = some x → Q x (upd H p (.lst [.ref q, .int (at_ + 1)]))
section
variable {P : Program} {w : World} {K : PySem.W.Frag} {mg : Str → Option Value} {base : Heap}
theorem ok_opn {f : Addr} {fd : FuncData} (F : Fun K "_law_opened" "_law_opened" sOpn f fd) (B : Bn mg) (D_law_numbers : Df K mg "_law_numbers" sNum ["cell", "salt", "many"]) (G_law_numbers : FnOk P w K mg base CX0 1 D_law_numbers.f D_law_numbers.fd ["cell", "salt", "many"] spNum) :
    FnOk P w K mg base CX0 2 f fd ["script", "k", "many"] (spOpn K) := by
  refine F.ok scOpn (fun vs H Q E h => ?_) (fun cdv A outer s H vs Q E hr h => ?_)
  · obtain ⟨a, ns, k, m, rfl, _⟩ := h
    rfl
  · obtain ⟨a, ns, k, m, rfl, hS, k0, k1, kn, m0, m1, q⟩ := h
    have hu64 := hr.units
    have hr1 := hr
    refine ⟨_, (pss_cons (ps_set (i := 3) scOpn.nd rfl (Or.inl rfl) (pe_ifExp (pt_cmpR (op_neNil hu64) (pv 0) (pe_lst pa_nil) (nomark _)) (pe_ix ix_sq (pv 0) (pv 1) (fun _ _ => rfl)) pe_int))
      (pss_one (ps_ret (pe_lst (pa_cons (pc D_law_numbers G_law_numbers hr1 (pa_cons (pv 3) (pa_cons (pv 1) (pa_cons (pv 2) pa_nil)))) (pa_cons pe_int pa_nil)))))), ?_⟩
    walk_at "rd"
    refine ⟨sz (by decide), fun b hb => ?_⟩
    have hS' : SqL K (upd H b (.lst [])) a (ns.map V.int) := Same.seq (My.Same.new (Same.refl H) hb) hS
    refine ⟨ns, hS', ?_⟩
    have fin : ∀ c : Int, spNum [.int c, .int k, .int m] (upd H b (.lst [])) (fun x H1 => 2 ≤ sizeLine ∧ ∀ (p : Addr), H1 p = none → Q (.ref p) (upd H1 p (.lst [x, .int 0]))) E0 := fun c =>
      ⟨c, k, m, rfl, k0, k1, m0, m1, fun p' zs H1 hp' sm hl dn => ⟨sz (by decide), fun p2 hp2 => q p2 p' zs _ ((Same.trans (My.Same.new (Same.refl H) hb) sm).free hp2) ((My.Same.new (Same.refl H) hb).free hp')
        (Ne.symm (ne_of_none hl hp2)) (My.Same.new' (Same.trans (My.Same.new (Same.refl H) hb) sm) hp2) upd_same (by rw [upd_ne (ne_of_none hl hp2)]; exact hl)⟩⟩
    split
    · rename_i hne
      have hne' : ns ≠ [] := by rintro rfl; simp at hne
      refine ⟨_, hS', k0, V.int (ns[k.toNat]'(kn hne')), ?_, fin _⟩
      rw [List.getElem?_map, List.getElem?_eq_getElem (kn hne')]
      rfl
    · exact fin 5
theorem ok_drw {f : Addr} {fd : FuncData} (F : Fun K "_law_draw" "_law_draw" sDrw f fd) (B : Bn mg) :
    FnOk P w K mg base CX0 1 f fd ["pool", "many"] spDrw := by
  refine F.ok scDrw (fun vs H Q E h => ?_) (fun cdv A outer s H vs Q E hr h => ?_)
  · obtain ⟨p, q, at_, m, zs, rfl, _⟩ := h
    rfl
  · obtain ⟨p, r, at_, m, zs, rfl, m0, hp, a0, hq, q⟩ := h
    have hu64 := hr.units
    have hr1 := hr
    refine ⟨_, (pss_cons (ps_set (i := 2) scDrw.nd rfl (Or.inl rfl) (pe_ix ix_lst (pv 0) pe_int (fun _ _ => rfl)))
      (pss_cons (ps_asg (pe_op op_add (pv 2) pe_int) (pg_sub (pv 0) pe_int set_lst))
      (pss_one (ps_ret (pe_ifExp (pt_cmpR op_lt (pv 2) (pe_callB call_lenL (by rfl) B.len (by decide +kernel) (pa_cons (pe_ix ix_lst (pv 0) pe_int (fun _ _ => rfl)) pa_nil)) (nomark _)) (pe_op op_modN (pe_callTy call_int1 (by rfl) B.int (by decide +kernel) (pa_cons (pe_ix ix_lst (pe_ix ix_lst (pv 0) pe_int (fun _ _ => rfl)) (pv 2) (fun _ _ => rfl)) pa_nil)) (pv 1)) pe_int))))), ?_⟩
    have hrp : r ≠ p := ne_of hq hp (by intro z; injection z with z; cases zs with | nil => cases z | cons a l => injection z with z; cases z)
    walk_at "rd"
    have hu1 := fun o => upd_ne (H := H) (o := o) hrp
    walk_at "rdh"
    split
    · rename_i hlt
      rw [List.length_map] at hlt
      have hi : at_.toNat < zs.length := by omega
      refine ⟨V.int (zs[at_.toNat]'hi), ?_, .inl ⟨_, rfl, by omega, q _ (fmod_r m0).1 (fmod_r m0).2⟩⟩
      rw [List.getElem?_map, List.getElem?_eq_getElem hi]
      rfl
    · trivial
theorem ok_pck {f : Addr} {fd : FuncData} (F : Fun K "_law_pick" "_law_pick" sPck f fd) (B : Bn mg) (D_law_draw : Df K mg "_law_draw" sDrw ["pool", "many"]) (G_law_draw : FnOk P w K mg base CX0 1 D_law_draw.f D_law_draw.fd ["pool", "many"] spDrw) :
    FnOk P w K mg base CX0 2 f fd ["pool", "some"] spPck := by
  refine F.ok scPck (fun vs H Q E h => ?_) (fun cdv A outer s H vs Q E hr h => ?_)
  · obtain ⟨p, q, a, at_, zs, xs, rfl, _⟩ := h
    rfl
  · obtain ⟨p, r, a, at_, zs, xs, rfl, hp, a0, hq, ha, hap, hx, q⟩ := h
    have hr1 := hr
    refine ⟨_, (pss_one (ps_ret (pe_ix ix_lst (pv 1) (pc D_law_draw G_law_draw hr1 (pa_cons (pv 0) (pa_cons (pe_callB call_lenL (by rfl) B.len (by decide +kernel) (pa_cons (pv 1) pa_nil)) pa_nil))) (fun _ _ => rfl)))), ?_⟩
    walk_at "rd"
    simp only [ha]
    walk_at "rd"
    refine ⟨p, r, at_, (xs.length : Int), zs, rfl, by omega, hp, a0, hq, fun i i0 i1 => ⟨i, rfl, xs, ?_⟩⟩
    rw [upd_ne hap]
    have hi : i.toNat < xs.length := by omega
    exact ⟨ha, i0, _, List.getElem?_eq_getElem hi, q _ _ (List.getElem?_eq_getElem hi)⟩
end
end My

set_option Elab.async false
set_option linter.all false
set_option maxRecDepth 100000
set_option maxHeartbeats 2000000
namespace My
open PySem PySem.Spec PyProof.Rows L2
/-! ### tuples of which it is known that they have no dict, and dict(tuple of pairs) -/
/-- a tuple, known exactly, without a dict -/
def TupF (H : Hp) (a : Addr) (xs : List V) : Prop := ∃ o : Obj, H a = some (.frz o (.tup xs)) ∧ o.dict = none
section
variable {X : Cx} {pos : Pos} {es : List Expr}
def tTupF (t : TA) : TE := fun σ H Q => t σ H fun xs H1 => xs.length ≤ sizeLine ∧ ∀ (p : Addr) (o : Obj), H1 p = none → o.dict = none → Q (.ref p) (upd H1 p (.frz o (.tup xs)))
theorem pe_tupF {x1} {t : TA} (h : PA X es t) : PE X (.Tuple es x1 pos) (tTupF t) := by
  constructor
  intro pins s σ H Q I hq
  refine wpAny_Tuple_spliced (thn (h.run pos pins s σ H _ I hq) fun us st ⟨xs, Hn, In, rv, len, wish⟩ => ⟨rv.length ▸ len, ?_⟩)
  have new := In.hok.fresh (Nat.le_refl st.heap.objs.size)
  have there : (st.heap.push { cls := .type "tuple", data := .seq us.toArray }).get? st.heap.objs.size = some { cls := .type "tuple", data := .seq us.toArray } := Heap.get?_push_size _ rfl
  exact ⟨.ref st.heap.objs.size, _, In.laid (o := .frz { cls := .type "tuple", data := .seq us.toArray } (.tup xs)) (t' := st.toks) (fun c o => Heap.get?_push_of_some _) (Nat.le_refl _) ⟨there, len, us, rv, _, there, rfl, _, rfl⟩, rfl, wish _ _ new rfl⟩
def rTupF (K : PySem.W.Frag) : List V → Hp → VK → Prop := fun xs H Q => ∃ (p : Addr) (ys : List V), xs = [.ref p] ∧ SqL K H p ys ∧ ∀ (l : Addr) (o : Obj), H l = none → o.dict = none → Q (.ref l) (upd H l (.frz o (.tup ys)))
theorem call_tupF : CallR X (.type "tuple") (rTupF X.K) := by
  intro pins s σ H xs us Q I rel ⟨p, ys, one, src, wish⟩
  subst one
  obtain ⟨u, e, rv⟩ := vals1 rel
  subst e
  cases rv
  obtain ⟨its, rv, lst, fit⟩ := I.list src
  have len := rv.length
  refine call_tuple_list lst.isList (fun hp keep => ?_) (by rw [List.size_toArray]; omega)
  have J : Inv X pins σ H { s with heap := hp } := I.kept (t' := s.toks) keep
  have there : (hp.push { cls := .type "tuple", data := .seq its.toArray }).get? hp.objs.size = some { cls := .type "tuple", data := .seq its.toArray } := Heap.get?_push_size _ rfl
  exact ⟨.ref hp.objs.size, _, J.laid (o := .frz { cls := .type "tuple", data := .seq its.toArray } (.tup ys)) (t' := s.toks) (fun c o => Heap.get?_push_of_some _) (Nat.le_refl _) ⟨there, fit, its, rv, _, there, rfl, _, rfl⟩, rfl, wish _ _ (J.hok.fresh (Nat.le_refl _)) rfl⟩
/-- the pairs as they lie in the heap -/
theorem pairs_at {pins : List (Addr × Obj)} {σ : L2.St} {H : Hp} {s : Shared} (I : Inv X pins σ H s) {ps : List Addr} {kvs : List (Key × V)} (h : Paired (fun p kv => SqT X.K H p [kV kv.1, kv.2]) ps kvs) :
    ∃ (prs : List (Key × Value)) (vps : List (Value × Value)), KV kvs prs ∧ prs.length = ps.length ∧ vps.length = ps.length ∧ ∀ (j : Nat) (k v : Value), vps[j]? = some (k, v) → ∃ (b : Addr) (kk : Key), ps[j]? = some b ∧ s.heap.IsTuple b #[k, v] ∧ prs[j]? = some (kk, v) ∧ keyIs kk k = true := by
  induction h with
  | nil => exact ⟨[], [], .nil, rfl, rfl, fun j k v e => by simp at e⟩
  | @cons p kv ps kvs h _ ih =>
    obtain ⟨prs, vps, r, l1, l2, q⟩ := ih
    obtain ⟨its, rv, tp, _⟩ := I.tuple h
    obtain ⟨u, y, e, ru, ry⟩ := vals2 rv
    subst e
    refine ⟨(kv.1, y) :: prs, (u, y) :: vps, .cons ⟨rfl, ry⟩ r, by rw [List.length_cons, List.length_cons, l1], by rw [List.length_cons, List.length_cons, l2], fun j k v e => ?_⟩
    cases j with
    | zero =>
      obtain ⟨rfl, rfl⟩ := Prod.mk.inj (Option.some.inj e)
      exact ⟨p, kv.1, rfl, tp, rfl, kV_is (P := X.prog) (w := X.w) ru⟩
    | succ j =>
      obtain ⟨b, kk, e1, e2, e3, e4⟩ := q j k v (by simpa using e)
      exact ⟨b, kk, by simpa using e1, e2, by simpa using e3, e4⟩
/-- dict(t), t a tuple of pairs -/
def rDictT (K : PySem.W.Frag) : List V → Hp → VK → Prop := fun xs H Q => ∃ (a : Addr) (ps : List Addr) (kvs : List (Key × V)), xs = [.ref a] ∧ TupF H a (ps.map V.ref) ∧ Paired (fun p kv => SqT K H p [kV kv.1, kv.2]) ps kvs ∧
    ∀ p, H p = none → Q (.ref p) (upd H p (.dK (mergeK [] kvs)))
theorem call_dictT (calm : X.calm = true) : CallR X (.type "dict") (rDictT X.K) := by
  intro pins s σ H xs us Q I rel ⟨a, ps, kvs, one, ⟨o, at_, noD⟩, prs0, wish⟩
  subst one
  obtain ⟨u, e, rv⟩ := vals1 rel
  subst e
  cases rv
  obtain ⟨there, fit, its, rv, o2, g2, cls, n, dat⟩ := I.hok a _ at_
  rw [there] at g2
  cases g2
  have e := refs_at rv
  subst e
  rw [List.length_map] at fit
  obtain ⟨prs, vps, kv, l1, l2, q⟩ := pairs_at I prs0
  have items : PairItems s.heap (ps.map Value.ref).toArray (fun j => ps.getD j 0) vps := by
    refine ⟨by simp [l2], fun j k v e => ?_⟩
    obtain ⟨b, kk, e1, e2, _, _⟩ := q j k v e
    have e3 : ps.getD j 0 = b := by rw [List.getD_eq_getElem?_getD, e1]; rfl
    dsimp only
    rw [e3]
    exact ⟨by simp [e1], .inl e2⟩
  have have_ : PairsHave (mixKind X.prog X.w) vps.length (PairRel vps) prs := ⟨by rw [l1, l2], fun i key v e => by
    obtain ⟨b, kk, _, _, e3, e4⟩ := q i key v e
    exact ⟨kk, e3, e4⟩⟩
  refine PySem.call_dict_pairs (knd := mixKind X.prog X.w) (PairArg.tuple a (ps.map Value.ref).toArray (fun j => ps.getD j 0) vps) (I.ok.hd calm) ⟨⟨o, n, there, cls, noD, dat⟩, items⟩ have_ (by rw [l2]; exact fit) fun hp tk dd keep => ?_
  have nm : (s.heap.objs.size == sysModules) = false := beq_eq_false_iff_ne.mpr (Nat.ne_of_gt I.big)
  have few : (mergeK [] kvs).length ≤ sizeLine := by
    refine Nat.le_trans (length_mergeK kvs []) ?_
    rw [List.length_nil, Nat.zero_add, kv.length, l1]
    exact fit
  exact ⟨.ref s.heap.objs.size, _, I.laid (o := .dK (mergeK [] kvs)) (t' := tk) (fun b o e => keep b o (fun z => nomatch z) e) (Nat.le_refl _) ⟨few, nm, merged [] prs, KV.merge kv .nil, dd⟩, rfl, wish _ (I.hok.fresh (Nat.le_refl _))⟩
end
end My

set_option Elab.async false
set_option linter.all false
set_option maxRecDepth 100000
set_option maxHeartbeats 2000000
namespace My
open PySem PySem.Spec PyProof.Rows L2
def CntV (H : Hp) (v : V) (ks : List (Str × Int)) : Prop := (v = .non ∧ ks = []) ∨ ∃ a, v = .ref a ∧ H a = some (.dK (ks.map entK))
theorem CntV.same {H H' : Hp} {v : V} {ks : List (Str × Int)} (h : CntV H v ks) (s : Same H H') : CntV H' v ks := h.imp id fun ⟨a, e, z⟩ => ⟨a, e, s _ _ z⟩
/-- a tuple of texts in order -/
def TupTx (H : Hp) (t : Addr) (ws : List Str) : Prop := ∃ ys : List Str, ys.Perm ws ∧ sortedS ys = true ∧ H t = some (.tup (ys.map V.str))
def TupCn (H : Hp) (t : Addr) (ks : List (Str × Int)) : Prop := ∃ (ps : List Addr) (ys : List (Str × Int)), ys.Perm ks ∧ ys.Pairwise (fun e f => ltCps f.1.cps.toList e.1.cps.toList = false) ∧ TupF H t (ps.map V.ref) ∧ Paired (fun b e => H b = some (.tup [.str e.1, .int e.2])) ps ys

/-- tuple(sorted(x)), x the list or tuple of texts in slot i -/
def tTupS (K : PySem.W.Frag) (i : Nat) : TE := fun σ H Q => ∃ (a : Addr) (ws : List Str), σ[i]? = some (some (.ref a)) ∧ Row K H a (ws.map V.str) ∧ ws.length < 64 ∧ ∀ (t : Addr) (H' : Hp), Same H H' → TupTx H' t ws → Q (.ref t) H'
abbrev rTupOf (K : PySem.W.Frag) : List V → Hp → VK → Prop := fun xs H Q => ∃ p ys, xs = [V.ref p] ∧ ((SqL K H p ys ∧ ∀ l, H l = none → Q (.ref l) (upd H l (.tup ys))) ∨ (SqT K H p ys ∧ Q (.ref p) H))
theorem tupS_imp {K : PySem.W.Frag} {i : Nat} : ∀ σ H Q, tTupS K i σ H Q → tCB (rTupOf K) (tCons (tCB (rSortTx K) (tCons (tVar i) tNil)) tNil) σ H Q := by
  rintro σ H Q ⟨a, ws, hi, hr, few, q⟩
  refine ⟨_, hi, a, ws, rfl, hr.sq, few, fun ys p perm srt hp => ⟨p, ys.map V.str, rfl, .inl ⟨SqL.of upd_same, fun l hl => ?_⟩⟩⟩
  exact q l _ (My.Same.new' (My.Same.new (Same.refl H) hp) hl) ⟨ys, perm, srt, upd_same⟩
/-- tuple(x), x a list or a tuple -/
def tTupO (K : PySem.W.Frag) (i : Nat) : TE := fun σ H Q => ∃ (a : Addr) (xs : List V), σ[i]? = some (some (.ref a)) ∧ Row K H a xs ∧ ∀ (t : Addr) (H' : Hp), Same H H' → Tp K H' t xs → Q (.ref t) H'
theorem tupO_imp {K : PySem.W.Frag} {i : Nat} : ∀ σ H Q, tTupO K i σ H Q → tCB (rTupOf K) (tCons (tVar i) tNil) σ H Q := by
  rintro σ H Q ⟨a, xs, hi, hr, q⟩
  refine ⟨_, hi, a, xs, rfl, ?_⟩
  rcases hr with hr | hr | hr
  · exact .inl ⟨SqL.of hr, fun l hl => q l _ (My.Same.new (Same.refl H) hl) (.inl upd_same)⟩
  · exact .inr ⟨SqT.of hr, q a H (Same.refl H) (.inl hr)⟩
  · exact .inr ⟨hr.sq, q a H (Same.refl H) (.inr hr)⟩
/-- () if x is None else tuple(sorted(x.items())) -/
def tAsk (i : Nat) : TE := fun σ H Q => ∃ (v : V) (ks : List (Str × Int)), σ[i]? = some (some v) ∧ CntV H v ks ∧ ks.length < 64 ∧ ∀ (t : Addr) (H' : Hp), Same H H' → TupCn H' t ks → Q (.ref t) H'
theorem ask_imp {K : PySem.W.Frag} {i : Nat} : ∀ σ H Q, tAsk i σ H Q → tIf (tTest (tOp (fun x y H Q => y = .non ∧ Q (.bl (decide (x = .non))) H) (tVar i) (tC .non))) (tTupF tNil) (tCB (rTupF K) (tCons (tCB rSortItK (tCons (tBM0 K "dict" rItemsK (tVar i)) tNil)) tNil)) σ H Q := by
  rintro σ H Q ⟨v, ks, hi, hc, few, q⟩
  refine ⟨_, hi, rfl, _, rfl, ?_⟩
  rcases hc with ⟨rfl, rfl⟩ | ⟨a, rfl, ha⟩
  · have e : decide (V.non = V.non) = true := by simp
    rw [e]
    refine iteT ⟨Nat.zero_le _, fun p o hp nd => q p _ (My.Same.new (Same.refl H) hp) ⟨[], [], .nil, .nil, ⟨o, upd_same, nd⟩, .nil⟩⟩
  · have e : decide (V.ref a = V.non) = false := by simp
    rw [e]
    refine iteF ⟨_, hi, .inr (.inr (.inl ⟨rfl, .inl ⟨_, ha⟩⟩)), a, _, rfl, rfl, ha, fun p hp => ?_⟩
    have na : a ≠ p := ne_of_none ha hp
    refine ⟨p, a, ks, rfl, upd_same, (by rw [upd_ne na]; exact ha), few, fun H2 l ps ys s2 hl perm srt h2 hps => ⟨l, ps.map V.ref, rfl, SqL.of h2, fun t ob ht nd => ?_⟩⟩
    have s3 := My.Same.new' (o := .frz ob (.tup (ps.map V.ref))) ((My.Same.new (o := DX.itemsO p a) (Same.refl H) hp).trans s2) ht
    exact q t _ s3 ⟨ps, ys, perm, srt, ⟨ob, upd_same, nd⟩, Paired.mono (fun b e h => by rw [upd_ne (ne_of_none h ht)]; exact h) hps⟩
/-- all stands but the object x, an instance with these fields -/
structure Mx (x C dx : Addr) (fs : List (Str × V)) (H0 H : Hp) : Prop where
  sb : ∀ b o, b ≠ x → H0 b = some o → H b = some o
  at_ : H x = some (.ins C dx fs)
theorem Mx.same {x C dx : Addr} {fs : List (Str × V)} {H0 H H' : Hp} (m : Mx x C dx fs H0 H) (s : Same H H') : Mx x C dx fs H0 H' := ⟨fun b o n h => s b o (m.sb b o n h), s _ _ m.at_⟩
theorem Mx.put {x C dx : Addr} {fs fs' : List (Str × V)} {H0 H : Hp} (m : Mx x C dx fs H0 H) : Mx x C dx fs' H0 (upd H x (.ins C dx fs')) := ⟨fun b o n h => by rw [upd_ne n]; exact m.sb b o n h, upd_same⟩
theorem Mx.start {x C dx : Addr} {fs : List (Str × V)} {H0 H : Hp} (s : Same H0 H) (h : H0 x = some (.ins C dx fs)) : Mx x C dx fs H0 H := ⟨fun b o _ z => s b o z, s _ _ h⟩
theorem Row.mx {K : PySem.W.Frag} {x C dx : Addr} {fs fs0 : List (Str × V)} {H H' : Hp} {a : Addr} {xs : List V} (h : Row K H a xs) (hx : H x = some (.ins C dx fs0)) (m : Mx x C dx fs H H') : Row K H' a xs := by
  exact h.imp (fun z => m.sb _ _ (ne_of z hx (by intro y; cases y)) z) fun z => z.imp (fun z => m.sb _ _ (ne_of z hx (by intro y; cases y)) z) id
theorem CntV.mx {x C dx : Addr} {fs fs0 : List (Str × V)} {H H' : Hp} {v : V} {ks : List (Str × Int)} (h : CntV H v ks) (hx : H x = some (.ins C dx fs0)) (m : Mx x C dx fs H H') : CntV H' v ks := by
  refine h.imp id fun ⟨a, e, z⟩ => ⟨a, e, m.sb _ _ (ne_of z hx (by intro y; cases y)) z⟩
/-- from one heap to a later one, x apart -/
def Rx (x : Addr) (H H' : Hp) : Prop := ∀ b o, b ≠ x → H b = some o → H' b = some o
theorem Rx.put {x : Addr} {H H' : Hp} {o : HO} (s : Same (upd H x o) H') : Rx x H H' := fun b u n h => s b u (by rw [upd_ne n]; exact h)
theorem Tp.rx {K : PySem.W.Frag} {x C dx t : Addr} {fs : List (Str × V)} {H H' : Hp} {xs : List V} (h : Tp K H t xs) (hx : H x = some (.ins C dx fs)) (r : Rx x H H') : Tp K H' t xs := h.imp (fun z => r _ _ (ne_of z hx (by intro y; cases y)) z) id
theorem TupTx.rx {x C dx t : Addr} {fs : List (Str × V)} {H H' : Hp} {ws : List Str} (h : TupTx H t ws) (hx : H x = some (.ins C dx fs)) (r : Rx x H H') : TupTx H' t ws := by
  obtain ⟨ys, a, b, c⟩ := h
  exact ⟨ys, a, b, r _ _ (ne_of c hx (by intro z; cases z)) c⟩
theorem TupCn.rx {x C dx t : Addr} {fs : List (Str × V)} {H H' : Hp} {ks : List (Str × Int)} (h : TupCn H t ks) (hx : H x = some (.ins C dx fs)) (r : Rx x H H') : TupCn H' t ks := by
  obtain ⟨ps, ys, a, b, c, e⟩ := h
  obtain ⟨o, c, nd⟩ := c
  exact ⟨ps, ys, a, b, ⟨o, r _ _ (ne_of c hx (by intro z; cases z)) c, nd⟩, Paired.mono (fun p q z => r _ _ (ne_of z hx (by intro y; cases y)) z) e⟩
end My

set_option Elab.async false
set_option linter.all false
set_option maxRecDepth 100000
set_option maxHeartbeats 4000000
namespace My
open PySem PySem.Spec PyProof.Rows L2
theorem rd_bm0 {K : PySem.W.Frag} {T : String} {r : V → List V → Hp → VK → Prop} {to : TE} {σ : L2.St} {H : Hp} {Q : VK} : tBM0 K T r to σ H Q = to σ H fun x H1 => tyV K T x H1 ∧ r x [] H1 Q := rfl
local macro_rules | `(tactic| walk_at "rd") => `(tactic| simp only [rd_seq, rd_next, rd_brk, rd_cont, rd_asg, rd_gname, rd_var, rd_c, rd_op, rd_un, rd_rI0, rd_rI, rd_rU, rd_test, rd_B, rd_and, rd_or, rd_not, rd_andV, rd_orV, rd_notV, rd_ifx, rd_ifs, rd_drop, rd_ret, rd_nil, rd_cons, rd_cb, rd_tup, rd_lst, rd_call, rd_bm, rd_app, rd_ixLst, rd_ixSq, rd_lenL, rd_lenSq, rd_setLst, rd_sub, rd_neNil, rd_isStr, rd_dg, rd_dp, rd_mk, rd_sl, rd_noP, rd_part, rd_slL, rd_cat, rd_lcL, rd_lcE, rd_lcA, rd_lcEA, rd_isTy, rd_inRow, rd_bm0, rd_rz, rd_lockE, rd_lcK, rd_dgetD, rd_ixTp, rd_lenUn,  L2.valV_put, rd_fldS, rd_eq, rd_ne, rd_fldE, rd_allB, rd_isBl, rd_inS, rd_chain, rd_chain', L2.wipe, Int.reduceToNat, Int.reduceLE, Int.reduceLT, Nat.reduceLT, Nat.reduceLeDiff, Int.reduceNeg, Int.toNat_natCast, Int.reduceAdd, L2.start, and_assoc, exists_and_left, List.map_cons, List.map_nil, List.length_cons, List.length_nil, List.cons_append, List.nil_append, List.append_nil, List.replicate_succ, List.replicate_zero, List.replicate, List.set_cons_zero, List.set_cons_succ, List.getElem?_cons_zero, List.getElem?_cons_succ, Option.some.injEq, exists_eq_left', exists_eq_left, exists_eq, V.int.injEq, V.ref.injEq, V.str.injEq, V.bl.injEq, HO.lst.injEq, HO.tup.injEq, ex_bl, List.cons.injEq, and_true, true_and, Nat.reduceAdd, Nat.reduceSub, reduceCtorEq, false_and, or_false, exists_false, false_or, decide_eq_true_eq, if_true, if_false, Bool.false_eq_true, Bool.not_true, Bool.not_false, upd_same])
local macro_rules | `(tactic| walk_at "rdh") => `(tactic| simp only [rd_seq, rd_next, rd_brk, rd_cont, rd_asg, rd_gname, rd_var, rd_c, rd_op, rd_un, rd_rI0, rd_rI, rd_rU, rd_test, rd_B, rd_and, rd_or, rd_not, rd_andV, rd_orV, rd_notV, rd_ifx, rd_ifs, rd_drop, rd_ret, rd_nil, rd_cons, rd_cb, rd_tup, rd_lst, rd_call, rd_bm, rd_app, rd_ixLst, rd_ixSq, rd_lenL, rd_lenSq, rd_setLst, rd_sub, rd_neNil, rd_isStr, rd_dg, rd_dp, rd_mk, rd_sl, rd_noP, rd_part, rd_slL, rd_cat, rd_lcL, rd_lcE, rd_lcA, rd_lcEA, rd_isTy, rd_inRow, rd_bm0, rd_rz, rd_lockE, rd_lcK, rd_dgetD, rd_ixTp, rd_lenUn,  L2.valV_put, rd_fldS, rd_eq, rd_ne, rd_fldE, rd_allB, rd_isBl, rd_inS, rd_chain, rd_chain', L2.wipe, Int.reduceToNat, Int.reduceLE, Int.reduceLT, Nat.reduceLT, Nat.reduceLeDiff, Int.reduceNeg, Int.toNat_natCast, Int.reduceAdd, L2.start, and_assoc, exists_and_left, List.map_cons, List.map_nil, List.length_cons, List.length_nil, List.cons_append, List.nil_append, List.append_nil, List.replicate_succ, List.replicate_zero, List.replicate, List.set_cons_zero, List.set_cons_succ, List.getElem?_cons_zero, List.getElem?_cons_succ, Option.some.injEq, exists_eq_left', exists_eq_left, exists_eq, V.int.injEq, V.ref.injEq, V.str.injEq, V.bl.injEq, HO.lst.injEq, HO.tup.injEq, ex_bl, List.cons.injEq, and_true, true_and, Nat.reduceAdd, Nat.reduceSub, reduceCtorEq, false_and, or_false, exists_false, false_or, decide_eq_true_eq, if_true, if_false, Bool.false_eq_true, Bool.not_true, Bool.not_false, upd_same, *])
abbrev sBD : Stmt := inClass (topI 3) 0
abbrev sDI : Stmt := inClass (topI 18) 0
theorem scBD : FnScope ["self", "part"] ["self", "part"] (defScope sBD) := ⟨rfl, rfl, rfl, by decide +kernel, rfl, by decide +kernel, by decide +kernel⟩
abbrev NDI : List Str := ["self", "word", "opens", "answers", "whose", "asks", "pays", "card", "goals", "steps"]
theorem scDI : FnScope NDI ["self", "word", "opens", "answers", "whose", "asks", "pays", "card", "goals", "steps"] (defScope sDI) := ⟨rfl, rfl, rfl, by decide +kernel, rfl, by decide +kernel, by decide +kernel⟩
section
variable {P : Program} {w : World} {K : PySem.W.Frag} {mg : Str → Option Value} {base : Heap}
theorem ok_bd (TB : Xc K mg "BadDeed" "part" "BadDeed.__init__" sBD) : FnOk P w K mg base CX0 1 TB.fI TB.fd ["self", "part"] (spXi TB.C "part") := by
  refine TB.F.ok scBD (fun vs H Q E h => ?_) (fun cdv A outer s H vs Q E hr h => ?_)
  · obtain ⟨a, v, rfl, _⟩ := h
    rfl
  · obtain ⟨a, v, rfl, ha, q⟩ := h
    refine ⟨_, pss_one (ps_ost (pv 0) (pv 1)), ?_⟩
    exact ⟨v, rfl, .ref a, rfl, a, TB.C, rfl, TB.oex, TB.no, .inl ⟨ha, fun dx hdx hne => q dx hdx hne⟩⟩
/-- a deed's parts -/
structure Dv where
  word : Str
  opens : Bool
  ans : List Str
  whose : Str
  asks : List (Str × Int)
  pays : List (Str × Int)
  card : Bool
  goals : List Str
  steps : List Stp
  deriving DecidableEq
def okWords (m : Nat) (ws : List Str) : Prop := ws.length ≤ m ∧ ws.Nodup ∧ ∀ x ∈ ws, isWord (.str x) = true
def okCounts (ks : List (Str × Int)) : Prop := ks.length ≤ 3 ∧ (ks.map (·.1)).Nodup ∧ ∀ e ∈ ks, cntOk e = true ∧ e.1.length ≤ 1000
structure Dv.Ok (d : Dv) : Prop where
  word : isWord (.str d.word) = true
  ans : okWords 6 d.ans
  whose : hasS ["any", "own", "other"] (.str d.whose) = true
  asks : okCounts d.asks
  pays : okCounts d.pays
  goals : okWords 2 d.goals
  goal : d.goals.contains "goal" = false
  few : d.steps.length ≤ 4
  steps : stepsOk (decide (0 < d.goals.length)) d.steps = true
def dfs (d : Dv) (ta tk tp tg ts : Addr) : List (Str × V) := putF "_steps" (.ref ts) (putF "_goals" (.ref tg) (putF "_pays" (.ref tp) (putF "_asks" (.ref tk) (putF "_answers" (.ref ta) (putF "card" (.bl d.card) (putF "whose" (.str d.whose) (putF "opens" (.bl d.opens) (putF "word" (.str d.word) []))))))))
def spDI (K : PySem.W.Frag) (C : Addr) : Sp := fun vs H Q E => ∃ (x dx an go st : Addr) (ps : List Addr) (aV pV : V) (d : Dv), vs = [.ref x, .str d.word, .bl d.opens, .ref an, .str d.whose, aV, pV, .bl d.card, .ref go, .ref st] ∧ H x = some (.ins C dx []) ∧ d.Ok ∧
  Row K H an (d.ans.map V.str) ∧ CntV H aV d.asks ∧ CntV H pV d.pays ∧ Row K H go (d.goals.map V.str) ∧ Row K H st (ps.map V.ref) ∧ Paired (StpAt H) ps d.steps ∧
  ∀ (H' : Hp) (ta tk tp tg ts : Addr), H' x = some (.ins C dx (dfs d ta tk tp tg ts)) → (∀ b o, b ≠ x → H b = some o → H' b = some o) → TupTx H' ta d.ans → TupCn H' tk d.asks → TupCn H' tp d.pays → TupTx H' tg d.goals → Tp K H' ts (ps.map V.ref) → Q .non H'
structure DdT (K : PySem.W.Frag) (C : Addr) : Prop where
  cl : Cls K C
  n : ∀ f ∈ (["word", "opens", "whose", "card", "_answers", "_asks", "_pays", "_goals", "_steps"] : List Str), NoAttr K C f
theorem word_len {x : Str} (h : isWord (.str x) = true) : x.length ≤ 1000 := by
  have h1 : ((decide (1 ≤ x.length) && decide (x.length ≤ 8)) && _) = true := h
  have h2 := (Bool.and_eq_true_iff.mp (Bool.and_eq_true_iff.mp h1).1).2
  have := of_decide_eq_true h2
  omega
theorem words_true {m : Nat} {ws : List Str} (h : okWords m ws) : (decide ((ws.length : Int) ≤ (m : Int)) && (ws.all (fun x => isWord (.str x)) && decide (dn ws ws.length = ws.length))) = true := by
  rw [decide_eq_true (by have := h.1; omega), decide_eq_true (dn_nodup h.2.1 _ (Nat.le_refl _)), List.all_eq_true.mpr h.2.2]
  rfl
theorem counts_true {ks : List (Str × Int)} (h : okCounts ks) : (decide (ks.length ≤ 3) && ks.all cntOk) = true := by
  rw [decide_eq_true h.1, List.all_eq_true.mpr fun e he => (h.2.2 e he).1]
  rfl
/-- are_counts of what is right -/
theorem cnt_ok {H : Hp} {v : V} {ks : List (Str × Int)} {Q : VK} (h : CntV H v ks) (ok : okCounts ks) (q : ∀ H', Same H H' → Q (.bl true) H') : spCnt [v] H Q E0 := by
  rcases h with ⟨rfl, rfl⟩ | ⟨a, rfl, ha⟩
  · exact .inl ⟨rfl, q H (Same.refl H)⟩
  · exact .inr ⟨a, ks, rfl, ha, by have := ok.1; omega, ok.2.1, fun e he => (ok.2.2 e he).2, fun H' s => by rw [counts_true ok]; exact q H' s⟩
theorem ok_di {f C : Addr} {fd : FuncData} (TD : DdT K C) {kws : List (Str × V)} (F : FunD K "__init__" "Deed.__init__" (defArgs sDI) (defBody sDI) (defScope sDI) [] kws f fd) (B : Bn mg) (TB : Xc K mg "BadDeed" "part" "BadDeed.__init__" sBD)
    (Dis_word : Df K mg "is_word" sWrd ["value"]) (Gis_word : FnOk P w K mg base CX0 1 Dis_word.f Dis_word.fd ["value"] spWrd) (Dis_one_of : Df K mg "is_one_of" sOne ["value", "words"]) (Gis_one_of : FnOk P w K mg base CX0 1 Dis_one_of.f Dis_one_of.fd ["value", "words"] (spOne K))
    (Dare_words : Df K mg "are_words" sWds ["value", "most"]) (Gare_words : FnOk P w K mg base CX0 2 Dare_words.f Dare_words.fd ["value", "most"] (spWds K)) (Dare_counts : Df K mg "are_counts" sCnt ["value"]) (Gare_counts : FnOk P w K mg base CX0 3 Dare_counts.f Dare_counts.fd ["value"] spCnt)
    (Dare_steps : Df K mg "are_steps" sSts ["value", "has_goals"]) (Gare_steps : FnOk P w K mg base CX0 4 Dare_steps.f Dare_steps.fd ["value", "has_goals"] (spSts K)) :
    FnOk P w K mg base (L2.CX P w) 5 f fd ["self", "word", "opens", "answers", "whose", "asks", "pays", "card", "goals", "steps"] (spDI K C) := by
  refine F.ok scDI (fun vs H Q E h => ?_) (fun cdv A outer s H vs Q E hr h => ?_)
  · obtain ⟨x, dx, an, go, st, ps, aV, pV, d, rfl, _⟩ := h
    rfl
  obtain ⟨x, dx, an, go, st, ps, aV, pV, d, rfl, hx, ok, ha, hk, hp, hg, hs, hst, q⟩ := h
  have hr4 := hr
  have hr3 := hr.mono (by decide : 3 ≤ 4)
  have hr2 := hr.mono (by decide : 2 ≤ 4)
  have hr1 := hr.mono (by decide : 1 ≤ 4)
  have hrB := hr2
  have GB := ok_bd (P := P) (w := w) (base := base) TB
  refine ⟨_, (pss_cons (ps_if (pt_not (pt_val (pc Dis_word Gis_word hr1 (pa_cons (pv 1) pa_nil))))
        (pss_one (ps_rz (W := fun cls d _ H => E cls d H) TB (by exact GB) rfl hrB (takes_of rfl rfl rfl rfl)))
        pss_nil)
      (pss_cons (ps_if (pt_not (pt_val (pe_callB call_isBl (by rfl) B.isinstance (by decide +kernel) (pa_cons (pv 2) (pa_cons (pe_tyBool B.bool) pa_nil)))))
        (pss_one (ps_rz (W := fun cls d _ H => E cls d H) TB (by exact GB) rfl hrB (takes_of rfl rfl rfl rfl)))
        pss_nil)
      (pss_cons (ps_if (pt_not (pt_val (pc Dare_words Gare_words hr2 (pa_cons (pv 3) (pa_cons pe_int pa_nil)))))
        (pss_one (ps_rz (W := fun cls d _ H => E cls d H) TB (by exact GB) rfl hrB (takes_of rfl rfl rfl rfl)))
        pss_nil)
      (pss_cons (ps_if (pt_not (pt_val (pc Dis_one_of Gis_one_of hr1 (pa_cons (pv 4) (pa_cons (pe_tup (pa_cons pe_str (pa_cons pe_str (pa_cons pe_str pa_nil)))) pa_nil)))))
        (pss_one (ps_rz (W := fun cls d _ H => E cls d H) TB (by exact GB) rfl hrB (takes_of rfl rfl rfl rfl)))
        pss_nil)
      (pss_cons (ps_if (pt_not (pt_val (pc Dare_counts Gare_counts hr3 (pa_cons (pv 5) pa_nil))))
        (pss_one (ps_rz (W := fun cls d _ H => E cls d H) TB (by exact GB) rfl hrB (takes_of rfl rfl rfl rfl)))
        pss_nil)
      (pss_cons (ps_if (pt_not (pt_val (pc Dare_counts Gare_counts hr3 (pa_cons (pv 6) pa_nil))))
        (pss_one (ps_rz (W := fun cls d _ H => E cls d H) TB (by exact GB) rfl hrB (takes_of rfl rfl rfl rfl)))
        pss_nil)
      (pss_cons (ps_if (pt_not (pt_val (pe_callB call_isBl (by rfl) B.isinstance (by decide +kernel) (pa_cons (pv 7) (pa_cons (pe_tyBool B.bool) pa_nil)))))
        (pss_one (ps_rz (W := fun cls d _ H => E cls d H) TB (by exact GB) rfl hrB (takes_of rfl rfl rfl rfl)))
        pss_nil)
      (pss_cons (ps_if (PW.pt (pw_or (pt_not (pt_val (pc Dare_words Gare_words hr2 (pa_cons (pv 8) (pa_cons pe_int pa_nil))))) (pw_or1 (pt_cmpR op_inRow pe_str (pv 8) (by rfl)))))
        (pss_one (ps_rz (W := fun cls d _ H => E cls d H) TB (by exact GB) rfl hrB (takes_of rfl rfl rfl rfl)))
        pss_nil)
      (pss_cons (ps_if (pt_not (pt_val (pc Dare_steps Gare_steps hr4 (pa_cons (pv 9) (pa_cons (pe_cmpR op_gt (pe_callB call_len_seq (by rfl) B.len (by decide +kernel) (pa_cons (pv 8) pa_nil)) pe_int (nomark _)) pa_nil)))))
        (pss_one (ps_rz (W := fun cls d _ H => E cls d H) TB (by exact GB) rfl hrB (takes_of rfl rfl rfl rfl)))
        pss_nil)
      (pss_cons (ps_fld (pv 0) (pv 1) rfl)
      (pss_cons (ps_fld (pv 0) (pv 2) rfl)
      (pss_cons (ps_fld (pv 0) (pv 4) rfl)
      (pss_cons (ps_fld (pv 0) (pv 7) rfl)
      (pss_cons (ps_fld (pv 0) ((pe_callTy call_tuple_of (by rfl) B.tuple (by decide +kernel) (pa_cons (pe_callB cr_sortTx (by rfl) B.sorted (by decide +kernel) (pa_cons (pv 3) pa_nil)) pa_nil)).imp tupS_imp) rfl)
      (pss_cons (ps_fld (pv 0) ((pe_ifExp (pt_cmpR op_isN (pv 5) pe_non (nomark _)) (pe_tupF pa_nil) (pe_callTy call_tupF (by rfl) B.tuple (by decide +kernel) (pa_cons (pe_callB (cr_sortedItK rfl) (by rfl) B.sorted (by decide +kernel) (pa_cons (pe_bm0 PySem.F.plainAttrs_dict PySem.F.slot_dict_items PySem.F.type_dict_items mt_itemsK (pv 5)) pa_nil)) pa_nil))).imp ask_imp) rfl)
      (pss_cons (ps_fld (pv 0) ((pe_ifExp (pt_cmpR op_isN (pv 6) pe_non (nomark _)) (pe_tupF pa_nil) (pe_callTy call_tupF (by rfl) B.tuple (by decide +kernel) (pa_cons (pe_callB (cr_sortedItK rfl) (by rfl) B.sorted (by decide +kernel) (pa_cons (pe_bm0 PySem.F.plainAttrs_dict PySem.F.slot_dict_items PySem.F.type_dict_items mt_itemsK (pv 6)) pa_nil)) pa_nil))).imp ask_imp) rfl)
      (pss_cons (ps_fld (pv 0) ((pe_callTy call_tuple_of (by rfl) B.tuple (by decide +kernel) (pa_cons (pe_callB cr_sortTx (by rfl) B.sorted (by decide +kernel) (pa_cons (pv 8) pa_nil)) pa_nil)).imp tupS_imp) rfl)
      (pss_one (ps_fld (pv 0) ((pe_callTy call_tuple_of (by rfl) B.tuple (by decide +kernel) (pa_cons (pv 9) pa_nil)).imp tupO_imp) rfl))))))))))))))))))), ?_⟩
  walk_at "rd"
  refine ⟨_, rfl, rfl, (fun y e => by cases e; exact word_len ok.word), fun H1 s1 => ⟨_, rfl, ?_⟩⟩
  rw [ok.word]
  refine iteF ?_
  refine ⟨rfl, iteF ?_⟩
  have w6 : (decide ((d.ans.length : Int) ≤ 6) && (d.ans.all (fun x => isWord (.str x)) && decide (dn d.ans d.ans.length = d.ans.length))) = true := words_true (m := 6) ok.ans
  have w2 : (decide ((d.goals.length : Int) ≤ 2) && (d.goals.all (fun x => isWord (.str x)) && decide (dn d.goals d.goals.length = d.goals.length))) = true := words_true (m := 2) ok.goals
  refine ⟨an, d.ans, 6, rfl, ha.same s1, (by have := ok.ans.1; omega), fun y hy => word_len (ok.ans.2.2 y hy), fun H2 s2 => ⟨_, rfl, ?_⟩⟩
  rw [w6]
  refine iteF ⟨sz (by decide), fun p1 hp1 => ⟨.str d.whose, p1, ["any", "own", "other"], rfl, rfl, SqT.of upd_same, _, rfl, ?_⟩⟩
  rw [ok.whose]
  refine iteF ?_
  have s3 := My.Same.new' (o := .tup [.str "any", .str "own", .str "other"]) (s1.trans s2) hp1
  refine cnt_ok (hk.same s3) ok.asks fun H4 s4 => ⟨_, rfl, iteF ?_⟩
  have s34 := s3.trans s4
  refine cnt_ok (hp.same s34) ok.pays fun H5 s5 => ⟨_, rfl, iteF ⟨rfl, iteF ?_⟩⟩
  have s35 := s34.trans s5
  refine ⟨go, d.goals, 2, rfl, hg.same s35, (by have := ok.goals.1; omega), fun y hy => word_len (ok.goals.2.2 y hy), fun H6 s6 => ⟨_, rfl, ?_⟩⟩
  rw [w2]
  have s36 := s35.trans s6
  refine iteF ⟨d.goals, hg.same s36, ?_⟩
  rw [ok.goal]
  have len : ps.length = d.steps.length := Paired.length hst
  have few := ok.few
  have st1 : (decide (d.steps.length ≤ 4) && stepsOk (decide ((0 : Int) < ((d.goals.map V.str).length : Int))) d.steps) = true := by
    have e : decide ((0 : Int) < ((d.goals.map V.str).length : Int)) = decide (0 < d.goals.length) := by
      rw [List.length_map]
      by_cases h : 0 < d.goals.length
      · rw [decide_eq_true h]; exact decide_eq_true (by omega)
      · rw [decide_eq_false h]; exact decide_eq_false (by omega)
    rw [decide_eq_true few, e, ok.steps]
    rfl
  refine iteF ⟨d.goals.map V.str, (hg.same s36).sq, st, ps, d.steps, _, rfl, hs.same s36, (by omega), Paired.mono (fun a b h => ⟨s36 _ _ h.1, h.2⟩) hst, fun H7 s7 => ⟨_, rfl, ?_⟩⟩
  rw [st1]
  have s37 := s36.trans s7
  refine iteF ⟨C, dx, [], s37 _ _ hx, TD.cl, TD.n _ (by decide), (by decide), C, dx, _, rfl, TD.cl, TD.n _ (by decide), (by show 1 < 1000; decide), C, dx, _, rfl, TD.cl, TD.n _ (by decide), (by show 2 < 1000; decide), C, dx, _, rfl, TD.cl, TD.n _ (by decide), (by show 3 < 1000; decide), ?_⟩
  have M8 := ((((Mx.start s37 hx).put (fs' := putF "word" (.str d.word) [])).put (fs' := putF "opens" (.bl d.opens) (putF "word" (.str d.word) []))).put (fs' := putF "whose" (.str d.whose) (putF "opens" (.bl d.opens) (putF "word" (.str d.word) [])))).put (fs' := putF "card" (.bl d.card) (putF "whose" (.str d.whose) (putF "opens" (.bl d.opens) (putF "word" (.str d.word) []))))
  have la := ok.ans.1
  have lg := ok.goals.1
  have lk := ok.asks.1
  have lp := ok.pays.1
  refine ⟨an, d.ans, rfl, ha.mx hx M8, (by omega), fun ta H9 s9 hta => ?_⟩
  have M9 := M8.same s9
  refine ⟨C, dx, _, M9.at_, TD.cl, TD.n _ (by decide), (by show 4 < 1000; decide), ?_⟩
  refine ⟨aV, d.asks, rfl, hk.mx hx (M9.put (fs' := _)), (by omega), fun tk H10 s10 htk => ?_⟩
  have M10 := M9.put.same s10
  have hta := hta.rx M9.at_ (Rx.put s10)
  refine ⟨C, dx, _, M10.at_, TD.cl, TD.n _ (by decide), (by show 5 < 1000; decide), ?_⟩
  refine ⟨pV, d.pays, rfl, hp.mx hx (M10.put (fs' := _)), (by omega), fun tp H11 s11 htp => ?_⟩
  have M11 := M10.put.same s11
  have hta := hta.rx M10.at_ (Rx.put s11)
  have htk := htk.rx M10.at_ (Rx.put s11)
  refine ⟨C, dx, _, M11.at_, TD.cl, TD.n _ (by decide), (by show 6 < 1000; decide), ?_⟩
  refine ⟨go, d.goals, rfl, hg.mx hx (M11.put (fs' := _)), (by omega), fun tg H12 s12 htg => ?_⟩
  have M12 := M11.put.same s12
  have hta := hta.rx M11.at_ (Rx.put s12)
  have htk := htk.rx M11.at_ (Rx.put s12)
  have htp := htp.rx M11.at_ (Rx.put s12)
  refine ⟨C, dx, _, M12.at_, TD.cl, TD.n _ (by decide), (by show 7 < 1000; decide), ?_⟩
  refine ⟨st, ps.map V.ref, rfl, hs.mx hx (M12.put (fs' := _)), fun ts H13 s13 hts => ?_⟩
  have M13 := M12.put.same s13
  have hta := hta.rx M12.at_ (Rx.put s13)
  have htk := htk.rx M12.at_ (Rx.put s13)
  have htp := htp.rx M12.at_ (Rx.put s13)
  have htg := htg.rx M12.at_ (Rx.put s13)
  refine ⟨C, dx, _, M13.at_, TD.cl, TD.n _ (by decide), (by show 8 < 1000; decide), ?_⟩
  have M14 := M13.put (fs' := dfs d ta tk tp tg ts)
  have rl : Rx x H13 (upd H13 x (.ins C dx (dfs d ta tk tp tg ts))) := fun b o n h => by rw [upd_ne n]; exact h
  refine q _ ta tk tp tg ts upd_same (fun b o n h => M14.sb b o n h) (hta.rx M13.at_ rl) (htk.rx M13.at_ rl) (htp.rx M13.at_ rl) (htg.rx M13.at_ rl) (hts.rx M13.at_ rl)
end
end My

set_option Elab.async false
set_option linter.all false
set_option maxRecDepth 100000
set_option maxHeartbeats 2000000
namespace My
open PySem PySem.Spec PyProof.Rows L2
/-! ### tuples of texts, numbers and such tuples: == is equality -/
mutual
def plD : PyData → Bool
  | .str _ => true
  | .int _ => true
  | .tuple xs => plA xs
  | _ => false
def plA : List PyData → Bool
  | [] => true
  | x :: xs => plD x && plA xs
end
mutual
theorem eqv_pl : ∀ d e : PyData, plD d = true → plD e = true → (PyData.eqv d e = true ↔ d = e)
  | .str x, .str y, _, _ => by simp [PyData.eqv]
  | .int x, .int y, _, _ => by simp [PyData.eqv]
  | .str x, .int y, _, _ => by simp [PyData.eqv]
  | .int x, .str y, _, _ => by simp [PyData.eqv]
  | .str x, .tuple y, _, _ => by simp [PyData.eqv]
  | .int x, .tuple y, _, _ => by simp [PyData.eqv]
  | .tuple x, .str y, _, _ => by simp [PyData.eqv]
  | .tuple x, .int y, _, _ => by simp [PyData.eqv]
  | .tuple xs, .tuple ys, h1, h2 => by
    have z := eqvA_pl xs ys (by simpa [plD] using h1) (by simpa [plD] using h2)
    simp only [PyData.eqv, PyData.tuple.injEq]
    exact z
  | .none, _, h, _ => by simp [plD] at h
  | .bool _, _, h, _ => by simp [plD] at h
  | .list _, _, h, _ => by simp [plD] at h
  | .dict _, _, h, _ => by simp [plD] at h
  | _, .none, _, h => by simp [plD] at h
  | _, .bool _, _, h => by simp [plD] at h
  | _, .list _, _, h => by simp [plD] at h
  | _, .dict _, _, h => by simp [plD] at h
theorem eqvA_pl : ∀ d e : List PyData, plA d = true → plA e = true → (PyData.eqvAll d e = true ↔ d = e)
  | [], [], _, _ => by simp [PyData.eqvAll]
  | [], _ :: _, _, _ => by simp [PyData.eqvAll]
  | _ :: _, [], _, _ => by simp [PyData.eqvAll]
  | x :: xs, y :: ys, h1, h2 => by
    obtain ⟨a1, a2⟩ := Bool.and_eq_true_iff.mp (by simpa [plA] using h1 : (plD x && plA xs) = true)
    obtain ⟨b1, b2⟩ := Bool.and_eq_true_iff.mp (by simpa [plA] using h2 : (plD y && plA ys) = true)
    have z1 := eqv_pl x y a1 b1
    have z2 := eqvA_pl xs ys a2 b2
    simp only [PyData.eqvAll, Bool.and_eq_true, List.cons.injEq]
    exact and_congr z1 z2
end
theorem eqv_dec {d e : PyData} (h1 : plD d = true) (h2 : plD e = true) {p : Prop} [Decidable p] (h : d = e ↔ p) : PyData.eqv d e = decide p := by
  apply Bool.eq_iff_iff.mpr
  rw [eqv_pl d e h1 h2, h, decide_eq_true_eq]
/-- the data of a tuple of texts, of pairs -/
def dTx (ws : List Str) : PyData := .tuple (ws.map .str)
def dCn (ks : List (Str × Int)) : PyData := .tuple (ks.map fun e => .tuple [.str e.1, .int e.2])
theorem pl_tx : ∀ ws : List Str, plA (ws.map .str) = true
  | [] => by simp [plA]
  | w :: ws => by simp [plA, plD, pl_tx ws]
theorem pl_cn : ∀ ks : List (Str × Int), plA (ks.map fun e => .tuple [.str e.1, .int e.2]) = true
  | [] => by simp [plA]
  | w :: ws => by simp [plA, plD, pl_cn ws]
theorem map_inj {α β : Type} {f : α → β} (hf : ∀ a b, f a = f b → a = b) : ∀ {l r : List α}, l.map f = r.map f → l = r
  | [], [], _ => rfl
  | [], _ :: _, h => by simp at h
  | _ :: _, [], h => by simp at h
  | a :: l, b :: r, h => by
    rw [List.map_cons, List.map_cons] at h
    injection h with h1 h2
    rw [hf a b h1, map_inj hf h2]
theorem tx_inj {ws vs : List Str} : dTx ws = dTx vs ↔ ws = vs := by
  unfold dTx
  constructor
  · intro h
    have h2 := PyData.tuple.inj h
    exact map_inj (fun a b z => PyData.str.inj z) h2
  · intro h
    rw [h]
theorem cn_inj {ks ls : List (Str × Int)} : dCn ks = dCn ls ↔ ks = ls := by
  unfold dCn
  constructor
  · intro h
    have h2 := PyData.tuple.inj h
    refine map_inj (fun a b z => ?_) h2
    have z2 := PyData.tuple.inj z
    injection z2 with z3 z4
    injection z4 with z5 _
    exact Prod.ext (PyData.str.inj z3) (PyData.int.inj z5)
  · intro h
    rw [h]
theorem lay_tx : ∀ {ws : List Str}, (∀ x ∈ ws, x.cps.all (· < 0x110000) = true) → PyData.canLayAll0 (ws.map .str) = true ∧ PyData.depthAll (ws.map .str) = 0
  | [], _ => by simp [PyData.canLayAll0, PyData.depthAll]
  | w :: ws, h => by
    obtain ⟨a, b⟩ := lay_tx (ws := ws) fun x hx => h x (List.mem_cons_of_mem _ hx)
    have c : PyData.strOk w = true := h w (List.mem_cons_self ..)
    simp [PyData.canLayAll0, PyData.canLay0, PyData.depthAll, PyData.depth, a, b, c]
theorem lay_cn : ∀ {ks : List (Str × Int)}, (∀ e ∈ ks, e.1.cps.all (· < 0x110000) = true) → PyData.canLayAll0 (ks.map fun e => .tuple [.str e.1, .int e.2]) = true ∧ PyData.depthAll (ks.map fun e => .tuple [.str e.1, .int e.2]) ≤ 1
  | [], _ => by simp [PyData.canLayAll0, PyData.depthAll]
  | e :: ks, h => by
    obtain ⟨a, b⟩ := lay_cn (ks := ks) fun x hx => h x (List.mem_cons_of_mem _ hx)
    have c : PyData.strOk e.1 = true := h e (List.mem_cons_self ..)
    simp [PyData.canLayAll0, PyData.canLay0, PyData.depthAll, PyData.depth, a, b, c]
theorem shaped_tx {ws : List Str} (h : ∀ x ∈ ws, x.cps.all (· < 0x110000) = true) : SeqAt.shaped (dTx ws) = true := by
  obtain ⟨a, b⟩ := lay_tx h
  unfold SeqAt.shaped dTx
  simp [PyData.canLay0, PyData.depth, a, b]
theorem shaped_cn {ks : List (Str × Int)} (h : ∀ e ∈ ks, e.1.cps.all (· < 0x110000) = true) : SeqAt.shaped (dCn ks) = true := by
  obtain ⟨a, b⟩ := lay_cn h
  unfold SeqAt.shaped dCn
  simp [PyData.canLay0, PyData.depth, a]
  omega
theorem dp_tx {K : PySem.W.Frag} {H : Hp} {t : Addr} {ws : List Str} (h : H t = some (.tup (ws.map V.str))) : Dp K H (.ref t) (dTx ws) := by
  refine .tup (SqT.of h) ?_
  clear h
  induction ws with
  | nil => exact .nil
  | cons w ws ih => exact .cons (.str w) ih
theorem dp_cn {K : PySem.W.Frag} {H : Hp} {t : Addr} {ps : List Addr} {ks : List (Str × Int)} (h : H t = some (.tup (ps.map V.ref))) (hp : Paired (fun b e => H b = some (.tup [.str e.1, .int e.2])) ps ks) : Dp K H (.ref t) (dCn ks) := by
  refine .tup (SqT.of h) ?_
  clear h
  induction hp with
  | nil => exact .nil
  | cons h _ ih => exact .cons (.tup (SqT.of h) (.cons (.str _) (.cons (.int _) .nil))) ih
theorem TupF.sqT {K : PySem.W.Frag} {H : Hp} {t : Addr} {xs : List V} (h : TupF H t xs) : SqT K H t xs := let ⟨o, h, _⟩ := h; .inl (.inr ⟨o, h⟩)
theorem TupF.same {H H' : Hp} {t : Addr} {xs : List V} (h : TupF H t xs) (s : Same H H') : TupF H' t xs := let ⟨o, h, n⟩ := h; ⟨o, s _ _ h, n⟩
theorem dp_cnF {K : PySem.W.Frag} {H : Hp} {t : Addr} {ps : List Addr} {ks : List (Str × Int)} (h : TupF H t (ps.map V.ref)) (hp : Paired (fun b e => H b = some (.tup [.str e.1, .int e.2])) ps ks) : Dp K H (.ref t) (dCn ks) := by
  refine .tup h.sqT ?_
  clear h
  induction hp with
  | nil => exact .nil
  | cons h _ ih => exact .cons (.tup (SqT.of h) (.cons (.str _) (.cons (.int _) .nil))) ih
end My

set_option Elab.async false
set_option linter.all false
set_option maxRecDepth 100000
set_option maxHeartbeats 4000000
namespace My
open PySem PySem.Spec PyProof.Rows L2
/-! ### a deed as it stands, its parts in order -/
theorem dfs_wo (d : Dv) (ta tk tp tg ts : Addr) : (dfs d ta tk tp tg ts).lookup ("word" : Str) = some (.str d.word) := by
  unfold dfs
  simp only [lookup_putF]
  rfl
theorem dfs_op (d : Dv) (ta tk tp tg ts : Addr) : (dfs d ta tk tp tg ts).lookup ("opens" : Str) = some (.bl d.opens) := by
  unfold dfs
  simp only [lookup_putF]
  rfl
theorem dfs_wh (d : Dv) (ta tk tp tg ts : Addr) : (dfs d ta tk tp tg ts).lookup ("whose" : Str) = some (.str d.whose) := by
  unfold dfs
  simp only [lookup_putF]
  rfl
theorem dfs_ca (d : Dv) (ta tk tp tg ts : Addr) : (dfs d ta tk tp tg ts).lookup ("card" : Str) = some (.bl d.card) := by
  unfold dfs
  simp only [lookup_putF]
  rfl
theorem dfs_an (d : Dv) (ta tk tp tg ts : Addr) : (dfs d ta tk tp tg ts).lookup ("_answers" : Str) = some (.ref ta) := by
  unfold dfs
  simp only [lookup_putF]
  rfl
theorem dfs_as (d : Dv) (ta tk tp tg ts : Addr) : (dfs d ta tk tp tg ts).lookup ("_asks" : Str) = some (.ref tk) := by
  unfold dfs
  simp only [lookup_putF]
  rfl
theorem dfs_pa (d : Dv) (ta tk tp tg ts : Addr) : (dfs d ta tk tp tg ts).lookup ("_pays" : Str) = some (.ref tp) := by
  unfold dfs
  simp only [lookup_putF]
  rfl
theorem dfs_go (d : Dv) (ta tk tp tg ts : Addr) : (dfs d ta tk tp tg ts).lookup ("_goals" : Str) = some (.ref tg) := by
  unfold dfs
  simp only [lookup_putF]
  rfl
theorem dfs_st (d : Dv) (ta tk tp tg ts : Addr) : (dfs d ta tk tp tg ts).lookup ("_steps" : Str) = some (.ref ts) := by
  unfold dfs
  simp only [lookup_putF]
  rfl

def okCps (x : Str) : Prop := x.cps.all (· < 0x110000) = true
def Stp.data : Stp → PyData
  | .act a => .tuple [.str a]
  | .move d m => .tuple [.str d, .str m]
def Stp.cps : Stp → Prop
  | .act a => okCps a
  | .move d m => okCps d ∧ okCps m
def dSt (sts : List Stp) : PyData := .tuple (sts.map Stp.data)
theorem st_inj {a b : List Stp} : dSt a = dSt b ↔ a = b := by
  unfold dSt
  constructor
  · intro h
    refine map_inj (fun p q z => ?_) (PyData.tuple.inj h)
    cases p <;> cases q <;> simp [Stp.data] at z ⊢ <;> assumption
  · intro h
    rw [h]
theorem pl_st : ∀ sts : List Stp, plA (sts.map Stp.data) = true
  | [] => by simp [plA]
  | s :: sts => by cases s <;> simp [plA, plD, Stp.data, pl_st sts]
theorem lay_st : ∀ {sts : List Stp}, (∀ s ∈ sts, s.cps) → PyData.canLayAll0 (sts.map Stp.data) = true ∧ PyData.depthAll (sts.map Stp.data) ≤ 1
  | [], _ => by simp [PyData.canLayAll0, PyData.depthAll]
  | s :: sts, h => by
    obtain ⟨a, b⟩ := lay_st (sts := sts) fun x hx => h x (List.mem_cons_of_mem _ hx)
    have c := h s (List.mem_cons_self ..)
    cases s with
    | act w =>
      have c1 : PyData.strOk w = true := c
      simp [PyData.canLayAll0, PyData.canLay0, PyData.depthAll, PyData.depth, Stp.data, a, b, c1]
    | move d m =>
      have c1 : PyData.strOk d = true := c.1
      have c2 : PyData.strOk m = true := c.2
      simp [PyData.canLayAll0, PyData.canLay0, PyData.depthAll, PyData.depth, Stp.data, a, b, c1, c2]
theorem shaped_st {sts : List Stp} (h : ∀ s ∈ sts, s.cps) : SeqAt.shaped (dSt sts) = true := by
  obtain ⟨a, b⟩ := lay_st h
  unfold SeqAt.shaped dSt
  simp [PyData.canLay0, PyData.depth, a]
  omega
theorem dp_st {K : PySem.W.Frag} {H : Hp} {t : Addr} {ps : List Addr} {sts : List Stp} (h : Tp K H t (ps.map V.ref)) (hp : Paired (StpAt H) ps sts) : Dp K H (.ref t) (dSt sts) := by
  refine .tup h.sq ?_
  clear h
  induction hp with
  | nil => exact .nil
  | @cons p s _ _ h _ ih =>
    refine .cons ?_ ih
    cases s with
    | act a => exact .tup (SqT.of h.1) (.cons (.str _) .nil)
    | move d m => exact .tup (SqT.of h.1) (.cons (.str _) (.cons (.str _) .nil))
structure Dv.Cps (c : Dv) : Prop where
  ans : ∀ x ∈ c.ans, okCps x
  asks : ∀ e ∈ c.asks, okCps e.1
  pays : ∀ e ∈ c.pays, okCps e.1
  asksN : (c.asks.map (·.1)).Nodup
  paysN : (c.pays.map (·.1)).Nodup
  few : c.ans.length ≤ 6 ∧ c.asks.length ≤ 3 ∧ c.pays.length ≤ 3 ∧ c.goals.length ≤ 2 ∧ c.steps.length ≤ 4
  goals : ∀ x ∈ c.goals, okCps x
  steps : ∀ s ∈ c.steps, s.cps
def PairsAt (H : Hp) (t : Addr) (ks : List (Str × Int)) : Prop := ∃ ps : List Addr, TupF H t (ps.map V.ref) ∧ Paired (fun b e => H b = some (.tup [.str e.1, .int e.2])) ps ks
def DdAt (K : PySem.W.Frag) (H : Hp) (C x : Addr) (c : Dv) : Prop := ∃ (dx ta tk tp tg ts : Addr) (ps : List Addr), H x = some (.ins C dx (dfs c ta tk tp tg ts)) ∧ H ta = some (.tup (c.ans.map V.str)) ∧ PairsAt H tk c.asks ∧ PairsAt H tp c.pays ∧ H tg = some (.tup (c.goals.map V.str)) ∧ Tp K H ts (ps.map V.ref) ∧ Paired (StpAt H) ps c.steps ∧ c.Cps
/-- what isinstance asks of the class -/
structure DdI (K : PySem.W.Frag) (C : Addr) : Prop where
  ha : PySem.W.findIn K (.ref C) "__class__" = some (some (.builtin "object.__class__"))
  hn : PySem.W.specialIn K (.builtin "object.__class__") "__get__" = some (some (.builtin "getset_descriptor.__get__"))
  ht : PySem.W.takesIn K (.builtin "object.__class__") = some true
  hm : PySem.W.mroIn K C (.type "object") = some true
  kS : PySem.W.kitOne K (.type "str") (.ref C) = some false
  kI : PySem.W.kitOne K (.type "int") (.ref C) = some false
  kC : PySem.W.kitOne K (.ref C) (.ref C) = some true
def rIsD (C : Addr) : List V → Hp → VK → Prop := fun vs H Q => ∃ y, vs = [y, .ref C] ∧ ((∃ z, y = .str z ∧ Q (.bl false) H) ∨ (∃ z, y = .int z ∧ Q (.bl false) H) ∨ ∃ x dx fs, y = .ref x ∧ H x = some (.ins C dx fs) ∧ Q (.bl true) H)
theorem rd_isD {C : Addr} {y c : V} {H : Hp} {Q : VK} : rIsD C [y, c] H Q = (c = .ref C ∧ ((∃ z, y = .str z ∧ Q (.bl false) H) ∨ (∃ z, y = .int z ∧ Q (.bl false) H) ∨ ∃ x dx fs, y = .ref x ∧ H x = some (.ins C dx fs) ∧ Q (.bl true) H)) := by
  simp [rIsD, and_assoc]
theorem call_isD {X : Cx} {C : Addr} (cl : Cls X.K C) (I : DdI X.K C) : CallR X (.builtin "isinstance") (rIsD C) := call_isi.imp fun vs H Q ⟨y, e, h⟩ => by
  rcases h with ⟨z, ez, q⟩ | ⟨z, ez, q⟩ | ⟨x, dx, fs, ex, hx, q⟩
  · subst ez
    exact ⟨_, _, .type "str", .ref C, false, e, .own C, .base (.str z), I.kS, q⟩
  · subst ez
    exact ⟨_, _, .type "int", .ref C, false, e, .own C, .base (.int z), I.kI, q⟩
  · subst ex
    exact ⟨_, _, .ref C, .ref C, true, e, .own C, .base (.ins hx cl I.ha I.hn I.ht I.hm), I.kC, q⟩
local macro_rules | `(tactic| walk_at "rd") => `(tactic| simp only [rd_seq, rd_next, rd_brk, rd_cont, rd_asg, rd_gname, rd_var, rd_c, rd_op, rd_un, rd_rI0, rd_rI, rd_rU, rd_test, rd_B, rd_and, rd_or, rd_not, rd_andV, rd_orV, rd_notV, rd_ifx, rd_ifs, rd_drop, rd_ret, rd_nil, rd_cons, rd_cb, rd_tup, rd_lst, rd_call, rd_bm, rd_app, rd_ixLst, rd_ixSq, rd_lenL, rd_lenSq, rd_setLst, rd_sub, rd_neNil, rd_isStr, rd_dg, rd_dp, rd_mk, rd_sl, rd_noP, rd_part, rd_slL, rd_cat, rd_lcL, rd_lcE, rd_lcA, rd_lcEA, rd_isTy, rd_inRow, rd_bm0, rd_rz, rd_isD, rd_lockE, rd_lcK, rd_dgetD, rd_ixTp, rd_lenUn,  L2.valV_put, rd_fldS, rd_eq, rd_ne, rd_fldE, rd_allB, rd_isBl, rd_inS, rd_chain, rd_chain', L2.wipe, Int.reduceToNat, Int.reduceLE, Int.reduceLT, Nat.reduceLT, Nat.reduceLeDiff, Int.reduceNeg, Int.toNat_natCast, Int.reduceAdd, L2.start, and_assoc, exists_and_left, List.map_cons, List.map_nil, List.length_cons, List.length_nil, List.cons_append, List.nil_append, List.append_nil, List.replicate_succ, List.replicate_zero, List.replicate, List.set_cons_zero, List.set_cons_succ, List.getElem?_cons_zero, List.getElem?_cons_succ, Option.some.injEq, exists_eq_left', exists_eq_left, exists_eq, V.int.injEq, V.ref.injEq, V.str.injEq, V.bl.injEq, HO.lst.injEq, HO.tup.injEq, ex_bl, List.cons.injEq, and_true, true_and, Nat.reduceAdd, Nat.reduceSub, reduceCtorEq, false_and, or_false, exists_false, false_or, decide_eq_true_eq, if_true, if_false, Bool.false_eq_true, Bool.not_true, Bool.not_false, upd_same])
local macro_rules | `(tactic| walk_at "rdh") => `(tactic| simp only [rd_seq, rd_next, rd_brk, rd_cont, rd_asg, rd_gname, rd_var, rd_c, rd_op, rd_un, rd_rI0, rd_rI, rd_rU, rd_test, rd_B, rd_and, rd_or, rd_not, rd_andV, rd_orV, rd_notV, rd_ifx, rd_ifs, rd_drop, rd_ret, rd_nil, rd_cons, rd_cb, rd_tup, rd_lst, rd_call, rd_bm, rd_app, rd_ixLst, rd_ixSq, rd_lenL, rd_lenSq, rd_setLst, rd_sub, rd_neNil, rd_isStr, rd_dg, rd_dp, rd_mk, rd_sl, rd_noP, rd_part, rd_slL, rd_cat, rd_lcL, rd_lcE, rd_lcA, rd_lcEA, rd_isTy, rd_inRow, rd_bm0, rd_rz, rd_isD, rd_lockE, rd_lcK, rd_dgetD, rd_ixTp, rd_lenUn,  L2.valV_put, rd_fldS, rd_eq, rd_ne, rd_fldE, rd_allB, rd_isBl, rd_inS, rd_chain, rd_chain', L2.wipe, Int.reduceToNat, Int.reduceLE, Int.reduceLT, Nat.reduceLT, Nat.reduceLeDiff, Int.reduceNeg, Int.toNat_natCast, Int.reduceAdd, L2.start, and_assoc, exists_and_left, List.map_cons, List.map_nil, List.length_cons, List.length_nil, List.cons_append, List.nil_append, List.append_nil, List.replicate_succ, List.replicate_zero, List.replicate, List.set_cons_zero, List.set_cons_succ, List.getElem?_cons_zero, List.getElem?_cons_succ, Option.some.injEq, exists_eq_left', exists_eq_left, exists_eq, V.int.injEq, V.ref.injEq, V.str.injEq, V.bl.injEq, HO.lst.injEq, HO.tup.injEq, ex_bl, List.cons.injEq, and_true, true_and, Nat.reduceAdd, Nat.reduceSub, reduceCtorEq, false_and, or_false, exists_false, false_or, decide_eq_true_eq, if_true, if_false, Bool.false_eq_true, Bool.not_true, Bool.not_false, upd_same, *])
abbrev sDE : Stmt := inClass (topI 18) 8
abbrev NDE : List Str := ["self", "other"]
theorem scDE : FnScope NDE ["self", "other"] (defScope sDE) := ⟨rfl, rfl, rfl, by decide +kernel, rfl, by decide +kernel, by decide +kernel⟩
def spDE (K : PySem.W.Frag) (C : Addr) : Sp := fun vs H Q _ => ∃ (x : Addr) (c : Dv) (y : V), vs = [.ref x, y] ∧ DdAt K H C x c ∧ ((∃ z, y = .str z ∧ Q (.bl false) H) ∨ (∃ z, y = .int z ∧ Q (.bl false) H) ∨ ∃ y2 c2, y = .ref y2 ∧ DdAt K H C y2 c2 ∧ Q (.bl (decide (c = c2))) H)
section
variable {P : Program} {w : World} {K : PySem.W.Frag} {mg : Str → Option Value} {base : Heap}
theorem ok_de {f C : Addr} {fd : FuncData} (F : Fun K "__eq__" "Deed.__eq__" sDE f fd) (B : Bn mg) (TD : DdT K C) (TI : DdI K C) (gD : mg "Deed" = some (.ref C)) : FnOk P w K mg base CX0 1 f fd ["self", "other"] (spDE K C) := by
  refine F.ok scDE (fun vs H Q E h => ?_) (fun cdv A outer s H vs Q E hr h => ?_)
  · obtain ⟨x, v, y, rfl, _⟩ := h
    rfl
  obtain ⟨x, c, y, rfl, ⟨dx, ta, tk, tp, tg, ts, ps, hx, a1, ⟨p2, a2, b2⟩, ⟨p3, a3, b3⟩, a4, a5, b5, cp⟩, h⟩ := h
  have hu64 := hr.units
  refine ⟨_, (pss_cons (ps_if (pt_not (pt_val (pe_callB (call_isD TD.cl TI) (by rfl) B.isinstance (by decide +kernel) (pa_cons (pv 1) (pa_cons (pe_gR gD) pa_nil)))))
        (pss_one (ps_ret pe_bl))
        pss_nil)
      (pss_cons (ps_if (PW.pt (pw_or (pt_cmpR op_ne (pe_fld (pv 0) rfl) (pe_fld (pv 1) rfl) (nomark _)) (pw_or (pt_cmpR op_ne (pe_fld (pv 0) rfl) (pe_fld (pv 1) rfl) (nomark _)) (pw_or1 (pt_cmpR op_ne (pe_fld (pv 0) rfl) (pe_fld (pv 1) rfl) (nomark _))))))
        (pss_one (ps_ret pe_bl))
        pss_nil)
      (pss_cons (ps_if (PW.pt (pw_or (pt_cmpR op_ne (pe_fld (pv 0) rfl) (pe_fld (pv 1) rfl) (nomark _)) (pw_or (pt_cmpR (op_neD hu64) (pe_fld (pv 0) rfl) (pe_fld (pv 1) rfl) (nomark _)) (pw_or1 (pt_cmpR (op_neD hu64) (pe_fld (pv 0) rfl) (pe_fld (pv 1) rfl) (nomark _))))))
        (pss_one (ps_ret pe_bl))
        pss_nil)
      (pss_cons (ps_if (PW.pt (pw_or (pt_cmpR (op_neD hu64) (pe_fld (pv 0) rfl) (pe_fld (pv 1) rfl) (nomark _)) (pw_or1 (pt_cmpR (op_neD hu64) (pe_fld (pv 0) rfl) (pe_fld (pv 1) rfl) (nomark _)))))
        (pss_one (ps_ret pe_bl))
        pss_nil)
      (pss_one (ps_ret (pe_cmpR (op_eqD hu64) (pe_fld (pv 0) rfl) (pe_fld (pv 1) rfl) (nomark _)))))))), ?_⟩
  walk_at "rd"
  rcases h with ⟨z, rfl, q⟩ | ⟨z, rfl, q⟩ | ⟨y2, c2, rfl, ⟨dy, ua, uk, up, ug, us, qs, hy, e1, ⟨r2, e2, g2⟩, ⟨r3, e3, g3⟩, e4, e5, g5, cq⟩, q⟩
  · exact .inl ⟨z, rfl, q⟩
  · exact .inr (.inl ⟨z, rfl, q⟩)
  refine .inr (.inr ⟨y2, rfl, dy, _, hy, C, dx, _, hx, TD.cl, TD.n "word" (by decide), _, dfs_wo .., y2, rfl, C, dy, _, hy, TD.cl, TD.n "word" (by decide), _, dfs_wo .., rfl, ?_⟩)
  by_cases eword : c.word = c2.word
  case neg =>
    have n : (!decide (V.str c.word = V.str c2.word)) = true := by simp [eword]
    rw [if_pos n]
    rw [decide_eq_false fun z => eword (by rw [z])] at q
    exact q
  have nword : ¬ (!decide (V.str c.word = V.str c2.word)) = true := by simp [eword]
  rw [if_neg nword]
  refine ⟨C, dx, _, hx, TD.cl, TD.n "opens" (by decide), _, dfs_op .., y2, rfl, C, dy, _, hy, TD.cl, TD.n "opens" (by decide), _, dfs_op .., rfl, ?_⟩
  by_cases eopens : c.opens = c2.opens
  case neg =>
    have n : (!decide (V.bl c.opens = V.bl c2.opens)) = true := by simp [eopens]
    rw [if_pos n]
    rw [decide_eq_false fun z => eopens (by rw [z])] at q
    exact q
  have nopens : ¬ (!decide (V.bl c.opens = V.bl c2.opens)) = true := by simp [eopens]
  rw [if_neg nopens]
  refine ⟨C, dx, _, hx, TD.cl, TD.n "whose" (by decide), _, dfs_wh .., y2, rfl, C, dy, _, hy, TD.cl, TD.n "whose" (by decide), _, dfs_wh .., rfl, ?_⟩
  by_cases ewhose : c.whose = c2.whose
  case neg =>
    have n : (!decide (V.str c.whose = V.str c2.whose)) = true := by simp [ewhose]
    rw [if_pos n]
    rw [decide_eq_false fun z => ewhose (by rw [z])] at q
    exact q
  have nwhose : ¬ (!decide (V.str c.whose = V.str c2.whose)) = true := by simp [ewhose]
  rw [if_neg nwhose]
  refine ⟨C, dx, _, hx, TD.cl, TD.n "card" (by decide), _, dfs_ca .., y2, rfl, C, dy, _, hy, TD.cl, TD.n "card" (by decide), _, dfs_ca .., rfl, ?_⟩
  by_cases ecard : c.card = c2.card
  case neg =>
    have n : (!decide (V.bl c.card = V.bl c2.card)) = true := by simp [ecard]
    rw [if_pos n]
    rw [decide_eq_false fun z => ecard (by rw [z])] at q
    exact q
  have ncard : ¬ (!decide (V.bl c.card = V.bl c2.card)) = true := by simp [ecard]
  rw [if_neg ncard]
  refine ⟨C, dx, _, hx, TD.cl, TD.n "_asks" (by decide), _, dfs_as .., y2, rfl, C, dy, _, hy, TD.cl, TD.n "_asks" (by decide), _, dfs_as .., dCn c.asks, dCn c2.asks, (dp_cnF a2 b2), (dp_cnF e2 g2), (shaped_cn cp.asks), (shaped_cn cq.asks), _, rfl, ?_⟩
  rw [eqv_dec (p := c.asks = c2.asks) (by show plA _ = true; exact pl_cn c.asks) (by show plA _ = true; exact pl_cn c2.asks) cn_inj]
  by_cases easks : c.asks = c2.asks
  case neg =>
    have n : (!decide (c.asks = c2.asks)) = true := by simp [easks]
    rw [if_pos n]
    rw [decide_eq_false fun z => easks (by rw [z])] at q
    exact q
  have nasks : ¬ (!decide (c.asks = c2.asks)) = true := by simp [easks]
  rw [if_neg nasks]
  refine ⟨C, dx, _, hx, TD.cl, TD.n "_pays" (by decide), _, dfs_pa .., y2, rfl, C, dy, _, hy, TD.cl, TD.n "_pays" (by decide), _, dfs_pa .., dCn c.pays, dCn c2.pays, (dp_cnF a3 b3), (dp_cnF e3 g3), (shaped_cn cp.pays), (shaped_cn cq.pays), _, rfl, ?_⟩
  rw [eqv_dec (p := c.pays = c2.pays) (by show plA _ = true; exact pl_cn c.pays) (by show plA _ = true; exact pl_cn c2.pays) cn_inj]
  by_cases epays : c.pays = c2.pays
  case neg =>
    have n : (!decide (c.pays = c2.pays)) = true := by simp [epays]
    rw [if_pos n]
    rw [decide_eq_false fun z => epays (by rw [z])] at q
    exact q
  have npays : ¬ (!decide (c.pays = c2.pays)) = true := by simp [epays]
  rw [if_neg npays]
  refine ⟨C, dx, _, hx, TD.cl, TD.n "_answers" (by decide), _, dfs_an .., y2, rfl, C, dy, _, hy, TD.cl, TD.n "_answers" (by decide), _, dfs_an .., dTx c.ans, dTx c2.ans, (dp_tx a1), (dp_tx e1), (shaped_tx cp.ans), (shaped_tx cq.ans), _, rfl, ?_⟩
  rw [eqv_dec (p := c.ans = c2.ans) (by show plA _ = true; exact pl_tx c.ans) (by show plA _ = true; exact pl_tx c2.ans) tx_inj]
  by_cases eans : c.ans = c2.ans
  case neg =>
    have n : (!decide (c.ans = c2.ans)) = true := by simp [eans]
    rw [if_pos n]
    rw [decide_eq_false fun z => eans (by rw [z])] at q
    exact q
  have nans : ¬ (!decide (c.ans = c2.ans)) = true := by simp [eans]
  rw [if_neg nans]
  refine ⟨C, dx, _, hx, TD.cl, TD.n "_goals" (by decide), _, dfs_go .., y2, rfl, C, dy, _, hy, TD.cl, TD.n "_goals" (by decide), _, dfs_go .., dTx c.goals, dTx c2.goals, (dp_tx a4), (dp_tx e4), (shaped_tx cp.goals), (shaped_tx cq.goals), _, rfl, ?_⟩
  rw [eqv_dec (p := c.goals = c2.goals) (by show plA _ = true; exact pl_tx c.goals) (by show plA _ = true; exact pl_tx c2.goals) tx_inj]
  by_cases egoals : c.goals = c2.goals
  case neg =>
    have n : (!decide (c.goals = c2.goals)) = true := by simp [egoals]
    rw [if_pos n]
    rw [decide_eq_false fun z => egoals (by rw [z])] at q
    exact q
  have ngoals : ¬ (!decide (c.goals = c2.goals)) = true := by simp [egoals]
  rw [if_neg ngoals]
  refine ⟨C, dx, _, hx, TD.cl, TD.n "_steps" (by decide), _, dfs_st .., y2, rfl, C, dy, _, hy, TD.cl, TD.n "_steps" (by decide), _, dfs_st .., dSt c.steps, dSt c2.steps, (dp_st a5 b5), (dp_st e5 g5), (shaped_st cp.steps), (shaped_st cq.steps), ?_⟩
  rw [eqv_dec (p := c.steps = c2.steps) (by show plA _ = true; exact pl_st c.steps) (by show plA _ = true; exact pl_st c2.steps) st_inj]
  have e : decide (c = c2) = decide (c.steps = c2.steps) := by
    by_cases es : c.steps = c2.steps
    · rw [decide_eq_true es]
      refine decide_eq_true ?_
      obtain ⟨b1, b2, b3, b4, b5, b6, b7, b8, b9⟩ := c
      obtain ⟨k1, k2, k3, k4, k5, k6, k7, k8, k9⟩ := c2
      simp only at eword eopens ewhose ecard easks epays eans egoals es
      subst eword eopens ewhose ecard easks epays eans egoals es
      rfl
    · rw [decide_eq_false es]
      exact decide_eq_false fun z => es (by rw [z])
  rw [e] at q
  exact q
end
end My

set_option Elab.async false
set_option linter.all false
set_option maxRecDepth 100000
set_option maxHeartbeats 2000000
namespace My
open PySem PySem.Spec PyProof.Rows L2
/-- a def run below the running body -/
theorem run_in {X : Cx} {n : Nat} {f : Addr} {fd : FuncData} {ps : List Str} {sp : Sp} {A : Around} {pins : List (Addr × Obj)} {σ : L2.St} {H : Hp} {s : Shared} {Q : VK} {us : List Value} {vs : List V}
    (F : FnOk X.prog X.w X.K X.mg X.base CX0 n f fd ps sp) (hr : Room n A) (e0 : Env0 X.prog X.w X.K X.mg X.base A X.stack s H) (hb : Binds X.K fd ps []) (I : Inv X pins σ H s) (r : Vals vs us) (h : sp vs H Q E0) :
    wpAny (model X.prog X.w) A (call (.ref f) us) (EP X pins σ Q) X.xe s := by
  have hl : us.length = ps.length := by rw [← r.length]; exact F.len _ _ _ _ h
  have b := hb s us I.kIn (by rw [List.append_nil]; exact hl)
  rw [List.append_nil] at b
  refine wpAny_call (codeAny_mono (F.run A X.stack s H ⟨us, []⟩ us vs Q E0 hr e0 b r h) fun r s' hq => ?_)
  cases r with
  | error e => exact hq.elim
  | ok fl => cases fl with
    | ret u => exact I.after hq
    | next => exact hq.elim
    | brk => exact hq.elim
    | cont => exact hq.elim
/-- the own == of the class at C -/
structure DdE (P : Program) (w : World) (K : PySem.W.Frag) (mg : Str → Option Value) (base : Heap) (C : Addr) where
  f : Addr
  fd : FuncData
  G : FnOk P w K mg base CX0 1 f fd ["self", "other"] (spDE K C)
  b : Binds K fd ["self", "other"] []
  hs : PySem.W.findIn K (.ref C) "__eq__" = some (some (.ref f))
  hf : PySem.W.isFn K (.ref f) = true
  nS : PySem.W.notFirst K C (.type "str") = true
  nI : PySem.W.notFirst K C (.type "int") = true
  cls : ∃ nm q N bs hdct sn sub ab col dd k0 k1 k2 k3 k5 newId oN dN es ep sN oc od fdd osl, K.lookup C = some (excClassObj nm q C N bs [.type "object"] hdct sn sub ab col dd k0 k1 k2 k3 k5 newId) ∧ K.lookup N = some ⟨oN, dN, .dict es ep, sN⟩ ∧ StrKeys es ∧ nsFind es "__eq__" = some (.ref f) ∧ nsFind es "__ne__" = none ∧
    K.lookup f = some ⟨oc, od, fdd, osl⟩ ∧ oc = .type "function"
section
variable {X : Cx} {C : Addr}
def rEqDd (K : PySem.W.Frag) (C : Addr) : R2 := fun x y H Q => ∃ a v, x = .ref a ∧ DdAt K H C a v ∧ ((∃ z, y = .str z ∧ Q (.bl false) H) ∨ (∃ z, y = .int z ∧ Q (.bl false) H) ∨ ∃ b v2, y = .ref b ∧ DdAt K H C b v2 ∧ Q (.bl (decide (v = v2))) H)
def rNeDd (K : PySem.W.Frag) (C : Addr) : R2 := fun x y H Q => ∃ a v b v2, x = .ref a ∧ y = .ref b ∧ DdAt K H C a v ∧ DdAt K H C b v2 ∧ Q (.bl (!decide (v = v2))) H
theorem op_eqDd (W : DdE X.prog X.w X.K X.mg X.base C) (hr : Room 1 X.A) : OpR X (compareOp .Eq) (rEqDd X.K C) := by
  intro pins s σ H x y v u Q I rx ry h
  obtain ⟨a, va, rfl, da, h⟩ := h
  obtain ⟨dx, _, _, _, _, _, _, hx, _⟩ := id da
  cases rx
  obtain ⟨mA, J, _⟩ := ins_get I.hok hx
  obtain ⟨od, J, _⟩ := J.look
  obtain ⟨m, hF⟩ := I.fr
  have fin : ∀ {tb : Value}, PySem.W.Looks (model X.prog X.w) s.heap (typeOf u) tb → PySem.W.notFirst X.K C tb = true → spDE X.K C [.ref a, y] H (fun z H' => (∃ k, z = .bl k) ∧ Q z H') E0 → wpAny (model X.prog X.w) X.A (compareOp .Eq (.ref a) u) (EP X pins σ Q) X.xe s := fun {tb} ht hn q => by
    show wpAny _ _ (richCompare .Eq (.ref a) u) _ _ _
    refine PySem.W.cmp_K (op := .Eq) (tb := tb) hr.units0 hF I.ok.mod.kin J ht hn W.hs W.hf (wpAny_mono (run_in (us := [.ref a, u]) (vs := [.ref a, y]) W.G hr I.env0 W.b I (.cons rfl (.cons ry .nil)) q) (fun z s' hz => ?_) fun _ _ e => e)
    obtain ⟨z', H', I', rz, ⟨k, ek⟩, qz⟩ := hz
    subst ek
    obtain rfl : z = Value.bool k := rz
    exact ⟨.bl k, H', I', rfl, qz⟩
  rcases h with ⟨z, rfl, q⟩ | ⟨z, rfl, q⟩ | ⟨b, vb, rfl, db, q⟩
  · obtain ⟨t, rfl⟩ := ry
    exact fin (PySem.W.Looks.of_pure (typeIs_str s z t)) W.nS ⟨a, va, .str z, rfl, da, .inl ⟨z, rfl, ⟨_, rfl⟩, q⟩⟩
  · obtain ⟨t, rfl⟩ := ry
    exact fin (PySem.W.Looks.of_pure (typeIs_int s z t)) W.nI ⟨a, va, .int z, rfl, da, .inr (.inl ⟨z, rfl, ⟨_, rfl⟩, q⟩)⟩
  · obtain rfl : u = Value.ref b := ry
    obtain ⟨dy, _, _, _, _, _, _, hy, _⟩ := id db
    obtain ⟨mB, J', _⟩ := ins_get I.hok hy
    obtain ⟨od', J', _⟩ := J'.look
    exact fin J'.type (by simp [PySem.W.notFirst]) ⟨a, va, .ref b, rfl, da, .inr (.inr ⟨b, vb, rfl, db, ⟨_, rfl⟩, q⟩)⟩
theorem objEq : typeLookup (.type "object") ("__eq__" : Str) = pure (some (.builtin "object.__eq__")) := by
  rw [typeLookup_type, builtinLookup_eq_fast]
  kernel_rfl
theorem op_neDd (W : DdE X.prog X.w X.K X.mg X.base C) (hr : Room 2 X.A) : OpR X (compareOp .NotEq) (rNeDd X.K C) := by
  intro pins s σ H x y v u Q I rx ry h
  obtain ⟨a, va, b, vb, rfl, rfl, da, db, q⟩ := h
  obtain ⟨dx, _, _, _, _, _, _, hx, _⟩ := id da
  obtain ⟨dy, _, _, _, _, _, _, hy, _⟩ := id db
  cases rx
  cases ry
  obtain ⟨mA, J, _⟩ := ins_get I.hok hx
  obtain ⟨od, J, _⟩ := J.look
  obtain ⟨mB, J', _⟩ := ins_get I.hok hy
  obtain ⟨od', J', _⟩ := J'.look
  obtain ⟨nm, qn, N, bs, hdct, sn, sub, ab, col, dd, k0, k1, k2, k3, k5, newId, oN, dN, es, ep, sN, oc, od2, fdd, osl, hC, hN, sk, e1, e2, hF, ec⟩ := W.cls
  have own : s.heap.OwnEqNoNe a C W.f "object" [.type "object"] := ⟨_, _, nm, qn, N, bs, hdct, sn, sub, ab, col, dd, k0, k1, k2, k3, k5, newId, nsFind es, _, J.1, J.2, I.kIn _ _ hC, ⟨_, es, ep, I.kIn _ _ hN, rfl, sk, fun _ => rfl⟩, e1,
    I.kIn _ _ hF, ec, PySem.F.mro_object, objEq, e2⟩
  obtain ⟨hp, g, d, tk, os⟩ := s
  refine compareOp_ne_ownEq PySem.F.cmp_object own J'.1 J'.2 (Nat.lt_of_lt_of_le (Nat.lt_of_lt_of_le (Nat.add_lt_add_left (by decide : 1 < 64) _) (Nat.le_refl _)) (Nat.le_of_lt hr.units)) ?_
  refine wpAny_mono (run_in (us := [.ref a, .ref b]) (vs := [.ref a, .ref b]) (Q := fun z H' => (∃ k, z = .bl k ∧ Q (.bl (!k)) H')) W.G (Room.in1 hr) I.env0.in1 W.b I (.cons rfl (.cons rfl .nil)) ⟨a, va, .ref b, rfl, da, .inr (.inr ⟨b, vb, rfl, db, _, rfl, q⟩)⟩) (fun z s' hz => ?_) fun _ _ e => e
  obtain ⟨z', H', I', rz, k, ek, qz⟩ := hz
  subst ek
  obtain rfl : z = Value.bool k := rz
  exact ⟨k, rfl, .bl (!k), H', I', rfl, qz⟩
end
end My

set_option Elab.async false
set_option linter.all false
set_option maxRecDepth 100000
set_option maxHeartbeats 2000000
namespace My
open PySem PySem.Spec PyProof.Rows L2
local macro_rules | `(tactic| walk_at "rd") => `(tactic| simp only [rd_seq, rd_next, rd_brk, rd_cont, rd_asg, rd_gname, rd_var, rd_c, rd_op, rd_un, rd_rI0, rd_rI, rd_rU, rd_test, rd_B, rd_and, rd_or, rd_not, rd_andV, rd_orV, rd_notV, rd_ifx, rd_ifs, rd_drop, rd_ret, rd_nil, rd_cons, rd_cb, rd_tup, rd_lst, rd_call, rd_bm, rd_app, rd_ixLst, rd_ixSq, rd_lenL, rd_lenSq, rd_setLst, rd_sub, rd_neNil, rd_isStr, rd_dg, rd_dp, rd_mk, rd_sl, rd_noP, rd_part, rd_slL, rd_cat, rd_lcL, rd_lcE, rd_lcA, rd_lcEA, rd_isTy, rd_inRow, rd_bm0, rd_rz, rd_isD, rd_lockE, rd_lcK, rd_dgetD, rd_ixTp, rd_lenUn,  L2.valV_put, rd_fldS, rd_eq, rd_ne, rd_fldE, rd_allB, rd_isBl, rd_inS, rd_chain, rd_chain', L2.wipe, Int.reduceToNat, Int.reduceLE, Int.reduceLT, Nat.reduceLT, Nat.reduceLeDiff, Int.reduceNeg, Int.toNat_natCast, Int.reduceAdd, L2.start, and_assoc, exists_and_left, List.map_cons, List.map_nil, List.length_cons, List.length_nil, List.cons_append, List.nil_append, List.append_nil, List.replicate_succ, List.replicate_zero, List.replicate, List.set_cons_zero, List.set_cons_succ, List.getElem?_cons_zero, List.getElem?_cons_succ, Option.some.injEq, exists_eq_left', exists_eq_left, exists_eq, V.int.injEq, V.ref.injEq, V.str.injEq, V.bl.injEq, HO.lst.injEq, HO.tup.injEq, ex_bl, List.cons.injEq, and_true, true_and, Nat.reduceAdd, Nat.reduceSub, reduceCtorEq, false_and, or_false, exists_false, false_or, decide_eq_true_eq, if_true, if_false, Bool.false_eq_true, Bool.not_true, Bool.not_false, upd_same])
local macro_rules | `(tactic| walk_at "rdh") => `(tactic| simp only [rd_seq, rd_next, rd_brk, rd_cont, rd_asg, rd_gname, rd_var, rd_c, rd_op, rd_un, rd_rI0, rd_rI, rd_rU, rd_test, rd_B, rd_and, rd_or, rd_not, rd_andV, rd_orV, rd_notV, rd_ifx, rd_ifs, rd_drop, rd_ret, rd_nil, rd_cons, rd_cb, rd_tup, rd_lst, rd_call, rd_bm, rd_app, rd_ixLst, rd_ixSq, rd_lenL, rd_lenSq, rd_setLst, rd_sub, rd_neNil, rd_isStr, rd_dg, rd_dp, rd_mk, rd_sl, rd_noP, rd_part, rd_slL, rd_cat, rd_lcL, rd_lcE, rd_lcA, rd_lcEA, rd_isTy, rd_inRow, rd_bm0, rd_rz, rd_isD, rd_lockE, rd_lcK, rd_dgetD, rd_ixTp, rd_lenUn,  L2.valV_put, rd_fldS, rd_eq, rd_ne, rd_fldE, rd_allB, rd_isBl, rd_inS, rd_chain, rd_chain', L2.wipe, Int.reduceToNat, Int.reduceLE, Int.reduceLT, Nat.reduceLT, Nat.reduceLeDiff, Int.reduceNeg, Int.toNat_natCast, Int.reduceAdd, L2.start, and_assoc, exists_and_left, List.map_cons, List.map_nil, List.length_cons, List.length_nil, List.cons_append, List.nil_append, List.append_nil, List.replicate_succ, List.replicate_zero, List.replicate, List.set_cons_zero, List.set_cons_succ, List.getElem?_cons_zero, List.getElem?_cons_succ, Option.some.injEq, exists_eq_left', exists_eq_left, exists_eq, V.int.injEq, V.ref.injEq, V.str.injEq, V.bl.injEq, HO.lst.injEq, HO.tup.injEq, ex_bl, List.cons.injEq, and_true, true_and, Nat.reduceAdd, Nat.reduceSub, reduceCtorEq, false_and, or_false, exists_false, false_or, decide_eq_true_eq, if_true, if_false, Bool.false_eq_true, Bool.not_true, Bool.not_false, upd_same, *])
abbrev sPAn : Stmt := inClass (topI 18) 1
abbrev NPAn : List Str := ["self"]
theorem scPAn : FnScope NPAn ["self"] (defScope sPAn) := ⟨rfl, rfl, rfl, by decide +kernel, rfl, by decide +kernel, by decide +kernel⟩
def spPAn (K : PySem.W.Frag) (C : Addr) : Sp := fun vs H Q _ => ∃ (x : Addr) (c : Dv), vs = [.ref x] ∧ DdAt K H C x c ∧ ∀ (l : Addr) (H' : Hp), H l = none → Same H H' → H' l = some (.lst (c.ans.map V.str)) → Q (.ref l) H'
theorem ok_pAn {P : Program} {w : World} {K : PySem.W.Frag} {mg : Str → Option Value} {base : Heap} {f C : Addr} {fd : FuncData} (F : Fun K "answers" "Deed.answers" sPAn f fd) (B : Bn mg) (TD : DdT K C) : FnOk P w K mg base CX0 1 f fd ["self"] (spPAn K C) := by
  refine F.ok scPAn (fun vs H Q E h => ?_) (fun cdv A outer s H vs Q E hr h => ?_)
  · obtain ⟨x, c, rfl, _⟩ := h
    rfl
  obtain ⟨x, c, rfl, ⟨dx, ta, tk, tp, tg, ts, ps, hx, a1, ⟨p2, a2, b2⟩, ⟨p3, a3, b3⟩, a4, a5, b5, cp⟩, q⟩ := h
  refine ⟨_, (pss_one (ps_ret (pe_callTy call_list_of (by rfl) B.list (by decide +kernel) (pa_cons (pe_fld (pv 0) rfl) pa_nil)))), ?_⟩
  walk_at "rd"
  refine ⟨C, dx, _, hx, TD.cl, TD.n "_answers" (by decide), _, dfs_an .., _, rfl, _, .inr (SqT.of a1), fun l hl => ?_⟩
  exact q l _ hl (My.Same.new (Same.refl H) hl) upd_same
abbrev sPGo : Stmt := inClass (topI 18) 4
abbrev NPGo : List Str := ["self"]
theorem scPGo : FnScope NPGo ["self"] (defScope sPGo) := ⟨rfl, rfl, rfl, by decide +kernel, rfl, by decide +kernel, by decide +kernel⟩
def spPGo (K : PySem.W.Frag) (C : Addr) : Sp := fun vs H Q _ => ∃ (x : Addr) (c : Dv), vs = [.ref x] ∧ DdAt K H C x c ∧ ∀ (l : Addr) (H' : Hp), H l = none → Same H H' → H' l = some (.lst (c.goals.map V.str)) → Q (.ref l) H'
theorem ok_pGo {P : Program} {w : World} {K : PySem.W.Frag} {mg : Str → Option Value} {base : Heap} {f C : Addr} {fd : FuncData} (F : Fun K "goals" "Deed.goals" sPGo f fd) (B : Bn mg) (TD : DdT K C) : FnOk P w K mg base CX0 1 f fd ["self"] (spPGo K C) := by
  refine F.ok scPGo (fun vs H Q E h => ?_) (fun cdv A outer s H vs Q E hr h => ?_)
  · obtain ⟨x, c, rfl, _⟩ := h
    rfl
  obtain ⟨x, c, rfl, ⟨dx, ta, tk, tp, tg, ts, ps, hx, a1, ⟨p2, a2, b2⟩, ⟨p3, a3, b3⟩, a4, a5, b5, cp⟩, q⟩ := h
  refine ⟨_, (pss_one (ps_ret (pe_callTy call_list_of (by rfl) B.list (by decide +kernel) (pa_cons (pe_fld (pv 0) rfl) pa_nil)))), ?_⟩
  walk_at "rd"
  refine ⟨C, dx, _, hx, TD.cl, TD.n "_goals" (by decide), _, dfs_go .., _, rfl, _, .inr (SqT.of a4), fun l hl => ?_⟩
  exact q l _ hl (My.Same.new (Same.refl H) hl) upd_same
abbrev sPSt : Stmt := inClass (topI 18) 5
abbrev NPSt : List Str := ["self"]
theorem scPSt : FnScope NPSt ["self"] (defScope sPSt) := ⟨rfl, rfl, rfl, by decide +kernel, rfl, by decide +kernel, by decide +kernel⟩
def spPSt (K : PySem.W.Frag) (C : Addr) : Sp := fun vs H Q _ => ∃ (x : Addr) (c : Dv), vs = [.ref x] ∧ DdAt K H C x c ∧ ∀ (l : Addr) (ps : List Addr) (H' : Hp), H l = none → Same H H' → H' l = some (.lst (ps.map V.ref)) → Paired (StpAt H') ps c.steps → Q (.ref l) H'
theorem ok_pSt {P : Program} {w : World} {K : PySem.W.Frag} {mg : Str → Option Value} {base : Heap} {f C : Addr} {fd : FuncData} (F : Fun K "steps" "Deed.steps" sPSt f fd) (B : Bn mg) (TD : DdT K C) : FnOk P w K mg base CX0 1 f fd ["self"] (spPSt K C) := by
  refine F.ok scPSt (fun vs H Q E h => ?_) (fun cdv A outer s H vs Q E hr h => ?_)
  · obtain ⟨x, c, rfl, _⟩ := h
    rfl
  obtain ⟨x, c, rfl, ⟨dx, ta, tk, tp, tg, ts, ps, hx, a1, ⟨p2, a2, b2⟩, ⟨p3, a3, b3⟩, a4, a5, b5, cp⟩, q⟩ := h
  refine ⟨_, (pss_one (ps_ret (pe_callTy call_list_of (by rfl) B.list (by decide +kernel) (pa_cons (pe_fld (pv 0) rfl) pa_nil)))), ?_⟩
  walk_at "rd"
  refine ⟨C, dx, _, hx, TD.cl, TD.n "_steps" (by decide), _, dfs_st .., _, rfl, _, .inr a5.sq, fun l hl => ?_⟩
  exact q l ps _ hl (My.Same.new (Same.refl H) hl) upd_same (Paired.mono (fun a b z => ⟨by rw [upd_ne (ne_of_none z.1 hl)]; exact z.1, z.2⟩) b5)
end My

set_option Elab.async false
set_option linter.all false
set_option maxRecDepth 100000
set_option maxHeartbeats 2000000
namespace My
open PySem PySem.Spec PyProof.Rows L2
theorem rd_ixT {K : PySem.W.Frag} {x y : V} {H : Hp} {Q : VK} : rIxT K x y H Q = ∃ p xs i v, x = .ref p ∧ y = .int i ∧ SqT K H p xs ∧ atI xs i = some v ∧ Q v H := rfl
local macro_rules | `(tactic| walk_at "rd") => `(tactic| simp only [rd_seq, rd_next, rd_brk, rd_cont, rd_asg, rd_gname, rd_var, rd_c, rd_op, rd_un, rd_rI0, rd_rI, rd_rU, rd_test, rd_B, rd_and, rd_or, rd_not, rd_andV, rd_orV, rd_notV, rd_ifx, rd_ifs, rd_drop, rd_ret, rd_nil, rd_cons, rd_cb, rd_tup, rd_lst, rd_call, rd_bm, rd_app, rd_ixLst, rd_ixSq, rd_lenL, rd_lenSq, rd_setLst, rd_sub, rd_neNil, rd_isStr, rd_dg, rd_dp, rd_mk, rd_sl, rd_noP, rd_part, rd_slL, rd_cat, rd_lcL, rd_lcE, rd_lcA, rd_lcEA, rd_isTy, rd_ixT, rd_inRow, rd_bm0, rd_rz, rd_isD, rd_lockE, rd_lcK, rd_dgetD, rd_ixTp, rd_lenUn,  L2.valV_put, rd_fldS, rd_eq, rd_ne, rd_fldE, rd_allB, rd_isBl, rd_inS, rd_chain, rd_chain', L2.wipe, Int.reduceToNat, Int.reduceLE, Int.reduceLT, Nat.reduceLT, Nat.reduceLeDiff, Int.reduceNeg, Int.toNat_natCast, Int.reduceAdd, L2.start, and_assoc, exists_and_left, List.map_cons, List.map_nil, List.length_cons, List.length_nil, List.cons_append, List.nil_append, List.append_nil, List.replicate_succ, List.replicate_zero, List.replicate, List.set_cons_zero, List.set_cons_succ, List.getElem?_cons_zero, List.getElem?_cons_succ, Option.some.injEq, exists_eq_left', exists_eq_left, exists_eq, V.int.injEq, V.ref.injEq, V.str.injEq, V.bl.injEq, HO.lst.injEq, HO.tup.injEq, ex_bl, List.cons.injEq, and_true, true_and, Nat.reduceAdd, Nat.reduceSub, reduceCtorEq, false_and, or_false, exists_false, false_or, decide_eq_true_eq, if_true, if_false, Bool.false_eq_true, Bool.not_true, Bool.not_false, upd_same])
local macro_rules | `(tactic| walk_at "rdh") => `(tactic| simp only [rd_seq, rd_next, rd_brk, rd_cont, rd_asg, rd_gname, rd_var, rd_c, rd_op, rd_un, rd_rI0, rd_rI, rd_rU, rd_test, rd_B, rd_and, rd_or, rd_not, rd_andV, rd_orV, rd_notV, rd_ifx, rd_ifs, rd_drop, rd_ret, rd_nil, rd_cons, rd_cb, rd_tup, rd_lst, rd_call, rd_bm, rd_app, rd_ixLst, rd_ixSq, rd_lenL, rd_lenSq, rd_setLst, rd_sub, rd_neNil, rd_isStr, rd_dg, rd_dp, rd_mk, rd_sl, rd_noP, rd_part, rd_slL, rd_cat, rd_lcL, rd_lcE, rd_lcA, rd_lcEA, rd_isTy, rd_ixT, rd_inRow, rd_bm0, rd_rz, rd_isD, rd_lockE, rd_lcK, rd_dgetD, rd_ixTp, rd_lenUn,  L2.valV_put, rd_fldS, rd_eq, rd_ne, rd_fldE, rd_allB, rd_isBl, rd_inS, rd_chain, rd_chain', L2.wipe, Int.reduceToNat, Int.reduceLE, Int.reduceLT, Nat.reduceLT, Nat.reduceLeDiff, Int.reduceNeg, Int.toNat_natCast, Int.reduceAdd, L2.start, and_assoc, exists_and_left, List.map_cons, List.map_nil, List.length_cons, List.length_nil, List.cons_append, List.nil_append, List.append_nil, List.replicate_succ, List.replicate_zero, List.replicate, List.set_cons_zero, List.set_cons_succ, List.getElem?_cons_zero, List.getElem?_cons_succ, Option.some.injEq, exists_eq_left', exists_eq_left, exists_eq, V.int.injEq, V.ref.injEq, V.str.injEq, V.bl.injEq, HO.lst.injEq, HO.tup.injEq, ex_bl, List.cons.injEq, and_true, true_and, Nat.reduceAdd, Nat.reduceSub, reduceCtorEq, false_and, or_false, exists_false, false_or, decide_eq_true_eq, if_true, if_false, Bool.false_eq_true, Bool.not_true, Bool.not_false, upd_same, *])
abbrev sPa : Stmt := inClass (topI 18) 6
abbrev NPa : List Str := ["self"]
theorem scPa : FnScope NPa ["self"] (defScope sPa) := ⟨rfl, rfl, rfl, by decide +kernel, rfl, by decide +kernel, by decide +kernel⟩
theorem last_of {H : Hp} {ps : List Addr} {sts : List Stp} (h : Paired (StpAt H) ps sts) : (ps = [] ∧ sts = []) ∨ ∃ pl b sl st, ps = pl ++ [b] ∧ sts = sl ++ [st] ∧ StpAt H b st := by
  induction h with
  | nil => exact .inl ⟨rfl, rfl⟩
  | @cons b st l r h1 _ ih =>
    rcases ih with ⟨rfl, rfl⟩ | ⟨pl, b2, sl, st2, rfl, rfl, h2⟩
    · exact .inr ⟨[], b, [], st, rfl, rfl, h1⟩
    · exact .inr ⟨b :: pl, b2, st :: sl, st2, rfl, rfl, h2⟩
/-- the act of a deed's steps -/
def actOf (sts : List Stp) : Str := match sts.getLast? with
  | some (.act a) => a
  | _ => "stay"
def lastAct : Stp → Str
  | .act a => a
  | _ => "stay"
theorem act_last (l : List Stp) (s : Stp) : actOf (l ++ [s]) = lastAct s := by
  unfold actOf
  rw [List.getLast?_append]
  cases s <;> rfl
def spPa (K : PySem.W.Frag) (C : Addr) : Sp := fun vs H Q _ => ∃ (x : Addr) (c : Dv), vs = [.ref x] ∧ DdAt K H C x c ∧ Q (.str (actOf c.steps)) H
theorem ok_pa {P : Program} {w : World} {K : PySem.W.Frag} {mg : Str → Option Value} {base : Heap} {f C : Addr} {fd : FuncData} (F : Fun K "act" "Deed.act" sPa f fd) (B : Bn mg) (TD : DdT K C) : FnOk P w K mg base CX0 1 f fd ["self"] (spPa K C) := by
  refine F.ok scPa (fun vs H Q E h => ?_) (fun cdv A outer s H vs Q E hr h => ?_)
  · obtain ⟨x, c, rfl, _⟩ := h
    rfl
  obtain ⟨x, c, rfl, ⟨dx, ta, tk, tp, tg, ts, ps, hx, a1, ⟨p2, a2, b2⟩, ⟨p3, a3, b3⟩, a4, a5, b5, cp⟩, q⟩ := h
  refine ⟨_, (pss_cons (ps_if (PW.pt (pw_and (pt_truth (pe_fld (pv 0) rfl) (fun _ => rfl)) (pw_and1 (pt_cmpR op_eq (pe_callB call_len_seq (by rfl) B.len (by decide +kernel) (pa_cons (pe_ix ix_tup (pe_fld (pv 0) rfl) (pe_un un_neg pe_int) (fun _ _ => rfl)) pa_nil)) pe_int (nomark _)))))
        (pss_one (ps_ret (pe_ix ix_tp (pe_ix ix_tup (pe_fld (pv 0) rfl) (pe_un un_neg pe_int) (fun _ _ => rfl)) pe_int (fun _ _ => rfl))))
        pss_nil)
      (pss_one (ps_ret pe_str))), ?_⟩
  walk_at "rd"
  refine ⟨C, dx, _, hx, TD.cl, TD.n "_steps" (by decide), _, dfs_st .., ?_⟩
  rcases last_of b5 with ⟨e1, e2⟩ | ⟨pl, b, sl, st, e1, e2, hb⟩
  · refine ⟨false, .inr (.inl ⟨_, a5.sq, by rw [e1]; rfl⟩), iteF ?_⟩
    rw [e2] at q
    exact q
  · have at_ : atI (ps.map V.ref) (-1) = some (.ref b) := by
      rw [e1, List.map_append]
      exact atI_last _ _
    have ea : actOf c.steps = lastAct st := by rw [e2]; exact act_last sl st
    rw [ea] at q
    refine ⟨true, .inr (.inl ⟨_, a5.sq, by rw [e1]; cases pl <;> rfl⟩), iteT ?_⟩
    refine ⟨C, dx, _, hx, TD.cl, TD.n "_steps" (by decide), _, dfs_st .., ts, rfl, _, a5.sq, .ref b, at_, ?_⟩
    have hb1 := hb.1
    cases st with
    | act a =>
      refine ⟨b, rfl, _, .inr (SqT.of hb1), rfl, ?_⟩
      rw [if_pos (by rfl)]
      exact ⟨C, dx, _, hx, TD.cl, TD.n "_steps" (by decide), _, dfs_st .., ts, rfl, _, a5.sq, .ref b, at_, b, rfl, _, hb1, .str a, rfl, q⟩
    | move d m =>
      refine ⟨b, rfl, _, .inr (SqT.of hb1), rfl, ?_⟩
      rw [if_neg (by show ¬ ((2 : Nat) : Int) = 1; decide)]
      exact q
end My

set_option Elab.async false
set_option linter.all false
set_option maxRecDepth 100000
set_option maxHeartbeats 4000000
/-! repr of data with dicts, where only a dict must not be the machine's own -/
namespace PySem
open Sem (wp)
mutual
inductive Rz (h : Heap) : Value → PyData → Prop
  | non : Rz h .none .none
  | bl (b) : Rz h (.bool b) (.bool b)
  | nu (i t) : Rz h (.int i t) (.int i)
  | tx (x t) : Rz h (.str x t) (.str x)
  | li {a o vs n xs} : h.get? a = some o → o.cls = .type "list" → o.data = .seq vs n → RzA h vs.toList xs → Rz h (.ref a) (.list xs)
  | tu {a o vs n xs} : h.get? a = some o → o.cls = .type "tuple" → o.data = .seq vs n → RzA h vs.toList xs → Rz h (.ref a) (.tuple xs)
  | di {a o es n kvs} : (a == sysModules) = false → h.get? a = some o → o.cls = .type "dict" → o.data = .dict es n → RzA h (es.toList.map (·.key)) (kvs.map (·.1)) → RzA h (es.toList.map (·.val)) (kvs.map (·.2)) → Rz h (.ref a) (.dict kvs)
inductive RzA (h : Heap) : List Value → List PyData → Prop
  | nil : RzA h [] []
  | cons {v vs d ds} : Rz h v d → RzA h vs ds → RzA h (v :: vs) (d :: ds)
end
section
variable {prog : Program} {w : World} {h₀ : Heap}
mutual
theorem Rz.rd : ∀ {v : Value} {d : PyData}, Rz h₀ v d → ∃ as, Reads h₀ v d as
  | _, _, .non => ⟨_, .none⟩
  | _, _, .bl b => ⟨_, .bool b⟩
  | _, _, .nu i t => ⟨_, .int i t⟩
  | _, _, .tx x t => ⟨_, .str x t⟩
  | _, _, .li q1 q2 q3 q4 => let ⟨_, z⟩ := RzA.rd q4; ⟨_, .list q1 q2 q3 z⟩
  | _, _, .tu q1 q2 q3 q4 => let ⟨_, z⟩ := RzA.rd q4; ⟨_, .tuple q1 q2 q3 z⟩
  | _, _, .di _ q1 q2 q3 q4 q5 => let ⟨_, z⟩ := RzA.rd q4; let ⟨_, y⟩ := RzA.rd q5; ⟨_, .dict q1 q2 q3 z y⟩
theorem RzA.rd : ∀ {v : List Value} {d : List PyData}, RzA h₀ v d → ∃ as, ReadsAll h₀ v d as
  | _, _, .nil => ⟨_, .nil⟩
  | _, _, .cons q1 q2 => let ⟨_, z⟩ := Rz.rd q1; let ⟨_, y⟩ := RzA.rd q2; ⟨_, .cons z y⟩
end
mutual
theorem Rz.rk : ∀ {v : Value} {d : PyData}, Rz h₀ v d → d.showable = true → d.shown.length ≤ sizeLine → ∃ bs, ReadAtMost h₀ d.depth bs ∧ ReprK prog w bs h₀ d.depth v d.shown
  | _, _, .non, _, _ => ⟨[], (fun _ h => nomatch h), (by simp only [PyData.shown]; exact .of_is ReprIs.none _ _ _)⟩
  | _, _, .bl b, _, _ => ⟨[], (fun _ h => nomatch h), (by simp only [PyData.shown]; exact .of_is (ReprIs.bool b) _ _ _)⟩
  | _, _, .nu i t, hs, _ => ⟨[], (fun _ h => nomatch h), (by simp only [PyData.shown]; exact .of_is (ReprIs.int t (by simpa [PyData.showable] using hs)) _ _ _)⟩
  | _, _, .tx x t, _, hz => ⟨[], (fun _ h => nomatch h), (by simp only [PyData.shown]; exact .of_is (ReprIs.str x t (by simpa only [PyData.shown] using hz)) _ _ _)⟩
  | _, _, .li (a := a) (vs := us) (xs := ds) q1 q2 q3 q4, hs, hz => by
    have z1 : (listText (PyData.shownAll ds)).length ≤ sizeLine := (by simpa only [PyData.shown] using hz)
    obtain ⟨bs, z2, z3⟩ := RzA.rk q4 (by simpa [PyData.showable] using hs) (fun t ht => Nat.le_trans (listText_mem_le ht) z1)
    obtain ⟨as, r0⟩ := RzA.rd q4
    have r : Reads h₀ (.ref a) (.list ds) _ := .list q1 q2 q3 r0
    have z4 : a ∉ bs := not_mem_of_deeper r (by simp only [PyData.depth]; omega) z2
    refine ⟨a :: bs, .cons r (by simp only [PyData.depth]; omega) z2, ?_⟩; simp only [PyData.depth, PyData.shown]
    obtain ⟨l⟩ := us
    match l, ds, q4, z3 with
    | [], _, .nil, _ => rw [PyData.shownAll, listText_nil]; exact ReprK.listEmpty q1 q2 q3
    | x :: l, _, _, z3 => exact ReprK.list q1 q2 q3 z4 (by simpa using z3.length_eq) (fun i y e => z3.item i y (by simpa using e))
  | _, _, .tu (a := a) (xs := ds) q1 q2 q3 q4, hs, hz => by
    have z1 : (tupleText (PyData.shownAll ds)).length ≤ sizeLine := (by simpa only [PyData.shown] using hz)
    obtain ⟨bs, z2, z3⟩ := RzA.rk q4 (by simpa [PyData.showable] using hs) (fun t ht => Nat.le_trans (tupleText_mem_le ht) z1)
    obtain ⟨as, r0⟩ := RzA.rd q4
    have r : Reads h₀ (.ref a) (.tuple ds) _ := .tuple q1 q2 q3 r0
    refine ⟨a :: bs, .cons r (by simp only [PyData.depth]; omega) z2, ?_⟩; simp only [PyData.depth, PyData.shown]
    exact ReprK.tuple q1 q2 q3 (not_mem_of_deeper r (by simp only [PyData.depth]; omega) z2) z3
  | _, _, .di (a := a) (es := es) (kvs := kvs) q0 q1 q2 q3 q4 q5, hs, hz => by
    have z1 : (dictText (PyData.shownKv kvs)).length ≤ sizeLine := (by simpa only [PyData.shown] using hz)
    obtain ⟨s1, s2⟩ := PyData.showableKv_split kvs (by simpa [PyData.showable] using hs)
    obtain ⟨b1, y1, k1⟩ := RzA.rk q4 s1 (fun t ht => let ⟨p, hp, hl⟩ := PyData.shownKv_key_le kvs t ht; Nat.le_trans hl (Nat.le_trans (dictText_mem_le hp) z1))
    obtain ⟨b2, y2, k2⟩ := RzA.rk q5 s2 (fun t ht => let ⟨p, hp, hl⟩ := PyData.shownKv_val_le kvs t ht; Nat.le_trans hl (Nat.le_trans (dictText_mem_le hp) z1))
    obtain ⟨as, r1⟩ := RzA.rd q4
    obtain ⟨cs, r2⟩ := RzA.rd q5
    have r : Reads h₀ (.ref a) (.dict kvs) _ := .dict q1 q2 q3 r1 r2
    have y3 : ReadAtMost h₀ (PyData.depthKv kvs) (b1 ++ b2) := (y1.mono (PyData.depthAll_keys_le kvs)).append (y2.mono (PyData.depthAll_vals_le kvs))
    have y4 : a ∉ b1 ++ b2 := not_mem_of_deeper r (by simp only [PyData.depth]; omega) y3
    refine ⟨a :: (b1 ++ b2), .cons r (by simp only [PyData.depth]; omega) y3, ?_⟩; simp only [PyData.depth, PyData.shown, PyData.shownKv_eq]
    exact ReprK.dict q1 q2 q3 q0 y4 (ReprEntriesK.of_two es.toList _ _ (k1.more_le (fun b hb => List.mem_append_left _ hb) (PyData.depthAll_keys_le kvs)) (k2.more_le (fun b hb => List.mem_append_right _ hb) (PyData.depthAll_vals_le kvs)))
theorem RzA.rk : ∀ {v : List Value} {d : List PyData}, RzA h₀ v d → PyData.showableAll d = true → (∀ t ∈ PyData.shownAll d, t.length ≤ sizeLine) → ∃ bs, ReadAtMost h₀ (PyData.depthAll d) bs ∧ ReprAllK prog w bs h₀ (PyData.depthAll d) v (PyData.shownAll d)
  | _, _, .nil, _, _ => ⟨[], (fun _ h => nomatch h), (by simp only [PyData.shownAll]; exact .nil)⟩
  | _, _, .cons (d := d) (ds := ds) r rs, hs, hz => by
    have s0 : d.showable = true ∧ PyData.showableAll ds = true := (by simpa [PyData.showableAll] using hs)
    obtain ⟨b1, y1, k1⟩ := Rz.rk r s0.1 (hz _ (by simp only [PyData.shownAll]; exact List.mem_cons_self ..))
    obtain ⟨b2, y2, k2⟩ := RzA.rk rs s0.2 (fun t ht => hz t (by simp only [PyData.shownAll]; exact List.mem_cons_of_mem _ ht))
    have e1 : PyData.depthAll (d :: ds) = max d.depth (PyData.depthAll ds) := (by simp only [PyData.depthAll])
    refine ⟨b1 ++ b2, fun b hm => ?_, ?_⟩
    · rw [e1]; rcases List.mem_append.mp hm with hm | hm
      · obtain ⟨d', as', r', hd'⟩ := y1 b hm; exact ⟨d', as', r', Nat.le_trans hd' (Nat.le_max_left _ _)⟩
      · obtain ⟨d', as', r', hd'⟩ := y2 b hm; exact ⟨d', as', r', Nat.le_trans hd' (Nat.le_max_right _ _)⟩
    · rw [e1]; simp only [PyData.shownAll]
      exact .cons ((k1.more fun b hb => List.mem_append_left _ hb).level_le (Nat.le_max_left _ _)) (k2.more_le (fun b hb => List.mem_append_right _ hb) (Nat.le_max_right _ _))
end
theorem Rz.shows {a : Addr} {d : PyData} (r : Rz h₀ (.ref a) d) (hs : d.showable = true) (hsz : d.shown.length ≤ sizeLine) : ∃ T idr, ShowsBy prog w h₀ a d T idr := by
  cases r with
  | @li _ o us n ds q1 q2 q3 q4 =>
    have z1 : (listText (PyData.shownAll ds)).length ≤ sizeLine := (by simpa only [PyData.shown] using hsz)
    obtain ⟨bs, z2, z3⟩ := RzA.rk (prog := prog) (w := w) q4 (by simpa [PyData.showable] using hs) (fun t ht => Nat.le_trans (listText_mem_le ht) z1)
    obtain ⟨as, r0⟩ := RzA.rd q4
    have z4 : a ∉ bs := not_mem_of_deeper (.list q1 q2 q3 r0) (by simp only [PyData.depth]; omega) z2
    refine ⟨"list", "list.__repr__", F.slot_list_repr.toG, F.slot_list_str, F.slot_list_format, fun s k0 => ⟨o, k0 _ _ q1, q2⟩, fun A E s Q hg hu k0 hQ => ?_⟩
    simp only [PyData.depth] at hu; simp only [PyData.shown] at hQ
    obtain ⟨l⟩ := us
    match l, ds, q4, z3 with
    | [], _, .nil, _ =>
      rw [PyData.shownAll, listText_nil] at hQ
      exact call_list_repr_empty ⟨o, k0 _ _ q1, q2⟩ (k0 _ _ q1) q3 (hQ s.heap _ _ fun _ _ e => e)
    | x :: l, _, _, z3 => exact call_list_reprK q1 q2 q3 z4 (by simpa using z3.length_eq) (fun i y e => z3.item i y (by simpa using e)) hg (fun b _ => Clear.nil b) hu k0 hQ z1
  | @tu _ o us n ds q1 q2 q3 q4 =>
    have z1 : (tupleText (PyData.shownAll ds)).length ≤ sizeLine := (by simpa only [PyData.shown] using hsz)
    obtain ⟨bs, z2, z3⟩ := RzA.rk (prog := prog) (w := w) q4 (by simpa [PyData.showable] using hs) (fun t ht => Nat.le_trans (tupleText_mem_le ht) z1)
    obtain ⟨as, r0⟩ := RzA.rd q4
    refine ⟨"tuple", "tuple.__repr__", F.slot_tuple_repr, F.slot_tuple_str, F.slot_tuple_format, fun s k0 => ⟨o, k0 _ _ q1, q2⟩, fun A E s Q hg hu k0 hQ => ?_⟩
    simp only [PyData.depth] at hu; simp only [PyData.shown] at hQ
    exact call_tuple_reprK q1 q2 q3 (not_mem_of_deeper (.tuple q1 q2 q3 r0) (by simp only [PyData.depth]; omega) z2) z3 hg (fun b _ => Clear.nil b) hu k0 hQ z1
  | @di _ o es n kvs q0 q1 q2 q3 q4 q5 =>
    have z1 : (dictText (PyData.shownKv kvs)).length ≤ sizeLine := (by simpa only [PyData.shown] using hsz)
    obtain ⟨s1, s2⟩ := PyData.showableKv_split kvs (by simpa [PyData.showable] using hs)
    obtain ⟨b1, y1, k1⟩ := RzA.rk (prog := prog) (w := w) q4 s1 (fun t ht => let ⟨p, hp, hl⟩ := PyData.shownKv_key_le kvs t ht; Nat.le_trans hl (Nat.le_trans (dictText_mem_le hp) z1))
    obtain ⟨b2, y2, k2⟩ := RzA.rk (prog := prog) (w := w) q5 s2 (fun t ht => let ⟨p, hp, hl⟩ := PyData.shownKv_val_le kvs t ht; Nat.le_trans hl (Nat.le_trans (dictText_mem_le hp) z1))
    obtain ⟨as, r1⟩ := RzA.rd q4
    obtain ⟨cs, r2⟩ := RzA.rd q5
    have y3 : ReadAtMost h₀ (PyData.depthKv kvs) (b1 ++ b2) := (y1.mono (PyData.depthAll_keys_le kvs)).append (y2.mono (PyData.depthAll_vals_le kvs))
    have y4 : a ∉ b1 ++ b2 := not_mem_of_deeper (.dict q1 q2 q3 r1 r2) (by simp only [PyData.depth]; omega) y3
    refine ⟨"dict", "dict.__repr__", F.slot_dict_repr, F.slot_dict_str, F.slot_dict_format, fun s k0 => ⟨o, k0 _ _ q1, q2⟩, fun A E s Q hg hu k0 hQ => ?_⟩
    simp only [PyData.depth] at hu; simp only [PyData.shown, PyData.shownKv_eq] at hQ
    exact call_dict_reprK q1 q2 q3 q0 y4 (ReprEntriesK.of_two es.toList _ _ (k1.more_le (fun b hb => List.mem_append_left _ hb) (PyData.depthAll_keys_le kvs)) (k2.more_le (fun b hb => List.mem_append_right _ hb) (PyData.depthAll_vals_le kvs))) hg (fun b _ => Clear.nil b) hu k0 hQ (by rw [← PyData.shownKv_eq]; exact z1)
theorem Rz.repr {a : Addr} {d : PyData} {A : Around} {E : Value → Shared → Prop} {s : Shared} {Q : Value → Shared → Prop} (r : Rz h₀ (.ref a) d) (hs : d.showable = true) (hsz : d.shown.length ≤ sizeLine) (hg : A.guards = some []) (hu : A.units + (d.depth + 1) < cLine) (k0 : ∀ b o, h₀.get? b = some o → s.heap.get? b = some o)
    (hQ : ∀ h' u tk, (∀ b o, s.heap.get? b = some o → h'.get? b = some o) → Q (.str d.shown u) { s with heap := h', toks := tk }) : wpAny (model prog w) A (call (.builtin "repr") [.ref a]) Q E s := by
  obtain ⟨T, idr, S⟩ := Rz.shows (prog := prog) (w := w) r hs hsz
  exact call_repr_slot (by omega) (S.typeIs s k0) S.slotRepr (S.call A.in1 E s _ hg (by show A.units + 1 + d.depth < cLine; omega) k0 fun h' u tk hk => ⟨_, _, rfl, hQ h' u tk hk⟩)
end
end PySem

set_option Elab.async false
set_option linter.all false
set_option maxRecDepth 100000
set_option maxHeartbeats 2000000
namespace My
open PySem PySem.Spec PyProof.Rows L2
/-! ### data with dicts (keys: texts and whole numbers) -/
def kD : Key → PyData
  | .inl i => .int i
  | .inr x => .str x
mutual
inductive Dq (K : PySem.W.Frag) (H : Hp) : V → PyData → Prop
  | non : Dq K H .non .none
  | bl (b : Bool) : Dq K H (.bl b) (.bool b)
  | int (i : Int) : Dq K H (.int i) (.int i)
  | str (x : Str) : Dq K H (.str x) (.str x)
  | lst {a : Addr} {xs : List V} {ds : List PyData} : SqL K H a xs → DqAll K H xs ds → Dq K H (.ref a) (.list ds)
  | tup {a : Addr} {xs : List V} {ds : List PyData} : SqT K H a xs → DqAll K H xs ds → Dq K H (.ref a) (.tuple ds)
  | dic {a : Addr} {kvs : List (Key × V)} {ds : List (PyData × PyData)} : H a = some (.dK kvs) → DqKv K H kvs ds → Dq K H (.ref a) (.dict ds)
inductive DqAll (K : PySem.W.Frag) (H : Hp) : List V → List PyData → Prop
  | nil : DqAll K H [] []
  | cons {v : V} {vs : List V} {d : PyData} {ds : List PyData} : Dq K H v d → DqAll K H vs ds → DqAll K H (v :: vs) (d :: ds)
inductive DqKv (K : PySem.W.Frag) (H : Hp) : List (Key × V) → List (PyData × PyData) → Prop
  | nil : DqKv K H [] []
  | cons {k : Key} {v : V} {kvs : List (Key × V)} {d : PyData} {ds : List (PyData × PyData)} : Dq K H v d → DqKv K H kvs ds → DqKv K H ((k, v) :: kvs) ((kD k, d) :: ds)
end
section
variable {X : Cx} {pins : List (Addr × Obj)} {σ : L2.St} {H : Hp} {s : Shared}
mutual
theorem Dq.rz (I : Inv X pins σ H s) : ∀ (d : PyData) (v : V) (u : Value), Dq X.K H v d → RelV v u → Rz s.heap u d
  | .none, _, _, h, r => by
    cases h
    cases r
    exact .non
  | .bool b, _, _, h, r => by
    cases h
    cases r
    exact .bl b
  | .int i, _, _, h, r => by
    cases h
    obtain ⟨t, rfl⟩ := r
    exact .nu i t
  | .str x, _, _, h, r => by
    cases h
    obtain ⟨t, rfl⟩ := r
    exact .tx x t
  | .list ds, _, _, h, r => by
    cases h with
    | lst hs ha =>
      cases r
      obtain ⟨its, rv, ⟨o, n, ho, hc, _, hd⟩, _⟩ := I.list hs
      exact .li ho hc hd (Dq.rzAll I ds _ its ha rv)
  | .tuple ds, _, _, h, r => by
    cases h with
    | tup hs ha =>
      cases r
      obtain ⟨its, rv, ⟨o, ho, hc, n, hd⟩, _⟩ := I.tuple hs
      exact .tu ho hc hd (Dq.rzAll I ds _ its ha rv)
  | .dict ds, _, _, h, r => by
    cases h with
    | dic hs ha =>
      cases r
      obtain ⟨z, nsm, vs, kv, o, es, ep, ho, hx, hd, _, hp, _⟩ := dk_of I.hok hs
      obtain ⟨hr, hr2⟩ := Dq.rzKv I ds _ vs es.toList ha kv hp
      exact .di nsm ho hx.1 hd hr hr2
theorem Dq.rzAll (I : Inv X pins σ H s) : ∀ (ds : List PyData) (vs : List V) (us : List Value), DqAll X.K H vs ds → Vals vs us → RzA s.heap us ds
  | [], _, _, h, r => by
    cases h
    cases r
    exact .nil
  | d :: ds, _, _, h, r => by
    cases h with
    | cons h1 h2 =>
      cases r with
      | cons r1 r2 => exact .cons (Dq.rz I d _ _ h1 r1) (Dq.rzAll I ds _ _ h2 r2)
theorem Dq.rzKv (I : Inv X pins σ H s) : ∀ (ds : List (PyData × PyData)) (kvs : List (Key × V)) (vs : List (Key × Value)) (es : List DictEntry), DqKv X.K H kvs ds → KV kvs vs → Pairs (mixKind X.prog X.w) es vs →
    RzA s.heap (es.map (·.key)) (ds.map (·.1)) ∧ RzA s.heap (es.map (·.val)) (ds.map (·.2))
  | [], _, _, _, h, r, p => by
    cases h
    cases r
    cases p
    exact ⟨.nil, .nil⟩
  | (c, d) :: ds, kvs, vs, es, h, r, p => by
    cases h with
    | @cons k v kvs' _ _ h1 h2 =>
      cases r with
      | @cons _ q _ vs' r1 r2 =>
        cases p with
        | @cons e _ es' _ p1 p2 p3 =>
          obtain ⟨rk, rv⟩ := r1
          have q1 := Dq.rz I d v q.2 h1 rv
          obtain ⟨q2, q3⟩ := Dq.rzKv I ds kvs' vs' es' h2 r2 p3
          have kk : Rz s.heap e.key (kD k) := by
            have rk' : k = q.1 := rk
            rw [rk']
            rcases keyIs_shape (show keyIs q.1 e.key = true from p1) with ⟨i, t, e1, e2⟩ | ⟨x, t, e1, e2⟩
            · rw [e1, e2]
              exact .nu i t
            · rw [e1, e2]
              exact .tx x t
          exact ⟨.cons kk q2, .cons (by show Rz s.heap e.val d; rw [p2]; exact q1) q3⟩
end
end
/-- repr(a), a a list, a tuple or a dict of data -/
def rReprQ (K : PySem.W.Frag) : List V → Hp → VK → Prop := fun vs H Q => ∃ (a : Addr) (d : PyData), vs = [.ref a] ∧ Dq K H (.ref a) d ∧ d.showable = true ∧ d.depth ≤ 6 ∧ d.shown.length ≤ 100000 ∧ Q (.str d.shown) H
theorem rd_reprQ {K : PySem.W.Frag} {v : V} {H : Hp} {Q : VK} : rReprQ K [v] H Q = ∃ (a : Addr) (d : PyData), v = .ref a ∧ Dq K H (.ref a) d ∧ d.showable = true ∧ d.depth ≤ 6 ∧ d.shown.length ≤ 100000 ∧ Q (.str d.shown) H := by
  simp [rReprQ]
theorem call_reprQ {X : Cx} (hg : X.A.guards = some []) (hu : X.A.units + 64 < cLine) : CallR X (.builtin "repr") (rReprQ X.K) := by
  intro pins s σ H xs us Q I r h
  obtain ⟨a, d, rfl, hd, hs, hp, hl, q⟩ := h
  cases r with
  | cons r1 r2 =>
    cases r2
    cases r1
    exact (Dq.rz I d _ _ hd rfl).repr hs (sz hl) hg (by omega) (fun _ _ e => e) (fun h' u tk hk => ⟨.str d.shown, H, I.kept hk, ⟨u, rfl⟩, q⟩)
/-! ### data stands while things that are known stand -/
mutual
theorem Dq.same {K : PySem.W.Frag} {H H' : Hp} (s : Same H H') : ∀ {v : V} {d : PyData}, Dq K H v d → Dq K H' v d
  | _, _, .non => .non
  | _, _, .bl b => .bl b
  | _, _, .int b => .int b
  | _, _, .str b => .str b
  | _, _, .lst h1 h2 => .lst (s.seq h1) (DqAll.same s h2)
  | _, _, .tup h1 h2 => .tup (h1.imp (fun h => h.imp (s _ _) fun ⟨o, h⟩ => ⟨o, s _ _ h⟩) id) (DqAll.same s h2)
  | _, _, .dic h1 h2 => .dic (s _ _ h1) (DqKv.same s h2)
theorem DqAll.same {K : PySem.W.Frag} {H H' : Hp} (s : Same H H') : ∀ {v : List V} {d : List PyData}, DqAll K H v d → DqAll K H' v d
  | _, _, .nil => .nil
  | _, _, .cons h1 h2 => .cons (Dq.same s h1) (DqAll.same s h2)
theorem DqKv.same {K : PySem.W.Frag} {H H' : Hp} (s : Same H H') : ∀ {v : List (Key × V)} {d : List (PyData × PyData)}, DqKv K H v d → DqKv K H' v d
  | _, _, .nil => .nil
  | _, _, .cons h1 h2 => .cons (Dq.same s h1) (DqKv.same s h2)
end
end My

set_option Elab.async false
set_option linter.all false
set_option maxRecDepth 100000
set_option maxHeartbeats 2000000
namespace My
open PySem PySem.Spec PyProof.Rows L2
section
variable {σ : L2.St} {H : Hp} {D : Ends}
theorem step_asg {te : TE} {t : TS} {j : Nat} (h : te σ H fun x H1 => t D (σ.set j (some x)) H1) : tSeq (tAsg te (gName j)) t D σ H := h
theorem step_seq {t u : TS} (h : t { D with nx := u D } σ H) : tSeq t u D σ H := h
theorem step_if {tt : TT} {x y : TS} (h : tt σ H fun c H1 => if c = true then x D σ H1 else y D σ H1) : tIfS tt x y D σ H := h
end
/-! ### all but the pool's list stands -/
def Bt (p : Addr) (H H' : Hp) : Prop := ∀ a u, a ≠ p → H a = some u → H' a = some u
section
variable {p a : Addr} {H H1 H2 H3 : Hp} {o : HO}
theorem Bt.refl (p : Addr) (H : Hp) : Bt p H H := fun _ _ _ h => h
theorem Bt.trans (h : Bt p H1 H2) (k : Bt p H2 H3) : Bt p H1 H3 := fun a u n z => k a u n (h a u n z)
theorem Same.bt (h : Same H1 H2) : Bt p H1 H2 := fun a u _ z => h a u z
theorem Bt.set (h : Bt p H H1) (n : H a = none) : Bt p H (upd H1 a o) := fun b u m z => by rw [upd_ne (ne_of_none z n)]; exact h b u m z
/-- a pool: its drawn numbers at q, a place -/
def Pl (H : Hp) (p q : Addr) : Prop := ∃ (k : Int) (zs : List Int), H p = some (.lst [.ref q, .int k]) ∧ 0 ≤ k ∧ H q = some (.lst (zs.map V.int))
theorem Pl.same {q : Addr} (h : Pl H1 p q) (s : Same H1 H2) : Pl H2 p q := let ⟨k, zs, h1, h2, h3⟩ := h; ⟨k, zs, s _ _ h1, h2, s _ _ h3⟩
theorem Pl.ne {q : Addr} (h : Pl H p q) (ha : H a = none) : a ≠ p := let ⟨_, _, h1, _, _⟩ := h; Ne.symm (ne_of_none h1 ha)
theorem Pl.neQ {q : Addr} (h : Pl H p q) (ha : H a = none) : a ≠ q := let ⟨_, _, _, _, h1⟩ := h; Ne.symm (ne_of_none h1 ha)
theorem Pl.neO {q : Addr} (h : Pl H p q) (ha : H a = some o) (d : ∀ q k, o ≠ .lst [.ref q, .int k]) : a ≠ p := let ⟨_, _, h1, _, _⟩ := h; ne_of ha h1 (d _ _)
theorem Pl.set {q : Addr} (h : Pl H p q) (ha : a ≠ p) (hq : a ≠ q) : Pl (upd H a o) p q := by
  obtain ⟨k, zs, h1, h2, h3⟩ := h
  exact ⟨k, zs, by rw [upd_ne (Ne.symm ha)]; exact h1, h2, by rw [upd_ne (Ne.symm hq)]; exact h3⟩
theorem Bt.none (b : Bt p H1 H2) (n : a ≠ p) (h : H2 a = none) : H1 a = none := by
  cases e : H1 a with
  | none => rfl
  | some o => exact absurd (b a o n e) (by rw [h]; exact fun z => nomatch z)
end
def spDrwB : Sp := fun vs H Q _ => ∃ (p q : Addr) (m : Int), vs = [.ref p, .int m] ∧ 0 < m ∧ Pl H p q ∧ ∀ (r : Int) (H' : Hp), Bt p H H' → Pl H' p q → 0 ≤ r → r < m → Q (.int r) H'
def spPckB : Sp := fun vs H Q _ => ∃ (p q a : Addr) (xs : List V), vs = [.ref p, .ref a] ∧ Pl H p q ∧ H a = some (.lst xs) ∧ a ≠ p ∧ 0 < xs.length ∧ ∀ (x : V) (H' : Hp), Bt p H H' → Pl H' p q → x ∈ xs → Q x H'
theorem pl_ne_zs {H : Hp} {p q : Addr} {k : Int} {zs : List Int} (h1 : H p = some (.lst [.ref q, .int k])) (h3 : H q = some (.lst (zs.map V.int))) : q ≠ p := by
  rintro rfl
  rw [h3] at h1
  cases zs with
  | nil => cases h1
  | cons z zs => cases h1
theorem pl_draw {H : Hp} {p q : Addr} {k : Int} {zs : List Int} (h1 : H p = some (.lst [.ref q, .int k])) (h2 : 0 ≤ k) (h3 : H q = some (.lst (zs.map V.int))) : Bt p H (upd H p (.lst [.ref q, .int (k + 1)])) ∧ Pl (upd H p (.lst [.ref q, .int (k + 1)])) p q :=
  ⟨fun a u n z => by rw [upd_ne n]; exact z, k + 1, zs, upd_same, by omega, by rw [upd_ne (pl_ne_zs h1 h3)]; exact h3⟩
theorem drwB_imp (vs : List V) (H : Hp) (Q : VK) (E : XK) (h : spDrwB vs H Q E) : spDrw vs H Q E := by
  obtain ⟨p, q, m, rfl, m0, ⟨k, zs, h1, h2, h3⟩, qq⟩ := h
  have z := pl_draw h1 h2 h3
  exact ⟨p, q, k, m, zs, rfl, m0, h1, h2, h3, fun r r0 r1 => qq r _ z.1 z.2 r0 r1⟩
theorem pckB_imp (vs : List V) (H : Hp) (Q : VK) (E : XK) (h : spPckB vs H Q E) : spPck vs H Q E := by
  obtain ⟨p, q, a, xs, rfl, ⟨k, zs, h1, h2, h3⟩, ha, n, hx, qq⟩ := h
  have z := pl_draw h1 h2 h3
  exact ⟨p, q, a, k, zs, xs, rfl, h1, h2, h3, ha, n, hx, fun i x e => qq x _ z.1 z.2 (List.mem_of_getElem? e)⟩
/-- a list of marks with their numbers -/
def PrL (H : Hp) (l : Addr) (ks : List (Str × Int)) : Prop := ∃ ps : List Addr, H l = some (.lst (ps.map V.ref)) ∧ Paired (fun b e => H b = some (.tup [.str e.1, .int e.2])) ps ks
theorem PrL.bt {p q l : Addr} {H H' : Hp} {ks : List (Str × Int)} (h : PrL H l ks) (pl : Pl H p q) (n : l ≠ p) (b : Bt p H H') : PrL H' l ks := by
  obtain ⟨ps, h1, h2⟩ := h
  exact ⟨ps, b _ _ n h1, Paired.mono (fun x y z => b _ _ (pl.neO z (fun _ _ e => by cases e)) z) h2⟩
theorem PrL.same {l : Addr} {H H' : Hp} {ks : List (Str × Int)} (h : PrL H l ks) (s : Same H H') : PrL H' l ks := let ⟨ps, h1, h2⟩ := h; ⟨ps, s _ _ h1, Paired.mono (fun _ _ z => s _ _ z) h2⟩
def marks7 : List (List (Str × Int)) := [[], [("m", 1)], [("m", 1)], [("m", 2)], [("far", 1), ("m", 1)], [("far", 2), ("m", 1)], [("m", 3)]]
def spMks : Sp := fun vs H Q _ => ∃ (p q : Addr), vs = [.ref p] ∧ Pl H p q ∧ ∀ (l : Addr) (H' : Hp) (ks : List (Str × Int)), H l = none → l ≠ p → Bt p H H' → Pl H' p q → ks ∈ marks7 → PrL H' l ks → Q (.ref l) H'
end My

set_option Elab.async false
set_option linter.all false
set_option maxRecDepth 100000
set_option maxHeartbeats 2000000
namespace My
open PySem PySem.Spec PyProof.Rows L2
/-! ### the dict {None: n} -/
def nnP (a : Addr) (n : Int) (h : Heap) : Prop := (a == sysModules) = false ∧ ∃ (o : Obj) (es : Array DictEntry) (ep : Nat) (t : Tok) (hn : Int), h.get? a = some o ∧ o.ExactDict ∧ o.data = .dict es ep ∧ es.toList = [⟨hn, .none, .int n t⟩] ∧ ∀ w : World, hn = (Leaf.key .none).hash w
def NnD (a : Addr) (n : Int) : HO := .ext (nnP a n)
theorem nn_dict {P : Program} {w : World} {a : Addr} {n : Int} {h : Heap} (x : nnP a n h) : (a == sysModules) = false ∧ ∃ t, h.DictOf (leafKind P w) a [(.none, .int n t)] := by
  obtain ⟨h0, o, es, ep, t, hn, h1, h2, h3, h4, h5⟩ := x
  refine ⟨h0, t, o, es, ep, h1, h2, h3, fun e he => ?_, ?_, by simp⟩
  · have he' : e ∈ es.toList := by simpa using he
    rw [h4, List.mem_singleton] at he'
    subst he'
    exact ⟨.none, rfl, h5 w⟩
  · rw [h4]
    exact .cons rfl rfl .nil
theorem nn_keep {a : Addr} {n : Int} (h1 h2 : Heap) (x : nnP a n h1) (k : ∀ o, h1.get? a = some o → h2.get? a = some o) : nnP a n h2 := by
  obtain ⟨h0, o, es, ep, t, hn, e1, e2⟩ := x
  exact ⟨h0, o, es, ep, t, hn, k _ e1, e2⟩
theorem nn_of {P : Program} {w : World} {a : Addr} {n : Int} {t : Tok} {h : Heap} (h0 : (a == sysModules) = false) (x : h.DictOf (leafKind P w) a [(.none, .int n t)]) : nnP a n h := by
  obtain ⟨o, es, ep, h1, h2, h3, hk, hp, _⟩ := x
  have e : ∃ e, es.toList = [e] ∧ Leaf.isOf .none e.key = true ∧ e.val = .int n t := by
    generalize es.toList = l at hp
    cases hp with
    | cons a b c => cases c with
      | nil => exact ⟨_, rfl, a, b⟩
  obtain ⟨e, he, hkey, hval⟩ := e
  have hek : e.key = .none := by
    cases q : e.key <;> rw [q] at hkey <;> first | rfl | exact absurd hkey Bool.false_ne_true
  obtain ⟨k, kk, kh⟩ := hk e (by have : e ∈ es.toList := by rw [he]; simp
                                 simpa using this)
  have ek : k = .none := by
    rw [hek] at kk
    cases k <;> first | rfl | exact absurd kk Bool.false_ne_true
  subst ek
  obtain ⟨eh, ekk, ev⟩ := e
  refine ⟨h0, o, es, ep, t, eh, h1, h2, h3, ?_, fun w' => ?_⟩
  · rw [he]
    simp only at hek hval
    rw [hek, hval]
  · exact kh
theorem nn_obj {P : Program} {w : World} {H : Hp} {h : Heap} {a : Addr} {n : Int} (ok : HOk P w H h) (e : H a = some (NnD a n)) : nnP a n h := (ok a _ e).1
section
variable {X : Cx}
/-- {None: n} -/
def tDNone (n : Int) : TE := fun _ H Q => ∀ p, H p = none → Q (.ref p) (upd H p (NnD p n))
theorem pe_dnone {i j : Nat} {p1 p2 pos : Pos} {n : Int} : PE X (.Dict [some (.Constant .none i p1)] [.Constant (.int n) j p2] pos) (tDNone n) := by
  refine ⟨fun pins s σ H Q I q => ?_⟩
  have hn := I.hok.fresh (Nat.le_refl s.heap.objs.size)
  have hsys : (s.heap.objs.size == sysModules) = false := beq_eq_false_iff_ne.mpr (Ne.symm (Nat.ne_of_lt I.big))
  refine wpAny_Dict_walk (knd := leafKind X.prog X.w) rfl rfl (by simp) (show ([some _] : List (Option Expr)).length ≤ 15 from by simp) ?_
  refine pairTrees_cons_walk (Constant_none (wpAny_Constant_int (pairTrees_nil_walk ?_)))
  refine ⟨[(.none, .int n _)], ⟨rfl, rfl, True.intro⟩, Heap.DictOf.new s.heap, fun h' dd' hs => ?_⟩
  have kp : ∀ b u, s.heap.get? b = some u → h'.get? b = some u := fun b u e => (hs.2 b (Nat.ne_of_lt (Heap.lt_size e))).trans (Heap.get?_push_of_some _ e)
  have hnn : nnP s.heap.objs.size n h' := nn_of hsys (show h'.DictOf (leafKind X.prog X.w) s.heap.objs.size [(.none, .int n _)] from dd')
  exact ⟨.ref s.heap.objs.size, _, I.laid (t' := _) kp (Nat.le_refl _) (show ObjOk X.prog X.w _ h' _ (NnD s.heap.objs.size n) from ⟨hnn, (let ⟨_, o, _, _, _, _, e, _⟩ := hnn; ⟨o, e⟩), fun h1 h2 a b => nn_keep h1 h2 a b⟩), rfl, q _ hn⟩
theorem call_isDn : CallR X (.builtin "isinstance") (fun vs H Q => ∃ (a : Addr) (n : Int), vs = [.ref a, .ty "dict"] ∧ H a = some (NnD a n) ∧ Q (.bl true) H) := by
  intro pins s σ H xs us Q I r h
  obtain ⟨a, n, rfl, ha, q⟩ := h
  obtain ⟨u1, u2, rfl, r1, r2⟩ := vals2 r
  cases (show u1 = Value.ref a from r1)
  cases (show u2 = Value.type "dict" from r2)
  obtain ⟨_, o, es, ep, t, hn, h1, h2, _⟩ := nn_obj I.hok ha
  exact PySem.W.kia_one PySem.W.kitx_dict I.kIn ⟨o, h1, h2.1⟩ (kit_ty (by decide +kernel : kitB "dict" "dict" = some true)) (fun z => nomatch z) fun tk => ⟨.bl true, H, I.tok tk, rfl, q⟩
theorem call_lenDn : CallR X (.builtin "len") (fun vs H Q => ∃ (a : Addr) (n : Int), vs = [.ref a] ∧ H a = some (NnD a n) ∧ Q (.int 1) H) := by
  intro pins s σ H xs us Q I r h
  obtain ⟨a, n, rfl, ha, q⟩ := h
  obtain ⟨u1, rfl, r1⟩ := vals1 r
  cases (show u1 = Value.ref a from r1)
  obtain ⟨h0, t, dd⟩ := nn_dict (P := X.prog) (w := X.w) (nn_obj I.hok ha)
  exact call_len_dict h0 dd (by show ((1 : Nat) : Int) < 2 ^ 63; decide) ⟨.int 1, H, I.tok _, ⟨_, rfl⟩, q⟩
/-- its keys -/
def ItN (d : Addr) (o : Obj) (n : Int) : It := ⟨fun i H => H d = some (.frz o (NnD d n)) ∧ i < 1, fun i H x H' => H' = H ∧ x = .non, fun i H => H d = some (.frz o (NnD d n)) ∧ 1 ≤ i⟩
theorem nn_frz {pins : List (Addr × Obj)} {σ : L2.St} {H : Hp} {s : Shared} {d : Addr} {o : Obj} {n : Int} (I : Inv X pins σ H s) (h : H d = some (.frz o (NnD d n))) : (d == sysModules) = false ∧ s.heap.get? d = some o ∧ ∃ (es : Array DictEntry) (ep : Nat), o.ExactDict ∧ o.data = .dict es ep ∧ es.size = 1 ∧ ∀ (i : Nat) (hi : i < es.size), es[i].key = .none := by
  obtain ⟨hd, ⟨h0, o', es, ep, t, hn, h1, h2, h3, h4, _⟩, _⟩ := I.hok d _ h
  rw [hd] at h1
  cases h1
  have hl : es.size = 1 := by
    have := congrArg List.length h4
    simpa using this
  refine ⟨h0, hd, es, ep, h2, h3, hl, fun i hi => ?_⟩
  have e0 : i = 0 := by omega
  subst e0
  have z : es.toList[0]? = some ⟨hn, .none, .int n t⟩ := by rw [h4]; rfl
  rw [Array.getElem?_toList, Array.getElem?_eq_getElem hi] at z
  rw [Option.some.inj z]
theorem turn_none {P : Program} {w : World} {K : PySem.W.Frag} {tg : Expr} {d it : Addr} {o : Obj} {n : Int} {es : Array DictEntry} {ep : Nat} (hod : o.data = .dict es ep) : Turn P w K tg (ItN d o n) [it] it (fun i h => h.IsKeyIter it d i 1 ep) where
  mem := by simp
  obj := fun i h st b hb => by
    have e : b = it := by simpa using hb
    subst e
    obtain ⟨oi, e, c, dd⟩ := st
    exact ⟨oi, e, fun v z => by rw [dd] at z; cases z⟩
  keep := fun i h h' st k => st.at fun oi e => k it (by simp) oi e
  item := by
    intro X hP hw hK hc i pins s σ H E I hf st hg
    subst hP hw hK
    obtain ⟨hd, hi⟩ := hg
    obtain ⟨f0, f1, f2, f3, f4, f5⟩ := hf it (by simp)
    obtain ⟨hs, hgd, es', ep', hx, hdt, hsz, hkey⟩ := nn_frz I hd
    obtain ⟨rfl, rfl⟩ := dict_ep hod hdt
    have hlt : i < es'.size := by omega
    have st1 : s.heap.IsKeyIter it d i es'.size ep' := by rw [hsz]; exact st
    refine wpAny_pyNext_keys_item_raw st1 ⟨o, hgd, hx, hdt⟩ hlt fun h' st' sb => ?_
    have I1 : Inv X pins σ H { s with heap := h' } := I.turned (t' := s.toks) (fun b ob hb e => (sb.2 b hb).trans e) f0 f1 f3 f4 f5
    obtain ⟨oi, e, c, dd⟩ := id st'
    rw [hsz] at st'
    exact ⟨es'[i].key, rfl, go_of (s := { s with heap := h' }) e c dd (by decide) ⟨.non, H, I1, hkey i hlt, ⟨rfl, rfl⟩, st', fun b hb => (hf b hb).1⟩⟩
  done := by
    intro X hP hw hK hc i pins s σ H E I hf st hg
    subst hP hw hK
    obtain ⟨hd, hi⟩ := hg
    obtain ⟨f0, f1, f2, f3, f4, f5⟩ := hf it (by simp)
    obtain ⟨hs, hgd, es', ep', hx, hdt, hsz, hkey⟩ := nn_frz I hd
    obtain ⟨rfl, rfl⟩ := dict_ep hod hdt
    exact next_key_end (I.ok.hd hc) st hgd hdt hsz hi fun h' eb => ⟨rfl, I.turned (t' := s.toks) (fun b ob hb e => eb b ob hb e) f0 f1 f3 f4 f5⟩
  self := fun A i s Q E st h => wpAny_pyIter_keyiter st h
/-- for k in d, also where d is {None: n} -/
def iKeysN (td : TE) : TI := fun σ H R => td σ H fun x H1 => ∃ d o, x = .ref d ∧ ((∃ kvs : List (Key × V), H1 d = some (.frz o (.dK kvs)) ∧ R (Itk d o kvs) H1) ∨ ∃ n : Int, H1 d = some (.frz o (NnD d n)) ∧ R (ItN d o n) H1)
theorem pi_keysN {tg e : Expr} {td : TE} (he : PE X e td) : PI X tg e (iKeysN td) := by
  refine ⟨fun pins s σ H R I h => ?_⟩
  refine thn (he.run pins s σ H _ I h) fun u s1 ⟨x, H1, I1, rx, d, o, ex, q⟩ => ?_
  subst ex
  obtain rfl : u = Value.ref d := rx
  rcases q with ⟨kvs, hd, q⟩ | ⟨n, hd, q⟩
  · obtain ⟨hs, hgd, hx, es, ep, vs, hdt, hsz, kv, hm⟩ := I1.frzK hd
    refine iter_keys hs hgd hx hdt (pi_one (tk := s1.toks) I1 _ (turn_keys _ hdt) ⟨_, Heap.get?_push_size _ rfl, rfl, ?_⟩ q)
    rw [hsz] <;> rfl
  · obtain ⟨hs, hgd, es, ep, hx, hdt, hsz, hkey⟩ := nn_frz I1 hd
    refine iter_keys hs hgd hx hdt (pi_one (tk := s1.toks) I1 _ (turn_none (n := n) hdt) ⟨_, Heap.get?_push_size _ rfl, rfl, ?_⟩ q)
    rw [hsz] <;> rfl
theorem walk_none {d : Addr} {o : Obj} {n : Int} : Walk (ItN d o n) [V.non].length (fun H => H d = some (.frz o (NnD d n))) (YAt [V.non]) :=
  ⟨fun i H hi h => ⟨h, hi⟩, fun H h => ⟨h, Nat.le_refl _⟩, fun i H x H' hi h y => ⟨y.1, by
    obtain ⟨_, rfl⟩ := y
    have : i = 0 := by
      have : i < 1 := hi
      omega
    subst this
    rfl⟩⟩
end
end My

set_option Elab.async false
set_option linter.all false
set_option maxRecDepth 100000
set_option maxHeartbeats 4000000
namespace My
open PySem PySem.Spec PyProof.Rows L2
local macro_rules | `(tactic| walk_at "rd") => `(tactic| simp only [rd_seq, rd_next, rd_brk, rd_cont, rd_asg, rd_gname, rd_var, rd_c, rd_op, rd_un, rd_rI0, rd_rI, rd_rU, rd_test, rd_B, rd_and, rd_or, rd_not, rd_andV, rd_orV, rd_notV, rd_ifx, rd_ifs, rd_drop, rd_ret, rd_nil, rd_cons, rd_cb, rd_tup, rd_lst, rd_call, rd_bm, rd_app, rd_ixLst, rd_ixSq, rd_lenL, rd_lenSq, rd_setLst, rd_sub, rd_neNil, rd_isStr, rd_dg, rd_dp, rd_mk, rd_sl, rd_noP, rd_part, rd_slL, rd_cat, rd_lcL, rd_lcE, rd_lcA, rd_lcEA, rd_isTy, rd_lockE, rd_lcK, rd_dgetD, rd_ixTp, rd_lenUn,  L2.valV_put, rd_fldS, rd_eq, rd_ne, rd_fldE, rd_allB, rd_isBl, rd_inS, rd_chain, rd_chain', L2.wipe, Int.reduceToNat, Int.reduceLE, Int.reduceLT, Nat.reduceLT, Nat.reduceLeDiff, Int.reduceNeg, Int.toNat_natCast, Int.reduceAdd, L2.start, and_assoc, exists_and_left, List.map_cons, List.map_nil, List.length_cons, List.length_nil, List.cons_append, List.nil_append, List.append_nil, List.replicate_succ, List.replicate_zero, List.replicate, List.set_cons_zero, List.set_cons_succ, List.getElem?_cons_zero, List.getElem?_cons_succ, Option.some.injEq, exists_eq_left', exists_eq_left, exists_eq, V.int.injEq, V.ref.injEq, V.str.injEq, V.bl.injEq, HO.lst.injEq, HO.tup.injEq, ex_bl, List.cons.injEq, and_true, true_and, Nat.reduceAdd, Nat.reduceSub, reduceCtorEq, false_and, or_false, exists_false, false_or, decide_eq_true_eq, if_true, if_false, Bool.false_eq_true, Bool.not_true, Bool.not_false, upd_same])
local macro_rules | `(tactic| walk_at "rdh") => `(tactic| simp only [rd_seq, rd_next, rd_brk, rd_cont, rd_asg, rd_gname, rd_var, rd_c, rd_op, rd_un, rd_rI0, rd_rI, rd_rU, rd_test, rd_B, rd_and, rd_or, rd_not, rd_andV, rd_orV, rd_notV, rd_ifx, rd_ifs, rd_drop, rd_ret, rd_nil, rd_cons, rd_cb, rd_tup, rd_lst, rd_call, rd_bm, rd_app, rd_ixLst, rd_ixSq, rd_lenL, rd_lenSq, rd_setLst, rd_sub, rd_neNil, rd_isStr, rd_dg, rd_dp, rd_mk, rd_sl, rd_noP, rd_part, rd_slL, rd_cat, rd_lcL, rd_lcE, rd_lcA, rd_lcEA, rd_isTy, rd_lockE, rd_lcK, rd_dgetD, rd_ixTp, rd_lenUn,  L2.valV_put, rd_fldS, rd_eq, rd_ne, rd_fldE, rd_allB, rd_isBl, rd_inS, rd_chain, rd_chain', L2.wipe, Int.reduceToNat, Int.reduceLE, Int.reduceLT, Nat.reduceLT, Nat.reduceLeDiff, Int.reduceNeg, Int.toNat_natCast, Int.reduceAdd, L2.start, and_assoc, exists_and_left, List.map_cons, List.map_nil, List.length_cons, List.length_nil, List.cons_append, List.nil_append, List.append_nil, List.replicate_succ, List.replicate_zero, List.replicate, List.set_cons_zero, List.set_cons_succ, List.getElem?_cons_zero, List.getElem?_cons_succ, Option.some.injEq, exists_eq_left', exists_eq_left, exists_eq, V.int.injEq, V.ref.injEq, V.str.injEq, V.bl.injEq, HO.lst.injEq, HO.tup.injEq, ex_bl, List.cons.injEq, and_true, true_and, Nat.reduceAdd, Nat.reduceSub, reduceCtorEq, false_and, or_false, exists_false, false_or, decide_eq_true_eq, if_true, if_false, Bool.false_eq_true, Bool.not_true, Bool.not_false, upd_same, *])
/-! ### the validators at values of any kind -/
theorem kI : kitB "NoneType" "int" = some false ∧ kitB "bool" "int" = some true ∧ kitB "int" "int" = some true ∧ kitB "str" "int" = some false ∧ kitB "list" "int" = some false ∧ kitB "tuple" "int" = some false ∧ kitB "dict" "int" = some false := by decide +kernel
theorem kT : kitB "NoneType" "tuple" = some false ∧ kitB "bool" "tuple" = some false ∧ kitB "int" "tuple" = some false ∧ kitB "str" "tuple" = some false ∧ kitB "list" "tuple" = some false ∧ kitB "tuple" "tuple" = some true ∧ kitB "dict" "tuple" = some false := by decide +kernel
theorem kDct : kitB "NoneType" "dict" = some false ∧ kitB "bool" "dict" = some false ∧ kitB "int" "dict" = some false ∧ kitB "str" "dict" = some false ∧ kitB "list" "dict" = some false ∧ kitB "tuple" "dict" = some false ∧ kitB "dict" "dict" = some true := by decide +kernel
def isMarkV : V → Bool
  | .str x => isMark x
  | _ => false
def numOk (v : V) (lo hi : Int) : Bool := match v with
  | .int n => decide (lo ≤ n) && decide (n ≤ hi)
  | _ => false
def spNmbA : Sp := fun vs H Q _ => ∃ (v : V) (lo hi : Int), vs = [v, .int lo, .int hi] ∧ (tyS H v).isSome = true ∧ Q (.bl (numOk v lo hi)) H
def spMrkA : Sp := fun vs H Q _ => ∃ v : V, vs = [v] ∧ Ty H v ∧ ∀ H', Same H H' → Q (.bl (isMarkV v)) H'
def strOf : V → Str
  | .str x => x
  | _ => ""
theorem all_words {xs : List V} (h : xs.all isWord = true) : xs = (xs.map strOf).map V.str := by
  rw [List.map_map]
  refine ((List.map_congr_left fun y hy => ?_).trans (List.map_id xs)).symm
  have := List.all_eq_true.mp h y hy
  cases y <;> first | rfl | cases this
def wdsOk (m : Int) (xs : List V) : Bool := decide ((xs.length : Int) ≤ m) && (xs.all isWord && decide (dn (xs.map strOf) xs.length = xs.length))
/-- are_words of any value -/
def spWdsA (K : PySem.W.Frag) : Sp := fun vs H Q _ => ∃ (v : V) (m : Int), vs = [v, .int m] ∧ ((RwV K H v false ∧ ∀ H', Same H H' → Q (.bl false) H') ∨
  ∃ (a : Addr) (xs : List V), v = .ref a ∧ Row K H a xs ∧ xs.length ≤ 1000 ∧ (∀ x ∈ xs, Ty H x) ∧ ∀ H', Same H H' → Q (.bl (wdsOk m xs)) H')
section
variable {P : Program} {w : World} {K : PySem.W.Frag} {mg : Str → Option Value} {base : Heap}
theorem ok_nmbA {f : Addr} {fd : FuncData} (F : Fun K "is_number" "is_number" sNmb f fd) (B : Bn mg) : FnOk P w K mg base CX0 1 f fd ["value", "least", "most"] spNmbA := by
  refine F.ok scNmb (fun vs H Q E h => ?_) (fun cdv A outer s H vs Q E hr h => ?_)
  · obtain ⟨n, lo, hi, rfl, _⟩ := h
    rfl
  · obtain ⟨v, lo, hi, rfl, ht, q⟩ := h
    refine ⟨_, (pss_one (ps_ret (pe_and (pe_callB (call_isTy (T := "int")) (by rfl) B.isinstance (by decide +kernel) (pa_cons (pv 0) (pa_cons (pe_ty (T := "int") B.int (by decide +kernel)) pa_nil))) (pe_and (pe_not (pe_callB call_isBl (by rfl) B.isinstance (by decide +kernel) (pa_cons (pv 0) (pa_cons (pe_tyBool B.bool) pa_nil)))) (pe_one (pe_chain op_le op_le (pv 1) (pv 0) (pv 2))))))), ?_⟩
    walk_at "rd"
    cases v with
    | non => exact ⟨"NoneType", rfl, false, kI.1, iteF q⟩
    | bl b => exact ⟨"bool", rfl, true, kI.2.1, iteT ⟨rfl, iteF q⟩⟩
    | str x => exact ⟨"str", rfl, false, kI.2.2.2.1, iteF q⟩
    | int n =>
      refine ⟨"int", rfl, true, kI.2.2.1, iteT ⟨rfl, iteT ?_⟩⟩
      have q : Q (.bl (decide (lo ≤ n) && decide (n ≤ hi))) H := q
      refine ⟨_, _, rfl, rfl, _, rfl, ?_⟩
      by_cases h1 : lo ≤ n
      · rw [decide_eq_true h1, Bool.true_and] at q
        rw [decide_eq_true h1]
        exact iteT ⟨_, _, rfl, rfl, q⟩
      · rw [decide_eq_false h1, Bool.false_and] at q
        rw [decide_eq_false h1]
        exact iteF q
    | ref a =>
      obtain ⟨t, ht⟩ := Option.isSome_iff_exists.mp ht
      rcases tyO_cases (show tyO (H a) = some t from ht) with ⟨xs, e, rfl⟩ | ⟨xs, e, rfl⟩ | ⟨xs, e, rfl⟩
      · exact ⟨"list", ht, false, kI.2.2.2.2.1, iteF q⟩
      · exact ⟨"tuple", ht, false, kI.2.2.2.2.2.1, iteF q⟩
      · exact ⟨"dict", ht, false, kI.2.2.2.2.2.2, iteF q⟩
    | _ => cases ht
theorem ok_mrkA {f : Addr} {fd : FuncData} (F : Fun K "is_mark" "is_mark" sMrk f fd) (B : Bn mg) (Dis_word : Df K mg "is_word" sWrd ["value"]) (Gis_word : FnOk P w K mg base CX0 1 Dis_word.f Dis_word.fd ["value"] spWrd) : FnOk P w K mg base CX0 2 f fd ["value"] spMrkA := by
  refine F.ok scMrk (fun vs H Q E h => ?_) (fun cdv A outer s H vs Q E hr h => ?_)
  · obtain ⟨x, rfl, _⟩ := h
    rfl
  · obtain ⟨v, rfl, hv, q⟩ := h
    have hr1 := hr
    refine ⟨_, (pss_one (ps_ret (pe_and (pc Dis_word Gis_word hr1 (pa_cons (pv 0) pa_nil)) (pe_one (pe_cmpR op_ne (pv 0) pe_str (nomark _)))))), ?_⟩
    walk_at "rd"
    refine ⟨v, rfl, hv.1, hv.2, fun H' s => ⟨_, rfl, ?_⟩⟩
    have z := q H' s
    cases v with
    | str x =>
      have z : Q (.bl (isWord (.str x) && !decide (x = "goal"))) H' := z
      cases e : isWord (.str x) with
      | true =>
        rw [e, Bool.true_and] at z
        exact iteT ⟨rfl, by simpa using z⟩
      | false =>
        rw [e, Bool.false_and] at z
        exact iteF z
    | _ => exact iteF z
theorem ok_wdsA {f : Addr} {fd : FuncData} (F : Fun K "are_words" "are_words" sWds f fd) (B : Bn mg) (Dis_word : Df K mg "is_word" sWrd ["value"]) (Gis_word : FnOk P w K mg base CX0 1 Dis_word.f Dis_word.fd ["value"] spWrd)
    (Dis_row : Df K mg "is_row" sRow ["value"]) (Gis_row : FnOk P w K mg base CX0 1 Dis_row.f Dis_row.fd ["value"] (spRow K)) : FnOk P w K mg base CX0 2 f fd ["value", "most"] (spWdsA K) := by
  refine F.ok scWds (fun vs H Q E h => ?_) (fun cdv A outer s H vs Q E hr h => ?_)
  · obtain ⟨v, m, rfl, _⟩ := h
    rfl
  · obtain ⟨v, m, rfl, h⟩ := h
    have hr1 := hr
    refine ⟨_, (pss_cons (ps_if (PW.pt (pw_or (pt_not (pt_val (pc Dis_row Gis_row hr1 (pa_cons (pv 0) pa_nil)))) (pw_or1 (pt_cmpR op_gt (pe_callB call_len_seq (by rfl) B.len (by decide +kernel) (pa_cons (pv 0) pa_nil)) (pv 1) (nomark _)))))
        (pss_one (ps_ret pe_bl))
        pss_nil)
      (pss_one (ps_ret (pe_and (pe_callB (cr_allB rfl) (by rfl) B.all (by decide +kernel) (pa_cons (pe_lc (own := [("word", 2)]) (g := gName 2) rfl scWds.nd (pi_any (pv 0)) (blkOk_by (own := [("word", 2)]) (N := NWds) (sc := defScope sWds) (by decide +kernel)) (fun _ _ _ _ _ => pg_name (i := 2) scWds.nd rfl (Or.inl rfl)) (fun _ _ _ _ _ => pts_nil) (fun _ _ _ _ _ => (pc Dis_word Gis_word hr1 (pa_cons (pv 2) pa_nil)))) pa_nil)) (pe_one (pe_cmpR op_eq (pe_lenUn rfl B.len B.set (pv 0)) (pe_callB call_len_seq (by rfl) B.len (by decide +kernel) (pa_cons (pv 0) pa_nil)) (nomark _))))))), ?_⟩
    walk_at "rd"
    rcases h with ⟨hn, q⟩ | ⟨a, xs, rfl, ha, hz, hx, q⟩
    · exact ⟨_, false, rfl, hn, fun H1 s1 => ⟨_, rfl, iteT (q H1 s1)⟩⟩
    refine ⟨_, true, rfl, ha.ty, fun H1 s1 => ⟨_, rfl, ?_⟩⟩
    refine iteF ?_
    refine ⟨a, rfl, xs, (ha.same s1).sq, ?_⟩
    by_cases hm : m < (xs.length : Int)
    · rw [if_pos hm]
      have z := q H1 s1
      unfold wdsOk at z
      rw [decide_eq_false (by omega), Bool.false_and] at z
      exact z
    rw [if_neg hm]
    have hm' : decide ((xs.length : Int) ≤ m) = true := decide_eq_true (by omega)
    refine ⟨a, rfl, rowLc (ha.same s1) hz (fun v => .bl (isWord v)) (fun _ => rfl) (fun x H' R hxm sm r => ?_) (fun D H2 hD s2 hl => ?_)⟩
    · exact ⟨_, rfl, x, rfl, ((hx x hxm).same (Same.trans s1 sm)).1, (hx x hxm).2, fun H3 s3 => r H3 s3⟩
    · have s12 := s1.trans s2
      refine ⟨D, rfl, xs.map isWord, by rw [hl, List.map_map]; rfl, _, rfl, ?_⟩
      have z := q H2 s12
      unfold wdsOk at z
      rw [hm', Bool.true_and] at z
      have ea : (xs.map isWord).all id = xs.all isWord := by rw [List.all_map]; rfl
      rw [ea]
      cases e : xs.all isWord with
      | false =>
        rw [e, Bool.false_and] at z
        exact iteF z
      | true =>
        rw [e, Bool.true_and] at z
        have ew := all_words e
        have hr := ha.same s12
        refine iteT ⟨a, rfl, xs.map strOf, ?_, ?_, ?_⟩
        · rw [← ew]
          exact hr.sq
        · rw [List.length_map]
          exact hz
        · refine ⟨a, rfl, xs, hr.sq, rfl, ?_⟩
          rw [List.length_map]
          have ed : decide (((dn (xs.map strOf) xs.length : Nat) : Int) = ((xs.length : Nat) : Int)) = decide (dn (xs.map strOf) xs.length = xs.length) := by
            by_cases e2 : dn (xs.map strOf) xs.length = xs.length
            · rw [decide_eq_true e2, e2]; simp
            · rw [decide_eq_false e2]
              exact decide_eq_false fun h => e2 (by omega)
          rw [ed]
          exact z
/-- a step's value: none, if it is no tuple -/
def StR (H : Hp) (v : V) : Option (List V) → Prop
  | none => ∃ t, tyS H v = some t ∧ t ≠ "tuple"
  | some ys => ∃ a, v = .ref a ∧ H a = some (.tup ys) ∧ ∀ y ∈ ys, Ty H y
theorem StR.same {H H' : Hp} {v : V} {o : Option (List V)} (h : StR H v o) (s : Same H H') : StR H' v o := by
  cases o with
  | none => obtain ⟨t, h1, h2⟩ := h; exact ⟨t, tyS_keep s h1, h2⟩
  | some ys => obtain ⟨a, h1, h2, h3⟩ := h; exact ⟨a, h1, s _ _ h2, fun y hy => (h3 y hy).same s⟩
def stepV (l g : Bool) : List V → Bool
  | [x] => l && hasS acts x
  | [x, y] => hasS ["more", "less"] x && (isMarkV y || (g && hasS ["goal"] y))
  | _ => false
def stepO (l g : Bool) : Option (List V) → Bool
  | none => false
  | some ys => stepV l g ys
def spStpA : Sp := fun vs H Q _ => ∃ (v : V) (o : Option (List V)) (l g : Bool), vs = [v, .bl l, .bl g] ∧ StR H v o ∧ ∀ H', Same H H' → Q (.bl (stepO l g o)) H'
theorem kTup : ∀ t ∈ ["NoneType", "bool", "int", "str", "list", "tuple", "dict"], kitB t "tuple" = some (t == "tuple") := by decide +kernel
theorem ok_stpA {f aA : Addr} {fd : FuncData} (F : Fun K "is_step" "is_step" sStp f fd) (B : Bn mg) (gA : mg "ACTS" = some (.ref aA)) (hA : ∀ H, SqT K H aA (acts.map V.str)) (Dis_one_of : Df K mg "is_one_of" sOne ["value", "words"]) (Gis_one_of : FnOk P w K mg base CX0 1 Dis_one_of.f Dis_one_of.fd ["value", "words"] (spOne K))
    (Dis_mark : Df K mg "is_mark" sMrk ["value"]) (Gis_mark : FnOk P w K mg base CX0 2 Dis_mark.f Dis_mark.fd ["value"] spMrkA) : FnOk P w K mg base CX0 3 f fd ["value", "is_last", "has_goals"] spStpA := by
  refine F.ok scStp (fun vs H Q E h => ?_) (fun cdv A outer s H vs Q E hr h => ?_)
  · obtain ⟨v, o, l, g, rfl, _⟩ := h
    rfl
  · obtain ⟨v, o, l, g, rfl, hv, q⟩ := h
    have hr2 := hr
    have hr1 := hr.mono (by decide : 1 ≤ 2)
    refine ⟨_, (pss_cons (ps_if (pt_not (pt_val (pe_callB (call_isTy (T := "tuple")) (by rfl) B.isinstance (by decide +kernel) (pa_cons (pv 0) (pa_cons (pe_ty (T := "tuple") B.tuple (by decide +kernel)) pa_nil)))))
        (pss_one (ps_ret pe_bl))
        pss_nil)
      (pss_cons (ps_if (pt_cmpR op_eq (pe_callB call_len_seq (by rfl) B.len (by decide +kernel) (pa_cons (pv 0) pa_nil)) pe_int (nomark _))
        (pss_one (ps_ret (pe_and (pv 1) (pe_one (pc Dis_one_of Gis_one_of hr1 (pa_cons (pe_ix ix_tp (pv 0) pe_int (fun _ _ => rfl)) (pa_cons (pe_gR gA) pa_nil)))))))
        pss_nil)
      (pss_cons (ps_if (PW.pt (pw_or (pt_cmpR op_ne (pe_callB call_len_seq (by rfl) B.len (by decide +kernel) (pa_cons (pv 0) pa_nil)) pe_int (nomark _)) (pw_or1 (pt_not (pt_val (pc Dis_one_of Gis_one_of hr1 (pa_cons (pe_ix ix_tp (pv 0) pe_int (fun _ _ => rfl)) (pa_cons (pe_tup (pa_cons pe_str (pa_cons pe_str pa_nil))) pa_nil))))))))
        (pss_one (ps_ret pe_bl))
        pss_nil)
      (pss_one (ps_ret (pe_or (pc Dis_mark Gis_mark hr2 (pa_cons (pe_ix ix_tp (pv 0) pe_int (fun _ _ => rfl)) pa_nil)) (pe_one (pe_and (pv 2) (pe_one (pc Dis_one_of Gis_one_of hr1 (pa_cons (pe_ix ix_tp (pv 0) pe_int (fun _ _ => rfl)) (pa_cons (pe_tup (pa_cons pe_str pa_nil)) pa_nil)))))))))))), ?_⟩
    walk_at "rd"
    cases o with
    | none =>
      obtain ⟨t, h1, h2⟩ := hv
      refine ⟨t, h1, false, ?_, iteT (q H (Same.refl H))⟩
      rw [kTup t (ty_names h1)]
      simp [h2]
    | some ys =>
      obtain ⟨a, rfl, ha, hy⟩ := hv
      refine ⟨"tuple", (by show tyO (H a) = _; rw [ha]; rfl), true, by decide +kernel, iteF ?_⟩
      refine ⟨a, rfl, ys, .inr (SqT.of ha), rfl, ?_⟩
      match ys, hy, ha with
      | [], hy, ha =>
        rw [if_neg (by show ¬ ((0 : Nat) : Int) = 1; decide)]
        exact ⟨a, rfl, [], .inr (SqT.of ha), rfl, iteT (q H (Same.refl H))⟩
      | [x], hy, ha =>
        rw [if_pos (by rfl)]
        have z := q H (Same.refl H)
        cases l with
        | false => exact iteF z
        | true => exact iteT ⟨a, rfl, [x], ha, x, rfl, x, aA, acts, rfl, (hy x (by simp)).1, hA H, z⟩
      | [x, y], hy, ha =>
        rw [if_neg (by show ¬ ((2 : Nat) : Int) = 1; decide)]
        refine ⟨a, rfl, [x, y], .inr (SqT.of ha), rfl, ?_⟩
        rw [if_neg (by show ¬ (!decide (((2 : Nat) : Int) = 2)) = true; decide)]
        have hx := hy x (by simp)
        have hyy := hy y (by simp)
        refine ⟨a, rfl, [x, y], ha, x, rfl, sz (by decide), fun p hp => ?_⟩
        have s1 := My.Same.new (o := .tup [.str "more", .str "less"]) (Same.refl H) hp
        refine ⟨x, p, ["more", "less"], rfl, (hx.same s1).1, SqT.of upd_same, _, rfl, ?_⟩
        cases e1 : hasS ["more", "less"] x with
        | false =>
          have z := q _ s1
          simp only [stepO, stepV, e1, Bool.false_and] at z
          exact iteT z
        | true =>
          refine iteF ⟨a, rfl, [x, y], s1 _ _ ha, y, rfl, y, rfl, hyy.same s1, fun H2 s2 => ⟨_, rfl, ?_⟩⟩
          have s12 := s1.trans s2
          cases e2 : isMarkV y with
          | true =>
            have z := q _ s12
            simp only [stepO, stepV, e1, e2, Bool.true_and, Bool.true_or] at z
            exact iteT z
          | false =>
            refine iteF ?_
            cases g with
            | false =>
              have z := q _ s12
              simp only [stepO, stepV, e1, e2, Bool.true_and, Bool.false_or, Bool.false_and] at z
              exact iteF z
            | true =>
              refine iteT ⟨a, rfl, [x, y], s12 _ _ ha, y, rfl, sz (by decide), fun p2 hp2 => ⟨y, p2, ["goal"], rfl, (hyy.same (My.Same.new' s12 hp2)).1, SqT.of upd_same, ?_⟩⟩
              have z := q _ (My.Same.new' (o := .tup [.str "goal"]) s12 hp2)
              simp only [stepO, stepV, e1, e2, Bool.true_and, Bool.false_or] at z
              exact z
      | x :: y :: u :: r, hy, ha =>
        rw [if_neg (by show ¬ (((r.length + 1 + 1 + 1 : Nat) : Int) = 1); omega)]
        refine ⟨a, rfl, _, .inr (SqT.of ha), rfl, ?_⟩
        rw [if_pos (by show (!decide (((r.length + 1 + 1 + 1 : Nat) : Int) = 2)) = true; simp; omega)]
        exact q H (Same.refl H)
/-- all steps, by their places -/
def okO (g : Bool) (os : List (Option (List V))) (i : Nat) : Bool := match os[i]? with
  | some o => stepO (decide ((i : Int) = (os.length : Int) - 1)) g o
  | none => true
def stepsA (g : Bool) (os : List (Option (List V))) : Bool := ((List.range os.length).map (okO g os)).all id
theorem prd_at {α β : Type} {F : α → β → Prop} {xs : List α} {ys : List β} (h : Paired F xs ys) : ∀ {i : Nat} {x : α}, xs[i]? = some x → ∃ y, ys[i]? = some y ∧ F x y := by
  induction h with
  | nil => intro i x h; simp at h
  | @cons a b l r h _ ih =>
    intro i x e
    cases i with
    | zero => simp at e; subst e; exact ⟨b, rfl, h⟩
    | succ i => simpa using ih (by simpa using e)
def spStsA (K : PySem.W.Frag) : Sp := fun vs H Q _ => ∃ (v : V) (g : Bool), vs = [v, .bl g] ∧ ((RwV K H v false ∧ ∀ H', Same H H' → Q (.bl false) H') ∨
  ∃ (a : Addr) (xs : List V) (os : List (Option (List V))), v = .ref a ∧ Row K H a xs ∧ xs.length ≤ 1000 ∧ Paired (StR H) xs os ∧ ∀ H', Same H H' → Q (.bl (decide (os.length ≤ 4) && stepsA g os)) H')
theorem ok_stsA {f : Addr} {fd : FuncData} (F : Fun K "are_steps" "are_steps" sSts f fd) (B : Bn mg) (Dis_row : Df K mg "is_row" sRow ["value"]) (Gis_row : FnOk P w K mg base CX0 1 Dis_row.f Dis_row.fd ["value"] (spRow K))
    (Dis_step : Df K mg "is_step" sStp ["value", "is_last", "has_goals"]) (Gis_step : FnOk P w K mg base CX0 3 Dis_step.f Dis_step.fd ["value", "is_last", "has_goals"] spStpA) : FnOk P w K mg base CX0 4 f fd ["value", "has_goals"] (spStsA K) := by
  refine F.ok scSts (fun vs H Q E h => ?_) (fun cdv A outer s H vs Q E hr h => ?_)
  · obtain ⟨v, g, rfl, _⟩ := h
    rfl
  · obtain ⟨v, g, rfl, h⟩ := h
    have hr3 := hr
    have hr1 := hr.mono (by decide : 1 ≤ 3)
    refine ⟨_, (pss_cons (ps_if (PW.pt (pw_or (pt_not (pt_val (pc Dis_row Gis_row hr1 (pa_cons (pv 0) pa_nil)))) (pw_or1 (pt_cmpR op_gt (pe_callB call_len_seq (by rfl) B.len (by decide +kernel) (pa_cons (pv 0) pa_nil)) pe_int (nomark _)))))
        (pss_one (ps_ret pe_bl))
        pss_nil)
      (pss_cons (ps_set (i := 2) scSts.nd rfl (Or.inr rfl) (pe_op op_sub (pe_callB call_len_seq (by rfl) B.len (by decide +kernel) (pa_cons (pv 0) pa_nil)) pe_int))
      (pss_one (ps_ret (pe_callB (cr_allB rfl) (by rfl) B.all (by decide +kernel) (pa_cons (pe_lc (own := [("at", 3), ("step", 4)]) (g := gTup K 2 (gCons (gName 3) (gCons (gName 4) gNil))) rfl scSts.nd (pi_enumAny (by rfl) B.enumerate (pa_cons (pv 0) pa_nil)) (blkOk_by (own := [("at", 3), ("step", 4)]) (N := NSts) (sc := defScope sSts) (by decide +kernel)) (fun _ _ _ _ _ => by exact (pg_tup rfl (pgs_cons (pg_name (i := 3) scSts.nd rfl (Or.inl rfl)) (pgs_cons (pg_name (i := 4) scSts.nd rfl (Or.inl rfl)) pgs_nil)))) (fun _ _ _ _ _ => pts_nil) (fun _ _ _ _ _ => (pc Dis_step Gis_step hr3 (pa_cons (pv 4) (pa_cons (pe_cmpR op_eq (pv 3) (pv 2) (nomark _)) (pa_cons (pv 1) pa_nil)))))) pa_nil)))))), ?_⟩
    walk_at "rd"
    rcases h with ⟨hn, q⟩ | ⟨a, xs, os, rfl, ha, hz, hp, q⟩
    · exact ⟨_, false, rfl, hn, fun H1 s1 => ⟨_, rfl, iteT (q H1 s1)⟩⟩
    have len : xs.length = os.length := Paired.length hp
    refine ⟨_, true, rfl, ha.ty, fun H1 s1 => ⟨_, rfl, ?_⟩⟩
    refine iteF ?_
    refine ⟨a, rfl, xs, (ha.same s1).sq, ?_⟩
    rw [len]
    by_cases h4 : (4 : Int) < (os.length : Int)
    · rw [if_pos h4]
      have z := q H1 s1
      rw [decide_eq_false (by omega), Bool.false_and] at z
      exact z
    rw [if_neg h4]
    refine ⟨a, rfl, xs, (ha.same s1).sq, ?_⟩
    rw [len]
    refine ⟨a, rfl, rowLcE (ha.same s1) hz (fun i => .bl (okO g os i)) (fun _ _ => rfl) (fun i x H' R hx sm r => ?_) (fun D H2 hD s2 hl => ?_)⟩
    · obtain ⟨o, ho, hxo⟩ := prd_at hp hx
      have e : okO g os i = stepO (decide ((i : Int) = (os.length : Int) - 1)) g o := by
        unfold okO
        rw [ho]
      refine ⟨_, rfl, _, rfl, _, rfl, rfl, _, rfl, x, o, decide ((i : Int) = (os.length : Int) - 1), g, ?_, (hxo.same s1).same sm, fun H3 s3 => ?_⟩
      · have e2 : decide (V.int (i : Nat) = V.int ((os.length : Int) - 1)) = decide ((i : Int) = (os.length : Int) - 1) := by
          by_cases h : (i : Int) = (os.length : Int) - 1
          · rw [decide_eq_true h, h]; simp
          · rw [decide_eq_false h]
            exact decide_eq_false fun z => h (V.int.inj z)
        rw [← e2]
        rfl
      · have z := r H3 s3
        rw [e] at z
        exact z
    · refine ⟨D, rfl, (List.range os.length).map (okO g os), by rw [hl, len, List.map_map]; rfl, ?_⟩
      have z := q H2 (s1.trans s2)
      rw [decide_eq_true (by omega), Bool.true_and] at z
      exact z
def keyMark : Key → Bool
  | .inr x => isMark x
  | .inl _ => false
def cntV (e : Key × V) : Bool := keyMark e.1 && numOk e.2 1 3
def FlatV : V → Prop
  | .non => True
  | .bl _ => True
  | .int _ => True
  | .str x => x.length ≤ 1000
  | _ => False
theorem FlatV.ty {H : Hp} : ∀ {v : V}, FlatV v → Ty H v
  | .non, _ => ⟨rfl, fun y e => by cases e⟩
  | .bl b, _ => ⟨rfl, fun y e => by cases e⟩
  | .int b, _ => ⟨rfl, fun y e => by cases e⟩
  | .str x, h => ⟨rfl, fun y e => by cases e; exact h⟩
  | .ref _, h => h.elim
theorem kV_flat {k : Key} (h : ∀ x, k = .inr x → x.length ≤ 1000) : FlatV (kV k) := by
  cases k with
  | inl i => exact True.intro
  | inr x => exact h x rfl
theorem isMark_kV {k : Key} : isMarkV (kV k) = keyMark k := by
  cases k <;> rfl
theorem valV_at : ∀ {kvs : List (Key × V)} {i : Nat} {e : Key × V}, (kvs.map (·.1)).Nodup → kvs[i]? = some e → valV kvs e.1 = some e.2
  | [], i, e, _, h => by simp at h
  | k :: ks, 0, e, _, h => by
    obtain rfl : k = e := Option.some.inj h
    simp [valV]
  | k :: ks, i + 1, e, nd, h => by
    rw [List.map_cons, List.nodup_cons] at nd
    have h1 : ks[i]? = some e := by simpa using h
    have ne : ¬ k.1 = e.1 := fun z => nd.1 (by rw [z]; exact List.mem_map_of_mem (List.mem_of_getElem? h1))
    have ih := valV_at nd.2 h1
    unfold valV at ih ⊢
    rw [List.find?_cons_of_neg (by simpa using ne)]
    exact ih
theorem rd_lcKN {td : TE} {g : TG} {tt : TT} {te : TE} {vs : List Nat} {σ : L2.St} {H : Hp} {Q : VK} : tLc (iKeysN td) g tt te vs σ H Q = td σ H fun x H1 => ∃ d o, x = .ref d ∧ ((∃ kvs : List (Key × V), H1 d = some (.frz o (.dK kvs)) ∧ lcB (Itk d o kvs) g tt te vs σ H1 Q) ∨ ∃ n : Int, H1 d = some (.frz o (NnD d n)) ∧ lcB (ItN d o n) g tt te vs σ H1 Q) := rfl
/-- asks and pays: any value -/
def spCntA : Sp := fun vs H Q _ => (vs = [.non] ∧ Q (.bl true) H) ∨ (∃ (v : V) (t : String), vs = [v] ∧ tyS H v = some t ∧ t ≠ "dict" ∧ v ≠ .non ∧ Q (.bl false) H) ∨
  (∃ (d : Addr) (kvs : List (Key × V)), vs = [.ref d] ∧ H d = some (.dK kvs) ∧ kvs.length ≤ 1000 ∧ (kvs.map (·.1)).Nodup ∧ (∀ e ∈ kvs, FlatV (kV e.1) ∧ FlatV e.2) ∧ ∀ H', Same H H' → Q (.bl (decide (kvs.length ≤ 3) && kvs.all cntV)) H') ∨
  ∃ (d : Addr) (n : Int), vs = [.ref d] ∧ H d = some (NnD d n) ∧ ∀ H', Same H H' → Q (.bl false) H'
theorem kDc : ∀ t ∈ ["NoneType", "bool", "int", "str", "list", "tuple", "dict"], kitB t "dict" = some (t == "dict") := by decide +kernel
theorem ok_cntA {f : Addr} {fd : FuncData} {tkM : Tok} (F : Fun K "are_counts" "are_counts" sCnt f fd) (B : Bn mg) (gM : mg "MOST_MARKS" = some (.int 3 tkM)) (Dis_mark : Df K mg "is_mark" sMrk ["value"]) (Gis_mark : FnOk P w K mg base CX0 2 Dis_mark.f Dis_mark.fd ["value"] spMrkA)
    (Dis_number : Df K mg "is_number" sNmb ["value", "least", "most"]) (Gis_number : FnOk P w K mg base CX0 1 Dis_number.f Dis_number.fd ["value", "least", "most"] spNmbA) : FnOk P w K mg base CX0 3 f fd ["value"] spCntA := by
  refine F.ok scCnt (fun vs H Q E h => ?_) (fun cdv A outer s H vs Q E hr h => ?_)
  · rcases h with ⟨rfl, _⟩ | ⟨v, t, rfl, _⟩ | ⟨d, ks, rfl, _⟩ | ⟨d, n, rfl, _⟩ <;> rfl
  · have hr2 := hr
    have hr1 := hr.mono (by decide : 1 ≤ 2)
    refine ⟨_, (pss_cons (ps_if (pt_cmpR op_isN (pv 0) pe_non (nomark _))
        (pss_one (ps_ret pe_bl))
        pss_nil)
      (pss_cons (ps_if (PW.pt (pw_or (pt_not (pt_val (pe_callB ((call_isTy (T := "dict")).or call_isDn) (by rfl) B.isinstance (by decide +kernel) (pa_cons (pv 0) (pa_cons (pe_ty (T := "dict") B.dict (by decide +kernel)) pa_nil))))) (pw_or1 (pt_cmpR op_gt (pe_callB (call_lenD.or call_lenDn) (by rfl) B.len (by decide +kernel) (pa_cons (pv 0) pa_nil)) (pe_glob (v := .int 3) rfl gM ⟨_, rfl⟩) (nomark _)))))
        (pss_one (ps_ret pe_bl))
        pss_nil)
      (pss_one (ps_ret (pe_lock (pe_callB (cr_allB rfl) (by rfl) B.all (by decide +kernel) (pa_cons (pe_lc (own := [("mark", 1)]) (g := gName 1) rfl scCnt.nd (pi_keysN (pv 0)) (blkOk_by (own := [("mark", 1)]) (N := NCnt) (sc := defScope sCnt) (by decide +kernel)) (fun _ _ _ _ _ => pg_name (i := 1) scCnt.nd rfl (Or.inl rfl)) (fun _ _ _ _ _ => pts_nil) (fun _ _ _ _ _ => (pe_and (pc Dis_mark Gis_mark hr2 (pa_cons (pv 1) pa_nil)) (pe_one (pc Dis_number Gis_number hr1 (pa_cons (pe_dget (hu_of hr) (pv 0) (pv 1) (fun _ _ => rfl)) (pa_cons pe_int (pa_cons pe_int pa_nil)))))))) pa_nil))))))), ?_⟩
    rcases h with ⟨rfl, q⟩ | ⟨v, t, rfl, ht, nt, nn, q⟩ | ⟨d, kvs, rfl, hd, hz, nd, hx, q⟩ | ⟨d, n, rfl, hd, q⟩
    · walk_at "rd"
      exact q
    · walk_at "rd"
      rw [if_neg nn]
      refine .inl ⟨t, ht, false, ?_, iteT q⟩
      rw [kDc t (ty_names ht)]
      simp [nt]
    · walk_at "rd"
      refine .inl ⟨"dict", (by show tyO (H d) = _; rw [hd]; rfl), true, by decide +kernel, iteF (.inl ⟨_, hd, ?_⟩)⟩
      by_cases h3 : (3 : Int) < (kvs.length : Int)
      · rw [if_pos h3]
        have z := q H (Same.refl H)
        rw [decide_eq_false (by omega), Bool.false_and] at z
        exact z
      rw [if_neg h3]
      refine ⟨d, _, hd, trivial, fun od => ?_⟩
      rw [rd_lcKN]
      refine ⟨_, rfl, d, od, rfl, .inl ⟨_, upd_same, ?_⟩⟩
      refine lcB_imap walk_keysAt (fun H' s => s _ _ upd_same) (by rw [List.length_map]; exact hz) (fun i => .bl (atF kvs cntV i)) (fun _ => rfl) (fun i x H' R hxi sm r => ?_) (fun D H2 hD s2 hl => ?_)
      · rw [List.getElem?_map] at hxi
        obtain ⟨e, he, rfl⟩ := Option.map_eq_some_iff.mp hxi
        obtain ⟨f1, f2⟩ := hx e (List.mem_of_getElem? he)
        refine ⟨_, rfl, _, rfl, f1.ty, fun H3 s3 => ⟨_, rfl, ?_⟩⟩
        have z := r H3 s3
        rw [atF_at he] at z
        have z2 : R (.bl (keyMark e.1 && numOk e.2 1 3)) H3 := z
        rw [isMark_kV]
        cases e1 : keyMark e.1 with
        | false =>
          rw [e1, Bool.false_and] at z2
          exact iteF z2
        | true =>
          rw [e1, Bool.true_and] at z2
          exact iteT ⟨_, rfl, _, rfl, d, e.2, rfl, .inl ⟨_, e.1, .inr ⟨od, s3 _ _ (sm _ _ upd_same)⟩, rfl, (valV_at nd he).symm⟩, e.2, 1, 3, rfl, f2.ty.1, z2⟩
      · refine ⟨D, rfl, (List.range kvs.length).map (atF kvs cntV), by rw [hl, List.length_map, List.map_map]; rfl, s2 _ _ upd_same, ?_⟩
        have z := q _ (same_unlock hd s2)
        rw [decide_eq_true (by omega), Bool.true_and] at z
        rw [all_range kvs cntV]
        exact z
    · walk_at "rd"
      refine .inr ⟨n, hd, .inr ⟨n, hd, d, _, hd, trivial, fun od => ?_⟩⟩
      rw [rd_lcKN]
      refine ⟨_, rfl, d, od, rfl, .inr ⟨n, upd_same, ?_⟩⟩
      refine lcB_map walk_none (fun H' s => s _ _ upd_same) (by decide) (fun v => .bl (isMarkV v)) (fun _ => rfl) (fun x H' R hxm sm r => ?_) (fun D H2 hD s2 hl => ?_)
      · rw [List.mem_singleton] at hxm
        subst hxm
        exact ⟨_, rfl, .non, rfl, ⟨rfl, fun y e => by cases e⟩, fun H3 s3 => ⟨_, rfl, iteF (r H3 s3)⟩⟩
      · exact ⟨D, rfl, [false], hl, s2 _ _ upd_same, q _ (same_unlock hd s2)⟩
end
end My

set_option Elab.async false
set_option linter.all false
set_option maxRecDepth 100000
set_option maxHeartbeats 4000000
namespace My
open PySem PySem.Spec PyProof.Rows L2
local macro_rules | `(tactic| walk_at "rd") => `(tactic| simp only [rd_seq, rd_next, rd_brk, rd_cont, rd_asg, rd_gname, rd_var, rd_c, rd_op, rd_un, rd_rI0, rd_rI, rd_rU, rd_test, rd_B, rd_and, rd_or, rd_not, rd_andV, rd_orV, rd_notV, rd_ifx, rd_ifs, rd_drop, rd_ret, rd_nil, rd_cons, rd_cb, rd_tup, rd_lst, rd_call, rd_bm, rd_app, rd_ixLst, rd_ixSq, rd_lenL, rd_lenSq, rd_setLst, rd_sub, rd_neNil, rd_isStr, rd_dg, rd_dp, rd_mk, rd_sl, rd_noP, rd_part, rd_slL, rd_cat, rd_lcL, rd_lcE, rd_lcA, rd_lcEA, rd_isTy, rd_inRow, rd_bm0, rd_rz, rd_lockE, rd_lcK, rd_dgetD, rd_ixTp, rd_lenUn,  L2.valV_put, rd_fldS, rd_eq, rd_ne, rd_fldE, rd_allB, rd_isBl, rd_inS, rd_chain, rd_chain', L2.wipe, Int.reduceToNat, Int.reduceLE, Int.reduceLT, Nat.reduceLT, Nat.reduceLeDiff, Int.reduceNeg, Int.toNat_natCast, Int.reduceAdd, L2.start, and_assoc, exists_and_left, List.map_cons, List.map_nil, List.length_cons, List.length_nil, List.cons_append, List.nil_append, List.append_nil, List.replicate_succ, List.replicate_zero, List.replicate, List.set_cons_zero, List.set_cons_succ, List.getElem?_cons_zero, List.getElem?_cons_succ, Option.some.injEq, exists_eq_left', exists_eq_left, exists_eq, V.int.injEq, V.ref.injEq, V.str.injEq, V.bl.injEq, HO.lst.injEq, HO.tup.injEq, ex_bl, List.cons.injEq, and_true, true_and, Nat.reduceAdd, Nat.reduceSub, reduceCtorEq, false_and, or_false, exists_false, false_or, decide_eq_true_eq, if_true, if_false, Bool.false_eq_true, Bool.not_true, Bool.not_false, upd_same])
local macro_rules | `(tactic| walk_at "rdh") => `(tactic| simp only [rd_seq, rd_next, rd_brk, rd_cont, rd_asg, rd_gname, rd_var, rd_c, rd_op, rd_un, rd_rI0, rd_rI, rd_rU, rd_test, rd_B, rd_and, rd_or, rd_not, rd_andV, rd_orV, rd_notV, rd_ifx, rd_ifs, rd_drop, rd_ret, rd_nil, rd_cons, rd_cb, rd_tup, rd_lst, rd_call, rd_bm, rd_app, rd_ixLst, rd_ixSq, rd_lenL, rd_lenSq, rd_setLst, rd_sub, rd_neNil, rd_isStr, rd_dg, rd_dp, rd_mk, rd_sl, rd_noP, rd_part, rd_slL, rd_cat, rd_lcL, rd_lcE, rd_lcA, rd_lcEA, rd_isTy, rd_inRow, rd_bm0, rd_rz, rd_lockE, rd_lcK, rd_dgetD, rd_ixTp, rd_lenUn,  L2.valV_put, rd_fldS, rd_eq, rd_ne, rd_fldE, rd_allB, rd_isBl, rd_inS, rd_chain, rd_chain', L2.wipe, Int.reduceToNat, Int.reduceLE, Int.reduceLT, Nat.reduceLT, Nat.reduceLeDiff, Int.reduceNeg, Int.toNat_natCast, Int.reduceAdd, L2.start, and_assoc, exists_and_left, List.map_cons, List.map_nil, List.length_cons, List.length_nil, List.cons_append, List.nil_append, List.append_nil, List.replicate_succ, List.replicate_zero, List.replicate, List.set_cons_zero, List.set_cons_succ, List.getElem?_cons_zero, List.getElem?_cons_succ, Option.some.injEq, exists_eq_left', exists_eq_left, exists_eq, V.int.injEq, V.ref.injEq, V.str.injEq, V.bl.injEq, HO.lst.injEq, HO.tup.injEq, ex_bl, List.cons.injEq, and_true, true_and, Nat.reduceAdd, Nat.reduceSub, reduceCtorEq, false_and, or_false, exists_false, false_or, decide_eq_true_eq, if_true, if_false, Bool.false_eq_true, Bool.not_true, Bool.not_false, upd_same, *])

/-! ### what the validators tell, as relations -/
def WdsR (K : PySem.W.Frag) (H : Hp) (m : Int) (v : V) (b : Bool) : Prop := (RwV K H v false ∧ b = false) ∨ ∃ (a : Addr) (xs : List V), v = .ref a ∧ Row K H a xs ∧ xs.length ≤ 1000 ∧ (∀ x ∈ xs, Ty H x) ∧ b = wdsOk m xs
theorem WdsR.same {K : PySem.W.Frag} {H H' : Hp} {m : Int} {v : V} {b : Bool} (h : WdsR K H m v b) (s : Same H H') : WdsR K H' m v b := by
  rcases h with ⟨h1, h2⟩ | ⟨a, xs, h1, h2, h3, h4, h5⟩
  · exact .inl ⟨h1.same s, h2⟩
  · exact .inr ⟨a, xs, h1, h2.same s, h3, fun x hx => (h4 x hx).same s, h5⟩
theorem wds_of {K : PySem.W.Frag} {H : Hp} {m : Int} {v : V} {b : Bool} {Q : VK} {E : XK} (h : WdsR K H m v b) (q : ∀ H', Same H H' → Q (.bl b) H') : spWdsA K [v, .int m] H Q E := by
  rcases h with ⟨h1, rfl⟩ | ⟨a, xs, h1, h2, h3, h4, rfl⟩
  · exact ⟨v, m, rfl, .inl ⟨h1, q⟩⟩
  · exact ⟨v, m, rfl, .inr ⟨a, xs, h1, h2, h3, h4, q⟩⟩
def CntR (H : Hp) (v : V) (b : Bool) : Prop := (v = .non ∧ b = true) ∨ (∃ t : String, tyS H v = some t ∧ t ≠ "dict" ∧ v ≠ .non ∧ b = false) ∨ (∃ (d : Addr) (kvs : List (Key × V)), v = .ref d ∧ H d = some (.dK kvs) ∧ kvs.length ≤ 1000 ∧ (kvs.map (·.1)).Nodup ∧ (∀ e ∈ kvs, FlatV (kV e.1) ∧ FlatV e.2) ∧ b = (decide (kvs.length ≤ 3) && kvs.all cntV)) ∨ ∃ (d : Addr) (n : Int), v = .ref d ∧ H d = some (NnD d n) ∧ b = false
theorem CntR.same {H H' : Hp} {v : V} {b : Bool} (h : CntR H v b) (s : Same H H') : CntR H' v b := by
  rcases h with h | ⟨t, h1, h2⟩ | ⟨d, kvs, h1, h2, h3⟩ | ⟨d, n, h1, h2, h3⟩
  · exact .inl h
  · exact .inr (.inl ⟨t, tyS_keep s h1, h2⟩)
  · exact .inr (.inr (.inl ⟨d, kvs, h1, s _ _ h2, h3⟩))
  · exact .inr (.inr (.inr ⟨d, n, h1, s _ _ h2, h3⟩))
theorem cnt_of {H : Hp} {v : V} {b : Bool} {Q : VK} {E : XK} (h : CntR H v b) (q : ∀ H', Same H H' → Q (.bl b) H') : spCntA [v] H Q E := by
  rcases h with ⟨rfl, rfl⟩ | ⟨t, h1, h2, h3, rfl⟩ | ⟨d, kvs, rfl, h2, h3, h4, h5, rfl⟩ | ⟨d, n, rfl, h2, rfl⟩
  · exact .inl ⟨rfl, q H (Same.refl H)⟩
  · exact .inr (.inl ⟨v, t, rfl, h1, h2, h3, q H (Same.refl H)⟩)
  · exact .inr (.inr (.inl ⟨d, kvs, rfl, h2, h3, h4, h5, q⟩))
  · exact .inr (.inr (.inr ⟨d, n, rfl, h2, q⟩))
def StsR (K : PySem.W.Frag) (H : Hp) (g : Bool) (v : V) (b : Bool) : Prop := (RwV K H v false ∧ b = false) ∨ ∃ (a : Addr) (xs : List V) (os : List (Option (List V))), v = .ref a ∧ Row K H a xs ∧ xs.length ≤ 1000 ∧ Paired (StR H) xs os ∧ b = (decide (os.length ≤ 4) && stepsA g os)
theorem StsR.same {K : PySem.W.Frag} {H H' : Hp} {g : Bool} {v : V} {b : Bool} (h : StsR K H g v b) (s : Same H H') : StsR K H' g v b := by
  rcases h with ⟨h1, h2⟩ | ⟨a, xs, os, h1, h2, h3, h4, h5⟩
  · exact .inl ⟨h1.same s, h2⟩
  · exact .inr ⟨a, xs, os, h1, h2.same s, h3, Paired.mono (fun _ _ z => z.same s) h4, h5⟩
theorem sts_of {K : PySem.W.Frag} {H : Hp} {g : Bool} {v : V} {b : Bool} {Q : VK} {E : XK} (h : StsR K H g v b) (q : ∀ H', Same H H' → Q (.bl b) H') : spStsA K [v, .bl g] H Q E := by
  rcases h with ⟨h1, rfl⟩ | ⟨a, xs, os, h1, h2, h3, h4, rfl⟩
  · exact ⟨v, g, rfl, .inl ⟨h1, q⟩⟩
  · exact ⟨v, g, rfl, .inr ⟨a, xs, os, h1, h2, h3, h4, q⟩⟩
/-- goals: none, if they are wrong; else how many -/
def GoR (K : PySem.W.Frag) (H : Hp) (v : V) (o : Option Nat) : Prop := (WdsR K H 2 v false ∧ o = none) ∨ ∃ (a : Addr) (ws : List Str), v = .ref a ∧ Row K H a (ws.map V.str) ∧ WdsR K H 2 v true ∧ o = if ws.contains "goal" then none else some ws.length
theorem GoR.same {K : PySem.W.Frag} {H H' : Hp} {v : V} {o : Option Nat} (h : GoR K H v o) (s : Same H H') : GoR K H' v o := by
  rcases h with ⟨h1, h2⟩ | ⟨a, ws, h1, h2, h3, h4⟩
  · exact .inl ⟨h1.same s, h2⟩
  · exact .inr ⟨a, ws, h1, h2.same s, h3.same s, h4⟩
abbrev whs : List Str := ["any", "own", "other"]
/-- the first wrong part -/
def DBad (K : PySem.W.Frag) (H : Hp) (w o an wh aV pV ca go st : V) (m : Str) : Prop :=
  Ty H w ∧ ((isWord w = false ∧ m = "word") ∨ (isWord w = true ∧ (tyS H o).isSome = true ∧ ((isBl o = false ∧ m = "opens") ∨ (isBl o = true ∧
  ((WdsR K H 6 an false ∧ m = "answers") ∨ (WdsR K H 6 an true ∧ Ty H wh ∧ ((hasS whs wh = false ∧ m = "whose") ∨ (hasS whs wh = true ∧
  ((CntR H aV false ∧ m = "asks") ∨ (CntR H aV true ∧ ((CntR H pV false ∧ m = "pays") ∨ (CntR H pV true ∧ (tyS H ca).isSome = true ∧ ((isBl ca = false ∧ m = "card") ∨ (isBl ca = true ∧
  ((GoR K H go none ∧ m = "goals") ∨ ∃ n, GoR K H go (some n) ∧ StsR K H (decide (0 < n)) st false ∧ m = "steps")))))))))))))))
def RzD (CB : Addr) (E : XK) (H : Hp) (m : Str) : Prop := ∀ (dd : Addr) (H' : Hp), H dd = none → Same H H' → H' dd = some (.xd [("part", .str m)]) → E (.ref CB) (some dd) H'
def spDIx (K : PySem.W.Frag) (C CB : Addr) : Sp := fun vs H Q E => ∃ (x dx : Addr) (w o an wh aV pV ca go st : V) (m : Str), vs = [.ref x, w, o, an, wh, aV, pV, ca, go, st] ∧ H x = some (.ins C dx []) ∧ DBad K H w o an wh aV pV ca go st m ∧ RzD CB E H m
section
variable {P : Program} {w : World} {K : PySem.W.Frag} {mg : Str → Option Value} {base : Heap}
theorem tyS_some {H H' : Hp} {v : V} (h : (tyS H v).isSome = true) (s : Same H H') : (tyS H' v).isSome = true := by
  obtain ⟨t, ht⟩ := Option.isSome_iff_exists.mp h
  rw [tyS_keep s ht]
  rfl
theorem ok_dix {f C : Addr} {fd : FuncData} {kws : List (Str × V)} (F : FunD K "__init__" "Deed.__init__" (defArgs sDI) (defBody sDI) (defScope sDI) [] kws f fd) (B : Bn mg) (TB : Xc K mg "BadDeed" "part" "BadDeed.__init__" sBD)
    (Dis_word : Df K mg "is_word" sWrd ["value"]) (Gis_word : FnOk P w K mg base CX0 1 Dis_word.f Dis_word.fd ["value"] spWrd) (Dis_one_of : Df K mg "is_one_of" sOne ["value", "words"]) (Gis_one_of : FnOk P w K mg base CX0 1 Dis_one_of.f Dis_one_of.fd ["value", "words"] (spOne K))
    (Dare_words : Df K mg "are_words" sWds ["value", "most"]) (Gare_words : FnOk P w K mg base CX0 2 Dare_words.f Dare_words.fd ["value", "most"] (spWdsA K)) (Dare_counts : Df K mg "are_counts" sCnt ["value"]) (Gare_counts : FnOk P w K mg base CX0 3 Dare_counts.f Dare_counts.fd ["value"] spCntA)
    (Dare_steps : Df K mg "are_steps" sSts ["value", "has_goals"]) (Gare_steps : FnOk P w K mg base CX0 4 Dare_steps.f Dare_steps.fd ["value", "has_goals"] (spStsA K)) :
    FnOk P w K mg base (L2.CX P w) 5 f fd ["self", "word", "opens", "answers", "whose", "asks", "pays", "card", "goals", "steps"] (spDIx K C TB.C) := by
  refine F.ok scDI (fun vs H Q E h => ?_) (fun cdv A outer s H vs Q E hr h => ?_)
  · obtain ⟨x, dx, wd, o, an, wh, aV, pV, ca, go, st, m, rfl, _⟩ := h
    rfl
  obtain ⟨x, dx, wd, o, an, wh, aV, pV, ca, go, st, m, rfl, hx, ⟨tw, hb⟩, q⟩ := h
  have hr4 := hr
  have hr3 := hr.mono (by decide : 3 ≤ 4)
  have hr2 := hr.mono (by decide : 2 ≤ 4)
  have hr1 := hr.mono (by decide : 1 ≤ 4)
  have hrB := hr2
  have GB := ok_bd (P := P) (w := w) (base := base) TB
  refine ⟨_, (pss_cons (ps_if (pt_not (pt_val (pc Dis_word Gis_word hr1 (pa_cons (pv 1) pa_nil))))
        (pss_one (ps_rz (W := fun cls d _ H => E cls d H) TB (by exact GB) rfl hrB (takes_of rfl rfl rfl rfl)))
        pss_nil)
      (pss_cons (ps_if (pt_not (pt_val (pe_callB call_isBl (by rfl) B.isinstance (by decide +kernel) (pa_cons (pv 2) (pa_cons (pe_tyBool B.bool) pa_nil)))))
        (pss_one (ps_rz (W := fun cls d _ H => E cls d H) TB (by exact GB) rfl hrB (takes_of rfl rfl rfl rfl)))
        pss_nil)
      (pss_cons (ps_if (pt_not (pt_val (pc Dare_words Gare_words hr2 (pa_cons (pv 3) (pa_cons pe_int pa_nil)))))
        (pss_one (ps_rz (W := fun cls d _ H => E cls d H) TB (by exact GB) rfl hrB (takes_of rfl rfl rfl rfl)))
        pss_nil)
      (pss_cons (ps_if (pt_not (pt_val (pc Dis_one_of Gis_one_of hr1 (pa_cons (pv 4) (pa_cons (pe_tup (pa_cons pe_str (pa_cons pe_str (pa_cons pe_str pa_nil)))) pa_nil)))))
        (pss_one (ps_rz (W := fun cls d _ H => E cls d H) TB (by exact GB) rfl hrB (takes_of rfl rfl rfl rfl)))
        pss_nil)
      (pss_cons (ps_if (pt_not (pt_val (pc Dare_counts Gare_counts hr3 (pa_cons (pv 5) pa_nil))))
        (pss_one (ps_rz (W := fun cls d _ H => E cls d H) TB (by exact GB) rfl hrB (takes_of rfl rfl rfl rfl)))
        pss_nil)
      (pss_cons (ps_if (pt_not (pt_val (pc Dare_counts Gare_counts hr3 (pa_cons (pv 6) pa_nil))))
        (pss_one (ps_rz (W := fun cls d _ H => E cls d H) TB (by exact GB) rfl hrB (takes_of rfl rfl rfl rfl)))
        pss_nil)
      (pss_cons (ps_if (pt_not (pt_val (pe_callB call_isBl (by rfl) B.isinstance (by decide +kernel) (pa_cons (pv 7) (pa_cons (pe_tyBool B.bool) pa_nil)))))
        (pss_one (ps_rz (W := fun cls d _ H => E cls d H) TB (by exact GB) rfl hrB (takes_of rfl rfl rfl rfl)))
        pss_nil)
      (pss_cons (ps_if (PW.pt (pw_or (pt_not (pt_val (pc Dare_words Gare_words hr2 (pa_cons (pv 8) (pa_cons pe_int pa_nil))))) (pw_or1 (pt_cmpR op_inRow pe_str (pv 8) (by rfl)))))
        (pss_one (ps_rz (W := fun cls d _ H => E cls d H) TB (by exact GB) rfl hrB (takes_of rfl rfl rfl rfl)))
        pss_nil)
      (pss_cons (ps_if (pt_not (pt_val (pc Dare_steps Gare_steps hr4 (pa_cons (pv 9) (pa_cons (pe_cmpR op_gt (pe_callB call_len_seq (by rfl) B.len (by decide +kernel) (pa_cons (pv 8) pa_nil)) pe_int (nomark _)) pa_nil)))))
        (pss_one (ps_rz (W := fun cls d _ H => E cls d H) TB (by exact GB) rfl hrB (takes_of rfl rfl rfl rfl)))
        pss_nil)
      (pss_cons (ps_fld (pv 0) (pv 1) rfl)
      (pss_cons (ps_fld (pv 0) (pv 2) rfl)
      (pss_cons (ps_fld (pv 0) (pv 4) rfl)
      (pss_cons (ps_fld (pv 0) (pv 7) rfl)
      (pss_cons (ps_fld (pv 0) ((pe_callTy call_tuple_of (by rfl) B.tuple (by decide +kernel) (pa_cons (pe_callB cr_sortTx (by rfl) B.sorted (by decide +kernel) (pa_cons (pv 3) pa_nil)) pa_nil)).imp tupS_imp) rfl)
      (pss_cons (ps_fld (pv 0) ((pe_ifExp (pt_cmpR op_isN (pv 5) pe_non (nomark _)) (pe_tupF pa_nil) (pe_callTy call_tupF (by rfl) B.tuple (by decide +kernel) (pa_cons (pe_callB (cr_sortedItK rfl) (by rfl) B.sorted (by decide +kernel) (pa_cons (pe_bm0 PySem.F.plainAttrs_dict PySem.F.slot_dict_items PySem.F.type_dict_items mt_itemsK (pv 5)) pa_nil)) pa_nil))).imp ask_imp) rfl)
      (pss_cons (ps_fld (pv 0) ((pe_ifExp (pt_cmpR op_isN (pv 6) pe_non (nomark _)) (pe_tupF pa_nil) (pe_callTy call_tupF (by rfl) B.tuple (by decide +kernel) (pa_cons (pe_callB (cr_sortedItK rfl) (by rfl) B.sorted (by decide +kernel) (pa_cons (pe_bm0 PySem.F.plainAttrs_dict PySem.F.slot_dict_items PySem.F.type_dict_items mt_itemsK (pv 6)) pa_nil)) pa_nil))).imp ask_imp) rfl)
      (pss_cons (ps_fld (pv 0) ((pe_callTy call_tuple_of (by rfl) B.tuple (by decide +kernel) (pa_cons (pe_callB cr_sortTx (by rfl) B.sorted (by decide +kernel) (pa_cons (pv 8) pa_nil)) pa_nil)).imp tupS_imp) rfl)
      (pss_one (ps_fld (pv 0) ((pe_callTy call_tuple_of (by rfl) B.tuple (by decide +kernel) (pa_cons (pv 9) pa_nil)).imp tupO_imp) rfl))))))))))))))))))), ?_⟩
  walk_at "rd"
  refine ⟨_, rfl, tw.1, tw.2, fun H1 s1 => ⟨_, rfl, ?_⟩⟩
  have rz : ∀ {Hn : Hp} {n : Str}, Same H Hn → RzD TB.C E H n → ∀ (d : Addr) (H' : Hp), Hn d = none → Same Hn H' → H' d = some (.xd [("part", V.str n)]) → E (.ref TB.C) (some d) H' := fun s r d H' hd sd hx => r d H' (s.free hd) (s.trans sd) hx
  rcases hb with ⟨e, rfl⟩ | ⟨e, to, hb⟩
  · rw [e]
    exact iteT (rz s1 q)
  rw [e]
  refine iteF ⟨tyS_some to s1, ?_⟩
  rcases hb with ⟨e, rfl⟩ | ⟨e, hb⟩
  · rw [e]
    exact iteT (rz s1 q)
  rw [e]
  refine iteF ?_
  rcases hb with ⟨ha, rfl⟩ | ⟨ha, twh, hb⟩
  · exact wds_of (ha.same s1) fun H2 s2 => ⟨_, rfl, iteT (rz (Same.trans s1 s2) q)⟩
  refine wds_of (ha.same s1) fun H2 s2 => ⟨_, rfl, iteF ⟨sz (by decide), fun p1 hp1 => ?_⟩⟩
  have s3 := My.Same.new' (o := .tup [.str "any", .str "own", .str "other"]) (Same.trans s1 s2) hp1
  refine ⟨wh, p1, ["any", "own", "other"], rfl, (twh.same s3).1, SqT.of upd_same, _, rfl, ?_⟩
  rcases hb with ⟨e, rfl⟩ | ⟨e, hb⟩
  · rw [e]
    exact iteT (rz s3 q)
  rw [e]
  refine iteF ?_
  rcases hb with ⟨hk, rfl⟩ | ⟨hk, hb⟩
  · exact cnt_of (hk.same s3) fun H4 s4 => ⟨_, rfl, iteT (rz (Same.trans s3 s4) q)⟩
  refine cnt_of (hk.same s3) fun H4 s4 => ⟨_, rfl, iteF ?_⟩
  have s34 := Same.trans s3 s4
  rcases hb with ⟨hp, rfl⟩ | ⟨hp, tc, hb⟩
  · exact cnt_of (hp.same s34) fun H5 s5 => ⟨_, rfl, iteT (rz (Same.trans s34 s5) q)⟩
  refine cnt_of (hp.same s34) fun H5 s5 => ⟨_, rfl, iteF ?_⟩
  have s35 := Same.trans s34 s5
  refine ⟨tyS_some tc s35, ?_⟩
  rcases hb with ⟨e, rfl⟩ | ⟨e, hb⟩
  · rw [e]
    exact iteT (rz s35 q)
  rw [e]
  refine iteF ?_
  rcases hb with ⟨hg, rfl⟩ | ⟨n, hg, hs, rfl⟩
  · rcases hg with ⟨hg, _⟩ | ⟨a, ws, rfl, ha, hw, e⟩
    · exact wds_of (hg.same s35) fun H6 s6 => ⟨_, rfl, iteT (rz (Same.trans s35 s6) q)⟩
    · refine wds_of (hw.same s35) fun H6 s6 => ⟨_, rfl, iteF ?_⟩
      have s36 := Same.trans s35 s6
      have ec : ws.contains "goal" = true := by
        cases z : ws.contains "goal" with
        | true => rfl
        | false => rw [z] at e; cases e
      refine ⟨a, rfl, ws, ha.same s36, ?_⟩
      rw [ec]
      exact iteT (rz s36 q)
  rcases hg with ⟨_, e⟩ | ⟨a, ws, rfl, ha, hw, e⟩
  · cases e
  refine wds_of (hw.same s35) fun H6 s6 => ⟨_, rfl, iteF ?_⟩
  have s36 := Same.trans s35 s6
  have ec : ws.contains "goal" = false := by
    cases z : ws.contains "goal" with
    | true => rw [z] at e; cases e
    | false => rfl
  rw [ec] at e
  obtain rfl : n = ws.length := Option.some.inj e
  refine ⟨a, rfl, ws, ha.same s36, ?_⟩
  rw [ec]
  refine iteF ⟨a, rfl, ws.map V.str, (ha.same s36).sq, ?_⟩
  have eg : decide ((0 : Int) < ((ws.map V.str).length : Int)) = decide (0 < ws.length) := by
    rw [List.length_map]
    by_cases h : 0 < ws.length
    · rw [decide_eq_true h]; exact decide_eq_true (by omega)
    · rw [decide_eq_false h]; exact decide_eq_false (by omega)
  rw [eg]
  exact sts_of (hs.same s36) fun H7 s7 => ⟨_, rfl, iteT (rz (Same.trans s36 s7) q)⟩
end
end My

set_option Elab.async false
set_option linter.all false
set_option maxRecDepth 100000
set_option maxHeartbeats 2000000
namespace My
open PySem PySem.Spec PyProof.Rows L2
theorem vals_get : ∀ {xs : List V} {us : List Value}, xs.length = us.length → (∀ (i : Nat) (x : V) (u : Value), xs[i]? = some x → us[i]? = some u → RelV x u) → Vals xs us
  | [], [], _, _ => .nil
  | [], _ :: _, h, _ => by simp at h
  | _ :: _, [], h, _ => by simp at h
  | x :: xs, u :: us, h, k => .cons (k 0 x u rfl rfl) (vals_get (by simpa using h) fun i y v e1 e2 => k (i + 1) y v (by simpa using e1) (by simpa using e2))
/-- the signs of a text -/
def signV (x : Str) : List V := x.cps.toList.map fun c => V.str ⟨#[c]⟩
theorem sign_vals {x : Str} {acc : Array Value} (h : ItemsOf (SignAt x) acc x.cps.size) : Vals (signV x) acc.toList := by
  refine vals_get (by simp [signV, h.1]) fun i v u e1 e2 => ?_
  obtain ⟨c, t, hc, rfl⟩ := h.2 i u (by simpa using e2)
  unfold signV at e1
  rw [List.getElem?_map] at e1
  obtain ⟨c', hc', rfl⟩ := Option.map_eq_some_iff.mp e1
  have : c' = c := by
    have z : x.cps[i]? = some c' := by simpa using hc'
    exact Option.some.inj (z.symm.trans hc)
  subst this
  exact ⟨_, rfl⟩
/-- list(x), x a text -/
def rListTx : List V → Hp → VK → Prop := fun xs H Q => ∃ x : Str, xs = [.str x] ∧ x.cps.size ≤ 1000 ∧ ∀ l, H l = none → Q (.ref l) (upd H l (.lst (signV x)))
def rTupTx : List V → Hp → VK → Prop := fun xs H Q => ∃ x : Str, xs = [.str x] ∧ x.cps.size ≤ 1000 ∧ ∀ l, H l = none → Q (.ref l) (upd H l (.tup (signV x)))
theorem call_listTx {X : Cx} (hc : X.calm = true) : CallR X (.type "list") rListTx := by
  intro pins s σ H xs us Q I r h
  obtain ⟨x, rfl, hz, q⟩ := h
  obtain ⟨u, rfl, t, rfl⟩ := vals1 r
  refine call_list_str (I.ok.hd hc) x t (hn := sz (by omega)) fun h' tk acc' c' hk hS' hacc => ?_
  have v := sign_vals hacc
  refine ⟨.ref s.heap.objs.size, _, I.laid (t' := tk) hk (Nat.le_refl _) (show ObjOk X.prog X.w _ h' _ (.lst (signV x)) from ⟨by simp [signV]; exact sz (by omega), acc'.toList, c', v, by simpa using hS'⟩), rfl, q _ (I.hok.fresh (Nat.le_refl _))⟩
theorem call_tupTx {X : Cx} (hc : X.calm = true) : CallR X (.type "tuple") rTupTx := by
  intro pins s σ H xs us Q I r h
  obtain ⟨x, rfl, hz, q⟩ := h
  obtain ⟨u, rfl, t, rfl⟩ := vals1 r
  refine call_tuple_str (I.ok.hd hc) x t (hsz := sz (by omega)) fun h' tk acc hk hacc => ?_
  have v := sign_vals hacc
  have I1 : Inv X pins σ H { s with heap := h', toks := tk } := I.kept (t' := tk) hk
  have I2 : Inv X pins σ (upd H h'.objs.size (.tup (signV x))) { s with heap := h'.push { cls := .type "tuple", data := .seq acc }, toks := tk } :=
    I1.laid (t' := tk) (fun b o e => Heap.get?_push_of_some _ e) (Nat.le_refl _) (show ObjOk X.prog X.w _ _ _ (.tup (signV x)) from ⟨by simp [signV]; exact sz (by omega), acc.toList, v, by simpa using (IsTup.new h' acc)⟩)
  exact ⟨.ref h'.objs.size, _, I2, rfl, q _ (I1.hok.fresh (Nat.le_refl _))⟩
end My

set_option Elab.async false
set_option linter.all false
set_option maxRecDepth 100000
set_option maxHeartbeats 4000000
namespace My
open PySem PySem.Spec PyProof.Rows L2
/-! ### written values, laid in a new part of the heap -/
structure Nw (H G Hn : Hp) : Prop where
  same : Same H Hn
  sub : Same G Hn
  apart : ∀ a, H a ≠ none → G a = none
theorem Nw.start {H : Hp} : Nw H (fun _ => none) H := ⟨Same.refl H, (fun _ _ e => nomatch e), fun _ _ => rfl⟩
theorem Nw.go {H G Hn Hm : Hp} (w : Nw H G Hn) (s : Same Hn Hm) : Nw H G Hm := ⟨w.same.trans s, w.sub.trans s, w.apart⟩
theorem Nw.free {H G Hn : Hp} {T : Addr} (w : Nw H G Hn) (h : Hn T = none) : G T = none := by
  cases e : G T with
  | none => rfl
  | some o =>
    have := w.sub _ _ e
    rw [h] at this
    cases this
theorem Nw.new {H G Hn : Hp} {T : Addr} {o : HO} (w : Nw H G Hn) (h : Hn T = none) : Nw H (upd G T o) (upd Hn T o) where
  same := My.Same.new' w.same h
  sub := fun b u e => by
    by_cases z : b = T
    · subst z
      rw [upd_same] at e ⊢
      exact e
    · rw [upd_ne z] at e ⊢
      exact w.sub b u e
  apart := fun a ha => by
    have z : a ≠ T := by
      rintro rfl
      cases e : H a with
      | none => exact ha e
      | some u =>
        have := w.same a u e
        rw [h] at this
        cases this
    rw [upd_ne z]
    exact w.apart a ha
theorem Nw.old {H G Hn : Hp} {T : Addr} {o : HO} (w : Nw H G Hn) (h : Hn T = none) : Same G (upd G T o) := My.Same.new (Same.refl G) (w.free h)
inductive Dt where
  | non
  | bl (b : Bool)
  | int (i : Int)
  | str (x : Str)
  | lst (ds : List Dt)
  | tup (ds : List Dt)
  | dic (kvs : List (Key × V))
  | nn (n : Int)
mutual
def Wr (G : Hp) : Dt → V → Prop
  | .non, v => v = .non
  | .bl b, v => v = .bl b
  | .int i, v => v = .int i
  | .str x, v => v = .str x
  | .lst ds, v => ∃ a xs, v = .ref a ∧ G a = some (.lst xs) ∧ WrL G ds xs
  | .tup ds, v => ∃ a xs, v = .ref a ∧ G a = some (.tup xs) ∧ WrL G ds xs
  | .dic kvs, v => ∃ a, v = .ref a ∧ G a = some (.dK kvs)
  | .nn n, v => ∃ a, v = .ref a ∧ G a = some (NnD a n)
def WrL (G : Hp) : List Dt → List V → Prop
  | [], xs => xs = []
  | d :: ds, xs => ∃ x r, xs = x :: r ∧ Wr G d x ∧ WrL G ds r
end
mutual
theorem Wr.same {G G' : Hp} (s : Same G G') : ∀ {d : Dt} {v : V}, Wr G d v → Wr G' d v
  | .non, _, h => by simpa [Wr] using h
  | .bl _, _, h => by simpa [Wr] using h
  | .int _, _, h => by simpa [Wr] using h
  | .str _, _, h => by simpa [Wr] using h
  | .lst ds, v, h => by
    simp only [Wr] at h ⊢
    obtain ⟨a, xs, e, h1, h2⟩ := h
    exact ⟨a, xs, e, s _ _ h1, WrL.same s h2⟩
  | .tup ds, v, h => by
    simp only [Wr] at h ⊢
    obtain ⟨a, xs, e, h1, h2⟩ := h
    exact ⟨a, xs, e, s _ _ h1, WrL.same s h2⟩
  | .dic kvs, v, h => by
    simp only [Wr] at h ⊢
    obtain ⟨a, e, h1⟩ := h
    exact ⟨a, e, s _ _ h1⟩
  | .nn n, v, h => by
    simp only [Wr] at h ⊢
    obtain ⟨a, e, h1⟩ := h
    exact ⟨a, e, s _ _ h1⟩
theorem WrL.same {G G' : Hp} (s : Same G G') : ∀ {ds : List Dt} {xs : List V}, WrL G ds xs → WrL G' ds xs
  | [], _, h => by simpa [WrL] using h
  | d :: ds, xs, h => by
    simp only [WrL] at h ⊢
    obtain ⟨x, r, e, h1, h2⟩ := h
    exact ⟨x, r, e, Wr.same s h1, WrL.same s h2⟩
end
theorem WrL.length {G : Hp} : ∀ {ds : List Dt} {xs : List V}, WrL G ds xs → xs.length = ds.length
  | [], _, h => by simp only [WrL] at h; rw [h]; rfl
  | d :: ds, xs, h => by
    simp only [WrL] at h
    obtain ⟨x, r, rfl, _, h2⟩ := h
    rw [List.length_cons, List.length_cons, WrL.length h2]
theorem WrL.mem {G : Hp} : ∀ {ds : List Dt} {xs : List V}, WrL G ds xs → ∀ x ∈ xs, ∃ d ∈ ds, Wr G d x
  | [], _, h, x, hx => by simp only [WrL] at h; rw [h] at hx; cases hx
  | d :: ds, xs, h, x, hx => by
    simp only [WrL] at h
    obtain ⟨y, r, rfl, h1, h2⟩ := h
    rcases List.mem_cons.mp hx with rfl | hx
    · exact ⟨d, List.mem_cons_self .., h1⟩
    · obtain ⟨e, he, hd⟩ := WrL.mem h2 x hx
      exact ⟨e, List.mem_cons_of_mem _ he, hd⟩
theorem WrL.app {G : Hp} : ∀ {ds es : List Dt} {xs ys : List V}, WrL G ds xs → WrL G es ys → WrL G (ds ++ es) (xs ++ ys)
  | [], es, xs, ys, h, k => by simp only [WrL] at h; rw [h]; exact k
  | d :: ds, es, xs, ys, h, k => by
    simp only [WrL] at h
    obtain ⟨x, r, rfl, h1, h2⟩ := h
    simp only [List.cons_append, WrL]
    exact ⟨x, r ++ ys, rfl, h1, WrL.app h2 k⟩
theorem WrL.rep {G : Hp} {ds : List Dt} {xs : List V} (h : WrL G ds xs) : ∀ n, WrL G (List.replicate n ds).flatten (List.replicate n xs).flatten
  | 0 => by simp [WrL]
  | n + 1 => by
    rw [List.replicate_succ, List.flatten_cons, List.replicate_succ, List.flatten_cons]
    exact WrL.app h (WrL.rep h n)
/-- an expression that lays a written value -/
def Lit (t : TE) (d : Dt) : Prop := ∀ (σ : L2.St) (H G Hn : Hp) (Q : VK), Nw H G Hn → (∀ (v : V) (G' Hm : Hp), Nw H G' Hm → Same G G' → Same Hn Hm → Wr G' d v → Q v Hm) → t σ Hn Q
def LitA (t : TA) (ds : List Dt) : Prop := ∀ (σ : L2.St) (H G Hn : Hp) (Q : List V → Hp → Prop), Nw H G Hn → (∀ (vs : List V) (G' Hm : Hp), Nw H G' Hm → Same G G' → Same Hn Hm → WrL G' ds vs → Q vs Hm) → t σ Hn Q
theorem lit_non : Lit (tC .non) .non := fun σ H G Hn Q w q => q _ G Hn w (Same.refl G) (Same.refl Hn) (by simp [Wr])
theorem lit_bl {b : Bool} : Lit (tC (.bl b)) (.bl b) := fun σ H G Hn Q w q => q _ G Hn w (Same.refl G) (Same.refl Hn) (by simp [Wr])
theorem lit_int {b : Int} : Lit (tC (.int b)) (.int b) := fun σ H G Hn Q w q => q _ G Hn w (Same.refl G) (Same.refl Hn) (by simp [Wr])
theorem lit_str {b : Str} : Lit (tC (.str b)) (.str b) := fun σ H G Hn Q w q => q _ G Hn w (Same.refl G) (Same.refl Hn) (by simp [Wr])
theorem litA_nil : LitA tNil [] := fun σ H G Hn Q w q => q _ G Hn w (Same.refl G) (Same.refl Hn) (by simp [WrL])
theorem litA_cons {t : TE} {ts : TA} {d : Dt} {ds : List Dt} (h : Lit t d) (k : LitA ts ds) : LitA (tCons t ts) (d :: ds) := fun σ H G Hn Q w q =>
  h σ H G Hn _ w fun v G1 H1 w1 s1 t1 e1 => k σ H G1 H1 _ w1 fun vs G2 H2 w2 s2 t2 e2 => q _ G2 H2 w2 (s1.trans s2) (t1.trans t2) (by simp only [WrL]; exact ⟨v, vs, rfl, e1.same s2, e2⟩)
theorem lit_lst {ts : TA} {ds : List Dt} (h : LitA ts ds) (hz : ds.length ≤ 1000) : Lit (tLst ts) (.lst ds) := fun σ H G Hn Q w q =>
  h σ H G Hn _ w fun vs G1 H1 w1 s1 t1 e1 => ⟨by rw [e1.length]; exact sz (by omega), fun p hp => q _ _ _ (w1.new hp) (s1.trans (w1.old hp)) (My.Same.new' t1 hp) (by simp only [Wr]; exact ⟨p, vs, rfl, upd_same, e1.same (w1.old hp)⟩)⟩
theorem lit_tup {ts : TA} {ds : List Dt} (h : LitA ts ds) (hz : ds.length ≤ 1000) : Lit (tTup ts) (.tup ds) := fun σ H G Hn Q w q =>
  h σ H G Hn _ w fun vs G1 H1 w1 s1 t1 e1 => ⟨by rw [e1.length]; exact sz (by omega), fun p hp => q _ _ _ (w1.new hp) (s1.trans (w1.old hp)) (My.Same.new' t1 hp) (by simp only [Wr]; exact ⟨p, vs, rfl, upd_same, e1.same (w1.old hp)⟩)⟩
theorem lit_dnew : Lit tDNewK (.dic []) := fun σ H G Hn Q w q p hp => q _ _ _ (w.new hp) (w.old hp) (My.Same.new (Same.refl Hn) hp) (by simp only [Wr]; exact ⟨p, rfl, upd_same⟩)
theorem lit_dnone {n : Int} : Lit (tDNone n) (.nn n) := fun σ H G Hn Q w q p hp => q _ _ _ (w.new hp) (w.old hp) (My.Same.new (Same.refl Hn) hp) (by simp only [Wr]; exact ⟨p, rfl, upd_same⟩)
theorem lit_rep {t : TE} {ds : List Dt} {k : Int} (h : Lit t (.lst ds)) (h0 : 0 ≤ k ∧ k ≤ 100) (hz : ds.length ≤ 100) : Lit (tOp rRep t (tC (.int k))) (.lst (List.replicate k.toNat ds).flatten) := fun σ H G Hn Q w q =>
  h σ H G Hn _ w fun v G1 H1 w1 s1 t1 e1 => by
    simp only [Wr] at e1
    obtain ⟨a, xs, rfl, h1, h2⟩ := e1
    have l := h2.length
    have hm : xs.length * k.toNat ≤ 100 * 100 := Nat.mul_le_mul (by omega) (by omega)
    exact ⟨a, k, xs, rfl, rfl, w1.sub _ _ h1, by omega, by omega, sz (by omega), fun p hp => q _ _ _ (w1.new hp) (s1.trans (w1.old hp)) (My.Same.new' t1 hp) (by simp only [Wr]; exact ⟨p, _, rfl, upd_same, (h2.same (w1.old hp)).rep _⟩)⟩
theorem lit_cat {t u : TE} {ds es : List Dt} (h : Lit t (.lst ds)) (k : Lit u (.lst es)) (hz : ds.length + es.length ≤ 1000) : Lit (tOp rCat t u) (.lst (ds ++ es)) := fun σ H G Hn Q w q =>
  h σ H G Hn _ w fun v G1 H1 w1 s1 t1 e1 => k σ H G1 H1 _ w1 fun v2 G2 H2 w2 s2 t2 e2 => by
    simp only [Wr] at e1 e2
    obtain ⟨a, xs, rfl, h1, h2⟩ := e1
    obtain ⟨b, ys, rfl, k1, k2⟩ := e2
    exact ⟨a, b, xs, ys, rfl, rfl, w2.sub _ _ (s2 _ _ h1), w2.sub _ _ k1, by rw [h2.length, k2.length]; exact sz (by omega), fun p hp => q _ _ _ (w2.new hp) ((s1.trans s2).trans (w2.old hp)) (My.Same.new' (t1.trans t2) hp) (by simp only [Wr]; exact ⟨p, _, rfl, upd_same, ((h2.same s2).same (w2.old hp)).app (k2.same (w2.old hp))⟩)⟩
theorem dn_strs {G : Hp} : ∀ cs : List Nat, WrL G (cs.map fun c => Dt.str ⟨#[c]⟩) (cs.map fun c => V.str ⟨#[c]⟩)
  | [] => by simp [WrL]
  | c :: cs => by simp only [List.map_cons, WrL]; exact ⟨_, _, rfl, by simp [Wr], dn_strs cs⟩
theorem lit_listTx {x : Str} (hz : x.cps.size ≤ 1000) : Lit (tCB rListTx (tCons (tC (.str x)) tNil)) (.lst (x.cps.toList.map fun c => Dt.str ⟨#[c]⟩)) := fun σ H G Hn Q w q =>
  ⟨x, rfl, hz, fun p hp => q _ _ _ (w.new hp) (w.old hp) (My.Same.new (Same.refl Hn) hp) (by simp only [Wr]; exact ⟨p, _, rfl, upd_same, dn_strs _⟩)⟩
theorem lit_tupTx {x : Str} (hz : x.cps.size ≤ 1000) : Lit (tCB rTupTx (tCons (tC (.str x)) tNil)) (.tup (x.cps.toList.map fun c => Dt.str ⟨#[c]⟩)) := fun σ H G Hn Q w q =>
  ⟨x, rfl, hz, fun p hp => q _ _ _ (w.new hp) (w.old hp) (My.Same.new (Same.refl Hn) hp) (by simp only [Wr]; exact ⟨p, _, rfl, upd_same, dn_strs _⟩)⟩
end My

set_option Elab.async false
set_option linter.all false
set_option maxRecDepth 100000
set_option maxHeartbeats 4000000
namespace My
open PySem PySem.Spec PyProof.Rows L2

theorem pairs_c {σ : L2.St} : ∀ (kvs : List (Key × V)) (H : Hp) (Q : List (V × V) → Hp → Prop), Q (kvs.map fun e => (kV e.1, e.2)) H → tPairs (kvs.map fun e => (tC (kV e.1), tC e.2)) σ H Q
  | [], _, _, q => q
  | e :: kvs, H, Q, q => pairs_c kvs H _ q
theorem lit_disp (kvs : List (Key × V)) (hz : kvs.length ≤ 15) : Lit (tDisp (kvs.map fun e => (tC (kV e.1), tC e.2))) (.dic (mergeK [] kvs)) := fun σ H G Hn Q w q p hp =>
  pairs_c kvs _ _ ⟨upd_same, kvs, rfl, hz, by
    rw [upd_upd]
    exact q _ _ _ (w.new hp) (w.old hp) (My.Same.new (Same.refl Hn) hp) (by simp only [Wr]; exact ⟨p, rfl, upd_same⟩)⟩
theorem pe_negI {X : Cx} {n : Int} {i : Nat} {p pos : Pos} : PE X (.UnaryOp .USub (.Constant (.int n) i p) pos) (tC (.int (-n))) := (pe_un un_neg pe_int).imp fun σ H Q q => ⟨n, rfl, q⟩
/-! ### what the validators tell of written values -/
def tyD : Dt → Option String
  | .non => some "NoneType"
  | .bl _ => some "bool"
  | .int _ => some "int"
  | .str _ => some "str"
  | .lst _ => some "list"
  | .tup _ => some "tuple"
  | .dic _ => some "dict"
  | .nn _ => none
theorem tyD_of {G : Hp} {d : Dt} {v : V} {t : String} (h : Wr G d v) (e : tyD d = some t) : tyS G v = some t := by
  cases d <;> simp only [Wr] at h
  case lst ds => obtain ⟨a, xs, rfl, h1, _⟩ := h; show tyO (G a) = _; rw [h1]; exact e
  case tup ds => obtain ⟨a, xs, rfl, h1, _⟩ := h; show tyO (G a) = _; rw [h1]; exact e
  case dic kvs => obtain ⟨a, rfl, h1⟩ := h; show tyO (G a) = _; rw [h1]; exact e
  case nn n => cases e
  all_goals subst h; exact e
def okTD : Dt → Bool
  | .nn _ => false
  | .str x => decide (x.length ≤ 1000)
  | _ => true
theorem ty_wr {G : Hp} {d : Dt} {v : V} (h : Wr G d v) (k : okTD d = true) : Ty G v := by
  have h0 := h
  cases d <;> simp only [Wr] at h
  case lst ds => obtain ⟨a, xs, rfl, h1, _⟩ := h; exact ⟨by rw [tyD_of h0 rfl]; rfl, fun y e => by cases e⟩
  case tup ds => obtain ⟨a, xs, rfl, h1, _⟩ := h; exact ⟨by rw [tyD_of h0 rfl]; rfl, fun y e => by cases e⟩
  case dic kvs => obtain ⟨a, rfl, h1⟩ := h; exact ⟨by rw [tyD_of h0 rfl]; rfl, fun y e => by cases e⟩
  case nn n => cases k
  case str x => subst h; exact ⟨rfl, fun y e => by cases e; exact of_decide_eq_true k⟩
  all_goals subst h; exact ⟨rfl, fun y e => by cases e⟩
def wordD : Dt → Bool
  | .str x => isWord (.str x)
  | _ => false
def blD : Dt → Bool
  | .bl _ => true
  | _ => false
def hasD (ws : List Str) : Dt → Bool
  | .str x => ws.contains x
  | _ => false
def markD : Dt → Bool
  | .str x => isMark x
  | _ => false
def strD : Dt → Str
  | .str x => x
  | _ => ""
theorem wr_fun {G : Hp} {d : Dt} {v : V} (h : Wr G d v) : isWord v = wordD d ∧ isBl v = blD d ∧ (∀ ws, hasS ws v = hasD ws d) ∧ isMarkV v = markD d ∧ strOf v = strD d := by
  cases d <;> simp only [Wr] at h
  case lst ds => obtain ⟨a, xs, rfl, h1, _⟩ := h; exact ⟨rfl, rfl, fun _ => rfl, rfl, rfl⟩
  case tup ds => obtain ⟨a, xs, rfl, h1, _⟩ := h; exact ⟨rfl, rfl, fun _ => rfl, rfl, rfl⟩
  case dic kvs => obtain ⟨a, rfl, h1⟩ := h; exact ⟨rfl, rfl, fun _ => rfl, rfl, rfl⟩
  case nn n => obtain ⟨a, rfl, h1⟩ := h; exact ⟨rfl, rfl, fun _ => rfl, rfl, rfl⟩
  all_goals subst h; exact ⟨rfl, rfl, fun _ => rfl, rfl, rfl⟩
theorem wrL_fun {G : Hp} : ∀ {ds : List Dt} {xs : List V}, WrL G ds xs → xs.all isWord = ds.all wordD ∧ xs.map strOf = ds.map strD ∧ (ds.all okTD = true → ∀ x ∈ xs, Ty G x)
  | [], xs, h => by simp only [WrL] at h; subst h; exact ⟨rfl, rfl, fun _ x hx => by cases hx⟩
  | d :: ds, xs, h => by
    simp only [WrL] at h
    obtain ⟨x, r, rfl, h1, h2⟩ := h
    obtain ⟨a, b, c⟩ := wrL_fun h2
    have f := wr_fun h1
    refine ⟨by rw [List.all_cons, List.all_cons, a, f.1], by rw [List.map_cons, List.map_cons, b, f.2.2.2.2], fun k y hy => ?_⟩
    rw [List.all_cons, Bool.and_eq_true] at k
    rcases List.mem_cons.mp hy with rfl | hy
    · exact ty_wr h1 k.1
    · exact c k.2 y hy
def wdsD (m : Int) (ds : List Dt) : Bool := decide ((ds.length : Int) ≤ m) && (ds.all wordD && decide (dn (ds.map strD) ds.length = ds.length))
theorem wdsOk_wr {G : Hp} {ds : List Dt} {xs : List V} {m : Int} (h : WrL G ds xs) : wdsOk m xs = wdsD m ds := by
  obtain ⟨a, b, _⟩ := wrL_fun h
  unfold wdsOk wdsD
  rw [a, b, h.length]
def itemsD : Dt → Option (List Dt)
  | .lst ds => some ds
  | .tup ds => some ds
  | _ => none
def okWD (d : Dt) : Bool := match itemsD d with
  | some ds => decide (ds.length ≤ 1000) && ds.all okTD
  | none => okTD d
def wdsV (m : Int) (d : Dt) : Bool := match itemsD d with
  | some ds => wdsD m ds
  | none => false
theorem items_wr {K : PySem.W.Frag} {G : Hp} {d : Dt} {v : V} (h : Wr G d v) (k : okTD d = true) : (itemsD d = none ∧ RwV K G v false) ∨ ∃ ds a xs, itemsD d = some ds ∧ v = .ref a ∧ Row K G a xs ∧ WrL G ds xs := by
  have t := fun {t : String} (e : tyD d = some t) => tyD_of h e
  cases d
  case lst ds => simp only [Wr] at h; obtain ⟨a, xs, rfl, h1, h2⟩ := h; exact .inr ⟨ds, a, xs, rfl, rfl, .inl h1, h2⟩
  case tup ds => simp only [Wr] at h; obtain ⟨a, xs, rfl, h1, h2⟩ := h; exact .inr ⟨ds, a, xs, rfl, rfl, .inr (.inl h1), h2⟩
  case nn n => cases k
  all_goals exact .inl ⟨rfl, .inl ⟨_, t rfl, rfl⟩⟩
theorem okTD_of {d : Dt} (k : okWD d = true) : okTD d = true := by
  cases d <;> first | rfl | exact k
theorem wds_wr {K : PySem.W.Frag} {G : Hp} {d : Dt} {v : V} {m : Int} (h : Wr G d v) (k : okWD d = true) : WdsR K G m v (wdsV m d) := by
  rcases items_wr (K := K) h (okTD_of k) with ⟨e, r⟩ | ⟨ds, a, xs, e, rfl, r, hl⟩
  · unfold wdsV; rw [e]; exact .inl ⟨r, rfl⟩
  · unfold okWD at k
    unfold wdsV
    rw [e] at k ⊢
    have k : (decide (ds.length ≤ 1000) && ds.all okTD) = true := k
    rw [Bool.and_eq_true, decide_eq_true_eq] at k
    exact .inr ⟨a, xs, rfl, r, by rw [hl.length]; exact k.1, (wrL_fun hl).2.2 k.2, (wdsOk_wr hl).symm⟩
def flatB : V → Bool
  | .non => true
  | .bl _ => true
  | .int _ => true
  | .str x => decide (x.length ≤ 1000)
  | _ => false
theorem flatB_of : ∀ {v : V}, flatB v = true → FlatV v
  | .non, _ => True.intro
  | .bl _, _ => True.intro
  | .int _, _ => True.intro
  | .str x, h => (of_decide_eq_true (show decide (x.length ≤ 1000) = true from h) : x.length ≤ 1000)
  | .ref _, h => by cases h
  | .flt _, h => by cases h
  | .byt _, h => by cases h
  | .ty _, h => by cases h
def okCD : Dt → Bool
  | .dic kvs => decide (kvs.length ≤ 1000) && (decide (kvs.map (·.1)).Nodup && kvs.all fun e => flatB (kV e.1) && flatB e.2)
  | _ => true
def cntD : Dt → Bool
  | .non => true
  | .dic kvs => decide (kvs.length ≤ 3) && kvs.all cntV
  | _ => false
theorem cnt_wr {G : Hp} {d : Dt} {v : V} (h : Wr G d v) (k : okCD d = true) : CntR G v (cntD d) := by
  have t := fun {t : String} (e : tyD d = some t) => tyD_of h e
  cases d
  case non => simp only [Wr] at h; exact .inl ⟨h, rfl⟩
  case dic kvs =>
    simp only [Wr] at h
    obtain ⟨a, rfl, h1⟩ := h
    simp only [okCD, Bool.and_eq_true, decide_eq_true_eq, List.all_eq_true] at k
    exact .inr (.inr (.inl ⟨a, kvs, rfl, h1, k.1, k.2.1, fun e he => ⟨flatB_of (k.2.2 e he).1, flatB_of (k.2.2 e he).2⟩, rfl⟩))
  case nn n => simp only [Wr] at h; obtain ⟨a, rfl, h1⟩ := h; exact .inr (.inr (.inr ⟨a, n, rfl, h1, rfl⟩))
  case lst ds => refine .inr (.inl ⟨_, t rfl, by decide, ?_, rfl⟩); simp only [Wr] at h; obtain ⟨a, xs, rfl, _⟩ := h; exact fun e => by cases e
  case tup ds => refine .inr (.inl ⟨_, t rfl, by decide, ?_, rfl⟩); simp only [Wr] at h; obtain ⟨a, xs, rfl, _⟩ := h; exact fun e => by cases e
  all_goals (refine .inr (.inl ⟨_, t rfl, by decide, ?_, rfl⟩); simp only [Wr] at h; subst h; exact fun e => by cases e)
def goD (d : Dt) : Bool := !wdsV 2 d || (match itemsD d with
  | some ds => (ds.map strD).contains "goal"
  | none => false)
theorem wds_strs {G : Hp} {ds : List Dt} {xs : List V} {m : Int} (h : WrL G ds xs) (k : wdsD m ds = true) : xs = (ds.map strD).map V.str := by
  obtain ⟨a, b, _⟩ := wrL_fun h
  unfold wdsD at k
  rw [Bool.and_eq_true, Bool.and_eq_true] at k
  rw [← b]
  exact all_words (by rw [a]; exact k.2.1)
theorem go_wr {K : PySem.W.Frag} {G : Hp} {d : Dt} {v : V} (h : Wr G d v) (k : okWD d = true) (g : goD d = true) : GoR K G v none := by
  have w := wds_wr (K := K) (m := 2) h k
  cases e : wdsV 2 d with
  | false => rw [e] at w; exact .inl ⟨w, rfl⟩
  | true =>
    rw [e] at w
    unfold goD at g
    rw [e] at g
    rcases items_wr (K := K) h (okTD_of k) with ⟨e2, r⟩ | ⟨ds, a, xs, e2, rfl, r, hl⟩
    · rw [e2] at g; cases g
    · rw [e2] at g
      unfold wdsV at e
      rw [e2] at e
      have ex := wds_strs hl e
      refine .inr ⟨a, ds.map strD, rfl, by rw [← ex]; exact r, w, ?_⟩
      have g : (ds.map strD).contains "goal" = true := g
      rw [g]
      rfl
def stD : Dt → Option (List Dt)
  | .tup ds => some ds
  | _ => none
def stepDV (l g : Bool) : List Dt → Bool
  | [x] => l && hasD acts x
  | [x, y] => hasD ["more", "less"] x && (markD y || (g && hasD ["goal"] y))
  | _ => false
def stepOD (l g : Bool) (d : Dt) : Bool := match stD d with
  | some ds => stepDV l g ds
  | none => false
def okSD (d : Dt) : Bool := match stD d with
  | some ds => ds.all okTD
  | none => okTD d
theorem stepV_wr {G : Hp} {l g : Bool} {ds : List Dt} {xs : List V} (h : WrL G ds xs) : stepV l g xs = stepDV l g ds := by
  match ds, xs, h with
  | [], xs, h => simp only [WrL] at h; subst h; rfl
  | [d], xs, h =>
    simp only [WrL] at h
    obtain ⟨x, r, rfl, h1, rfl⟩ := h
    show (l && hasS acts x) = (l && hasD acts d)
    rw [(wr_fun h1).2.2.1]
  | [d, e], xs, h =>
    simp only [WrL] at h
    obtain ⟨x, r, rfl, h1, y, r2, rfl, h2, rfl⟩ := h
    show (hasS ["more", "less"] x && (isMarkV y || (g && hasS ["goal"] y))) = (hasD ["more", "less"] d && (markD e || (g && hasD ["goal"] e)))
    rw [(wr_fun h1).2.2.1, (wr_fun h2).2.2.1, (wr_fun h2).2.2.2.1]
  | d :: e :: f :: ds, xs, h =>
    simp only [WrL] at h
    obtain ⟨x, r, rfl, h1, y, r2, rfl, h2, z, r3, rfl, h3, _⟩ := h
    rfl
theorem st_wr {G : Hp} : ∀ {ds : List Dt} {xs : List V}, WrL G ds xs → ds.all okSD = true → ∃ os, Paired (StR G) xs os ∧ Paired (fun o d => ∀ l g, stepO l g o = stepOD l g d) os ds
  | [], xs, h, _ => by simp only [WrL] at h; subst h; exact ⟨[], .nil, .nil⟩
  | d :: ds, xs, h, k => by
    simp only [WrL] at h
    obtain ⟨x, r, rfl, h1, h2⟩ := h
    rw [List.all_cons, Bool.and_eq_true] at k
    obtain ⟨os, p1, p2⟩ := st_wr h2 k.2
    have t := fun {t : String} (e : tyD d = some t) => tyD_of h1 e
    have kd := k.1
    cases d
    case tup es =>
      simp only [Wr] at h1
      obtain ⟨a, ys, rfl, e1, e2⟩ := h1
      exact ⟨some ys :: os, .cons ⟨a, rfl, e1, (wrL_fun e2).2.2 kd⟩ p1, .cons (fun l g => stepV_wr e2) p2⟩
    case nn n => cases kd
    all_goals exact ⟨none :: os, .cons ⟨_, t rfl, by decide⟩ p1, .cons (fun l g => rfl) p2⟩
def stepsD (g : Bool) (ds : List Dt) : Bool := ((List.range ds.length).map fun i => match ds[i]? with
  | some d => stepOD (decide ((i : Int) = (ds.length : Int) - 1)) g d
  | none => true).all id
theorem stepsA_wr {g : Bool} {os : List (Option (List V))} {ds : List Dt} (h : Paired (fun o d => ∀ l g, stepO l g o = stepOD l g d) os ds) : stepsA g os = stepsD g ds := by
  have len : os.length = ds.length := Paired.length h
  unfold stepsA stepsD
  rw [len]
  refine congrArg (fun l => List.all l id) (List.map_congr_left fun i hi => ?_)
  have hi' : i < os.length := by rw [len]; exact List.mem_range.mp hi
  obtain ⟨d, hd, e⟩ := prd_at h (List.getElem?_eq_getElem hi')
  unfold okO
  rw [List.getElem?_eq_getElem hi', hd, len]
  exact e _ _
def stsD (g : Bool) (d : Dt) : Bool := match itemsD d with
  | some ds => decide (ds.length ≤ 4) && stepsD g ds
  | none => false
def okSs (d : Dt) : Bool := match itemsD d with
  | some ds => decide (ds.length ≤ 1000) && ds.all okSD
  | none => okTD d
theorem sts_wr {K : PySem.W.Frag} {G : Hp} {d : Dt} {v : V} {g : Bool} (h : Wr G d v) (k : okSs d = true) : StsR K G g v (stsD g d) := by
  have kt : okTD d = true := by cases d <;> first | rfl | exact k
  rcases items_wr (K := K) h kt with ⟨e, r⟩ | ⟨ds, a, xs, e, rfl, r, hl⟩
  · unfold stsD; rw [e]; exact .inl ⟨r, rfl⟩
  · unfold okSs at k
    unfold stsD
    rw [e] at k ⊢
    have k : (decide (ds.length ≤ 1000) && ds.all okSD) = true := k
    rw [Bool.and_eq_true, decide_eq_true_eq] at k
    obtain ⟨os, p1, p2⟩ := st_wr hl k.2
    have l2 : os.length = ds.length := Paired.length p2
    refine .inr ⟨a, xs, os, rfl, r, by rw [hl.length]; exact k.1, p1, ?_⟩
    rw [stepsA_wr p2, l2]
/-- a value that the part cannot have -/
def OddP (K : PySem.W.Frag) (G : Hp) (p : Str) (v : V) : Prop :=
  if p = "word" then Ty G v ∧ isWord v = false else if p = "opens" then (tyS G v).isSome = true ∧ isBl v = false else if p = "card" then (tyS G v).isSome = true ∧ isBl v = false else if p = "answers" then WdsR K G 6 v false
  else if p = "whose" then Ty G v ∧ hasS whs v = false else if p = "asks" then CntR G v false else if p = "pays" then CntR G v false else if p = "goals" then GoR K G v none else ∀ g, StsR K G g v false
def oddD (p : Str) (d : Dt) : Bool :=
  if p = "word" then okTD d && !wordD d else if p = "opens" then okTD d && !blD d else if p = "card" then okTD d && !blD d else if p = "answers" then okWD d && !wdsV 6 d
  else if p = "whose" then okTD d && !hasD whs d else if p = "asks" then okCD d && !cntD d else if p = "pays" then okCD d && !cntD d else if p = "goals" then okWD d && goD d else okSs d && (!stsD true d && !stsD false d)
theorem and_not {a b : Bool} (h : (a && !b) = true) : a = true ∧ b = false := by
  cases a <;> cases b <;> simp at h ⊢
theorem odd_wr {K : PySem.W.Frag} {G : Hp} {p : Str} {d : Dt} {v : V} (h : Wr G d v) (k : oddD p d = true) : OddP K G p v := by
  have f := wr_fun h
  unfold oddD at k
  unfold OddP
  split
  · rw [if_pos (by assumption)] at k
    obtain ⟨a, b⟩ := and_not k
    exact ⟨ty_wr h a, f.1.trans b⟩
  rename_i n1
  rw [if_neg n1] at k
  split
  · rw [if_pos (by assumption)] at k
    obtain ⟨a, b⟩ := and_not k
    exact ⟨(ty_wr h a).1, f.2.1.trans b⟩
  rename_i n2
  rw [if_neg n2] at k
  split
  · rw [if_pos (by assumption)] at k
    obtain ⟨a, b⟩ := and_not k
    exact ⟨(ty_wr h a).1, f.2.1.trans b⟩
  rename_i n3
  rw [if_neg n3] at k
  split
  · rw [if_pos (by assumption)] at k
    obtain ⟨a, b⟩ := and_not k
    have := wds_wr (K := K) (m := 6) h a
    rwa [b] at this
  rename_i n4
  rw [if_neg n4] at k
  split
  · rw [if_pos (by assumption)] at k
    obtain ⟨a, b⟩ := and_not k
    exact ⟨ty_wr h a, (f.2.2.1 _).trans b⟩
  rename_i n5
  rw [if_neg n5] at k
  split
  · rw [if_pos (by assumption)] at k
    obtain ⟨a, b⟩ := and_not k
    have := cnt_wr h a
    rwa [b] at this
  rename_i n6
  rw [if_neg n6] at k
  split
  · rw [if_pos (by assumption)] at k
    obtain ⟨a, b⟩ := and_not k
    have := cnt_wr h a
    rwa [b] at this
  rename_i n7
  rw [if_neg n7] at k
  split
  · rw [if_pos (by assumption)] at k
    rw [Bool.and_eq_true] at k
    exact go_wr h k.1 k.2
  rename_i n8
  rw [if_neg n8] at k
  rw [Bool.and_eq_true] at k
  obtain ⟨b1, b2⟩ := and_not k.2
  intro g
  have := sts_wr (K := K) (g := g) h k.1
  have e : stsD g d = false := by
    cases g with
    | true => simpa using b1
    | false => exact b2
  rwa [e] at this
def odds_word : List Dt := [.non, (.int 5), (.str ""), (.str "A"), (.str "abcdefghi"), (.str "a b"), (.tup [(.str "a")]), (.lst [(.str "a")]), (.bl true)]
def odds_opens : List Dt := [.non, (.int 0), (.int 1), (.str "yes"), (.lst []), (.tup [])]
def odds_answers : List Dt := [.non, (.str "ab"), (.dic [(.inr "a", (.int 1))]), (.lst [(.str "a"), (.str "a")]), (.lst [(.str "A")]), (.lst [(.int 5)]), (.lst [.non]), (.lst [(.lst [(.str "a")])])] ++ [(.lst [(.str "a"), (.str "b"), (.str "c"), (.str "d"), (.str "e"), (.str "f"), (.str "g")]), (.int 5), (.tup [(.str "a"), (.str "")])]
def odds_whose : List Dt := [.non, (.str ""), (.str "Any"), (.str "next"), (.int 5), (.tup [(.str "any")]), (.lst [(.str "own")]), (.bl true)]
def odds_asks : List Dt := [(.dic [(.inr "m", (.int 0))]), (.dic [(.inr "m", (.int 4))]), (.dic [(.inr "m", (.bl true))]), (.dic [(.inr "m", (.str "1"))]), (.dic [(.inr "m", .non)]), (.dic [(.inr "", (.int 1))]), (.dic [(.inr "M", (.int 1))])] ++ [(.dic [(.inl 5, (.int 1))]), (.nn 1), (.lst []), (.tup []), (.str "m"), (.int 5), (.lst [(.tup [(.str "m"), (.int 1)])]), (.dic [(.inr "m", (.int (-1)))])] ++ [(.dic [(.inr "a", (.int 1)), (.inr "b", (.int 1)), (.inr "c", (.int 1)), (.inr "d", (.int 1))])]
def odds_goals : List Dt := [.non, (.str "m"), (.dic [(.inr "m", (.int 1))]), (.lst [(.str "m"), (.str "m")]), (.lst [(.str "a"), (.str "b"), (.str "c")]), (.lst [(.str "goal")]), (.lst [(.str "m"), (.str "goal")])] ++ [(.lst [(.str "M")]), (.lst [(.int 5)]), (.lst [(.lst [(.str "m")])]), (.int 5)]
def odds_steps : List Dt := [.non, (.str "strike"), (.dic []), (.lst [(.tup [(.str "strike")]), (.tup [(.str "more"), (.str "m")])]), (.lst [(.tup [(.str "again")]), (.tup [(.str "turn")])]), (.int 5)] ++ [(.lst [(.tup [(.str "more"), (.str "m")]), (.tup [(.str "more"), (.str "m")]), (.tup [(.str "more"), (.str "m")]), (.tup [(.str "more"), (.str "m")]), (.tup [(.str "more"), (.str "m")])]), (.lst [(.tup [(.str "hit")])]), (.lst [(.tup [(.str "more")])]), (.lst [(.tup [(.str "strike"), (.str "m")])]), (.lst [(.tup [(.str "less"), (.str "M")])])] ++ [(.lst [(.tup [(.str "more"), (.int 5)])]), (.lst [(.lst [(.str "more"), (.str "m")])]), (.lst [(.tup [])]), (.lst [.non]), (.lst [(.str "strike")]), (.lst [(.tup [(.str "more"), (.str "m"), (.str "m")])])] ++ [(.lst [(.tup [(.str "more"), (.str "m")]), .non]), (.lst [(.tup [(.int 5)])]), (.lst [(.tup [.non, (.str "m")])])] ++ [(.tup [(.str "turn")]), (.lst [(.tup [(.str "Strike")])]), (.lst [(.tup [(.str "more"), .non])]), (.lst [(.tup [(.lst [(.str "more")]), (.str "m")])]), (.lst [(.tup [(.tup [(.str "strike")])])])]
def oddsOf (p : Str) : List Dt := if p = "word" then odds_word else if p = "opens" then odds_opens else if p = "card" then odds_opens else if p = "answers" then odds_answers else if p = "whose" then odds_whose else if p = "asks" then odds_asks else if p = "pays" then odds_asks else if p = "goals" then odds_goals else odds_steps

abbrev partNames : List Str := ["word", "opens", "answers", "whose", "asks", "pays", "card", "goals", "steps"]
theorem odds_all : ∀ p ∈ partNames, (oddsOf p).all (oddD p) = true ∧ 0 < (oddsOf p).length ∧ (oddsOf p).length ≤ 100 := by decide +kernel
theorem oddsOf_word : oddsOf "word" = odds_word := by
  unfold oddsOf
  repeat (first | rw [if_pos (by decide +kernel)] | rw [if_neg (by decide +kernel)])
theorem oddsOf_opens : oddsOf "opens" = odds_opens := by
  unfold oddsOf
  repeat (first | rw [if_pos (by decide +kernel)] | rw [if_neg (by decide +kernel)])
theorem oddsOf_answers : oddsOf "answers" = odds_answers := by
  unfold oddsOf
  repeat (first | rw [if_pos (by decide +kernel)] | rw [if_neg (by decide +kernel)])
theorem oddsOf_whose : oddsOf "whose" = odds_whose := by
  unfold oddsOf
  repeat (first | rw [if_pos (by decide +kernel)] | rw [if_neg (by decide +kernel)])
theorem oddsOf_asks : oddsOf "asks" = odds_asks := by
  unfold oddsOf
  repeat (first | rw [if_pos (by decide +kernel)] | rw [if_neg (by decide +kernel)])
theorem oddsOf_pays : oddsOf "pays" = odds_asks := by
  unfold oddsOf
  repeat (first | rw [if_pos (by decide +kernel)] | rw [if_neg (by decide +kernel)])
theorem oddsOf_card : oddsOf "card" = odds_opens := by
  unfold oddsOf
  repeat (first | rw [if_pos (by decide +kernel)] | rw [if_neg (by decide +kernel)])
theorem oddsOf_goals : oddsOf "goals" = odds_goals := by
  unfold oddsOf
  repeat (first | rw [if_pos (by decide +kernel)] | rw [if_neg (by decide +kernel)])
theorem oddsOf_steps : oddsOf "steps" = odds_steps := by
  unfold oddsOf
  repeat (first | rw [if_pos (by decide +kernel)] | rw [if_neg (by decide +kernel)])
theorem Nw.fresh {H G Hn : Hp} {a : Addr} {o : HO} (w : Nw H G Hn) (h : G a = some o) : H a = none := by
  cases e : H a with
  | none => rfl
  | some u =>
    have := w.apart a (by rw [e]; exact fun z => nomatch z)
    rw [h] at this
    cases this
theorem cat_var {i : Nat} {u : TE} {ds es : List Dt} {v : V} {σ : L2.St} {H G Hn : Hp} {Q : VK} (hi : σ[i]? = some (some v)) (e1 : Wr G (.lst ds) v) (k : Lit u (.lst es)) (hz : ds.length + es.length ≤ 1000) (w : Nw H G Hn) (q : ∀ (v : V) (G' Hm : Hp), Nw H G' Hm → Wr G' (.lst (ds ++ es)) v → Q v Hm) : tOp rCat (tVar i) u σ Hn Q :=
  ⟨v, hi, k σ H G Hn _ w fun v2 G2 H2 w2 s2 t2 e2 => by
    simp only [Wr] at e1 e2
    obtain ⟨a, xs, rfl, h1, h2⟩ := e1
    obtain ⟨b, ys, rfl, k1, k2⟩ := e2
    exact ⟨a, b, xs, ys, rfl, rfl, w2.sub _ _ (s2 _ _ h1), w2.sub _ _ k1, by rw [h2.length, k2.length]; exact sz (by omega), fun p hp => q _ _ _ (w2.new hp) (by simp only [Wr]; exact ⟨p, _, rfl, upd_same, ((h2.same s2).same (w2.old hp)).app (k2.same (w2.old hp))⟩)⟩⟩
abbrev sOdd : Stmt := topI 28
abbrev NOdd : List Str := ["part", "some", "rows"]
theorem scOdd : FnScope NOdd ["part"] (defScope sOdd) := ⟨rfl, rfl, rfl, by decide +kernel, rfl, by decide +kernel, by decide +kernel⟩
/-- the odd values of a part -/
def spOdd : Sp := fun vs H Q _ => ∃ p : Str, vs = [.str p] ∧ p ∈ partNames ∧ ∀ (l : Addr) (G Hn : Hp) (xs : List V), H l = none → Nw H G Hn → G l = some (.lst xs) → WrL G (oddsOf p) xs → Q (.ref l) Hn
section
variable {P : Program} {w : World} {K : PySem.W.Frag} {mg : Str → Option Value} {base : Heap}
theorem ok_odd {f : Addr} {fd : FuncData} (F : Fun K "_law_odds" "_law_odds" sOdd f fd) (B : Bn mg) : FnOk P w K mg base CX0 1 f fd ["part"] spOdd := by
  refine F.ok scOdd (fun vs H Q E h => ?_) (fun cdv A outer s H vs Q E hr h => ?_)
  · obtain ⟨p, rfl, _⟩ := h
    rfl
  · obtain ⟨p, rfl, hp, q⟩ := h
    refine ⟨_, (pss_cons (ps_if (pt_cmpR op_eq (pv 0) pe_str (nomark _))
        (pss_one (ps_ret (pe_lst (pa_cons pe_non (pa_cons pe_int (pa_cons pe_str (pa_cons pe_str (pa_cons pe_str (pa_cons pe_str (pa_cons (pe_tup (pa_cons pe_str pa_nil)) (pa_cons (pe_lst (pa_cons pe_str pa_nil)) (pa_cons pe_bl pa_nil))))))))))))
        pss_nil)
      (pss_cons (ps_if (pt_cmpR op_inRow (pv 0) (pe_tup (pa_cons pe_str (pa_cons pe_str pa_nil))) (by rfl))
        (pss_one (ps_ret (pe_lst (pa_cons pe_non (pa_cons pe_int (pa_cons pe_int (pa_cons pe_str (pa_cons (pe_lst pa_nil) (pa_cons (pe_tup pa_nil) pa_nil)))))))))
        pss_nil)
      (pss_cons (ps_if (pt_cmpR op_eq (pv 0) pe_str (nomark _))
        (pss_cons (ps_set (i := 1) scOdd.nd rfl (Or.inl rfl) (pe_lst (pa_cons pe_non (pa_cons pe_str (pa_cons (pe_disp (pps_cons pe_str pe_int pps_nil) (by rfl) (by rfl) (fun z => by cases z) (by decide)) (pa_cons (pe_lst (pa_cons pe_str (pa_cons pe_str pa_nil))) (pa_cons (pe_lst (pa_cons pe_str pa_nil)) (pa_cons (pe_lst (pa_cons pe_int pa_nil)) (pa_cons (pe_lst (pa_cons pe_non pa_nil)) (pa_cons (pe_lst (pa_cons (pe_lst (pa_cons pe_str pa_nil)) pa_nil)) pa_nil))))))))))
        (pss_one (ps_ret (pe_op op_cat (pv 1) (pe_lst (pa_cons (pe_callTy (call_listTx rfl) (by rfl) B.list (by decide +kernel) (pa_cons pe_str pa_nil)) (pa_cons pe_int (pa_cons (pe_tup (pa_cons pe_str (pa_cons pe_str pa_nil))) pa_nil))))))))
        pss_nil)
      (pss_cons (ps_if (pt_cmpR op_eq (pv 0) pe_str (nomark _))
        (pss_one (ps_ret (pe_lst (pa_cons pe_non (pa_cons pe_str (pa_cons pe_str (pa_cons pe_str (pa_cons pe_int (pa_cons (pe_tup (pa_cons pe_str pa_nil)) (pa_cons (pe_lst (pa_cons pe_str pa_nil)) (pa_cons pe_bl pa_nil)))))))))))
        pss_nil)
      (pss_cons (ps_if (pt_cmpR op_inRow (pv 0) (pe_tup (pa_cons pe_str (pa_cons pe_str pa_nil))) (by rfl))
        (pss_cons (ps_set (i := 1) scOdd.nd rfl (Or.inl rfl) (pe_lst (pa_cons (pe_disp (pps_cons pe_str pe_int pps_nil) (by rfl) (by rfl) (fun z => by cases z) (by decide)) (pa_cons (pe_disp (pps_cons pe_str pe_int pps_nil) (by rfl) (by rfl) (fun z => by cases z) (by decide)) (pa_cons (pe_disp (pps_cons pe_str pe_bl pps_nil) (by rfl) (by rfl) (fun z => by cases z) (by decide)) (pa_cons (pe_disp (pps_cons pe_str pe_str pps_nil) (by rfl) (by rfl) (fun z => by cases z) (by decide)) (pa_cons (pe_disp (pps_cons pe_str pe_non pps_nil) (by rfl) (by rfl) (fun z => by cases z) (by decide)) (pa_cons (pe_disp (pps_cons pe_str pe_int pps_nil) (by rfl) (by rfl) (fun z => by cases z) (by decide)) (pa_cons (pe_disp (pps_cons pe_str pe_int pps_nil) (by rfl) (by rfl) (fun z => by cases z) (by decide)) pa_nil)))))))))
        (pss_cons (ps_set (i := 1) scOdd.nd rfl (Or.inl rfl) (pe_op op_cat (pv 1) (pe_lst (pa_cons (pe_disp (pps_cons pe_int pe_int pps_nil) (by rfl) (by rfl) (fun z => by cases z) (by decide)) (pa_cons pe_dnone (pa_cons (pe_lst pa_nil) (pa_cons (pe_tup pa_nil) (pa_cons pe_str (pa_cons pe_int (pa_cons (pe_lst (pa_cons (pe_tup (pa_cons pe_str (pa_cons pe_int pa_nil))) pa_nil)) (pa_cons (pe_disp (pps_cons pe_str pe_negI pps_nil) (by rfl) (by rfl) (fun z => by cases z) (by decide)) pa_nil)))))))))))
        (pss_one (ps_ret (pe_op op_cat (pv 1) (pe_lst (pa_cons (pe_disp (pps_cons pe_str pe_int (pps_cons pe_str pe_int (pps_cons pe_str pe_int (pps_cons pe_str pe_int pps_nil)))) (by rfl) (by rfl) (fun z => by cases z) (by decide)) pa_nil)))))))
        pss_nil)
      (pss_cons (ps_if (pt_cmpR op_eq (pv 0) pe_str (nomark _))
        (pss_cons (ps_set (i := 1) scOdd.nd rfl (Or.inl rfl) (pe_lst (pa_cons pe_non (pa_cons pe_str (pa_cons (pe_disp (pps_cons pe_str pe_int pps_nil) (by rfl) (by rfl) (fun z => by cases z) (by decide)) (pa_cons (pe_lst (pa_cons pe_str (pa_cons pe_str pa_nil))) (pa_cons (pe_lst (pa_cons pe_str (pa_cons pe_str (pa_cons pe_str pa_nil)))) (pa_cons (pe_lst (pa_cons pe_str pa_nil)) (pa_cons (pe_lst (pa_cons pe_str (pa_cons pe_str pa_nil))) pa_nil)))))))))
        (pss_one (ps_ret (pe_op op_cat (pv 1) (pe_lst (pa_cons (pe_lst (pa_cons pe_str pa_nil)) (pa_cons (pe_lst (pa_cons pe_int pa_nil)) (pa_cons (pe_lst (pa_cons (pe_lst (pa_cons pe_str pa_nil)) pa_nil)) (pa_cons pe_int pa_nil)))))))))
        pss_nil)
      (pss_cons (ps_set (i := 2) scOdd.nd rfl (Or.inl rfl) (pe_lst (pa_cons pe_non (pa_cons pe_str (pa_cons pe_dnewK (pa_cons (pe_lst (pa_cons (pe_tup (pa_cons pe_str pa_nil)) (pa_cons (pe_tup (pa_cons pe_str (pa_cons pe_str pa_nil))) pa_nil))) (pa_cons (pe_lst (pa_cons (pe_tup (pa_cons pe_str pa_nil)) (pa_cons (pe_tup (pa_cons pe_str pa_nil)) pa_nil))) (pa_cons pe_int pa_nil))))))))
      (pss_cons (ps_set (i := 2) scOdd.nd rfl (Or.inl rfl) (pe_op op_cat (pv 2) (pe_lst (pa_cons (pe_op op_rep (pe_lst (pa_cons (pe_tup (pa_cons pe_str (pa_cons pe_str pa_nil))) pa_nil)) pe_int) (pa_cons (pe_lst (pa_cons (pe_tup (pa_cons pe_str pa_nil)) pa_nil)) (pa_cons (pe_lst (pa_cons (pe_tup (pa_cons pe_str pa_nil)) pa_nil)) (pa_cons (pe_lst (pa_cons (pe_tup (pa_cons pe_str (pa_cons pe_str pa_nil))) pa_nil)) (pa_cons (pe_lst (pa_cons (pe_tup (pa_cons pe_str (pa_cons pe_str pa_nil))) pa_nil)) pa_nil))))))))
      (pss_cons (ps_set (i := 2) scOdd.nd rfl (Or.inl rfl) (pe_op op_cat (pv 2) (pe_lst (pa_cons (pe_lst (pa_cons (pe_tup (pa_cons pe_str (pa_cons pe_int pa_nil))) pa_nil)) (pa_cons (pe_lst (pa_cons (pe_lst (pa_cons pe_str (pa_cons pe_str pa_nil))) pa_nil)) (pa_cons (pe_lst (pa_cons (pe_tup pa_nil) pa_nil)) (pa_cons (pe_lst (pa_cons pe_non pa_nil)) (pa_cons (pe_lst (pa_cons pe_str pa_nil)) (pa_cons (pe_lst (pa_cons (pe_tup (pa_cons pe_str (pa_cons pe_str (pa_cons pe_str pa_nil)))) pa_nil)) pa_nil)))))))))
      (pss_cons (ps_set (i := 2) scOdd.nd rfl (Or.inl rfl) (pe_op op_cat (pv 2) (pe_lst (pa_cons (pe_lst (pa_cons (pe_tup (pa_cons pe_str (pa_cons pe_str pa_nil))) (pa_cons pe_non pa_nil))) (pa_cons (pe_lst (pa_cons (pe_tup (pa_cons pe_int pa_nil)) pa_nil)) (pa_cons (pe_lst (pa_cons (pe_tup (pa_cons pe_non (pa_cons pe_str pa_nil))) pa_nil)) pa_nil))))))
      (pss_one (ps_ret (pe_op op_cat (pv 2) (pe_lst (pa_cons (pe_tup (pa_cons pe_str pa_nil)) (pa_cons (pe_lst (pa_cons (pe_tup (pa_cons pe_str pa_nil)) pa_nil)) (pa_cons (pe_lst (pa_cons (pe_tup (pa_cons pe_str (pa_cons pe_non pa_nil))) pa_nil)) (pa_cons (pe_lst (pa_cons (pe_tup (pa_cons (pe_lst (pa_cons pe_str pa_nil)) (pa_cons pe_str pa_nil))) pa_nil)) (pa_cons (pe_lst (pa_cons (pe_tup (pa_cons (pe_tup (pa_cons pe_str pa_nil)) pa_nil)) pa_nil)) pa_nil))))))))))))))))))), ?_⟩
    simp only [partNames, List.mem_cons, List.not_mem_nil, or_false] at hp
    rcases hp with rfl | rfl | rfl | rfl | rfl | rfl | rfl | rfl | rfl
    · have W0 : Nw H (fun _ => none) H := Nw.start
      refine step_seq (step_if ⟨_, rfl, rfl, _, rfl, ?_⟩)
      dsimp only
      rw [if_pos (by decide +kernel)]
      refine (lit_lst (litA_cons lit_non (litA_cons lit_int (litA_cons lit_str (litA_cons lit_str (litA_cons lit_str (litA_cons lit_str (litA_cons (lit_tup (litA_cons lit_str litA_nil) (by decide)) (litA_cons (lit_lst (litA_cons lit_str litA_nil) (by decide)) (litA_cons lit_bl litA_nil))))))))) (by decide)) _ _ _ _ _ W0 fun v0 G0 H0 w0 _ _ e0 => ?_
      simp only [Wr] at e0
      obtain ⟨a, xs, rfl, h1, h2⟩ := e0
      refine q a G0 H0 xs (w0.fresh h1) w0 h1 ?_
      rw [oddsOf_word]
      exact h2
    · have W0 : Nw H (fun _ => none) H := Nw.start
      refine step_seq (step_if ⟨_, rfl, rfl, _, rfl, ?_⟩)
      dsimp only
      rw [if_neg (by decide +kernel)]
      try unfold tNext
      try dsimp only
      refine step_seq (step_if ⟨_, rfl, sz (by simp), fun T1 hT1 => ⟨T1, "opens", ["opens", "card"], rfl, rfl, .inr (.inl upd_same), _, rfl, ?_⟩⟩)
      have W1 := W0.go (My.Same.new (o := .tup [.str "opens", .str "card"]) (Same.refl _) hT1)
      dsimp only
      rw [if_pos (by decide +kernel)]
      refine (lit_lst (litA_cons lit_non (litA_cons lit_int (litA_cons lit_int (litA_cons lit_str (litA_cons (lit_lst litA_nil (by decide)) (litA_cons (lit_tup litA_nil (by decide)) litA_nil)))))) (by decide)) _ _ _ _ _ W1 fun v0 G0 H0 w0 _ _ e0 => ?_
      simp only [Wr] at e0
      obtain ⟨a, xs, rfl, h1, h2⟩ := e0
      refine q a G0 H0 xs (w0.fresh h1) w0 h1 ?_
      rw [oddsOf_opens]
      exact h2
    · have W0 : Nw H (fun _ => none) H := Nw.start
      refine step_seq (step_if ⟨_, rfl, rfl, _, rfl, ?_⟩)
      dsimp only
      rw [if_neg (by decide +kernel)]
      try unfold tNext
      try dsimp only
      refine step_seq (step_if ⟨_, rfl, sz (by simp), fun T1 hT1 => ⟨T1, "answers", ["opens", "card"], rfl, rfl, .inr (.inl upd_same), _, rfl, ?_⟩⟩)
      have W1 := W0.go (My.Same.new (o := .tup [.str "opens", .str "card"]) (Same.refl _) hT1)
      dsimp only
      rw [if_neg (by decide +kernel)]
      try unfold tNext
      try dsimp only
      refine step_seq (step_if ⟨_, rfl, rfl, _, rfl, ?_⟩)
      dsimp only
      rw [if_pos (by decide +kernel)]
      refine step_asg ?_
      refine (lit_lst (litA_cons lit_non (litA_cons lit_str (litA_cons (lit_disp [(.inr "a", (.int 1))] (by decide)) (litA_cons (lit_lst (litA_cons lit_str (litA_cons lit_str litA_nil)) (by decide)) (litA_cons (lit_lst (litA_cons lit_str litA_nil) (by decide)) (litA_cons (lit_lst (litA_cons lit_int litA_nil) (by decide)) (litA_cons (lit_lst (litA_cons lit_non litA_nil) (by decide)) (litA_cons (lit_lst (litA_cons (lit_lst (litA_cons lit_str litA_nil) (by decide)) litA_nil) (by decide)) litA_nil)))))))) (by decide)) _ _ _ _ _ W1 fun v0 G0 H0 w0 _ _ e0 => ?_
      refine cat_var rfl e0 (lit_lst (litA_cons (lit_listTx (by decide)) (litA_cons lit_int (litA_cons (lit_tup (litA_cons lit_str (litA_cons lit_str litA_nil)) (by decide)) litA_nil))) (by decide)) (by decide) w0 fun v1 G1 H1 w1 e1 => ?_
      simp only [Wr] at e1
      obtain ⟨a, xs, rfl, h1, h2⟩ := e1
      refine q a G1 H1 xs (w1.fresh h1) w1 h1 ?_
      rw [oddsOf_answers]
      exact h2
    · have W0 : Nw H (fun _ => none) H := Nw.start
      refine step_seq (step_if ⟨_, rfl, rfl, _, rfl, ?_⟩)
      dsimp only
      rw [if_neg (by decide +kernel)]
      try unfold tNext
      try dsimp only
      refine step_seq (step_if ⟨_, rfl, sz (by simp), fun T1 hT1 => ⟨T1, "whose", ["opens", "card"], rfl, rfl, .inr (.inl upd_same), _, rfl, ?_⟩⟩)
      have W1 := W0.go (My.Same.new (o := .tup [.str "opens", .str "card"]) (Same.refl _) hT1)
      dsimp only
      rw [if_neg (by decide +kernel)]
      try unfold tNext
      try dsimp only
      refine step_seq (step_if ⟨_, rfl, rfl, _, rfl, ?_⟩)
      dsimp only
      rw [if_neg (by decide +kernel)]
      try unfold tNext
      try dsimp only
      refine step_seq (step_if ⟨_, rfl, rfl, _, rfl, ?_⟩)
      dsimp only
      rw [if_pos (by decide +kernel)]
      refine (lit_lst (litA_cons lit_non (litA_cons lit_str (litA_cons lit_str (litA_cons lit_str (litA_cons lit_int (litA_cons (lit_tup (litA_cons lit_str litA_nil) (by decide)) (litA_cons (lit_lst (litA_cons lit_str litA_nil) (by decide)) (litA_cons lit_bl litA_nil)))))))) (by decide)) _ _ _ _ _ W1 fun v0 G0 H0 w0 _ _ e0 => ?_
      simp only [Wr] at e0
      obtain ⟨a, xs, rfl, h1, h2⟩ := e0
      refine q a G0 H0 xs (w0.fresh h1) w0 h1 ?_
      rw [oddsOf_whose]
      exact h2
    · have W0 : Nw H (fun _ => none) H := Nw.start
      refine step_seq (step_if ⟨_, rfl, rfl, _, rfl, ?_⟩)
      dsimp only
      rw [if_neg (by decide +kernel)]
      try unfold tNext
      try dsimp only
      refine step_seq (step_if ⟨_, rfl, sz (by simp), fun T1 hT1 => ⟨T1, "asks", ["opens", "card"], rfl, rfl, .inr (.inl upd_same), _, rfl, ?_⟩⟩)
      have W1 := W0.go (My.Same.new (o := .tup [.str "opens", .str "card"]) (Same.refl _) hT1)
      dsimp only
      rw [if_neg (by decide +kernel)]
      try unfold tNext
      try dsimp only
      refine step_seq (step_if ⟨_, rfl, rfl, _, rfl, ?_⟩)
      dsimp only
      rw [if_neg (by decide +kernel)]
      try unfold tNext
      try dsimp only
      refine step_seq (step_if ⟨_, rfl, rfl, _, rfl, ?_⟩)
      dsimp only
      rw [if_neg (by decide +kernel)]
      try unfold tNext
      try dsimp only
      refine step_seq (step_if ⟨_, rfl, sz (by simp), fun T2 hT2 => ⟨T2, "asks", ["asks", "pays"], rfl, rfl, .inr (.inl upd_same), _, rfl, ?_⟩⟩)
      have W2 := W1.go (My.Same.new (o := .tup [.str "asks", .str "pays"]) (Same.refl _) hT2)
      dsimp only
      rw [if_pos (by decide +kernel)]
      refine step_asg ?_
      refine (lit_lst (litA_cons (lit_disp [(.inr "m", (.int 0))] (by decide)) (litA_cons (lit_disp [(.inr "m", (.int 4))] (by decide)) (litA_cons (lit_disp [(.inr "m", (.bl true))] (by decide)) (litA_cons (lit_disp [(.inr "m", (.str "1"))] (by decide)) (litA_cons (lit_disp [(.inr "m", .non)] (by decide)) (litA_cons (lit_disp [(.inr "", (.int 1))] (by decide)) (litA_cons (lit_disp [(.inr "M", (.int 1))] (by decide)) litA_nil))))))) (by decide)) _ _ _ _ _ W2 fun v0 G0 H0 w0 _ _ e0 => ?_
      refine step_asg ?_
      refine cat_var rfl e0 (lit_lst (litA_cons (lit_disp [(.inl 5, (.int 1))] (by decide)) (litA_cons lit_dnone (litA_cons (lit_lst litA_nil (by decide)) (litA_cons (lit_tup litA_nil (by decide)) (litA_cons lit_str (litA_cons lit_int (litA_cons (lit_lst (litA_cons (lit_tup (litA_cons lit_str (litA_cons lit_int litA_nil)) (by decide)) litA_nil) (by decide)) (litA_cons (lit_disp [(.inr "m", (.int (-1)))] (by decide)) litA_nil)))))))) (by decide)) (by decide) w0 fun v1 G1 H1 w1 e1 => ?_
      refine cat_var rfl e1 (lit_lst (litA_cons (lit_disp [(.inr "a", (.int 1)), (.inr "b", (.int 1)), (.inr "c", (.int 1)), (.inr "d", (.int 1))] (by decide)) litA_nil) (by decide)) (by decide) w1 fun v2 G2 H2 w2 e2 => ?_
      simp only [Wr] at e2
      obtain ⟨a, xs, rfl, h1, h2⟩ := e2
      refine q a G2 H2 xs (w2.fresh h1) w2 h1 ?_
      rw [oddsOf_asks]
      exact h2
    · have W0 : Nw H (fun _ => none) H := Nw.start
      refine step_seq (step_if ⟨_, rfl, rfl, _, rfl, ?_⟩)
      dsimp only
      rw [if_neg (by decide +kernel)]
      try unfold tNext
      try dsimp only
      refine step_seq (step_if ⟨_, rfl, sz (by simp), fun T1 hT1 => ⟨T1, "pays", ["opens", "card"], rfl, rfl, .inr (.inl upd_same), _, rfl, ?_⟩⟩)
      have W1 := W0.go (My.Same.new (o := .tup [.str "opens", .str "card"]) (Same.refl _) hT1)
      dsimp only
      rw [if_neg (by decide +kernel)]
      try unfold tNext
      try dsimp only
      refine step_seq (step_if ⟨_, rfl, rfl, _, rfl, ?_⟩)
      dsimp only
      rw [if_neg (by decide +kernel)]
      try unfold tNext
      try dsimp only
      refine step_seq (step_if ⟨_, rfl, rfl, _, rfl, ?_⟩)
      dsimp only
      rw [if_neg (by decide +kernel)]
      try unfold tNext
      try dsimp only
      refine step_seq (step_if ⟨_, rfl, sz (by simp), fun T2 hT2 => ⟨T2, "pays", ["asks", "pays"], rfl, rfl, .inr (.inl upd_same), _, rfl, ?_⟩⟩)
      have W2 := W1.go (My.Same.new (o := .tup [.str "asks", .str "pays"]) (Same.refl _) hT2)
      dsimp only
      rw [if_pos (by decide +kernel)]
      refine step_asg ?_
      refine (lit_lst (litA_cons (lit_disp [(.inr "m", (.int 0))] (by decide)) (litA_cons (lit_disp [(.inr "m", (.int 4))] (by decide)) (litA_cons (lit_disp [(.inr "m", (.bl true))] (by decide)) (litA_cons (lit_disp [(.inr "m", (.str "1"))] (by decide)) (litA_cons (lit_disp [(.inr "m", .non)] (by decide)) (litA_cons (lit_disp [(.inr "", (.int 1))] (by decide)) (litA_cons (lit_disp [(.inr "M", (.int 1))] (by decide)) litA_nil))))))) (by decide)) _ _ _ _ _ W2 fun v0 G0 H0 w0 _ _ e0 => ?_
      refine step_asg ?_
      refine cat_var rfl e0 (lit_lst (litA_cons (lit_disp [(.inl 5, (.int 1))] (by decide)) (litA_cons lit_dnone (litA_cons (lit_lst litA_nil (by decide)) (litA_cons (lit_tup litA_nil (by decide)) (litA_cons lit_str (litA_cons lit_int (litA_cons (lit_lst (litA_cons (lit_tup (litA_cons lit_str (litA_cons lit_int litA_nil)) (by decide)) litA_nil) (by decide)) (litA_cons (lit_disp [(.inr "m", (.int (-1)))] (by decide)) litA_nil)))))))) (by decide)) (by decide) w0 fun v1 G1 H1 w1 e1 => ?_
      refine cat_var rfl e1 (lit_lst (litA_cons (lit_disp [(.inr "a", (.int 1)), (.inr "b", (.int 1)), (.inr "c", (.int 1)), (.inr "d", (.int 1))] (by decide)) litA_nil) (by decide)) (by decide) w1 fun v2 G2 H2 w2 e2 => ?_
      simp only [Wr] at e2
      obtain ⟨a, xs, rfl, h1, h2⟩ := e2
      refine q a G2 H2 xs (w2.fresh h1) w2 h1 ?_
      rw [oddsOf_pays]
      exact h2
    · have W0 : Nw H (fun _ => none) H := Nw.start
      refine step_seq (step_if ⟨_, rfl, rfl, _, rfl, ?_⟩)
      dsimp only
      rw [if_neg (by decide +kernel)]
      try unfold tNext
      try dsimp only
      refine step_seq (step_if ⟨_, rfl, sz (by simp), fun T1 hT1 => ⟨T1, "card", ["opens", "card"], rfl, rfl, .inr (.inl upd_same), _, rfl, ?_⟩⟩)
      have W1 := W0.go (My.Same.new (o := .tup [.str "opens", .str "card"]) (Same.refl _) hT1)
      dsimp only
      rw [if_pos (by decide +kernel)]
      refine (lit_lst (litA_cons lit_non (litA_cons lit_int (litA_cons lit_int (litA_cons lit_str (litA_cons (lit_lst litA_nil (by decide)) (litA_cons (lit_tup litA_nil (by decide)) litA_nil)))))) (by decide)) _ _ _ _ _ W1 fun v0 G0 H0 w0 _ _ e0 => ?_
      simp only [Wr] at e0
      obtain ⟨a, xs, rfl, h1, h2⟩ := e0
      refine q a G0 H0 xs (w0.fresh h1) w0 h1 ?_
      rw [oddsOf_card]
      exact h2
    · have W0 : Nw H (fun _ => none) H := Nw.start
      refine step_seq (step_if ⟨_, rfl, rfl, _, rfl, ?_⟩)
      dsimp only
      rw [if_neg (by decide +kernel)]
      try unfold tNext
      try dsimp only
      refine step_seq (step_if ⟨_, rfl, sz (by simp), fun T1 hT1 => ⟨T1, "goals", ["opens", "card"], rfl, rfl, .inr (.inl upd_same), _, rfl, ?_⟩⟩)
      have W1 := W0.go (My.Same.new (o := .tup [.str "opens", .str "card"]) (Same.refl _) hT1)
      dsimp only
      rw [if_neg (by decide +kernel)]
      try unfold tNext
      try dsimp only
      refine step_seq (step_if ⟨_, rfl, rfl, _, rfl, ?_⟩)
      dsimp only
      rw [if_neg (by decide +kernel)]
      try unfold tNext
      try dsimp only
      refine step_seq (step_if ⟨_, rfl, rfl, _, rfl, ?_⟩)
      dsimp only
      rw [if_neg (by decide +kernel)]
      try unfold tNext
      try dsimp only
      refine step_seq (step_if ⟨_, rfl, sz (by simp), fun T2 hT2 => ⟨T2, "goals", ["asks", "pays"], rfl, rfl, .inr (.inl upd_same), _, rfl, ?_⟩⟩)
      have W2 := W1.go (My.Same.new (o := .tup [.str "asks", .str "pays"]) (Same.refl _) hT2)
      dsimp only
      rw [if_neg (by decide +kernel)]
      try unfold tNext
      try dsimp only
      refine step_seq (step_if ⟨_, rfl, rfl, _, rfl, ?_⟩)
      dsimp only
      rw [if_pos (by decide +kernel)]
      refine step_asg ?_
      refine (lit_lst (litA_cons lit_non (litA_cons lit_str (litA_cons (lit_disp [(.inr "m", (.int 1))] (by decide)) (litA_cons (lit_lst (litA_cons lit_str (litA_cons lit_str litA_nil)) (by decide)) (litA_cons (lit_lst (litA_cons lit_str (litA_cons lit_str (litA_cons lit_str litA_nil))) (by decide)) (litA_cons (lit_lst (litA_cons lit_str litA_nil) (by decide)) (litA_cons (lit_lst (litA_cons lit_str (litA_cons lit_str litA_nil)) (by decide)) litA_nil))))))) (by decide)) _ _ _ _ _ W2 fun v0 G0 H0 w0 _ _ e0 => ?_
      refine cat_var rfl e0 (lit_lst (litA_cons (lit_lst (litA_cons lit_str litA_nil) (by decide)) (litA_cons (lit_lst (litA_cons lit_int litA_nil) (by decide)) (litA_cons (lit_lst (litA_cons (lit_lst (litA_cons lit_str litA_nil) (by decide)) litA_nil) (by decide)) (litA_cons lit_int litA_nil)))) (by decide)) (by decide) w0 fun v1 G1 H1 w1 e1 => ?_
      simp only [Wr] at e1
      obtain ⟨a, xs, rfl, h1, h2⟩ := e1
      refine q a G1 H1 xs (w1.fresh h1) w1 h1 ?_
      rw [oddsOf_goals]
      exact h2
    · have W0 : Nw H (fun _ => none) H := Nw.start
      refine step_seq (step_if ⟨_, rfl, rfl, _, rfl, ?_⟩)
      dsimp only
      rw [if_neg (by decide +kernel)]
      try unfold tNext
      try dsimp only
      refine step_seq (step_if ⟨_, rfl, sz (by simp), fun T1 hT1 => ⟨T1, "steps", ["opens", "card"], rfl, rfl, .inr (.inl upd_same), _, rfl, ?_⟩⟩)
      have W1 := W0.go (My.Same.new (o := .tup [.str "opens", .str "card"]) (Same.refl _) hT1)
      dsimp only
      rw [if_neg (by decide +kernel)]
      try unfold tNext
      try dsimp only
      refine step_seq (step_if ⟨_, rfl, rfl, _, rfl, ?_⟩)
      dsimp only
      rw [if_neg (by decide +kernel)]
      try unfold tNext
      try dsimp only
      refine step_seq (step_if ⟨_, rfl, rfl, _, rfl, ?_⟩)
      dsimp only
      rw [if_neg (by decide +kernel)]
      try unfold tNext
      try dsimp only
      refine step_seq (step_if ⟨_, rfl, sz (by simp), fun T2 hT2 => ⟨T2, "steps", ["asks", "pays"], rfl, rfl, .inr (.inl upd_same), _, rfl, ?_⟩⟩)
      have W2 := W1.go (My.Same.new (o := .tup [.str "asks", .str "pays"]) (Same.refl _) hT2)
      dsimp only
      rw [if_neg (by decide +kernel)]
      try unfold tNext
      try dsimp only
      refine step_seq (step_if ⟨_, rfl, rfl, _, rfl, ?_⟩)
      dsimp only
      rw [if_neg (by decide +kernel)]
      try unfold tNext
      try dsimp only
      refine step_asg ?_
      refine (lit_lst (litA_cons lit_non (litA_cons lit_str (litA_cons lit_dnew (litA_cons (lit_lst (litA_cons (lit_tup (litA_cons lit_str litA_nil) (by decide)) (litA_cons (lit_tup (litA_cons lit_str (litA_cons lit_str litA_nil)) (by decide)) litA_nil)) (by decide)) (litA_cons (lit_lst (litA_cons (lit_tup (litA_cons lit_str litA_nil) (by decide)) (litA_cons (lit_tup (litA_cons lit_str litA_nil) (by decide)) litA_nil)) (by decide)) (litA_cons lit_int litA_nil)))))) (by decide)) _ _ _ _ _ W2 fun v0 G0 H0 w0 _ _ e0 => ?_
      refine step_asg ?_
      refine cat_var rfl e0 (lit_lst (litA_cons (lit_rep (lit_lst (litA_cons (lit_tup (litA_cons lit_str (litA_cons lit_str litA_nil)) (by decide)) litA_nil) (by decide)) (by decide) (by decide)) (litA_cons (lit_lst (litA_cons (lit_tup (litA_cons lit_str litA_nil) (by decide)) litA_nil) (by decide)) (litA_cons (lit_lst (litA_cons (lit_tup (litA_cons lit_str litA_nil) (by decide)) litA_nil) (by decide)) (litA_cons (lit_lst (litA_cons (lit_tup (litA_cons lit_str (litA_cons lit_str litA_nil)) (by decide)) litA_nil) (by decide)) (litA_cons (lit_lst (litA_cons (lit_tup (litA_cons lit_str (litA_cons lit_str litA_nil)) (by decide)) litA_nil) (by decide)) litA_nil))))) (by decide)) (by decide) w0 fun v1 G1 H1 w1 e1 => ?_
      refine step_asg ?_
      refine cat_var rfl e1 (lit_lst (litA_cons (lit_lst (litA_cons (lit_tup (litA_cons lit_str (litA_cons lit_int litA_nil)) (by decide)) litA_nil) (by decide)) (litA_cons (lit_lst (litA_cons (lit_lst (litA_cons lit_str (litA_cons lit_str litA_nil)) (by decide)) litA_nil) (by decide)) (litA_cons (lit_lst (litA_cons (lit_tup litA_nil (by decide)) litA_nil) (by decide)) (litA_cons (lit_lst (litA_cons lit_non litA_nil) (by decide)) (litA_cons (lit_lst (litA_cons lit_str litA_nil) (by decide)) (litA_cons (lit_lst (litA_cons (lit_tup (litA_cons lit_str (litA_cons lit_str (litA_cons lit_str litA_nil))) (by decide)) litA_nil) (by decide)) litA_nil)))))) (by decide)) (by decide) w1 fun v2 G2 H2 w2 e2 => ?_
      refine step_asg ?_
      refine cat_var rfl e2 (lit_lst (litA_cons (lit_lst (litA_cons (lit_tup (litA_cons lit_str (litA_cons lit_str litA_nil)) (by decide)) (litA_cons lit_non litA_nil)) (by decide)) (litA_cons (lit_lst (litA_cons (lit_tup (litA_cons lit_int litA_nil) (by decide)) litA_nil) (by decide)) (litA_cons (lit_lst (litA_cons (lit_tup (litA_cons lit_non (litA_cons lit_str litA_nil)) (by decide)) litA_nil) (by decide)) litA_nil))) (by decide)) (by decide) w2 fun v3 G3 H3 w3 e3 => ?_
      refine cat_var rfl e3 (lit_lst (litA_cons (lit_tup (litA_cons lit_str litA_nil) (by decide)) (litA_cons (lit_lst (litA_cons (lit_tup (litA_cons lit_str litA_nil) (by decide)) litA_nil) (by decide)) (litA_cons (lit_lst (litA_cons (lit_tup (litA_cons lit_str (litA_cons lit_non litA_nil)) (by decide)) litA_nil) (by decide)) (litA_cons (lit_lst (litA_cons (lit_tup (litA_cons (lit_lst (litA_cons lit_str litA_nil) (by decide)) (litA_cons lit_str litA_nil)) (by decide)) litA_nil) (by decide)) (litA_cons (lit_lst (litA_cons (lit_tup (litA_cons (lit_tup (litA_cons lit_str litA_nil) (by decide)) litA_nil) (by decide)) litA_nil) (by decide)) litA_nil))))) (by decide)) (by decide) w3 fun v4 G4 H4 w4 e4 => ?_
      simp only [Wr] at e4
      obtain ⟨a, xs, rfl, h1, h2⟩ := e4
      refine q a G4 H4 xs (w4.fresh h1) w4 h1 ?_
      rw [oddsOf_steps]
      exact h2
end
end My

set_option Elab.async false
set_option linter.all false
set_option maxRecDepth 100000
set_option maxHeartbeats 4000000
namespace My
open PySem PySem.Spec PyProof.Rows L2
local macro_rules | `(tactic| walk_at "rd") => `(tactic| simp only [rd_seq, rd_next, rd_brk, rd_cont, rd_asg, rd_gname, rd_var, rd_c, rd_op, rd_un, rd_rI0, rd_rI, rd_rU, rd_test, rd_B, rd_and, rd_or, rd_not, rd_andV, rd_orV, rd_notV, rd_ifx, rd_ifs, rd_drop, rd_ret, rd_nil, rd_cons, rd_cb, rd_tup, rd_lst, rd_call, rd_bm, rd_app, rd_ixLst, rd_ixSq, rd_lenL, rd_lenSq, rd_setLst, rd_sub, rd_neNil, rd_isStr, rd_dg, rd_dp, rd_mk, rd_sl, rd_noP, rd_part, rd_slL, rd_cat, rd_lcL, rd_lcE, rd_lcA, rd_lcEA, rd_isTy, rd_inRow, rd_bm0, rd_rz, rd_lockE, rd_lcK, rd_dgetD, rd_ixTp, rd_lenUn,  L2.valV_put, rd_fldS, rd_eq, rd_ne, rd_fldE, rd_allB, rd_isBl, rd_inS, rd_chain, rd_chain', L2.wipe, Int.reduceToNat, Int.reduceLE, Int.reduceLT, Nat.reduceLT, Nat.reduceLeDiff, Int.reduceNeg, Int.toNat_natCast, Int.reduceAdd, L2.start, and_assoc, exists_and_left, List.map_cons, List.map_nil, List.length_cons, List.length_nil, List.cons_append, List.nil_append, List.append_nil, List.replicate_succ, List.replicate_zero, List.replicate, List.set_cons_zero, List.set_cons_succ, List.getElem?_cons_zero, List.getElem?_cons_succ, Option.some.injEq, exists_eq_left', exists_eq_left, exists_eq, V.int.injEq, V.ref.injEq, V.str.injEq, V.bl.injEq, HO.lst.injEq, HO.tup.injEq, ex_bl, List.cons.injEq, and_true, true_and, Nat.reduceAdd, Nat.reduceSub, reduceCtorEq, false_and, or_false, exists_false, false_or, decide_eq_true_eq, if_true, if_false, Bool.false_eq_true, Bool.not_true, Bool.not_false, upd_same])
local macro_rules | `(tactic| walk_at "rdh") => `(tactic| simp only [rd_seq, rd_next, rd_brk, rd_cont, rd_asg, rd_gname, rd_var, rd_c, rd_op, rd_un, rd_rI0, rd_rI, rd_rU, rd_test, rd_B, rd_and, rd_or, rd_not, rd_andV, rd_orV, rd_notV, rd_ifx, rd_ifs, rd_drop, rd_ret, rd_nil, rd_cons, rd_cb, rd_tup, rd_lst, rd_call, rd_bm, rd_app, rd_ixLst, rd_ixSq, rd_lenL, rd_lenSq, rd_setLst, rd_sub, rd_neNil, rd_isStr, rd_dg, rd_dp, rd_mk, rd_sl, rd_noP, rd_part, rd_slL, rd_cat, rd_lcL, rd_lcE, rd_lcA, rd_lcEA, rd_isTy, rd_inRow, rd_bm0, rd_rz, rd_lockE, rd_lcK, rd_dgetD, rd_ixTp, rd_lenUn,  L2.valV_put, rd_fldS, rd_eq, rd_ne, rd_fldE, rd_allB, rd_isBl, rd_inS, rd_chain, rd_chain', L2.wipe, Int.reduceToNat, Int.reduceLE, Int.reduceLT, Nat.reduceLT, Nat.reduceLeDiff, Int.reduceNeg, Int.toNat_natCast, Int.reduceAdd, L2.start, and_assoc, exists_and_left, List.map_cons, List.map_nil, List.length_cons, List.length_nil, List.cons_append, List.nil_append, List.append_nil, List.replicate_succ, List.replicate_zero, List.replicate, List.set_cons_zero, List.set_cons_succ, List.getElem?_cons_zero, List.getElem?_cons_succ, Option.some.injEq, exists_eq_left', exists_eq_left, exists_eq, V.int.injEq, V.ref.injEq, V.str.injEq, V.bl.injEq, HO.lst.injEq, HO.tup.injEq, ex_bl, List.cons.injEq, and_true, true_and, Nat.reduceAdd, Nat.reduceSub, reduceCtorEq, false_and, or_false, exists_false, false_or, decide_eq_true_eq, if_true, if_false, Bool.false_eq_true, Bool.not_true, Bool.not_false, upd_same, *])
/-- the parts of a deed -/
inductive Pt where
  | w | o | a | wh | as | ps | c | g | s
  deriving DecidableEq
def Pt.name : Pt → Str
  | .w => "word"
  | .o => "opens"
  | .a => "answers"
  | .wh => "whose"
  | .as => "asks"
  | .ps => "pays"
  | .c => "card"
  | .g => "goals"
  | .s => "steps"
def Pt.ix : Pt → Nat
  | .w => 0
  | .o => 1
  | .a => 2
  | .wh => 3
  | .as => 4
  | .ps => 5
  | .c => 6
  | .g => 7
  | .s => 8
def pts : List Pt := [.w, .o, .a, .wh, .as, .ps, .c, .g, .s]
theorem pts_names : partNames = pts.map Pt.name := rfl
theorem Pt.mem (p : Pt) : p ∈ pts := by cases p <;> simp [pts]
theorem pts_ix : ∀ p : Pt, pts[p.ix]? = some p := by intro p; cases p <;> rfl
theorem name_inj : ∀ {p q : Pt}, p.name = q.name → p = q := by
  have z : ∀ p ∈ pts, ∀ q ∈ pts, p.name = q.name → p = q := by decide +kernel
  exact fun {p q} h => z p p.mem q q.mem h
structure Vs where
  w : V
  o : V
  a : V
  wh : V
  as : V
  ps : V
  c : V
  g : V
  s : V
def Vs.get (v : Vs) : Pt → V
  | .w => v.w
  | .o => v.o
  | .a => v.a
  | .wh => v.wh
  | .as => v.as
  | .ps => v.ps
  | .c => v.c
  | .g => v.g
  | .s => v.s
def Vs.put (v : Vs) (p : Pt) (x : V) : Vs := match p with
  | .w => { v with w := x }
  | .o => { v with o := x }
  | .a => { v with a := x }
  | .wh => { v with wh := x }
  | .as => { v with as := x }
  | .ps => { v with ps := x }
  | .c => { v with c := x }
  | .g => { v with g := x }
  | .s => { v with s := x }
theorem Vs.get_put_same (v : Vs) (p : Pt) (x : V) : (v.put p x).get p = x := by cases p <;> rfl
theorem Vs.get_put_ne (v : Vs) {p q : Pt} (x : V) (h : q ≠ p) : (v.put p x).get q = v.get q := by
  cases p <;> cases q <;> first | rfl | exact absurd rfl h
def vk (v : Vs) : List (Key × V) := [(.inr "word", v.w), (.inr "opens", v.o), (.inr "goals", v.g), (.inr "card", v.c), (.inr "answers", v.a), (.inr "whose", v.wh), (.inr "asks", v.as), (.inr "pays", v.ps), (.inr "steps", v.s)]
theorem vk_put (v : Vs) (p : Pt) (x : V) : putK (vk v) (.inr p.name) x = vk (v.put p x) := by cases p <;> rfl
theorem vk_get (v : Vs) (p : Pt) : valV (vk v) (.inr p.name) = some (v.get p) := by cases p <;> rfl
theorem vk_val {v : Vs} : ∀ (n : Nat) (e : Key × V), (vk v)[n]? = some e → valV (vk v) e.1 = some e.2 := by
  intro n e h
  have hn : n < 9 := (List.getElem?_eq_some_iff.mp h).1
  have : n = 0 ∨ n = 1 ∨ n = 2 ∨ n = 3 ∨ n = 4 ∨ n = 5 ∨ n = 6 ∨ n = 7 ∨ n = 8 := by omega
  rcases this with rfl | rfl | rfl | rfl | rfl | rfl | rfl | rfl | rfl <;> (obtain rfl := Option.some.inj h; rfl)
theorem vk_merge (v : Vs) : mergeK [] (vk v) = vk v := rfl
/-- right values, those of a deed's parts -/
structure Good (K : PySem.W.Frag) (H : Hp) (v : Vs) (d : Dv) : Prop where
  w : v.w = .str d.word
  o : v.o = .bl d.opens
  a : ∃ an, v.a = .ref an ∧ Row K H an (d.ans.map V.str)
  wh : v.wh = .str d.whose
  as : CntV H v.as d.asks
  ps : CntV H v.ps d.pays
  c : v.c = .bl d.card
  g : ∃ go, v.g = .ref go ∧ Row K H go (d.goals.map V.str)
  s : ∃ (st : Addr) (ps : List Addr), v.s = .ref st ∧ Row K H st (ps.map V.ref) ∧ Paired (StpAt H) ps d.steps
theorem Good.same {K : PySem.W.Frag} {H H' : Hp} {v : Vs} {d : Dv} (h : Good K H v d) (s : Same H H') : Good K H' v d where
  w := h.w
  o := h.o
  a := let ⟨an, e, r⟩ := h.a; ⟨an, e, r.same s⟩
  wh := h.wh
  as := h.as.same s
  ps := h.ps.same s
  c := h.c
  g := let ⟨an, e, r⟩ := h.g; ⟨an, e, r.same s⟩
  s := let ⟨st, ps, e, r, p⟩ := h.s; ⟨st, ps, e, r.same s, Paired.mono (fun _ _ z => ⟨s _ _ z.1, z.2⟩) p⟩
theorem strs_id (ws : List Str) : (ws.map V.str).map strOf = ws := by
  rw [List.map_map]
  exact (List.map_congr_left (fun _ _ => rfl)).trans (List.map_id ws)
theorem wds_good {K : PySem.W.Frag} {H : Hp} {m : Nat} {v : V} {ws : List Str} (h : ∃ an, v = .ref an ∧ Row K H an (ws.map V.str)) (ok : okWords m ws) (hm : m ≤ 100) : WdsR K H m v true := by
  obtain ⟨an, rfl, r⟩ := h
  have l := ok.1
  refine .inr ⟨an, _, rfl, r, by rw [List.length_map]; omega, fun x hx => ?_, ?_⟩
  · obtain ⟨y, hy, rfl⟩ := List.mem_map.mp hx
    exact ⟨rfl, fun z e => by cases e; exact word_len (ok.2.2 y hy)⟩
  · have e := words_true ok
    unfold wdsOk
    rw [strs_id, List.length_map, List.all_map]
    exact e.symm
theorem cnt_good {H : Hp} {v : V} {ks : List (Str × Int)} (h : CntV H v ks) (ok : okCounts ks) : CntR H v true := by
  rcases h with ⟨rfl, rfl⟩ | ⟨a, rfl, h1⟩
  · exact .inl ⟨rfl, rfl⟩
  · have l := ok.1
    refine .inr (.inr (.inl ⟨a, _, rfl, h1, by rw [List.length_map]; omega, ?_, fun e he => ?_, ?_⟩))
    · have z : (ks.map entK).map (·.1) = (ks.map (·.1)).map Sum.inr := by rw [List.map_map, List.map_map]; rfl
      rw [z]
      exact List.Pairwise.map _ (fun a b n e => n (Sum.inr.inj e)) ok.2.1
    · obtain ⟨f, hf, rfl⟩ := List.mem_map.mp he
      exact ⟨(ok.2.2 f hf).2, True.intro⟩
    · have e := counts_true ok
      rw [List.length_map, List.all_map]
      exact e.symm
/-- a value that the part cannot have, by the part -/
def OddQ (K : PySem.W.Frag) (G : Hp) (v : V) : Pt → Prop
  | .w => Ty G v ∧ isWord v = false
  | .o => (tyS G v).isSome = true ∧ isBl v = false
  | .c => (tyS G v).isSome = true ∧ isBl v = false
  | .a => WdsR K G 6 v false
  | .wh => Ty G v ∧ hasS whs v = false
  | .as => CntR G v false
  | .ps => CntR G v false
  | .g => GoR K G v none
  | .s => ∀ g, StsR K G g v false
theorem odd_pt {K : PySem.W.Frag} {G : Hp} {p : Pt} {v : V} (h : OddP K G p.name v) : OddQ K G v p := by
  unfold OddP at h
  cases p <;> simp only [Pt.name] at h
  all_goals
    repeat (first | rw [if_pos (by decide +kernel)] at h | rw [if_neg (by decide +kernel)] at h)
  all_goals exact h
theorem OddQ.same {K : PySem.W.Frag} {G H : Hp} {p : Pt} {v : V} (h : OddQ K G v p) (s : Same G H) : OddQ K H v p := by
  cases p
  case w => exact ⟨h.1.same s, h.2⟩
  case o => exact ⟨tyS_some h.1 s, h.2⟩
  case c => exact ⟨tyS_some h.1 s, h.2⟩
  case a => exact WdsR.same h s
  case wh => exact ⟨h.1.same s, h.2⟩
  case as => exact CntR.same h s
  case ps => exact CntR.same h s
  case g => exact GoR.same h s
  case s => exact fun g => (h g).same s
theorem DBad.same {K : PySem.W.Frag} {H H' : Hp} {w o an wh aV pV ca go st : V} {m : Str} (h : DBad K H w o an wh aV pV ca go st m) (s : Same H H') : DBad K H' w o an wh aV pV ca go st m := by
  obtain ⟨tw, h⟩ := h
  refine ⟨tw.same s, ?_⟩
  rcases h with h | ⟨e, to, h⟩
  · exact .inl h
  refine .inr ⟨e, tyS_some to s, ?_⟩
  rcases h with h | ⟨e, h⟩
  · exact .inl h
  refine .inr ⟨e, ?_⟩
  rcases h with ⟨h, e⟩ | ⟨ha, twh, h⟩
  · exact .inl ⟨h.same s, e⟩
  refine .inr ⟨ha.same s, twh.same s, ?_⟩
  rcases h with h | ⟨e, h⟩
  · exact .inl h
  refine .inr ⟨e, ?_⟩
  rcases h with ⟨h, e⟩ | ⟨hk, h⟩
  · exact .inl ⟨h.same s, e⟩
  refine .inr ⟨hk.same s, ?_⟩
  rcases h with ⟨h, e⟩ | ⟨hp, tc, h⟩
  · exact .inl ⟨h.same s, e⟩
  refine .inr ⟨hp.same s, tyS_some tc s, ?_⟩
  rcases h with h | ⟨e, h⟩
  · exact .inl h
  refine .inr ⟨e, ?_⟩
  rcases h with ⟨h, e⟩ | ⟨n, hg, hs, e⟩
  · exact .inl ⟨h.same s, e⟩
  · exact .inr ⟨n, hg.same s, hs.same s, e⟩
/-- the parts ahead are right, this one is odd: it is told -/
theorem dbad_of {K : PySem.W.Frag} {H : Hp} {v0 v : Vs} {d : Dv} {p : Pt} (hg : Good K H v0 d) (ok : d.Ok) (he : ∀ q : Pt, q.ix < p.ix → v.get q = v0.get q) (ho : OddQ K H (v.get p) p) : DBad K H v.w v.o v.a v.wh v.as v.ps v.c v.g v.s p.name := by
  have gw : 0 < p.ix → Ty H v.w ∧ isWord v.w = true := fun h => by
    rw [show v.w = v0.w from he .w h, hg.w]
    exact ⟨⟨rfl, fun y e => by cases e; exact word_len ok.word⟩, ok.word⟩
  have go : 1 < p.ix → (tyS H v.o).isSome = true ∧ isBl v.o = true := fun h => by
    rw [show v.o = v0.o from he .o h, hg.o]
    exact ⟨rfl, rfl⟩
  have ga : 2 < p.ix → WdsR K H 6 v.a true := fun h => by
    rw [show v.a = v0.a from he .a h]
    exact wds_good (m := 6) hg.a ok.ans (by decide)
  have gwh : 3 < p.ix → Ty H v.wh ∧ hasS whs v.wh = true := fun h => by
    rw [show v.wh = v0.wh from he .wh h, hg.wh]
    refine ⟨⟨rfl, fun y e => ?_⟩, ok.whose⟩
    cases e
    have z : whs.contains d.whose = true := ok.whose
    rw [List.contains_iff_mem] at z
    simp only [whs, List.mem_cons, List.not_mem_nil, or_false] at z
    rcases z with e | e | e <;> rw [e] <;> decide +kernel
  have gas : 4 < p.ix → CntR H v.as true := fun h => by
    rw [show v.as = v0.as from he .as h]
    exact cnt_good hg.as ok.asks
  have gps : 5 < p.ix → CntR H v.ps true := fun h => by
    rw [show v.ps = v0.ps from he .ps h]
    exact cnt_good hg.ps ok.pays
  have gc : 6 < p.ix → (tyS H v.c).isSome = true ∧ isBl v.c = true := fun h => by
    rw [show v.c = v0.c from he .c h, hg.c]
    exact ⟨rfl, rfl⟩
  have gg : 7 < p.ix → GoR K H v.g (some d.goals.length) := fun h => by
    rw [show v.g = v0.g from he .g h]
    obtain ⟨a, e, r⟩ := hg.g
    refine .inr ⟨a, d.goals, e, r, wds_good (m := 2) hg.g ok.goals (by decide), ?_⟩
    rw [ok.goal]
    rfl
  cases p
  case w => exact ⟨ho.1, .inl ⟨ho.2, rfl⟩⟩
  case o =>
    have z := gw (by decide)
    exact ⟨z.1, .inr ⟨z.2, ho.1, .inl ⟨ho.2, rfl⟩⟩⟩
  case a =>
    have z := gw (by decide); have z1 := go (by decide)
    exact ⟨z.1, .inr ⟨z.2, z1.1, .inr ⟨z1.2, .inl ⟨ho, rfl⟩⟩⟩⟩
  case wh =>
    have z := gw (by decide); have z1 := go (by decide)
    exact ⟨z.1, .inr ⟨z.2, z1.1, .inr ⟨z1.2, .inr ⟨ga (by decide), ho.1, .inl ⟨ho.2, rfl⟩⟩⟩⟩⟩
  case as =>
    have z := gw (by decide); have z1 := go (by decide); have z2 := gwh (by decide)
    exact ⟨z.1, .inr ⟨z.2, z1.1, .inr ⟨z1.2, .inr ⟨ga (by decide), z2.1, .inr ⟨z2.2, .inl ⟨ho, rfl⟩⟩⟩⟩⟩⟩
  case ps =>
    have z := gw (by decide); have z1 := go (by decide); have z2 := gwh (by decide)
    exact ⟨z.1, .inr ⟨z.2, z1.1, .inr ⟨z1.2, .inr ⟨ga (by decide), z2.1, .inr ⟨z2.2, .inr ⟨gas (by decide), .inl ⟨ho, rfl⟩⟩⟩⟩⟩⟩⟩
  case c =>
    have z := gw (by decide); have z1 := go (by decide); have z2 := gwh (by decide)
    exact ⟨z.1, .inr ⟨z.2, z1.1, .inr ⟨z1.2, .inr ⟨ga (by decide), z2.1, .inr ⟨z2.2, .inr ⟨gas (by decide), .inr ⟨gps (by decide), ho.1, .inl ⟨ho.2, rfl⟩⟩⟩⟩⟩⟩⟩⟩
  case g =>
    have z := gw (by decide); have z1 := go (by decide); have z2 := gwh (by decide); have z3 := gc (by decide)
    exact ⟨z.1, .inr ⟨z.2, z1.1, .inr ⟨z1.2, .inr ⟨ga (by decide), z2.1, .inr ⟨z2.2, .inr ⟨gas (by decide), .inr ⟨gps (by decide), z3.1, .inr ⟨z3.2, .inl ⟨ho, rfl⟩⟩⟩⟩⟩⟩⟩⟩⟩
  case s =>
    have z := gw (by decide); have z1 := go (by decide); have z2 := gwh (by decide); have z3 := gc (by decide)
    exact ⟨z.1, .inr ⟨z.2, z1.1, .inr ⟨z1.2, .inr ⟨ga (by decide), z2.1, .inr ⟨z2.2, .inr ⟨gas (by decide), .inr ⟨gps (by decide), z3.1, .inr ⟨z3.2, .inr ⟨_, gg (by decide), ho _, rfl⟩⟩⟩⟩⟩⟩⟩⟩⟩
end My

set_option Elab.async false
set_option linter.all false
set_option maxRecDepth 100000
set_option maxHeartbeats 4000000
namespace My
open PySem PySem.Spec PyProof.Rows L2
theorem rd_makeK {C : Addr} {n m : Nat} {sp : Sp} {gV : List V → List V → List V} {E : XK} {t tk : TA} {σ : L2.St} {H : Hp} {Q : VK} : tMakeK C n m sp gV E t tk σ H Q = t σ H fun vs H1 => tk σ H1 fun zs H2 => vs.length = n ∧ zs.length = m ∧ ∀ x dx, H2 x = none → H2 dx = none → dx ≠ x →
  sp (gV (.ref x :: vs) zs) (upd (upd H2 dx (.own x)) x (.ins C dx [])) (fun v H3 => v = .non ∧ Q (.ref x) H3) E := rfl
theorem rd_xf {a : Addr} {cls : Value} {d : Option Addr} {C : Addr} {f : Str} {te : TE} {σ : L2.St} {H : Hp} {Q : VK} : tXf a cls d C f te σ H Q = te σ H fun x H1 => x = .ref a ∧ cls = .ref C ∧ ∃ (dd : Addr) (fs : List (Str × V)) (v : V), d = some dd ∧ H1 dd = some (.xd fs) ∧ fs.lookup f = some v ∧ Q v H1 := rfl
local macro_rules | `(tactic| walk_at "rd") => `(tactic| simp only [rd_seq, rd_next, rd_brk, rd_cont, rd_asg, rd_gname, rd_var, rd_c, rd_op, rd_un, rd_rI0, rd_rI, rd_rU, rd_test, rd_B, rd_and, rd_or, rd_not, rd_andV, rd_orV, rd_notV, rd_ifx, rd_ifs, rd_drop, rd_ret, rd_nil, rd_cons, rd_cb, rd_tup, rd_lst, rd_call, rd_bm, rd_app, rd_ixLst, rd_ixSq, rd_lenL, rd_lenSq, rd_setLst, rd_sub, rd_neNil, rd_isStr, rd_dg, rd_dp, rd_mk, rd_sl, rd_noP, rd_part, rd_slL, rd_cat, rd_lcL, rd_lcE, rd_lcA, rd_lcEA, rd_isTy, rd_inRow, rd_bm0, rd_makeK, rd_xf, rd_rz, rd_lockE, rd_lcK, rd_dgetD, rd_ixTp, rd_lenUn,  L2.valV_put, rd_fldS, rd_eq, rd_ne, rd_fldE, rd_allB, rd_isBl, rd_inS, rd_chain, rd_chain', L2.wipe, Int.reduceToNat, Int.reduceLE, Int.reduceLT, Nat.reduceLT, Nat.reduceLeDiff, Int.reduceNeg, Int.toNat_natCast, Int.reduceAdd, L2.start, and_assoc, exists_and_left, List.map_cons, List.map_nil, List.length_cons, List.length_nil, List.cons_append, List.nil_append, List.append_nil, List.replicate_succ, List.replicate_zero, List.replicate, List.set_cons_zero, List.set_cons_succ, List.getElem?_cons_zero, List.getElem?_cons_succ, Option.some.injEq, exists_eq_left', exists_eq_left, exists_eq, V.int.injEq, V.ref.injEq, V.str.injEq, V.bl.injEq, HO.lst.injEq, HO.tup.injEq, ex_bl, List.cons.injEq, and_true, true_and, Nat.reduceAdd, Nat.reduceSub, reduceCtorEq, false_and, or_false, exists_false, false_or, decide_eq_true_eq, if_true, if_false, Bool.false_eq_true, Bool.not_true, Bool.not_false, upd_same])
local macro_rules | `(tactic| walk_at "rdh") => `(tactic| simp only [rd_seq, rd_next, rd_brk, rd_cont, rd_asg, rd_gname, rd_var, rd_c, rd_op, rd_un, rd_rI0, rd_rI, rd_rU, rd_test, rd_B, rd_and, rd_or, rd_not, rd_andV, rd_orV, rd_notV, rd_ifx, rd_ifs, rd_drop, rd_ret, rd_nil, rd_cons, rd_cb, rd_tup, rd_lst, rd_call, rd_bm, rd_app, rd_ixLst, rd_ixSq, rd_lenL, rd_lenSq, rd_setLst, rd_sub, rd_neNil, rd_isStr, rd_dg, rd_dp, rd_mk, rd_sl, rd_noP, rd_part, rd_slL, rd_cat, rd_lcL, rd_lcE, rd_lcA, rd_lcEA, rd_isTy, rd_inRow, rd_bm0, rd_makeK, rd_xf, rd_rz, rd_lockE, rd_lcK, rd_dgetD, rd_ixTp, rd_lenUn,  L2.valV_put, rd_fldS, rd_eq, rd_ne, rd_fldE, rd_allB, rd_isBl, rd_inS, rd_chain, rd_chain', L2.wipe, Int.reduceToNat, Int.reduceLE, Int.reduceLT, Nat.reduceLT, Nat.reduceLeDiff, Int.reduceNeg, Int.toNat_natCast, Int.reduceAdd, L2.start, and_assoc, exists_and_left, List.map_cons, List.map_nil, List.length_cons, List.length_nil, List.cons_append, List.nil_append, List.append_nil, List.replicate_succ, List.replicate_zero, List.replicate, List.set_cons_zero, List.set_cons_succ, List.getElem?_cons_zero, List.getElem?_cons_succ, Option.some.injEq, exists_eq_left', exists_eq_left, exists_eq, V.int.injEq, V.ref.injEq, V.str.injEq, V.bl.injEq, HO.lst.injEq, HO.tup.injEq, ex_bl, List.cons.injEq, and_true, true_and, Nat.reduceAdd, Nat.reduceSub, reduceCtorEq, false_and, or_false, exists_false, false_or, decide_eq_true_eq, if_true, if_false, Bool.false_eq_true, Bool.not_true, Bool.not_false, upd_same, *])
theorem FnOk.or {P : Program} {w : World} {K : PySem.W.Frag} {mg : Str → Option Value} {base : Heap} {CX : CXT} {k : Nat} {f : Addr} {fd : FuncData} {ps : List Str} {sp sp' : Sp} (F : FnOk P w K mg base CX k f fd ps sp) (F' : FnOk P w K mg base CX k f fd ps sp') :
    FnOk P w K mg base CX k f fd ps (fun vs H Q E => sp vs H Q E ∨ sp' vs H Q E) :=
  ⟨fun vs H Q E h => h.elim (F.len vs H Q E) (F'.len vs H Q E), fun A outer s H args us vs Q E hr he hb hv hs => hs.elim (F.run A outer s H args us vs Q E hr he hb hv) (F'.run A outer s H args us vs Q E hr he hb hv)⟩
abbrev psDI : List Str := ["self", "word", "opens", "answers", "whose", "asks", "pays", "card", "goals", "steps"]
def spDIo (K : PySem.W.Frag) (C CB : Addr) : Sp := fun vs H Q E => spDIx K C CB vs H Q E ∨ spDI K C vs H Q E
/-- the class Deed as it is made, or refused -/
structure DdO (P : Program) (w : World) (K : PySem.W.Frag) (mg : Str → Option Value) (base : Heap) (C CB : Addr) where
  f : Addr
  fd : FuncData
  G : FnOk P w K mg base (L2.CX P w) 5 f fd psDI (spDIo K C CB)
  M : Mk K C f
  g : mg "Deed" = some (.ref C)
  gk : List Value → List Value → List Value
  b2 : KBn K fd psDI 2 ["opens", "answers", "whose", "asks", "pays", "card", "goals", "steps"] gk (fun vs zs => vs ++ zs)
abbrev sTry : Stmt := topI 29
abbrev NTry : List Str := ["values", "e"]
theorem scTry : FnScope NTry ["values"] (defScope sTry) := ⟨rfl, rfl, rfl, by decide +kernel, rfl, by decide +kernel, by decide +kernel⟩
def spTry (K : PySem.W.Frag) : Sp := fun vs H Q _ => ∃ (d : Addr) (v : Vs), vs = [.ref d] ∧ H d = some (.dK (vk v)) ∧
  ((∃ m : Str, DBad K H v.w v.o v.a v.wh v.as v.ps v.c v.g v.s m ∧ ∀ (l : Addr) (H' : Hp), H l = none → Same H H' → H' l = some (.lst [.str m, .bl true]) → Q (.ref l) H') ∨
   ∃ e : Dv, Good K H v e ∧ e.Ok ∧ ∀ H', Same H H' → Q (.str "taken") H')
section
variable {P : Program} {w : World} {K : PySem.W.Frag} {mg : Str → Option Value} {base : Heap}
theorem ok_try {f C aP : Addr} {fd : FuncData} (F : Fun K "_law_tried" "_law_tried" sTry f fd) (B : Bn mg) (TB : Xc K mg "BadDeed" "part" "BadDeed.__init__" sBD) (MD : DdO P w K mg base C TB.C) (gP : mg "PileError" = some (.ref aP))
    (hne : TB.C ≠ aP) (kP : PySem.W.kitCls K (.ref TB.C) (.ref aP) = some true) (xm : PySem.W.exmOne K (.ref TB.C) (.ref TB.C) = some true) : FnOk P w K mg base CX0 7 f fd ["values"] (spTry K) := by
  refine F.ok scTry (fun vs H Q E h => ?_) (fun cdv A outer s H vs Q E hr h => ?_)
  · obtain ⟨d, v, rfl, _⟩ := h
    rfl
  · obtain ⟨d, v, rfl, hd, h⟩ := h
    have hu64 := hr.units
    have hr6 := hr
    refine ⟨_, pss_cons (ps_try_as (i := 1) (Wout := fun _ _ _ _ => False) rfl rfl scTry.nd rfl rfl ⟨rfl, by decide, Or.inl TB.g⟩ takes0
        (fun W pn xe tk _ => pss_one (ps_expr (pe_makeK (x := "Deed") (E := fun cls d H => ∀ σ : L2.St, σ.length = 2 → W cls d σ H) MD.M MD.G hr6 rfl MD.g MD.b2 (passAll tk) (pa_cons (pe_dg hu64 (pv 0) pe_str) pa_nil) (pk_cons (pe_dg hu64 (pv 0) pe_str) (pk_cons (pe_dg hu64 (pv 0) pe_str) (pk_cons (pe_dg hu64 (pv 0) pe_str) (pk_cons (pe_dg hu64 (pv 0) pe_str) (pk_cons (pe_dg hu64 (pv 0) pe_str) (pk_cons (pe_dg hu64 (pv 0) pe_str) (pk_cons (pe_dg hu64 (pv 0) pe_str) (pk_cons (pe_dg hu64 (pv 0) pe_str) pk_nil)))))))))))
        (ts := fun a cls d => tRet (tLst (tCons (tXf a cls d TB.C "part" (tVar 1)) (tCons (tCB (fun vs H Q => cls = .ref TB.C ∧ vs = [.ref a, .ref aP] ∧ Q (.bl true) H) (tCons (tVar 1) (tCons (tC (.ref aP)) tNil))) tNil))))
        (fun a oe cls d pn hz hf => pss_one (ps_ret (pe_lst (pa_cons (pe_xf TB.xf TB.no hz hf (pv 1)) (pa_cons (pe_callB (call_isUp (D := TB.C) (d := d) hz hne kP) (by rfl) B.isinstance (by decide +kernel) (pa_cons (pv 1) (pa_cons (pe_gR gP) pa_nil))) pa_nil))))))
      (pss_one (ps_ret pe_str)), ?_⟩
    walk_at "rd"
    refine ⟨_, hd, _, rfl, _, hd, _, rfl, _, hd, _, rfl, _, hd, _, rfl, _, hd, _, rfl, _, hd, _, rfl, _, hd, _, rfl, _, hd, _, rfl, _, hd, _, rfl, fun x dx hx hdx hxd => ?_⟩
    have s0 : Same H (upd (upd H dx (.own x)) x (.ins C dx [])) := My.Same.new' (My.Same.new (Same.refl H) hdx) (by rw [upd_ne (Ne.symm hxd)]; exact hx)
    rcases h with ⟨m, hb, q⟩ | ⟨e, hg, ok, q⟩
    · refine .inl ⟨x, dx, v.w, v.o, v.a, v.wh, v.as, v.ps, v.c, v.g, v.s, m, rfl, upd_same, hb.same s0, fun dd H' hn sm hdd σ hσ => ?_⟩
      have s1 : Same H H' := s0.trans sm
      refine ⟨true, xm, fun _ a ha => ?_, fun e => Bool.noConfusion e⟩
      have hv : (σ.set 1 (some (V.ref a)))[1]? = some (some (V.ref a)) := by
        rw [List.getElem?_set_self (by omega)]
      walk_at "rd"
      refine ⟨_, hv, rfl, _, hdd, .str m, rfl, _, hv, rfl, sz (by decide), fun l hl => ?_⟩
      exact q l _ (s1.free hl) (My.Same.new' s1 hl) upd_same
    · have g1 := hg.same s0
      obtain ⟨an, ea, ra⟩ := g1.a
      obtain ⟨go, eg, rg⟩ := g1.g
      obtain ⟨st, ps, es, rs, hps⟩ := g1.s
      refine .inr ⟨x, dx, an, go, st, ps, v.as, v.ps, e, ?_, upd_same, ok, ra, g1.as, g1.ps, rg, rs, hps, fun H' ta tk tp tg ts _ keep _ _ _ _ _ => ⟨rfl, ?_⟩⟩
      · rw [← ea, ← eg, ← es, ← g1.w, ← g1.o, ← g1.wh, ← g1.c]
      · exact q H' fun b o h => keep b o (ne_of_none h hx) (s0 b o h)
end
end My

set_option Elab.async false
set_option linter.all false
set_option maxRecDepth 100000
set_option maxHeartbeats 4000000
namespace My
open PySem PySem.Spec PyProof.Rows L2
local macro_rules | `(tactic| walk_at "rd") => `(tactic| simp only [rd_seq, rd_next, rd_brk, rd_cont, rd_asg, rd_gname, rd_var, rd_c, rd_op, rd_un, rd_rI0, rd_rI, rd_rU, rd_test, rd_B, rd_and, rd_or, rd_not, rd_andV, rd_orV, rd_notV, rd_ifx, rd_ifs, rd_drop, rd_ret, rd_nil, rd_cons, rd_cb, rd_tup, rd_lst, rd_call, rd_bm, rd_app, rd_ixLst, rd_ixSq, rd_lenL, rd_lenSq, rd_setLst, rd_sub, rd_neNil, rd_isStr, rd_dg, rd_dp, rd_mk, rd_sl, rd_noP, rd_part, rd_slL, rd_cat, rd_lcL, rd_lcE, rd_lcA, rd_lcEA, rd_isTy, rd_ixT, rd_inRow, rd_bm0, rd_rz, rd_isD, rd_lockE, rd_lcK, rd_dgetD, rd_ixTp, rd_lenUn,  L2.valV_put, rd_fldS, rd_eq, rd_ne, rd_fldE, rd_allB, rd_isBl, rd_inS, rd_chain, rd_chain', L2.wipe, Int.reduceToNat, Int.reduceLE, Int.reduceLT, Nat.reduceLT, Nat.reduceLeDiff, Int.reduceNeg, Int.toNat_natCast, Int.reduceAdd, L2.start, and_assoc, exists_and_left, List.map_cons, List.map_nil, List.length_cons, List.length_nil, List.cons_append, List.nil_append, List.append_nil, List.replicate_succ, List.replicate_zero, List.replicate, List.set_cons_zero, List.set_cons_succ, List.getElem?_cons_zero, List.getElem?_cons_succ, Option.some.injEq, exists_eq_left', exists_eq_left, exists_eq, V.int.injEq, V.ref.injEq, V.str.injEq, V.bl.injEq, HO.lst.injEq, HO.tup.injEq, ex_bl, List.cons.injEq, and_true, true_and, Nat.reduceAdd, Nat.reduceSub, reduceCtorEq, false_and, or_false, exists_false, false_or, decide_eq_true_eq, if_true, if_false, Bool.false_eq_true, Bool.not_true, Bool.not_false, upd_same])
local macro_rules | `(tactic| walk_at "rdh") => `(tactic| simp only [rd_seq, rd_next, rd_brk, rd_cont, rd_asg, rd_gname, rd_var, rd_c, rd_op, rd_un, rd_rI0, rd_rI, rd_rU, rd_test, rd_B, rd_and, rd_or, rd_not, rd_andV, rd_orV, rd_notV, rd_ifx, rd_ifs, rd_drop, rd_ret, rd_nil, rd_cons, rd_cb, rd_tup, rd_lst, rd_call, rd_bm, rd_app, rd_ixLst, rd_ixSq, rd_lenL, rd_lenSq, rd_setLst, rd_sub, rd_neNil, rd_isStr, rd_dg, rd_dp, rd_mk, rd_sl, rd_noP, rd_part, rd_slL, rd_cat, rd_lcL, rd_lcE, rd_lcA, rd_lcEA, rd_isTy, rd_ixT, rd_inRow, rd_bm0, rd_rz, rd_isD, rd_lockE, rd_lcK, rd_dgetD, rd_ixTp, rd_lenUn,  L2.valV_put, rd_fldS, rd_eq, rd_ne, rd_fldE, rd_allB, rd_isBl, rd_inS, rd_chain, rd_chain', L2.wipe, Int.reduceToNat, Int.reduceLE, Int.reduceLT, Nat.reduceLT, Nat.reduceLeDiff, Int.reduceNeg, Int.toNat_natCast, Int.reduceAdd, L2.start, and_assoc, exists_and_left, List.map_cons, List.map_nil, List.length_cons, List.length_nil, List.cons_append, List.nil_append, List.append_nil, List.replicate_succ, List.replicate_zero, List.replicate, List.set_cons_zero, List.set_cons_succ, List.getElem?_cons_zero, List.getElem?_cons_succ, Option.some.injEq, exists_eq_left', exists_eq_left, exists_eq, V.int.injEq, V.ref.injEq, V.str.injEq, V.bl.injEq, HO.lst.injEq, HO.tup.injEq, ex_bl, List.cons.injEq, and_true, true_and, Nat.reduceAdd, Nat.reduceSub, reduceCtorEq, false_and, or_false, exists_false, false_or, decide_eq_true_eq, if_true, if_false, Bool.false_eq_true, Bool.not_true, Bool.not_false, upd_same, *])

abbrev sMks : Stmt := topI 24
abbrev NMks : List Str := ["pool", "menu"]
theorem scMks : FnScope NMks ["pool"] (defScope sMks) := ⟨rfl, rfl, rfl, by decide +kernel, rfl, by decide +kernel, by decide +kernel⟩
section
variable {P : Program} {w : World} {K : PySem.W.Frag} {mg : Str → Option Value} {base : Heap}
theorem ok_mks {f : Addr} {fd : FuncData} (F : Fun K "_law_marks" "_law_marks" sMks f fd) (B : Bn mg) (D_pick : Df K mg "_law_pick" sPck ["pool", "some"]) (G_pick : FnOk P w K mg base CX0 2 D_pick.f D_pick.fd ["pool", "some"] spPckB) : FnOk P w K mg base CX0 3 f fd ["pool"] spMks := by
  refine F.ok scMks (fun vs H Q E h => ?_) (fun cdv A outer s H vs Q E hr h => ?_)
  · obtain ⟨p, r, rfl, _⟩ := h
    rfl
  · obtain ⟨p, r, rfl, pl, q⟩ := h
    have hr2 := hr
    refine ⟨_, (pss_cons (ps_set (i := 1) scMks.nd rfl (Or.inl rfl) (pe_lst (pa_cons (pe_lst pa_nil) (pa_cons (pe_lst (pa_cons (pe_tup (pa_cons pe_str (pa_cons pe_int pa_nil))) pa_nil)) (pa_cons (pe_lst (pa_cons (pe_tup (pa_cons pe_str (pa_cons pe_int pa_nil))) pa_nil)) (pa_cons (pe_lst (pa_cons (pe_tup (pa_cons pe_str (pa_cons pe_int pa_nil))) pa_nil)) (pa_cons (pe_lst (pa_cons (pe_tup (pa_cons pe_str (pa_cons pe_int pa_nil))) (pa_cons (pe_tup (pa_cons pe_str (pa_cons pe_int pa_nil))) pa_nil))) (pa_cons (pe_lst (pa_cons (pe_tup (pa_cons pe_str (pa_cons pe_int pa_nil))) (pa_cons (pe_tup (pa_cons pe_str (pa_cons pe_int pa_nil))) pa_nil))) (pa_cons (pe_lst (pa_cons (pe_tup (pa_cons pe_str (pa_cons pe_int pa_nil))) pa_nil)) pa_nil)))))))))
      (pss_one (ps_ret (pe_callTy call_list_of (by rfl) B.list (by decide +kernel) (pa_cons (pc D_pick G_pick hr2 (pa_cons (pv 0) (pa_cons (pv 1) pa_nil))) pa_nil))))), ?_⟩
    refine step_asg ?_
    refine ⟨sz (by simp), fun m0 hm0 => ?_⟩
    have nm0 := My.Same.new (o := .lst []) (Same.refl H) hm0
    have lm0 : upd H m0 (.lst []) m0 = some (.lst []) := upd_same
    generalize upd H m0 (.lst []) = H_1 at *
    refine ⟨sz (by simp), fun t1 ht1 => ?_⟩
    have nt1 := My.Same.new (o := .tup [.str "m", .int 1]) (Same.refl H_1) ht1
    have lt1 : upd H_1 t1 (.tup [.str "m", .int 1]) t1 = some (.tup [.str "m", .int 1]) := upd_same
    generalize upd H_1 t1 (.tup [.str "m", .int 1]) = H_2 at *
    refine ⟨sz (by simp), fun m1 hm1 => ?_⟩
    have nm1 := My.Same.new (o := .lst [.ref t1]) (Same.refl H_2) hm1
    have lm1 : upd H_2 m1 (.lst [.ref t1]) m1 = some (.lst [.ref t1]) := upd_same
    generalize upd H_2 m1 (.lst [.ref t1]) = H_3 at *
    refine ⟨sz (by simp), fun t2 ht2 => ?_⟩
    have nt2 := My.Same.new (o := .tup [.str "m", .int 1]) (Same.refl H_3) ht2
    have lt2 : upd H_3 t2 (.tup [.str "m", .int 1]) t2 = some (.tup [.str "m", .int 1]) := upd_same
    generalize upd H_3 t2 (.tup [.str "m", .int 1]) = H_4 at *
    refine ⟨sz (by simp), fun m2 hm2 => ?_⟩
    have nm2 := My.Same.new (o := .lst [.ref t2]) (Same.refl H_4) hm2
    have lm2 : upd H_4 m2 (.lst [.ref t2]) m2 = some (.lst [.ref t2]) := upd_same
    generalize upd H_4 m2 (.lst [.ref t2]) = H_5 at *
    refine ⟨sz (by simp), fun t3 ht3 => ?_⟩
    have nt3 := My.Same.new (o := .tup [.str "m", .int 2]) (Same.refl H_5) ht3
    have lt3 : upd H_5 t3 (.tup [.str "m", .int 2]) t3 = some (.tup [.str "m", .int 2]) := upd_same
    generalize upd H_5 t3 (.tup [.str "m", .int 2]) = H_6 at *
    refine ⟨sz (by simp), fun m3 hm3 => ?_⟩
    have nm3 := My.Same.new (o := .lst [.ref t3]) (Same.refl H_6) hm3
    have lm3 : upd H_6 m3 (.lst [.ref t3]) m3 = some (.lst [.ref t3]) := upd_same
    generalize upd H_6 m3 (.lst [.ref t3]) = H_7 at *
    refine ⟨sz (by simp), fun t4 ht4 => ?_⟩
    have nt4 := My.Same.new (o := .tup [.str "far", .int 1]) (Same.refl H_7) ht4
    have lt4 : upd H_7 t4 (.tup [.str "far", .int 1]) t4 = some (.tup [.str "far", .int 1]) := upd_same
    generalize upd H_7 t4 (.tup [.str "far", .int 1]) = H_8 at *
    refine ⟨sz (by simp), fun t5 ht5 => ?_⟩
    have nt5 := My.Same.new (o := .tup [.str "m", .int 1]) (Same.refl H_8) ht5
    have lt5 : upd H_8 t5 (.tup [.str "m", .int 1]) t5 = some (.tup [.str "m", .int 1]) := upd_same
    generalize upd H_8 t5 (.tup [.str "m", .int 1]) = H_9 at *
    refine ⟨sz (by simp), fun m4 hm4 => ?_⟩
    have nm4 := My.Same.new (o := .lst [.ref t4, .ref t5]) (Same.refl H_9) hm4
    have lm4 : upd H_9 m4 (.lst [.ref t4, .ref t5]) m4 = some (.lst [.ref t4, .ref t5]) := upd_same
    generalize upd H_9 m4 (.lst [.ref t4, .ref t5]) = H_10 at *
    refine ⟨sz (by simp), fun t6 ht6 => ?_⟩
    have nt6 := My.Same.new (o := .tup [.str "far", .int 2]) (Same.refl H_10) ht6
    have lt6 : upd H_10 t6 (.tup [.str "far", .int 2]) t6 = some (.tup [.str "far", .int 2]) := upd_same
    generalize upd H_10 t6 (.tup [.str "far", .int 2]) = H_11 at *
    refine ⟨sz (by simp), fun t7 ht7 => ?_⟩
    have nt7 := My.Same.new (o := .tup [.str "m", .int 1]) (Same.refl H_11) ht7
    have lt7 : upd H_11 t7 (.tup [.str "m", .int 1]) t7 = some (.tup [.str "m", .int 1]) := upd_same
    generalize upd H_11 t7 (.tup [.str "m", .int 1]) = H_12 at *
    refine ⟨sz (by simp), fun m5 hm5 => ?_⟩
    have nm5 := My.Same.new (o := .lst [.ref t6, .ref t7]) (Same.refl H_12) hm5
    have lm5 : upd H_12 m5 (.lst [.ref t6, .ref t7]) m5 = some (.lst [.ref t6, .ref t7]) := upd_same
    generalize upd H_12 m5 (.lst [.ref t6, .ref t7]) = H_13 at *
    refine ⟨sz (by simp), fun t8 ht8 => ?_⟩
    have nt8 := My.Same.new (o := .tup [.str "m", .int 3]) (Same.refl H_13) ht8
    have lt8 : upd H_13 t8 (.tup [.str "m", .int 3]) t8 = some (.tup [.str "m", .int 3]) := upd_same
    generalize upd H_13 t8 (.tup [.str "m", .int 3]) = H_14 at *
    refine ⟨sz (by simp), fun m6 hm6 => ?_⟩
    have nm6 := My.Same.new (o := .lst [.ref t8]) (Same.refl H_14) hm6
    have lm6 : upd H_14 m6 (.lst [.ref t8]) m6 = some (.lst [.ref t8]) := upd_same
    generalize upd H_14 m6 (.lst [.ref t8]) = H_15 at *
    refine ⟨sz (by simp), fun mn hmn => ?_⟩
    have nmn := My.Same.new (o := .lst [.ref m0, .ref m1, .ref m2, .ref m3, .ref m4, .ref m5, .ref m6]) (Same.refl H_15) hmn
    have lmn : upd H_15 mn (.lst [.ref m0, .ref m1, .ref m2, .ref m3, .ref m4, .ref m5, .ref m6]) mn = some (.lst [.ref m0, .ref m1, .ref m2, .ref m3, .ref m4, .ref m5, .ref m6]) := upd_same
    generalize upd H_15 mn (.lst [.ref m0, .ref m1, .ref m2, .ref m3, .ref m4, .ref m5, .ref m6]) = H_16 at *
    have plm := pl.same (((((((((((((((nm0.trans nt1).trans nm1).trans nt2).trans nm2).trans nt3).trans nm3).trans nt4).trans nt5).trans nm4).trans nt6).trans nt7).trans nm5).trans nt8).trans nm6).trans nmn)
    have r0 : PrL H_16 m0 [] := ⟨[], (((((((((((((((nt1.trans nm1).trans nt2).trans nm2).trans nt3).trans nm3).trans nt4).trans nt5).trans nm4).trans nt6).trans nt7).trans nm5).trans nt8).trans nm6).trans nmn) _ _ lm0), .nil⟩
    have u0 : m0 ≠ p := plm.neO (((((((((((((((nt1.trans nm1).trans nt2).trans nm2).trans nt3).trans nm3).trans nt4).trans nt5).trans nm4).trans nt6).trans nt7).trans nm5).trans nt8).trans nm6).trans nmn) _ _ lm0) (fun _ _ e => by cases e)
    have r1 : PrL H_16 m1 [("m", 1)] := ⟨[t1], (((((((((((((nt2.trans nm2).trans nt3).trans nm3).trans nt4).trans nt5).trans nm4).trans nt6).trans nt7).trans nm5).trans nt8).trans nm6).trans nmn) _ _ lm1), (.cons ((((((((((((((nm1.trans nt2).trans nm2).trans nt3).trans nm3).trans nt4).trans nt5).trans nm4).trans nt6).trans nt7).trans nm5).trans nt8).trans nm6).trans nmn) _ _ lt1) .nil)⟩
    have u1 : m1 ≠ p := plm.neO (((((((((((((nt2.trans nm2).trans nt3).trans nm3).trans nt4).trans nt5).trans nm4).trans nt6).trans nt7).trans nm5).trans nt8).trans nm6).trans nmn) _ _ lm1) (fun _ _ e => by cases e)
    have r2 : PrL H_16 m2 [("m", 1)] := ⟨[t2], (((((((((((nt3.trans nm3).trans nt4).trans nt5).trans nm4).trans nt6).trans nt7).trans nm5).trans nt8).trans nm6).trans nmn) _ _ lm2), (.cons ((((((((((((nm2.trans nt3).trans nm3).trans nt4).trans nt5).trans nm4).trans nt6).trans nt7).trans nm5).trans nt8).trans nm6).trans nmn) _ _ lt2) .nil)⟩
    have u2 : m2 ≠ p := plm.neO (((((((((((nt3.trans nm3).trans nt4).trans nt5).trans nm4).trans nt6).trans nt7).trans nm5).trans nt8).trans nm6).trans nmn) _ _ lm2) (fun _ _ e => by cases e)
    have r3 : PrL H_16 m3 [("m", 2)] := ⟨[t3], (((((((((nt4.trans nt5).trans nm4).trans nt6).trans nt7).trans nm5).trans nt8).trans nm6).trans nmn) _ _ lm3), (.cons ((((((((((nm3.trans nt4).trans nt5).trans nm4).trans nt6).trans nt7).trans nm5).trans nt8).trans nm6).trans nmn) _ _ lt3) .nil)⟩
    have u3 : m3 ≠ p := plm.neO (((((((((nt4.trans nt5).trans nm4).trans nt6).trans nt7).trans nm5).trans nt8).trans nm6).trans nmn) _ _ lm3) (fun _ _ e => by cases e)
    have r4 : PrL H_16 m4 [("far", 1), ("m", 1)] := ⟨[t4, t5], ((((((nt6.trans nt7).trans nm5).trans nt8).trans nm6).trans nmn) _ _ lm4), (.cons ((((((((nt5.trans nm4).trans nt6).trans nt7).trans nm5).trans nt8).trans nm6).trans nmn) _ _ lt4) (.cons (((((((nm4.trans nt6).trans nt7).trans nm5).trans nt8).trans nm6).trans nmn) _ _ lt5) .nil))⟩
    have u4 : m4 ≠ p := plm.neO ((((((nt6.trans nt7).trans nm5).trans nt8).trans nm6).trans nmn) _ _ lm4) (fun _ _ e => by cases e)
    have r5 : PrL H_16 m5 [("far", 2), ("m", 1)] := ⟨[t6, t7], (((nt8.trans nm6).trans nmn) _ _ lm5), (.cons (((((nt7.trans nm5).trans nt8).trans nm6).trans nmn) _ _ lt6) (.cons ((((nm5.trans nt8).trans nm6).trans nmn) _ _ lt7) .nil))⟩
    have u5 : m5 ≠ p := plm.neO (((nt8.trans nm6).trans nmn) _ _ lm5) (fun _ _ e => by cases e)
    have r6 : PrL H_16 m6 [("m", 3)] := ⟨[t8], (nmn _ _ lm6), (.cons ((nm6.trans nmn) _ _ lt8) .nil)⟩
    have u6 : m6 ≠ p := plm.neO (nmn _ _ lm6) (fun _ _ e => by cases e)
    refine ⟨_, rfl, _, rfl, p, r, mn, _, rfl, plm, ((Same.refl _) _ _ lmn), (plm.neO ((Same.refl _) _ _ lmn) (fun _ _ e => by cases e)), by simp, fun x H' bt pl' hx => ?_⟩
    have fin : ∀ (m : Addr) (ks : List (Str × Int)), x = .ref m → m ≠ p → ks ∈ marks7 → PrL H_16 m ks → ∃ (a : Addr) (xs : List V), x = .ref a ∧ SqL K H' a xs ∧ ∀ l, H' l = none → Q (.ref l) (upd H' l (.lst xs)) := by
      rintro m ks rfl nm hk hpr
      obtain ⟨ps, h1, h2⟩ := hpr.bt plm nm bt
      refine ⟨m, _, rfl, SqL.of h1, fun l hl => ?_⟩
      have b0 : Bt p H H' := (Same.bt (((((((((((((((nm0.trans nt1).trans nm1).trans nt2).trans nm2).trans nt3).trans nm3).trans nt4).trans nt5).trans nm4).trans nt6).trans nt7).trans nm5).trans nt8).trans nm6).trans nmn)).trans bt
      exact q l _ ks (b0.none (pl'.ne hl) hl) (pl'.ne hl) (b0.trans (Same.bt (My.Same.new (Same.refl H') hl))) (pl'.same (My.Same.new (Same.refl H') hl)) hk ⟨ps, upd_same, Paired.mono (fun a b z => by rw [upd_ne (ne_of_none z hl)]; exact z) h2⟩
    have fin2 : ∃ (a : Addr) (xs : List V), x = .ref a ∧ SqL K H' a xs ∧ ∀ l, H' l = none → Q (.ref l) (upd H' l (.lst xs)) := by
      simp only [List.mem_cons, List.not_mem_nil, or_false] at hx
      rcases hx with h | h | h | h | h | h | h
      · exact fin m0 _ h u0 (by decide +kernel) r0
      · exact fin m1 _ h u1 (by decide +kernel) r1
      · exact fin m2 _ h u2 (by decide +kernel) r2
      · exact fin m3 _ h u3 (by decide +kernel) r3
      · exact fin m4 _ h u4 (by decide +kernel) r4
      · exact fin m5 _ h u5 (by decide +kernel) r5
      · exact fin m6 _ h u6 (by decide +kernel) r6
    obtain ⟨a, xs, e, hs, hq⟩ := fin2
    exact ⟨a, xs, by rw [e], .inl hs, hq⟩
end
end My

set_option Elab.async false
set_option linter.all false
set_option maxRecDepth 100000
set_option maxHeartbeats 4000000
namespace My
open PySem PySem.Spec PyProof.Rows L2
section
variable {K : PySem.W.Frag} {l p q : Addr} {ks : List (Str × Int)} {ws : List Str} {σ : L2.St} {H : Hp} {Q : VK}
theorem pr_at {H : Hp} {ps : List Addr} {ks : List (Str × Int)} (h : Paired (fun b (e : Str × Int) => H b = some (.tup [.str e.1, .int e.2])) ps ks) : ∀ (i : Nat) (b : Addr), ps[i]? = some b → ∃ e, ks[i]? = some e ∧ H b = some (.tup [.str e.1, .int e.2]) := by
  induction h with
  | nil => intro i b h; simp at h
  | @cons x y l r h _ ih =>
    intro i b e
    cases i with
    | zero => simp at e; subst e; exact ⟨y, rfl, h⟩
    | succ i => simpa using ih i b (by simpa using e)
/-- [mark for mark, end in marks] -/
theorem lc_names (hl : PrL H l ks) (hz : ks.length ≤ 20)
    (hw : ∀ x y, wipe (((wipe σ [11, 12]).set 11 (some x)).set 12 (some y)) [11, 12] = wipe σ [11, 12]) (h1 : ∀ x y, (((wipe σ [11, 12]).set 11 (some x)).set 12 (some y))[11]? = some (some x))
    (qq : ∀ (D : Addr) (H' : Hp), H D = none → Same H H' → H' D = some (.lst ((ks.map (·.1)).map V.str)) → Q (.ref D) H') :
    lcB (Itl K l) (gTup K 2 (gCons (gName 11) (gCons (gName 12) gNil))) tYes (tVar 11) [11, 12] σ H Q := by
  obtain ⟨ps, hl, hp⟩ := hl
  have len : ps.length = ks.length := Paired.length hp
  intro D hD
  refine lc_it (walk_list (xs := ps.map V.ref)) (fun i H' => Same H H' ∧ H' D = some (.lst (((ks.take i).map (·.1)).map V.str))) ⟨My.Same.new (Same.refl H) hD, upd_same⟩ (fun i H' _ h => SqL.of (h.1 _ _ hl)) ?_ ?_
  · rintro i x H' H2 hi ⟨sm, hd⟩ ⟨rfl, hx⟩
    rw [List.getElem?_map] at hx
    obtain ⟨b, hb, rfl⟩ := Option.map_eq_some_iff.mp hx
    obtain ⟨e, he, hbe⟩ := pr_at hp i b hb
    rw [List.length_map] at hi
    refine ⟨b, _, rfl, SqT.of (sm _ _ hbe), rfl, _, _, rfl, _, _, rfl, rfl, hw _ _, ?_⟩
    simp only [tYes, if_true]
    refine ⟨_, h1 _ _, _, hd, szl (by rw [List.length_map, List.length_map, List.length_take]; omega), My.Same.new sm hD, ?_⟩
    rw [upd_same, take_more he, List.map_append, List.map_append]
    rfl
  · rintro H' ⟨sm, hd⟩
    rw [List.length_map, len, List.take_length] at hd
    exact qq D H' hD sm hd
/-- [one for one in words if a draw of m is below c] -/
theorem lc_ans {m c : Int} (hl : H l = some (.lst (ws.map V.str))) (np : l ≠ p) (pl : Pl H p q) (hm : 0 < m) (hz : ws.length ≤ 20)
    (hw : ∀ x, wipe ((wipe σ [13]).set 13 (some x)) [13] = wipe σ [13]) (h1 : ∀ x, ((wipe σ [13]).set 13 (some x))[13]? = some (some x)) (h0 : ∀ x, ((wipe σ [13]).set 13 (some x))[0]? = some (some (.ref p)))
    (qq : ∀ (D : Addr) (H' : Hp) (as : List Str), H D = none → Bt p H H' → Pl H' p q → as.Sublist ws → H' D = some (.lst (as.map V.str)) → Q (.ref D) H') :
    lcB (Itl K l) (gName 13) (tTest (tOp (rI0 fun i j => V.bl (decide (i < j))) (tCall spDrwB [] E0 (tCons (tVar 0) (tCons (tC (V.int m)) tNil))) (tC (V.int c)))) (tVar 13) [13] σ H Q := by
  intro D hD
  have nD := pl.ne hD
  have nQ := pl.neQ hD
  refine lc_it (walk_list (xs := ws.map V.str)) (fun i H' => Bt p H H' ∧ Pl H' p q ∧ ∃ as : List Str, as.Sublist (ws.take i) ∧ H' D = some (.lst (as.map V.str))) ⟨(Bt.refl p H).set hD, pl.set nD nQ, [], List.nil_sublist _, upd_same⟩ (fun i H' _ h => SqL.of (h.1 _ _ np hl)) ?_ ?_
  · rintro i x H' H2 hi ⟨bt, pl', as, sub, hd⟩ ⟨rfl, hx⟩
    rw [List.getElem?_map] at hx
    obtain ⟨s, hs, rfl⟩ := Option.map_eq_some_iff.mp hx
    rw [List.length_map] at hi
    refine ⟨hw _, _, h0 _, p, q, m, rfl, hm, pl', fun r H3 b3 pl3 _ _ => ?_⟩
    have hd3 := b3 _ _ nD hd
    refine ⟨r, c, rfl, rfl, _, rfl, ?_⟩
    have tk := take_more hs
    dsimp only
    split
    · refine ⟨_, h1 _, _, hd3, szl ?_, (bt.trans b3).set hD, pl3.set nD nQ, as ++ [s], ?_, by rw [upd_same, List.map_append]; rfl⟩
      · have := sub.length_le
        rw [List.length_take] at this
        rw [List.length_map]
        omega
      · rw [tk]
        exact sub.append (List.Sublist.refl _)
    · refine ⟨bt.trans b3, pl3, as, ?_, hd3⟩
      rw [tk]
      exact sub.trans (List.sublist_append_left _ _)
  · rintro H' ⟨bt, pl', as, sub, hd⟩
    rw [List.length_map, List.take_length] at sub
    exact qq D H' as hD bt pl' sub hd
/-- drawn counts of some marks -/
def Cnts (ks cs : List (Str × Int)) : Prop := (cs.map (·.1)).Sublist (ks.map (·.1)) ∧ ∀ e ∈ cs, 1 ≤ e.2 ∧ e.2 ≤ 3
theorem lc_cnts {m : Int} (hl : PrL H l ks) (np : l ≠ p) (pl : Pl H p q) (hm : 0 < m) (hz : ks.length ≤ 20) (hk : ∀ e ∈ ks, 1 ≤ e.2 ∧ e.2 ≤ 3)
    (hw : ∀ x y, wipe (((wipe σ [11, 12]).set 11 (some x)).set 12 (some y)) [11, 12] = wipe σ [11, 12]) (h1 : ∀ x y, (((wipe σ [11, 12]).set 11 (some x)).set 12 (some y))[11]? = some (some x)) (h2 : ∀ x y, (((wipe σ [11, 12]).set 11 (some x)).set 12 (some y))[12]? = some (some y)) (h0 : ∀ x y, (((wipe σ [11, 12]).set 11 (some x)).set 12 (some y))[0]? = some (some (.ref p)))
    (qq : ∀ (D : Addr) (H' : Hp) (cs : List (Str × Int)), H D = none → Bt p H H' → Pl H' p q → Cnts ks cs → PrL H' D cs → Q (.ref D) H') :
    lcB (Itl K l) (gTup K 2 (gCons (gName 11) (gCons (gName 12) gNil))) (tTest (tOp L2.rEq (tCall spDrwB [] E0 (tCons (tVar 0) (tCons (tC (V.int m)) tNil))) (tC (V.int 0))))
      (tTup (tCons (tVar 11) (tCons (tOp (rI0 fun i j => V.int (i + j)) (tC (V.int 1)) (tCall spDrwB [] E0 (tCons (tVar 0) (tCons (tVar 12) tNil)))) tNil))) [11, 12] σ H Q := by
  obtain ⟨ps, hl, hp⟩ := hl
  have len : ps.length = ks.length := Paired.length hp
  intro D hD
  have nD := pl.ne hD
  have nQ := pl.neQ hD
  refine lc_it (walk_list (xs := ps.map V.ref)) (fun i H' => Bt p H H' ∧ Pl H' p q ∧ ∃ (cs : List (Str × Int)) (bs : List Addr), (cs.map (·.1)).Sublist ((ks.take i).map (·.1)) ∧ (∀ e ∈ cs, 1 ≤ e.2 ∧ e.2 ≤ 3) ∧ H' D = some (.lst (bs.map V.ref)) ∧ Paired (fun b e => H' b = some (.tup [.str e.1, .int e.2])) bs cs)
    ⟨(Bt.refl p H).set hD, pl.set nD nQ, [], [], List.nil_sublist _, (fun e h => nomatch h), upd_same, .nil⟩ (fun i H' _ h => SqL.of (h.1 _ _ np hl)) ?_ ?_
  · rintro i x H' H2 hi ⟨bt, pl', cs, bs, sub, hc, hd, hb2⟩ ⟨rfl, hx⟩
    rw [List.getElem?_map] at hx
    obtain ⟨b, hb, rfl⟩ := Option.map_eq_some_iff.mp hx
    obtain ⟨e, he, hbe⟩ := pr_at hp i b hb
    have hbe' := bt _ _ (pl.neO hbe (fun _ _ z => by cases z)) hbe
    have hke := hk e (List.mem_of_getElem? he)
    rw [List.length_map] at hi
    refine ⟨b, _, rfl, SqT.of hbe', rfl, _, _, rfl, _, _, rfl, rfl, hw _ _, _, h0 _ _, p, q, m, rfl, hm, pl', fun r H3 b3 pl3 _ _ => ?_⟩
    have hd3 := b3 _ _ nD hd
    have hb3 := Paired.mono (fun a b z => b3 a _ (pl'.neO z (fun _ _ z => by cases z)) z) hb2
    refine ⟨rfl, _, rfl, ?_⟩
    have tk := take_more he
    dsimp only
    split
    · refine ⟨_, h1 _ _, _, h0 _ _, _, h2 _ _, p, q, e.2, rfl, by omega, pl3, fun n H4 b4 pl4 n0 n1 => ?_⟩
      have hd4 := b4 _ _ nD hd3
      have hb4 := Paired.mono (fun a b z => b4 a _ (pl3.neO z (fun _ _ z => by cases z)) z) hb3
      refine ⟨1, n, rfl, rfl, sz (by simp), fun T hT => ⟨bs.map V.ref, ?_, szl ?_, ?_⟩⟩
      · rw [upd_ne (ne_of_none hd4 hT)]; exact hd4
      · have h5 : bs.length = cs.length := Paired.length hb2
        have := sub.length_le
        rw [List.length_map, List.length_map, List.length_take] at this
        rw [List.length_map]
        omega
      · have nDT : D ≠ T := ne_of_none hd4 hT
        refine ⟨(((bt.trans b3).trans b4).set ((((bt.trans b3).trans b4)).none (pl4.ne hT) hT)).set hD, (pl4.set (pl4.ne hT) (pl4.neQ hT)).set nD nQ, cs ++ [(e.1, 1 + n)], bs ++ [T], ?_, ?_, by rw [upd_same, List.map_append]; rfl, ?_⟩
        · rw [tk, List.map_append, List.map_append]
          exact sub.append (List.Sublist.refl _)
        · intro z hz
          rcases List.mem_append.mp hz with hz | hz
          · exact hc z hz
          · rw [List.mem_singleton.mp hz]
            show 1 ≤ 1 + n ∧ 1 + n ≤ 3
            omega
        · refine Paired.snoc (Paired.mono (fun a b z => ?_) hb4) (by rw [upd_ne (Ne.symm nDT), upd_same])
          have n1 : a ≠ D := ne_of z hd4 (by intro z; cases z)
          rw [upd_ne n1, upd_ne (ne_of_none z hT)]
          exact z
    · refine ⟨bt.trans b3, pl3, cs, bs, ?_, hc, hd3, hb3⟩
      rw [tk, List.map_append]
      exact sub.trans (List.sublist_append_left _ _)
  · rintro H' ⟨bt, pl', cs, bs, sub, hc, hd, hb2⟩
    rw [List.length_map, len, List.take_length] at sub
    exact qq D H' cs hD bt pl' ⟨sub, hc⟩ ⟨bs, hd, hb2⟩
end
end My

set_option Elab.async false
set_option linter.all false
set_option maxRecDepth 100000
set_option maxHeartbeats 4000000
namespace My
open PySem PySem.Spec PyProof.Rows L2
theorem cut_take {xs : List V} {i : Int} (h : 0 ≤ i) : cutV xs none (some i) = xs.take i.toNat := by
  unfold cutV
  have e1 : HT.sIx xs.length 0 none = 0 := rfl
  have e2 : HT.sIx xs.length xs.length (some i) = min i.toNat xs.length := by
    show (if i < 0 then (i + (xs.length : Int)).toNat else min i.toNat xs.length) = _
    rw [if_neg (by omega)]
  rw [e1, e2, List.drop_zero, Nat.sub_zero]
  rcases Nat.le_total i.toNat xs.length with z | z
  · rw [Nat.min_eq_left z]
  · rw [Nat.min_eq_right z, List.take_length, List.take_of_length_le z]
/-- the marks that a step may name -/
def okMove (names : List Str) (s : Stp) : Prop := ∃ dir m, s = .move dir m ∧ dir ∈ (["more", "less"] : List Str) ∧ m ∈ names
/-- a drawn deed's parts, as they are drawn -/
structure Drn (ws : List Str) (ks : List (Str × Int)) (d : Dv) : Prop where
  ans : d.ans.Sublist ws
  whose : d.whose ∈ (["any", "own", "other"] : List Str)
  asks : Cnts ks d.asks
  pays : Cnts ks d.pays
  goals : ∃ n, n ≤ 2 ∧ d.goals = (ks.map (·.1)).take n
  steps : ∃ (mv : List Stp) (a : Option Str), mv.length ≤ 2 ∧ d.steps = mv ++ (a.toList.map Stp.act) ∧ (∀ s ∈ mv, okMove (ks.map (·.1) ++ (if d.goals = [] then ([] : List Str) else ["goal"])) s) ∧ ∀ x ∈ a, x ∈ acts
def ddk (d : Dv) (ga an ak pa st : Addr) : List (Key × V) := [(.inr "word", .str d.word), (.inr "opens", .bl d.opens), (.inr "goals", .ref ga), (.inr "card", .bl d.card), (.inr "answers", .ref an), (.inr "whose", .str d.whose), (.inr "asks", .ref ak), (.inr "pays", .ref pa), (.inr "steps", .ref st)]
/-- the dict of a drawn deed -/
def DeedAt (S : Addr → Prop) (H : Hp) (g : Addr) (d : Dv) : Prop := ∃ (ga an ak pa st : Addr) (sps : List Addr), (S ga ∧ S an ∧ S ak ∧ S pa ∧ S st) ∧ H g = some (.dK (ddk d ga an ak pa st)) ∧ H ga = some (.lst (d.goals.map V.str)) ∧ H an = some (.lst (d.ans.map V.str)) ∧ PrL H ak d.asks ∧ PrL H pa d.pays ∧ H st = some (.lst (sps.map V.ref)) ∧ Paired (StpAt H) sps d.steps
def spDdn : Sp := fun vs H Q _ => ∃ (p q wl ml : Addr) (wd : Str) (ws : List Str) (ks : List (Str × Int)) (rr : Int), vs = [.ref p, .str wd, .ref wl, .ref ml, .int rr] ∧ Pl H p q ∧ H wl = some (.lst (ws.map V.str)) ∧ wl ≠ p ∧ ws.length ≤ 20 ∧ PrL H ml ks ∧ ml ≠ p ∧ ks ∈ marks7 ∧ 0 < rr ∧
  ∀ (g : Addr) (H' : Hp) (d : Dv), H g = none → Bt p H H' → Pl H' p q → DeedAt (fun a => H a = none) H' g d → d.word = wd → Drn ws ks d → Q (.ref g) H'
theorem marks7_ok : ∀ ks ∈ marks7, ks.length ≤ 2 ∧ (∀ e ∈ ks, 1 ≤ e.2 ∧ e.2 ≤ 3) ∧ (ks.map (·.1)).Nodup ∧ ∀ e ∈ ks, isMark e.1 = true ∧ okCps e.1 ∧ e.1.length ≤ 8 := by
  intro ks hk
  have z : ∀ ks ∈ marks7, (decide (ks.length ≤ 2) && (ks.all (fun e => decide (1 ≤ e.2) && decide (e.2 ≤ 3)) && (decide (ks.map (·.1)).Nodup && ks.all (fun e => isMark e.1 && (e.1.cps.all (· < 0x110000) && decide (e.1.length ≤ 8)))))) = true := by decide +kernel
  have y := z ks hk
  simp only [Bool.and_eq_true, decide_eq_true_eq, List.all_eq_true] at y
  exact ⟨y.1, y.2.1, y.2.2.1, fun e he => ⟨(y.2.2.2 e he).1, by simpa [okCps] using (y.2.2.2 e he).2.1, (y.2.2.2 e he).2.2⟩⟩
/-- all but p and g stands -/
def Bg (p g : Addr) (H H' : Hp) : Prop := ∀ a u, a ≠ p → a ≠ g → H a = some u → H' a = some u
section
variable {p q g l : Addr} {H H1 H2 H3 : Hp} {o : HO}
theorem Bt.bg (b : Bt p H1 H2) : Bg p g H1 H2 := fun a u n _ h => b a u n h
theorem Same.bg (b : Same H1 H2) : Bg p g H1 H2 := fun a u _ _ h => b a u h
theorem Bg.trans (b : Bg p g H1 H2) (c : Bg p g H2 H3) : Bg p g H1 H3 := fun a u n m h => c a u n m (b a u n m h)
theorem Bg.none {a : Addr} (b : Bg p g H1 H2) (n : a ≠ p) (m : a ≠ g) (h : H2 a = none) : H1 a = none := by
  cases e : H1 a with
  | none => rfl
  | some o => exact absurd (b a o n m e) (by rw [h]; exact fun z => nomatch z)
theorem Bg.upd : Bg p g H (upd H g o) := fun a u _ m h => by rw [upd_ne m]; exact h
/-- g is new, or a dict -/
def Dk (H : Hp) (g : Addr) : Prop := ∀ o, H g = some o → ∃ k, o = .dK k
theorem Dk.mk0 (h : H g = none) : Dk H g := fun o e => by rw [h] at e; cases e
theorem Dk.mk1 {k : List (Key × V)} (h : H g = some (.dK k)) : Dk H g := fun o e => by rw [h] at e; exact ⟨k, (Option.some.inj e).symm⟩
theorem Dk.ne (d : Dk H g) {a : Addr} (h : H a = some o) (n : ∀ k, o ≠ .dK k) : a ≠ g := by
  rintro rfl
  obtain ⟨k, e⟩ := d _ h
  exact n k e
theorem Bg.pr {ks : List (Str × Int)} (b : Bg p g H1 H2) (h : PrL H1 l ks) (pl : Pl H1 p q) (n : l ≠ p) (d : Dk H1 g) : PrL H2 l ks := by
  obtain ⟨ps, h1, h2⟩ := h
  exact ⟨ps, b _ _ n (d.ne h1 (fun _ e => by cases e)) h1, Paired.mono (fun x y z => b _ _ (pl.neO z (fun _ _ e => by cases e)) (d.ne z (fun _ e => by cases e)) z) h2⟩
theorem Bg.stp {sps : List Addr} {mv : List Stp} (b : Bg p g H1 H2) (h : Paired (StpAt H1) sps mv) (pl : Pl H1 p q) (d : Dk H1 g) : Paired (StpAt H2) sps mv :=
  Paired.mono (fun a s z => ⟨b _ _ (pl.neO z.1 (fun _ _ e => by cases s <;> cases e)) (d.ne z.1 (fun _ e => by cases e)) z.1, z.2⟩) h
end
/-- the loop that draws the moves -/
theorem moves_go {K : PySem.W.Frag} {p q wl ml nm aim rl : Addr} {wd : Str} {rr : Int} {ns : List Str} {H0 H : Hp} {D : Ends} {w8 w9 w10 w11 w12 w13 : Option V} {n : Nat} (b : Bt p H0 H) (pl : Pl H p q) (hrl : H0 rl = none) (nrp : rl ≠ p) (nrq : rl ≠ q) (hnm : H0 nm = some (.lst (ns.map V.str))) (nnp : nm ≠ p)
    (hl : H rl = some (.lst [])) (hn : n ≤ 1000) (hne : 0 < n → ns ≠ []) (hs : ∀ x ∈ ns, x.length ≤ 1000)
    (qq : ∀ (w8 : Option V) (H' : Hp) (mv : List Stp) (sps : List Addr), Bt p H0 H' → Pl H' p q → mv.length = n → H' rl = some (.lst (sps.map V.ref)) → Paired (StpAt H') sps mv → (∀ s ∈ mv, okMove ns s) →
      D.nx [some (.ref p), some (.str wd), some (.ref wl), some (.ref ml), some (.int rr), some (.ref nm), some (.ref aim), some (.ref rl), w8, w9, w10, w11, w12, w13] H') :
    ∃ W : Nat → Nat → L2.St → Hp → Prop, (∃ m, W 0 m [some (.ref p), some (.str wd), some (.ref wl), some (.ref ml), some (.int rr), some (.ref nm), some (.ref aim), some (.ref rl), w8, w9, w10, w11, w12, w13] H) ∧ ∀ i m σ H, W i m σ H →
      ((Itr 0 n).stop i H ∧ D.nx σ H) ∨ ((Itr 0 n).go i H ∧ ∃ N : L2.St → Hp → Prop, (∀ σ' H', N σ' H' → ∃ m', m' < m ∧ W (i + 1) m' σ' H') ∧ ∀ x H', (Itr 0 n).yld i H x H' → gName 8 x σ H' fun σ2 H2 =>
        (tDrop (tApp (tVar 7) (tTup (tCons (tCall spPckB [] E0 (tCons (tVar 0) (tCons (tLst (tCons (tC (.str "more")) (tCons (tC (.str "more")) (tCons (tC (.str "less")) tNil)))) tNil))) (tCons (tCall spPckB [] E0 (tCons (tVar 0) (tCons (tVar 5) tNil))) tNil))))) { D with nx := N, ct := N, bk := D.nx } σ2 H2) := by
  refine for_range (lo := 0) (n := n) (fun i σ H' => ∃ (w8 : Option V) (mv : List Stp) (sps : List Addr), σ = [some (.ref p), some (.str wd), some (.ref wl), some (.ref ml), some (.int rr), some (.ref nm), some (.ref aim), some (.ref rl), w8, w9, w10, w11, w12, w13] ∧ Bt p H0 H' ∧ Pl H' p q ∧ mv.length = i ∧ H' rl = some (.lst (sps.map V.ref)) ∧ Paired (StpAt H') sps mv ∧ ∀ s ∈ mv, okMove ns s)
    ⟨_, [], [], rfl, b, pl, rfl, hl, .nil, fun s h => nomatch h⟩ ?_ ?_
  · rintro i _ H1 hi ⟨w8, mv, sps, rfl, b1, pl1, hlen, hl1, hp1, hok⟩
    refine ⟨_, rfl, rl, rfl, ⟨_, hl1⟩, _, rfl, sz (by simp), fun m3 hm3 => ?_⟩
    have n1 := My.Same.new (o := .lst [.str "more", .str "more", .str "less"]) (Same.refl H1) hm3
    have l1 : upd H1 m3 (.lst [.str "more", .str "more", .str "less"]) m3 = some (.lst [.str "more", .str "more", .str "less"]) := upd_same
    have nm3 := pl1.ne hm3
    generalize upd H1 m3 (.lst [.str "more", .str "more", .str "less"]) = H2 at *
    have pl2 := pl1.same n1
    refine ⟨p, q, m3, _, rfl, pl2, l1, nm3, by simp, fun x H3 b3 pl3 hx => ?_⟩
    have b13 : Bt p H1 H3 := (Same.bt n1).trans b3
    refine ⟨_, rfl, _, rfl, p, q, nm, _, rfl, pl3, (b1.trans b13) _ _ nnp hnm, nnp, by rw [List.length_map]; exact List.length_pos_iff.mpr (hne (by omega)), fun y H4 b4 pl4 hy => ?_⟩
    have b14 := b13.trans b4
    obtain ⟨m, hm, rfl⟩ := List.mem_map.mp hy
    have hx' : ∃ dir, x = .str dir ∧ dir ∈ (["more", "less"] : List Str) := by
      simp only [List.mem_cons, List.not_mem_nil, or_false] at hx
      rcases hx with rfl | rfl | rfl
      · exact ⟨_, rfl, by simp⟩
      · exact ⟨_, rfl, by simp⟩
      · exact ⟨_, rfl, by simp⟩
    obtain ⟨dir, rfl, hdir⟩ := hx'
    refine ⟨sz (by simp), fun T hT => ⟨sps.map V.ref, ?_, szl ?_, ?_⟩⟩
    · have h4 := b14 _ _ nrp hl1
      rw [upd_ne (ne_of_none h4 hT)]; exact h4
    · have := Paired.length hp1
      rw [List.length_map]; omega
    · have h4 := b14 _ _ nrp hl1
      have nrT : rl ≠ T := ne_of_none h4 hT
      have b04 := b1.trans b14
      have hp4 : Paired (StpAt H4) sps mv := Paired.mono (fun a s z => ⟨b14 a _ (pl1.neO z.1 (fun _ _ e => by cases s <;> cases e)) z.1, z.2⟩) hp1
      refine ⟨_, mv ++ [.move dir m], sps ++ [T], rfl, (b04.set (b04.none (pl4.ne hT) hT)).set hrl, (pl4.set (pl4.ne hT) (pl4.neQ hT)).set nrp nrq, by rw [List.length_append, hlen]; rfl, by rw [upd_same, List.map_append]; rfl, ?_, ?_⟩
      · refine Paired.snoc (Paired.mono (fun a s z => ?_) hp4) ⟨by rw [upd_ne (Ne.symm nrT), upd_same]; rfl, hs m hm⟩
        have na : a ≠ rl := ne_of z.1 h4 (by intro e; cases s <;> cases e)
        exact ⟨by rw [upd_ne na, upd_ne (ne_of_none z.1 hT)]; exact z.1, z.2⟩
      · intro s h
        rcases List.mem_append.mp h with h | h
        · exact hok s h
        · rw [List.mem_singleton.mp h]
          exact ⟨dir, m, rfl, hdir, hm⟩
  · rintro _ H' ⟨w8, mv, sps, rfl, b1, pl1, hlen, hl1, hp1, hok⟩
    exact qq w8 H' mv sps b1 pl1 hlen hl1 hp1 hok
end My

set_option Elab.async false
set_option linter.all false
set_option maxRecDepth 100000
set_option maxHeartbeats 4000000
namespace My
open PySem PySem.Spec PyProof.Rows L2
local macro_rules | `(tactic| walk_at "rd") => `(tactic| simp only [rd_seq, rd_next, rd_brk, rd_cont, rd_asg, rd_gname, rd_var, rd_c, rd_op, rd_un, rd_rI0, rd_rI, rd_rU, rd_test, rd_B, rd_and, rd_or, rd_not, rd_andV, rd_orV, rd_notV, rd_ifx, rd_ifs, rd_drop, rd_ret, rd_nil, rd_cons, rd_cb, rd_tup, rd_lst, rd_call, rd_bm, rd_app, rd_ixLst, rd_ixSq, rd_lenL, rd_lenSq, rd_setLst, rd_sub, rd_neNil, rd_isStr, rd_dg, rd_dp, rd_mk, rd_sl, rd_noP, rd_part, rd_slL, rd_cat, rd_lcL, rd_lcE, rd_lcA, rd_lcEA, rd_isTy, rd_ixT, rd_inRow, rd_bm0, rd_rz, rd_isD, rd_lockE, rd_lcK, rd_dgetD, rd_ixTp, rd_lenUn,  L2.valV_put, rd_fldS, rd_eq, rd_ne, rd_fldE, rd_allB, rd_isBl, rd_inS, rd_chain, rd_chain', L2.wipe, Int.reduceToNat, Int.reduceLE, Int.reduceLT, Nat.reduceLT, Nat.reduceLeDiff, Int.reduceNeg, Int.toNat_natCast, Int.reduceAdd, L2.start, and_assoc, exists_and_left, List.map_cons, List.map_nil, List.length_cons, List.length_nil, List.cons_append, List.nil_append, List.append_nil, List.replicate_succ, List.replicate_zero, List.replicate, List.set_cons_zero, List.set_cons_succ, List.getElem?_cons_zero, List.getElem?_cons_succ, Option.some.injEq, exists_eq_left', exists_eq_left, exists_eq, V.int.injEq, V.ref.injEq, V.str.injEq, V.bl.injEq, HO.lst.injEq, HO.tup.injEq, ex_bl, List.cons.injEq, and_true, true_and, Nat.reduceAdd, Nat.reduceSub, reduceCtorEq, false_and, or_false, exists_false, false_or, decide_eq_true_eq, if_true, if_false, Bool.false_eq_true, Bool.not_true, Bool.not_false, upd_same])
local macro_rules | `(tactic| walk_at "rdh") => `(tactic| simp only [rd_seq, rd_next, rd_brk, rd_cont, rd_asg, rd_gname, rd_var, rd_c, rd_op, rd_un, rd_rI0, rd_rI, rd_rU, rd_test, rd_B, rd_and, rd_or, rd_not, rd_andV, rd_orV, rd_notV, rd_ifx, rd_ifs, rd_drop, rd_ret, rd_nil, rd_cons, rd_cb, rd_tup, rd_lst, rd_call, rd_bm, rd_app, rd_ixLst, rd_ixSq, rd_lenL, rd_lenSq, rd_setLst, rd_sub, rd_neNil, rd_isStr, rd_dg, rd_dp, rd_mk, rd_sl, rd_noP, rd_part, rd_slL, rd_cat, rd_lcL, rd_lcE, rd_lcA, rd_lcEA, rd_isTy, rd_ixT, rd_inRow, rd_bm0, rd_rz, rd_isD, rd_lockE, rd_lcK, rd_dgetD, rd_ixTp, rd_lenUn,  L2.valV_put, rd_fldS, rd_eq, rd_ne, rd_fldE, rd_allB, rd_isBl, rd_inS, rd_chain, rd_chain', L2.wipe, Int.reduceToNat, Int.reduceLE, Int.reduceLT, Nat.reduceLT, Nat.reduceLeDiff, Int.reduceNeg, Int.toNat_natCast, Int.reduceAdd, L2.start, and_assoc, exists_and_left, List.map_cons, List.map_nil, List.length_cons, List.length_nil, List.cons_append, List.nil_append, List.append_nil, List.replicate_succ, List.replicate_zero, List.replicate, List.set_cons_zero, List.set_cons_succ, List.getElem?_cons_zero, List.getElem?_cons_succ, Option.some.injEq, exists_eq_left', exists_eq_left, exists_eq, V.int.injEq, V.ref.injEq, V.str.injEq, V.bl.injEq, HO.lst.injEq, HO.tup.injEq, ex_bl, List.cons.injEq, and_true, true_and, Nat.reduceAdd, Nat.reduceSub, reduceCtorEq, false_and, or_false, exists_false, false_or, decide_eq_true_eq, if_true, if_false, Bool.false_eq_true, Bool.not_true, Bool.not_false, upd_same, *])

abbrev sDdn : Stmt := topI 25
abbrev NDdn : List Str := ["pool", "word", "words", "marks", "rarely", "names", "aims", "rows", "turn", "act", "deed", "mark", "end", "one"]
theorem scDdn : FnScope NDdn ["pool", "word", "words", "marks", "rarely"] (defScope sDdn) := ⟨rfl, rfl, rfl, by decide +kernel, rfl, by decide +kernel, by decide +kernel⟩
section
variable {P : Program} {w : World} {K : PySem.W.Frag} {mg : Str → Option Value} {base : Heap}
theorem dp_strs {K : PySem.W.Frag} {H : Hp} {p : Addr} {ws : List Str} (h : H p = some (.lst (ws.map V.str))) : Dp K H (.ref p) (.list (ws.map .str)) := by
  refine .lst (SqL.of h) ?_
  clear h
  induction ws with
  | nil => exact .nil
  | cons b bs ih => exact .cons (.str b) ih
theorem lay_strs : ∀ {ws : List Str}, (∀ x ∈ ws, okCps x) → PyData.canLayAll0 (ws.map PyData.str) = true ∧ PyData.depthAll (ws.map PyData.str) = 0
  | [], _ => by simp [PyData.canLayAll0, PyData.depthAll]
  | w :: ws, h => by
    obtain ⟨a, b⟩ := lay_strs (ws := ws) fun x hx => h x (List.mem_cons_of_mem _ hx)
    have c : PyData.strOk w = true := h w (List.mem_cons_self ..)
    simp [PyData.canLayAll0, PyData.canLay0, PyData.depthAll, PyData.depth, a, b, c]
theorem sh_strs {ws : List Str} (h : ∀ x ∈ ws, okCps x) : SeqAt.shaped (.list (ws.map .str)) = true := by
  obtain ⟨a, b⟩ := lay_strs h
  unfold SeqAt.shaped
  simp [PyData.canLay0, PyData.depth, a, b]
theorem ok_ddn {f : Addr} {fd : FuncData} (F : Fun K "_law_drawn_deed" "_law_drawn_deed" sDdn f fd) (B : Bn mg) (D_draw : Df K mg "_law_draw" sDrw ["pool", "many"]) (G_draw : FnOk P w K mg base CX0 1 D_draw.f D_draw.fd ["pool", "many"] spDrwB) (D_pick : Df K mg "_law_pick" sPck ["pool", "some"]) (G_pick : FnOk P w K mg base CX0 2 D_pick.f D_pick.fd ["pool", "some"] spPckB) : FnOk P w K mg base CX0 3 f fd ["pool", "word", "words", "marks", "rarely"] spDdn := by
  refine F.ok scDdn (fun vs H Q E h => ?_) (fun cdv A outer s H vs Q E hr h => ?_)
  · obtain ⟨p, q, wl, ml, wd, ws, ks, rr, rfl, _⟩ := h
    rfl
  · obtain ⟨p, q, wl, ml, wd, ws, ks, rr, rfl, pl, hwl, nwl, zws, hml, nml, hks, hrr, qq⟩ := h
    have hr2 := hr
    have hr1 := hr.mono (by decide : 1 ≤ 2)
    have hu64 := hr.units
    obtain ⟨kz, kc, knd, kmk⟩ := marks7_ok ks hks
    refine ⟨_, (pss_cons (ps_setLc (i := 5) (own := [("mark", 11), ("end", 12)]) (g := gTup K 2 (gCons (gName 11) (gCons (gName 12) gNil))) rfl scDdn.nd rfl rfl (sw_true rfl rfl rfl (by decide +kernel)) (pi_list (pv 3)) (blkOk_by (own := [("mark", 11), ("end", 12)]) (N := NDdn) (sc := defScope sDdn) (by decide +kernel)) (fun _ _ _ _ _ => by exact (pg_tup rfl (pgs_cons (pg_name (i := 11) scDdn.nd rfl (Or.inl rfl)) (pgs_cons (pg_name (i := 12) scDdn.nd rfl (Or.inl rfl)) pgs_nil)))) (fun _ _ _ _ _ => pts_nil) (fun _ _ _ _ _ => (pv 11)))
      (pss_cons (ps_set (i := 6) scDdn.nd rfl (Or.inl rfl) (pe_slice sl_list (pv 5) po_none (po_some (pe_op op_mul (pc D_draw G_draw hr1 (pa_cons (pv 0) (pa_cons pe_int pa_nil))) (pe_callTy call_int1 (by rfl) B.int (by decide +kernel) (pa_cons (pe_cmpR op_eq (pc D_draw G_draw hr1 (pa_cons (pv 0) (pa_cons pe_int pa_nil))) pe_int (nomark _)) pa_nil))))))
      (pss_cons (ps_par (i := 5) (j := 7) (by rfl) scDdn.nd rfl rfl (by decide) rfl rfl (pa_cons (pe_op op_cat (pv 5) (pe_op op_rep (pe_lst (pa_cons pe_str pa_nil)) (pe_callB (call_min2 rfl) (by rfl) B.min (by decide +kernel) (pa_cons pe_int (pa_cons (pe_callB call_lenL (by rfl) B.len (by decide +kernel) (pa_cons (pv 6) pa_nil)) pa_nil))))) (pa_cons (pe_lst pa_nil) pa_nil)) (by rfl))
      (pss_cons (ps_for PassesOwn.never rfl (pi_range1 (by rfl) B.range (pa_cons (pe_op op_mul (pc D_draw G_draw hr1 (pa_cons (pv 0) (pa_cons pe_int pa_nil))) (pe_callTy call_int1 (by rfl) B.int (by decide +kernel) (pa_cons (pe_cmpR (op_neD hu64) (pv 5) (pe_lst pa_nil) (nomark _)) pa_nil))) pa_nil)) (pg_name (i := 8) scDdn.nd rfl (Or.inl rfl))
        (pss_one (ps_expr (pe_app (pv 7) (pe_tup (pa_cons (pc D_pick G_pick hr2 (pa_cons (pv 0) (pa_cons (pe_lst (pa_cons pe_str (pa_cons pe_str (pa_cons pe_str pa_nil)))) pa_nil))) (pa_cons (pc D_pick G_pick hr2 (pa_cons (pv 0) (pa_cons (pv 5) pa_nil))) pa_nil)))))))
      (pss_cons (ps_set (i := 9) scDdn.nd rfl (Or.inl rfl) (pc D_pick G_pick hr2 (pa_cons (pv 0) (pa_cons (pe_lst (pa_cons pe_str (pa_cons pe_str (pa_cons pe_str (pa_cons pe_str (pa_cons pe_str (pa_cons pe_str (pa_cons pe_str pa_nil)))))))) pa_nil))))
      (pss_cons (ps_set (i := 10) scDdn.nd rfl (Or.inl rfl) (pe_disp (pps_cons pe_str (pv 1) (pps_cons pe_str (pe_cmpR op_eq (pc D_draw G_draw hr1 (pa_cons (pv 0) (pa_cons pe_int pa_nil))) pe_int (nomark _)) (pps_cons pe_str (pv 6) (pps_cons pe_str (pe_cmpR op_gt (pc D_draw G_draw hr1 (pa_cons (pv 0) (pa_cons (pv 4) pa_nil))) pe_int (nomark _)) pps_nil)))) (by rfl) (by rfl) (fun z => by cases z) (by decide)))
      (pss_cons (ps_dp hu64 (pv 10) pe_str (pe_lc (own := [("one", 13)]) (g := gName 13) rfl scDdn.nd (pi_list (pv 2)) (blkOk_by (own := [("one", 13)]) (N := NDdn) (sc := defScope sDdn) (by decide +kernel)) (fun _ _ _ _ _ => pg_name (i := 13) scDdn.nd rfl (Or.inl rfl)) (fun _ _ _ _ _ => pts_one (pt_cmpR op_lt (pc D_draw G_draw hr1 (pa_cons (pv 0) (pa_cons pe_int pa_nil))) pe_int (nomark _))) (fun _ _ _ _ _ => (pv 13))) rfl)
      (pss_cons (ps_dp hu64 (pv 10) pe_str (pc D_pick G_pick hr2 (pa_cons (pv 0) (pa_cons (pe_lst (pa_cons pe_str (pa_cons pe_str (pa_cons pe_str (pa_cons pe_str pa_nil))))) pa_nil))) rfl)
      (pss_cons (ps_dp hu64 (pv 10) pe_str (pe_lc (own := [("mark", 11), ("end", 12)]) (g := gTup K 2 (gCons (gName 11) (gCons (gName 12) gNil))) rfl scDdn.nd (pi_list (pv 3)) (blkOk_by (own := [("mark", 11), ("end", 12)]) (N := NDdn) (sc := defScope sDdn) (by decide +kernel)) (fun _ _ _ _ _ => by exact (pg_tup rfl (pgs_cons (pg_name (i := 11) scDdn.nd rfl (Or.inl rfl)) (pgs_cons (pg_name (i := 12) scDdn.nd rfl (Or.inl rfl)) pgs_nil)))) (fun _ _ _ _ _ => pts_one (pt_cmpR op_eq (pc D_draw G_draw hr1 (pa_cons (pv 0) (pa_cons pe_int pa_nil))) pe_int (nomark _))) (fun _ _ _ _ _ => (pe_tup (pa_cons (pv 11) (pa_cons (pe_op op_add pe_int (pc D_draw G_draw hr1 (pa_cons (pv 0) (pa_cons (pv 12) pa_nil)))) pa_nil))))) rfl)
      (pss_cons (ps_dp hu64 (pv 10) pe_str (pe_lc (own := [("mark", 11), ("end", 12)]) (g := gTup K 2 (gCons (gName 11) (gCons (gName 12) gNil))) rfl scDdn.nd (pi_list (pv 3)) (blkOk_by (own := [("mark", 11), ("end", 12)]) (N := NDdn) (sc := defScope sDdn) (by decide +kernel)) (fun _ _ _ _ _ => by exact (pg_tup rfl (pgs_cons (pg_name (i := 11) scDdn.nd rfl (Or.inl rfl)) (pgs_cons (pg_name (i := 12) scDdn.nd rfl (Or.inl rfl)) pgs_nil)))) (fun _ _ _ _ _ => pts_one (pt_cmpR op_eq (pc D_draw G_draw hr1 (pa_cons (pv 0) (pa_cons pe_int pa_nil))) pe_int (nomark _))) (fun _ _ _ _ _ => (pe_tup (pa_cons (pv 11) (pa_cons (pe_op op_add pe_int (pc D_draw G_draw hr1 (pa_cons (pv 0) (pa_cons (pv 12) pa_nil)))) pa_nil))))) rfl)
      (pss_cons (ps_dp hu64 (pv 10) pe_str (pe_op op_cat (pv 7) (pe_op op_rep (pe_lst (pa_cons (pe_tup (pa_cons (pv 9) pa_nil)) pa_nil)) (pe_callTy call_int1 (by rfl) B.int (by decide +kernel) (pa_cons (pe_cmpR op_ne (pv 9) pe_str (nomark _)) pa_nil)))) rfl)
      (pss_one (ps_ret (pv 10)))))))))))))), ?_⟩
    obtain ⟨mps, hml1, hml2⟩ := hml
    have hml : PrL H ml ks := ⟨mps, hml1, hml2⟩
    refine step_asg ?_
    rw [rd_lcL]
    refine ⟨_, rfl, ml, rfl, ⟨_, SqL.of hml1⟩, lc_names hml (by omega) (fun _ _ => rfl) (fun _ _ => rfl) fun n0 H1 hn0 s1 ln0 => ?_⟩
    have pl1 := pl.same s1
    have qn0 := pl.ne hn0
    -- aims
    refine step_asg ⟨_, rfl, _, rfl, p, q, 3, rfl, by decide, pl1, fun r1 H2 b2 pl2 r10 r11 => ⟨_, rfl, p, q, 3, rfl, by decide, pl2, fun r2 H3 b3 pl3 r20 r21 => ⟨rfl, .inr ⟨_, rfl, ⟨r1, _, rfl, rfl, .inl ⟨by omega, by omega⟩, _, rfl, n0, _, rfl, SqL.of ((b2.trans b3) _ _ qn0 ln0), fun am ham => ?_⟩⟩⟩⟩⟩
    have e0 : 0 ≤ r1 * (if decide (V.int r2 = V.int 0) = true then (1 : Int) else 0) ∧ r1 * (if decide (V.int r2 = V.int 0) = true then (1 : Int) else 0) ≤ 2 := by
      split <;> omega
    generalize r1 * (if decide (V.int r2 = V.int 0) = true then (1 : Int) else 0) = ei at *
    rw [cut_take e0.1, List.map_take.symm]
    have zgo : ei.toNat ≤ 2 := by omega
    generalize hgo : (ks.map (·.1)).take ei.toNat = gs at *
    have B3 : Bt p H H3 := (Same.bt s1).trans (b2.trans b3)
    have ln0 := (b2.trans b3) _ _ qn0 ln0
    have nam := My.Same.new (o := .lst (gs.map V.str)) (Same.refl H3) ham
    have lam : upd H3 am (.lst (gs.map V.str)) am = some (.lst (gs.map V.str)) := upd_same
    have qam := pl3.ne ham
    generalize upd H3 am (.lst (gs.map V.str)) = H4 at *
    have pl4 := pl3.same nam
    have B4 : Bt p H H4 := B3.trans (Same.bt nam)
    have ln0 := nam _ _ ln0
    -- names, rows
    refine step_seq ?_
    refine ⟨_, rfl, sz (by simp), fun g1 hg1 => ?_⟩
    have ng1 := My.Same.new (o := .lst [.str "goal"]) (Same.refl H4) hg1
    have lg1 : upd H4 g1 (.lst [.str "goal"]) g1 = some (.lst [.str "goal"]) := upd_same
    generalize upd H4 g1 (.lst [.str "goal"]) = H5 at *
    refine ⟨_, rfl, am, rfl, _, ng1 _ _ lam, 1, _, rfl, ?_⟩
    have erep : (List.replicate (if ((gs.map V.str).length : Int) < 1 then ((gs.map V.str).length : Int) else 1).toNat [V.str "goal"]).flatten = (if gs = [] then ([] : List Str) else ["goal"]).map V.str := by
      cases gs with
      | nil => rfl
      | cons x xs =>
        rw [if_neg (by simp; omega), if_neg (by simp)]
        rfl
    refine ⟨g1, _, _, rfl, rfl, lg1, by split <;> omega, by split <;> omega, sz (by show 1 * _ ≤ 100000; split <;> omega), fun g2 hg2 => ?_⟩
    rw [erep]
    have ng2 := My.Same.new (o := .lst ((if gs = [] then ([] : List Str) else ["goal"]).map V.str)) (Same.refl H5) hg2
    have lg2 : upd H5 g2 (.lst ((if gs = [] then ([] : List Str) else ["goal"]).map V.str)) g2 = some (.lst ((if gs = [] then ([] : List Str) else ["goal"]).map V.str)) := upd_same
    generalize upd H5 g2 (.lst ((if gs = [] then ([] : List Str) else ["goal"]).map V.str)) = H6 at *
    refine ⟨n0, g2, _, _, rfl, rfl, ng2 _ _ (ng1 _ _ ln0), lg2, sz (by rw [List.length_map, List.length_map, List.length_map]; split <;> simp <;> omega), fun nm hnm => ?_⟩
    rw [List.map_append.symm]
    generalize hns : ks.map (·.1) ++ (if gs = [] then ([] : List Str) else ["goal"]) = ns at *
    have nnm := My.Same.new (o := .lst (ns.map V.str)) (Same.refl H6) hnm
    have lnm : upd H6 nm (.lst (ns.map V.str)) nm = some (.lst (ns.map V.str)) := upd_same
    generalize upd H6 nm (.lst (ns.map V.str)) = H7 at *
    have s47 := (ng1.trans ng2).trans nnm
    have pl7 := pl4.same s47
    have qnm := (pl4.same (ng1.trans ng2)).ne hnm
    have B7 : Bt p H H7 := B4.trans (Same.bt s47)
    have lam7 := s47 _ _ lam
    refine ⟨sz (by simp), fun rl hrl => ⟨_, _, rfl, ?_⟩⟩
    have nrl := My.Same.new (o := .lst []) (Same.refl H7) hrl
    have lrl : upd H7 rl (.lst []) rl = some (.lst []) := upd_same
    have qrl := pl7.ne hrl
    have qrq := pl7.neQ hrl
    generalize upd H7 rl (.lst []) = H8 at *
    have pl8 := pl7.same nrl
    have hnsC : ∀ x ∈ ns, okCps x ∧ x.length ≤ 8 := by
      intro x hx
      rw [← hns] at hx
      rcases List.mem_append.mp hx with hx | hx
      · obtain ⟨e, he, rfl⟩ := List.mem_map.mp hx
        exact (kmk e he).2
      · split at hx
        · cases hx
        · rw [List.mem_singleton.mp hx]
          exact ⟨by unfold okCps; decide +kernel, by decide +kernel⟩
    -- the loop
    refine step_seq ?_
    refine ⟨_, rfl, p, q, 3, rfl, by decide, pl8, fun r3 H9 b9 pl9 r30 r31 => ⟨_, rfl, sz (by simp), fun em hem => ?_⟩⟩
    have nem := My.Same.new (o := .lst []) (Same.refl H9) hem
    have lem : upd H9 em (.lst []) em = some (.lst []) := upd_same
    generalize upd H9 em (.lst []) = HA at *
    have plA := pl9.same nem
    have BA : Bt p H7 HA := (Same.bt nrl).trans (b9.trans (Same.bt nem))
    have lrlA := (b9.trans (Same.bt nem)) _ _ qrl lrl
    refine ⟨.list (ns.map .str), .list [], dp_strs (BA _ _ qnm lnm), .lst (SqL.of lem) .nil, sh_strs (fun x hx => (hnsC x hx).1), by decide +kernel, .inr ⟨_, rfl, ⟨r3, _, rfl, rfl, .inl ⟨by omega, by omega⟩, ?_⟩⟩⟩
    have ej : 0 ≤ r3 * (if (!PyData.eqv (.list (ns.map .str)) (.list [])) = true then (1 : Int) else 0) ∧ r3 * (if (!PyData.eqv (.list (ns.map .str)) (.list [])) = true then (1 : Int) else 0) ≤ 2 ∧ (0 < r3 * (if (!PyData.eqv (.list (ns.map .str)) (.list [])) = true then (1 : Int) else 0) → ns ≠ []) := by
      split
      · rename_i h
        refine ⟨by omega, by omega, fun _ e => ?_⟩
        rw [e] at h
        simp [PyData.eqv, PyData.eqvAll] at h
      · refine ⟨by omega, by omega, fun h => ?_⟩
        omega
    refine ⟨r3 * (if (!PyData.eqv (.list (ns.map .str)) (.list [])) = true then (1 : Int) else 0), rfl, by have := ej.1; omega, by have := ej.2.1; omega, moves_go (K := K) (ns := ns) (H0 := H7) BA plA hrl qrl qrq lnm qnm lrlA (by have := ej.2.1; omega) (fun h => ej.2.2 (by omega)) (fun x hx => Nat.le_trans (hnsC x hx).2 (by decide)) fun w8 HB mv sps bB plB hlen hlB hpB hok => ?_⟩
    dsimp only
    -- the act
    refine step_asg ?_
    refine ⟨_, rfl, sz (by simp), fun m7 hm7 => ?_⟩
    have nm7 := My.Same.new (o := .lst [.str "", .str "", .str "", .str "strike", .str "strike", .str "again", .str "turn"]) (Same.refl HB) hm7
    have lm7 : upd HB m7 (.lst [.str "", .str "", .str "", .str "strike", .str "strike", .str "again", .str "turn"]) m7 = some (.lst [.str "", .str "", .str "", .str "strike", .str "strike", .str "again", .str "turn"]) := upd_same
    have qm7 := plB.ne hm7
    generalize upd HB m7 (.lst [.str "", .str "", .str "", .str "strike", .str "strike", .str "again", .str "turn"]) = HC at *
    refine ⟨p, q, m7, _, rfl, plB.same nm7, lm7, qm7, by simp, fun ac HD bD plD hac => ?_⟩
    have hac' : ∃ a : Str, ac = .str a ∧ (a = "" ∨ a ∈ acts) := by
      simp only [List.mem_cons, List.not_mem_nil, or_false] at hac
      rcases hac with rfl | rfl | rfl | rfl | rfl | rfl | rfl
      · exact ⟨_, rfl, .inl rfl⟩
      · exact ⟨_, rfl, .inl rfl⟩
      · exact ⟨_, rfl, .inl rfl⟩
      · exact ⟨_, rfl, .inr (by decide)⟩
      · exact ⟨_, rfl, .inr (by decide)⟩
      · exact ⟨_, rfl, .inr (by decide)⟩
      · exact ⟨_, rfl, .inr (by decide)⟩
    obtain ⟨act, rfl, hact⟩ := hac'
    have bBD : Bt p HB HD := (Same.bt nm7).trans bD
    have hlD := bBD _ _ qrl hlB
    have hpD : Paired (StpAt HD) sps mv := Paired.mono (fun a s z => ⟨bBD a _ (plB.neO z.1 (fun _ _ e => by cases s <;> cases e)) z.1, z.2⟩) hpB
    have B7D : Bt p H7 HD := bB.trans bBD
    have BD : Bt p H HD := B7.trans B7D
    have lamD := B7D _ _ (fun e => qam e) lam7
    -- the dict
    refine step_asg ?_
    refine fun g hg => ?_
    have ngd := My.Same.new (o := .dK []) (Same.refl HD) hg
    have lgd : upd HD g (.dK []) g = some (.dK []) := upd_same
    have qg := plD.ne hg
    have qgq := plD.neQ hg
    generalize upd HD g (.dK []) = HE at *
    refine ⟨_, rfl, _, rfl, p, q, 2, rfl, by decide, plD.same ngd, fun r4 HF bF plF _ _ => ⟨rfl, _, rfl, _, rfl, _, rfl, p, q, rr, rfl, hrr, plF, fun r5 HG bG plG _ _ => ?_⟩⟩
    refine ⟨r5, 0, rfl, rfl, ?_⟩
    have bEG := bF.trans bG
    have lgG := bEG _ _ qg lgd
    refine ⟨lgG, [(Sum.inr "word", .str wd), (Sum.inr "opens", .bl (decide (V.int r4 = V.int 0))), (Sum.inr "goals", .ref am), (Sum.inr "card", .bl (decide ((0 : Int) < r5)))], rfl, by simp, ?_⟩
    generalize decide (V.int r4 = V.int 0) = op at *
    generalize decide ((0 : Int) < r5) = ca at *
    have lI : upd HG g (.dK (mergeK [] [(Sum.inr "word", V.str wd), (Sum.inr "opens", V.bl op), (Sum.inr "goals", V.ref am), (Sum.inr "card", V.bl ca)])) g = some (.dK [(Sum.inr "word", V.str wd), (Sum.inr "opens", V.bl op), (Sum.inr "goals", V.ref am), (Sum.inr "card", V.bl ca)]) := upd_same
    have plI : Pl (upd HG g (.dK (mergeK [] [(Sum.inr "word", V.str wd), (Sum.inr "opens", V.bl op), (Sum.inr "goals", V.ref am), (Sum.inr "card", V.bl ca)]))) p q := plG.set qg qgq
    have gI : Bg p g HD (upd HG g (.dK (mergeK [] [(Sum.inr "word", V.str wd), (Sum.inr "opens", V.bl op), (Sum.inr "goals", V.ref am), (Sum.inr "card", V.bl ca)]))) := ((Same.bg ngd).trans bEG.bg).trans Bg.upd
    generalize upd HG g (.dK (mergeK [] [(Sum.inr "word", V.str wd), (Sum.inr "opens", V.bl op), (Sum.inr "goals", V.ref am), (Sum.inr "card", V.bl ca)])) = HI at *
    have dD : Dk HD g := Dk.mk0 hg
    have hwlD := BD _ _ nwl hwl
    have hmlD := hml.bt pl nml BD
    have gwl := dD.ne hwlD (fun _ e => by cases e)
    -- answers
    refine step_seq ?_
    rw [rd_dp, rd_lcL]
    refine ⟨_, rfl, wl, rfl, ⟨_, SqL.of (gI _ _ nwl gwl hwlD)⟩, lc_ans (p := p) (q := q) (ws := ws) (gI _ _ nwl gwl hwlD) nwl plI (by decide) zws (fun _ => rfl) (fun _ => rfl) (fun _ => rfl) fun an HJ as han bJ plJ hsub lan => ⟨_, rfl, g, _, rfl, rfl, _, bJ _ _ qg lI, by exact (by decide : 4 < sizeLine), ?_⟩⟩
    have qan := plI.ne han
    have gan : an ≠ g := Ne.symm (ne_of_none lI han)
    have lHK : upd HJ g (.dK (putK [(Sum.inr "word", V.str wd), (Sum.inr "opens", V.bl op), (Sum.inr "goals", V.ref am), (Sum.inr "card", V.bl ca)] (Sum.inr "answers") (V.ref an))) g = some (.dK [(Sum.inr "word", V.str wd), (Sum.inr "opens", V.bl op), (Sum.inr "goals", V.ref am), (Sum.inr "card", V.bl ca), (Sum.inr "answers", (V.ref an))]) := by rw [upd_same]; rfl
    have uHK : Bg p g HJ (upd HJ g (.dK (putK [(Sum.inr "word", V.str wd), (Sum.inr "opens", V.bl op), (Sum.inr "goals", V.ref am), (Sum.inr "card", V.bl ca)] (Sum.inr "answers") (V.ref an)))) := Bg.upd
    have plHK : Pl (upd HJ g (.dK (putK [(Sum.inr "word", V.str wd), (Sum.inr "opens", V.bl op), (Sum.inr "goals", V.ref am), (Sum.inr "card", V.bl ca)] (Sum.inr "answers") (V.ref an)))) p q := plJ.set qg qgq
    generalize upd HJ g (.dK (putK [(Sum.inr "word", V.str wd), (Sum.inr "opens", V.bl op), (Sum.inr "goals", V.ref am), (Sum.inr "card", V.bl ca)] (Sum.inr "answers") (V.ref an))) = HK at *
    have gK : Bg p g HD HK := (gI.trans bJ.bg).trans uHK
    have fan := uHK _ _ qan gan lan
    -- whose
    dsimp only
    refine step_seq ?_
    rw [rd_dp]
    refine ⟨_, rfl, sz (by simp), fun m4 hm4 => ?_⟩
    have nm4 := My.Same.new (o := .lst [.str "any", .str "any", .str "own", .str "other"]) (Same.refl HK) hm4
    have lm4 : upd HK m4 (.lst [.str "any", .str "any", .str "own", .str "other"]) m4 = some (.lst [.str "any", .str "any", .str "own", .str "other"]) := upd_same
    have qm4 := plHK.ne hm4
    generalize upd HK m4 (.lst [.str "any", .str "any", .str "own", .str "other"]) = HL at *
    refine ⟨p, q, m4, _, rfl, plHK.same nm4, lm4, qm4, by simp, fun wv HM bM plM hwv => ?_⟩
    have hwv' : ∃ wh : Str, wv = .str wh ∧ wh ∈ (["any", "own", "other"] : List Str) := by
      simp only [List.mem_cons, List.not_mem_nil, or_false] at hwv
      rcases hwv with rfl | rfl | rfl | rfl
      · exact ⟨_, rfl, by simp⟩
      · exact ⟨_, rfl, by simp⟩
      · exact ⟨_, rfl, by simp⟩
      · exact ⟨_, rfl, by simp⟩
    obtain ⟨wh, rfl, hwh⟩ := hwv'
    have bKM : Bt p HK HM := (Same.bt nm4).trans bM
    refine ⟨_, rfl, g, _, rfl, rfl, _, bKM _ _ qg lHK, by exact (by decide : 5 < sizeLine), ?_⟩
    have lHN : upd HM g (.dK (putK [(Sum.inr "word", V.str wd), (Sum.inr "opens", V.bl op), (Sum.inr "goals", V.ref am), (Sum.inr "card", V.bl ca), (Sum.inr "answers", V.ref an)] (Sum.inr "whose") (V.str wh))) g = some (.dK [(Sum.inr "word", V.str wd), (Sum.inr "opens", V.bl op), (Sum.inr "goals", V.ref am), (Sum.inr "card", V.bl ca), (Sum.inr "answers", V.ref an), (Sum.inr "whose", (V.str wh))]) := by rw [upd_same]; rfl
    have uHN : Bg p g HM (upd HM g (.dK (putK [(Sum.inr "word", V.str wd), (Sum.inr "opens", V.bl op), (Sum.inr "goals", V.ref am), (Sum.inr "card", V.bl ca), (Sum.inr "answers", V.ref an)] (Sum.inr "whose") (V.str wh)))) := Bg.upd
    have plHN : Pl (upd HM g (.dK (putK [(Sum.inr "word", V.str wd), (Sum.inr "opens", V.bl op), (Sum.inr "goals", V.ref am), (Sum.inr "card", V.bl ca), (Sum.inr "answers", V.ref an)] (Sum.inr "whose") (V.str wh)))) p q := plM.set qg qgq
    generalize upd HM g (.dK (putK [(Sum.inr "word", V.str wd), (Sum.inr "opens", V.bl op), (Sum.inr "goals", V.ref am), (Sum.inr "card", V.bl ca), (Sum.inr "answers", V.ref an)] (Sum.inr "whose") (V.str wh))) = HN at *
    have gN : Bg p g HD HN := (gK.trans bKM.bg).trans uHN
    have gKN : Bg p g HK HN := bKM.bg.trans uHN
    -- asks
    dsimp only
    refine step_seq ?_
    rw [rd_dp, rd_lcL]
    have hmlN := gN.pr hmlD plD nml dD
    obtain ⟨np1, nq1, nq2⟩ := hmlN
    have hmlN : PrL HN ml ks := ⟨np1, nq1, nq2⟩
    refine ⟨_, rfl, ml, rfl, ⟨_, SqL.of nq1⟩, lc_cnts (p := p) (q := q) hmlN nml plHN (by decide) (by omega) kc (fun _ _ => rfl) (fun _ _ => rfl) (fun _ _ => rfl) (fun _ _ => rfl) fun ak HO1 ck hak bO plO hck lak => ⟨_, rfl, g, _, rfl, rfl, _, bO _ _ qg lHN, by exact (by decide : 6 < sizeLine), ?_⟩⟩
    have qak := plHN.ne hak
    have gak : ak ≠ g := Ne.symm (ne_of_none lHN hak)
    have lHP1 : upd HO1 g (.dK (putK [(Sum.inr "word", V.str wd), (Sum.inr "opens", V.bl op), (Sum.inr "goals", V.ref am), (Sum.inr "card", V.bl ca), (Sum.inr "answers", V.ref an), (Sum.inr "whose", V.str wh)] (Sum.inr "asks") (V.ref ak))) g = some (.dK [(Sum.inr "word", V.str wd), (Sum.inr "opens", V.bl op), (Sum.inr "goals", V.ref am), (Sum.inr "card", V.bl ca), (Sum.inr "answers", V.ref an), (Sum.inr "whose", V.str wh), (Sum.inr "asks", (V.ref ak))]) := by rw [upd_same]; rfl
    have uHP1 : Bg p g HO1 (upd HO1 g (.dK (putK [(Sum.inr "word", V.str wd), (Sum.inr "opens", V.bl op), (Sum.inr "goals", V.ref am), (Sum.inr "card", V.bl ca), (Sum.inr "answers", V.ref an), (Sum.inr "whose", V.str wh)] (Sum.inr "asks") (V.ref ak)))) := Bg.upd
    have plHP1 : Pl (upd HO1 g (.dK (putK [(Sum.inr "word", V.str wd), (Sum.inr "opens", V.bl op), (Sum.inr "goals", V.ref am), (Sum.inr "card", V.bl ca), (Sum.inr "answers", V.ref an), (Sum.inr "whose", V.str wh)] (Sum.inr "asks") (V.ref ak)))) p q := plO.set qg qgq
    generalize upd HO1 g (.dK (putK [(Sum.inr "word", V.str wd), (Sum.inr "opens", V.bl op), (Sum.inr "goals", V.ref am), (Sum.inr "card", V.bl ca), (Sum.inr "answers", V.ref an), (Sum.inr "whose", V.str wh)] (Sum.inr "asks") (V.ref ak))) = HP1 at *
    have gP : Bg p g HD HP1 := (gN.trans bO.bg).trans uHP1
    have gNP : Bg p g HN HP1 := bO.bg.trans uHP1
    have fak := uHP1.pr lak plO qak (Dk.mk1 (bO _ _ qg lHN))
    -- pays
    dsimp only
    refine step_seq ?_
    rw [rd_dp, rd_lcL]
    have hmlP := gP.pr hmlD plD nml dD
    obtain ⟨np2, nq3, nq4⟩ := hmlP
    have hmlP : PrL HP1 ml ks := ⟨np2, nq3, nq4⟩
    refine ⟨_, rfl, ml, rfl, ⟨_, SqL.of nq3⟩, lc_cnts (p := p) (q := q) hmlP nml plHP1 (by decide) (by omega) kc (fun _ _ => rfl) (fun _ _ => rfl) (fun _ _ => rfl) (fun _ _ => rfl) fun pa HQ cp hpa bQ plQ hcp lpa => ⟨_, rfl, g, _, rfl, rfl, _, bQ _ _ qg lHP1, by exact (by decide : 7 < sizeLine), ?_⟩⟩
    have qpa := plHP1.ne hpa
    have gpa : pa ≠ g := Ne.symm (ne_of_none lHP1 hpa)
    have lHR : upd HQ g (.dK (putK [(Sum.inr "word", V.str wd), (Sum.inr "opens", V.bl op), (Sum.inr "goals", V.ref am), (Sum.inr "card", V.bl ca), (Sum.inr "answers", V.ref an), (Sum.inr "whose", V.str wh), (Sum.inr "asks", V.ref ak)] (Sum.inr "pays") (V.ref pa))) g = some (.dK [(Sum.inr "word", V.str wd), (Sum.inr "opens", V.bl op), (Sum.inr "goals", V.ref am), (Sum.inr "card", V.bl ca), (Sum.inr "answers", V.ref an), (Sum.inr "whose", V.str wh), (Sum.inr "asks", V.ref ak), (Sum.inr "pays", (V.ref pa))]) := by rw [upd_same]; rfl
    have uHR : Bg p g HQ (upd HQ g (.dK (putK [(Sum.inr "word", V.str wd), (Sum.inr "opens", V.bl op), (Sum.inr "goals", V.ref am), (Sum.inr "card", V.bl ca), (Sum.inr "answers", V.ref an), (Sum.inr "whose", V.str wh), (Sum.inr "asks", V.ref ak)] (Sum.inr "pays") (V.ref pa)))) := Bg.upd
    have plHR : Pl (upd HQ g (.dK (putK [(Sum.inr "word", V.str wd), (Sum.inr "opens", V.bl op), (Sum.inr "goals", V.ref am), (Sum.inr "card", V.bl ca), (Sum.inr "answers", V.ref an), (Sum.inr "whose", V.str wh), (Sum.inr "asks", V.ref ak)] (Sum.inr "pays") (V.ref pa)))) p q := plQ.set qg qgq
    generalize upd HQ g (.dK (putK [(Sum.inr "word", V.str wd), (Sum.inr "opens", V.bl op), (Sum.inr "goals", V.ref am), (Sum.inr "card", V.bl ca), (Sum.inr "answers", V.ref an), (Sum.inr "whose", V.str wh), (Sum.inr "asks", V.ref ak)] (Sum.inr "pays") (V.ref pa))) = HR at *
    have gR : Bg p g HD HR := (gP.trans bQ.bg).trans uHR
    have gPR : Bg p g HP1 HR := bQ.bg.trans uHR
    have fpa := uHR.pr lpa plQ qpa (Dk.mk1 (bQ _ _ qg lHP1))
    -- steps
    dsimp only
    refine step_seq ?_
    rw [rd_dp]
    have hlR := gR _ _ qrl (dD.ne hlD (fun _ e => by cases e)) hlD
    refine ⟨_, rfl, _, rfl, sz (by simp), fun T hT => ?_⟩
    have nT := My.Same.new (o := .tup [.str act]) (Same.refl HR) hT
    have lT : upd HR T (.tup [.str act]) T = some (.tup [.str act]) := upd_same
    generalize upd HR T (.tup [.str act]) = HS at *
    refine ⟨sz (by simp), fun L1 hL1 => ?_⟩
    have nL1 := My.Same.new (o := .lst [.ref T]) (Same.refl HS) hL1
    have lL1 : upd HS L1 (.lst [.ref T]) L1 = some (.lst [.ref T]) := upd_same
    generalize upd HS L1 (.lst [.ref T]) = HT1 at *
    have erp : (List.replicate (if (!decide (V.str act = V.str "")) = true then (1 : Int) else 0).toNat [V.ref T]).flatten = (if act = "" then ([] : List Addr) else [T]).map V.ref := by
      by_cases z : act = ""
      · rw [if_pos z, if_neg (by simp [z])]; rfl
      · rw [if_neg z, if_pos (by simp [z])]; rfl
    refine ⟨_, rfl, rfl, .inr ⟨_, rfl, L1, _, _, rfl, rfl, lL1, by split <;> decide, by split <;> decide, sz (by show 1 * _ ≤ 100000; split <;> decide), fun L2 hL2 => ?_⟩⟩
    rw [erp]
    have nL2 := My.Same.new (o := .lst ((if act = "" then ([] : List Addr) else [T]).map V.ref)) (Same.refl HT1) hL2
    have lL2 : upd HT1 L2 (.lst ((if act = "" then ([] : List Addr) else [T]).map V.ref)) L2 = some (.lst ((if act = "" then ([] : List Addr) else [T]).map V.ref)) := upd_same
    generalize upd HT1 L2 (.lst ((if act = "" then ([] : List Addr) else [T]).map V.ref)) = HU at *
    have sRU := (nT.trans nL1).trans nL2
    have zmv : sps.length ≤ 2 := by
      rw [Paired.length hpB, hlen]
      have := ej.2.1
      omega
    refine ⟨rl, L2, _, _, rfl, rfl, sRU _ _ hlR, lL2, sz (by rw [List.length_map, List.length_map]; split <;> simp <;> omega), fun st hst => ?_⟩
    rw [List.map_append.symm]
    generalize hsq : sps ++ (if act = "" then ([] : List Addr) else [T]) = sq at *
    have nst := My.Same.new (o := .lst (sq.map V.ref)) (Same.refl HU) hst
    have lst1 : upd HU st (.lst (sq.map V.ref)) st = some (.lst (sq.map V.ref)) := upd_same
    generalize upd HU st (.lst (sq.map V.ref)) = HV at *
    have sRV := sRU.trans nst
    have plV := plHR.same sRV
    have lgV := sRV _ _ lHR
    refine ⟨_, rfl, g, _, rfl, rfl, _, lgV, by exact (by decide : 8 < sizeLine), ?_⟩
    have lHW : upd HV g (.dK (putK [(Sum.inr "word", V.str wd), (Sum.inr "opens", V.bl op), (Sum.inr "goals", V.ref am), (Sum.inr "card", V.bl ca), (Sum.inr "answers", V.ref an), (Sum.inr "whose", V.str wh), (Sum.inr "asks", V.ref ak), (Sum.inr "pays", V.ref pa)] (Sum.inr "steps") (V.ref st))) g = some (.dK [(Sum.inr "word", V.str wd), (Sum.inr "opens", V.bl op), (Sum.inr "goals", V.ref am), (Sum.inr "card", V.bl ca), (Sum.inr "answers", V.ref an), (Sum.inr "whose", V.str wh), (Sum.inr "asks", V.ref ak), (Sum.inr "pays", V.ref pa), (Sum.inr "steps", (V.ref st))]) := by rw [upd_same]; rfl
    have uHW : Bg p g HV (upd HV g (.dK (putK [(Sum.inr "word", V.str wd), (Sum.inr "opens", V.bl op), (Sum.inr "goals", V.ref am), (Sum.inr "card", V.bl ca), (Sum.inr "answers", V.ref an), (Sum.inr "whose", V.str wh), (Sum.inr "asks", V.ref ak), (Sum.inr "pays", V.ref pa)] (Sum.inr "steps") (V.ref st)))) := Bg.upd
    have plHW : Pl (upd HV g (.dK (putK [(Sum.inr "word", V.str wd), (Sum.inr "opens", V.bl op), (Sum.inr "goals", V.ref am), (Sum.inr "card", V.bl ca), (Sum.inr "answers", V.ref an), (Sum.inr "whose", V.str wh), (Sum.inr "asks", V.ref ak), (Sum.inr "pays", V.ref pa)] (Sum.inr "steps") (V.ref st)))) p q := plV.set qg qgq
    generalize upd HV g (.dK (putK [(Sum.inr "word", V.str wd), (Sum.inr "opens", V.bl op), (Sum.inr "goals", V.ref am), (Sum.inr "card", V.bl ca), (Sum.inr "answers", V.ref an), (Sum.inr "whose", V.str wh), (Sum.inr "asks", V.ref ak), (Sum.inr "pays", V.ref pa)] (Sum.inr "steps") (V.ref st))) = HW at *
    have gW : Bg p g HR HW := (Same.bg sRV).trans uHW
    have gDW : Bg p g HD HW := gR.trans gW
    have dV : Dk HV g := Dk.mk1 lgV
    refine ⟨_, rfl, ?_⟩
    have hstp : Paired (StpAt HV) sq (mv ++ ((if act = "" then (none : Option Str) else some act).toList.map Stp.act)) := by
      rw [← hsq]
      have h1 := (gR.trans (Same.bg sRV)).stp hpD plD dD
      by_cases z : act = ""
      · rw [if_pos z, if_pos z]; simpa using h1
      · rw [if_neg z, if_neg z]
        exact Paired.snoc h1 ⟨((nL1.trans nL2).trans nst) _ _ lT, trivial⟩
    refine qq g HW ⟨wd, op, as, wh, ck, cp, ca, gs, mv ++ ((if act = "" then (none : Option Str) else some act).toList.map Stp.act)⟩ (BD.none qg hg) ?_ plHW ⟨am, an, ak, pa, st, sq, ⟨B3.none qam ham, BD.none qan (gI.none qan gan han), BD.none qak (gN.none qak gak hak), BD.none qpa (gP.none qpa gpa hpa), BD.none ((plHR.same sRU).ne hst) ((gR.trans (Same.bg sRU)).none ((plHR.same sRU).ne hst) (Ne.symm (ne_of_none (sRU _ _ lHR) hst)) hst)⟩, lHW, gDW _ _ qam (dD.ne lamD (fun _ e => by cases e)) lamD, ?_, ?_, ?_, uHW _ _ (plHR.same sRU |>.ne hst) (dV.ne lst1 (fun _ e => by cases e)) lst1, uHW.stp hstp plV dV⟩ rfl ?_
    · intro b u n h
      exact gDW b u n (ne_of_none (BD b u n h) hg) (BD b u n h)
    · exact (gKN.trans (gNP.trans (gPR.trans gW))) _ _ qan gan fan
    · exact (gPR.trans gW).pr fak plHP1 qak (Dk.mk1 lHP1)
    · exact gW.pr fpa plHR qpa (Dk.mk1 lHR)
    · refine ⟨hsub, hwh, hck, hcp, ⟨ei.toNat, zgo, hgo.symm⟩, ⟨mv, (if act = "" then none else some act), by rw [hlen]; have := ej.2.1; omega, rfl, fun s hs => ?_, fun x hx => ?_⟩⟩
      · rw [hns]; exact hok s hs
      · rcases hact with z | z
        · rw [if_pos z] at hx; cases hx
        · by_cases y : act = ""
          · rw [if_pos y] at hx; cases hx
          · rw [if_neg y] at hx
            cases hx
            exact z
end
end My

set_option Elab.async false
set_option linter.all false
set_option maxRecDepth 100000
set_option maxHeartbeats 4000000
namespace My
open PySem PySem.Spec PyProof.Rows L2
theorem cut_drop {xs : List V} {i : Int} (h : 0 ≤ i) : cutV xs (some i) none = xs.drop i.toNat := by
  unfold cutV
  have e1 : HT.sIx xs.length xs.length none = xs.length := rfl
  have e2 : HT.sIx xs.length 0 (some i) = min i.toNat xs.length := by
    show (if i < 0 then (i + (xs.length : Int)).toNat else min i.toNat xs.length) = _
    rw [if_neg (by omega)]
  rw [e1, e2]
  rcases Nat.le_total i.toNat xs.length with z | z
  · rw [Nat.min_eq_left z, List.take_of_length_le (by rw [List.length_drop]; exact Nat.le_refl _)]
  · rw [Nat.min_eq_right z, Nat.sub_self, List.take_zero, List.drop_eq_nil_of_le z]
theorem pd_left {α β : Type} {F : α → β → Prop} {xs : List α} {ys : List β} (h : Paired F xs ys) : ∀ x ∈ xs, ∃ y, F x y := by
  induction h with
  | nil => intro x hx; cases hx
  | cons h _ ih =>
    intro x hx
    rcases List.mem_cons.mp hx with rfl | hx
    · exact ⟨_, h⟩
    · exact ih x hx
theorem pd_mono {α β : Type} {F G : α → β → Prop} {xs : List α} {ys : List β} (h : Paired F xs ys) (k : ∀ a b, a ∈ xs → F a b → G a b) : Paired G xs ys := by
  induction h with
  | nil => exact .nil
  | cons h _ ih => exact .cons (k _ _ (List.mem_cons_self ..) h) (ih fun a b m => k a b (List.mem_cons_of_mem _ m))
theorem pd_cons {α β : Type} {F : α → β → Prop} {x : α} {y : β} {xs : List α} {ys : List β} (h : Paired F (x :: xs) (y :: ys)) : F x y ∧ Paired F xs ys := by
  cases h with
  | cons h k => exact ⟨h, k⟩
section
variable {p q g l : Addr} {H H1 H2 H3 : Hp} {o : HO} {d : Dv}
theorem strs_ne {xs : List Str} : ∀ (q : Addr) (k : Int), HO.lst (xs.map V.str) ≠ .lst [.ref q, .int k] := fun q k e => by
  rcases xs with _ | ⟨x, xs⟩ <;> simp at e
theorem refs_ne {xs : List Addr} : ∀ (q : Addr) (k : Int), HO.lst (xs.map V.ref) ≠ .lst [.ref q, .int k] := fun q k e => by
  rcases xs with _ | ⟨x, _ | ⟨y, xs⟩⟩ <;> simp at e
theorem PrL.btO {ks : List (Str × Int)} (h : PrL H l ks) (pl : Pl H p q) (b : Bt p H H1) : PrL H1 l ks := h.bt pl (pl.neO h.choose_spec.1 refs_ne) b
theorem StpAt.neP {a : Addr} {s : Stp} (h : StpAt H a s) (pl : Pl H p q) : a ≠ p := pl.neO h.1 (fun _ _ e => by cases s <;> cases e)
/-- a drawn deed's dict stands as long as only the pool changes -/
theorem DeedAt.bt {S : Addr → Prop} (h : DeedAt S H g d) (pl : Pl H p q) (b : Bt p H H1) : DeedAt S H1 g d := by
  obtain ⟨ga, an, ak, pa, st, sps, hs, h1, h2, h3, h4, h5, h6, h7⟩ := h
  exact ⟨ga, an, ak, pa, st, sps, hs, b _ _ (pl.neO h1 (fun _ _ e => by cases e)) h1, b _ _ (pl.neO h2 strs_ne) h2, b _ _ (pl.neO h3 strs_ne) h3, h4.btO pl b, h5.btO pl b, b _ _ (pl.neO h6 refs_ne) h6, Paired.mono (fun a s z => ⟨b _ _ (z.neP pl) z.1, z.2⟩) h7⟩
theorem DeedAt.same {S : Addr → Prop} (h : DeedAt S H g d) (b : Same H H1) : DeedAt S H1 g d := by
  obtain ⟨ga, an, ak, pa, st, sps, hs, h1, h2, h3, h4, h5, h6, h7⟩ := h
  exact ⟨ga, an, ak, pa, st, sps, hs, b _ _ h1, b _ _ h2, b _ _ h3, h4.same b, h5.same b, b _ _ h6, Paired.mono (fun a s z => ⟨b _ _ z.1, z.2⟩) h7⟩
theorem DeedAt.imp {S T : Addr → Prop} (h : DeedAt S H g d) (b : ∀ a, S a → T a) : DeedAt T H g d := by
  obtain ⟨ga, an, ak, pa, st, sps, hs, h1⟩ := h
  exact ⟨ga, an, ak, pa, st, sps, ⟨b _ hs.1, b _ hs.2.1, b _ hs.2.2.1, b _ hs.2.2.2.1, b _ hs.2.2.2.2⟩, h1⟩
/-- a thing that is none of its parts, no tuple, is written -/
theorem DeedAt.set {S : Addr → Prop} (h : DeedAt S H g d) {a : Addr} (n : a ≠ g) (m : ¬ S a) (ht : ∀ xs, H a ≠ some (.tup xs)) : DeedAt S (upd H a o) g d := by
  obtain ⟨ga, an, ak, pa, st, sps, hs, h1, h2, h3, h4, h5, h6, h7⟩ := h
  have y : ∀ b, S b → b ≠ a := by rintro b hb rfl; exact m hb
  have z : ∀ b xs, H b = some (.tup xs) → upd H a o b = some (.tup xs) := fun b xs e => by
    rw [upd_ne (by rintro rfl; exact ht _ e)]; exact e
  have z2 : ∀ {l ks}, S l → PrL H l ks → PrL (upd H a o) l ks := fun hl ⟨ps, e1, e2⟩ => ⟨ps, by rw [upd_ne (y _ hl)]; exact e1, Paired.mono (fun x y e => z _ _ e) e2⟩
  exact ⟨ga, an, ak, pa, st, sps, hs, by rw [upd_ne (Ne.symm n)]; exact h1, by rw [upd_ne (y _ hs.1)]; exact h2, by rw [upd_ne (y _ hs.2.1)]; exact h3, z2 hs.2.2.1 h4, z2 hs.2.2.2.1 h5, by rw [upd_ne (y _ hs.2.2.2.2)]; exact h6, Paired.mono (fun a s e => ⟨z _ _ e.1, e.2⟩) h7⟩
/-- another dict is written -/
theorem DeedAt.setD {S : Addr → Prop} {k k2 : List (Key × V)} (h : DeedAt S H g d) {a : Addr} (n : a ≠ g) (ha : H a = some (.dK k)) : DeedAt S (upd H a (.dK k2)) g d := by
  obtain ⟨ga, an, ak, pa, st, sps, hs, h1, h2, h3, h4, h5, h6, h7⟩ := h
  have z : ∀ b o, H b = some o → (∀ k, o ≠ .dK k) → upd H a (.dK k2) b = some o := fun b o e c => by
    rw [upd_ne (by rintro rfl; rw [ha] at e; exact c _ (Option.some.inj e).symm)]; exact e
  have z2 : ∀ {l ks}, PrL H l ks → PrL (upd H a (.dK k2)) l ks := fun ⟨ps, e1, e2⟩ => ⟨ps, z _ _ e1 (fun _ e => by cases e), Paired.mono (fun x y e => z _ _ e (fun _ e => by cases e)) e2⟩
  exact ⟨ga, an, ak, pa, st, sps, hs, by rw [upd_ne (Ne.symm n)]; exact h1, z _ _ h2 (fun _ e => by cases e), z _ _ h3 (fun _ e => by cases e), z2 h4, z2 h5, z _ _ h6 (fun _ e => by cases e), Paired.mono (fun a s e => ⟨z _ _ e.1 (fun _ e => by cases e), e.2⟩) h7⟩
/-- its opens is written -/
theorem DeedAt.opens {S : Addr → Prop} (h : DeedAt S H g d) (b : Bool) : ∃ kvs, H g = some (.dK kvs) ∧ kvs.length < sizeLine ∧ DeedAt S (upd H g (.dK (putK kvs (.inr "opens") (.bl b)))) g { d with opens := b } := by
  obtain ⟨ga, an, ak, pa, st, sps, hs, h1, h2, h3, h4, h5, h6, h7⟩ := h
  refine ⟨_, h1, by exact (by decide : 9 < sizeLine), ?_⟩
  have e : putK (ddk d ga an ak pa st) (.inr "opens") (.bl b) = ddk { d with opens := b } ga an ak pa st := rfl
  rw [e]
  have z : ∀ b' o, H b' = some o → (∀ k, o ≠ .dK k) → upd H g (.dK (ddk { d with opens := b } ga an ak pa st)) b' = some o := fun b o e c => by
    rw [upd_ne (by rintro rfl; rw [h1] at e; exact c _ (Option.some.inj e).symm)]; exact e
  have z2 : ∀ {l ks}, PrL H l ks → PrL (upd H g (.dK (ddk { d with opens := b } ga an ak pa st))) l ks := fun ⟨ps, e1, e2⟩ => ⟨ps, z _ _ e1 (fun _ e => by cases e), Paired.mono (fun x y e => z _ _ e (fun _ e => by cases e)) e2⟩
  exact ⟨ga, an, ak, pa, st, sps, hs, upd_same, z _ _ h2 (fun _ e => by cases e), z _ _ h3 (fun _ e => by cases e), z2 h4, z2 h5, z _ _ h6 (fun _ e => by cases e), Paired.mono (fun a s e => ⟨z _ _ e.1 (fun _ e => by cases e), e.2⟩) h7⟩
theorem Drn.opens {ws : List Str} {ks : List (Str × Int)} (h : Drn ws ks d) (b : Bool) : Drn ws ks { d with opens := b } := ⟨h.ans, h.whose, h.asks, h.pays, h.goals, h.steps⟩
/-- a game under way: its dict, its deeds -/
structure Gm (S : Addr → Prop) (p q g dl ml : Addr) (gs : List Addr) (ds : List Dv) (ks : List (Str × Int)) (H0 H : Hp) (kvs : List (Key × V)) : Prop where
  bt : Bt p H0 H
  pl : Pl H p q
  lg : H g = some (.dK kvs)
  ldl : H dl = some (.lst (gs.map V.ref))
  lml : PrL H ml ks
  hp : Paired (DeedAt S H) gs ds
  g0 : H0 g = none
  gp : g ≠ p
  gq : g ≠ q
  dp : dl ≠ p
  mp : ml ≠ p
  gg : ∀ a ∈ gs, g ≠ a
section
variable {S : Addr → Prop} {dl ml : Addr} {gs : List Addr} {ds : List Dv} {ks : List (Str × Int)} {H0 : Hp} {kvs kvs2 : List (Key × V)}
theorem Gm.go (h : Gm S p q g dl ml gs ds ks H0 H kvs) (b : Bt p H H1) (pl : Pl H1 p q) : Gm S p q g dl ml gs ds ks H0 H1 kvs :=
  ⟨h.bt.trans b, pl, b _ _ h.gp h.lg, b _ _ h.dp h.ldl, h.lml.btO h.pl b, Paired.mono (fun _ _ z => z.bt h.pl b) h.hp, h.g0, h.gp, h.gq, h.dp, h.mp, h.gg⟩
theorem Gm.same (h : Gm S p q g dl ml gs ds ks H0 H kvs) (b : Same H H1) : Gm S p q g dl ml gs ds ks H0 H1 kvs := h.go (Same.bt b) (h.pl.same b)
theorem Gm.put (h : Gm S p q g dl ml gs ds ks H0 H kvs) : Gm S p q g dl ml gs ds ks H0 (upd H g (.dK kvs2)) kvs2 :=
  ⟨h.bt.set h.g0, h.pl.set h.gp h.gq, upd_same, by rw [upd_ne (by rintro rfl; have e := h.ldl; rw [h.lg] at e; cases e)]; exact h.ldl, (Bg.upd (p := p)).pr h.lml h.pl h.mp (Dk.mk1 h.lg), pd_mono h.hp fun a d ha z => z.setD (h.gg a ha) h.lg, h.g0, h.gp, h.gq, h.dp, h.mp, h.gg⟩
end
/-- [_law_drawn_deed(pool, word, words, marks, rarely) for word in words] -/
theorem lc_deeds {K : PySem.W.Frag} {wl ml : Addr} {ws : List Str} {ks : List (Str × Int)} {rr : Int} {σ : L2.St} {Q : VK} (hl : H wl = some (.lst (ws.map V.str))) (np : wl ≠ p) (pl : Pl H p q) (hz : ws.length ≤ 20) (hml : PrL H ml ks) (nml : ml ≠ p) (hks : ks ∈ marks7) (hr : 0 < rr)
    (hw : ∀ x, wipe ((wipe σ [11]).set 11 (some x)) [11] = wipe σ [11]) (h1 : ∀ x, ((wipe σ [11]).set 11 (some x))[11]? = some (some x)) (h0 : ∀ x, ((wipe σ [11]).set 11 (some x))[0]? = some (some (.ref p)))
    (h4 : ∀ x, ((wipe σ [11]).set 11 (some x))[4]? = some (some (.ref wl))) (h5 : ∀ x, ((wipe σ [11]).set 11 (some x))[5]? = some (some (.ref ml))) (h3 : ∀ x, ((wipe σ [11]).set 11 (some x))[3]? = some (some (.int rr)))
    (qq : ∀ (D : Addr) (H' : Hp) (gs : List Addr) (ds : List Dv), H D = none → Bt p H H' → Pl H' p q → H' D = some (.lst (gs.map V.ref)) → Paired (DeedAt (fun a => H a = none ∧ a ≠ D) H') gs ds → ds.map (·.word) = ws → (∀ d ∈ ds, Drn ws ks d) → gs.Nodup → (∀ g ∈ gs, H g = none) → Q (.ref D) H') :
    lcB (Itl K wl) (gName 11) tYes (tCall spDdn [] E0 (tCons (tVar 0) (tCons (tVar 11) (tCons (tVar 4) (tCons (tVar 5) (tCons (tVar 3) tNil)))))) [11] σ H Q := by
  intro D hD
  have nD := pl.ne hD
  have nQ := pl.neQ hD
  refine lc_it (walk_list (xs := ws.map V.str)) (fun i H' => Bt p H H' ∧ Pl H' p q ∧ ∃ (gs : List Addr) (ds : List Dv), H' D = some (.lst (gs.map V.ref)) ∧ Paired (DeedAt (fun a => H a = none ∧ a ≠ D) H') gs ds ∧ ds.map (·.word) = ws.take i ∧ (∀ d ∈ ds, Drn ws ks d) ∧ gs.Nodup ∧ ∀ g ∈ gs, H g = none)
    ⟨(Bt.refl p H).set hD, pl.set nD nQ, [], [], upd_same, .nil, rfl, (fun e h => nomatch h), List.nodup_nil, (fun e h => nomatch h)⟩ (fun i H' _ h => SqL.of (h.1 _ _ np hl)) ?_ ?_
  · rintro i x H' H2 hi ⟨bt, pl', gs, ds, hd, hp, hwd, hdr, hnd, hno⟩ ⟨rfl, hx⟩
    rw [List.getElem?_map] at hx
    obtain ⟨s, hs, rfl⟩ := Option.map_eq_some_iff.mp hx
    rw [List.length_map] at hi
    refine ⟨hw _, ?_⟩
    simp only [tYes, if_true]
    refine ⟨_, h0 _, _, h1 _, _, h4 _, _, h5 _, _, h3 _, p, q, wl, ml, s, ws, ks, rr, rfl, pl', bt _ _ np hl, np, hz, hml.btO pl bt, nml, hks, hr, fun g H3 d hg b3 pl3 hd3o hwd3 hdr3 => ?_⟩
    have hD3 := b3 _ _ nD hd
    have gne : g ≠ D := by rintro rfl; rw [hd] at hg; cases hg
    have len : gs.length = ds.length := Paired.length hp
    have len2 : ds.length ≤ i := by
      have := congrArg List.length hwd
      rw [List.length_map, List.length_take] at this
      omega
    have z : ∀ {a e}, DeedAt (fun a => H a = none ∧ a ≠ D) H3 a e → DeedAt (fun a => H a = none ∧ a ≠ D) (upd H3 D (.lst (gs.map V.ref ++ [.ref g]))) a e := fun {a e} w =>
      w.set (by obtain ⟨_, _, _, _, _, _, _, k1, _⟩ := w; rintro rfl; rw [hD3] at k1; cases k1) (fun h => h.2 rfl) (fun xs e => by rw [hD3] at e; cases e)
    have hd3 : DeedAt (fun a => H a = none ∧ a ≠ D) H3 g d := hd3o.imp fun a ha => ⟨(by
      cases e : H a with
      | none => rfl
      | some u =>
        by_cases hap : a = p
        · obtain ⟨_, _, w, _⟩ := pl'
          rw [hap, w] at ha; cases ha
        · rw [bt a u hap e] at ha; cases ha), by rintro rfl; rw [hd] at ha; cases ha⟩
    refine ⟨_, hD3, szl (by rw [List.length_map]; omega), (bt.trans b3).set hD, pl3.set nD nQ, gs ++ [g], ds ++ [d], by rw [upd_same, List.map_append]; rfl, ?_, ?_, ?_, ?_, ?_⟩
    · exact Paired.snoc (Paired.mono (fun a e w => z (w.bt pl' b3)) hp) (z hd3)
    · rw [List.map_append, hwd, take_more hs, ← hwd3]; rfl
    · intro e he
      rcases List.mem_append.mp he with he | he
      · exact hdr e he
      · rw [List.mem_singleton.mp he]; exact hdr3
    · rw [List.nodup_append]
      refine ⟨hnd, by simp, fun a ha b hb => ?_⟩
      rw [List.mem_singleton.mp hb]
      rintro rfl
      obtain ⟨e, he⟩ := pd_left hp a ha
      obtain ⟨ga, an, ak, pa, st, sps, _, k1, _⟩ := he
      rw [hg] at k1; cases k1
    · intro a ha
      rcases List.mem_append.mp ha with ha | ha
      · exact hno a ha
      · rw [List.mem_singleton.mp ha]; exact bt.none (pl'.ne hg) hg
  · rintro H' ⟨bt, pl', gs, ds, hd, hp, hwd, hdr, hnd, hno⟩
    rw [List.length_map, List.take_length] at hwd
    exact qq D H' gs ds hD bt pl' hd hp hwd hdr hnd hno
/-- [_law_draw(pool, end + 1) for mark, end in marks] -/
theorem lc_start {K : PySem.W.Frag} {ks : List (Str × Int)} {σ : L2.St} {Q : VK} (hl : PrL H l ks) (np : l ≠ p) (pl : Pl H p q) (hz : ks.length ≤ 20) (hk : ∀ e ∈ ks, 1 ≤ e.2 ∧ e.2 ≤ 3)
    (hw : ∀ x y, wipe (((wipe σ [13, 14]).set 13 (some x)).set 14 (some y)) [13, 14] = wipe σ [13, 14]) (h2 : ∀ x y, (((wipe σ [13, 14]).set 13 (some x)).set 14 (some y))[14]? = some (some y)) (h0 : ∀ x y, (((wipe σ [13, 14]).set 13 (some x)).set 14 (some y))[0]? = some (some (.ref p)))
    (qq : ∀ (D : Addr) (H' : Hp) (xs : List Int), H D = none → Bt p H H' → Pl H' p q → H' D = some (.lst (xs.map V.int)) → xs.length = ks.length → (∀ (i : Nat) (e : Str × Int) (x : Int), ks[i]? = some e → xs[i]? = some x → 0 ≤ x ∧ x ≤ e.2) → Q (.ref D) H') :
    lcB (Itl K l) (gTup K 2 (gCons (gName 13) (gCons (gName 14) gNil))) tYes (tCall spDrwB [] E0 (tCons (tVar 0) (tCons (tOp (rI0 fun i j => V.int (i + j)) (tVar 14) (tC (V.int 1))) tNil))) [13, 14] σ H Q := by
  obtain ⟨ps, hl, hp⟩ := hl
  have len : ps.length = ks.length := Paired.length hp
  intro D hD
  have nD := pl.ne hD
  have nQ := pl.neQ hD
  refine lc_it (walk_list (xs := ps.map V.ref)) (fun i H' => Bt p H H' ∧ Pl H' p q ∧ ∃ xs : List Int, H' D = some (.lst (xs.map V.int)) ∧ xs.length = (ks.take i).length ∧ ∀ (j : Nat) (e : Str × Int) (x : Int), ks[j]? = some e → xs[j]? = some x → 0 ≤ x ∧ x ≤ e.2)
    ⟨(Bt.refl p H).set hD, pl.set nD nQ, [], upd_same, rfl, fun j e x _ h => by simp at h⟩ (fun i H' _ h => SqL.of (h.1 _ _ np hl)) ?_ ?_
  · rintro i x H' H2 hi ⟨bt, pl', xs, hd, hlen, hx2⟩ ⟨rfl, hx⟩
    rw [List.getElem?_map] at hx
    obtain ⟨b, hb, rfl⟩ := Option.map_eq_some_iff.mp hx
    obtain ⟨e, he, hbe⟩ := pr_at hp i b hb
    have hbe' := bt _ _ (pl.neO hbe (fun _ _ z => by cases z)) hbe
    have hke := hk e (List.mem_of_getElem? he)
    rw [List.length_map] at hi
    have hli : xs.length = i := by rw [hlen, List.length_take]; omega
    refine ⟨b, _, rfl, SqT.of hbe', rfl, _, _, rfl, _, _, rfl, rfl, hw _ _, ?_⟩
    simp only [tYes, if_true]
    refine ⟨_, h0 _ _, _, h2 _ _, e.2, 1, rfl, rfl, p, q, e.2 + 1, rfl, by omega, pl', fun r H3 b3 pl3 r0 r1 => ?_⟩
    have hd3 := b3 _ _ nD hd
    refine ⟨_, hd3, szl (by rw [List.length_map]; omega), (bt.trans b3).set hD, pl3.set nD nQ, xs ++ [r], by rw [upd_same, List.map_append]; rfl, by rw [take_more he, List.length_append, List.length_append, hlen]; rfl, ?_⟩
    intro j e' x' hj hx'
    by_cases hjl : j < xs.length
    · rw [List.getElem?_append_left hjl] at hx'
      exact hx2 j e' x' hj hx'
    · have hjx : j = i := by
        have := List.getElem?_eq_some_iff.mp hx'
        obtain ⟨h, _⟩ := this
        rw [List.length_append, List.length_singleton] at h
        omega
      subst hjx
      rw [List.getElem?_append_right (by omega), hli, Nat.sub_self] at hx'
      obtain rfl : r = x' := by simpa using hx'
      rw [he] at hj
      obtain rfl := Option.some.inj hj
      exact ⟨r0, by omega⟩
  · rintro H' ⟨bt, pl', xs, hd, hlen, hx2⟩
    rw [List.length_map, len, List.take_length] at hlen
    exact qq D H' xs hD bt pl' hd hlen hx2
end
end My

set_option Elab.async false
set_option linter.all false
set_option maxRecDepth 100000
set_option maxHeartbeats 4000000
namespace My
open PySem PySem.Spec PyProof.Rows L2
abbrev sDgm : Stmt := topI 26
abbrev NDgm : List Str := ["pool", "deeds", "wakings", "rarely", "words", "marks", "game", "rows", "turn", "event", "seat", "word", "row", "mark", "end"]
theorem scDgm : FnScope NDgm ["pool", "deeds", "wakings", "rarely"] (defScope sDgm) := ⟨rfl, rfl, rfl, by decide +kernel, rfl, by decide +kernel, by decide +kernel⟩
def five : List Str := ["a", "bb", "hit", "nil", "up"]
/-- what a drawn game's words are -/
def Wds (ws : List Str) : Prop := ws.Sublist five ∧ 0 < ws.length
/-- a drawn game without wakings -/
def spDgm0 : Sp := fun vs H Q _ => ∃ (p q : Addr) (dd rr : Int), vs = [.ref p, .int dd, .int 0, .int rr] ∧ Pl H p q ∧ 0 < dd ∧ 0 < rr ∧
  ∀ (g dl : Addr) (kvs : List (Key × V)) (H' : Hp) (gs : List Addr) (ds : List Dv) (ws : List Str) (ks : List (Str × Int)), H g = none → Bt p H H' → Pl H' p q → H' g = some (.dK kvs) → valV kvs (.inr "deeds") = some (.ref dl) → H' dl = some (.lst (gs.map V.ref)) →
    Wds ws → ks ∈ marks7 → Paired (DeedAt (fun a => H a = none) H') gs ds → ds.map (·.word) = ws → (∀ d ∈ ds, Drn ws ks d) → Q (.ref g) H'
section
variable {P : Program} {w : World} {K : PySem.W.Frag} {mg : Str → Option Value} {base : Heap}
theorem ok_dgm0 {f : Addr} {fd : FuncData} (F : Fun K "_law_drawn_game" "_law_drawn_game" sDgm f fd) (B : Bn mg) (D_draw : Df K mg "_law_draw" sDrw ["pool", "many"]) (G_draw : FnOk P w K mg base CX0 1 D_draw.f D_draw.fd ["pool", "many"] spDrwB) (D_pick : Df K mg "_law_pick" sPck ["pool", "some"]) (G_pick : FnOk P w K mg base CX0 2 D_pick.f D_pick.fd ["pool", "some"] spPckB)
    (D_marks : Df K mg "_law_marks" sMks ["pool"]) (G_marks : FnOk P w K mg base CX0 3 D_marks.f D_marks.fd ["pool"] spMks) (D_deed : Df K mg "_law_drawn_deed" sDdn ["pool", "word", "words", "marks", "rarely"]) (G_deed : FnOk P w K mg base CX0 3 D_deed.f D_deed.fd ["pool", "word", "words", "marks", "rarely"] spDdn) : FnOk P w K mg base CX0 4 f fd ["pool", "deeds", "wakings", "rarely"] spDgm0 := by
  refine F.ok scDgm (fun vs H Q E h => ?_) (fun cdv A outer s H vs Q E hr h => ?_)
  · obtain ⟨p, q, dd, rr, rfl, _⟩ := h
    rfl
  · obtain ⟨p, q, dd, rr, rfl, pl, hdd, hrr, qq⟩ := h
    have hr3 := hr
    have hr2 := hr.mono (by decide : 2 ≤ 3)
    have hr1 := hr.mono (by decide : 1 ≤ 3)
    have hu64 := hr.units
    have hu := hu_of hr
    refine ⟨_, (pss_cons (ps_set (i := 4) scDgm.nd rfl (Or.inr rfl) (pe_slice sl_list (pe_slice sl_list (pe_lst (pa_cons pe_str (pa_cons pe_str (pa_cons pe_str (pa_cons pe_str (pa_cons pe_str pa_nil)))))) (po_some (pc D_draw G_draw hr1 (pa_cons (pv 0) (pa_cons pe_int pa_nil)))) po_none) po_none (po_some (pe_op op_add pe_int (pc D_draw G_draw hr1 (pa_cons (pv 0) (pa_cons (pv 1) pa_nil)))))))
      (pss_cons (ps_set (i := 5) scDgm.nd rfl (Or.inr rfl) (pc D_marks G_marks hr3 (pa_cons (pv 0) pa_nil)))
      (pss_cons (ps_set (i := 6) scDgm.nd rfl (Or.inl rfl) (pe_disp (pps_cons pe_str (pv 5) (pps_cons pe_str (pe_lc (own := [("word", 11)]) (g := gName 11) rfl scDgm.nd (pi_list (pv 4)) (blkOk_by (own := [("word", 11)]) (N := NDgm) (sc := defScope sDgm) (by decide +kernel)) (fun _ _ _ _ _ => pg_name (i := 11) scDgm.nd rfl (Or.inl rfl)) (fun _ _ _ _ _ => pts_nil) (fun _ _ _ _ _ => (pc D_deed G_deed hr3 (pa_cons (pv 0) (pa_cons (pv 11) (pa_cons (pv 4) (pa_cons (pv 5) (pa_cons (pv 3) pa_nil)))))))) pps_nil)) (by rfl) (by rfl) (fun z => by cases z) (by decide)))
      (pss_cons (ps_dp hu64 (pe_ix ix_lst (pe_dg hu64 (pv 6) pe_str) pe_int (fun _ _ => rfl)) pe_str pe_bl rfl)
      (pss_cons (ps_set (i := 7) scDgm.nd rfl (Or.inr rfl) pe_dnewT)
      (pss_cons (ps_for PassesOwn.never rfl (pi_range1 (by rfl) B.range (pa_cons (pc D_draw G_draw hr1 (pa_cons (pv 0) (pa_cons (pe_op op_add (pv 2) pe_int) pa_nil))) pa_nil)) (pg_name (i := 8) scDgm.nd rfl (Or.inl rfl))
        (pss_cons (ps_set (i := 9) scDgm.nd rfl (Or.inl rfl) (pc D_pick G_pick hr2 (pa_cons (pv 0) (pa_cons (pe_lst (pa_cons pe_str (pa_cons pe_str (pa_cons pe_str (pa_cons pe_str (pa_cons pe_str pa_nil)))))) pa_nil))))
        (pss_cons (ps_set (i := 10) scDgm.nd rfl (Or.inl rfl) (pc D_pick G_pick hr2 (pa_cons (pv 0) (pa_cons (pe_lst (pa_cons pe_str (pa_cons pe_str pa_nil))) pa_nil))))
        (pss_one (ps_dput hu (pv 7) (pe_tup (pa_cons (pv 9) (pa_cons (pc D_pick G_pick hr2 (pa_cons (pv 0) (pa_cons (pv 4) pa_nil))) (pa_cons (pc D_pick G_pick hr2 (pa_cons (pv 0) (pa_cons (pv 4) pa_nil))) (pa_cons (pv 10) pa_nil))))) (pe_cmpR op_eq (pc D_draw G_draw hr1 (pa_cons (pv 0) (pa_cons pe_int pa_nil))) pe_int (nomark _)) rfl)))))
      (pss_cons (ps_dp hu64 (pv 6) pe_str (pe_lock (pe_lc (own := [("row", 12)]) (g := gName 12) rfl scDgm.nd (pi_keys (pv 7)) (blkOk_by (own := [("row", 12)]) (N := NDgm) (sc := defScope sDgm) (by decide +kernel)) (fun _ _ _ _ _ => pg_name (i := 12) scDgm.nd rfl (Or.inl rfl)) (fun _ _ _ _ _ => pts_nil) (fun _ _ _ _ _ => (pe_op (show OpR _ (binaryOp .Add) (rCatT K) from op_catT) (pv 12) (pe_tup (pa_cons (pe_dget hu (pv 7) (pv 12) (fun _ _ => rfl)) pa_nil)))))) rfl)
      (pss_cons (ps_asg (pe_tup (pa_cons (pe_op op_add pe_int (pe_callTy call_int1 (by rfl) B.int (by decide +kernel) (pa_cons (pe_cmpR op_eq (pc D_draw G_draw hr1 (pa_cons (pv 0) (pa_cons pe_int pa_nil))) pe_int (nomark _)) pa_nil))) (pa_cons (pc D_pick G_pick hr2 (pa_cons (pv 0) (pa_cons (pe_lst (pa_cons pe_str (pa_cons pe_str (pa_cons pe_str pa_nil)))) pa_nil))) pa_nil))) (pg_tup rfl (pgs_cons (pg_sub (pv 6) pe_str (set_dict hu)) (pgs_cons (pg_sub (pv 6) pe_str (set_dict hu)) pgs_nil))))
      (pss_cons (ps_dp hu64 (pv 6) pe_str (pe_callTy call_tuple_of (by rfl) B.tuple (by decide +kernel) (pa_cons (pe_lc (own := [("mark", 13), ("end", 14)]) (g := gTup K 2 (gCons (gName 13) (gCons (gName 14) gNil))) rfl scDgm.nd (pi_list (pv 5)) (blkOk_by (own := [("mark", 13), ("end", 14)]) (N := NDgm) (sc := defScope sDgm) (by decide +kernel)) (fun _ _ _ _ _ => by exact (pg_tup rfl (pgs_cons (pg_name (i := 13) scDgm.nd rfl (Or.inl rfl)) (pgs_cons (pg_name (i := 14) scDgm.nd rfl (Or.inl rfl)) pgs_nil)))) (fun _ _ _ _ _ => pts_nil) (fun _ _ _ _ _ => (pc D_draw G_draw hr1 (pa_cons (pv 0) (pa_cons (pe_op op_add (pv 14) pe_int) pa_nil))))) pa_nil)) rfl)
      (pss_one (ps_ret (pv 6)))))))))))), ?_⟩
    -- words
    refine step_asg ⟨sz (by simp), fun m1 hm1 => ?_⟩
    have n1 := My.Same.new (o := .lst [.str "a", .str "bb", .str "hit", .str "nil", .str "up"]) (Same.refl H) hm1
    have l1 : upd H m1 (.lst [.str "a", .str "bb", .str "hit", .str "nil", .str "up"]) m1 = some (.lst [.str "a", .str "bb", .str "hit", .str "nil", .str "up"]) := upd_same
    have q1 := pl.ne hm1
    generalize upd H m1 (.lst [.str "a", .str "bb", .str "hit", .str "nil", .str "up"]) = H1 at *
    have pl1 := pl.same n1
    refine ⟨_, rfl, p, q, 2, rfl, by decide, pl1, fun r1 H2 b2 pl2 r10 r11 => ?_⟩
    refine ⟨r1, rfl, m1, _, rfl, SqL.of (b2 _ _ q1 l1), fun m2 hm2 => ?_⟩
    rw [cut_drop r10]
    have efv : [V.str "a", V.str "bb", V.str "hit", V.str "nil", V.str "up"] = five.map V.str := rfl
    rw [efv, List.map_drop.symm]
    have n2 := My.Same.new (o := .lst ((five.drop r1.toNat).map V.str)) (Same.refl H2) hm2
    have l2 : upd H2 m2 (.lst ((five.drop r1.toNat).map V.str)) m2 = some (.lst ((five.drop r1.toNat).map V.str)) := upd_same
    have q2 := pl2.ne hm2
    generalize upd H2 m2 (.lst ((five.drop r1.toNat).map V.str)) = H3 at *
    have pl3 := pl2.same n2
    refine ⟨_, rfl, _, rfl, p, q, dd, rfl, hdd, pl3, fun r2 H4 b4 pl4 r20 r21 => ?_⟩
    refine ⟨1, r2, rfl, rfl, 1 + r2, rfl, m2, _, rfl, SqL.of (b4 _ _ q2 l2), fun wl hwl => ?_⟩
    rw [cut_take (by omega), List.map_take.symm]
    have hwds : Wds ((five.drop r1.toNat).take (1 + r2).toNat) := by
      refine ⟨(List.take_sublist _ _).trans (List.drop_sublist _ _), ?_⟩
      rw [List.length_take, List.length_drop]
      have : five.length = 5 := rfl
      omega
    generalize hwse : (five.drop r1.toNat).take (1 + r2).toNat = ws at *
    have n4 := My.Same.new (o := .lst (ws.map V.str)) (Same.refl H4) hwl
    have l4 : upd H4 wl (.lst (ws.map V.str)) wl = some (.lst (ws.map V.str)) := upd_same
    have q4 := pl4.ne hwl
    generalize upd H4 wl (.lst (ws.map V.str)) = H5 at *
    have pl5 := pl4.same n4
    have B5 : Bt p H H5 := (Same.bt n1).trans (b2.trans ((Same.bt n2).trans (b4.trans (Same.bt n4))))
    have zws : ws.length ≤ 20 := Nat.le_trans hwds.1.length_le (by decide)
    -- marks
    refine step_asg ⟨_, rfl, p, q, rfl, pl5, fun ml H6 ks hml nml b6 pl6 hks lml => ?_⟩
    have B6 := B5.trans b6
    have l6 := b6 _ _ q4 l4
    -- the game
    refine step_asg ?_
    refine fun g hg => ?_
    have ng := My.Same.new (o := .dK []) (Same.refl H6) hg
    have lg : upd H6 g (.dK []) g = some (.dK []) := upd_same
    have qg := pl6.ne hg
    have qgq := pl6.neQ hg
    generalize upd H6 g (.dK []) = H7 at *
    have pl7 := pl6.same ng
    refine ⟨_, rfl, ?_⟩
    dsimp only [tPairs]
    rw [rd_c, rd_lcL]
    refine ⟨_, rfl, wl, rfl, ⟨_, SqL.of (ng _ _ l6)⟩, lc_deeds (p := p) (q := q) (ws := ws) (ml := ml) (ks := ks) (rr := rr) (ng _ _ l6) q4 pl7 zws (lml.same ng) nml hks hrr (fun _ => rfl) (fun _ => rfl) (fun _ => rfl) (fun _ => rfl) (fun _ => rfl) (fun _ => rfl) fun dl H8 gs ds hdl b8 pl8 ldl hpd hwd hdr hnd hno => ?_⟩
    refine ⟨b8 _ _ qg lg, [(Sum.inr "marks", .ref ml), (Sum.inr "deeds", .ref dl)], rfl, by simp, ?_⟩
    have lg8 := b8 _ _ qg lg
    have l9 : upd H8 g (.dK (mergeK [] [(Sum.inr "marks", V.ref ml), (Sum.inr "deeds", .ref dl)])) g = some (.dK [(Sum.inr "marks", V.ref ml), (Sum.inr "deeds", .ref dl)]) := upd_same
    have gdl : dl ≠ g := Ne.symm (ne_of_none lg hdl)
    have qdl := pl7.ne hdl
    have ldl9 : upd H8 g (.dK (mergeK [] [(Sum.inr "marks", V.ref ml), (Sum.inr "deeds", .ref dl)])) dl = some (.lst (gs.map V.ref)) := by rw [upd_ne gdl]; exact ldl
    have gmem : ∀ a ∈ gs, g ≠ a := fun a ha => ne_of_none lg (hno a ha)
    have hp9 : Paired (DeedAt (fun a => H7 a = none ∧ a ≠ dl) (upd H8 g (.dK (mergeK [] [(Sum.inr "marks", V.ref ml), (Sum.inr "deeds", .ref dl)])))) gs ds := pd_mono hpd fun a d ha h => h.setD (gmem a ha) lg8
    have pl9 := pl8.set (o := .dK (mergeK [] [(Sum.inr "marks", V.ref ml), (Sum.inr "deeds", .ref dl)])) qg qgq
    have u9 : Bg p g H8 (upd H8 g (.dK (mergeK [] [(Sum.inr "marks", V.ref ml), (Sum.inr "deeds", .ref dl)]))) := Bg.upd
    generalize upd H8 g (.dK (mergeK [] [(Sum.inr "marks", V.ref ml), (Sum.inr "deeds", .ref dl)])) = H9 at *
    have g79 : Bg p g H7 H9 := b8.bg.trans u9
    -- the first deed opens
    refine step_seq ?_
    rw [rd_dp]
    obtain ⟨g0, gr, rfl⟩ : ∃ g0 gr, gs = g0 :: gr := by
      cases gs with
      | nil =>
        cases hp9
        rw [← hwd] at hwds
        exact absurd hwds.2 (by simp)
      | cons a b => exact ⟨a, b, rfl⟩
    obtain ⟨d0, dr, rfl⟩ : ∃ d0 dr, ds = d0 :: dr := by
      cases hp9 with
      | cons => exact ⟨_, _, rfl⟩
    have ⟨h90, h9r⟩ := pd_cons hp9
    obtain ⟨kv0, k01, k02, k03⟩ := h90.opens true
    refine ⟨_, rfl, g, _, rfl, rfl, _, l9, .ref dl, rfl, dl, 0, rfl, rfl, _, ldl9, by decide, .ref g0, rfl, g0, _, rfl, rfl, kv0, k01, k02, ?_⟩
    have g0g : g ≠ g0 := gmem g0 (List.mem_cons_self ..)
    have n0p : g0 ≠ p := pl7.ne (hno g0 (List.mem_cons_self ..))
    have n0q : g0 ≠ q := pl7.neQ (hno g0 (List.mem_cons_self ..))
    rw [List.nodup_cons] at hnd
    have hpA : Paired (DeedAt (fun a => H7 a = none ∧ a ≠ dl) (upd H9 g0 (.dK (putK kv0 (Sum.inr "opens") (.bl true))))) (g0 :: gr) ({ d0 with opens := true } :: dr) := .cons k03 (pd_mono h9r fun a d ha h => h.setD (by rintro rfl; exact hnd.1 ha) k01)
    have hwdA : ({ d0 with opens := true } :: dr).map (·.word) = ws := hwd
    have hdrA : ∀ d ∈ { d0 with opens := true } :: dr, Drn ws ks d := fun d hd => by
      rcases List.mem_cons.mp hd with rfl | hd
      · exact (hdr d0 (List.mem_cons_self ..)).opens true
      · exact hdr d (List.mem_cons_of_mem _ hd)
    have plA := pl9.set (o := .dK (putK kv0 (Sum.inr "opens") (.bl true))) n0p n0q
    have lgA : upd H9 g0 (.dK (putK kv0 (Sum.inr "opens") (.bl true))) g = some (.dK [(Sum.inr "marks", V.ref ml), (Sum.inr "deeds", .ref dl)]) := by rw [upd_ne g0g]; exact l9
    have ldlA : upd H9 g0 (.dK (putK kv0 (Sum.inr "opens") (.bl true))) dl = some (.lst ((g0 :: gr).map V.ref)) := by rw [upd_ne (by rintro rfl; rw [k01] at ldl9; cases ldl9)]; exact ldl9
    have lmlA : PrL (upd H9 g0 (.dK (putK kv0 (Sum.inr "opens") (.bl true)))) ml ks := (Bg.upd (p := p)).pr (g79.pr (lml.same ng) pl7 nml (Dk.mk1 lg)) pl9 nml (Dk.mk1 k01)
    have BA : Bt p H (upd H9 g0 (.dK (putK kv0 (Sum.inr "opens") (.bl true)))) := fun a u n h => by
      have h7 := ng a u (B6 a u n h)
      rw [upd_ne (ne_of_none h7 (hno g0 (List.mem_cons_self ..)))]
      exact g79 a u n (ne_of_none (B6 a u n h) hg) h7
    generalize upd H9 g0 (.dK (putK kv0 (Sum.inr "opens") (.bl true))) = HA at *
    generalize { d0 with opens := true } :: dr = ds at *
    generalize g0 :: gr = gs at *
    have G := (Gm.mk (S := fun a => H7 a = none ∧ a ≠ dl) (dl := dl) (ml := ml) (gs := gs) (ds := ds) (ks := ks) BA plA lgA ldlA lmlA hpA (B6.none qg hg) qg qgq qdl nml gmem)
    clear BA plA lgA ldlA lmlA hpA
    -- rows
    dsimp only
    refine step_asg ?_
    refine fun ro hro => ?_
    have nro := My.Same.new (o := .dT []) (Same.refl HA) hro
    have lro : upd HA ro (.dT []) ro = some (.dT []) := upd_same
    have qro := G.pl.ne hro
    generalize upd HA ro (.dT []) = HB at *
    have G := G.same nro
    -- no turns
    refine step_seq ?_
    refine ⟨_, rfl, _, rfl, 0, 1, rfl, rfl, p, q, 1, rfl, by decide, G.pl, fun r3 HC bC plC r30 r31 => ⟨r3, rfl, by omega, by omega, ?_⟩⟩
    have G := G.go bC plC
    have lro := bC _ _ qro lro
    obtain rfl : r3 = 0 := by omega
    refine ⟨fun i m σ H' => i = 0 ∧ σ = _ ∧ H' = HC, ⟨0, rfl, rfl, rfl⟩, ?_⟩
    rintro _ _ _ HC ⟨rfl, rfl, rfl⟩
    refine .inl ⟨by simp [Itr], ?_⟩
    -- wakings
    dsimp only
    refine step_seq ?_
    rw [rd_dp, rd_lockE]
    refine ⟨ro, _, lro, trivial, fun od => ?_⟩
    rw [rd_lcK]
    refine ⟨_, rfl, ro, od, rfl, .inr ⟨[], upd_same, fun D hD => ?_⟩⟩
    have nD : ro ≠ D := ne_of_none upd_same hD
    refine ⟨fun i m H' => i = 0 ∧ H' = upd (upd HC ro (.frz od (.dT []))) D (.lst []), ⟨0, rfl, rfl⟩, ?_⟩
    rintro _ _ _ ⟨rfl, rfl⟩
    refine .inl ⟨⟨by rw [upd_ne nD, upd_same], Nat.zero_le _⟩, by rw [upd_ne nD, upd_same], ?_⟩
    have sD := same_unlock lro (My.Same.new (o := .lst []) (Same.refl _) hD)
    generalize upd (upd (upd HC ro (.frz od (.dT []))) D (.lst [])) ro (.dT []) = HD at *
    have G := G.same sD
    refine ⟨_, rfl, g, _, rfl, rfl, _, G.lg, by exact (by decide : 2 < sizeLine), ?_⟩
    have G := G.put (kvs2 := putK [(Sum.inr "marks", V.ref ml), (Sum.inr "deeds", V.ref dl)] (Sum.inr "wakings") (.ref D))
    generalize upd HD g (.dK (putK [(Sum.inr "marks", V.ref ml), (Sum.inr "deeds", V.ref dl)] (Sum.inr "wakings") (.ref D))) = HE at *
    -- seats, order
    dsimp only
    refine step_seq ?_
    refine ⟨_, rfl, p, q, 4, rfl, by decide, G.pl, fun r4 HF bF plF r40 r41 => ?_⟩
    have G := G.go bF plF
    refine ⟨rfl, .inr ⟨_, rfl, 2, _, rfl, rfl, ?_⟩⟩
    generalize (fun i j : Int => V.int (i + j)) 2 (if decide (V.int r4 = V.int 0) = true then (1 : Int) else 0) = sn at *
    refine ⟨_, rfl, sz (by simp), fun m5 hm5 => ?_⟩
    have n5 := My.Same.new (o := .lst [.str "first", .str "last", .str "any"]) (Same.refl HF) hm5
    have l5 : upd HF m5 (.lst [.str "first", .str "last", .str "any"]) m5 = some (.lst [.str "first", .str "last", .str "any"]) := upd_same
    have q5 := G.pl.ne hm5
    generalize upd HF m5 (.lst [.str "first", .str "last", .str "any"]) = HG at *
    have G := G.same n5
    refine ⟨p, q, m5, _, rfl, G.pl, l5, q5, by simp, fun x HH bH plH hx => ⟨sz (by simp), fun T hT => ?_⟩⟩
    have G := G.go bH plH
    have nT := My.Same.new (o := .tup [sn, x]) (Same.refl HH) hT
    have lT : upd HH T (.tup [sn, x]) T = some (.tup [sn, x]) := upd_same
    generalize upd HH T (.tup [sn, x]) = HI at *
    have G := G.same nT
    refine ⟨T, _, rfl, SqT.of lT, rfl, _, _, rfl, _, rfl, g, _, rfl, DPut.k (k := Sum.inr "seats") G.lg (by exact (by decide : 3 < sizeLine)), _, _, rfl, _, rfl, g, _, rfl, DPut.k (k := Sum.inr "order") upd_same (by exact (by decide : 4 < sizeLine)), rfl, ?_⟩
    have G := (G.put (kvs2 := putK (putK ([(Sum.inr "marks", V.ref ml), (Sum.inr "deeds", V.ref dl)] : List (Key × V)) (Sum.inr "wakings") (.ref D)) (Sum.inr "seats") sn)).put (kvs2 := putK (putK (putK ([(Sum.inr "marks", V.ref ml), (Sum.inr "deeds", V.ref dl)] : List (Key × V)) (Sum.inr "wakings") (.ref D)) (Sum.inr "seats") sn) (Sum.inr "order") x)
    generalize hkv : putK (putK (putK ([(Sum.inr "marks", V.ref ml), (Sum.inr "deeds", V.ref dl)] : List (Key × V)) (Sum.inr "wakings") (.ref D)) (Sum.inr "seats") sn) (Sum.inr "order") x = kv5 at *
    generalize upd (upd HI g (.dK (putK (putK ([(Sum.inr "marks", V.ref ml), (Sum.inr "deeds", V.ref dl)] : List (Key × V)) (Sum.inr "wakings") (.ref D)) (Sum.inr "seats") sn))) g (.dK kv5) = HJ at *
    -- start
    dsimp only
    refine step_seq ?_
    rw [rd_dp]
    obtain ⟨kz, kc, knd, kmk⟩ := marks7_ok ks hks
    rw [rd_cb, rd_cons, rd_lcL]
    have hmlJ := G.lml
    obtain ⟨mp1, mq1, mq2⟩ := hmlJ
    refine ⟨_, rfl, ml, rfl, ⟨_, SqL.of mq1⟩, lc_start (p := p) (q := q) G.lml nml G.pl (by omega) kc (fun _ _ => rfl) (fun _ _ => rfl) (fun _ _ => rfl) fun Ds HK xs hDs bK plK lDs _ _ => ?_⟩
    have G := G.go bK plK
    rw [rd_nil]
    refine ⟨Ds, _, rfl, .inl ⟨SqL.of lDs, fun ts hts => ?_⟩⟩
    have nts := My.Same.new (o := .tup (xs.map V.int)) (Same.refl HK) hts
    generalize upd HK ts (.tup (xs.map V.int)) = HL at *
    have G := G.same nts
    refine ⟨_, rfl, g, _, rfl, rfl, _, G.lg, by rw [← hkv]; exact (by decide : 5 < sizeLine), ?_⟩
    have G := G.put (kvs2 := putK kv5 (Sum.inr "start") (.ref ts))
    refine ⟨_, rfl, ?_⟩
    refine qq g dl _ _ gs ds ws ks G.g0 G.bt G.pl G.lg (by rw [← hkv]; rfl) G.ldl hwds hks (Paired.mono (fun a d z => z.imp fun b hb => ?_) G.hp) hwdA hdrA
    cases e : H b with
    | none => rfl
    | some u =>
      by_cases hbp : b = p
      · obtain ⟨k7, z7, h7, _⟩ := pl7
        rw [hbp, h7] at hb
        cases hb.1
      · have := ng b u (B6 b u hbp e)
        rw [hb.1] at this
        cases this
end
end My

set_option Elab.async false
set_option linter.all false
set_option maxRecDepth 100000
set_option maxHeartbeats 2000000
namespace My
open PySem PySem.Spec PyProof.Rows L2
theorem merge_app : ∀ (ks : List (Str × Int)) (acc : List (Key × V)), (∀ e ∈ ks, valV acc (Sum.inr e.1) = none) → (ks.map (·.1)).Nodup → mergeK acc (ks.map entK) = acc ++ ks.map entK
  | [], acc, _, _ => by simp [mergeK]
  | e :: ks, acc, h, nd => by
    rw [List.map_cons, List.nodup_cons] at nd
    have h1 : putK acc (entK e).1 (entK e).2 = acc ++ [entK e] := putK_new _ (h e (List.mem_cons_self ..))
    have ih := merge_app ks (acc ++ [entK e]) (fun f hf => by
      have h2 := h f (List.mem_cons_of_mem _ hf)
      have ne : ¬ (entK e).1 = Sum.inr f.1 := fun z => nd.1 (by
        have z2 : e.1 = f.1 := Sum.inr.inj z
        rw [z2]; exact List.mem_map_of_mem hf)
      unfold valV at h2 ⊢
      rw [List.find?_append]
      rw [Option.map_eq_none_iff] at h2
      rw [h2]
      simp [ne]) nd.2
    show mergeK (putK acc (entK e).1 (entK e).2) (ks.map entK) = _
    rw [h1, ih]
    simp
theorem pairs_sq {K : PySem.W.Frag} {H : Hp} {ps : List Addr} {ks : List (Str × Int)} (h : Paired (fun b e => H b = some (.tup [.str e.1, .int e.2])) ps ks) : Paired (fun p (kv : Key × V) => SqT K H p [kV kv.1, kv.2]) ps (ks.map entK) := by
  induction h with
  | nil => exact .nil
  | cons h _ ih => exact .cons (SqT.of h) ih
theorem merge_nil {ks : List (Str × Int)} (nd : (ks.map (·.1)).Nodup) : mergeK [] (ks.map entK) = ks.map entK := merge_app ks [] (fun _ _ => rfl) nd
abbrev sPAs : Stmt := inClass (topI 18) 2
abbrev NPAs : List Str := ["self"]
theorem scPAs : FnScope NPAs ["self"] (defScope sPAs) := ⟨rfl, rfl, rfl, by decide +kernel, rfl, by decide +kernel, by decide +kernel⟩
def spPAs (K : PySem.W.Frag) (C : Addr) : Sp := fun vs H Q _ => ∃ (x : Addr) (c : Dv), vs = [.ref x] ∧ DdAt K H C x c ∧ ∀ (l : Addr) (H' : Hp), H l = none → Same H H' → H' l = some (.dK (c.asks.map entK)) → Q (.ref l) H'
theorem ok_pAs {P : Program} {w : World} {K : PySem.W.Frag} {mg : Str → Option Value} {base : Heap} {f C : Addr} {fd : FuncData} (F : Fun K "asks" "Deed.asks" sPAs f fd) (B : Bn mg) (TD : DdT K C) : FnOk P w K mg base CX0 1 f fd ["self"] (spPAs K C) := by
  refine F.ok scPAs (fun vs H Q E h => ?_) (fun cdv A outer s H vs Q E hr h => ?_)
  · obtain ⟨x, c, rfl, _⟩ := h
    rfl
  obtain ⟨x, c, rfl, ⟨dx, ta, tk, tp, tg, ts, ps, hx, a1, ⟨p2, a2, b2⟩, ⟨p3, a3, b3⟩, a4, a5, b5, cp⟩, q⟩ := h
  refine ⟨_, (pss_one (ps_ret (pe_callTy (call_dictT rfl) (by rfl) B.dict (by decide +kernel) (pa_cons (pe_fld (pv 0) rfl) pa_nil)))), ?_⟩
  refine ⟨_, rfl, x, C, dx, _, _, rfl, hx, TD.cl, TD.n "_asks" (by decide), dfs_as .., ?_⟩
  refine ⟨_, _, c.asks.map entK, rfl, a2, ?_, fun l hl => ?_⟩
  · exact pairs_sq b2
  · rw [merge_nil cp.asksN]
    exact q l _ hl (My.Same.new (Same.refl H) hl) upd_same
abbrev sPPy : Stmt := inClass (topI 18) 3
abbrev NPPy : List Str := ["self"]
theorem scPPy : FnScope NPPy ["self"] (defScope sPPy) := ⟨rfl, rfl, rfl, by decide +kernel, rfl, by decide +kernel, by decide +kernel⟩
def spPPy (K : PySem.W.Frag) (C : Addr) : Sp := fun vs H Q _ => ∃ (x : Addr) (c : Dv), vs = [.ref x] ∧ DdAt K H C x c ∧ ∀ (l : Addr) (H' : Hp), H l = none → Same H H' → H' l = some (.dK (c.pays.map entK)) → Q (.ref l) H'
theorem ok_pPy {P : Program} {w : World} {K : PySem.W.Frag} {mg : Str → Option Value} {base : Heap} {f C : Addr} {fd : FuncData} (F : Fun K "pays" "Deed.pays" sPPy f fd) (B : Bn mg) (TD : DdT K C) : FnOk P w K mg base CX0 1 f fd ["self"] (spPPy K C) := by
  refine F.ok scPPy (fun vs H Q E h => ?_) (fun cdv A outer s H vs Q E hr h => ?_)
  · obtain ⟨x, c, rfl, _⟩ := h
    rfl
  obtain ⟨x, c, rfl, ⟨dx, ta, tk, tp, tg, ts, ps, hx, a1, ⟨p2, a2, b2⟩, ⟨p3, a3, b3⟩, a4, a5, b5, cp⟩, q⟩ := h
  refine ⟨_, (pss_one (ps_ret (pe_callTy (call_dictT rfl) (by rfl) B.dict (by decide +kernel) (pa_cons (pe_fld (pv 0) rfl) pa_nil)))), ?_⟩
  refine ⟨_, rfl, x, C, dx, _, _, rfl, hx, TD.cl, TD.n "_pays" (by decide), dfs_pa .., ?_⟩
  refine ⟨_, _, c.pays.map entK, rfl, a3, ?_, fun l hl => ?_⟩
  · exact pairs_sq b3
  · rw [merge_nil cp.paysN]
    exact q l _ hl (My.Same.new (Same.refl H) hl) upd_same
end My

set_option Elab.async false
set_option linter.all false
set_option maxRecDepth 100000
set_option maxHeartbeats 2000000
namespace My
open PySem PySem.Spec PyProof.Rows L2 PySem.Froz
/-! ### sorted(set(texts)) -/
/-- the unlike ones among the first i -/
def dl (xs : List Str) : Nat → List Str
  | 0 => []
  | i + 1 => if xs.getD i Str.empty ∈ dl xs i then dl xs i else xs.getD i Str.empty :: dl xs i
theorem dl_len (xs : List Str) : ∀ i, (dl xs i).length ≤ i
  | 0 => Nat.le_refl _
  | i + 1 => by
    have h := dl_len xs i
    unfold dl
    split
    · omega
    · rw [List.length_cons]; omega
theorem dl_nodup (xs : List Str) : ∀ i, (dl xs i).Nodup
  | 0 => List.nodup_nil
  | i + 1 => by
    have h := dl_nodup xs i
    unfold dl
    split
    · exact h
    · rename_i n
      exact List.nodup_cons.mpr ⟨n, h⟩
theorem dl_mem {xs : List Str} : ∀ {i : Nat}, i ≤ xs.length → ∀ z, z ∈ dl xs i ↔ z ∈ xs.take i
  | 0, _, z => by simp [dl]
  | i + 1, h, z => by
    have ih := dl_mem (xs := xs) (i := i) (by omega) z
    have lt : i < xs.length := h
    have e : xs.getD i Str.empty = xs[i] := by rw [List.getD_eq_getElem?_getD, List.getElem?_eq_getElem lt]; rfl
    rw [List.take_succ_eq_append_getElem lt, List.mem_append, List.mem_singleton, ← e, ← ih]
    have e2 : dl xs (i + 1) = if xs.getD i Str.empty ∈ dl xs i then dl xs i else xs.getD i Str.empty :: dl xs i := rfl
    rw [e2]
    split
    · rename_i m
      exact ⟨.inl, fun w => w.elim id fun q => q ▸ m⟩
    · rw [List.mem_cons]
      exact Or.comm
theorem perm_of_sub : ∀ {l zs : List Str}, l.Nodup → (∀ z ∈ l, z ∈ zs) → zs.length ≤ l.length → zs.Perm l
  | [], zs, _, _, h => by
    have e : zs = [] := List.length_eq_zero_iff.mp (Nat.le_zero.mp h)
    rw [e]
  | x :: l, zs, nd, sub, h => by
    rw [List.nodup_cons] at nd
    have p := List.perm_cons_erase (sub x (List.mem_cons_self ..))
    have ih := perm_of_sub (l := l) (zs := zs.erase x) nd.2 (fun z hz => by
      have ne : z ≠ x := fun q => nd.1 (q ▸ hz)
      exact (List.mem_erase_of_ne ne).mpr (sub z (List.mem_cons_of_mem _ hz))) (by
      have := p.length_eq
      rw [List.length_cons] at this h
      omega)
    exact p.trans (ih.cons x)
/-- the set at a holds the texts l; its table can be walked -/
def TxR (P : Program) (w : World) (h : Heap) (a : Addr) (l : List Str) : Prop := ∃ D : SD, h.get? a = some (sObj "set" D) ∧ TxOk P w D l ∧ Ris D.2.2.place.toList ∧ (w.params.followText "set-order" = true ∨ D.2.2.led = true)
theorem add_walk {h : Int} {v : Value} {D : SD} (r : Ris D.2.2.place.toList) : Ris (addTx h v D).2.2.place.toList ∧ (addTx h v D).2.2.led = D.2.2.led := by
  obtain ⟨es, ep, t⟩ := D
  have r1 := layNew_ris t es h v r
  have d1 := layNew_led t es h v
  show Ris (tailTx ep (layNew t es h v).1 (if (layNew t es h v).2.1.plain = true then { (layNew t es h v).2.1 with plain := false } else (layNew t es h v).2.1) (layNew t es h v).2.2.1).2.2.place.toList ∧
    (tailTx ep (layNew t es h v).1 (if (layNew t es h v).2.1.plain = true then { (layNew t es h v).2.1 with plain := false } else (layNew t es h v).2.1) (layNew t es h v).2.2.1).2.2.led = t.led
  have r2 : Ris (if (layNew t es h v).2.1.plain = true then { (layNew t es h v).2.1 with plain := false } else (layNew t es h v).2.1).place.toList := by split <;> exact r1
  have d2 : (if (layNew t es h v).2.1.plain = true then { (layNew t es h v).2.1 with plain := false } else (layNew t es h v).2.1).led = t.led := by split <;> exact d1
  generalize (if (layNew t es h v).2.1.plain = true then { (layNew t es h v).2.1 with plain := false } else (layNew t es h v).2.1) = t2 at *
  unfold tailTx
  split
  · exact ⟨relayAll_ris t2 _ _, (relayAll_led t2 _ _).trans d2⟩
  · exact ⟨r2, d2⟩
section
variable {P : Program} {w : World} {A : Around} {E : Value → Shared → Prop} {s : Shared}
/-- the add of a text that is there already -/
theorem add_there {a : Addr} {D : SD} {l : List Str} {k : Str} {u : Tok} {Q : Bool → Shared → Prop} (at_ : s.heap.get? a = some (sObj "set" D)) (F : TxOk P w D l) (m : k ∈ l) (few : l.length < scanBound) (q : Q false s) : wpAny (model P w) A (setAddHashed a (.str k u) (hashStr w k)) Q E s := by
  obtain ⟨es, ep, t⟩ := D
  have dat : (sObj "set" (es, ep, t)).data = .set es ep t := rfl
  have el : ElemsOf (strKind P w) es.toList := F.el
  have few0 : es.size < scanBound := by have := F.sz; show es.size < _; have e : es.size = l.length := F.sz; omega
  have key : (strKind P w).is k (.str k u) = true := is_str k u
  unfold setAddHashed setAddHashedIn
  refine wpAny_holding (wpAny_bind (wpAny_setState_of at_ dat F.fit ?_))
  dsimp only
  rw [byScan_of rfl few0 el]
  simp only [↓reduceIte]
  unfold setAddByScan
  refine wpAny_bind (wpAny_bind (wpAny_rule (wpAny_bind (wpAny_setScan_of (knd := strKind P w) (k := k) key at_ dat F.fit el ?_))))
  cases found : List.findIdx? (fun e => (strKind P w).is k e.2) es.toList with
  | some j =>
    dsimp only
    exact wpAny_pure (wpAny_pure q)
  | none =>
    obtain ⟨e, he, z⟩ := (F.mem k).mp m
    have c := List.findIdx?_eq_none_iff.mp found e he
    rw [z] at c
    cases c
end
section
variable {P : Program} {w : World} {A : Around} {R : Result → Shared → Prop} {I : Addr} {fp wr : List Addr} {G : Array GenState → Array GenState → Prop} {n : Nat} {Pv : Nat → Value → Prop} {St : Nat → Shared → Prop}
theorem loopTw (W : WalksS P w A.in1 I fp wr G n Pv St) (z : Addr) (out : z ∉ fp) (xs : List Str) (len : xs.length = n) (room : n + 1 < scanBound) (vals : ∀ i v, Pv i v → ∃ t, v = .str (xs.getD i Str.empty) t) :
    ∀ (left i : Nat) (s : Shared), n - i = left → i ≤ n → St i s → TxR P w s.heap z (dl xs i) →
      (∀ s', Moved (z :: wr) G s s' → TxR P w s'.heap z (dl xs n) → R (.ok (.ret .none)) s') →
      codeAny (model P w) A (.builtin "set.update.loop" ⟨[.ref z, .ref I], []⟩) R s := by
  have outW : z ∉ wr := fun m => out (W.sub _ m)
  have wider : ∀ b ∈ wr, b ∈ z :: wr := fun b m => List.mem_cons_of_mem _ m
  have moved : ∀ {s1 s2 : Shared} {l : List Str}, Moved wr G s1 s2 → TxR P w s1.heap z l → TxR P w s2.heap z l := fun mv ⟨D, at_, rest⟩ => ⟨D, mv.heap z _ outW at_, rest⟩
  intro left
  induction left with
  | zero =>
    intro i s e1 e2 st set fin
    obtain rfl : i = n := by omega
    refine codeAny_builtin F.entry_set_update_loop ?_
    rw [Around.under_plainId F.plain_set_update_loop _]
    exact wpAny_bind (W.done s _ _ st fun s' mv => wpAny_pure (fin s' (mv.mono wider) (moved mv set)))
  | succ left ih =>
    intro i s e1 e2 st set fin
    have more : i < n := by omega
    refine codeAny_builtin F.entry_set_update_loop ?_
    rw [Around.under_plainId F.plain_set_update_loop _]
    refine wpAny_bind (W.item i s _ _ more st fun v s' pv st' mv => ?_)
    obtain ⟨t, rfl⟩ := vals i v pv
    refine wpAny_bind (wpAny_holding ?_)
    unfold setAdd
    refine wpAny_holding (wpAny_bind ((PySem.strKind P w).pyHash (k := xs.getD i Str.empty) (strKind_is _ _ _ _) ?_))
    obtain ⟨D, at_, ok, ris, led⟩ := moved mv set
    have le := dl_len xs i
    have next : ∀ (s2 : Shared), s2 = { s' with toks := s'.toks + 1, heap := s2.heap } → Heap.SameBut z s'.heap s2.heap → TxR P w s2.heap z (dl xs (i + 1)) →
        codeAny (model P w) A (.builtin "set.update.loop" ⟨[.ref z, .ref I], []⟩) R s2 := fun s2 e same set3 => by
      refine ih (i + 1) _ (by omega) more ?_ set3 fun s'' mv2 set4 => ?_
      · rw [e]
        refine W.frame _ s' _ _ st' (Nat.le_succ _) fun b m o e => ?_
        rw [same.2 b (fun q : b = z => out (q ▸ m))]
        exact e
      · rw [e] at mv2
        refine fin s'' (Moved.trans W.gtrans ((mv.mono wider).then_heap (Nat.le_succ _) fun b o m e => ?_) mv2) set4
        rw [same.2 b (fun q : b = z => m (q ▸ List.mem_cons_self))]
        exact e
    by_cases there : xs.getD i Str.empty ∈ dl xs i
    · refine add_there (s := { s' with toks := s'.toks + 1 }) at_ ok there (by omega) ?_
      refine wpAny_pure ⟨plainId_quiet F.plain_set_update_loop _, next _ rfl (Heap.SameBut.refl z _) ⟨D, at_, ?_, ris, led⟩⟩
      show TxOk P w D (if _ then _ else _)
      rw [if_pos there]
      exact ok
    · refine add_x (s := { s' with toks := s'.toks + 1 }) at_ ok there (by omega) ?_
      have w2 := add_walk (h := hashStr w (xs.getD i Str.empty)) (v := .str (xs.getD i Str.empty) t) ris
      refine wpAny_pure ⟨plainId_quiet F.plain_set_update_loop _, next _ rfl (Heap.SameBut.update s'.heap z _) ⟨_, get_upd _ at_ rfl, ?_, w2.1, led.imp id fun q => by rw [w2.2]; exact q⟩⟩
      show TxOk P w _ (if _ then _ else _)
      rw [if_neg there]
      exact add_ok t ok
end
end My

set_option Elab.async false
set_option linter.all false
set_option maxRecDepth 100000
set_option maxHeartbeats 2000000
namespace My
open PySem PySem.Spec PyProof.Rows L2 PySem.Froz
section
variable {P : Program} {w : World} {A : Around} {E : Value → Shared → Prop} {s : Shared}
set_option maxHeartbeats 3200000 in
/-- set(xs), xs a list of texts -/
theorem set_lstTw {l : Addr} {its : Array Value} {xs : List Str} {Q : Value → Shared → Prop} (calm : A.handled = none) (src : s.heap.IsList l its) (txt : StrsAre its.toList xs) (room : xs.length + 1 < scanBound)
    (fin : ∀ (h2 : Heap) (tk2 : Nat), TxR P w h2 s.heap.objs.size (dl xs its.size) → (∀ b o, b < s.heap.objs.size → s.heap.get? b = some o → h2.get? b = some o) → Q (.ref s.heap.objs.size) { s with heap := h2, toks := tk2 }) :
    wpAny (model P w) A (call (.type "set") [.ref l]) Q E s := by
  obtain ⟨cc, tl, hmro⟩ := PySem.F.called_set.mro
  have f1 := PySem.F.called_set.made
  have f2 := PySem.F.called_set.sub
  refine wpAny_call (codeAny_of_tree (?_ : wpAny _ _ (callAny (.type "set") _) _ _ _))
  refine wpAny_pure ⟨Code.quiet_builtin _ (by decide +kernel), codeAny_builtin PySem.F.entry_type_call ?_⟩
  rw [Around.under_plain (weight_type_call_type "set" [.ref l] []) rfl]
  have f3 := PySem.F.called_set.notType
  have f4 := PySem.F.called_set.canCreate
  have f5 := PySem.F.typeCall_set_1 (.ref l)
  repeat (any_goals (first | assumption | wp_step))
  let led : Bool := !w.params.followText "set-order"
  let em : Bool → Obj := fun led => { cls := .type "set", dict := none, data := .set #[] 0 (.fresh 0 0 led) }
  refine codeAny_mono (code_set_led1 (.ref l) (E := E) (Q₁ := fun o1 st1 => o1 = .ref s.heap.objs.size ∧ st1 = { s with heap := s.heap.push (em led) }) ⟨rfl, rfl⟩) fun res st1 got => ?_
  match res, got with
  | .error e, got => exact got
  | .ok (.ret o1), ⟨e1, e2⟩ =>
    subst e1 e2
    have atS : (s.heap.push (em led)).get? s.heap.objs.size = some (em led) := Heap.get?_push_size _ rfl
    have tyS : Shared.TypeIs { s with heap := s.heap.push (em led) } (.ref s.heap.objs.size) "set" := ⟨_, atS, rfl⟩
    have f6 := PySem.F.called_set.init.lookup
    have f7 := PySem.F.called_set.init.bind (.ref s.heap.objs.size)
    repeat (any_goals (first | assumption | wp_step))
    refine codeAny_mono (codeAny_call_builtin (R := wants (fun res st2 => res = .none ∧ ∃ h2 tk2, st2 = { s with heap := h2, toks := tk2 } ∧ TxR P w h2 s.heap.objs.size (dl xs its.size) ∧
      (∀ b o, b < s.heap.objs.size → s.heap.get? b = some o → h2.get? b = some o)) E) PySem.F.called_set.init.plain PySem.F.entry_set_init (check_set_init_1 tyS ?_)) fun res2 st2 got2 => ?_
    · obtain ⟨⟨ocls, odict, odata, oslots⟩, ho, hc, nl, hd⟩ := src
      simp only at hc hd
      subst hc hd
      have ho2 : (s.heap.push (em led)).get? l = some { cls := .type "list", dict := odict, data := .seq its nl, slots := oslots } := Heap.get?_push_of_some _ ho
      have g1 := PySem.F.sub_list_set
      have g2 := PySem.F.sub_list_frozenset
      have g3 : (Value.type "list" == Value.type "dict") = false := by decide
      have src2 : (s.heap.push (em led)).IsList l its := ⟨_, ho2, rfl, nl, rfl⟩
      unfold Builtin.«set.__init__» noKeywords Builtin.Frozenset.updateFrom
      generalize hPI : pyIter = PI
      wp_walk
      subst hPI
      refine wpAny_pyIter_list src2 (wpAny_bind (wpAny_runValue ?_))
      have low : l < s.heap.objs.size := Heap.lt_size ho
      have sz1 : (s.heap.push (em led)).objs.size = s.heap.objs.size + 1 := Heap.size_push ..
      have notI : l ≠ (s.heap.push (em led)).objs.size := by rw [sz1]; exact Nat.ne_of_lt (Nat.lt_succ_of_lt low)
      have notIn : s.heap.objs.size ∉ [(s.heap.push (em led)).objs.size, l] := by
        rw [sz1]
        simp only [List.mem_cons, List.not_mem_nil, or_false, not_or]
        exact ⟨Nat.ne_of_lt (Nat.lt_succ_self _), Nat.ne_of_gt low⟩
      have len : xs.length = its.size := by rw [← StrsAre.len_eq txt, Array.length_toList]
      refine loopTw ((Walks.list (by simp [calm]) _ l notI its).toS) s.heap.objs.size notIn xs len (by rw [← len]; exact room) (fun i v hv => SS.strs_at txt i v (by rw [Array.getElem?_toList]; exact hv)) (its.size - 0) 0 _ (by omega) (Nat.zero_le _) ⟨⟨_, Heap.get?_push_size _ rfl, rfl, rfl⟩, src2.push _⟩ ?_ ?_
      · refine ⟨(#[], 0, .fresh 0 0 led), Heap.get?_push_of_some _ atS, TxOk.nil rfl, List.Pairwise.nil, ?_⟩
        show _ ∨ (!w.params.followText "set-order") = true
        cases w.params.followText "set-order"
        · exact .inr rfl
        · exact .inl rfl
      · rintro ⟨h2, g2, d2, tk2, os2⟩ mv set
        obtain rfl : g2 = s.gens := mv.gens
        obtain rfl : d2 = s.drawn := mv.drawn
        obtain rfl : os2 = s.os := mv.os
        refine wpAny_pure (wpAny_pure ⟨rfl, h2, tk2, rfl, set, fun b o hb e => ?_⟩)
        refine mv.heap b o ?_ (Heap.get?_push_of_some _ (Heap.get?_push_of_some _ e))
        rw [sz1]
        simp only [List.mem_cons, List.not_mem_nil, or_false, not_or]
        exact ⟨Nat.ne_of_lt hb, Nat.ne_of_lt (Nat.lt_succ_of_lt hb)⟩
    · match res2, got2 with
      | .error e, got2 => exact got2
      | .ok (.ret r2), ⟨e3, h2, tk2, e4, set, kept⟩ =>
        subst e3 e4
        repeat (any_goals (first | assumption | wp_step))
        exact fin _ _ set kept
end
end My

set_option Elab.async false
set_option linter.all false
set_option maxRecDepth 100000
set_option maxHeartbeats 2000000
namespace My
open PySem PySem.Spec PyProof.Rows L2 PySem.Froz
section
variable {P : Program} {w : World} {A : Around} {E : Value → Shared → Prop} {s : Shared}
/-- the texts of the rows of a set -/
theorem rows_txt {l : List Str} : ∀ {vs : List Value}, (∀ v ∈ vs, ∃ k, (PySem.strKind P w).is k v = true) → ∃ zs, StrsAre vs zs ∧ ∀ k, k ∈ zs ↔ ∃ v ∈ vs, (PySem.strKind P w).is k v = true
  | [], _ => ⟨[], .nil, fun k => by simp⟩
  | v :: vs, h => by
    obtain ⟨zs, txt, m⟩ := rows_txt (l := l) (vs := vs) fun u hu => h u (List.mem_cons_of_mem _ hu)
    obtain ⟨k, hk⟩ := h v (List.mem_cons_self ..)
    have hv : ∃ t, v = .str k t := by
      have hk2 : Value.isStrOf k v = true := hk
      cases v <;> first | (cases hk2; done) | skip
      rename_i y t
      have e : y = k := by simpa [Value.isStrOf] using hk2
      exact ⟨t, by rw [e]⟩
    obtain ⟨t, rfl⟩ := hv
    refine ⟨k :: zs, .cons k t txt, fun j => ?_⟩
    rw [List.mem_cons, m j]
    constructor
    · rintro (rfl | ⟨v, hv, q⟩)
      · exact ⟨_, List.mem_cons_self .., hk⟩
      · exact ⟨v, List.mem_cons_of_mem _ hv, q⟩
    · rintro ⟨v, hv, q⟩
      rcases List.mem_cons.mp hv with rfl | hv
      · exact .inl ((PySem.strKind P w).inj _ j k q hk)
      · exact .inr ⟨v, hv, q⟩
/-- sorted(a set of texts) -/
theorem sort_setTx {a : Addr} {l : List Str} {Q : Value → Shared → Prop} (R : TxR P w s.heap a l) (nd : l.Nodup) (calm : A.handled = none) (few : l.length < 64)
    (fin : ∀ (s2 : Shared) (p : Addr) (out : Array Value) (c : Nat) (ys : List Str), (∀ b o, s.heap.get? b = some o → s2.heap.get? b = some o) → s2.gens = s.gens → s2.os = s.os → s.heap.objs.size ≤ p → s2.heap.get? p = some (seqObj "list" out c) →
      StrsAre out.toList ys → ys.Perm l → sortedS ys = true → Q (.ref p) s2) : wpAny (model P w) A (call (.builtin "sorted") [.ref a]) Q E s := by
  obtain ⟨⟨es, ep, t⟩, at_, ok, ris, led⟩ := R
  have szl : es.size = l.length := ok.sz
  refine Calls.call_function_entry kind_sorted plain_sorted entry_sorted (args_sorted1 _) ?_
  unfold Builtin.«sorted»
  refine wpAny_bind (m := checkCount "sorted" 1 1 _) (wpAny_pure ?_)
  refine wpAny_bind (collect_set (A := A.in1) (es := es) (ep := ep) (t := t) calm ⟨_, at_, rfl, rfl⟩ ok.fit (by rw [szl]; unfold scanBound; omega) ris led fun s1 vs k1 hz g1 o1 pm => ?_)
  have el : ElemsOf (PySem.strKind P w) es.toList := ok.el
  obtain ⟨zs, txt, mem⟩ := rows_txt (P := P) (w := w) (l := l) (vs := vs) fun v hv => by
    obtain ⟨e, he, q⟩ := List.mem_map.mp (pm.mem_iff.mp hv)
    obtain ⟨⟨k, hk, _⟩, _⟩ := el e he
    exact ⟨k, q ▸ hk⟩
  have len : vs.length = l.length := by rw [pm.length_eq, List.length_map, Array.length_toList, szl]
  have perm : zs.Perm l := perm_of_sub nd (fun z hz => by
    obtain ⟨e, he, q⟩ := (ok.mem z).mp hz
    exact (mem z).mpr ⟨e.2, pm.mem_iff.mpr (List.mem_map_of_mem he), q⟩) (by rw [← StrsAre.len_eq txt, len]; exact Nat.le_refl _)
  refine wpAny_bind (wpAny_newList ?_ (by rw [len, sizeLine_eq]; omega))
  have own : (s1.heap.push (seqObj "list" vs.toArray 0)).get? s1.heap.objs.size = some (seqObj "list" vs.toArray 0) := Heap.get?_push_size _ rfl
  refine wpAny_bind (wpAny_holding (wpAny_call_entry slot_list_sort ⟨_, own, rfl⟩ entry_list_sort (list_sort_treeK strKind_oneLt own txt.keysOf (fun v1 v2 r e => keyKind_strs (by rw [← e]; exact txt)) (by rw [len]; exact few) fun st' a1 a2 => ⟨_, rfl, ?_⟩) (args_list_sort _)))
  obtain ⟨ys, b1, b2, b3⟩ := sorted_out_str txt a1 a2
  obtain ⟨c, hc⟩ := sortedHeap_at (vs := vs) (out := (arrOf st').map (·.2)) own
  refine wpAny_pure ⟨_, rfl, fin _ s1.heap.objs.size _ c ys (fun b u e => ?_) g1 o1 hz hc b1 (b2.trans perm) b3⟩
  have q := k1 b u e
  have lt := Heap.lt_size q
  show (sortedHeap (s1.heap.push (seqObj "list" vs.toArray 0)) s1.heap.objs.size vs _).get? b = some u
  rw [sortedHeap_old (Nat.ne_of_lt lt) (by rw [size_push']; exact Nat.lt_succ_of_lt lt)]
  exact Heap.get?_push_of_some _ q
end
/-- sorted(set(e)), e a list of texts -/
def tSortUn (K : PySem.W.Frag) (te : TE) : TE := fun σ H Q => te σ H fun x H1 => ∃ (a : Addr) (xs : List Str), x = .ref a ∧ SqL K H1 a (xs.map V.str) ∧ xs.length < 64 ∧
  ∀ (ys : List Str) (p : Addr), H1 p = none → ys.Nodup → (∀ z, z ∈ ys ↔ z ∈ xs) → sortedS ys = true → Q (.ref p) (upd H1 p (.lst (ys.map V.str)))
theorem rd_sortUn {K : PySem.W.Frag} {te : TE} {σ : L2.St} {H : Hp} {Q : VK} : tSortUn K te σ H Q = te σ H fun x H1 => ∃ (a : Addr) (xs : List Str), x = .ref a ∧ SqL K H1 a (xs.map V.str) ∧ xs.length < 64 ∧
  ∀ (ys : List Str) (p : Addr), H1 p = none → ys.Nodup → (∀ z, z ∈ ys ↔ z ∈ xs) → sortedS ys = true → Q (.ref p) (upd H1 p (.lst (ys.map V.str))) := rfl
theorem pe_sortUn {X : Cx} {e : Expr} {te : TE} {p p2 q pos : Pos} (calm : X.calm = true) (m1 : X.mg "sorted" = none) (m2 : X.mg "set" = none) (he : PE X e te) (g1 : Gl X "sorted" := by rfl) (g2 : Gl X "set" := by rfl)
    (na : starEach [e] X.env = (false, eval e X.env) :: starEach [] X.env := by rfl) : PE X (.Call (.Name "sorted" p) [.Call (.Name "set" p2) [e] [] q] [] pos) (tSortUn X.K te) := by
  constructor
  intro pins s σ H Q I h
  refine Call_ (ld_blt I g1 m1 boot_sorted (callWith_builtin1 (args_cons ?_ rfl) rfl rfl))
  refine Call_ (ld_blt I g2 m2 boot_set (callWith_type1 (args_cons (thn (he.run pins s σ H _ I h) ?_) na) na rfl))
  rintro v st ⟨x, H1, J, rx, a, xs, rfl, src, few, wish⟩
  obtain rfl : v = Value.ref a := rx
  refine args_nil ?_
  obtain ⟨its, rv, pl, _⟩ := J.list src
  refine set_lstTw (J.ok.hd calm) pl.isList (by simpa using strsAre_of rv) (by unfold scanBound; omega) fun h2 tk2 set kept => ?_
  refine args_nil ?_
  have len : its.toArray.size = xs.length := by rw [List.size_toArray, ← rv.length, List.length_map]
  rw [len] at set
  have J2 : Inv X pins σ H1 { st with heap := h2, toks := tk2 } := J.kept fun b o z => kept b o (Heap.lt_size z) z
  have le := dl_len xs xs.length
  have mem := dl_mem (xs := xs) (Nat.le_refl xs.length)
  rw [List.take_length] at mem
  refine sort_setTx (s := { st with heap := h2, toks := tk2 }) set (dl_nodup xs _) (J.ok.hd calm) (by omega) fun s3 p3 out c ys keep gens os lo at_ txt perm srt => ?_
  have new : H1 p3 = none := J2.hok.fresh lo
  have fit : (ys.map V.str).length ≤ sizeLine := by rw [List.length_map, perm.length_eq, sizeLine_eq]; omega
  have J3 : Inv X pins σ (upd H1 p3 (.lst (ys.map V.str))) s3 := J2.call' (ch := []) os (Un.laid keep lo new) (J2.hok.laid keep lo ⟨fit, out.toList, c, vals_of_strs txt, at_⟩) (by rw [gens]; exact J2.bare) (fun _ z => nomatch z)
  exact ⟨.ref p3, _, J3, rfl, wish ys p3 new (perm.nodup_iff.mpr (dl_nodup xs _)) (fun z => (perm.mem_iff).trans (mem z)) srt⟩
end My

set_option Elab.async false
set_option linter.all false
set_option maxRecDepth 100000
set_option maxHeartbeats 2000000
namespace My
open PySem PySem.Spec PyProof.Rows L2
/-- t + u of tuples, t may be empty -/
def rCat2 (K : PySem.W.Frag) : R2 := fun x y H Q => ∃ (a b : Addr) (xs ys : List V), x = .ref a ∧ y = .ref b ∧ SqT K H a xs ∧ SqT K H b ys ∧ xs.length + ys.length ≤ sizeLine ∧ ∀ (p : Addr) (H' : Hp), Same H H' → SqT K H' p (xs ++ ys) → Q (.ref p) H'
theorem rd_cat2 {K : PySem.W.Frag} {x y : V} {H : Hp} {Q : VK} : rCat2 K x y H Q = ∃ (a b : Addr) (xs ys : List V), x = .ref a ∧ y = .ref b ∧ SqT K H a xs ∧ SqT K H b ys ∧ xs.length + ys.length ≤ sizeLine ∧ ∀ (p : Addr) (H' : Hp), Same H H' → SqT K H' p (xs ++ ys) → Q (.ref p) H' := rfl
theorem op_cat2 {X : Cx} : OpR X (binaryOp .Add) (rCat2 X.K) := by
  intro pins s σ H x y v u Q I rx ry ⟨a, b, xs, ys, ea, eb, ha, hb, fit, wish⟩
  cases xs with
  | cons z zs =>
    refine op_catT pins s σ H x y v u Q I rx ry ⟨a, b, z :: zs, ys, ea, eb, ha, hb, (fun e => nomatch e), fit, fun e => ?_, fun _ p hp => ?_⟩
    · refine wish a H (Same.refl H) ?_
      rw [e, List.append_nil]
      exact ha
    · exact wish p _ (My.Same.new (Same.refl H) hp) (SqT.of upd_same)
  | nil =>
    subst ea eb
    cases rx
    cases ry
    obtain ⟨i1, r1, ⟨⟨c1, d1, t1, sl1⟩, g1, k1, n1, q1⟩, _⟩ := I.tuple ha
    obtain ⟨i2, r2, ⟨⟨c2, d2, t2, sl2⟩, g2, k2, n2, q2⟩, _⟩ := I.tuple hb
    simp only at k1 q1 k2 q2
    subst k1 q1 k2 q2
    cases r1
    exact concat_meets ⟨_, g1, rfl⟩ ⟨_, g2, rfl⟩ noFill_tuple_add seq_tuple_add PySem.F.slot_tuple_add PySem.F.entry_tuple_add (PySem.F.args_tuple_add_2 _ _)
      (tuple_addW0 a b _ i2.toArray n1 n2 d1 d2 sl1 sl2 rfl) ⟨g1, g2, .ref b, H, I, rfl, wish b H (Same.refl H) hb⟩
/-- len(xs), a list or a tuple -/
def rLenLT (K : PySem.W.Frag) : List V → Hp → VK → Prop := fun xs H Q => ∃ p ys, xs = [V.ref p] ∧ (SqL K H p ys ∨ SqT K H p ys) ∧ Q (V.int ys.length) H
theorem call_len_sq {X : Cx} : CallR X (.builtin "len") (rLenLT X.K) := call_len_seq
theorem pd_app {α β : Type} {F : α → β → Prop} {xs xs2 : List α} {ys ys2 : List β} (h : Paired F xs ys) (k : Paired F xs2 ys2) : Paired F (xs ++ xs2) (ys ++ ys2) := by
  induction h with
  | nil => exact k
  | cons h _ ih => exact .cons h ih
theorem sqT_same {K : PySem.W.Frag} {H H' : Hp} {a : Addr} {xs : List V} (h : SqT K H a xs) (s : Same H H') : SqT K H' a xs := by
  rcases h with (h | ⟨o, h⟩) | h
  · exact .inl (.inl (s _ _ h))
  · exact .inl (.inr ⟨o, s _ _ h⟩)
  · exact .inr h
end My

set_option Elab.async false
set_option linter.all false
set_option maxRecDepth 100000
set_option maxHeartbeats 4000000
namespace My
open PySem PySem.Spec PyProof.Rows L2
theorem pd_at {α β : Type} {F : α → β → Prop} {xs : List α} {ys : List β} (h : Paired F xs ys) : ∀ (i : Nat) (x : α), xs[i]? = some x → ∃ y, ys[i]? = some y ∧ F x y := by
  induction h with
  | nil => intro i x h; simp at h
  | @cons x y l r h _ ih =>
    intro i b e
    cases i with
    | zero => simp at e; subst e; exact ⟨y, rfl, h⟩
    | succ i => simpa using ih i b (by simpa using e)
def mvMark : Stp → Option Str
  | .move _ m => if m = "goal" then none else some m
  | .act _ => none
/-- the marks that occur in a deed -/
def marksOf (c : Dv) : List Str := ((c.asks ++ c.pays).map (·.1) ++ c.steps.filterMap mvMark) ++ c.goals
/-- [a for a, n in pairs] -/
theorem lc_pairs {K : PySem.W.Frag} {J : It} {G : Hp → Prop} {ps : List Addr} {ks : List (Str × Int)} {i j : Nat} {σ : L2.St} {H : Hp} {Q : VK} (w : Walk J (ps.map V.ref).length G (YAt (ps.map V.ref))) (hG : ∀ H', Same H H' → G H') (hp : Paired (fun b (e : Str × Int) => H b = some (.tup [.str e.1, .int e.2])) ps ks) (hz : ks.length ≤ 1000)
    (hw : ∀ x y, wipe (((wipe σ [i, j]).set i (some x)).set j (some y)) [i, j] = wipe σ [i, j]) (h1 : ∀ x y, (((wipe σ [i, j]).set i (some x)).set j (some y))[i]? = some (some x))
    (qq : ∀ (D : Addr) (H' : Hp), H D = none → Same H H' → H' D = some (.lst ((ks.map (·.1)).map V.str)) → Q (.ref D) H') :
    lcB J (gTup K 2 (gCons (gName i) (gCons (gName j) gNil))) tYes (tVar i) [i, j] σ H Q := by
  have len : ps.length = ks.length := Paired.length hp
  intro D hD
  refine lc_it w (fun i H' => Same H H' ∧ H' D = some (.lst (((ks.take i).map (·.1)).map V.str))) ⟨My.Same.new (Same.refl H) hD, upd_same⟩ (fun i H' _ h => hG H' h.1) ?_ ?_
  · rintro i x H' H2 hi ⟨sm, hd⟩ ⟨rfl, hx⟩
    rw [List.getElem?_map] at hx
    obtain ⟨b, hb, rfl⟩ := Option.map_eq_some_iff.mp hx
    obtain ⟨e, he, hbe⟩ := pd_at hp i b hb
    rw [List.length_map] at hi
    refine ⟨b, _, rfl, SqT.of (sm _ _ hbe), rfl, _, _, rfl, _, _, rfl, rfl, hw _ _, ?_⟩
    simp only [tYes, if_true]
    refine ⟨_, h1 _ _, _, hd, szl (by rw [List.length_map, List.length_map, List.length_take]; omega), My.Same.new sm hD, ?_⟩
    rw [upd_same, take_more he, List.map_append, List.map_append]
    rfl
  · rintro H' ⟨sm, hd⟩
    rw [List.length_map, len, List.take_length] at hd
    exact qq D H' hD sm hd
/-- [step[1] for step in steps if len(step) == 2 and step[1] != "goal"] -/
theorem lc_moves {K : PySem.W.Frag} {J : It} {G : Hp → Prop} {ps : List Addr} {sts : List Stp} {i : Nat} {σ : L2.St} {H : Hp} {Q : VK} (w : Walk J (ps.map V.ref).length G (YAt (ps.map V.ref))) (hG : ∀ H', Same H H' → G H') (hp : Paired (StpAt H) ps sts) (hz : sts.length ≤ 1000)
    (hw : ∀ x, wipe ((wipe σ [i]).set i (some x)) [i] = wipe σ [i]) (h1 : ∀ x, ((wipe σ [i]).set i (some x))[i]? = some (some x))
    (qq : ∀ (D : Addr) (H' : Hp), H D = none → Same H H' → H' D = some (.lst ((sts.filterMap mvMark).map V.str)) → Q (.ref D) H') :
    lcB J (gName i) (tAnd (tTest (tOp rEq (tCB (rLenLT K) (tCons (tVar i) tNil)) (tC (V.int 2)))) (tTest (tOp rNe (tOp rIxTp (tVar i) (tC (V.int 1))) (tC (V.str "goal"))))) (tOp rIxTp (tVar i) (tC (V.int 1))) [i] σ H Q := by
  have len : ps.length = sts.length := Paired.length hp
  intro D hD
  refine lc_it w (fun i H' => Same H H' ∧ H' D = some (.lst (((sts.take i).filterMap mvMark).map V.str))) ⟨My.Same.new (Same.refl H) hD, upd_same⟩ (fun i H' _ h => hG H' h.1) ?_ ?_
  · rintro i x H' H2 hi ⟨sm, hd⟩ ⟨rfl, hx⟩
    rw [List.getElem?_map] at hx
    obtain ⟨b, hb, rfl⟩ := Option.map_eq_some_iff.mp hx
    obtain ⟨e, he, hbe⟩ := pd_at hp i b hb
    have hb1 := sm _ _ hbe.1
    rw [List.length_map] at hi
    have tk := take_more he
    refine ⟨hw _, _, h1 _, b, _, rfl, .inr (SqT.of hb1), ?_⟩
    cases e with
    | act a =>
      refine ⟨rfl, false, (by show V.bl (decide (V.int 1 = V.int 2)) = V.bl false; rw [decide_eq_false (by intro e; cases e)]), ?_⟩
      refine ⟨sm, ?_⟩
      rw [tk, List.filterMap_append, List.map_append]
      have e0 : List.filterMap mvMark [Stp.act a] = [] := rfl
      rw [e0, List.map_nil, List.append_nil]
      exact hd
    | move d m =>
      refine ⟨rfl, true, (by show V.bl (decide (V.int 2 = V.int 2)) = V.bl true; rw [decide_eq_true rfl]), ?_⟩
      refine ⟨_, h1 _, b, 1, rfl, rfl, _, hb1, by decide, .str m, rfl, rfl, _, rfl, ?_⟩
      by_cases z : m = "goal"
      · rw [decide_eq_true (by rw [z])]
        refine ⟨sm, ?_⟩
        rw [tk, List.filterMap_append, List.map_append]
        have e0 : List.filterMap mvMark [Stp.move d m] = [] := by simp [List.filterMap_cons, mvMark, z]
        rw [e0, List.map_nil, List.append_nil]
        exact hd
      · rw [decide_eq_false (by intro e; cases e; exact z rfl)]
        refine ⟨_, h1 _, b, 1, rfl, rfl, _, hb1, by decide, .str m, rfl, ?_⟩
        refine ⟨_, hd, szl ?_, My.Same.new sm hD, ?_⟩
        · have := List.length_filterMap_le mvMark (sts.take i)
          rw [List.length_map]
          rw [List.length_take] at this
          omega
        · rw [upd_same, tk, List.filterMap_append, List.map_append]
          have e0 : List.filterMap mvMark [Stp.move d m] = [m] := by simp [List.filterMap_cons, mvMark, z]
          rw [e0]
          rfl
  · rintro H' ⟨sm, hd⟩
    rw [List.length_map, len, List.take_length] at hd
    exact qq D H' hD sm hd
end My

set_option Elab.async false
set_option linter.all false
set_option maxRecDepth 100000
set_option maxHeartbeats 2000000
namespace My
open PySem PySem.Spec PyProof.Rows L2
/-- sorted(a list of pairs of a text and a number) -/
def rSortPr (K : PySem.W.Frag) : List V → Hp → VK → Prop := fun vs H Q => ∃ (a : Addr) (ps : List Addr) (ks : List (Str × Int)), vs = [.ref a] ∧ SqL K H a (ps.map V.ref) ∧ Paired (fun b (e : Str × Int) => H b = some (.tup [.str e.1, .int e.2])) ps ks ∧ ks.length < 64 ∧
  ∀ (l : Addr) (ps2 : List Addr) (ys : List (Str × Int)), H l = none → ys.Perm ks → ys.Pairwise (fun e f => ltCps f.1.cps.toList e.1.cps.toList = false) → Paired (fun b (e : Str × Int) => H b = some (.tup [.str e.1, .int e.2])) ps2 ys → Q (.ref l) (upd H l (.lst (ps2.map V.ref)))
theorem pd_atF {α β : Type} {F : α → β → Prop} {xs : List α} {ys : List β} (h : Paired F xs ys) : ∀ (i : Nat) (x : α), xs[i]? = some x → ∃ y, ys[i]? = some y ∧ F x y := by
  induction h with
  | nil => intro i x h; simp at h
  | @cons x y l r h _ ih =>
    intro i b e
    cases i with
    | zero => simp at e; subst e; exact ⟨y, rfl, h⟩
    | succ i => simpa using ih i b (by simpa using e)
theorem cr_sortPr {X : Cx} : CallR X (.builtin "sorted") (rSortPr X.K) := by
  rintro pins s σ H xs us Q I r ⟨a, ps, ks, rfl, src, prs, few, wish⟩
  obtain rfl := Vals.ref1 r
  obtain ⟨its, rv, pl, fit⟩ := I.list src
  have ei := refs_at rv
  subst ei
  have len : ps.length = ks.length := Paired.length prs
  have at_ : ∀ (j : Nat) (b : Addr), ps[j]? = some b → ∃ (e : Str × Int) (t u : Tok) (o : Obj) (n : Nat), ks[j]? = some e ∧ s.heap.get? b = some o ∧ o.cls = .type "tuple" ∧ o.data = .seq #[.str e.1 t, .int e.2 u] n ∧ H b = some (.tup [.str e.1, .int e.2]) := by
    intro j b hj
    obtain ⟨e, he, hb⟩ := pd_atF prs j b hj
    obtain ⟨vs, rv, ⟨o, g, c, n, d⟩, _⟩ := I.tuple (SqT.of (K := X.K) hb)
    obtain ⟨u, y, e2, ru, ry⟩ := vals2 rv
    subst e2
    obtain ⟨t, rfl⟩ := ru
    obtain ⟨t2, rfl⟩ := ry
    exact ⟨e, t, t2, o, n, he, g, c, d, hb⟩
  have key : ∀ {b : Addr} {e : Str × Int} {t u : Tok} {o : Obj} {n : Nat}, s.heap.get? b = some o → o.cls = .type "tuple" → o.data = .seq #[.str e.1 t, .int e.2 u] n → G.tupKeyC s.heap tn (.ref b) = some [Sum.inr e.1.cps.toList, Sum.inl e.2] :=
    fun g c d => G.tupKeyC_of g c d rfl
  have each : ∀ v ∈ ps.map Value.ref, ∃ (j : Nat) (b : Addr), v = .ref b ∧ ps[j]? = some b := by
    intro v hv
    obtain ⟨b, hb, rfl⟩ := List.mem_map.mp hv
    obtain ⟨j, hj⟩ := List.mem_iff_getElem?.mp hb
    exact ⟨j, b, rfl, hj⟩
  obtain ⟨fs, hfs⟩ := tups_all (h := s.heap) (shape := tn) (vs := ps.map Value.ref) fun v hv => by
    obtain ⟨j, b, rfl, hj⟩ := each v hv
    obtain ⟨e, t, u, o, n, _, g, c, d, _⟩ := at_ j b hj
    exact ⟨_, b, o, _, n, rfl, g, c, d, rfl, (fun z => by cases z), fun _ => ⟨e.1, t, rfl⟩⟩
  refine G.sorted_tups (shape := tn) pl.isList hfs (fun v hv => ?_) (by rw [List.length_map, sizeLine_eq]; omega) fun st' b1 b2 _ => ?_
  · obtain ⟨j, b, rfl, hj⟩ := each v hv
    obtain ⟨e, t, u, o, n, _, g, c, d, _⟩ := at_ j b hj
    exact ⟨_, key g c d⟩
  have perm : (arrOf st').toList.Perm ((ps.map Value.ref).zip (ps.map Value.ref)) := by
    rw [← pairsOf_toList]
    exact Array.perm_iff_toList_perm.mp b1
  obtain ⟨zs, zperm, zmap⟩ := perm_lift (fun z : Addr × Str × Int => (Value.ref z.1, Value.ref z.1)) perm (ps.zip ks) (DX.zip_self Value.ref ps ks len)
  have idx : ∀ z ∈ zs, ∃ j : Nat, ps[j]? = some z.1 ∧ ks[j]? = some z.2 := fun z hz => by
    obtain ⟨j, hj⟩ := List.mem_iff_getElem?.mp (zperm.mem_iff.mp hz)
    exact ⟨j, List.getElem?_zip_eq_some.mp hj⟩
  have atZ : ∀ z ∈ zs, G.tupKeyC s.heap tn (.ref z.1) = some [Sum.inr z.2.1.cps.toList, Sum.inl z.2.2] ∧ H z.1 = some (.tup [.str z.2.1, .int z.2.2]) := fun z hz => by
    obtain ⟨j, j1, j2⟩ := idx z hz
    obtain ⟨e, t, u, o, n, k1, g, c, d, hb⟩ := at_ j z.1 j1
    obtain rfl : e = z.2 := Option.some.inj (k1.symm.trans j2)
    exact ⟨key g c d, hb⟩
  have atI : ∀ (i : Nat) (hi : i < zs.length), KK (G.tupKindC s.heap tn) (arrOf st') i = [Sum.inr (zs[i]).2.1.cps.toList, Sum.inl (zs[i]).2.2] := fun i hi => by
    have k := (atZ _ (List.getElem_mem hi)).1
    have e1 : (arrOf st')[i]? = some (Value.ref (zs[i]).1, Value.ref (zs[i]).1) := by
      rw [← Array.getElem?_toList, ← zmap, List.getElem?_map, List.getElem?_eq_getElem hi]
      rfl
    unfold KK
    rw [e1]
    show (G.tupKeyC s.heap tn (.ref (zs[i]).1)).getD [] = _
    rw [k]
    rfl
  have outL : ((arrOf st').map (·.2)).toList = zs.map fun z => Value.ref z.1 := by
    rw [Array.toList_map, ← zmap, List.map_map]
    rfl
  have ysPerm : (zs.map (·.2)).Perm ks := by
    have e1 := zperm.map (·.2)
    rwa [List.map_snd_zip (by rw [len]; exact Nat.le_refl _)] at e1
  have zlen : zs.length = ks.length := by
    have e1 := ysPerm.length_eq
    rwa [List.length_map] at e1
  have ysSort : (zs.map (·.2)).Pairwise (fun e f => ltCps f.1.cps.toList e.1.cps.toList = false) := by
    rw [List.pairwise_map, List.pairwise_iff_getElem]
    intro i j hi hj hij
    have z := b2 i j (Nat.le_of_lt hij) (by rw [pairsOf_size, List.length_map]; omega)
    rw [atI i hi, atI j hj] at z
    exact tn_le z
  generalize (arrOf st').map (·.2) = out at outL
  obtain ⟨ep, at2⟩ := sortedAll_at s.heap (ps.map Value.ref) out
  have vals : Vals ((zs.map (·.1)).map V.ref) out.toList := by
    rw [outL, List.map_map]
    exact vals_maps (fun z : Addr × Str × Int => V.ref z.1) (fun z => Value.ref z.1) zs fun _ _ => rfl
  exact ⟨.ref _, upd H (s.heap.objs.size + 1) (.lst ((zs.map (·.1)).map V.ref)), I.laid (t' := s.toks) (fun _ _ => sortedAll_old) (Nat.le_succ _) ⟨by rw [List.length_map, List.length_map, sizeLine_eq]; omega, out.toList, ep, vals, at2⟩, rfl,
    wish _ (zs.map (·.1)) (zs.map (·.2)) (I.hok.fresh (Nat.le_succ _)) ysPerm ysSort (pair_maps fun z hz => (atZ z hz).2)⟩
end My

set_option Elab.async false
set_option linter.all false
set_option maxRecDepth 100000
set_option maxHeartbeats 2000000
namespace My
open PySem PySem.Spec PyProof.Rows L2
/-- d.update(e), two dicts of texts and numbers as keys -/
def rUpdK : V → List V → Hp → VK → Prop := fun x xs H Q => ∃ (a b : Addr) (kvs more : List (Key × V)), x = .ref a ∧ xs = [.ref b] ∧ H a = some (.dK kvs) ∧ H b = some (.dK more) ∧ a ≠ b ∧ kvs.length + more.length ≤ sizeLine ∧ Q .non (upd H a (.dK (mergeK kvs more)))
theorem mt_updK {X : Cx} : MtR X "dict.update" rUpdK := by
  rintro pins s σ H x xs v us Q I rx rxs ⟨a, b, kvs, more, rfl, rfl, ha, hb, ne, fit, q⟩
  cases rx
  obtain ⟨u, rfl, ru⟩ := vals1 rxs
  cases ru
  obtain ⟨z1, n1, vs, rel1, dd1⟩ := dk_of I.hok ha
  obtain ⟨z2, n2, ws, rel2, dd2⟩ := dk_of I.hok hb
  refine call_meetsIn F.slot_dict_update dd1.typeIs F.entry_dict_update (F.args_dict_update_2 _ _) (meets_dict_update (mixKind X.prog X.w) a b ne n2) ⟨vs, ws, dd1, dd2, ?_, fun h' e1 e2 same => ?_⟩
  · rw [← rel1.length, ← rel2.length]
    exact fit
  · have there : ∃ o, h'.get? a = some o := let ⟨o, _, _, g, _⟩ := e1; ⟨o, g⟩
    have few : (mergeK kvs more).length ≤ sizeLine := Nat.le_trans (length_mergeK more kvs) fit
    exact ⟨.non, _, d_write (t' := s.toks) I (by rw [ha]; exact True.intro) same there (dk_new few n1 (KV.merge rel2 rel1) e1), rfl, q⟩
/-- d.update(e) -/
def tUpd (td te : TE) : TE := fun σ H Q => td σ H fun x H1 => ∃ a, x = .ref a ∧ (∃ kvs, H1 a = some (.dK kvs)) ∧ te σ H1 fun y H2 => ∃ (b : Addr) (kvs more : List (Key × V)), y = .ref b ∧ H2 a = some (.dK kvs) ∧ H2 b = some (.dK more) ∧ a ≠ b ∧ kvs.length + more.length ≤ sizeLine ∧ Q .non (upd H2 a (.dK (mergeK kvs more)))
theorem pe_upd {X : Cx} {o e : Expr} {ta te : TE} {apos cpos : Pos} (ho : PE X o ta) (he : PE X e te)
    (hbase : attributeBase o "update" X.env (eval o X.env) = eval o X.env := by rfl)
    (hfew : ((backTo cpos (starEach (e :: []) X.env)).all (fun x => !x.1) && (backToKw cpos (keywordEach [] X.env)).all (fun x => x.1.isSome)
      && decide ((e :: []).length + ([] : List Keyword).length + (if ([] : List Keyword).isEmpty then 0 else 1) < 30)) = true := by rfl)
    (hline : (apos.endLine == cpos.line) = true := by rfl) (hs : starEach (e :: []) X.env = (false, eval e X.env) :: starEach [] X.env := by rfl) (hplain : (backTo cpos (starEach [] X.env)).any (·.1) = false := by rfl) :
    PE X (.Call (.Attribute o "update" apos) [e] [] cpos) (tUpd ta te) :=
  (pe_bm PySem.F.plainAttrs_dict PySem.F.slot_dict_update PySem.F.type_dict_update mt_updK ho.mon (pa_cons he.mon pa_nil hs) hbase hfew hline hs hplain).imp fun σ H Q q =>
    ⟨_, q, fun x H1 ⟨a, ex, ⟨kv, hk⟩, q1⟩ => ⟨by subst ex; exact .inr (.inr (.inl ⟨rfl, .inl ⟨kv, hk⟩⟩)), _, q1, fun y H2 ⟨b, kvs, more, ey, ha, hb, ne, fit, q2⟩ => ⟨a, b, kvs, more, ex, by rw [ey], ha, hb, ne, fit, q2⟩⟩⟩
/-- xs.insert(i, v) -/
def tIns (td ti te : TE) : TE := fun σ H Q => td σ H fun x H1 => ∃ l, x = .ref l ∧ (∃ xs, H1 l = some (.lst xs)) ∧ ti σ H1 fun z H2 => te σ H2 fun y H3 => ∃ (i : Int) (xs : List V), z = .int i ∧ H3 l = some (.lst xs) ∧ xs.length < sizeLine ∧ 0 ≤ i ∧ i < 2 ^ 63 ∧ Q .non (upd H3 l (.lst (xs.take i.toNat ++ [y] ++ xs.drop i.toNat)))
theorem pe_ins {X : Cx} {o e f : Expr} {ta ti te : TE} {apos cpos : Pos} (ho : PE X o ta) (hi : PE X e ti) (he : PE X f te)
    (hbase : attributeBase o "insert" X.env (eval o X.env) = eval o X.env := by rfl)
    (hfew : ((backTo cpos (starEach (e :: [f]) X.env)).all (fun x => !x.1) && (backToKw cpos (keywordEach [] X.env)).all (fun x => x.1.isSome)
      && decide ((e :: [f]).length + ([] : List Keyword).length + (if ([] : List Keyword).isEmpty then 0 else 1) < 30)) = true := by rfl)
    (hline : (apos.endLine == cpos.line) = true := by rfl) (hs : starEach (e :: [f]) X.env = (false, eval e X.env) :: starEach [f] X.env := by rfl) (hs2 : starEach [f] X.env = (false, eval f X.env) :: starEach [] X.env := by rfl) (hplain : (backTo cpos (starEach [f] X.env)).any (·.1) = false := by rfl) :
    PE X (.Call (.Attribute o "insert" apos) [e, f] [] cpos) (tIns ta ti te) :=
  (pe_bm PySem.F.plainAttrs_list PySem.F.slot_list_insert PySem.F.type_list_insert mt_insert ho.mon (pa_cons hi.mon (pa_cons he.mon pa_nil hs2) hs) hbase hfew hline hs hplain).imp fun σ H Q q =>
    ⟨_, q, fun x H1 ⟨l, ex, ⟨xs, hl⟩, q1⟩ => ⟨by subst ex; exact tyL (SqL.of hl), _, q1, fun z H2 q2 => ⟨_, q2, fun y H3 ⟨i, ys, ez, hl2, fit, h0, h1, q3⟩ => ⟨l, ys, i, y, ex, by rw [ez], hl2, fit, h0, h1, q3⟩⟩⟩⟩
end My

set_option Elab.async false
set_option linter.all false
set_option maxRecDepth 100000
set_option maxHeartbeats 2000000
namespace My
open PySem PySem.Spec PyProof.Rows L2
/-! ### what is sorted is told by what it holds -/
abbrev leS (a b : Str) : Prop := ltCps b.cps.toList a.cps.toList = false
theorem leS_iff {a b : Str} : leS a b ↔ a.cps.toList ≤ b.cps.toList := by
  unfold leS
  rw [ltCps_eq, decide_eq_false_iff_not]
  exact List.not_lt
theorem leS_trans {a b c : Str} (h : leS a b) (k : leS b c) : leS a c := leS_iff.mpr (List.le_trans (leS_iff.mp h) (leS_iff.mp k))
theorem leS_anti {a b : Str} (h : leS a b) (k : leS b a) : a = b := by
  have e := List.le_antisymm (leS_iff.mp h) (leS_iff.mp k)
  cases a
  cases b
  congr 1
  exact Array.toList_inj.mp e
theorem rising_pw : ∀ (xs : List Str) (p : Str), risingS p xs = true → (p :: xs).Pairwise leS
  | [], p, _ => List.pairwise_singleton _ _
  | x :: xs, p, h => by
    have h2 : (!ltCps x.cps.toList p.cps.toList && risingS x xs) = true := h
    rw [Bool.and_eq_true, Bool.not_eq_true'] at h2
    have ih := rising_pw xs x h2.2
    refine List.pairwise_cons.mpr ⟨fun y hy => ?_, ih⟩
    rcases List.mem_cons.mp hy with rfl | hy
    · exact h2.1
    · exact leS_trans h2.1 ((List.pairwise_cons.mp ih).1 y hy)
theorem sorted_pw : ∀ {xs : List Str}, sortedS xs = true → xs.Pairwise leS
  | [], _ => List.Pairwise.nil
  | x :: xs, h => rising_pw xs x h
theorem sorted_uniq {xs ys : List Str} (h : sortedS xs = true) (k : sortedS ys = true) (p : xs.Perm ys) : xs = ys :=
  p.eq_of_pairwise (le := leS) (fun _ _ _ _ h k => leS_anti h k) (sorted_pw h) (sorted_pw k)
theorem nodup_key {ks : List (Str × Int)} (nd : (ks.map (·.1)).Nodup) : ∀ {a b : Str × Int}, a ∈ ks → b ∈ ks → a.1 = b.1 → a = b := by
  induction ks with
  | nil => intro a b h; cases h
  | cons e ks ih =>
    rw [List.map_cons, List.nodup_cons] at nd
    intro a b ha hb eq
    rcases List.mem_cons.mp ha with e1 | h1 <;> rcases List.mem_cons.mp hb with e2 | h2
    · rw [e1, e2]
    · refine absurd ?_ nd.1
      rw [← e1, eq]
      exact List.mem_map_of_mem h2
    · refine absurd ?_ nd.1
      rw [← e2, ← eq]
      exact List.mem_map_of_mem h1
    · exact ih nd.2 h1 h2 eq
theorem counts_uniq {xs ys : List (Str × Int)} (h : xs.Pairwise (fun e f => ltCps f.1.cps.toList e.1.cps.toList = false)) (k : ys.Pairwise (fun e f => ltCps f.1.cps.toList e.1.cps.toList = false)) (p : xs.Perm ys) (nd : (ys.map (·.1)).Nodup) : xs = ys :=
  p.eq_of_pairwise (le := fun e f => leS e.1 f.1) (fun a b ha hb h k => nodup_key nd (p.mem_iff.mp ha) hb (leS_anti h k)) h k
end My

set_option Elab.async false
set_option linter.all false
set_option maxRecDepth 100000
set_option maxHeartbeats 2000000
namespace My
open PySem PySem.Spec PyProof.Rows L2
abbrev leK (e f : Str × Int) : Prop := ltCps f.1.cps.toList e.1.cps.toList = false
/-- c is d with its parts in order -/
structure Srt (d c : Dv) : Prop where
  word : c.word = d.word
  opens : c.opens = d.opens
  whose : c.whose = d.whose
  card : c.card = d.card
  steps : c.steps = d.steps
  ans : c.ans.Perm d.ans
  ansS : sortedS c.ans = true
  asks : c.asks.Perm d.asks
  asksS : c.asks.Pairwise leK
  pays : c.pays.Perm d.pays
  paysS : c.pays.Pairwise leK
  goals : c.goals.Perm d.goals
  goalsS : sortedS c.goals = true
/-- the same parts, in another order -/
structure Alike (d e : Dv) : Prop where
  word : d.word = e.word
  opens : d.opens = e.opens
  whose : d.whose = e.whose
  card : d.card = e.card
  steps : d.steps = e.steps
  ans : d.ans.Perm e.ans
  asks : d.asks.Perm e.asks
  pays : d.pays.Perm e.pays
  goals : d.goals.Perm e.goals
section
variable {d e c b : Dv}
theorem Srt.alike (h : Srt d c) (k : Alike d e) : Srt e c := ⟨h.word.trans k.word, h.opens.trans k.opens, h.whose.trans k.whose, h.card.trans k.card, h.steps.trans k.steps, h.ans.trans k.ans, h.ansS, h.asks.trans k.asks, h.asksS, h.pays.trans k.pays, h.paysS, h.goals.trans k.goals, h.goalsS⟩
theorem Srt.uniq (h : Srt d c) (k : Srt d b) (nk : (d.asks.map (·.1)).Nodup) (np : (d.pays.map (·.1)).Nodup) : c = b := by
  obtain ⟨w, o, an, wh, ak, pa, ca, go, st⟩ := c
  obtain ⟨w2, o2, an2, wh2, ak2, pa2, ca2, go2, st2⟩ := b
  obtain ⟨rfl, rfl, rfl, rfl, rfl, a1, a2, k1, k2, p1, p2, g1, g2⟩ := h
  obtain ⟨e1, e2, e3, e4, e5, b1, b2, l1, l2, q1, q2, h1, h2⟩ := k
  dsimp only at *
  subst e1 e2 e3 e4 e5
  have x1 := sorted_uniq a2 b2 (a1.trans b1.symm)
  have x2 := sorted_uniq g2 h2 (g1.trans h1.symm)
  have x3 := counts_uniq k2 l2 (k1.trans l1.symm) ((l1.map (·.1)).nodup_iff.mpr nk)
  have x4 := counts_uniq p2 q2 (p1.trans q1.symm) ((q1.map (·.1)).nodup_iff.mpr np)
  subst x1 x2 x3 x4
  rfl
theorem Srt.cps (h : Srt d c) (k : d.Cps) : c.Cps where
  ans := fun x hx => k.ans x (h.ans.mem_iff.mp hx)
  asks := fun x hx => k.asks x (h.asks.mem_iff.mp hx)
  pays := fun x hx => k.pays x (h.pays.mem_iff.mp hx)
  asksN := (h.asks.map (·.1)).nodup_iff.mpr k.asksN
  paysN := (h.pays.map (·.1)).nodup_iff.mpr k.paysN
  few := by rw [h.ans.length_eq, h.asks.length_eq, h.pays.length_eq, h.goals.length_eq, h.steps]; exact k.few
  goals := fun x hx => k.goals x (h.goals.mem_iff.mp hx)
  steps := fun x hx => k.steps x (h.steps ▸ hx)
end
/-- Deed.__init__ where all parts are right: the deed stands, its parts in order -/
def spDI2 (K : PySem.W.Frag) (C : Addr) : Sp := fun vs H Q E => ∃ (x dx an go st : Addr) (ps : List Addr) (aV pV : V) (d : Dv), vs = [.ref x, .str d.word, .bl d.opens, .ref an, .str d.whose, aV, pV, .bl d.card, .ref go, .ref st] ∧ H x = some (.ins C dx []) ∧ d.Ok ∧ d.Cps ∧
  Row K H an (d.ans.map V.str) ∧ CntV H aV d.asks ∧ CntV H pV d.pays ∧ Row K H go (d.goals.map V.str) ∧ Row K H st (ps.map V.ref) ∧ Paired (StpAt H) ps d.steps ∧
  ∀ (H' : Hp) (c : Dv), Srt d c → DdAt K H' C x c → (∀ b o, b ≠ x → H b = some o → H' b = some o) → Q .non H'
theorem di2_imp {K : PySem.W.Frag} {C : Addr} (vs : List V) (H : Hp) (Q : VK) (E : XK) (h : spDI2 K C vs H Q E) : spDI K C vs H Q E := by
  obtain ⟨x, dx, an, go, st, ps, aV, pV, d, e, hx, ok, cps, ha, hk, hp, hg, hs, hst, q⟩ := h
  refine ⟨x, dx, an, go, st, ps, aV, pV, d, e, hx, ok, ha, hk, hp, hg, hs, hst, fun H' ta tk tp tg ts hx' keep ⟨za, a1, a2, a3⟩ ⟨pk, zk, k1, k2, k3, k4⟩ ⟨pp, zp, p1, p2, p3, p4⟩ ⟨zg, g1, g2, g3⟩ hts => ?_⟩
  have sr : Srt d { d with ans := za, asks := zk, pays := zp, goals := zg } := ⟨rfl, rfl, rfl, rfl, rfl, a1, a2, k1, k2, p1, p2, g1, g2⟩
  refine q H' _ sr ⟨dx, ta, tk, tp, tg, ts, ps, hx', a3, ⟨pk, k3, k4⟩, ⟨pp, p3, p4⟩, g3, hts, Paired.mono (fun a s z => ⟨keep _ _ (ne_of z.1 hx (by intro y; cases s <;> cases y)) z.1, z.2⟩) hst, sr.cps cps⟩ keep
end My

set_option Elab.async false
set_option linter.all false
set_option maxRecDepth 100000
set_option maxHeartbeats 2000000
namespace My
open PySem PySem.Spec PyProof.Rows L2
theorem five_ok : ∀ x ∈ five, isWord (.str x) = true ∧ okCps x ∧ x ≠ "other" ∧ x ≠ "zz" := by
  intro x hx
  have z : ∀ x ∈ five, (isWord (.str x) && (x.cps.all (· < 0x110000) && (!decide (x = "other") && !decide (x = "zz")))) = true := by decide +kernel
  have y := z x hx
  simp only [Bool.and_eq_true, Bool.not_eq_true', decide_eq_false_iff_not] at y
  exact ⟨y.1, y.2.1, y.2.2.1, y.2.2.2⟩
theorem five_nodup : five.Nodup := by decide +kernel
theorem hasS_of {ws : List Str} {x : Str} (h : x ∈ ws) : hasS ws (.str x) = true := by
  simp [hasS, h]
theorem mark_ne {x : Str} (h : isMark x = true) : isWord (.str x) = true ∧ x ≠ "goal" := by
  unfold isMark at h
  rw [Bool.and_eq_true, Bool.not_eq_true', decide_eq_false_iff_not] at h
  exact h
theorem acts_cps : ∀ a ∈ acts, okCps a := by
  intro a h
  have z : ∀ a ∈ acts, (a.cps.all (· < 0x110000)) = true := by decide +kernel
  exact z a h
theorem dirs_cps : ∀ a ∈ (["more", "less"] : List Str), okCps a := by
  intro a h
  have z : ∀ a ∈ (["more", "less"] : List Str), (a.cps.all (· < 0x110000)) = true := by decide +kernel
  exact z a h
theorem cnts_ok {ks cs : List (Str × Int)} (hk : ks ∈ marks7) (h : Cnts ks cs) : okCounts cs ∧ (∀ e ∈ cs, okCps e.1) := by
  obtain ⟨kz, kc, knd, kmk⟩ := marks7_ok ks hk
  have at_ : ∀ e ∈ cs, ∃ f ∈ ks, f.1 = e.1 := fun e he => by
    have := h.1.subset (List.mem_map_of_mem he)
    obtain ⟨f, hf, q⟩ := List.mem_map.mp this
    exact ⟨f, hf, q⟩
  refine ⟨⟨?_, h.1.nodup knd, fun e he => ?_⟩, fun e he => ?_⟩
  · have := h.1.length_le
    rw [List.length_map, List.length_map] at this
    omega
  · obtain ⟨f, hf, q⟩ := at_ e he
    have := h.2 e he
    refine ⟨?_, ?_⟩
    · unfold cntOk
      rw [← q, (kmk f hf).1, decide_eq_true this.1, decide_eq_true this.2]
      rfl
    · rw [← q]
      exact Nat.le_trans (kmk f hf).2.2 (by decide)
  · obtain ⟨f, hf, q⟩ := at_ e he
    rw [← q]
    exact (kmk f hf).2.1
theorem drn_ok {ws : List Str} {ks : List (Str × Int)} {d : Dv} (hw : Wds ws) (hk : ks ∈ marks7) (h : Drn ws ks d) (hd : d.word ∈ ws) : d.Ok ∧ d.Cps := by
  obtain ⟨kz, kc, knd, kmk⟩ := marks7_ok ks hk
  obtain ⟨a1, a2⟩ := cnts_ok hk h.asks
  obtain ⟨p1, p2⟩ := cnts_ok hk h.pays
  have anF := h.ans.trans hw.1
  obtain ⟨n, hn, hg⟩ := h.goals
  have gSub : d.goals.Sublist (ks.map (·.1)) := by rw [hg]; exact List.take_sublist _ _
  have gMk : ∀ x ∈ d.goals, isMark x = true ∧ okCps x := fun x hx => by
    obtain ⟨f, hf, q⟩ := List.mem_map.mp (gSub.subset hx)
    rw [← q]
    exact ⟨(kmk f hf).1, (kmk f hf).2.1⟩
  have gLen : d.goals.length ≤ 2 := by
    rw [hg, List.length_take]
    omega
  obtain ⟨mv, a, hmv, hst, hmo, hac⟩ := h.steps
  have aLen : a.toList.length ≤ 1 := by cases a <;> simp
  have sLen : d.steps.length ≤ 3 := by
    rw [hst, List.length_append, List.length_map]
    omega
  have mk : ∀ s ∈ mv, ∀ l, s.ok l (decide (0 < d.goals.length)) = true ∧ s.cps := fun s hs l => by
    obtain ⟨dir, m, rfl, hdir, hm⟩ := hmo s hs
    have d1 := hasS_of hdir
    rcases List.mem_append.mp hm with hm | hm
    · obtain ⟨f, hf, q⟩ := List.mem_map.mp hm
      refine ⟨?_, dirs_cps _ hdir, ?_⟩
      · show (hasS ["more", "less"] (.str dir) && (isMark m || (decide (0 < d.goals.length) && hasS ["goal"] (.str m)))) = true
        rw [d1, ← q, (kmk f hf).1]
        rfl
      · rw [← q]; exact (kmk f hf).2.1
    · split at hm
      · cases hm
      · rename_i ne
        obtain rfl := List.mem_singleton.mp hm
        refine ⟨?_, dirs_cps _ hdir, by unfold okCps; decide +kernel⟩
        have pos : 0 < d.goals.length := List.length_pos_iff.mpr ne
        show (hasS ["more", "less"] (.str dir) && (isMark "goal" || (decide (0 < d.goals.length) && hasS ["goal"] (.str "goal")))) = true
        rw [d1, decide_eq_true pos, hasS_of (ws := ["goal"]) (x := "goal") (by simp)]
        simp
  have stOk : stepsOk (decide (0 < d.goals.length)) d.steps = true := by
    unfold stepsOk
    rw [List.all_eq_true]
    intro i _
    unfold okAt
    cases e : d.steps[i]? with
    | none => rfl
    | some s =>
      dsimp only
      rw [hst] at e
      by_cases hi : i < mv.length
      · rw [List.getElem?_append_left hi] at e
        exact (mk s (List.mem_of_getElem? e) _).1
      · rw [List.getElem?_append_right (by omega)] at e
        cases a with
        | none => simp at e
        | some x =>
          have hx := hac x rfl
          have i0 : i - mv.length = 0 := by
            have := (List.getElem?_eq_some_iff.mp e).1
            simp at this
            omega
          rw [i0] at e
          obtain rfl : Stp.act x = s := by simpa using e
          have dl : d.steps.length = mv.length + 1 := by rw [hst]; simp
          show (decide (((i : Nat) : Int) = (d.steps.length : Int) - 1) && hasS acts (.str x)) = true
          rw [decide_eq_true (by rw [dl]; omega), hasS_of hx]
          rfl
  refine ⟨⟨(five_ok _ (hw.1.subset hd)).1, ⟨?_, anF.nodup five_nodup, fun x hx => (five_ok x (anF.subset hx)).1⟩, hasS_of h.whose, a1, p1, ⟨gLen, gSub.nodup knd, fun x hx => (mark_ne (gMk x hx).1).1⟩, ?_, by omega, stOk⟩, ⟨fun x hx => (five_ok x (anF.subset hx)).2.1, a2, p2, a1.2.1, p1.2.1, ⟨?_, a1.1, p1.1, gLen, by omega⟩, fun x hx => (gMk x hx).2, fun s hs => ?_⟩⟩
  · exact Nat.le_trans anF.length_le (by decide)
  · rw [Bool.eq_false_iff]
    intro z
    have := List.contains_iff_mem.mp z
    exact (mark_ne (gMk _ this).1).2 rfl
  · exact Nat.le_trans anF.length_le (by decide)
  · rw [hst] at hs
    rcases List.mem_append.mp hs with hs | hs
    · exact (mk s hs true).2
    · obtain ⟨x, hx, rfl⟩ := List.mem_map.mp hs
      exact acts_cps x (hac x (by simpa using hx))
end My

set_option Elab.async false
set_option linter.all false
set_option maxRecDepth 100000
set_option maxHeartbeats 4000000
namespace My
open PySem PySem.Spec PyProof.Rows L2
/-- [(k, d[k]) for k in d], d locked -/
theorem lc_ent {K : PySem.W.Frag} {d : Addr} {o : Obj} {kvs : List (Key × V)} {i j : Nat} {σ : L2.St} {H : Hp} {Q : VK} (hd : H d = some (.frz o (.dK kvs))) (hz : kvs.length ≤ 1000) (hk : ∀ (n : Nat) (e : Key × V), kvs[n]? = some e → valV kvs e.1 = some e.2)
    (hw : ∀ x, wipe ((wipe σ [i]).set i (some x)) [i] = wipe σ [i]) (h1 : ∀ x, ((wipe σ [i]).set i (some x))[i]? = some (some x)) (h2 : ∀ x, ((wipe σ [i]).set i (some x))[j]? = some (some (.ref d)))
    (qq : ∀ (D : Addr) (H' : Hp) (bs : List Addr), Same H H' → H' D = some (.lst (bs.map V.ref)) → Paired (fun b (e : Key × V) => H' b = some (.tup [kV e.1, e.2])) bs kvs → Q (.ref D) H') :
    lcB (Itk d o kvs) (gName i) tYes (tTup (tCons (tVar i) (tCons (tDGet (tVar j) (tVar i)) tNil))) [i] σ H Q := by
  intro D hD
  refine lc_it walk_keysAt (fun n H' => Same H H' ∧ ∃ bs : List Addr, H' D = some (.lst (bs.map V.ref)) ∧ Paired (fun b (e : Key × V) => H' b = some (.tup [kV e.1, e.2])) bs (kvs.take n)) ⟨My.Same.new (Same.refl H) hD, [], upd_same, .nil⟩ (fun n H' _ h => h.1 _ _ hd) ?_ ?_
  · rintro n x H' H2 hn ⟨sm, bs, lD, prs⟩ ⟨rfl, hx⟩
    rw [List.getElem?_map] at hx
    obtain ⟨e, he, rfl⟩ := Option.map_eq_some_iff.mp hx
    rw [List.length_map] at hn
    refine ⟨hw _, ?_⟩
    simp only [tYes, if_true]
    refine ⟨_, h1 _, _, h2 _, _, h1 _, d, e.2, rfl, .inl ⟨kvs, e.1, .inr ⟨o, sm _ _ hd⟩, rfl, (hk n e he).symm⟩, sz (by simp), fun T hT => ?_⟩
    have nT := ne_of_none lD hT
    have len : bs.length = (kvs.take n).length := Paired.length prs
    refine ⟨_, by rw [upd_ne nT]; exact lD, szl (by rw [List.length_map, len, List.length_take]; omega), My.Same.new (My.Same.new' sm hT) hD, bs ++ [T], by rw [upd_same, List.map_append]; rfl, ?_⟩
    rw [take_more he]
    refine Paired.snoc (Paired.mono (fun a b z => ?_) prs) (by rw [upd_ne (Ne.symm nT), upd_same])
    rw [upd_ne (ne_of z lD (by intro y; cases y)), upd_ne (ne_of_none z hT)]
    exact z
  · rintro H' ⟨sm, bs, lD, prs⟩
    rw [List.length_map, List.take_length] at prs
    exact qq D H' bs sm lD prs

theorem Row.bt {K : PySem.W.Frag} {H H' : Hp} {a p q : Addr} {xs : List V} (h : Row K H a xs) (pl : Pl H p q) (n : ∀ q k, (HO.lst xs) ≠ .lst [.ref q, .int k]) (b : Bt p H H') : Row K H' a xs :=
  h.imp (fun z => b _ _ (pl.neO z n) z) fun z => z.imp (fun z => b _ _ (pl.neO z (fun _ _ e => by cases e)) z) id
theorem CntV.bt {H H' : Hp} {v : V} {p q : Addr} {ks : List (Str × Int)} (h : CntV H v ks) (pl : Pl H p q) (b : Bt p H H') : CntV H' v ks := h.imp id fun ⟨a, e, z⟩ => ⟨a, e, b _ _ (pl.neO z (fun _ _ e => by cases e)) z⟩
theorem Good.bt {K : PySem.W.Frag} {H H' : Hp} {v : Vs} {d : Dv} {p q : Addr} (h : Good K H v d) (pl : Pl H p q) (b : Bt p H H') : Good K H' v d where
  w := h.w
  o := h.o
  a := let ⟨an, e, r⟩ := h.a; ⟨an, e, r.bt pl strs_ne b⟩
  wh := h.wh
  as := h.as.bt pl b
  ps := h.ps.bt pl b
  c := h.c
  g := let ⟨an, e, r⟩ := h.g; ⟨an, e, r.bt pl strs_ne b⟩
  s := let ⟨st, ps, e, r, z⟩ := h.s; ⟨st, ps, e, r.bt pl refs_ne b, Paired.mono (fun _ _ y => ⟨b _ _ (y.neP pl) y.1, y.2⟩) z⟩
abbrev sVal : Stmt := topI 30
abbrev sNms : Stmt := topI 27
abbrev NVal : List Str := ["deed", "found", "part"]
theorem scVal : FnScope NVal ["deed"] (defScope sVal) := ⟨rfl, rfl, rfl, by decide +kernel, rfl, by decide +kernel, by decide +kernel⟩
abbrev NNms : List Str := []
theorem scNms : FnScope NNms [] (defScope sNms) := ⟨rfl, rfl, rfl, by decide +kernel, rfl, by decide +kernel, by decide +kernel⟩
def spVal (K : PySem.W.Frag) : Sp := fun vs H Q _ => ∃ (S : Addr → Prop) (g : Addr) (d : Dv), vs = [.ref g] ∧ DeedAt S H g d ∧ d.Cps ∧ ∀ (l : Addr) (v : Vs) (H' : Hp), H l = none → Same H H' → H' l = some (.dK (vk v)) → Good K H' v d → Q (.ref l) H'
def spNms : Sp := fun vs H Q _ => vs = [] ∧ ∀ (l : Addr), H l = none → Q (.ref l) (upd H l (.lst (partNames.map V.str)))
section
variable {P : Program} {w : World} {K : PySem.W.Frag} {mg : Str → Option Value} {base : Heap}
theorem ok_nms {f : Addr} {fd : FuncData} (F : Fun K "_law_part_names" "_law_part_names" sNms f fd) : FnOk P w K mg base CX0 1 f fd [] spNms := by
  refine F.ok scNms (fun vs H Q E h => ?_) (fun cdv A outer s H vs Q E hr h => ?_)
  · obtain ⟨rfl, _⟩ := h
    rfl
  · obtain ⟨rfl, q⟩ := h
    refine ⟨_, (pss_one (ps_ret (pe_lst (pa_cons pe_str (pa_cons pe_str (pa_cons pe_str (pa_cons pe_str (pa_cons pe_str (pa_cons pe_str (pa_cons pe_str (pa_cons pe_str (pa_cons pe_str pa_nil)))))))))))), ?_⟩
    exact ⟨sz (by simp), fun l hl => q l hl⟩
theorem ok_val {f : Addr} {fd : FuncData} (F : Fun K "_law_values" "_law_values" sVal f fd) (B : Bn mg) : FnOk P w K mg base CX0 2 f fd ["deed"] (spVal K) := by
  refine F.ok scVal (fun vs H Q E h => ?_) (fun cdv A outer s H vs Q E hr h => ?_)
  · obtain ⟨S, g, d, rfl, _⟩ := h
    rfl
  · obtain ⟨S, g, d, rfl, hdd, cp, qq⟩ := h
    obtain ⟨ga, an, ak, pa, st, sps, hS, h1, h2, h3, ⟨kps, h4, k4⟩, ⟨pps, h5, k5⟩, h6, h7⟩ := id hdd
    have hu64 := hr.units
    have hu := hu_of hr
    refine ⟨_, (pss_cons (ps_set (i := 1) scVal.nd rfl (Or.inl rfl) (pe_callTy (call_dictP rfl) (by rfl) B.dict (by decide +kernel) (pa_cons (pe_lock (pe_lc (own := [("part", 2)]) (g := gName 2) rfl scVal.nd (pi_keys (pv 0)) (blkOk_by (own := [("part", 2)]) (N := NVal) (sc := defScope sVal) (by decide +kernel)) (fun _ _ _ _ _ => pg_name (i := 2) scVal.nd rfl (Or.inl rfl)) (fun _ _ _ _ _ => pts_nil) (fun _ _ _ _ _ => (pe_tup (pa_cons (pv 2) (pa_cons (pe_dget hu (pv 0) (pv 2) (fun _ _ => rfl)) pa_nil)))))) pa_nil)))
      (pss_cons (ps_dp hu64 (pv 1) pe_str (pe_callTy (call_dictP rfl) (by rfl) B.dict (by decide +kernel) (pa_cons (pe_dg hu64 (pv 0) pe_str) pa_nil)) rfl)
      (pss_cons (ps_dp hu64 (pv 1) pe_str (pe_callTy (call_dictP rfl) (by rfl) B.dict (by decide +kernel) (pa_cons (pe_dg hu64 (pv 0) pe_str) pa_nil)) rfl)
      (pss_one (ps_ret (pv 1)))))), ?_⟩
    refine step_asg ?_
    rw [rd_cb, rd_cons, rd_lockE]
    refine ⟨g, _, h1, trivial, fun od => ?_⟩
    rw [rd_lcK]
    refine ⟨_, rfl, g, od, rfl, .inl ⟨_, upd_same, ?_⟩⟩
    have dv : ddk d ga an ak pa st = vk ⟨.str d.word, .bl d.opens, .ref an, .str d.whose, .ref ak, .ref pa, .bl d.card, .ref ga, .ref st⟩ := rfl
    refine lc_ent (K := K) (j := 0) upd_same (by show 9 ≤ 1000; decide) (vk_val (v := ⟨.str d.word, .bl d.opens, .ref an, .str d.whose, .ref ak, .ref pa, .bl d.card, .ref ga, .ref st⟩)) (fun _ => rfl) (fun _ => rfl) (fun _ => rfl) fun D H1 bs s1 lD prs => ?_
    refine ⟨s1 _ _ upd_same, ?_⟩
    have sm := same_unlock h1 s1
    have gf := s1 _ _ upd_same
    have lD2 : upd H1 g (.dK (ddk d ga an ak pa st)) D = some (.lst (bs.map V.ref)) := by rw [upd_ne (ne_of lD gf (by intro y; cases y))]; exact lD
    have prs2 : Paired (fun b (e : Key × V) => upd H1 g (.dK (ddk d ga an ak pa st)) b = some (.tup [kV e.1, e.2])) bs (ddk d ga an ak pa st) := Paired.mono (fun a b z => by rw [upd_ne (ne_of z gf (by intro y; cases y))]; exact z) prs
    generalize upd H1 g (.dK (ddk d ga an ak pa st)) = H2 at *
    rw [rd_nil]
    refine ⟨D, bs, _, rfl, SqL.of lD2, Paired.mono (fun _ _ z => SqT.of z) prs2, fun lt hlt => ?_⟩
    rw [show mergeK [] (ddk d ga an ak pa st) = ddk d ga an ak pa st from rfl]
    have s2 := My.Same.new (o := .dK (ddk d ga an ak pa st)) (Same.refl H2) hlt
    have e2 : upd H2 lt (.dK (ddk d ga an ak pa st)) lt = some (.dK (ddk d ga an ak pa st)) := upd_same
    have hltH : H lt = none := by
      cases e : H lt with
      | none => rfl
      | some u => rw [sm _ _ e] at hlt; cases hlt
    generalize upd H2 lt (.dK (ddk d ga an ak pa st)) = H3 at *
    have s03 := sm.trans s2
    refine step_seq ?_
    rw [rd_dp]
    refine ⟨_, rfl, g, "asks", rfl, rfl, _, s03 _ _ h1, .ref ak, rfl, ak, kps, d.asks.map entK, rfl, SqL.of (s03 _ _ h4), pairs_sq (Paired.mono (fun _ _ z => s03 _ _ z) k4), fun da hda => ?_⟩
    rw [merge_nil cp.asksN]
    have s4 := My.Same.new (o := .dK (d.asks.map entK)) (Same.refl H3) hda
    have e4 : upd H3 da (.dK (d.asks.map entK)) da = some (.dK (d.asks.map entK)) := upd_same
    generalize upd H3 da (.dK (d.asks.map entK)) = H4 at *
    have na : da ≠ lt := Ne.symm (ne_of_none e2 hda)
    have e2 := s4 _ _ e2
    have s04 := s03.trans s4
    refine ⟨_, rfl, lt, "asks", rfl, rfl, _, e2, by exact (by decide : 9 < sizeLine), ?_⟩
    have s5 : Same H (upd H4 lt (.dK (putK (ddk d ga an ak pa st) (.inr "asks") (.ref da)))) := fun b o h => by rw [upd_ne (ne_of_none h hltH)]; exact s04 _ _ h
    have e5 : upd H4 lt (.dK (putK (ddk d ga an ak pa st) (.inr "asks") (.ref da))) lt = some (.dK (putK (ddk d ga an ak pa st) (.inr "asks") (.ref da))) := upd_same
    have e4 : upd H4 lt (.dK (putK (ddk d ga an ak pa st) (.inr "asks") (.ref da))) da = some (.dK (d.asks.map entK)) := by rw [upd_ne na]; exact e4
    generalize upd H4 lt (.dK (putK (ddk d ga an ak pa st) (.inr "asks") (.ref da))) = H5 at *
    dsimp only
    refine step_seq ?_
    rw [rd_dp]
    refine ⟨_, rfl, g, "pays", rfl, rfl, _, s5 _ _ h1, .ref pa, rfl, pa, pps, d.pays.map entK, rfl, SqL.of (s5 _ _ h5), pairs_sq (Paired.mono (fun _ _ z => s5 _ _ z) k5), fun db hdb => ?_⟩
    rw [merge_nil cp.paysN]
    have s6 := My.Same.new (o := .dK (d.pays.map entK)) (Same.refl H5) hdb
    have e6 : upd H5 db (.dK (d.pays.map entK)) db = some (.dK (d.pays.map entK)) := upd_same
    generalize upd H5 db (.dK (d.pays.map entK)) = H6 at *
    have nb : db ≠ lt := Ne.symm (ne_of_none e5 hdb)
    have e5 := s6 _ _ e5
    have e4 := s6 _ _ e4
    have s06 := s5.trans s6
    refine ⟨_, rfl, lt, "pays", rfl, rfl, _, e5, by exact (by decide : 9 < sizeLine), ?_⟩
    have s7 : Same H (upd H6 lt (.dK (putK (putK (ddk d ga an ak pa st) (.inr "asks") (.ref da)) (.inr "pays") (.ref db)))) := fun b o h => by rw [upd_ne (ne_of_none h hltH)]; exact s06 _ _ h
    have e7 : upd H6 lt (.dK (putK (putK (ddk d ga an ak pa st) (.inr "asks") (.ref da)) (.inr "pays") (.ref db))) lt = some (.dK (vk ⟨.str d.word, .bl d.opens, .ref an, .str d.whose, .ref da, .ref db, .bl d.card, .ref ga, .ref st⟩)) := upd_same
    have e4 : upd H6 lt (.dK (putK (putK (ddk d ga an ak pa st) (.inr "asks") (.ref da)) (.inr "pays") (.ref db))) da = some (.dK (d.asks.map entK)) := by rw [upd_ne na]; exact e4
    have e6 : upd H6 lt (.dK (putK (putK (ddk d ga an ak pa st) (.inr "asks") (.ref da)) (.inr "pays") (.ref db))) db = some (.dK (d.pays.map entK)) := by rw [upd_ne nb]; exact e6
    generalize upd H6 lt (.dK (putK (putK (ddk d ga an ak pa st) (.inr "asks") (.ref da)) (.inr "pays") (.ref db))) = H7 at *
    refine ⟨_, rfl, ?_⟩
    exact qq lt _ H7 hltH s7 e7 ⟨rfl, rfl, ⟨an, rfl, .inl (s7 _ _ h3)⟩, rfl, .inr ⟨da, rfl, e4⟩, .inr ⟨db, rfl, e6⟩, rfl, ⟨ga, rfl, .inl (s7 _ _ h2)⟩, ⟨st, sps, rfl, .inl (s7 _ _ h6), Paired.mono (fun _ _ z => ⟨s7 _ _ z.1, z.2⟩) h7⟩⟩
end
end My

set_option Elab.async false
set_option linter.all false
set_option maxRecDepth 100000
set_option maxHeartbeats 8000000
namespace My
open PySem PySem.Spec PyProof.Rows L2
abbrev sLaw : Stmt := topI 31
abbrev NLaw : List Str := ["script", "names", "k", "pool", "game", "good", "at", "part", "odd", "bent", "later", "short", "one"]
theorem scLaw : FnScope NLaw ["script"] (defScope sLaw) := ⟨rfl, rfl, rfl, by decide +kernel, rfl, by decide +kernel, by decide +kernel⟩
def spLaw (K : PySem.W.Frag) : Sp := fun vs H Q _ => ∃ (a : Addr) (ns : List Int), vs = [.ref a] ∧ SqL K H a (ns.map V.int) ∧ ns.length ≤ 63 ∧ ∀ H', Q (.bl true) H'
theorem pc0 {X : Cx} {nm : Str} {st : Stmt} {sp : Sp} {k : Nat} {p pos : Pos} (D : Df X.K X.mg nm st []) (G : FnOk X.prog X.w X.K X.mg X.base CX0 k D.f D.fd [] sp) (hr : Room k X.A) (hg : Gl X nm := by rfl) (hd : (nm == ("__debug__" : Str)) = false := by decide +kernel) : PE X (.Call (.Name nm p) [] [] pos) (tCall sp [] E0 tNil) :=
  pe_call0 (CX := CX0) (ps := []) (ds := []) (dvs := []) G hr hg D.g D.F.kp D.b .nil (fun pins s σ H z s' I c => c.elim) hd
theorem tried_ok {K : PySem.W.Frag} {σ : L2.St} {H : Hp} {D : Ends} {b : Addr} {pt : Pt} {v : Vs} {tb : TS} (h9 : σ[9]? = some (some (.ref b))) (h7 : σ[7]? = some (some (.str pt.name))) (e : H b = some (.dK (vk v)))
    (hb : DBad K H v.w v.o v.a v.wh v.as v.ps v.c v.g v.s pt.name) (q : ∀ H', Same H H' → D.nx σ H') :
    tIfS (tTest (tOp (rNeD K) (tCall (spTry K) [] E0 (tCons (tVar 9) tNil)) (tLst (tCons (tVar 7) (tCons (tC (.bl true)) tNil))))) tb tNext D σ H := by
  refine step_if ⟨_, h9, b, v, rfl, e, .inl ⟨pt.name, hb, fun l H1 hl s1 el => ⟨_, h7, sz (by simp), fun l2 hl2 => ?_⟩⟩⟩
  have s2 := My.Same.new (o := .lst [.str pt.name, .bl true]) (Same.refl H1) hl2
  have e2 : upd H1 l2 (.lst [.str pt.name, .bl true]) l2 = some (.lst [.str pt.name, .bl true]) := upd_same
  refine ⟨.list [.str pt.name, .bool true], .list [.str pt.name, .bool true], .lst (SqL.of (s2 _ _ el)) (.cons (.str _) (.cons (.bl _) .nil)), .lst (SqL.of e2) (.cons (.str _) (.cons (.bl _) .nil)), by cases pt <;> decide +kernel, by cases pt <;> decide +kernel, _, rfl, ?_⟩
  rw [show PyData.eqv (.list [.str pt.name, .bool true]) (.list [.str pt.name, .bool true]) = true from by cases pt <;> decide +kernel]
  exact iteF (q _ (s1.trans s2))
theorem cut_names : ∀ pt : Pt, (∀ y ∈ cutV (partNames.map V.str) (some (pt.ix : Int)) none, ∃ q : Pt, y = .str q.name ∧ pt.ix ≤ q.ix) ∧ 0 < (cutV (partNames.map V.str) (some (pt.ix : Int)) none).length := by
  have z : ∀ pt ∈ pts, cutV (partNames.map V.str) (some (pt.ix : Int)) none = (pts.drop pt.ix).map fun q => V.str q.name := by decide +kernel
  have z2 : ∀ pt ∈ pts, 0 < (pts.drop pt.ix).length ∧ ∀ q ∈ pts.drop pt.ix, pt.ix ≤ q.ix := by decide +kernel
  intro pt
  rw [z pt pt.mem]
  refine ⟨fun y hy => ?_, by rw [List.length_map]; exact (z2 pt pt.mem).1⟩
  obtain ⟨q, hq, rfl⟩ := List.mem_map.mp hy
  exact ⟨q, rfl, (z2 pt pt.mem).2 q hq⟩
theorem pts_at : ∀ {j : Nat} {pt : Pt}, pts[j]? = some pt → pt.ix = j := by
  intro j pt h
  have hj : j < 9 := (List.getElem?_eq_some_iff.mp h).1
  have : j = 0 ∨ j = 1 ∨ j = 2 ∨ j = 3 ∨ j = 4 ∨ j = 5 ∨ j = 6 ∨ j = 7 ∨ j = 8 := by omega
  rcases this with rfl | rfl | rfl | rfl | rfl | rfl | rfl | rfl | rfl <;> (obtain rfl := Option.some.inj h; rfl)
theorem dput {H : Hp} {a : Addr} {v : Vs} (p : Pt) (x : V) (e : H a = some (.dK (vk v))) : DPut H a (.str p.name) x (upd H a (.dK (vk (v.put p x)))) := by
  rw [← vk_put]
  exact DPut.k (k := Sum.inr p.name) e (by exact (by decide : 9 < sizeLine))
theorem tried_at {K : PySem.W.Frag} {σ : L2.St} {H : Hp} {D : Ends} {b : Addr} {v : Vs} {tb : TS} (h9 : σ[11]? = some (some (.ref b))) (e : H b = some (.dK (vk v)))
    (hb : DBad K H v.w v.o v.a v.wh v.as v.ps v.c v.g v.s "steps") (q : ∀ H', Same H H' → D.nx σ H') :
    tIfS (tTest (tOp (rNeD K) (tCall (spTry K) [] E0 (tCons (tVar 11) tNil)) (tLst (tCons (tC (.str "steps")) (tCons (tC (.bl true)) tNil))))) tb tNext D σ H := by
  refine step_if ⟨_, h9, b, v, rfl, e, .inl ⟨"steps", hb, fun l H1 hl s1 el => ⟨sz (by simp), fun l2 hl2 => ?_⟩⟩⟩
  have s2 := My.Same.new (o := .lst [.str "steps", .bl true]) (Same.refl H1) hl2
  have e2 : upd H1 l2 (.lst [.str "steps", .bl true]) l2 = some (.lst [.str "steps", .bl true]) := upd_same
  refine ⟨.list [.str "steps", .bool true], .list [.str "steps", .bool true], .lst (SqL.of (s2 _ _ el)) (.cons (.str _) (.cons (.bl _) .nil)), .lst (SqL.of e2) (.cons (.str _) (.cons (.bl _) .nil)), by decide +kernel, by decide +kernel, _, rfl, ?_⟩
  rw [show PyData.eqv (.list [.str "steps", .bool true]) (.list [.str "steps", .bool true]) = true from by decide +kernel]
  exact iteF (q _ (s1.trans s2))
/-- no goals, and a step that asks one -/
theorem short_bad {K : PySem.W.Frag} {H : Hp} {v : Vs} {d : Dv} {E L T : Addr} (hg : Good K H v d) (ok : d.Ok) (e1 : H E = some (.lst [])) (e2 : H L = some (.lst [.ref T])) (e3 : H T = some (.tup [.str "less", .str "goal"])) :
    DBad K H v.w v.o v.a v.wh v.as v.ps v.c (.ref E) (.ref L) "steps" := by
  have gwh : Ty H v.wh ∧ hasS whs v.wh = true := by
    rw [hg.wh]
    refine ⟨⟨rfl, fun y e => ?_⟩, ok.whose⟩
    cases e
    have z : whs.contains d.whose = true := ok.whose
    rw [List.contains_iff_mem] at z
    simp only [whs, List.mem_cons, List.not_mem_nil, or_false] at z
    rcases z with e | e | e <;> rw [e] <;> decide +kernel
  have gw : Ty H v.w ∧ isWord v.w = true := by
    rw [hg.w]
    exact ⟨⟨rfl, fun y e => by cases e; exact word_len ok.word⟩, ok.word⟩
  refine ⟨gw.1, .inr ⟨gw.2, by rw [hg.o]; rfl, .inr ⟨by rw [hg.o]; rfl, .inr ⟨wds_good (m := 6) hg.a ok.ans (by decide), gwh.1, .inr ⟨gwh.2, .inr ⟨cnt_good hg.as ok.asks, .inr ⟨cnt_good hg.ps ok.pays, by rw [hg.c]; rfl, .inr ⟨by rw [hg.c]; rfl, .inr ⟨0, .inr ⟨E, [], rfl, .inl e1, ?_, rfl⟩, ?_, rfl⟩⟩⟩⟩⟩⟩⟩⟩⟩
  · exact wds_good (m := 2) (ws := []) ⟨E, rfl, .inl e1⟩ ⟨by decide, .nil, fun x hx => by simp at hx⟩ (by decide)
  · refine .inr ⟨L, [.ref T], [some [.str "less", .str "goal"]], rfl, .inl e2, by simp, .cons ⟨T, rfl, e3, fun y hy => ?_⟩ .nil, by decide +kernel⟩
    simp only [List.mem_cons, List.not_mem_nil, or_false] at hy
    rcases hy with rfl | rfl
    · exact ⟨rfl, fun z e => by cases e; decide +kernel⟩
    · exact ⟨rfl, fun z e => by cases e; decide +kernel⟩
def stp4 : List Stp := [.move "less" "goal", .move "more" "far", .move "more" "goal", .act "turn"]
def asks3 : List (Str × Int) := [("a", 3), ("b", 1), ("c", 3)]
def ans6 : List Str := ["a", "b", "c", "d", "e", "f"]
theorem short_ok {d : Dv} (ok : d.Ok) : Dv.Ok { d with goals := ["m"], pays := [], ans := ans6, steps := stp4, asks := asks3 } where
  word := ok.word
  ans := by
    have : okWords 6 ans6 := ⟨by decide, by decide +kernel, by decide +kernel⟩
    exact this
  whose := ok.whose
  asks := by
    have : okCounts asks3 := ⟨by decide, by decide +kernel, by decide +kernel⟩
    exact this
  pays := by
    have : okCounts [] := ⟨by decide, .nil, fun e he => by simp at he⟩
    exact this
  goals := by
    have : okWords 2 ["m"] := ⟨by decide, by decide +kernel, by decide +kernel⟩
    exact this
  goal := by
    have : (["m"] : List Str).contains "goal" = false := by decide +kernel
    exact this
  few := by
    have : stp4.length ≤ 4 := by decide
    exact this
  steps := by
    have : stepsOk true stp4 = true := by decide +kernel
    exact this
theorem sign6 : signV "abcdef" = ans6.map V.str := by decide +kernel
theorem short_good {K : PySem.W.Frag} {H : Hp} {v : Vs} {d : Dv} {g A S D a1 a2 a3 a4 : Addr} (hg : Good K H v d) (eg : H g = some (.tup [.str "m"])) (eA : H A = some (.tup (signV "abcdef"))) (eS : H S = some (.tup [.ref a1, .ref a2, .ref a3, .ref a4]))
    (e1 : H a1 = some (.tup [.str "less", .str "goal"])) (e2 : H a2 = some (.tup [.str "more", .str "far"])) (e3 : H a3 = some (.tup [.str "more", .str "goal"])) (e4 : H a4 = some (.tup [.str "turn"])) (eD : H D = some (.dK (asks3.map entK))) :
    Good K H { v with g := .ref g, ps := .non, a := .ref A, s := .ref S, as := .ref D } { d with goals := ["m"], pays := [], ans := ans6, steps := stp4, asks := asks3 } where
  w := hg.w
  o := hg.o
  a := ⟨A, rfl, .inr (.inl (by rw [eA, sign6]))⟩
  wh := hg.wh
  as := .inr ⟨D, rfl, eD⟩
  ps := .inl ⟨rfl, rfl⟩
  c := hg.c
  g := ⟨g, rfl, .inr (.inl eg)⟩
  s := ⟨S, [a1, a2, a3, a4], rfl, .inr (.inl eS), .cons ⟨e1, by show Str.length _ ≤ 1000; decide +kernel⟩ (.cons ⟨e2, by show Str.length _ ≤ 1000; decide +kernel⟩ (.cons ⟨e3, by show Str.length _ ≤ 1000; decide +kernel⟩ (.cons ⟨e4, trivial⟩ .nil)))⟩

/-- all that the law calls -/
structure Lw (P : Program) (w : World) (K : PySem.W.Frag) (mg : Str → Option Value) (base : Heap) where
  B : Bn mg
  D_nms : Df K mg "_law_part_names" sNms []
  G_nms : FnOk P w K mg base CX0 1 D_nms.f D_nms.fd [] spNms
  D_opn : Df K mg "_law_opened" sOpn ["script", "k", "many"]
  G_opn : FnOk P w K mg base CX0 2 D_opn.f D_opn.fd ["script", "k", "many"] (spOpn K)
  D_dgm : Df K mg "_law_drawn_game" sDgm ["pool", "deeds", "wakings", "rarely"]
  G_dgm : FnOk P w K mg base CX0 4 D_dgm.f D_dgm.fd ["pool", "deeds", "wakings", "rarely"] spDgm0
  D_pck : Df K mg "_law_pick" sPck ["pool", "some"]
  G_pck : FnOk P w K mg base CX0 2 D_pck.f D_pck.fd ["pool", "some"] spPckB
  D_val : Df K mg "_law_values" sVal ["deed"]
  G_val : FnOk P w K mg base CX0 2 D_val.f D_val.fd ["deed"] (spVal K)
  D_try : Df K mg "_law_tried" sTry ["values"]
  G_try : FnOk P w K mg base CX0 7 D_try.f D_try.fd ["values"] (spTry K)
  D_odd : Df K mg "_law_odds" sOdd ["part"]
  G_odd : FnOk P w K mg base CX0 1 D_odd.f D_odd.fd ["part"] spOdd
section
variable {P : Program} {w : World} {K : PySem.W.Frag} {mg : Str → Option Value} {base : Heap}
theorem ok_law {f : Addr} {fd : FuncData} (F : Fun K "law" "law" sLaw f fd) (L : Lw P w K mg base) : AtTop P w K mg base f fd ["script"] (spLaw K) := by
  obtain ⟨B, D_nms, G_nms, D_opn, G_opn, D_dgm, G_dgm, D_pck, G_pck, D_val, G_val, D_try, G_try, D_odd, G_odd⟩ := L
  refine top_ok (k := 7) F scLaw ⟨rfl, by decide, by decide⟩ (fun vs H Q E h => ?_) (fun cdv s H vs Q E hr h => ?_)
  · obtain ⟨a, ns, rfl, _⟩ := h
    rfl
  · obtain ⟨a, ns, rfl, hS, hn, q⟩ := h
    have hu64 := hr.units
    have hu := hu_of hr
    have hr7 := hr
    have hr4 := hr.mono (by decide : 4 ≤ 7)
    have hr2 := hr.mono (by decide : 2 ≤ 7)
    have hr1 := hr.mono (by decide : 1 ≤ 7)
    refine ⟨_, (pss_cons (ps_set (i := 1) scLaw.nd rfl (Or.inl rfl) (pc0 D_nms G_nms hr1))
      (pss_cons (ps_for PassesOwn.never rfl (pi_range1 (by rfl) B.range (pa_cons (pe_callB (call_max2 rfl) (by rfl) B.max (by decide +kernel) (pa_cons pe_int (pa_cons (pe_callB (call_min2 rfl) (by rfl) B.min (by decide +kernel) (pa_cons (pe_callB call_lenSq (by rfl) B.len (by decide +kernel) (pa_cons (pv 0) pa_nil)) (pa_cons pe_int pa_nil))) pa_nil))) pa_nil)) (pg_name (i := 2) scLaw.nd rfl (Or.inl rfl))
        (pss_cons (ps_set (i := 3) scLaw.nd rfl (Or.inl rfl) (pc D_opn G_opn hr2 (pa_cons (pv 0) (pa_cons (pv 2) (pa_cons pe_int pa_nil)))))
        (pss_cons (ps_set (i := 4) scLaw.nd rfl (Or.inl rfl) (pc D_dgm G_dgm hr4 (pa_cons (pv 3) (pa_cons pe_int (pa_cons pe_int (pa_cons pe_int pa_nil))))))
        (pss_cons (ps_set (i := 5) scLaw.nd rfl (Or.inr rfl) (pc D_val G_val hr2 (pa_cons (pc D_pck G_pck hr2 (pa_cons (pv 3) (pa_cons (pe_dg hu64 (pv 4) pe_str) pa_nil))) pa_nil)))
        (pss_cons (ps_if (pt_cmpR op_ne (pc D_try G_try hr7 (pa_cons (pv 5) pa_nil)) pe_str (nomark _))
          (pss_one (ps_ret pe_bl))
          pss_nil)
        (pss_cons (ps_for PassesOwn.never rfl (pi_enum (by rfl) B.enumerate (pa_cons (pv 1) pa_nil)) (pg_tup rfl (pgs_cons (pg_name (i := 6) scLaw.nd rfl (Or.inl rfl)) (pgs_cons (pg_name (i := 7) scLaw.nd rfl (Or.inl rfl)) pgs_nil)))
          (pss_one (ps_for PassesOwn.never rfl (pi_list (pc D_odd G_odd hr1 (pa_cons (pv 7) pa_nil))) (pg_name (i := 8) scLaw.nd rfl (Or.inl rfl))
            (pss_cons (ps_set (i := 9) scLaw.nd rfl (Or.inl rfl) (pe_callTy (call_dictP rfl) (by rfl) B.dict (by decide +kernel) (pa_cons (pe_lock (pe_lc (own := [("one", 12)]) (g := gName 12) rfl scLaw.nd (pi_keys (pv 5)) (blkOk_by (own := [("one", 12)]) (N := NLaw) (sc := defScope sLaw) (by decide +kernel)) (fun _ _ _ _ _ => pg_name (i := 12) scLaw.nd rfl (Or.inl rfl)) (fun _ _ _ _ _ => pts_nil) (fun _ _ _ _ _ => (pe_tup (pa_cons (pv 12) (pa_cons (pe_dget hu (pv 5) (pv 12) (fun _ _ => rfl)) pa_nil)))))) pa_nil)))
            (pss_cons (ps_dp hu64 (pv 9) (pv 7) (pv 8) rfl)
            (pss_cons (ps_if (pt_cmpR (op_neD hu64) (pc D_try G_try hr7 (pa_cons (pv 9) pa_nil)) (pe_lst (pa_cons (pv 7) (pa_cons pe_bl pa_nil))) (nomark _))
              (pss_one (ps_ret pe_bl))
              pss_nil)
            (pss_cons (ps_set (i := 10) scLaw.nd rfl (Or.inl rfl) (pc D_pck G_pck hr2 (pa_cons (pv 3) (pa_cons (pe_slice sl_list (pv 1) (po_some (pv 6)) po_none) pa_nil))))
            (pss_cons (ps_if (pt_cmpR op_ne (pv 10) (pv 7) (nomark _))
              (pss_one (ps_dp hu64 (pv 9) (pv 10) (pc D_pck G_pck hr2 (pa_cons (pv 3) (pa_cons (pc D_odd G_odd hr1 (pa_cons (pv 10) pa_nil)) pa_nil))) rfl))
              pss_nil)
            (pss_one (ps_if (pt_cmpR (op_neD hu64) (pc D_try G_try hr7 (pa_cons (pv 9) pa_nil)) (pe_lst (pa_cons (pv 7) (pa_cons pe_bl pa_nil))) (nomark _))
              (pss_one (ps_ret pe_bl))
              pss_nil))))))))))
        (pss_cons (ps_set (i := 11) scLaw.nd rfl (Or.inl rfl) (pe_callTy (call_dictP rfl) (by rfl) B.dict (by decide +kernel) (pa_cons (pe_lock (pe_lc (own := [("one", 12)]) (g := gName 12) rfl scLaw.nd (pi_keys (pv 5)) (blkOk_by (own := [("one", 12)]) (N := NLaw) (sc := defScope sLaw) (by decide +kernel)) (fun _ _ _ _ _ => pg_name (i := 12) scLaw.nd rfl (Or.inl rfl)) (fun _ _ _ _ _ => pts_nil) (fun _ _ _ _ _ => (pe_tup (pa_cons (pv 12) (pa_cons (pe_dget hu (pv 5) (pv 12) (fun _ _ => rfl)) pa_nil)))))) pa_nil)))
        (pss_cons (ps_asg (pe_tup (pa_cons (pe_lst pa_nil) (pa_cons (pe_lst (pa_cons (pe_tup (pa_cons pe_str (pa_cons pe_str pa_nil))) pa_nil)) pa_nil))) (pg_tup rfl (pgs_cons (pg_sub (pv 11) pe_str (set_dict hu)) (pgs_cons (pg_sub (pv 11) pe_str (set_dict hu)) pgs_nil))))
        (pss_cons (ps_if (pt_cmpR (op_neD hu64) (pc D_try G_try hr7 (pa_cons (pv 11) pa_nil)) (pe_lst (pa_cons pe_str (pa_cons pe_bl pa_nil))) (nomark _))
          (pss_one (ps_ret pe_bl))
          pss_nil)
        (pss_cons (ps_asg (pe_tup (pa_cons (pe_tup (pa_cons pe_str pa_nil)) (pa_cons pe_non pa_nil))) (pg_tup rfl (pgs_cons (pg_sub (pv 11) pe_str (set_dict hu)) (pgs_cons (pg_sub (pv 11) pe_str (set_dict hu)) pgs_nil))))
        (pss_cons (ps_dp hu64 (pv 11) pe_str (pe_callTy (call_tupTx rfl) (by rfl) B.tuple (by decide +kernel) (pa_cons pe_str pa_nil)) rfl)
        (pss_cons (ps_dp hu64 (pv 11) pe_str (pe_tup (pa_cons (pe_tup (pa_cons pe_str (pa_cons pe_str pa_nil))) (pa_cons (pe_tup (pa_cons pe_str (pa_cons pe_str pa_nil))) (pa_cons (pe_tup (pa_cons pe_str (pa_cons pe_str pa_nil))) (pa_cons (pe_tup (pa_cons pe_str pa_nil)) pa_nil))))) rfl)
        (pss_cons (ps_dp hu64 (pv 11) pe_str (pe_disp (pps_cons pe_str pe_int (pps_cons pe_str pe_int (pps_cons pe_str pe_int pps_nil))) (by rfl) (by rfl) (fun z => by cases z) (by decide)) rfl)
        (pss_one (ps_if (pt_cmpR op_ne (pc D_try G_try hr7 (pa_cons (pv 11) pa_nil)) pe_str (nomark _))
          (pss_one (ps_ret pe_bl))
          pss_nil)))))))))))))))
      (pss_one (ps_ret pe_bl)))), ?_⟩
    refine step_asg ⟨rfl, fun nl hnl => ?_⟩
    have sN := My.Same.new (o := .lst (partNames.map V.str)) (Same.refl H) hnl
    have lN : upd H nl (.lst (partNames.map V.str)) nl = some (.lst (partNames.map V.str)) := upd_same
    have hS := Same.seq sN hS
    generalize upd H nl (.lst (partNames.map V.str)) = HN at *
    have hL : ((ns.map V.int).length : Int) = (ns.length : Int) := by rw [List.length_map]
    generalize hL2 : ((ns.map V.int).length : Int) = len at hL
    refine step_seq ?_
    refine for_r1 (m := if (if (4 : Int) < len then 4 else len) > 1 then (if (4 : Int) < len then 4 else len) else 1) ?_ (fun Q q => ?_) (fun i σ' H' => ∃ w2 w3 w4 w5 w6 w7 w8 w9 w10 w11 w12 : Option V, σ' = [some (.ref a), some (.ref nl), w2, w3, w4, w5, w6, w7, w8, w9, w10, w11, w12] ∧ Same HN H')
      ⟨_, _, _, _, _, _, _, _, _, _, _, rfl, Same.refl HN⟩ ?_ ?_
    · split <;> split <;> omega
    · subst hL2
      exact ⟨_, rfl, a, rfl, _, hS, _, 4, rfl, 1, _, rfl, q⟩
    · rintro i0 _ H0 hi ⟨w2, w3, w4, w5, w6, w7, w8, w9, w10, w11, w12, rfl, sm⟩
      have hi' : i0 < 5 := by
        split at hi <;> (try split at hi) <;> omega
      have hne : ns ≠ [] → ((i0 : Int)).toNat < ns.length := fun hne => by
        have h1 : 0 < ns.length := List.length_pos_iff.mpr hne
        rw [Int.toNat_natCast]
        split at hi <;> (try split at hi) <;> omega
      refine step_asg ⟨_, rfl, _, rfl, a, ns, (i0 : Int), 300, rfl, sm.seq hS, Int.natCast_nonneg i0, by omega, hne, by decide, by decide, fun p q0 zs H1 hp hq npq s1 h1p h1q => ?_⟩
      have pl1 : Pl H1 p q0 := ⟨0, zs, h1p, Int.le_refl _, h1q⟩
      refine step_asg ⟨_, rfl, p, q0, 5, 3, rfl, pl1, by decide, by decide, fun g dl kvs H2 gs ds ws ks hg b2 pl2 hgk hdl hdd hws hks hpd hw hdr => ?_⟩
      have ngp : g ≠ p := pl2.neO hgk (fun _ _ e => by cases e)
      have ndp : dl ≠ p := pl2.neO hdd refs_ne
      have lgs : gs.length = ds.length := Paired.length hpd
      have gpos : 0 < (gs.map V.ref).length := by
        have := hws.2
        rw [← hw, List.length_map] at this
        rw [List.length_map]
        omega
      -- good
      refine step_asg ⟨_, rfl, _, rfl, g, "deeds", rfl, rfl, kvs, hgk, .ref dl, hdl, p, q0, dl, _, rfl, pl2, hdd, ndp, gpos, fun x H3 b3 pl3 hx => ?_⟩
      obtain ⟨gd, hgd, rfl⟩ := List.mem_map.mp hx
      obtain ⟨ig, hig⟩ := List.mem_iff_getElem?.mp hgd
      obtain ⟨d, hd, hdd2⟩ := pd_at hpd _ _ hig
      obtain ⟨ok, cp⟩ := drn_ok hws hks (hdr d (List.mem_of_getElem? hd)) (by rw [← hw]; exact List.mem_map_of_mem (List.mem_of_getElem? hd))
      refine ⟨_, gd, d, rfl, hdd2.bt pl2 b3, cp, fun gl v0 H4 hgl s4 lg hgood => ?_⟩
      refine step_seq (step_if ?_)
      refine ⟨_, rfl, gl, v0, rfl, lg, .inr ⟨d, hgood, ok, fun H5 s5 => ⟨rfl, _, rfl, ?_⟩⟩⟩
      refine Eq.mpr (if_neg (by simp)) ?_
      try unfold tNext
      dsimp only
      have hp1 : HN p = none := by
        cases e : HN p with
        | none => rfl
        | some u => rw [sm _ _ e] at hp; cases hp
      have s02 : Same H0 H2 := fun b o h => b2 b o (ne_of_none h hp) (s1 b o h)
      have s03 : Same H0 H3 := fun b o h => b3 b o (ne_of_none h hp) (s02 b o h)
      have s45 := s4.trans s5
      have s05 : Same H0 H5 := s03.trans s45
      have hgood := hgood.same s5
      have lg := s5 _ _ lg
      have pl5 := pl3.same s45
      have lN5 := s05 _ _ (sm _ _ lN)
      have nnp : nl ≠ p := ne_of_none lN hp1
      have nglp : gl ≠ p := pl5.neO lg (fun _ _ e => by cases e)
      -- each part
      refine step_seq ?_
      refine ⟨_, rfl, nl, _, rfl, SqL.of lN5, for_it (walk_enum (xs := partNames.map V.str)) (fun i σ H' => ∃ w6 w7 w8 w9 w10 w12 : Option V, σ = [some (.ref a), some (.ref nl), some (.int (i0 : Int)), some (.ref p), some (.ref g), some (.ref gl), w6, w7, w8, w9, w10, w11, w12] ∧ Bt p H5 H' ∧ Pl H' p q0)
        ⟨_, _, _, _, _, _, rfl, Bt.refl p H5, pl5⟩ (fun i σ H' _ ⟨_, _, _, _, _, _, _, B, _⟩ => SqL.of (B _ _ nnp lN5)) ?_ ?_⟩
      · rintro j x _ H6 H7 hj ⟨w6, w7, w8, w9, w10, w12, rfl, B6, pl6⟩ ⟨T, x0, y0, rfl, hT, rfl, e1, e2⟩
        have e2' : (partNames.map V.str)[j]? = some y0 := e2
        rw [pts_names, List.getElem?_map, List.getElem?_map] at e2'
        obtain ⟨nm, hnm, rfl⟩ := Option.map_eq_some_iff.mp e2'
        obtain ⟨pt, hpt, rfl⟩ := Option.map_eq_some_iff.mp hnm
        obtain rfl := pts_at hpt
        obtain rfl : V.int ((pt.ix : Nat) : Int) = x0 := Option.some.inj e1
        have sT := My.Same.new (o := .tup [.int (pt.ix : Nat), .str pt.name]) (Same.refl H6) hT
        have lT : upd H6 T (.tup [.int (pt.ix : Nat), .str pt.name]) T = some (.tup [.int (pt.ix : Nat), .str pt.name]) := upd_same
        generalize upd H6 T (.tup [.int (pt.ix : Nat), .str pt.name]) = H7 at *
        have B7 := B6.trans (Same.bt sT)
        have pl7 := pl6.same sT
        refine ⟨T, [.int (pt.ix : Nat), .str pt.name], rfl, SqT.of lT, rfl, _, _, rfl, _, _, rfl, rfl, ?_⟩
        have pmem : ∀ q : Pt, q.name ∈ partNames := fun q => by rw [pts_names]; exact List.mem_map_of_mem q.mem
        refine ⟨_, rfl, pt.name, rfl, pmem pt, fun ol G H8 xs hol nw gol wr => ?_⟩
        have hodd : ∀ x ∈ xs, OddQ K G x pt := fun x hx => by
          obtain ⟨e, he, hw⟩ := wr.mem x hx
          exact odd_pt (odd_wr hw (List.all_eq_true.mp (odds_all pt.name (pmem pt)).1 e he))
        have Gp : G p = none := nw.apart p (by obtain ⟨k, zs, h1, _⟩ := pl7; rw [h1]; exact fun z => nomatch z)
        have B8 := B7.trans (Same.bt nw.same)
        have pl8 := pl7.same nw.same
        refine ⟨ol, rfl, ⟨_, SqL.of (nw.sub _ _ gol)⟩, for_it (walk_list (xs := xs)) (fun i σ H' => ∃ w8 w9 w10 w12 : Option V, σ = [some (.ref a), some (.ref nl), some (.int (i0 : Int)), some (.ref p), some (.ref g), some (.ref gl), some (.int (pt.ix : Nat)), some (.str pt.name), w8, w9, w10, w11, w12] ∧ Bt p H5 H' ∧ Pl H' p q0 ∧ Same G H')
          ⟨_, _, _, _, rfl, B8, pl8, nw.sub⟩ (fun i σ H' _ ⟨_, _, _, _, _, _, _, sG⟩ => SqL.of (sG _ _ gol)) ?_ ?_⟩
        · rintro i x _ H9 H10 hi ⟨w8, w9, w10, w12, rfl, B9, pl9, sG9⟩ ⟨rfl, hx⟩
          have hox := hodd x (List.mem_of_getElem? hx)
          have lg9 := B9 _ _ nglp lg
          -- bent
          refine step_asg ?_
          rw [rd_cb, rd_cons, rd_lockE]
          refine ⟨gl, _, lg9, trivial, fun od => ?_⟩
          rw [rd_lcK]
          refine ⟨_, rfl, gl, od, rfl, .inl ⟨_, upd_same, ?_⟩⟩
          refine lc_ent (K := K) (j := 5) upd_same (by show 9 ≤ 1000; decide) (vk_val (v := v0)) (fun _ => rfl) (fun _ => rfl) (fun _ => rfl) fun D H10 bs s10 lD prs => ?_
          refine ⟨s10 _ _ upd_same, ?_⟩
          have sm2 := same_unlock lg9 s10
          have gf := s10 _ _ upd_same
          have lD2 : upd H10 gl (.dK (vk v0)) D = some (.lst (bs.map V.ref)) := by rw [upd_ne (ne_of lD gf (by intro y; cases y))]; exact lD
          have prs2 : Paired (fun b (e : Key × V) => upd H10 gl (.dK (vk v0)) b = some (.tup [kV e.1, e.2])) bs (vk v0) := Paired.mono (fun a b z => by rw [upd_ne (ne_of z gf (by intro y; cases y))]; exact z) prs
          generalize upd H10 gl (.dK (vk v0)) = H11 at *
          rw [rd_nil]
          refine ⟨D, bs, _, rfl, SqL.of lD2, Paired.mono (fun _ _ z => SqT.of z) prs2, fun lt hlt => ?_⟩
          rw [vk_merge]
          have sA := sm2
          have B11 := B9.trans (Same.bt sA)
          have pl11 := pl9.same sA
          have sG11 := Same.trans sG9 sA
          have ltp := pl11.ne hlt
          have ltq := pl11.neQ hlt
          have hltb := B11.none ltp hlt
          have hltG : G lt = none := by
            cases e : G lt with
            | none => rfl
            | some u => rw [sG11 _ _ e] at hlt; cases hlt
          have gset : ∀ {Hx : Hp} {o : HO}, Same G Hx → Same G (upd Hx lt o) := fun s b o h => by rw [upd_ne (ne_of_none h hltG)]; exact s b o h
          have B12 := B11.set (o := .dK (vk v0)) hltb
          have pl12 := pl11.set (o := .dK (vk v0)) ltp ltq
          have sG12 := gset (o := .dK (vk v0)) sG11
          have e12 : upd H11 lt (.dK (vk v0)) lt = some (.dK (vk v0)) := upd_same
          generalize upd H11 lt (.dK (vk v0)) = H12 at *
          -- bent[part] = odd
          refine step_seq ?_
          rw [rd_dp]
          refine ⟨_, rfl, _, rfl, _, rfl, lt, pt.name, rfl, rfl, _, e12, by exact (by decide : 9 < sizeLine), ?_⟩
          rw [vk_put]
          have B13 := B12.set (o := .dK (vk (v0.put pt x))) hltb
          have pl13 := pl12.set (o := .dK (vk (v0.put pt x))) ltp ltq
          have sG13 := gset (o := .dK (vk (v0.put pt x))) sG12
          have e13 : upd H12 lt (.dK (vk (v0.put pt x))) lt = some (.dK (vk (v0.put pt x))) := upd_same
          generalize upd H12 lt (.dK (vk (v0.put pt x))) = H13 at *
          have bad : ∀ {v : Vs} {Hx : Hp}, (∀ q : Pt, q.ix < pt.ix → v.get q = v0.get q) → v.get pt = x → Bt p H5 Hx → Same G Hx → DBad K Hx v.w v.o v.a v.wh v.as v.ps v.c v.g v.s pt.name := fun he hx' hb hs =>
            dbad_of (hgood.bt pl5 hb) ok he (by rw [hx']; exact hox.same hs)
          dsimp only
          refine step_seq ?_
          refine tried_ok rfl rfl e13 (bad (fun q hq => Vs.get_put_ne _ _ (fun e => by subst e; omega)) (Vs.get_put_same _ _ _) B13 sG13) fun H14 s14 => ?_
          have B14 := B13.trans (Same.bt s14)
          have pl14 := pl13.same s14
          have sG14 := Same.trans sG13 s14
          have e14 := s14 _ _ e13
          -- later
          dsimp only
          have lN14 := B14 _ _ nnp lN5
          refine step_asg ⟨_, rfl, _, rfl, _, rfl, _, rfl, nl, _, rfl, SqL.of lN14, fun ls hls => ?_⟩
          have hpk := cut_names pt
          have sL := My.Same.new (o := .lst (cutV (partNames.map V.str) (some (pt.ix : Int)) none)) (Same.refl H14) hls
          have B15 := B14.trans (Same.bt sL)
          have pl15 := pl14.same sL
          have sG15 := Same.trans sG14 sL
          have e15 := sL _ _ e14
          have lsp := pl14.ne hls
          have el : upd H14 ls (.lst (cutV (partNames.map V.str) (some (pt.ix : Int)) none)) ls = some (.lst (cutV (partNames.map V.str) (some (pt.ix : Int)) none)) := upd_same
          generalize upd H14 ls (.lst (cutV (partNames.map V.str) (some (pt.ix : Int)) none)) = H15 at *
          refine ⟨p, q0, ls, _, rfl, pl15, el, lsp, hpk.2, fun y H16 b16 pl16 hy => ?_⟩
          obtain ⟨q, rfl, hq⟩ := hpk.1 y hy
          have B16 := B15.trans b16
          have sG16 : Same G H16 := fun b o h => b16 b o (ne_of_none h Gp) (sG15 b o h)
          have e16 := b16 _ _ ltp e15
          refine step_seq (step_if ?_)
          refine ⟨_, rfl, _, rfl, rfl, _, rfl, ?_⟩
          have fin : ∀ {v : Vs} {Hx : Hp}, (∀ r : Pt, r.ix < pt.ix → v.get r = v0.get r) → v.get pt = x → Bt p H5 Hx → Pl Hx p q0 → Same G Hx → Hx lt = some (.dK (vk v)) → ∀ {D : Ends} {σ : L2.St} {tb : TS}, σ[9]? = some (some (.ref lt)) → σ[7]? = some (some (.str pt.name)) → (∀ H', Bt p H5 H' → Pl H' p q0 → Same G H' → D.nx σ H') → tIfS (tTest (tOp (rNeD K) (tCall (spTry K) [] E0 (tCons (tVar 9) tNil)) (tLst (tCons (tVar 7) (tCons (tC (.bl true)) tNil))))) tb tNext D σ Hx := by
            intro v Hx h1 h2 h3 h3' h4 h5 D σ tb h9 h7 h8
            exact tried_ok h9 h7 h5 (bad h1 h2 h3 h4) fun H' s' => h8 H' (h3.trans (Same.bt s')) (h3'.same s') (Same.trans h4 s')
          by_cases hqp : q = pt
          · subst hqp
            refine Eq.mpr (if_neg (by simp)) ?_
            try unfold tNext
            dsimp only
            refine fin (v := v0.put q x) (fun r hr => Vs.get_put_ne _ _ (fun e => by subst e; omega)) (Vs.get_put_same _ _ _) B16 pl16 sG16 e16 rfl rfl fun H' b s g => ⟨_, _, _, _, rfl, b, s, g⟩
          · have hnn : (!decide (V.str q.name = V.str pt.name)) = true := by
              rw [decide_eq_false (fun e => hqp (name_inj (V.str.inj e)))]
              rfl
            refine Eq.mpr (if_pos hnn) ?_
            rw [rd_dp]
            refine ⟨_, rfl, _, rfl, q.name, rfl, pmem q, fun ol2 G2 H17 xs2 hol2 nw2 gol2 wr2 => ?_⟩
            have pl17 := pl16.same nw2.same
            refine ⟨p, q0, ol2, xs2, rfl, pl17, nw2.sub _ _ gol2, pl16.ne hol2, by rw [wr2.length]; exact (odds_all q.name (pmem q)).2.1, fun y H18 b18 pl18 hy => ?_⟩
            have B18 := (B16.trans (Same.bt nw2.same)).trans b18
            have sG18 : Same G H18 := fun b o h => b18 b o (ne_of_none h Gp) (nw2.same b o (sG16 b o h))
            have e18 := b18 _ _ ltp (nw2.same _ _ e16)
            refine ⟨_, rfl, _, rfl, lt, q.name, rfl, rfl, _, e18, by exact (by decide : 9 < sizeLine), ?_⟩
            rw [vk_put]
            have B19 := B18.set (o := .dK (vk ((v0.put pt x).put q y))) hltb
            have pl19 := pl18.set (o := .dK (vk ((v0.put pt x).put q y))) ltp ltq
            have sG19 := gset (o := .dK (vk ((v0.put pt x).put q y))) sG18
            have e19 : upd H18 lt (.dK (vk ((v0.put pt x).put q y))) lt = some (.dK (vk ((v0.put pt x).put q y))) := upd_same
            generalize upd H18 lt (.dK (vk ((v0.put pt x).put q y))) = H19 at *
            dsimp only
            refine fin (v := (v0.put pt x).put q y) (fun r hr => (Vs.get_put_ne _ _ (fun e => by subst e; omega)).trans (Vs.get_put_ne _ _ (fun e => by subst e; omega))) ((Vs.get_put_ne _ _ (fun e => hqp e.symm)).trans (Vs.get_put_same _ _ _)) B19 pl19 sG19 e19 rfl rfl fun H' b s g => ⟨_, _, _, _, rfl, b, s, g⟩
        · rintro _ H9 ⟨w8, w9, w10, w12, rfl, B9, pl9, sG9⟩
          exact ⟨_, _, _, _, _, _, rfl, B9, pl9⟩
      · rintro _ H6 ⟨w6, w7, w8, w9, w10, w12, rfl, B6, pl6⟩
        have lg6 := B6 _ _ nglp lg
        have good6 := hgood.bt pl5 B6
        clear hgood
        clear hdr cp s1 s4 s5 s02 s03 s45
        -- short
        dsimp only
        refine step_asg ?_
        rw [rd_cb, rd_cons, rd_lockE]
        refine ⟨gl, _, lg6, trivial, fun od => ?_⟩
        rw [rd_lcK]
        refine ⟨_, rfl, gl, od, rfl, .inl ⟨_, upd_same, ?_⟩⟩
        refine lc_ent (K := K) (j := 5) upd_same (by show 9 ≤ 1000; decide) (vk_val (v := v0)) (fun _ => rfl) (fun _ => rfl) (fun _ => rfl) fun D H10 bs s10 lD prs => ?_
        refine ⟨s10 _ _ upd_same, ?_⟩
        have sm2 := same_unlock lg6 s10
        have gf := s10 _ _ upd_same
        have lD2 : upd H10 gl (.dK (vk v0)) D = some (.lst (bs.map V.ref)) := by rw [upd_ne (ne_of lD gf (by intro y; cases y))]; exact lD
        have prs2 : Paired (fun b (e : Key × V) => upd H10 gl (.dK (vk v0)) b = some (.tup [kV e.1, e.2])) bs (vk v0) := Paired.mono (fun a b z => by rw [upd_ne (ne_of z gf (by intro y; cases y))]; exact z) prs
        generalize upd H10 gl (.dK (vk v0)) = H11 at *
        rw [rd_nil]
        refine ⟨D, bs, _, rfl, SqL.of lD2, Paired.mono (fun _ _ z => SqT.of z) prs2, fun lt hlt => ?_⟩
        rw [vk_merge]
        have good11 := good6.same sm2
        clear good6 gf lD lD2 prs prs2 s10 lg6
        have sL := My.Same.new (o := .dK (vk v0)) (Same.refl H11) hlt
        have good12 := good11.same sL
        have e12 : upd H11 lt (.dK (vk v0)) lt = some (.dK (vk v0)) := upd_same
        generalize upd H11 lt (.dK (vk v0)) = H12 at *
        dsimp only
        have sA := sL
        clear sL
        -- short["goals"], short["steps"]
        refine step_seq ?_
        refine ⟨sz (by simp), fun E1 hE1 => ⟨sz (by simp), fun T1 hT1 => ⟨sz (by simp), fun L1 hL1 => ⟨sz (by simp), fun T hT => ?_⟩⟩⟩⟩
        have nE1 := My.Same.new (o := .lst []) (Same.refl H12) hE1
        have eE1 : upd H12 E1 (.lst []) E1 = some (.lst []) := upd_same
        generalize upd H12 E1 (.lst []) = H13 at *
        have nT1 := My.Same.new (o := .tup [.str "less", .str "goal"]) (Same.refl H13) hT1
        have eT1 : upd H13 T1 (.tup [.str "less", .str "goal"]) T1 = some (.tup [.str "less", .str "goal"]) := upd_same
        generalize upd H13 T1 (.tup [.str "less", .str "goal"]) = H14 at *
        have nL1 := My.Same.new (o := .lst [.ref T1]) (Same.refl H14) hL1
        have eL1 : upd H14 L1 (.lst [.ref T1]) L1 = some (.lst [.ref T1]) := upd_same
        generalize upd H14 L1 (.lst [.ref T1]) = H15 at *
        have nT := My.Same.new (o := .tup [.ref E1, .ref L1]) (Same.refl H15) hT
        have eT : upd H15 T (.tup [.ref E1, .ref L1]) T = some (.tup [.ref E1, .ref L1]) := upd_same
        generalize upd H15 T (.tup [.ref E1, .ref L1]) = H16 at *
        have s12 := ((nE1.trans nT1).trans nL1).trans nT
        have e16 := s12 _ _ e12
        refine ⟨T, _, rfl, SqT.of eT, rfl, _, _, rfl, _, rfl, lt, _, rfl, dput .g _ e16, _, _, rfl, _, rfl, lt, _, rfl, dput .s _ upd_same, rfl, ?_⟩
        have e18 : upd (upd H16 lt (.dK (vk (v0.put .g (.ref E1))))) lt (.dK (vk ((v0.put .g (.ref E1)).put .s (.ref L1)))) lt = some (.dK (vk ((v0.put .g (.ref E1)).put .s (.ref L1)))) := upd_same
        have b18 : ∀ b o, b ≠ lt → H16 b = some o → upd (upd H16 lt (.dK (vk (v0.put .g (.ref E1))))) lt (.dK (vk ((v0.put .g (.ref E1)).put .s (.ref L1)))) b = some o := fun b o n h => by
          rw [upd_ne n, upd_ne n]
          exact h
        generalize upd (upd H16 lt (.dK (vk (v0.put .g (.ref E1))))) lt (.dK (vk ((v0.put .g (.ref E1)).put .s (.ref L1)))) = H18 at *
        have s18 : Same H11 H18 := fun b o h => b18 b o (ne_of_none h hlt) (s12 b o (sA b o h))
        have E18 := b18 _ _ (Ne.symm (ne_of_none e12 hE1)) (nT _ _ (nL1 _ _ (nT1 _ _ eE1)))
        have T18 := b18 _ _ (Ne.symm (ne_of_none (nE1 _ _ e12) hT1)) (nT _ _ (nL1 _ _ eT1))
        have L18 := b18 _ _ (Ne.symm (ne_of_none (nT1 _ _ (nE1 _ _ e12)) hL1)) (nT _ _ eL1)
        dsimp only
        refine step_seq ?_
        refine tried_at rfl e18 (short_bad (v := v0) (good11.same s18) ok E18 L18 T18) fun H19 s19 => ?_
        have s19' := s18.trans s19
        have e19 := s19 _ _ e18
        clear E18 T18 L18 e18 b18 s18 s19 e16 s12 nT nL1 nT1 nE1 eE1 eT1 eL1 eT hT hL1 hT1 hE1
        generalize hV : (v0.put .g (.ref E1)).put .s (.ref L1) = v2 at *
        dsimp only
        -- short["goals"], short["pays"]
        refine step_seq ?_
        refine ⟨sz (by simp), fun g2 hg2 => ⟨sz (by simp), fun T hT => ?_⟩⟩
        have n1 := My.Same.new (o := .tup [.str "m"]) (Same.refl H19) hg2
        have eg : upd H19 g2 (.tup [.str "m"]) g2 = some (.tup [.str "m"]) := upd_same
        generalize upd H19 g2 (.tup [.str "m"]) = H20 at *
        have n2 := My.Same.new (o := .tup [.ref g2, .non]) (Same.refl H20) hT
        have eT : upd H20 T (.tup [.ref g2, .non]) T = some (.tup [.ref g2, .non]) := upd_same
        generalize upd H20 T (.tup [.ref g2, .non]) = H21 at *
        have s21 := s19'.trans (n1.trans n2)
        have e21 := n2 _ _ (n1 _ _ e19)
        have eg := n2 _ _ eg
        have gl2 : g2 ≠ lt := Ne.symm (ne_of_none e19 hg2)
        refine ⟨T, _, rfl, SqT.of eT, rfl, _, _, rfl, _, rfl, lt, _, rfl, dput .g _ e21, _, _, rfl, _, rfl, lt, _, rfl, dput .ps _ upd_same, rfl, ?_⟩
        have e23 : upd (upd H21 lt (.dK (vk (v2.put .g (.ref g2))))) lt (.dK (vk ((v2.put .g (.ref g2)).put .ps .non))) lt = some (.dK (vk ((v2.put .g (.ref g2)).put .ps .non))) := upd_same
        have b23 : ∀ b o, b ≠ lt → H21 b = some o → upd (upd H21 lt (.dK (vk (v2.put .g (.ref g2))))) lt (.dK (vk ((v2.put .g (.ref g2)).put .ps .non))) b = some o := fun b o n h => by
          rw [upd_ne n, upd_ne n]
          exact h
        generalize upd (upd H21 lt (.dK (vk (v2.put .g (.ref g2))))) lt (.dK (vk ((v2.put .g (.ref g2)).put .ps .non))) = H23 at *
        have s23 : Same H11 H23 := fun b o h => b23 b o (ne_of_none h hlt) (s21 b o h)
        have eg := b23 _ _ gl2 eg
        clear b23 eT hT n1 n2 hg2 e21 s21 e19 s19'
        generalize hV3 : (v2.put .g (.ref g2)).put .ps .non = v3 at *
        -- short["answers"]
        dsimp only
        refine step_seq ?_
        rw [rd_dp]
        refine ⟨"abcdef", rfl, by decide +kernel, fun A hA => ?_⟩
        have n1 := My.Same.new (o := .tup (signV "abcdef")) (Same.refl H23) hA
        have eA : upd H23 A (.tup (signV "abcdef")) A = some (.tup (signV "abcdef")) := upd_same
        generalize upd H23 A (.tup (signV "abcdef")) = H24 at *
        have Al : A ≠ lt := Ne.symm (ne_of_none e23 hA)
        refine ⟨_, rfl, lt, "answers", rfl, rfl, _, n1 _ _ e23, by exact (by decide : 9 < sizeLine), ?_⟩
        rw [show putK (vk v3) (.inr "answers") (.ref A) = vk (v3.put .a (.ref A)) from vk_put v3 .a (.ref A)]
        have e25 : upd H24 lt (.dK (vk (v3.put .a (.ref A)))) lt = some (.dK (vk (v3.put .a (.ref A)))) := upd_same
        have b25 : ∀ b o, b ≠ lt → H24 b = some o → upd H24 lt (.dK (vk (v3.put .a (.ref A)))) b = some o := fun b o n h => by
          rw [upd_ne n]
          exact h
        generalize upd H24 lt (.dK (vk (v3.put .a (.ref A)))) = H25 at *
        have s25 : Same H11 H25 := fun b o h => b25 b o (ne_of_none h hlt) (n1 b o (s23 b o h))
        have eg := b25 _ _ gl2 (n1 _ _ eg)
        have eA := b25 _ _ Al eA
        clear b25 n1 hA s23 e23
        generalize hV4 : v3.put .a (.ref A) = v4 at *
        -- short["steps"]
        dsimp only
        refine step_seq ?_
        rw [rd_dp]
        refine ⟨sz (by simp), fun a1 h1 => ⟨sz (by simp), fun a2 h2 => ⟨sz (by simp), fun a3 h3 => ⟨sz (by simp), fun a4 h4 => ⟨sz (by simp), fun S hS => ?_⟩⟩⟩⟩⟩
        have n1 := My.Same.new (o := .tup [.str "less", .str "goal"]) (Same.refl H25) h1
        have k1 : upd H25 a1 (.tup [.str "less", .str "goal"]) a1 = some (.tup [.str "less", .str "goal"]) := upd_same
        generalize upd H25 a1 (.tup [.str "less", .str "goal"]) = H26 at *
        have n2 := My.Same.new (o := .tup [.str "more", .str "far"]) (Same.refl H26) h2
        have k2 : upd H26 a2 (.tup [.str "more", .str "far"]) a2 = some (.tup [.str "more", .str "far"]) := upd_same
        generalize upd H26 a2 (.tup [.str "more", .str "far"]) = H27 at *
        have n3 := My.Same.new (o := .tup [.str "more", .str "goal"]) (Same.refl H27) h3
        have k3 : upd H27 a3 (.tup [.str "more", .str "goal"]) a3 = some (.tup [.str "more", .str "goal"]) := upd_same
        generalize upd H27 a3 (.tup [.str "more", .str "goal"]) = H28 at *
        have n4 := My.Same.new (o := .tup [.str "turn"]) (Same.refl H28) h4
        have k4 : upd H28 a4 (.tup [.str "turn"]) a4 = some (.tup [.str "turn"]) := upd_same
        generalize upd H28 a4 (.tup [.str "turn"]) = H29 at *
        have n5 := My.Same.new (o := .tup [.ref a1, .ref a2, .ref a3, .ref a4]) (Same.refl H29) hS
        have k5 : upd H29 S (.tup [.ref a1, .ref a2, .ref a3, .ref a4]) S = some (.tup [.ref a1, .ref a2, .ref a3, .ref a4]) := upd_same
        generalize upd H29 S (.tup [.ref a1, .ref a2, .ref a3, .ref a4]) = H30 at *
        have x1 : a1 ≠ lt := Ne.symm (ne_of_none e25 h1)
        have x2 : a2 ≠ lt := Ne.symm (ne_of_none (n1 _ _ e25) h2)
        have x3 : a3 ≠ lt := Ne.symm (ne_of_none (n2 _ _ (n1 _ _ e25)) h3)
        have x4 : a4 ≠ lt := Ne.symm (ne_of_none (n3 _ _ (n2 _ _ (n1 _ _ e25))) h4)
        have x5 : S ≠ lt := Ne.symm (ne_of_none (n4 _ _ (n3 _ _ (n2 _ _ (n1 _ _ e25)))) hS)
        have k1 := n5 _ _ (n4 _ _ (n3 _ _ (n2 _ _ k1)))
        have k2 := n5 _ _ (n4 _ _ (n3 _ _ k2))
        have k3 := n5 _ _ (n4 _ _ k3)
        have k4 := n5 _ _ k4
        have s30 := (((n1.trans n2).trans n3).trans n4).trans n5
        clear n1 n2 n3 n4 n5 h1 h2 h3 h4 hS
        refine ⟨_, rfl, lt, "steps", rfl, rfl, _, s30 _ _ e25, by exact (by decide : 9 < sizeLine), ?_⟩
        rw [show putK (vk v4) (.inr "steps") (.ref S) = vk (v4.put .s (.ref S)) from vk_put v4 .s (.ref S)]
        have e31 : upd H30 lt (.dK (vk (v4.put .s (.ref S)))) lt = some (.dK (vk (v4.put .s (.ref S)))) := upd_same
        have b31 : ∀ b o, b ≠ lt → H30 b = some o → upd H30 lt (.dK (vk (v4.put .s (.ref S)))) b = some o := fun b o n h => by
          rw [upd_ne n]
          exact h
        generalize upd H30 lt (.dK (vk (v4.put .s (.ref S)))) = H31 at *
        have s31 : Same H11 H31 := fun b o h => b31 b o (ne_of_none h hlt) (s30 b o (s25 b o h))
        have eg := b31 _ _ gl2 (s30 _ _ eg)
        have eA := b31 _ _ Al (s30 _ _ eA)
        have k1 := b31 _ _ x1 k1
        have k2 := b31 _ _ x2 k2
        have k3 := b31 _ _ x3 k3
        have k4 := b31 _ _ x4 k4
        have k5 := b31 _ _ x5 k5
        clear b31 s30 s25 e25
        generalize hV5 : v4.put .s (.ref S) = v5 at *
        -- short["asks"]
        dsimp only
        refine step_seq ?_
        rw [rd_dp]
        refine fun D2 hD2 => ⟨upd_same, asks3.map entK, rfl, by decide, ?_⟩
        rw [upd_upd, show mergeK [] (asks3.map entK) = asks3.map entK from by rfl]
        have n1 := My.Same.new (o := .dK (asks3.map entK)) (Same.refl H31) hD2
        have eD : upd H31 D2 (.dK (asks3.map entK)) D2 = some (.dK (asks3.map entK)) := upd_same
        generalize upd H31 D2 (.dK (asks3.map entK)) = H32 at *
        have xD : D2 ≠ lt := Ne.symm (ne_of_none e31 hD2)
        refine ⟨_, rfl, lt, "asks", rfl, rfl, _, n1 _ _ e31, by exact (by decide : 9 < sizeLine), ?_⟩
        rw [show putK (vk v5) (.inr "asks") (.ref D2) = vk (v5.put .as (.ref D2)) from vk_put v5 .as (.ref D2)]
        have e33 : upd H32 lt (.dK (vk (v5.put .as (.ref D2)))) lt = some (.dK (vk (v5.put .as (.ref D2)))) := upd_same
        have b33 : ∀ b o, b ≠ lt → H32 b = some o → upd H32 lt (.dK (vk (v5.put .as (.ref D2)))) b = some o := fun b o n h => by
          rw [upd_ne n]
          exact h
        generalize upd H32 lt (.dK (vk (v5.put .as (.ref D2)))) = H33 at *
        have s33 : Same H11 H33 := fun b o h => b33 b o (ne_of_none h hlt) (n1 b o (s31 b o h))
        have gd := short_good (good11.same s33) (b33 _ _ gl2 (n1 _ _ eg)) (b33 _ _ Al (n1 _ _ eA)) (b33 _ _ x5 (n1 _ _ k5)) (b33 _ _ x1 (n1 _ _ k1)) (b33 _ _ x2 (n1 _ _ k2)) (b33 _ _ x3 (n1 _ _ k3)) (b33 _ _ x4 (n1 _ _ k4)) (b33 _ _ xD eD)
        have hv6 : v5.put .as (.ref D2) = { v0 with g := .ref g2, ps := .non, a := .ref A, s := .ref S, as := .ref D2 } := by
          subst hV5 hV4 hV3 hV
          rfl
        rw [hv6] at e33
        clear b33 eg eA k1 k2 k3 k4 k5 eD hV hV3 hV4 hV5 hv6
        dsimp only
        refine step_if ?_
        refine ⟨_, rfl, lt, _, rfl, e33, .inr ⟨_, gd, short_ok ok, fun H34 s34 => ⟨rfl, _, rfl, ?_⟩⟩⟩
        refine Eq.mpr (if_neg (by simp)) ?_
        try unfold tNext
        dsimp only
        exact ⟨_, _, _, _, _, _, _, _, _, _, _, rfl, fun b o h => s34 b o (s33 b o (sm2 b o (B6 b o (ne_of_none h hp1) (s05 b o (sm b o h)))))⟩
    · rintro _ H' ⟨_, _, _, _, _, _, _, _, _, _, _, rfl, _⟩
      exact q H'
end
end My

set_option Elab.async false
set_option linter.all false
set_option maxRecDepth 100000
set_option maxHeartbeats 4000000
namespace My
open PySem PySem.Spec PyProof.Rows L2

theorem kit_of {K : PySem.W.Frag} {t : Value} {A : Addr} {b : Bool} (h1 : PySem.W.isClsIn K A = true) (h2 : PySem.W.typeIn K (.ref A) = some (.type "type")) (h3 : PySem.W.subIn K t (.ref A) = some b) : PySem.W.kitCls K t (.ref A) = some b := by
  have e1 : (PySem.W.clsIn K A).isSome = true := h1
  unfold PySem.W.kitCls
  simp only [e1, h2, Bool.true_and]
  exact h3
theorem exm_of' {K : PySem.W.Frag} {A : Addr} (h0 : PySem.W.subIn K (.ref A) (.type "BaseException") = some true) (h : PySem.W.kitCls K (.ref A) (.ref A) = some true) : PySem.W.exmOne K (.ref A) (.ref A) = some true := by
  unfold PySem.W.exmOne
  rw [h0]
  exact h
def strB : List DictEntry → Bool
  | [] => true
  | e :: r => (match e.key with
    | .str _ _ => true
    | _ => false) && strB r
theorem strB_ok {l : List DictEntry} (h : strB l = true) : StrKeys l.toArray := by
  induction l with
  | nil => intro e he; simp at he
  | cons a r ih =>
    intro e he
    obtain ⟨h1, h2⟩ := Bool.and_eq_true_iff.mp (show ((match a.key with
      | .str _ _ => true
      | _ => false) && strB r) = true from h)
    rcases List.mem_cons.mp (show e ∈ a :: r by simpa using he) with rfl | hm
    · cases q : e.key <;> rw [q] at h1 <;> first | exact ⟨_, _, rfl⟩ | cases h1
    · exact ih h2 e (by simpa using hm)
abbrev kw8 (T0 T1 T2 : Addr) : List (Str × V) := [("opens", .bl false), ("answers", .ref T0), ("whose", .str "any"), ("asks", .non), ("pays", .non), ("card", .bl true), ("goals", .ref T1), ("steps", .ref T2)]
abbrev FunDI (K : PySem.W.Frag) (T0 T1 T2 f : Addr) (fd : FuncData) : Prop := FunD K "__init__" "Deed.__init__" (defArgs sDI) (defBody sDI) (defScope sDI) [] (kw8 T0 T1 T2) f fd
section
variable {K : PySem.W.Frag} {T0 T1 T2 f : Addr} {fd : FuncData}
theorem b2D (F : FunDI K T0 T1 T2 f fd) : KBn K fd psDI 2 ["opens", "answers", "whose", "asks", "pays", "card", "goals", "steps"] (fun us ws => us ++ ws) (fun vs zs => vs ++ zs) := by
  obtain ⟨mv, h⟩ := FunD.kbinds0 (ps := psDI) F 2 ["opens", "answers", "whose", "asks", "pays", "card", "goals", "steps"] [] (fun us _ ws => us ++ ws) (by simp) (by simp) (fun a _ c => a.append c) (fun D doc pm an cdv ct us mv ws l1 l2 l3 => by
    match us, l1, ws, l3 with
    | [_, _], _, [_, _, _, _, _, _, _, _], _ => rfl)
  exact h
theorem b0D (F : FunDI K T0 T1 T2 f fd) : ∃ ds, Vals [.bl false, .ref T0, .str "any", .non, .non, .bl true, .ref T1, .ref T2] ds ∧ L2.Binds K fd psDI ds := by
  refine FunD.binds0 (ps := psDI) F 2 (by simp) rfl (fun D doc pm an cdv ct us ks l1 l2 => ?_)
  match us, l1, ks, l2 with
  | [_, _], _, [_, _, _, _, _, _, _, _], _ => exact ⟨_, _, _, _, _, _, rfl, rfl, _, _, _, _, _, _, rfl, rfl, _, _, _, _, _, _, rfl, rfl, _, _, _, _, _, _, rfl, rfl, _, _, _, _, _, _, rfl, rfl, _, _, _, _, _, _, rfl, rfl, _, _, _, _, _, _, rfl, rfl, _, _, _, _, _, _, rfl, rfl, rfl⟩
end
/-- the facts of the module behind its top, and the law's promise from them -/
theorem all_mk {P : Program} {w : World} {K : PySem.W.Frag} {h : Heap} {mg : Str → Option Value} {fa : Addr} (X : K.In h) (G : h.Ns mainGlobals mg) (hfa : mg "law" = some (.ref fa))
    {C CB CP A0 Dk T0 T1 T2 bN f_num f_opn f_drw f_pck f_mks f_ddn f_dgm f_nms f_odd f_try f_val f_nmb f_row f_one f_wrd f_mrk f_wds f_cnt f_stp f_sts f_law f_bd f_di  : Addr} {tkL tkM t1 t2 t3 tkW : Tok} {oc_num kV_num dc_num pm_num cd_num ct_num oc_opn kV_opn dc_opn pm_opn cd_opn ct_opn oc_drw kV_drw dc_drw pm_drw cd_drw ct_drw oc_pck kV_pck dc_pck pm_pck cd_pck ct_pck oc_mks kV_mks dc_mks pm_mks cd_mks ct_mks oc_ddn kV_ddn dc_ddn pm_ddn cd_ddn ct_ddn oc_dgm kV_dgm dc_dgm pm_dgm cd_dgm ct_dgm oc_nms kV_nms dc_nms pm_nms cd_nms ct_nms oc_odd kV_odd dc_odd pm_odd cd_odd ct_odd oc_try kV_try dc_try pm_try cd_try ct_try oc_val kV_val dc_val pm_val cd_val ct_val oc_nmb kV_nmb dc_nmb pm_nmb cd_nmb ct_nmb oc_row kV_row dc_row pm_row cd_row ct_row oc_one kV_one dc_one pm_one cd_one ct_one oc_wrd kV_wrd dc_wrd pm_wrd cd_wrd ct_wrd oc_mrk kV_mrk dc_mrk pm_mrk cd_mrk ct_mrk oc_wds kV_wds dc_wds pm_wds cd_wds ct_wds oc_cnt kV_cnt dc_cnt pm_cnt cd_cnt ct_cnt oc_stp kV_stp dc_stp pm_stp cd_stp ct_stp oc_sts kV_sts dc_sts pm_sts cd_sts ct_sts oc_law kV_law dc_law pm_law cd_law ct_law oc_bd kV_bd dc_bd pm_bd cd_bd ct_bd oc_di dc_di pm_di cd_di ct_di : Value} {od_num an_num od_opn an_opn od_drw an_drw od_pck an_pck od_mks an_mks od_ddn an_ddn od_dgm an_dgm od_nms an_nms od_odd an_odd od_try an_try od_val an_val od_nmb an_nmb od_row an_row od_one an_one od_wrd an_wrd od_mrk an_mrk od_wds an_wds od_cnt an_cnt od_stp an_stp od_sts an_sts od_law an_law od_bd an_bd od_di an_di dA dT0 dT1 dT2 : Option Addr} {nA nT0 nT1 nT2 : Nat} {sl_num sl_opn sl_drw sl_pck sl_mks sl_ddn sl_dgm sl_nms sl_odd sl_try sl_val sl_nmb sl_row sl_one sl_wrd sl_mrk sl_wds sl_cnt sl_stp sl_sts sl_law sl_bd sl_di sA sT0 sT1 sT2 : Array (Option Value)} {bnm bq : Str} {bbs bbm : List Value} {bsn : List Str} {bsub : List Value} {bab : Bool} {bcol : Option Bool} {bdd : Option Addr} {bk0 bk1 bk2 bk3 bk5 : Option Value}
    (aD : PySem.W.nsIn K mainGlobals "Deed" = some (some (.ref C)))
    (aB : PySem.W.nsIn K mainGlobals "BadDeed" = some (some (.ref CB)))
    (aP : PySem.W.nsIn K mainGlobals "PileError" = some (some (.ref CP)))
    (aL : PySem.W.nsIn K mainGlobals "LETTERS" = some (some (.str letters tkL)))
    (aM : PySem.W.nsIn K mainGlobals "MOST_MARKS" = some (some (.int 3 tkM)))
    (aA : PySem.W.nsIn K mainGlobals "ACTS" = some (some (.ref A0)))
    (lA : K.lookup A0 = some ⟨.type "tuple", dA, .seq #[.str "strike" t1, .str "again" t2, .str "turn" t3] nA, sA⟩)
    (a_num : PySem.W.nsIn K mainGlobals "_law_numbers" = some (some (.ref f_num)))
    (l_num : K.lookup f_num = some ⟨oc_num, od_num, .func (PySem.W.fnOf "_law_numbers" "_law_numbers" (defArgs sNum) (defBody sNum) (defScope sNum) .none kV_num dc_num pm_num an_num cd_num ct_num), sl_num⟩)
    (c_num : PySem.W.codeIn K cd_num "_law_numbers" = true)
    (k_num : PySem.W.keepIn K (.ref f_num) = true)
    (a_opn : PySem.W.nsIn K mainGlobals "_law_opened" = some (some (.ref f_opn)))
    (l_opn : K.lookup f_opn = some ⟨oc_opn, od_opn, .func (PySem.W.fnOf "_law_opened" "_law_opened" (defArgs sOpn) (defBody sOpn) (defScope sOpn) .none kV_opn dc_opn pm_opn an_opn cd_opn ct_opn), sl_opn⟩)
    (c_opn : PySem.W.codeIn K cd_opn "_law_opened" = true)
    (k_opn : PySem.W.keepIn K (.ref f_opn) = true)
    (a_drw : PySem.W.nsIn K mainGlobals "_law_draw" = some (some (.ref f_drw)))
    (l_drw : K.lookup f_drw = some ⟨oc_drw, od_drw, .func (PySem.W.fnOf "_law_draw" "_law_draw" (defArgs sDrw) (defBody sDrw) (defScope sDrw) .none kV_drw dc_drw pm_drw an_drw cd_drw ct_drw), sl_drw⟩)
    (c_drw : PySem.W.codeIn K cd_drw "_law_draw" = true)
    (k_drw : PySem.W.keepIn K (.ref f_drw) = true)
    (a_pck : PySem.W.nsIn K mainGlobals "_law_pick" = some (some (.ref f_pck)))
    (l_pck : K.lookup f_pck = some ⟨oc_pck, od_pck, .func (PySem.W.fnOf "_law_pick" "_law_pick" (defArgs sPck) (defBody sPck) (defScope sPck) .none kV_pck dc_pck pm_pck an_pck cd_pck ct_pck), sl_pck⟩)
    (c_pck : PySem.W.codeIn K cd_pck "_law_pick" = true)
    (k_pck : PySem.W.keepIn K (.ref f_pck) = true)
    (a_mks : PySem.W.nsIn K mainGlobals "_law_marks" = some (some (.ref f_mks)))
    (l_mks : K.lookup f_mks = some ⟨oc_mks, od_mks, .func (PySem.W.fnOf "_law_marks" "_law_marks" (defArgs sMks) (defBody sMks) (defScope sMks) .none kV_mks dc_mks pm_mks an_mks cd_mks ct_mks), sl_mks⟩)
    (c_mks : PySem.W.codeIn K cd_mks "_law_marks" = true)
    (k_mks : PySem.W.keepIn K (.ref f_mks) = true)
    (a_ddn : PySem.W.nsIn K mainGlobals "_law_drawn_deed" = some (some (.ref f_ddn)))
    (l_ddn : K.lookup f_ddn = some ⟨oc_ddn, od_ddn, .func (PySem.W.fnOf "_law_drawn_deed" "_law_drawn_deed" (defArgs sDdn) (defBody sDdn) (defScope sDdn) .none kV_ddn dc_ddn pm_ddn an_ddn cd_ddn ct_ddn), sl_ddn⟩)
    (c_ddn : PySem.W.codeIn K cd_ddn "_law_drawn_deed" = true)
    (k_ddn : PySem.W.keepIn K (.ref f_ddn) = true)
    (a_dgm : PySem.W.nsIn K mainGlobals "_law_drawn_game" = some (some (.ref f_dgm)))
    (l_dgm : K.lookup f_dgm = some ⟨oc_dgm, od_dgm, .func (PySem.W.fnOf "_law_drawn_game" "_law_drawn_game" (defArgs sDgm) (defBody sDgm) (defScope sDgm) .none kV_dgm dc_dgm pm_dgm an_dgm cd_dgm ct_dgm), sl_dgm⟩)
    (c_dgm : PySem.W.codeIn K cd_dgm "_law_drawn_game" = true)
    (k_dgm : PySem.W.keepIn K (.ref f_dgm) = true)
    (a_nms : PySem.W.nsIn K mainGlobals "_law_part_names" = some (some (.ref f_nms)))
    (l_nms : K.lookup f_nms = some ⟨oc_nms, od_nms, .func (PySem.W.fnOf "_law_part_names" "_law_part_names" (defArgs sNms) (defBody sNms) (defScope sNms) .none kV_nms dc_nms pm_nms an_nms cd_nms ct_nms), sl_nms⟩)
    (c_nms : PySem.W.codeIn K cd_nms "_law_part_names" = true)
    (k_nms : PySem.W.keepIn K (.ref f_nms) = true)
    (a_odd : PySem.W.nsIn K mainGlobals "_law_odds" = some (some (.ref f_odd)))
    (l_odd : K.lookup f_odd = some ⟨oc_odd, od_odd, .func (PySem.W.fnOf "_law_odds" "_law_odds" (defArgs sOdd) (defBody sOdd) (defScope sOdd) .none kV_odd dc_odd pm_odd an_odd cd_odd ct_odd), sl_odd⟩)
    (c_odd : PySem.W.codeIn K cd_odd "_law_odds" = true)
    (k_odd : PySem.W.keepIn K (.ref f_odd) = true)
    (a_try : PySem.W.nsIn K mainGlobals "_law_tried" = some (some (.ref f_try)))
    (l_try : K.lookup f_try = some ⟨oc_try, od_try, .func (PySem.W.fnOf "_law_tried" "_law_tried" (defArgs sTry) (defBody sTry) (defScope sTry) .none kV_try dc_try pm_try an_try cd_try ct_try), sl_try⟩)
    (c_try : PySem.W.codeIn K cd_try "_law_tried" = true)
    (k_try : PySem.W.keepIn K (.ref f_try) = true)
    (a_val : PySem.W.nsIn K mainGlobals "_law_values" = some (some (.ref f_val)))
    (l_val : K.lookup f_val = some ⟨oc_val, od_val, .func (PySem.W.fnOf "_law_values" "_law_values" (defArgs sVal) (defBody sVal) (defScope sVal) .none kV_val dc_val pm_val an_val cd_val ct_val), sl_val⟩)
    (c_val : PySem.W.codeIn K cd_val "_law_values" = true)
    (k_val : PySem.W.keepIn K (.ref f_val) = true)
    (a_nmb : PySem.W.nsIn K mainGlobals "is_number" = some (some (.ref f_nmb)))
    (l_nmb : K.lookup f_nmb = some ⟨oc_nmb, od_nmb, .func (PySem.W.fnOf "is_number" "is_number" (defArgs sNmb) (defBody sNmb) (defScope sNmb) .none kV_nmb dc_nmb pm_nmb an_nmb cd_nmb ct_nmb), sl_nmb⟩)
    (c_nmb : PySem.W.codeIn K cd_nmb "is_number" = true)
    (k_nmb : PySem.W.keepIn K (.ref f_nmb) = true)
    (a_row : PySem.W.nsIn K mainGlobals "is_row" = some (some (.ref f_row)))
    (l_row : K.lookup f_row = some ⟨oc_row, od_row, .func (PySem.W.fnOf "is_row" "is_row" (defArgs sRow) (defBody sRow) (defScope sRow) .none kV_row dc_row pm_row an_row cd_row ct_row), sl_row⟩)
    (c_row : PySem.W.codeIn K cd_row "is_row" = true)
    (k_row : PySem.W.keepIn K (.ref f_row) = true)
    (a_one : PySem.W.nsIn K mainGlobals "is_one_of" = some (some (.ref f_one)))
    (l_one : K.lookup f_one = some ⟨oc_one, od_one, .func (PySem.W.fnOf "is_one_of" "is_one_of" (defArgs sOne) (defBody sOne) (defScope sOne) .none kV_one dc_one pm_one an_one cd_one ct_one), sl_one⟩)
    (c_one : PySem.W.codeIn K cd_one "is_one_of" = true)
    (k_one : PySem.W.keepIn K (.ref f_one) = true)
    (a_wrd : PySem.W.nsIn K mainGlobals "is_word" = some (some (.ref f_wrd)))
    (l_wrd : K.lookup f_wrd = some ⟨oc_wrd, od_wrd, .func (PySem.W.fnOf "is_word" "is_word" (defArgs sWrd) (defBody sWrd) (defScope sWrd) .none kV_wrd dc_wrd pm_wrd an_wrd cd_wrd ct_wrd), sl_wrd⟩)
    (c_wrd : PySem.W.codeIn K cd_wrd "is_word" = true)
    (k_wrd : PySem.W.keepIn K (.ref f_wrd) = true)
    (a_mrk : PySem.W.nsIn K mainGlobals "is_mark" = some (some (.ref f_mrk)))
    (l_mrk : K.lookup f_mrk = some ⟨oc_mrk, od_mrk, .func (PySem.W.fnOf "is_mark" "is_mark" (defArgs sMrk) (defBody sMrk) (defScope sMrk) .none kV_mrk dc_mrk pm_mrk an_mrk cd_mrk ct_mrk), sl_mrk⟩)
    (c_mrk : PySem.W.codeIn K cd_mrk "is_mark" = true)
    (k_mrk : PySem.W.keepIn K (.ref f_mrk) = true)
    (a_wds : PySem.W.nsIn K mainGlobals "are_words" = some (some (.ref f_wds)))
    (l_wds : K.lookup f_wds = some ⟨oc_wds, od_wds, .func (PySem.W.fnOf "are_words" "are_words" (defArgs sWds) (defBody sWds) (defScope sWds) .none kV_wds dc_wds pm_wds an_wds cd_wds ct_wds), sl_wds⟩)
    (c_wds : PySem.W.codeIn K cd_wds "are_words" = true)
    (k_wds : PySem.W.keepIn K (.ref f_wds) = true)
    (a_cnt : PySem.W.nsIn K mainGlobals "are_counts" = some (some (.ref f_cnt)))
    (l_cnt : K.lookup f_cnt = some ⟨oc_cnt, od_cnt, .func (PySem.W.fnOf "are_counts" "are_counts" (defArgs sCnt) (defBody sCnt) (defScope sCnt) .none kV_cnt dc_cnt pm_cnt an_cnt cd_cnt ct_cnt), sl_cnt⟩)
    (c_cnt : PySem.W.codeIn K cd_cnt "are_counts" = true)
    (k_cnt : PySem.W.keepIn K (.ref f_cnt) = true)
    (a_stp : PySem.W.nsIn K mainGlobals "is_step" = some (some (.ref f_stp)))
    (l_stp : K.lookup f_stp = some ⟨oc_stp, od_stp, .func (PySem.W.fnOf "is_step" "is_step" (defArgs sStp) (defBody sStp) (defScope sStp) .none kV_stp dc_stp pm_stp an_stp cd_stp ct_stp), sl_stp⟩)
    (c_stp : PySem.W.codeIn K cd_stp "is_step" = true)
    (k_stp : PySem.W.keepIn K (.ref f_stp) = true)
    (a_sts : PySem.W.nsIn K mainGlobals "are_steps" = some (some (.ref f_sts)))
    (l_sts : K.lookup f_sts = some ⟨oc_sts, od_sts, .func (PySem.W.fnOf "are_steps" "are_steps" (defArgs sSts) (defBody sSts) (defScope sSts) .none kV_sts dc_sts pm_sts an_sts cd_sts ct_sts), sl_sts⟩)
    (c_sts : PySem.W.codeIn K cd_sts "are_steps" = true)
    (k_sts : PySem.W.keepIn K (.ref f_sts) = true)
    (a_law : PySem.W.nsIn K mainGlobals "law" = some (some (.ref f_law)))
    (l_law : K.lookup f_law = some ⟨oc_law, od_law, .func (PySem.W.fnOf "law" "law" (defArgs sLaw) (defBody sLaw) (defScope sLaw) .none kV_law dc_law pm_law an_law cd_law ct_law), sl_law⟩)
    (c_law : PySem.W.codeIn K cd_law "law" = true)
    (k_law : PySem.W.keepIn K (.ref f_law) = true)
    (b_i : PySem.W.findIn K (.ref CB) "__init__" = some (some (.ref f_bd)))
    (b_t : PySem.W.typeIn K (.ref f_bd) = some (.type "function"))
    (l_bd : K.lookup f_bd = some ⟨oc_bd, od_bd, .func (PySem.W.fnOf "__init__" "BadDeed.__init__" (defArgs sBD) (defBody sBD) (defScope sBD) .none kV_bd dc_bd pm_bd an_bd cd_bd ct_bd), sl_bd⟩)
    (c_bd : PySem.W.codeIn K cd_bd "BadDeed.__init__" = true)
    (k_bd : PySem.W.keepIn K (.ref f_bd) = true)
    (b_x : K.lookup CB = some (excClassObj bnm bq CB bN bbs bbm true bsn bsub bab bcol bdd bk0 bk1 bk2 bk3 bk5 "ValueError.__new__"))
    (b_r : PySem.HandSPX.refsVE bbm = true)
    (b_sa : PySem.W.findIn K (.ref CB) "__setattr__" = some (some (.builtin "object.__setattr__")))
    (b_ex : PySem.W.subIn K (.ref CB) (.type "BaseException") = some true)
    (b_ty : PySem.W.typeIn K (.ref CB) = some (.type "type"))
    (b_k : PySem.W.keepIn K (.ref CB) = true)
    (b_no : PySem.W.findIn K (.ref CB) "part" = some none)
    (b_ga : PySem.W.findIn K (.ref CB) "__getattribute__" = some (some (.builtin "BaseException.__getattribute__")))
    (b_gg : PySem.W.findIn K (.ref CB) "__getattr__" = some none)
    (b_hd : PySem.W.hasDictIn K CB = true)
    (b_ic : PySem.W.isClsIn K CB = true)
    (b_ss : PySem.W.subIn K (.ref CB) (.ref CB) = some true)
    (p_ic : PySem.W.isClsIn K CP = true)
    (p_ty : PySem.W.typeIn K (.ref CP) = some (.type "type"))
    (p_s : PySem.W.subIn K (.ref CB) (.ref CP) = some true)
    (p_ne : CB ≠ CP)
    (w_mk : PySem.W.makesIn K C = true)
    (w_i : PySem.W.findIn K (.ref C) "__init__" = some (some (.ref f_di)))
    (w_if : PySem.W.isFn K (.ref f_di) = true)
    (w_k : PySem.W.keepIn K (.ref C) = true)
    (l_di : K.lookup f_di = some ⟨oc_di, od_di, .func (PySem.W.fnOf "__init__" "Deed.__init__" (defArgs sDI) (defBody sDI) (defScope sDI) .none (.ref Dk) dc_di pm_di an_di cd_di ct_di), sl_di⟩)
    (c_di : PySem.W.codeIn K cd_di "Deed.__init__" = true)
    (k_di : PySem.W.keepIn K (.ref f_di) = true)
    (d_op : PySem.W.nsIn K Dk "opens" = some (some (.bool false)))
    (d_an : PySem.W.nsIn K Dk "answers" = some (some (.ref T0)))
    (d_wh : PySem.W.nsIn K Dk "whose" = some (some (.str "any" tkW)))
    (d_as : PySem.W.nsIn K Dk "asks" = some (some .none))
    (d_py : PySem.W.nsIn K Dk "pays" = some (some .none))
    (d_ca : PySem.W.nsIn K Dk "card" = some (some (.bool true)))
    (d_go : PySem.W.nsIn K Dk "goals" = some (some (.ref T1)))
    (d_st : PySem.W.nsIn K Dk "steps" = some (some (.ref T2)))
    (lT0 : K.lookup T0 = some ⟨.type "tuple", dT0, .seq #[] nT0, sT0⟩)
    (lT1 : K.lookup T1 = some ⟨.type "tuple", dT1, .seq #[] nT1, sT1⟩)
    (lT2 : K.lookup T2 = some ⟨.type "tuple", dT2, .seq #[] nT2, sT2⟩)
    (w_pg : PySem.W.plainGet K C Str.empty = true)
    (w_hd : PySem.W.hasDictIn K C = true)
    (w_po : PySem.W.plainOver K C = true)
    (w_sa : PySem.W.findIn K (.ref C) "__setattr__" = some (some (.builtin "object.__setattr__")))
    (n_word : PySem.W.findIn K (.ref C) "word" = some none)
    (n_opens : PySem.W.findIn K (.ref C) "opens" = some none)
    (n_whose : PySem.W.findIn K (.ref C) "whose" = some none)
    (n_card : PySem.W.findIn K (.ref C) "card" = some none)
    (n_answers_ : PySem.W.findIn K (.ref C) "_answers" = some none)
    (n_asks_ : PySem.W.findIn K (.ref C) "_asks" = some none)
    (n_pays_ : PySem.W.findIn K (.ref C) "_pays" = some none)
    (n_goals_ : PySem.W.findIn K (.ref C) "_goals" = some none)
    (n_steps_ : PySem.W.findIn K (.ref C) "_steps" = some none)
    (z_max : PySem.W.nsIn K mainGlobals "max" = some none)
    (z_min : PySem.W.nsIn K mainGlobals "min" = some none)
    (z_int : PySem.W.nsIn K mainGlobals "int" = some none)
    (z_str : PySem.W.nsIn K mainGlobals "str" = some none)
    (z_bool : PySem.W.nsIn K mainGlobals "bool" = some none)
    (z_len : PySem.W.nsIn K mainGlobals "len" = some none)
    (z_all : PySem.W.nsIn K mainGlobals "all" = some none)
    (z_range : PySem.W.nsIn K mainGlobals "range" = some none)
    (z_dict : PySem.W.nsIn K mainGlobals "dict" = some none)
    (z_enumerate : PySem.W.nsIn K mainGlobals "enumerate" = some none)
    (z_isinstance : PySem.W.nsIn K mainGlobals "isinstance" = some none)
    (z_repr : PySem.W.nsIn K mainGlobals "repr" = some none)
    (z_list : PySem.W.nsIn K mainGlobals "list" = some none)
    (z_tuple : PySem.W.nsIn K mainGlobals "tuple" = some none)
    (z_set : PySem.W.nsIn K mainGlobals "set" = some none)
    (z_sorted : PySem.W.nsIn K mainGlobals "sorted" = some none) :
    ∃ fd : FuncData, (∀ (s : Shared) (u : Value), BindsTo s fd ⟨[u], []⟩ [("script", u)]) ∧ ∀ base : Heap, K.In base → base.Ns mainGlobals mg → AtTop P w K mg base fa fd ["script"] (spLaw K) := by
  have ee := hfa.symm.trans (PySem.W.mg_of X G a_law)
  cases ee
  have B : Bn mg := ⟨PySem.W.mg_none_of X G z_max, PySem.W.mg_none_of X G z_min, PySem.W.mg_none_of X G z_int, PySem.W.mg_none_of X G z_str, PySem.W.mg_none_of X G z_bool, PySem.W.mg_none_of X G z_len, PySem.W.mg_none_of X G z_all, PySem.W.mg_none_of X G z_range, PySem.W.mg_none_of X G z_dict, PySem.W.mg_none_of X G z_enumerate, PySem.W.mg_none_of X G z_isinstance, PySem.W.mg_none_of X G z_repr, PySem.W.mg_none_of X G z_list, PySem.W.mg_none_of X G z_tuple, PySem.W.mg_none_of X G z_set, PySem.W.mg_none_of X G z_sorted⟩
  have gm := fun {n : Str} {v : Value} (e : PySem.W.nsIn K mainGlobals n = some (some v)) => PySem.W.mg_of X G e
  let D_num : Df K mg "_law_numbers" sNum ["cell", "salt", "many"] := ⟨f_num, _, fun_mk (st := sNum) l_num c_num k_num, gm a_num, Fun.binds (ps := ["cell", "salt", "many"]) (fun_mk (st := sNum) l_num c_num k_num) (fun _ _ _ _ _ _ us hl => match us, hl with | [_, _, _], _ => rfl)⟩
  let D_opn : Df K mg "_law_opened" sOpn ["script", "k", "many"] := ⟨f_opn, _, fun_mk (st := sOpn) l_opn c_opn k_opn, gm a_opn, Fun.binds (ps := ["script", "k", "many"]) (fun_mk (st := sOpn) l_opn c_opn k_opn) (fun _ _ _ _ _ _ us hl => match us, hl with | [_, _, _], _ => rfl)⟩
  let D_drw : Df K mg "_law_draw" sDrw ["pool", "many"] := ⟨f_drw, _, fun_mk (st := sDrw) l_drw c_drw k_drw, gm a_drw, Fun.binds (ps := ["pool", "many"]) (fun_mk (st := sDrw) l_drw c_drw k_drw) (fun _ _ _ _ _ _ us hl => match us, hl with | [_, _], _ => rfl)⟩
  let D_pck : Df K mg "_law_pick" sPck ["pool", "some"] := ⟨f_pck, _, fun_mk (st := sPck) l_pck c_pck k_pck, gm a_pck, Fun.binds (ps := ["pool", "some"]) (fun_mk (st := sPck) l_pck c_pck k_pck) (fun _ _ _ _ _ _ us hl => match us, hl with | [_, _], _ => rfl)⟩
  let D_mks : Df K mg "_law_marks" sMks ["pool"] := ⟨f_mks, _, fun_mk (st := sMks) l_mks c_mks k_mks, gm a_mks, Fun.binds (ps := ["pool"]) (fun_mk (st := sMks) l_mks c_mks k_mks) (fun _ _ _ _ _ _ us hl => match us, hl with | [_], _ => rfl)⟩
  let D_ddn : Df K mg "_law_drawn_deed" sDdn ["pool", "word", "words", "marks", "rarely"] := ⟨f_ddn, _, fun_mk (st := sDdn) l_ddn c_ddn k_ddn, gm a_ddn, Fun.binds (ps := ["pool", "word", "words", "marks", "rarely"]) (fun_mk (st := sDdn) l_ddn c_ddn k_ddn) (fun _ _ _ _ _ _ us hl => match us, hl with | [_, _, _, _, _], _ => rfl)⟩
  let D_dgm : Df K mg "_law_drawn_game" sDgm ["pool", "deeds", "wakings", "rarely"] := ⟨f_dgm, _, fun_mk (st := sDgm) l_dgm c_dgm k_dgm, gm a_dgm, Fun.binds (ps := ["pool", "deeds", "wakings", "rarely"]) (fun_mk (st := sDgm) l_dgm c_dgm k_dgm) (fun _ _ _ _ _ _ us hl => match us, hl with | [_, _, _, _], _ => rfl)⟩
  let D_nms : Df K mg "_law_part_names" sNms [] := ⟨f_nms, _, fun_mk (st := sNms) l_nms c_nms k_nms, gm a_nms, Fun.binds (ps := []) (fun_mk (st := sNms) l_nms c_nms k_nms) (fun _ _ _ _ _ _ us hl => match us, hl with | [], _ => rfl)⟩
  let D_odd : Df K mg "_law_odds" sOdd ["part"] := ⟨f_odd, _, fun_mk (st := sOdd) l_odd c_odd k_odd, gm a_odd, Fun.binds (ps := ["part"]) (fun_mk (st := sOdd) l_odd c_odd k_odd) (fun _ _ _ _ _ _ us hl => match us, hl with | [_], _ => rfl)⟩
  let D_try : Df K mg "_law_tried" sTry ["values"] := ⟨f_try, _, fun_mk (st := sTry) l_try c_try k_try, gm a_try, Fun.binds (ps := ["values"]) (fun_mk (st := sTry) l_try c_try k_try) (fun _ _ _ _ _ _ us hl => match us, hl with | [_], _ => rfl)⟩
  let D_val : Df K mg "_law_values" sVal ["deed"] := ⟨f_val, _, fun_mk (st := sVal) l_val c_val k_val, gm a_val, Fun.binds (ps := ["deed"]) (fun_mk (st := sVal) l_val c_val k_val) (fun _ _ _ _ _ _ us hl => match us, hl with | [_], _ => rfl)⟩
  let D_nmb : Df K mg "is_number" sNmb ["value", "least", "most"] := ⟨f_nmb, _, fun_mk (st := sNmb) l_nmb c_nmb k_nmb, gm a_nmb, Fun.binds (ps := ["value", "least", "most"]) (fun_mk (st := sNmb) l_nmb c_nmb k_nmb) (fun _ _ _ _ _ _ us hl => match us, hl with | [_, _, _], _ => rfl)⟩
  let D_row : Df K mg "is_row" sRow ["value"] := ⟨f_row, _, fun_mk (st := sRow) l_row c_row k_row, gm a_row, Fun.binds (ps := ["value"]) (fun_mk (st := sRow) l_row c_row k_row) (fun _ _ _ _ _ _ us hl => match us, hl with | [_], _ => rfl)⟩
  let D_one : Df K mg "is_one_of" sOne ["value", "words"] := ⟨f_one, _, fun_mk (st := sOne) l_one c_one k_one, gm a_one, Fun.binds (ps := ["value", "words"]) (fun_mk (st := sOne) l_one c_one k_one) (fun _ _ _ _ _ _ us hl => match us, hl with | [_, _], _ => rfl)⟩
  let D_wrd : Df K mg "is_word" sWrd ["value"] := ⟨f_wrd, _, fun_mk (st := sWrd) l_wrd c_wrd k_wrd, gm a_wrd, Fun.binds (ps := ["value"]) (fun_mk (st := sWrd) l_wrd c_wrd k_wrd) (fun _ _ _ _ _ _ us hl => match us, hl with | [_], _ => rfl)⟩
  let D_mrk : Df K mg "is_mark" sMrk ["value"] := ⟨f_mrk, _, fun_mk (st := sMrk) l_mrk c_mrk k_mrk, gm a_mrk, Fun.binds (ps := ["value"]) (fun_mk (st := sMrk) l_mrk c_mrk k_mrk) (fun _ _ _ _ _ _ us hl => match us, hl with | [_], _ => rfl)⟩
  let D_wds : Df K mg "are_words" sWds ["value", "most"] := ⟨f_wds, _, fun_mk (st := sWds) l_wds c_wds k_wds, gm a_wds, Fun.binds (ps := ["value", "most"]) (fun_mk (st := sWds) l_wds c_wds k_wds) (fun _ _ _ _ _ _ us hl => match us, hl with | [_, _], _ => rfl)⟩
  let D_cnt : Df K mg "are_counts" sCnt ["value"] := ⟨f_cnt, _, fun_mk (st := sCnt) l_cnt c_cnt k_cnt, gm a_cnt, Fun.binds (ps := ["value"]) (fun_mk (st := sCnt) l_cnt c_cnt k_cnt) (fun _ _ _ _ _ _ us hl => match us, hl with | [_], _ => rfl)⟩
  let D_stp : Df K mg "is_step" sStp ["value", "is_last", "has_goals"] := ⟨f_stp, _, fun_mk (st := sStp) l_stp c_stp k_stp, gm a_stp, Fun.binds (ps := ["value", "is_last", "has_goals"]) (fun_mk (st := sStp) l_stp c_stp k_stp) (fun _ _ _ _ _ _ us hl => match us, hl with | [_, _, _], _ => rfl)⟩
  let D_sts : Df K mg "are_steps" sSts ["value", "has_goals"] := ⟨f_sts, _, fun_mk (st := sSts) l_sts c_sts k_sts, gm a_sts, Fun.binds (ps := ["value", "has_goals"]) (fun_mk (st := sSts) l_sts c_sts k_sts) (fun _ _ _ _ _ _ us hl => match us, hl with | [_, _], _ => rfl)⟩
  let TB : Xc K mg "BadDeed" "part" "BadDeed.__init__" sBD := { C := CB, fI := f_bd, fd := _, oex := ⟨⟨_, _, _, _, _, _, _, _, _, _, _, _, _, _, _, b_x, b_r⟩, b_sa, b_ex, b_ty, b_k⟩, iC := b_i, tI := b_t, F := fun_mk (st := sBD) l_bd c_bd k_bd, b := Fun.binds (ps := ["self", "part"]) (fun_mk (st := sBD) l_bd c_bd k_bd) (fun _ _ _ _ _ _ us hl => match us, hl with | [_, _], _ => rfl), g := gm aB, no := b_no, xf := ⟨b_ga, b_gg, b_ex, b_hd⟩ }
  have FI : FunDI K T0 T1 T2 f_di _ := ⟨⟨oc_di, od_di, .none, .ref Dk, dc_di, pm_di, an_di, cd_di, ct_di, sl_di, rfl, l_di, c_di, .inl ⟨rfl, rfl⟩, .inr ⟨Dk, rfl, fun q hq => by
    rcases List.mem_cons.mp hq with rfl | hq
    · exact ⟨_, d_op, rfl⟩
    rcases List.mem_cons.mp hq with rfl | hq
    · exact ⟨_, d_an, rfl⟩
    rcases List.mem_cons.mp hq with rfl | hq
    · exact ⟨_, d_wh, ⟨_, rfl⟩⟩
    rcases List.mem_cons.mp hq with rfl | hq
    · exact ⟨_, d_as, rfl⟩
    rcases List.mem_cons.mp hq with rfl | hq
    · exact ⟨_, d_py, rfl⟩
    rcases List.mem_cons.mp hq with rfl | hq
    · exact ⟨_, d_ca, rfl⟩
    rcases List.mem_cons.mp hq with rfl | hq
    · exact ⟨_, d_go, rfl⟩
    rcases List.mem_cons.mp hq with rfl | hq
    · exact ⟨_, d_st, rfl⟩
    cases hq⟩⟩, k_di⟩
  have TD : DdT K C := ⟨⟨w_pg, w_hd, w_po, w_sa⟩, fun f hf => by
    simp only [List.mem_cons, List.not_mem_nil, or_false] at hf
    rcases hf with rfl | rfl | rfl | rfl | rfl | rfl | rfl | rfl | rfl
    · exact n_word
    · exact n_opens
    · exact n_whose
    · exact n_card
    · exact n_answers_
    · exact n_asks_
    · exact n_pays_
    · exact n_goals_
    · exact n_steps_⟩
  have kBB := kit_of b_ic b_ty b_ss
  have hA : ∀ H : Hp, SqT K H A0 (acts.map V.str) := fun H => .inr ⟨_, _, _, lA, rfl, rfl, by show 3 ≤ sizeLine; decide, .cons ⟨_, rfl⟩ (.cons ⟨_, rfl⟩ (.cons ⟨_, rfl⟩ .nil))⟩
  have kt0 : KT K T0 [] := ⟨_, _, _, lT0, rfl, rfl, Nat.zero_le _, .nil⟩
  have kt1 : KT K T1 [] := ⟨_, _, _, lT1, rfl, rfl, Nat.zero_le _, .nil⟩
  have kt2 : KT K T2 [] := ⟨_, _, _, lT2, rfl, rfl, Nat.zero_le _, .nil⟩
  refine ⟨PySem.W.fnOf "law" "law" (defArgs sLaw) (defBody sLaw) (defScope sLaw) .none kV_law dc_law pm_law an_law cd_law ct_law, fun s v => .of_eq rfl, fun base _ _ => ?_⟩
  have G_num := ok_num (P := P) (w := w) (mg := mg) (base := base) D_num.F B
  have G_opn := ok_opn (P := P) (w := w) (base := base) D_opn.F B D_num G_num
  have G_drw0 := ok_drw (P := P) (w := w) (mg := mg) (base := base) D_drw.F B
  have G_pck := (ok_pck (P := P) (w := w) (base := base) D_pck.F B D_drw G_drw0).imp pckB_imp
  have G_drw := G_drw0.imp drwB_imp
  have G_mks := ok_mks (P := P) (w := w) (base := base) D_mks.F B D_pck G_pck
  have G_ddn := ok_ddn (P := P) (w := w) (base := base) D_ddn.F B D_drw G_drw D_pck G_pck
  have G_dgm := ok_dgm0 (P := P) (w := w) (base := base) D_dgm.F B D_drw G_drw D_pck G_pck D_mks G_mks D_ddn G_ddn
  have G_nmb := ok_nmb (P := P) (w := w) (mg := mg) (base := base) D_nmb.F B
  have G_row := ok_row (P := P) (w := w) (mg := mg) (base := base) D_row.F B
  have G_one := ok_one (P := P) (w := w) (mg := mg) (base := base) D_one.F B
  have G_wrd := ok_wrd (P := P) (w := w) (mg := mg) (base := base) D_wrd.F B (gm aL)
  have G_mrk := ok_mrk (P := P) (w := w) (base := base) D_mrk.F B D_wrd G_wrd
  have G_wds := ok_wds (P := P) (w := w) (base := base) D_wds.F B D_wrd G_wrd D_row G_row
  have G_cnt := ok_cnt (P := P) (w := w) (base := base) D_cnt.F B (gm aM) D_mrk G_mrk D_nmb G_nmb
  have G_stp := ok_stp (P := P) (w := w) (base := base) D_stp.F B (gm aA) hA D_one G_one D_mrk G_mrk
  have G_sts := ok_sts (P := P) (w := w) (base := base) D_sts.F B D_row G_row D_stp G_stp
  have G_di := ok_di (P := P) (w := w) (base := base) TD FI B TB D_wrd G_wrd D_one G_one D_wds G_wds D_cnt G_cnt D_sts G_sts
  have A_nmb := ok_nmbA (P := P) (w := w) (mg := mg) (base := base) D_nmb.F B
  have A_mrk := ok_mrkA (P := P) (w := w) (base := base) D_mrk.F B D_wrd G_wrd
  have A_wds := ok_wdsA (P := P) (w := w) (base := base) D_wds.F B D_wrd G_wrd D_row G_row
  have A_cnt := ok_cntA (P := P) (w := w) (base := base) D_cnt.F B (gm aM) D_mrk A_mrk D_nmb A_nmb
  have A_stp := ok_stpA (P := P) (w := w) (base := base) D_stp.F B (gm aA) hA D_one G_one D_mrk A_mrk
  have A_sts := ok_stsA (P := P) (w := w) (base := base) D_sts.F B D_row G_row D_stp A_stp
  have A_di := ok_dix (P := P) (w := w) (base := base) (C := C) FI B TB D_wrd G_wrd D_one G_one D_wds A_wds D_cnt A_cnt D_sts A_sts
  let MD : DdO P w K mg base C CB := ⟨f_di, _, FnOk.or A_di G_di, ⟨w_mk, w_i, w_if, w_k⟩, gm aD, _, b2D FI⟩
  have G_nms := ok_nms (P := P) (w := w) (mg := mg) (base := base) D_nms.F
  have G_odd := ok_odd (P := P) (w := w) (mg := mg) (base := base) D_odd.F B
  have G_val := ok_val (P := P) (w := w) (mg := mg) (base := base) D_val.F B
  have G_try := ok_try (P := P) (w := w) (base := base) D_try.F B TB MD (gm aP) p_ne (kit_of p_ic p_ty p_s) (exm_of' b_ex kBB)
  exact ok_law (fun_mk (st := sLaw) l_law c_law k_law) ⟨B, D_nms, G_nms, D_opn, G_opn, D_dgm, G_dgm, D_pck, G_pck, D_val, G_val, D_try, G_try, D_odd, G_odd⟩
end My

set_option Elab.async false
set_option linter.all false
open PySem PySem.W PyProof.Rows
set_option maxRecDepth 100000 in
set_option maxHeartbeats 0 in
theorem PySem.Challenge.cw_answerpiles_k03_deeds_refused_holds : PySem.Challenge.rw_answerpiles_k03_deeds_refused.Holds := by
  w_on; o_law; k_head; (case hw => w_witness2)
  k_fill
  refine My.top_walk (l := PySem.Challenge.rw_answerpiles_k03_deeds_refused) (n := 63) (par := "script") (sp := My.spLaw) rfl (by decide) rfl (fun w h Y => PySem.W.kIn_of Y) ?F (fun K H a ns hl hS => ⟨a, ns, rfl, hS, hl, fun _ => rfl⟩)
  case F =>
    intro w mg fa h KX G hmg
    refine' My.all_mk KX G hmg ?aD ?aB ?aP ?aL ?aM ?aA ?lA ?a_num ?l_num ?c_num ?k_num ?a_opn ?l_opn ?c_opn ?k_opn ?a_drw ?l_drw ?c_drw ?k_drw ?a_pck ?l_pck ?c_pck ?k_pck ?a_mks ?l_mks ?c_mks ?k_mks ?a_ddn ?l_ddn ?c_ddn ?k_ddn ?a_dgm ?l_dgm ?c_dgm ?k_dgm ?a_nms ?l_nms ?c_nms ?k_nms ?a_odd ?l_odd ?c_odd ?k_odd ?a_try ?l_try ?c_try ?k_try ?a_val ?l_val ?c_val ?k_val ?a_nmb ?l_nmb ?c_nmb ?k_nmb ?a_row ?l_row ?c_row ?k_row ?a_one ?l_one ?c_one ?k_one ?a_wrd ?l_wrd ?c_wrd ?k_wrd ?a_mrk ?l_mrk ?c_mrk ?k_mrk ?a_wds ?l_wds ?c_wds ?k_wds ?a_cnt ?l_cnt ?c_cnt ?k_cnt ?a_stp ?l_stp ?c_stp ?k_stp ?a_sts ?l_sts ?c_sts ?k_sts ?a_law ?l_law ?c_law ?k_law ?b_i ?b_t ?l_bd ?c_bd ?k_bd ?b_x ?b_r ?b_sa ?b_ex ?b_ty ?b_k ?b_no ?b_ga ?b_gg ?b_hd ?b_ic ?b_ss ?p_ic ?p_ty ?p_s ?p_ne ?w_mk ?w_i ?w_if ?w_k ?l_di ?c_di ?k_di ?d_op ?d_an ?d_wh ?d_as ?d_py ?d_ca ?d_go ?d_st ?lT0 ?lT1 ?lT2 ?w_pg ?w_hd ?w_po ?w_sa ?n_word ?n_opens ?n_whose ?n_card ?n_answers_ ?n_asks_ ?n_pays_ ?n_goals_ ?n_steps_ ?z_max ?z_min ?z_int ?z_str ?z_bool ?z_len ?z_all ?z_range ?z_dict ?z_enumerate ?z_isinstance ?z_repr ?z_list ?z_tuple ?z_set ?z_sorted
    (case aD => k_is)
    (case aB => k_is)
    (case aP => k_is)
    (case aL => k_is)
    (case aM => k_is)
    (case aA => k_is)
    (case lA => k_is)
    (case a_num => k_is)
    (case l_num => k_is)
    (case c_num => k_is)
    (case k_num => k_is)
    (case a_opn => k_is)
    (case l_opn => k_is)
    (case c_opn => k_is)
    (case k_opn => k_is)
    (case a_drw => k_is)
    (case l_drw => k_is)
    (case c_drw => k_is)
    (case k_drw => k_is)
    (case a_pck => k_is)
    (case l_pck => k_is)
    (case c_pck => k_is)
    (case k_pck => k_is)
    (case a_mks => k_is)
    (case l_mks => k_is)
    (case c_mks => k_is)
    (case k_mks => k_is)
    (case a_ddn => k_is)
    (case l_ddn => k_is)
    (case c_ddn => k_is)
    (case k_ddn => k_is)
    (case a_dgm => k_is)
    (case l_dgm => k_is)
    (case c_dgm => k_is)
    (case k_dgm => k_is)
    (case a_nms => k_is)
    (case l_nms => k_is)
    (case c_nms => k_is)
    (case k_nms => k_is)
    (case a_odd => k_is)
    (case l_odd => k_is)
    (case c_odd => k_is)
    (case k_odd => k_is)
    (case a_try => k_is)
    (case l_try => k_is)
    (case c_try => k_is)
    (case k_try => k_is)
    (case a_val => k_is)
    (case l_val => k_is)
    (case c_val => k_is)
    (case k_val => k_is)
    (case a_nmb => k_is)
    (case l_nmb => k_is)
    (case c_nmb => k_is)
    (case k_nmb => k_is)
    (case a_row => k_is)
    (case l_row => k_is)
    (case c_row => k_is)
    (case k_row => k_is)
    (case a_one => k_is)
    (case l_one => k_is)
    (case c_one => k_is)
    (case k_one => k_is)
    (case a_wrd => k_is)
    (case l_wrd => k_is)
    (case c_wrd => k_is)
    (case k_wrd => k_is)
    (case a_mrk => k_is)
    (case l_mrk => k_is)
    (case c_mrk => k_is)
    (case k_mrk => k_is)
    (case a_wds => k_is)
    (case l_wds => k_is)
    (case c_wds => k_is)
    (case k_wds => k_is)
    (case a_cnt => k_is)
    (case l_cnt => k_is)
    (case c_cnt => k_is)
    (case k_cnt => k_is)
    (case a_stp => k_is)
    (case l_stp => k_is)
    (case c_stp => k_is)
    (case k_stp => k_is)
    (case a_sts => k_is)
    (case l_sts => k_is)
    (case c_sts => k_is)
    (case k_sts => k_is)
    (case a_law => k_is)
    (case l_law => k_is)
    (case c_law => k_is)
    (case k_law => k_is)
    (case b_i => k_is)
    (case b_t => k_is)
    (case l_bd => k_is)
    (case c_bd => k_is)
    (case k_bd => k_is)
    (case b_x => k_is)
    (case b_r => first | decide +kernel | rfl | k_is)
    (case b_sa => k_is)
    (case b_ex => k_is)
    (case b_ty => k_is)
    (case b_k => k_is)
    (case b_no => k_is)
    (case b_ga => k_is)
    (case b_gg => k_is)
    (case b_hd => k_is)
    (case b_ic => k_is)
    (case b_ss => k_is)
    (case p_ic => k_is)
    (case p_ty => k_is)
    (case p_s => k_is)
    (case p_ne => decide +kernel)
    (case w_mk => k_is)
    (case w_i => k_is)
    (case w_if => k_is)
    (case w_k => k_is)
    (case l_di => k_is)
    (case c_di => k_is)
    (case k_di => k_is)
    (case d_op => k_is)
    (case d_an => k_is)
    (case d_wh => k_is)
    (case d_as => k_is)
    (case d_py => k_is)
    (case d_ca => k_is)
    (case d_go => k_is)
    (case d_st => k_is)
    (case lT0 => k_is)
    (case lT1 => k_is)
    (case lT2 => k_is)
    (case w_pg => k_is)
    (case w_hd => k_is)
    (case w_po => k_is)
    (case w_sa => k_is)
    (case n_word => k_is)
    (case n_opens => k_is)
    (case n_whose => k_is)
    (case n_card => k_is)
    (case n_answers_ => k_is)
    (case n_asks_ => k_is)
    (case n_pays_ => k_is)
    (case n_goals_ => k_is)
    (case n_steps_ => k_is)
    (case z_max => k_is)
    (case z_min => k_is)
    (case z_int => k_is)
    (case z_str => k_is)
    (case z_bool => k_is)
    (case z_len => k_is)
    (case z_all => k_is)
    (case z_range => k_is)
    (case z_dict => k_is)
    (case z_enumerate => k_is)
    (case z_isinstance => k_is)
    (case z_repr => k_is)
    (case z_list => k_is)
    (case z_tuple => k_is)
    (case z_set => k_is)
    (case z_sorted => k_is)
