import PyProof.Rows.All
import Wide.All
import OpenK.AllK
import Wide.FinOn
import HandS.Base
import HandS.Call
import HandS.List
import HandS.Comp
import HandS.Dict
import HandS.Iter
import HandS.Text
import HandS.Ends
import HandS.Words
import HandS.WordsList
import HandS.IsInst
import HandS.Walk
import HandS.Exc
import HandS.ExcOwn
import HandS.ExcInit
import HandS.ExcField
import HandS.ExcIs
import HandS.WordsExc
import HandS.Defaults
import HandS.MakeKwOnly
import KE.KIsAll
import PyProof.ReprRoads
import PyProof.ReprLen
import PySem.Challenge.RW_answerpiles_k04_wakings_told
import PyProof.InstNe
import HandS.HeadEnd
set_option Elab.async false
set_option linter.all false
set_option maxRecDepth 100000
set_option maxHeartbeats 2000000
namespace My
open PySem PySem.Spec PyProof.Rows L2
/-! ### what a reading says, as equations -/
section
variable {σ : L2.St} {H : Hp} {Q : VK} {D : Ends} {ta tb tc te : TE} {t u : TS} {tt tu : TT} {i j : Nat} {v x y : V} {g : TG}
theorem rd_seq : tSeq t u D σ H = t { D with nx := u D } σ H := rfl
theorem rd_next : tNext D σ H = D.nx σ H := rfl
theorem rd_brk : tBreak D σ H = D.bk σ H := rfl
theorem rd_cont : tCont D σ H = D.ct σ H := rfl
theorem rd_asg : tAsg te g D σ H = te σ H fun x H1 => g x σ H1 D.nx := rfl
theorem rd_gname {Q : L2.St → Hp → Prop} : gName i v σ H Q = Q (σ.set i (some v)) H := rfl
theorem rd_var : tVar i σ H Q = ∃ v, σ[i]? = some (some v) ∧ Q v H := rfl
theorem rd_c : tC v σ H Q = Q v H := rfl
theorem rd_op {r : R2} : tOp r ta tb σ H Q = ta σ H fun x H1 => tb σ H1 fun y H2 => r x y H2 Q := rfl
theorem rd_un {r : V → Hp → VK → Prop} : tUn r ta σ H Q = ta σ H fun x H1 => r x H1 Q := rfl
theorem rd_rI0 {f : Int → Int → V} {a b : Int} : rI0 f (.int a) (.int b) H Q = Q (f a b) H := by
  simp [rI0]
theorem rd_rI {C : Int → Int → Prop} {f : Int → Int → V} {a b : Int} : rI C f (.int a) (.int b) H Q = (C a b ∧ Q (f a b) H) := by
  simp [rI]
theorem rd_rU {f : Int → V} {a : Int} : rU f (.int a) H Q = Q (f a) H := by
  simp [rU]
theorem rd_test {Q : Bool → Hp → Prop} : tTest te σ H Q = te σ H fun x H' => ∃ k, x = .bl k ∧ Q k H' := rfl
theorem rd_B {Q : Bool → Hp → Prop} : tB te σ H Q = te σ H fun x H' => ∃ k, x = .bl k ∧ Q k H' := rfl
theorem rd_and {Q : Bool → Hp → Prop} : tAnd tt tu σ H Q = tt σ H fun c H1 => if c = true then tu σ H1 Q else Q false H1 := rfl
theorem rd_or {Q : Bool → Hp → Prop} : tOr tt tu σ H Q = tt σ H fun c H1 => if c = true then Q true H1 else tu σ H1 Q := rfl
theorem rd_not {Q : Bool → Hp → Prop} : tNot tt σ H Q = tt σ H fun c H1 => Q (!c) H1 := rfl
theorem rd_andV : tAndV ta tb σ H Q = ta σ H fun x H1 => ∃ c, x = .bl c ∧ if c = true then tb σ H1 Q else Q (.bl false) H1 := rfl
theorem rd_orV : tOrV ta tb σ H Q = ta σ H fun x H1 => ∃ c, x = .bl c ∧ if c = true then Q (.bl true) H1 else tb σ H1 Q := rfl
theorem rd_notV : tNotV ta σ H Q = ta σ H fun x H1 => ∃ c, x = .bl c ∧ Q (.bl (!c)) H1 := rfl
theorem rd_ifx : tIf tt ta tb σ H Q = tt σ H fun c H1 => if c = true then ta σ H1 Q else tb σ H1 Q := rfl
theorem rd_ifs : tIfS tt t u D σ H = tt σ H fun b H1 => if b = true then t D σ H1 else u D σ H1 := rfl
theorem rd_drop : tDrop te D σ H = te σ H fun _ H1 => D.nx σ H1 := rfl
theorem rd_ret : tRet te D σ H = te σ H D.rt := rfl
theorem rd_nil {Q : List V → Hp → Prop} : tNil σ H Q = Q [] H := rfl
theorem rd_cons {tr : TA} {Q : List V → Hp → Prop} : tCons ta tr σ H Q = ta σ H fun x H1 => tr σ H1 fun xs H2 => Q (x :: xs) H2 := rfl
theorem rd_cb {r : List V → Hp → VK → Prop} {tr : TA} : tCB r tr σ H Q = tr σ H fun vs H1 => r vs H1 Q := rfl
theorem rd_tup {tr : TA} : tTup tr σ H Q = tr σ H fun xs H1 => xs.length ≤ sizeLine ∧ ∀ p, H1 p = none → Q (.ref p) (upd H1 p (.tup xs)) := rfl
theorem rd_lst {tr : TA} : tLst tr σ H Q = tr σ H fun xs H1 => xs.length ≤ sizeLine ∧ ∀ p, H1 p = none → Q (.ref p) (upd H1 p (.lst xs)) := rfl
theorem rd_call {sp : Sp} {dvs : List V} {E : XK} {tr : TA} : tCall sp dvs E tr σ H Q = tr σ H fun vs H1 => sp (vs ++ dvs) H1 Q E := rfl
theorem rd_bm {K : PySem.W.Frag} {T : String} {r : V → List V → Hp → VK → Prop} {tr : TA} : tBM K T r ta tr σ H Q = ta σ H fun x H1 => tyV K T x H1 ∧ tr σ H1 fun xs H2 => r x xs H2 Q := rfl
/-- a new thing -/
theorem tyL {K : PySem.W.Frag} {a : Addr} {xs : List V} (h : SqL K H a xs) : tyV K "list" (.ref a) H := Or.inl ⟨rfl, _, h⟩
end
theorem sz {n : Nat} (h : n ≤ 100000) : n ≤ sizeLine := Nat.le_trans h (by decide)
theorem szl {n : Nat} (h : n < 100000) : n < sizeLine := Nat.lt_of_lt_of_le h (by decide)
theorem Same.new {H H' : Hp} {p : Addr} {o : HO} (e : Same H H') (h : H p = none) : Same H (upd H' p o) := fun a u ha => by
  rw [upd_ne (ne_of_none ha h)]
  exact e a u ha
theorem Same.new' {H H' : Hp} {p : Addr} {o : HO} (e : Same H H') (h : H' p = none) : Same H (upd H' p o) := fun a u ha => by
  rw [upd_ne (ne_of_none (e a u ha) h)]
  exact e a u ha
theorem ex_bl {P : Bool → Prop} {b : Bool} : (∃ k, V.bl b = V.bl k ∧ P k) = P b := by simp
end My
namespace My
open PySem PySem.Spec PyProof.Rows L2
section
variable {σ : L2.St} {H : Hp} {Q : VK} {D : Ends} {tb : TS} {j : Nat}
/-- for x in range(m) -/
theorem for_r1 {ta : TA} {m : Int} (hm : 0 ≤ m ∧ m ≤ 100000) (h : ∀ Q : List V → Hp → Prop, Q [.int m] H → ta σ H Q) (Pv : Nat → L2.St → Hp → Prop) (h0 : Pv 0 σ H)
    (hs : ∀ (i : Nat) (σ' : L2.St) (H' : Hp), (i : Int) < m → Pv i σ' H' → tb { D with nx := Pv (i + 1), ct := Pv (i + 1), bk := D.nx } (σ'.set j (some (.int (i : Int)))) H') (hd : ∀ σ' H', Pv m.toNat σ' H' → D.nx σ' H') : tFor (iRng1 ta) (gName j) tb D σ H :=
  h _ ⟨m, rfl, by omega, by omega, for_range (lo := 0) (n := m.toNat) Pv h0 (fun i σ' H' hi p => by
    have e0 : (0 : Int) + (i : Int) = (i : Int) := Int.zero_add _
    show tb { D with nx := Pv (i + 1), ct := Pv (i + 1), bk := D.nx } (σ'.set j (some (.int ((0 : Int) + (i : Int))))) H'
    rw [e0]
    exact hs i σ' H' (by omega) p) hd⟩
end
end My

namespace L2
theorem PE.imp {X : Cx} {e : PySem.Expr} {t t' : TE} (h : PE X e t) (k : ∀ σ H Q, t' σ H Q → t σ H Q) : PE X e t' := ⟨fun pins s σ H Q I q => h.run pins s σ H Q I (k σ H Q q)⟩
theorem PT.imp {X : Cx} {e : PySem.Expr} {t t' : TT} (h : PT X e t) (k : ∀ σ H Q, t' σ H Q → t σ H Q) : PT X e t' := ⟨fun pins s σ H Q I q => h.run pins s σ H Q I (k σ H Q q)⟩
theorem PS.imp {X : Cx} {e : PySem.Stmt} {t t' : TS} (h : PS X e t) (k : ∀ D σ H, t' D σ H → t D σ H) : PS X e t' := ⟨fun pins s σ H D I q => h.run pins s σ H D I (k D σ H q)⟩
theorem OpR.imp {X : Cx} {f : PySem.Value → PySem.Value → PySem.Sem PySem.Value} {r r' : R2} (h : OpR X f r) (k : ∀ x y H Q, r' x y H Q → r x y H Q) : OpR X f r' := fun pins s σ H x y v u Q I rx ry q => h pins s σ H x y v u Q I rx ry (k x y H Q q)
theorem IxR.imp {X : Cx} {r r' : R2} (h : IxR X r) (k : ∀ x y H Q, r' x y H Q → r x y H Q) : IxR X r' := fun e1 e2 pins s σ H x y v u Q I rx ry q hs => h e1 e2 pins s σ H x y v u Q I rx ry (k x y H Q q) hs
theorem CallR.imp {X : Cx} {f : PySem.Value} {r r' : List V → Hp → VK → Prop} (h : CallR X f r) (k : ∀ xs H Q, r' xs H Q → r xs H Q) : CallR X f r' := fun pins s σ H xs us Q I rx q => h pins s σ H xs us Q I rx (k xs H Q q)
/-- a reading, closed upward -/
def Mon (t : TE) : TE := fun σ H Q => ∃ R : VK, t σ H R ∧ ∀ v H', R v H' → Q v H'
theorem PE.mon {X : Cx} {e : PySem.Expr} {t : TE} (h : PE X e t) : PE X e (Mon t) := ⟨fun pins s σ H Q I ⟨R, q, k⟩ => thn (h.run pins s σ H R I q) fun v s' ⟨x, H', I', r, q'⟩ => ⟨x, H', I', r, k x H' q'⟩⟩
end L2
namespace My
open PySem PySem.Spec PyProof.Rows L2
/-- xs.append(e), xs a list that stands in H -/
def tApp (ta te : TE) : TE := fun σ H Q => ta σ H fun x H1 => ∃ l, x = .ref l ∧ (∃ xs, H1 l = some (.lst xs)) ∧ te σ H1 fun y H2 => ∃ xs, H2 l = some (.lst xs) ∧ xs.length < sizeLine ∧ Q .non (upd H2 l (.lst (xs ++ [y])))
theorem rd_app {σ : L2.St} {H : Hp} {Q : VK} {ta te : TE} : tApp ta te σ H Q = ta σ H fun x H1 => ∃ l, x = .ref l ∧ (∃ xs, H1 l = some (.lst xs)) ∧ te σ H1 fun y H2 => ∃ xs, H2 l = some (.lst xs) ∧ xs.length < sizeLine ∧ Q .non (upd H2 l (.lst (xs ++ [y]))) := rfl
theorem pe_app {X : Cx} {o e : Expr} {ta te : TE} {apos cpos : Pos} (ho : PE X o ta) (he : PE X e te)
    (hbase : attributeBase o "append" X.env (eval o X.env) = eval o X.env := by rfl)
    (hfew : ((backTo cpos (starEach (e :: []) X.env)).all (fun x => !x.1) && (backToKw cpos (keywordEach [] X.env)).all (fun x => x.1.isSome)
      && decide ((e :: []).length + ([] : List Keyword).length + (if ([] : List Keyword).isEmpty then 0 else 1) < 30)) = true := by rfl)
    (hline : (apos.endLine == cpos.line) = true := by rfl) (hs : starEach (e :: []) X.env = (false, eval e X.env) :: starEach [] X.env := by rfl) (hplain : (backTo cpos (starEach [] X.env)).any (·.1) = false := by rfl) :
    PE X (.Call (.Attribute o "append" apos) [e] [] cpos) (tApp ta te) :=
  (pe_bm PySem.F.plainAttrs_list PySem.F.slot_list_append PySem.F.type_list_append mt_append ho.mon (pa_cons he.mon pa_nil hs) hbase hfew hline hs hplain).imp fun σ H Q q =>
    ⟨_, q, fun x H1 ⟨l, ex, ⟨xs, hl⟩, q1⟩ => ⟨by subst ex; exact tyL (SqL.of hl), _, q1, fun y H2 ⟨ys, hl2, hz, q2⟩ => ⟨l, ys, y, ex, rfl, hl2, hz, q2⟩⟩⟩
theorem fmod_r {a m : Int} (h : 0 < m) : 0 ≤ a.fmod m ∧ a.fmod m < m := ⟨Int.fmod_nonneg_of_pos a h, Int.fmod_lt_of_pos a h⟩
end My

set_option Elab.async false
set_option linter.all false
set_option maxRecDepth 100000
set_option maxHeartbeats 2000000
namespace My
open PySem PySem.Spec PyProof.Rows L2
section
variable {X : Cx}
/-! ### lists that stand in H -/
def rIxLst : R2 := fun x y H Q => ∃ p i, x = .ref p ∧ y = .int i ∧ ∃ xs, H p = some (.lst xs) ∧ 0 ≤ i ∧ ∃ v, xs[i.toNat]? = some v ∧ Q v H
theorem rd_ixLst {x y : V} {H : Hp} {Q : VK} : rIxLst x y H Q = ∃ p i, x = .ref p ∧ y = .int i ∧ ∃ xs, H p = some (.lst xs) ∧ 0 ≤ i ∧ ∃ v, xs[i.toNat]? = some v ∧ Q v H := rfl
theorem atI_pos {xs : List V} {i : Int} {v : V} (h0 : 0 ≤ i) (h : xs[i.toNat]? = some v) : atI xs i = some v := by
  have e : i = (i.toNat : Int) := (Int.toNat_of_nonneg h0).symm
  rw [e]
  exact atI_nat h
theorem ix_lst : IxR X rIxLst := ix_list.imp fun _ _ _ _ ⟨p, i, ex, ey, xs, hp, h0, v, hv, q⟩ => ⟨p, xs, i, v, ex, ey, SqL.of hp, atI_pos h0 hv, q⟩
/-- the script, or another list that is read -/
def rIxSq (K : PySem.W.Frag) : R2 := fun x y H Q => ∃ p i, x = .ref p ∧ y = .int i ∧ ∃ xs, SqL K H p xs ∧ 0 ≤ i ∧ ∃ v, xs[i.toNat]? = some v ∧ Q v H
theorem rd_ixSq {K : PySem.W.Frag} {x y : V} {H : Hp} {Q : VK} : rIxSq K x y H Q = ∃ p i, x = .ref p ∧ y = .int i ∧ ∃ xs, SqL K H p xs ∧ 0 ≤ i ∧ ∃ v, xs[i.toNat]? = some v ∧ Q v H := rfl
theorem ix_sq : IxR X (rIxSq X.K) := ix_list.imp fun _ _ _ _ ⟨p, i, ex, ey, xs, hp, h0, v, hv, q⟩ => ⟨p, xs, i, v, ex, ey, hp, atI_pos h0 hv, q⟩
def rLenL : List V → Hp → VK → Prop := fun vs H Q => ∃ p, vs = [.ref p] ∧ ∃ xs, H p = some (.lst xs) ∧ Q (.int (xs.length : Int)) H
theorem rd_lenL {vs : List V} {H : Hp} {Q : VK} : rLenL vs H Q = ∃ p, vs = [.ref p] ∧ ∃ xs, H p = some (.lst xs) ∧ Q (.int (xs.length : Int)) H := rfl
theorem call_lenL : CallR X (.builtin "len") rLenL := call_len_seq.imp fun _ _ _ ⟨p, e, xs, hp, q⟩ => ⟨p, xs, e, .inl (SqL.of hp), q⟩
def rLenSq (K : PySem.W.Frag) : List V → Hp → VK → Prop := fun vs H Q => ∃ p, vs = [.ref p] ∧ ∃ xs, SqL K H p xs ∧ Q (.int (xs.length : Int)) H
theorem rd_lenSq {K : PySem.W.Frag} {vs : List V} {H : Hp} {Q : VK} : rLenSq K vs H Q = ∃ p, vs = [.ref p] ∧ ∃ xs, SqL K H p xs ∧ Q (.int (xs.length : Int)) H := rfl
theorem call_lenSq : CallR X (.builtin "len") (rLenSq X.K) := call_len_seq.imp fun _ _ _ ⟨p, e, xs, hp, q⟩ => ⟨p, xs, e, .inl hp, q⟩
def rSetLst : V → V → V → Hp → (Hp → Prop) → Prop := fun o i v H Q => ∃ p k, o = .ref p ∧ i = .int k ∧ ∃ xs, H p = some (.lst xs) ∧ 0 ≤ k ∧ k.toNat < xs.length ∧ Q (upd H p (.lst (xs.set k.toNat v)))
theorem rd_setLst {o i v : V} {H : Hp} {Q : Hp → Prop} : rSetLst o i v H Q = ∃ p k, o = .ref p ∧ i = .int k ∧ ∃ xs, H p = some (.lst xs) ∧ 0 ≤ k ∧ k.toNat < xs.length ∧ Q (upd H p (.lst (xs.set k.toNat v))) := rfl
theorem set_lst : PSet X rSetLst := fun pins s σ H o i y vo vi vy Q I ro ri ry ⟨p, k, eo, ei, xs, hp, h0, hk, q⟩ => set_list pins s σ H o i y vo vi vy Q I ro ri ry ⟨p, xs, k, k.toNat, eo, ei, hp, by
  unfold ixN
  rw [if_pos h0, if_pos (by omega)], q⟩
theorem rd_sub {to ti : TE} {t : TSet} {v : V} {σ : L2.St} {H : Hp} {Q : L2.St → Hp → Prop} : gSub to ti t v σ H Q = to σ H fun o H1 => ti σ H1 fun i H2 => t o i v H2 fun H3 => Q σ H3 := rfl
/-- script != [] -/
def rNeNil (K : PySem.W.Frag) : R2 := fun x y H Q => ∃ a b, x = .ref a ∧ y = .ref b ∧ ∃ ns : List Int, SqL K H a (ns.map V.int) ∧ H b = some (.lst []) ∧ Q (.bl (!ns.isEmpty)) H
theorem rd_neNil {K : PySem.W.Frag} {x y : V} {H : Hp} {Q : VK} : rNeNil K x y H Q = ∃ a b, x = .ref a ∧ y = .ref b ∧ ∃ ns : List Int, SqL K H a (ns.map V.int) ∧ H b = some (.lst []) ∧ Q (.bl (!ns.isEmpty)) H := rfl
theorem dpInts {K : PySem.W.Frag} {H : Hp} : ∀ ns : List Int, DpAll K H (ns.map V.int) (ns.map PyData.int)
  | [] => .nil
  | _ :: r => .cons (.int _) (dpInts r)
theorem canInts : ∀ ns : List Int, PyData.canLayAll0 (ns.map PyData.int) = true
  | [] => by simp [PyData.canLayAll0]
  | _ :: r => by simp [PyData.canLayAll0, PyData.canLay0, canInts r]
theorem depInts : ∀ ns : List Int, PyData.depthAll (ns.map PyData.int) = 0
  | [] => by simp [PyData.depthAll]
  | _ :: r => by simp [PyData.depthAll, PyData.depth, depInts r]
theorem shInts (ns : List Int) : SeqAt.shaped (.list (ns.map PyData.int)) = true := by
  unfold SeqAt.shaped
  simp [PyData.canLay0, PyData.depth, canInts, depInts]
theorem op_neNil (hu : X.A.units + 64 < cLine) : OpR X (compareOp .NotEq) (rNeNil X.K) := (op_neD hu).imp fun x y H Q ⟨a, b, ex, ey, ns, ha, hb, q⟩ => by
  subst ex ey
  refine ⟨.list (ns.map .int), .list [], .lst ha (dpInts ns), .lst (SqL.of hb) .nil, shInts ns, by decide, ?_⟩
  cases ns with
  | nil => exact q
  | cons n r => exact q
end
end My

set_option Elab.async false
set_option linter.all false
set_option maxRecDepth 100000
set_option maxHeartbeats 2000000
namespace My
open PySem PySem.Spec PyProof.Rows L2
/-- a def of the module as it stands behind the top -/
structure Df (K : PySem.W.Frag) (mg : Str → Option Value) (nm : Str) (st : Stmt) (ps : List Str) where
  f : Addr
  fd : FuncData
  F : Fun K nm nm st f fd
  g : mg nm = some (.ref f)
  b : Binds K fd ps []
/-- a call of such a def, nothing raised -/
theorem pc {X : Cx} {nm : Str} {st : Stmt} {ps : List Str} {sp : Sp} {k : Nat} {p pos : Pos} {e : Expr} {es : List Expr} {t : TA} (D : Df X.K X.mg nm st ps) (G : FnOk X.prog X.w X.K X.mg X.base CX0 k D.f D.fd ps sp) (hr : Room k X.A) (ha : PA X (e :: es) t)
    (hg : Gl X nm := by rfl) (hd : (nm == ("__debug__" : Str)) = false := by decide +kernel)
    (he : starEach (e :: es) X.env = (false, eval e X.env) :: starEach es X.env := by rfl) (hpl : (backTo pos (starEach es X.env)).any (·.1) = false := by rfl) :
    PE X (.Call (.Name nm p) (e :: es) [] pos) (tCall sp [] E0 t) := pe_call G hr hg D.g D.F.kp D.b .nil pass0 ha hd he hpl
end My

set_option Elab.async false
set_option linter.all false
set_option maxRecDepth 100000
set_option maxHeartbeats 2000000
namespace My
open PySem PySem.Spec PyProof.Rows L2
/-! ### types of values -/
def tyO : Option HO → Option String
  | some (.lst _) => some "list"
  | some (.tup _) => some "tuple"
  | some (.dK _) => some "dict"
  | _ => none
def tyS (H : Hp) : V → Option String
  | .non => some "NoneType"
  | .bl _ => some "bool"
  | .int _ => some "int"
  | .str _ => some "str"
  | .ref a => tyO (H a)
  | _ => none
theorem tyO_cases {o : Option HO} {t : String} (h : tyO o = some t) : (∃ xs, o = some (.lst xs) ∧ t = "list") ∨ (∃ xs, o = some (.tup xs) ∧ t = "tuple") ∨ ∃ xs, o = some (.dK xs) ∧ t = "dict" := by
  cases o with
  | none => cases h
  | some o =>
    cases o <;> first | (cases h; exact .inl ⟨_, rfl, rfl⟩) | (cases h; exact .inr (.inl ⟨_, rfl, rfl⟩)) | (cases h; exact .inr (.inr ⟨_, rfl, rfl⟩)) | cases h
theorem tyX_of {K : PySem.W.Frag} {H : Hp} : ∀ {v : V} {t : String}, tyS H v = some t → TyX K H v (.type t)
  | .non, _, h => by cases h; exact .base .non
  | .bl b, _, h => by cases h; exact .base (.bl b)
  | .int i, _, h => by cases h; exact .base (.int i)
  | .str x, _, h => by cases h; exact .base (.str x)
  | .ref a, t, h => by
    rcases tyO_cases (show tyO (H a) = some t from h) with ⟨xs, e, rfl⟩ | ⟨xs, e, rfl⟩ | ⟨xs, e, rfl⟩
    · exact .base (.lst e)
    · exact .base (.tup e)
    · exact .base (.dK e)
def isStr : V → Bool
  | .str _ => true
  | _ => false
def isBl : V → Bool
  | .bl _ => true
  | _ => false
theorem k1 : kitB "NoneType" "str" = some false ∧ kitB "bool" "str" = some false ∧ kitB "int" "str" = some false ∧ kitB "str" "str" = some true ∧ kitB "list" "str" = some false ∧ kitB "tuple" "str" = some false ∧ kitB "dict" "str" = some false := by decide +kernel
theorem k2 : kitB "NoneType" "bool" = some false ∧ kitB "bool" "bool" = some true ∧ kitB "int" "bool" = some false ∧ kitB "str" "bool" = some false ∧ kitB "list" "bool" = some false ∧ kitB "tuple" "bool" = some false ∧ kitB "dict" "bool" = some false := by decide +kernel
theorem kitStr {H : Hp} : ∀ {v : V} {t : String}, tyS H v = some t → kitB t "str" = some (isStr v)
  | .non, _, h => by cases h; exact k1.1
  | .bl b, _, h => by cases h; exact k1.2.1
  | .int i, _, h => by cases h; exact k1.2.2.1
  | .str x, _, h => by cases h; exact k1.2.2.2.1
  | .ref a, t, h => by
    rcases tyO_cases (show tyO (H a) = some t from h) with ⟨xs, e, rfl⟩ | ⟨xs, e, rfl⟩ | ⟨xs, e, rfl⟩
    · exact k1.2.2.2.2.1
    · exact k1.2.2.2.2.2.1
    · exact k1.2.2.2.2.2.2
theorem kitBl {H : Hp} : ∀ {v : V} {t : String}, tyS H v = some t → kitB t "bool" = some (isBl v)
  | .non, _, h => by cases h; exact k2.1
  | .bl b, _, h => by cases h; exact k2.2.1
  | .int i, _, h => by cases h; exact k2.2.2.1
  | .str x, _, h => by cases h; exact k2.2.2.2.1
  | .ref a, t, h => by
    rcases tyO_cases (show tyO (H a) = some t from h) with ⟨xs, e, rfl⟩ | ⟨xs, e, rfl⟩ | ⟨xs, e, rfl⟩
    · exact k2.2.2.2.2.1
    · exact k2.2.2.2.2.2.1
    · exact k2.2.2.2.2.2.2
section
variable {X : Cx}
/-- isinstance(v, str), isinstance(v, bool) -/
def rIsStr : List V → Hp → VK → Prop := fun vs H Q => ∃ v, vs = [v, .ty "str"] ∧ (tyS H v).isSome = true ∧ Q (.bl (isStr v)) H
def rIsBl : List V → Hp → VK → Prop := fun vs H Q => ∃ v, vs = [v, .ty "bool"] ∧ (tyS H v).isSome = true ∧ Q (.bl (isBl v)) H
theorem rd_isStr {v c : V} {H : Hp} {Q : VK} : rIsStr [v, c] H Q = (c = .ty "str" ∧ (tyS H v).isSome = true ∧ Q (.bl (isStr v)) H) := by
  simp [rIsStr, and_assoc]
theorem rd_isBl {v c : V} {H : Hp} {Q : VK} : rIsBl [v, c] H Q = (c = .ty "bool" ∧ (tyS H v).isSome = true ∧ Q (.bl (isBl v)) H) := by
  simp [rIsBl, and_assoc]
theorem call_isStr : CallR X (.builtin "isinstance") rIsStr := call_isi.imp fun _ _ _ ⟨v, e, h, q⟩ => by
  obtain ⟨t, ht⟩ := Option.isSome_iff_exists.mp h
  exact ⟨v, .ty "str", .type t, .type "str", isStr v, e, .ty "str", tyX_of ht, kit_ty (kitStr ht), q⟩
theorem call_isBl : CallR X (.builtin "isinstance") rIsBl := call_isi.imp fun _ _ _ ⟨v, e, h, q⟩ => by
  obtain ⟨t, ht⟩ := Option.isSome_iff_exists.mp h
  exact ⟨v, .ty "bool", .type t, .type "bool", isBl v, e, .ty "bool", tyX_of ht, kit_ty (kitBl ht), q⟩
/-! ### x in a tuple of texts -/
def hasS (ws : List Str) : V → Bool
  | .str x => ws.contains x
  | _ => false
theorem inV_strs (x : Str) : ∀ ws : List Str, inV (.str x) (ws.map V.str) = ws.contains x
  | [] => rfl
  | w :: r => by
    have ih := inV_strs x r
    unfold inV at ih ⊢
    rw [List.map_cons, List.any_cons, ih, List.contains_cons]
    congr 1
    show (w == x) = (x == w)
    exact Bool.eq_iff_iff.mpr ⟨fun h => beq_iff_eq.mpr (beq_iff_eq.mp h).symm, fun h => beq_iff_eq.mpr (beq_iff_eq.mp h).symm⟩
theorem flat_strs : ∀ ws : List Str, (ws.map V.str).all flatV = true
  | [] => rfl
  | _ :: r => by rw [List.map_cons, List.all_cons, flat_strs r]; rfl
def rInS (K : PySem.W.Frag) : R2 := fun x y H Q => ∃ a, y = .ref a ∧ isStr x = true ∧ ∃ ws : List Str, SqT K H a (ws.map V.str) ∧ Q (.bl (hasS ws x)) H
theorem rd_inS {K : PySem.W.Frag} {x y : V} {H : Hp} {Q : VK} : rInS K x y H Q = ∃ a, y = .ref a ∧ isStr x = true ∧ ∃ ws : List Str, SqT K H a (ws.map V.str) ∧ Q (.bl (hasS ws x)) H := rfl
theorem op_inS : OpR X (compareOp .In) (rInS X.K) := op_in_seq.imp fun x _ _ _ ⟨a, ey, hx, ws, hs, q⟩ => by
  cases x with
  | str x =>
    refine ⟨a, ws.map V.str, ey, .inr hs, rfl, flat_strs ws, ?_⟩
    show _ 
    rw [if_neg Bool.false_ne_true, inV_strs]
    exact q
  | _ => cases hx
end
/-! ### words -/
def letters : Str := "abcdefghijklmnopqrstuvwxyz"
def isWord : V → Bool
  | .str x => (decide (1 ≤ x.length) && decide (x.length ≤ 8)) && x.cps.toList.all fun c => decide (c ∈ letters.cps.toList)
  | _ => false
theorem rd_chain {σ : L2.St} {H : Hp} {Q : Bool → Hp → Prop} {r r' : R2} {ta tb tc : TE} : tTest (tChain r r' ta tb tc) σ H Q = tChain r r' ta tb tc σ H fun x H' => ∃ k, x = .bl k ∧ Q k H' := rfl
theorem rd_chain' {σ : L2.St} {H : Hp} {Q : VK} {r r' : R2} {ta tb tc : TE} : tChain r r' ta tb tc σ H Q = ta σ H fun x H1 => tb σ H1 fun y H2 => r x y H2 fun z H3 => ∃ k, z = .bl k ∧ (if k = true then tc σ H3 fun w' H4 => r' y w' H4 Q else Q (.bl false) H3) := rfl
end My
namespace My
open PySem PySem.Spec PyProof.Rows L2
section
variable {X : Cx} {pos : Pos}
theorem pe_tyStr (hm : X.mg "str" = none) (hg : Gl X "str" := by rfl) : PE X (.Name "str" pos) (tC (.ty "str")) := pe_bltn (v := .ty "str") (u := .type "str") hg hm (by decide +kernel) rfl
theorem pe_tyBool (hm : X.mg "bool" = none) (hg : Gl X "bool" := by rfl) : PE X (.Name "bool" pos) (tC (.ty "bool")) := pe_bltn (v := .ty "bool") (u := .type "bool") hg hm (by decide +kernel) rfl
theorem pe_gS {x z : Str} {t : Tok} (hm : X.mg x = some (.str z t)) (hg : Gl X x := by rfl) (hd : (x == ("__debug__" : Str)) = false := by decide) : PE X (.Name x pos) (tC (.str z)) := pe_glob (v := .str z) hg hm ⟨t, rfl⟩ hd
theorem pe_gR {x : Str} {a : Addr} (hm : X.mg x = some (.ref a)) (hg : Gl X x := by rfl) (hd : (x == ("__debug__" : Str)) = false := by decide) : PE X (.Name x pos) (tC (.ref a)) := pe_glob (v := .ref a) hg hm rfl hd
end
end My

set_option Elab.async false
set_option linter.all false
set_option maxRecDepth 100000
set_option maxHeartbeats 2000000
namespace My
open PySem PySem.Spec PyProof.Rows L2
theorem take_more {α : Type} : ∀ {l : List α} {i : Nat} {x : α}, l[i]? = some x → l.take (i + 1) = l.take i ++ [x]
  | [], i, x, h => by simp at h
  | a :: l, 0, x, h => by
    have e : a = x := Option.some.inj h
    subst e
    rfl
  | a :: l, i + 1, x, h => by
    have ih := take_more (l := l) (i := i) (x := x) h
    show a :: l.take (i + 1) = a :: l.take i ++ [x]
    rw [ih]
    rfl
/-- [e for c in text], e leaving the heap as it is -/
theorem lc_str {tl te : TE} {σ : L2.St} {H : Hp} {Q : VK} {j : Nat} {vs : List Nat} {z : Str} (f : Nat → V) (hz : z.length ≤ 100000) (hl : ∀ Q : VK, Q (.str z) H → tl σ H Q) (hw : ∀ x, wipe ((wipe σ vs).set j (some x)) vs = wipe σ vs)
    (he : ∀ (c : Nat) (H' : Hp) (R : VK), Same H H' → R (f c) H' → te ((wipe σ vs).set j (some (.str ⟨#[c]⟩))) H' R)
    (hq : ∀ (D : Addr) (H' : Hp), H D = none → Same H H' → H' D = some (.lst (z.cps.toList.map f)) → Q (.ref D) H') : tLc (iStr tl) (gName j) tYes te vs σ H Q := by
  refine hl _ ⟨z, rfl, fun D hD => lc_it (walk_str (z := z)) (fun i H' => Same H H' ∧ H' D = some (.lst ((z.cps.toList.take i).map f))) ⟨My.Same.new (Same.refl H) hD, upd_same⟩ (fun _ _ _ _ => trivial) ?_ ?_⟩
  · rintro i x H' H2 hi ⟨sm, hl'⟩ ⟨rfl, c, hc, rfl⟩
    refine ⟨hw _, ?_⟩
    simp only [tYes, if_true]
    refine he c _ _ sm ⟨_, hl', szl ?_, My.Same.new sm hD, ?_⟩
    · have hz' : z.cps.size ≤ 100000 := hz
      rw [List.length_map, List.length_take]
      omega
    · rw [upd_same]
      have hc' : z.cps.toList[i]? = some c := by rw [Array.getElem?_toList]; exact hc
      rw [take_more hc', List.map_append]
      rfl
  · rintro H' ⟨sm, hl'⟩
    have e : z.cps.toList.take z.cps.size = z.cps.toList := List.take_of_length_le (by simp)
    rw [e] at hl'
    exact hq D H' hD sm hl'
def rAllB : List V → Hp → VK → Prop := fun vs H Q => ∃ a, vs = [.ref a] ∧ ∃ bs : List Bool, H a = some (.lst (bs.map V.bl)) ∧ Q (.bl (bs.all id)) H
theorem rd_allB {a : Addr} {H : Hp} {Q : VK} : rAllB [.ref a] H Q = ∃ bs : List Bool, H a = some (.lst (bs.map V.bl)) ∧ Q (.bl (bs.all id)) H := by
  simp [rAllB]
theorem cr_allB {X : Cx} (hc : X.calm = true) : CallR X (.builtin "all") rAllB := (cr_all hc).imp fun _ _ _ ⟨a, e, bs, h, q⟩ => ⟨a, bs, e, SqL.of h, q⟩
end My

set_option Elab.async false
set_option linter.all false
set_option maxRecDepth 100000
set_option maxHeartbeats 2000000
namespace My
open PySem PySem.Spec PyProof.Rows L2
/-- an error class of the module with one field, made by its own __init__ at fI -/
structure Xc (K : PySem.W.Frag) (mg : Str → Option Value) (nm fld qual : Str) (st : Stmt) where
  C : Addr
  fI : Addr
  fd : FuncData
  oex : OexC K C
  iC : PySem.W.findIn K (.ref C) "__init__" = some (some (.ref fI))
  tI : PySem.W.typeIn K (.ref fI) = some (.type "function")
  F : Fun K "__init__" qual st fI fd
  b : Binds K fd ["self", fld] []
  g : mg nm = some (.ref C)
  no : PySem.W.findIn K (.ref C) fld = some none
  xf : XfC K C
/-- what its __init__ promises -/
def spXi (C : Addr) (fld : Str) : Sp := fun vs H Q _ => ∃ (a : Addr) (v : V), vs = [.ref a, v] ∧ H a = some (exo a C none) ∧ ∀ dx, H dx = none → dx ≠ a → Q .non (upd (upd H dx (exd dx [(fld, v)])) a (exo a C (some dx)))
/-- raise C(text): E is wished of the class, the new dict d that holds the field, and a heap in which all else is as it was -/
def tRz (C : Addr) (fld m : Str) (W : WX) : TS := fun _ σ H => ∀ d H', H d = none → Same H H' → H' d = some (.xd [(fld, .str m)]) → W (.ref C) (some d) σ H'
theorem ps_rz {X : Cx} {nm fld qual m : Str} {st : Stmt} {W : WX} {k j : Nat} {p p2 pos pos2 : Pos} (T : Xc X.K X.mg nm fld qual st) (F1 : FnOk X.prog X.w X.K X.mg X.base CX0 k T.fI T.fd ["self", fld] (spXi T.C fld)) (hc : X.calm = true) (hr : Room (k + 1) X.A) (tk : Takes X W)
    (hg : Gl X nm := by rfl) (hdb : (nm == ("__debug__" : Str)) = false := by decide +kernel)
    (he : starEach (.Constant (.str m) j p2 :: []) X.env = (false, eval (.Constant (.str m) j p2) X.env) :: starEach [] X.env := by rfl) (hpl : (backTo pos (starEach [] X.env)).any (·.1) = false := by rfl) :
    PS X (.Raise (some (.Call (.Name nm p) [.Constant (.str m) j p2] [] pos)) none pos2) (tRz T.C fld m W) := by
  refine PS.imp (ps_raise hc tk (pmk_oex T.oex T.iC T.tI F1 hr T.b .nil pass0 hg T.g (pa_cons pe_str pa_nil) hdb he hpl)) fun D σ H q => ?_
  show _ ∧ _
  refine ⟨by show 1 ≤ 1000; decide, fun a ha => ⟨a, .str m, rfl, upd_same, fun dx hdx hne => ?_⟩⟩
  have hdx' : H dx = none := by rw [upd_ne hne] at hdx; exact hdx
  refine ⟨rfl, dx, [(fld, .str m)], upd_same, by rw [upd_ne hne, upd_same], hdx', ?_⟩
  refine q dx _ hdx' (fun b o e => ?_) upd_same
  have h1 : b ≠ dx := ne_of_none e hdx'
  have h2 : b ≠ a := ne_of_none e ha
  rw [upd_ne h1, del_ne h2, upd_ne h2, upd_ne h1, upd_ne h2]
  exact e
/-- what a call in a try's body may let out: wished at all slots -/
theorem passAll {X : Cx} {W : WX} (tk : Takes X W) : Passes (L2.CX X.prog X.w) X (fun cls d H => ∀ σ : L2.St, σ.length = X.N.length → W cls d σ H) := fun pins σ H s e s' I c => tk e s' (XE.of_call I (fun _ _ _ h => h σ I.len) c)
end My

set_option Elab.async false
set_option linter.all false
set_option maxRecDepth 100000
set_option maxHeartbeats 2000000
namespace My
open PySem PySem.Spec PyProof.Rows L2
theorem rd_fldS {K : PySem.W.Frag} {ta tv : TE} {f : Str} {D : Ends} {σ : L2.St} {H : Hp} : sFld K ta tv f D σ H = tv σ H fun y H1 => ta σ H1 fun x H2 => ∃ a C dx fs, x = .ref a ∧ H2 a = some (.ins C dx fs) ∧ Cls K C ∧ NoAttr K C f ∧ fs.length < 1000 ∧ D.nx σ (upd H2 a (.ins C dx (putF f y fs))) := by
  unfold sFld
  rfl
theorem rd_fldE {K : PySem.W.Frag} {ta : TE} {f : Str} {σ : L2.St} {H : Hp} {Q : VK} : tFld K ta f σ H Q = ta σ H fun x H1 => ∃ a C dx fs v, x = .ref a ∧ H1 a = some (.ins C dx fs) ∧ Cls K C ∧ NoAttr K C f ∧ fs.lookup f = some v ∧ Q v H1 := rfl
theorem rd_eq {x y : V} {H : Hp} {Q : VK} : L2.rEq x y H Q = (scal x y = true ∧ Q (.bl (decide (x = y))) H) := rfl
theorem rd_ne {x y : V} {H : Hp} {Q : VK} : L2.rNe x y H Q = (scal x y = true ∧ Q (.bl (!decide (x = y))) H) := rfl
theorem rd_rz {C : Addr} {fld m : Str} {W : WX} {D : Ends} {σ : L2.St} {H : Hp} : tRz C fld m W D σ H = ∀ d H', H d = none → Same H H' → H' d = some (.xd [(fld, .str m)]) → W (.ref C) (some d) σ H' := rfl
theorem tyS_same {H H' : Hp} {v : V} (e : Same H H') (h : (tyS H v).isSome = true) : (tyS H' v).isSome = true := by
  cases v with
  | ref a =>
    obtain ⟨t, ht⟩ := Option.isSome_iff_exists.mp h
    rcases tyO_cases (show tyO (H a) = some t from ht) with ⟨xs, z, _⟩ | ⟨xs, z, _⟩ | ⟨xs, z, _⟩
    all_goals
      show (tyO (H' a)).isSome = true
      rw [e a _ z]
      rfl
  | _ => exact h
/-- a value whose type is known; a text is short -/
def Ty (H : Hp) (v : V) : Prop := (tyS H v).isSome = true ∧ ∀ x, v = .str x → x.length ≤ 1000
theorem Ty.same {H H' : Hp} {v : V} (h : Ty H v) (e : Same H H') : Ty H' v := ⟨tyS_same e h.1, h.2⟩
end My

set_option Elab.async false
set_option linter.all false
set_option maxRecDepth 100000
set_option maxHeartbeats 4000000
namespace PySem.W
open PySem PySem.Spec PySem.Calls PyProof.Rows
/-- isinstance says True by the type alone: nothing else is asked of the object -/
theorem ans_yes {K : Frag} {x t c : Value} {G : Heap → Prop}
    (ty : ∀ (M : Model) (h : Heap), K.In h → G h → Looks M h (typeOf x) t)
    (ne : (t == c) = false) (e : kitCls K t c = some true) :
    Answers (fun s => K.In s.heap ∧ G s.heap) x c true := by
  intro dep tk prog w A R ⟨h0, g, d, tt, os⟩ ⟨⟨KX, p⟩, fin⟩
  have L1 := ty (model prog w) h0 KX p
  have L2 := kit_cls (M := model prog w) KX e
  unfold Builtin.«isinstance.nested»
  refine wpAny_bind (L1.at ?_)
  rw [ne]
  rw [if_neg Bool.false_ne_true]
  refine wpAny_bind (L2.1.at ?_)
  rw [if_pos (by decide)]
  k_delta "plainIsInstance"
  refine wpAny_bind ?_
  refine wpAny_bind (L2.2.1.at ?_)
  simp only [Bool.not_true, Bool.false_eq_true, if_false]
  have L3 : Looks (model prog w) h0 (isInstance x c) true := L1.andThen L2.2.2
  refine wpAny_bind (L3.at ?_)
  have done := fin tt
  first
    | exact wpAny_pure (wpAny_pure done)
    | (simp only [if_true]; exact wpAny_pure (wpAny_pure done))
    | (simp only [if_true]; exact wpAny_pure done)
    | (simp only [if_true]; exact wpAny_bind (wpAny_pure (wpAny_pure done)))
end PySem.W
namespace My
open PySem PySem.Spec PyProof.Rows L2
/-- isinstance(e, c), e the caught error, its class another one below c -/
def rIsUp (D a : Addr) : List V → Hp → VK → Prop := fun vs H Q => ∃ c : Addr, vs = [.ref a, .ref c] ∧ Q (.bl true) H
theorem call_isUp {X : Cx} {a D c : Addr} {oe : Obj} {pn : List (Addr × Obj)} {d : Option Addr} {cls : Value} (hz : Zc cls d oe) (hne : D ≠ c) (e : PySem.W.kitCls X.K (.ref D) (.ref c) = some true) :
    CallR (X.suite a ((a, oe) :: pn)) (.builtin "isinstance") (fun vs H Q => cls = .ref D ∧ vs = [.ref a, .ref c] ∧ Q (.bl true) H) := by
  intro pins s σ H xs us Q I r h
  obtain ⟨ec, rfl, q⟩ := h
  subst ec
  obtain ⟨u1, u2, rfl, r1, r2⟩ := vals2 r
  cases (show u1 = Value.ref a from r1)
  cases (show u2 = Value.ref c from r2)
  obtain ⟨hget, _⟩ := I.pin (a, oe) (List.mem_append.mpr (.inl List.mem_cons_self))
  have ty : ∀ (M : Model) (h : Heap), X.K.In h → h.get? a = some oe → PySem.W.Looks M h (typeOf (.ref a)) (.ref D) := fun M h _ ho A Q E s k q => wpAny_typeOf_ref (k _ _ ho) (by rw [hz.1]; exact q)
  have ne : (Value.ref D == Value.ref c) = false := by simpa using hne
  exact PySem.call_isinstance (S := fun _ R s' => (X.K.In s'.heap ∧ s'.heap.get? a = some oe) ∧ ∀ tk, R (.ok (.ret (.bool true))) { s' with toks := tk })
    (fun prog w A R s' hs => PySem.isinstance_outer (PySem.W.ans_yes (K := X.K) (G := fun h => h.get? a = some oe) ty ne e 0 _ prog w A R s' hs) (fun z => nomatch z)) ⟨⟨I.kIn, hget⟩, fun tk => ⟨.bl true, H, I.kept (t' := tk) fun _ _ z => z, rfl, q⟩⟩
end My

set_option Elab.async false
set_option linter.all false
set_option maxRecDepth 100000
set_option maxHeartbeats 2000000
namespace My
open PySem PySem.Spec PyProof.Rows L2
section
variable {X : Cx}
/-- d[k], d a dict that stands in H, k a text that is there -/
def tDg (td ty : TE) : TE := fun σ H Q => td σ H fun x H1 => ty σ H1 fun y H2 => ∃ a k, x = .ref a ∧ y = .str k ∧ ∃ kvs : List (Key × V), H2 a = some (.dK kvs) ∧ ∃ v, valV kvs (Sum.inr k) = some v ∧ Q v H2
theorem rd_dg {td ty : TE} {σ : L2.St} {H : Hp} {Q : VK} : tDg td ty σ H Q = td σ H fun x H1 => ty σ H1 fun y H2 => ∃ a k, x = .ref a ∧ y = .str k ∧ ∃ kvs : List (Key × V), H2 a = some (.dK kvs) ∧ ∃ v, valV kvs (Sum.inr k) = some v ∧ Q v H2 := rfl
theorem pe_dg {o i : Expr} {td ty : TE} {pos : Pos} (hu : X.A.units + 64 < cLine) (ho : PE X o td) (hi : PE X i ty) (hs : NoSl i := by exact fun _ _ => rfl) : PE X (.Subscript o i pos) (tDg td ty) :=
  (pe_dget (by omega) ho.mon hi.mon hs).imp fun σ H Q q => ⟨_, q, fun x H1 q1 => ⟨_, q1, fun y H2 ⟨a, k, ex, ey, kvs, ha, v, hv, q2⟩ => ⟨a, v, ex, .inl ⟨kvs, Sum.inr k, .inl ha, ey, hv.symm⟩, q2⟩⟩⟩
/-- d[k] = v -/
def sDp (td ty tv : TE) : TS := fun D σ H => tv σ H fun v H1 => td σ H1 fun x H2 => ty σ H2 fun y H3 => ∃ a k, x = .ref a ∧ y = .str k ∧ ∃ kvs : List (Key × V), H3 a = some (.dK kvs) ∧ kvs.length < sizeLine ∧ D.nx σ (upd H3 a (.dK (putK kvs (Sum.inr k) v)))
theorem rd_dp {td ty tv : TE} {σ : L2.St} {H : Hp} {D : Ends} : sDp td ty tv D σ H = tv σ H fun v H1 => td σ H1 fun x H2 => ty σ H2 fun y H3 => ∃ a k, x = .ref a ∧ y = .str k ∧ ∃ kvs : List (Key × V), H3 a = some (.dK kvs) ∧ kvs.length < sizeLine ∧ D.nx σ (upd H3 a (.dK (putK kvs (Sum.inr k) v))) := rfl
theorem ps_dp {o i value : Expr} {td ty tv : TE} {pos pos' : Pos} (hu : X.A.units + 64 < cLine) (ho : PE X o td) (hi : PE X i ty) (hv : PE X value tv) (hs : swapsWith value (some (.Subscript o i pos')) pos.line X.env = pure false := by rfl) : PS X (.Assign [.Subscript o i pos'] value pos) (sDp td ty tv) :=
  (ps_dput (by omega) ho.mon hi.mon hv.mon hs).imp fun D σ H q => ⟨_, q, fun v H1 q1 => ⟨_, q1, fun x H2 q2 => ⟨_, q2, fun y H3 ⟨a, k, ex, ey, kvs, ha, hz, q3⟩ => ⟨a, _, ex, .inl ⟨kvs, Sum.inr k, ha, ey, hz, rfl⟩, q3⟩⟩⟩⟩
end
theorem put_len (kvs : List (Key × V)) (k : Key) (v : V) : (putK kvs k v).length ≤ kvs.length + 1 := by
  unfold putK
  split
  · rw [List.length_map]; omega
  · rw [List.length_append]; exact Nat.le_refl _
end My

set_option Elab.async false
set_option linter.all false
set_option maxRecDepth 100000
set_option maxHeartbeats 2000000
namespace My
open PySem PySem.Spec PyProof.Rows L2
/-- repr(a), a a list or tuple of plain values (the caller writes no text at the time: guards) -/
def rRepr (K : PySem.W.Frag) : List V → Hp → VK → Prop := fun vs H Q => ∃ (a : Addr) (d : PyData), vs = [.ref a] ∧ Dp K H (.ref a) d ∧ d.showable = true ∧ d.hasDict = false ∧ d.depth ≤ 3 ∧ d.shown.length ≤ 100000 ∧ Q (.str d.shown) H
theorem rd_repr {K : PySem.W.Frag} {a : Addr} {H : Hp} {Q : VK} : rRepr K [.ref a] H Q = ∃ (d : PyData), Dp K H (.ref a) d ∧ d.showable = true ∧ d.hasDict = false ∧ d.depth ≤ 3 ∧ d.shown.length ≤ 100000 ∧ Q (.str d.shown) H := by
  simp [rRepr]
theorem call_repr {X : Cx} (hg : X.A.guards = some []) (hu : X.A.units + 64 < cLine) : CallR X (.builtin "repr") (rRepr X.K) := by
  intro pins s σ H xs us Q I r h
  obtain ⟨a, d, rfl, hd, hs, hn, hp, hl, q⟩ := h
  cases r with
  | cons r1 r2 =>
    cases r2
    cases r1
    obtain ⟨as, rr⟩ := Dp.reads I d _ _ hd rfl
    exact repr_of_reads' rr hs (fun z => by rw [hn] at z; cases z) hg (by omega) (fun _ _ e => e) (fun h' u tk hk => ⟨.str d.shown, H, I.kept hk, ⟨u, rfl⟩, q⟩) (sz hl)
/-! ### the law's def, called by the judge alone: nothing is being written as text -/
/-- the promise of a def at the one place where the law is called -/
def AtTop (P : Program) (w : World) (K : PySem.W.Frag) (mg : Str → Option Value) (base : Heap) (f : Addr) (fd : FuncData) (ps : List Str) (sp : Sp) : Prop :=
  ∀ (s : Shared) (H : Hp) (as : Args) (us : List Value) (vs : List V) (Q : VK) (E : XK), Env0 P w K mg base callerA [] s H → BindsTo s fd as (ps.zip us) → Vals vs us → sp vs H Q E → codeAny (model P w) callerA (.call (.ref f) as) (CR CX0 [] P w H s Q E) s
theorem top_ok {P : Program} {w : World} {K : PySem.W.Frag} {mg : Str → Option Value} {base : Heap} {nm qual : Str} {st : Stmt} {f : Addr} {fd : FuncData} {N ps : List Str} {sp : Sp} {k : Nat} (F : Fun K nm qual st f fd) (S : FnScope N ps (defScope st))
    (rm : Room (k + 1) callerA) (ln : ∀ vs H Q E, sp vs H Q E → vs.length = ps.length)
    (bd : ∀ (cdv : Value) (s : Shared) (H : Hp) (vs : List V) (Q : VK) (E : XK), Room k (callerA.deeper (envOfC qual (defScope st) s.heap.objs.size f cdv)) → sp vs H Q E →
      ∃ t, PSs (cxOf CX0 P w K mg base N qual (defScope st) f cdv callerA [] s H E).nox (defBody st) t ∧ t { nx := fun _ H' => Q .non H', rt := Q } (start N vs) H) : AtTop P w K mg base f fd ps sp := by
  intro s H as us vs Q E env bt rv hs
  have hX := F.ex
  obtain ⟨oc, od, kV, doc, pm, an, cdv, ct, osl, efd, hlk, hcode⟩ := hX
  subst efd
  have nvs := ln _ _ _ _ hs
  have old := fun b o e => (env.bs b o e).1
  have inK : K.In s.heap := env.mod.kin.keeps old
  have lims : s.heap.NoLimit := env.mod.nolimit.keeps old
  have kinds : ∀ z ∈ ps.zip us, (defScope st).names.lookup z.1 = some .local ∨ ((defScope st).names.lookup z.1 = some .cell ∧ ((cellsFrom (s.heap.objs.size + 1) (defScope st).names []).lookup z.1).isSome = true) := by
    intro z hz
    have zin := (List.of_mem_zip (a := z.1) (b := z.2) hz).1
    exact (S.par z.1 zin).imp id fun c => ⟨c, PySem.W.cellsFrom_some _ _ _ (.inl c)⟩
  refine codeAny_call_function rm.depth (inK _ _ hlk) rfl S.co S.gen rfl (PySem.W.codeRec_of inK hcode) ?body
  refine bt _ _ _ _ ?bound
  refine wpAny_newFunctionEnv_cells S.kind kinds ?made
  intro env1 e1 st1 made
  subst e1
  obtain ⟨t, ht, hq⟩ := bd cdv s H vs Q E (rm.deeper _) hs
  have I := inv_start (CX := CX0) (E := E) S rm.hd env nvs rv made
  refine ⟨lims.keeps made.toInCall.keep, codeAny_func (wpAny_mono ((ht.nox).run [] st1 (start N vs) H _ I hq) ?_ fun _ _ z => z)⟩
  intro fl s' out
  cases fl with
  | brk => exact out.elim fun _ z => z.elim fun _ z => z.2.elim
  | cont => exact out.elim fun _ z => z.elim fun _ z => z.2.elim
  | next =>
    obtain ⟨_, H', J, q⟩ := out
    exact ⟨V.non, H', J.os, J.bare, J.base, J.hok, rfl, q⟩
  | ret u =>
    obtain ⟨v, _, H', J, rv', q⟩ := out
    exact ⟨v, H', J.os, J.bare, J.base, J.hok, rv', q⟩
end My

set_option Elab.async false
set_option linter.all false
set_option maxRecDepth 100000
set_option maxHeartbeats 2000000
namespace My
open PySem PySem.Spec PyProof.Rows L2
section
variable {P : Program} {w : World} {K : PySem.W.Frag} {mg mb : Str → Option Value} {lawA scr : Addr} {fd : FuncData} {par : Str} {sp : Sp} {st : Shared} {its : List Value} {nums : List Int}
/-- what the judge's call tells -/
abbrev Told (st : Shared) (r : Result) (st' : Shared) : Prop := r = .ok (.ret (.bool true)) ∧ OldK st.heap st'.heap ∧ st'.os = st.os ∧ AllBare st'.gens
/-- from any abstract heap that holds no more than the script -/
theorem top_at (inK : K.In st.heap) (gl : st.heap.Ns mainGlobals mg) (bn : st.heap.Ns builtinsNs mb) (boot : ∀ n : Str, n ≠ "__name__" → mb n = bootBuiltins n) (free : st.heap.NoLimit) (noGen : st.gens = #[])
    (scrO : st.heap.get? scr = some { cls := .type "list", data := .seq its.toArray }) (F : ∀ base : Heap, K.In base → base.Ns mainGlobals mg → AtTop P w K mg base lawA fd [par] sp) (bnd : ∀ (s : Shared) (u : Value), BindsTo s fd ⟨[u], []⟩ [(par, u)])
    {H : Hp} (few : ∀ b, H b = none ∨ (b = scr ∧ ∃ o xs, H b = some (.frz o (.lst xs)))) (apart : ∀ b, H b ≠ none → K.lookup b = none) (good : HOk P w H st.heap) (hsp : sp [.ref scr] H (fun v _ => v = .bl true) fun _ _ _ => False) :
    codeAny (model P w) callerA (.call (.ref lawA) ⟨[.ref scr], []⟩) (Told st) st := by
  have sees := fun {b : Addr} {o : Obj} (e : st.heap.get? b = some o) (z : H b = none) => hidT_get (H := H) e z
  have kIn : K.In (hidT st.heap H) := by
    intro b o e
    refine sees (inK b o e) (Classical.byContradiction fun z => ?_)
    rw [apart b z] at e
    cases e
  have nsIn : ∀ {b : Addr} {m : Str → Option Value}, st.heap.Ns b m → (hidT st.heap H).Ns b m := by
    rintro b m ⟨o, es, ep, e, d, r⟩
    refine ⟨o, es, ep, sees e ?_, d, r⟩
    rcases few b with z | ⟨rfl, _⟩
    · exact z
    · obtain rfl := Option.some.inj (e.symm.trans scrO)
      have d2 : Data.seq its.toArray _ = Data.dict es ep := d
      cases d2
  obtain ⟨ml, fr1, fr2⟩ := free
  have env : Env0 P w K mg (hidT st.heap H) callerA [] st H := by
    refine ⟨rfl, ⟨kIn, nsIn gl, ⟨mb, nsIn bn, boot⟩, ⟨ml, nsIn fr1, fr2⟩⟩, fun _ _ e => of_hidT e, Nat.le_of_eq (hidT_size _ _), trivial, ?_, good, .of_eq noGen⟩
    intro b hb
    have hb' : b ∈ ([] : List Addr) := hb
    cases hb'
  have run := F _ kIn (nsIn gl) st H ⟨[.ref scr], []⟩ [.ref scr] [.ref scr] _ _ env (bnd st _) (.cons rfl .nil) hsp
  refine codeAny_mono run fun r st' out => ?_
  match r, out with
  | .ok (.ret u), ⟨v, H2, os, bare, un, good2, rel, q⟩ =>
    have ev : v = .bl true := q
    rw [ev] at rel
    have eu : u = Value.bool true := rel
    refine ⟨by rw [eu], OldK.of_keep fun b o e => ?_, os, bare⟩
    rcases few b with z | ⟨_, ob, xs, z⟩
    · refine un.keep b o e z (fun m => ?_) (fun m => ?_)
      · have m' : b ∈ ([] : List Addr) := m
        cases m'
      · simp at m
    · have kept := (good2 b _ (un.frzs b ob _ z)).1
      have was := (good b _ z).1
      exact (e.symm.trans was) ▸ kept
theorem top_call (inK : K.In st.heap) (gl : st.heap.Ns mainGlobals mg) (bn : st.heap.Ns builtinsNs mb) (boot : ∀ n : Str, n ≠ "__name__" → mb n = bootBuiltins n) (free : st.heap.NoLimit) (noGen : st.gens = #[])
    (scrO : st.heap.get? scr = some { cls := .type "list", data := .seq its.toArray }) (nrs : IntsAre its nums) (short : nums.length ≤ sizeLine) (F : ∀ base : Heap, K.In base → base.Ns mainGlobals mg → AtTop P w K mg base lawA fd [par] sp)
    (bnd : ∀ (s : Shared) (u : Value), BindsTo s fd ⟨[u], []⟩ [(par, u)]) (hsp : ∀ H : Hp, SqL K H scr (nums.map V.int) → sp [.ref scr] H (fun v _ => v = .bl true) fun _ _ _ => False) :
    codeAny (model P w) callerA (.call (.ref lawA) ⟨[.ref scr], []⟩) (Told st) st := by
  have vals := vals_ints nrs
  cases look : K.lookup scr with
  | some o =>
    obtain rfl := Option.some.inj ((inK scr o look).symm.trans scrO)
    refine top_at (H := fun _ => none) inK gl bn boot free noGen scrO F bnd (fun _ => .inl rfl) (fun _ z => absurd rfl z) (fun b u z => ?_) (hsp _ (.inr ⟨_, its.toArray, _, look, rfl, rfl, rfl, ?_, ?_⟩))
    · have z2 : (none : Option HO) = some u := z
      cases z2
    · rw [List.size_toArray, nrs.length]
      exact short
    · exact (by simpa using vals)
  | none =>
    let only : Hp := fun b => if b = scr then some (.frz { cls := .type "list", data := .seq its.toArray } (.lst (nums.map V.int))) else none
    have on : only scr = some (.frz { cls := .type "list", data := .seq its.toArray } (.lst (nums.map V.int))) := if_pos rfl
    have off : ∀ b, b ≠ scr → only b = none := fun b z => if_neg z
    refine top_at (H := only) inK gl bn boot free noGen scrO F bnd (fun b => ?_) (fun b z => ?_) (fun b u z => ?_) (hsp _ (.inl (.inr ⟨_, on⟩)))
    · by_cases e : b = scr
      · exact .inr ⟨e, _, _, e ▸ on⟩
      · exact .inl (off b e)
    · by_cases e : b = scr
      · rw [e]
        exact look
      · exact absurd (off b e) z
    · by_cases e : b = scr
      · subst e
        obtain rfl := Option.some.inj (on.symm.trans z)
        exact ⟨scrO, by rw [List.length_map]; exact short, its, _, vals, scrO⟩
      · rw [off b e] at z
        cases z
end
/-- the head's goal, from the law's promise at the top -/
theorem top_walk {l : PySem.W.OpenLaw} {n : Nat} {q : Program} {loose : List Str} {XP : (Str → Option Value) → Heap → Prop} {YP : World → Heap → Prop} {d : DefRec} {K : Params → PySem.W.Frag} {sp : PySem.W.Frag → Sp} {par : Str} (most : l.most = some n) (few : n ≤ sizeLine) (nod : d.params.defaults = [])
    (yk : ∀ (w : World) (h : Heap), YP w h → (K w.params).In h)
    (F : ∀ (w : World) (mg : Str → Option Value) (fa : Addr) (h : Heap), (K w.params).In h → h.Ns mainGlobals mg → mg d.name = some (.ref fa) →
      ∃ fd : FuncData, (∀ (s : Shared) (u : Value), BindsTo s fd ⟨[u], []⟩ [(par, u)]) ∧ ∀ base : Heap, (K w.params).In base → base.Ns mainGlobals mg → AtTop l.prog w (K w.params) mg base fa fd [par] (sp (K w.params)))
    (hsp : ∀ (K : PySem.W.Frag) (H : Hp) (a : Addr) (ns : List Int), ns.length ≤ n → SqL K H a (ns.map V.int) → sp K [.ref a] H (fun v _ => v = .bl true) fun _ _ _ => False) :
    PySem.W.WalkO q loose XP YP l.row.toRowW d [] (fun f vs => PySem.call f vs) :=
  Att.attach_call most nod fun w _ s₁ mg mb fa _ _ _ _ a vs ns G Y _ _ _ name obj nrs len none => by
    obtain ⟨fd, bnd, run⟩ := F w mg fa _ (yk w _ Y) G.T.g name
    exact top_call (yk w _ Y) G.T.g G.T.b G.T.builtins G.T.nolimit none obj nrs (Nat.le_trans len few) run bnd fun H sq => hsp _ H a ns len sq
end My

set_option Elab.async false
set_option linter.all false
set_option maxRecDepth 100000
set_option maxHeartbeats 2000000
namespace My
open PySem PySem.Spec PyProof.Rows L2
def topOf (nm : Str) : List Stmt → Stmt
  | [] => .Pass ⟨0, 0, 0, 0⟩
  | s :: r => match s with
    | .FunctionDef n _ _ _ _ _ _ _ _ _ => if n = nm then s else topOf nm r
    | .ClassDef n _ _ _ _ _ _ _ _ _ _ => if n = nm then s else topOf nm r
    | _ => topOf nm r
def topI (i : Nat) : Stmt := PySem.Challenge.pw_answerpiles_k04_wakings_told.main.body.getD i (.Pass ⟨0, 0, 0, 0⟩)
/-- built-in names that the module leaves alone -/
structure Bn (mg : Str → Option Value) : Prop where
  max : mg "max" = none
  min : mg "min" = none
  int : mg "int" = none
  str : mg "str" = none
  bool : mg "bool" = none
  len : mg "len" = none
  all : mg "all" = none
  range : mg "range" = none
  dict : mg "dict" = none
  enumerate : mg "enumerate" = none
  isinstance : mg "isinstance" = none
  repr : mg "repr" = none
abbrev sNumbers : Stmt := topI 12
end My

set_option Elab.async false
set_option linter.all false
set_option maxRecDepth 100000
set_option maxHeartbeats 2000000
namespace My
open PySem PySem.Spec PyProof.Rows L2
abbrev sNum : Stmt := topI 11
/-- all drawn numbers lie from 0 to 839 -/
def Dn (ns : List Int) : Prop := ∀ n ∈ ns, 0 ≤ n ∧ n < 840
/-- _law_numbers: a new list of drawn numbers -/
def spNum : Sp := fun vs H Q _ => ∃ (c k m : Int), vs = [.int c, .int k, .int m] ∧ 0 ≤ k ∧ k ≤ 1000 ∧ 0 ≤ m ∧ m ≤ 1000 ∧
  ∀ (p : Addr) (ns : List Int) (H' : Hp), H p = none → Same H H' → H' p = some (.lst (ns.map V.int)) → Dn ns → Q (.ref p) H'
theorem scNum : FnScope ["cell", "salt", "many", "whole", "left", "result", "k", "one"] ["cell", "salt", "many"] (defScope sNum) := ⟨rfl, rfl, rfl, by decide +kernel, rfl, by decide +kernel, by decide +kernel⟩
section
variable {P : Program} {w : World} {K : PySem.W.Frag} {mg : Str → Option Value} {base : Heap}
local macro_rules | `(tactic| walk_at "rd") => `(tactic| simp only [rd_seq, rd_next, rd_brk, rd_cont, rd_asg, rd_gname, rd_var, rd_c, rd_op, rd_un, rd_rI0, rd_rI, rd_rU, rd_test, rd_B, rd_and, rd_or, rd_not, rd_andV, rd_orV, rd_notV, rd_ifx, rd_ifs, rd_drop, rd_ret, rd_nil, rd_cons, rd_cb, rd_tup, rd_lst, rd_call, rd_bm, rd_app, L2.start, and_assoc, exists_and_left, List.map_cons, List.map_nil, List.length_cons, List.length_nil, List.cons_append, List.nil_append, List.append_nil, List.replicate_succ, List.replicate_zero, List.replicate, List.set_cons_zero, List.set_cons_succ, List.getElem?_cons_zero, List.getElem?_cons_succ, Option.some.injEq, exists_eq_left', exists_eq_left, exists_eq, V.int.injEq, V.ref.injEq, V.str.injEq, V.bl.injEq, HO.lst.injEq, HO.tup.injEq, ex_bl, List.cons.injEq, and_true, true_and, Nat.reduceAdd, Nat.reduceSub, reduceCtorEq, false_and, or_false, exists_false, false_or, decide_eq_true_eq, if_true, if_false, Bool.false_eq_true, Bool.not_true, Bool.not_false, upd_same])
theorem num_end {H H' : Hp} {p : Addr} {ns : List Int} {v : Int} {i : Nat} (hp : H p = none) (sm : Same H H') (dn : Dn ns) (len : ns.length = i) (hi : i < 1000) (hv : 0 ≤ v ∧ v < 840) :
    (ns.map V.int).length < sizeLine ∧ Same H (upd H' p (.lst (ns.map V.int ++ [.int v]))) ∧ ∃ x : List Int, ns.map V.int ++ [.int v] = x.map V.int ∧ Dn x ∧ x.length = i + 1 :=
  ⟨szl (by rw [List.length_map]; omega), My.Same.new sm hp, ns ++ [v], by rw [List.map_append]; rfl, fun n hn => by
    rcases List.mem_append.mp hn with h | h
    · exact dn n h
    · rw [List.mem_singleton.mp h]; exact hv, by rw [List.length_append, len]; rfl⟩
theorem num_math {w0 k : Int} {i : Nat} (k0 : 0 ≤ k) (k1 : k ≤ 1000) (hi : i < 1000) :
    CMul 7717 k ∧ CPow (w0.fmod 2147483629 + 7717 * k + 3) 3 ∧ CMul 99991 ((i : Int) + 1) ∧ CMul (((w0.fmod 2147483629 + 7717 * k + 3) ^ Int.toNat 3).fmod 2147483647 + 99991 * ((i : Int) + 1)) ((i : Int) + 5) ∧
    ∀ a : Int, CPow (a.fmod 2147483629) 5 ∧ ∀ b : Int, CMul (b.fmod 2147483647) 48271 := by
  have h1 := fmod_r (a := w0) (m := 2147483629) (by decide)
  have h2 := fmod_r (a := (w0.fmod 2147483629 + 7717 * k + 3) ^ Int.toNat 3) (m := 2147483647) (by decide)
  refine ⟨.inl ⟨by decide, by decide⟩, ⟨by decide, by decide, by omega⟩, .inl ⟨by decide, by decide⟩, .inr ⟨by omega, by omega⟩, fun a => ⟨⟨by decide, by decide, ?_⟩, fun b => .inr ⟨by decide, by decide⟩⟩⟩
  have h3 := fmod_r (a := a) (m := 2147483629) (by decide)
  omega
theorem cdiv (a : Int) {m : Int} (h : m ≠ 0 ∧ m.natAbs < 1073741824 := by decide) : CDivN a m := h
theorem ok_num {f : Addr} {fd : FuncData} (F : Fun K "_law_numbers" "_law_numbers" sNum f fd) (B : Bn mg) : FnOk P w K mg base CX0 1 f fd ["cell", "salt", "many"] spNum := by
  refine F.ok scNum (fun vs H Q E h => ?_) (fun cdv A outer s H vs Q E hr h => ?_)
  · obtain ⟨c, k, m, rfl, _⟩ := h
    rfl
  · obtain ⟨c, k, m, rfl, k0, k1, m0, m1, q⟩ := h
    refine ⟨_, pss_cons (ps_set (i := 3) scNum.nd rfl (Or.inl rfl) (pe_callB (call_max2 rfl) (by rfl) B.max (by decide +kernel) (pa_cons (pe_callTy call_int1 (by rfl) B.int (by decide +kernel) (pa_cons (pv 0) pa_nil)) (pa_cons (pe_callTy call_int1 (by rfl) B.int (by decide +kernel) (pa_cons (pe_op op_sub (pe_un un_neg pe_int) (pv 0)) pa_nil)) pa_nil))))
      (pss_cons (ps_set (i := 4) scNum.nd rfl (Or.inl rfl) (pv 3))
      (pss_cons (ps_set (i := 5) scNum.nd rfl (Or.inl rfl) (pe_lst pa_nil))
      (pss_cons (ps_for PassesOwn.never rfl (pi_range1 (by rfl) B.range (pa_cons (pv 2) pa_nil)) (pg_name (i := 6) scNum.nd rfl (Or.inl rfl))
        (pss_one (ps_if (PW.pt (pw_and (pt_cmpR op_ge (pv 3) (pe_op op_pow pe_int pe_int) (nomark _)) (pw_and1 (pt_cmpR op_gt (pv 4) pe_int (nomark _)))))
          (pss_cons (ps_expr (pe_app (pv 5) (pe_op op_modN (pe_callTy call_int1 (by rfl) B.int (by decide +kernel) (pa_cons (pv 4) pa_nil)) pe_int)))
            (pss_one (ps_set (i := 4) scNum.nd rfl (Or.inl rfl) (pe_op op_fdivN (pv 4) pe_int))))
          (pss_cons (ps_set (i := 7) scNum.nd rfl (Or.inl rfl) (pe_op op_modN (pe_callTy call_int1 (by rfl) B.int (by decide +kernel) (pa_cons (pe_op op_pow (pe_op op_add (pe_op op_add (pe_op op_modN (pe_callTy call_int1 (by rfl) B.int (by decide +kernel) (pa_cons (pv 3) pa_nil)) pe_int) (pe_op op_mul pe_int (pv 1))) pe_int) pe_int) pa_nil)) pe_int))
          (pss_cons (ps_set (i := 7) scNum.nd rfl (Or.inl rfl) (pe_op op_modN (pe_callTy call_int1 (by rfl) B.int (by decide +kernel) (pa_cons (pe_op op_mul (pe_op op_add (pv 7) (pe_op op_mul pe_int (pe_op op_add (pv 6) pe_int))) (pe_op op_add (pv 6) pe_int)) pa_nil)) pe_int))
          (pss_cons (ps_set (i := 7) scNum.nd rfl (Or.inl rfl) (pe_op op_modN (pe_callTy call_int1 (by rfl) B.int (by decide +kernel) (pa_cons (pe_op op_mul (pe_op op_modN (pe_callTy call_int1 (by rfl) B.int (by decide +kernel) (pa_cons (pe_op op_pow (pv 7) pe_int) pa_nil)) pe_int) pe_int) pa_nil)) pe_int))
          (pss_one (ps_expr (pe_app (pv 5) (pe_op op_modN (pe_callTy call_int1 (by rfl) B.int (by decide +kernel) (pa_cons (pe_op op_fdivN (pv 7) pe_int) pa_nil)) pe_int)))))))))
        )
      (pss_one (ps_ret (pv 5)))))), ?_⟩
    walk_at "rd"
    refine ⟨sz (by decide), fun p hp => ?_⟩
    generalize (if -1 - c > c then -1 - c else c) = w0
    refine for_r1 (m := m) ⟨m0, by omega⟩ (fun Q q => ?_) (fun i σ' H' => ∃ (left : Int) (ns : List Int) (kv ov : Option V), σ' = [some (.int c), some (.int k), some (.int m), some (.int w0), some (.int left), some (.ref p), kv, ov] ∧ Same H H' ∧ H' p = some (.lst (ns.map V.int)) ∧ Dn ns ∧ ns.length = i)
      ⟨w0, [], none, none, rfl, My.Same.new (Same.refl H) hp, upd_same, (fun n hn => nomatch hn), rfl⟩ ?_ ?_
    · walk_at "rd"
      exact q
    · rintro i _ H' hi ⟨left, ns, kv, ov, rfl, sm, hl, dn, len⟩
      walk_at "rd"
      simp only [hl]
      walk_at "rd"
      have hi' : i < 1000 := by omega
      obtain ⟨a1, a2, a3, a4, a5⟩ := num_math (w0 := w0) (i := i) k0 k1 hi'
      refine ⟨⟨by decide, by decide, by decide⟩, ?_⟩
      split
      · split
        · obtain ⟨b1, b2, b3⟩ := num_end hp sm dn len hi' (fmod_r (a := left) (m := 840) (by decide))
          exact ⟨⟨_, rfl⟩, by decide, b1, cdiv _, b2, b3⟩
        · refine ⟨by decide, a1, a2, by decide, a3, a4, by decide, (a5 _).1, by decide, (a5 0).2 _, by decide, ⟨_, rfl⟩, cdiv _, by decide, num_end hp sm dn len hi' (fmod_r (by decide))⟩
      · refine ⟨by decide, a1, a2, by decide, a3, a4, by decide, (a5 _).1, by decide, (a5 0).2 _, by decide, ⟨_, rfl⟩, cdiv _, by decide, num_end hp sm dn len hi' (fmod_r (by decide))⟩
    · rintro _ H' ⟨left, ns, kv, ov, rfl, sm, hl, dn, len⟩
      walk_at "rd"
      exact q p ns H' hp sm hl dn
end
end My

set_option Elab.async false
set_option linter.all false
set_option maxRecDepth 100000
set_option maxHeartbeats 2000000
namespace My
open PySem PySem.Spec PyProof.Rows L2
local macro_rules | `(tactic| walk_at "rd") => `(tactic| simp only [rd_seq, rd_next, rd_brk, rd_cont, rd_asg, rd_gname, rd_var, rd_c, rd_op, rd_un, rd_rI0, rd_rI, rd_rU, rd_test, rd_B, rd_and, rd_or, rd_not, rd_andV, rd_orV, rd_notV, rd_ifx, rd_ifs, rd_drop, rd_ret, rd_nil, rd_cons, rd_cb, rd_tup, rd_lst, rd_call, rd_bm, rd_app, rd_ixLst, rd_ixSq, rd_lenL, rd_lenSq, rd_setLst, rd_sub, rd_neNil, Int.reduceToNat, Int.reduceLE, Int.reduceLT, Nat.reduceLT, Nat.reduceLeDiff, Int.reduceNeg, Int.toNat_natCast, Int.reduceAdd, L2.start, and_assoc, exists_and_left, List.map_cons, List.map_nil, List.length_cons, List.length_nil, List.cons_append, List.nil_append, List.append_nil, List.replicate_succ, List.replicate_zero, List.replicate, List.set_cons_zero, List.set_cons_succ, List.getElem?_cons_zero, List.getElem?_cons_succ, Option.some.injEq, exists_eq_left', exists_eq_left, exists_eq, V.int.injEq, V.ref.injEq, V.str.injEq, V.bl.injEq, HO.lst.injEq, HO.tup.injEq, ex_bl, List.cons.injEq, and_true, true_and, Nat.reduceAdd, Nat.reduceSub, reduceCtorEq, false_and, or_false, exists_false, false_or, decide_eq_true_eq, if_true, if_false, Bool.false_eq_true, Bool.not_true, Bool.not_false, upd_same])
local macro_rules | `(tactic| walk_at "rdh") => `(tactic| simp only [rd_seq, rd_next, rd_brk, rd_cont, rd_asg, rd_gname, rd_var, rd_c, rd_op, rd_un, rd_rI0, rd_rI, rd_rU, rd_test, rd_B, rd_and, rd_or, rd_not, rd_andV, rd_orV, rd_notV, rd_ifx, rd_ifs, rd_drop, rd_ret, rd_nil, rd_cons, rd_cb, rd_tup, rd_lst, rd_call, rd_bm, rd_app, rd_ixLst, rd_ixSq, rd_lenL, rd_lenSq, rd_setLst, rd_sub, rd_neNil, Int.reduceToNat, Int.reduceLE, Int.reduceLT, Nat.reduceLT, Nat.reduceLeDiff, Int.reduceNeg, Int.toNat_natCast, Int.reduceAdd, L2.start, and_assoc, exists_and_left, List.map_cons, List.map_nil, List.length_cons, List.length_nil, List.cons_append, List.nil_append, List.append_nil, List.replicate_succ, List.replicate_zero, List.replicate, List.set_cons_zero, List.set_cons_succ, List.getElem?_cons_zero, List.getElem?_cons_succ, Option.some.injEq, exists_eq_left', exists_eq_left, exists_eq, V.int.injEq, V.ref.injEq, V.str.injEq, V.bl.injEq, HO.lst.injEq, HO.tup.injEq, ex_bl, List.cons.injEq, and_true, true_and, Nat.reduceAdd, Nat.reduceSub, reduceCtorEq, false_and, or_false, exists_false, false_or, decide_eq_true_eq, if_true, if_false, Bool.false_eq_true, Bool.not_true, Bool.not_false, upd_same, *])
abbrev sOpn : Stmt := topI 12
abbrev sDrw : Stmt := topI 13
abbrev sPck : Stmt := topI 14
abbrev NOpn : List Str := ["script", "k", "many", "cell"]
theorem scOpn : FnScope NOpn ["script", "k", "many"] (defScope sOpn) := ⟨rfl, rfl, rfl, by decide +kernel, rfl, by decide +kernel, by decide +kernel⟩
abbrev NDrw : List Str := ["pool", "many", "at"]
theorem scDrw : FnScope NDrw ["pool", "many"] (defScope sDrw) := ⟨rfl, rfl, rfl, by decide +kernel, rfl, by decide +kernel, by decide +kernel⟩
abbrev NPck : List Str := ["pool", "some"]
theorem scPck : FnScope NPck ["pool", "some"] (defScope sPck) := ⟨rfl, rfl, rfl, by decide +kernel, rfl, by decide +kernel, by decide +kernel⟩
/-- _law_opened: a new pool of drawn numbers -/
def spOpn (K : PySem.W.Frag) : Sp := fun vs H Q _ => ∃ (a : Addr) (ns : List Int) (k m : Int), vs = [.ref a, .int k, .int m] ∧ SqL K H a (ns.map V.int) ∧ 0 ≤ k ∧ k ≤ 1000 ∧ (ns ≠ [] → k.toNat < ns.length) ∧ 0 ≤ m ∧ m ≤ 1000 ∧
  ∀ (p q : Addr) (zs : List Int) (H' : Hp), H p = none → H q = none → p ≠ q → Same H H' → H' p = some (.lst [.ref q, .int 0]) → H' q = some (.lst (zs.map V.int)) → Q (.ref p) H'
/-- _law_draw: a number below many; the pool's place moves on -/
def spDrw : Sp := fun vs H Q _ => ∃ (p q : Addr) (at_ m : Int) (zs : List Int), vs = [.ref p, .int m] ∧ 0 < m ∧ H p = some (.lst [.ref q, .int at_]) ∧ 0 ≤ at_ ∧ H q = some (.lst (zs.map V.int)) ∧
  ∀ r : Int, 0 ≤ r → r < m → Q (.int r) (upd H p (.lst [.ref q, .int (at_ + 1)]))
/-- _law_pick: one of some -/
def spPck : Sp := fun vs H Q _ => ∃ (p q a : Addr) (at_ : Int) (zs : List Int) (xs : List V), vs = [.ref p, .ref a] ∧ H p = some (.lst [.ref q, .int at_]) ∧ 0 ≤ at_ ∧ H q = some (.lst (zs.map V.int)) ∧ H a = some (.lst xs) ∧ a ≠ p ∧ 0 < xs.length ∧
  ∀ (i : Nat) (x : V), xs[i]? = some x → Q x (upd H p (.lst [.ref q, .int (at_ + 1)]))
section
variable {P : Program} {w : World} {K : PySem.W.Frag} {mg : Str → Option Value} {base : Heap}
theorem ok_opn {f : Addr} {fd : FuncData} (F : Fun K "_law_opened" "_law_opened" sOpn f fd) (B : Bn mg) (D_law_numbers : Df K mg "_law_numbers" sNum ["cell", "salt", "many"]) (G_law_numbers : FnOk P w K mg base CX0 1 D_law_numbers.f D_law_numbers.fd ["cell", "salt", "many"] spNum) :
    FnOk P w K mg base CX0 2 f fd ["script", "k", "many"] (spOpn K) := by
  refine F.ok scOpn (fun vs H Q E h => ?_) (fun cdv A outer s H vs Q E hr h => ?_)
  · obtain ⟨a, ns, k, m, rfl, _⟩ := h
    rfl
  · obtain ⟨a, ns, k, m, rfl, hS, k0, k1, kn, m0, m1, q⟩ := h
    have hu64 := hr.units
    have hr1 := hr
    refine ⟨_, (pss_cons (ps_set (i := 3) scOpn.nd rfl (Or.inl rfl) (pe_ifExp (pt_cmpR (op_neNil hu64) (pv 0) (pe_lst pa_nil) (nomark _)) (pe_ix ix_sq (pv 0) (pv 1) (fun _ _ => rfl)) pe_int))
      (pss_one (ps_ret (pe_lst (pa_cons (pc D_law_numbers G_law_numbers hr1 (pa_cons (pv 3) (pa_cons (pv 1) (pa_cons (pv 2) pa_nil)))) (pa_cons pe_int pa_nil)))))), ?_⟩
    walk_at "rd"
    refine ⟨sz (by decide), fun b hb => ?_⟩
    have hS' : SqL K (upd H b (.lst [])) a (ns.map V.int) := Same.seq (My.Same.new (Same.refl H) hb) hS
    refine ⟨ns, hS', ?_⟩
    have fin : ∀ c : Int, spNum [.int c, .int k, .int m] (upd H b (.lst [])) (fun x H1 => 2 ≤ sizeLine ∧ ∀ (p : Addr), H1 p = none → Q (.ref p) (upd H1 p (.lst [x, .int 0]))) E0 := fun c =>
      ⟨c, k, m, rfl, k0, k1, m0, m1, fun p' zs H1 hp' sm hl dn => ⟨sz (by decide), fun p2 hp2 => q p2 p' zs _ ((Same.trans (My.Same.new (Same.refl H) hb) sm).free hp2) ((My.Same.new (Same.refl H) hb).free hp')
        (Ne.symm (ne_of_none hl hp2)) (My.Same.new' (Same.trans (My.Same.new (Same.refl H) hb) sm) hp2) upd_same (by rw [upd_ne (ne_of_none hl hp2)]; exact hl)⟩⟩
    split
    · rename_i hne
      have hne' : ns ≠ [] := by rintro rfl; simp at hne
      refine ⟨_, hS', k0, V.int (ns[k.toNat]'(kn hne')), ?_, fin _⟩
      rw [List.getElem?_map, List.getElem?_eq_getElem (kn hne')]
      rfl
    · exact fin 5
theorem ok_drw {f : Addr} {fd : FuncData} (F : Fun K "_law_draw" "_law_draw" sDrw f fd) (B : Bn mg) :
    FnOk P w K mg base CX0 1 f fd ["pool", "many"] spDrw := by
  refine F.ok scDrw (fun vs H Q E h => ?_) (fun cdv A outer s H vs Q E hr h => ?_)
  · obtain ⟨p, q, at_, m, zs, rfl, _⟩ := h
    rfl
  · obtain ⟨p, r, at_, m, zs, rfl, m0, hp, a0, hq, q⟩ := h
    have hu64 := hr.units
    have hr1 := hr
    refine ⟨_, (pss_cons (ps_set (i := 2) scDrw.nd rfl (Or.inl rfl) (pe_ix ix_lst (pv 0) pe_int (fun _ _ => rfl)))
      (pss_cons (ps_asg (pe_op op_add (pv 2) pe_int) (pg_sub (pv 0) pe_int set_lst))
      (pss_one (ps_ret (pe_ifExp (pt_cmpR op_lt (pv 2) (pe_callB call_lenL (by rfl) B.len (by decide +kernel) (pa_cons (pe_ix ix_lst (pv 0) pe_int (fun _ _ => rfl)) pa_nil)) (nomark _)) (pe_op op_modN (pe_callTy call_int1 (by rfl) B.int (by decide +kernel) (pa_cons (pe_ix ix_lst (pe_ix ix_lst (pv 0) pe_int (fun _ _ => rfl)) (pv 2) (fun _ _ => rfl)) pa_nil)) (pv 1)) pe_int))))), ?_⟩
    have hrp : r ≠ p := ne_of hq hp (by intro z; injection z with z; cases zs with | nil => cases z | cons a l => injection z with z; cases z)
    walk_at "rd"
    have hu1 := fun o => upd_ne (H := H) (o := o) hrp
    walk_at "rdh"
    split
    · rename_i hlt
      rw [List.length_map] at hlt
      have hi : at_.toNat < zs.length := by omega
      refine ⟨V.int (zs[at_.toNat]'hi), ?_, .inl ⟨_, rfl, by omega, q _ (fmod_r m0).1 (fmod_r m0).2⟩⟩
      rw [List.getElem?_map, List.getElem?_eq_getElem hi]
      rfl
    · trivial
theorem ok_pck {f : Addr} {fd : FuncData} (F : Fun K "_law_pick" "_law_pick" sPck f fd) (B : Bn mg) (D_law_draw : Df K mg "_law_draw" sDrw ["pool", "many"]) (G_law_draw : FnOk P w K mg base CX0 1 D_law_draw.f D_law_draw.fd ["pool", "many"] spDrw) :
    FnOk P w K mg base CX0 2 f fd ["pool", "some"] spPck := by
  refine F.ok scPck (fun vs H Q E h => ?_) (fun cdv A outer s H vs Q E hr h => ?_)
  · obtain ⟨p, q, a, at_, zs, xs, rfl, _⟩ := h
    rfl
  · obtain ⟨p, r, a, at_, zs, xs, rfl, hp, a0, hq, ha, hap, hx, q⟩ := h
    have hr1 := hr
    refine ⟨_, (pss_one (ps_ret (pe_ix ix_lst (pv 1) (pc D_law_draw G_law_draw hr1 (pa_cons (pv 0) (pa_cons (pe_callB call_lenL (by rfl) B.len (by decide +kernel) (pa_cons (pv 1) pa_nil)) pa_nil))) (fun _ _ => rfl)))), ?_⟩
    walk_at "rd"
    simp only [ha]
    walk_at "rd"
    refine ⟨p, r, at_, (xs.length : Int), zs, rfl, by omega, hp, a0, hq, fun i i0 i1 => ⟨i, rfl, xs, ?_⟩⟩
    rw [upd_ne hap]
    have hi : i.toNat < xs.length := by omega
    exact ⟨ha, i0, _, List.getElem?_eq_getElem hi, q _ _ (List.getElem?_eq_getElem hi)⟩
end
end My

set_option Elab.async false
set_option linter.all false
set_option maxRecDepth 100000
set_option maxHeartbeats 2000000
namespace My
open PySem PySem.Spec PyProof.Rows L2
local macro_rules | `(tactic| walk_at "rd") => `(tactic| simp only [rd_seq, rd_next, rd_brk, rd_cont, rd_asg, rd_gname, rd_var, rd_c, rd_op, rd_un, rd_rI0, rd_rI, rd_rU, rd_test, rd_B, rd_and, rd_or, rd_not, rd_andV, rd_orV, rd_notV, rd_ifx, rd_ifs, rd_drop, rd_ret, rd_nil, rd_cons, rd_cb, rd_tup, rd_lst, rd_call, rd_bm, rd_app, rd_ixLst, rd_ixSq, rd_lenL, rd_lenSq, rd_setLst, rd_sub, rd_neNil, rd_isStr, rd_allB, rd_isBl, rd_inS, rd_chain, rd_chain', L2.wipe, Int.reduceToNat, Int.reduceLE, Int.reduceLT, Nat.reduceLT, Nat.reduceLeDiff, Int.reduceNeg, Int.toNat_natCast, Int.reduceAdd, L2.start, and_assoc, exists_and_left, List.map_cons, List.map_nil, List.length_cons, List.length_nil, List.cons_append, List.nil_append, List.append_nil, List.replicate_succ, List.replicate_zero, List.replicate, List.set_cons_zero, List.set_cons_succ, List.getElem?_cons_zero, List.getElem?_cons_succ, Option.some.injEq, exists_eq_left', exists_eq_left, exists_eq, V.int.injEq, V.ref.injEq, V.str.injEq, V.bl.injEq, HO.lst.injEq, HO.tup.injEq, ex_bl, List.cons.injEq, and_true, true_and, Nat.reduceAdd, Nat.reduceSub, reduceCtorEq, false_and, or_false, exists_false, false_or, decide_eq_true_eq, if_true, if_false, Bool.false_eq_true, Bool.not_true, Bool.not_false, upd_same])
local macro_rules | `(tactic| walk_at "rdh") => `(tactic| simp only [rd_seq, rd_next, rd_brk, rd_cont, rd_asg, rd_gname, rd_var, rd_c, rd_op, rd_un, rd_rI0, rd_rI, rd_rU, rd_test, rd_B, rd_and, rd_or, rd_not, rd_andV, rd_orV, rd_notV, rd_ifx, rd_ifs, rd_drop, rd_ret, rd_nil, rd_cons, rd_cb, rd_tup, rd_lst, rd_call, rd_bm, rd_app, rd_ixLst, rd_ixSq, rd_lenL, rd_lenSq, rd_setLst, rd_sub, rd_neNil, rd_isStr, rd_allB, rd_isBl, rd_inS, rd_chain, rd_chain', L2.wipe, Int.reduceToNat, Int.reduceLE, Int.reduceLT, Nat.reduceLT, Nat.reduceLeDiff, Int.reduceNeg, Int.toNat_natCast, Int.reduceAdd, L2.start, and_assoc, exists_and_left, List.map_cons, List.map_nil, List.length_cons, List.length_nil, List.cons_append, List.nil_append, List.append_nil, List.replicate_succ, List.replicate_zero, List.replicate, List.set_cons_zero, List.set_cons_succ, List.getElem?_cons_zero, List.getElem?_cons_succ, Option.some.injEq, exists_eq_left', exists_eq_left, exists_eq, V.int.injEq, V.ref.injEq, V.str.injEq, V.bl.injEq, HO.lst.injEq, HO.tup.injEq, ex_bl, List.cons.injEq, and_true, true_and, Nat.reduceAdd, Nat.reduceSub, reduceCtorEq, false_and, or_false, exists_false, false_or, decide_eq_true_eq, if_true, if_false, Bool.false_eq_true, Bool.not_true, Bool.not_false, upd_same, *])
abbrev sOne : Stmt := topI 4
abbrev sWrd : Stmt := topI 8
abbrev NOne : List Str := ["value", "words"]
theorem scOne : FnScope NOne ["value", "words"] (defScope sOne) := ⟨rfl, rfl, rfl, by decide +kernel, rfl, by decide +kernel, by decide +kernel⟩
abbrev NWrd : List Str := ["value", "letter"]
theorem scWrd : FnScope NWrd ["value"] (defScope sWrd) := ⟨rfl, rfl, rfl, by decide +kernel, rfl, by decide +kernel, by decide +kernel⟩
def spOne (K : PySem.W.Frag) : Sp := fun vs H Q _ => ∃ (v : V) (a : Addr) (ws : List Str), vs = [v, .ref a] ∧ (tyS H v).isSome = true ∧ SqT K H a (ws.map V.str) ∧ Q (.bl (hasS ws v)) H
def spWrd : Sp := fun vs H Q _ => ∃ v : V, vs = [v] ∧ (tyS H v).isSome = true ∧ (∀ x, v = .str x → x.length ≤ 1000) ∧ ∀ H', Same H H' → Q (.bl (isWord v)) H'
section
variable {P : Program} {w : World} {K : PySem.W.Frag} {mg : Str → Option Value} {base : Heap}
theorem ok_one {f : Addr} {fd : FuncData} (F : Fun K "is_one_of" "is_one_of" sOne f fd) (B : Bn mg) : FnOk P w K mg base CX0 1 f fd ["value", "words"] (spOne K) := by
  refine F.ok scOne (fun vs H Q E h => ?_) (fun cdv A outer s H vs Q E hr h => ?_)
  · obtain ⟨v, a, ws, rfl, _⟩ := h
    rfl
  · obtain ⟨v, a, ws, rfl, ht, hS, q⟩ := h
    refine ⟨_, (pss_one (ps_ret (pe_and (pe_callB call_isStr (by rfl) B.isinstance (by decide +kernel) (pa_cons (pv 0) (pa_cons (pe_tyStr B.str) pa_nil))) (pe_one (pe_cmpR op_inS (pv 0) (pv 1) (by rfl)))))), ?_⟩
    walk_at "rd"
    refine ⟨ht, ?_⟩
    cases v with
    | str x => exact ⟨rfl, ws, hS, q⟩
    | _ => exact q
theorem ok_wrd {f : Addr} {fd : FuncData} (F : Fun K "is_word" "is_word" sWrd f fd) (B : Bn mg) {tk : Tok} (gL : mg "LETTERS" = some (.str letters tk)) : FnOk P w K mg base CX0 1 f fd ["value"] spWrd := by
  refine F.ok scWrd (fun vs H Q E h => ?_) (fun cdv A outer s H vs Q E hr h => ?_)
  · obtain ⟨v, rfl, _⟩ := h
    rfl
  · obtain ⟨v, rfl, ht, hlen, q⟩ := h
    refine ⟨_, (pss_cons (ps_if (PW.pt (pw_or (pt_not (pt_val (pe_callB call_isStr (by rfl) B.isinstance (by decide +kernel) (pa_cons (pv 0) (pa_cons (pe_tyStr B.str) pa_nil))))) (pw_or1 (pt_not (pt_chain op_le op_le pe_int (pe_callB call_len_str (by rfl) B.len (by decide +kernel) (pa_cons (pv 0) pa_nil)) pe_int)))))
        (pss_one (ps_ret pe_bl))
        pss_nil)
      (pss_one (ps_ret (pe_callB (cr_allB rfl) (by rfl) B.all (by decide +kernel) (pa_cons (pe_lc (own := [("letter", 1)]) (g := gName 1) rfl scWrd.nd (pi_str (pv 0)) (blkOk_by (own := [("letter", 1)]) (N := NWrd) (sc := defScope sWrd) (by decide +kernel)) (fun _ _ _ _ _ => pg_name (i := 1) scWrd.nd rfl (Or.inl rfl)) (fun _ _ _ _ _ => pts_nil) (fun _ _ _ _ _ => (pe_cmpR op_in_sign (pv 1) (pe_gS gL) (by rfl)))) pa_nil))))), ?_⟩
    walk_at "rd"
    refine ⟨ht, ?_⟩
    cases v with
    | str x =>
      have hx := hlen x rfl
      refine ⟨x, rfl, sz (by omega), ?_⟩
      have e : isWord (.str x) = ((decide (1 ≤ x.length) && decide (x.length ≤ 8)) && x.cps.toList.all fun c => decide (c ∈ letters.cps.toList)) := rfl
      split
      · rename_i h1
        split
        · rename_i h2
          have h2' : ¬ x.length ≤ 8 := by
            simp at h2
            omega
          have z := q H (Same.refl H)
          rw [e, decide_eq_false h2'] at z
          simpa using z
        · rename_i h2
          have h2' : x.length ≤ 8 := by
            simp at h2
            omega
          refine lc_str (fun c => .bl (decide (c ∈ letters.cps.toList))) (by omega) (fun Q q => ⟨_, rfl, q⟩) (fun _ => rfl) (fun c H' R sm r => ?_) (fun D H' hD sm hl => ?_)
          · walk_at "rd"
            exact ⟨c, rfl, r⟩
          · walk_at "rd"
            refine ⟨x.cps.toList.map fun c => decide (c ∈ letters.cps.toList), by rw [hl, List.map_map]; rfl, ?_⟩
            have z := q H' sm
            rw [e, decide_eq_true (show 1 ≤ x.length by omega), decide_eq_true h2'] at z
            rw [List.all_map]
            exact z
      · rename_i h1
        have h1' : ¬ 1 ≤ x.length := by omega
        have z := q H (Same.refl H)
        rw [e, decide_eq_false h1'] at z
        simpa using z
    | _ => exact q H (Same.refl H)
end
end My

set_option Elab.async false
set_option linter.all false
set_option maxRecDepth 100000
set_option maxHeartbeats 2000000
namespace My
open PySem PySem.Spec PyProof.Rows L2
local macro_rules | `(tactic| walk_at "rd") => `(tactic| simp only [rd_seq, rd_next, rd_brk, rd_cont, rd_asg, rd_gname, rd_var, rd_c, rd_op, rd_un, rd_rI0, rd_rI, rd_rU, rd_test, rd_B, rd_and, rd_or, rd_not, rd_andV, rd_orV, rd_notV, rd_ifx, rd_ifs, rd_drop, rd_ret, rd_nil, rd_cons, rd_cb, rd_tup, rd_lst, rd_call, rd_bm, rd_app, rd_ixLst, rd_ixSq, rd_lenL, rd_lenSq, rd_setLst, rd_sub, rd_neNil, rd_isStr, rd_fldS, rd_eq, rd_ne, rd_fldE, rd_allB, rd_isBl, rd_inS, rd_chain, rd_chain', L2.wipe, Int.reduceToNat, Int.reduceLE, Int.reduceLT, Nat.reduceLT, Nat.reduceLeDiff, Int.reduceNeg, Int.toNat_natCast, Int.reduceAdd, L2.start, and_assoc, exists_and_left, List.map_cons, List.map_nil, List.length_cons, List.length_nil, List.cons_append, List.nil_append, List.append_nil, List.replicate_succ, List.replicate_zero, List.replicate, List.set_cons_zero, List.set_cons_succ, List.getElem?_cons_zero, List.getElem?_cons_succ, Option.some.injEq, exists_eq_left', exists_eq_left, exists_eq, V.int.injEq, V.ref.injEq, V.str.injEq, V.bl.injEq, HO.lst.injEq, HO.tup.injEq, ex_bl, List.cons.injEq, and_true, true_and, Nat.reduceAdd, Nat.reduceSub, reduceCtorEq, false_and, or_false, exists_false, false_or, decide_eq_true_eq, if_true, if_false, Bool.false_eq_true, Bool.not_true, Bool.not_false, upd_same])
local macro_rules | `(tactic| walk_at "rdh") => `(tactic| simp only [rd_seq, rd_next, rd_brk, rd_cont, rd_asg, rd_gname, rd_var, rd_c, rd_op, rd_un, rd_rI0, rd_rI, rd_rU, rd_test, rd_B, rd_and, rd_or, rd_not, rd_andV, rd_orV, rd_notV, rd_ifx, rd_ifs, rd_drop, rd_ret, rd_nil, rd_cons, rd_cb, rd_tup, rd_lst, rd_call, rd_bm, rd_app, rd_ixLst, rd_ixSq, rd_lenL, rd_lenSq, rd_setLst, rd_sub, rd_neNil, rd_isStr, rd_fldS, rd_eq, rd_ne, rd_fldE, rd_allB, rd_isBl, rd_inS, rd_chain, rd_chain', L2.wipe, Int.reduceToNat, Int.reduceLE, Int.reduceLT, Nat.reduceLT, Nat.reduceLeDiff, Int.reduceNeg, Int.toNat_natCast, Int.reduceAdd, L2.start, and_assoc, exists_and_left, List.map_cons, List.map_nil, List.length_cons, List.length_nil, List.cons_append, List.nil_append, List.append_nil, List.replicate_succ, List.replicate_zero, List.replicate, List.set_cons_zero, List.set_cons_succ, List.getElem?_cons_zero, List.getElem?_cons_succ, Option.some.injEq, exists_eq_left', exists_eq_left, exists_eq, V.int.injEq, V.ref.injEq, V.str.injEq, V.bl.injEq, HO.lst.injEq, HO.tup.injEq, ex_bl, List.cons.injEq, and_true, true_and, Nat.reduceAdd, Nat.reduceSub, reduceCtorEq, false_and, or_false, exists_false, false_or, decide_eq_true_eq, if_true, if_false, Bool.false_eq_true, Bool.not_true, Bool.not_false, upd_same, *])

abbrev sBW : Stmt := inClass (topI 2) 0
abbrev sWI : Stmt := inClass (topI 9) 0
abbrev sWE : Stmt := inClass (topI 9) 1
theorem scBW : FnScope ["self", "part"] ["self", "part"] (defScope sBW) := ⟨rfl, rfl, rfl, by decide +kernel, rfl, by decide +kernel, by decide +kernel⟩
abbrev NWI : List Str := ["self", "event", "deed", "call", "by", "may"]
theorem scWI : FnScope NWI ["self", "event", "deed", "call", "by", "may"] (defScope sWI) := ⟨rfl, rfl, rfl, by decide +kernel, rfl, by decide +kernel, by decide +kernel⟩
def evs : List Str := ["laid", "done", "struck", "instead"]
def bys : List Str := ["own", "next"]
/-- the first part of a waking that is wrong -/
def badW (ev de ca b ma : V) : Option Str := if hasS evs ev = false then some "event" else if isWord de = false then some "deed" else if isWord ca = false then some "call" else if hasS bys b = false then some "by" else if isBl ma = false then some "may" else none
/-- a waking's attributes -/
def wf (ev de ca b ma : V) : List (Str × V) := putF "may" ma (putF "by" b (putF "call" ca (putF "deed" de (putF "event" ev []))))
theorem len1000 {n : Nat} (h : n ≤ 10) : n < 1000 := by omega
theorem wlen1 {ev : V} : (putF "event" ev []).length = 1 := rfl
theorem wlen2 {ev de : V} : (putF "deed" de (putF "event" ev [])).length = 2 := rfl
theorem wlen3 {ev de ca : V} : (putF "call" ca (putF "deed" de (putF "event" ev []))).length = 3 := rfl
theorem wlen4 {ev de ca b : V} : (putF "by" b (putF "call" ca (putF "deed" de (putF "event" ev [])))).length = 4 := rfl
def spWI (C CB : Addr) : Sp := fun vs H Q E => ∃ (x dx : Addr) (ev de ca b ma : V), vs = [.ref x, ev, de, ca, b, ma] ∧ H x = some (.ins C dx []) ∧ Ty H ev ∧ Ty H de ∧ Ty H ca ∧ Ty H b ∧ Ty H ma ∧
  (∀ m, badW ev de ca b ma = some m → ∀ d H', H d = none → Same H H' → H' d = some (.xd [("part", .str m)]) → E (.ref CB) (some d) H') ∧
  (badW ev de ca b ma = none → ∀ H', H' x = some (.ins C dx (wf ev de ca b ma)) → (∀ b o, b ≠ x → H b = some o → H' b = some o) → Q .non H')
/-- what the walk asks of the class -/
structure WkT (K : PySem.W.Frag) (C : Addr) : Prop where
  cl : Cls K C
  ev : NoAttr K C "event"
  de : NoAttr K C "deed"
  ca : NoAttr K C "call"
  b : NoAttr K C "by"
  ma : NoAttr K C "may"
section
variable {P : Program} {w : World} {K : PySem.W.Frag} {mg : Str → Option Value} {base : Heap}
theorem ok_bw (TB : Xc K mg "BadWaking" "part" "BadWaking.__init__" sBW) : FnOk P w K mg base CX0 1 TB.fI TB.fd ["self", "part"] (spXi TB.C "part") := by
  refine TB.F.ok scBW (fun vs H Q E h => ?_) (fun cdv A outer s H vs Q E hr h => ?_)
  · obtain ⟨a, v, rfl, _⟩ := h
    rfl
  · obtain ⟨a, v, rfl, ha, q⟩ := h
    refine ⟨_, pss_one (ps_ost (pv 0) (pv 1)), ?_⟩
    exact ⟨v, rfl, .ref a, rfl, a, TB.C, rfl, TB.oex, TB.no, .inl ⟨ha, fun dx hdx hne => q dx hdx hne⟩⟩
theorem ok_wi {f C aE : Addr} {fd : FuncData} (F : FunD K "__init__" "Waking.__init__" (defArgs sWI) (defBody sWI) (defScope sWI) [] [("by", .str "own"), ("may", .bl false)] f fd) (B : Bn mg) (TW : WkT K C)
    (TB : Xc K mg "BadWaking" "part" "BadWaking.__init__" sBW) (gE : mg "EVENTS" = some (.ref aE)) (hE : ∀ H, SqT K H aE (evs.map V.str))
    (Dis_one_of : Df K mg "is_one_of" sOne ["value", "words"]) (Dis_word : Df K mg "is_word" sWrd ["value"])
    (Gis_one_of : FnOk P w K mg base CX0 1 Dis_one_of.f Dis_one_of.fd ["value", "words"] (spOne K)) (Gis_word : FnOk P w K mg base CX0 1 Dis_word.f Dis_word.fd ["value"] spWrd) :
    FnOk P w K mg base (L2.CX P w) 3 f fd ["self", "event", "deed", "call", "by", "may"] (spWI C TB.C) := by
  refine F.ok scWI (fun vs H Q E h => ?_) (fun cdv A outer s H vs Q E hr h => ?_)
  · obtain ⟨x, dx, ev, de, ca, b, ma, rfl, _⟩ := h
    rfl
  · obtain ⟨x, dx, ev, de, ca, b, ma, rfl, hx, tev, tde, tca, tb, tma, qE, qN⟩ := h
    have hr1 := hr.mono (by decide : 1 ≤ 2)
    have hrB := hr
    have GB := ok_bw (P := P) (w := w) (base := base) TB
    refine ⟨_, (pss_cons (ps_if (pt_not (pt_val (pc Dis_one_of Gis_one_of hr1 (pa_cons (pv 1) (pa_cons (pe_gR gE) pa_nil)))))
        (pss_one (ps_rz (W := fun cls d _ H => E cls d H) TB (by exact GB) rfl hrB (takes_of rfl rfl rfl rfl)))
        pss_nil)
      (pss_cons (ps_if (pt_not (pt_val (pc Dis_word Gis_word hr1 (pa_cons (pv 2) pa_nil))))
        (pss_one (ps_rz (W := fun cls d _ H => E cls d H) TB (by exact GB) rfl hrB (takes_of rfl rfl rfl rfl)))
        pss_nil)
      (pss_cons (ps_if (pt_not (pt_val (pc Dis_word Gis_word hr1 (pa_cons (pv 3) pa_nil))))
        (pss_one (ps_rz (W := fun cls d _ H => E cls d H) TB (by exact GB) rfl hrB (takes_of rfl rfl rfl rfl)))
        pss_nil)
      (pss_cons (ps_if (pt_not (pt_val (pc Dis_one_of Gis_one_of hr1 (pa_cons (pv 4) (pa_cons (pe_tup (pa_cons pe_str (pa_cons pe_str pa_nil))) pa_nil)))))
        (pss_one (ps_rz (W := fun cls d _ H => E cls d H) TB (by exact GB) rfl hrB (takes_of rfl rfl rfl rfl)))
        pss_nil)
      (pss_cons (ps_if (pt_not (pt_val (pe_callB call_isBl (by rfl) B.isinstance (by decide +kernel) (pa_cons (pv 5) (pa_cons (pe_tyBool B.bool) pa_nil)))))
        (pss_one (ps_rz (W := fun cls d _ H => E cls d H) TB (by exact GB) rfl hrB (takes_of rfl rfl rfl rfl)))
        pss_nil)
      (pss_cons (ps_fld (pv 0) (pv 1) rfl)
      (pss_cons (ps_fld (pv 0) (pv 2) rfl)
      (pss_cons (ps_fld (pv 0) (pv 3) rfl)
      (pss_cons (ps_fld (pv 0) (pv 4) rfl)
      (pss_one (ps_fld (pv 0) (pv 5) rfl))))))))))), ?_⟩
    walk_at "rd"
    refine ⟨ev, aE, evs, rfl, tev.1, hE H, _, rfl, ?_⟩
    cases e1 : hasS evs ev with
    | false =>
      walk_at "rd"
      exact fun d H' n sm h => qE "event" (by simp [badW, e1]) d H' n sm h
    | true =>
    walk_at "rd"
    refine ⟨de, rfl, tde.1, tde.2, fun H1 s1 => ⟨_, rfl, ?_⟩⟩
    cases e2 : isWord de with
    | false =>
      walk_at "rd"
      exact fun d H' n sm h => qE "deed" (by simp [badW, e1, e2]) d H' (s1.free n) (s1.trans sm) h
    | true =>
    walk_at "rd"
    refine ⟨ca, rfl, tyS_same s1 tca.1, tca.2, fun H2 s2' => ⟨_, rfl, ?_⟩⟩
    have s2 := s1.trans s2'
    cases e3 : isWord ca with
    | false =>
      walk_at "rd"
      exact fun d H' n sm h => qE "call" (by simp [badW, e1, e2, e3]) d H' (s2.free n) (s2.trans sm) h
    | true =>
    walk_at "rd"
    refine ⟨by decide, fun p hp => ?_⟩
    have s3 : Same H (upd H2 p (.tup [.str "own", .str "next"])) := My.Same.new' s2 hp
    refine ⟨b, p, bys, rfl, tyS_same s3 tb.1, SqT.of upd_same, _, rfl, ?_⟩
    cases e4 : hasS bys b with
    | false =>
      walk_at "rd"
      exact fun d H' n sm h => qE "by" (by simp [badW, e1, e2, e3, e4]) d H' (s3.free n) (s3.trans sm) h
    | true =>
    walk_at "rd"
    refine ⟨tyS_same s3 tma.1, ?_⟩
    cases e5 : isBl ma with
    | false =>
      walk_at "rd"
      exact fun d H' n sm h => qE "may" (by simp [badW, e1, e2, e3, e4, e5]) d H' (s3.free n) (s3.trans sm) h
    | true =>
    have hx3 := s3 x _ hx
    walk_at "rd"
    refine ⟨C, dx, [], hx3, TW.cl, TW.ev, by decide, C, dx, _, rfl, TW.cl, TW.de, len1000 (by rw [wlen1]; omega), C, dx, _, rfl, TW.cl, TW.ca, len1000 (by rw [wlen2]; omega), C, dx, _, rfl, TW.cl, TW.b, len1000 (by rw [wlen3]; omega), C, dx, _, rfl, TW.cl, TW.ma, len1000 (by rw [wlen4]; omega), ?_⟩
    refine qN (by simp [badW, e1, e2, e3, e4, e5]) _ upd_same fun c o hc e => ?_
    rw [upd_ne hc, upd_ne hc, upd_ne hc, upd_ne hc, upd_ne hc]
    exact s3 c o e
end
end My

set_option Elab.async false
set_option linter.all false
set_option maxRecDepth 100000
set_option maxHeartbeats 2000000
namespace My
open PySem PySem.Spec PyProof.Rows L2
section
variable {P : Program} {w : World} {K : PySem.W.Frag} {mg : Str → Option Value} {base : Heap}
/-- a waking's parts -/
structure Wv where
  ev : Str
  de : Str
  ca : Str
  b : Str
  ma : Bool
  deriving DecidableEq
def wfs (v : Wv) : List (Str × V) := wf (.str v.ev) (.str v.de) (.str v.ca) (.str v.b) (.bl v.ma)
theorem wfs_ev (v : Wv) : (wfs v).lookup ("event" : Str) = some (.str v.ev) := by
  unfold wfs wf
  simp only [lookup_putF]
  rfl
theorem wfs_de (v : Wv) : (wfs v).lookup ("deed" : Str) = some (.str v.de) := by
  unfold wfs wf
  simp only [lookup_putF]
  rfl
theorem wfs_ca (v : Wv) : (wfs v).lookup ("call" : Str) = some (.str v.ca) := by
  unfold wfs wf
  simp only [lookup_putF]
  rfl
theorem wfs_b (v : Wv) : (wfs v).lookup ("by" : Str) = some (.str v.b) := by
  unfold wfs wf
  simp only [lookup_putF]
  rfl
theorem wfs_ma (v : Wv) : (wfs v).lookup ("may" : Str) = some (.bl v.ma) := by
  unfold wfs wf
  simp only [lookup_putF]
  rfl
/-- a waking of these parts stands at x -/
def Wk (H : Hp) (C x : Addr) (v : Wv) : Prop := ∃ dx, H x = some (.ins C dx (wfs v))
/-- what isinstance and == ask of the class, besides -/
structure WkI (K : PySem.W.Frag) (C : Addr) : Prop where
  ha : PySem.W.findIn K (.ref C) "__class__" = some (some (.builtin "object.__class__"))
  hn : PySem.W.specialIn K (.builtin "object.__class__") "__get__" = some (some (.builtin "getset_descriptor.__get__"))
  ht : PySem.W.takesIn K (.builtin "object.__class__") = some true
  hm : PySem.W.mroIn K C (.type "object") = some true
  kS : PySem.W.kitOne K (.type "str") (.ref C) = some false
  kC : PySem.W.kitOne K (.ref C) (.ref C) = some true
/-- isinstance(y, C), y a text or an instance of C -/
def rIsW (C : Addr) : List V → Hp → VK → Prop := fun vs H Q => ∃ y, vs = [y, .ref C] ∧ ((∃ z, y = .str z ∧ Q (.bl false) H) ∨ ∃ x dx fs, y = .ref x ∧ H x = some (.ins C dx fs) ∧ Q (.bl true) H)
theorem rd_isW {C : Addr} {y c : V} {H : Hp} {Q : VK} : rIsW C [y, c] H Q = (c = .ref C ∧ ((∃ z, y = .str z ∧ Q (.bl false) H) ∨ ∃ x dx fs, y = .ref x ∧ H x = some (.ins C dx fs) ∧ Q (.bl true) H)) := by
  simp [rIsW, and_assoc]
theorem call_isW {X : Cx} {C : Addr} (cl : Cls X.K C) (I : WkI X.K C) : CallR X (.builtin "isinstance") (rIsW C) := call_isi.imp fun vs H Q ⟨y, e, h⟩ => by
  rcases h with ⟨z, ez, q⟩ | ⟨x, dx, fs, ex, hx, q⟩
  · subst ez
    exact ⟨_, _, .type "str", .ref C, false, e, .own C, .base (.str z), I.kS, q⟩
  · subst ex
    exact ⟨_, _, .ref C, .ref C, true, e, .own C, .base (.ins hx cl I.ha I.hn I.ht I.hm), I.kC, q⟩
def spWE (C : Addr) : Sp := fun vs H Q _ => ∃ (x : Addr) (v : Wv) (y : V), vs = [.ref x, y] ∧ Wk H C x v ∧ ((∃ z, y = .str z ∧ Q (.bl false) H) ∨ ∃ x2 v2, y = .ref x2 ∧ Wk H C x2 v2 ∧ Q (.bl (decide (v = v2))) H)
abbrev NWE : List Str := ["self", "other"]
theorem scWE : FnScope NWE ["self", "other"] (defScope sWE) := ⟨rfl, rfl, rfl, by decide +kernel, rfl, by decide +kernel, by decide +kernel⟩
local macro_rules | `(tactic| walk_at "rd") => `(tactic| simp only [rd_seq, rd_next, rd_brk, rd_cont, rd_asg, rd_gname, rd_var, rd_c, rd_op, rd_un, rd_rI0, rd_rI, rd_rU, rd_test, rd_B, rd_and, rd_or, rd_not, rd_andV, rd_orV, rd_notV, rd_ifx, rd_ifs, rd_drop, rd_ret, rd_nil, rd_cons, rd_cb, rd_tup, rd_lst, rd_call, rd_bm, rd_app, rd_ixLst, rd_ixSq, rd_lenL, rd_lenSq, rd_setLst, rd_sub, rd_neNil, rd_isStr, rd_isW, rd_fldS, rd_eq, rd_ne, rd_fldE, rd_allB, rd_isBl, rd_inS, rd_chain, rd_chain', L2.wipe, Int.reduceToNat, Int.reduceLE, Int.reduceLT, Nat.reduceLT, Nat.reduceLeDiff, Int.reduceNeg, Int.toNat_natCast, Int.reduceAdd, L2.start, and_assoc, exists_and_left, List.map_cons, List.map_nil, List.length_cons, List.length_nil, List.cons_append, List.nil_append, List.append_nil, List.replicate_succ, List.replicate_zero, List.replicate, List.set_cons_zero, List.set_cons_succ, List.getElem?_cons_zero, List.getElem?_cons_succ, Option.some.injEq, exists_eq_left', exists_eq_left, exists_eq, V.int.injEq, V.ref.injEq, V.str.injEq, V.bl.injEq, HO.lst.injEq, HO.tup.injEq, ex_bl, List.cons.injEq, and_true, true_and, Nat.reduceAdd, Nat.reduceSub, reduceCtorEq, false_and, or_false, exists_false, false_or, decide_eq_true_eq, if_true, if_false, Bool.false_eq_true, Bool.not_true, Bool.not_false, upd_same])
local macro_rules | `(tactic| walk_at "rdh") => `(tactic| simp only [rd_seq, rd_next, rd_brk, rd_cont, rd_asg, rd_gname, rd_var, rd_c, rd_op, rd_un, rd_rI0, rd_rI, rd_rU, rd_test, rd_B, rd_and, rd_or, rd_not, rd_andV, rd_orV, rd_notV, rd_ifx, rd_ifs, rd_drop, rd_ret, rd_nil, rd_cons, rd_cb, rd_tup, rd_lst, rd_call, rd_bm, rd_app, rd_ixLst, rd_ixSq, rd_lenL, rd_lenSq, rd_setLst, rd_sub, rd_neNil, rd_isStr, rd_isW, rd_fldS, rd_eq, rd_ne, rd_fldE, rd_allB, rd_isBl, rd_inS, rd_chain, rd_chain', L2.wipe, Int.reduceToNat, Int.reduceLE, Int.reduceLT, Nat.reduceLT, Nat.reduceLeDiff, Int.reduceNeg, Int.toNat_natCast, Int.reduceAdd, L2.start, and_assoc, exists_and_left, List.map_cons, List.map_nil, List.length_cons, List.length_nil, List.cons_append, List.nil_append, List.append_nil, List.replicate_succ, List.replicate_zero, List.replicate, List.set_cons_zero, List.set_cons_succ, List.getElem?_cons_zero, List.getElem?_cons_succ, Option.some.injEq, exists_eq_left', exists_eq_left, exists_eq, V.int.injEq, V.ref.injEq, V.str.injEq, V.bl.injEq, HO.lst.injEq, HO.tup.injEq, ex_bl, List.cons.injEq, and_true, true_and, Nat.reduceAdd, Nat.reduceSub, reduceCtorEq, false_and, or_false, exists_false, false_or, decide_eq_true_eq, if_true, if_false, Bool.false_eq_true, Bool.not_true, Bool.not_false, upd_same, *])
theorem ok_we {f C : Addr} {fd : FuncData} (F : Fun K "__eq__" "Waking.__eq__" sWE f fd) (B : Bn mg) (TW : WkT K C) (TI : WkI K C) (gW : mg "Waking" = some (.ref C)) : FnOk P w K mg base CX0 1 f fd ["self", "other"] (spWE C) := by
  refine F.ok scWE (fun vs H Q E h => ?_) (fun cdv A outer s H vs Q E hr h => ?_)
  · obtain ⟨x, v, y, rfl, _⟩ := h
    rfl
  · obtain ⟨x, v, y, rfl, ⟨dx, hx⟩, h⟩ := h
    refine ⟨_, (pss_cons (ps_if (pt_not (pt_val (pe_callB (call_isW TW.cl TI) (by rfl) B.isinstance (by decide +kernel) (pa_cons (pv 1) (pa_cons (pe_gR gW) pa_nil)))))
        (pss_one (ps_ret pe_bl))
        pss_nil)
      (pss_cons (ps_if (PW.pt (pw_or (pt_cmpR op_ne (pe_fld (pv 0) rfl) (pe_fld (pv 1) rfl) (nomark _)) (pw_or (pt_cmpR op_ne (pe_fld (pv 0) rfl) (pe_fld (pv 1) rfl) (nomark _)) (pw_or1 (pt_cmpR op_ne (pe_fld (pv 0) rfl) (pe_fld (pv 1) rfl) (nomark _))))))
        (pss_one (ps_ret pe_bl))
        pss_nil)
      (pss_one (ps_ret (pe_and (pe_cmpR op_eq (pe_fld (pv 0) rfl) (pe_fld (pv 1) rfl) (nomark _)) (pe_one (pe_cmpR op_eq (pe_fld (pv 0) rfl) (pe_fld (pv 1) rfl) (nomark _)))))))), ?_⟩
    walk_at "rd"
    rcases h with ⟨z, rfl, q⟩ | ⟨x2, v2, rfl, ⟨dy, hy⟩, q⟩
    · exact .inl ⟨z, rfl, q⟩
    refine .inr ⟨x2, rfl, dy, wfs v2, hy, C, dx, wfs v, hx, TW.cl, TW.ev, _, wfs_ev v, x2, rfl, C, dy, wfs v2, hy, TW.cl, TW.ev, _, wfs_ev v2, rfl, ?_⟩
    obtain ⟨ev, de, ca, b, ma⟩ := v
    obtain ⟨ev2, de2, ca2, b2, ma2⟩ := v2
    by_cases e1 : ev = ev2
    case neg =>
      have n1 : decide (V.str ev = V.str ev2) = false := decide_eq_false fun e => e1 (V.str.inj e)
      have n2 : decide (Wv.mk ev de ca b ma = Wv.mk ev2 de2 ca2 b2 ma2) = false := decide_eq_false fun e => e1 (Wv.mk.inj e).1
      rw [n2] at q
      simp only [n1, Bool.not_false, if_true]
      exact q
    subst e1
    simp only [decide_true, Bool.not_true, Bool.false_eq_true, if_false]
    refine ⟨C, dx, _, hx, TW.cl, TW.de, _, wfs_de _, x2, rfl, C, dy, _, hy, TW.cl, TW.de, _, wfs_de _, rfl, ?_⟩
    by_cases e2 : de = de2
    case neg =>
      have n1 : decide (V.str de = V.str de2) = false := decide_eq_false fun e => e2 (V.str.inj e)
      have n2 : decide (Wv.mk ev de ca b ma = Wv.mk ev de2 ca2 b2 ma2) = false := decide_eq_false fun e => e2 (Wv.mk.inj e).2.1
      rw [n2] at q
      simp only [n1, Bool.not_false, if_true]
      exact q
    subst e2
    simp only [decide_true, Bool.not_true, Bool.false_eq_true, if_false]
    refine ⟨C, dx, _, hx, TW.cl, TW.ca, _, wfs_ca _, x2, rfl, C, dy, _, hy, TW.cl, TW.ca, _, wfs_ca _, rfl, ?_⟩
    by_cases e3 : ca = ca2
    case neg =>
      have n1 : decide (V.str ca = V.str ca2) = false := decide_eq_false fun e => e3 (V.str.inj e)
      have n2 : decide (Wv.mk ev de ca b ma = Wv.mk ev de ca2 b2 ma2) = false := decide_eq_false fun e => e3 (Wv.mk.inj e).2.2.1
      rw [n2] at q
      simp only [n1, Bool.not_false, if_true]
      exact q
    subst e3
    simp only [decide_true, Bool.not_true, Bool.false_eq_true, if_false]
    refine ⟨C, dx, _, hx, TW.cl, TW.b, _, wfs_b _, x2, rfl, C, dy, _, hy, TW.cl, TW.b, _, wfs_b _, rfl, ?_⟩
    by_cases e4 : b = b2
    case neg =>
      have n2 : decide (Wv.mk ev de ca b ma = Wv.mk ev de ca b2 ma2) = false := decide_eq_false fun e => e4 (Wv.mk.inj e).2.2.2.1
      rw [n2] at q
      rw [if_neg fun e => e4 (V.str.inj e)]
      exact q
    subst e4
    rw [if_pos rfl]
    refine ⟨C, dx, _, hx, TW.cl, TW.ma, _, wfs_ma _, x2, rfl, C, dy, _, hy, TW.cl, TW.ma, _, wfs_ma _, rfl, ?_⟩
    have n2 : decide (Wv.mk ev de ca b ma = Wv.mk ev de ca b ma2) = decide (V.bl ma = V.bl ma2) := by
      by_cases e5 : ma = ma2
      · subst e5; simp
      · rw [decide_eq_false (fun e => e5 (Wv.mk.inj e).2.2.2.2), decide_eq_false (fun e => e5 (V.bl.inj e))]
    rw [n2] at q
    exact q
end
end My

set_option Elab.async false
set_option linter.all false
set_option maxRecDepth 100000
set_option maxHeartbeats 2000000
namespace My
open PySem PySem.Spec PyProof.Rows L2
/-- a def run below the running body -/
theorem run_in {X : Cx} {n : Nat} {f : Addr} {fd : FuncData} {ps : List Str} {sp : Sp} {A : Around} {pins : List (Addr × Obj)} {σ : L2.St} {H : Hp} {s : Shared} {Q : VK} {us : List Value} {vs : List V}
    (F : FnOk X.prog X.w X.K X.mg X.base CX0 n f fd ps sp) (hr : Room n A) (e0 : Env0 X.prog X.w X.K X.mg X.base A X.stack s H) (hb : Binds X.K fd ps []) (I : Inv X pins σ H s) (r : Vals vs us) (h : sp vs H Q E0) :
    wpAny (model X.prog X.w) A (call (.ref f) us) (EP X pins σ Q) X.xe s := by
  have hl : us.length = ps.length := by rw [← r.length]; exact F.len _ _ _ _ h
  have b := hb s us I.kIn (by rw [List.append_nil]; exact hl)
  rw [List.append_nil] at b
  refine wpAny_call (codeAny_mono (F.run A X.stack s H ⟨us, []⟩ us vs Q E0 hr e0 b r h) fun r s' hq => ?_)
  cases r with
  | error e => exact hq.elim
  | ok fl => cases fl with
    | ret u => exact I.after hq
    | next => exact hq.elim
    | brk => exact hq.elim
    | cont => exact hq.elim
/-- the own == of the class at C -/
structure WkE (P : Program) (w : World) (K : PySem.W.Frag) (mg : Str → Option Value) (base : Heap) (C : Addr) where
  f : Addr
  fd : FuncData
  G : FnOk P w K mg base CX0 1 f fd ["self", "other"] (spWE C)
  b : Binds K fd ["self", "other"] []
  hs : PySem.W.findIn K (.ref C) "__eq__" = some (some (.ref f))
  hf : PySem.W.isFn K (.ref f) = true
  nS : PySem.W.notFirst K C (.type "str") = true
  cls : ∃ nm q N bs hdct sn sub ab col dd k0 k1 k2 k3 k5 newId oN dN es ep sN oc od fdd osl, K.lookup C = some (excClassObj nm q C N bs [.type "object"] hdct sn sub ab col dd k0 k1 k2 k3 k5 newId) ∧ K.lookup N = some ⟨oN, dN, .dict es ep, sN⟩ ∧ StrKeys es ∧ nsFind es "__eq__" = some (.ref f) ∧ nsFind es "__ne__" = none ∧
    K.lookup f = some ⟨oc, od, fdd, osl⟩ ∧ oc = .type "function"
section
variable {X : Cx} {C : Addr}
def rEqW (C : Addr) : R2 := fun x y H Q => ∃ a v, x = .ref a ∧ Wk H C a v ∧ ((∃ z, y = .str z ∧ Q (.bl false) H) ∨ ∃ b v2, y = .ref b ∧ Wk H C b v2 ∧ Q (.bl (decide (v = v2))) H)
def rNeW (C : Addr) : R2 := fun x y H Q => ∃ a v b v2, x = .ref a ∧ y = .ref b ∧ Wk H C a v ∧ Wk H C b v2 ∧ Q (.bl (!decide (v = v2))) H
theorem op_eqW (W : WkE X.prog X.w X.K X.mg X.base C) (hr : Room 1 X.A) : OpR X (compareOp .Eq) (rEqW C) := by
  intro pins s σ H x y v u Q I rx ry h
  obtain ⟨a, va, rfl, ⟨dx, hx⟩, h⟩ := h
  cases rx
  obtain ⟨mA, J, _⟩ := ins_get I.hok hx
  obtain ⟨od, J, _⟩ := J.look
  obtain ⟨m, hF⟩ := I.fr
  have fin : ∀ {tb : Value}, PySem.W.Looks (model X.prog X.w) s.heap (typeOf u) tb → PySem.W.notFirst X.K C tb = true → spWE C [.ref a, y] H (fun z H' => (∃ k, z = .bl k) ∧ Q z H') E0 → wpAny (model X.prog X.w) X.A (compareOp .Eq (.ref a) u) (EP X pins σ Q) X.xe s := fun {tb} ht hn q => by
    show wpAny _ _ (richCompare .Eq (.ref a) u) _ _ _
    refine PySem.W.cmp_K (op := .Eq) (tb := tb) hr.units0 hF I.ok.mod.kin J ht hn W.hs W.hf (wpAny_mono (run_in (us := [.ref a, u]) (vs := [.ref a, y]) W.G hr I.env0 W.b I (.cons rfl (.cons ry .nil)) q) (fun z s' hz => ?_) fun _ _ e => e)
    obtain ⟨z', H', I', rz, ⟨k, ek⟩, qz⟩ := hz
    subst ek
    obtain rfl : z = Value.bool k := rz
    exact ⟨.bl k, H', I', rfl, qz⟩
  rcases h with ⟨z, rfl, q⟩ | ⟨b, vb, rfl, ⟨dy, hy⟩, q⟩
  · obtain ⟨t, rfl⟩ := ry
    exact fin (PySem.W.Looks.of_pure (typeIs_str s z t)) W.nS ⟨a, va, .str z, rfl, ⟨dx, hx⟩, .inl ⟨z, rfl, ⟨_, rfl⟩, q⟩⟩
  · obtain rfl : u = Value.ref b := ry
    obtain ⟨mB, J', _⟩ := ins_get I.hok hy
    obtain ⟨od', J', _⟩ := J'.look
    exact fin J'.type (by simp [PySem.W.notFirst]) ⟨a, va, .ref b, rfl, ⟨dx, hx⟩, .inr ⟨b, vb, rfl, ⟨dy, hy⟩, ⟨_, rfl⟩, q⟩⟩
theorem objEq : typeLookup (.type "object") ("__eq__" : Str) = pure (some (.builtin "object.__eq__")) := by
  rw [typeLookup_type, builtinLookup_eq_fast]
  kernel_rfl
theorem op_neW (W : WkE X.prog X.w X.K X.mg X.base C) (hr : Room 2 X.A) : OpR X (compareOp .NotEq) (rNeW C) := by
  intro pins s σ H x y v u Q I rx ry h
  obtain ⟨a, va, b, vb, rfl, rfl, ⟨dx, hx⟩, ⟨dy, hy⟩, q⟩ := h
  cases rx
  cases ry
  obtain ⟨mA, J, _⟩ := ins_get I.hok hx
  obtain ⟨od, J, _⟩ := J.look
  obtain ⟨mB, J', _⟩ := ins_get I.hok hy
  obtain ⟨od', J', _⟩ := J'.look
  obtain ⟨nm, qn, N, bs, hdct, sn, sub, ab, col, dd, k0, k1, k2, k3, k5, newId, oN, dN, es, ep, sN, oc, od2, fdd, osl, hC, hN, sk, e1, e2, hF, ec⟩ := W.cls
  have own : s.heap.OwnEqNoNe a C W.f "object" [.type "object"] := ⟨_, _, nm, qn, N, bs, hdct, sn, sub, ab, col, dd, k0, k1, k2, k3, k5, newId, nsFind es, _, J.1, J.2, I.kIn _ _ hC, ⟨_, es, ep, I.kIn _ _ hN, rfl, sk, fun _ => rfl⟩, e1,
    I.kIn _ _ hF, ec, PySem.F.mro_object, objEq, e2⟩
  obtain ⟨hp, g, d, tk, os⟩ := s
  refine compareOp_ne_ownEq PySem.F.cmp_object own J'.1 J'.2 (Nat.lt_of_lt_of_le (Nat.lt_of_lt_of_le (Nat.add_lt_add_left (by decide : 1 < 64) _) (Nat.le_refl _)) (Nat.le_of_lt hr.units)) ?_
  refine wpAny_mono (run_in (us := [.ref a, .ref b]) (vs := [.ref a, .ref b]) (Q := fun z H' => (∃ k, z = .bl k ∧ Q (.bl (!k)) H')) W.G (Room.in1 hr) I.env0.in1 W.b I (.cons rfl (.cons rfl .nil)) ⟨a, va, .ref b, rfl, ⟨dx, hx⟩, .inr ⟨b, vb, rfl, ⟨dy, hy⟩, _, rfl, q⟩⟩) (fun z s' hz => ?_) fun _ _ e => e
  obtain ⟨z', H', I', rz, k, ek, qz⟩ := hz
  subst ek
  obtain rfl : z = Value.bool k := rz
  exact ⟨k, rfl, .bl (!k), H', I', rfl, qz⟩
end
end My

set_option Elab.async false
set_option linter.all false
set_option maxRecDepth 100000
set_option maxHeartbeats 2000000
namespace My
open PySem PySem.Spec PyProof.Rows L2
local macro_rules | `(tactic| walk_at "rd") => `(tactic| simp only [rd_seq, rd_next, rd_brk, rd_cont, rd_asg, rd_gname, rd_var, rd_c, rd_op, rd_un, rd_rI0, rd_rI, rd_rU, rd_test, rd_B, rd_and, rd_or, rd_not, rd_andV, rd_orV, rd_notV, rd_ifx, rd_ifs, rd_drop, rd_ret, rd_nil, rd_cons, rd_cb, rd_tup, rd_lst, rd_call, rd_bm, rd_app, rd_ixLst, rd_ixSq, rd_lenL, rd_lenSq, rd_setLst, rd_sub, rd_neNil, rd_isStr, rd_isW, rd_fldS, rd_eq, rd_ne, rd_fldE, rd_allB, rd_isBl, rd_inS, rd_chain, rd_chain', L2.wipe, Int.reduceToNat, Int.reduceLE, Int.reduceLT, Nat.reduceLT, Nat.reduceLeDiff, Int.reduceNeg, Int.toNat_natCast, Int.reduceAdd, L2.start, and_assoc, exists_and_left, List.map_cons, List.map_nil, List.length_cons, List.length_nil, List.cons_append, List.nil_append, List.append_nil, List.replicate_succ, List.replicate_zero, List.replicate, List.set_cons_zero, List.set_cons_succ, List.getElem?_cons_zero, List.getElem?_cons_succ, Option.some.injEq, exists_eq_left', exists_eq_left, exists_eq, V.int.injEq, V.ref.injEq, V.str.injEq, V.bl.injEq, HO.lst.injEq, HO.tup.injEq, ex_bl, List.cons.injEq, and_true, true_and, Nat.reduceAdd, Nat.reduceSub, reduceCtorEq, false_and, or_false, exists_false, false_or, decide_eq_true_eq, if_true, if_false, Bool.false_eq_true, Bool.not_true, Bool.not_false, upd_same])
local macro_rules | `(tactic| walk_at "rdh") => `(tactic| simp only [rd_seq, rd_next, rd_brk, rd_cont, rd_asg, rd_gname, rd_var, rd_c, rd_op, rd_un, rd_rI0, rd_rI, rd_rU, rd_test, rd_B, rd_and, rd_or, rd_not, rd_andV, rd_orV, rd_notV, rd_ifx, rd_ifs, rd_drop, rd_ret, rd_nil, rd_cons, rd_cb, rd_tup, rd_lst, rd_call, rd_bm, rd_app, rd_ixLst, rd_ixSq, rd_lenL, rd_lenSq, rd_setLst, rd_sub, rd_neNil, rd_isStr, rd_isW, rd_fldS, rd_eq, rd_ne, rd_fldE, rd_allB, rd_isBl, rd_inS, rd_chain, rd_chain', L2.wipe, Int.reduceToNat, Int.reduceLE, Int.reduceLT, Nat.reduceLT, Nat.reduceLeDiff, Int.reduceNeg, Int.toNat_natCast, Int.reduceAdd, L2.start, and_assoc, exists_and_left, List.map_cons, List.map_nil, List.length_cons, List.length_nil, List.cons_append, List.nil_append, List.append_nil, List.replicate_succ, List.replicate_zero, List.replicate, List.set_cons_zero, List.set_cons_succ, List.getElem?_cons_zero, List.getElem?_cons_succ, Option.some.injEq, exists_eq_left', exists_eq_left, exists_eq, V.int.injEq, V.ref.injEq, V.str.injEq, V.bl.injEq, HO.lst.injEq, HO.tup.injEq, ex_bl, List.cons.injEq, and_true, true_and, Nat.reduceAdd, Nat.reduceSub, reduceCtorEq, false_and, or_false, exists_false, false_or, decide_eq_true_eq, if_true, if_false, Bool.false_eq_true, Bool.not_true, Bool.not_false, upd_same, *])

abbrev sOdd : Stmt := topI 15
abbrev sTld : Stmt := topI 17
abbrev NOdd : List Str := ["part"]
theorem scOdd : FnScope NOdd ["part"] (defScope sOdd) := ⟨rfl, rfl, rfl, by decide +kernel, rfl, by decide +kernel, by decide +kernel⟩
abbrev NTld : List Str := ["one"]
theorem scTld : FnScope NTld ["one"] (defScope sTld) := ⟨rfl, rfl, rfl, by decide +kernel, rfl, by decide +kernel, by decide +kernel⟩
def parts : List Str := ["event", "deed", "call", "by", "may"]
/-- x cannot be the part p of a waking -/
def oddB (p : Str) (x : V) : Bool := if p = "event" then !hasS evs x else if p = "deed" then !isWord x else if p = "call" then !isWord x else if p = "by" then !hasS bys x else !isBl x
def spOdd : Sp := fun vs H Q _ => ∃ p : Str, vs = [.str p] ∧ p ∈ parts ∧ ∀ (l : Addr) (xs : List V) (H' : Hp), H l = none → Same H H' → H' l = some (.lst xs) → 0 < xs.length → xs.length ≤ 20 → (∀ x ∈ xs, Ty H' x ∧ oddB p x = true) → Q (.ref l) H'
def spTld (C : Addr) : Sp := fun vs H Q _ => ∃ (x : Addr) (v : Wv), vs = [.ref x] ∧ Wk H C x v ∧ ∀ (l : Addr) (H' : Hp), H l = none → Same H H' → H' l = some (.lst [.str v.ev, .str v.de, .str v.ca, .str v.b, .bl v.ma]) → Q (.ref l) H'
section
variable {P : Program} {w : World} {K : PySem.W.Frag} {mg : Str → Option Value} {base : Heap}
def flatOk : V → Bool
  | .non => true
  | .bl _ => true
  | .int _ => true
  | .str x => decide (x.length ≤ 1000)
  | _ => false
theorem g_flat {H : Hp} {p : Str} {x : V} (h : flatOk x = true) (o : oddB p x = true) : Ty H x ∧ oddB p x = true := by
  refine ⟨?_, o⟩
  cases x with
  | str z => exact ⟨rfl, fun y e => by cases e; exact of_decide_eq_true h⟩
  | non => exact ⟨rfl, fun y e => by cases e⟩
  | bl b => exact ⟨rfl, fun y e => by cases e⟩
  | int b => exact ⟨rfl, fun y e => by cases e⟩
  | _ => cases h
theorem odd_ref (p : Str) (a : Addr) : oddB p (.ref a) = true := by
  have h1 : (!hasS evs (.ref a)) = true := rfl
  have h2 : (!isWord (.ref a)) = true := rfl
  have h3 : (!hasS bys (.ref a)) = true := rfl
  have h4 : (!isBl (.ref a)) = true := rfl
  unfold oddB
  rw [h1, h2, h3, h4]
  repeat' split
  all_goals rfl
theorem g_ref {H : Hp} {p : Str} {a : Addr} (h : (tyO (H a)).isSome = true) : Ty H (.ref a) ∧ oddB p (.ref a) = true := ⟨⟨h, fun y e => by cases e⟩, odd_ref p a⟩
/-- a tuple, a list, then the list of all -/
theorem odd_end {H H0 : Hp} {Q : VK} {p : Str} {o1 o2 : HO} {xs : Addr → Addr → List V} (k1 : (tyO (some o1)).isSome = true) (k2 : (tyO (some o2)).isSome = true) (sm : Same H H0) (hn : ∀ a b, 0 < (xs a b).length ∧ (xs a b).length ≤ 20) (hx : ∀ a b x, x ∈ xs a b → (flatOk x = true ∧ oddB p x = true) ∨ x = .ref a ∨ x = .ref b)
    (q : ∀ (l : Addr) (xs : List V) (H' : Hp), H l = none → Same H H' → H' l = some (.lst xs) → 0 < xs.length → xs.length ≤ 20 → (∀ x ∈ xs, Ty H' x ∧ oddB p x = true) → Q (.ref l) H')
    (t : Addr) (ht : H0 t = none) (l : Addr) (hl : upd H0 t o1 l = none) (r : Addr) (hr : upd (upd H0 t o1) l o2 r = none) : Q (.ref r) (upd (upd (upd H0 t o1) l o2) r (.lst (xs t l))) := by
  have s1 := My.Same.new' sm ht (o := o1)
  have s2 := My.Same.new' s1 hl (o := o2)
  have s3 := My.Same.new' s2 hr (o := .lst (xs t l))
  have htl : t ≠ l := ne_of_none (o := o1) upd_same hl
  have hlr : l ≠ r := ne_of_none (o := o2) upd_same hr
  have htr : t ≠ r := ne_of_none (o := o1) (by rw [upd_ne htl]; exact upd_same) hr
  refine q r _ _ (s2.free hr) s3 upd_same (hn t l).1 (hn t l).2 fun x hm => ?_
  rcases hx t l x hm with ⟨h1, h2⟩ | rfl | rfl
  · exact g_flat h1 h2
  · exact g_ref (by rw [upd_ne htr, upd_ne htl, upd_same]; exact k1)
  · exact g_ref (by rw [upd_ne hlr, upd_same]; exact k2)
theorem ok_odd {f : Addr} {fd : FuncData} (F : Fun K "_law_odds" "_law_odds" sOdd f fd) (B : Bn mg) : FnOk P w K mg base CX0 1 f fd ["part"] spOdd := by
  refine F.ok scOdd (fun vs H Q E h => ?_) (fun cdv A outer s H vs Q E hr h => ?_)
  · obtain ⟨p, rfl, _⟩ := h
    rfl
  · obtain ⟨p, rfl, hp, q⟩ := h
    refine ⟨_, (pss_cons (ps_if (pt_cmpR op_eq (pv 0) pe_str (nomark _))
        (pss_one (ps_ret (pe_lst (pa_cons pe_non (pa_cons pe_str (pa_cons pe_str (pa_cons pe_str (pa_cons pe_int (pa_cons (pe_tup (pa_cons pe_str pa_nil)) (pa_cons (pe_lst (pa_cons pe_str pa_nil)) (pa_cons pe_bl pa_nil)))))))))))
        pss_nil)
      (pss_cons (ps_if (pt_cmpR op_inS (pv 0) (pe_tup (pa_cons pe_str (pa_cons pe_str pa_nil))) (by rfl))
        (pss_one (ps_ret (pe_lst (pa_cons pe_non (pa_cons pe_str (pa_cons pe_str (pa_cons pe_str (pa_cons pe_int (pa_cons (pe_tup (pa_cons pe_str pa_nil)) (pa_cons (pe_lst (pa_cons pe_str pa_nil)) (pa_cons pe_bl (pa_cons pe_str pa_nil))))))))))))
        pss_nil)
      (pss_cons (ps_if (pt_cmpR op_eq (pv 0) pe_str (nomark _))
        (pss_one (ps_ret (pe_lst (pa_cons pe_non (pa_cons pe_str (pa_cons pe_str (pa_cons pe_str (pa_cons pe_int (pa_cons (pe_tup (pa_cons pe_str pa_nil)) (pa_cons (pe_lst (pa_cons pe_str pa_nil)) (pa_cons pe_bl pa_nil)))))))))))
        pss_nil)
      (pss_one (ps_ret (pe_lst (pa_cons pe_non (pa_cons pe_int (pa_cons pe_int (pa_cons pe_str (pa_cons pe_str (pa_cons (pe_lst pa_nil) (pa_cons (pe_tup pa_nil) pa_nil))))))))))))), ?_⟩
    walk_at "rd"
    refine ⟨rfl, ?_⟩
    by_cases e1 : p = "event"
    · subst e1
      rw [if_pos rfl]
      refine ⟨sz (by decide), fun t ht => ⟨sz (by decide), fun l hl => ⟨sz (by decide), fun r hr => ?_⟩⟩⟩
      refine odd_end (xs := fun t l => [.non, .str "", .str "Laid", .str "passed", .int 5, .ref t, .ref l, .bl true]) rfl rfl (Same.refl H) (fun _ _ => ⟨Nat.zero_lt_succ _, by simp⟩) (fun a b x hx => ?_) q t ht l hl r hr
      simp only [List.mem_cons, List.not_mem_nil, or_false] at hx
      rcases hx with rfl | rfl | rfl | rfl | rfl | rfl | rfl | rfl
      all_goals first | exact .inr (.inl rfl) | exact .inr (.inr rfl) | exact .inl ⟨by decide +kernel, by decide +kernel⟩
    rw [if_neg e1]
    refine ⟨sz (by decide), fun p2 hp2 => ⟨rfl, ["deed", "call"], SqT.of upd_same, ?_⟩⟩
    have s2 := My.Same.new (Same.refl H) hp2 (o := .tup [.str "deed", .str "call"])
    by_cases e2 : p = "deed" ∨ p = "call"
    · have h2 : hasS ["deed", "call"] (.str p) = true := by rcases e2 with rfl | rfl <;> decide
      rw [if_pos h2]
      refine ⟨sz (by decide), fun t ht => ⟨sz (by decide), fun l hl => ⟨sz (by decide), fun r hr => ?_⟩⟩⟩
      refine odd_end (xs := fun t l => [.non, .str "", .str "A", .str "abcdefghi", .int 5, .ref t, .ref l, .bl true, .str "a b"]) rfl rfl s2 (fun _ _ => ⟨Nat.zero_lt_succ _, by simp⟩) (fun a b x hx => ?_) q t ht l hl r hr
      simp only [List.mem_cons, List.not_mem_nil, or_false] at hx
      rcases e2 with rfl | rfl
      all_goals
        rcases hx with rfl | rfl | rfl | rfl | rfl | rfl | rfl | rfl | rfl
        all_goals first | exact .inr (.inl rfl) | exact .inr (.inr rfl) | exact .inl ⟨by decide +kernel, by decide +kernel⟩
    have h2 : hasS ["deed", "call"] (.str p) = false := by
      have n1 : ¬ p = "deed" := fun e => e2 (.inl e)
      have n2 : ¬ p = "call" := fun e => e2 (.inr e)
      simp [hasS, n1, n2]
    rw [h2, if_neg Bool.false_ne_true]
    refine ⟨rfl, ?_⟩
    by_cases e3 : p = "by"
    · subst e3
      rw [if_pos rfl]
      refine ⟨sz (by decide), fun t ht => ⟨sz (by decide), fun l hl => ⟨sz (by decide), fun r hr => ?_⟩⟩⟩
      refine odd_end (xs := fun t l => [.non, .str "", .str "Own", .str "other", .int 0, .ref t, .ref l, .bl true]) rfl rfl s2 (fun _ _ => ⟨Nat.zero_lt_succ _, by simp⟩) (fun a b x hx => ?_) q t ht l hl r hr
      simp only [List.mem_cons, List.not_mem_nil, or_false] at hx
      rcases hx with rfl | rfl | rfl | rfl | rfl | rfl | rfl | rfl
      all_goals first | exact .inr (.inl rfl) | exact .inr (.inr rfl) | exact .inl ⟨by decide +kernel, by decide +kernel⟩
    rw [if_neg e3]
    have ep : p = "may" := by
      simp only [parts, List.mem_cons, List.not_mem_nil, or_false] at hp
      rcases hp with h | h | h | h | h
      · exact absurd h e1
      · exact absurd (.inl h) e2
      · exact absurd (.inr h) e2
      · exact absurd h e3
      · exact h
    subst ep
    refine ⟨sz (by decide), fun t ht => ⟨sz (by decide), fun l hl => ⟨sz (by decide), fun r hr => ?_⟩⟩⟩
    refine odd_end (xs := fun t l => [.non, .int 0, .int 1, .str "may", .str "must", .ref t, .ref l]) rfl rfl s2 (fun _ _ => ⟨Nat.zero_lt_succ _, by simp⟩) (fun a b x hx => ?_) q t ht l hl r hr
    simp only [List.mem_cons, List.not_mem_nil, or_false] at hx
    rcases hx with rfl | rfl | rfl | rfl | rfl | rfl | rfl
    all_goals first | exact .inr (.inl rfl) | exact .inr (.inr rfl) | exact .inl ⟨by decide +kernel, by decide +kernel⟩
theorem ok_tld {f C : Addr} {fd : FuncData} (F : Fun K "_law_told" "_law_told" sTld f fd) (TW : WkT K C) : FnOk P w K mg base CX0 1 f fd ["one"] (spTld C) := by
  refine F.ok scTld (fun vs H Q E h => ?_) (fun cdv A outer s H vs Q E hr h => ?_)
  · obtain ⟨x, v, rfl, _⟩ := h
    rfl
  · obtain ⟨x, v, rfl, ⟨dx, hx⟩, q⟩ := h
    refine ⟨_, (pss_one (ps_ret (pe_lst (pa_cons (pe_fld (pv 0) rfl) (pa_cons (pe_fld (pv 0) rfl) (pa_cons (pe_fld (pv 0) rfl) (pa_cons (pe_fld (pv 0) rfl) (pa_cons (pe_fld (pv 0) rfl) pa_nil)))))))), ?_⟩
    walk_at "rd"
    refine ⟨C, dx, _, hx, TW.cl, TW.ev, _, wfs_ev v, C, dx, _, hx, TW.cl, TW.de, _, wfs_de v, C, dx, _, hx, TW.cl, TW.ca, _, wfs_ca v, C, dx, _, hx, TW.cl, TW.b, _, wfs_b v, C, dx, _, hx, TW.cl, TW.ma, _, wfs_ma v, sz (by decide), fun l hl => ?_⟩
    exact q l _ hl (My.Same.new (Same.refl H) hl) upd_same
end
end My

set_option Elab.async false
set_option linter.all false
set_option maxRecDepth 100000
set_option maxHeartbeats 2000000
namespace My
open PySem PySem.Spec PyProof.Rows L2
theorem rd_makeK {C : Addr} {n m : Nat} {sp : Sp} {gV : List V → List V → List V} {E : XK} {t tk : TA} {σ : L2.St} {H : Hp} {Q : VK} : tMakeK C n m sp gV E t tk σ H Q = t σ H fun vs H1 => tk σ H1 fun zs H2 => vs.length = n ∧ zs.length = m ∧ ∀ x dx, H2 x = none → H2 dx = none → dx ≠ x →
  sp (gV (.ref x :: vs) zs) (upd (upd H2 dx (.own x)) x (.ins C dx [])) (fun v H3 => v = .non ∧ Q (.ref x) H3) E := rfl
theorem rd_xf {a : Addr} {cls : Value} {d : Option Addr} {C : Addr} {f : Str} {te : TE} {σ : L2.St} {H : Hp} {Q : VK} : tXf a cls d C f te σ H Q = te σ H fun x H1 => x = .ref a ∧ cls = .ref C ∧ ∃ (dd : Addr) (fs : List (Str × V)) (v : V), d = some dd ∧ H1 dd = some (.xd fs) ∧ fs.lookup f = some v ∧ Q v H1 := rfl
local macro_rules | `(tactic| walk_at "rd") => `(tactic| simp only [rd_seq, rd_next, rd_brk, rd_cont, rd_asg, rd_gname, rd_var, rd_c, rd_op, rd_un, rd_rI0, rd_rI, rd_rU, rd_test, rd_B, rd_and, rd_or, rd_not, rd_andV, rd_orV, rd_notV, rd_ifx, rd_ifs, rd_drop, rd_ret, rd_nil, rd_cons, rd_cb, rd_tup, rd_lst, rd_call, rd_bm, rd_app, rd_ixLst, rd_ixSq, rd_lenL, rd_lenSq, rd_setLst, rd_sub, rd_neNil, rd_isStr, rd_isW, rd_dg, rd_dp, rd_makeK, rd_xf, L2.valV_put, rd_fldS, rd_eq, rd_ne, rd_fldE, rd_allB, rd_isBl, rd_inS, rd_chain, rd_chain', L2.wipe, Int.reduceToNat, Int.reduceLE, Int.reduceLT, Nat.reduceLT, Nat.reduceLeDiff, Int.reduceNeg, Int.toNat_natCast, Int.reduceAdd, L2.start, and_assoc, exists_and_left, List.map_cons, List.map_nil, List.length_cons, List.length_nil, List.cons_append, List.nil_append, List.append_nil, List.replicate_succ, List.replicate_zero, List.replicate, List.set_cons_zero, List.set_cons_succ, List.getElem?_cons_zero, List.getElem?_cons_succ, Option.some.injEq, exists_eq_left', exists_eq_left, exists_eq, V.int.injEq, V.ref.injEq, V.str.injEq, V.bl.injEq, HO.lst.injEq, HO.tup.injEq, ex_bl, List.cons.injEq, and_true, true_and, Nat.reduceAdd, Nat.reduceSub, reduceCtorEq, false_and, or_false, exists_false, false_or, decide_eq_true_eq, if_true, if_false, Bool.false_eq_true, Bool.not_true, Bool.not_false, upd_same])
local macro_rules | `(tactic| walk_at "rdh") => `(tactic| simp only [rd_seq, rd_next, rd_brk, rd_cont, rd_asg, rd_gname, rd_var, rd_c, rd_op, rd_un, rd_rI0, rd_rI, rd_rU, rd_test, rd_B, rd_and, rd_or, rd_not, rd_andV, rd_orV, rd_notV, rd_ifx, rd_ifs, rd_drop, rd_ret, rd_nil, rd_cons, rd_cb, rd_tup, rd_lst, rd_call, rd_bm, rd_app, rd_ixLst, rd_ixSq, rd_lenL, rd_lenSq, rd_setLst, rd_sub, rd_neNil, rd_isStr, rd_isW, rd_dg, rd_dp, rd_makeK, rd_xf, L2.valV_put, rd_fldS, rd_eq, rd_ne, rd_fldE, rd_allB, rd_isBl, rd_inS, rd_chain, rd_chain', L2.wipe, Int.reduceToNat, Int.reduceLE, Int.reduceLT, Nat.reduceLT, Nat.reduceLeDiff, Int.reduceNeg, Int.toNat_natCast, Int.reduceAdd, L2.start, and_assoc, exists_and_left, List.map_cons, List.map_nil, List.length_cons, List.length_nil, List.cons_append, List.nil_append, List.append_nil, List.replicate_succ, List.replicate_zero, List.replicate, List.set_cons_zero, List.set_cons_succ, List.getElem?_cons_zero, List.getElem?_cons_succ, Option.some.injEq, exists_eq_left', exists_eq_left, exists_eq, V.int.injEq, V.ref.injEq, V.str.injEq, V.bl.injEq, HO.lst.injEq, HO.tup.injEq, ex_bl, List.cons.injEq, and_true, true_and, Nat.reduceAdd, Nat.reduceSub, reduceCtorEq, false_and, or_false, exists_false, false_or, decide_eq_true_eq, if_true, if_false, Bool.false_eq_true, Bool.not_true, Bool.not_false, upd_same, *])

abbrev sTry : Stmt := topI 16
theorem scTry : FnScope ["values", "e"] ["values"] (defScope sTry) := ⟨rfl, rfl, rfl, by decide +kernel, rfl, by decide +kernel, by decide +kernel⟩
/-- the dict of a waking's parts -/
structure DS (H : Hp) (d : Addr) (ev de ca b ma : V) : Prop where
  ex : ∃ kvs : List (Key × V), H d = some (.dK kvs) ∧ kvs.length ≤ 20 ∧ valV kvs (Sum.inr "event") = some ev ∧ valV kvs (Sum.inr "deed") = some de ∧ valV kvs (Sum.inr "call") = some ca ∧ valV kvs (Sum.inr "by") = some b ∧ valV kvs (Sum.inr "may") = some ma
/-- the class Waking as it is made -/
structure WkM (P : Program) (w : World) (K : PySem.W.Frag) (mg : Str → Option Value) (base : Heap) (C CB : Addr) where
  f : Addr
  fd : FuncData
  G : FnOk P w K mg base (L2.CX P w) 3 f fd ["self", "event", "deed", "call", "by", "may"] (spWI C CB)
  M : Mk K C f
  g : mg "Waking" = some (.ref C)
  gk : List Value → List Value → List Value
  b3 : KBn K fd ["self", "event", "deed", "call", "by", "may"] 4 ["by", "may"] gk (fun vs zs => vs ++ zs)
def spTry : Sp := fun vs H Q _ => ∃ (d : Addr) (ev de ca b ma : V) (m : Str), vs = [.ref d] ∧ DS H d ev de ca b ma ∧ Ty H ev ∧ Ty H de ∧ Ty H ca ∧ Ty H b ∧ Ty H ma ∧ badW ev de ca b ma = some m ∧
  ∀ (l : Addr) (H' : Hp), H l = none → Same H H' → H' l = some (.lst [.str m, .bl true]) → Q (.ref l) H'
section
variable {P : Program} {w : World} {K : PySem.W.Frag} {mg : Str → Option Value} {base : Heap}
theorem ok_try {f C aP : Addr} {fd : FuncData} (F : Fun K "_law_tried" "_law_tried" sTry f fd) (B : Bn mg) (TB : Xc K mg "BadWaking" "part" "BadWaking.__init__" sBW) (MW : WkM P w K mg base C TB.C) (gP : mg "PileError" = some (.ref aP))
    (hne : TB.C ≠ aP) (kP : PySem.W.kitCls K (.ref TB.C) (.ref aP) = some true) (xm : PySem.W.exmOne K (.ref TB.C) (.ref TB.C) = some true) : FnOk P w K mg base CX0 5 f fd ["values"] spTry := by
  refine F.ok scTry (fun vs H Q E h => ?_) (fun cdv A outer s H vs Q E hr h => ?_)
  · obtain ⟨d, ev, de, ca, b, ma, m, rfl, _⟩ := h
    rfl
  · obtain ⟨d, ev, de, ca, b, ma, m, rfl, ⟨kvs, hd, hk, v1, v2, v3, v4, v5⟩, t1, t2, t3, t4, t5, hb, q⟩ := h
    have hu64 := hr.units
    refine ⟨_, pss_cons (ps_try_as (i := 1) (Wout := fun _ _ _ _ => False) rfl rfl scTry.nd rfl rfl ⟨rfl, by decide, Or.inl TB.g⟩ takes0
        (fun W pn xe tk _ => pss_one (ps_expr (pe_makeK (x := "Waking") (E := fun cls d H => ∀ σ : L2.St, σ.length = 2 → W cls d σ H) MW.M MW.G hr rfl MW.g MW.b3 (passAll tk) (pa_cons (pe_dg hu64 (pv 0) pe_str) (pa_cons (pe_dg hu64 (pv 0) pe_str) (pa_cons (pe_dg hu64 (pv 0) pe_str) pa_nil))) (pk_cons (pe_dg hu64 (pv 0) pe_str) (pk_cons (pe_dg hu64 (pv 0) pe_str) pk_nil)))))
        (ts := fun a cls d => tRet (tLst (tCons (tXf a cls d TB.C "part" (tVar 1)) (tCons (tCB (fun vs H Q => cls = .ref TB.C ∧ vs = [.ref a, .ref aP] ∧ Q (.bl true) H) (tCons (tVar 1) (tCons (tC (.ref aP)) tNil))) tNil))))
        (fun a oe cls d pn hz hf => pss_one (ps_ret (pe_lst (pa_cons (pe_xf TB.xf TB.no hz hf (pv 1)) (pa_cons (pe_callB (call_isUp (D := TB.C) (d := d) hz hne kP) (by rfl) B.isinstance (by decide +kernel) (pa_cons (pv 1) (pa_cons (pe_gR gP) pa_nil))) pa_nil))))))
      (pss_one (ps_ret pe_str)), ?_⟩
    walk_at "rd"
    refine ⟨kvs, hd, _, v1, kvs, hd, _, v2, kvs, hd, _, v3, kvs, hd, _, v4, kvs, hd, _, v5, fun x dx hx hdx hxd => ?_⟩
    have s0 : Same H (upd (upd H dx (.own x)) x (.ins C dx [])) := My.Same.new' (My.Same.new (Same.refl H) hdx) (by rw [upd_ne (Ne.symm hxd)]; exact hx)
    refine ⟨x, dx, ev, de, ca, b, ma, rfl, upd_same, t1.same s0, t2.same s0, t3.same s0, t4.same s0, t5.same s0, fun m' hm' dd H' hn sm hdd σ hσ => ?_, fun e => ?_⟩
    · have em : m = m' := Option.some.inj (hb.symm.trans hm')
      subst em
      have s1 : Same H H' := s0.trans sm
      refine ⟨true, xm, fun _ a ha => ?_, fun e => Bool.noConfusion e⟩
      have hv : (σ.set 1 (some (V.ref a)))[1]? = some (some (V.ref a)) := by
        rw [List.getElem?_set_self (by omega)]
      walk_at "rd"
      refine ⟨_, hv, rfl, _, hdd, .str m, rfl, _, hv, rfl, sz (by decide), fun l hl => ?_⟩
      exact q l _ (s1.free hl) (My.Same.new' s1 hl) upd_same
    · rw [hb] at e
      exact absurd e (by simp)
end
end My

set_option Elab.async false
set_option linter.all false
set_option maxRecDepth 100000
set_option maxHeartbeats 2000000
namespace My
open PySem PySem.Spec PyProof.Rows L2
abbrev psW : List Str := ["self", "event", "deed", "call", "by", "may"]
abbrev FunW (K : PySem.W.Frag) (f : Addr) (fd : FuncData) : Prop := FunD K "__init__" "Waking.__init__" (defArgs sWI) (defBody sWI) (defScope sWI) [] [("by", .str "own"), ("may", .bl false)] f fd
def gA {α : Type} (us ws : List α) : List α := match ws with
  | [m, b, c, e, d] => us ++ [e, d, c, b, m]
  | _ => us
theorem gA_rel {vs zs : List V} {us ws : List Value} (h1 : Vals vs us) (h2 : Vals zs ws) : Vals (gA vs zs) (gA us ws) := by
  cases h2 with
  | nil => exact h1
  | cons a1 h2 => cases h2 with
    | nil => exact h1
    | cons a2 h2 => cases h2 with
      | nil => exact h1
      | cons a3 h2 => cases h2 with
        | nil => exact h1
        | cons a4 h2 => cases h2 with
          | nil => exact h1
          | cons a5 h2 => cases h2 with
            | nil => exact h1.append (.cons a4 (.cons a5 (.cons a3 (.cons a2 (.cons a1 .nil)))))
            | cons _ _ => exact h1
section
variable {K : PySem.W.Frag} {f : Addr} {fd : FuncData}
theorem b3W (F : FunW K f fd) : KBn K fd psW 4 ["by", "may"] (fun us ws => us ++ ws) (fun vs zs => vs ++ zs) := by
  obtain ⟨mv, h⟩ := FunD.kbinds0 (ps := psW) F 4 ["by", "may"] [] (fun us _ ws => us ++ ws) (by simp) (by simp) (fun a _ c => a.append c) (fun D doc pm an cdv ct us mv ws l1 l2 l3 => by
    match us, l1, ws, l3 with
    | [_, _, _, _], _, [_, _], _ => rfl)
  exact h
theorem bAW (F : FunW K f fd) : KBn K fd psW 1 ["may", "by", "call", "event", "deed"] (fun us ws => gA us ws) (fun vs zs => gA vs zs) := by
  obtain ⟨mv, h⟩ := FunD.kbinds0 (ps := psW) F 1 ["may", "by", "call", "event", "deed"] [] (fun us _ ws => gA us ws) (by simp) (by simp) (fun a _ c => gA_rel a c) (fun D doc pm an cdv ct us mv ws l1 l2 l3 => by
    match us, l1, ws, l3 with
    | [_], _, [_, _, _, _, _], _ => rfl)
  exact h
theorem b0W (F : FunW K f fd) : ∃ ds, Vals [.str "own", .bl false] ds ∧ Binds K fd psW ds := by
  refine FunD.binds0 (ps := psW) F 4 (by simp) rfl (fun D doc pm an cdv ct us ks l1 l2 => ?_)
  match us, l1, ks, l2 with
  | [_, _, _, _], _, [_, _], _ => exact ⟨_, _, _, _, _, _, rfl, rfl, _, _, _, _, _, _, rfl, rfl, rfl⟩
end
end My

set_option Elab.async false
set_option linter.all false
set_option maxRecDepth 100000
set_option maxHeartbeats 2000000
namespace My
open PySem PySem.Spec PyProof.Rows L2
/-! ### a heap in which one list p (a pool: its numbers at q, a place) may change, and new things come -/
structure Iv (p q : Addr) (H0 H : Hp) : Prop where
  sb : ∀ a u, a ≠ p → H0 a = some u → H a = some u
  pa : ∃ k : Int, 0 ≤ k ∧ H p = some (.lst [.ref q, .int k])
section
variable {p q : Addr} {H0 H H' : Hp}
theorem Iv.get (I : Iv p q H0 H) {a : Addr} {u : HO} (n : a ≠ p) (h : H0 a = some u) : H a = some u := I.sb a u n h
theorem Iv.same (I : Iv p q H0 H) (s : Same H H') : Iv p q H0 H' := ⟨fun a u n h => s a u (I.sb a u n h), let ⟨k, h1, h2⟩ := I.pa; ⟨k, h1, s _ _ h2⟩⟩
theorem Iv.free (I : Iv p q H0 H) {b : Addr} (h : H b = none) : H0 b = none ∧ b ≠ p := by
  have n : b ≠ p := by
    rintro rfl
    obtain ⟨k, _, z⟩ := I.pa
    rw [h] at z
    cases z
  refine ⟨?_, n⟩
  cases z : H0 b with
  | none => rfl
  | some u =>
    have y := I.sb b u n z
    rw [h] at y
    cases y
theorem Iv.new (I : Iv p q H0 H) {b : Addr} {o : HO} (h : H b = none) : Iv p q H0 (upd H b o) := I.same (My.Same.new (Same.refl H) h)
/-- a thing that was not there at the start is written -/
theorem Iv.set (I : Iv p q H0 H) {b : Addr} {o : HO} (h : H0 b = none) (n : b ≠ p) : Iv p q H0 (upd H b o) :=
  ⟨fun a u m z => by rw [upd_ne (ne_of_none z h)]; exact I.sb a u m z, let ⟨k, h1, h2⟩ := I.pa; ⟨k, h1, by rw [upd_ne (Ne.symm n)]; exact h2⟩⟩
/-- a draw -/
theorem Iv.draw (I : Iv p q H0 H) {k : Int} (hk : 0 ≤ k) : Iv p q H0 (upd H p (.lst [.ref q, .int (k + 1)])) :=
  ⟨fun a u m z => by rw [upd_ne m]; exact I.sb a u m z, k + 1, by omega, upd_same⟩
theorem Iv.start (h : ∃ k : Int, 0 ≤ k ∧ H p = some (.lst [.ref q, .int k])) : Iv p q H H := ⟨fun _ _ _ z => z, h⟩
theorem Iv.same0 {Hs : Hp} (s : Same Hs H0) (n : Hs p = none) (I : Iv p q H0 H) : Same Hs H := fun a u z => I.sb a u (ne_of_none z n) (s a u z)
/-- types stand -/
theorem Iv.ty (I : Iv p q H0 H) {x : V} (h : Ty H0 x) : Ty H x := by
  refine ⟨?_, h.2⟩
  cases x with
  | ref a =>
    obtain ⟨t, ht⟩ := Option.isSome_iff_exists.mp h.1
    by_cases e : a = p
    · subst e
      obtain ⟨k, _, z⟩ := I.pa
      show (tyO (H a)).isSome = true
      rw [z]
      rfl
    · rcases tyO_cases (show tyO (H0 a) = some t from ht) with ⟨xs, z, _⟩ | ⟨xs, z, _⟩ | ⟨xs, z, _⟩
      all_goals
        show (tyO (H a)).isSome = true
        rw [I.sb a _ e z]
        rfl
  | _ => exact h.1
/-- from a later place on -/
theorem Iv.trans {H2 : Hp} (I : Iv p q H0 H) (J : Iv p q H H2) : Iv p q H0 H2 := ⟨fun a u n h => J.sb a u n (I.sb a u n h), J.pa⟩
theorem Iv.here (I : Iv p q H0 H) : Iv p q H H := .start I.pa
end
/-! ### the parts of a waking, by their names -/
abbrev PF := Str → V
def putP (G : PF) (r : Str) (x : V) : PF := fun s => if s = r then x else G s
/-- the dict of a waking's parts -/
def dkv (G : PF) : List (Key × V) := [(.inr "event", G "event"), (.inr "deed", G "deed"), (.inr "call", G "call"), (.inr "by", G "by"), (.inr "may", G "may")]
theorem parts_cases {r : Str} (h : r ∈ parts) : r = "event" ∨ r = "deed" ∨ r = "call" ∨ r = "by" ∨ r = "may" := by
  simpa only [parts, List.mem_cons, List.not_mem_nil, or_false] using h
theorem dkv_get (G : PF) {r : Str} (h : r ∈ parts) : valV (dkv G) (Sum.inr r) = some (G r) := by
  rcases parts_cases h with rfl | rfl | rfl | rfl | rfl <;> rfl
theorem dkv_put (G : PF) {r : Str} (x : V) (h : r ∈ parts) : putK (dkv G) (Sum.inr r) x = dkv (putP G r x) := by
  rcases parts_cases h with rfl | rfl | rfl | rfl | rfl <;> rfl
theorem dkv_merge (G : PF) : mergeK [] (dkv G) = dkv G := rfl
theorem dkv_ext {G G' : PF} (h : ∀ r ∈ parts, G r = G' r) : dkv G = dkv G' := by
  have := h "event" (by decide)
  have := h "deed" (by decide)
  have := h "call" (by decide)
  have := h "by" (by decide)
  have := h "may" (by decide)
  simp only [dkv, *]
abbrev bad (G : PF) : Option Str := badW (G "event") (G "deed") (G "call") (G "by") (G "may")
theorem bad_find (G : PF) : bad G = parts.find? fun r => oddB r (G r) := by
  have e1 : oddB "event" (G "event") = !hasS evs (G "event") := rfl
  have e2 : oddB "deed" (G "deed") = !isWord (G "deed") := rfl
  have e3 : oddB "call" (G "call") = !isWord (G "call") := rfl
  have e4 : oddB "by" (G "by") = !hasS bys (G "by") := rfl
  have e5 : oddB "may" (G "may") = !isBl (G "may") := rfl
  simp only [bad, badW, parts, List.find?_cons, List.find?_nil, e1, e2, e3, e4, e5]
  cases hasS evs (G "event") <;> cases isWord (G "deed") <;> cases isWord (G "call") <;> cases hasS bys (G "by") <;> cases isBl (G "may") <;> rfl
/-- all parts are right -/
def Right (G : PF) : Prop := ∀ r ∈ parts, oddB r (G r) = false
theorem Right.none {G : PF} (h : Right G) : bad G = none := by
  rw [bad_find, List.find?_eq_none]
  intro r hr
  rw [h r hr]
  decide
theorem Right.put {G : PF} {r : Str} {x : V} (h : Right G) (hx : oddB r x = false) : Right (putP G r x) := fun s hs => by
  unfold putP
  split
  · rename_i e
    rw [e]
    exact hx
  · exact h s hs
/-- the part r is wrong, those ahead of it are right -/
theorem bad_first {G : PF} {i : Nat} {r : Str} (hr : parts[i]? = some r) (ho : oddB r (G r) = true) (hb : ∀ j s, j < i → parts[j]? = some s → oddB s (G s) = false) : bad G = some r := by
  rw [bad_find]
  match i, hr with
  | 0, hr => 
    obtain rfl : ("event" : Str) = r := Option.some.inj hr
    simp only [parts, List.find?_cons, ho]
  | 1, hr =>
    obtain rfl : ("deed" : Str) = r := Option.some.inj hr
    simp only [parts, List.find?_cons, ho, hb 0 "event" (by decide) rfl]
  | 2, hr =>
    obtain rfl : ("call" : Str) = r := Option.some.inj hr
    simp only [parts, List.find?_cons, ho, hb 0 "event" (by decide) rfl, hb 1 "deed" (by decide) rfl]
  | 3, hr =>
    obtain rfl : ("by" : Str) = r := Option.some.inj hr
    simp only [parts, List.find?_cons, ho, hb 0 "event" (by decide) rfl, hb 1 "deed" (by decide) rfl, hb 2 "call" (by decide) rfl]
  | 4, hr =>
    obtain rfl : ("may" : Str) = r := Option.some.inj hr
    simp only [parts, List.find?_cons, ho, hb 0 "event" (by decide) rfl, hb 1 "deed" (by decide) rfl, hb 2 "call" (by decide) rfl, hb 3 "by" (by decide) rfl]
  | n + 5, hr => simp [parts] at hr
/-- the waking of right parts -/
theorem Right.wv {G : PF} (h : Right G) : ∃ v : Wv, G "event" = .str v.ev ∧ G "deed" = .str v.de ∧ G "call" = .str v.ca ∧ G "by" = .str v.b ∧ G "may" = .bl v.ma := by
  have h1 : (!hasS evs (G "event")) = false := h "event" (by decide)
  have h2 : (!isWord (G "deed")) = false := h "deed" (by decide)
  have h3 : (!isWord (G "call")) = false := h "call" (by decide)
  have h4 : (!hasS bys (G "by")) = false := h "by" (by decide)
  have h5 : (!isBl (G "may")) = false := h "may" (by decide)
  cases e1 : G "event" <;> rw [e1] at h1 <;> try cases h1
  cases e2 : G "deed" <;> rw [e2] at h2 <;> try cases h2
  cases e3 : G "call" <;> rw [e3] at h3 <;> try cases h3
  cases e4 : G "by" <;> rw [e4] at h4 <;> try cases h4
  cases e5 : G "may" <;> rw [e5] at h5 <;> try cases h5
  exact ⟨⟨_, _, _, _, _⟩, rfl, rfl, rfl, rfl, rfl⟩
end My

set_option Elab.async false
set_option linter.all false
set_option maxRecDepth 100000
set_option maxHeartbeats 2000000
namespace My
open PySem PySem.Spec PyProof.Rows L2
/-- a comprehension's list, its source known -/
def lcB (J : It) (g : TG) (tt : TT) (te : TE) (vs : List Nat) : TE := fun σ H1 Q => ∀ D, H1 D = none → ∃ W : Nat → Nat → Hp → Prop, (∃ m, W 0 m (upd H1 D (.lst []))) ∧ ∀ i m H, W i m H →
  (J.stop i H ∧ Q (.ref D) H) ∨ (J.go i H ∧ ∃ Nx : Hp → Prop, (∀ H', Nx H' → ∃ m', m' < m ∧ W (i + 1) m' H') ∧ ∀ x H', J.yld i H x H' → g x (wipe σ vs) H' fun σ2 H2 => wipe σ2 vs = wipe σ vs ∧ tt σ2 H2 fun b H3 =>
    if b = true then te σ2 H3 fun y H4 => ∃ acc, H4 D = some (.lst acc) ∧ acc.length < sizeLine ∧ Nx (upd H4 D (.lst (acc ++ [y]))) else Nx H3)
section
variable {K : PySem.W.Frag} {tl : TE} {ta : TA} {g : TG} {tt : TT} {te : TE} {vs : List Nat} {σ : L2.St} {H : Hp} {Q : VK}
theorem rd_lcL : tLc (iList K tl) g tt te vs σ H Q = tl σ H fun x H1 => ∃ a, x = .ref a ∧ (∃ xs, SqL K H1 a xs) ∧ lcB (Itl K a) g tt te vs σ H1 Q := rfl
theorem rd_lcE : tLc (iEnum K ta) g tt te vs σ H Q = ta σ H fun us H1 => ∃ a xs, us = [.ref a] ∧ SqL K H1 a xs ∧ lcB (Ite K a) g tt te vs σ H1 Q := rfl
theorem rd_mk {C : Addr} {sp : Sp} {dvs : List V} {E : XK} {t : TA} : tMake C sp dvs E t σ H Q = t σ H fun vs H1 => ∀ x dx, H1 x = none → H1 dx = none → dx ≠ x → sp (.ref x :: (vs ++ dvs)) (upd (upd H1 dx (.own x)) x (.ins C dx [])) (fun v H2 => v = .non ∧ Q (.ref x) H2) E := rfl
theorem rd_sl {r : V → Option Int → Option Int → Hp → VK → Prop} {l h : TO} : tSl r te l h σ H Q = te σ H fun x H1 => l σ H1 fun i H2 => h σ H2 fun u H3 => r x i u H3 Q := rfl
theorem rd_noP {Q : Option Int → Hp → Prop} : tNoPart σ H Q = Q none H := rfl
theorem rd_part {Q : Option Int → Hp → Prop} : tPart te σ H Q = te σ H fun x H1 => ∃ i, x = .int i ∧ Q (some i) H1 := rfl
theorem rd_slL {x : V} {lo hi : Option Int} : rSlL K x lo hi H Q = ∃ a xs, x = .ref a ∧ SqL K H a xs ∧ ∀ p, H p = none → Q (.ref p) (upd H p (.lst (cutV xs lo hi))) := rfl
theorem rd_cat {x y : V} : rCat x y H Q = ∃ l b xs zs, x = .ref l ∧ y = .ref b ∧ H l = some (.lst xs) ∧ H b = some (.lst zs) ∧ xs.length + zs.length ≤ sizeLine ∧ ∀ p, H p = none → Q (.ref p) (upd H p (.lst (xs ++ zs))) := rfl
end
theorem parts_in {ss : List Str} {i : Nat} {s : Str} (h : ss[i]? = some s) : s ∈ ss := List.mem_of_getElem? h
/-- a new pair, put at the end of the list of pairs -/
theorem pair_more {H : Hp} {D p : Addr} {xs ys : List V} {s0 : Str} {F : PF} {ps : List Addr} {ss : List Str} (hD : H D = some (.lst xs)) (hp : H p = none) (h : Paired (fun p s => H p = some (.tup [.str s, F s])) ps ss) :
    Paired (fun b s => upd (upd H p (.tup [.str s0, F s0])) D (.lst ys) b = some (.tup [.str s, F s])) (ps ++ [p]) (ss ++ [s0]) := by
  refine Paired.snoc (Paired.mono (fun a b h => ?_) h) ?_
  · have n1 : a ≠ D := ne_of h hD (by intro z; cases z)
    have n2 : a ≠ p := ne_of_none h hp
    rw [upd_ne n1, upd_ne n2]
    exact h
  · rw [upd_ne (Ne.symm (ne_of_none hD hp)), upd_same]
section
variable {K : PySem.W.Frag} {a gd : Addr} {g j : Nat} {σ : L2.St} {H : Hp} {Q : VK} {ss : List Str} {G : PF}
/-- [d[s] for s in ss] -/
theorem lcB_got (hS : SqL K H a (ss.map V.str)) (hp : ∀ s ∈ ss, s ∈ parts) (hz : ss.length ≤ 20) (hw : ∀ x, wipe ((wipe σ [j]).set j (some x)) [j] = wipe σ [j]) (h1 : ∀ x, ((wipe σ [j]).set j (some x))[g]? = some (some (.ref gd)))
    (h2 : ∀ x, ((wipe σ [j]).set j (some x))[j]? = some (some x)) (hd : H gd = some (.dK (dkv G))) (hq : ∀ (D : Addr) (H' : Hp), H D = none → Same H H' → H' D = some (.lst (ss.map G)) → Q (.ref D) H') :
    lcB (Itl K a) (gName j) tYes (tDg (tVar g) (tVar j)) [j] σ H Q := by
  intro D hD
  refine lc_it walk_list (fun i H' => Same H H' ∧ H' D = some (.lst ((ss.take i).map G))) ⟨My.Same.new (Same.refl H) hD, upd_same⟩ (fun i H' _ h => h.1.seq hS) ?_ ?_
  · rintro i x H' H2 hi ⟨sm, hl⟩ ⟨rfl, hx⟩
    rw [List.getElem?_map] at hx
    obtain ⟨s, hs, rfl⟩ := Option.map_eq_some_iff.mp hx
    refine ⟨hw _, ?_⟩
    simp only [tYes, if_true]
    refine ⟨_, h1 _, _, h2 _, gd, s, rfl, rfl, _, sm _ _ hd, _, dkv_get G (hp s (parts_in hs)), _, hl, szl ?_, My.Same.new sm hD, ?_⟩
    · rw [List.length_map, List.length_take]
      omega
    · rw [upd_same, take_more hs, List.map_append]
      rfl
  · rintro H' ⟨sm, hl⟩
    rw [List.length_map, List.take_length] at hl
    exact hq D H' hD sm hl
/-- dict([(s, d[s]) for s in ss]): the pairs -/
theorem lcB_pairs (hS : SqL K H a (ss.map V.str)) (hp : ∀ s ∈ ss, s ∈ parts) (hz : ss.length ≤ 20) (hw : ∀ x, wipe ((wipe σ [j]).set j (some x)) [j] = wipe σ [j]) (h1 : ∀ x, ((wipe σ [j]).set j (some x))[g]? = some (some (.ref gd)))
    (h2 : ∀ x, ((wipe σ [j]).set j (some x))[j]? = some (some x)) (hd : H gd = some (.dK (dkv G)))
    (hq : ∀ (D : Addr) (ps : List Addr) (H' : Hp), H D = none → Same H H' → H' D = some (.lst (ps.map V.ref)) → Paired (fun p s => H' p = some (.tup [.str s, G s])) ps ss → Q (.ref D) H') :
    lcB (Itl K a) (gName j) tYes (tTup (tCons (tVar j) (tCons (tDg (tVar g) (tVar j)) tNil))) [j] σ H Q := by
  intro D hD
  refine lc_it walk_list (fun i H' => Same H H' ∧ ∃ ps : List Addr, ps.length = i ∧ H' D = some (.lst (ps.map V.ref)) ∧ Paired (fun p s => H' p = some (.tup [.str s, G s])) ps (ss.take i)) ⟨My.Same.new (Same.refl H) hD, [], rfl, upd_same, .nil⟩ (fun i H' _ h => h.1.seq hS) ?_ ?_
  · rintro i x H' H2 hi ⟨sm, ps, hpl, hl, hpr⟩ ⟨rfl, hx⟩
    rw [List.getElem?_map] at hx
    obtain ⟨s, hs, rfl⟩ := Option.map_eq_some_iff.mp hx
    refine ⟨hw _, ?_⟩
    simp only [tYes, if_true]
    rw [List.length_map] at hi
    refine ⟨_, h2 _, _, h1 _, _, h2 _, gd, s, rfl, rfl, _, sm _ _ hd, _, dkv_get G (hp s (parts_in hs)), sz (by show 2 ≤ 100000; decide), fun p np => ?_⟩
    have nDp : D ≠ p := ne_of_none hl np
    refine ⟨ps.map V.ref, by rw [upd_ne nDp]; exact hl, szl (by rw [List.length_map]; omega), My.Same.new (My.Same.new' sm np) hD, ps ++ [p], by rw [List.length_append, hpl]; rfl, by rw [upd_same, List.map_append]; rfl, ?_⟩
    rw [take_more hs]
    exact pair_more hl np hpr
  · rintro H' ⟨sm, ps, _, hl, hpr⟩
    rw [List.length_map, List.take_length] at hpr
    exact hq D ps H' hD sm hl hpr
theorem pd {H : Hp} {ps : List Addr} (h : Paired (fun p s => H p = some (.tup [.str s, G s])) ps parts) : Paired (fun p kv => SqT K H p [kV kv.1, kv.2]) ps (dkv G) := by
  cases h with
  | cons h0 h => cases h with
    | cons h1 h => cases h with
      | cons h2 h => cases h with
        | cons h3 h => cases h with
          | cons h4 h => cases h with
            | nil => exact .cons (SqT.of h0) (.cons (SqT.of h1) (.cons (SqT.of h2) (.cons (SqT.of h3) (.cons (SqT.of h4) .nil))))
/-! ### what is drawn for a part -/
def menuOf (r : Str) : List V := if r = "event" then evs.map V.str else if r = "deed" then [.str "a", .str "bb", .str "goal", .str "abcdefgh"] else if r = "call" then [.str "a", .str "bb", .str "abcdefgh"] else if r = "by" then bys.map V.str else [.bl true, .bl false]
theorem menu_ok : ∀ r ∈ parts, ∀ x ∈ menuOf r, flatOk x = true ∧ oddB r x = false := by decide +kernel
theorem menu_scal : ∀ r ∈ parts, ∀ x ∈ menuOf r, ∀ y ∈ menuOf r, scal x y = true := by decide +kernel
theorem menu_len : ∀ r ∈ parts, 0 < (menuOf r).length ∧ (menuOf r).length ≤ 20 := by decide +kernel
theorem ty_flat {H : Hp} {x : V} (h : flatOk x = true) : Ty H x := by
  cases x with
  | str z => exact ⟨rfl, fun y e => by cases e; exact of_decide_eq_true h⟩
  | non => exact ⟨rfl, fun y e => by cases e⟩
  | bl b => exact ⟨rfl, fun y e => by cases e⟩
  | int b => exact ⟨rfl, fun y e => by cases e⟩
  | _ => cases h
/-- the menu at mn, none of it the pool -/
def Mn (p : Addr) (H : Hp) (mn : Addr) : Prop := mn ≠ p ∧ ∃ ms : List Addr, H mn = some (.lst (ms.map V.ref)) ∧ ∀ (i : Nat) (r : Str), parts[i]? = some r → ∃ m, ms[i]? = some m ∧ m ≠ p ∧ H m = some (.lst (menuOf r))
theorem Mn.up {p q mn : Addr} {H H' : Hp} (I : Iv p q H H') (h : Mn p H mn) : Mn p H' mn := by
  obtain ⟨n, ms, h1, h2⟩ := h
  refine ⟨n, ms, I.get n h1, fun i r hr => ?_⟩
  obtain ⟨m, e1, e2, e3⟩ := h2 i r hr
  exact ⟨m, e1, e2, I.get e2 e3⟩
theorem Mn.at {p mn : Addr} {H : Hp} (h : Mn p H mn) {i : Nat} {r : Str} (hr : parts[i]? = some r) : ∃ (xs : List V) (m : Addr), H mn = some (.lst xs) ∧ xs[i]? = some (.ref m) ∧ m ≠ p ∧ H m = some (.lst (menuOf r)) := by
  obtain ⟨_, ms, h1, h2⟩ := h
  obtain ⟨m, e1, e2, e3⟩ := h2 i r hr
  exact ⟨_, m, h1, by rw [List.getElem?_map, e1]; rfl, e2, e3⟩
/-- all parts from the menus -/
def Drawn (G : PF) : Prop := ∀ r ∈ parts, G r ∈ menuOf r
theorem Drawn.right {G : PF} (h : Drawn G) : Right G := fun r hr => (menu_ok r hr _ (h r hr)).2
theorem Drawn.ty {G : PF} {H : Hp} (h : Drawn G) {r : Str} (hr : r ∈ parts) : Ty H (G r) := ty_flat (menu_ok r hr _ (h r hr)).1
theorem Drawn.put {G : PF} {r : Str} {x : V} (h : Drawn G) (hx : x ∈ menuOf r) : Drawn (putP G r x) := fun s hs => by
  unfold putP
  split
  · rename_i e
    rw [e]
    exact hx
  · exact h s hs
theorem parts_new {i : Nat} {r : Str} (h : parts[i]? = some r) : ∀ s ∈ parts.take i, s ≠ r := by
  match i, h with
  | 0, _ => intro s hs; simp at hs
  | 1, h => obtain rfl : ("deed" : Str) = r := Option.some.inj h; decide +kernel
  | 2, h => obtain rfl : ("call" : Str) = r := Option.some.inj h; decide +kernel
  | 3, h => obtain rfl : ("by" : Str) = r := Option.some.inj h; decide +kernel
  | 4, h => obtain rfl : ("may" : Str) = r := Option.some.inj h; decide +kernel
  | n + 5, h => simp [parts] at h
end
end My

set_option Elab.async false
set_option linter.all false
set_option maxRecDepth 100000
set_option maxHeartbeats 2000000
namespace My
open PySem PySem.Spec PyProof.Rows L2
section
variable {K : PySem.W.Frag} {nm p qq mn : Addr} {σ : L2.St} {H : Hp} {Q : VK} {zs : List Int}
abbrev tauG (σ : L2.St) (x y : V) : L2.St := ((wipe σ [5, 6]).set 5 (some x)).set 6 (some y)
/-- the pick, once the menu's list is known -/
theorem pick_ok {m : Addr} {xs : List V} {k : Int} {H1 : Hp} {R : VK} (h1 : H1 p = some (.lst [.ref qq, .int k])) (hk : 0 ≤ k) (h2 : H1 qq = some (.lst (zs.map V.int))) (h3 : H1 m = some (.lst xs)) (n : m ≠ p) (hx : 0 < xs.length)
    (q : ∀ x ∈ xs, R x (upd H1 p (.lst [.ref qq, .int (k + 1)]))) : spPck [.ref p, .ref m] H1 R E0 := ⟨p, qq, m, k, zs, xs, rfl, h1, hk, h2, h3, n, hx, fun i x e => q x (List.mem_of_getElem? e)⟩
theorem pair_on {F F' : Addr → Str → Prop} : ∀ {ps : List Addr} {ss : List Str}, Paired F ps ss → (∀ b s, s ∈ ss → F b s → F' b s) → Paired F' ps ss
  | _, _, .nil, _ => .nil
  | _, _, .cons h t, k => .cons (k _ _ (List.mem_cons_self ..) h) (pair_on t fun b s hs => k b s (List.mem_cons_of_mem _ hs))
/-- the drawn dict's pairs -/
theorem lcB_good (hN : H nm = some (.lst (parts.map V.str))) (nN : nm ≠ p) (hP : ∃ k : Int, 0 ≤ k ∧ H p = some (.lst [.ref qq, .int k])) (hZ : H qq = some (.lst (zs.map V.int))) (nZ : qq ≠ p) (hM : Mn p H mn)
    (hw : ∀ x y, wipe (tauG σ x y) [5, 6] = wipe σ [5, 6]) (h3 : ∀ x y, (tauG σ x y)[3]? = some (some (.ref p))) (h4 : ∀ x y, (tauG σ x y)[4]? = some (some (.ref mn))) (h5 : ∀ x y, (tauG σ x y)[5]? = some (some x)) (h6 : ∀ x y, (tauG σ x y)[6]? = some (some y))
    (hq : ∀ (D : Addr) (ps : List Addr) (G : PF) (H' : Hp), H D = none → Iv p qq H H' → Drawn G → H' D = some (.lst (ps.map V.ref)) → Paired (fun p s => H' p = some (.tup [.str s, G s])) ps parts → Q (.ref D) H') :
    lcB (Ite K nm) (gTup K 2 (gCons (gName 5) (gCons (gName 6) gNil))) tYes (tTup (tCons (tVar 6) (tCons (tCall spPck [] E0 (tCons (tVar 3) (tCons (tOp rIxLst (tVar 4) (tVar 5)) tNil))) tNil))) [5, 6] σ H Q := by
  intro D hD
  have I0 : Iv p qq H H := .start hP
  have nD := (I0.free hD).2
  refine lc_it (walk_enum (xs := parts.map V.str)) (fun i H' => Iv p qq H H' ∧ ∃ (G : PF) (ps : List Addr), ps.length = i ∧ H' D = some (.lst (ps.map V.ref)) ∧ (∀ s ∈ parts.take i, G s ∈ menuOf s) ∧ Paired (fun p s => H' p = some (.tup [.str s, G s])) ps (parts.take i))
    ⟨I0.new hD, fun _ => .non, [], rfl, upd_same, (fun s hs => by simp at hs), .nil⟩ (fun i H' _ h => SqL.of (h.1.get nN hN)) ?_ ?_
  · rintro i x H' H2 hi ⟨I, G, ps, hpl, hl, hG, hpr⟩ ⟨T, x0, y0, rfl, hT, rfl, e1, e2⟩
    have e2' : (parts.map V.str)[i]? = some y0 := e2
    rw [List.getElem?_map] at e2'
    obtain ⟨r, hr, rfl⟩ := Option.map_eq_some_iff.mp e2'
    obtain rfl : V.int (i : Nat) = x0 := Option.some.inj e1
    have hr' : r ∈ parts := parts_in hr
    have I1 : Iv p qq H (upd H' T (.tup [.int (i : Nat), .str r])) := I.new hT
    have hl1 : upd H' T (.tup [.int (i : Nat), .str r]) D = some (.lst (ps.map V.ref)) := by rw [upd_ne (ne_of_none hl hT)]; exact hl
    have hpr1 : Paired (fun p s => upd H' T (.tup [.int (i : Nat), .str r]) p = some (.tup [.str s, G s])) ps (parts.take i) := Paired.mono (fun a b h => by rw [upd_ne (ne_of_none h hT)]; exact h) hpr
    have hT1 : upd H' T (.tup [.int (i : Nat), .str r]) T = some (.tup [.int (i : Nat), .str r]) := upd_same
    generalize upd H' T (.tup [.int (i : Nat), .str r]) = H1 at I1 hl1 hpr1 hT1 ⊢
    refine ⟨T, [.int (i : Nat), .str r], rfl, SqT.of hT1, rfl, _, _, rfl, _, _, rfl, rfl, ?_⟩
    refine ⟨hw _ _, ?_⟩
    simp only [tYes, if_true]
    obtain ⟨xs, m, hm1, hm2, hm3, hm4⟩ := (hM.up I1).at hr
    obtain ⟨k, hk, hp⟩ := I1.pa
    refine ⟨_, h6 _ _, _, h3 _ _, _, h4 _ _, _, h5 _ _, mn, (i : Nat), rfl, rfl, xs, hm1, Int.natCast_nonneg i, .ref m, hm2, ?_⟩
    refine pick_ok hp hk (I1.get nZ hZ) hm4 hm3 (menu_len r hr').1 fun y hy => ⟨sz (by show 2 ≤ 100000; decide), fun t ht => ?_⟩
    have I2 := I1.draw hk
    have hl2 : upd H1 p (.lst [.ref qq, .int (k + 1)]) D = some (.lst (ps.map V.ref)) := by rw [upd_ne nD]; exact hl1
    have hpr2 : Paired (fun b s => upd H1 p (.lst [.ref qq, .int (k + 1)]) b = some (.tup [.str s, putP G r y s])) ps (parts.take i) := by
      refine pair_on hpr1 fun b s hs h => ?_
      have nb : b ≠ p := ne_of h hp (by intro z; cases z)
      rw [upd_ne nb, h]
      unfold putP
      rw [if_neg (parts_new hr s hs)]
    generalize upd H1 p (.lst [.ref qq, .int (k + 1)]) = H3 at I2 hl2 hpr2 ht ⊢
    have nDt : D ≠ t := ne_of_none hl2 ht
    refine ⟨ps.map V.ref, by rw [upd_ne nDt]; exact hl2, szl (by rw [List.length_map]; simp [parts] at hi; omega), (I2.new ht).set hD nD, putP G r y, ps ++ [t], by rw [List.length_append, hpl]; rfl, by rw [upd_same, List.map_append]; rfl, ?_, ?_⟩
    · intro s hs
      rw [take_more hr] at hs
      unfold putP
      rcases List.mem_append.mp hs with h | h
      · rw [if_neg (parts_new hr s h)]
        exact hG s h
      · rw [List.mem_singleton.mp h, if_pos rfl]
        exact hy
    · rw [take_more hr]
      have e : V.str r = V.str r := rfl
      have ey : putP G r y r = y := if_pos rfl
      have z := pair_more (s0 := r) (ys := ps.map V.ref ++ [.ref t]) hl2 ht hpr2
      rw [ey] at z
      exact z
  · rintro H' ⟨I, G, ps, _, hl, hG, hpr⟩
    exact hq D ps G H' hD I (fun r hr => hG r (by simpa [parts] using hr)) hl (by simpa [parts] using hpr)
/-- [x for x in the menu's list if x != d[r]] -/
theorem lcB_other {m gd : Addr} {r : Str} {G : PF} (hS : H m = some (.lst (menuOf r))) (hr : r ∈ parts) (hG : Drawn G) (hd : H gd = some (.dK (dkv G))) (hw : ∀ x, wipe ((wipe σ [11]).set 11 (some x)) [11] = wipe σ [11])
    (h11 : ∀ x, ((wipe σ [11]).set 11 (some x))[11]? = some (some x)) (h7 : ∀ x, ((wipe σ [11]).set 11 (some x))[7]? = some (some (.ref gd))) (h6 : ∀ x, ((wipe σ [11]).set 11 (some x))[6]? = some (some (.str r)))
    (hq : ∀ (D : Addr) (ys : List V) (H' : Hp), H D = none → Same H H' → H' D = some (.lst ys) → ys.length ≤ 20 → (∀ y ∈ ys, y ∈ menuOf r ∧ y ≠ G r) → Q (.ref D) H') :
    lcB (Itl K m) (gName 11) (tTest (tOp L2.rNe (tVar 11) (tDg (tVar 7) (tVar 6)))) (tVar 11) [11] σ H Q := by
  intro D hD
  have hz := menu_len r hr
  refine lc_it (walk_list (xs := menuOf r)) (fun i H' => Same H H' ∧ ∃ ys : List V, H' D = some (.lst ys) ∧ ys.length ≤ i ∧ ∀ y ∈ ys, y ∈ menuOf r ∧ y ≠ G r) ⟨My.Same.new (Same.refl H) hD, [], upd_same, Nat.le_refl _, fun y h => nomatch h⟩ (fun i H' _ h => SqL.of (h.1 _ _ hS)) ?_ ?_
  · rintro i x H' H2 hi ⟨sm, ys, hl, hle, hy⟩ ⟨rfl, hx⟩
    have hx' : x ∈ menuOf r := List.mem_of_getElem? hx
    refine ⟨hw _, _, h11 _, _, h7 _, _, h6 _, gd, r, rfl, rfl, _, sm _ _ hd, _, dkv_get G hr, menu_scal r hr _ hx' _ (hG r hr), _, rfl, ?_⟩
    by_cases e : x = G r
    · have e1 : (!decide (x = G r)) = false := by rw [decide_eq_true e]; rfl
      rw [e1]
      refine iteF ?_
      exact ⟨sm, ys, hl, Nat.le_succ_of_le hle, hy⟩
    · have e1 : (!decide (x = G r)) = true := by rw [decide_eq_false e]; rfl
      rw [e1]
      refine iteT ?_
      refine ⟨_, h11 _, ys, hl, szl (by omega), My.Same.new sm hD, ys ++ [x], upd_same, by rw [List.length_append]; show ys.length + 1 ≤ i + 1; omega, fun y hm => ?_⟩
      rcases List.mem_append.mp hm with h | h
      · exact hy y h
      · rw [List.mem_singleton.mp h]
        exact ⟨hx', e⟩
  · rintro H' ⟨sm, ys, hl, hle, hy⟩
    exact hq D ys H' hD sm hl (by omega) hy
end
/-! ### dict(pairs), as a reading by its name -/
def rDictP (K : PySem.W.Frag) : List V → Hp → VK → Prop := fun xs H Q => ∃ (a : Addr) (ps : List Addr) (kvs : List (Key × V)), xs = [.ref a] ∧ SqL K H a (ps.map V.ref) ∧ Paired (fun p kv => SqT K H p [kV kv.1, kv.2]) ps kvs ∧ ∀ p, H p = none → Q (.ref p) (upd H p (.dK (mergeK [] kvs)))
theorem call_dic {X : Cx} (hc : X.calm = true) : CallR X (.type "dict") (rDictP X.K) := call_dictP hc
theorem dict_ok {K : PySem.W.Frag} {H : Hp} {D : Addr} {ps : List Addr} {G : PF} {Q : VK} (hl : H D = some (.lst (ps.map V.ref))) (hp : Paired (fun p s => H p = some (.tup [.str s, G s])) ps parts) (q : ∀ d, H d = none → Q (.ref d) (upd H d (.dK (dkv G)))) : rDictP K [.ref D] H Q :=
  ⟨D, ps, dkv G, rfl, SqL.of hl, pd hp, q⟩
end My

set_option Elab.async false
set_option linter.all false
set_option maxRecDepth 100000
set_option maxHeartbeats 2000000
namespace My
open PySem PySem.Spec PyProof.Rows L2
/-! ### what the texts of a waking are -/
def pdW (v : Wv) : PyData := .list [.str v.ev, .str v.de, .str v.ca, .str v.b, .bool v.ma]
def strsOf (r : Str) : List Str := (menuOf r).filterMap fun | .str x => some x | _ => none
theorem pdW_ok : ∀ e ∈ strsOf "event", ∀ d ∈ strsOf "deed", ∀ c ∈ strsOf "call", ∀ b ∈ strsOf "by", ∀ m ∈ [true, false], (pdW ⟨e, d, c, b, m⟩).showable = true ∧ (pdW ⟨e, d, c, b, m⟩).hasDict = false ∧ (pdW ⟨e, d, c, b, m⟩).depth ≤ 3 ∧ (pdW ⟨e, d, c, b, m⟩).shown.length ≤ 100000 := by decide +kernel
end My

set_option Elab.async false
set_option linter.all false
set_option maxRecDepth 100000
set_option maxHeartbeats 4000000
namespace My
open PySem PySem.Spec PyProof.Rows L2
theorem rd_eqW {C : Addr} {x y : V} {H : Hp} {Q : VK} : rEqW C x y H Q = ∃ a v, x = .ref a ∧ Wk H C a v ∧ ((∃ z, y = .str z ∧ Q (.bl false) H) ∨ ∃ b v2, y = .ref b ∧ Wk H C b v2 ∧ Q (.bl (decide (v = v2))) H) := rfl
theorem rd_neW {C : Addr} {x y : V} {H : Hp} {Q : VK} : rNeW C x y H Q = ∃ a v b v2, x = .ref a ∧ y = .ref b ∧ Wk H C a v ∧ Wk H C b v2 ∧ Q (.bl (!decide (v = v2))) H := rfl
theorem rd_makeK2 {C : Addr} {n m : Nat} {sp : Sp} {gV : List V → List V → List V} {E : XK} {t tk : TA} {σ : L2.St} {H : Hp} {Q : VK} : tMakeK C n m sp gV E t tk σ H Q = t σ H fun vs H1 => tk σ H1 fun zs H2 => vs.length = n ∧ zs.length = m ∧ ∀ x dx, H2 x = none → H2 dx = none → dx ≠ x →
  sp (gV (.ref x :: vs) zs) (upd (upd H2 dx (.own x)) x (.ins C dx [])) (fun v H3 => v = .non ∧ Q (.ref x) H3) E := rfl
local macro_rules | `(tactic| walk_at "rd") => `(tactic| simp only [rd_seq, rd_next, rd_brk, rd_cont, rd_asg, rd_gname, rd_var, rd_c, rd_op, rd_un, rd_rI0, rd_rI, rd_rU, rd_test, rd_B, rd_and, rd_or, rd_not, rd_andV, rd_orV, rd_notV, rd_ifx, rd_ifs, rd_drop, rd_ret, rd_nil, rd_cons, rd_cb, rd_tup, rd_lst, rd_call, rd_bm, rd_app, rd_ixLst, rd_ixSq, rd_lenL, rd_lenSq, rd_setLst, rd_sub, rd_neNil, rd_isStr, rd_isW, rd_dg, rd_dp, rd_makeK, rd_mk, rd_sl, rd_noP, rd_part, rd_slL, rd_cat, rd_lcL, rd_lcE, rd_eqW, rd_neW, rd_repr,  L2.valV_put, rd_fldS, rd_eq, rd_ne, rd_fldE, rd_allB, rd_isBl, rd_inS, rd_chain, rd_chain', L2.wipe, Int.reduceToNat, Int.reduceLE, Int.reduceLT, Nat.reduceLT, Nat.reduceLeDiff, Int.reduceNeg, Int.toNat_natCast, Int.reduceAdd, L2.start, and_assoc, exists_and_left, List.map_cons, List.map_nil, List.length_cons, List.length_nil, List.cons_append, List.nil_append, List.append_nil, List.replicate_succ, List.replicate_zero, List.replicate, List.set_cons_zero, List.set_cons_succ, List.getElem?_cons_zero, List.getElem?_cons_succ, Option.some.injEq, exists_eq_left', exists_eq_left, exists_eq, V.int.injEq, V.ref.injEq, V.str.injEq, V.bl.injEq, HO.lst.injEq, HO.tup.injEq, ex_bl, List.cons.injEq, and_true, true_and, Nat.reduceAdd, Nat.reduceSub, reduceCtorEq, false_and, or_false, exists_false, false_or, decide_eq_true_eq, if_true, if_false, Bool.false_eq_true, Bool.not_true, Bool.not_false, upd_same])
local macro_rules | `(tactic| walk_at "rdh") => `(tactic| simp only [rd_seq, rd_next, rd_brk, rd_cont, rd_asg, rd_gname, rd_var, rd_c, rd_op, rd_un, rd_rI0, rd_rI, rd_rU, rd_test, rd_B, rd_and, rd_or, rd_not, rd_andV, rd_orV, rd_notV, rd_ifx, rd_ifs, rd_drop, rd_ret, rd_nil, rd_cons, rd_cb, rd_tup, rd_lst, rd_call, rd_bm, rd_app, rd_ixLst, rd_ixSq, rd_lenL, rd_lenSq, rd_setLst, rd_sub, rd_neNil, rd_isStr, rd_isW, rd_dg, rd_dp, rd_makeK, rd_mk, rd_sl, rd_noP, rd_part, rd_slL, rd_cat, rd_lcL, rd_lcE, rd_eqW, rd_neW, rd_repr,  L2.valV_put, rd_fldS, rd_eq, rd_ne, rd_fldE, rd_allB, rd_isBl, rd_inS, rd_chain, rd_chain', L2.wipe, Int.reduceToNat, Int.reduceLE, Int.reduceLT, Nat.reduceLT, Nat.reduceLeDiff, Int.reduceNeg, Int.toNat_natCast, Int.reduceAdd, L2.start, and_assoc, exists_and_left, List.map_cons, List.map_nil, List.length_cons, List.length_nil, List.cons_append, List.nil_append, List.append_nil, List.replicate_succ, List.replicate_zero, List.replicate, List.set_cons_zero, List.set_cons_succ, List.getElem?_cons_zero, List.getElem?_cons_succ, Option.some.injEq, exists_eq_left', exists_eq_left, exists_eq, V.int.injEq, V.ref.injEq, V.str.injEq, V.bl.injEq, HO.lst.injEq, HO.tup.injEq, ex_bl, List.cons.injEq, and_true, true_and, Nat.reduceAdd, Nat.reduceSub, reduceCtorEq, false_and, or_false, exists_false, false_or, decide_eq_true_eq, if_true, if_false, Bool.false_eq_true, Bool.not_true, Bool.not_false, upd_same, *])
/-! ### the law's reading, piece by piece -/
abbrev nS (x : String) : TE := tC (V.str (Str.ofString x))
def tPairs (K : PySem.W.Frag) : TE := tCB (rDictP K) (tCons (tLc (iList K (tVar 1)) (gName 15) tYes (tTup (tCons (tVar 15) (tCons (tDg (tVar 7) (tVar 15)) tNil))) [15]) tNil)
def tMk (C CB : Addr) (i : Nat) : TE := tMakeK C 3 2 (spWI C CB) (fun vs zs => vs ++ zs) E0 (tCons (tDg (tVar i) (tC (V.str ("event" : Str)))) (tCons (tDg (tVar i) (tC (V.str ("deed" : Str)))) (tCons (tDg (tVar i) (tC (V.str ("call" : Str)))) tNil))) (tCons (tDg (tVar i) (tC (V.str ("by" : Str)))) (tCons (tDg (tVar i) (tC (V.str ("may" : Str)))) tNil))
def tValB (K : PySem.W.Frag) (C CB : Addr) : TS := tSeq (tAsg (tPairs K) (gName 12)) (tSeq (sDp (tVar 12) (tVar 6) (tVar 11)) (tIfS (tTest (tOp (rEqW C) (tMk C CB 12) (tVar 8))) (tRet (tC (V.bl false))) tNext))
def tVals (K : PySem.W.Frag) (C CB : Addr) : TS := tFor (iList K (tLc (iList K (tOp rIxLst (tVar 4) (tVar 5))) (gName 11) (tTest (tOp L2.rNe (tVar 11) (tDg (tVar 7) (tVar 6)))) (tVar 11) [11])) (gName 11) (tValB K C CB)
def tTried (K : PySem.W.Frag) : TS := tIfS (tTest (tOp (rNeD K) (tCall spTry [] E0 (tCons (tVar 12) tNil)) (tLst (tCons (tVar 6) (tCons (tC (V.bl true)) tNil))))) (tRet (tC (V.bl false))) tNext
def tOddB (K : PySem.W.Frag) : TS := tSeq (tAsg (tPairs K) (gName 12)) (tSeq (sDp (tVar 12) (tVar 6) (tVar 13)) (tSeq (tTried K) (tSeq (tAsg (tCall spPck [] E0 (tCons (tVar 3) (tCons (tSl (rSlL K) (tVar 1) (tPart (tVar 5)) tNoPart) tNil))) (gName 14))
  (tSeq (tIfS (tTest (tOp L2.rNe (tVar 14) (tVar 6))) (sDp (tVar 12) (tVar 14) (tCall spPck [] E0 (tCons (tVar 3) (tCons (tCall spOdd [] E0 (tCons (tVar 14) tNil)) tNil)))) tNext) (tTried K)))))
def tOdds (K : PySem.W.Frag) : TS := tFor (iList K (tCall spOdd [] E0 (tCons (tVar 6) tNil))) (gName 13) (tOddB K)
def tParts (K : PySem.W.Frag) (C CB : Addr) : TS := tFor (iEnum K (tCons (tVar 1) tNil)) (gTup K 2 (gCons (gName 5) (gCons (gName 6) gNil))) (tSeq (tVals K C CB) (tOdds K))
def asW (v : Wv) : PF := fun s => if s = "event" then .str v.ev else if s = "deed" then .str v.de else if s = "call" then .str v.ca else if s = "by" then .str v.b else .bl v.ma
theorem Right.asw {G : PF} (h : Right G) : ∃ v : Wv, ∀ s ∈ parts, G s = asW v s := by
  obtain ⟨v, h1, h2, h3, h4, h5⟩ := h.wv
  refine ⟨v, fun s hs => ?_⟩
  rcases parts_cases hs with rfl | rfl | rfl | rfl | rfl
  · exact h1
  · exact h2
  · exact h3
  · exact h4
  · exact h5
section
variable {K : PySem.W.Frag} {C CB : Addr} {H : Hp} {σ : L2.St} {D : Ends}
/-- a waking of right parts is made -/
theorem mk_ok {x dx : Addr} {Q : VK} {G : PF} (hR : Right G) (ty : ∀ r ∈ parts, Ty H (G r)) (hx : H x = none) (hdx : H dx = none) (hne : dx ≠ x) (q : ∀ (v : Wv) (H' : Hp), (∀ s ∈ parts, G s = asW v s) → Same H H' → Wk H' C x v → Q (.ref x) H') :
    spWI C CB [.ref x, G "event", G "deed", G "call", G "by", G "may"] (upd (upd H dx (.own x)) x (.ins C dx [])) (fun v H3 => v = .non ∧ Q (.ref x) H3) E0 := by
  have s0 : Same H (upd (upd H dx (.own x)) x (.ins C dx [])) := My.Same.new' (My.Same.new (Same.refl H) hdx) (by rw [upd_ne (Ne.symm hne)]; exact hx)
  obtain ⟨v, hv⟩ := hR.asw
  refine ⟨x, dx, _, _, _, _, _, rfl, upd_same, (ty _ (by decide)).same s0, (ty _ (by decide)).same s0, (ty _ (by decide)).same s0, (ty _ (by decide)).same s0, (ty _ (by decide)).same s0, fun m hm => ?_, fun _ H' h1 h2 => ⟨rfl, ?_⟩⟩
  · have z : bad G = some m := hm
    rw [hR.none] at z
    cases z
  · refine q v H' hv (Same.made hx hdx fun b o hb hn => h2 b o hn hb) ⟨dx, ?_⟩
    rw [h1, hv "event" (by decide), hv "deed" (by decide), hv "call" (by decide), hv "by" (by decide), hv "may" (by decide)]
    rfl
/-- the copy of the drawn dict -/
theorem pairs_ok {nm gd : Addr} {G : PF} {Q : VK} (h1 : σ[1]? = some (some (.ref nm))) (hN : H nm = some (.lst (parts.map V.str))) (hd : H gd = some (.dK (dkv G))) (hw : ∀ x, wipe ((wipe σ [15]).set 15 (some x)) [15] = wipe σ [15])
    (h7 : ∀ x, ((wipe σ [15]).set 15 (some x))[7]? = some (some (.ref gd))) (h15 : ∀ x, ((wipe σ [15]).set 15 (some x))[15]? = some (some x)) (q : ∀ (d : Addr) (H' : Hp), H d = none → Same H H' → H' d = some (.dK (dkv G)) → Q (.ref d) H') : tPairs K σ H Q := by
  refine ⟨_, h1, nm, rfl, ⟨_, SqL.of hN⟩, ?_⟩
  show lcB (Itl K nm) (gName 15) tYes (tTup (tCons (tVar 15) (tCons (tDg (tVar 7) (tVar 15)) tNil))) [15] σ H (fun x H1 => rDictP K [x] H1 Q)
  refine lcB_pairs (SqL.of hN) (fun _ h => h) (by decide) hw h7 h15 hd fun L ps H1 hL sm hl hp => ?_
  exact dict_ok hl hp fun d hd' => q d _ (sm.free hd') (My.Same.new' sm hd') upd_same
/-- the attempt tells the part that is wrong -/
theorem ne_parts : ∀ r ∈ parts, SeqAt.shaped (.list [.str r, .bool true]) = true ∧ PyData.eqv (.list [.str r, .bool true]) (.list [.str r, .bool true]) = true := by decide +kernel
theorem tried_ok {d : Addr} {r : Str} {G : PF} (h12 : σ[12]? = some (some (.ref d))) (h6 : σ[6]? = some (some (.str r))) (hr : r ∈ parts) (hd : H d = some (.dK (dkv G))) (ty : ∀ s ∈ parts, Ty H (G s)) (hb : bad G = some r) (q : ∀ H', Same H H' → D.nx σ H') : tTried K D σ H := by
  refine ⟨_, h12, d, _, _, _, _, _, r, rfl, ⟨_, hd, by show 5 ≤ 20; decide, rfl, rfl, rfl, rfl, rfl⟩, ty _ (by decide), ty _ (by decide), ty _ (by decide), ty _ (by decide), ty _ (by decide), hb, fun l H1 hl sm h1 => ?_⟩
  refine ⟨_, h6, sz (by show 2 ≤ 100000; decide), fun l2 hl2 => ?_⟩
  obtain ⟨e1, e2⟩ := ne_parts r hr
  have s2 := My.Same.new' (o := .lst [.str r, .bl true]) sm hl2
  have hl1 : upd H1 l2 (.lst [.str r, .bl true]) l = some (.lst [.str r, .bl true]) := by rw [upd_ne (ne_of_none h1 hl2)]; exact h1
  refine ⟨.list [.str r, .bool true], .list [.str r, .bool true], .lst (SqL.of hl1) (.cons (.str r) (.cons (.bl true) .nil)), .lst (SqL.of upd_same) (.cons (.str r) (.cons (.bl true) .nil)), e1, e1, ?_⟩
  rw [e2]
  exact ⟨_, rfl, iteF (q _ s2)⟩
end
end My

set_option Elab.async false
set_option linter.all false
set_option maxRecDepth 100000
set_option maxHeartbeats 4000000
namespace My
open PySem PySem.Spec PyProof.Rows L2
local macro_rules | `(tactic| walk_at "rd") => `(tactic| simp only [rd_seq, rd_next, rd_brk, rd_cont, rd_asg, rd_gname, rd_var, rd_c, rd_op, rd_un, rd_rI0, rd_rI, rd_rU, rd_test, rd_B, rd_and, rd_or, rd_not, rd_andV, rd_orV, rd_notV, rd_ifx, rd_ifs, rd_drop, rd_ret, rd_nil, rd_cons, rd_cb, rd_tup, rd_lst, rd_call, rd_bm, rd_app, rd_ixLst, rd_ixSq, rd_lenL, rd_lenSq, rd_setLst, rd_sub, rd_neNil, rd_isStr, rd_isW, rd_dg, rd_dp, rd_makeK, rd_mk, rd_sl, rd_noP, rd_part, rd_slL, rd_cat, rd_lcL, rd_lcE, rd_eqW, rd_neW, rd_repr,  L2.valV_put, rd_fldS, rd_eq, rd_ne, rd_fldE, rd_allB, rd_isBl, rd_inS, rd_chain, rd_chain', L2.wipe, Int.reduceToNat, Int.reduceLE, Int.reduceLT, Nat.reduceLT, Nat.reduceLeDiff, Int.reduceNeg, Int.toNat_natCast, Int.reduceAdd, L2.start, and_assoc, exists_and_left, List.map_cons, List.map_nil, List.length_cons, List.length_nil, List.cons_append, List.nil_append, List.append_nil, List.replicate_succ, List.replicate_zero, List.replicate, List.set_cons_zero, List.set_cons_succ, List.getElem?_cons_zero, List.getElem?_cons_succ, Option.some.injEq, exists_eq_left', exists_eq_left, exists_eq, V.int.injEq, V.ref.injEq, V.str.injEq, V.bl.injEq, HO.lst.injEq, HO.tup.injEq, ex_bl, List.cons.injEq, and_true, true_and, Nat.reduceAdd, Nat.reduceSub, reduceCtorEq, false_and, or_false, exists_false, false_or, decide_eq_true_eq, if_true, if_false, Bool.false_eq_true, Bool.not_true, Bool.not_false, upd_same])
local macro_rules | `(tactic| walk_at "rdh") => `(tactic| simp only [rd_seq, rd_next, rd_brk, rd_cont, rd_asg, rd_gname, rd_var, rd_c, rd_op, rd_un, rd_rI0, rd_rI, rd_rU, rd_test, rd_B, rd_and, rd_or, rd_not, rd_andV, rd_orV, rd_notV, rd_ifx, rd_ifs, rd_drop, rd_ret, rd_nil, rd_cons, rd_cb, rd_tup, rd_lst, rd_call, rd_bm, rd_app, rd_ixLst, rd_ixSq, rd_lenL, rd_lenSq, rd_setLst, rd_sub, rd_neNil, rd_isStr, rd_isW, rd_dg, rd_dp, rd_makeK, rd_mk, rd_sl, rd_noP, rd_part, rd_slL, rd_cat, rd_lcL, rd_lcE, rd_eqW, rd_neW, rd_repr,  L2.valV_put, rd_fldS, rd_eq, rd_ne, rd_fldE, rd_allB, rd_isBl, rd_inS, rd_chain, rd_chain', L2.wipe, Int.reduceToNat, Int.reduceLE, Int.reduceLT, Nat.reduceLT, Nat.reduceLeDiff, Int.reduceNeg, Int.toNat_natCast, Int.reduceAdd, L2.start, and_assoc, exists_and_left, List.map_cons, List.map_nil, List.length_cons, List.length_nil, List.cons_append, List.nil_append, List.append_nil, List.replicate_succ, List.replicate_zero, List.replicate, List.set_cons_zero, List.set_cons_succ, List.getElem?_cons_zero, List.getElem?_cons_succ, Option.some.injEq, exists_eq_left', exists_eq_left, exists_eq, V.int.injEq, V.ref.injEq, V.str.injEq, V.bl.injEq, HO.lst.injEq, HO.tup.injEq, ex_bl, List.cons.injEq, and_true, true_and, Nat.reduceAdd, Nat.reduceSub, reduceCtorEq, false_and, or_false, exists_false, false_or, decide_eq_true_eq, if_true, if_false, Bool.false_eq_true, Bool.not_true, Bool.not_false, upd_same, *])
/-- a for's turns, its source known -/
def forB (J : It) (g : TG) (tb : TS) (D : Ends) : L2.St → Hp → Prop := fun σ H1 => ∃ W : Nat → Nat → L2.St → Hp → Prop, (∃ m, W 0 m σ H1) ∧ ∀ i m σ H, W i m σ H →
  (J.stop i H ∧ D.nx σ H) ∨ (J.go i H ∧ ∃ N : L2.St → Hp → Prop, (∀ σ' H', N σ' H' → ∃ m', m' < m ∧ W (i + 1) m' σ' H') ∧ ∀ x H', J.yld i H x H' → g x σ H' fun σ2 H2 => tb { D with nx := N, ct := N, bk := D.nx } σ2 H2)
/-- what stands while the parts are tried -/
structure Ctx (C p qq nm mn gd x1 : Addr) (zs : List Int) (G : PF) (v : Wv) (H : Hp) : Prop where
  hN : H nm = some (.lst (parts.map V.str))
  nN : nm ≠ p
  hZ : H qq = some (.lst (zs.map V.int))
  nZ : qq ≠ p
  hM : Mn p H mn
  hG : H gd = some (.dK (dkv G))
  nG : gd ≠ p
  dr : Drawn G
  hW : Wk H C x1 v
  nW : x1 ≠ p
  gv : ∀ s ∈ parts, G s = asW v s
section
variable {K : PySem.W.Frag} {C CB p qq nm mn gd x1 sa : Addr} {zs : List Int} {G : PF} {v : Wv} {H : Hp} {D : Ends} {i : Nat} {r : Str} {kv w9 w10 w11 w12 w13 w14 w15 : Option V}
theorem Ctx.up {H' : Hp} (I : Iv p qq H H') (c : Ctx C p qq nm mn gd x1 zs G v H) : Ctx C p qq nm mn gd x1 zs G v H' :=
  ⟨I.get c.nN c.hN, c.nN, I.get c.nZ c.hZ, c.nZ, c.hM.up I, I.get c.nG c.hG, c.nG, c.dr, let ⟨dx, h⟩ := c.hW; ⟨dx, I.get c.nW h⟩, c.nW, c.gv⟩
theorem tMk_ok {σ : L2.St} {d : Addr} {j : Nat} {Q : VK} (h : σ[j]? = some (some (.ref d))) (hd : H d = some (.dK (dkv G))) (hR : Right G) (ty : ∀ r ∈ parts, Ty H (G r))
    (q : ∀ (x : Addr) (v : Wv) (H' : Hp), H x = none → (∀ s ∈ parts, G s = asW v s) → Same H H' → Wk H' C x v → Q (.ref x) H') : tMk C CB j σ H Q :=
  ⟨_, h, d, _, rfl, rfl, _, hd, _, dkv_get G (by decide), _, h, d, _, rfl, rfl, _, hd, _, dkv_get G (by decide), _, h, d, _, rfl, rfl, _, hd, _, dkv_get G (by decide), _, h, d, _, rfl, rfl, _, hd, _, dkv_get G (by decide), _, h, d, _, rfl, rfl, _, hd, _, dkv_get G (by decide), rfl, rfl,
    fun x dx hx hdx hne => mk_ok hR ty hx hdx hne fun v H' hv sm hw => q x v H' hx hv sm hw⟩
theorem put_at (G : PF) (r : Str) (x : V) : putP G r x r = x := if_pos rfl
theorem put_off (G : PF) {r s : Str} (x : V) (h : s ≠ r) : putP G r x s = G s := if_neg h
abbrev sg (sa nm p mn gd x1 : Addr) (i : Nat) (r : Str) (kv w9 w10 w11 w12 w13 w14 w15 : Option V) : L2.St :=
  [some (.ref sa), some (.ref nm), kv, some (.ref p), some (.ref mn), some (.int (i : Nat)), some (.str r), some (.ref gd), some (.ref x1), w9, w10, w11, w12, w13, w14, w15]
theorem vals_ok (c : Ctx C p qq nm mn gd x1 zs G v H) (I0 : Iv p qq H H) (hr : parts[i]? = some r)
    (hD : ∀ (w11 w12 w15 : Option V) (H' : Hp), Iv p qq H H' → D.nx (sg sa nm p mn gd x1 i r kv w9 w10 w11 w12 w13 w14 w15) H') : tVals K C CB D (sg sa nm p mn gd x1 i r kv w9 w10 w11 w12 w13 w14 w15) H := by
  have hr' : r ∈ parts := parts_in hr
  obtain ⟨xs, m, hm1, hm2, hm3, hm4⟩ := c.hM.at hr
  refine ⟨_, rfl, _, rfl, mn, (i : Nat), rfl, rfl, xs, hm1, Int.natCast_nonneg i, .ref m, hm2, m, rfl, ⟨_, SqL.of hm4⟩, ?_⟩
  show lcB (Itl K m) (gName 11) (tTest (tOp L2.rNe (tVar 11) (tDg (tVar 7) (tVar 6)))) (tVar 11) [11] (sg sa nm p mn gd x1 i r kv w9 w10 w11 w12 w13 w14 w15) H (fun x H1 => ∃ a, x = .ref a ∧ (∃ xs, SqL K H1 a xs) ∧ forB (Itl K a) (gName 11) (tValB K C CB) D (sg sa nm p mn gd x1 i r kv w9 w10 w11 w12 w13 w14 w15) H1)
  refine lcB_other hm4 hr' c.dr c.hG (fun _ => rfl) (fun _ => rfl) (fun _ => rfl) (fun _ => rfl) fun L ys H1 hL sm hl hle hy => ?_
  have nL := (I0.free hL).2
  refine ⟨L, rfl, ⟨_, SqL.of hl⟩, for_it (walk_list (xs := ys)) (fun _ σ' H' => ∃ w11 w12 w15 : Option V, σ' = sg sa nm p mn gd x1 i r kv w9 w10 w11 w12 w13 w14 w15 ∧ Iv p qq H H' ∧ H' L = some (.lst ys)) ⟨_, _, _, rfl, I0.same sm, hl⟩ (fun _ _ _ _ ⟨_, _, _, _, _, h⟩ => SqL.of h) ?_ ?_⟩
  · rintro j x _ H2 _ hj ⟨u11, u12, u15, rfl, I, hl2⟩ ⟨rfl, hx⟩
    obtain ⟨hxm, hxn⟩ := hy x (List.mem_of_getElem? hx)
    have c2 := c.up I
    refine pairs_ok (K := K) (σ := sg sa nm p mn gd x1 i r kv w9 w10 (some x) u12 w13 w14 u15) rfl c2.hN c2.hG (fun _ => rfl) (fun _ => rfl) (fun _ => rfl) fun d H3 hd s3 hd3 => ?_
    walk_at "rd"
    refine ⟨dkv G, hd3, szl (by show 5 < 100000; decide), ?_⟩
    rw [dkv_put G x hr']
    have J : Iv p qq H (upd H3 d (.dK (dkv (putP G r x)))) := (I.same s3).set (I.free hd).1 (I.free hd).2
    have dr2 : Drawn (putP G r x) := c.dr.put hxm
    refine tMk_ok (d := d) rfl upd_same dr2.right (fun s hs => dr2.ty hs) fun y v' H4 hy hv s4 hw => ?_
    have J4 := J.same s4
    refine ⟨y, rfl, v', hw, v, (c.up J4).hW, ?_⟩
    have nv : ¬ v' = v := fun e => hxn (by rw [c.gv r hr', ← e, ← hv r hr', put_at])
    rw [if_neg nv]
    exact ⟨J4, s4 _ _ (by rw [upd_ne (ne_of_none hl2 hd)]; exact s3 _ _ hl2)⟩
  · rintro _ H' ⟨_, _, _, rfl, I, _⟩
    exact hD _ _ _ H' I
end
end My

set_option Elab.async false
set_option linter.all false
set_option maxRecDepth 100000
set_option maxHeartbeats 4000000
namespace My
open PySem PySem.Spec PyProof.Rows L2
local macro_rules | `(tactic| walk_at "rd") => `(tactic| simp only [rd_seq, rd_next, rd_brk, rd_cont, rd_asg, rd_gname, rd_var, rd_c, rd_op, rd_un, rd_rI0, rd_rI, rd_rU, rd_test, rd_B, rd_and, rd_or, rd_not, rd_andV, rd_orV, rd_notV, rd_ifx, rd_ifs, rd_drop, rd_ret, rd_nil, rd_cons, rd_cb, rd_tup, rd_lst, rd_call, rd_bm, rd_app, rd_ixLst, rd_ixSq, rd_lenL, rd_lenSq, rd_setLst, rd_sub, rd_neNil, rd_isStr, rd_isW, rd_dg, rd_dp, rd_makeK, rd_mk, rd_sl, rd_noP, rd_part, rd_slL, rd_cat, rd_lcL, rd_lcE, rd_eqW, rd_neW, rd_repr,  L2.valV_put, rd_fldS, rd_eq, rd_ne, rd_fldE, rd_allB, rd_isBl, rd_inS, rd_chain, rd_chain', L2.wipe, Int.reduceToNat, Int.reduceLE, Int.reduceLT, Nat.reduceLT, Nat.reduceLeDiff, Int.reduceNeg, Int.toNat_natCast, Int.reduceAdd, L2.start, and_assoc, exists_and_left, List.map_cons, List.map_nil, List.length_cons, List.length_nil, List.cons_append, List.nil_append, List.append_nil, List.replicate_succ, List.replicate_zero, List.replicate, List.set_cons_zero, List.set_cons_succ, List.getElem?_cons_zero, List.getElem?_cons_succ, Option.some.injEq, exists_eq_left', exists_eq_left, exists_eq, V.int.injEq, V.ref.injEq, V.str.injEq, V.bl.injEq, HO.lst.injEq, HO.tup.injEq, ex_bl, List.cons.injEq, and_true, true_and, Nat.reduceAdd, Nat.reduceSub, reduceCtorEq, false_and, or_false, exists_false, false_or, decide_eq_true_eq, if_true, if_false, Bool.false_eq_true, Bool.not_true, Bool.not_false, upd_same])
local macro_rules | `(tactic| walk_at "rdh") => `(tactic| simp only [rd_seq, rd_next, rd_brk, rd_cont, rd_asg, rd_gname, rd_var, rd_c, rd_op, rd_un, rd_rI0, rd_rI, rd_rU, rd_test, rd_B, rd_and, rd_or, rd_not, rd_andV, rd_orV, rd_notV, rd_ifx, rd_ifs, rd_drop, rd_ret, rd_nil, rd_cons, rd_cb, rd_tup, rd_lst, rd_call, rd_bm, rd_app, rd_ixLst, rd_ixSq, rd_lenL, rd_lenSq, rd_setLst, rd_sub, rd_neNil, rd_isStr, rd_isW, rd_dg, rd_dp, rd_makeK, rd_mk, rd_sl, rd_noP, rd_part, rd_slL, rd_cat, rd_lcL, rd_lcE, rd_eqW, rd_neW, rd_repr,  L2.valV_put, rd_fldS, rd_eq, rd_ne, rd_fldE, rd_allB, rd_isBl, rd_inS, rd_chain, rd_chain', L2.wipe, Int.reduceToNat, Int.reduceLE, Int.reduceLT, Nat.reduceLT, Nat.reduceLeDiff, Int.reduceNeg, Int.toNat_natCast, Int.reduceAdd, L2.start, and_assoc, exists_and_left, List.map_cons, List.map_nil, List.length_cons, List.length_nil, List.cons_append, List.nil_append, List.append_nil, List.replicate_succ, List.replicate_zero, List.replicate, List.set_cons_zero, List.set_cons_succ, List.getElem?_cons_zero, List.getElem?_cons_succ, Option.some.injEq, exists_eq_left', exists_eq_left, exists_eq, V.int.injEq, V.ref.injEq, V.str.injEq, V.bl.injEq, HO.lst.injEq, HO.tup.injEq, ex_bl, List.cons.injEq, and_true, true_and, Nat.reduceAdd, Nat.reduceSub, reduceCtorEq, false_and, or_false, exists_false, false_or, decide_eq_true_eq, if_true, if_false, Bool.false_eq_true, Bool.not_true, Bool.not_false, upd_same, *])
theorem ty_upd {H : Hp} {a : Addr} {o : HO} {z : V} (h : Ty H z) (ho : (tyO (some o)).isSome = true) : Ty (upd H a o) z := by
  refine ⟨?_, h.2⟩
  cases z with
  | ref b =>
    show (tyO (upd H a o b)).isSome = true
    by_cases e : b = a
    · subst e
      rw [upd_same]
      exact ho
    · rw [upd_ne e]
      exact h.1
  | _ => exact h.1
/-- names[at:] -/
theorem cut_ok {i : Nat} {r : Str} (h : parts[i]? = some r) : 0 < (cutV (parts.map V.str) (some (i : Int)) none).length ∧ ∀ y ∈ cutV (parts.map V.str) (some (i : Int)) none, ∃ (s : Str) (j : Nat), y = .str s ∧ parts[j]? = some s ∧ i ≤ j := by
  have hi : i < 5 := (List.getElem?_eq_some_iff.mp h).1
  have e : cutV (parts.map V.str) (some (i : Int)) none = (parts.drop i).map V.str := by
    unfold cutV
    rw [HT.sIx_nat, HT.sIx_none, List.length_map]
    have e1 : min i parts.length = i := by show min i 5 = i; omega
    rw [e1, ← List.map_drop]
    exact List.take_of_length_le (by rw [List.length_map, List.length_drop]; exact Nat.le_refl _)
  rw [e]
  refine ⟨by rw [List.length_map, List.length_drop]; show 0 < 5 - i; omega, fun y hy => ?_⟩
  obtain ⟨s, hs, rfl⟩ := List.mem_map.mp hy
  obtain ⟨k, hk⟩ := List.getElem?_of_mem hs
  rw [List.getElem?_drop] at hk
  exact ⟨s, i + k, rfl, hk, Nat.le_add_right _ _⟩
theorem parts_inj {i j : Nat} {r : Str} (h1 : parts[i]? = some r) (h2 : parts[j]? = some r) : i = j := by
  have nd : parts.Nodup := by decide +kernel
  obtain ⟨a1, b1⟩ := List.getElem?_eq_some_iff.mp h1
  obtain ⟨a2, b2⟩ := List.getElem?_eq_some_iff.mp h2
  exact (List.getElem_inj nd).mp (b1.trans b2.symm)
section
variable {K : PySem.W.Frag} {C CB p qq nm mn gd x1 sa : Addr} {zs : List Int} {G : PF} {v : Wv} {H : Hp} {D : Ends} {i : Nat} {r : Str} {kv w9 w10 w11 w12 w13 w14 w15 : Option V}
/-- the first wrong part, when one part and perhaps a later one are wrong -/
theorem bad_one {x : V} (dr : Drawn G) (hr : parts[i]? = some r) (hx : oddB r x = true) : bad (putP G r x) = some r :=
  bad_first hr (by rw [put_at]; exact hx) fun j s hj hs => by
    have n : s ≠ r := fun e => by subst e; have := parts_inj hr hs; omega
    rw [put_off _ _ n]
    exact dr.right s (parts_in hs)
theorem bad_two {x y : V} {s : Str} {j : Nat} (dr : Drawn G) (hr : parts[i]? = some r) (hx : oddB r x = true) (hs : parts[j]? = some s) (hj : i ≤ j) (n : s ≠ r) : bad (putP (putP G r x) s y) = some r :=
  bad_first hr (by rw [put_off _ _ (Ne.symm n), put_at]; exact hx) fun k t hk ht => by
    have n1 : t ≠ r := fun e => by subst e; have := parts_inj hr ht; omega
    have n2 : t ≠ s := fun e => by subst e; have := parts_inj hs ht; omega
    rw [put_off _ _ n2, put_off _ _ n1]
    exact dr.right t (parts_in ht)
theorem odds_ok (c : Ctx C p qq nm mn gd x1 zs G v H) (I0 : Iv p qq H H) (hr : parts[i]? = some r)
    (hD : ∀ (w12 w13 w14 w15 : Option V) (H' : Hp), Iv p qq H H' → D.nx (sg sa nm p mn gd x1 i r kv w9 w10 w11 w12 w13 w14 w15) H') : tOdds K D (sg sa nm p mn gd x1 i r kv w9 w10 w11 w12 w13 w14 w15) H := by
  have hr' : r ∈ parts := parts_in hr
  refine ⟨_, rfl, r, rfl, hr', fun L xs H1 hL sm hl h0 hz hx => ?_⟩
  have I1 : Iv p qq H H1 := I0.same sm
  have nL := (I0.free hL).2
  have c1 := c.up I1
  have J0 := I1.here
  refine ⟨L, rfl, ⟨_, SqL.of hl⟩, for_it (walk_list (xs := xs)) (fun _ σ' H' => ∃ w12 w13 w14 w15 : Option V, σ' = sg sa nm p mn gd x1 i r kv w9 w10 w11 w12 w13 w14 w15 ∧ Iv p qq H1 H') ⟨_, _, _, _, rfl, J0⟩ (fun _ _ _ _ ⟨_, _, _, _, _, I⟩ => SqL.of (I.get nL hl)) ?_ ?_⟩
  · rintro j x _ H2 _ hj ⟨u12, u13, u14, u15, rfl, I⟩ ⟨rfl, hxj⟩
    obtain ⟨tx, ox⟩ := hx x (List.mem_of_getElem? hxj)
    have c2 := c1.up I
    refine pairs_ok (K := K) (σ := sg sa nm p mn gd x1 i r kv w9 w10 w11 u12 (some x) u14 u15) rfl c2.hN c2.hG (fun _ => rfl) (fun _ => rfl) (fun _ => rfl) fun d H3 hd s3 hd3 => ?_
    walk_at "rd"
    refine ⟨dkv G, hd3, szl (by show 5 < 100000; decide), ?_⟩
    rw [dkv_put G x hr']
    have hdF := I.free hd
    have J : Iv p qq H1 (upd H3 d (.dK (dkv (putP G r x)))) := (I.same s3).set hdF.1 hdF.2
    have hdd : upd H3 d (.dK (dkv (putP G r x))) d = some (.dK (dkv (putP G r x))) := upd_same
    generalize upd H3 d (.dK (dkv (putP G r x))) = H4 at J hdd ⊢
    have tyx : ∀ {H' : Hp}, Iv p qq H1 H' → ∀ s ∈ parts, Ty H' (putP G r x s) := fun {H'} I' s hs => by
      unfold putP
      split
      · exact I'.ty tx
      · exact c.dr.ty hs
    refine tried_ok (d := d) (r := r) rfl rfl hr' hdd (tyx J) (bad_one c.dr hr ox) fun H5 s5 => ?_
    have J5 := J.same s5
    have hd5 := s5 _ _ hdd
    have c5 := c1.up J5
    walk_at "rd"
    obtain ⟨cut0, cut1⟩ := cut_ok hr
    refine ⟨_, SqL.of c5.hN, fun t ht => ?_⟩
    have J6 : Iv p qq H1 (upd H5 t (.lst (cutV (parts.map V.str) (some (i : Int)) none))) := J5.new ht
    obtain ⟨k, hk, hp⟩ := J6.pa
    have hd6 : upd H5 t (.lst (cutV (parts.map V.str) (some (i : Int)) none)) d = some (.dK (dkv (putP G r x))) := by rw [upd_ne (ne_of_none hd5 ht)]; exact hd5
    have ht6 : upd H5 t (.lst (cutV (parts.map V.str) (some (i : Int)) none)) t = some (.lst (cutV (parts.map V.str) (some (i : Int)) none)) := upd_same
    generalize upd H5 t (.lst (cutV (parts.map V.str) (some (i : Int)) none)) = H6 at J6 hp hd6 ht6 ⊢
    refine pick_ok hp hk (c1.up J6).hZ ht6 (J5.free ht).2 cut0 fun y hy => ?_
    obtain ⟨s, j2, rfl, hs, hij⟩ := cut1 y hy
    have hs' : s ∈ parts := parts_in hs
    have J7 := J6.draw hk
    have hd7 : upd H6 p (.lst [.ref qq, .int (k + 1)]) d = some (.dK (dkv (putP G r x))) := by rw [upd_ne hdF.2]; exact hd6
    generalize upd H6 p (.lst [.ref qq, .int (k + 1)]) = H7 at J7 hd7 ⊢
    refine ⟨rfl, ?_⟩
    by_cases e : s = r
    · subst e
      rw [if_neg (by simp)]
      exact tried_ok (d := d) (r := s) rfl rfl hr' hd7 (tyx J7) (bad_one c.dr hr ox) fun H8 s8 => ⟨_, _, _, _, rfl, J7.same s8⟩
    · rw [if_pos (by simpa using e)]
      refine ⟨s, rfl, hs', fun l2 ys H8 hl2 s8 hl8 h02 hz2 hy2 => ?_⟩
      have J8 := J7.same s8
      have hd8 := s8 _ _ hd7
      obtain ⟨k2, hk2, hp2⟩ := J8.pa
      refine pick_ok hp2 hk2 (c1.up J8).hZ hl8 (J7.free hl2).2 h02 fun z hz => ?_
      obtain ⟨tz, oz⟩ := hy2 z hz
      refine ⟨s, rfl, dkv (putP G r x), by rw [upd_ne hdF.2]; exact hd8, szl (by show 5 < 100000; decide), ?_⟩
      rw [dkv_put _ z hs']
      have J9 := (J8.draw hk2).set (o := .dK (dkv (putP (putP G r x) s z))) hdF.1 hdF.2
      refine tried_ok (d := d) (r := r) rfl rfl hr' upd_same (fun u hu => ?_) (bad_two c.dr hr ox hs hij e) fun H10 s10 => ⟨_, _, _, _, rfl, J9.same s10⟩
      unfold putP
      split
      · exact ty_upd (ty_upd tz rfl) rfl
      · exact tyx J9 u hu
  · rintro _ H' ⟨_, _, _, _, rfl, I⟩
    exact hD _ _ _ _ H' (I1.trans I)
end
end My

set_option Elab.async false
set_option linter.all false
set_option maxRecDepth 100000
set_option maxHeartbeats 4000000
namespace My
open PySem PySem.Spec PyProof.Rows L2
local macro_rules | `(tactic| walk_at "rd") => `(tactic| simp only [rd_seq, rd_next, rd_brk, rd_cont, rd_asg, rd_gname, rd_var, rd_c, rd_op, rd_un, rd_rI0, rd_rI, rd_rU, rd_test, rd_B, rd_and, rd_or, rd_not, rd_andV, rd_orV, rd_notV, rd_ifx, rd_ifs, rd_drop, rd_ret, rd_nil, rd_cons, rd_cb, rd_tup, rd_lst, rd_call, rd_bm, rd_app, rd_ixLst, rd_ixSq, rd_lenL, rd_lenSq, rd_setLst, rd_sub, rd_neNil, rd_isStr, rd_isW, rd_dg, rd_dp, rd_makeK, rd_mk, rd_sl, rd_noP, rd_part, rd_slL, rd_cat, rd_lcL, rd_lcE, rd_eqW, rd_neW, rd_repr,  L2.valV_put, rd_fldS, rd_eq, rd_ne, rd_fldE, rd_allB, rd_isBl, rd_inS, rd_chain, rd_chain', L2.wipe, Int.reduceToNat, Int.reduceLE, Int.reduceLT, Nat.reduceLT, Nat.reduceLeDiff, Int.reduceNeg, Int.toNat_natCast, Int.reduceAdd, L2.start, and_assoc, exists_and_left, List.map_cons, List.map_nil, List.length_cons, List.length_nil, List.cons_append, List.nil_append, List.append_nil, List.replicate_succ, List.replicate_zero, List.replicate, List.set_cons_zero, List.set_cons_succ, List.getElem?_cons_zero, List.getElem?_cons_succ, Option.some.injEq, exists_eq_left', exists_eq_left, exists_eq, V.int.injEq, V.ref.injEq, V.str.injEq, V.bl.injEq, HO.lst.injEq, HO.tup.injEq, ex_bl, List.cons.injEq, and_true, true_and, Nat.reduceAdd, Nat.reduceSub, reduceCtorEq, false_and, or_false, exists_false, false_or, decide_eq_true_eq, if_true, if_false, Bool.false_eq_true, Bool.not_true, Bool.not_false, upd_same])
local macro_rules | `(tactic| walk_at "rdh") => `(tactic| simp only [rd_seq, rd_next, rd_brk, rd_cont, rd_asg, rd_gname, rd_var, rd_c, rd_op, rd_un, rd_rI0, rd_rI, rd_rU, rd_test, rd_B, rd_and, rd_or, rd_not, rd_andV, rd_orV, rd_notV, rd_ifx, rd_ifs, rd_drop, rd_ret, rd_nil, rd_cons, rd_cb, rd_tup, rd_lst, rd_call, rd_bm, rd_app, rd_ixLst, rd_ixSq, rd_lenL, rd_lenSq, rd_setLst, rd_sub, rd_neNil, rd_isStr, rd_isW, rd_dg, rd_dp, rd_makeK, rd_mk, rd_sl, rd_noP, rd_part, rd_slL, rd_cat, rd_lcL, rd_lcE, rd_eqW, rd_neW, rd_repr,  L2.valV_put, rd_fldS, rd_eq, rd_ne, rd_fldE, rd_allB, rd_isBl, rd_inS, rd_chain, rd_chain', L2.wipe, Int.reduceToNat, Int.reduceLE, Int.reduceLT, Nat.reduceLT, Nat.reduceLeDiff, Int.reduceNeg, Int.toNat_natCast, Int.reduceAdd, L2.start, and_assoc, exists_and_left, List.map_cons, List.map_nil, List.length_cons, List.length_nil, List.cons_append, List.nil_append, List.append_nil, List.replicate_succ, List.replicate_zero, List.replicate, List.set_cons_zero, List.set_cons_succ, List.getElem?_cons_zero, List.getElem?_cons_succ, Option.some.injEq, exists_eq_left', exists_eq_left, exists_eq, V.int.injEq, V.ref.injEq, V.str.injEq, V.bl.injEq, HO.lst.injEq, HO.tup.injEq, ex_bl, List.cons.injEq, and_true, true_and, Nat.reduceAdd, Nat.reduceSub, reduceCtorEq, false_and, or_false, exists_false, false_or, decide_eq_true_eq, if_true, if_false, Bool.false_eq_true, Bool.not_true, Bool.not_false, upd_same, *])
section
variable {K : PySem.W.Frag} {C CB p qq nm mn gd x1 sa : Addr} {zs : List Int} {G : PF} {v : Wv} {H : Hp} {D : Ends} {σ : L2.St} {Q : VK} {kv w5 w6 w9 w10 w11 w12 w13 w14 w15 : Option V}
abbrev sgs (sa nm p mn gd x1 : Addr) (kv w5 w6 w9 w10 w11 w12 w13 w14 w15 : Option V) : L2.St :=
  [some (.ref sa), some (.ref nm), kv, some (.ref p), some (.ref mn), w5, w6, some (.ref gd), some (.ref x1), w9, w10, w11, w12, w13, w14, w15]
theorem parts_ok (c : Ctx C p qq nm mn gd x1 zs G v H) (I0 : Iv p qq H H)
    (hD : ∀ (w5 w6 w11 w12 w13 w14 w15 : Option V) (H' : Hp), Iv p qq H H' → D.nx (sgs sa nm p mn gd x1 kv w5 w6 w9 w10 w11 w12 w13 w14 w15) H') : tParts K C CB D (sgs sa nm p mn gd x1 kv w5 w6 w9 w10 w11 w12 w13 w14 w15) H := by
  refine ⟨_, rfl, nm, _, rfl, SqL.of c.hN, for_it (walk_enum (xs := parts.map V.str)) (fun _ σ' H' => ∃ w5 w6 w11 w12 w13 w14 w15 : Option V, σ' = sgs sa nm p mn gd x1 kv w5 w6 w9 w10 w11 w12 w13 w14 w15 ∧ Iv p qq H H')
    ⟨_, _, _, _, _, _, _, rfl, I0⟩ (fun _ _ _ _ ⟨_, _, _, _, _, _, _, _, I⟩ => SqL.of (I.get c.nN c.hN)) ?_ ?_⟩
  · rintro i x _ H2 H3 hi ⟨u5, u6, u11, u12, u13, u14, u15, rfl, I⟩ ⟨T, x0, y0, rfl, hT, rfl, e1, e2⟩
    have e2' : (parts.map V.str)[i]? = some y0 := e2
    rw [List.getElem?_map] at e2'
    obtain ⟨r, hr, rfl⟩ := Option.map_eq_some_iff.mp e2'
    obtain rfl : V.int (i : Nat) = x0 := Option.some.inj e1
    have I1 : Iv p qq H (upd H2 T (.tup [.int (i : Nat), .str r])) := I.new hT
    refine ⟨T, [.int (i : Nat), .str r], rfl, SqT.of upd_same, rfl, _, _, rfl, _, _, rfl, rfl, ?_⟩
    refine vals_ok (sa := sa) (kv := kv) (w9 := w9) (w10 := w10) (c.up I1) I1.here hr fun y11 y12 y15 H4 I4 => ?_
    refine odds_ok (sa := sa) (kv := kv) (w9 := w9) (w10 := w10) (c.up (I1.trans I4)) I4.here hr fun z12 z13 z14 z15 H5 I5 => ?_
    exact ⟨_, _, _, _, _, _, _, rfl, I1.trans (I4.trans I5)⟩
  · rintro _ H' ⟨_, _, _, _, _, _, _, rfl, I⟩
    exact hD _ _ _ _ _ _ _ H' I
/-! ### the texts -/
def PdOk (v : Wv) : Prop := (pdW v).showable = true ∧ (pdW v).hasDict = false ∧ (pdW v).depth ≤ 3 ∧ (pdW v).shown.length ≤ 100000
theorem in_strs {r x : Str} {y : V} (h : y ∈ menuOf r) (e : y = .str x) : x ∈ strsOf r := List.mem_filterMap.mpr ⟨y, h, by rw [e]⟩
theorem Drawn.text (dr : Drawn G) (hv : ∀ s ∈ parts, G s = asW v s) : PdOk v ∧ PdOk ⟨v.ev, v.de, v.ca, "own", false⟩ := by
  have h1 := in_strs (dr "event" (by decide)) (hv "event" (by decide))
  have h2 := in_strs (dr "deed" (by decide)) (hv "deed" (by decide))
  have h3 := in_strs (dr "call" (by decide)) (hv "call" (by decide))
  have h4 := in_strs (dr "by" (by decide)) (hv "by" (by decide))
  exact ⟨pdW_ok _ h1 _ h2 _ h3 _ h4 v.ma (by cases v.ma <;> decide), pdW_ok _ h1 _ h2 _ h3 _ (by decide) false (by decide)⟩
theorem dpW {a : Addr} (h : H a = some (.lst [.str v.ev, .str v.de, .str v.ca, .str v.b, .bl v.ma])) : Dp K H (.ref a) (pdW v) := .lst (SqL.of h) (.cons (.str _) (.cons (.str _) (.cons (.str _) (.cons (.str _) (.cons (.bl _) .nil)))))
def tTold (K : PySem.W.Frag) (C : Addr) (j : Nat) : TE := tCB (rRepr K) (tCons (tCall (spTld C) [] E0 (tCons (tVar j) tNil)) tNil)
theorem told_text {x : Addr} {j : Nat} (h : σ[j]? = some (some (.ref x))) (hw : Wk H C x v) (ok : PdOk v) (q : ∀ H', Same H H' → Q (.str (pdW v).shown) H') : tTold K C j σ H Q :=
  ⟨_, h, x, v, rfl, hw, fun l H' hl sm h' => ⟨l, pdW v, rfl, dpW h', ok.1, ok.2.1, ok.2.2.1, ok.2.2.2, q H' sm⟩⟩
def tGot (K : PySem.W.Frag) : TE := tCB (rRepr K) (tCons (tLc (iList K (tVar 1)) (gName 6) tYes (tDg (tVar 7) (tVar 6)) [6]) tNil)
theorem got_text (h1 : σ[1]? = some (some (.ref nm))) (hN : H nm = some (.lst (parts.map V.str))) (hd : H gd = some (.dK (dkv G))) (hw : ∀ x, wipe ((wipe σ [6]).set 6 (some x)) [6] = wipe σ [6])
    (h7 : ∀ x, ((wipe σ [6]).set 6 (some x))[7]? = some (some (.ref gd))) (h6 : ∀ x, ((wipe σ [6]).set 6 (some x))[6]? = some (some x)) (hv : ∀ s ∈ parts, G s = asW v s) (ok : PdOk v) (q : ∀ H', Same H H' → Q (.str (pdW v).shown) H') : tGot K σ H Q := by
  refine ⟨_, h1, nm, rfl, ⟨_, SqL.of hN⟩, ?_⟩
  show lcB (Itl K nm) (gName 6) tYes (tDg (tVar 7) (tVar 6)) [6] σ H (fun x H1 => rRepr K [x] H1 Q)
  refine lcB_got (SqL.of hN) (fun _ h => h) (by decide) hw h7 h6 hd fun L H1 hL sm hl => ?_
  have e : parts.map G = [.str v.ev, .str v.de, .str v.ca, .str v.b, .bl v.ma] := by
    show [G "event", G "deed", G "call", G "by", G "may"] = _
    rw [hv "event" (by decide), hv "deed" (by decide), hv "call" (by decide), hv "by" (by decide), hv "may" (by decide)]
    rfl
  rw [e] at hl
  exact ⟨L, pdW v, rfl, dpW hl, ok.1, ok.2.1, ok.2.2.1, ok.2.2.2, q H1 sm⟩
def tGot3 (K : PySem.W.Frag) : TE := tCB (rRepr K) (tCons (tOp rCat (tLc (iList K (tSl (rSlL K) (tVar 1) tNoPart (tPart (tC (V.int 3))))) (gName 6) tYes (tDg (tVar 7) (tVar 6)) [6]) (tLst (tCons (tC (V.str ("own" : Str))) (tCons (tC (V.bl false)) tNil)))) tNil)
theorem got3_text (h1 : σ[1]? = some (some (.ref nm))) (hN : H nm = some (.lst (parts.map V.str))) (hd : H gd = some (.dK (dkv G))) (hw : ∀ x, wipe ((wipe σ [6]).set 6 (some x)) [6] = wipe σ [6])
    (h7 : ∀ x, ((wipe σ [6]).set 6 (some x))[7]? = some (some (.ref gd))) (h6 : ∀ x, ((wipe σ [6]).set 6 (some x))[6]? = some (some x)) (hv : ∀ s ∈ parts, G s = asW v s) (ok : PdOk ⟨v.ev, v.de, v.ca, "own", false⟩) (q : ∀ H', Same H H' → Q (.str (pdW ⟨v.ev, v.de, v.ca, "own", false⟩).shown) H') : tGot3 K σ H Q := by
  refine ⟨_, h1, 3, rfl, nm, _, rfl, SqL.of hN, fun t ht => ⟨t, rfl, ⟨_, SqL.of upd_same⟩, ?_⟩⟩
  have ecut : cutV (parts.map V.str) none (some 3) = (["event", "deed", "call"] : List Str).map V.str := rfl
  have s1 := My.Same.new (o := .lst (cutV (parts.map V.str) none (some 3))) (Same.refl H) ht
  have ht1 : upd H t (.lst (cutV (parts.map V.str) none (some 3))) t = some (.lst ((["event", "deed", "call"] : List Str).map V.str)) := by rw [upd_same, ecut]
  generalize upd H t (.lst (cutV (parts.map V.str) none (some 3))) = H1 at s1 ht1 ⊢
  show lcB (Itl K t) (gName 6) tYes (tDg (tVar 7) (tVar 6)) [6] σ H1 (fun x H2 => tLst (tCons (tC (V.str ("own" : Str))) (tCons (tC (V.bl false)) tNil)) σ H2 fun y H3 => rCat x y H3 fun z H4 => rRepr K [z] H4 Q)
  refine lcB_got (SqL.of ht1) (by decide) (by decide) hw h7 h6 (s1 _ _ hd) fun L H2 hL s2 hl => ?_
  refine ⟨sz (by show 2 ≤ 100000; decide), fun l2 hl2 => ?_⟩
  refine ⟨L, l2, _, _, rfl, rfl, by rw [upd_ne (ne_of_none hl hl2)]; exact hl, upd_same, sz (by show 5 ≤ 100000; decide), fun u hu => ?_⟩
  have e : (["event", "deed", "call"] : List Str).map G ++ [.str "own", .bl false] = [.str v.ev, .str v.de, .str v.ca, .str "own", .bl false] := by
    show [G "event", G "deed", G "call", .str "own", .bl false] = _
    rw [hv "event" (by decide), hv "deed" (by decide), hv "call" (by decide)]
    rfl
  have s3 := My.Same.new' (o := .lst [.str "own", .bl false]) (s1.trans s2) hl2
  rw [e]
  exact ⟨u, pdW ⟨v.ev, v.de, v.ca, "own", false⟩, rfl, dpW (v := ⟨v.ev, v.de, v.ca, "own", false⟩) upd_same, ok.1, ok.2.1, ok.2.2.1, ok.2.2.2, q _ (My.Same.new' s3 hu)⟩
end
end My

set_option Elab.async false
set_option linter.all false
set_option maxRecDepth 100000
set_option maxHeartbeats 4000000
namespace My
open PySem PySem.Spec PyProof.Rows L2
local macro_rules | `(tactic| walk_at "rd") => `(tactic| simp only [rd_seq, rd_next, rd_brk, rd_cont, rd_asg, rd_gname, rd_var, rd_c, rd_op, rd_un, rd_rI0, rd_rI, rd_rU, rd_test, rd_B, rd_and, rd_or, rd_not, rd_andV, rd_orV, rd_notV, rd_ifx, rd_ifs, rd_drop, rd_ret, rd_nil, rd_cons, rd_cb, rd_tup, rd_lst, rd_call, rd_bm, rd_app, rd_ixLst, rd_ixSq, rd_lenL, rd_lenSq, rd_setLst, rd_sub, rd_neNil, rd_isStr, rd_isW, rd_dg, rd_dp, rd_makeK, rd_mk, rd_sl, rd_noP, rd_part, rd_slL, rd_cat, rd_lcL, rd_lcE, rd_eqW, rd_neW, rd_repr,  L2.valV_put, rd_fldS, rd_eq, rd_ne, rd_fldE, rd_allB, rd_isBl, rd_inS, rd_chain, rd_chain', L2.wipe, Int.reduceToNat, Int.reduceLE, Int.reduceLT, Nat.reduceLT, Nat.reduceLeDiff, Int.reduceNeg, Int.toNat_natCast, Int.reduceAdd, L2.start, and_assoc, exists_and_left, List.map_cons, List.map_nil, List.length_cons, List.length_nil, List.cons_append, List.nil_append, List.append_nil, List.replicate_succ, List.replicate_zero, List.replicate, List.set_cons_zero, List.set_cons_succ, List.getElem?_cons_zero, List.getElem?_cons_succ, Option.some.injEq, exists_eq_left', exists_eq_left, exists_eq, V.int.injEq, V.ref.injEq, V.str.injEq, V.bl.injEq, HO.lst.injEq, HO.tup.injEq, ex_bl, List.cons.injEq, and_true, true_and, Nat.reduceAdd, Nat.reduceSub, reduceCtorEq, false_and, or_false, exists_false, false_or, decide_eq_true_eq, if_true, if_false, Bool.false_eq_true, Bool.not_true, Bool.not_false, upd_same])
local macro_rules | `(tactic| walk_at "rdh") => `(tactic| simp only [rd_seq, rd_next, rd_brk, rd_cont, rd_asg, rd_gname, rd_var, rd_c, rd_op, rd_un, rd_rI0, rd_rI, rd_rU, rd_test, rd_B, rd_and, rd_or, rd_not, rd_andV, rd_orV, rd_notV, rd_ifx, rd_ifs, rd_drop, rd_ret, rd_nil, rd_cons, rd_cb, rd_tup, rd_lst, rd_call, rd_bm, rd_app, rd_ixLst, rd_ixSq, rd_lenL, rd_lenSq, rd_setLst, rd_sub, rd_neNil, rd_isStr, rd_isW, rd_dg, rd_dp, rd_makeK, rd_mk, rd_sl, rd_noP, rd_part, rd_slL, rd_cat, rd_lcL, rd_lcE, rd_eqW, rd_neW, rd_repr,  L2.valV_put, rd_fldS, rd_eq, rd_ne, rd_fldE, rd_allB, rd_isBl, rd_inS, rd_chain, rd_chain', L2.wipe, Int.reduceToNat, Int.reduceLE, Int.reduceLT, Nat.reduceLT, Nat.reduceLeDiff, Int.reduceNeg, Int.toNat_natCast, Int.reduceAdd, L2.start, and_assoc, exists_and_left, List.map_cons, List.map_nil, List.length_cons, List.length_nil, List.cons_append, List.nil_append, List.append_nil, List.replicate_succ, List.replicate_zero, List.replicate, List.set_cons_zero, List.set_cons_succ, List.getElem?_cons_zero, List.getElem?_cons_succ, Option.some.injEq, exists_eq_left', exists_eq_left, exists_eq, V.int.injEq, V.ref.injEq, V.str.injEq, V.bl.injEq, HO.lst.injEq, HO.tup.injEq, ex_bl, List.cons.injEq, and_true, true_and, Nat.reduceAdd, Nat.reduceSub, reduceCtorEq, false_and, or_false, exists_false, false_or, decide_eq_true_eq, if_true, if_false, Bool.false_eq_true, Bool.not_true, Bool.not_false, upd_same, *])
def tIf1 (K : PySem.W.Frag) (C : Addr) : TS := tIfS (tOr (tTest (tOp L2.rNe (tTold K C 8) (tGot K))) (tOr (tTest (tOp (rNeW C) (tVar 8) (tVar 9))) (tTest (tOp (rEqW C) (tVar 8) (tDg (tVar 7) (tC (V.str ("event" : Str)))))))) (tRet (tC (V.bl false))) tNext
def tIf2 (K : PySem.W.Frag) (C : Addr) : TS := tIfS (tTest (tOp L2.rNe (tTold K C 10) (tGot3 K))) (tRet (tC (V.bl false))) tNext
def tIf3 (C : Addr) : TS := tIfS (tTest (tOp L2.rNe (tOp (rEqW C) (tVar 8) (tVar 10)) (tAndV (tOp L2.rEq (tDg (tVar 7) (tC (V.str ("by" : Str)))) (tC (V.str ("own" : Str)))) (tNotV (tDg (tVar 7) (tC (V.str ("may" : Str)))))))) (tRet (tC (V.bl false))) tNext
def tMk0 (C CB : Addr) : TE := tMakeK C 0 5 (spWI C CB) (fun vs zs => gA vs zs) E0 tNil (tCons (tDg (tVar 7) (tC (V.str ("may" : Str)))) (tCons (tDg (tVar 7) (tC (V.str ("by" : Str)))) (tCons (tDg (tVar 7) (tC (V.str ("call" : Str)))) (tCons (tDg (tVar 7) (tC (V.str ("event" : Str)))) (tCons (tDg (tVar 7) (tC (V.str ("deed" : Str)))) tNil)))))
def tMk3 (C CB : Addr) : TE := tMake C (spWI C CB) [V.str ("own" : Str), V.bl false] E0 (tCons (tDg (tVar 7) (tC (V.str ("event" : Str)))) (tCons (tDg (tVar 7) (tC (V.str ("deed" : Str)))) (tCons (tDg (tVar 7) (tC (V.str ("call" : Str)))) tNil)))
section
variable {K : PySem.W.Frag} {C CB p qq nm mn gd x1 sa : Addr} {zs : List Int} {G : PF} {v : Wv} {H : Hp} {D : Ends} {σ : L2.St} {Q : VK}
theorem if1_ok {x2 : Addr} (c : Ctx C p qq nm mn gd x1 zs G v H) (h1 : σ[1]? = some (some (.ref nm))) (h8 : σ[8]? = some (some (.ref x1))) (h9 : σ[9]? = some (some (.ref x2))) (h7' : σ[7]? = some (some (.ref gd))) (hw2 : Wk H C x2 v) (hw : ∀ x, wipe ((wipe σ [6]).set 6 (some x)) [6] = wipe σ [6])
    (h7 : ∀ x, ((wipe σ [6]).set 6 (some x))[7]? = some (some (.ref gd))) (h6 : ∀ x, ((wipe σ [6]).set 6 (some x))[6]? = some (some x)) (q : ∀ H', Same H H' → D.nx σ H') : tIf1 K C D σ H := by
  obtain ⟨ok, _⟩ := c.dr.text c.gv
  refine told_text h8 c.hW ok fun H1 s1 => ?_
  refine got_text h1 (s1 _ _ c.hN) (s1 _ _ c.hG) hw h7 h6 c.gv ok fun H2 s2 => ?_
  have s := s1.trans s2
  refine ⟨rfl, _, rfl, ?_⟩
  have e : (!decide (V.str (pdW v).shown = V.str (pdW v).shown)) = false := by simp
  rw [e]
  refine iteF ?_
  obtain ⟨dx, hx⟩ := c.hW
  obtain ⟨dy, hy⟩ := hw2
  refine ⟨_, h8, _, h9, x1, v, x2, v, rfl, rfl, ⟨dx, s _ _ hx⟩, ⟨dy, s _ _ hy⟩, _, rfl, ?_⟩
  have e2 : (!decide (v = v)) = false := by simp
  rw [e2]
  refine iteF ?_
  refine ⟨_, h8, _, h7', gd, _, rfl, rfl, _, s _ _ c.hG, _, dkv_get G (by decide), x1, v, rfl, ⟨dx, s _ _ hx⟩, .inl ⟨v.ev, c.gv "event" (by decide), _, rfl, iteF (q H2 s)⟩⟩
theorem if2_ok {x3 : Addr} (c : Ctx C p qq nm mn gd x1 zs G v H) (h1 : σ[1]? = some (some (.ref nm))) (h10 : σ[10]? = some (some (.ref x3))) (hw3 : Wk H C x3 ⟨v.ev, v.de, v.ca, "own", false⟩) (hw : ∀ x, wipe ((wipe σ [6]).set 6 (some x)) [6] = wipe σ [6])
    (h7 : ∀ x, ((wipe σ [6]).set 6 (some x))[7]? = some (some (.ref gd))) (h6 : ∀ x, ((wipe σ [6]).set 6 (some x))[6]? = some (some x)) (q : ∀ H', Same H H' → D.nx σ H') : tIf2 K C D σ H := by
  obtain ⟨_, ok⟩ := c.dr.text c.gv
  refine told_text h10 hw3 ok fun H1 s1 => ?_
  refine got3_text h1 (s1 _ _ c.hN) (s1 _ _ c.hG) hw h7 h6 c.gv ok fun H2 s2 => ?_
  refine ⟨rfl, _, rfl, ?_⟩
  have e : (!decide (V.str (pdW ⟨v.ev, v.de, v.ca, "own", false⟩).shown = V.str (pdW ⟨v.ev, v.de, v.ca, "own", false⟩).shown)) = false := by simp
  rw [e]
  exact iteF (q H2 (s1.trans s2))
theorem if3_ok {x3 : Addr} (c : Ctx C p qq nm mn gd x1 zs G v H) (h8 : σ[8]? = some (some (.ref x1))) (h10 : σ[10]? = some (some (.ref x3))) (h7' : σ[7]? = some (some (.ref gd))) (hw3 : Wk H C x3 ⟨v.ev, v.de, v.ca, "own", false⟩) (q : D.nx σ H) : tIf3 C D σ H := by
  have eb : G "by" = .str v.b := c.gv "by" (by decide)
  have em : G "may" = .bl v.ma := c.gv "may" (by decide)
  have ev : decide (v = Wv.mk v.ev v.de v.ca "own" false) = (decide (V.str v.b = V.str "own") && !v.ma) := by
    obtain ⟨ev, de, ca, b, ma⟩ := v
    by_cases e : b = "own"
    · subst e
      cases ma <;> simp
    · simp [e]
  refine ⟨_, h8, _, h10, x1, v, rfl, c.hW, .inr ⟨x3, _, rfl, hw3, ?_⟩⟩
  refine ⟨_, h7', gd, _, rfl, rfl, _, c.hG, _, dkv_get G (by decide), ?_⟩
  rw [eb, ev]
  refine ⟨rfl, _, rfl, ?_⟩
  have fin : ∀ k : Bool, (!decide (V.bl k = V.bl k)) = false := fun k => by simp
  by_cases e : V.str v.b = V.str "own"
  · rw [decide_eq_true e]
    refine iteT ⟨_, h7', gd, _, rfl, rfl, _, c.hG, _, dkv_get G (by decide), ?_⟩
    rw [em]
    refine ⟨_, rfl, rfl, _, rfl, ?_⟩
    rw [Bool.true_and, fin]
    exact iteF q
  · rw [decide_eq_false e]
    refine iteF ⟨rfl, _, rfl, ?_⟩
    rw [Bool.false_and, fin]
    exact iteF q
theorem tMk0_ok {d : Addr} (h : σ[7]? = some (some (.ref d))) (hd : H d = some (.dK (dkv G))) (hR : Right G) (ty : ∀ r ∈ parts, Ty H (G r))
    (q : ∀ (x : Addr) (v : Wv) (H' : Hp), H x = none → (∀ s ∈ parts, G s = asW v s) → Same H H' → Wk H' C x v → Q (.ref x) H') : tMk0 C CB σ H Q :=
  ⟨_, h, d, _, rfl, rfl, _, hd, _, dkv_get G (by decide), _, h, d, _, rfl, rfl, _, hd, _, dkv_get G (by decide), _, h, d, _, rfl, rfl, _, hd, _, dkv_get G (by decide), _, h, d, _, rfl, rfl, _, hd, _, dkv_get G (by decide), _, h, d, _, rfl, rfl, _, hd, _, dkv_get G (by decide), rfl, rfl,
    fun x dx hx hdx hne => mk_ok hR ty hx hdx hne fun v H' hv sm hw => q x v H' hx hv sm hw⟩
theorem tMk3_ok {d : Addr} (h : σ[7]? = some (some (.ref d))) (hd : H d = some (.dK (dkv G))) (hR : Right G) (ty : ∀ r ∈ parts, Ty H (G r))
    (q : ∀ (x : Addr) (v : Wv) (H' : Hp), H x = none → (∀ s ∈ parts, putP (putP G "by" (.str "own")) "may" (.bl false) s = asW v s) → Same H H' → Wk H' C x v → Q (.ref x) H') : tMk3 C CB σ H Q :=
  ⟨_, h, d, _, rfl, rfl, _, hd, _, dkv_get G (by decide), _, h, d, _, rfl, rfl, _, hd, _, dkv_get G (by decide), _, h, d, _, rfl, rfl, _, hd, _, dkv_get G (by decide),
    fun x dx hx hdx hne => mk_ok (G := putP (putP G "by" (.str "own")) "may" (.bl false)) ((hR.put (by decide)).put (by decide)) (fun r hr => by
      unfold putP
      split
      · exact ty_flat (by decide)
      · split
        · exact ty_flat (by decide)
        · exact ty r hr) hx hdx hne fun v H' hv sm hw => q x v H' hx hv sm hw⟩
end
end My

set_option Elab.async false
set_option linter.all false
set_option maxRecDepth 100000
set_option maxHeartbeats 4000000
namespace My
open PySem PySem.Spec PyProof.Rows L2
def tMenu1 : TE := (tLst (tCons (tLst (tCons (tC (V.str ("laid" : Str))) (tCons (tC (V.str ("done" : Str))) (tCons (tC (V.str ("struck" : Str))) (tCons (tC (V.str ("instead" : Str))) tNil))))) (tCons (tLst (tCons (tC (V.str ("a" : Str))) (tCons (tC (V.str ("bb" : Str))) (tCons (tC (V.str ("goal" : Str))) (tCons (tC (V.str ("abcdefgh" : Str))) tNil))))) (tCons (tLst (tCons (tC (V.str ("a" : Str))) (tCons (tC (V.str ("bb" : Str))) (tCons (tC (V.str ("abcdefgh" : Str))) tNil)))) tNil))))
def tMenu2 : TE := tOp rCat (tVar 4) (tLst (tCons (tLst (tCons (tC (V.str ("own" : Str))) (tCons (tC (V.str ("next" : Str))) tNil))) (tCons (tLst (tCons (tC (V.bl true)) (tCons (tC (V.bl false)) tNil))) tNil)))

def tGood (K : PySem.W.Frag) : TE := tCB (rDictP K) (tCons (tLc (iEnum K (tCons (tVar 1) tNil)) (gTup K 2 (gCons (gName 5) (gCons (gName 6) gNil))) tYes (tTup (tCons (tVar 6) (tCons (tCall spPck [] E0 (tCons (tVar 3) (tCons (tOp rIxLst (tVar 4) (tVar 5)) tNil))) tNil))) [5, 6]) tNil)
def tBody (K : PySem.W.Frag) (C CB : Addr) : TS := tSeq (tAsg (tCall (spOpn K) [] E0 (tCons (tVar 0) (tCons (tVar 2) (tCons (tC (.int 120)) tNil)))) (gName 3)) (tSeq (tAsg tMenu1 (gName 4)) (tSeq (tAsg tMenu2 (gName 4)) (tSeq (tAsg (tGood K) (gName 7)) (tSeq (tAsg (tMk C CB 7) (gName 8)) (tSeq (tAsg (tMk0 C CB) (gName 9))
  (tSeq (tIf1 K C) (tSeq (tAsg (tMk3 C CB) (gName 10)) (tSeq (tIf2 K C) (tSeq (tIf3 C) (tParts K C CB))))))))))
theorem asW_inj {v u : Wv} (h : ∀ s ∈ parts, asW v s = asW u s) : v = u := by
  obtain ⟨a, b, c, d, e⟩ := v
  obtain ⟨a', b', c', d', e'⟩ := u
  have h1 : V.str a = V.str a' := h "event" (by decide)
  have h2 : V.str b = V.str b' := h "deed" (by decide)
  have h3 : V.str c = V.str c' := h "call" (by decide)
  have h4 : V.str d = V.str d' := h "by" (by decide)
  have h5 : V.bl e = V.bl e' := h "may" (by decide)
  cases h1; cases h2; cases h3; cases h4; cases h5
  rfl
section
variable {K : PySem.W.Frag} {C CB p qq nm mn gd x1 sa : Addr} {zs : List Int} {G : PF} {v : Wv} {H : Hp} {D : Ends} {σ : L2.St} {Q : VK}
theorem step_asg {te : TE} {t : TS} {j : Nat} (h : te σ H fun x H1 => t D (σ.set j (some x)) H1) : tSeq (tAsg te (gName j)) t D σ H := h
theorem step_seq {t u : TS} (h : t { D with nx := u D } σ H) : tSeq t u D σ H := h
theorem old {m a : Addr} {o u : HO} (h : H a = some u) (hm : H m = none) : upd H m o a = some u := by
  rw [upd_ne (ne_of_none h hm)]
  exact h
theorem menu1_ok {u : HO} (hp : H p = some u) (q : ∀ (mA m0 m1 m2 : Addr) (H' : Hp), Same H H' → H' mA = some (.lst [.ref m0, .ref m1, .ref m2]) → H' m0 = some (.lst (menuOf "event")) → H' m1 = some (.lst (menuOf "deed")) → H' m2 = some (.lst (menuOf "call")) → m0 ≠ p → m1 ≠ p → m2 ≠ p → Q (.ref mA) H') : tMenu1 σ H Q := by
  refine ⟨sz (by show 4 ≤ 100000; decide), fun m0 h0 => ⟨sz (by show 4 ≤ 100000; decide), fun m1 h1 => ⟨sz (by show 3 ≤ 100000; decide), fun m2 h2 => ⟨sz (by show 3 ≤ 100000; decide), fun mA hA => ?_⟩⟩⟩⟩
  have p0 := old (o := .lst (menuOf "event")) hp h0
  have p1 := old (o := .lst (menuOf "deed")) p0 h1
  have p2 := old (o := .lst (menuOf "call")) p1 h2
  refine q mA m0 m1 m2 _ ?_ upd_same (old (old (old upd_same h1) h2) hA) (old (old upd_same h2) hA) (old upd_same hA) (Ne.symm (ne_of_none hp h0)) (Ne.symm (ne_of_none p0 h1)) (Ne.symm (ne_of_none p1 h2))
  exact My.Same.new' (My.Same.new' (My.Same.new' (My.Same.new (Same.refl H) h0) h1) h2) hA
theorem menu2_ok {u : HO} {mA m0 m1 m2 : Addr} (hp : H p = some u) (h4 : σ[4]? = some (some (.ref mA))) (hA : H mA = some (.lst [.ref m0, .ref m1, .ref m2])) (e0 : H m0 = some (.lst (menuOf "event"))) (e1 : H m1 = some (.lst (menuOf "deed"))) (e2 : H m2 = some (.lst (menuOf "call"))) (n0 : m0 ≠ p) (n1 : m1 ≠ p) (n2 : m2 ≠ p)
    (q : ∀ (mn : Addr) (H' : Hp), Same H H' → Mn p H' mn → Q (.ref mn) H') : tMenu2 σ H Q := by
  refine ⟨_, h4, sz (by show 2 ≤ 100000; decide), fun m3 h3 => ⟨sz (by show 2 ≤ 100000; decide), fun m4 h4 => ⟨sz (by show 2 ≤ 100000; decide), fun mB hB => ?_⟩⟩⟩
  have p3 := old (o := .lst (menuOf "by")) hp h3
  have p4 := old (o := .lst (menuOf "may")) p3 h4
  have pB := old (o := .lst [.ref m3, .ref m4]) p4 hB
  refine ⟨mA, mB, _, _, rfl, rfl, old (old (old hA h3) h4) hB, upd_same, sz (by show 5 ≤ 100000; decide), fun mn hn => ?_⟩
  refine q mn _ (My.Same.new' (My.Same.new' (My.Same.new' (My.Same.new (Same.refl H) h3) h4) hB) hn) ⟨Ne.symm (ne_of_none pB hn), [m0, m1, m2, m3, m4], upd_same, fun i r hr => ?_⟩
  match i, hr with
  | 0, hr =>
    obtain rfl : ("event" : Str) = r := Option.some.inj hr
    exact ⟨m0, rfl, n0, old (old (old (old e0 h3) h4) hB) hn⟩
  | 1, hr =>
    obtain rfl : ("deed" : Str) = r := Option.some.inj hr
    exact ⟨m1, rfl, n1, old (old (old (old e1 h3) h4) hB) hn⟩
  | 2, hr =>
    obtain rfl : ("call" : Str) = r := Option.some.inj hr
    exact ⟨m2, rfl, n2, old (old (old (old e2 h3) h4) hB) hn⟩
  | 3, hr =>
    obtain rfl : ("by" : Str) = r := Option.some.inj hr
    exact ⟨m3, rfl, Ne.symm (ne_of_none hp h3), old (old (old upd_same h4) hB) hn⟩
  | 4, hr =>
    obtain rfl : ("may" : Str) = r := Option.some.inj hr
    exact ⟨m4, rfl, Ne.symm (ne_of_none p3 h4), old (old upd_same hB) hn⟩
  | n + 5, hr => simp [parts] at hr
theorem good_ok (h1 : σ[1]? = some (some (.ref nm))) (hN : H nm = some (.lst (parts.map V.str))) (nN : nm ≠ p) (hP : ∃ k : Int, 0 ≤ k ∧ H p = some (.lst [.ref qq, .int k])) (hZ : H qq = some (.lst (zs.map V.int))) (nZ : qq ≠ p) (hM : Mn p H mn)
    (hw : ∀ x y, wipe (tauG σ x y) [5, 6] = wipe σ [5, 6]) (h3 : ∀ x y, (tauG σ x y)[3]? = some (some (.ref p))) (h4 : ∀ x y, (tauG σ x y)[4]? = some (some (.ref mn))) (h5 : ∀ x y, (tauG σ x y)[5]? = some (some x)) (h6 : ∀ x y, (tauG σ x y)[6]? = some (some y))
    (q : ∀ (d : Addr) (G : PF) (H' : Hp), Iv p qq H H' → d ≠ p → Drawn G → H' d = some (.dK (dkv G)) → Q (.ref d) H') : tGood K σ H Q := by
  refine ⟨_, h1, nm, _, rfl, SqL.of hN, ?_⟩
  show lcB (Ite K nm) (gTup K 2 (gCons (gName 5) (gCons (gName 6) gNil))) tYes (tTup (tCons (tVar 6) (tCons (tCall spPck [] E0 (tCons (tVar 3) (tCons (tOp rIxLst (tVar 4) (tVar 5)) tNil))) tNil))) [5, 6] σ H (fun x H1 => rDictP K [x] H1 Q)
  refine lcB_good hN nN hP hZ nZ hM hw h3 h4 h5 h6 fun L ps G H1 hL I dr hl hp => ?_
  exact dict_ok hl hp fun d hd => q d G _ (I.new hd) (I.free hd).2 dr upd_same
abbrev s16 (sa nm : Addr) (k : Int) (w3 w4 w5 w6 w7 w8 w9 w10 w11 w12 w13 w14 w15 : Option V) : L2.St := [some (.ref sa), some (.ref nm), some (.int k), w3, w4, w5, w6, w7, w8, w9, w10, w11, w12, w13, w14, w15]
theorem body_ok {ns : List Int} {k : Int} {w3 w4 w5 w6 w7 w8 w9 w10 w11 w12 w13 w14 w15 : Option V} (hS : SqL K H sa (ns.map V.int)) (hN : H nm = some (.lst (parts.map V.str))) (k0 : 0 ≤ k) (k1 : k ≤ 1000) (hk : ns ≠ [] → k.toNat < ns.length)
    (hD : ∀ (w3 w4 w5 w6 w7 w8 w9 w10 w11 w12 w13 w14 w15 : Option V) (H' : Hp), Same H H' → D.nx (s16 sa nm k w3 w4 w5 w6 w7 w8 w9 w10 w11 w12 w13 w14 w15) H') : tBody K C CB D (s16 sa nm k w3 w4 w5 w6 w7 w8 w9 w10 w11 w12 w13 w14 w15) H := by
  refine step_asg ?_
  refine ⟨_, rfl, _, rfl, sa, ns, k, 120, rfl, hS, k0, k1, hk, by decide, by decide, fun p qq zs H1 hp0 hq0 nq s1 hp hq => ?_⟩
  refine step_asg ?_
  refine menu1_ok hp fun mA m0 m1 m2 H2 s2 hA e0 e1 e2 n0 n1 n2 => ?_
  refine step_asg ?_
  refine menu2_ok (s2 _ _ hp) rfl hA e0 e1 e2 n0 n1 n2 fun mn H3 s3 hM => ?_
  have s13 := (s1.trans s2).trans s3
  have hp3 := s3 _ _ (s2 _ _ hp)
  have nN : nm ≠ p := ne_of_none hN hp0
  refine step_asg ?_
  refine good_ok rfl (s13 _ _ hN) nN ⟨0, by decide, hp3⟩ (s3 _ _ (s2 _ _ hq)) (Ne.symm nq) hM (fun _ _ => rfl) (fun _ _ => rfl) (fun _ _ => rfl) (fun _ _ => rfl) (fun _ _ => rfl) fun gd G H4 I4 ng dr hg => ?_
  refine step_asg ?_
  refine tMk_ok (d := gd) rfl hg dr.right (fun r hr => dr.ty hr) fun x1 v H5 hx1 hv s5 hw5 => ?_
  have I5 := I4.same s5
  refine step_asg ?_
  refine tMk0_ok (d := gd) rfl (s5 _ _ hg) dr.right (fun r hr => dr.ty hr) fun x2 v2 H6 hx2 hv2 s6 hw6 => ?_
  have I6 := I5.same s6
  have ev : v2 = v := asW_inj fun s hs => by rw [← hv2 s hs, hv s hs]
  subst ev
  have c : Ctx C p qq nm mn gd x1 zs G v2 H6 := ⟨I6.get nN (s13 _ _ hN), nN, I6.get (Ne.symm nq) (s3 _ _ (s2 _ _ hq)), Ne.symm nq, hM.up I6, s6 _ _ (s5 _ _ hg), ng, dr, let ⟨dx, h⟩ := hw5; ⟨dx, s6 _ _ h⟩, (I4.free hx1).2, hv⟩
  refine step_seq ?_
  refine if1_ok c rfl rfl rfl rfl hw6 (fun _ => rfl) (fun _ => rfl) (fun _ => rfl) fun H7 s7 => ?_
  have c7 := c.up (I6.here.same s7)
  have I7 := I6.same s7
  show tSeq (tAsg (tMk3 C CB) (gName 10)) (tSeq (tIf2 K C) (tSeq (tIf3 C) (tParts K C CB))) D _ H7
  refine step_asg ?_
  refine tMk3_ok (d := gd) rfl c7.hG dr.right (fun r hr => dr.ty hr) fun x3 v3 H8 hx3 hv3 s8 hw8 => ?_
  have I8 := I7.same s8
  have e3 : v3 = ⟨v2.ev, v2.de, v2.ca, "own", false⟩ := asW_inj fun s hs => by
    rw [← hv3 s hs]
    rcases parts_cases hs with rfl | rfl | rfl | rfl | rfl
    · exact hv "event" (by decide)
    · exact hv "deed" (by decide)
    · exact hv "call" (by decide)
    · rfl
    · rfl
  subst e3
  have c8 := c7.up (I7.here.same s8)
  refine step_seq ?_
  refine if2_ok c8 rfl rfl hw8 (fun _ => rfl) (fun _ => rfl) (fun _ => rfl) fun H9 s9 => ?_
  have I9 := I8.same s9
  have c9 := c8.up (I8.here.same s9)
  obtain ⟨dz, hz⟩ := hw8
  show tSeq (tIf3 C) (tParts K C CB) D _ H9
  refine step_seq ?_
  refine if3_ok c9 rfl rfl rfl ⟨dz, s9 _ _ hz⟩ ?_
  show tParts K C CB D _ H9
  refine parts_ok (sa := sa) c9 I9.here fun u5 u6 u11 u12 u13 u14 u15 H10 I10 => ?_
  refine hD _ _ _ _ _ _ _ _ _ _ _ _ _ H10 ?_
  exact Iv.same0 s13 hp0 (I9.trans I10)
end
end My

set_option Elab.async false
set_option linter.all false
set_option maxRecDepth 100000
set_option maxHeartbeats 8000000
namespace My
open PySem PySem.Spec PyProof.Rows L2
local macro_rules | `(tactic| walk_at "rd") => `(tactic| simp only [rd_seq, rd_next, rd_brk, rd_cont, rd_asg, rd_gname, rd_var, rd_c, rd_op, rd_un, rd_rI0, rd_rI, rd_rU, rd_test, rd_B, rd_and, rd_or, rd_not, rd_andV, rd_orV, rd_notV, rd_ifx, rd_ifs, rd_drop, rd_ret, rd_nil, rd_cons, rd_cb, rd_tup, rd_lst, rd_call, rd_bm, rd_app, rd_ixLst, rd_ixSq, rd_lenL, rd_lenSq, rd_setLst, rd_sub, rd_neNil, rd_isStr, rd_isW, rd_dg, rd_dp, rd_makeK, rd_mk, rd_sl, rd_noP, rd_part, rd_slL, rd_cat, rd_lcL, rd_lcE, rd_eqW, rd_neW, rd_repr,  L2.valV_put, rd_fldS, rd_eq, rd_ne, rd_fldE, rd_allB, rd_isBl, rd_inS, rd_chain, rd_chain', L2.wipe, Int.reduceToNat, Int.reduceLE, Int.reduceLT, Nat.reduceLT, Nat.reduceLeDiff, Int.reduceNeg, Int.toNat_natCast, Int.reduceAdd, L2.start, and_assoc, exists_and_left, List.map_cons, List.map_nil, List.length_cons, List.length_nil, List.cons_append, List.nil_append, List.append_nil, List.replicate_succ, List.replicate_zero, List.replicate, List.set_cons_zero, List.set_cons_succ, List.getElem?_cons_zero, List.getElem?_cons_succ, Option.some.injEq, exists_eq_left', exists_eq_left, exists_eq, V.int.injEq, V.ref.injEq, V.str.injEq, V.bl.injEq, HO.lst.injEq, HO.tup.injEq, ex_bl, List.cons.injEq, and_true, true_and, Nat.reduceAdd, Nat.reduceSub, reduceCtorEq, false_and, or_false, exists_false, false_or, decide_eq_true_eq, if_true, if_false, Bool.false_eq_true, Bool.not_true, Bool.not_false, upd_same])
local macro_rules | `(tactic| walk_at "rdh") => `(tactic| simp only [rd_seq, rd_next, rd_brk, rd_cont, rd_asg, rd_gname, rd_var, rd_c, rd_op, rd_un, rd_rI0, rd_rI, rd_rU, rd_test, rd_B, rd_and, rd_or, rd_not, rd_andV, rd_orV, rd_notV, rd_ifx, rd_ifs, rd_drop, rd_ret, rd_nil, rd_cons, rd_cb, rd_tup, rd_lst, rd_call, rd_bm, rd_app, rd_ixLst, rd_ixSq, rd_lenL, rd_lenSq, rd_setLst, rd_sub, rd_neNil, rd_isStr, rd_isW, rd_dg, rd_dp, rd_makeK, rd_mk, rd_sl, rd_noP, rd_part, rd_slL, rd_cat, rd_lcL, rd_lcE, rd_eqW, rd_neW, rd_repr,  L2.valV_put, rd_fldS, rd_eq, rd_ne, rd_fldE, rd_allB, rd_isBl, rd_inS, rd_chain, rd_chain', L2.wipe, Int.reduceToNat, Int.reduceLE, Int.reduceLT, Nat.reduceLT, Nat.reduceLeDiff, Int.reduceNeg, Int.toNat_natCast, Int.reduceAdd, L2.start, and_assoc, exists_and_left, List.map_cons, List.map_nil, List.length_cons, List.length_nil, List.cons_append, List.nil_append, List.append_nil, List.replicate_succ, List.replicate_zero, List.replicate, List.set_cons_zero, List.set_cons_succ, List.getElem?_cons_zero, List.getElem?_cons_succ, Option.some.injEq, exists_eq_left', exists_eq_left, exists_eq, V.int.injEq, V.ref.injEq, V.str.injEq, V.bl.injEq, HO.lst.injEq, HO.tup.injEq, ex_bl, List.cons.injEq, and_true, true_and, Nat.reduceAdd, Nat.reduceSub, reduceCtorEq, false_and, or_false, exists_false, false_or, decide_eq_true_eq, if_true, if_false, Bool.false_eq_true, Bool.not_true, Bool.not_false, upd_same, *])
def tTimes (KK : PySem.W.Frag) : TA := tCons (tCB (fun xs H Q => ∃ i j, xs = [V.int i, V.int j] ∧ Q (V.int (if j > i then j else i)) H) (tCons (tC (V.int 1)) (tCons (tCB (fun xs H Q => ∃ i j, xs = [V.int i, V.int j] ∧ Q (V.int (if j < i then j else i)) H) (tCons (tCB (rLenSq KK) (tCons (tVar 0) tNil)) (tCons (tC (V.int 4)) tNil))) tNil))) tNil

def tLaw (K : PySem.W.Frag) (C CB : Addr) : TS := tSeq (tAsg (tLst (tCons (tC (V.str ("event" : Str))) (tCons (tC (V.str ("deed" : Str))) (tCons (tC (V.str ("call" : Str))) (tCons (tC (V.str ("by" : Str))) (tCons (tC (V.str ("may" : Str))) tNil)))))) (gName 1))
  (tSeq (tFor (iRng1 (tTimes K)) (gName 2) (tBody K C CB)) (tRet (tC (V.bl true))))
abbrev s0 (sa nm : Addr) (w2 w3 w4 w5 w6 w7 w8 w9 w10 w11 w12 w13 w14 w15 : Option V) : L2.St := [some (.ref sa), some (.ref nm), w2, w3, w4, w5, w6, w7, w8, w9, w10, w11, w12, w13, w14, w15]
abbrev sLaw : Stmt := topI 18
abbrev NLaw : List Str := ["script", "names", "k", "pool", "menu", "at", "part", "good", "one", "other", "short", "value", "bent", "odd", "later", "name"]
theorem scLaw : FnScope NLaw ["script"] (defScope sLaw) := ⟨rfl, rfl, rfl, by decide +kernel, rfl, by decide +kernel, by decide +kernel⟩
def spLaw (K : PySem.W.Frag) : Sp := fun vs H Q _ => ∃ (a : Addr) (ns : List Int), vs = [.ref a] ∧ SqL K H a (ns.map V.int) ∧ ns.length ≤ 63 ∧ ∀ H', Q (.bl true) H'
/-- all that the law calls -/
structure Lw (P : Program) (w : World) (K : PySem.W.Frag) (mg : Str → Option Value) (base : Heap) (C : Addr) where
  B : Bn mg
  D_law_opened : Df K mg "_law_opened" sOpn ["script", "k", "many"]
  D_law_pick : Df K mg "_law_pick" sPck ["pool", "some"]
  D_law_told : Df K mg "_law_told" sTld ["one"]
  D_law_odds : Df K mg "_law_odds" sOdd ["part"]
  D_law_tried : Df K mg "_law_tried" sTry ["values"]
  G_law_opened : FnOk P w K mg base CX0 2 D_law_opened.f D_law_opened.fd ["script", "k", "many"] (spOpn K)
  G_law_pick : FnOk P w K mg base CX0 2 D_law_pick.f D_law_pick.fd ["pool", "some"] spPck
  G_law_told : FnOk P w K mg base CX0 1 D_law_told.f D_law_told.fd ["one"] (spTld C)
  G_law_odds : FnOk P w K mg base CX0 1 D_law_odds.f D_law_odds.fd ["part"] spOdd
  G_law_tried : FnOk P w K mg base CX0 5 D_law_tried.f D_law_tried.fd ["values"] spTry
  CB : Addr
  MW : WkM P w K mg base C CB
  bA : KBn K MW.fd psW 1 ["may", "by", "call", "event", "deed"] (fun us ws => gA us ws) (fun vs zs => gA vs zs)
  ds : List Value
  v0 : Vals [.str "own", .bl false] ds
  b0 : Binds K MW.fd psW ds
  WE : WkE P w K mg base C
section
variable {P : Program} {w : World} {K : PySem.W.Frag} {mg : Str → Option Value} {base : Heap}
theorem ok_law {f C : Addr} {fd : FuncData} (F : Fun K "law" "law" sLaw f fd) (L : Lw P w K mg base C) : AtTop P w K mg base f fd ["script"] (spLaw K) := by
  obtain ⟨B, D_law_opened, D_law_pick, D_law_told, D_law_odds, D_law_tried, G_law_opened, G_law_pick, G_law_told, G_law_odds, G_law_tried, CB, MW, bA, ds, v0, b0, WE⟩ := L
  refine top_ok (k := 5) F scLaw ⟨rfl, by decide, by decide⟩ (fun vs H Q E h => ?_) (fun cdv s H vs Q E hr h => ?_)
  · obtain ⟨a, ns, rfl, _⟩ := h
    rfl
  · obtain ⟨a, ns, rfl, hS, hn, q⟩ := h
    have hu64 := hr.units
    have hgu : (callerA.deeper (envOfC "law" (defScope sLaw) s.heap.objs.size f cdv)).guards = some [] := rfl
    have hr5 := hr
    have hr4 := hr.mono (by decide : 4 ≤ 5)
    have hr2 := hr.mono (by decide : 2 ≤ 5)
    have hr1 := hr.mono (by decide : 1 ≤ 5)
    have der : ∃ t, PSs (cxOf CX0 P w K mg base NLaw "law" (defScope sLaw) f cdv callerA [] s H E).nox (defBody sLaw) t ∧ t = tLaw K C CB := ⟨_, (pss_cons (ps_set (i := 1) scLaw.nd rfl (Or.inl rfl) (pe_lst (pa_cons pe_str (pa_cons pe_str (pa_cons pe_str (pa_cons pe_str (pa_cons pe_str pa_nil)))))))
      (pss_cons (ps_for PassesOwn.never rfl (pi_range1 (by rfl) B.range (pa_cons (pe_callB (call_max2 rfl) (by rfl) B.max (by decide +kernel) (pa_cons pe_int (pa_cons (pe_callB (call_min2 rfl) (by rfl) B.min (by decide +kernel) (pa_cons (pe_callB call_lenSq (by rfl) B.len (by decide +kernel) (pa_cons (pv 0) pa_nil)) (pa_cons pe_int pa_nil))) pa_nil))) pa_nil)) (pg_name (i := 2) scLaw.nd rfl (Or.inl rfl))
        (pss_cons (ps_set (i := 3) scLaw.nd rfl (Or.inr rfl) (pc D_law_opened G_law_opened hr2 (pa_cons (pv 0) (pa_cons (pv 2) (pa_cons pe_int pa_nil)))))
        (pss_cons (ps_set (i := 4) scLaw.nd rfl (Or.inr rfl) (pe_lst (pa_cons (pe_lst (pa_cons pe_str (pa_cons pe_str (pa_cons pe_str (pa_cons pe_str pa_nil))))) (pa_cons (pe_lst (pa_cons pe_str (pa_cons pe_str (pa_cons pe_str (pa_cons pe_str pa_nil))))) (pa_cons (pe_lst (pa_cons pe_str (pa_cons pe_str (pa_cons pe_str pa_nil)))) pa_nil)))))
        (pss_cons (ps_set (i := 4) scLaw.nd rfl (Or.inr rfl) (pe_op op_cat (pv 4) (pe_lst (pa_cons (pe_lst (pa_cons pe_str (pa_cons pe_str pa_nil))) (pa_cons (pe_lst (pa_cons pe_bl (pa_cons pe_bl pa_nil))) pa_nil)))))
        (pss_cons (ps_set (i := 7) scLaw.nd rfl (Or.inr rfl) (pe_callTy (call_dic rfl) (by rfl) B.dict (by decide +kernel) (pa_cons (pe_lc (own := [("at", 5), ("part", 6)]) (g := gTup K 2 (gCons (gName 5) (gCons (gName 6) gNil))) rfl scLaw.nd (pi_enum (by rfl) B.enumerate (pa_cons (pv 1) pa_nil)) (blkOk_by (own := [("at", 5), ("part", 6)]) (N := NLaw) (sc := defScope sLaw) (by decide +kernel)) (fun _ _ _ _ _ => by exact (pg_tup rfl (pgs_cons (pg_name (i := 5) scLaw.nd rfl (Or.inl rfl)) (pgs_cons (pg_name (i := 6) scLaw.nd rfl (Or.inl rfl)) pgs_nil)))) (fun _ _ _ _ _ => pts_nil) (fun _ _ _ _ _ => (pe_tup (pa_cons (pv 6) (pa_cons (pc D_law_pick G_law_pick hr2 (pa_cons (pv 3) (pa_cons (pe_ix ix_lst (pv 4) (pv 5) (fun _ _ => rfl)) pa_nil))) pa_nil))))) pa_nil)))
        (pss_cons (ps_set (i := 8) scLaw.nd rfl (Or.inl rfl) (pe_makeK (x := "Waking") (E := E0) MW.M MW.G hr4 rfl MW.g MW.b3 passL (pa_cons (pe_dg hu64 (pv 7) pe_str) (pa_cons (pe_dg hu64 (pv 7) pe_str) (pa_cons (pe_dg hu64 (pv 7) pe_str) pa_nil))) (pk_cons (pe_dg hu64 (pv 7) pe_str) (pk_cons (pe_dg hu64 (pv 7) pe_str) pk_nil))))
        (pss_cons (ps_set (i := 9) scLaw.nd rfl (Or.inl rfl) (pe_makeK0 (x := "Waking") (E := E0) MW.M MW.G hr4 rfl MW.g bA passL (pk_cons (pe_dg hu64 (pv 7) pe_str) (pk_cons (pe_dg hu64 (pv 7) pe_str) (pk_cons (pe_dg hu64 (pv 7) pe_str) (pk_cons (pe_dg hu64 (pv 7) pe_str) (pk_cons (pe_dg hu64 (pv 7) pe_str) pk_nil)))))))
        (pss_cons (ps_if (PW.pt (pw_or (pt_cmpR op_ne (pe_callB (call_repr hgu hu64) (by rfl) B.repr (by decide +kernel) (pa_cons (pc D_law_told G_law_told hr1 (pa_cons (pv 8) pa_nil)) pa_nil)) (pe_callB (call_repr hgu hu64) (by rfl) B.repr (by decide +kernel) (pa_cons (pe_lc (own := [("part", 6)]) (g := gName 6) rfl scLaw.nd (pi_list (pv 1)) (blkOk_by (own := [("part", 6)]) (N := NLaw) (sc := defScope sLaw) (by decide +kernel)) (fun _ _ _ _ _ => pg_name (i := 6) scLaw.nd rfl (Or.inl rfl)) (fun _ _ _ _ _ => pts_nil) (fun _ _ _ _ _ => (pe_dg hu64 (pv 7) (pv 6)))) pa_nil)) (nomark _)) (pw_or (pt_cmpR (op_neW WE hr2) (pv 8) (pv 9) (nomark _)) (pw_or1 (pt_cmpR (op_eqW WE hr1) (pv 8) (pe_dg hu64 (pv 7) pe_str) (nomark _))))))
          (pss_one (ps_ret pe_bl))
          pss_nil)
        (pss_cons (ps_set (i := 10) scLaw.nd rfl (Or.inl rfl) (pe_make (E := E0) MW.M MW.G hr4 rfl MW.g b0 v0 passL (pa_cons (pe_dg hu64 (pv 7) pe_str) (pa_cons (pe_dg hu64 (pv 7) pe_str) (pa_cons (pe_dg hu64 (pv 7) pe_str) pa_nil)))))
        (pss_cons (ps_if (pt_cmpR op_ne (pe_callB (call_repr hgu hu64) (by rfl) B.repr (by decide +kernel) (pa_cons (pc D_law_told G_law_told hr1 (pa_cons (pv 10) pa_nil)) pa_nil)) (pe_callB (call_repr hgu hu64) (by rfl) B.repr (by decide +kernel) (pa_cons (pe_op op_cat (pe_lc (own := [("part", 6)]) (g := gName 6) rfl scLaw.nd (pi_list (pe_slice sl_list (pv 1) po_none (po_some pe_int))) (blkOk_by (own := [("part", 6)]) (N := NLaw) (sc := defScope sLaw) (by decide +kernel)) (fun _ _ _ _ _ => pg_name (i := 6) scLaw.nd rfl (Or.inl rfl)) (fun _ _ _ _ _ => pts_nil) (fun _ _ _ _ _ => (pe_dg hu64 (pv 7) (pv 6)))) (pe_lst (pa_cons pe_str (pa_cons pe_bl pa_nil)))) pa_nil)) (nomark _))
          (pss_one (ps_ret pe_bl))
          pss_nil)
        (pss_cons (ps_if (pt_cmpR op_ne (pe_cmpR (op_eqW WE hr1) (pv 8) (pv 10) (nomark _)) (pe_and (pe_cmpR op_eq (pe_dg hu64 (pv 7) pe_str) pe_str (nomark _)) (pe_one (pe_not (pe_dg hu64 (pv 7) pe_str)))) (nomark _))
          (pss_one (ps_ret pe_bl))
          pss_nil)
        (pss_one (ps_for PassesOwn.never rfl (pi_enum (by rfl) B.enumerate (pa_cons (pv 1) pa_nil)) (pg_tup rfl (pgs_cons (pg_name (i := 5) scLaw.nd rfl (Or.inl rfl)) (pgs_cons (pg_name (i := 6) scLaw.nd rfl (Or.inr rfl)) pgs_nil)))
          (pss_cons (ps_for PassesOwn.never rfl (pi_list (pe_lc (own := [("value", 11)]) (g := gName 11) rfl scLaw.nd (pi_list (pe_ix ix_lst (pv 4) (pv 5) (fun _ _ => rfl))) (blkOk_by (own := [("value", 11)]) (N := NLaw) (sc := defScope sLaw) (by decide +kernel)) (fun _ _ _ _ _ => pg_name (i := 11) scLaw.nd rfl (Or.inl rfl)) (fun _ _ _ _ _ => pts_one (pt_cmpR op_ne (pv 11) (pe_dg hu64 (pv 7) (pv 6)) (nomark _))) (fun _ _ _ _ _ => (pv 11)))) (pg_name (i := 11) scLaw.nd rfl (Or.inl rfl))
            (pss_cons (ps_set (i := 12) scLaw.nd rfl (Or.inl rfl) (pe_callTy (call_dic rfl) (by rfl) B.dict (by decide +kernel) (pa_cons (pe_lc (own := [("name", 15)]) (g := gName 15) rfl scLaw.nd (pi_list (pv 1)) (blkOk_by (own := [("name", 15)]) (N := NLaw) (sc := defScope sLaw) (by decide +kernel)) (fun _ _ _ _ _ => pg_name (i := 15) scLaw.nd rfl (Or.inl rfl)) (fun _ _ _ _ _ => pts_nil) (fun _ _ _ _ _ => (pe_tup (pa_cons (pv 15) (pa_cons (pe_dg hu64 (pv 7) (pv 15)) pa_nil))))) pa_nil)))
            (pss_cons (ps_dp hu64 (pv 12) (pv 6) (pv 11) rfl)
            (pss_one (ps_if (pt_cmpR (op_eqW WE hr1) (pe_makeK (x := "Waking") (E := E0) MW.M MW.G hr4 rfl MW.g MW.b3 passL (pa_cons (pe_dg hu64 (pv 12) pe_str) (pa_cons (pe_dg hu64 (pv 12) pe_str) (pa_cons (pe_dg hu64 (pv 12) pe_str) pa_nil))) (pk_cons (pe_dg hu64 (pv 12) pe_str) (pk_cons (pe_dg hu64 (pv 12) pe_str) pk_nil))) (pv 8) (nomark _))
              (pss_one (ps_ret pe_bl))
              pss_nil)))))
          (pss_one (ps_for PassesOwn.never rfl (pi_list (pc D_law_odds G_law_odds hr1 (pa_cons (pv 6) pa_nil))) (pg_name (i := 13) scLaw.nd rfl (Or.inl rfl))
            (pss_cons (ps_set (i := 12) scLaw.nd rfl (Or.inl rfl) (pe_callTy (call_dic rfl) (by rfl) B.dict (by decide +kernel) (pa_cons (pe_lc (own := [("name", 15)]) (g := gName 15) rfl scLaw.nd (pi_list (pv 1)) (blkOk_by (own := [("name", 15)]) (N := NLaw) (sc := defScope sLaw) (by decide +kernel)) (fun _ _ _ _ _ => pg_name (i := 15) scLaw.nd rfl (Or.inl rfl)) (fun _ _ _ _ _ => pts_nil) (fun _ _ _ _ _ => (pe_tup (pa_cons (pv 15) (pa_cons (pe_dg hu64 (pv 7) (pv 15)) pa_nil))))) pa_nil)))
            (pss_cons (ps_dp hu64 (pv 12) (pv 6) (pv 13) rfl)
            (pss_cons (ps_if (pt_cmpR (op_neD hu64) (pc D_law_tried G_law_tried hr5 (pa_cons (pv 12) pa_nil)) (pe_lst (pa_cons (pv 6) (pa_cons pe_bl pa_nil))) (nomark _))
              (pss_one (ps_ret pe_bl))
              pss_nil)
            (pss_cons (ps_set (i := 14) scLaw.nd rfl (Or.inl rfl) (pc D_law_pick G_law_pick hr2 (pa_cons (pv 3) (pa_cons (pe_slice sl_list (pv 1) (po_some (pv 5)) po_none) pa_nil))))
            (pss_cons (ps_if (pt_cmpR op_ne (pv 14) (pv 6) (nomark _))
              (pss_one (ps_dp hu64 (pv 12) (pv 14) (pc D_law_pick G_law_pick hr2 (pa_cons (pv 3) (pa_cons (pc D_law_odds G_law_odds hr1 (pa_cons (pv 14) pa_nil)) pa_nil))) rfl))
              pss_nil)
            (pss_one (ps_if (pt_cmpR (op_neD hu64) (pc D_law_tried G_law_tried hr5 (pa_cons (pv 12) pa_nil)) (pe_lst (pa_cons (pv 6) (pa_cons pe_bl pa_nil))) (nomark _))
              (pss_one (ps_ret pe_bl))
              pss_nil)))))))))))))))))))))))
      (pss_one (ps_ret pe_bl)))), rfl⟩
    obtain ⟨t, hder, rfl⟩ := der
    refine ⟨_, hder, ?_⟩
    refine step_asg ?_
    refine ⟨sz (by show 5 ≤ 100000; decide), fun nm hnm => ?_⟩
    have hN : upd H nm (.lst (parts.map V.str)) nm = some (.lst (parts.map V.str)) := upd_same
    have hS1 : SqL K (upd H nm (.lst (parts.map V.str))) a (ns.map V.int) := Same.seq (My.Same.new (Same.refl H) hnm) hS
    have hL : ((ns.map V.int).length : Int) = (ns.length : Int) := by rw [List.length_map]
    generalize hL2 : ((ns.map V.int).length : Int) = len at hL
    show tSeq (tFor (iRng1 (tTimes K)) (gName 2) (tBody K C CB)) (tRet (tC (V.bl true))) _ (s0 a nm none none none none none none none none none none none none none none) (upd H nm (.lst (parts.map V.str)))
    generalize upd H nm (.lst (parts.map V.str)) = H1 at hN hS1 ⊢
    refine step_seq ?_
    refine for_r1 (m := if (if (4 : Int) < len then 4 else len) > 1 then (if (4 : Int) < len then 4 else len) else 1) ?_ (fun Q q => ?_) (fun i σ' H' => ∃ w2 w3 w4 w5 w6 w7 w8 w9 w10 w11 w12 w13 w14 w15 : Option V, σ' = s0 a nm w2 w3 w4 w5 w6 w7 w8 w9 w10 w11 w12 w13 w14 w15 ∧ Same H1 H')
      ⟨_, _, _, _, _, _, _, _, _, _, _, _, _, _, rfl, Same.refl H1⟩ ?_ ?_
    · split <;> split <;> omega
    · subst hL2
      exact ⟨_, rfl, a, rfl, _, hS1, _, 4, rfl, 1, _, rfl, q⟩
    · rintro i _ H' hi ⟨w2, w3, w4, w5, w6, w7, w8, w9, w10, w11, w12, w13, w14, w15, rfl, sm⟩
      refine body_ok (sa := a) (nm := nm) (k := (i : Int)) (sm.seq hS1) (sm _ _ hN) (Int.natCast_nonneg i) ?_ (fun hne => ?_) fun y3 y4 y5 y6 y7 y8 y9 y10 y11 y12 y13 y14 y15 H2 s2 => ⟨_, _, _, _, _, _, _, _, _, _, _, _, _, _, rfl, sm.trans s2⟩
      · split at hi <;> (try split at hi) <;> omega
      · have h1 : 0 < ns.length := List.length_pos_iff.mpr hne
        rw [Int.toNat_natCast]
        split at hi <;> (try split at hi) <;> omega
    · rintro _ H' ⟨_, _, _, _, _, _, _, _, _, _, _, _, _, _, rfl, _⟩
      exact q H'
end
end My

set_option Elab.async false
set_option linter.all false
set_option maxRecDepth 100000
set_option maxHeartbeats 4000000
namespace My
open PySem PySem.Spec PyProof.Rows L2
theorem kit_of {K : PySem.W.Frag} {t : Value} {A : Addr} {b : Bool} (h1 : PySem.W.isClsIn K A = true) (h2 : PySem.W.typeIn K (.ref A) = some (.type "type")) (h3 : PySem.W.subIn K t (.ref A) = some b) : PySem.W.kitCls K t (.ref A) = some b := by
  have e1 : (PySem.W.clsIn K A).isSome = true := h1
  unfold PySem.W.kitCls
  simp only [e1, h2, Bool.true_and]
  exact h3
theorem exm_of' {K : PySem.W.Frag} {A : Addr} (h0 : PySem.W.subIn K (.ref A) (.type "BaseException") = some true) (h : PySem.W.kitCls K (.ref A) (.ref A) = some true) : PySem.W.exmOne K (.ref A) (.ref A) = some true := by
  unfold PySem.W.exmOne
  rw [h0]
  exact h
def strB : List DictEntry → Bool
  | [] => true
  | e :: r => (match e.key with
    | .str _ _ => true
    | _ => false) && strB r
theorem strB_ok {l : List DictEntry} (h : strB l = true) : StrKeys l.toArray := by
  induction l with
  | nil => intro e he; simp at he
  | cons a r ih =>
    intro e he
    obtain ⟨h1, h2⟩ := Bool.and_eq_true_iff.mp (show ((match a.key with
      | .str _ _ => true
      | _ => false) && strB r) = true from h)
    rcases List.mem_cons.mp (show e ∈ a :: r by simpa using he) with rfl | hm
    · cases q : e.key <;> rw [q] at h1 <;> first | exact ⟨_, _, rfl⟩ | cases h1
    · exact ih h2 e (by simpa using hm)
/-- the facts of the module behind its top, and the law's promise from them -/
theorem all_mk {P : Program} {w : World} {K : PySem.W.Frag} {h : Heap} {mg : Str → Option Value} {fa : Addr} (X : K.In h) (G : h.Ns mainGlobals mg) (hfa : mg "law" = some (.ref fa))
    {C CB CP E0 Dk f_num f_opn f_drw f_pck f_odd f_tld f_try f_one f_wrd f_law f_bw f_wi f_we : Addr} {tkL t1 t2 t3 t4 tkB : Tok} {dE : Option Addr} {nE : Nat} {sE : Array (Option Value)} {oc_num oc_opn oc_drw oc_pck oc_odd oc_tld oc_try oc_one oc_wrd oc_law oc_bw oc_wi kV_num kV_opn kV_drw kV_pck kV_odd kV_tld kV_try kV_one kV_wrd kV_law kV_bw kV_we dc_num pm_num cd_num ct_num dc_opn pm_opn cd_opn ct_opn dc_drw pm_drw cd_drw ct_drw dc_pck pm_pck cd_pck ct_pck dc_odd pm_odd cd_odd ct_odd dc_tld pm_tld cd_tld ct_tld dc_try pm_try cd_try ct_try dc_one pm_one cd_one ct_one dc_wrd pm_wrd cd_wrd ct_wrd dc_law pm_law cd_law ct_law dc_bw pm_bw cd_bw ct_bw dc_wi pm_wi cd_wi ct_wi dc_we pm_we cd_we ct_we : Value} {od_num an_num od_opn an_opn od_drw an_drw od_pck an_pck od_odd an_odd od_tld an_tld od_try an_try od_one an_one od_wrd an_wrd od_law an_law od_bw an_bw od_wi an_wi od_we an_we : Option Addr} {sl_num sl_opn sl_drw sl_pck sl_odd sl_tld sl_try sl_one sl_wrd sl_law sl_bw sl_wi sl_we : Array (Option Value)} {bnm bq : Str} {bN : Addr} {bbs bbm : List Value} {bsn : List Str} {bsub : List Value} {bab : Bool} {bcol : Option Bool} {bdd : Option Addr} {bk0 bk1 bk2 bk3 bk5 : Option Value} {wnm wq : Str} {wN : Addr} {wbs : List Value} {whd : Bool} {wsn : List Str} {wsub : List Value} {wab : Bool} {wcol : Option Bool} {wdd : Option Addr} {wk0 wk1 wk2 wk3 wk5 : Option Value} {wid : String} {woN : Value} {wdN : Option Addr} {wes : Array DictEntry} {wep : Nat} {wsN : Array (Option Value)}
    (aW : PySem.W.nsIn K mainGlobals "Waking" = some (some (.ref C)))
    (aB : PySem.W.nsIn K mainGlobals "BadWaking" = some (some (.ref CB)))
    (aP : PySem.W.nsIn K mainGlobals "PileError" = some (some (.ref CP)))
    (aL : PySem.W.nsIn K mainGlobals "LETTERS" = some (some (.str letters tkL)))
    (aE : PySem.W.nsIn K mainGlobals "EVENTS" = some (some (.ref E0)))
    (lE : K.lookup E0 = some ⟨.type "tuple", dE, .seq #[.str "laid" t1, .str "done" t2, .str "struck" t3, .str "instead" t4] nE, sE⟩)
    (a_num : PySem.W.nsIn K mainGlobals "_law_numbers" = some (some (.ref f_num)))
    (l_num : K.lookup f_num = some ⟨oc_num, od_num, .func (PySem.W.fnOf "_law_numbers" "_law_numbers" (defArgs sNum) (defBody sNum) (defScope sNum) .none kV_num dc_num pm_num an_num cd_num ct_num), sl_num⟩)
    (c_num : PySem.W.codeIn K cd_num "_law_numbers" = true)
    (k_num : PySem.W.keepIn K (.ref f_num) = true)
    (a_opn : PySem.W.nsIn K mainGlobals "_law_opened" = some (some (.ref f_opn)))
    (l_opn : K.lookup f_opn = some ⟨oc_opn, od_opn, .func (PySem.W.fnOf "_law_opened" "_law_opened" (defArgs sOpn) (defBody sOpn) (defScope sOpn) .none kV_opn dc_opn pm_opn an_opn cd_opn ct_opn), sl_opn⟩)
    (c_opn : PySem.W.codeIn K cd_opn "_law_opened" = true)
    (k_opn : PySem.W.keepIn K (.ref f_opn) = true)
    (a_drw : PySem.W.nsIn K mainGlobals "_law_draw" = some (some (.ref f_drw)))
    (l_drw : K.lookup f_drw = some ⟨oc_drw, od_drw, .func (PySem.W.fnOf "_law_draw" "_law_draw" (defArgs sDrw) (defBody sDrw) (defScope sDrw) .none kV_drw dc_drw pm_drw an_drw cd_drw ct_drw), sl_drw⟩)
    (c_drw : PySem.W.codeIn K cd_drw "_law_draw" = true)
    (k_drw : PySem.W.keepIn K (.ref f_drw) = true)
    (a_pck : PySem.W.nsIn K mainGlobals "_law_pick" = some (some (.ref f_pck)))
    (l_pck : K.lookup f_pck = some ⟨oc_pck, od_pck, .func (PySem.W.fnOf "_law_pick" "_law_pick" (defArgs sPck) (defBody sPck) (defScope sPck) .none kV_pck dc_pck pm_pck an_pck cd_pck ct_pck), sl_pck⟩)
    (c_pck : PySem.W.codeIn K cd_pck "_law_pick" = true)
    (k_pck : PySem.W.keepIn K (.ref f_pck) = true)
    (a_odd : PySem.W.nsIn K mainGlobals "_law_odds" = some (some (.ref f_odd)))
    (l_odd : K.lookup f_odd = some ⟨oc_odd, od_odd, .func (PySem.W.fnOf "_law_odds" "_law_odds" (defArgs sOdd) (defBody sOdd) (defScope sOdd) .none kV_odd dc_odd pm_odd an_odd cd_odd ct_odd), sl_odd⟩)
    (c_odd : PySem.W.codeIn K cd_odd "_law_odds" = true)
    (k_odd : PySem.W.keepIn K (.ref f_odd) = true)
    (a_tld : PySem.W.nsIn K mainGlobals "_law_told" = some (some (.ref f_tld)))
    (l_tld : K.lookup f_tld = some ⟨oc_tld, od_tld, .func (PySem.W.fnOf "_law_told" "_law_told" (defArgs sTld) (defBody sTld) (defScope sTld) .none kV_tld dc_tld pm_tld an_tld cd_tld ct_tld), sl_tld⟩)
    (c_tld : PySem.W.codeIn K cd_tld "_law_told" = true)
    (k_tld : PySem.W.keepIn K (.ref f_tld) = true)
    (a_try : PySem.W.nsIn K mainGlobals "_law_tried" = some (some (.ref f_try)))
    (l_try : K.lookup f_try = some ⟨oc_try, od_try, .func (PySem.W.fnOf "_law_tried" "_law_tried" (defArgs sTry) (defBody sTry) (defScope sTry) .none kV_try dc_try pm_try an_try cd_try ct_try), sl_try⟩)
    (c_try : PySem.W.codeIn K cd_try "_law_tried" = true)
    (k_try : PySem.W.keepIn K (.ref f_try) = true)
    (a_one : PySem.W.nsIn K mainGlobals "is_one_of" = some (some (.ref f_one)))
    (l_one : K.lookup f_one = some ⟨oc_one, od_one, .func (PySem.W.fnOf "is_one_of" "is_one_of" (defArgs sOne) (defBody sOne) (defScope sOne) .none kV_one dc_one pm_one an_one cd_one ct_one), sl_one⟩)
    (c_one : PySem.W.codeIn K cd_one "is_one_of" = true)
    (k_one : PySem.W.keepIn K (.ref f_one) = true)
    (a_wrd : PySem.W.nsIn K mainGlobals "is_word" = some (some (.ref f_wrd)))
    (l_wrd : K.lookup f_wrd = some ⟨oc_wrd, od_wrd, .func (PySem.W.fnOf "is_word" "is_word" (defArgs sWrd) (defBody sWrd) (defScope sWrd) .none kV_wrd dc_wrd pm_wrd an_wrd cd_wrd ct_wrd), sl_wrd⟩)
    (c_wrd : PySem.W.codeIn K cd_wrd "is_word" = true)
    (k_wrd : PySem.W.keepIn K (.ref f_wrd) = true)
    (a_law : PySem.W.nsIn K mainGlobals "law" = some (some (.ref f_law)))
    (l_law : K.lookup f_law = some ⟨oc_law, od_law, .func (PySem.W.fnOf "law" "law" (defArgs sLaw) (defBody sLaw) (defScope sLaw) .none kV_law dc_law pm_law an_law cd_law ct_law), sl_law⟩)
    (c_law : PySem.W.codeIn K cd_law "law" = true)
    (k_law : PySem.W.keepIn K (.ref f_law) = true)
    (b_i : PySem.W.findIn K (.ref CB) "__init__" = some (some (.ref f_bw)))
    (b_t : PySem.W.typeIn K (.ref f_bw) = some (.type "function"))
    (l_bw : K.lookup f_bw = some ⟨oc_bw, od_bw, .func (PySem.W.fnOf "__init__" "BadWaking.__init__" (defArgs sBW) (defBody sBW) (defScope sBW) .none kV_bw dc_bw pm_bw an_bw cd_bw ct_bw), sl_bw⟩)
    (c_bw : PySem.W.codeIn K cd_bw "BadWaking.__init__" = true)
    (k_bw : PySem.W.keepIn K (.ref f_bw) = true)
    (b_x : K.lookup CB = some (excClassObj bnm bq CB bN bbs bbm true bsn bsub bab bcol bdd bk0 bk1 bk2 bk3 bk5 "ValueError.__new__"))
    (b_r : PySem.HandSPX.refsVE bbm = true)
    (b_sa : PySem.W.findIn K (.ref CB) "__setattr__" = some (some (.builtin "object.__setattr__")))
    (b_ex : PySem.W.subIn K (.ref CB) (.type "BaseException") = some true)
    (b_ty : PySem.W.typeIn K (.ref CB) = some (.type "type"))
    (b_k : PySem.W.keepIn K (.ref CB) = true)
    (b_no : PySem.W.findIn K (.ref CB) "part" = some none)
    (b_ga : PySem.W.findIn K (.ref CB) "__getattribute__" = some (some (.builtin "BaseException.__getattribute__")))
    (b_gg : PySem.W.findIn K (.ref CB) "__getattr__" = some none)
    (b_hd : PySem.W.hasDictIn K CB = true)
    (b_ic : PySem.W.isClsIn K CB = true)
    (b_ss : PySem.W.subIn K (.ref CB) (.ref CB) = some true)
    (p_ic : PySem.W.isClsIn K CP = true)
    (p_ty : PySem.W.typeIn K (.ref CP) = some (.type "type"))
    (p_s : PySem.W.subIn K (.ref CB) (.ref CP) = some true)
    (p_ne : CB ≠ CP)
    (w_mk : PySem.W.makesIn K C = true)
    (w_i : PySem.W.findIn K (.ref C) "__init__" = some (some (.ref f_wi)))
    (w_if : PySem.W.isFn K (.ref f_wi) = true)
    (w_k : PySem.W.keepIn K (.ref C) = true)
    (l_wi : K.lookup f_wi = some ⟨oc_wi, od_wi, .func (PySem.W.fnOf "__init__" "Waking.__init__" (defArgs sWI) (defBody sWI) (defScope sWI) .none (.ref Dk) dc_wi pm_wi an_wi cd_wi ct_wi), sl_wi⟩)
    (c_wi : PySem.W.codeIn K cd_wi "Waking.__init__" = true)
    (k_wi : PySem.W.keepIn K (.ref f_wi) = true)
    (d_by : PySem.W.nsIn K Dk "by" = some (some (.str "own" tkB)))
    (d_ma : PySem.W.nsIn K Dk "may" = some (some (.bool false)))
    (w_e : PySem.W.findIn K (.ref C) "__eq__" = some (some (.ref f_we)))
    (w_ef : PySem.W.isFn K (.ref f_we) = true)
    (l_we : K.lookup f_we = some ⟨.type "function", od_we, .func (PySem.W.fnOf "__eq__" "Waking.__eq__" (defArgs sWE) (defBody sWE) (defScope sWE) .none kV_we dc_we pm_we an_we cd_we ct_we), sl_we⟩)
    (c_we : PySem.W.codeIn K cd_we "Waking.__eq__" = true)
    (k_we : PySem.W.keepIn K (.ref f_we) = true)
    (w_pg : PySem.W.plainGet K C Str.empty = true)
    (w_hd : PySem.W.hasDictIn K C = true)
    (w_po : PySem.W.plainOver K C = true)
    (w_sa : PySem.W.findIn K (.ref C) "__setattr__" = some (some (.builtin "object.__setattr__")))
    (n_event : PySem.W.findIn K (.ref C) "event" = some none)
    (n_deed : PySem.W.findIn K (.ref C) "deed" = some none)
    (n_call : PySem.W.findIn K (.ref C) "call" = some none)
    (n_by : PySem.W.findIn K (.ref C) "by" = some none)
    (n_may : PySem.W.findIn K (.ref C) "may" = some none)
    (i_a : PySem.W.findIn K (.ref C) "__class__" = some (some (.builtin "object.__class__")))
    (i_n : PySem.W.specialIn K (.builtin "object.__class__") "__get__" = some (some (.builtin "getset_descriptor.__get__")))
    (i_t : PySem.W.takesIn K (.builtin "object.__class__") = some true)
    (i_m : PySem.W.mroIn K C (.type "object") = some true)
    (w_ic : PySem.W.isClsIn K C = true)
    (w_ty : PySem.W.typeIn K (.ref C) = some (.type "type"))
    (i_s : PySem.W.subIn K (.type "str") (.ref C) = some false)
    (w_nf : PySem.W.notFirst K C (.type "str") = true)
    (w_x : K.lookup C = some (excClassObj wnm wq C wN wbs [.type "object"] whd wsn wsub wab wcol wdd wk0 wk1 wk2 wk3 wk5 wid))
    (w_ns : K.lookup wN = some ⟨woN, wdN, .dict wes wep, wsN⟩)
    (w_sk : StrKeys wes)
    (w_ne : nsFind wes "__ne__" = none)
    (w_nq : nsFind wes "__eq__" = some (.ref f_we))
    (z_max : PySem.W.nsIn K mainGlobals "max" = some none)
    (z_min : PySem.W.nsIn K mainGlobals "min" = some none)
    (z_int : PySem.W.nsIn K mainGlobals "int" = some none)
    (z_str : PySem.W.nsIn K mainGlobals "str" = some none)
    (z_bool : PySem.W.nsIn K mainGlobals "bool" = some none)
    (z_len : PySem.W.nsIn K mainGlobals "len" = some none)
    (z_all : PySem.W.nsIn K mainGlobals "all" = some none)
    (z_range : PySem.W.nsIn K mainGlobals "range" = some none)
    (z_dict : PySem.W.nsIn K mainGlobals "dict" = some none)
    (z_enumerate : PySem.W.nsIn K mainGlobals "enumerate" = some none)
    (z_isinstance : PySem.W.nsIn K mainGlobals "isinstance" = some none)
    (z_repr : PySem.W.nsIn K mainGlobals "repr" = some none) :
    ∃ fd : FuncData, (∀ (s : Shared) (u : Value), BindsTo s fd ⟨[u], []⟩ [("script", u)]) ∧ ∀ base : Heap, K.In base → base.Ns mainGlobals mg → AtTop P w K mg base fa fd ["script"] (spLaw K) := by
  have ee := hfa.symm.trans (PySem.W.mg_of X G a_law)
  cases ee
  have B : Bn mg := ⟨PySem.W.mg_none_of X G z_max, PySem.W.mg_none_of X G z_min, PySem.W.mg_none_of X G z_int, PySem.W.mg_none_of X G z_str, PySem.W.mg_none_of X G z_bool, PySem.W.mg_none_of X G z_len, PySem.W.mg_none_of X G z_all, PySem.W.mg_none_of X G z_range, PySem.W.mg_none_of X G z_dict, PySem.W.mg_none_of X G z_enumerate, PySem.W.mg_none_of X G z_isinstance, PySem.W.mg_none_of X G z_repr⟩
  have gm := fun {n : Str} {v : Value} (e : PySem.W.nsIn K mainGlobals n = some (some v)) => PySem.W.mg_of X G e
  let D_num : Df K mg "_law_numbers" sNum ["cell", "salt", "many"] := ⟨f_num, _, fun_mk (st := sNum) l_num c_num k_num, gm a_num, Fun.binds (ps := ["cell", "salt", "many"]) (fun_mk (st := sNum) l_num c_num k_num) (fun _ _ _ _ _ _ us hl => match us, hl with | [_, _, _], _ => rfl)⟩
  let D_opn : Df K mg "_law_opened" sOpn ["script", "k", "many"] := ⟨f_opn, _, fun_mk (st := sOpn) l_opn c_opn k_opn, gm a_opn, Fun.binds (ps := ["script", "k", "many"]) (fun_mk (st := sOpn) l_opn c_opn k_opn) (fun _ _ _ _ _ _ us hl => match us, hl with | [_, _, _], _ => rfl)⟩
  let D_drw : Df K mg "_law_draw" sDrw ["pool", "many"] := ⟨f_drw, _, fun_mk (st := sDrw) l_drw c_drw k_drw, gm a_drw, Fun.binds (ps := ["pool", "many"]) (fun_mk (st := sDrw) l_drw c_drw k_drw) (fun _ _ _ _ _ _ us hl => match us, hl with | [_, _], _ => rfl)⟩
  let D_pck : Df K mg "_law_pick" sPck ["pool", "some"] := ⟨f_pck, _, fun_mk (st := sPck) l_pck c_pck k_pck, gm a_pck, Fun.binds (ps := ["pool", "some"]) (fun_mk (st := sPck) l_pck c_pck k_pck) (fun _ _ _ _ _ _ us hl => match us, hl with | [_, _], _ => rfl)⟩
  let D_odd : Df K mg "_law_odds" sOdd ["part"] := ⟨f_odd, _, fun_mk (st := sOdd) l_odd c_odd k_odd, gm a_odd, Fun.binds (ps := ["part"]) (fun_mk (st := sOdd) l_odd c_odd k_odd) (fun _ _ _ _ _ _ us hl => match us, hl with | [_], _ => rfl)⟩
  let D_tld : Df K mg "_law_told" sTld ["one"] := ⟨f_tld, _, fun_mk (st := sTld) l_tld c_tld k_tld, gm a_tld, Fun.binds (ps := ["one"]) (fun_mk (st := sTld) l_tld c_tld k_tld) (fun _ _ _ _ _ _ us hl => match us, hl with | [_], _ => rfl)⟩
  let D_try : Df K mg "_law_tried" sTry ["values"] := ⟨f_try, _, fun_mk (st := sTry) l_try c_try k_try, gm a_try, Fun.binds (ps := ["values"]) (fun_mk (st := sTry) l_try c_try k_try) (fun _ _ _ _ _ _ us hl => match us, hl with | [_], _ => rfl)⟩
  let D_one : Df K mg "is_one_of" sOne ["value", "words"] := ⟨f_one, _, fun_mk (st := sOne) l_one c_one k_one, gm a_one, Fun.binds (ps := ["value", "words"]) (fun_mk (st := sOne) l_one c_one k_one) (fun _ _ _ _ _ _ us hl => match us, hl with | [_, _], _ => rfl)⟩
  let D_wrd : Df K mg "is_word" sWrd ["value"] := ⟨f_wrd, _, fun_mk (st := sWrd) l_wrd c_wrd k_wrd, gm a_wrd, Fun.binds (ps := ["value"]) (fun_mk (st := sWrd) l_wrd c_wrd k_wrd) (fun _ _ _ _ _ _ us hl => match us, hl with | [_], _ => rfl)⟩
  let TB : Xc K mg "BadWaking" "part" "BadWaking.__init__" sBW := { C := CB, fI := f_bw, fd := _, oex := ⟨⟨_, _, _, _, _, _, _, _, _, _, _, _, _, _, _, b_x, b_r⟩, b_sa, b_ex, b_ty, b_k⟩, iC := b_i, tI := b_t, F := fun_mk (st := sBW) l_bw c_bw k_bw, b := Fun.binds (ps := ["self", "part"]) (fun_mk (st := sBW) l_bw c_bw k_bw) (fun _ _ _ _ _ _ us hl => match us, hl with | [_, _], _ => rfl), g := gm aB, no := b_no, xf := ⟨b_ga, b_gg, b_ex, b_hd⟩ }
  have FW : FunW K f_wi _ := ⟨⟨oc_wi, od_wi, .none, .ref Dk, dc_wi, pm_wi, an_wi, cd_wi, ct_wi, sl_wi, rfl, l_wi, c_wi, .inl ⟨rfl, rfl⟩, .inr ⟨Dk, rfl, fun q hq => by
    rcases List.mem_cons.mp hq with rfl | hq
    · exact ⟨_, d_by, ⟨_, rfl⟩⟩
    · rcases List.mem_cons.mp hq with rfl | hq
      · exact ⟨_, d_ma, rfl⟩
      · cases hq⟩⟩, k_wi⟩
  have TW : WkT K C := ⟨⟨w_pg, w_hd, w_po, w_sa⟩, n_event, n_deed, n_call, n_by, n_may⟩
  have kBB := kit_of b_ic b_ty b_ss
  have kCC : PySem.W.kitOne K (.ref C) (.ref C) = some true := by
    unfold PySem.W.kitOne
    rw [if_pos (by simp)]
  have kSC : PySem.W.kitOne K (.type "str") (.ref C) = some false := by
    unfold PySem.W.kitOne
    rw [if_neg (by simp)]
    exact kit_of w_ic w_ty i_s
  have TI : WkI K C := ⟨i_a, i_n, i_t, i_m, kSC, kCC⟩
  have hEv : ∀ H : Hp, SqT K H E0 (evs.map V.str) := fun H => .inr ⟨_, _, _, lE, rfl, rfl, by show 4 ≤ sizeLine; decide, .cons ⟨_, rfl⟩ (.cons ⟨_, rfl⟩ (.cons ⟨_, rfl⟩ (.cons ⟨_, rfl⟩ .nil)))⟩
  have FE := fun_mk (st := sWE) l_we c_we k_we
  have bE : L2.Binds K _ ["self", "other"] [] := FE.binds (ps := ["self", "other"]) (fun _ _ _ _ _ _ us hl => match us, hl with | [_, _], _ => rfl)
  obtain ⟨ds, v0, b0⟩ := b0W FW
  refine ⟨PySem.W.fnOf "law" "law" (defArgs sLaw) (defBody sLaw) (defScope sLaw) .none kV_law dc_law pm_law an_law cd_law ct_law, fun s v => .of_eq rfl, fun base _ _ => ?_⟩
  have G_num := ok_num (P := P) (w := w) (mg := mg) (base := base) D_num.F B
  have G_opn := ok_opn (P := P) (w := w) (base := base) D_opn.F B D_num G_num
  have G_drw := ok_drw (P := P) (w := w) (mg := mg) (base := base) D_drw.F B
  have G_pck := ok_pck (P := P) (w := w) (base := base) D_pck.F B D_drw G_drw
  have G_odd := ok_odd (P := P) (w := w) (mg := mg) (base := base) D_odd.F B
  have G_tld := ok_tld (P := P) (w := w) (mg := mg) (base := base) (C := C) D_tld.F TW
  have G_one := ok_one (P := P) (w := w) (mg := mg) (base := base) D_one.F B
  have G_wrd := ok_wrd (P := P) (w := w) (mg := mg) (base := base) D_wrd.F B (gm aL)
  have G_wi := ok_wi (P := P) (w := w) (base := base) FW B TW TB (gm aE) hEv D_one D_wrd G_one G_wrd
  let MW : WkM P w K mg base C TB.C := ⟨f_wi, _, G_wi, ⟨w_mk, w_i, w_if, w_k⟩, gm aW, _, b3W FW⟩
  have G_try := ok_try (P := P) (w := w) (base := base) D_try.F B TB MW (gm aP) p_ne (kit_of p_ic p_ty p_s) (exm_of' b_ex kBB)
  have G_we := ok_we (P := P) (w := w) (base := base) FE B TW TI (gm aW)
  let WE : WkE P w K mg base C := ⟨f_we, _, G_we, bE, w_e, w_ef, w_nf, ⟨_, _, _, _, _, _, _, _, _, _, _, _, _, _, _, _, _, _, _, _, _, _, _, _, _, w_x, w_ns, w_sk, w_nq, w_ne, l_we, rfl⟩⟩
  exact ok_law (fun_mk (st := sLaw) l_law c_law k_law) ⟨B, D_opn, D_pck, D_tld, D_odd, D_try, G_opn, G_pck, G_tld, G_odd, G_try, TB.C, MW, bAW FW, ds, v0, b0, WE⟩
end My

set_option Elab.async false
set_option linter.all false
open PySem PySem.W PyProof.Rows
set_option maxRecDepth 100000 in
set_option maxHeartbeats 0 in
theorem PySem.Challenge.cw_answerpiles_k04_wakings_told_holds : PySem.Challenge.rw_answerpiles_k04_wakings_told.Holds := by
  w_on; o_law; k_head; (case hw => w_witness2)
  k_fill
  refine My.top_walk (l := PySem.Challenge.rw_answerpiles_k04_wakings_told) (n := 63) (par := "script") (sp := My.spLaw) rfl (by decide) rfl (fun w h Y => PySem.W.kIn_of Y) ?F (fun K H a ns hl hS => ⟨a, ns, rfl, hS, hl, fun _ => rfl⟩)
  case F =>
    intro w mg fa h KX G hmg
    refine' My.all_mk KX G hmg ?aW ?aB ?aP ?aL ?aE ?lE ?a_num ?l_num ?c_num ?k_num ?a_opn ?l_opn ?c_opn ?k_opn ?a_drw ?l_drw ?c_drw ?k_drw ?a_pck ?l_pck ?c_pck ?k_pck ?a_odd ?l_odd ?c_odd ?k_odd ?a_tld ?l_tld ?c_tld ?k_tld ?a_try ?l_try ?c_try ?k_try ?a_one ?l_one ?c_one ?k_one ?a_wrd ?l_wrd ?c_wrd ?k_wrd ?a_law ?l_law ?c_law ?k_law ?b_i ?b_t ?l_bw ?c_bw ?k_bw ?b_x ?b_r ?b_sa ?b_ex ?b_ty ?b_k ?b_no ?b_ga ?b_gg ?b_hd ?b_ic ?b_ss ?p_ic ?p_ty ?p_s ?p_ne ?w_mk ?w_i ?w_if ?w_k ?l_wi ?c_wi ?k_wi ?d_by ?d_ma ?w_e ?w_ef ?l_we ?c_we ?k_we ?w_pg ?w_hd ?w_po ?w_sa ?n_event ?n_deed ?n_call ?n_by ?n_may ?i_a ?i_n ?i_t ?i_m ?w_ic ?w_ty ?i_s ?w_nf ?w_x ?w_ns ?w_sk ?w_ne ?w_nq ?z_max ?z_min ?z_int ?z_str ?z_bool ?z_len ?z_all ?z_range ?z_dict ?z_enumerate ?z_isinstance ?z_repr
    (case aW => k_is)
    (case aB => k_is)
    (case aP => k_is)
    (case aL => k_is)
    (case aE => k_is)
    (case lE => k_is)
    (case a_num => k_is)
    (case l_num => k_is)
    (case c_num => k_is)
    (case k_num => k_is)
    (case a_opn => k_is)
    (case l_opn => k_is)
    (case c_opn => k_is)
    (case k_opn => k_is)
    (case a_drw => k_is)
    (case l_drw => k_is)
    (case c_drw => k_is)
    (case k_drw => k_is)
    (case a_pck => k_is)
    (case l_pck => k_is)
    (case c_pck => k_is)
    (case k_pck => k_is)
    (case a_odd => k_is)
    (case l_odd => k_is)
    (case c_odd => k_is)
    (case k_odd => k_is)
    (case a_tld => k_is)
    (case l_tld => k_is)
    (case c_tld => k_is)
    (case k_tld => k_is)
    (case a_try => k_is)
    (case l_try => k_is)
    (case c_try => k_is)
    (case k_try => k_is)
    (case a_one => k_is)
    (case l_one => k_is)
    (case c_one => k_is)
    (case k_one => k_is)
    (case a_wrd => k_is)
    (case l_wrd => k_is)
    (case c_wrd => k_is)
    (case k_wrd => k_is)
    (case a_law => k_is)
    (case l_law => k_is)
    (case c_law => k_is)
    (case k_law => k_is)
    (case b_i => k_is)
    (case b_t => k_is)
    (case l_bw => k_is)
    (case c_bw => k_is)
    (case k_bw => k_is)
    (case b_x => k_is)
    (case b_r => first | decide +kernel | rfl | k_is)
    (case b_sa => k_is)
    (case b_ex => k_is)
    (case b_ty => k_is)
    (case b_k => k_is)
    (case b_no => k_is)
    (case b_ga => k_is)
    (case b_gg => k_is)
    (case b_hd => k_is)
    (case b_ic => k_is)
    (case b_ss => first | rfl | k_is)
    (case p_ic => k_is)
    (case p_ty => k_is)
    (case p_s => k_is)
    (case p_ne => decide +kernel)
    (case w_mk => k_is)
    (case w_i => k_is)
    (case w_if => k_is)
    (case w_k => k_is)
    (case l_wi => k_is)
    (case c_wi => k_is)
    (case k_wi => k_is)
    (case d_by => k_is)
    (case d_ma => k_is)
    (case w_e => k_is)
    (case w_ef => k_is)
    (case l_we => k_is)
    (case c_we => k_is)
    (case k_we => k_is)
    (case w_pg => k_is)
    (case w_hd => k_is)
    (case w_po => k_is)
    (case w_sa => k_is)
    (case n_event => k_is)
    (case n_deed => k_is)
    (case n_call => k_is)
    (case n_by => k_is)
    (case n_may => k_is)
    (case i_a => k_is)
    (case i_n => k_is)
    (case i_t => k_is)
    (case i_m => k_is)
    (case w_ic => k_is)
    (case w_ty => k_is)
    (case i_s => k_is)
    (case w_nf => k_is)
    (case w_x => k_is)
    (case w_ns => k_is)
    (case w_sk => exact My.strB_ok (by rfl))
    (case w_ne => first | rfl | decide +kernel)
    (case w_nq => first | rfl | decide +kernel)
    (case z_max => k_is)
    (case z_min => k_is)
    (case z_int => k_is)
    (case z_str => k_is)
    (case z_bool => k_is)
    (case z_len => k_is)
    (case z_all => k_is)
    (case z_range => k_is)
    (case z_dict => k_is)
    (case z_enumerate => k_is)
    (case z_isinstance => k_is)
    (case z_repr => k_is)
